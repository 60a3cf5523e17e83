/-
  A broker's rows lie . Conditions as told.
-/
import Derived.Test.YtmklifheakemeaaGreatLQ010
set_option maxRecDepth 100000
set_option maxHeartbeats 64000000
open _root_.Go renaming Value->aj,World->ay,Addr->aF,TypeId->aH
open Go.IntKind renaming i64->aB
open Go.Lib renaming hid->ak
open Go.Operand renaming tmp->U
open Go.RowKit.Below renaming refl->J,heap_setCell->au
open Go.Value renaming pointer->L,slice->V,int->aA
open _root_.List renaming getElem?_toArray->X,getElem?_cons_zero->Z,getElem?_cons_succ->ah,length_take->aD
open _root_.Option renaming some->O,none->Y
open _root_.Or renaming inr->aC,inl->aG
namespace Go.Proofs.YtmklifheakemeaaGreat
namespace Bk
open Go.RowKit Rw YtmklifheakemeaaGreat.Nm Pr
theorem vF {W:ay} {b:Nat} {cs:Array aj} {t:aH} (hb:dI W b cs t) {a:aF} {v:aj} (h:W.cell? a=O v) (e:a.block=b):cs[a.off]?=O v:=by
 unfold World.cell? at h;unfold dI at hb;rw [e,hb] at h;have h2:a.spot=Y/\cs[a.off]?=O v:=by simpa using h
 exact h2.2
theorem Jq {W W':ay} {b:Nat} (hk:∀ j,j<W.heap.size->j≠b->W'.heap[j]?=W.heap[j]?) {a:aF} {v:aj} (h:W.cell? a=O v) (e:a.block≠b):W'.cell? a=O v:=by
 have hlt:=World.block_lt_of_cell? W _ h;unfold World.cell? at h ⊢;rw [hk _ hlt e];exact h
theorem jD (a:aF) (j:Nat):(a.add j).block=a.block:=by unfold Addr.add; split <;> rfl
theorem iH {α:Type} {E:Ek α} (_K:E.Ok) {W W':ay} {b:Nat} {v:aj} {l:List α} (h:Row E W v l) (hk:∀ j,j<W.heap.size->j≠b->W'.heap[j]?=W.heap[j]?) (hno:∀ (a:aF) (c:α),(∀ j u,(E.cells c)[j]?=O u->W.cell? (a.add j)=O u)->a.block≠b):Row E W' v l:=by
 rcases h with h|⟨a,cap,h1,h2,h3,h4⟩
 ·exact aG h
 ·refine aC ⟨a,cap,h1,h2,h3,fun j u hj=>?_⟩;cases l with
  | nil=>simp [flat] at hj
  | cons c r =>
   have hne:a.block≠b:=hno a c fun j u hj=>h4 j u (by
    rw [flat,List.getElem?_append_left (by exact (List.getElem?_eq_some_iff.1 hj).1)];exact hj)
   exact Jq hk (h4 j u hj) (by rw [jD]; exact hne)
theorem kQ {α:Type} {E:Ek α} {W:ay} {b:Nat} {cs:Array aj} {t:aH} (hb:dI W b cs t) (hE:∀ c:α,∃ i j:Int,(E.cells c)[0]?=O (aA aB i)/\(E.cells c)[1]?=O (aA aB j)) (hcs:∀ (k:Nat) (i j:Int),cs[k]?=O (aA aB i)->cs[k+1]?=O (aA aB j)->False) (a:aF) (c:α) (h:∀ j u,(E.cells c)[j]?=O u->W.cell? (a.add j)=O u):a.block≠b:=fun e=>by
 obtain⟨i,j,h0,h1⟩:=hE c;have c0:=vF hb (h 0 _ h0) (by rw [jD]; exact e);have c1:=vF hb (h 1 _ h1) (by rw [jD]; exact e);have o0:(a.add 0).off=a.off:=by rw [Addr.add_zero']
 have o1:(a.add 1).off=a.off+1:=by rw [add_pos _ _ (by decide)]
 rw [o0] at c0;rw [o1] at c1;exact hcs a.off i j c0 c1
theorem oV {W:ay} {b:Nat} {cs:Array aj} {t:aH} (hb:dI W b cs t) (hcs:∀ (k:Nat) (s:ByteArray),cs[k]?≠O (.string s)) (a:aF) (c:C5) (h:∀ j u,(EC.cells c)[j]?=O u->W.cell? (a.add j)=O u):a.block≠b:=fun e=>by
 have c0:=vF hb (h 0 _ rfl) (by rw [jD]; exact e);exact hcs _ _ c0
theorem lW (me:Int) (s1 s2 s3 s4 s5:Sl):∀ (k:Nat) (i j:Int),(jl me s1 s2 s3 s4 s5)[k]?=O (aA aB i)->(jl me s1 s2 s3 s4 s5)[k+1]?=O (aA aB j)->False:=by
 intro k i j h1 h2
 match k with
 | 0=>simp at h2
 | 1=>simp at h1
 | 2=>simp at h1
 | 3=>simp at h1
 | 4=>simp at h1
 | 5=>simp at h1
 | k+6=>simp at h1
theorem oW (me:Int) (s1 s2 s3 s4 s5:Sl):∀ (k:Nat) (s:ByteArray),(jl me s1 s2 s3 s4 s5)[k]?≠O (.string s):=by
 intro k s h
 match k with
 | 0=>simp at h
 | 1=>simp at h
 | 2=>simp at h
 | 3=>simp at h
 | 4=>simp at h
 | 5=>simp at h
 | k+6=>simp at h
theorem mJ {W W':ay} {k:Nat} {me:Int} {s1 s2 s3 s4 s5:Sl} {b:Br} {nv av sv ev ov:Sl} (h:lS W b nv av sv ev ov) (hb:dI W k (jl me s1 s2 s3 s4 s5) 28) (hk:∀ j,j<W.heap.size->j≠k->W'.heap[j]?=W.heap[j]?) (hn:uW W' (dO nv) b.near):lS W' b nv av sv ev ov where
 near:=hn
 dV:=by
  obtain⟨l,h1,h2⟩:=h.dV;exact⟨l,iH okD h1 hk (kQ hb (fun c=>⟨_,_,rfl,rfl⟩) (lW me s1 s2 s3 s4 s5)),h2.mono fun x a hx=>⟨hx.1,hx.2.1,iH p9 hx.2.2 hk (oV hb (oW me s1 s2 s3 s4 s5))⟩⟩
 seen:=iH DI h.seen hk (kQ hb (fun c=>⟨_,_,rfl,rfl⟩) (lW me s1 s2 s3 s4 s5))
 ent:=by
  obtain⟨l,h1,h2⟩:=h.ent;exact⟨l,iH nH h1 hk (kQ hb (fun c=>⟨_,_,rfl,rfl⟩) (lW me s1 s2 s3 s4 s5)),h2.mono fun x a hx=>⟨hx.1,hx.2.1,hx.2.2.1,hx.2.2.2.1,iH p9 hx.2.2.2.2 hk (oV hb (oW me s1 s2 s3 s4 s5))⟩⟩
 own:=by
  obtain⟨l,h1,h2⟩:=h.own;exact⟨l,iH okW h1 hk (kQ hb (fun c=>⟨_,_,rfl,rfl⟩) (lW me s1 s2 s3 s4 s5)),h2.mono fun x a hx=>⟨hx.1,iH p9 hx.2 hk (oV hb (oW me s1 s2 s3 s4 s5))⟩⟩
end Bk
namespace Bk
open Go.RowKit Go.Sort Rw YtmklifheakemeaaGreat.Nm Pr
theorem nJ {W:ay} {b:Nat} {z0 z1 z2 z3 z4 z5:aj} (h:dI W b #[z0,z1,z2,z3,z4,z5] 28) (me:Int) (o1 o2 o3 o4 o5:Option aF) (n1 c1 n2 c2 n3 c3 n4 c4 n5 c5:Nat) :
  (Instr.storeAt 28 (L (O ⟨b,0,Y⟩)) (.agg #[aA aB me,V o1 n1 c1,V o2 n2 c2,V o3 n3 c3,V o4 n4 c4,V o5 n5 c5])).run Tryz.prog W=.ok () (iF W b (aA aB me) (V o1 n1 c1) (V o2 n2 c2) (V o3 n3 c3) (V o4 n4 c4) (V o5 n5 c5)):=by
 obtain⟨x0,x1,x2,x3,x4,x5⟩:=h.gP;obtain⟨f0,f1,f2,f3,f4,f5⟩:=h.pO;simp [go_sem,x0,x1,x2,x3,x4,x5,f0,f1,f2,f3,f4,f5]
theorem vG {W:ay} {b:Nat} {z0 z1 z2 z3 z4 z5:aj} (h:dI W b #[z0,z1,z2,z3,z4,z5] 28):(Instr.loadAt 28 (L (O ⟨b,0,Y⟩))).run Tryz.prog W=.ok (.agg #[z0,z1,z2,z3,z4,z5]) W:=by
 obtain⟨x0,x1,x2,x3,x4,x5⟩:=h.gP;simp [go_sem,x0,x1,x2,x3,x4,x5]
theorem oZ {P:Program} (ρ:Operand->aj) (o:Oper) (x y z:Operand) (t s r:aH) (f:FuncId) (ho:o.op=.call { callee:=.value (.func f),args:=#[x,y,z],argTypes:=#[t,s,r] }) {v u q:aj} (hx:ρ x=v) (hy:ρ y=u) (hz:ρ z=q) (hf:ρ (.func f)=.func (.func f) #[] #[]) (w:ay)
  (hc:(callFunc f #[v,u,q]).run P w=.ok (.enter f #[v,u,q]) w):(execOp ρ o).run P w=.ok (.enter f #[v,u,q]) w:=by
 simp [execOp,ho,resolve,invoke,hx,hy,hz,hf,Deferred.ofValue,hc]
theorem XD {W:ay} {b:Nat} {c d:Int} (h:dI W b #[aA aB c,aA aB d] 31):∀ j u,(jP (c,d))[j]?=O u->W.cell? ((⟨b,0,Y⟩:aF).add j)=O u:=by
 intro j u hj;rw [nC,h.cell]
 match j with
 | 0=>exact hj
 | 1=>exact hj
 | j+2=>simp at hj
def Gi (B b2 _:Nat) (so:Option aF) (sn sc at_:Nat) (lo hiv:aj) (z:gW) (lt ld:List gW) (i:Nat) (v:aj) (x:ay):Prop :=
 match i with
 | 0=>∃ g,v=V (O ⟨g,0,Y⟩) 0 0/\B<=g/\dI x g #[] 66
 | 1=>v=L (O ⟨b2,4,Y⟩)
 | 2=>v=V so sn sc
 | 3=>v=aA aB (at_:Int)
 | 4=>v=lo
 | 5=>jZ x B v lt
 | 6=>v=nY z
 | 7=>jZ x B v [z]
 | 8=>jZ x B v (lt++[z])
 | 9=>v=L (O ⟨b2,4,Y⟩)
 | 10=>v=V so sn sc
 | 11=>v=aA aB (at_:Int)
 | 12=>v=hiv
 | 13=>jZ x B v (lt++[z]++ld)
 | 14=>v=L (O ⟨b2,4,Y⟩)
 | _=>True
noncomputable def RN:Code:=((Tryz.f47.body.bind (eT 8)).getD .skip)
theorem Lb (B b2 b3:Nat) (so:Option aF) (sn sc at_:Nat) (lo hiv:aj) (z:gW) (lt ld:List gW) (i:Nat) (v:aj) (x x':ay) (h:Gi B b2 b3 so sn sc at_ lo hiv z lt ld i v x) (hb:Below x.heap.size x x'):Gi B b2 b3 so sn sc at_ lo hiv z lt ld i v x':=by
 by_cases hi:i<15
 ·rcases (by omega:i=0\/i=1\/i=2\/i=3\/i=4\/i=5\/i=6\/i=7\/i=8\/i=9\/i=10\/i=11\/i=12\/i=13\/i=14) with rfl|rfl|rfl|rfl|rfl|rfl|rfl|rfl|rfl|rfl|rfl|rfl|rfl|rfl|rfl
  ·obtain⟨g,h1,h2,h3⟩:=h;exact⟨g,h1,h2,h3.on hb⟩
  ·exact h
  ·exact h
  ·exact h
  ·exact h
  ·exact dJ h hb
  ·exact h
  ·exact dJ h hb
  ·exact dJ h hb
  ·exact h
  ·exact h
  ·exact h
  ·exact h
  ·exact dJ h hb
  ·exact h
 ·unfold Gi
  split <;> first | omega | trivial
theorem Jr (Q:Exit->Act->ay->Prop) (W:ay) (b2 b3:Nat) (me:Int) (y1 y2 y3 y5:aj) (so:Option aF) (sn sc at_:Nat) (l:List gW) (z:gW) (u0 u1 u4 u5 u6 u8 u9 u10 u11 u12 u13 u14 u15 u16 u17 u18 u19 u20 u21 u22 u23 u24 u25 u26 u27 u28 u29 u30 u31 u32 u33 u34 u35 u36 u37 u38 u39 u40 u41 u42 u43 u44 u45 u46 u47 u48 u49 u50 u51 u52 u53 u54 u55 u56 u57 u58 u59 u60 u61 u62 u63 u64 u65 u66 u67 u68 u69 u70 u71 u72 u73 u74 u75 u76 u77 u78 u79 u80 u81 u82 u83 u84 u85 u86 u87 u88 u89 u90 u91 u92 u93 u94 u95 u96 u97 u98 u99 u100 u101 u102 u103 u104 u105 u106 u107 u108 u109 u110 u111 u112 u113 u114:aj)
  (h2:dI W b2 #[aA aB me,y1,y2,y3,V so sn sc,y5] 28) (hx:∀ x,Below W.heap.size W x->∀ j u,(gX z)[j]?=O u->x.cell? ((⟨b3,0,Y⟩:aF).add j)=O u) (hs:kr W (V so sn sc) l) (hat:at_<=l.length) (hlen:l.length<=900)
  (hQ:∀ (x:ay) (v97 v98 v99 v100 v101 v102 v103 v104 v105 v106 v107 v108 v109 v110 v111:aj),dI x b2 #[aA aB me,y1,y2,y3,v110,y5] 28->jZ x W.heap.size v110 (l.take at_++[z]++l.drop at_)->(∀ B,B<=b2->Below B W x)->(∀ c cs t,c≠b2->dI W c cs t->dI x c cs t)->(∀ k,k<W.heap.size->k≠b2->x.heap[k]?=W.heap[k]?)->Q .normal ⟨(u0::u1::L (O ⟨b2,0,Y⟩)::L (O ⟨b3,0,Y⟩)::u4::u5::u6::aA aB (at_:Int)::u8::u9::u10::u11::u12::u13::u14::u15::u16::u17::u18::u19::u20::u21::u22::u23::u24::u25::u26::u27::u28::u29::u30::u31::u32::u33::u34::u35::u36::u37::u38::u39::u40::u41::u42::u43::u44::u45::u46::u47::u48::u49::u50::u51::u52::u53::u54::u55::u56::u57::u58::u59::u60::u61::u62::u63::u64::u65::u66::u67::u68::u69::u70::u71::u72::u73::u74::u75::u76::u77::u78::u79::u80::u81::u82::u83::u84::u85::u86::u87::u88::u89::u90::u91::u92::u93::u94::u95::u96::v97::v98::v99::v100::v101::v102::v103::v104::v105::v106::v107::v108::v109::v110::v111::u112::u113::u114::[]).toArray,[]⟩ x) :
  Code.wp Tryz.prog RN Q ⟨(u0::u1::L (O ⟨b2,0,Y⟩)::L (O ⟨b3,0,Y⟩)::u4::u5::u6::aA aB (at_:Int)::u8::u9::u10::u11::u12::u13::u14::u15::u16::u17::u18::u19::u20::u21::u22::u23::u24::u25::u26::u27::u28::u29::u30::u31::u32::u33::u34::u35::u36::u37::u38::u39::u40::u41::u42::u43::u44::u45::u46::u47::u48::u49::u50::u51::u52::u53::u54::u55::u56::u57::u58::u59::u60::u61::u62::u63::u64::u65::u66::u67::u68::u69::u70::u71::u72::u73::u74::u75::u76::u77::u78::u79::u80::u81::u82::u83::u84::u85::u86::u87::u88::u89::u90::u91::u92::u93::u94::u95::u96::u97::u98::u99::u100::u101::u102::u103::u104::u105::u106::u107::u108::u109::u110::u111::u112::u113::u114::[]).toArray,[]⟩ W:=by
 have HQ:=ak hQ;have H2:=ak h2;have LX:=ak hx;obtain⟨lo,Qx,Ej⟩:=DN nH hs at_ (by omega);obtain⟨hiv,Qy,El⟩:=rU nH hs (at_) hat;have LT:=ak (show (l.take at_).length<=1000 by rw [aD]; omega);have LTD:=ak (show (l.take at_).length<=900 by rw [aD]; omega);have LD:=ak (show (l.drop (at_)).length<=1000 by rw [List.length_drop]; omega);generalize l.take at_=lt at *;generalize l.drop (at_)=ld at *;have SL:=ak Qx;have SH:=ak Qy;have RL:=ak Ej;have RH:=ak El;clear hQ h2 hx hs Qx Qy Ej El hat hlen;have jG:=Lb W.heap.size b2 b3 so sn sc at_ lo hiv z lt ld;unfold RN
 conv=>arg 2; whnf
 have nd:∀ j,(j<97\/112<=j)->∀ i,i<15->(fun i=>97+i) i≠j:=by
  intro j hj i hi h;simp only at h;omega
 refine Rg.gN 16 15 (fun i=>97+i) (fun i=>if i=0 then 5 else if i=5 then 8 else if i=7 then 8 else if i=8 then 13 else 15) (Gi W.heap.size b2 b3 so sn sc at_ lo hiv z lt ld) (by kernel_rfl) (by kernel_rfl) rfl (by decide) (fun i j _ _ h=>by have h2:97+i=97+j:=h; omega) (fun i hi=>by show 97+i<115; omega) ?_ (fun _=>Rg.jN 1 (by kernel_rfl)) (fun kk o h1 h2=>by omega) ?_
 ·intro i o hi ho a x D hnd hc hD hb seen K hK;clear HQ;rcases (by omega:i=0\/i=1\/i=2\/i=3\/i=4\/i=5\/i=6\/i=7\/i=8\/i=9\/i=10\/i=11\/i=12\/i=13\/i=14) with rfl|rfl|rfl|rfl|rfl|rfl|rfl|rfl|rfl|rfl|rfl|rfl|rfl|rfl|rfl
  ·cases ho;exact Rg.dF rfl rfl (Rg.mH a.eval _ 25 0 #[] rfl rfl (by simp [go_sem])) (hK (V (O ⟨x.heap.size,0,Y⟩) 0 0) (x.alloc (.cells #[] 66)) ⟨x.heap.size,rfl,hb.size,dL x #[] 66⟩ ((J _ _).alloc hb.size _) fun j u _ _ _ _ _ h=>jG j u _ _ h ((J _ _).alloc (Nat.le_refl _) _))
  ·cases ho;have e2:a.eval (U 2)=L (O ⟨b2,0,Y⟩):=seen.kp 2 _ (nd 2 (by omega)) rfl;exact Rg.dF rfl rfl (Rg.eP a.eval _ 28 (U 2) 4 rfl (by rw [e2]; simp [go_sem])) (hK _ _ rfl (J _ _) fun _ _ _ _ _ _ _ h=>h)
  ·cases ho;have e98:a.eval (U 98)=L (O ⟨b2,4,Y⟩):=seen.at_ ⟨1,.data⟩ (by simp) rfl (aC (by decide));have y:=(H2.out.on hb).cell 4;simp only [X,Z,ah] at y;exact Rg.dF rfl rfl (Rg.eu a.eval _ 25 (U 98) rfl (by rw [e98]; simp [go_sem,y])) (hK _ _ rfl (J _ _) fun _ _ _ _ _ _ _ h=>h)
  ·cases ho;have e7:a.eval (U 7)=aA aB (at_:Int):=seen.kp 7 _ (nd 7 (by omega)) rfl;exact Rg.dF rfl rfl (Rg.fM a.eval _ (U 7) rfl x) (hK _ _ e7 (J _ _) fun _ _ _ _ _ _ _ h=>h)
  ·cases ho;have e99:a.eval (U 99)=V so sn sc:=seen.at_ ⟨2,.data⟩ (by simp) rfl (aC (by decide));have e100:a.eval (U 100)=aA aB (at_:Int):=seen.at_ ⟨3,.data⟩ (by simp) rfl (aC (by decide));exact Rg.dF rfl rfl (Rg.qG a.eval _ 25 (U 99) Y (O (U 100)) Y rfl (by show (Instr.sliceAt 25 (a.eval (U 99)) Y (O (a.eval (U 100))) Y).run Tryz.prog x=.ok lo x; rw [e99,e100]; exact SL.out x)) (hK _ _ rfl (J _ _) fun _ _ _ _ _ _ _ h=>h)
  ·cases ho;obtain⟨g,q0,hBg,hbx⟩:=seen.at_ ⟨0,.data⟩ (by simp) rfl (aG rfl);have q0:a.eval (U 97)=V (O ⟨g,0,Y⟩) 0 0:=q0;have e101:a.eval (U 101)=lo:=seen.at_ ⟨4,.data⟩ (by simp) rfl (aC (by decide));obtain⟨v',x',r,o',gr⟩:=jW nH W.heap.size hbx hBg (RL.out.on hb) LT.out 25;exact Rg.dF rfl rfl (Rg.jB a.eval _ (U 97) (U 101) 25 rfl q0 e101 r) (hK v' x' o' (gr.mono hb.size) fun j u _ _ _ _ _ h=>jG j u _ _ h gr)
  ·cases ho;have e3:a.eval (U 3)=L (O ⟨b3,0,Y⟩):=seen.kp 3 _ (nd 3 (by omega)) rfl;exact Rg.dF rfl rfl (Rg.eu a.eval _ 66 (U 3) rfl (by rw [e3]; exact RI x _ z (LX.out x hb))) (hK _ _ rfl (J _ _) fun _ _ _ _ _ _ _ h=>h)
  ·cases ho;have e103:a.eval (U 103)=nY z:=seen.at_ ⟨6,.data⟩ (by simp) rfl (aC (by decide));have hl:=kK nH x [z] 1 rfl (by simp) (gX z).toArray (by simp [flat,EN]);have hl:jZ (x.alloc (.cells (gX z).toArray 66)) x.heap.size (V (O ⟨x.heap.size,0,Y⟩) 1 1) [z]:=hl;exact Rg.dF rfl rfl (Rg.mH a.eval _ 25 1 #[(0,U 103)] rfl (ps:=#[(0,nY z)]) (by simp [e103]) (by simp [go_sem])) (hK (V (O ⟨x.heap.size,0,Y⟩) 1 1) (x.alloc (.cells (gX z).toArray 66)) (dK hl hb.size) ((J _ _).alloc hb.size _) fun j u _ _ _ _ _ h=>jG j u _ _ h ((J _ _).alloc (Nat.le_refl _) _))
  ·cases ho;have o102:jZ x W.heap.size (a.eval (U 102)) (lt):=seen.at_ ⟨5,.data⟩ (by simp) rfl (aG rfl);have o104:jZ x W.heap.size (a.eval (U 104)) ([z]):=seen.at_ ⟨7,.data⟩ (by simp) rfl (aG rfl);have ox:=Row.dG o104;obtain⟨v',x',r,o',gr⟩:=ji nH W.heap.size o102 ox (by have:=LT.out; omega) (by simp) hb.size 25;exact Rg.dF rfl rfl (Rg.jB a.eval _ (U 102) (U 104) 25 rfl rfl rfl r) (hK v' x' o' ((J _ x).grown gr hb.size fun j hj=>(o102.lt j hj).1) fun j u hj dj nl nx ni h=>by
    rcases (by omega:j=0\/j=1\/j=2\/j=3\/j=4\/j=5\/j=6\/j=7\/j=8\/j=9\/j=10\/j=11\/j=12\/j=13\/j=14) with rfl|rfl|rfl|rfl|rfl|rfl|rfl|rfl|rfl|rfl|rfl|rfl|rfl|rfl|rfl
    ·exact absurd rfl (fun _:(0:Nat)=0=>nl (hc 5 _ (hD ⟨5,.data⟩ (by simp) rfl) rfl ⟨0,.data⟩ (by simp) rfl |> fun _=>hD ⟨5,.data⟩ (by simp) rfl))
    ·exact h
    ·exact h
    ·exact h
    ·exact h
    ·exact absurd rfl (fun _:(0:Nat)=0=>nx rfl)
    ·exact h
    ·exact absurd rfl (fun _:(0:Nat)=0=>nx rfl)
    ·exact absurd rfl (fun _:(0:Nat)=0=>ni rfl)
    ·exact h
    ·exact h
    ·exact h
    ·exact h
    ·exact absurd rfl (fun _:(0:Nat)=0=>hnd (hc 13 _ dj rfl ⟨8,.data⟩ (by simp) rfl))
    ·exact h)
  ·cases ho;have e2:a.eval (U 2)=L (O ⟨b2,0,Y⟩):=seen.kp 2 _ (nd 2 (by omega)) rfl;exact Rg.dF rfl rfl (Rg.eP a.eval _ 28 (U 2) 4 rfl (by rw [e2]; simp [go_sem])) (hK _ _ rfl (J _ _) fun _ _ _ _ _ _ _ h=>h)
  ·cases ho;have e106:a.eval (U 106)=L (O ⟨b2,4,Y⟩):=seen.at_ ⟨9,.data⟩ (by simp) rfl (aC (by decide));have y:=(H2.out.on hb).cell 4;simp only [X,Z,ah] at y;exact Rg.dF rfl rfl (Rg.eu a.eval _ 25 (U 106) rfl (by rw [e106]; simp [go_sem,y])) (hK _ _ rfl (J _ _) fun _ _ _ _ _ _ _ h=>h)
  ·cases ho;have e7:a.eval (U 7)=aA aB (at_:Int):=seen.kp 7 _ (nd 7 (by omega)) rfl;exact Rg.dF rfl rfl (Rg.fM a.eval _ (U 7) rfl x) (hK _ _ e7 (J _ _) fun _ _ _ _ _ _ _ h=>h)
  ·cases ho;have e107:a.eval (U 107)=V so sn sc:=seen.at_ ⟨10,.data⟩ (by simp) rfl (aC (by decide));have e108:a.eval (U 108)=aA aB (at_:Int):=seen.at_ ⟨11,.data⟩ (by simp) rfl (aC (by decide));exact Rg.dF rfl rfl (Rg.qG a.eval _ 25 (U 107) (O (U 108)) Y Y rfl (by show (Instr.sliceAt 25 (a.eval (U 107)) (O (a.eval (U 108))) Y Y).run Tryz.prog x=.ok hiv x; rw [e107,e108]; exact SH.out x)) (hK _ _ rfl (J _ _) fun _ _ _ _ _ _ _ h=>h)
  ·cases ho;have o105:jZ x W.heap.size (a.eval (U 105)) ((lt++[z])):=seen.at_ ⟨8,.data⟩ (by simp) rfl (aG rfl);have e109:a.eval (U 109)=hiv:=seen.at_ ⟨12,.data⟩ (by simp) rfl (aC (by decide));have ox:kr x (a.eval (U 109)) ld:=by rw [e109]; exact RH.out.on hb
   obtain⟨v',x',r,o',gr⟩:=ji nH W.heap.size o105 ox (by have:=LTD.out; rw [List.length_append,List.length_singleton]; omega) LD.out hb.size 25;exact Rg.dF rfl rfl (Rg.jB a.eval _ (U 105) (U 109) 25 rfl rfl rfl r) (hK v' x' o' ((J _ x).grown gr hb.size fun j hj=>(o105.lt j hj).1) fun j u hj dj nl nx ni h=>by
    rcases (by omega:j=0\/j=1\/j=2\/j=3\/j=4\/j=5\/j=6\/j=7\/j=8\/j=9\/j=10\/j=11\/j=12\/j=13\/j=14) with rfl|rfl|rfl|rfl|rfl|rfl|rfl|rfl|rfl|rfl|rfl|rfl|rfl|rfl|rfl
    ·exact absurd rfl (fun _:(0:Nat)=0=>nl (hc 8 _ (hD ⟨8,.data⟩ (by simp) rfl) rfl ⟨5,.data⟩ (by simp) rfl))
    ·exact h
    ·exact h
    ·exact h
    ·exact h
    ·exact absurd rfl (fun _:(0:Nat)=0=>nl (hD ⟨8,.data⟩ (by simp) rfl))
    ·exact h
    ·exact absurd rfl (fun _:(0:Nat)=0=>nl (hD ⟨8,.data⟩ (by simp) rfl))
    ·exact absurd rfl (fun _:(0:Nat)=0=>nx rfl)
    ·exact h
    ·exact h
    ·exact h
    ·exact h
    ·exact absurd rfl (fun _:(0:Nat)=0=>ni rfl)
    ·exact h)
  ·cases ho;have e2:a.eval (U 2)=L (O ⟨b2,0,Y⟩):=seen.kp 2 _ (nd 2 (by omega)) rfl;exact Rg.dF rfl rfl (Rg.eP a.eval _ 28 (U 2) 4 rfl (by rw [e2]; simp [go_sem])) (hK _ _ rfl (J _ _) fun _ _ _ _ _ _ _ h=>h)
 ·intro a w' df sz kp ⟨vs,hv⟩ hb;have gr:a.tmps[110]?=O (vs 13):=(hv 13 (by omega)).1;have gp:a.tmps[111]?=O (L (O ⟨b2,4,Y⟩)):=by
   have h:vs 14=L (O ⟨b2,4,Y⟩):=(hv 14 (by omega)).2 (by decide);rw [<- h];exact (hv 14 (by omega)).1
  have oR:jZ w' W.heap.size (vs 13) (lt++[z]++ld):=(hv 13 (by omega)).2 (by decide);generalize vs 13=xR at *;obtain⟨ca,cp,eR⟩:=(Row.dG oR).len;have hbx:=H2.out.on hb;have hblt:=H2.out.lt;have c5:=hbx.cell 4;have f5:=hbx.fr 4;simp only [X,Z,ah] at c5;have hb1:=eD (k:=4) hbx xR;show Rg.fP _ _ _ 1 15 a w';simp only [Rg.fP];refine Rg.gB 25 (U 111) (U 110) rfl rfl rfl rfl (Rg.dH gp) (Rg.dH gr) (w':=w'.setCell ⟨b2,4,Y⟩ xR) (by rw [eR]; simp [go_sem,c5,f5]) ?_;have pQ:∀ j,(j<97\/112<=j)->a.tmps[j]?=(u0::u1::L (O ⟨b2,0,Y⟩)::L (O ⟨b3,0,Y⟩)::u4::u5::u6::aA aB (at_:Int)::u8::u9::u10::u11::u12::u13::u14::u15::u16::u17::u18::u19::u20::u21::u22::u23::u24::u25::u26::u27::u28::u29::u30::u31::u32::u33::u34::u35::u36::u37::u38::u39::u40::u41::u42::u43::u44::u45::u46::u47::u48::u49::u50::u51::u52::u53::u54::u55::u56::u57::u58::u59::u60::u61::u62::u63::u64::u65::u66::u67::u68::u69::u70::u71::u72::u73::u74::u75::u76::u77::u78::u79::u80::u81::u82::u83::u84::u85::u86::u87::u88::u89::u90::u91::u92::u93::u94::u95::u96::u97::u98::u99::u100::u101::u102::u103::u104::u105::u106::u107::u108::u109::u110::u111::u112::u113::u114::[])[j]?:=fun j hj=>(kp j (nd j hj)).trans X;obtain⟨mid,hmid,rfl⟩:=Rg.gF 97 15 df sz (by simp) pQ
  match mid,hmid with
  | [v97,v98,v99,v100,v101,v102,v103,v104,v105,v106,v107,v108,v109,v110,v111],_ =>
   have e1:O v110=O xR:=gr;obtain rfl:=Option.some.inj e1;refine HQ.out _ v97 v98 v99 v100 v101 v102 v103 v104 v105 v106 v107 v108 v109 v110 v111 ?_ ?_ ?_ ?_ ?_
   ·simpa using hb1
   ·exact eU oR b2 4 _ hblt
   ·exact fun B hB=>(hb.mono (Nat.le_of_lt (Nat.lt_of_le_of_lt hB hblt))).setCell hB _
   ·intro c cs t hc hbc;exact (au _ _ _ _ hc).trans (hbc.on hb)
   ·intro k hk hne;exact (au _ _ _ _ hne).trans (hb.block k hk)
end Bk
end Go.Proofs.YtmklifheakemeaaGreat
