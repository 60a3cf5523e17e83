/-
  A broker's rows lie . Conditions as told.
-/
import Derived.Test.YtkcfgbddlpomgaaGreatLQ009
import Derived.Test.YtkcfgbddlpomgaaGreatLQ010
set_option maxRecDepth 100000
set_option maxHeartbeats 64000000
open _root_.Go renaming World->Z,Value->ah,Addr->aM,TypeId->aQ,Act->aS
open Go.IntKind renaming i64->aG
open Go.Lib renaming compact->U,compactUpTo->ak,hid->aL
open Go.Proofs.YtkcfgbddlpomgaaGreat.Rg renaming get_put->X,done->aF,size_put->aH,gB->aO,dH->aP,dn->aT
open Go.Region renaming binds->ay
open Go.Sort renaming ahead->aj
open Go.Value renaming slice->J,pointer->Y,int->au,bool->aN
open _root_.List renaming getElem?_eq_some_iff->aA,replicate->aD,getElem?_take->aI,mem_singleton->aJ,length_append->aK
open _root_.Option renaming some->O,none->aB
open _root_.Or renaming inr->aC,inl->aR
namespace Go.Proofs.YtkcfgbddlpomgaaGreat
namespace Bk
open Go.RowKit Rw YtkcfgbddlpomgaaGreat.Nm Pr
theorem yO {W:Z} {b:Nat} {cs:Array ah} {t:aQ} (hb:dI W b cs t) {a:aM} {v:ah} (h:W.cell? a=O v) (e:a.block=b):cs[a.off]?=O v:=by
 unfold World.cell? at h;unfold dI at hb;rw [e,hb] at h;have h2:a.spot=aB/\cs[a.off]?=O v:=by simpa using h
 exact h2.2
theorem NG {W W':Z} {b:Nat} (hk:∀ j,j<W.heap.size->j≠b->W'.heap[j]?=W.heap[j]?) {a:aM} {v:ah} (h:W.cell? a=O v) (e:a.block≠b):W'.cell? a=O v:=by
 have hlt:=World.block_lt_of_cell? W _ h;unfold World.cell? at h ⊢;rw [hk _ hlt e];exact h
theorem uJ (a:aM) (j:Nat):(a.add j).block=a.block:=by unfold Addr.add; split <;> rfl
theorem gK {α:Type} {E:Ek α} (_K:E.Ok) {W W':Z} {b:Nat} {v:ah} {l:List α} (h:Row E W v l) (hk:∀ j,j<W.heap.size->j≠b->W'.heap[j]?=W.heap[j]?) (hno:∀ (a:aM) (c:α),(∀ j u,(E.cells c)[j]?=O u->W.cell? (a.add j)=O u)->a.block≠b):Row E W' v l:=by
 rcases h with h|⟨a,cap,h1,h2,h3,h4⟩
 ·exact aR h
 ·refine aC ⟨a,cap,h1,h2,h3,fun j u hj=>?_⟩;cases l with
  | nil=>simp [flat] at hj
  | cons c r =>
   have hne:a.block≠b:=hno a c fun j u hj=>h4 j u (by
    rw [flat,List.getElem?_append_left (by exact (aA.1 hj).1)];exact hj)
   exact NG hk (h4 j u hj) (by rw [uJ]; exact hne)
theorem jV {α:Type} {E:Ek α} {W:Z} {b:Nat} {cs:Array ah} {t:aQ} (hb:dI W b cs t) (hE:∀ c:α,∃ i j:Int,(E.cells c)[0]?=O (au aG i)/\(E.cells c)[1]?=O (au aG j)) (hcs:∀ (k:Nat) (i j:Int),cs[k]?=O (au aG i)->cs[k+1]?=O (au aG j)->False) (a:aM) (c:α) (h:∀ j u,(E.cells c)[j]?=O u->W.cell? (a.add j)=O u):a.block≠b:=fun e=>by
 obtain⟨i,j,h0,h1⟩:=hE c;have c0:=yO hb (h 0 _ h0) (by rw [uJ]; exact e);have c1:=yO hb (h 1 _ h1) (by rw [uJ]; exact e);have o0:(a.add 0).off=a.off:=by rw [Addr.add_zero']
 have o1:(a.add 1).off=a.off+1:=by rw [add_pos _ _ (by decide)]
 rw [o0] at c0;rw [o1] at c1;exact hcs a.off i j c0 c1
theorem ny {W:Z} {b:Nat} {cs:Array ah} {t:aQ} (hb:dI W b cs t) (hcs:∀ (k:Nat) (s:ByteArray),cs[k]?≠O (.string s)) (a:aM) (c:C5) (h:∀ j u,(EC.cells c)[j]?=O u->W.cell? (a.add j)=O u):a.block≠b:=fun e=>by
 have c0:=yO hb (h 0 _ rfl) (by rw [uJ]; exact e);exact hcs _ _ c0
theorem lg (me:Int) (s1 s2 s3 s4 s5:Sl):∀ (k:Nat) (i j:Int),(iX me s1 s2 s3 s4 s5)[k]?=O (au aG i)->(iX me s1 s2 s3 s4 s5)[k+1]?=O (au aG j)->False:=by
 intro k i j h1 h2
 match k with
 | 0=>simp at h2
 | 1=>simp at h1
 | 2=>simp at h1
 | 3=>simp at h1
 | 4=>simp at h1
 | 5=>simp at h1
 | k+6=>simp at h1
theorem nA (me:Int) (s1 s2 s3 s4 s5:Sl):∀ (k:Nat) (s:ByteArray),(iX me s1 s2 s3 s4 s5)[k]?≠O (.string s):=by
 intro k s h
 match k with
 | 0=>simp at h
 | 1=>simp at h
 | 2=>simp at h
 | 3=>simp at h
 | 4=>simp at h
 | 5=>simp at h
 | k+6=>simp at h
theorem eX {W W':Z} {k:Nat} {me:Int} {s1 s2 s3 s4 s5:Sl} {b:Br} {nv av sv ev ov:Sl} (h:iA W b nv av sv ev ov) (hb:dI W k (iX me s1 s2 s3 s4 s5) 33) (hk:∀ j,j<W.heap.size->j≠k->W'.heap[j]?=W.heap[j]?) (hn:qH W' (dP nv) b.near):iA W' b nv av sv ev ov where
 near:=hn
 dM:=by
  obtain⟨l,h1,h2⟩:=h.dM;exact⟨l,gK okD h1 hk (jV hb (fun c=>⟨_,_,rfl,rfl⟩) (lg me s1 s2 s3 s4 s5)),h2.mono fun x a hx=>⟨hx.1,hx.2.1,gK Ba hx.2.2 hk (ny hb (nA me s1 s2 s3 s4 s5))⟩⟩
 seen:=gK Ah h.seen hk (jV hb (fun c=>⟨_,_,rfl,rfl⟩) (lg me s1 s2 s3 s4 s5))
 ent:=by
  obtain⟨l,h1,h2⟩:=h.ent;exact⟨l,gK nR h1 hk (jV hb (fun c=>⟨_,_,rfl,rfl⟩) (lg me s1 s2 s3 s4 s5)),h2.mono fun x a hx=>⟨hx.1,hx.2.1,hx.2.2.1,hx.2.2.2.1,gK Ba hx.2.2.2.2 hk (ny hb (nA me s1 s2 s3 s4 s5))⟩⟩
 own:=by
  obtain⟨l,h1,h2⟩:=h.own;exact⟨l,gK okW h1 hk (jV hb (fun c=>⟨_,_,rfl,rfl⟩) (lg me s1 s2 s3 s4 s5)),h2.mono fun x a hx=>⟨hx.1,gK Ba hx.2 hk (ny hb (nA me s1 s2 s3 s4 s5))⟩⟩
end Bk
namespace Bk
open Go.RowKit Go.Sort Rw YtkcfgbddlpomgaaGreat.Nm Pr
theorem sF {W:Z} {b:Nat} {z0 z1 z2 z3 z4 z5:ah} (h:dI W b #[z0,z1,z2,z3,z4,z5] 33) (me:Int) (o1 o2 o3 o4 o5:Option aM) (n1 c1 n2 c2 n3 c3 n4 c4 n5 c5:Nat) :
  (Instr.storeAt 33 (Y (O ⟨b,0,aB⟩)) (.agg #[au aG me,J o1 n1 c1,J o2 n2 c2,J o3 n3 c3,J o4 n4 c4,J o5 n5 c5])).run Tryz.prog W=.ok () (gN W b (au aG me) (J o1 n1 c1) (J o2 n2 c2) (J o3 n3 c3) (J o4 n4 c4) (J o5 n5 c5)):=by
 obtain⟨x0,x1,x2,x3,x4,x5⟩:=h.eZ;obtain⟨f0,f1,f2,f3,f4,f5⟩:=h.ku;simp [go_sem,x0,x1,x2,x3,x4,x5,f0,f1,f2,f3,f4,f5]
theorem vV {W:Z} {b:Nat} {z0 z1 z2 z3 z4 z5:ah} (h:dI W b #[z0,z1,z2,z3,z4,z5] 33):(Instr.loadAt 33 (Y (O ⟨b,0,aB⟩))).run Tryz.prog W=.ok (.agg #[z0,z1,z2,z3,z4,z5]) W:=by
 obtain⟨x0,x1,x2,x3,x4,x5⟩:=h.eZ;simp [go_sem,x0,x1,x2,x3,x4,x5]
theorem Bl {P:Program} (ρ:Operand->ah) (o:Oper) (x y z:Operand) (t s r:aQ) (f:FuncId) (ho:o.op=.call { callee:=.value (.func f),args:=#[x,y,z],argTypes:=#[t,s,r] }) {v u q:ah} (hx:ρ x=v) (hy:ρ y=u) (hz:ρ z=q) (hf:ρ (.func f)=.func (.func f) #[] #[]) (w:Z)
  (hc:(callFunc f #[v,u,q]).run P w=.ok (.enter f #[v,u,q]) w):(execOp ρ o).run P w=.ok (.enter f #[v,u,q]) w:=by
 simp [execOp,ho,resolve,invoke,hx,hy,hz,hf,Deferred.ofValue,hc]
theorem Kq {W:Z} {b:Nat} {c d:Int} (h:dI W b #[au aG c,au aG d] 38):∀ j u,(jk (c,d))[j]?=O u->W.cell? ((⟨b,0,aB⟩:aM).add j)=O u:=by
 intro j u hj;rw [nk,h.cell]
 match j with
 | 0=>exact hj
 | 1=>exact hj
 | j+2=>simp at hj
noncomputable def XH:Code:=((Tryz.f57.body.bind (eD 9)).getD .skip)
structure P9 (base:aS) (v0 v2:ah) (p:ah) (W W':Z) (L:Array Bool) (a:aS) (x:Z):Prop where
 df:a.defers=base.defers
 sz:a.tmps.size=base.tmps.size
 kp:∀ j,j≠112->j≠113->j≠114->j≠5->a.tmps[j]?=base.tmps[j]?
 t0:aF L 0->a.tmps[112]?=O v0
 t1:aF L 1->a.tmps[113]?=O p
 t2:aF L 2->a.tmps[114]?=O v2
 t4:aF L 4->a.tmps[5]?=O v2
 w0:¬ aF L 3->x=W.drew
 w1:aF L 3->x=W'
 c3:aF L 3->aF L 0
theorem vW (Q:Exit->aS->Z->Prop) (W:Z) (b2 b3 b4:Nat) (me:Int) (o1 o2 o3 o4 o5:Option aM) (n1 c1 n2 c2 n3 c3 n4 c4 n5 c5:Nat) (e0 e1 e2 e3 e4 e5 z0 z1 z2 z3 z4 z5:ah) (up:Bool) (u0 u1 u5 u6 u7 u8 u9 u10 u11 u12 u13 u14 u15 u16 u17 u18 u19 u20 u21 u22 u23 u24 u25 u26 u27 u28 u29 u30 u31 u32 u33 u34 u35 u36 u37 u38 u39 u40 u41 u42 u43 u44 u45 u46 u47 u48 u49 u50 u51 u52 u53 u54 u55 u56 u57 u58 u59 u60 u61 u62 u63 u64 u65 u66 u67 u68 u69 u70 u71 u72 u73 u74 u75 u76 u77 u78 u79 u80 u81 u82 u83 u84 u85 u86 u87 u88 u89 u90 u91 u92 u93 u94 u95 u96 u97 u98 u99 u100 u101 u102 u103 u104 u105 u106 u107 u108 u109 u110 u111 u112 u113 u114:ah)
  (h2:dI W b2 #[au aG me,J o1 n1 c1,J o2 n2 c2,J o3 n3 c3,J o4 n4 c4,J o5 n5 c5] 33) (h3:dI W b3 #[e0,e1,e2,e3,e4,e5,aN up] 68) (h4:dI W b4 #[z0,z1,z2,z3,z4,z5] 33) (hne:b3≠b4)
  (hQ:∀ (a:aS) (x:Z),a.defers=[]->a.tmps[4]?=O (Y (O ⟨b4,0,aB⟩))->a.tmps[5]?=O (aN up)->x=gN W.drew b4 (au aG me) (J o1 n1 c1) (J o2 n2 c2) (J o3 n3 c3) (J o4 n4 c4) (J o5 n5 c5)->Q .normal a x) :
  Code.wp Tryz.prog XH Q ⟨(u0::u1::Y (O ⟨b2,0,aB⟩)::Y (O ⟨b3,0,aB⟩)::Y (O ⟨b4,0,aB⟩)::u5::u6::u7::u8::u9::u10::u11::u12::u13::u14::u15::u16::u17::u18::u19::u20::u21::u22::u23::u24::u25::u26::u27::u28::u29::u30::u31::u32::u33::u34::u35::u36::u37::u38::u39::u40::u41::u42::u43::u44::u45::u46::u47::u48::u49::u50::u51::u52::u53::u54::u55::u56::u57::u58::u59::u60::u61::u62::u63::u64::u65::u66::u67::u68::u69::u70::u71::u72::u73::u74::u75::u76::u77::u78::u79::u80::u81::u82::u83::u84::u85::u86::u87::u88::u89::u90::u91::u92::u93::u94::u95::u96::u97::u98::u99::u100::u101::u102::u103::u104::u105::u106::u107::u108::u109::u110::u111::u112::u113::u114::[]).toArray,[]⟩ W:=by
 have HQ:=aL hQ;have H2:=aL h2.drew;have H3:=aL h3.drew;have H4:=aL h4.drew;have X3:=aL (show dI (gN W.drew b4 (au aG me) (J o1 n1 c1) (J o2 n2 c2) (J o3 n3 c3) (J o4 n4 c4) (J o5 n5 c5)) b3 #[e0,e1,e2,e3,e4,e5,aN up] 68 from (dD W.drew b4 (au aG me) (J o1 n1 c1) (J o2 n2 c2) (J o3 n3 c3) (J o4 n4 c4) (J o5 n5 c5) b3 hne).trans h3.drew);clear hQ h2 h3 h4 hne;unfold XH
 conv=>arg 2; whnf
 obtain⟨base,hbase⟩:∃ b:aS,b=⟨(u0::u1::Y (O ⟨b2,0,aB⟩)::Y (O ⟨b3,0,aB⟩)::Y (O ⟨b4,0,aB⟩)::u5::u6::u7::u8::u9::u10::u11::u12::u13::u14::u15::u16::u17::u18::u19::u20::u21::u22::u23::u24::u25::u26::u27::u28::u29::u30::u31::u32::u33::u34::u35::u36::u37::u38::u39::u40::u41::u42::u43::u44::u45::u46::u47::u48::u49::u50::u51::u52::u53::u54::u55::u56::u57::u58::u59::u60::u61::u62::u63::u64::u65::u66::u67::u68::u69::u70::u71::u72::u73::u74::u75::u76::u77::u78::u79::u80::u81::u82::u83::u84::u85::u86::u87::u88::u89::u90::u91::u92::u93::u94::u95::u96::u97::u98::u99::u100::u101::u102::u103::u104::u105::u106::u107::u108::u109::u110::u111::u112::u113::u114::[]).toArray,[]⟩:=⟨_,rfl⟩;have b2t:base.tmps[2]?=O (Y (O ⟨b2,0,aB⟩)):=by rw [hbase]; rfl
 have b3t:base.tmps[3]?=O (Y (O ⟨b3,0,aB⟩)):=by rw [hbase]; rfl
 have b4t:base.tmps[4]?=O (Y (O ⟨b4,0,aB⟩)):=by rw [hbase]; rfl
 have bsz:base.tmps.size=115:=by rw [hbase]; rfl
 have bdf:base.defers=[]:=by rw [hbase]
 rw [<- hbase];clear hbase;generalize hW':gN W.drew b4 (au aG me) (J o1 n1 c1) (J o2 n2 c2) (J o3 n3 c3) (J o4 n4 c4) (J o5 n5 c5)=W' at *;refine Rg.qI (fun L a x=>P9 base (.agg #[au aG me,J o1 n1 c1,J o2 n2 c2,J o3 n3 c3,J o4 n4 c4,J o5 n5 c5]) (aN up) (Y (O ⟨b3,6,aB⟩)) W W' L a x) (by kernel_rfl) (by kernel_rfl) ?_ ?_ ?_
 ·exact⟨rfl,rfl,fun _ _ _ _ _=>rfl,fun h=>absurd h (aO _ _),fun h=>absurd h (aO _ _),fun h=>absurd h (aO _ _),fun h=>absurd h (aO _ _),fun _=>rfl,fun h=>absurd h (aO _ _),fun h=>absurd h (aO _ _)⟩
 ·intro L a x i o hsz I ho hnd nN;have hi:i<5:=(aA.1 ho).1;have hL:L.size=5:=hsz;have Am:i<L.size:=by omega
  have k2:a.eval (.tmp 2)=Y (O ⟨b2,0,aB⟩):=aP ((I.kp 2 (by decide) (by decide) (by decide) (by decide)).trans b2t);have k3:a.eval (.tmp 3)=Y (O ⟨b3,0,aB⟩):=aP ((I.kp 3 (by decide) (by decide) (by decide) (by decide)).trans b3t);have k4:a.eval (.tmp 4)=Y (O ⟨b4,0,aB⟩):=aP ((I.kp 4 (by decide) (by decide) (by decide) (by decide)).trans b4t);have asz:a.tmps.size=115:=I.sz.trans bsz;have self:∀ (d:Nat) (v:ah),d<115->(a.put (O d) v).tmps[d]?=O v:=fun d v hd=>by
   have:d<a.tmps.size:=by omega
   simp [Act.put,this]
  have ds:=fun j=>Rg.gT Am j;rcases (by omega:i=0\/i=1\/i=2\/i=3\/i=4) with rfl|rfl|rfl|rfl|rfl
  ·cases ho;have hx:x=W.drew:=I.w0 fun h=>hnd (I.c3 h);exact aT rfl rfl (Rg.dW a.eval _ 33 (.tmp 2) rfl (by rw [k2,hx]; exact vV H2.out)) ⟨I.df,(aH a _ _).trans I.sz,fun j j1 j2 j3 j4=>(X _ _ _ j (by omega)).trans (I.kp j j1 j2 j3 j4),fun _=>self 112 _ (by decide),fun h=>(X _ _ _ 113 (by decide)).trans (I.t1 (((ds 1).1 h).resolve_left (by decide))),fun h=>(X _ _ _ 114 (by decide)).trans (I.t2 (((ds 2).1 h).resolve_left (by decide))),fun h=>(X _ _ _ 5 (by decide)).trans (I.t4 (((ds 4).1 h).resolve_left (by decide))),fun h=>I.w0 fun h3=>h ((ds 3).2 (aC h3)),fun h=>I.w1 (((ds 3).1 h).resolve_left (by decide)),fun h=>(ds 0).2 (aR rfl)⟩
  ·cases ho;exact aT rfl rfl (Rg.dN a.eval _ 68 (.tmp 3) 4 rfl (by rw [k3]; simp [go_sem])) ⟨I.df,(aH a _ _).trans I.sz,fun j j1 j2 j3 j4=>(X _ _ _ j (by omega)).trans (I.kp j j1 j2 j3 j4),fun h=>(X _ _ _ 112 (by decide)).trans (I.t0 (((ds 0).1 h).resolve_left (by decide))),fun _=>self 113 _ (by decide),fun h=>(X _ _ _ 114 (by decide)).trans (I.t2 (((ds 2).1 h).resolve_left (by decide))),fun h=>(X _ _ _ 5 (by decide)).trans (I.t4 (((ds 4).1 h).resolve_left (by decide))),fun h=>I.w0 fun h3=>h ((ds 3).2 (aC h3)),fun h=>I.w1 (((ds 3).1 h).resolve_left (by decide)),fun h=>(ds 0).2 (aC (I.c3 (((ds 3).1 h).resolve_left (by decide))))⟩
  ·cases ho;have k113:a.eval (.tmp 113)=Y (O ⟨b3,6,aB⟩):=aP (I.t1 (nN ⟨1,.data⟩ (by simp) rfl));have hc:x.cell? ⟨b3,6,aB⟩=O (aN up):=by
    by_cases h3:aF L 3
    ·rw [I.w1 h3]; exact X3.out.cell 6
    ·rw [I.w0 h3]; exact H3.out.cell 6
   exact aT rfl rfl (Rg.dW a.eval _ 4 (.tmp 113) rfl (by rw [k113]; simp [go_sem,hc])) ⟨I.df,(aH a _ _).trans I.sz,fun j j1 j2 j3 j4=>(X _ _ _ j (by omega)).trans (I.kp j j1 j2 j3 j4),fun h=>(X _ _ _ 112 (by decide)).trans (I.t0 (((ds 0).1 h).resolve_left (by decide))),fun h=>(X _ _ _ 113 (by decide)).trans (I.t1 (((ds 1).1 h).resolve_left (by decide))),fun _=>self 114 _ (by decide),fun h=>(X _ _ _ 5 (by decide)).trans (I.t4 (((ds 4).1 h).resolve_left (by decide))),fun h=>I.w0 fun h3=>h ((ds 3).2 (aC h3)),fun h=>I.w1 (((ds 3).1 h).resolve_left (by decide)),fun h=>(ds 0).2 (aC (I.c3 (((ds 3).1 h).resolve_left (by decide))))⟩
  ·cases ho;have hx:x=W.drew:=I.w0 hnd;refine Rg.fI 33 (.tmp 4) (.tmp 112) rfl rfl rfl rfl k4 (aP (I.t0 (nN ⟨0,.data⟩ (by simp) rfl))) (w':=W') (by rw [hx,<- hW']; exact sF H4.out me _ _ _ _ _ _ _ _ _ _ _ _ _ _ _) ?_;exact⟨I.df,I.sz,I.kp,fun h=>I.t0 (((ds 0).1 h).resolve_left (by decide)),fun h=>I.t1 (((ds 1).1 h).resolve_left (by decide)),fun h=>I.t2 (((ds 2).1 h).resolve_left (by decide)),fun h=>I.t4 (((ds 4).1 h).resolve_left (by decide)),fun h=>absurd ((ds 3).2 (aR rfl)) h,fun _=>rfl,fun _=>(ds 0).2 (aC (nN ⟨0,.data⟩ (by simp) rfl))⟩
  ·cases ho;have k114:a.eval (.tmp 114)=aN up:=aP (I.t2 (nN ⟨2,.data⟩ (by simp) rfl));exact aT rfl rfl (Rg.kR a.eval _ (.tmp 114) rfl x) (by rw [k114]; exact⟨I.df,(aH a _ _).trans I.sz,fun j j1 j2 j3 j4=>(X _ _ _ j (by omega)).trans (I.kp j j1 j2 j3 j4),fun h=>(X _ _ _ 112 (by decide)).trans (I.t0 (((ds 0).1 h).resolve_left (by decide))),fun h=>(X _ _ _ 113 (by decide)).trans (I.t1 (((ds 1).1 h).resolve_left (by decide))),fun h=>(X _ _ _ 114 (by decide)).trans (I.t2 (((ds 2).1 h).resolve_left (by decide))),fun _=>self 5 _ (by decide),fun h=>I.w0 fun h3=>h ((ds 3).2 (aC h3)),fun h=>I.w1 (((ds 3).1 h).resolve_left (by decide)),fun h=>(ds 0).2 (aC (I.c3 (((ds 3).1 h).resolve_left (by decide))))⟩)
 ·intro L a x I hd;exact HQ.out a x (I.df.trans bdf) ((I.kp 4 (by decide) (by decide) (by decide) (by decide)).trans b4t) (I.t4 (hd 4 (by decide))) ((I.w1 (hd 3 (by decide))))
end Bk
namespace Nm
def hor (l:List UInt8):Int:=l.foldl (fun h b=>h * 256+(b.toNat:Int)) 0
def qZ (l:List UInt8):Int:=IntKind.i64.wrap (hor l)
end Nm
namespace Av
open Go.RowKit Rw YtkcfgbddlpomgaaGreat.Nm Pr Bk Go.Sort
theorem QF {α:Type} [Inhabited α] (enc:α->ah) (d:Array α) (cur:Array ah) (h:d.size<=cur.size):(putCells enc 0 d cur).toList.take d.size=d.toList.map enc:=by
 apply List.ext_getElem?;intro j;rw [aI];by_cases hj:j<d.size
 ·have hc:j<cur.size:=by omega
  simp [putCells,hj,hc]
 ·simp [hj]
theorem yP {α β:Type} [Inhabited β] {E:Ek α} (K:E.Ok) {w:Z} {B g cap:Nat} {l l':List α} (h:Own E w B (J (O ⟨g,0,aB⟩) l.length cap) l) (enc:β->ah) (d:Array β) (hd:d.toList.map enc=flat E l') (hl:l'.length=l.length) (n:Nat) (os:Array Obj) :
  Own E (grow (putRow enc (aj w n) g 0 d) os) B (J (O ⟨g,0,aB⟩) l.length cap) l'/\w.grownBy (grow (putRow enc (aj w n) g 0 d) os) (O g):=by
 have hds:d.size=l.length * E.n:=by
  rw [<- hl,<- dX K l',<- hd];simp
 rcases iR h with⟨e,_⟩|⟨g',cap',cur,e,h1,h2,h3,h4,h5,h6⟩
 ·cases e
 obtain⟨rfl,rfl⟩:g=g'/\cap=cap':=by simpa using e
 have hlt:=lt_of_heap h2;have hb:(grow (putRow enc (aj w n) g 0 d) os).heap[g]?=O (.cells (putCells enc 0 d cur) E.t (0,0)):=by
  rw [heap_grow_old _ _ (by simp [putRow,mapBlock,aj]; exact hlt)];unfold dI at h2;simp only [putRow,mapBlock,aj,Array.getElem?_modify,if_true,h2]
  rfl
 have hfit:d.size<=cur.size:=by
  rw [hds,h5];exact Nat.mul_le_mul_right _ h3
 refine⟨⟨by rw [dX K],aC ⟨g,cap,_,by rw [hl],h1,hb,by rw [hl]; exact h3,h4,by simp [putCells]; exact h5,?_⟩⟩,⟨rfl,rfl,rfl,by simp [putRow,mapBlock,aj],fun k hk hne=>?_⟩⟩
 ·rw [hl,<- hds,QF enc d cur hfit,hd]
 ·rw [heap_grow_old _ _ (by simp [putRow,mapBlock,aj]; exact hk)];have hkg:g≠k:=fun e=>hne (by rw [e]);simp [putRow,mapBlock,aj,Array.getElem?_modify,hkg]
theorem Bn {α:Type} {E:Ek α} {w:Z} {B g cap:Nat} {l:List α} (K:E.Ok) {β:Type} [Inhabited β] (enc:β->ah) (d:Array β) (hd:d.toList.map enc=flat E l) (h:Own E w B (J (O ⟨g,0,aB⟩) l.length cap) l):Holds enc w g 0 d/\g<w.heap.size:=by
 rcases iR h with⟨e,_⟩|⟨g',cap',cur,e,h1,h2,h3,h4,h5,h6⟩
 ·cases e
 obtain⟨rfl,rfl⟩:g=g'/\cap=cap':=by simpa using e
 refine⟨fun j hj=>?_,h2.lt⟩;rw [Nat.zero_add];refine⟨?_,h2.fr j⟩;rw [h2.cell j];have hsz:d.size=l.length * E.n:=by
  rw [<- dX K l,<- hd];simp
 have h7:(cur.toList.take (l.length * E.n))[j]?=(d.toList.map enc)[j]?:=by rw [h6,hd]
 rw [aI,if_pos (by omega)] at h7;rw [Array.getElem?_toList] at h7;rw [h7,List.getElem?_map,Array.getElem?_toList,getElem!_pos d j hj,Array.getElem?_eq_getElem hj]
 rfl
theorem Bo (w:Z) (B:Nat) (v:ah) (l:List Int) (h:mI w B v l) (hlen:l.length<=900):Calls Tryz.prog 75 #[v] w fun e w'=>e=.returned (.tuple #[])/\∃ l':List Int,mI w' B v l'/\l'.Perm l/\l'.Pairwise (·<=·)/\w.grownBy w' v.ownBlock:=by
 rcases iR h with⟨rfl,rfl⟩|⟨g,cap,cur,rfl,h1,h2,h3,h4,h5,h6⟩
 ·have hc:=Any.slices_Sort_int_none Tryz.sortI aB 0 w;refine Calls.mono hc ?_;rintro e w' ⟨rfl,rfl⟩;exact⟨rfl,[],h,List.Perm.refl _,List.Pairwise.nil,Rw.qG _ _⟩
 ·obtain⟨hh,hlt⟩:=Bn Nm.IL (au aG) l.toArray (by rw [ER]) h;have hc:=Any.slices_Sort_int Tryz.sortI g 0 cap l w hh hlt (by omega);refine Calls.mono hc ?_;rintro e w' ⟨rfl,n,os,rfl⟩;have hs:=yP Nm.IL (l':=l.mergeSort fun x y=>decide (x<=y)) h (au aG) (l.mergeSort fun x y=>decide (x<=y)).toArray (by rw [ER]) (List.length_mergeSort l) n os;refine⟨rfl,_,hs.1,List.mergeSort_perm _ _,?_,hs.2⟩;have hp:=List.pairwise_mergeSort (le:=fun x y:Int=>decide (x<=y)) (fun a b c h1 h2=>by simp at h1 h2 ⊢; omega) (fun a b=>by simp; omega) l;exact hp.imp (fun {a b} hab=>by simpa using hab)
theorem FM (d:Array Int) (n:Nat) (hs:∀ i j,i<=j->j<n->d[i]!<=d[j]!):∀ m,m<=n->(∀ x∈ak d m,∃ j,j<m/\d[j]! = x)/\(∀ j,j<m->d[j]!∈ak d m)/\(ak d m).Pairwise (·<·)
 | 0,_=>⟨fun x h=>by simp [ak] at h,fun j h=>by omega,by simp [ak]⟩
 | m+1,hm=>by
  obtain⟨h1,h2,h3⟩:=FM d n hs m (by omega);rw [Lib.compactUpTo_succ];cases hk:Lib.keeps d m with
  | false =>
   simp only [Bool.false_eq_true,if_false,List.append_nil];have hk':m≠0/\d[m]! = d[m-1]!:=by
    have h:=of_decide_eq_false hk;rw [not_or] at h;exact⟨h.1,Classical.not_not.1 h.2⟩
   refine⟨fun x hx=>?_,fun j hj=>?_,h3⟩
   ·obtain⟨j,hj,e⟩:=h1 x hx;exact⟨j,by omega,e⟩
   ·rcases Nat.lt_or_ge j m with h|h
    ·exact h2 j h
    ·obtain rfl:j=m:=by omega
     rw [hk'.2];exact h2 _ (by omega)
  | true =>
   simp only [if_true];have hk':m=0\/d[m]!≠d[m-1]!:=of_decide_eq_true hk;refine⟨fun x hx=>?_,fun j hj=>?_,?_⟩
   ·rcases List.mem_append.1 hx with h|h
    ·obtain⟨j,hj,e⟩:=h1 x h;exact⟨j,by omega,e⟩
    ·exact⟨m,by omega,(aJ.1 h).symm⟩
   ·rcases Nat.lt_or_ge j m with h|h
    ·exact List.mem_append_left _ (h2 j h)
    ·obtain rfl:j=m:=by omega
     exact List.mem_append_right _ (by simp)
   ·rw [List.pairwise_append];refine⟨h3,List.pairwise_singleton _ _,fun a ha b hb=>?_⟩;obtain⟨j,hj,rfl⟩:=h1 a ha;rw [aJ.1 hb];have a1:=hs j (m-1) (by omega) (by omega);have a2:=hs (m-1) m (by omega) (by omega);rcases hk' with h|h
    ·omega
    ·omega
theorem Jo (l:List Int) (hs:l.Pairwise (·<=·)):(U l).Pairwise (·<·)/\(∀ x,x∈U l↔x∈l)/\(U l).length<=l.length:=by
 have hd:∀ i j,i<=j->j<l.length->l.toArray[i]!<=l.toArray[j]!:=by
  intro i j hij hj;rw [getElem!_pos l.toArray i (by simp; omega),getElem!_pos l.toArray j (by simpa using hj)];rcases Nat.lt_or_ge i j with h|h
  ·have:=List.pairwise_iff_getElem.1 hs i j (by omega) hj h;simpa using this
  ·obtain rfl:i=j:=by omega
   exact Int.le_refl _
 obtain⟨h1,h2,h3⟩:=FM l.toArray l.length hd l.length (Nat.le_refl _);refine⟨h3,fun x=>⟨fun hx=>?_,fun hx=>?_⟩,?_⟩
 ·obtain⟨j,hj,rfl⟩:=h1 x hx;rw [getElem!_pos l.toArray j (by simpa using hj)];simp
 ·obtain⟨j,hj,rfl⟩:=List.mem_iff_getElem.1 hx;have:=h2 j hj;rw [getElem!_pos l.toArray j (by simpa using hj)] at this;simpa [U] using this
 ·unfold U ak;rw [List.length_map];exact Nat.le_trans (List.length_filter_le _ _) (by simp)
theorem FN (w:Z) (B:Nat) (v:Sl) (l:List Int) (h:mI w B (dP v) l) (hs:l.Pairwise (·<=·)) (hlen:l.length<=900):Calls Tryz.prog 76 #[dP v] w fun e w'=>(∃ v':Sl,e=.returned (dP v')/\∃ l':List Int,mI w' B (dP v') l'/\l'.Pairwise (·<·)/\∀ x,x∈l'↔x∈l)/\w.grownBy w' (dP v).ownBlock:=by
 obtain⟨vo,vn,vc⟩:=v;rcases iR h with⟨h0,rfl⟩|⟨g,cap,cur,h0,h1,h2,h3,h4,h5,h6⟩
 ·obtain⟨rfl,rfl,rfl⟩:vo=aB/\vn=0/\vc=0:=by simpa using h0
  have hc:=Any.slices_Compact_int_empty Tryz.cptI aB 0 w;refine Calls.mono hc ?_;rintro e w' ⟨rfl,rfl⟩;exact⟨⟨(aB,0,0),rfl,[],h,List.Pairwise.nil,fun _=>Iff.rfl⟩,Rw.qG _ _⟩
 ·obtain⟨rfl,rfl,rfl⟩:vo=O ⟨g,0,aB⟩/\vn=l.length/\vc=cap:=by simpa using h0
  obtain⟨hh,hlt⟩:=Bn Nm.IL (au aG) l.toArray (by rw [ER]) h;have hc:=Any.slices_Compact_int Tryz.cptI g 0 vc l w hh (by omega) h3;obtain⟨c1,c2,c3⟩:=Jo l hs;refine Calls.mono hc ?_;rintro e w' ⟨rfl,n,rfl⟩;have ht:=yP Nm.IL (l':=U l++aD (l.length-(U l).length) 0) h (au aG) (U l++aD (l.length-(U l).length) 0).toArray (by rw [ER]) (by rw [aK,List.length_replicate]; omega) n #[];have hg:grow (putRow (au aG) (aj w n) g 0 (U l++aD (l.length-(U l).length) 0).toArray) #[]=putRow (au aG) (aj w n) g 0 (U l++aD (l.length-(U l).length) 0).toArray:=grow_empty _;rw [hg] at ht;refine⟨⟨(O ⟨g,0,aB⟩,(U l).length,vc),rfl,U l,?_,c1,c2⟩,ht.2⟩;rcases iR ht.1 with⟨e,_⟩|⟨g',cap',cur',e,k1,k2,k3,k4,k5,k6⟩
  ·cases e
  ·obtain⟨rfl,_,rfl⟩:g=g'/\l.length=_/\vc=cap':=by simpa using e
   refine uy Nm.IL rfl k1 k2 (Nat.le_trans c3 h3) k4 k5 ?_;have k7:=congrArg (List.take ((U l).length * EI.n)) k6;rw [List.take_take,vJ Nm.IL,Nat.min_eq_left (Nat.mul_le_mul_right _ (by rw [aK]; omega)),List.take_left'] at k7
   ·exact k7
   ·rfl
end Av
namespace Rg
open Go.RowKit
structure XI (i N:Nat) (dst:Nat->Option Nat) (last:Nat->Nat) (V:Nat->ah->Z->Prop) (base:aS) (o:Oper) (a:aS) (w:Z):Prop where
 kp:∀ j u,(∀ k,k<N->dst k≠O j)->base.tmps[j]?=O u->a.eval (.tmp j)=u
 at_:∀ e∈o.after,ay .any e=true->(last e.on=i\/N<=last e.on)->∀ d,dst e.on=O d->V e.on (a.eval (.tmp d)) w
 st:∀ e∈o.after,ay .any e=true->(last e.on=i\/N<=last e.on)->∃ v,V e.on v w
theorem Bp (a:aS) (d:Option Nat) (v:ah) (j:Nat) (hj:d≠O j):(a.put d v).tmps[j]?=a.tmps[j]?:=by
 cases d with
 | none=>rfl
 | some d=>exact get_put _ _ _ _ (fun e=>hj (by rw [e]))
theorem QG (a:aS) (d:Option Nat) (v:ah):(a.put d v).tmps.size=a.tmps.size:=by
 cases d with
 | none=>rfl
 | some d=>exact size_put _ _ _
theorem put_defers (a:aS) (d:Option Nat) (v:ah):(a.put d v).defers=a.defers:=by
 cases d <;> rfl
structure PhD (l:List Oper) (N:Nat) (dst:Nat->Option Nat) (last:Nat->Nat) (V:Nat->ah->Z->Prop) (F:(Nat->Prop)->Z->Prop) (base:aS) (L:Array Bool) (a:aS) (x:Z):Prop where
 cl:∀ i o,done L i->l[i]?=O o->∀ e∈o.after,ay .any e=true->done L e.on
 df:a.defers=base.defers
 sz:a.tmps.size=base.tmps.size
 kp:∀ j,(∀ i,i<N->dst i≠O j)->a.tmps[j]?=base.tmps[j]?
 fr:F (done L) x
 no:∀ i,N<=i->¬ done L i
 val:∃ vs:Nat->ah,∀ i,i<N->done L i->(∀ d,dst i=O d->a.tmps[d]?=O (vs i))/\(¬ done L (last i)->V i (vs i) x)
theorem wR {P:Program} {Q:Exit->aS->Z->Prop} {id:Nat} {base:aS} {w:Z} {l:List Oper} (N:Nat) (dst:Nat->Option Nat) (last:Nat->Nat) (V:Nat->ah->Z->Prop) (F:(Nat->Prop)->Z->Prop)
  (hm:P.follows .mixedOrders=true) (hf:M6 l.toArray=true) (hN:l.length=N) (hinj:∀ i j d,i<N->j<N->dst i=O d->dst j=O d->i=j) (hs:∀ i d,i<N->dst i=O d->d<base.tmps.size) (h0:F (fun _=>False) w.drew)
  (hop:∀ i o,i<N->l[i]?=O o->∀ a w' (D:Nat->Prop),¬ D i->(∀ j oj,D j->l[j]?=O oj->∀ e∈oj.after,ay .any e=true->D e.on)->(∀ e∈o.after,ay .any e=true->D e.on)->F D w'->XI i N dst last V base o a w'->∀ K:aS->Z->Prop,(∀ v w'',V i v w''->F (fun j=>j=i\/D j) w''->(∀ j u,j<N->D j->¬ D (last j)->last j≠i->j≠i->V j u w'->V j u w'')->K (a.put (dst i) v) w'')->wpOp P l.toArray Q i K a w')
  (hend:∀ a w',a.defers=base.defers->a.tmps.size=base.tmps.size->(∀ j,(∀ i,i<N->dst i≠O j)->a.tmps[j]?=base.tmps[j]?)->(∃ vs:Nat->ah,∀ i,i<N->(∀ d,dst i=O d->a.tmps[d]?=O (vs i))/\(N<=last i->V i (vs i) w'))->(∃ D:Nat->Prop,(∀ i,i<N->D i)/\F D w')->Q .normal a w'):(Code.region id l.toArray true).wp P Q base w:=by
 refine qI (fun L a x=>PhD l N dst last V F base L a x) hm hf ?_ ?_ ?_
 ·exact⟨fun i o h=>absurd h (gB _ _),rfl,rfl,fun _ _=>rfl,by rw [show done (Array.replicate l.length false)=fun _=>False from funext fun i=>propext ⟨fun h=>gB _ _ h,False.elim⟩]; exact h0,fun i _=>gB _ _,fun _=>.bool true,fun i _ h=>absurd h (gB _ _)⟩
 ·intro L a x i o hsz I ho hnd nN;have hi:i<l.length:=(aA.1 ho).1;have Am:i<L.size:=by omega
  have hiM:i<N:=by omega
  obtain⟨vs,q1⟩:=I.val;have hon:∀ e∈o.after,ay .any e=true->e.on<N:=fun e he hb=>by
   have h7:=List.all_eq_true.1 hf i (List.mem_range.2 (by simpa using hi));have ho':(l.toArray)[i]?=O o:=by simpa using ho
   rw [ho'] at h7;have h8:=Array.all_eq_true'.1 h7 e he;rw [hb] at h8;have:e.on<i:=by simpa using h8
   omega
  have lv:∀ e∈o.after,ay .any e=true->(last e.on=i\/N<=last e.on)->V e.on (vs e.on) x:=fun e he hbd hl=>by
   refine (q1 e.on (hon e he hbd) (nN e he hbd)).2 ?_;rcases hl with hl|hl
   ·rw [hl]; exact hnd
   ·exact I.no _ hl
  have seen:XI i N dst last V base o a x:=⟨fun j u hj hu=>dH (by rw [I.kp j hj]; exact hu),fun e he hbd hl d hd=>by
   rw [dH ((q1 e.on (hon e he hbd) (nN e he hbd)).1 d hd)];exact lv e he hbd hl,fun e he hbd hl=>⟨_,lv e he hbd hl⟩⟩
  refine hop i o hiM ho a x (done L) hnd I.cl nN I.fr seen _ fun v w'' hvw hfw hpr=>?_;refine⟨fun k q hk hq e he hb=>?_,by rw [put_defers]; exact I.df,by rw [QG]; exact I.sz,fun j hj=>?_,by rw [show done (L.setIfInBounds i true)=fun j=>j=i\/done L j from funext fun j=>propext (gT Am j)]; exact hfw,fun k hk hd=>?_,fun k=>if k=i then v else vs k,fun k VA hk=>?_⟩
  ·rw [gT Am] at hk ⊢;rcases hk with rfl|hk
   ·rw [hq] at ho;cases ho;exact aC (nN e he hb)
   ·exact aC (I.cl k q hk hq e he hb)
  ·rw [Bp _ _ _ _ (hj i hiM)];exact I.kp j hj
  ·rcases (gT Am k).1 hd with h9|h9
   ·omega
   ·exact I.no k hk h9
  ·by_cases e:k=i
   ·subst e;simp only [if_true];refine⟨fun d hd=>?_,fun _=>hvw⟩;have h9:d<a.tmps.size:=by rw [I.sz]; exact hs k d VA hd
    rw [hd];simp [Act.put,h9]
   ·simp only [if_neg e];rcases (gT Am k).1 hk with h9|h9
    ·exact absurd h9 e
    ·obtain⟨p1,p2⟩:=q1 k VA h9;refine⟨fun d hd=>?_,fun hn=>?_⟩
     ·rw [Bp _ _ _ _ (fun h=>e (hinj k i d VA hiM hd h))];exact p1 d hd
     ·have n1:last k≠i:=fun e3=>hn ((gT Am _).2 (aR e3));have n2:¬ done L (last k):=fun e3=>hn ((gT Am _).2 (aC e3));exact hpr k _ VA h9 n2 n1 e (p2 n2)
 ·intro L a x I hd;obtain⟨vs,q1⟩:=I.val;exact hend a x I.df I.sz I.kp ⟨vs,fun k hk=>⟨(q1 k hk (hd k (by omega))).1,fun hl=>(q1 k hk (hd k (by omega))).2 (I.no _ hl)⟩⟩ ⟨done L,fun i hi=>hd i (by omega),I.fr⟩
end Rg
end Go.Proofs.YtkcfgbddlpomgaaGreat
