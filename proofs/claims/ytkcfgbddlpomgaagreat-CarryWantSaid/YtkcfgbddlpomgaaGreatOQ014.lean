/-
  A broker's rows lie . Conditions as told.
-/
import Derived.Test.YtkcfgbddlpomgaaGreatOQ007
import Derived.Test.YtkcfgbddlpomgaaGreatOQ009
import Derived.Test.YtkcfgbddlpomgaaGreatOQ008
set_option maxRecDepth 100000
set_option maxHeartbeats 64000000
open _root_.Go renaming World->ak,Value->ay,Addr->aX,Calls->bf,TypeId->bg
open Go.Builtin renaming copy_->aI,append_->aU
open Go.Ending renaming returned->aJ
open Go.Instr renaming sliceAt->Z
open Go.IntKind renaming i64->aj,wrap_i64->aT
open Go.Lib renaming compact->V,compactUpTo->aA,hid->aK
open Go.Obj renaming cells->aC
open Go.Proofs.Tryz renaming prog->U,ntmps101->aO,func101->aS,sortI->bA,cptI->bF
open Go.Proofs.YtkcfgbddlpomgaaGreat.Rg renaming get_put->X,done->aG,size_put->aL,gP->aY,dK->aZ,dD->bI
open Go.Sort renaming ahead->au
open Go.Value renaming slice->D,int->Y,pointer->ah,bool->aV
open _root_.List renaming replicate->aD,getElem?_eq_some_iff->aF,getElem?_take->aP,mem_singleton->aQ,length_append->aR
open _root_.Nat renaming lt_or_ge->aB,le_refl->aM,mul_le_mul_right->aN,le_trans->aW
open _root_.Option renaming some->J,none->O
open _root_.Or renaming inr->aH,inl->bH
namespace Go.Proofs.YtkcfgbddlpomgaaGreat
namespace Bk
open Go.RowKit Rw YtkcfgbddlpomgaaGreat.Nm Pr
theorem Aj {W:ak} {b:Nat} {cs:Array ay} {t:bg} (hb:dN W b cs t) {a:aX} {v:ay} (h:W.cell? a=J v) (e:a.block=b):cs[a.off]?=J v:=by
 unfold World.cell? at h;unfold dN at hb;rw [e,hb] at h;have h2:a.spot=O/\cs[a.off]?=J v:=by simpa using h
 exact h2.2
theorem Qj {W W':ak} {b:Nat} (hk:∀ j,j<W.heap.size->j≠b->W'.heap[j]?=W.heap[j]?) {a:aX} {v:ay} (h:W.cell? a=J v) (e:a.block≠b):W'.cell? a=J v:=by
 have hlt:=World.block_lt_of_cell? W _ h;unfold World.cell? at h ⊢;rw [hk _ hlt e];exact h
theorem wJ (a:aX) (j:Nat):(a.add j).block=a.block:=by unfold Addr.add; split <;> rfl
theorem iq {α:Type} {E:Ek α} (_K:E.Ok) {W W':ak} {b:Nat} {v:ay} {l:List α} (h:Row E W v l) (hk:∀ j,j<W.heap.size->j≠b->W'.heap[j]?=W.heap[j]?) (hno:∀ (a:aX) (c:α),(∀ j u,(E.cells c)[j]?=J u->W.cell? (a.add j)=J u)->a.block≠b):Row E W' v l:=by
 rcases h with h|⟨a,cap,h1,h2,h3,h4⟩
 ·exact bH h
 ·refine aH ⟨a,cap,h1,h2,h3,fun j u hj=>?_⟩;cases l with
  | nil=>simp [flat] at hj
  | cons c r =>
   have hne:a.block≠b:=hno a c fun j u hj=>h4 j u (by
    rw [flat,List.getElem?_append_left (by exact (aF.1 hj).1)];exact hj)
   exact Qj hk (h4 j u hj) (by rw [wJ]; exact hne)
theorem kQ {α:Type} {E:Ek α} {W:ak} {b:Nat} {cs:Array ay} {t:bg} (hb:dN W b cs t) (hE:∀ c:α,∃ i j:Int,(E.cells c)[0]?=J (Y aj i)/\(E.cells c)[1]?=J (Y aj j)) (hcs:∀ (k:Nat) (i j:Int),cs[k]?=J (Y aj i)->cs[k+1]?=J (Y aj j)->False) (a:aX) (c:α) (h:∀ j u,(E.cells c)[j]?=J u->W.cell? (a.add j)=J u):a.block≠b:=fun e=>by
 obtain⟨i,j,h0,h1⟩:=hE c;have c0:=Aj hb (h 0 _ h0) (by rw [wJ]; exact e);have c1:=Aj hb (h 1 _ h1) (by rw [wJ]; exact e);have o0:(a.add 0).off=a.off:=by rw [Addr.add_zero']
 have o1:(a.add 1).off=a.off+1:=by rw [add_pos _ _ (by decide)]
 rw [o0] at c0;rw [o1] at c1;exact hcs a.off i j c0 c1
theorem oK {W:ak} {b:Nat} {cs:Array ay} {t:bg} (hb:dN W b cs t) (hcs:∀ (k:Nat) (s:ByteArray),cs[k]?≠J (.string s)) (a:aX) (c:C5) (h:∀ j u,(EC.cells c)[j]?=J u->W.cell? (a.add j)=J u):a.block≠b:=fun e=>by
 have c0:=Aj hb (h 0 _ rfl) (by rw [wJ]; exact e);exact hcs _ _ c0
theorem mP (me:Int) (s1 s2 s3 s4 s5:Sl):∀ (k:Nat) (i j:Int),(jA me s1 s2 s3 s4 s5)[k]?=J (Y aj i)->(jA me s1 s2 s3 s4 s5)[k+1]?=J (Y aj j)->False:=by
 intro k i j h1 h2
 match k with
 | 0=>simp at h2
 | 1=>simp at h1
 | 2=>simp at h1
 | 3=>simp at h1
 | 4=>simp at h1
 | 5=>simp at h1
 | k+6=>simp at h1
theorem oL (me:Int) (s1 s2 s3 s4 s5:Sl):∀ (k:Nat) (s:ByteArray),(jA me s1 s2 s3 s4 s5)[k]?≠J (.string s):=by
 intro k s h
 match k with
 | 0=>simp at h
 | 1=>simp at h
 | 2=>simp at h
 | 3=>simp at h
 | 4=>simp at h
 | 5=>simp at h
 | k+6=>simp at h
theorem fD {W W':ak} {k:Nat} {me:Int} {s1 s2 s3 s4 s5:Sl} {b:Br} {nv av sv ev ov:Sl} (h:iI W b nv av sv ev ov) (hb:dN W k (jA me s1 s2 s3 s4 s5) 33) (hk:∀ j,j<W.heap.size->j≠k->W'.heap[j]?=W.heap[j]?) (hn:qI W' (dU nv) b.near):iI W' b nv av sv ev ov where
 near:=hn
 dQ:=by
  obtain⟨l,h1,h2⟩:=h.dQ;exact⟨l,iq okD h1 hk (kQ hb (fun c=>⟨_,_,rfl,rfl⟩) (mP me s1 s2 s3 s4 s5)),h2.mono fun x a hx=>⟨hx.1,hx.2.1,iq Dk hx.2.2 hk (oK hb (oL me s1 s2 s3 s4 s5))⟩⟩
 seen:=iq zP h.seen hk (kQ hb (fun c=>⟨_,_,rfl,rfl⟩) (mP me s1 s2 s3 s4 s5))
 ent:=by
  obtain⟨l,h1,h2⟩:=h.ent;exact⟨l,iq lF h1 hk (kQ hb (fun c=>⟨_,_,rfl,rfl⟩) (mP me s1 s2 s3 s4 s5)),h2.mono fun x a hx=>⟨hx.1,hx.2.1,hx.2.2.1,hx.2.2.2.1,iq Dk hx.2.2.2.2 hk (oK hb (oL me s1 s2 s3 s4 s5))⟩⟩
 own:=by
  obtain⟨l,h1,h2⟩:=h.own;exact⟨l,iq okW h1 hk (kQ hb (fun c=>⟨_,_,rfl,rfl⟩) (mP me s1 s2 s3 s4 s5)),h2.mono fun x a hx=>⟨hx.1,iq Dk hx.2 hk (oK hb (oL me s1 s2 s3 s4 s5))⟩⟩
end Bk
namespace Bk
open Go.RowKit Go.Sort Rw YtkcfgbddlpomgaaGreat.Nm Pr
theorem sK {W:ak} {b:Nat} {z0 z1 z2 z3 z4 z5:ay} (h:dN W b #[z0,z1,z2,z3,z4,z5] 33) (me:Int) (o1 o2 o3 o4 o5:Option aX) (n1 c1 n2 c2 n3 c3 n4 c4 n5 c5:Nat) :
  (Instr.storeAt 33 (ah (J ⟨b,0,O⟩)) (.agg #[Y aj me,D o1 n1 c1,D o2 n2 c2,D o3 n3 c3,D o4 n4 c4,D o5 n5 c5])).run U W=.ok () (gY W b (Y aj me) (D o1 n1 c1) (D o2 n2 c2) (D o3 n3 c3) (D o4 n4 c4) (D o5 n5 c5)):=by
 obtain⟨x0,x1,x2,x3,x4,x5⟩:=h.fB;obtain⟨f0,f1,f2,f3,f4,f5⟩:=h.kJ;simp [go_sem,x0,x1,x2,x3,x4,x5,f0,f1,f2,f3,f4,f5]
theorem vP {W:ak} {b:Nat} {z0 z1 z2 z3 z4 z5:ay} (h:dN W b #[z0,z1,z2,z3,z4,z5] 33):(Instr.loadAt 33 (ah (J ⟨b,0,O⟩))).run U W=.ok (.agg #[z0,z1,z2,z3,z4,z5]) W:=by
 obtain⟨x0,x1,x2,x3,x4,x5⟩:=h.fB;simp [go_sem,x0,x1,x2,x3,x4,x5]
theorem yh {P:Program} (ρ:Operand->ay) (o:Oper) (x y z:Operand) (t s r:bg) (f:FuncId) (ho:o.op=.call { callee:=.value (.func f),args:=#[x,y,z],argTypes:=#[t,s,r] }) {v u q:ay} (hx:ρ x=v) (hy:ρ y=u) (hz:ρ z=q) (hf:ρ (.func f)=.func (.func f) #[] #[]) (w:ak)
  (hc:(callFunc f #[v,u,q]).run P w=.ok (.enter f #[v,u,q]) w):(execOp ρ o).run P w=.ok (.enter f #[v,u,q]) w:=by
 simp [execOp,ho,resolve,invoke,hx,hy,hz,hf,Deferred.ofValue,hc]
theorem Nh {W:ak} {b:Nat} {c d:Int} (h:dN W b #[Y aj c,Y aj d] 38):∀ j u,(jQ (c,d))[j]?=J u->W.cell? ((⟨b,0,O⟩:aX).add j)=J u:=by
 intro j u hj;rw [lS,h.cell]
 match j with
 | 0=>exact hj
 | 1=>exact hj
 | j+2=>simp at hj
noncomputable def aam:Code:=((Tryz.f57.body.bind (eP 9)).getD .skip)
structure P9 (base:Act) (v0 v2:ay) (p:ay) (W W':ak) (L:Array Bool) (a:Act) (x:ak):Prop where
 df:a.defers=base.defers
 sz:a.tmps.size=base.tmps.size
 kp:∀ j,j≠112->j≠113->j≠114->j≠5->a.tmps[j]?=base.tmps[j]?
 t0:aG L 0->a.tmps[112]?=J v0
 t1:aG L 1->a.tmps[113]?=J p
 t2:aG L 2->a.tmps[114]?=J v2
 t4:aG L 4->a.tmps[5]?=J v2
 w0:¬ aG L 3->x=W.drew
 w1:aG L 3->x=W'
 c3:aG L 3->aG L 0
theorem yj (Q:Exit->Act->ak->Prop) (W:ak) (b2 b3 b4:Nat) (me:Int) (o1 o2 o3 o4 o5:Option aX) (n1 c1 n2 c2 n3 c3 n4 c4 n5 c5:Nat) (e0 e1 e2 e3 e4 e5 z0 z1 z2 z3 z4 z5:ay) (up:Bool) (u0 u1 u5 u6 u7 u8 u9 u10 u11 u12 u13 u14 u15 u16 u17 u18 u19 u20 u21 u22 u23 u24 u25 u26 u27 u28 u29 u30 u31 u32 u33 u34 u35 u36 u37 u38 u39 u40 u41 u42 u43 u44 u45 u46 u47 u48 u49 u50 u51 u52 u53 u54 u55 u56 u57 u58 u59 u60 u61 u62 u63 u64 u65 u66 u67 u68 u69 u70 u71 u72 u73 u74 u75 u76 u77 u78 u79 u80 u81 u82 u83 u84 u85 u86 u87 u88 u89 u90 u91 u92 u93 u94 u95 u96 u97 u98 u99 u100 u101 u102 u103 u104 u105 u106 u107 u108 u109 u110 u111 u112 u113 u114:ay)
  (h2:dN W b2 #[Y aj me,D o1 n1 c1,D o2 n2 c2,D o3 n3 c3,D o4 n4 c4,D o5 n5 c5] 33) (h3:dN W b3 #[e0,e1,e2,e3,e4,e5,aV up] 68) (h4:dN W b4 #[z0,z1,z2,z3,z4,z5] 33) (hne:b3≠b4)
  (hQ:∀ (a:Act) (x:ak),a.defers=[]->a.tmps[4]?=J (ah (J ⟨b4,0,O⟩))->a.tmps[5]?=J (aV up)->x=gY W.drew b4 (Y aj me) (D o1 n1 c1) (D o2 n2 c2) (D o3 n3 c3) (D o4 n4 c4) (D o5 n5 c5)->Q .normal a x) :
  Code.wp U aam Q ⟨(u0::u1::ah (J ⟨b2,0,O⟩)::ah (J ⟨b3,0,O⟩)::ah (J ⟨b4,0,O⟩)::u5::u6::u7::u8::u9::u10::u11::u12::u13::u14::u15::u16::u17::u18::u19::u20::u21::u22::u23::u24::u25::u26::u27::u28::u29::u30::u31::u32::u33::u34::u35::u36::u37::u38::u39::u40::u41::u42::u43::u44::u45::u46::u47::u48::u49::u50::u51::u52::u53::u54::u55::u56::u57::u58::u59::u60::u61::u62::u63::u64::u65::u66::u67::u68::u69::u70::u71::u72::u73::u74::u75::u76::u77::u78::u79::u80::u81::u82::u83::u84::u85::u86::u87::u88::u89::u90::u91::u92::u93::u94::u95::u96::u97::u98::u99::u100::u101::u102::u103::u104::u105::u106::u107::u108::u109::u110::u111::u112::u113::u114::[]).toArray,[]⟩ W:=by
 have HQ:=aK hQ;have H2:=aK h2.drew;have H3:=aK h3.drew;have H4:=aK h4.drew;have X3:=aK (show dN (gY W.drew b4 (Y aj me) (D o1 n1 c1) (D o2 n2 c2) (D o3 n3 c3) (D o4 n4 c4) (D o5 n5 c5)) b3 #[e0,e1,e2,e3,e4,e5,aV up] 68 from (dL W.drew b4 (Y aj me) (D o1 n1 c1) (D o2 n2 c2) (D o3 n3 c3) (D o4 n4 c4) (D o5 n5 c5) b3 hne).trans h3.drew);clear hQ h2 h3 h4 hne;unfold aam
 conv=>arg 2; whnf
 obtain⟨base,hbase⟩:∃ b:Act,b=⟨(u0::u1::ah (J ⟨b2,0,O⟩)::ah (J ⟨b3,0,O⟩)::ah (J ⟨b4,0,O⟩)::u5::u6::u7::u8::u9::u10::u11::u12::u13::u14::u15::u16::u17::u18::u19::u20::u21::u22::u23::u24::u25::u26::u27::u28::u29::u30::u31::u32::u33::u34::u35::u36::u37::u38::u39::u40::u41::u42::u43::u44::u45::u46::u47::u48::u49::u50::u51::u52::u53::u54::u55::u56::u57::u58::u59::u60::u61::u62::u63::u64::u65::u66::u67::u68::u69::u70::u71::u72::u73::u74::u75::u76::u77::u78::u79::u80::u81::u82::u83::u84::u85::u86::u87::u88::u89::u90::u91::u92::u93::u94::u95::u96::u97::u98::u99::u100::u101::u102::u103::u104::u105::u106::u107::u108::u109::u110::u111::u112::u113::u114::[]).toArray,[]⟩:=⟨_,rfl⟩;have b2t:base.tmps[2]?=J (ah (J ⟨b2,0,O⟩)):=by rw [hbase]; rfl
 have b3t:base.tmps[3]?=J (ah (J ⟨b3,0,O⟩)):=by rw [hbase]; rfl
 have b4t:base.tmps[4]?=J (ah (J ⟨b4,0,O⟩)):=by rw [hbase]; rfl
 have bsz:base.tmps.size=115:=by rw [hbase]; rfl
 have bdf:base.defers=[]:=by rw [hbase]
 rw [<- hbase];clear hbase;generalize hW':gY W.drew b4 (Y aj me) (D o1 n1 c1) (D o2 n2 c2) (D o3 n3 c3) (D o4 n4 c4) (D o5 n5 c5)=W' at *;refine Rg.sG (fun L a x=>P9 base (.agg #[Y aj me,D o1 n1 c1,D o2 n2 c2,D o3 n3 c3,D o4 n4 c4,D o5 n5 c5]) (aV up) (ah (J ⟨b3,6,O⟩)) W W' L a x) (by kernel_rfl) (by kernel_rfl) ?_ ?_ ?_
 ·exact⟨rfl,rfl,fun _ _ _ _ _=>rfl,fun h=>absurd h (aY _ _),fun h=>absurd h (aY _ _),fun h=>absurd h (aY _ _),fun h=>absurd h (aY _ _),fun _=>rfl,fun h=>absurd h (aY _ _),fun h=>absurd h (aY _ _)⟩
 ·intro L a x i o hsz I ho hnd pF;have hi:i<5:=(aF.1 ho).1;have hL:L.size=5:=hsz;have Cw:i<L.size:=by omega
  have k2:a.eval (.tmp 2)=ah (J ⟨b2,0,O⟩):=aZ ((I.kp 2 (by decide) (by decide) (by decide) (by decide)).trans b2t);have k3:a.eval (.tmp 3)=ah (J ⟨b3,0,O⟩):=aZ ((I.kp 3 (by decide) (by decide) (by decide) (by decide)).trans b3t);have k4:a.eval (.tmp 4)=ah (J ⟨b4,0,O⟩):=aZ ((I.kp 4 (by decide) (by decide) (by decide) (by decide)).trans b4t);have asz:a.tmps.size=115:=I.sz.trans bsz;have self:∀ (d:Nat) (v:ay),d<115->(a.put (J d) v).tmps[d]?=J v:=fun d v hd=>by
   have:d<a.tmps.size:=by omega
   simp [Act.put,this]
  have ds:=fun j=>Rg.iF Cw j;rcases (by omega:i=0\/i=1\/i=2\/i=3\/i=4) with rfl|rfl|rfl|rfl|rfl
  ·cases ho;have hx:x=W.drew:=I.w0 fun h=>hnd (I.c3 h);exact bI rfl rfl (Rg.dZ a.eval _ 33 (.tmp 2) rfl (by rw [k2,hx]; exact vP H2.out)) ⟨I.df,(aL a _ _).trans I.sz,fun j j1 j2 j3 j4=>(X _ _ _ j (by omega)).trans (I.kp j j1 j2 j3 j4),fun _=>self 112 _ (by decide),fun h=>(X _ _ _ 113 (by decide)).trans (I.t1 (((ds 1).1 h).resolve_left (by decide))),fun h=>(X _ _ _ 114 (by decide)).trans (I.t2 (((ds 2).1 h).resolve_left (by decide))),fun h=>(X _ _ _ 5 (by decide)).trans (I.t4 (((ds 4).1 h).resolve_left (by decide))),fun h=>I.w0 fun h3=>h ((ds 3).2 (aH h3)),fun h=>I.w1 (((ds 3).1 h).resolve_left (by decide)),fun h=>(ds 0).2 (bH rfl)⟩
  ·cases ho;exact bI rfl rfl (Rg.dX a.eval _ 68 (.tmp 3) 4 rfl (by rw [k3]; simp [go_sem])) ⟨I.df,(aL a _ _).trans I.sz,fun j j1 j2 j3 j4=>(X _ _ _ j (by omega)).trans (I.kp j j1 j2 j3 j4),fun h=>(X _ _ _ 112 (by decide)).trans (I.t0 (((ds 0).1 h).resolve_left (by decide))),fun _=>self 113 _ (by decide),fun h=>(X _ _ _ 114 (by decide)).trans (I.t2 (((ds 2).1 h).resolve_left (by decide))),fun h=>(X _ _ _ 5 (by decide)).trans (I.t4 (((ds 4).1 h).resolve_left (by decide))),fun h=>I.w0 fun h3=>h ((ds 3).2 (aH h3)),fun h=>I.w1 (((ds 3).1 h).resolve_left (by decide)),fun h=>(ds 0).2 (aH (I.c3 (((ds 3).1 h).resolve_left (by decide))))⟩
  ·cases ho;have k113:a.eval (.tmp 113)=ah (J ⟨b3,6,O⟩):=aZ (I.t1 (pF ⟨1,.data⟩ (by simp) rfl));have hc:x.cell? ⟨b3,6,O⟩=J (aV up):=by
    by_cases h3:aG L 3
    ·rw [I.w1 h3]; exact X3.out.cell 6
    ·rw [I.w0 h3]; exact H3.out.cell 6
   exact bI rfl rfl (Rg.dZ a.eval _ 4 (.tmp 113) rfl (by rw [k113]; simp [go_sem,hc])) ⟨I.df,(aL a _ _).trans I.sz,fun j j1 j2 j3 j4=>(X _ _ _ j (by omega)).trans (I.kp j j1 j2 j3 j4),fun h=>(X _ _ _ 112 (by decide)).trans (I.t0 (((ds 0).1 h).resolve_left (by decide))),fun h=>(X _ _ _ 113 (by decide)).trans (I.t1 (((ds 1).1 h).resolve_left (by decide))),fun _=>self 114 _ (by decide),fun h=>(X _ _ _ 5 (by decide)).trans (I.t4 (((ds 4).1 h).resolve_left (by decide))),fun h=>I.w0 fun h3=>h ((ds 3).2 (aH h3)),fun h=>I.w1 (((ds 3).1 h).resolve_left (by decide)),fun h=>(ds 0).2 (aH (I.c3 (((ds 3).1 h).resolve_left (by decide))))⟩
  ·cases ho;have hx:x=W.drew:=I.w0 hnd;refine Rg.fP 33 (.tmp 4) (.tmp 112) rfl rfl rfl rfl k4 (aZ (I.t0 (pF ⟨0,.data⟩ (by simp) rfl))) (w':=W') (by rw [hx,<- hW']; exact sK H4.out me _ _ _ _ _ _ _ _ _ _ _ _ _ _ _) ?_;exact⟨I.df,I.sz,I.kp,fun h=>I.t0 (((ds 0).1 h).resolve_left (by decide)),fun h=>I.t1 (((ds 1).1 h).resolve_left (by decide)),fun h=>I.t2 (((ds 2).1 h).resolve_left (by decide)),fun h=>I.t4 (((ds 4).1 h).resolve_left (by decide)),fun h=>absurd ((ds 3).2 (bH rfl)) h,fun _=>rfl,fun _=>(ds 0).2 (aH (pF ⟨0,.data⟩ (by simp) rfl))⟩
  ·cases ho;have k114:a.eval (.tmp 114)=aV up:=aZ (I.t2 (pF ⟨2,.data⟩ (by simp) rfl));exact bI rfl rfl (Rg.jM a.eval _ (.tmp 114) rfl x) (by rw [k114]; exact⟨I.df,(aL a _ _).trans I.sz,fun j j1 j2 j3 j4=>(X _ _ _ j (by omega)).trans (I.kp j j1 j2 j3 j4),fun h=>(X _ _ _ 112 (by decide)).trans (I.t0 (((ds 0).1 h).resolve_left (by decide))),fun h=>(X _ _ _ 113 (by decide)).trans (I.t1 (((ds 1).1 h).resolve_left (by decide))),fun h=>(X _ _ _ 114 (by decide)).trans (I.t2 (((ds 2).1 h).resolve_left (by decide))),fun _=>self 5 _ (by decide),fun h=>I.w0 fun h3=>h ((ds 3).2 (aH h3)),fun h=>I.w1 (((ds 3).1 h).resolve_left (by decide)),fun h=>(ds 0).2 (aH (I.c3 (((ds 3).1 h).resolve_left (by decide))))⟩)
 ·intro L a x I hd;exact HQ.out a x (I.df.trans bdf) ((I.kp 4 (by decide) (by decide) (by decide) (by decide)).trans b4t) (I.t4 (hd 4 (by decide))) ((I.w1 (hd 3 (by decide))))
end Bk
namespace Av
open Go.RowKit Rw YtkcfgbddlpomgaaGreat.Nm Pr Bk
theorem Uf {W:ak} {b:Nat} {c:eT} (h:dN W b (jQ c).toArray 38):xP W (D (J ⟨b,0,O⟩) 1 1) [c] :=
 aH ⟨⟨b,0,O⟩,1,rfl,by simp,by decide,wo h (by simp [EJ])⟩
def Ak (B:Nat) (l:List eT) (k:Nat) (c:eT) (vv:ay) (W:ak) (e:Ending) (w':ak):Prop:=∃ v',e=aJ v'/\qY w' B v' (l.take k++c::l.drop k)/\Below B W w'/\(∀ j,j<W.heap.size->J j≠vv.ownBlock->w'.heap[j]?=W.heap[j]?)
theorem Ip (B:Nat) (v:ay) (l:List eT) (c:eT) (b:Nat) (W:ak) (ho:qY W B v l) (hx:dN W b (jQ c).toArray 38) (hl:l.length<=900) (hB:B<=W.heap.size) :
  bf U 101 #[v,Y aj (l.length:Nat),D (J ⟨b,0,O⟩) 1 1] W (Ak B l l.length c v W):=by
 obtain⟨v',w',hr,ho2,hg⟩:=gG zP B ho (Uf hx) (by omega) (by simp) hB 29;have hr:(aU #[29,29] 29 #[v,D (J ⟨b,0,O⟩) 1 1]).run U W=.ok v' w':=hr;have Q:=aK (show Ak B l l.length c v W (aJ v') w' from ⟨v',rfl,by rw [List.take_of_length_le (aM _),List.drop_of_length_le (aM _)]; exact ho2,(Below.refl B W).grown hg hB (fun j hj=>(ho.lt j hj).1),fun j hj hne=>hg.block j hj hne⟩);obtain⟨sx,hs,_⟩:=qH zP (Row.dH ho) l.length (aM _);have hs:∀ w,(Z 29 v (J (Y aj l.length)) O O).run U w=.ok sx w:=hs;obtain⟨ao,ac,rfl⟩:=(Row.dH ho).len;clear ho ho2 hg;generalize hn:l.length=n at *;clear hn;go_enter aS,aO;go_wp2_with (first | (at_builtin; refine wpList_append_run rfl _ _ 29 rfl rfl rfl hr ?_) | fail);go_ret;exact Q.out
theorem Ug (w:ak) (g b k la lb cb:Nat) (cur cs:Array ay) (hb:dN w b cs 38) (hg:dN w g cur 38) (hne:b≠g) (h0:0<cur.size):(callFunc 114 #[D (J ⟨b,0,O⟩) la 1,D (J ⟨g,k,O⟩) lb cb]).run U w=.ok (.value (aV false)) w:=by
 rw [run_callFunc_extern Tryz.func114 (by kernel_rfl) (by kernel_rfl) (by kernel_rfl) (e:=Extern.SlicesOverlaps.overlaps #[29,29] #[4]) (by kernel_rfl),
  Lib.run_overlaps_apart w 29 4 38 Tryz.underlying29 2 Tryz.sizeOf38 ⟨b,0,O⟩ ⟨g,k,O⟩ la 1 lb cb hne 38 38 cs.size cur.size hb.shape hg.shape (by omega) (hb.fr 0) (hb.fr _)]
 rfl
theorem CK (B g n cap:Nat) (cur:Array ay) (l:List eT) (k:Nat) (c:eT) (b:Nat) (W:ak) (hn:n=l.length) (hBg:B<=g) (hg:dN W g cur 38) (hcm:cap<=maxLen) (hsz:cur.size=cap * 2) (ht:cur.toList.take (n * 2)=flat EJ l) (hx:dN W b (jQ c).toArray 38) (hne:b≠g) (hk:k<n) (hroom:n+1<=cap) (hl:n<=900) :
  bf U 101 #[D (J ⟨g,0,O⟩) n cap,Y aj k,D (J ⟨b,0,O⟩) 1 1] W (Ak B l k c (D (J ⟨g,0,O⟩) n cap) W):=by
 obtain⟨R1,R2,r1,r2,ow⟩:=xM (E:=EJ) (l:=l) (k:=k) (cap:=cap) (cur:=cur) (cs:=(jQ c).toArray) (c:=c) zP (by omega) (by omega) hsz (by rw [<- hn]; exact ht) g b hne;have hov:=fun lb cb=>Ug W g b ((k+1) * 2) 1 lb cb cur (jQ c).toArray hx hg hne (by omega);have s0:=jF (E:=EJ) zP g k n cap (by omega) (by omega);have s1:=nQ (E:=EJ) zP ⟨g,0,O⟩ (n+1) n cap (by omega);have s2:=jF (E:=EJ) zP g (k+1) (n+1) cap (by omega) (by omega);have s3:=jF (E:=EJ) zP g k (n+1) cap (by omega) (by omega);have q1:=r1 W.drew 3 (n+1-(k+1)) (cap-(k+1)) (n+1-k) (cap-k) hg (by omega);have q2:=r2 (W.drew.setRow g R1) 3 (n+1-k) (cap-k) (dN.set (show dN W.drew g cur 38 from hg) R1) (dN.other (show dN W.drew b _ 38 from hx) hne R1) rfl (by omega);have Q:=aK (show Ak B l k c (D (J ⟨g,0,O⟩) n cap) W (aJ (D (J ⟨g,0,O⟩) (n+1) cap)) ((W.drew.setRow g R1).setRow g R2) from ⟨_,rfl,by rw [hn]; exact ow _ B hBg hcm (dN.set (dN.set (show dN W.drew g cur 38 from hg) R1) R2),below_setRow (below_setRow (Below.refl B W).drew hBg _) hBg _,fun j hj hne=>(setRow_other _ g j _ (fun e=>hne (by rw [e]; rfl))).trans (setRow_other _ g j _ (fun e=>hne (by rw [e]; rfl)))⟩);clear r1 r2 ow hg ht hx hsz hBg hcm;change ∀ w,(Z 29 (D (J ⟨g,0,O⟩) n cap) (J (Y aj k)) O O).run U w=.ok (D (J ⟨g,k * 2,O⟩) (n-k) (cap-k)) w at s0;change ∀ w,(Z 29 (D (J ⟨g,0,O⟩) n cap) O (J (Y aj ((n:Int)+1))) O).run U w=.ok (D (J ⟨g,0,O⟩) (n+1) cap) w at s1;change ∀ w,(Z 29 (D (J ⟨g,0,O⟩) (n+1) cap) (J (Y aj ((k:Int)+1))) O O).run U w=.ok (D (J ⟨g,(k+1) * 2,O⟩) (n+1-(k+1)) (cap-(k+1))) w at s2;change ∀ w,(Z 29 (D (J ⟨g,0,O⟩) (n+1) cap) (J (Y aj k)) O O).run U w=.ok (D (J ⟨g,k * 2,O⟩) (n+1-k) (cap-k)) w at s3;have e1:((k:Int) == (n:Int))=false:=by rw [beq_eq_false_iff_ne]; omega
 have e2:decide ((cap:Int)<(n:Int)+1)=false:=by simp; omega
 change (aI #[29,29] 3 #[D (J ⟨g,(k+1) * 2,O⟩) (n+1-(k+1)) (cap-(k+1)),D (J ⟨g,k * 2,O⟩) (n+1-k) (cap-k)]).run U W.drew=.ok (Y aj ((l.length-k:Nat):Int)) (W.drew.setRow g R1) at q1;change (aI #[29,29] 3 #[D (J ⟨g,k * 2,O⟩) (n+1-k) (cap-k),D (J ⟨b,0,O⟩) 1 1]).run U (W.drew.setRow g R1)=.ok (Y aj 1) ((W.drew.setRow g R1).setRow g R2) at q2;clear hn;go_enter aS,aO;go_wp2_with (first | (simp only [hov]) | fail);clear hov s0 s1 s2 s3;have hw1:IntKind.i64.wrap ((k:Int)+1)=(k:Int)+1:=by rw [aT]; omega
 have hb1:(0:Int)<=(k:Int)+1:=by omega
 have hb0:(k:Int)+1<=(n:Int)+1:=by omega
 have htn:((k:Int)+1).toNat=k+1:=by omega
 have hb2:¬ (cap=k+1):=by omega
 have hb3:(k:Int)<=(n:Int)+1:=by omega
 have hb4:¬ (cap=k):=by omega
 have h81:n+1-(k+1)=n-k:=by omega
 rw [h81] at q1;clear h81
 go_region_law (refine kF rfl (.tmp 73) (.tmp 76) 29 rfl (v:=D (J ⟨g,(k+1) * 2,O⟩) (n-k) (cap-(k+1))) (xv:=D (J ⟨g,k * 2,O⟩) (n+1-k) (cap-k)) (by simp [Act.eval,Act.put]) (by simp [Act.eval,Act.put]) q1 ?_)
 all_goals simp only [Exit.then]
 all_goals apply_assumption
 clear q1 hw1 hb1 hb0 htn hb2 hb3 hb4;have s3:=jF (E:=EJ) zP g k (n+1) cap (by omega) (by omega);change ∀ w,(Z 29 (D (J ⟨g,0,O⟩) (n+1) cap) (J (Y aj k)) O O).run U w=.ok (D (J ⟨g,k * 2,O⟩) (n+1-k) (cap-k)) w at s3;go_wp2_with (first | (at_builtin; refine wpList_copy_run rfl _ _ 29 rfl rfl rfl q2 ?_) | fail);go_ret;exact Q.out
theorem FX (B g n cap:Nat) (cur:Array ay) (l:List eT) (k:Nat) (c:eT) (b:Nat) (W:ak) (hn:n=l.length) (hg:dN W g cur 38) (hcm:cap<=maxLen) (hnc:n<=cap) (ht:cur.toList.take (n * 2)=flat EJ l) (hx:dN W b (jQ c).toArray 38) (hk:k<n) (hroom:cap<n+1) (hl:n<=900) (hB:B<=W.heap.size) :
  bf U 101 #[D (J ⟨g,0,O⟩) n cap,Y aj k,D (J ⟨b,0,O⟩) 1 1] W (Ak B l k c (D (J ⟨g,0,O⟩) n cap) W):=by
 have hgw:=hg.lt;have hbw:=hx.lt;obtain⟨G,R1,R2,R3,hG1,hG2,r1,r2,r3,ow⟩:=zK (E:=EJ) (l:=l) (k:=k) (cap:=cap) (cur:=cur) (cs:=(jQ c).toArray) (c:=c) zP 3 Tryz.underlying3 (by omega) (by omega) (by omega) (by omega) (by rw [<- hn]; exact ht) W g b hg hbw;unfold maxLen at hcm hG2;have s0:=jF (E:=EJ) zP g k n cap (by omega) (by omega);have s1:=nQ (E:=EJ) zP ⟨g,0,O⟩ k n cap (by omega);have s2:=jF (E:=EJ) zP W.heap.size k (n+1) G (by omega) (by omega);have s3:=jF (E:=EJ) zP W.heap.size (k+1) (n+1) G (by omega) (by omega);have a1:=r1 29;have n1:=dO W.drew R1 38;have bl:W.drew.heap.size=W.heap.size:=rfl;rw [bl] at n1;have g1:dN (W.drew.alloc (aC R1 38)) g cur 38:=dN.more (show dN W.drew g cur 38 from hg) _;have x1:dN (W.drew.alloc (aC R1 38)) b (jQ c).toArray 38:=dN.more (show dN W.drew b _ 38 from hx) _;have q2:=r2 (W.drew.alloc (aC R1 38)) 3 (n+1-k) (G-k) n1 x1 rfl (by omega);have q3:=r3 ((W.drew.alloc (aC R1 38)).setRow W.heap.size R2).drew 3 (n+1-(k+1)) (G-(k+1)) (n-k) (cap-k) (dN.set n1 R2) (dN.other g1 (by omega) R2) (by omega);have Q:=aK (show Ak B l k c (D (J ⟨g,0,O⟩) n cap) W (aJ (D (J ⟨W.heap.size,0,O⟩) (n+1) G)) (((W.drew.alloc (aC R1 38)).setRow W.heap.size R2).drew.setRow W.heap.size R3) from ⟨_,rfl,by rw [hn]; exact ow _ B hB (dN.set (dN.set n1 R2) R3),below_setRow (below_setRow ((Below.refl B W).drew.alloc hB _) hB _).drew hB _,fun j hj _=>(setRow_other _ W.heap.size j _ (by omega)).trans ((setRow_other _ W.heap.size j _ (by omega)).trans (Array.getElem?_push_lt hj |>.trans (Array.getElem?_eq_getElem hj).symm))⟩);have l1:l.length+1=n+1:=by rw [hn]
 rw [l1,<- hn] at a1;clear r1 r2 r3 ow hg ht hx g1 x1 n1 bl l1;change ∀ w,(Z 29 (D (J ⟨g,0,O⟩) n cap) (J (Y aj k)) O O).run U w=.ok (D (J ⟨g,k * 2,O⟩) (n-k) (cap-k)) w at s0;change ∀ w,(Z 29 (D (J ⟨g,0,O⟩) n cap) O (J (Y aj k)) O).run U w=.ok (D (J ⟨g,0,O⟩) k cap) w at s1;change ∀ w,(Z 29 (D (J ⟨W.heap.size,0,O⟩) (n+1) G) (J (Y aj k)) O O).run U w=.ok (D (J ⟨W.heap.size,k * 2,O⟩) (n+1-k) (G-k)) w at s2;change ∀ w,(Z 29 (D (J ⟨W.heap.size,0,O⟩) (n+1) G) (J (Y aj ((k:Int)+1))) O O).run U w=.ok (D (J ⟨W.heap.size,(k+1) * 2,O⟩) (n+1-(k+1)) (G-(k+1))) w at s3;change (aU #[29,3] 29 #[D (J ⟨g,0,O⟩) k cap,Y aj ((n:Int)+1-k)]).run U W=.ok (D (J ⟨W.heap.size,0,O⟩) (n+1) G) (W.drew.alloc (aC R1 38)) at a1;change (aI #[29,29] 3 #[D (J ⟨W.heap.size,k * 2,O⟩) (n+1-k) (G-k),D (J ⟨b,0,O⟩) 1 1]).run U (W.drew.alloc (aC R1 38))=.ok (Y aj 1) ((W.drew.alloc (aC R1 38)).setRow W.heap.size R2) at q2;change (aI #[29,29] 3 #[D (J ⟨W.heap.size,(k+1) * 2,O⟩) (n+1-(k+1)) (G-(k+1)),D (J ⟨g,k * 2,O⟩) (n-k) (cap-k)]).run U ((W.drew.alloc (aC R1 38)).setRow W.heap.size R2).drew=.ok (Y aj ((l.length-k:Nat):Int)) (((W.drew.alloc (aC R1 38)).setRow W.heap.size R2).drew.setRow W.heap.size R3) at q3;have e1:((k:Int) == (n:Int))=false:=by rw [beq_eq_false_iff_ne]; omega
 have e2:decide ((cap:Int)<(n:Int)+1)=true:=by simp; omega
 have hGn:n+1<=G:=by omega
 clear hn;generalize W.heap.size=N at *;generalize W.drew.alloc (aC R1 38)=W1 at *;generalize W1.setRow N R2=W2 at *;go_enter aS,aO;go_wp2_with (first | (at_builtin; refine lU rfl _ _ 29 3 rfl rfl rfl a1 ?_) | (at_builtin; refine wpList_copy_run rfl _ _ 29 rfl rfl rfl q2 ?_) | fail);clear a1 q2 s0 s1 s2 s3;have hw1:IntKind.i64.wrap ((k:Int)+1)=(k:Int)+1:=by rw [aT]; omega
 have hb1:(0:Int)<=(k:Int)+1:=by omega
 have hb0:(k:Int)+1<=(n:Int)+1:=by omega
 have htn:((k:Int)+1).toNat=k+1:=by omega
 have hb2:¬ (G=k+1):=by omega
 have hb3:(k:Int)<=(n:Int):=by omega
 have hb4:¬ (cap=k):=by omega
 have h81:n+1-(k+1)=n-k:=by omega
 rw [h81] at q3;clear h81
 go_region_law (refine kF rfl (.tmp 50) (.tmp 53) 29 rfl (v:=D (J ⟨N,(k+1) * 2,O⟩) (n-k) (G-(k+1))) (xv:=D (J ⟨g,k * 2,O⟩) (n-k) (cap-k)) (by simp [Act.eval,Act.put]) (by simp [Act.eval,Act.put]) q3 ?_)
 all_goals simp only [Exit.then]
 all_goals apply_assumption
 go_wp2;go_ret;exact Q.out
theorem Iq (B:Nat) (v:ay) (l:List eT) (k:Nat) (c:eT) (b:Nat) (W:ak) (ho:qY W B v l) (hx:dN W b (jQ c).toArray 38) (hne:v.ownBlock≠J b) (hk:k<=l.length) (hl:l.length<=900) (hB:B<=W.heap.size) :
  bf U 101 #[v,Y aj k,D (J ⟨b,0,O⟩) 1 1] W (Ak B l k c v W):=by
 rcases aB k l.length with h|h
 ·rcases gQ ho with⟨_,h2⟩|⟨g,cap,cur,rfl,h1,h2,h3,h4,h5,h6⟩
  ·rw [h2] at h; simp at h
  ·rcases aB cap (l.length+1) with h7|h7
   ·exact FX B g _ cap cur l k c b W rfl h2 h4 h3 h6 hx h h7 hl hB
   ·exact CK B g _ cap cur l k c b W rfl h1 h2 h4 h5 h6 hx (fun e=>hne (by simp [Value.ownBlock,e])) h h7 hl
 ·obtain rfl:k=l.length:=by omega
  exact Ip B v l c b W ho hx hl hB
end Av
namespace Av
open Go.RowKit Rw YtkcfgbddlpomgaaGreat.Nm Pr Bk Go.Sort
theorem Uh {α:Type} [Inhabited α] (enc:α->ay) (d:Array α) (cur:Array ay) (h:d.size<=cur.size):(putCells enc 0 d cur).toList.take d.size=d.toList.map enc:=by
 apply List.ext_getElem?;intro j;rw [aP];by_cases hj:j<d.size
 ·have hc:j<cur.size:=by omega
  simp [putCells,hj,hc]
 ·simp [hj]
theorem Al {α β:Type} [Inhabited β] {E:Ek α} (K:E.Ok) {w:ak} {B g cap:Nat} {l l':List α} (h:Own E w B (D (J ⟨g,0,O⟩) l.length cap) l) (enc:β->ay) (d:Array β) (hd:d.toList.map enc=flat E l') (hl:l'.length=l.length) (n:Nat) (os:Array Obj) :
  Own E (grow (putRow enc (au w n) g 0 d) os) B (D (J ⟨g,0,O⟩) l.length cap) l'/\w.grownBy (grow (putRow enc (au w n) g 0 d) os) (J g):=by
 have hds:d.size=l.length * E.n:=by
  rw [<- hl,<- eF K l',<- hd];simp
 rcases gQ h with⟨e,_⟩|⟨g',cap',cur,e,h1,h2,h3,h4,h5,h6⟩
 ·cases e
 obtain⟨rfl,rfl⟩:g=g'/\cap=cap':=by simpa using e
 have hlt:=lt_of_heap h2;have hb:(grow (putRow enc (au w n) g 0 d) os).heap[g]?=J (aC (putCells enc 0 d cur) E.t (0,0)):=by
  rw [heap_grow_old _ _ (by simp [putRow,mapBlock,au]; exact hlt)];unfold dN at h2;simp only [putRow,mapBlock,au,Array.getElem?_modify,if_true,h2]
  rfl
 have hfit:d.size<=cur.size:=by
  rw [hds,h5];exact aN _ h3
 refine⟨⟨by rw [eF K],aH ⟨g,cap,_,by rw [hl],h1,hb,by rw [hl]; exact h3,h4,by simp [putCells]; exact h5,?_⟩⟩,⟨rfl,rfl,rfl,by simp [putRow,mapBlock,au],fun k hk hne=>?_⟩⟩
 ·rw [hl,<- hds,Uh enc d cur hfit,hd]
 ·rw [heap_grow_old _ _ (by simp [putRow,mapBlock,au]; exact hk)];have hkg:g≠k:=fun e=>hne (by rw [e]);simp [putRow,mapBlock,au,Array.getElem?_modify,hkg]
theorem Dz {α:Type} {E:Ek α} {w:ak} {B g cap:Nat} {l:List α} (K:E.Ok) {β:Type} [Inhabited β] (enc:β->ay) (d:Array β) (hd:d.toList.map enc=flat E l) (h:Own E w B (D (J ⟨g,0,O⟩) l.length cap) l):Holds enc w g 0 d/\g<w.heap.size:=by
 rcases gQ h with⟨e,_⟩|⟨g',cap',cur,e,h1,h2,h3,h4,h5,h6⟩
 ·cases e
 obtain⟨rfl,rfl⟩:g=g'/\cap=cap':=by simpa using e
 refine⟨fun j hj=>?_,h2.lt⟩;rw [Nat.zero_add];refine⟨?_,h2.fr j⟩;rw [h2.cell j];have hsz:d.size=l.length * E.n:=by
  rw [<- eF K l,<- hd];simp
 have h7:(cur.toList.take (l.length * E.n))[j]?=(d.toList.map enc)[j]?:=by rw [h6,hd]
 rw [aP,if_pos (by omega)] at h7;rw [Array.getElem?_toList] at h7;rw [h7,List.getElem?_map,Array.getElem?_toList,getElem!_pos d j hj,Array.getElem?_eq_getElem hj]
 rfl
theorem DC (w:ak) (B:Nat) (v:ay) (l:List Int) (h:kS w B v l) (hlen:l.length<=900):bf U 75 #[v] w fun e w'=>e=aJ (.tuple #[])/\∃ l':List Int,kS w' B v l'/\l'.Perm l/\l'.Pairwise (·<=·)/\w.grownBy w' v.ownBlock:=by
 rcases gQ h with⟨rfl,rfl⟩|⟨g,cap,cur,rfl,h1,h2,h3,h4,h5,h6⟩
 ·have hc:=Any.slices_Sort_int_none bA O 0 w;refine Calls.mono hc ?_;rintro e w' ⟨rfl,rfl⟩;exact⟨rfl,[],h,List.Perm.refl _,List.Pairwise.nil,Rw.sF _ _⟩
 ·obtain⟨hh,hlt⟩:=Dz Nm.Hl (Y aj) l.toArray (by rw [Ho]) h;have hc:=Any.slices_Sort_int bA g 0 cap l w hh hlt (by omega);refine Calls.mono hc ?_;rintro e w' ⟨rfl,n,os,rfl⟩;have hs:=Al Nm.Hl (l':=l.mergeSort fun x y=>decide (x<=y)) h (Y aj) (l.mergeSort fun x y=>decide (x<=y)).toArray (by rw [Ho]) (List.length_mergeSort l) n os;refine⟨rfl,_,hs.1,List.mergeSort_perm _ _,?_,hs.2⟩;have hp:=List.pairwise_mergeSort (le:=fun x y:Int=>decide (x<=y)) (fun a b c h1 h2=>by simp at h1 h2 ⊢; omega) (fun a b=>by simp; omega) l;exact hp.imp (fun {a b} hab=>by simpa using hab)
theorem Ir (d:Array Int) (n:Nat) (hs:∀ i j,i<=j->j<n->d[i]!<=d[j]!):∀ m,m<=n->(∀ x∈aA d m,∃ j,j<m/\d[j]! = x)/\(∀ j,j<m->d[j]!∈aA d m)/\(aA d m).Pairwise (·<·)
 | 0,_=>⟨fun x h=>by simp [aA] at h,fun j h=>by omega,by simp [aA]⟩
 | m+1,hm=>by
  obtain⟨h1,h2,h3⟩:=Ir d n hs m (by omega);rw [Lib.compactUpTo_succ];cases hk:Lib.keeps d m with
  | false =>
   simp only [Bool.false_eq_true,if_false,List.append_nil];have hk':m≠0/\d[m]! = d[m-1]!:=by
    have h:=of_decide_eq_false hk;rw [not_or] at h;exact⟨h.1,Classical.not_not.1 h.2⟩
   refine⟨fun x hx=>?_,fun j hj=>?_,h3⟩
   ·obtain⟨j,hj,e⟩:=h1 x hx;exact⟨j,by omega,e⟩
   ·rcases aB j m with h|h
    ·exact h2 j h
    ·obtain rfl:j=m:=by omega
     rw [hk'.2];exact h2 _ (by omega)
  | true =>
   simp only [if_true];have hk':m=0\/d[m]!≠d[m-1]!:=of_decide_eq_true hk;refine⟨fun x hx=>?_,fun j hj=>?_,?_⟩
   ·rcases List.mem_append.1 hx with h|h
    ·obtain⟨j,hj,e⟩:=h1 x h;exact⟨j,by omega,e⟩
    ·exact⟨m,by omega,(aQ.1 h).symm⟩
   ·rcases aB j m with h|h
    ·exact List.mem_append_left _ (h2 j h)
    ·obtain rfl:j=m:=by omega
     exact List.mem_append_right _ (by simp)
   ·rw [List.pairwise_append];refine⟨h3,List.pairwise_singleton _ _,fun a ha b hb=>?_⟩;obtain⟨j,hj,rfl⟩:=h1 a ha;rw [aQ.1 hb];have a1:=hs j (m-1) (by omega) (by omega);have a2:=hs (m-1) m (by omega) (by omega);rcases hk' with h|h
    ·omega
    ·omega
theorem K6 (l:List Int) (hs:l.Pairwise (·<=·)):(V l).Pairwise (·<·)/\(∀ x,x∈V l↔x∈l)/\(V l).length<=l.length:=by
 have hd:∀ i j,i<=j->j<l.length->l.toArray[i]!<=l.toArray[j]!:=by
  intro i j hij hj;rw [getElem!_pos l.toArray i (by simp; omega),getElem!_pos l.toArray j (by simpa using hj)];rcases aB i j with h|h
  ·have:=List.pairwise_iff_getElem.1 hs i j (by omega) hj h;simpa using this
  ·obtain rfl:i=j:=by omega
   exact Int.le_refl _
 obtain⟨h1,h2,h3⟩:=Ir l.toArray l.length hd l.length (aM _);refine⟨h3,fun x=>⟨fun hx=>?_,fun hx=>?_⟩,?_⟩
 ·obtain⟨j,hj,rfl⟩:=h1 x hx;rw [getElem!_pos l.toArray j (by simpa using hj)];simp
 ·obtain⟨j,hj,rfl⟩:=List.mem_iff_getElem.1 hx;have:=h2 j hj;rw [getElem!_pos l.toArray j (by simpa using hj)] at this;simpa [V] using this
 ·unfold V aA;rw [List.length_map];exact aW (List.length_filter_le _ _) (by simp)
theorem Iu (w:ak) (B:Nat) (v:Sl) (l:List Int) (h:kS w B (dU v) l) (hs:l.Pairwise (·<=·)) (hlen:l.length<=900):bf U 76 #[dU v] w fun e w'=>(∃ v':Sl,e=aJ (dU v')/\∃ l':List Int,kS w' B (dU v') l'/\l'.Pairwise (·<·)/\∀ x,x∈l'↔x∈l)/\w.grownBy w' (dU v).ownBlock:=by
 obtain⟨vo,vn,vc⟩:=v;rcases gQ h with⟨h0,rfl⟩|⟨g,cap,cur,h0,h1,h2,h3,h4,h5,h6⟩
 ·obtain⟨rfl,rfl,rfl⟩:vo=O/\vn=0/\vc=0:=by simpa using h0
  have hc:=Any.slices_Compact_int_empty bF O 0 w;refine Calls.mono hc ?_;rintro e w' ⟨rfl,rfl⟩;exact⟨⟨(O,0,0),rfl,[],h,List.Pairwise.nil,fun _=>Iff.rfl⟩,Rw.sF _ _⟩
 ·obtain⟨rfl,rfl,rfl⟩:vo=J ⟨g,0,O⟩/\vn=l.length/\vc=cap:=by simpa using h0
  obtain⟨hh,hlt⟩:=Dz Nm.Hl (Y aj) l.toArray (by rw [Ho]) h;have hc:=Any.slices_Compact_int bF g 0 vc l w hh (by omega) h3;obtain⟨c1,c2,c3⟩:=K6 l hs;refine Calls.mono hc ?_;rintro e w' ⟨rfl,n,rfl⟩;have ht:=Al Nm.Hl (l':=V l++aD (l.length-(V l).length) 0) h (Y aj) (V l++aD (l.length-(V l).length) 0).toArray (by rw [Ho]) (by rw [aR,List.length_replicate]; omega) n #[];have hg:grow (putRow (Y aj) (au w n) g 0 (V l++aD (l.length-(V l).length) 0).toArray) #[]=putRow (Y aj) (au w n) g 0 (V l++aD (l.length-(V l).length) 0).toArray:=grow_empty _;rw [hg] at ht;refine⟨⟨(J ⟨g,0,O⟩,(V l).length,vc),rfl,V l,?_,c1,c2⟩,ht.2⟩;rcases gQ ht.1 with⟨e,_⟩|⟨g',cap',cur',e,k1,k2,k3,k4,k5,k6⟩
  ·cases e
  ·obtain⟨rfl,_,rfl⟩:g=g'/\l.length=_/\vc=cap':=by simpa using e
   refine qW Nm.Hl rfl k1 k2 (aW c3 h3) k4 k5 ?_;have k7:=congrArg (List.take ((V l).length * EI.n)) k6;rw [List.take_take,qX Nm.Hl,Nat.min_eq_left (aN _ (by rw [aR]; omega)),List.take_left'] at k7
   ·exact k7
   ·rfl
end Av
end Go.Proofs.YtkcfgbddlpomgaaGreat
