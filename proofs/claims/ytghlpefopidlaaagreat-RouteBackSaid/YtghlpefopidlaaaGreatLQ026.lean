/-
  Forget of package ad. Conditions as told.
-/
import Derived.Test.YtghlpefopidlaaaGreatLQ022
import Derived.Test.YtghlpefopidlaaaGreatLQ023
import Derived.Test.YtghlpefopidlaaaGreatLQ025
set_option maxRecDepth 100000
set_option maxHeartbeats 64000000
open _root_.Go renaming World->Z,Value->aF
open Go.IntKind renaming i64->J
open Go.Lib renaming hid->O
open Go.Value renaming int->D,slice->K,bool->aG
open _root_.List renaming getElem?_eq_some_iff->L,mem_cons->Q,pairwise_iff_getElem->V,getElem?_eq_getElem->ah,getElem?_cons_zero->aj,getElem?_cons_succ->ak,mem_iff_getElem?->au,getElem?_toArray->ay,mem_cons_of_mem->aA,filter_eq_self->aB,pairwise_cons->aC,getElem?_map->aD,mem_append->aH
open _root_.Option renaming none->U,some->aI
namespace Go.Proofs.YtghlpefopidlaaaGreat
namespace Av
open Go.RowKit Go.Sort Rw YtghlpefopidlaaaGreat.Nm Pr Bk
def wB (b:Br) (x:eU) (f:Int):Br×Bool:=match gJ b.dO x with
 | none=>(b,false)
 | some a=>if a.par=f then ({ b with dO:=b.dO.filter fun e=>decide (e.id≠x),ent:=b.ent.filter fun e=>decide (e.tree≠x) },true) else (b,false)
theorem Ox {al:List Ad} (hr:vF al) {k:Nat} {a:Ad} {x:eU} (hk:al[k]?=aI a) (hx:a.id=x):al.filter (fun e=>decide (e.id≠x))=cutAt al k:=by
 subst hx;unfold cutAt;have h1:al=al.take k++(a::al.drop (k+1)):=by
  have hlt:=(L.1 hk).1;have he:=(L.1 hk).2;rw [<- he,List.getElem_cons_drop,List.take_append_drop]
 conv=>lhs; rw [h1]
 rw [List.filter_append,List.filter_cons_of_neg (by simp)];have hp:=V.1 hr;have e1:(al.take k).filter (fun e=>decide (e.id≠a.id))=al.take k:=by
  rw [aB];intro y hy;obtain⟨j,hj⟩:=au.1 hy;have hjl:=(L.1 hj).1;rw [List.length_take] at hjl;rw [List.getElem?_take_of_lt (by omega)] at hj;have:=kU hr (show j<k by omega) hj hk;refine decide_eq_true fun e=>?_;rw [e,jD] at this;cases this
 have e2:(al.drop (k+1)).filter (fun e=>decide (e.id≠a.id))=al.drop (k+1):=by
  rw [aB];intro y hy;obtain⟨j,hj⟩:=au.1 hy;rw [List.getElem?_drop] at hj;have:=kU hr (show k<k+1+j by omega) hk hj;refine decide_eq_true fun e=>?_;rw [e,jD] at this;cases this
 rw [e1,e2]
theorem CK {b:Br} (hr:vF b.dO) (x:eU) (f:Int):wB b x f=iQ b x f:=by
 unfold wB iQ;by_cases h:fO (b.dO.map Ad.id) x=-1
 ·have hn:gJ b.dO x=U:=xu fun j a hj=>GK (key:=Ad.id) h j a hj;rw [hn];cases b.dO[(fO (b.dO.map Ad.id) x).toNat]? with
  | none=>rfl
  | some a=>simp only; rw [if_pos h]
 ·obtain⟨k,hk⟩:∃ k:Nat,fO (b.dO.map Ad.id) x=k:=⟨(fO (b.dO.map Ad.id) x).toNat,by have:=rX (b.dO.map Ad.id) x; omega⟩;obtain⟨g1,g2⟩:=zq hk;rw [aD] at g1;cases ha:b.dO[k]? with
  | none=>rw [ha] at g1; cases g1
  | some a =>
   rw [ha] at g1;have hx:a.id=x:=Option.some.inj g1;have hf:gJ b.dO x=aI a:=vB ha hx fun j z hj hz=>g2 j z.id hj (by rw [aD,hz]; rfl);rw [hf,hk,Int.toNat_natCast,ha];simp only;rw [if_neg (show ¬ ((k:Int)=-1) by omega)]
   split
   ·rw [Ox hr ha hx]
   ·rfl
def ahZ (b:Br) (a:Ad):Bool:=decide (a.id∈b.seen) && (lT b.near a.par && Wr.iW a.p)
def zF (b:Br) (e:En):Bool:=match gJ b.dO e.tree with
 | none=>false
 | some a=>!(e.from_ == a.par && !(a.par == -1)) && (lT b.near e.from_ && (!(e.up && a.par == -1) && Wr.iW e.p))
end Av
namespace Rl
open Go.RowKit Pu Rw Pr
end Rl
namespace Sb
open Go.RowKit Go.Sort Rw YtghlpefopidlaaaGreat.Nm Pr Bk Av
abbrev KZ (W:Z) (b:Nat) (a0 a1 a2 a3 a4 a5 a6:aF):Z:=((((((W.setCell ⟨b,0,U⟩ a0).setCell ⟨b,1,U⟩ a1).setCell ⟨b,2,U⟩ a2).setCell ⟨b,3,U⟩ a3).setCell ⟨b,4,U⟩ a4).setCell ⟨b,5,U⟩ a5).setCell ⟨b,6,U⟩ a6
theorem vH {W:Z} {b:Nat} {t:TypeId} {z0 z1 z2 z3 z4 z5 z6:aF} (h:dK W b #[z0,z1,z2,z3,z4,z5,z6] t) (a0 a1 a2 a3 a4 a5 a6:aF):dK (KZ W b a0 a1 a2 a3 a4 a5 a6) b #[a0,a1,a2,a3,a4,a5,a6] t:=by
 have h2:=eu (k:=6) (eu (k:=5) (eu (k:=4) (eu (k:=3) (eu (k:=2) (eu (k:=1) (eu (k:=0) h a0) a1) a2) a3) a4) a5) a6;simpa using h2
theorem qI {B:Nat} {W0 W:Z} {b:Nat} (h:Below B W0 W) (hb:B<=b) (a0 a1 a2 a3 a4 a5 a6:aF):Below B W0 (KZ W b a0 a1 a2 a3 a4 a5 a6):=(((((((h).setCell (p:=⟨b,0,U⟩) hb a0).setCell (p:=⟨b,1,U⟩) hb a1).setCell (p:=⟨b,2,U⟩) hb a2).setCell (p:=⟨b,3,U⟩) hb a3).setCell (p:=⟨b,4,U⟩) hb a4).setCell (p:=⟨b,5,U⟩) hb a5).setCell (p:=⟨b,6,U⟩) hb a6
theorem K7 {α:Type} {E:Ek α} {W:Z} {B:Nat} {v:aF} {l:List α} (h:Own E W B v l) (b:Nat) (hb:b<B) (a0 a1 a2 a3 a4 a5 a6:aF):Own E (KZ W b a0 a1 a2 a3 a4 a5 a6) B v l :=
 eZ (eZ (eZ (eZ (eZ (eZ (eZ (h) b 0 a0 hb) b 1 a1 hb) b 2 a2 hb) b 3 a3 hb) b 4 a4 hb) b 5 a5 hb) b 6 a6 hb
theorem K8 (w:Z) (b:Nat) (a0 a1 a2 a3 a4 a5 a6:aF):But b w (KZ w b a0 a1 a2 a3 a4 a5 a6) :=
 ((((((eF _ b _ _).trans (eF _ b _ _)).trans (eF _ b _ _)).trans (eF _ b _ _)).trans (eF _ b _ _)).trans (eF _ b _ _)).trans (eF _ b _ _)
theorem Bn (x:jk) (p:List C5) (w:Z) (hp:fI w (dX x.2.2.2.2.1) p) (hl:p.length<=900) :
  Calls Tryz.prog 85 #[qO x] w fun e w'=>(∃ v':Sl,e=.returned (qO (x.1,x.2.1,x.2.2.1,x.2.2.2.1,v',x.2.2.2.2.2.1,x.2.2.2.2.2.2))/\iJ w' w.heap.size (dX v') p)/\Below w.heap.size w w':=by
 obtain⟨y1,y2,y3,y4,⟨s1,s2,s3⟩,y6,y7⟩:=x;obtain⟨h0,X,Y⟩:=iI w #[D J y1,D J y2,D J y3,D J y4,K s1 s2 s3,D J y6,aG y7] #[D J 0,D J 0,D J 0,D J 0,K U 0 0,D J 0,aG false] 67 67;have C:=O (nX (s1,s2,s3) p _ (hp.on h0) hl);have B:=O h0;have x4:=X.cell 4;simp only [ay,aj,ak] at x4;have X:=O X;have Y:=O Y;clear h0 hp hl;go_enter Tryz.func85,Tryz.ntmps85;go_wp2_with fail;generalize (w.alloc (.cells #[D J y1,D J y2,D J y3,D J y4,K s1 s2 s3,D J y6,aG y7] 67)).alloc (.cells #[D J 0,D J 0,D J 0,D J 0,K U 0 0,D J 0,aG false] 67)=W at *;refine C.out.mono ?_;rintro e w1 ⟨⟨⟨T,a0,a3⟩,rfl,ho⟩,hb⟩;have X1:=X.out.on hb;have Y1:=Y.out.on hb;have hs:w.heap.size<W.heap.size:=X.out.lt;have O1:=O (eZ ho w.heap.size 4 (K T a0 a3) hs);have XB:=O (show dK _ _ #[D J y1,D J y2,D J y3,D J y4,K T a0 a3,D J y6,aG y7] _ from by simpa using eu (k:=4) X1 (K T a0 a3));have YB:=O (show dK _ _ _ _ from (RowKit.Below.heap_setCell w1 ⟨w.heap.size,4,U⟩ (K T a0 a3) _ (show w.heap.size+1≠w.heap.size by omega)).trans Y1);have B1:=O ((B.out.trans (hb.mono B.out.size)).setCell (p:=⟨w.heap.size,4,U⟩) (Nat.le_refl _) (K T a0 a3));have y4':=X1.cell 4;have f4:=X1.fr 4;have z4:=X1.lt;simp only [ay,aj,ak] at y4';clear X1 Y1 ho hb x4 C;go_upto_region 2 with fail;clear y4' f4 z4;generalize w1.setCell ⟨w.heap.size,4,U⟩ (K T a0 a3)=w2 at *;obtain⟨x0,x1,x2,x3,x4,x5,x6⟩:=XB.out.pG;obtain⟨r0,r1,r2,r3,r4,r5,r6⟩:=YB.out.pG;obtain⟨t0,t1,t2,t3,t4,t5,t6⟩:=YB.out.fs7;have zz:=YB.out.lt;have hs2:w.heap.size+1<W.heap.size:=Y.out.lt;have FB:=O (vH YB.out (D J y1) (D J y2) (D J y3) (D J y4) (K T a0 a3) (D J y6) (aG y7));have BL:=O (qI (b:=w.heap.size+1) B1.out (by omega) (D J y1) (D J y2) (D J y3) (D J y4) (K T a0 a3) (D J y6) (aG y7));have FO:=O (K7 O1.out (w.heap.size+1) hs2 (D J y1) (D J y2) (D J y3) (D J y4) (K T a0 a3) (D J y6) (aG y7));have HS:=O hs;clear hs hs2;go_wp2_with fail;obtain⟨a4,a5,a6,a7,a8,aE,b9⟩:=FB.out.pG;refine bodyPost_ret (v:=.agg #[D J y1,D J y2,D J y3,D J y4,K T a0 a3,D J y6,aG y7]) (by simp [results,Tryz.results85,go_sem,a4,a5,a6,a7,a8,aE,b9]) rfl ?_;exact⟨⟨(T,a0,a3),rfl,dM FO.out (Nat.le_of_lt HS.out)⟩,BL.out⟩
end Sb
namespace Av
open Go.RowKit Rw YtghlpefopidlaaaGreat.Nm Pr Wr
theorem ah0 (c:Cn) (h:wJ c=true):TQ (r5 c)=true:=by
 obtain⟨n,k⟩:=c;unfold wJ at h;rw [Bool.and_eq_true] at h;obtain⟨h1,h2⟩:=h;have h1':At.pK n=true:=h1;cases k with
 | rg lo hi =>
  have h3:lo<=hi:=by simpa [iE] using h2
  have h0:(⟨#[]⟩:ByteArray).size=0:=rfl;simp [r5,TQ,kN,kH,kI,kT,h1',h3,h0]
 | tx t =>
  have h3:t.size<=12:=by simpa [iE] using h2
  simp [r5,TQ,kN,kH,kI,kT,h1',h3]
 | pr t =>
  have h3:t.size<12:=by simpa [iE] using h2
  have h4:t.size<=11:=by omega
  simp [r5,TQ,kN,kH,kI,kT,h1',h4]
theorem K9 (l:List C5) (h1:l.Pairwise fun x y=>Op.bytesLess x.1.toList y.1.toList=true) (h2:l.length<=5) (h3:∀ c∈l,TQ c=true):iW l=true:=by
 rw [Oa l fun j hj=>?_]
 ·simpa using h2
 unfold WV;rw [ah hj];simp only [Bool.and_eq_true];refine⟨h3 _ (List.getElem_mem hj),?_⟩;cases j with
 | zero=>rfl
 | succ j =>
  rw [Bool.or_eq_true];right;rw [Nat.add_sub_cancel,ah (by omega)];exact V.1 h1 j (j+1) (by omega) hj (by omega)
theorem CX (has vals:List Int):iW ((jw has vals 7).map r5)=true:=by
 have h:=Xw has vals;refine K9 _ ?_ (by rw [List.length_map]; exact h.five) fun c hc=>?_
 ·rw [List.pairwise_map];exact h.rise
 ·obtain⟨x,hx,rfl⟩:=List.mem_map.1 hc;exact ah0 x (h.good x hx)
end Av
namespace Bk
open Go.RowKit Go.Sort Rw YtghlpefopidlaaaGreat.Nm Pr
theorem GV (l:List Id) (x:Id) (h:x∈l):∃ k:Nat,fO l x=k/\l[k]?=aI x:=by
 induction l with
 | nil=>simp at h
 | cons a r ih =>
  by_cases e:a=x
  ·subst e;exact⟨0,by simp [fO],rfl⟩
  ·have hr:x∈r:=by
    rcases Q.1 h with h1|h1
    ·exact absurd h1.symm e
    ·exact h1
   obtain⟨k,h1,h2⟩:=ih hr;refine⟨k+1,?_,by simpa using h2⟩;rw [fO,if_neg e,h1,if_neg (by omega)];omega
theorem zG {t:Id} {m:List En} (R:En->Prop) (hR:∀ e,e.tree=t->R e->R (Ez e)) (h:∀ e∈m,R e):∀ k,(∀ e∈(iN t m k).1,R e)/\∀ e∈(iN t m k).2,R e
 | 0=>⟨h,fun e he=>by simp [iN] at he⟩
 | k+1=>by
  have ih:=zG (t:=t) R hR h k;rw [kF];unfold iH
  split
  ·exact ih
  ·rename_i e he
   split
   ·rename_i hcond
    have hu:=hR e hcond.1 (ih.1 e (List.mem_of_getElem? he));refine⟨fun x hx=>?_,fun x hx=>?_⟩
    ·rcases List.mem_or_eq_of_mem_set hx with h1|h1
     ·exact ih.1 x h1
     ·rw [h1];exact hu
    ·rcases aH.1 hx with h1|h1
     ·exact ih.2 x h1
     ·rw [List.mem_singleton.1 h1];exact hu
   ·exact ih
theorem pW {α:Type} {l:List α} {k:Nat} {x:α} (h:x∈cutAt l k):x∈l:=by
 rcases aH.1 h with h|h
 ·exact List.mem_of_mem_take h
 ·exact List.mem_of_mem_drop h
end Bk
namespace Av
open Go.RowKit Go.Sort Rw YtghlpefopidlaaaGreat.Nm Pr Bk
structure qY (W:Z) (b:Br) (nv av sv ev ov:Sl):Prop where
 br:jq W b nv av sv ev ov
 no:lN W nv b.near
theorem qY.on {W W':Z} {b:Br} {nv av sv ev ov:Sl} (h:qY W b nv av sv ev ov) (hb:Below W.heap.size W W'):qY W' b nv av sv ev ov:=⟨h.br.on hb,h.no.on hb⟩
theorem qY.keep {W W':Z} {k:Nat} {me:Int} {s1 s2 s3 s4 s5:Sl} {b:Br} {nv av sv ev ov:Sl} (h:qY W b nv av sv ev ov) (hb:dK W k (ko me s1 s2 s3 s4 s5) 30) (hk:But k W W'):qY W' b nv av sv ev ov:=by
 obtain⟨B,hn⟩:=h.no;have hn2:Ay W' B (dX nv) b.near:=hk.own hn hb (by decide);exact⟨fK h.br hb hk.1 (Row.dJ hn2),B,hn2⟩
theorem Yi (W:Z) (me:Int) {near:List Int} {nv:Sl} (h:uR W (dX nv) near):jq W ⟨me,near,[],[],[],[]⟩ nv (U,0,0) (U,0,0) (U,0,0) (U,0,0):=⟨h,⟨[],jo _,.nil⟩,jo _,⟨[],jo _,.nil⟩,⟨[],jo _,.nil⟩⟩
theorem GY:∀ {l m:List Int},l.Pairwise (·<·)->m.Pairwise (·<·)->(∀ x,x∈l↔x∈m)->l=m
 | [],[],_,_,_=>rfl
 | [],y::m,_,_,h=>by have:=(h y).2 (by simp); simp at this
 | x::l,[],_,_,h=>by have:=(h x).1 (by simp); simp at this
 | x::l,y::m,hl,hm,h=>by
  have hl':=aC.1 hl;have hm':=aC.1 hm;have h1:x=y:=by
   rcases Q.1 ((h x).1 (by simp)) with e|e
   ·exact e
   ·rcases Q.1 ((h y).2 (by simp)) with e2|e2
    ·exact e2.symm
    ·have a1:=hm'.1 x e;have a2:=hl'.1 y e2;omega
  subst h1;rw [GY hl'.2 hm'.2 fun z=>⟨fun hz=>?_,fun hz=>?_⟩]
  ·rcases Q.1 ((h z).1 (aA _ hz)) with e|e
   ·have:=hl'.1 z hz;omega
   ·exact e
  ·rcases Q.1 ((h z).2 (aA _ hz)) with e|e
   ·have:=hm'.1 z hz;omega
   ·exact e
theorem zH {W W':Z} {b:Nat} (h:W.grownBy W' (aI b)):But b W W':=⟨fun k hk hne=>h.block k hk (by simpa using hne),h.size⟩
end Av
namespace Av
open Go.RowKit Go.ChangeShapes Go.WideShapes Bk
theorem acw:Tryz.prog.cellsOf 63=7:=by kernel_rfl
theorem acy (a:Addr) (m len cap:Nat) (h:m<len) (w:Z):(Instr.indexAt 48 (K (aI a) len cap) (D J m)).run Tryz.prog w=.ok (.pointer (aI (a.add (m * 7)))) w:=by
 have h1:(m:Int)<len:=by omega
 simp [go_sem,Tryz.underlying48,h1]
structure Oy (W:Z) (v:aF) (n:Nat):Prop where
 shape:∃ ao cap,v=K ao n cap
 at_:∀ i:Nat,i<n->∃ (p:Addr) (z0 z1 z2 z3 z4:Int) (h1:Option Addr) (h2 h3:Nat) (g1:Option Addr) (g2 g3:Nat) (has vals:List Int),p.block<W.heap.size/\(∀ w,(Instr.indexAt 48 v (D J i)).run Tryz.prog w=.ok (.pointer (aI p)) w)/\(∀ j u,([D J z0,D J z1,D J z2,D J z3,D J z4,K h1 h2 h3,K g1 g2 g3]:List aF)[j]?=aI u->W.cell? (p.add j)=aI u)/\((-9223372036854775808<=z0/\z0<=9223372036854775807)/\(-9223372036854775808<=z1/\z1<=9223372036854775807)/\(-9223372036854775808<=z2/\z2<=9223372036854775807)/\(-9223372036854775808<=z3/\z3<=9223372036854775807)/\(-9223372036854775808<=z4/\z4<=9223372036854775807))/\In.kQ W (K h1 h2 h3) has/\In.kQ W (K g1 g2 g3) vals/\has.length<=maxLen/\vals.length<=maxLen
theorem Oy.on {W W':Z} {v:aF} {n:Nat} (h:Oy W v n) (hb:Below W.heap.size W W'):Oy W' v n :=
 ⟨h.shape,fun i hi=>by
  obtain⟨p,z0,z1,z2,z3,z4,x1,x2,x3,y1,y2,y3,has,vals,h1,h2,h3,h4,h5,h6,h7⟩:=h.at_ i hi;exact⟨p,z0,z1,z2,z3,z4,x1,x2,x3,y1,y2,y3,has,vals,Nat.lt_of_lt_of_le h1 hb.size,h2,fun j u hu=>by rw [hb.cell (by rw [xW]; exact h1)]; exact h3 j u hu,h4,h5.on hb,h6.on hb,h7⟩⟩
end Av
end Go.Proofs.YtghlpefopidlaaaGreat
