/-
  Small things for Adv. Conditions as told.
-/
import Derived.Test.YtghlpefopidlaaaGreatBQ027
import Derived.Test.YtghlpefopidlaaaGreatBQ029
set_option maxRecDepth 100000
set_option maxHeartbeats 64000000
open Go.IntKind renaming i64->L
open Go.Lib renaming hid->ah
open Go.Operand renaming tmp->ay
open Go.RowKit.Below renaming refl->aj
open Go.Value renaming int->J,slice->O,pointer->U,agg->aK,bool->aN
open _root_.List renaming getElem?_toArray->X,getElem?_cons_zero->Y,getElem?_cons_succ->Z,getElem?_map->ak,singleton_append->aB,mem_cons_of_mem->aC,mem_of_getElem?->aD,takeWhile_cons->aF,map_cons->aG,mem_cons->aH,pairwise_cons->aI,length_cons->aJ
open _root_.Option renaming none->V,some->aA
open _root_.Or renaming inr->au,inl->aM
namespace Go.Proofs.YtghlpefopidlaaaGreat
namespace Av
open Go.RowKit Go.Sort Rw YtghlpefopidlaaaGreat.Nm Pr Bk
theorem qj (x y:En):iW (dM x) (dM y)=true↔uK x y<0:=by
 rw [p9];unfold iW dM;simp only [Bool.or_eq_true,Bool.and_eq_true,uQ]
theorem JE (x y:En) (h:dM x≠dM y):uK x y<0\/uK y x<0:=by
 rw [p9,p9];rcases mI x.tree y.tree with q|q|q
 ·exact aM (aM q)
 ·rcases mI x.sub y.sub with r|r|r
  ·exact aM (au ⟨q,r⟩)
  ·exact absurd (Prod.ext q r) h
  ·exact au (au ⟨q.symm,r⟩)
 ·exact au (aM q)
theorem zo:∀ (l:List En) (x:En),∀ y∈l.take (dY (l.map dM) (dM x)),uK y x<0
 | [],_,y,h=>by simp at h
 | a::l,x,y,h=>by
  unfold dY at h;by_cases ha:iW (dM a) (dM x)=true
  ·simp only [aG,aF,ha,if_true,aJ,List.take_succ_cons,aH] at h;rcases h with rfl|h
   ·exact (qj _ _).1 ha
   ·exact zo l x y h
  ·simp [ha] at h
theorem zq:∀ {l:List En} (_:l.Pairwise fun x y=>uK x y<0) (x:En) (_:∀ y∈l,dM y≠dM x),∀ y∈l.drop (dY (l.map dM) (dM x)),uK x y<0
 | [],_,_,_,y,h=>by simp at h
 | a::l,hr,x,hn,y,h=>by
  unfold dY at h;have hr':=aI.1 hr;by_cases ha:iW (dM a) (dM x)=true
  ·simp only [aG,aF,ha,if_true,aJ,List.drop_succ_cons] at h;exact zq hr'.2 x (fun y hy=>hn y (aC _ hy)) y h
  ·simp [ha] at h;have hax:uK x a<0:=by
    rcases JE a x (hn a (by simp)) with q|q
    ·exact absurd ((qj _ _).2 q) ha
    ·exact q
   rcases h with rfl|h
   ·exact hax
   ·exact Ap _ _ _ hax (hr'.1 y h)
theorem JF {l:List En} (hr:l.Pairwise fun x y=>uK x y<0) (x:En) (hn:∀ y∈l,dM y≠dM x):(eY l (dY (l.map dM) (dM x)) x).Pairwise fun x y=>uK x y<0:=by
 unfold eY;have h1:=hr.sublist (List.take_sublist (dY (l.map dM) (dM x)) l);have h2:=hr.sublist (List.drop_sublist (dY (l.map dM) (dM x)) l);have lo:=zo l x;have hi:=zq hr x hn;rw [List.append_assoc,List.pairwise_append];refine⟨h1,?_,fun a ha b hb=>?_⟩
 ·rw [aB,aI];exact⟨fun b hb=>hi b hb,h2⟩
 ·rw [aB,aH] at hb;rcases hb with rfl|hb
  ·exact lo a ha
  ·exact Ap _ _ _ (lo a ha) (hi b hb)
theorem zu:∀ (l:List dV) (x:dV),x ∉ l->fH l x=-1
 | [],_,_=>rfl
 | a::l,x,h=>by
  rw [fH,if_neg fun e=>h (by rw [e]; simp),zu l x fun q=>h (aC _ q),if_pos rfl]
theorem M6 {κ:Type} [DecidableEq κ] {l:List κ} {x:κ} (h:iw l x=-1):x ∉ l:=by
 rcases kF l x with _|⟨k,h1,_⟩
 ·intro hm
  induction l with
  | nil=>simp at hm
  | cons a l ih =>
   rw [iw] at h
   split at h
   ·cases h
   ·rename_i hne
    split at h
    ·rename_i h2
     rcases aH.1 hm with e|e
     ·exact hne e.symm
     ·exact ih h2 h2 e
    ·rename_i h2
     have:=kF l x;rcases this with q|⟨k,q,_⟩
     ·exact h2 q
     ·omega
 ·omega
theorem Fv {b:Br} (h:gP b) {l:List En} (hp:l.Pairwise fun x y=>uK x y<0) (ho:∀ e∈l,xW b e=true):gP { b with ent:=l } :=
 ⟨h.near,h.seen,h.dW,hp,h.own,h.oks,fun e he=>qb (b:=b) rfl rfl (ho e he),h.VA⟩
theorem Fw {b:Br} (h:gP b) (e:En) (hc:mQ b.near e.from_=true) (hq:Wr.gX e.p=true):gP (gY b e).1:=by
 unfold gY
 split
 ·exact h
 ·rename_i a ha
  split
  ·exact h
  ·rename_i h1
   split
   ·exact h
   ·rename_i h2
    split
    ·exact h
    ·rename_i h3
     have hid:a.id=e.tree:=by
      have hm:e.tree∈b.dW.map Ad.id:=Decidable.byContradiction fun q=>h1 (zu _ _ q);obtain⟨k2,h5,h6⟩:=Jp _ _ hm;rw [h5,Int.toNat_natCast] at ha;rw [ak,ha] at h6;exact Option.some.inj h6
     have hf:fM b.dW e.tree=aA a:=by
      rw [<- hid];exact og h.dW (aD ha)
     have hins:=JF h.ent { e with up:=decide (a.par≠-1) && !eP b.ent e.tree e.p } fun y hy hk=>by
      have hm:dM e∈b.ent.map dM:=List.mem_map.2 ⟨y,hy,hk⟩;have h9:iw (b.ent.map dM) (dM e)=-1:=Decidable.not_not.1 h2;exact M6 h9 hm
     refine Fv h hins fun q hq2=>?_;rcases (jf _ _ _ _).1 hq2 with rfl|hq2
     ·unfold xW;simp only [hf];have h4:¬ (e.from_≠-1/\e.from_=a.par):=h3;rw [hc,hq];by_cases g1:e.from_=a.par
      ·have g2:a.par=-1:=by
        rw [<- g1];exact Decidable.byContradiction fun q=>h4 ⟨q,g1⟩
       simp [g1,g2]
      ·by_cases g2:a.par=-1 <;> simp [g1,g2]
     ·exact h.Pv q hq2
theorem yg (t:dV) (s:List En×List En) (k:Nat):(fI t s k).1.map dM=s.1.map dM:=by
 unfold fI
 split
 ·rfl
 ·rename_i e he
  split
  ·rw [List.map_set];refine List.ext_getElem? fun j=>?_;rw [List.getElem?_set]
   split
   ·rename_i hj
    subst hj
    split
    ·rw [ak,he]
     rfl
    ·rename_i hl
     rw [List.getElem?_eq_none (by simpa using hl)]
   ·rfl
  ·rfl
theorem wE (t:dV) (m:List En):∀ k,(fP t m k).1.map dM=m.map dM
 | 0=>rfl
 | k+1=>by rw [iC,yg,wE t m k]
theorem JG {l m:List En} (h:l.map dM=m.map dM) (hp:m.Pairwise fun x y=>uK x y<0):l.Pairwise fun x y=>uK x y<0:=by
 have h1:∀ l:List En,(l.Pairwise fun x y=>uK x y<0)↔(l.map dM).Pairwise fun x y=>iW x y=true:=fun l=>by
  rw [List.pairwise_map];exact⟨fun q=>q.imp fun {a b} r=>(qj a b).2 r,fun q=>q.imp fun {a b} r=>(qj a b).1 r⟩
 rw [h1,h,<- h1];exact hp
theorem ql {α:Type} (l:List α) (k:Nat):(cutAt l k).Sublist l:=by
 unfold cutAt
 conv=>rhs; rw [<- List.take_append_drop k l]
 exact (List.Sublist.refl _).append (List.drop_sublist_drop_left l (Nat.le_succ k))
theorem Ht {b:Br} (h:gP b) (t x:dV) (f:Int):gP (takeB b t x f).1:=by
 unfold takeB
 split
 ·exact h
 ·rename_i e0 he0
  split
  ·exact h
  ·rename_i h1
   split
   ·exact h
   ·split
    ·exact Fv h (h.ent.sublist (ql _ _)) fun q hq=>h.Pv q (qc hq)
    ·rename_i hup
     have aat:e0.up=true:=by simpa using hup
     have ht:e0.tree=t:=by
      rcases kF (b.ent.map dM) (t,x) with q|⟨k,q,r⟩
      ·exact absurd q h1
      ·rw [q,Int.toNat_natCast] at he0;rw [ak,he0] at r;exact congrArg Prod.fst (Option.some.inj r)
     have ho0:=h.Pv e0 (aD he0);refine Fv h (JG (wE _ _ _) (h.ent.sublist (ql _ _))) ?_;refine (sQ (fun e=>xW b e=true) (fun e he hr=>?_) (fun q hq=>h.Pv q (qc hq)) _).1;unfold xW at hr ho0 ⊢;rw [ht] at ho0;show (match fM b.dW e.tree with | none=>false | some a=>_)=true;rw [he] at hr ⊢;cases hfa:fM b.dW t with
     | none=>rw [hfa] at hr; cases hr
     | some a =>
      rw [hfa] at hr ho0;simp only [Bool.and_eq_true] at hr ho0 ⊢;refine⟨hr.1,hr.2.1,?_,hr.2.2.2⟩;have h9:=ho0.2.2.1;rw [aat] at h9;exact h9
end Av
namespace Fl
open Go.RowKit Go.Sort Rw YtghlpefopidlaaaGreat.Nm Pr Bk Av
theorem QC {W:World} {b:Nat} {z0 z1 z2 z3 z4 z5 z6:Value} (h:dG W b #[z0,z1,z2,z3,z4,z5,z6] 43) (a0 a1 a2 a3 a4:Int) (o5:Option Addr) (n5 c5:Nat) (o6:Option Addr) (n6 c6:Nat) :
  (Instr.storeAt 43 (U (aA ⟨b,0,V⟩)) (aK #[J L a0,J L a1,J L a2,J L a3,J L a4,O o5 n5 c5,O o6 n6 c6])).run Tryz.prog W=.ok () (Cu W b (J L a0) (J L a1) (J L a2) (J L a3) (J L a4) (O o5 n5 c5) (O o6 n6 c6)):=by
 obtain⟨x0,x1,x2,x3,x4,x5,x6⟩:=h.xM;obtain⟨f0,f1,f2,f3,f4,f5,f6⟩:=h.Zh;simp [go_sem,x0,x1,x2,x3,x4,x5,x6,f0,f1,f2,f3,f4,f5,f6]
theorem M7 (w:World) (b:Nat) (a0 a1 a2 a3 a4 a5 a6:Value):But b w (Cu w b a0 a1 a2 a3 a4 a5 a6) :=
 (((dR _ b _ _).trans (dR _ b _ _)).trans ((dR _ b _ _).trans (dR _ b _ _))).trans (((dR _ b _ _).trans (dR _ b _ _)).trans (dR _ b _ _))
theorem Dj {w W:World} {B b:Nat} (h:Below B w W) (hb:B<=b) (a0 a1 a2 a3 a4 a5 a6:Value):Below B w (Cu W b a0 a1 a2 a3 a4 a5 a6) :=
 ((((((h.setCell (p:=⟨b,0,V⟩) hb a0).setCell (p:=⟨b,1,V⟩) hb a1).setCell (p:=⟨b,2,V⟩) hb a2).setCell (p:=⟨b,3,V⟩) hb a3).setCell (p:=⟨b,4,V⟩) hb a4).setCell (p:=⟨b,5,V⟩) hb a5).setCell (p:=⟨b,6,V⟩) hb a6
def Hu (B:Nat) (b1 _b2:Nat) (y1 y2 y3 y4:Int) (po:Option Addr) (pn pc:Nat) (_y6:Int) (_y7:Bool) (p:List C5) (i:Nat) (v:Value) (x:World):Prop :=
 match i with
 | 0=>v=U (aA ⟨b1,0,V⟩)
 | 1=>v=aK #[J L y1,J L y2]
 | 2=>v=U (aA ⟨b1,2,V⟩)
 | 3=>v=aK #[J L y3,J L y4]
 | 4=>v=U (aA ⟨b1,4,V⟩)
 | 5=>v=O po pn pc
 | 6=>∃ s:Sl,v=dQ s/\iE x B (dQ s) p
 | 7=>∃ s:Sl,v=aK #[J L 3,J L y1,J L y2,J L y3,J L y4,dQ s,O V 0 0]/\iE x B (dQ s) p
 | _=>True
noncomputable def RN:Code:=((Tryz.f115.body.bind (eU 1)).getD .skip)
theorem M8 (B:Nat) (b1 b2:Nat) (y1 y2 y3 y4:Int) (po:Option Addr) (pn pc:Nat) (y6:Int) (y7:Bool) (p:List C5) (i:Nat) (v:Value) (x x':World) (h:Hu B b1 b2 y1 y2 y3 y4 po pn pc y6 y7 p i v x) (hb:Below x.heap.size x x'):Hu B b1 b2 y1 y2 y3 y4 po pn pc y6 y7 p i v x':=by
 by_cases hi:i<8
 ·rcases (by omega:i=0\/i=1\/i=2\/i=3\/i=4\/i=5\/i=6\/i=7) with rfl|rfl|rfl|rfl|rfl|rfl|rfl|rfl
  ·exact h
  ·exact h
  ·exact h
  ·exact h
  ·exact h
  ·exact h
  ·obtain⟨s,h1,h2⟩:=h; exact⟨s,h1,Bk.dL h2 hb⟩
  ·obtain⟨s,h1,h2⟩:=h; exact⟨s,h1,Bk.dL h2 hb⟩
 ·unfold Hu
  split <;> first | omega | trivial
theorem aau (Q:Exit->Act->World->Prop) (W:World) (b1 b2:Nat) (y1 y2 y3 y4:Int) (po:Option Addr) (pn pc:Nat) (y6:Int) (y7:Bool) (p:List C5) (u0 u3 u4 u5 u6 u7 u8 u9 u10:Value)
  (h1:dG W b1 #[J L y1,J L y2,J L y3,J L y4,O po pn pc,J L y6,aN y7] 67) (h2:dG W b2 #[J L 0,J L 0,J L 0,J L 0,J L 0,O V 0 0,O V 0 0] 43) (r5:fF W (O po pn pc) p) (l5:p.length<=900)
  (hQ:∀ (x:World) (v3 v4 v5 v6 v7 v8 v9 v10:Value) (q1:Option Addr) (q2 q3:Nat),dG x b2 #[J L 3,J L y1,J L y2,J L y3,J L y4,O q1 q2 q3,O V 0 0] 43->iE x W.heap.size (O q1 q2 q3) p->(∀ B,B<=b2->Below B W x)->Q .normal ⟨(u0::U (aA ⟨b1,0,V⟩)::U (aA ⟨b2,0,V⟩)::v3::v4::v5::v6::v7::v8::v9::v10::[]).toArray,[]⟩ x) :
  Code.wp Tryz.prog RN Q ⟨(u0::U (aA ⟨b1,0,V⟩)::U (aA ⟨b2,0,V⟩)::u3::u4::u5::u6::u7::u8::u9::u10::[]).toArray,[]⟩ W:=by
 have HQ:=ah hQ;have H1:=ah h1;have H2:=ah h2;have R5:=ah r5;have L5:=ah l5;clear hQ h1 h2 r5 l5;have qo:=M8 W.heap.size b1 b2 y1 y2 y3 y4 po pn pc y6 y7 p;unfold RN
 conv=>arg 2; whnf
 have nd:∀ j,(j<3\/11<=j)->∀ i,i<8->(fun i=>3+i) i≠j:=by
  intro j hj i hi h;simp only at h;omega
 refine Rg.jv 9 8 (fun i=>3+i) (fun _=>8) (Hu W.heap.size b1 b2 y1 y2 y3 y4 po pn pc y6 y7 p) (by kernel_rfl) (by kernel_rfl) rfl (by decide) (fun i j _ _ h=>by have h2:3+i=3+j:=h; omega) (fun i hi=>by show 3+i<11; omega) ?_ (fun _=>Rg.nU 14 (by kernel_rfl)) ?_ ?_
 ·intro i o hi ho a x D hnd hc hD hb seen K hK;clear HQ;rcases (by omega:i=0\/i=1\/i=2\/i=3\/i=4\/i=5\/i=6\/i=7) with rfl|rfl|rfl|rfl|rfl|rfl|rfl|rfl
  ·cases ho;have e1:a.eval (ay 1)=U (aA ⟨b1,0,V⟩):=seen.kp 1 _ (nd 1 (by omega)) rfl;exact Rg.dF rfl rfl (Rg.eD a.eval _ 67 (ay 1) 0 rfl (by rw [e1]; simp [go_sem])) (hK _ _ rfl (aj _ _) fun _ _ _ _ _ _ _ h=>h)
  ·cases ho;have e3:a.eval (ay 3)=U (aA ⟨b1,0,V⟩):=seen.at_ ⟨0,.data⟩ (by simp) rfl (au (by decide));have y1:=(H1.out.on hb).cell 1;have y0:=(H1.out.on hb).cell 0;simp only [X,Y,Z] at y0 y1;exact Rg.dF rfl rfl (Rg.eH a.eval _ 23 (ay 3) rfl (by rw [e3]; simp [go_sem,y0,y1])) (hK _ _ rfl (aj _ _) fun _ _ _ _ _ _ _ h=>h)
  ·cases ho;have e1:a.eval (ay 1)=U (aA ⟨b1,0,V⟩):=seen.kp 1 _ (nd 1 (by omega)) rfl;exact Rg.dF rfl rfl (Rg.eD a.eval _ 67 (ay 1) 1 rfl (by rw [e1]; simp [go_sem])) (hK _ _ rfl (aj _ _) fun _ _ _ _ _ _ _ h=>h)
  ·cases ho;have e5:a.eval (ay 5)=U (aA ⟨b1,2,V⟩):=seen.at_ ⟨2,.data⟩ (by simp) rfl (au (by decide));have y2:=(H1.out.on hb).cell 2;have y3:=(H1.out.on hb).cell 3;simp only [X,Y,Z] at y2 y3;exact Rg.dF rfl rfl (Rg.eH a.eval _ 23 (ay 5) rfl (by rw [e5]; simp [go_sem,y2,y3])) (hK _ _ rfl (aj _ _) fun _ _ _ _ _ _ _ h=>h)
  ·cases ho;have e1:a.eval (ay 1)=U (aA ⟨b1,0,V⟩):=seen.kp 1 _ (nd 1 (by omega)) rfl;exact Rg.dF rfl rfl (Rg.eD a.eval _ 67 (ay 1) 2 rfl (by rw [e1]; simp [go_sem])) (hK _ _ rfl (aj _ _) fun _ _ _ _ _ _ _ h=>h)
  ·cases ho;have e7:a.eval (ay 7)=U (aA ⟨b1,4,V⟩):=seen.at_ ⟨4,.data⟩ (by simp) rfl (au (by decide));have y4:=(H1.out.on hb).cell 4;simp only [X,Y,Z] at y4;exact Rg.dF rfl rfl (Rg.eH a.eval _ 34 (ay 7) rfl (by rw [e7]; simp [go_sem,y4])) (hK _ _ rfl (aj _ _) fun _ _ _ _ _ _ _ h=>h)
  ·cases ho;have e8:a.eval (ay 8)=O po pn pc:=seen.at_ ⟨5,.data⟩ (by simp) rfl (au (by decide));exact Rg.fZ rfl rfl (Rw.iT a.eval _ (ay 8) 34 44 rfl e8 rfl _ (fD Tryz.func44 rfl rfl _ _)) (jW (po,pn,pc) p x (R5.out.on hb) L5.out) fun e w1 h=>by
    obtain⟨⟨s,rfl,h1⟩,h3⟩:=h;exact⟨_,rfl,hK _ _ ⟨s,rfl,dK h1 hb.size⟩ (h3.mono hb.size) fun j u hj _ _ _ hne h=>qo j u _ _ h h3⟩
  ·cases ho;have e4:a.eval (ay 4)=aK #[J L y1,J L y2]:=seen.at_ ⟨1,.data⟩ (by simp) rfl (au (by decide));have e6:a.eval (ay 6)=aK #[J L y3,J L y4]:=seen.at_ ⟨3,.data⟩ (by simp) rfl (au (by decide));have E9:=seen.at_ ⟨6,.data⟩ (by simp) rfl (au (by decide));obtain⟨s,q0,q1⟩:=E9;have q0:a.eval (ay 9)=dQ s:=q0;exact Rg.dF rfl rfl (Rg.jD a.eval _ 43 #[(0,.const (J L 3)),(1,ay 4),(2,ay 6),(3,ay 9)] rfl (by simp only [List.map_toArray,aG,List.map_nil,e4,e6,q0]; rfl) (v:=aK #[J L 3,J L y1,J L y2,J L y3,J L y4,dQ s,O V 0 0]) (by simp [go_sem])) (hK _ _ ⟨s,rfl,q1⟩ (aj _ _) fun _ _ _ _ _ _ _ h=>h)
 ·intro kk o h1 h2 ho;omega
 ·intro a w' df sz kp ⟨vs,hv⟩ hb;have sz':a.tmps.size=11:=sz;have g2:a.tmps[2]?=aA (U (aA ⟨b2,0,V⟩)):=(kp 2 (nd 2 (by omega))).trans rfl;obtain⟨⟨q1,q2,q3⟩,hs,ho⟩:=(hv 7 (by omega)).2 (by decide);have g10:a.tmps[10]?=aA (aK #[J L 3,J L y1,J L y2,J L y3,J L y4,O q1 q2 q3,O V 0 0]):=((hv 7 (by omega)).1).trans (congrArg aA hs);have hB:=H2.out.on hb;have hlt:=H2.out.lt;show Rg.iJ _ _ _ 1 8 a w';simp only [Rg.iJ];refine Rg.gI 43 (ay 2) (ay 10) rfl rfl rfl rfl (Rg.dU g2) (Rg.dU g10) (w':=Cu w' b2 (J L 3) (J L y1) (J L y2) (J L y3) (J L y4) (O q1 q2 q3) (O V 0 0)) (QC hB _ _ _ _ _ _ _ _ _ _ _) ?_;have hbx:=Jb hB (J L 3) (J L y1) (J L y2) (J L y3) (J L y4) (O q1 q2 q3) (O V 0 0);have hbt:=M7 w' b2 (J L 3) (J L y1) (J L y2) (J L y3) (J L y4) (O q1 q2 q3) (O V 0 0);have uI:∀ j,(j<3\/11<=j)->(a).tmps[j]?=(u0::U (aA ⟨b1,0,V⟩)::U (aA ⟨b2,0,V⟩)::u3::u4::u5::u6::u7::u8::u9::u10::[])[j]?:=fun j hj=>(kp j (nd j (by omega))).trans X;obtain⟨mid,hmid,hfr⟩:=Rg.iA (a:=a) 3 8 df (by simp [sz']) (by simp) uI;show Q .normal (a) _;rw [hfr]
  match mid,hmid with
  | [v3,v4,v5,v6,v7,v8,v9,v10],_ =>
   exact HQ.out _ _ _ _ _ _ _ _ _ q1 q2 q3 hbx (hbt.own ho hB (by decide)) (fun B hBl=>Dj (hb.mono (Nat.le_of_lt (Nat.lt_of_le_of_lt hBl hlt))) hBl _ _ _ _ _ _ _)
theorem zw (z:jl) (p:List C5) (w:World) (hp:fF w (dQ z.2.2.2.2.1) p) (hl:p.length<=900) :
  Calls Tryz.prog 115 #[xP z] w fun e w'=>(∃ s:Sl,e=.returned (aK #[J L 3,J L z.1,J L z.2.1,J L z.2.2.1,J L z.2.2.2.1,dQ s,O V 0 0])/\iE w' w.heap.size (dQ s) p)/\Below w.heap.size w w':=by
 obtain⟨y1,y2,y3,y4,⟨po,pn,pc⟩,y6,y7⟩:=z;obtain⟨h0,h1,h2⟩:=jd w #[J L y1,J L y2,J L y3,J L y4,O po pn pc,J L y6,aN y7] #[J L 0,J L 0,J L 0,J L 0,J L 0,O V 0 0,O V 0 0] 67 43;have GB:=ah h0;have X1:=ah h1;have X2:=ah h2;have HP:=ah (hp.on h0);clear h0 h1 h2 hp;show Calls Tryz.prog 115 #[aK #[J L y1,J L y2,J L y3,J L y4,O po pn pc,J L y6,aN y7]] w _;go_enter Tryz.func115,Tryz.ntmps115;go_upto_region 1 with fail;generalize (w.alloc (.cells #[J L y1,J L y2,J L y3,J L y4,O po pn pc,J L y6,aN y7] 67)).alloc (.cells #[J L 0,J L 0,J L 0,J L 0,J L 0,O V 0 0,O V 0 0] 43)=W at *;refine aau _ W w.heap.size (w.heap.size+1) y1 y2 y3 y4 po pn pc y6 y7 p _ _ _ _ _ _ _ _ _ X1.out X2.out HP.out hl ?_;intro x v3 v4 v5 v6 v7 v8 v9 v10 q1 q2 q3 hbx ho hbl;have FB:=ah hbx;have OO:=ah (dK ho GB.out.size);have G2:=ah (GB.out.trans (hbl w.heap.size (by omega)));clear hbx ho hbl GB X1 X2 HP;go_wp2_with fail;obtain⟨v0,v1,v2,v3,v4,v5,v6⟩:=FB.out.xM;refine bodyPost_ret (v:=aK #[J L 3,J L y1,J L y2,J L y3,J L y4,O q1 q2 q3,O V 0 0]) (by simp [results,Tryz.results115,go_sem,v0,v1,v2,v3,v4,v5,v6]) rfl ?_;exact⟨⟨(q1,q2,q3),rfl,OO.out⟩,G2.out⟩
end Fl
end Go.Proofs.YtghlpefopidlaaaGreat
