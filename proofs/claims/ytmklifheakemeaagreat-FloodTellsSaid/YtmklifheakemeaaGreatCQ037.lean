/-
  Entries of one tree:. Conditions as told.
-/
import Derived.Test.YtmklifheakemeaaGreatCQ027
import Derived.Test.YtmklifheakemeaaGreatCQ029
import Derived.Shelf.Abstract
set_option maxRecDepth 100000
set_option maxHeartbeats 64000000
open _root_.Bool renaming true->ay,false->aA,eq_false_iff->aT
open _root_.Go renaming World->aW,Calls->bf,Value->bM,Addr->bN
open Go.Ending renaming returned->ah
open Go.IntKind renaming i64->V
open Go.Lib renaming hid->K
open Go.Obj renaming cells->aI
open Go.Proofs.Tryz renaming prog->aj,ntmps125->bH,func125->bI,func124->bJ,func119->bK
open Go.Value renaming int->U,pointer->ak,slice->aC,bool->aS
open _root_.List renaming getElem?_eq_some_iff->D,getElem?_eq_getElem->J,takeWhile_cons->Q,getElem?_map->au,take_append_drop->aB,dropWhile_cons->aD,getElem?_cons_zero->aG,takeWhile_sublist->aH,takeWhile_append_dropWhile->aJ,mem_iff_getElem?->aK,getElem?_toArray->aL,length_cons->aM,length_take->aN,length_drop->aO,mem_filter->aP,getElem?_drop->aQ,pairwise_iff_getElem->aR,all_eq_true->aU,mem_of_getElem?->aX,mem_cons->aZ,pairwise_cons->bg,all_takeWhile->bD,filter_append->bF,mem_append->bG
open _root_.Nat renaming lt_or_ge->aV,le_refl->aY,zero_le->bL
open _root_.Option renaming some->O,none->aF
open Option.some renaming inj->L
namespace Go.Proofs.YtmklifheakemeaaGreat.Sb
open Go.RowKit Go.Sort Rw YtmklifheakemeaaGreat.Nm Pr Bk Av
abbrev nQ (m:List En):Prop:=m.Pairwise fun x y=>xI x y<0
def kV (m:List En) (t:fD):Nat:=(m.takeWhile fun e=>eT e.tree t).length
def wQ (m:List En) (t:fD):List En:=(m.drop (kV m t)).takeWhile fun e=>decide (e.tree=t)
def Kv (r:List En) (p:List C5):Bool:=r.any fun e=>e.up && nH e.p p
def wR (r:List En):Bool:=r.all fun e=>e.up || Kv r e.p
def Iy (b:Br):Bool:=b.dP.all fun a=>a.par == -1 || wR (wQ b.ent a.id)
theorem CG:∀ (l:List fD) (x:fD),fM l x=jh l x
 | [],_=>rfl
 | a::l,x=>by rw [fM,jh,CG l x]
theorem rU (x y:En):jM (fO x) (fO y)=ay↔xI x y<0:=by
 rw [vg];unfold jM;simp [qh]
theorem zi (x:fD×fD):jM x x=aA:=by simp [jM,kX]
def sO (m:List En) (t s:fD):Bool:=match m[fB (m.map fO) (t,s)]? with
 | none=>aA
 | some e=>decide (fO e=(t,s))
theorem rV:∀ (l:List (fD×fD)) (x:fD×fD) (j:Nat) (y:fD×fD),j<fB l x->l[j]?=O y->jM y x=ay
 | [],_,_,_,_,h=>by simp at h
 | a::l,x,j,y,hj,h=>by
  unfold fB at hj;by_cases ha:jM a x=ay
  ·rw [Q,if_pos ha,aM] at hj;cases j with
   | zero=>rw [<- L (show O a=O y from h)]; exact ha
   | succ j=>exact rV l x j y (by unfold fB; omega) (by simpa using h)
  ·rw [Q,if_neg ha] at hj;simp at hj
theorem zk:∀ (l:List (fD×fD)) (x y:fD×fD),l[fB l x]?=O y->jM y x=aA
 | [],_,_,h=>by simp [fB] at h
 | a::l,x,y,h=>by
  unfold fB at h;by_cases ha:jM a x=ay
  ·rw [Q,if_pos ha,aM] at h;exact zk l x y (by unfold fB; simpa using h)
  ·rw [Q,if_neg ha] at h;rw [<- L (show O a=O y from h)];simpa using ha
theorem Nz {m:List En} (hr:nQ m) (t s:fD):jh (m.map fO) (t,s)=if sO m t s=ay then (fB (m.map fO) (t,s):Int) else -1:=by
 unfold sO;cases hp:m[fB (m.map fO) (t,s)]? with
 | none =>
  rw [if_neg (by simp)];refine wF _ _ fun j y hj e=>?_;have hl:m.length<=fB (m.map fO) (t,s):=List.getElem?_eq_none_iff.1 hp;have hj2:=(D.1 hj).1;rw [List.length_map] at hj2;have h:=rV _ (t,s) j y (by omega) hj;rw [e,zi] at h;cases h
 | some e =>
  have hpk:(m.map fO)[fB (m.map fO) (t,s)]?=O (fO e):=by rw [au,hp]; rfl
  by_cases he:fO e=(t,s)
  ·simp only [he,decide_true,if_true];rw [he] at hpk;refine Jw _ _ _ hpk fun j z hj hz q=>?_;have h:=rV _ (t,s) j z hj hz;rw [q,zi] at h;cases h
  ·rw [if_neg (by simpa using he)];refine wF _ _ fun j y hj q=>?_;rcases Nat.lt_trichotomy j (fB (m.map fO) (t,s)) with h|h|h
   ·have h:=rV _ (t,s) j y h hj;rw [q,zi] at h;cases h
   ·subst h;rw [hpk] at hj;exact he ((L hj).trans q)
   ·rw [au] at hj;cases hz:m[j]? with
    | none=>rw [hz] at hj; cases hj
    | some z =>
     rw [hz] at hj;have h1:=aR.1 hr _ _ (D.1 hp).1 (D.1 hz).1 h;rw [(D.1 hp).2,(D.1 hz).2,<- rU] at h1;have h2:=zk _ _ _ hpk;rw [show fO z=(t,s) from (L hj).trans q] at h1;rw [h1] at h2;cases h2
theorem Qa {x y:En} (h:xI x y<0):eT x.tree y.tree=ay\/x.tree=y.tree:=by
 rcases (vg x y).1 h with q|q
 ·exact Or.inl q
 ·exact Or.inr q.1
theorem CK {α:Type} (p:α->Bool):∀ l:List α,l.drop (l.takeWhile p).length=l.dropWhile p
 | []=>rfl
 | a::l=>by
  by_cases h:p a=ay
  ·simp [h,CK p l]
  ·simp [h]
theorem ND:∀ {m:List En} (t:fD) (_:nQ m),∀ e∈m.dropWhile (fun e=>eT e.tree t),eT e.tree t=aA
 | [],_,_,e,h=>by simp at h
 | a::m,t,hr,e,h=>by
  have hr':=bg.1 hr;by_cases ha:eT a.tree t=ay
  ·rw [aD,if_pos ha] at h;exact ND t hr'.2 e h
  ·rw [aD,if_neg ha] at h;rcases aZ.1 h with rfl|h
   ·simpa using ha
   ·cases hq:eT e.tree t with
    | false=>rfl
    | true =>
     exfalso;rcases Qa (hr'.1 e h) with q|q
     ·exact ha (iU q hq)
     ·exact ha (by rw [q]; exact hq)
theorem Xk:∀ {m:List En} (t:fD) (_:nQ m) (_:∀ e∈m,eT e.tree t=aA),∀ e∈m.dropWhile (fun e=>decide (e.tree=t)),eT t e.tree=ay
 | [],_,_,_,e,h=>by simp at h
 | a::m,t,hr,hl,e,h=>by
  have hr':=bg.1 hr;by_cases ha:a.tree=t
  ·rw [aD,if_pos (by simpa using ha)] at h;exact Xk t hr'.2 (fun e he=>hl e (List.mem_cons_of_mem _ he)) e h
  ·rw [aD,if_neg (by simpa using ha)] at h;have hta:eT t a.tree=ay:=by
    rcases qj a.tree t with q|q|q
    ·rw [hl a (by simp)] at q; cases q
    ·exact absurd q ha
    ·exact q
   rcases aZ.1 h with rfl|h
   ·exact hta
   ·rcases Qa (hr'.1 e h) with q|q
    ·exact iU hta q
    ·rw [<- q]; exact hta
theorem Qb {x t:fD} (h:eT x t=ay):x≠t:=by rintro rfl; rw [kX] at h; cases h
theorem Xl {m:List En} (hr:nQ m) (t:fD):∃ c,m=m.take (kV m t)++wQ m t++c/\(m.take (kV m t)).length=kV m t/\(∀ e∈m.take (kV m t),e.tree≠t)/\(∀ e∈wQ m t,e.tree=t)/\(∀ e∈c,e.tree≠t):=by
 have e1:m.take (kV m t)=m.takeWhile fun e=>eT e.tree t:=by
  unfold kV
  conv=>lhs; arg 2; rw [<- aJ (p:=fun e:En=>eT e.tree t) (l:=m)]
  rw [List.take_left]
 have e2:m.drop (kV m t)=m.dropWhile fun e=>eT e.tree t:=CK _ _;refine⟨(m.drop (kV m t)).dropWhile fun e=>decide (e.tree=t),?_,?_,?_,?_,?_⟩
 ·unfold wQ;rw [List.append_assoc,aJ,aB]
 ·rw [e1]; rfl
 ·rw [e1];intro e he;exact Qb (aU.1 bD e he)
 ·intro e he;unfold wQ at he;exact of_decide_eq_true (aU.1 (bD (p:=fun e:En=>decide (e.tree=t))) e he)
 ·rw [e2];intro e he;have h1:nQ (m.dropWhile fun e=>eT e.tree t):=hr.sublist (List.dropWhile_sublist _);exact (Qb (Xk t h1 (ND t hr) e he)).symm
theorem Kw {α:Type} {p:α->Bool} {l:List α} (h:∀ e∈l,p e=aA):l.filter p=[]:=by
 rw [List.filter_eq_nil_iff];intro e he;rw [h e he];simp
theorem zl {m:List En} (hr:nQ m) (t:fD):wQ m t=m.filter fun e=>decide (e.tree=t):=by
 obtain⟨c,h1,_,h2,h3,h4⟩:=Xl hr t;generalize wQ m t=r at *;generalize m.take (kV m t)=a at *;subst h1;rw [bF,bF,Kw (l:=a) fun e he=>by simpa using h2 e he,Kw (l:=c) fun e he=>by simpa using h4 e he,List.nil_append,List.append_nil];exact (List.filter_eq_self.2 fun e he=>by simpa using h3 e he).symm
theorem NG {m:List En} (hr:nQ m) (t:fD) (p:List C5):Kv (wQ m t) p=fE m t p:=by
 rw [zl hr,Kv,List.any_filter]
 rfl
theorem Xm {m:List En} (hr:nQ m) (t:fD) (e:En):e∈wQ m t↔e∈m/\e.tree=t:=by
 rw [zl hr,aP,decide_eq_true_eq]
def iw (b:Br):Prop:=∀ a∈b.dP,a.par≠-1->∀ e∈b.ent,e.tree=a.id->e.up=aA->fE b.ent a.id e.p=ay
theorem Gd {b:Br} (hr:nQ b.ent):Iy b=ay↔iw b:=by
 unfold Iy iw wR;simp only [aU,Bool.or_eq_true,beq_iff_eq];constructor
 ·intro h a ha hp e he ht hu;have h1:=(h a ha).resolve_left hp e ((Xm hr _ _).2 ⟨he,ht⟩);rw [NG hr] at h1;exact h1.resolve_left (by rw [hu]; simp)
 ·intro h a ha;by_cases hp:a.par=-1
  ·exact Or.inl hp
  ·refine Or.inr fun e he=>?_;obtain⟨h1,h2⟩:=(Xm hr _ _).1 he;rw [NG hr];cases hu:e.up with
   | true=>exact Or.inl rfl
   | false=>exact Or.inr (h a ha hp e h1 h2 hu)
theorem nI (m:List En) (t:fD) (p:List C5):fE m t p=ay↔∃ e∈m,e.tree=t/\e.up=ay/\nH e.p p=ay:=by
 unfold fE;rw [List.any_eq_true];simp [VL]
theorem Ky {b:Br} (h:ji b) (a:Ad) (ht:iw b):iw (eP b a).1:=by
 by_cases hin:a.id∈b.seen
 ·rw [uY hin]; exact ht
 ·rw [wJ hin];intro y hy hp e he hte hu;rcases (kL _ _ _ _).1 hy with rfl|hy
  ·exfalso;have hk:=h.R6 e he;unfold pU at hk;cases hf:gG b.dP e.tree with
   | none=>rw [hf] at hk; cases hk
   | some z =>
    obtain⟨z1,z2⟩:=ny hf;exact hin (by rw [<- hte,<- z2]; exact (h.oks z z1).1)
  ·exact ht y hy hp e he hte hu
theorem xZ {b:Br} (x:fD) (f:Int) (ht:iw b):iw (gW b x f).1:=by
 unfold gW;cases gG b.dP x with
 | none=>exact ht
 | some a =>
  simp only
  split
  ·intro y hy hp e he hte hu;have hy':=aP.1 hy;have he':=aP.1 he;obtain⟨z,h1,h2,h3,h4⟩:=(nI _ _ _).1 (ht y hy'.1 hp e he'.1 hte hu);refine (nI _ _ _).2 ⟨z,aP.2 ⟨h1,?_⟩,h2,h3,h4⟩;rw [h2];exact hy'.2
  ·exact ht
theorem Gf {b:Br} (h:ji b) (e:En) (ht:iw b):iw (iK b e).1:=by
 unfold iK
 split
 ·exact ht
 ·rename_i a ha
  split
  ·exact ht
  ·rename_i h1
   split
   ·exact ht
   ·split
    ·exact ht
    ·have hid:a.id=e.tree:=by
      rcases nN (b.dP.map Ad.id) e.tree with q|⟨k,q,r⟩
      ·exact absurd (CG _ _ ▸ q) h1
      ·rw [CG,q,Int.toNat_natCast] at ha;rw [au,ha] at r;exact L r
     have hA:a∈b.dP:=aX ha;intro y hy hp z hz hte hu;have more:∀ p,fE b.ent y.id p=ay->fE (gT b.ent (fB (b.ent.map fO) (fO e)) { e with up:=decide (a.par≠-1) && !fE b.ent e.tree e.p }) y.id p=ay:=fun p hp=>by
      obtain⟨q,q1,q2⟩:=(nI _ _ _).1 hp;exact (nI _ _ _).2 ⟨q,(kL _ _ _ _).2 (Or.inr q1),q2⟩
     rcases (kL _ _ _ _).1 hz with rfl|hz
     ·have hya:y=a:=by
       have g1:=pV h.dP hA;have g2:=pV h.dP hy;rw [show y.id=a.id from hte.symm.trans hid.symm,g1] at g2;exact (L g2).symm
      have hu':(decide (a.par≠-1) && !fE b.ent e.tree e.p)=aA:=hu;rw [<- hya,decide_eq_true hp,Bool.true_and] at hu';refine more _ ?_;rw [<- show e.tree=y.id from hte];simpa using hu'
     ·exact more _ (ht y hy hp z hz hte hu)
theorem CQ {α:Type} {l:List α} {k:Nat} {x y:α} (hk:l[k]?=O x) (hy:y∈l):y=x\/y∈cutAt l k:=by
 have hlt:=(D.1 hk).1;have e:l=l.take k++x::l.drop (k+1):=by
  conv=>lhs; rw [<- aB k l]
  rw [List.drop_eq_getElem_cons hlt,(D.1 hk).2]
 rw [e] at hy;unfold cutAt;rcases bG.1 hy with h|h
 ·exact Or.inr (List.mem_append_left _ h)
 ·rcases aZ.1 h with h|h
  ·exact Or.inl h
  ·exact Or.inr (List.mem_append_right _ h)
theorem Qc {α:Type} {l:List α} {k:Nat} {y:α} (h:y∈cutAt l k):y∈l:=by
 unfold cutAt at h;rcases bG.1 h with h|h
 ·exact List.mem_of_mem_take h
 ·exact List.mem_of_mem_drop h
theorem aa5 {α:Type} {l:List α} {k:Nat} {x y z:α} (hk:l[k]?=O x) (hz:z∈l):z=x\/z∈l.set k y:=by
 obtain⟨j,hj⟩:=aK.1 hz;by_cases hjk:k=j
 ·subst hjk;rw [hk] at hj;exact Or.inl (L hj).symm
 ·right;refine aK.2 ⟨j,?_⟩;rw [List.getElem?_set_ne hjk];exact hj
theorem Kz {t:fD} {s:List En×List En} {k:Nat} (u:fD) (p:List C5) (h:fE s.1 u p=ay):fE (iV t s k).1 u p=ay:=by
 unfold iV
 split
 ·exact h
 ·rename_i e he
  split
  ·obtain⟨z,h1,h2,h3,h4⟩:=(nI _ _ _).1 h;rcases aa5 (y:=upE e) he h1 with rfl|h5
   ·rename_i hq
    rw [hq.2.1] at h3;cases h3
   ·exact (nI _ _ _).2 ⟨z,h5,h2,h3,h4⟩
  ·exact h
theorem Gg (t:fD) (m:List En):∀ k,k<=m.length->(∀ j,j<k->∀ e,(jk t m k).1[j]?=O e->e.tree=t->e.up=aA->fE (jk t m k).1 t e.p=ay)/\(∀ u p,fE m u p=ay->fE (jk t m k).1 u p=ay)/\(∀ e,e∈(jk t m k).1->e.tree≠t->e∈m)
 | 0,_=>⟨fun j hj=>absurd hj (Nat.not_lt_zero _),fun _ _ h=>h,fun _ h _=>h⟩
 | k+1,hk=>by
  obtain⟨h1,h2,h3⟩:=Gg t m k (by omega);rw [nC];refine⟨fun j hj e he htr hu=>?_,fun u p h=>Kz u p (h2 u p h),fun e he hne=>?_⟩
  ·have hl:=(oW t m k).1;generalize jk t m k=s at *;obtain⟨z,hz⟩:∃ z,s.1[k]?=O z:=⟨_,J (by omega)⟩;by_cases hc:z.tree=t/\z.up=aA/\fE s.1 t z.p=aA
   ·have e1:iV t s k=(s.1.set k (upE z),s.2++[upE z]):=by unfold iV; rw [hz]; simp only; rw [if_pos hc]
    have mono:=Kz (t:=t) (s:=s) (k:=k) t;rw [e1] at he mono ⊢;rw [List.getElem?_set] at he
    split at he
    ·split at he
     ·rw [<- L he] at hu;cases hu
     ·cases he
    ·exact mono _ (h1 j (by omega) e he htr hu)
   ·have e1:iV t s k=s:=by unfold iV; rw [hz]; simp only; rw [if_neg hc]
    rw [e1] at he ⊢;rcases aV j k with h0|h0
    ·exact h1 j h0 e he htr hu
    ·obtain rfl:j=k:=by omega
     rw [hz] at he;obtain rfl:=L he;cases hv:fE s.1 t z.p with
     | true=>rfl
     | false=>exact absurd ⟨htr,hu,hv⟩ hc
  ·unfold iV at he
   split at he
   ·exact h3 e he hne
   ·rename_i z hz
    split at he
    ·rename_i hq
     rcases List.mem_or_eq_of_mem_set he with h5|h5
     ·exact h3 e h5 hne
     ·rw [h5] at hne;exact absurd hq.1 hne
    ·exact h3 e he hne
theorem CX {b:Br} (t x:fD) (f:Int) (ht:iw b):iw (takeB b t x f).1:=by
 unfold takeB
 split
 ·exact ht
 ·rename_i e0 he0
  split
  ·exact ht
  ·rename_i h1
   split
   ·exact ht
   ·have h5:e0.tree=t:=by
     rcases nN (b.ent.map fO) (t,x) with q|⟨k,q,r⟩
     ·exact absurd q h1
     ·rw [q,Int.toNat_natCast] at he0;rw [au,he0] at r;exact congrArg Prod.fst (L r)
    generalize (jh (b.ent.map fO) (t,x)).toNat=k at *
    split
    ·rename_i hup
     intro y hy hp z hz hte hu;obtain⟨q,q1,q2,q3,q4⟩:=(nI _ _ _).1 (ht y hy hp z (Qc hz) hte hu);refine (nI _ _ _).2 ⟨q,(CQ he0 q1).resolve_left ?_,q2,q3,q4⟩;rintro rfl;rw [hup] at q3;cases q3
    ·intro y hy hp z hz hte hu;obtain⟨g1,g2,g3⟩:=Gg t (cutAt b.ent k) (cutAt b.ent k).length (aY _);by_cases hyt:y.id=t
     ·obtain⟨j,hj⟩:=aK.1 hz;have hlt:=(D.1 hj).1;rw [(oW t (cutAt b.ent k) _).1] at hlt;rw [hyt] at hte ⊢;exact g1 j hlt z hj hte hu
     ·have hzt:z.tree≠t:=by rw [hte]; exact hyt
      obtain⟨q,q1,q2,q3,q4⟩:=(nI _ _ _).1 (ht y hy hp z (Qc (g3 z hz hzt)) hte hu);refine g2 _ _ ((nI _ _ _).2 ⟨q,(CQ he0 q1).resolve_left ?_,q2,q3,q4⟩);rintro rfl;exact hyt (q2.symm.trans h5)
theorem SA (x:iH) (t s:fD) (r:Bool) (hr:jM (jf x) (t,s)=r) (w:aW):bf aj 125 #[nW x,mW t,mW s] w fun e w'=>e=ah (aS r)/\Below w.heap.size w w':=by
 obtain⟨y1,y2,y3,y4,⟨yo,yn,yc⟩,y6,y7⟩:=x;obtain⟨c,d⟩:=t;obtain⟨g,h⟩:=s;obtain⟨h0,X,Y,Z⟩:=gV w #[U V y1,U V y2,U V y3,U V y4,aC yo yn yc,U V y6,aS y7] #[U V c,U V d] #[U V g,U V h] 66 31 31;have x1:=X.cell 1;have x0:=X.cell 0;have x2:=X.cell 2;have x3:=X.cell 3;obtain⟨c0,c1⟩:=Y.cs2;obtain⟨d0,d1⟩:=Z.cs2;simp only [aL,aG,List.getElem?_cons_succ] at x0 x1 x2 x3;have C1:=yV (y1,y2) (c,d);have C2:=yV (y3,y4) (g,h);have B:=K h0;have he:jM ((y1,y2),(y3,y4)) ((c,d),(g,h))=if ((y1,y2):fD)=(c,d) then eT (y3,y4) (g,h) else eT (y1,y2) (c,d):=by
  unfold jM;by_cases q:((y1,y2):fD)=(c,d)
  ·rw [if_pos q,q,kX,(qh _ _).2 rfl]; rfl
  ·rw [if_neg q,aT.2 fun q2=>q ((qh _ _).1 q2)]; simp
 clear h0 X Y Z;by_cases q:((y1,y2):fD)=(c,d)
 ·have hr2:=K (show eT (y3,y4) (g,h)=r by rw [<- hr]; show _=jM ((y1,y2),(y3,y4)) ((c,d),(g,h)); rw [he,if_pos q]);obtain⟨rfl,rfl⟩:y1=c/\y2=d:=by simpa using q
  have hne:=Ho y1 y2 y1 y2 aA (by simp);clear he hr q;go_enter bI,bH;go_wp2_with fail;refine (C2 _).mono ?_;rintro e w1 ⟨rfl,hb⟩;go_wp2;go_ret;exact⟨congrArg (fun b=>ah (aS b)) hr2.out,B.out.trans (hb.mono B.out.size)⟩
 ·have hr2:=K (show eT (y1,y2) (c,d)=r by rw [<- hr]; show _=jM ((y1,y2),(y3,y4)) ((c,d),(g,h)); rw [he,if_neg q]);have hne:=Ho y1 y2 c d ay (by rw [show (y1 == c && y2 == d)=aA from aT.2 fun h=>q (by simp at h; rw [h.1,h.2])]; rfl);clear he hr q;go_enter bI,bH;go_wp2_with fail;refine (C1 _).mono ?_;rintro e w1 ⟨rfl,hb⟩;go_wp2;go_ret;exact⟨congrArg (fun b=>ah (aS b)) hr2.out,B.out.trans (hb.mono B.out.size)⟩
theorem CY (g:Nat) (cb:Array bM) (eg:∀ args w,(callFunc g args).run aj w=.ok (.enter g args) w) (n k:Nat) (p:Nat->Bool) (w:aW) (hn:n<=1000000)
  (hf:∀ i,i<n->∀ W,Below w.heap.size w W->bf aj g (#[U V i]++cb) W fun e w'=>e=ah (aS (p i))/\Below W.heap.size W w')
  (hk:k<=n) (hlo:∀ i,i<k->p i=aA) (hhi:∀ i,k<=i->i<n->p i=ay) :
  bf aj 118 #[U V n,.func (.func g) #[] cb] w fun e w'=>e=ah (U V k)/\Below w.heap.size w w':=by
 have HF:=K hf;have LO:=K hlo;have HI:=K hhi;clear hf hlo hhi;go_enter Tryz.func118,Tryz.ntmps118;go_wp2
 go_loopg [5,6] n (fun kx s5 s6 wr=>∃ lo hi:Nat,s5=U V lo/\s6=U V hi/\lo<=k/\k<=hi/\hi<=n/\hi-lo<=kx/\Below w.heap.size w wr)
 case atStart=>exact⟨0,n,rfl,rfl,bL _,hk,aY _,by omega,Below.refl _ _⟩
 case round =>
  obtain⟨lo,hi,rfl,rfl,hlk,hkh,hin,hg,hb⟩:=hrel;have B:=K hb;clear hb;by_cases hlt:lo<hi
  ·have hc:=HF.out ((lo+hi) / 2) (by omega) wr B.out;rw [show (((lo+hi) / 2:Nat):Int)=((lo:Int)+(hi:Int)) / 2 by omega] at hc;cases hp:p ((lo+hi) / 2) <;> rw [hp] at hc
   ·have HP:=K hp;have HK:=K (show (lo+hi) / 2+1<=k from by
     rcases aV ((lo+hi) / 2) k with h|h
     ·exact h
     ·have:=HI.out _ h (by omega); rw [hp] at this; cases this)
    clear hp;go_wp2_with (go_at_fn g; refine hc.mono ?_; rintro e w' ⟨rfl,hb2⟩)
    go_roundg (hi-((lo+hi) / 2+1))
    case measure=>omega
    case rel=>exact⟨(lo+hi) / 2+1,hi,by rw [show ((lo:Int)+(hi:Int)) / 2+1=(((lo+hi) / 2+1:Nat):Int) by omega],rfl,HK.out,hkh,hin,aY _,B.out.trans (hb2.mono B.out.size)⟩
   ·have HP:=K hp;have HK:=K (show k<=(lo+hi) / 2 from by
     rcases aV ((lo+hi) / 2) k with h|h
     ·have:=LO.out _ h; rw [hp] at this; cases this
     ·exact h)
    clear hp;go_wp2_with (go_at_fn g; refine hc.mono ?_; rintro e w' ⟨rfl,hb2⟩)
    go_roundg ((lo+hi) / 2-lo)
    case measure=>omega
    case rel=>exact⟨lo,(lo+hi) / 2,rfl,by rw [show ((lo:Int)+(hi:Int)) / 2=(((lo+hi) / 2:Nat):Int) by omega],hlk,HK.out,by omega,aY _,B.out.trans (hb2.mono B.out.size)⟩
  ·obtain rfl:hi=lo:=by omega
   obtain rfl:hi=k:=by omega
   go_wp2;go_ret;exact⟨rfl,B.out⟩
theorem CZ {W W1:aW} {v:bM} {l:List iH} {ao:Option bN} {n c k:Nat} {x:iH} (h:lS W v l) (hv:v=aC ao n c) (hn:l.length=n) (hk:l[k]?=O x) (hb:Below W.heap.size W W1) :
  ∃ p:bN,(∀ w,(Instr.indexAt 25 (aC ao n c) (U V k)).run aj w=.ok (ak (O p)) w) /\
   (∀ d os,(grow (redrawn W1 d) os).cell? p=O (U V x.1))/\(∀ d os,(grow (redrawn W1 d) os).cell? ⟨p.block,p.off+1,aF⟩=O (U V x.2.1)) /\
   (∀ d os,(grow (redrawn W1 d) os).cell? ⟨p.block,p.off+2,aF⟩=O (U V x.2.2.1))/\(∀ d os,(grow (redrawn W1 d) os).cell? ⟨p.block,p.off+3,aF⟩=O (U V x.2.2.2.1)) /\
   (∀ d os,(grow (redrawn W1 d) os).cell? ⟨p.block,p.off+4,aF⟩=O (dY x.2.2.2.2.1))/\(∀ d os,(grow (redrawn W1 d) os).cell? ⟨p.block,p.off+5,aF⟩=O (U V x.2.2.2.2.2.1)) /\
   (∀ d os,(grow (redrawn W1 d) os).cell? ⟨p.block,p.off+6,aF⟩=O (aS x.2.2.2.2.2.2)):=by
 obtain⟨p,h1,h2⟩:=LK h hv hn hk;obtain⟨c0,c1,c2,c3,c4,c5,c6⟩:=h2 _ hb;exact⟨p,h1,cell_regrown c0,cell_regrown c1,cell_regrown c2,cell_regrown c3,cell_regrown c4,cell_regrown c5,cell_regrown c6⟩
theorem aa6 (args:Array bM) (w:aW):(callFunc 124 args).run aj w=.ok (.enter 124 args) w:=gD bJ rfl rfl args w
theorem aa7 (args:Array bM) (w:aW):(callFunc 119 args).run aj w=.ok (.enter 119 args) w:=gD bK rfl rfl args w
theorem aa8 (i:Nat) (b1 b2 b3:Nat) (ao:Option bN) (n ac:Nat) (l:List iH) (t s:fD) (y:iH) (r:Bool) (w:aW) (hv:lS w (aC ao n ac) l) (hn:l.length=n) (hy:l[i]?=O y) (hr:(!jM (jf y) (t,s))=r)
  (h1:dJ w b1 #[aC ao n ac] 25) (h2:dJ w b2 #[U V t.1,U V t.2] 31) (h3:dJ w b3 #[U V s.1,U V s.2] 31) :
  bf aj 124 #[U V i,ak (O ⟨b1,0,aF⟩),ak (O ⟨b2,0,aF⟩),ak (O ⟨b3,0,aF⟩)] w fun e w'=>e=ah (aS r)/\Below w.heap.size w w':=by
 obtain⟨p,ix,p0,p1,p2,p3,p4,p5,p6⟩:=CZ hv rfl hn hy (Below.refl _ _);have a0:=cell_regrown (h1.cell 0);have b0:=cell_regrown (h2.cell 0);have b1':=cell_regrown (h2.cell 1);have c0:=cell_regrown (h3.cell 0);have c1:=cell_regrown (h3.cell 1);obtain⟨q,hq⟩:∃ q,jM (jf y) (t,s)=q:=⟨_,rfl⟩;have C:∀ k os,bf aj 125 #[nW y,mW t,mW s] (grow (redrawn w k) os) fun e w''=>e=ah (aS q)/\∃ p:Regrown,w''=grow (redrawn w p.d) p.os:=fun k os=>Calls.regrown_of (SA y t s q hq _);rw [hq] at hr;have R:=K hr;have BN:=K (fun dq osq=>below_regrown w dq osq);obtain⟨y1,y2,y3,y4,⟨yo,yn,yc⟩,y6,y7⟩:=y;obtain⟨c,d⟩:=t;obtain⟨g,h⟩:=s;simp only at p0 p1 p2 p3 p4 p5 p6 b0 b1' c0 c1 C;clear hv hn hy hr hq h1 h2 h3;go_enter bJ,Tryz.ntmps124;go_wp2;refine wp_region_quiet_below (by kernel_rfl) (by kernel_rfl) ?_
 repeat (go_big_quiet_step (first | (with_reducible exact C _ _) | exact agz _ _))
 refine wpQuiet_nil ?_;intro _ hw';obtain⟨⟨dq,osq⟩,hw''⟩:=hw';subst hw'';go_wp2;go_ret;exact⟨congrArg (fun b=>ah (aS b)) R.out,BN.out _ _⟩
theorem aa9 (i:Nat) (b1 b2:Nat) (ao:Option bN) (n ac:Nat) (l:List iH) (t:fD) (y:iH) (r:Bool) (w:aW) (hv:lS w (aC ao n ac) l) (hn:l.length=n) (hy:l[i]?=O y) (hr:(!eT (y.1,y.2.1) t)=r)
  (h1:dJ w b1 #[aC ao n ac] 25) (h2:dJ w b2 #[U V t.1,U V t.2] 31) :
  bf aj 119 #[U V i,ak (O ⟨b1,0,aF⟩),ak (O ⟨b2,0,aF⟩)] w fun e w'=>e=ah (aS r)/\Below w.heap.size w w':=by
 obtain⟨p,ix,p0,p1,p2,p3,p4,p5,p6⟩:=CZ hv rfl hn hy (Below.refl _ _);have a0:=cell_regrown (h1.cell 0);have b0:=cell_regrown (h2.cell 0);have b1':=cell_regrown (h2.cell 1);have C:∀ k os,bf aj 120 #[mW (y.1,y.2.1),mW t] (grow (redrawn w k) os) fun e w''=>e=ah (aS (eT (y.1,y.2.1) t))/\∃ p:Regrown,w''=grow (redrawn w p.d) p.os:=fun k os=>Calls.regrown_of (yV (y.1,y.2.1) t _);generalize eT (y.1,y.2.1) t=q at *;have R:=K hr;have BN:=K (fun dq osq=>below_regrown w dq osq);obtain⟨y1,y2,y3,y4,⟨yo,yn,yc⟩,y6,y7⟩:=y;obtain⟨c,d⟩:=t;simp only at p0 p1 p2 p3 p4 p5 p6 b0 b1' C;clear hv hn hy hr h1 h2 p2 p3 p4 p5 p6;go_enter bK,Tryz.ntmps119;go_wp2;refine wp_region_quiet_below (by kernel_rfl) (by kernel_rfl) ?_
 repeat (go_big_quiet_step (first | (with_reducible exact C _ _) | exact ahm _ _))
 refine wpQuiet_nil ?_;intro _ hw';obtain⟨⟨dq,osq⟩,hw''⟩:=hw';subst hw'';go_wp2;go_ret;exact⟨congrArg (fun b=>ah (aS b)) R.out,BN.out _ _⟩
theorem uw {α:Type} {E:Ek α} {W:aW} {so:Option bN} {sn sc:Nat} {l:List α} (h:Row E W (aC so sn sc) l):l.length=sn:=by
 obtain⟨ao,ac,hv⟩:=h.len;simp at hv;exact hv.2.1.symm
theorem mJ {W:aW} {l:List iH} {m:List En} (h:eY (jD W) l m) {i:Nat} {y:iH} (hy:l[i]?=O y):∃ e,m[i]?=O e/\jf y=fO e/\jD W y e:=by
 have hlt:=(D.1 hy).1;obtain⟨e,he⟩:∃ e,m[i]?=O e:=⟨_,J (by rw [<- h.len]; exact hlt)⟩;obtain⟨y',hy',hx⟩:=h.at i e he;rw [hy] at hy';obtain rfl:=L hy';exact⟨e,he,Prod.ext hx.1 hx.2.1,hx⟩
theorem SE {m:List En} (hr:nQ m) {i j:Nat} {x y:En} (hij:i<j) (hx:m[i]?=O x) (hy:m[j]?=O y):xI x y<0:=by
 obtain⟨h1,rfl⟩:=D.1 hx;obtain⟨h2,rfl⟩:=D.1 hy;exact aR.1 hr i j h1 h2 hij
theorem mq (l:List (fD×fD)) (x:fD×fD):fB l x<=l.length:=(aH _).length_le
theorem xJ {m:List En} (hr:nQ m) (x:fD×fD) {i:Nat} {e:En} (hi:fB (m.map fO) x<=i) (he:m[i]?=O e):jM (fO e) x=aA:=by
 have hlt:=(D.1 he).1;obtain⟨z,hz⟩:∃ z,m[fB (m.map fO) x]?=O z:=⟨_,J (by omega)⟩;have h0:=zk (m.map fO) x (fO z) (by rw [au,hz]; rfl);rcases aV (fB (m.map fO) x) i with h|h
 ·have h1:=SE hr h hz he;cases hq:jM (fO e) x with
  | false=>rfl
  | true =>
   rw [<- rU] at h1;have h2:xI z ⟨x.1,x.2,[],0,aA⟩<0:=Ig z e ⟨x.1,x.2,[],0,aA⟩ ((rU z e).1 h1) ((rU e ⟨x.1,x.2,[],0,aA⟩).1 hq);rw [<- rU] at h2;rw [show jM (fO z) x=ay from h2] at h0;cases h0
 ·have e1:i=fB (m.map fO) x:=by omega
  rw [e1,hz] at he;rw [<- L he];exact h0
theorem SF (v:Sl) (l:List iH) (m:List En) (t s:fD) (w:aW) (hv:lS w (dY v) l) (hA:eY (jD w) l m) (hr:nQ m) (hl:l.length<=1000) :
  bf aj 77 #[dY v,mW t,mW s] w fun e w'=>e=ah (.tuple #[U V (fB (m.map fO) (t,s)),aS (sO m t s)])/\Below w.heap.size w w':=by
 obtain⟨so,n,sc⟩:=v;have hn:l.length=n:=uw hv;obtain⟨c,d⟩:=t;obtain⟨g,h⟩:=s;obtain⟨k,hk⟩:∃ k,fB (m.map fO) ((c,d),(g,h))=k:=⟨_,rfl⟩;obtain⟨th,hth⟩:∃ k,sO m (c,d) (g,h)=k:=⟨_,rfl⟩;have hkn:k<=n:=by rw [<- hk,<- hn,hA.len]; simpa using mq (m.map fO) ((c,d),(g,h))
 rw [hk,hth];obtain⟨h0,X,Y,Z⟩:=gV w #[aC so n sc] #[U V c,U V d] #[U V g,U V h] 25 31 31;have BB:=K h0;have HV:=K (hv.on h0);have HA:=K (hA.mono fun _ _ q=>q.on h0);have X1:=K X;have Y1:=K Y;have Z1:=K Z;have x0:=X.cell 0;simp only [aL,aG] at x0;have HF:=K (show ∀ i,i<n->∀ W,Below (((w.alloc (aI #[aC so n sc] 25)).alloc (aI #[U V c,U V d] 31)).alloc (aI #[U V g,U V h] 31)).heap.size (((w.alloc (aI #[aC so n sc] 25)).alloc (aI #[U V c,U V d] 31)).alloc (aI #[U V g,U V h] 31)) W ->
   bf aj 124 (#[U V i]++#[ak (O ⟨w.heap.size,0,aF⟩),ak (O ⟨w.heap.size+1,0,aF⟩),ak (O ⟨w.heap.size+1+1,0,aF⟩)]) W fun e w'=>e=ah (aS ((fun i=>match l[i]? with | some y=>!jM (jf y) ((c,d),(g,h)) | none=>ay) i))/\Below W.heap.size W w' from fun i hi W hb=>by
  obtain⟨y,hy⟩:∃ y,l[i]?=O y:=⟨_,J (by omega)⟩;refine aa8 i _ _ _ so n sc l (c,d) (g,h) y _ W (HV.out.on hb) hn hy ?_ (X1.out.on hb) (Y1.out.on hb) (Z1.out.on hb);simp only [hy])
 have HLO:=K (show ∀ i,i<k->(fun i=>match l[i]? with | some y=>!jM (jf y) ((c,d),(g,h)) | none=>ay) i=aA from fun i hi=>by
  obtain⟨y,hy⟩:∃ y,l[i]?=O y:=⟨_,J (by omega)⟩;obtain⟨e,he,hke,_⟩:=mJ HA.out hy;have h1:=rV (m.map fO) ((c,d),(g,h)) i (fO e) (by rw [hk]; exact hi) (by rw [au,he]; rfl);simp only [hy,hke,h1]
  rfl)
 have HHI:=K (show ∀ i,k<=i->i<n->(fun i=>match l[i]? with | some y=>!jM (jf y) ((c,d),(g,h)) | none=>ay) i=ay from fun i hi hi2=>by
  obtain⟨y,hy⟩:∃ y,l[i]?=O y:=⟨_,J (by omega)⟩;obtain⟨e,he,hke,_⟩:=mJ HA.out hy;have h1:=Sb.xJ hr ((c,d),(g,h)) (by rw [hk]; exact hi) he;simp only [hy,hke,h1]
  rfl)
 have HK:=K hk;have HT:=K hth;have HN:=K hn;have ln:n<=1000:=by omega
 clear hv hA h0 X Y Z hk hth hl hn hr;go_enter Tryz.func77,Tryz.ntmps77;go_wp2_with fail;generalize ((w.alloc (aI #[aC so n sc] 25)).alloc (aI #[U V c,U V d] 31)).alloc (aI #[U V g,U V h] 31)=W at *;refine (CY 124 #[ak (O ⟨w.heap.size,0,aF⟩),ak (O ⟨w.heap.size+1,0,aF⟩),ak (O ⟨w.heap.size+1+1,0,aF⟩)] aa6 n k _ W (by omega) HF.out hkn HLO.out HHI.out).mono ?_;rintro e1 w1 ⟨rfl,hb⟩;have BN:=K (fun dq osq=>(BB.out.trans (hb.mono BB.out.size)).trans ((below_regrown w1 dq osq).mono (BB.out.trans (hb.mono BB.out.size)).size));have a0:=cell_regrown (show w1.cell? ⟨w.heap.size,0,aF⟩=O (aC so n sc) from (X1.out.on hb).cell 0);have b0:=cell_regrown (show w1.cell? ⟨w.heap.size+1,0,aF⟩=O (U V c) from (Y1.out.on hb).cell 0);have b1:=cell_regrown (show w1.cell? ⟨w.heap.size+1,1,aF⟩=O (U V d) from (Y1.out.on hb).cell 1);have c0:=cell_regrown (show w1.cell? ⟨w.heap.size+1+1,0,aF⟩=O (U V g) from (Z1.out.on hb).cell 0);have c1:=cell_regrown (show w1.cell? ⟨w.heap.size+1+1,1,aF⟩=O (U V h) from (Z1.out.on hb).cell 1);clear x0 HF HLO HHI;by_cases hkl:k<n
 ·obtain⟨y,hy⟩:∃ y,l[k]?=O y:=⟨_,J (by rw [HN.out]; exact hkl)⟩;obtain⟨p,ix,p0,p1,p2,p3,p4,p5,p6⟩:=CZ HV.out rfl HN.out hy hb;have TH:=K (show th=decide (jf y=((c,d),(g,h))) from by
   obtain⟨e,he,hke,_⟩:=mJ HA.out hy;rw [<- HT.out,sO,HK.out,he,hke])
  have g4:decide ((k:Int)<(n:Int))=ay:=by simp; omega
  obtain⟨y1,y2,y3,y4,⟨yo,yn,yc⟩,y6,y7⟩:=y;simp only at p0 p1 p2 p3;clear p4 p5 p6 hb hy;obtain⟨r1,hr1⟩:∃ r,(y1 == c && y2 == d)=r:=⟨_,rfl⟩;obtain⟨r2,hr2⟩:∃ r,(y3 == g && y4 == h)=r:=⟨_,rfl⟩;have e1:=tF y1 y2 c d r1 hr1;have e2:=tF y3 y4 g h r2 hr2;have R:=K (show th=(r1 && r2) from by
   rw [TH.out,<- hr1,<- hr2,Bool.eq_iff_iff];simp only [decide_eq_true_eq,Bool.and_eq_true,beq_iff_eq,Prod.mk.injEq])
  clear hr1 hr2 TH HT;cases r1 <;> cases r2
  all_goals
   go_wp2;refine wp_region_quiet_below (by kernel_rfl) (by kernel_rfl) ?_
   repeat (go_big_quiet_step (fail))
   refine wpQuiet_nil ?_;intro _ hw';obtain⟨⟨dq,osq⟩,hw''⟩:=hw';subst hw'';go_wp2
   go_ret2
   exact⟨by rw [R.out]; rfl,BN.out _ _⟩
 ·have TH:=K (show th=aA from by
   rw [<- HT.out,sO,HK.out,List.getElem?_eq_none (by rw [<- HA.out.len,HN.out]; omega)])
  have g4:decide ((k:Int)<(n:Int))=aA:=by simp; omega
  clear hb HT;go_wp2;refine wp_region_quiet_below (by kernel_rfl) (by kernel_rfl) ?_
  repeat (go_big_quiet_step (fail))
  refine wpQuiet_nil ?_;intro _ hw';obtain⟨⟨dq,osq⟩,hw''⟩:=hw';subst hw'';go_wp2
  go_ret2
  exact⟨by rw [TH.out]; rfl,BN.out _ _⟩
def cutV (v:Sl) (f k:Nat):Sl:=match v with
 | (O a,_,c)=>(O (if c=f then a else a.add (f * 7)),k,c-f)
 | (aF,_,_)=>(aF,0,0)
theorem Xn {α:Type} (p:α->Bool):∀ (l:List α) (j:Nat) (y:α),j<(l.takeWhile p).length->l[j]?=O y->p y=ay
 | [],_,_,_,h=>by simp at h
 | a::l,j,y,hj,h=>by
  by_cases ha:p a=ay
  ·rw [Q,if_pos ha,aM] at hj;cases j with
   | zero=>rw [<- L (show O a=O y from h)]; exact ha
   | succ j=>exact Xn p l j y (by omega) (by simpa using h)
  ·rw [Q,if_neg ha] at hj;simp at hj
theorem Xo {α:Type} (p:α->Bool):∀ (l:List α) (y:α),l[(l.takeWhile p).length]?=O y->p y=aA
 | [],_,h=>by simp at h
 | a::l,y,h=>by
  by_cases ha:p a=ay
  ·rw [Q,if_pos ha,aM] at h;exact Xo p l y (by simpa using h)
  ·rw [Q,if_neg ha] at h;rw [<- L (show O a=O y from h)];simpa using ha
theorem SG (a:bN) (f e len cap:Nat) (h:f<=e) (h6:e<=cap) (w:aW):(Instr.sliceAt 25 (aC (O a) len cap) (O (U V f)) (O (U V e)) aF).run aj w=.ok (dY (cutV (O a,len,cap) f (e-f))) w:=by
 have h1:(f:Int)<=(e:Int):=by omega
 have h3:(e:Int)<=cap:=by omega
 obtain⟨i,i1,i2,i3,i4⟩:=nX.info;have i1':Tryz.prog.info? 66=O i:=i1;have hu':Tryz.prog.underlying 25=O (.slice 66):=nX.hu;have i3':i.size=7:=i3;by_cases he:cap=f
 ·subst he;obtain rfl:e=cap:=by omega
  simp [go_sem,hu',sizeOf,typeInfo,i1',i3',cutV]
 ·simp [go_sem,hu',sizeOf,typeInfo,i1',i3',cutV,he,h,h6]
theorem Qd {W:aW} {v:Sl} {l:List iH} (h:lS W (dY v) l) (f k:Nat) (hk:f+k<=l.length) :
  (∀ w,(Instr.sliceAt 25 (dY v) (O (U V f)) (O (U V ((f+k:Nat):Int))) aF).run aj w=.ok (dY (cutV v f k)) w)/\lS W (dY (cutV v f k)) ((l.drop f).take k):=by
 obtain⟨so,sn,sc⟩:=v;rcases h with⟨rfl,hv⟩|⟨a,cap,hv,h2,h3,h4⟩
 ·obtain⟨rfl,rfl,rfl⟩:so=aF/\sn=0/\sc=0:=by simpa using hv
  obtain⟨rfl,rfl⟩:f=0/\k=0:=by simp at hk; omega
  refine⟨fun w=>?_,Or.inl ⟨rfl,rfl⟩⟩;obtain⟨i,i1,i2,i3,i4⟩:=nX.info;have i1':Tryz.prog.info? 66=O i:=i1;have hu':Tryz.prog.underlying 25=O (.slice 66):=nX.hu;simp [go_sem,hu',sizeOf,typeInfo,i1',cutV]
 ·obtain⟨rfl,rfl,rfl⟩:so=O a/\sn=l.length/\sc=cap:=by simpa using hv
  refine⟨fun w=>by have h:=SG a f (f+k) l.length sc (Nat.le_add_right _ _) (Nat.le_trans hk h2) w; rwa [Nat.add_sub_cancel_left] at h,?_⟩;refine Or.inr ⟨(if sc=f then a else a.add (f * 7)),sc-f,?_,?_,by omega,fun j u hj=>?_⟩
  ·have e:((l.drop f).take k).length=k:=by rw [aN,aO]; omega
   rw [e]
   rfl
  ·rw [aN,aO]; omega
  ·have hlt:=(D.1 hj).1;have hlen:(flat EN ((l.drop f).take k)).length=k * 7:=by
    rw [eG nX,aN,aO];show _ * 7=_;rw [show min k (l.length-f)=k by omega]
   rw [hlen] at hlt;rw [if_neg (by omega),add_add];refine h4 _ u ?_;have e1:flat EN l=flat EN (l.take f)++(flat EN ((l.drop f).take k)++flat EN ((l.drop f).drop k)):=by
    rw [<- iA,aB,<- iA,aB]
   have e2:(flat EN (l.take f)).length=f * 7:=by
    rw [eG nX,aN];show _ * 7=_;rw [show min f l.length=f by omega]
   rw [e1,List.getElem?_append_right (by rw [e2]; omega),e2,show f * 7+j-f * 7=j by omega,List.getElem?_append_left (by rw [hlen]; exact hlt)];exact hj
theorem Gh (m:List En) (t:fD):kV m t+(wQ m t).length<=m.length:=by
 have h1:(wQ m t).length<=(m.drop (kV m t)).length:=(aH _).length_le;have h2:kV m t<=m.length:=(aH _).length_le;rw [aO] at h1;omega
theorem C9 (v:Sl) (l:List iH) (m:List En) (t:fD) (w:aW) (hv:lS w (dY v) l) (hA:eY (jD w) l m) (hr:nQ m) (hl:l.length<=1000) :
  bf aj 73 #[dY v,mW t] w fun e w'=>e=ah (dY (cutV v (kV m t) (wQ m t).length))/\Below w.heap.size w w':=by
 have hfk:=Gh m t;have hML:l.length=m.length:=hA.len;obtain⟨f,hf⟩:∃ f,kV m t=f:=⟨_,rfl⟩;obtain⟨k,hk⟩:∃ k,(wQ m t).length=k:=⟨_,rfl⟩;rw [hf,hk] at hfk ⊢;have RC:=K ((Qd hv f k (by omega)).1);obtain⟨so,n,sc⟩:=v;generalize cutV (so,n,sc) f k=z at RC ⊢;obtain⟨z1,z2,z3⟩:=z;have hn:l.length=n:=uw hv;obtain⟨c,d⟩:=t;obtain⟨h0,X,Y⟩:=gM w #[aC so n sc] #[U V c,U V d] 25 31;have BB:=K h0;have HV:=K (hv.on h0);have HA:=K (hA.mono fun _ _ q=>q.on h0);have X1:=K X;have Y1:=K Y;have x0:=X.cell 0;simp only [aL,aG] at x0;have FL:∀ (i:Nat) (e:En),i<f->m[i]?=O e->eT e.tree (c,d)=ay:=fun i e hi he=>Xn (fun e:En=>eT e.tree (c,d)) m i e (by unfold kV at hf; omega) he;have FH:∀ (i:Nat) (e:En),f<=i->m[i]?=O e->eT e.tree (c,d)=aA:=fun i e hi he=>by
  refine ND (c,d) hr e ?_;rw [<- CK];unfold kV at hf;rw [hf];exact aX (show (m.drop f)[i-f]?=O e by rw [aQ,show f+(i-f)=i by omega]; exact he)
 have BL:=K (show ∀ (i:Nat) (e:En),i<k->m[f+i]?=O e->e.tree=(c,d) from fun i e hi he=>by
  have:=Xn (fun e:En=>decide (e.tree=(c,d))) (m.drop f) i e (by unfold wQ at hk; rw [hf] at hk; omega) (by rw [aQ]; exact he);exact of_decide_eq_true this)
 have BH:=K (show ∀ (e:En),m[f+k]?=O e->e.tree≠(c,d) from fun e he=>by
  have:=Xo (fun e:En=>decide (e.tree=(c,d))) (m.drop f) e (by unfold wQ at hk; rw [hf] at hk; rw [hk,aQ]; exact he);exact of_decide_eq_false this)
 have HF:=K (show ∀ i,i<n->∀ W,Below ((w.alloc (aI #[aC so n sc] 25)).alloc (aI #[U V c,U V d] 31)).heap.size ((w.alloc (aI #[aC so n sc] 25)).alloc (aI #[U V c,U V d] 31)) W ->
   bf aj 119 (#[U V i]++#[ak (O ⟨w.heap.size,0,aF⟩),ak (O ⟨w.heap.size+1,0,aF⟩)]) W fun e w'=>e=ah (aS ((fun i=>match l[i]? with | some y=>!eT (y.1,y.2.1) (c,d) | none=>ay) i))/\Below W.heap.size W w' from fun i hi W hb=>by
  obtain⟨y,hy⟩:∃ y,l[i]?=O y:=⟨_,J (by omega)⟩;refine aa9 i _ _ so n sc l (c,d) y _ W (HV.out.on hb) hn hy ?_ (X1.out.on hb) (Y1.out.on hb);simp only [hy])
 have HLO:=K (show ∀ i,i<f->(fun i=>match l[i]? with | some y=>!eT (y.1,y.2.1) (c,d) | none=>ay) i=aA from fun i hi=>by
  obtain⟨y,hy⟩:∃ y,l[i]?=O y:=⟨_,J (by omega)⟩;obtain⟨e,he,hke,hx⟩:=mJ HA.out hy;have h1:=FL i e hi he;rw [<- hx.1] at h1;simp only [hy,h1]
  rfl)
 have HHI:=K (show ∀ i,f<=i->i<n->(fun i=>match l[i]? with | some y=>!eT (y.1,y.2.1) (c,d) | none=>ay) i=ay from fun i hi hi2=>by
  obtain⟨y,hy⟩:∃ y,l[i]?=O y:=⟨_,J (by omega)⟩;obtain⟨e,he,hke,hx⟩:=mJ HA.out hy;have h1:=FH i e hi he;rw [<- hx.1] at h1;simp only [hy,h1]
  rfl)
 have HN:=K hn;have ln:n<=1000:=by omega
 have apY:f+k<=n:=by omega
 clear hv hA h0 X Y hk hf hl hn hr hfk hML FL FH;go_enter Tryz.func73,Tryz.ntmps73;go_wp2_with fail;generalize (w.alloc (aI #[aC so n sc] 25)).alloc (aI #[U V c,U V d] 31)=W at *;refine (CY 119 #[ak (O ⟨w.heap.size,0,aF⟩),ak (O ⟨w.heap.size+1,0,aF⟩)] aa7 n f _ W (by omega) HF.out (by omega) HLO.out HHI.out).mono ?_;rintro e1 w1 ⟨rfl,hb⟩;have B1:=K hb;clear x0 HF HLO HHI hb;go_wp2
 go_loopw [6] (fun i wr=>∃ j:Nat,j<=k/\i=U V ((f+j:Nat):Int)/\Below W.heap.size W wr) (fun i _=>f+k-(intOf i).toNat)
 case atStart=>exact⟨0,bL _,by simp,B1.out⟩
 case round =>
  obtain⟨j,hj,rfl,hbe⟩:=hrel;have BE:=K hbe;have a0:=cell_regrown (show wr.cell? ⟨w.heap.size,0,aF⟩=O (aC so n sc) from (X1.out.on hbe).cell 0);have b0:=cell_regrown (show wr.cell? ⟨w.heap.size+1,0,aF⟩=O (U V c) from (Y1.out.on hbe).cell 0);have b1:=cell_regrown (show wr.cell? ⟨w.heap.size+1,1,aF⟩=O (U V d) from (Y1.out.on hbe).cell 1);have BN:=K (fun dq osq=>BE.out.trans ((below_regrown wr dq osq).mono BE.out.size));clear hbe;by_cases hjk:j<k
  ·obtain⟨y,hy⟩:∃ y,l[f+j]?=O y:=⟨_,J (by rw [HN.out]; omega)⟩;obtain⟨p,ix,p0,p1,p2,p3,p4,p5,p6⟩:=CZ HV.out rfl HN.out hy BE.out;obtain⟨e,he,_,hx⟩:=mJ HA.out hy;have ht:(y.1,y.2.1)=(c,d):=hx.1.trans (BL.out j e hjk he);have hjn:f+j<n:=by omega
   have g4:decide (((f+j:Nat):Int)<(n:Int))=ay:=by simp; omega
   have hw3:IntKind.i64.wrap (((f+j:Nat):Int)+1)=((f+(j+1):Nat):Int):=by rw [IntWalk.i64_in _ (by omega)]; omega
   obtain⟨y1,y2,y3,y4,⟨yo,yn,yc⟩,y6,y7⟩:=y;obtain⟨rfl,rfl⟩:y1=c/\y2=d:=by simpa using ht
   simp only at p0 p1;have e1:=tF y1 y2 y1 y2 ay (by simp);clear p2 p3 p4 p5 p6 hy he hx ht;generalize hq:f+j=q at *;have HQ:=K hq;clear hq;go_wp2;refine wp_region_quiet_below (by kernel_rfl) (by kernel_rfl) ?_
   repeat (go_big_quiet_step (fail))
   refine wpQuiet_nil ?_;intro _ hw';obtain⟨⟨dq,osq⟩,hw''⟩:=hw';subst hw'';go_wp2
   go_roundw
   case rel=>exact⟨j+1,by omega,by rfl,BN.out _ _⟩
   case measure =>
    have hq:=HQ.out;simp [intOf];omega
  ·obtain rfl:j=k:=by omega
   have RC2:=RC.out;by_cases hjn:f+j<n
   ·obtain⟨y,hy⟩:∃ y,l[f+j]?=O y:=⟨_,J (by rw [HN.out]; omega)⟩;obtain⟨p,ix,p0,p1,p2,p3,p4,p5,p6⟩:=CZ HV.out rfl HN.out hy BE.out;obtain⟨e,he,_,hx⟩:=mJ HA.out hy;have ht:(y.1,y.2.1)≠(c,d):=fun q=>BH.out e he (hx.1.symm.trans q);have g4:decide (((f+j:Nat):Int)<(n:Int))=ay:=by simp; omega
    obtain⟨y1,y2,y3,y4,⟨yo,yn,yc⟩,y6,y7⟩:=y;simp only at p0 p1;have e1:=tF y1 y2 c d aA (aT.2 fun h=>ht (by simp at h; rw [h.1,h.2]));clear p2 p3 p4 p5 p6 hy he hx ht;generalize f+j=q at *;go_wp2;refine wp_region_quiet_below (by kernel_rfl) (by kernel_rfl) ?_
    repeat (go_big_quiet_step (fail))
    refine wpQuiet_nil ?_;intro _ hw';obtain⟨⟨dq,osq⟩,hw''⟩:=hw';subst hw'';have a0:=a0 dq osq;go_wp2;go_ret;exact⟨rfl,BB.out.trans ((BN.out _ _).mono BB.out.size)⟩
   ·have g4:decide (((f+j:Nat):Int)<(n:Int))=aA:=by simp; omega
    generalize f+j=q at *;go_wp2;refine wp_region_quiet_below (by kernel_rfl) (by kernel_rfl) ?_
    repeat (go_big_quiet_step (fail))
    refine wpQuiet_nil ?_;intro _ hw';obtain⟨⟨dq,osq⟩,hw''⟩:=hw';subst hw'';have a0:=a0 dq osq;go_wp2;go_ret;exact⟨rfl,BB.out.trans ((BN.out _ _).mono BB.out.size)⟩
end Go.Proofs.YtmklifheakemeaaGreat.Sb
