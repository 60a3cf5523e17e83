/-
  Entries of one tree:. Conditions as told.
-/
import Derived.Test.YtmklifheakemeaaGreatBQ027
import Derived.Test.YtmklifheakemeaaGreatBQ028
import Derived.Shelf.Abstract
set_option maxRecDepth 100000
set_option maxHeartbeats 64000000
open _root_.Bool renaming true->ay,false->aA,eq_false_iff->aS
open _root_.Go renaming World->aV,Calls->aZ,Value->bN,Addr->bQ
open Go.Ending renaming returned->ah
open Go.IntKind renaming i64->V
open Go.Lib renaming hid->K
open Go.Obj renaming cells->aI
open Go.Proofs.Tryz renaming prog->aj,ntmps125->bI,func125->bJ,func124->bK,func119->bL
open Go.Value renaming int->U,pointer->ak,slice->aC,bool->aR
open _root_.List renaming getElem?_eq_some_iff->D,getElem?_eq_getElem->J,takeWhile_cons->Q,getElem?_map->au,take_append_drop->aB,dropWhile_cons->aD,getElem?_cons_zero->aG,takeWhile_sublist->aH,takeWhile_append_dropWhile->aJ,mem_iff_getElem?->aK,getElem?_toArray->aL,length_cons->aM,length_take->aN,length_drop->aO,getElem?_drop->aP,pairwise_iff_getElem->aQ,mem_filter->aU,mem_of_getElem?->aW,mem_cons->aY,pairwise_cons->bf,all_takeWhile->bg,filter_append->bF,all_eq_true->bG,mem_append->bH
open _root_.Nat renaming lt_or_ge->aT,le_refl->aX,zero_le->bM
open _root_.Option renaming some->O,none->aF
open Option.some renaming inj->L
namespace Go.Proofs.YtmklifheakemeaaGreat.Sb
open Go.RowKit Go.Sort Rw YtmklifheakemeaaGreat.Nm Pr Bk Av
abbrev pR (m:List En):Prop:=m.Pairwise fun x y=>zf x y<0
def kP (m:List En) (t:fD):Nat:=(m.takeWhile fun e=>eP e.tree t).length
def yS (m:List En) (t:fD):List En:=(m.drop (kP m t)).takeWhile fun e=>decide (e.tree=t)
def Ue (r:List En) (p:List C5):Bool:=r.any fun e=>e.up && mW e.p p
theorem Ah:∀ (l:List fD) (x:fD),fI l x=iV l x
 | [],_=>rfl
 | a::l,x=>by rw [fI,iV,Ah l x]
theorem qL (x y:En):jw (fJ x) (fJ y)=ay↔zf x y<0:=by
 rw [uf];unfold jw;simp [pF]
theorem xW (x:fD×fD):jw x x=aA:=by simp [jw,kZ]
def rJ (m:List En) (t s:fD):Bool:=match m[fB (m.map fJ) (t,s)]? with
 | none=>aA
 | some e=>decide (fJ e=(t,s))
theorem qM:∀ (l:List (fD×fD)) (x:fD×fD) (j:Nat) (y:fD×fD),j<fB l x->l[j]?=O y->jw y x=ay
 | [],_,_,_,_,h=>by simp at h
 | a::l,x,j,y,hj,h=>by
  unfold fB at hj;by_cases ha:jw a x=ay
  ·rw [Q,if_pos ha,aM] at hj;cases j with
   | zero=>rw [<- L (show O a=O y from h)]; exact ha
   | succ j=>exact qM l x j y (by unfold fB; omega) (by simpa using h)
  ·rw [Q,if_neg ha] at hj;simp at hj
theorem xX:∀ (l:List (fD×fD)) (x y:fD×fD),l[fB l x]?=O y->jw y x=aA
 | [],_,_,h=>by simp [fB] at h
 | a::l,x,y,h=>by
  unfold fB at h;by_cases ha:jw a x=ay
  ·rw [Q,if_pos ha,aM] at h;exact xX l x y (by unfold fB; simpa using h)
  ·rw [Q,if_neg ha] at h;rw [<- L (show O a=O y from h)];simpa using ha
theorem KT {m:List En} (hr:pR m) (t s:fD):iV (m.map fJ) (t,s)=if rJ m t s=ay then (fB (m.map fJ) (t,s):Int) else -1:=by
 unfold rJ;cases hp:m[fB (m.map fJ) (t,s)]? with
 | none =>
  rw [if_neg (by simp)];refine vF _ _ fun j y hj e=>?_;have hl:m.length<=fB (m.map fJ) (t,s):=List.getElem?_eq_none_iff.1 hp;have hj2:=(D.1 hj).1;rw [List.length_map] at hj2;have h:=qM _ (t,s) j y (by omega) hj;rw [e,xW] at h;cases h
 | some e =>
  have hpk:(m.map fJ)[fB (m.map fJ) (t,s)]?=O (fJ e):=by rw [au,hp]; rfl
  by_cases he:fJ e=(t,s)
  ·simp only [he,decide_true,if_true];rw [he] at hpk;refine Hg _ _ _ hpk fun j z hj hz q=>?_;have h:=qM _ (t,s) j z hj hz;rw [q,xW] at h;cases h
  ·rw [if_neg (by simpa using he)];refine vF _ _ fun j y hj q=>?_;rcases Nat.lt_trichotomy j (fB (m.map fJ) (t,s)) with h|h|h
   ·have h:=qM _ (t,s) j y h hj;rw [q,xW] at h;cases h
   ·subst h;rw [hpk] at hj;exact he ((L hj).trans q)
   ·rw [au] at hj;cases hz:m[j]? with
    | none=>rw [hz] at hj; cases hj
    | some z =>
     rw [hz] at hj;have h1:=aQ.1 hr _ _ (D.1 hp).1 (D.1 hz).1 h;rw [(D.1 hp).2,(D.1 hz).2,<- qL] at h1;have h2:=xX _ _ _ hpk;rw [show fJ z=(t,s) from (L hj).trans q] at h1;rw [h1] at h2;cases h2
theorem Nf {x y:En} (h:zf x y<0):eP x.tree y.tree=ay\/x.tree=y.tree:=by
 rcases (uf x y).1 h with q|q
 ·exact Or.inl q
 ·exact Or.inr q.1
theorem Ai {α:Type} (p:α->Bool):∀ l:List α,l.drop (l.takeWhile p).length=l.dropWhile p
 | []=>rfl
 | a::l=>by
  by_cases h:p a=ay
  ·simp [h,Ai p l]
  ·simp [h]
theorem KU:∀ {m:List En} (t:fD) (_:pR m),∀ e∈m.dropWhile (fun e=>eP e.tree t),eP e.tree t=aA
 | [],_,_,e,h=>by simp at h
 | a::m,t,hr,e,h=>by
  have hr':=bf.1 hr;by_cases ha:eP a.tree t=ay
  ·rw [aD,if_pos ha] at h;exact KU t hr'.2 e h
  ·rw [aD,if_neg ha] at h;rcases aY.1 h with rfl|h
   ·simpa using ha
   ·cases hq:eP e.tree t with
    | false=>rfl
    | true =>
     exfalso;rcases Nf (hr'.1 e h) with q|q
     ·exact ha (iY q hq)
     ·exact ha (by rw [q]; exact hq)
theorem Uf:∀ {m:List En} (t:fD) (_:pR m) (_:∀ e∈m,eP e.tree t=aA),∀ e∈m.dropWhile (fun e=>decide (e.tree=t)),eP t e.tree=ay
 | [],_,_,_,e,h=>by simp at h
 | a::m,t,hr,hl,e,h=>by
  have hr':=bf.1 hr;by_cases ha:a.tree=t
  ·rw [aD,if_pos (by simpa using ha)] at h;exact Uf t hr'.2 (fun e he=>hl e (List.mem_cons_of_mem _ he)) e h
  ·rw [aD,if_neg (by simpa using ha)] at h;have hta:eP t a.tree=ay:=by
    rcases pI a.tree t with q|q|q
    ·rw [hl a (by simp)] at q; cases q
    ·exact absurd q ha
    ·exact q
   rcases aY.1 h with rfl|h
   ·exact hta
   ·rcases Nf (hr'.1 e h) with q|q
    ·exact iY hta q
    ·rw [<- q]; exact hta
theorem Ng {x t:fD} (h:eP x t=ay):x≠t:=by rintro rfl; rw [kZ] at h; cases h
theorem Ug {m:List En} (hr:pR m) (t:fD):∃ c,m=m.take (kP m t)++yS m t++c/\(m.take (kP m t)).length=kP m t/\(∀ e∈m.take (kP m t),e.tree≠t)/\(∀ e∈yS m t,e.tree=t)/\(∀ e∈c,e.tree≠t):=by
 have e1:m.take (kP m t)=m.takeWhile fun e=>eP e.tree t:=by
  unfold kP
  conv=>lhs; arg 2; rw [<- aJ (p:=fun e:En=>eP e.tree t) (l:=m)]
  rw [List.take_left]
 have e2:m.drop (kP m t)=m.dropWhile fun e=>eP e.tree t:=Ai _ _;refine⟨(m.drop (kP m t)).dropWhile fun e=>decide (e.tree=t),?_,?_,?_,?_,?_⟩
 ·unfold yS;rw [List.append_assoc,aJ,aB]
 ·rw [e1]; rfl
 ·rw [e1];intro e he;exact Ng (bG.1 bg e he)
 ·intro e he;unfold yS at he;exact of_decide_eq_true (bG.1 (bg (p:=fun e:En=>decide (e.tree=t))) e he)
 ·rw [e2];intro e he;have h1:pR (m.dropWhile fun e=>eP e.tree t):=hr.sublist (List.dropWhile_sublist _);exact (Ng (Uf t h1 (KU t hr) e he)).symm
theorem Il {α:Type} {p:α->Bool} {l:List α} (h:∀ e∈l,p e=aA):l.filter p=[]:=by
 rw [List.filter_eq_nil_iff];intro e he;rw [h e he];simp
theorem Qy {m:List En} (hr:pR m) (t:fD):yS m t=m.filter fun e=>decide (e.tree=t):=by
 obtain⟨c,h1,_,h2,h3,h4⟩:=Ug hr t;generalize yS m t=r at *;generalize m.take (kP m t)=a at *;subst h1;rw [bF,bF,Il (l:=a) fun e he=>by simpa using h2 e he,Il (l:=c) fun e he=>by simpa using h4 e he,List.nil_append,List.append_nil];exact (List.filter_eq_self.2 fun e he=>by simpa using h3 e he).symm
theorem acy {m:List En} (hr:pR m) (t:fD) (p:List C5):Ue (yS m t) p=fC m t p:=by
 rw [Qy hr,Ue,List.any_filter]
 rfl
def iE (b:Br):Prop:=∀ a∈b.dQ,a.par≠-1->∀ e∈b.ent,e.tree=a.id->e.up=aA->fC b.ent a.id e.p=ay
theorem mX (m:List En) (t:fD) (p:List C5):fC m t p=ay↔∃ e∈m,e.tree=t/\e.up=ay/\mW e.p p=ay:=by
 unfold fC;rw [List.any_eq_true];simp [TR]
theorem Im {b:Br} (h:jl b) (a:Ad) (ht:iE b):iE (eF b a).1:=by
 by_cases hin:a.id∈b.seen
 ·rw [xP hin]; exact ht
 ·rw [rF hin];intro y hy hp e he hte hu;rcases (kC _ _ _ _).1 hy with rfl|hy
  ·exfalso;have hk:=h.Rh e he;unfold Ab at hk;cases hf:gL b.dQ e.tree with
   | none=>rw [hf] at hk; cases hk
   | some z =>
    obtain⟨z1,z2⟩:=mO hf;exact hin (by rw [<- hte,<- z2]; exact (h.oks z z1).1)
  ·exact ht y hy hp e he hte hu
theorem Fe {b:Br} (x:fD) (f:Int) (ht:iE b):iE (gW b x f).1:=by
 unfold gW;cases gL b.dQ x with
 | none=>exact ht
 | some a =>
  simp only
  split
  ·intro y hy hp e he hte hu;have hy':=aU.1 hy;have he':=aU.1 he;obtain⟨z,h1,h2,h3,h4⟩:=(mX _ _ _).1 (ht y hy'.1 hp e he'.1 hte hu);refine (mX _ _ _).2 ⟨z,aU.2 ⟨h1,?_⟩,h2,h3,h4⟩;rw [h2];exact hy'.2
  ·exact ht
theorem DC {b:Br} (h:jl b) (e:En) (ht:iE b):iE (gQ b e).1:=by
 unfold gQ
 split
 ·exact ht
 ·rename_i a ha
  split
  ·exact ht
  ·rename_i h1
   split
   ·exact ht
   ·split
    ·exact ht
    ·have hid:a.id=e.tree:=by
      rcases ny (b.dQ.map Ad.id) e.tree with q|⟨k,q,r⟩
      ·exact absurd (Ah _ _ ▸ q) h1
      ·rw [Ah,q,Int.toNat_natCast] at ha;rw [au,ha] at r;exact L r
     have hA:a∈b.dQ:=aW ha;intro y hy hp z hz hte hu;have more:∀ p,fC b.ent y.id p=ay->fC (fU b.ent (fB (b.ent.map fJ) (fJ e)) { e with up:=decide (a.par≠-1) && !fC b.ent e.tree e.p }) y.id p=ay:=fun p hp=>by
      obtain⟨q,q1,q2⟩:=(mX _ _ _).1 hp;exact (mX _ _ _).2 ⟨q,(kC _ _ _ _).2 (Or.inr q1),q2⟩
     rcases (kC _ _ _ _).1 hz with rfl|hz
     ·have hya:y=a:=by
       have g1:=oD h.dQ hA;have g2:=oD h.dQ hy;rw [show y.id=a.id from hte.symm.trans hid.symm,g1] at g2;exact (L g2).symm
      have hu':(decide (a.par≠-1) && !fC b.ent e.tree e.p)=aA:=hu;rw [<- hya,decide_eq_true hp,Bool.true_and] at hu';refine more _ ?_;rw [<- show e.tree=y.id from hte];simpa using hu'
     ·exact more _ (ht y hy hp z hz hte hu)
theorem Aj {α:Type} {l:List α} {k:Nat} {x y:α} (hk:l[k]?=O x) (hy:y∈l):y=x\/y∈cutAt l k:=by
 have hlt:=(D.1 hk).1;have e:l=l.take k++x::l.drop (k+1):=by
  conv=>lhs; rw [<- aB k l]
  rw [List.drop_eq_getElem_cons hlt,(D.1 hk).2]
 rw [e] at hy;unfold cutAt;rcases bH.1 hy with h|h
 ·exact Or.inr (List.mem_append_left _ h)
 ·rcases aY.1 h with h|h
  ·exact Or.inl h
  ·exact Or.inr (List.mem_append_right _ h)
theorem Nh {α:Type} {l:List α} {k:Nat} {y:α} (h:y∈cutAt l k):y∈l:=by
 unfold cutAt at h;rcases bH.1 h with h|h
 ·exact List.mem_of_mem_take h
 ·exact List.mem_of_mem_drop h
theorem Yy {α:Type} {l:List α} {k:Nat} {x y z:α} (hk:l[k]?=O x) (hz:z∈l):z=x\/z∈l.set k y:=by
 obtain⟨j,hj⟩:=aK.1 hz;by_cases hjk:k=j
 ·subst hjk;rw [hk] at hj;exact Or.inl (L hj).symm
 ·right;refine aK.2 ⟨j,?_⟩;rw [List.getElem?_set_ne hjk];exact hj
theorem Io {t:fD} {s:List En×List En} {k:Nat} (u:fD) (p:List C5) (h:fC s.1 u p=ay):fC (iK t s k).1 u p=ay:=by
 unfold iK
 split
 ·exact h
 ·rename_i e he
  split
  ·obtain⟨z,h1,h2,h3,h4⟩:=(mX _ _ _).1 h;rcases Yy (y:=XA e) he h1 with rfl|h5
   ·rename_i hq
    rw [hq.2.1] at h3;cases h3
   ·exact (mX _ _ _).2 ⟨z,h5,h2,h3,h4⟩
  ·exact h
theorem DF (t:fD) (m:List En):∀ k,k<=m.length->(∀ j,j<k->∀ e,(iW t m k).1[j]?=O e->e.tree=t->e.up=aA->fC (iW t m k).1 t e.p=ay)/\(∀ u p,fC m u p=ay->fC (iW t m k).1 u p=ay)/\(∀ e,e∈(iW t m k).1->e.tree≠t->e∈m)
 | 0,_=>⟨fun j hj=>absurd hj (Nat.not_lt_zero _),fun _ _ h=>h,fun _ h _=>h⟩
 | k+1,hk=>by
  obtain⟨h1,h2,h3⟩:=DF t m k (by omega);rw [mQ];refine⟨fun j hj e he htr hu=>?_,fun u p h=>Io u p (h2 u p h),fun e he hne=>?_⟩
  ·have hl:=(nW t m k).1;generalize iW t m k=s at *;obtain⟨z,hz⟩:∃ z,s.1[k]?=O z:=⟨_,J (by omega)⟩;by_cases hc:z.tree=t/\z.up=aA/\fC s.1 t z.p=aA
   ·have e1:iK t s k=(s.1.set k (XA z),s.2++[XA z]):=by unfold iK; rw [hz]; simp only; rw [if_pos hc]
    have mono:=Io (t:=t) (s:=s) (k:=k) t;rw [e1] at he mono ⊢;rw [List.getElem?_set] at he
    split at he
    ·split at he
     ·rw [<- L he] at hu;cases hu
     ·cases he
    ·exact mono _ (h1 j (by omega) e he htr hu)
   ·have e1:iK t s k=s:=by unfold iK; rw [hz]; simp only; rw [if_neg hc]
    rw [e1] at he ⊢;rcases aT j k with h0|h0
    ·exact h1 j h0 e he htr hu
    ·obtain rfl:j=k:=by omega
     rw [hz] at he;obtain rfl:=L he;cases hv:fC s.1 t z.p with
     | true=>rfl
     | false=>exact absurd ⟨htr,hu,hv⟩ hc
  ·unfold iK at he
   split at he
   ·exact h3 e he hne
   ·rename_i z hz
    split at he
    ·rename_i hq
     rcases List.mem_or_eq_of_mem_set he with h5|h5
     ·exact h3 e h5 hne
     ·rw [h5] at hne;exact absurd hq.1 hne
    ·exact h3 e he hne
theorem Ak {b:Br} (t x:fD) (f:Int) (ht:iE b):iE (takeB b t x f).1:=by
 unfold takeB
 split
 ·exact ht
 ·rename_i e0 he0
  split
  ·exact ht
  ·rename_i h1
   split
   ·exact ht
   ·have h5:e0.tree=t:=by
     rcases ny (b.ent.map fJ) (t,x) with q|⟨k,q,r⟩
     ·exact absurd q h1
     ·rw [q,Int.toNat_natCast] at he0;rw [au,he0] at r;exact congrArg Prod.fst (L r)
    generalize (iV (b.ent.map fJ) (t,x)).toNat=k at *
    split
    ·rename_i hup
     intro y hy hp z hz hte hu;obtain⟨q,q1,q2,q3,q4⟩:=(mX _ _ _).1 (ht y hy hp z (Nh hz) hte hu);refine (mX _ _ _).2 ⟨q,(Aj he0 q1).resolve_left ?_,q2,q3,q4⟩;rintro rfl;rw [hup] at q3;cases q3
    ·intro y hy hp z hz hte hu;obtain⟨g1,g2,g3⟩:=DF t (cutAt b.ent k) (cutAt b.ent k).length (aX _);by_cases hyt:y.id=t
     ·obtain⟨j,hj⟩:=aK.1 hz;have hlt:=(D.1 hj).1;rw [(nW t (cutAt b.ent k) _).1] at hlt;rw [hyt] at hte ⊢;exact g1 j hlt z hj hte hu
     ·have hzt:z.tree≠t:=by rw [hte]; exact hyt
      obtain⟨q,q1,q2,q3,q4⟩:=(mX _ _ _).1 (ht y hy hp z (Nh (g3 z hz hzt)) hte hu);refine g2 _ _ ((mX _ _ _).2 ⟨q,(Aj he0 q1).resolve_left ?_,q2,q3,q4⟩);rintro rfl;exact hyt (q2.symm.trans h5)
theorem Qz (x:iL) (t s:fD) (r:Bool) (hr:jw (iU x) (t,s)=r) (w:aV):aZ aj 125 #[rV x,mZ t,mZ s] w fun e w'=>e=ah (aR r)/\Below w.heap.size w w':=by
 obtain⟨y1,y2,y3,y4,⟨yo,yn,yc⟩,y6,y7⟩:=x;obtain⟨c,d⟩:=t;obtain⟨g,h⟩:=s;obtain⟨h0,X,Y,Z⟩:=gJ w #[U V y1,U V y2,U V y3,U V y4,aC yo yn yc,U V y6,aR y7] #[U V c,U V d] #[U V g,U V h] 66 31 31;have x1:=X.cell 1;have x0:=X.cell 0;have x2:=X.cell 2;have x3:=X.cell 3;obtain⟨c0,c1⟩:=Y.cs2;obtain⟨d0,d1⟩:=Z.cs2;simp only [aL,aG,List.getElem?_cons_succ] at x0 x1 x2 x3;have C1:=xK (y1,y2) (c,d);have C2:=xK (y3,y4) (g,h);have B:=K h0;have he:jw ((y1,y2),(y3,y4)) ((c,d),(g,h))=if ((y1,y2):fD)=(c,d) then eP (y3,y4) (g,h) else eP (y1,y2) (c,d):=by
  unfold jw;by_cases q:((y1,y2):fD)=(c,d)
  ·rw [if_pos q,q,kZ,(pF _ _).2 rfl]; rfl
  ·rw [if_neg q,aS.2 fun q2=>q ((pF _ _).1 q2)]; simp
 clear h0 X Y Z;by_cases q:((y1,y2):fD)=(c,d)
 ·have hr2:=K (show eP (y3,y4) (g,h)=r by rw [<- hr]; show _=jw ((y1,y2),(y3,y4)) ((c,d),(g,h)); rw [he,if_pos q]);obtain⟨rfl,rfl⟩:y1=c/\y2=d:=by simpa using q
  have hne:=EG y1 y2 y1 y2 aA (by simp);clear he hr q;go_enter bJ,bI;go_wp2_with fail;refine (C2 _).mono ?_;rintro e w1 ⟨rfl,hb⟩;go_wp2;go_ret;exact⟨congrArg (fun b=>ah (aR b)) hr2.out,B.out.trans (hb.mono B.out.size)⟩
 ·have hr2:=K (show eP (y1,y2) (c,d)=r by rw [<- hr]; show _=jw ((y1,y2),(y3,y4)) ((c,d),(g,h)); rw [he,if_neg q]);have hne:=EG y1 y2 c d ay (by rw [show (y1 == c && y2 == d)=aA from aS.2 fun h=>q (by simp at h; rw [h.1,h.2])]; rfl);clear he hr q;go_enter bJ,bI;go_wp2_with fail;refine (C1 _).mono ?_;rintro e w1 ⟨rfl,hb⟩;go_wp2;go_ret;exact⟨congrArg (fun b=>ah (aR b)) hr2.out,B.out.trans (hb.mono B.out.size)⟩
theorem Al (g:Nat) (cb:Array bN) (eg:∀ args w,(callFunc g args).run aj w=.ok (.enter g args) w) (n k:Nat) (p:Nat->Bool) (w:aV) (hn:n<=1000000)
  (hf:∀ i,i<n->∀ W,Below w.heap.size w W->aZ aj g (#[U V i]++cb) W fun e w'=>e=ah (aR (p i))/\Below W.heap.size W w')
  (hk:k<=n) (hlo:∀ i,i<k->p i=aA) (hhi:∀ i,k<=i->i<n->p i=ay) :
  aZ aj 118 #[U V n,.func (.func g) #[] cb] w fun e w'=>e=ah (U V k)/\Below w.heap.size w w':=by
 have HF:=K hf;have LO:=K hlo;have HI:=K hhi;clear hf hlo hhi;go_enter Tryz.func118,Tryz.ntmps118;go_wp2
 go_loopg [5,6] n (fun kx s5 s6 wr=>∃ lo hi:Nat,s5=U V lo/\s6=U V hi/\lo<=k/\k<=hi/\hi<=n/\hi-lo<=kx/\Below w.heap.size w wr)
 case atStart=>exact⟨0,n,rfl,rfl,bM _,hk,aX _,by omega,Below.refl _ _⟩
 case round =>
  obtain⟨lo,hi,rfl,rfl,hlk,hkh,hin,hg,hb⟩:=hrel;have B:=K hb;clear hb;by_cases hlt:lo<hi
  ·have hc:=HF.out ((lo+hi) / 2) (by omega) wr B.out;rw [show (((lo+hi) / 2:Nat):Int)=((lo:Int)+(hi:Int)) / 2 by omega] at hc;cases hp:p ((lo+hi) / 2) <;> rw [hp] at hc
   ·have HP:=K hp;have HK:=K (show (lo+hi) / 2+1<=k from by
     rcases aT ((lo+hi) / 2) k with h|h
     ·exact h
     ·have:=HI.out _ h (by omega); rw [hp] at this; cases this)
    clear hp;go_wp2_with (go_at_fn g; refine hc.mono ?_; rintro e w' ⟨rfl,hb2⟩)
    go_roundg (hi-((lo+hi) / 2+1))
    case measure=>omega
    case rel=>exact⟨(lo+hi) / 2+1,hi,by rw [show ((lo:Int)+(hi:Int)) / 2+1=(((lo+hi) / 2+1:Nat):Int) by omega],rfl,HK.out,hkh,hin,aX _,B.out.trans (hb2.mono B.out.size)⟩
   ·have HP:=K hp;have HK:=K (show k<=(lo+hi) / 2 from by
     rcases aT ((lo+hi) / 2) k with h|h
     ·have:=LO.out _ h; rw [hp] at this; cases this
     ·exact h)
    clear hp;go_wp2_with (go_at_fn g; refine hc.mono ?_; rintro e w' ⟨rfl,hb2⟩)
    go_roundg ((lo+hi) / 2-lo)
    case measure=>omega
    case rel=>exact⟨lo,(lo+hi) / 2,rfl,by rw [show ((lo:Int)+(hi:Int)) / 2=(((lo+hi) / 2:Nat):Int) by omega],hlk,HK.out,by omega,aX _,B.out.trans (hb2.mono B.out.size)⟩
  ·obtain rfl:hi=lo:=by omega
   obtain rfl:hi=k:=by omega
   go_wp2;go_ret;exact⟨rfl,B.out⟩
theorem Am {W W1:aV} {v:bN} {l:List iL} {ao:Option bQ} {n c k:Nat} {x:iL} (h:lF W v l) (hv:v=aC ao n c) (hn:l.length=n) (hk:l[k]?=O x) (hb:Below W.heap.size W W1) :
  ∃ p:bQ,(∀ w,(Instr.indexAt 25 (aC ao n c) (U V k)).run aj w=.ok (ak (O p)) w) /\
   (∀ d os,(grow (redrawn W1 d) os).cell? p=O (U V x.1))/\(∀ d os,(grow (redrawn W1 d) os).cell? ⟨p.block,p.off+1,aF⟩=O (U V x.2.1)) /\
   (∀ d os,(grow (redrawn W1 d) os).cell? ⟨p.block,p.off+2,aF⟩=O (U V x.2.2.1))/\(∀ d os,(grow (redrawn W1 d) os).cell? ⟨p.block,p.off+3,aF⟩=O (U V x.2.2.2.1)) /\
   (∀ d os,(grow (redrawn W1 d) os).cell? ⟨p.block,p.off+4,aF⟩=O (dX x.2.2.2.2.1))/\(∀ d os,(grow (redrawn W1 d) os).cell? ⟨p.block,p.off+5,aF⟩=O (U V x.2.2.2.2.2.1)) /\
   (∀ d os,(grow (redrawn W1 d) os).cell? ⟨p.block,p.off+6,aF⟩=O (aR x.2.2.2.2.2.2)):=by
 obtain⟨p,h1,h2⟩:=Pp h hv hn hk;obtain⟨c0,c1,c2,c3,c4,c5,c6⟩:=h2 _ hb;exact⟨p,h1,cell_regrown c0,cell_regrown c1,cell_regrown c2,cell_regrown c3,cell_regrown c4,cell_regrown c5,cell_regrown c6⟩
theorem Yz (args:Array bN) (w:aV):(callFunc 124 args).run aj w=.ok (.enter 124 args) w:=gD bK rfl rfl args w
theorem YA (args:Array bN) (w:aV):(callFunc 119 args).run aj w=.ok (.enter 119 args) w:=gD bL rfl rfl args w
theorem YC (i:Nat) (b1 b2 b3:Nat) (ao:Option bQ) (n ac:Nat) (l:List iL) (t s:fD) (y:iL) (r:Bool) (w:aV) (hv:lF w (aC ao n ac) l) (hn:l.length=n) (hy:l[i]?=O y) (hr:(!jw (iU y) (t,s))=r)
  (h1:dJ w b1 #[aC ao n ac] 25) (h2:dJ w b2 #[U V t.1,U V t.2] 31) (h3:dJ w b3 #[U V s.1,U V s.2] 31) :
  aZ aj 124 #[U V i,ak (O ⟨b1,0,aF⟩),ak (O ⟨b2,0,aF⟩),ak (O ⟨b3,0,aF⟩)] w fun e w'=>e=ah (aR r)/\Below w.heap.size w w':=by
 obtain⟨p,ix,p0,p1,p2,p3,p4,p5,p6⟩:=Am hv rfl hn hy (Below.refl _ _);have a0:=cell_regrown (h1.cell 0);have b0:=cell_regrown (h2.cell 0);have b1':=cell_regrown (h2.cell 1);have c0:=cell_regrown (h3.cell 0);have c1:=cell_regrown (h3.cell 1);obtain⟨q,hq⟩:∃ q,jw (iU y) (t,s)=q:=⟨_,rfl⟩;have C:∀ k os,aZ aj 125 #[rV y,mZ t,mZ s] (grow (redrawn w k) os) fun e w''=>e=ah (aR q)/\∃ p:Regrown,w''=grow (redrawn w p.d) p.os:=fun k os=>Calls.regrown_of (Qz y t s q hq _);rw [hq] at hr;have R:=K hr;have BN:=K (fun dq osq=>below_regrown w dq osq);obtain⟨y1,y2,y3,y4,⟨yo,yn,yc⟩,y6,y7⟩:=y;obtain⟨c,d⟩:=t;obtain⟨g,h⟩:=s;simp only at p0 p1 p2 p3 p4 p5 p6 b0 b1' c0 c1 C;clear hv hn hy hr hq h1 h2 h3;go_enter bK,Tryz.ntmps124;go_wp2;refine wp_region_quiet_below (by kernel_rfl) (by kernel_rfl) ?_
 repeat (go_big_quiet_step (first | (with_reducible exact C _ _) | exact acz _ _))
 refine wpQuiet_nil ?_;intro _ hw';obtain⟨⟨dq,osq⟩,hw''⟩:=hw';subst hw'';go_wp2;go_ret;exact⟨congrArg (fun b=>ah (aR b)) R.out,BN.out _ _⟩
theorem YD (i:Nat) (b1 b2:Nat) (ao:Option bQ) (n ac:Nat) (l:List iL) (t:fD) (y:iL) (r:Bool) (w:aV) (hv:lF w (aC ao n ac) l) (hn:l.length=n) (hy:l[i]?=O y) (hr:(!eP (y.1,y.2.1) t)=r)
  (h1:dJ w b1 #[aC ao n ac] 25) (h2:dJ w b2 #[U V t.1,U V t.2] 31) :
  aZ aj 119 #[U V i,ak (O ⟨b1,0,aF⟩),ak (O ⟨b2,0,aF⟩)] w fun e w'=>e=ah (aR r)/\Below w.heap.size w w':=by
 obtain⟨p,ix,p0,p1,p2,p3,p4,p5,p6⟩:=Am hv rfl hn hy (Below.refl _ _);have a0:=cell_regrown (h1.cell 0);have b0:=cell_regrown (h2.cell 0);have b1':=cell_regrown (h2.cell 1);have C:∀ k os,aZ aj 120 #[mZ (y.1,y.2.1),mZ t] (grow (redrawn w k) os) fun e w''=>e=ah (aR (eP (y.1,y.2.1) t))/\∃ p:Regrown,w''=grow (redrawn w p.d) p.os:=fun k os=>Calls.regrown_of (xK (y.1,y.2.1) t _);generalize eP (y.1,y.2.1) t=q at *;have R:=K hr;have BN:=K (fun dq osq=>below_regrown w dq osq);obtain⟨y1,y2,y3,y4,⟨yo,yn,yc⟩,y6,y7⟩:=y;obtain⟨c,d⟩:=t;simp only at p0 p1 p2 p3 p4 p5 p6 b0 b1' C;clear hv hn hy hr h1 h2 p2 p3 p4 p5 p6;go_enter bL,Tryz.ntmps119;go_wp2;refine wp_region_quiet_below (by kernel_rfl) (by kernel_rfl) ?_
 repeat (go_big_quiet_step (first | (with_reducible exact C _ _) | exact adQ _ _))
 refine wpQuiet_nil ?_;intro _ hw';obtain⟨⟨dq,osq⟩,hw''⟩:=hw';subst hw'';go_wp2;go_ret;exact⟨congrArg (fun b=>ah (aR b)) R.out,BN.out _ _⟩
theorem lY {α:Type} {E:Ek α} {W:aV} {so:Option bQ} {sn sc:Nat} {l:List α} (h:Row E W (aC so sn sc) l):l.length=sn:=by
 obtain⟨ao,ac,hv⟩:=h.len;simp at hv;exact hv.2.1.symm
theorem nD {W:aV} {l:List iL} {m:List En} (h:fA (kr W) l m) {i:Nat} {y:iL} (hy:l[i]?=O y):∃ e,m[i]?=O e/\iU y=fJ e/\kr W y e:=by
 have hlt:=(D.1 hy).1;obtain⟨e,he⟩:∃ e,m[i]?=O e:=⟨_,J (by rw [<- h.len]; exact hlt)⟩;obtain⟨y',hy',hx⟩:=h.at i e he;rw [hy] at hy';obtain rfl:=L hy';exact⟨e,he,Prod.ext hx.1 hx.2.1,hx⟩
theorem QA {m:List En} (hr:pR m) {i j:Nat} {x y:En} (hij:i<j) (hx:m[i]?=O x) (hy:m[j]?=O y):zf x y<0:=by
 obtain⟨h1,rfl⟩:=D.1 hx;obtain⟨h2,rfl⟩:=D.1 hy;exact aQ.1 hr i j h1 h2 hij
theorem lS (l:List (fD×fD)) (x:fD×fD):fB l x<=l.length:=(aH _).length_le
theorem wD {m:List En} (hr:pR m) (x:fD×fD) {i:Nat} {e:En} (hi:fB (m.map fJ) x<=i) (he:m[i]?=O e):jw (fJ e) x=aA:=by
 have hlt:=(D.1 he).1;obtain⟨z,hz⟩:∃ z,m[fB (m.map fJ) x]?=O z:=⟨_,J (by omega)⟩;have h0:=xX (m.map fJ) x (fJ z) (by rw [au,hz]; rfl);rcases aT (fB (m.map fJ) x) i with h|h
 ·have h1:=QA hr h hz he;cases hq:jw (fJ e) x with
  | false=>rfl
  | true =>
   rw [<- qL] at h1;have h2:zf z ⟨x.1,x.2,[],0,aA⟩<0:=KJ z e ⟨x.1,x.2,[],0,aA⟩ ((qL z e).1 h1) ((qL e ⟨x.1,x.2,[],0,aA⟩).1 hq);rw [<- qL] at h2;rw [show jw (fJ z) x=ay from h2] at h0;cases h0
 ·have e1:i=fB (m.map fJ) x:=by omega
  rw [e1,hz] at he;rw [<- L he];exact h0
theorem QB (v:Sl) (l:List iL) (m:List En) (t s:fD) (w:aV) (hv:lF w (dX v) l) (hA:fA (kr w) l m) (hr:pR m) (hl:l.length<=1000) :
  aZ aj 77 #[dX v,mZ t,mZ s] w fun e w'=>e=ah (.tuple #[U V (fB (m.map fJ) (t,s)),aR (rJ m t s)])/\Below w.heap.size w w':=by
 obtain⟨so,n,sc⟩:=v;have hn:l.length=n:=lY hv;obtain⟨c,d⟩:=t;obtain⟨g,h⟩:=s;obtain⟨k,hk⟩:∃ k,fB (m.map fJ) ((c,d),(g,h))=k:=⟨_,rfl⟩;obtain⟨th,hth⟩:∃ k,rJ m (c,d) (g,h)=k:=⟨_,rfl⟩;have hkn:k<=n:=by rw [<- hk,<- hn,hA.len]; simpa using lS (m.map fJ) ((c,d),(g,h))
 rw [hk,hth];obtain⟨h0,X,Y,Z⟩:=gJ w #[aC so n sc] #[U V c,U V d] #[U V g,U V h] 25 31 31;have BB:=K h0;have HV:=K (hv.on h0);have HA:=K (hA.mono fun _ _ q=>q.on h0);have X1:=K X;have Y1:=K Y;have Z1:=K Z;have x0:=X.cell 0;simp only [aL,aG] at x0;have HF:=K (show ∀ i,i<n->∀ W,Below (((w.alloc (aI #[aC so n sc] 25)).alloc (aI #[U V c,U V d] 31)).alloc (aI #[U V g,U V h] 31)).heap.size (((w.alloc (aI #[aC so n sc] 25)).alloc (aI #[U V c,U V d] 31)).alloc (aI #[U V g,U V h] 31)) W ->
   aZ aj 124 (#[U V i]++#[ak (O ⟨w.heap.size,0,aF⟩),ak (O ⟨w.heap.size+1,0,aF⟩),ak (O ⟨w.heap.size+1+1,0,aF⟩)]) W fun e w'=>e=ah (aR ((fun i=>match l[i]? with | some y=>!jw (iU y) ((c,d),(g,h)) | none=>ay) i))/\Below W.heap.size W w' from fun i hi W hb=>by
  obtain⟨y,hy⟩:∃ y,l[i]?=O y:=⟨_,J (by omega)⟩;refine YC i _ _ _ so n sc l (c,d) (g,h) y _ W (HV.out.on hb) hn hy ?_ (X1.out.on hb) (Y1.out.on hb) (Z1.out.on hb);simp only [hy])
 have HLO:=K (show ∀ i,i<k->(fun i=>match l[i]? with | some y=>!jw (iU y) ((c,d),(g,h)) | none=>ay) i=aA from fun i hi=>by
  obtain⟨y,hy⟩:∃ y,l[i]?=O y:=⟨_,J (by omega)⟩;obtain⟨e,he,hke,_⟩:=nD HA.out hy;have h1:=qM (m.map fJ) ((c,d),(g,h)) i (fJ e) (by rw [hk]; exact hi) (by rw [au,he]; rfl);simp only [hy,hke,h1]
  rfl)
 have HHI:=K (show ∀ i,k<=i->i<n->(fun i=>match l[i]? with | some y=>!jw (iU y) ((c,d),(g,h)) | none=>ay) i=ay from fun i hi hi2=>by
  obtain⟨y,hy⟩:∃ y,l[i]?=O y:=⟨_,J (by omega)⟩;obtain⟨e,he,hke,_⟩:=nD HA.out hy;have h1:=Sb.wD hr ((c,d),(g,h)) (by rw [hk]; exact hi) he;simp only [hy,hke,h1]
  rfl)
 have HK:=K hk;have HT:=K hth;have HN:=K hn;have ln:n<=1000:=by omega
 clear hv hA h0 X Y Z hk hth hl hn hr;go_enter Tryz.func77,Tryz.ntmps77;go_wp2_with fail;generalize ((w.alloc (aI #[aC so n sc] 25)).alloc (aI #[U V c,U V d] 31)).alloc (aI #[U V g,U V h] 31)=W at *;refine (Al 124 #[ak (O ⟨w.heap.size,0,aF⟩),ak (O ⟨w.heap.size+1,0,aF⟩),ak (O ⟨w.heap.size+1+1,0,aF⟩)] Yz n k _ W (by omega) HF.out hkn HLO.out HHI.out).mono ?_;rintro e1 w1 ⟨rfl,hb⟩;have BN:=K (fun dq osq=>(BB.out.trans (hb.mono BB.out.size)).trans ((below_regrown w1 dq osq).mono (BB.out.trans (hb.mono BB.out.size)).size));have a0:=cell_regrown (show w1.cell? ⟨w.heap.size,0,aF⟩=O (aC so n sc) from (X1.out.on hb).cell 0);have b0:=cell_regrown (show w1.cell? ⟨w.heap.size+1,0,aF⟩=O (U V c) from (Y1.out.on hb).cell 0);have b1:=cell_regrown (show w1.cell? ⟨w.heap.size+1,1,aF⟩=O (U V d) from (Y1.out.on hb).cell 1);have c0:=cell_regrown (show w1.cell? ⟨w.heap.size+1+1,0,aF⟩=O (U V g) from (Z1.out.on hb).cell 0);have c1:=cell_regrown (show w1.cell? ⟨w.heap.size+1+1,1,aF⟩=O (U V h) from (Z1.out.on hb).cell 1);clear x0 HF HLO HHI;by_cases hkl:k<n
 ·obtain⟨y,hy⟩:∃ y,l[k]?=O y:=⟨_,J (by rw [HN.out]; exact hkl)⟩;obtain⟨p,ix,p0,p1,p2,p3,p4,p5,p6⟩:=Am HV.out rfl HN.out hy hb;have TH:=K (show th=decide (iU y=((c,d),(g,h))) from by
   obtain⟨e,he,hke,_⟩:=nD HA.out hy;rw [<- HT.out,rJ,HK.out,he,hke])
  have g4:decide ((k:Int)<(n:Int))=ay:=by simp; omega
  obtain⟨y1,y2,y3,y4,⟨yo,yn,yc⟩,y6,y7⟩:=y;simp only at p0 p1 p2 p3;clear p4 p5 p6 hb hy;obtain⟨r1,hr1⟩:∃ r,(y1 == c && y2 == d)=r:=⟨_,rfl⟩;obtain⟨r2,hr2⟩:∃ r,(y3 == g && y4 == h)=r:=⟨_,rfl⟩;have e1:=uw y1 y2 c d r1 hr1;have e2:=uw y3 y4 g h r2 hr2;have R:=K (show th=(r1 && r2) from by
   rw [TH.out,<- hr1,<- hr2,Bool.eq_iff_iff];simp only [decide_eq_true_eq,Bool.and_eq_true,beq_iff_eq,Prod.mk.injEq])
  clear hr1 hr2 TH HT;cases r1 <;> cases r2
  all_goals
   go_wp2;refine wp_region_quiet_below (by kernel_rfl) (by kernel_rfl) ?_
   repeat (go_big_quiet_step (fail))
   refine wpQuiet_nil ?_;intro _ hw';obtain⟨⟨dq,osq⟩,hw''⟩:=hw';subst hw'';go_wp2
   go_ret2
   exact⟨by rw [R.out]; rfl,BN.out _ _⟩
 ·have TH:=K (show th=aA from by
   rw [<- HT.out,rJ,HK.out,List.getElem?_eq_none (by rw [<- HA.out.len,HN.out]; omega)])
  have g4:decide ((k:Int)<(n:Int))=aA:=by simp; omega
  clear hb HT;go_wp2;refine wp_region_quiet_below (by kernel_rfl) (by kernel_rfl) ?_
  repeat (go_big_quiet_step (fail))
  refine wpQuiet_nil ?_;intro _ hw';obtain⟨⟨dq,osq⟩,hw''⟩:=hw';subst hw'';go_wp2
  go_ret2
  exact⟨by rw [TH.out]; rfl,BN.out _ _⟩
def cutV (v:Sl) (f k:Nat):Sl:=match v with
 | (O a,_,c)=>(O (if c=f then a else a.add (f * 7)),k,c-f)
 | (aF,_,_)=>(aF,0,0)
theorem Uh {α:Type} (p:α->Bool):∀ (l:List α) (j:Nat) (y:α),j<(l.takeWhile p).length->l[j]?=O y->p y=ay
 | [],_,_,_,h=>by simp at h
 | a::l,j,y,hj,h=>by
  by_cases ha:p a=ay
  ·rw [Q,if_pos ha,aM] at hj;cases j with
   | zero=>rw [<- L (show O a=O y from h)]; exact ha
   | succ j=>exact Uh p l j y (by omega) (by simpa using h)
  ·rw [Q,if_neg ha] at hj;simp at hj
theorem Ui {α:Type} (p:α->Bool):∀ (l:List α) (y:α),l[(l.takeWhile p).length]?=O y->p y=aA
 | [],_,h=>by simp at h
 | a::l,y,h=>by
  by_cases ha:p a=ay
  ·rw [Q,if_pos ha,aM] at h;exact Ui p l y (by simpa using h)
  ·rw [Q,if_neg ha] at h;rw [<- L (show O a=O y from h)];simpa using ha
theorem QC (a:bQ) (f e len cap:Nat) (h:f<=e) (h6:e<=cap) (w:aV):(Instr.sliceAt 25 (aC (O a) len cap) (O (U V f)) (O (U V e)) aF).run aj w=.ok (dX (cutV (O a,len,cap) f (e-f))) w:=by
 have h1:(f:Int)<=(e:Int):=by omega
 have h3:(e:Int)<=cap:=by omega
 obtain⟨i,i1,i2,i3,i4⟩:=nN.info;have i1':Tryz.prog.info? 66=O i:=i1;have hu':Tryz.prog.underlying 25=O (.slice 66):=nN.hu;have i3':i.size=7:=i3;by_cases he:cap=f
 ·subst he;obtain rfl:e=cap:=by omega
  simp [go_sem,hu',sizeOf,typeInfo,i1',i3',cutV]
 ·simp [go_sem,hu',sizeOf,typeInfo,i1',i3',cutV,he,h,h6]
theorem Ni {W:aV} {v:Sl} {l:List iL} (h:lF W (dX v) l) (f k:Nat) (hk:f+k<=l.length) :
  (∀ w,(Instr.sliceAt 25 (dX v) (O (U V f)) (O (U V ((f+k:Nat):Int))) aF).run aj w=.ok (dX (cutV v f k)) w)/\lF W (dX (cutV v f k)) ((l.drop f).take k):=by
 obtain⟨so,sn,sc⟩:=v;rcases h with⟨rfl,hv⟩|⟨a,cap,hv,h2,h3,h4⟩
 ·obtain⟨rfl,rfl,rfl⟩:so=aF/\sn=0/\sc=0:=by simpa using hv
  obtain⟨rfl,rfl⟩:f=0/\k=0:=by simp at hk; omega
  refine⟨fun w=>?_,Or.inl ⟨rfl,rfl⟩⟩;obtain⟨i,i1,i2,i3,i4⟩:=nN.info;have i1':Tryz.prog.info? 66=O i:=i1;have hu':Tryz.prog.underlying 25=O (.slice 66):=nN.hu;simp [go_sem,hu',sizeOf,typeInfo,i1',cutV]
 ·obtain⟨rfl,rfl,rfl⟩:so=O a/\sn=l.length/\sc=cap:=by simpa using hv
  refine⟨fun w=>by have h:=QC a f (f+k) l.length sc (Nat.le_add_right _ _) (Nat.le_trans hk h2) w; rwa [Nat.add_sub_cancel_left] at h,?_⟩;refine Or.inr ⟨(if sc=f then a else a.add (f * 7)),sc-f,?_,?_,by omega,fun j u hj=>?_⟩
  ·have e:((l.drop f).take k).length=k:=by rw [aN,aO]; omega
   rw [e]
   rfl
  ·rw [aN,aO]; omega
  ·have hlt:=(D.1 hj).1;have hlen:(flat EN ((l.drop f).take k)).length=k * 7:=by
    rw [eG nN,aN,aO];show _ * 7=_;rw [show min k (l.length-f)=k by omega]
   rw [hlen] at hlt;rw [if_neg (by omega),add_add];refine h4 _ u ?_;have e1:flat EN l=flat EN (l.take f)++(flat EN ((l.drop f).take k)++flat EN ((l.drop f).drop k)):=by
    rw [<- gU,aB,<- gU,aB]
   have e2:(flat EN (l.take f)).length=f * 7:=by
    rw [eG nN,aN];show _ * 7=_;rw [show min f l.length=f by omega]
   rw [e1,List.getElem?_append_right (by rw [e2]; omega),e2,show f * 7+j-f * 7=j by omega,List.getElem?_append_left (by rw [hlen]; exact hlt)];exact hj
theorem DI (m:List En) (t:fD):kP m t+(yS m t).length<=m.length:=by
 have h1:(yS m t).length<=(m.drop (kP m t)).length:=(aH _).length_le;have h2:kP m t<=m.length:=(aH _).length_le;rw [aO] at h1;omega
theorem KZ (v:Sl) (l:List iL) (m:List En) (t:fD) (w:aV) (hv:lF w (dX v) l) (hA:fA (kr w) l m) (hr:pR m) (hl:l.length<=1000) :
  aZ aj 73 #[dX v,mZ t] w fun e w'=>e=ah (dX (cutV v (kP m t) (yS m t).length))/\Below w.heap.size w w':=by
 have hfk:=DI m t;have hML:l.length=m.length:=hA.len;obtain⟨f,hf⟩:∃ f,kP m t=f:=⟨_,rfl⟩;obtain⟨k,hk⟩:∃ k,(yS m t).length=k:=⟨_,rfl⟩;rw [hf,hk] at hfk ⊢;have RC:=K ((Ni hv f k (by omega)).1);obtain⟨so,n,sc⟩:=v;generalize cutV (so,n,sc) f k=z at RC ⊢;obtain⟨z1,z2,z3⟩:=z;have hn:l.length=n:=lY hv;obtain⟨c,d⟩:=t;obtain⟨h0,X,Y⟩:=gY w #[aC so n sc] #[U V c,U V d] 25 31;have BB:=K h0;have HV:=K (hv.on h0);have HA:=K (hA.mono fun _ _ q=>q.on h0);have X1:=K X;have Y1:=K Y;have x0:=X.cell 0;simp only [aL,aG] at x0;have FL:∀ (i:Nat) (e:En),i<f->m[i]?=O e->eP e.tree (c,d)=ay:=fun i e hi he=>Uh (fun e:En=>eP e.tree (c,d)) m i e (by unfold kP at hf; omega) he;have FH:∀ (i:Nat) (e:En),f<=i->m[i]?=O e->eP e.tree (c,d)=aA:=fun i e hi he=>by
  refine KU (c,d) hr e ?_;rw [<- Ai];unfold kP at hf;rw [hf];exact aW (show (m.drop f)[i-f]?=O e by rw [aP,show f+(i-f)=i by omega]; exact he)
 have BL:=K (show ∀ (i:Nat) (e:En),i<k->m[f+i]?=O e->e.tree=(c,d) from fun i e hi he=>by
  have:=Uh (fun e:En=>decide (e.tree=(c,d))) (m.drop f) i e (by unfold yS at hk; rw [hf] at hk; omega) (by rw [aP]; exact he);exact of_decide_eq_true this)
 have BH:=K (show ∀ (e:En),m[f+k]?=O e->e.tree≠(c,d) from fun e he=>by
  have:=Ui (fun e:En=>decide (e.tree=(c,d))) (m.drop f) e (by unfold yS at hk; rw [hf] at hk; rw [hk,aP]; exact he);exact of_decide_eq_false this)
 have HF:=K (show ∀ i,i<n->∀ W,Below ((w.alloc (aI #[aC so n sc] 25)).alloc (aI #[U V c,U V d] 31)).heap.size ((w.alloc (aI #[aC so n sc] 25)).alloc (aI #[U V c,U V d] 31)) W ->
   aZ aj 119 (#[U V i]++#[ak (O ⟨w.heap.size,0,aF⟩),ak (O ⟨w.heap.size+1,0,aF⟩)]) W fun e w'=>e=ah (aR ((fun i=>match l[i]? with | some y=>!eP (y.1,y.2.1) (c,d) | none=>ay) i))/\Below W.heap.size W w' from fun i hi W hb=>by
  obtain⟨y,hy⟩:∃ y,l[i]?=O y:=⟨_,J (by omega)⟩;refine YD i _ _ so n sc l (c,d) y _ W (HV.out.on hb) hn hy ?_ (X1.out.on hb) (Y1.out.on hb);simp only [hy])
 have HLO:=K (show ∀ i,i<f->(fun i=>match l[i]? with | some y=>!eP (y.1,y.2.1) (c,d) | none=>ay) i=aA from fun i hi=>by
  obtain⟨y,hy⟩:∃ y,l[i]?=O y:=⟨_,J (by omega)⟩;obtain⟨e,he,hke,hx⟩:=nD HA.out hy;have h1:=FL i e hi he;rw [<- hx.1] at h1;simp only [hy,h1]
  rfl)
 have HHI:=K (show ∀ i,f<=i->i<n->(fun i=>match l[i]? with | some y=>!eP (y.1,y.2.1) (c,d) | none=>ay) i=ay from fun i hi hi2=>by
  obtain⟨y,hy⟩:∃ y,l[i]?=O y:=⟨_,J (by omega)⟩;obtain⟨e,he,hke,hx⟩:=nD HA.out hy;have h1:=FH i e hi he;rw [<- hx.1] at h1;simp only [hy,h1]
  rfl)
 have HN:=K hn;have ln:n<=1000:=by omega
 have ak2:f+k<=n:=by omega
 clear hv hA h0 X Y hk hf hl hn hr hfk hML FL FH;go_enter Tryz.func73,Tryz.ntmps73;go_wp2_with fail;generalize (w.alloc (aI #[aC so n sc] 25)).alloc (aI #[U V c,U V d] 31)=W at *;refine (Al 119 #[ak (O ⟨w.heap.size,0,aF⟩),ak (O ⟨w.heap.size+1,0,aF⟩)] YA n f _ W (by omega) HF.out (by omega) HLO.out HHI.out).mono ?_;rintro e1 w1 ⟨rfl,hb⟩;have B1:=K hb;clear x0 HF HLO HHI hb;go_wp2
 go_loopw [6] (fun i wr=>∃ j:Nat,j<=k/\i=U V ((f+j:Nat):Int)/\Below W.heap.size W wr) (fun i _=>f+k-(intOf i).toNat)
 case atStart=>exact⟨0,bM _,by simp,B1.out⟩
 case round =>
  obtain⟨j,hj,rfl,hbe⟩:=hrel;have BE:=K hbe;have a0:=cell_regrown (show wr.cell? ⟨w.heap.size,0,aF⟩=O (aC so n sc) from (X1.out.on hbe).cell 0);have b0:=cell_regrown (show wr.cell? ⟨w.heap.size+1,0,aF⟩=O (U V c) from (Y1.out.on hbe).cell 0);have b1:=cell_regrown (show wr.cell? ⟨w.heap.size+1,1,aF⟩=O (U V d) from (Y1.out.on hbe).cell 1);have BN:=K (fun dq osq=>BE.out.trans ((below_regrown wr dq osq).mono BE.out.size));clear hbe;by_cases hjk:j<k
  ·obtain⟨y,hy⟩:∃ y,l[f+j]?=O y:=⟨_,J (by rw [HN.out]; omega)⟩;obtain⟨p,ix,p0,p1,p2,p3,p4,p5,p6⟩:=Am HV.out rfl HN.out hy BE.out;obtain⟨e,he,_,hx⟩:=nD HA.out hy;have ht:(y.1,y.2.1)=(c,d):=hx.1.trans (BL.out j e hjk he);have hjn:f+j<n:=by omega
   have g4:decide (((f+j:Nat):Int)<(n:Int))=ay:=by simp; omega
   have hw3:IntKind.i64.wrap (((f+j:Nat):Int)+1)=((f+(j+1):Nat):Int):=by rw [IntWalk.i64_in _ (by omega)]; omega
   obtain⟨y1,y2,y3,y4,⟨yo,yn,yc⟩,y6,y7⟩:=y;obtain⟨rfl,rfl⟩:y1=c/\y2=d:=by simpa using ht
   simp only at p0 p1;have e1:=uw y1 y2 y1 y2 ay (by simp);clear p2 p3 p4 p5 p6 hy he hx ht;generalize hq:f+j=q at *;have HQ:=K hq;clear hq;go_wp2;refine wp_region_quiet_below (by kernel_rfl) (by kernel_rfl) ?_
   repeat (go_big_quiet_step (fail))
   refine wpQuiet_nil ?_;intro _ hw';obtain⟨⟨dq,osq⟩,hw''⟩:=hw';subst hw'';go_wp2
   go_roundw
   case rel=>exact⟨j+1,by omega,by rfl,BN.out _ _⟩
   case measure =>
    have hq:=HQ.out;simp [intOf];omega
  ·obtain rfl:j=k:=by omega
   have RC2:=RC.out;by_cases hjn:f+j<n
   ·obtain⟨y,hy⟩:∃ y,l[f+j]?=O y:=⟨_,J (by rw [HN.out]; omega)⟩;obtain⟨p,ix,p0,p1,p2,p3,p4,p5,p6⟩:=Am HV.out rfl HN.out hy BE.out;obtain⟨e,he,_,hx⟩:=nD HA.out hy;have ht:(y.1,y.2.1)≠(c,d):=fun q=>BH.out e he (hx.1.symm.trans q);have g4:decide (((f+j:Nat):Int)<(n:Int))=ay:=by simp; omega
    obtain⟨y1,y2,y3,y4,⟨yo,yn,yc⟩,y6,y7⟩:=y;simp only at p0 p1;have e1:=uw y1 y2 c d aA (aS.2 fun h=>ht (by simp at h; rw [h.1,h.2]));clear p2 p3 p4 p5 p6 hy he hx ht;generalize f+j=q at *;go_wp2;refine wp_region_quiet_below (by kernel_rfl) (by kernel_rfl) ?_
    repeat (go_big_quiet_step (fail))
    refine wpQuiet_nil ?_;intro _ hw';obtain⟨⟨dq,osq⟩,hw''⟩:=hw';subst hw'';have a0:=a0 dq osq;go_wp2;go_ret;exact⟨rfl,BB.out.trans ((BN.out _ _).mono BB.out.size)⟩
   ·have g4:decide (((f+j:Nat):Int)<(n:Int))=aA:=by simp; omega
    generalize f+j=q at *;go_wp2;refine wp_region_quiet_below (by kernel_rfl) (by kernel_rfl) ?_
    repeat (go_big_quiet_step (fail))
    refine wpQuiet_nil ?_;intro _ hw';obtain⟨⟨dq,osq⟩,hw''⟩:=hw';subst hw'';have a0:=a0 dq osq;go_wp2;go_ret;exact⟨rfl,BB.out.trans ((BN.out _ _).mono BB.out.size)⟩
end Go.Proofs.YtmklifheakemeaaGreat.Sb
