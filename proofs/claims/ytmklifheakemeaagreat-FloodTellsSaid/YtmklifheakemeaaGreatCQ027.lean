/-
  Right of package adv. Conditions as told.
-/
import Derived.Test.YtmklifheakemeaaGreatCQ024
import Derived.Test.YtmklifheakemeaaGreatCQ025
import Derived.Test.YtmklifheakemeaaGreatCQ026
set_option maxRecDepth 100000
set_option maxHeartbeats 64000000
open _root_.Bool renaming and_eq_true->V,true->ay,false->aV
open _root_.Go renaming World->aQ,Value->aR
open Go.IntKind renaming i64->Z
open Go.Lib renaming hid->L
open Go.Proofs.Tryz renaming prog->aJ,func13->aT
open Go.Proofs.YtmklifheakemeaaGreat.Wi renaming within->O,je->aW
open Go.RowKit.Below renaming refl->ak
open Go.Value renaming slice->U,int->Y,pointer->ah,agg->aU
open _root_.List renaming getElem?_eq_getElem->aj,pairwise_cons->au,getElem?_toArray->aA,getElem?_cons_zero->aC,getElem?_cons_succ->aD,mem_filter->aG,length_cons->aK,mem_append->aL,singleton_append->aM,takeWhile_cons->aN,filter_sublist->aO,mem_cons->aP,all_eq_true->aS
open _root_.Option renaming some->aF,none->aH
open Option.some renaming inj->J
open _root_.Or renaming inr->aB,inl->aI
namespace Go.Proofs.YtmklifheakemeaaGreat
namespace Av
open Go.RowKit Go.Sort Rw YtmklifheakemeaaGreat.Nm Pr Bk
abbrev cAd (a b:Ad):Int:=gK a.id b.id
abbrev xI (a b:En):Int:=Ay (gK a.tree b.tree) (gK a.sub b.sub)
abbrev cOw (a b:Ow):Int:=gK a.id b.id
def RZ (b:Br):Bool:=gQ lK b.near && (gQ gK b.seen && (gQ cAd b.dP && (gQ xI b.ent && (gQ cOw b.own && (b.dP.all (Ag b) && (b.ent.all (pU b) && b.own.all (fun o=>Wr.fU o.p)))))))
structure abQ (b:Br):Prop where
 dP:∀ a∈b.dP,Ic a.p
 ent:∀ a∈b.ent,Ic a.p
 own:∀ a∈b.own,Ic a.p
theorem uZ {α β:Type} {R:α->β->Prop} {c:α->α->Int} {d:β->β->Int} (h:∀ x a y b,R x a->R y b->c x y=d a b):∀ {l:List α} {m:List β},eY R l m->gQ c l=gQ d m
 | _,_,.nil=>rfl
 | _,_,.cons _ .nil=>rfl
 | _,_,.cons x (.cons y t)=>by
  have ih:=uZ h (.cons y t);unfold gQ;rw [h _ _ _ _ x y,ih]
theorem lZ {α:Type} {c:α->α->Int} (ht:∀ x y z,c x y<0->c y z<0->c x z<0):∀ {l:List α},gQ c l=ay->l.Pairwise fun x y=>c x y<0
 | [],_=>List.Pairwise.nil
 | [x],_=>List.pairwise_singleton _ _
 | x::y::l,h=>by
  unfold gQ at h;rw [V] at h;have ih:=lZ ht h.2;have hxy:c x y<0:=of_decide_eq_true h.1;refine au.2 ⟨fun z hz=>?_,ih⟩;rcases aP.1 hz with rfl|hz
  ·exact hxy
  ·exact ht x y z hxy ((au.1 ih).1 z hz)
theorem oG {x y:fD}:gK x y<0↔eT x y=ay:=tZ x y
theorem Ie (x y z:fD) (h1:gK x y<0) (h2:gK y z<0):gK x z<0:=oG.2 (iU (oG.1 h1) (oG.1 h2))
theorem Pt {l:List Int} (h:gQ lK l=ay):l.Pairwise (·<=·):=by
 have:=lZ (c:=lK) (fun x y z h1 h2=>by rw [pO] at *; omega) h;exact this.imp fun {a b} q=>by have:=(pO a b).1 q; omega
theorem Fw {l:List fD} (h:gQ gK l=ay):Fq l:=(lZ Ie h).imp fun {_a _b} q=>oG.1 q
theorem JY {l:List Ad} (h:gQ cAd l=ay):ql l:=(lZ (fun x y z=>Ie x.id y.id z.id) h).imp fun {_a _b} q=>oG.1 q
theorem Co (b:Br) (nv av sv ev ov:Sl) (w:aQ) (h:iN w b nv av sv ev ov) (hf:Hq b) (ht:abQ b) :
  Calls aJ 20 #[mo b.me nv av sv ev ov] w fun e w'=>e=.returned (.bool (RZ b))/\Below w.heap.size w w':=by
 obtain⟨no,nn,nc⟩:=nv;obtain⟨ao,an,ac⟩:=av;obtain⟨so,sn,sc⟩:=sv;obtain⟨eo,en,ec⟩:=ev;obtain⟨oo,dU,oc⟩:=ov;obtain⟨la,ha1,ha2⟩:=h.dP;obtain⟨le,he1,he2⟩:=h.ent;obtain⟨lo,ho1,ho2⟩:=h.own;have q0:=fF w (.cells #[Y Z b.me,U no nn nc,U ao an ac,U so sn sc,U eo en ec,U oo dU oc] 28);have X:=dO w #[Y Z b.me,U no nn nc,U ao an ac,U so sn sc,U eo en ec,U oo dU oc] 28;have C1:=fun W' (q:Below w.heap.size w W')=>Rx (U no nn nc) b.near W' (h.near.on q);have C2:=fun W' (q:Below w.heap.size w W')=>Ry (U so sn sc) b.seen W' (h.seen.on q);have C3:=fun W' (q:Below w.heap.size w W')=>Rz (U ao an ac) la W' (ha1.on q);have C4:=fun W' (q:Below w.heap.size w W')=>RA (U eo en ec) le W' (he1.on q);have C5:=fun W' (q:Below w.heap.size w W')=>RD (U oo dU oc) lo W' (ho1.on q);rw [uZ (R:=sF w) (d:=cAd) (fun x a y b h1 h2=>by rw [cAd,<- h1.1,<- h2.1]) ha2] at C3;rw [uZ (R:=jD w) (d:=xI) (fun x a y b h1 h2=>by rw [xI,<- h1.1,<- h2.1,<- h1.2.1,<- h2.2.1]; rfl) he2] at C4;rw [uZ (R:=yI w) (d:=cOw) (fun x a y b h1 h2=>by rw [cOw,<- h1.1,<- h2.1]) ho2] at C5;have C6:=fun (g1:gQ lK b.near=ay) (g2:gQ gK b.seen=ay) W' (q:Below w.heap.size w W') (hx:dJ W' w.heap.size #[Y Z b.me,U no nn nc,U ao an ac,U so sn sc,U eo en ec,U oo dU oc] 28)=>Vz w.heap.size (ao,an,ac) la b.dP (Ag b) W' (ha1.on q) (ha2.mono fun _ _ z=>z.on q) (fun x a W2 hm q2 hxa=>Vw b a (no,nn,nc) (ao,an,ac) (so,sn,sc) (eo,en,ec) (oo,dU,oc) x w.heap.size W2 (hx.on q2) ((h.on q).on q2) hxa hf (Pt g1) (Fw g2) (ht.dP a hm));have C7:=fun (g1:gQ lK b.near=ay) (g3:gQ cAd b.dP=ay) W' (q:Below w.heap.size w W') (hx:dJ W' w.heap.size #[Y Z b.me,U no nn nc,U ao an ac,U so sn sc,U eo en ec,U oo dU oc] 28)=>VA w.heap.size (eo,en,ec) le b.ent (pU b) W' (he1.on q) (he2.mono fun _ _ z=>z.on q) (fun x a W2 hm q2 hxa=>Vx b a (no,nn,nc) (ao,an,ac) (so,sn,sc) (eo,en,ec) (oo,dU,oc) x w.heap.size W2 (hx.on q2) ((h.on q).on q2) hxa hf (Pt g1) (JY g3) (ht.ent a hm));have C8:=fun W' (q:Below w.heap.size w W')=>VB (oo,dU,oc) lo b.own (fun o=>Wr.fU o.p) W' (ho1.on q) (ho2.mono fun _ _ z=>z.on q) (fun x a W2 hm q2 hxa=>Vy a x W2 hxa (ht.own a hm));have RS:=L (show RZ b=(gQ lK b.near && (gQ gK b.seen && (gQ cAd b.dP && (gQ xI b.ent && (gQ cOw b.own && (b.dP.all (Ag b) && (b.ent.all (pU b) && b.own.all (fun o=>Wr.fU o.p)))))))) from rfl);generalize RZ b=res at *;generalize gQ lK b.near=r1 at *;generalize gQ gK b.seen=r2 at *;generalize gQ cAd b.dP=r3 at *;generalize gQ xI b.ent=r4 at *;generalize gQ cOw b.own=r5 at *;generalize b.dP.all (Ag b)=r6 at *;generalize b.ent.all (pU b)=r7 at *;generalize b.own.all (fun o=>Wr.fU o.p)=r8 at *;have C1:=L C1;have C2:=L C2;have C3:=L C3;have C4:=L C4;have C5:=L C5;have C6:=L C6;have C7:=L C7;have C8:=L C8;have B0:=L q0;have X0:=L X;obtain⟨zB,zC,zD,zF,zG,zH⟩:=X.eX;clear q0 X h hf ht ha1 ha2 he1 he2 ho1 ho2;go_enter Tryz.func20,Tryz.ntmps20;go_wp2_with fail;generalize w.alloc (.cells #[Y Z b.me,U no nn nc,U ao an ac,U so sn sc,U eo en ec,U oo dU oc] 28)=W0 at *;refine (C1.out _ B0.out).mono ?_;rintro e1 W1 ⟨rfl,hb⟩;have B1:=L (B0.out.trans (hb.mono B0.out.size));have X1:=L (X0.out.on hb);clear hb zB zC zD zF zG zH;obtain⟨zB,zC,zD,zF,zG,zH⟩:=X1.out.eX;cases r1
 ·go_wp2_with fail;go_ret;exact⟨by rw [RS.out]; rfl,B1.out⟩
 ·go_wp2_with fail;refine (C2.out _ B1.out).mono ?_;rintro e2 W2 ⟨rfl,hb⟩;have B2:=L (B1.out.trans (hb.mono B1.out.size));have X2:=L (X1.out.on hb);clear hb zB zC zD zF zG zH;obtain⟨zB,zC,zD,zF,zG,zH⟩:=X2.out.eX;cases r2
  ·go_wp2_with fail;go_ret;exact⟨by rw [RS.out]; rfl,B2.out⟩
  ·go_wp2_with fail;refine (C3.out _ B2.out).mono ?_;rintro e3 W3 ⟨rfl,hb⟩;have B3:=L (B2.out.trans (hb.mono B2.out.size));have X3:=L (X2.out.on hb);clear hb zB zC zD zF zG zH;obtain⟨zB,zC,zD,zF,zG,zH⟩:=X3.out.eX;cases r3
   ·go_wp2_with fail;go_ret;exact⟨by rw [RS.out]; rfl,B3.out⟩
   ·go_wp2_with fail;refine (C4.out _ B3.out).mono ?_;rintro e4 W4 ⟨rfl,hb⟩;have B4:=L (B3.out.trans (hb.mono B3.out.size));have X4:=L (X3.out.on hb);clear hb zB zC zD zF zG zH;obtain⟨zB,zC,zD,zF,zG,zH⟩:=X4.out.eX;cases r4
    ·go_wp2_with fail;go_ret;exact⟨by rw [RS.out]; rfl,B4.out⟩
    ·go_wp2_with fail;refine (C5.out _ B4.out).mono ?_;rintro e5 W5 ⟨rfl,hb⟩;have B5:=L (B4.out.trans (hb.mono B4.out.size));have X5:=L (X4.out.on hb);clear hb zB zC zD zF zG zH;obtain⟨zB,zC,zD,zF,zG,zH⟩:=X5.out.eX;cases r5
     ·go_wp2_with fail;go_ret;exact⟨by rw [RS.out]; rfl,B5.out⟩
     ·go_wp2_with fail;refine (C6.out (by trivial) (by trivial) _ B5.out X5.out).mono ?_;rintro e6 W6 ⟨rfl,hb⟩;have B6:=L (B5.out.trans (hb.mono B5.out.size));have X6:=L (X5.out.on hb);clear hb zB zC zD zF zG zH;obtain⟨zB,zC,zD,zF,zG,zH⟩:=X6.out.eX;cases r6
      ·go_wp2_with fail;go_ret;exact⟨by rw [RS.out]; rfl,B6.out⟩
      ·go_wp2_with fail;refine (C7.out (by trivial) (by trivial) _ B6.out X6.out).mono ?_;rintro e7 W7 ⟨rfl,hb⟩;have B7:=L (B6.out.trans (hb.mono B6.out.size));have X7:=L (X6.out.on hb);clear hb zB zC zD zF zG zH;obtain⟨zB,zC,zD,zF,zG,zH⟩:=X7.out.eX;cases r7
       ·go_wp2_with fail;go_ret;exact⟨by rw [RS.out]; rfl,B7.out⟩
       ·go_wp2_with fail;refine (C8.out _ B7.out).mono ?_;rintro e8 W8 ⟨rfl,hb⟩;have B8:=L (B7.out.trans (hb.mono B7.out.size));clear hb zB zC zD zF zG zH;go_wp2_with fail;go_ret;exact⟨by rw [RS.out]; rfl,B8.out⟩
theorem q8 {α:Type} {c:α->α->Int}:∀ {l:List α},(l.Pairwise fun x y=>c x y<0)->gQ c l=ay
 | [],_=>rfl
 | [_],_=>rfl
 | x::y::l,h=>by
  have h1:=au.1 h;unfold gQ;rw [decide_eq_true (h1.1 y (by simp)),Bool.true_and];exact q8 h1.2
theorem aaS (x y z:Int) (h1:lK x y<0) (h2:lK y z<0):lK x z<0:=by rw [pO] at *; omega
theorem vg (a b:En):xI a b<0↔(eT a.tree b.tree=ay\/(a.tree=b.tree/\eT a.sub b.sub=ay)):=by
 unfold xI Ay;by_cases h:gK a.tree b.tree=0
 ·rw [if_pos h,tZ];have e:=(uT _ _).1 h;constructor
  ·exact fun q=>aB ⟨e,q⟩
  ·rintro (q|⟨_,q⟩)
   ·rw [e,kX] at q; cases q
   ·exact q
 ·rw [if_neg h,tZ];constructor
  ·exact aI
  ·rintro (q|⟨q,_⟩)
   ·exact q
   ·exact absurd ((uT _ _).2 q) h
theorem Ig (x y z:En) (h1:xI x y<0) (h2:xI y z<0):xI x z<0:=by
 rw [vg] at *;rcases h1 with h1|⟨e1,h1⟩ <;> rcases h2 with h2|⟨e2,h2⟩
 ·exact aI (iU h1 h2)
 ·exact aI (by rw [<- e2]; exact h1)
 ·exact aI (by rw [e1]; exact h2)
 ·exact aB ⟨e1.trans e2,iU h1 h2⟩
structure ji (b:Br):Prop where
 near:b.near.Pairwise (·<·)
 seen:Fq b.seen
 dP:ql b.dP
 ent:b.ent.Pairwise fun x y=>xI x y<0
 own:lC Ow.id b.own
 oks:∀ a∈b.dP,a.id∈b.seen/\iL b.near a.par=ay/\Wr.fU a.p=ay
 R6:∀ e∈b.ent,pU b e=ay
 Z9:∀ o∈b.own,Wr.fU o.p=ay
theorem VH (b:Br):RZ b=ay↔ji b:=by
 unfold RZ;simp only [V,aS];constructor
 ·rintro⟨h1,h2,h3,h4,h5,h6,h7,h8⟩;refine⟨(lZ aaS h1).imp fun {a b} q=>(pO a b).1 q,Fw h2,JY h3,lZ Ig h4,(lZ (fun x y z=>Ie x.id y.id z.id) h5).imp fun {a b} q=>oG.1 q,fun a ha=>?_,h7,h8⟩;have:=h6 a ha;unfold Ag at this;simp only [V,decide_eq_true_eq] at this;exact this
 ·rintro⟨h1,h2,h3,h4,h5,h6,h7,h8⟩;refine⟨q8 (h1.imp fun {a b} q=>(pO a b).2 q),q8 (h2.imp fun {a b} q=>oG.2 q),q8 (h3.imp fun {a b} q=>oG.2 q),q8 h4,q8 (h5.imp fun {a b} q=>oG.2 q),fun a ha=>?_,h7,h8⟩;unfold Ag;simp only [V,decide_eq_true_eq];exact h6 a ha
theorem kL {α:Type} (l:List α) (k:Nat) (x y:α):y∈gT l k x↔y=x\/y∈l:=by
 unfold gT;rw [aL,aL,List.mem_singleton]
 conv=>rhs; rw [<- List.take_append_drop k l,aL]
 constructor
 ·rintro ((h|h)|h)
  ·exact aB (aI h)
  ·exact aI h
  ·exact aB (aB h)
 ·rintro (h|h|h)
  ·exact aI (aB h)
  ·exact aI (aI h)
  ·exact aB h
theorem JZ {α:Type} (key:α->fD):∀ (l:List α) (x:fD),∀ y∈l.take (gF key l x),eT (key y) x=ay
 | [],_,y,h=>by simp at h
 | a::l,x,y,h=>by
  unfold gF at h;by_cases ha:eT (key a) x=ay
  ·simp only [aN,ha,if_true,aK,List.take_succ_cons,aP] at h;rcases h with rfl|h
   ·exact ha
   ·exact JZ key l x y h
  ·simp [ha] at h
theorem xJ {α:Type} {key:α->fD}:∀ {l:List α} (_:lC key l) (x:fD) (_:∀ y∈l,key y≠x),∀ y∈l.drop (gF key l x),eT x (key y)=ay
 | [],_,_,_,y,h=>by simp at h
 | a::l,hr,x,hn,y,h=>by
  unfold gF at h;have hr':=au.1 hr;by_cases ha:eT (key a) x=ay
  ·simp only [aN,ha,if_true,aK,List.drop_succ_cons] at h;exact xJ hr'.2 x (fun y hy=>hn y (List.mem_cons_of_mem _ hy)) y h
  ·simp [ha] at h;have hax:eT x (key a)=ay:=by
    rcases qj (key a) x with q|q|q
    ·exact absurd q ha
    ·exact absurd q (hn a (by simp))
    ·exact q
   rcases h with rfl|h
   ·exact hax
   ·exact iU hax (hr'.1 y h)
theorem kR {α:Type} {key:α->fD} {l:List α} (hr:lC key l) (x:α) (hn:∀ y∈l,key y≠key x):lC key (gT l (gF key l (key x)) x):=by
 unfold gT;have h1:lC key (l.take (gF key l (key x))):=hr.sublist (List.take_sublist _ _);have h2:lC key (l.drop (gF key l (key x))):=hr.sublist (List.drop_sublist _ _);have lo:=JZ key l (key x);have hi:=xJ hr (key x) hn;unfold lC at *;rw [List.append_assoc,List.pairwise_append];refine⟨h1,?_,fun a ha b hb=>?_⟩
 ·rw [aM,au];exact⟨fun b hb=>hi b hb,h2⟩
 ·rw [aM,aP] at hb;rcases hb with rfl|hb
  ·exact lo a ha
  ·exact iU (lo a ha) (hi b hb)
theorem ny {l:List Ad} {x:fD} {a:Ad} (h:gG l x=aF a):a∈l/\a.id=x:=by
 unfold gG at h;exact⟨List.mem_of_find?_eq_some h,by simpa using List.find?_some h⟩
theorem pV {l:List Ad} (hr:ql l) {a:Ad} (ha:a∈l):gG l a.id=aF a:=by
 obtain⟨k,hk⟩:=List.mem_iff_getElem?.1 ha;refine qY hk rfl fun j z hj hz e=>?_;have:=mG hr hj hz hk;rw [e,kX] at this;cases this
theorem J2 {l m:List Ad} (hl:ql l) (hm:ql m) {x:fD} (h:∀ a,a.id=x->(a∈l↔a∈m)):gG l x=gG m x:=by
 cases h1:gG l x with
 | none =>
  cases h2:gG m x with
  | none=>rfl
  | some a =>
   obtain⟨q1,q2⟩:=ny h2;have:=pV hl ((h a q2).2 q1);rw [q2,h1] at this;cases this
 | some a =>
  obtain⟨q1,q2⟩:=ny h1;have:=pV hm ((h a q2).1 q1);rw [q2] at this;exact this.symm
theorem vk {b c:Br} {e:En} (hn:c.near=b.near) (hf:gG c.dP e.tree=gG b.dP e.tree) (h:pU b e=ay):pU c e=ay:=by
 unfold pU at *;rw [hf,hn];exact h
theorem uh {b:Br} (h:ji b) (a:Ad) (hp:iL b.near a.par=ay) (hq:Wr.fU a.p=ay):ji (eP b a).1:=by
 by_cases hin:a.id∈b.seen
 ·rw [uY hin]; exact h
 ·rw [wJ hin];have hna:∀ y∈b.dP,y.id≠a.id:=fun y hy e=>hin (by rw [<- e]; exact (h.oks y hy).1);have hns:∀ y∈b.seen,y≠a.id:=fun y hy e=>hin (by rw [<- e]; exact hy);have ra:ql (gT b.dP (gq (b.dP.map Ad.id) a.id) a):=by
   rw [<- jA];exact kR h.dP a hna
  have rs:Fq (gT b.seen (gq b.seen a.id) a.id):=by
   have:=kR (key:=fun x:fD=>x) h.seen a.id hns;rw [jA,List.map_id'] at this;exact this
  refine⟨h.near,rs,ra,h.ent,h.own,fun y hy=>?_,fun e he=>?_,h.Z9⟩
  ·rcases (kL _ _ _ _).1 hy with rfl|hy
   ·exact⟨(kL _ _ _ _).2 (aI rfl),hp,hq⟩
   ·exact⟨(kL _ _ _ _).2 (aB (h.oks y hy).1),(h.oks y hy).2⟩
  ·refine vk (b:=b) rfl (J2 ra h.dP fun y hy=>?_) (h.R6 e he);rw [kL];refine⟨fun q=>q.resolve_left fun e2=>?_,aB⟩;have hk:=h.R6 e he;unfold pU at hk;cases hf:gG b.dP e.tree with
   | none=>rw [hf] at hk; cases hk
   | some z =>
    obtain⟨z1,z2⟩:=ny hf;exact hna z z1 (by rw [z2,<- hy,e2])
theorem Fx {b:Br} (h:ji b) (x:fD) (f:Int):ji (gW b x f).1:=by
 unfold gW;cases gG b.dP x with
 | none=>exact h
 | some a =>
  simp only
  split
  ·have ra:ql (b.dP.filter fun e=>decide (e.id≠x)):=h.dP.sublist aO;refine⟨h.near,h.seen,ra,h.ent.sublist aO,h.own,fun y hy=>h.oks y ((aG.1 hy).1),fun e he=>?_,h.Z9⟩;have ht:e.tree≠x:=of_decide_eq_true (aG.1 he).2;refine vk (b:=b) rfl (J2 ra h.dP fun y hy=>?_) (h.R6 e (aG.1 he).1);rw [aG];exact⟨fun q=>q.1,fun q=>⟨q,decide_eq_true (by rw [hy]; exact ht)⟩⟩
  ·exact h
end Av
namespace Av
open Go.RowKit Rw YtmklifheakemeaaGreat.Nm Pr Wr
theorem agf (c:Cn) (h:vM c=ay):oz (r5 c)=ay:=by
 obtain⟨n,k⟩:=c;unfold vM at h;rw [V] at h;obtain⟨h1,h2⟩:=h;have h1':At.kQ n=ay:=h1;cases k with
 | rg lo hi =>
  have h3:lo<=hi:=by simpa [iY] using h2
  have h0:(⟨#[]⟩:ByteArray).size=0:=rfl;simp [r5,oz,kN,jQ,jR,kT,h1',h3,h0]
 | tx t =>
  have h3:t.size<=12:=by simpa [iY] using h2
  simp [r5,oz,kN,jQ,jR,kT,h1',h3]
 | pr t =>
  have h3:t.size<12:=by simpa [iY] using h2
  have h4:t.size<=11:=by omega
  simp [r5,oz,kN,jQ,jR,kT,h1',h4]
theorem J3 (l:List C5) (h1:l.Pairwise fun x y=>Op.bytesLess x.1.toList y.1.toList=ay) (h2:l.length<=5) (h3:∀ c∈l,oz c=ay):fU l=ay:=by
 rw [Bh l fun j hj=>?_]
 ·simpa using h2
 unfold sQ;rw [aj hj];simp only [V];refine⟨h3 _ (List.getElem_mem hj),?_⟩;cases j with
 | zero=>rfl
 | succ j =>
  rw [Bool.or_eq_true];right;rw [Nat.add_sub_cancel,aj (by omega)];exact List.pairwise_iff_getElem.1 h1 j (j+1) (by omega) hj (by omega)
theorem wL (has vals:List Int):fU ((jF has vals 7).map r5)=ay:=by
 have h:=Uw has vals;refine J3 _ ?_ (by rw [List.length_map]; exact h.five) fun c hc=>?_
 ·rw [List.pairwise_map];exact h.rise
 ·obtain⟨x,hx,rfl⟩:=List.mem_map.1 hc;exact agf x (h.good x hx)
theorem VI {c:C5} (h:oz c=ay):c.1.size<=12/\c.2.2.2.2.size<=12:=by
 unfold oz At.kQ at h;simp only [V,decide_eq_true_eq] at h;refine⟨h.1.2.2,?_⟩;have h2:=h.2
 split at h2
 ·simp only [V,decide_eq_true_eq] at h2; omega
 ·split at h2
  ·simp only [V,decide_eq_true_eq] at h2; omega
  ·split at h2
   ·simp only [V,decide_eq_true_eq] at h2; omega
   ·cases h2
theorem wM {l:List C5} (h:fU l=ay):Ic l:=fun x hx=>by
 unfold fU at h;rw [V,aS] at h;obtain⟨j,hj,rfl⟩:=List.getElem_of_mem hx;have h1:=h.1 j (List.mem_range.2 hj);unfold sQ at h1;rw [aj hj] at h1;simp only [V] at h1;have h2:=VI h1.1;have h3:12<=maxLen:=by decide
 exact⟨Nat.le_trans h2.1 h3,Nat.le_trans h2.2 h3⟩
end Av
namespace Av
open Go.RowKit Go.Sort Rw YtmklifheakemeaaGreat.Nm Pr Bk
theorem R7 {α:Type} (l:List α) (k:Nat) (x:α):(gT l k x).length=l.length+1:=by
 unfold gT;simp only [List.length_append,aK,List.length_nil,List.length_take,List.length_drop];omega
theorem vB (b:Br):y9 b b=ay:=(Nk b b).2 rfl
theorem AA {α β:Type} {E:Ek α} {F:Ek β} {W W':aQ} {B B':Nat} {v u:aR} {l:List β} {m:List α} (ho:Own F W B v l) (gr:W.grownBy W' v.ownBlock) (h:Own E W B' u m) (hne:(E.t == F.t)=aV):Own E W' B' u m:=by
 rcases gX ho with⟨h1,_⟩|⟨g,c,cur,h1,_,h2,_⟩
 ·rw [h1] at gr;exact Bk.dI h ((ak _ _).grown gr (Nat.le_refl _) (fun j hj=>by cases hj))
 ·rw [h1] at gr;exact (yZ (b:=g) gr).own h h2 hne
theorem Ih {β:Type} {F:Ek β} {W W':aQ} {B k:Nat} {v:aR} {l:List β} {cs:Array aR} {t:TypeId} (ho:Own F W B v l) (gr:W.grownBy W' v.ownBlock) (h:dJ W k cs t) (hne:(t == F.t)=aV):dJ W' k cs t:=by
 rcases gX ho with⟨h1,_⟩|⟨g,c,cur,h1,_,h2,_⟩
 ·rw [h1] at gr;exact h.on ((ak _ _).grown gr (Nat.le_refl _) (fun j hj=>by cases hj))
 ·rw [h1] at gr;exact (yZ (b:=g) gr).box h (lT h h2 hne)
end Av
namespace Bk
open Go.RowKit Go.Sort Rw YtmklifheakemeaaGreat.Nm Pr
noncomputable def agh:Code:=((Tryz.f23.body.bind (jV 0)).getD .skip)
theorem aaT (Q:Exit->Act->aQ->Prop) (W:aQ) (b2 b3:Nat) (me c d:Int) (y1 y2 y3 y4:aR) (so:Option Addr) (n sc:Nat) (l:List oq) (u0 u1 u2 u5 u6 u7 u9 u10 u11 u12 u13 u14 u15 u16 u17 u18 u19 u20 u21 u22 u23 u24 u25 u26 u27 u28 u29 u30 u31 u32 u33 u34 u35 u36 u37 u38 u39 u40 u41 u42 u43 u44 u45 u46 u47 u48 u49 u50 u51 u52 u53 u54 u55 u56 u57 u58 u59 u60 u61 u62 u63 u64 u65 u66 u67 u68 u69 u70 u71 u72 u73 u74 u75 u76 u77 u78 u79 u80 u81 u82 u83 u84 u85 u86 u87 u88 u89 u90 u91 u92 u93 u94 u95 u96 u97 u98:aR)
  (h2:dJ W b2 #[Y Z me,y1,y2,y3,y4,U so n sc] 28) (h3:dJ W b3 #[Y Z c,Y Z d] 31) (hs:QN W (U so n sc) l) (hn:n=l.length) (hm:n<=1000000)
  (hQ:∀ (wr:aQ) (v14 v15 v16 v17 v18 v19 v20 v21 v22 v23 v24 v25 v26 v27 v28 v29 v30:aR),Below W.heap.size W wr->Q .normal ⟨(u0::u1::u2::ah (aF ⟨b2,0,aH⟩)::ah (aF ⟨b3,0,aH⟩)::u5::u6::u7::Y Z (gq (l.map fun y=>(y.1,y.2.1)) (c,d):Nat)::u9::u10::u11::u12::u13::v14::v15::v16::v17::v18::v19::v20::v21::v22::v23::v24::v25::v26::v27::v28::v29::v30::u31::u32::u33::u34::u35::u36::u37::u38::u39::u40::u41::u42::u43::u44::u45::u46::u47::u48::u49::u50::u51::u52::u53::u54::u55::u56::u57::u58::u59::u60::u61::u62::u63::u64::u65::u66::u67::u68::u69::u70::u71::u72::u73::u74::u75::u76::u77::u78::u79::u80::u81::u82::u83::u84::u85::u86::u87::u88::u89::u90::u91::u92::u93::u94::u95::u96::u97::u98::[]).toArray,[]⟩ wr) :
  Code.wp aJ agh Q ⟨(u0::u1::u2::ah (aF ⟨b2,0,aH⟩)::ah (aF ⟨b3,0,aH⟩)::u5::u6::u7::Y Z 0::u9::u10::u11::u12::u13::u14::u15::u16::u17::u18::u19::u20::u21::u22::u23::u24::u25::u26::u27::u28::u29::u30::u31::u32::u33::u34::u35::u36::u37::u38::u39::u40::u41::u42::u43::u44::u45::u46::u47::u48::u49::u50::u51::u52::u53::u54::u55::u56::u57::u58::u59::u60::u61::u62::u63::u64::u65::u66::u67::u68::u69::u70::u71::u72::u73::u74::u75::u76::u77::u78::u79::u80::u81::u82::u83::u84::u85::u86::u87::u88::u89::u90::u91::u92::u93::u94::u95::u96::u97::u98::[]).toArray,[]⟩ W:=by
 have HQ:=L hQ;have H2:=L h2;have H3:=L h3;have HS:=L hs;have HN:=L hn;clear hQ h2 h3 hs hn
 conv=>arg 2; whnf
 go_wp2
 go_loopw [8] (fun i wr=>∃ k:Nat,k<=n/\i=Y Z k/\Below W.heap.size W wr/\∀ (j:Nat) (y:Id),j<k->(l.map fun y=>(y.1,y.2.1))[j]?=aF y->eT y (c,d)=ay) (fun i _=>n-(intOf i).toNat)
 case atStart=>exact⟨0,Nat.zero_le _,rfl,ak _ _,fun j y h=>by omega⟩
 case round =>
  obtain⟨k,hk,rfl,hbe,hall⟩:=hrel;have BE:=L hbe;have AL:=L hall;clear hbe hall;have q0:=cell_regrown (show wr.cell? ⟨b2,5,aH⟩=aF (U so n sc) from (H2.out.on BE.out).cell 5);have r0:=cell_regrown (show wr.cell? ⟨b3,0,aH⟩=aF (Y Z c) from (H3.out.on BE.out).cell 0);have r1:=cell_regrown (show wr.cell? ⟨b3,1,aH⟩=aF (Y Z d) from (H3.out.on BE.out).cell 1);have hw3:IntKind.i64.wrap ((k:Int)+1)=(k:Int)+1:=IntWalk.i64_in _ (by omega);by_cases hlt:k<n
  ·obtain⟨y,hy⟩:∃ y,l[k]?=aF y:=⟨_,aj (by rw [<- HN.out]; exact hlt)⟩;obtain⟨p,ix,px⟩:=elW HS.out rfl HN.out.symm hy;have Ab:=px wr BE.out;obtain⟨y1,y2,⟨yo,yn,yc⟩⟩:=y;simp only at Ab;have p0:=cell_regrown Ab.1;have p1:=cell_regrown Ab.2.1;have zy:decide ((k:Int)<(n:Int))=ay:=decide_eq_true (by omega);have DV:decide (k<n)=ay:=decide_eq_true hlt;obtain⟨r,hr⟩:∃ r,eT (y1,y2) (c,d)=r:=⟨_,rfl⟩;have LS:=L (fun d' os=>Calls.regrown_of (d:=d') (os:=os) ((tT (y1,y2) (c,d) (grow (redrawn wr d') os)).mono fun _ _ h=>⟨by rw [h.1,hr],h.2⟩));have HY:=L (show (l.map fun y=>(y.1,y.2.1))[k]?=aF (y1,y2) by rw [List.getElem?_map,hy]; rfl);have HR:=L hr;clear px Ab hy hr;cases r
   ·go_wp2_with fail;refine wp_region_quiet_below (by kernel_rfl) (by kernel_rfl) ?_
    repeat (go_big_quiet_step (first | (with_reducible exact LS.out _ _)))
    refine wpQuiet_nil ?_;intro _ hw';obtain⟨⟨dq,osq⟩,hw''⟩:=hw';subst hw'';have Z6:=below_regrown wr dq osq;have HF:=L (fun v14 v15 v16 v17 v18 v19 v20 v21 v22 v23 v24 v25 v26 v27 v28 v29 v30=>HQ.out (grow (redrawn wr dq) osq) v14 v15 v16 v17 v18 v19 v20 v21 v22 v23 v24 v25 v26 v27 v28 v29 v30 (BE.out.trans (Z6.mono BE.out.size)));rw [pG (l.map fun y=>(y.1,y.2.1)) (c,d) k AL.out (aB ⟨_,HY.out,HR.out⟩)] at HF;clear ix HQ q0 r0 r1 LS zy DV p0 p1;go_wp2;exact HF.out _ _ _ _ _ _ _ _ _ _ _ _ _ _ _ _ _
   ·go_wp2_with fail;refine wp_region_quiet_below (by kernel_rfl) (by kernel_rfl) ?_
    repeat (go_big_quiet_step (first | (with_reducible exact LS.out _ _)))
    refine wpQuiet_nil ?_;intro _ hw';obtain⟨⟨dq,osq⟩,hw''⟩:=hw';subst hw'';have Z6:=L (below_regrown wr dq osq);clear ix q0 r0 r1 LS zy DV p0 p1;go_wp2
    go_roundw
    case rel=>exact⟨k+1,by omega,by go_num,BE.out.trans (Z6.out.mono BE.out.size),fun j y' hj h1=>by
     rcases Nat.lt_or_ge j k with h3|h3
     ·exact AL.out j y' h3 h1
     ·obtain rfl:j=k:=by omega
      have e1:=HY.out;rw [h1] at e1;rw [J e1];exact HR.out⟩
    case measure=>simp [intOf]; omega
  ·obtain rfl:k=n:=by omega
   have zy:decide ((k:Int)<(k:Int))=aV:=by simp
   have DV:decide (k<k)=aV:=by simp
   go_wp2_with fail;refine wp_region_quiet_below (by kernel_rfl) (by kernel_rfl) ?_
   repeat (go_big_quiet_step (fail))
   refine wpQuiet_nil ?_;intro _ hw';obtain⟨⟨dq,osq⟩,hw''⟩:=hw';subst hw'';have Z6:=below_regrown wr dq osq;have HF:=L (fun v14 v15 v16 v17 v18 v19 v20 v21 v22 v23 v24 v25 v26 v27 v28 v29 v30=>HQ.out (grow (redrawn wr dq) osq) v14 v15 v16 v17 v18 v19 v20 v21 v22 v23 v24 v25 v26 v27 v28 v29 v30 (BE.out.trans (Z6.mono BE.out.size)));rw [pG (l.map fun y=>(y.1,y.2.1)) (c,d) k AL.out (aI (by simpa using HN.out))] at HF;clear HQ q0 r0 r1 zy DV;go_wp2;exact HF.out _ _ _ _ _ _ _ _ _ _ _ _ _ _ _ _ _
def xK (near:List Int) (n:Int):Int:=(near[(O n 0 near.length).toNat]?).getD (-1)
theorem J4 (me n:Int) (nv:Sl) (av sv ev ov:aR) (l:List Int) (w:aQ) (hs:qF w (dY nv) l) (hl:l.length<=900) (h1:-9223372036854775808<=n) (h2:n<=9223372036854775807) :
  Calls aJ 12 #[aU #[Y Z me,dY nv,av,sv,ev,ov],Y Z n] w fun e w'=>e=.returned (Y Z (xK l n))/\Below w.heap.size w w':=by
 obtain⟨no,nn,nc⟩:=nv;obtain⟨q1,q2,hq⟩:=hs.len;obtain⟨rfl,rfl,rfl⟩:no=q1/\nn=l.length/\nc=q2:=by
  have:U no nn nc=U q1 l.length q2:=hq;simpa using this
 obtain⟨nn,hnn⟩:∃ n,n=l.length:=⟨_,rfl⟩;simp only [<- hnn] at hs ⊢;have NB:=fF w (.cells #[Y Z me,U no nn nc,av,sv,ev,ov] 28);have B0:=L NB;have X2:=L (dO w #[Y Z me,U no nn nc,av,sv,ev,ov] 28);have HS:=L (hs.on NB);have HN:=L hnn;have nl:nn<=900:=by omega
 clear NB hs hq hnn hl;show Calls aJ 12 #[aU #[Y Z me,U no nn nc,av,sv,ev,ov],Y Z n] w _;go_enter Tryz.func12,Tryz.ntmps12;go_upto_region 1 with fail;generalize w.alloc (.cells #[Y Z me,U no nn nc,av,sv,ev,ov] 28)=W at *;have x1:=X2.out.cell 1;simp only [aA,aC,aD] at x1;have WI:=aW n 0 (nn:Int) W (by omega) (by decide) (by omega) h1 h2;have WB:=Wi.jI n 0 (nn:Int) (by omega);have SD:=L (show xK l n=(l[(O n 0 (nn:Int)).toNat]?).getD (-1) from by unfold xK; rw [HN.out]);generalize O n 0 (nn:Int)=y at *;obtain⟨m,rfl⟩:∃ m:Nat,y=m:=⟨y.toNat,by omega⟩;rw [Int.toNat_natCast] at SD;go_wp2_with fail;refine WI.mono ?_;rintro e2 w2 ⟨rfl,rfl⟩;clear WI;by_cases hm:m<nn
 ·have hm2:(m:Int)<(nn:Int):=by omega
  obtain⟨z,hz⟩:∃ z,l[m]?=aF z:=⟨_,aj (by rw [<- HN.out]; exact hm)⟩;obtain⟨p,ix,px⟩:=elI HS.out rfl HN.out.symm hz;have p0:=px.2 W (ak _ _);rw [hz] at SD;clear px hz;go_wp2_with fail;go_ret;exact⟨by rw [SD.out]; rfl,B0.out⟩
 ·have hm2:¬ ((m:Int)<(nn:Int)):=by omega
  rw [List.getElem?_eq_none (by have:=HN.out; omega)] at SD;go_wp2_with fail;go_ret;exact⟨by rw [SD.out]; rfl,B0.out⟩
end Bk
namespace Av
open Go.RowKit Go.Sort Rw YtmklifheakemeaaGreat.Nm Pr Bk
def aiL (_:Nat) (bq:Nat) (_ _ _ z3 z4:Int) (_:Option Addr) (_ _:Nat) (_:Option Addr) (_ _:Nat) (i:Nat) (v:aR) (_:aQ):Prop :=
 match i with
 | 0=>v=ah (aF ⟨bq,3,aH⟩)
 | 1=>v=Y Z z3
 | 2=>v=Y Z (O z3 0 4)
 | 3=>v=ah (aF ⟨bq,4,aH⟩)
 | 4=>v=Y Z z4
 | 5=>v=Y Z (O z4 0 2)
 | 6=>v=aU #[Y Z (O z3 0 4),Y Z (O z4 0 2)]
 | 7=>True
 | 8=>True
 | _=>True
noncomputable def abR:Code:=((Tryz.f11.body.bind (eO 12)).getD .skip)
theorem alA (Q:Exit->Act->aQ->Prop) (W:aQ) (bq:Nat) (z0 z1 z2 z3 z4:Int) (h1:Option Addr) (h2 h3:Nat) (g1:Option Addr) (g2 g3:Nat) (u0 u1 u2 u3 u4 u5 u7 u8 u9 u10 u11 u12 u13 u14 u15 u16 u17 u18 u19 u20 u21 u22 u23 u24 u25 u26 u27 u28 u29 u30 u31 u32 u33 u34 u35 u36 u37 u38 u39 u40 u41 u42 u43 u44 u45 u46 u47 u48 u49 u50 u51 u52 u53 u54 u55 u56 u57 u58 u59 u60 u61 u62 u63 u64 u65 u66 u67 u68 u69 u70 u71 u72 u73 u74 u75 u76 u77 u78 u79 u80 u81 u82 u83 u84 u85 u86 u87 u88 u89 u90 u91 u92 u93 u94 u95 u96 u97 u98 u99 u100 u101 u102 u103 u104 u105 u106 u107 u108 u109 u110 u111 u112 u113 u114 u115 u116 u117 u118 u119 u120 u121 u122 u123:aR)
  (q:dJ W bq #[Y Z z0,Y Z z1,Y Z z2,Y Z z3,Y Z z4,U h1 h2 h3,U g1 g2 g3] 86) (d3:-9223372036854775808<=z3/\z3<=9223372036854775807) (d4:-9223372036854775808<=z4/\z4<=9223372036854775807)
  (hQ:∀ (x:aQ) (bb:Nat) (v46 v47 v48 v49 v50 v51 v52:aR),W.heap.size<=bb->dJ x bb #[Y Z (O z3 0 4),Y Z (O z4 0 2)] 31->Below W.heap.size W x->Q .normal ⟨(u0::u1::u2::u3::u4::u5::ah (aF ⟨bq,0,aH⟩)::u7::ah (aF ⟨bb,0,aH⟩)::u9::u10::u11::u12::u13::u14::u15::u16::u17::u18::u19::u20::u21::u22::u23::u24::u25::u26::u27::u28::u29::u30::u31::u32::u33::u34::u35::u36::u37::u38::u39::u40::u41::u42::u43::u44::u45::v46::v47::v48::v49::v50::v51::v52::u53::u54::u55::u56::u57::u58::u59::u60::u61::u62::u63::u64::u65::u66::u67::u68::u69::u70::u71::u72::u73::u74::u75::u76::u77::u78::u79::u80::u81::u82::u83::u84::u85::u86::u87::u88::u89::u90::u91::u92::u93::u94::u95::u96::u97::u98::u99::u100::u101::u102::u103::u104::u105::u106::u107::u108::u109::u110::u111::u112::u113::u114::u115::u116::u117::u118::u119::u120::u121::u122::u123::[]).toArray,[]⟩ x) :
  Code.wp aJ abR Q ⟨(u0::u1::u2::u3::u4::u5::ah (aF ⟨bq,0,aH⟩)::u7::u8::u9::u10::u11::u12::u13::u14::u15::u16::u17::u18::u19::u20::u21::u22::u23::u24::u25::u26::u27::u28::u29::u30::u31::u32::u33::u34::u35::u36::u37::u38::u39::u40::u41::u42::u43::u44::u45::u46::u47::u48::u49::u50::u51::u52::u53::u54::u55::u56::u57::u58::u59::u60::u61::u62::u63::u64::u65::u66::u67::u68::u69::u70::u71::u72::u73::u74::u75::u76::u77::u78::u79::u80::u81::u82::u83::u84::u85::u86::u87::u88::u89::u90::u91::u92::u93::u94::u95::u96::u97::u98::u99::u100::u101::u102::u103::u104::u105::u106::u107::u108::u109::u110::u111::u112::u113::u114::u115::u116::u117::u118::u119::u120::u121::u122::u123::[]).toArray,[]⟩ W:=by
 have HQ:=L hQ;have HQ6:=L q;have D3:=L d3;have D4:=L d4;clear hQ q d3 d4;unfold abR
 conv=>arg 2; whnf
 have nb6:∀ i,i<9->[46,47,48,49,50,51,52,8,8].getD i 0≠6:=by decide
 refine Rg.Fe 9 7 8 6 (fun i=>[46,47,48,49,50,51,52,8,8].getD i 0) (fun i=>9) (aiL W.heap.size bq z0 z1 z2 z3 z4 h1 h2 h3 g1 g2 g3) 31 #[Y Z 0,Y Z 0] (fun v=>match v with | aU c=>c | _=>#[]) (by kernel_rfl) (by kernel_rfl) rfl (by decide) (by decide) (by decide) (by decide) (by decide) (by decide) (by decide) (fun i j hi hj h1 h2 h=>(by decide:∀ i,i<9->∀ j,j<9->i≠8->j≠8->[46,47,48,49,50,51,52,8,8].getD i 0=[46,47,48,49,50,51,52,8,8].getD j 0->i=j) i hi j hj h1 h2 h) (fun i hi=>(by decide:∀ i,i<9->[46,47,48,49,50,51,52,8,8].getD i 0<124) i hi) ?_ ?_ ?_ ?_ ?_ ?_
 ·intro i v x x' hi h hb;rcases (by omega:i=0\/i=1\/i=2\/i=3\/i=4\/i=5\/i=6\/i=7\/i=8) with rfl|rfl|rfl|rfl|rfl|rfl|rfl|rfl|rfl
  ·exact h
  ·exact h
  ·exact h
  ·exact h
  ·exact h
  ·exact h
  ·exact h
  ·exact h
  ·exact h
 ·intro o ho;cases ho;exact⟨⟨⟨7,.data⟩,by simp,rfl,rfl⟩,⟨⟨6,.data⟩,by simp,rfl,rfl⟩⟩
 ·intro i o hi hiA Az ho a x hb seen K hK;clear HQ;rcases (by omega:i=0\/i=1\/i=2\/i=3\/i=4\/i=5\/i=6) with rfl|rfl|rfl|rfl|rfl|rfl|rfl
  ·cases ho;have e6:a.eval (.tmp 6)=ah (aF ⟨bq,0,aH⟩):=seen.kp 6 _ nb6 rfl;exact Rg.dD rfl rfl (Rg.dW a.eval _ 86 (.tmp 6) 3 rfl (by rw [e6]; simp [go_sem])) (hK _ x rfl (ak _ _))
  ·cases ho;have e46:a.eval (.tmp 46)=ah (aF ⟨bq,3,aH⟩):=seen.at_ ⟨0,.data⟩ (by simp) rfl (by decide) (by decide) (aB (by decide));have y3:=(HQ6.out.on hb).cell 3;simp only [aA,aC,aD] at y3;exact Rg.dD rfl rfl (Rg.dR a.eval _ 3 (.tmp 46) rfl (by rw [e46]; simp [go_sem,y3])) (hK _ x rfl (ak _ _))
  ·cases ho;have e47:a.eval (.tmp 47)=Y Z z3:=seen.at_ ⟨1,.data⟩ (by simp) rfl (by decide) (by decide) (aB (by decide));exact Rg.gL rfl rfl (Rg.AZ a.eval _ (.tmp 47) (.const (Y Z 0)) (.const (Y Z 4)) 3 13 rfl e47 rfl rfl rfl _ (gD aT rfl rfl _ _)) (aW z3 0 4 x (by omega) (by omega) (by omega) D3.out.1 D3.out.2) fun e w1 h=>by
    obtain⟨rfl,rfl⟩:=h;exact⟨_,rfl,hK _ _ rfl (ak _ _)⟩
  ·cases ho;have e6:a.eval (.tmp 6)=ah (aF ⟨bq,0,aH⟩):=seen.kp 6 _ nb6 rfl;exact Rg.dD rfl rfl (Rg.dW a.eval _ 86 (.tmp 6) 4 rfl (by rw [e6]; simp [go_sem])) (hK _ x rfl (ak _ _))
  ·cases ho;have e49:a.eval (.tmp 49)=ah (aF ⟨bq,4,aH⟩):=seen.at_ ⟨3,.data⟩ (by simp) rfl (by decide) (by decide) (aB (by decide));have y4:=(HQ6.out.on hb).cell 4;simp only [aA,aC,aD] at y4;exact Rg.dD rfl rfl (Rg.dR a.eval _ 3 (.tmp 49) rfl (by rw [e49]; simp [go_sem,y4])) (hK _ x rfl (ak _ _))
  ·cases ho;have e50:a.eval (.tmp 50)=Y Z z4:=seen.at_ ⟨4,.data⟩ (by simp) rfl (by decide) (by decide) (aB (by decide));exact Rg.gL rfl rfl (Rg.AZ a.eval _ (.tmp 50) (.const (Y Z 0)) (.const (Y Z 2)) 3 13 rfl e50 rfl rfl rfl _ (gD aT rfl rfl _ _)) (aW z4 0 2 x (by omega) (by omega) (by omega) D4.out.1 D4.out.2) fun e w1 h=>by
    obtain⟨rfl,rfl⟩:=h;exact⟨_,rfl,hK _ _ rfl (ak _ _)⟩
  ·cases ho;have e48:a.eval (.tmp 48)=Y Z (O z3 0 4):=seen.at_ ⟨2,.data⟩ (by simp) rfl (by decide) (by decide) (aB (by decide));have e51:a.eval (.tmp 51)=Y Z (O z4 0 2):=seen.at_ ⟨5,.data⟩ (by simp) rfl (by decide) (by decide) (aB (by decide));exact Rg.dD rfl rfl (Rg.jZ a.eval _ 31 #[(0,.tmp 48),(1,.tmp 51)] rfl (ps:=#[(0,Y Z (O z3 0 4)),(1,Y Z (O z4 0 2))]) (by simp only [List.map_toArray,List.map_cons,List.map_nil,e48,e51]) (by simp [go_sem])) (hK _ x rfl (ak _ _))
 ·intro o ho a x K hK;cases ho;exact Rg.dD rfl rfl (Rg.Jh a.eval _ 31 rfl (by simp [go_sem])) hK
 ·intro o ho a x bb v D hc hD hb hA hC Nj hbb mX K hK;clear HQ;cases ho;have hv:v=aU #[Y Z (O z3 0 4),Y Z (O z4 0 2)]:=Nj;subst hv;obtain⟨x0,x1⟩:=mX.cs2;obtain⟨f0,f1⟩:=mX.fs2;have hst:(Instr.storeAt 31 (ah (aF ⟨bb,0,aH⟩)) (aU #[Y Z (O z3 0 4),Y Z (O z4 0 2)])).run aJ x=.ok () ((x.setCell ⟨bb,0,aH⟩ (Y Z (O z3 0 4))).setCell ⟨bb,1,aH⟩ (Y Z (O z4 0 2))):=by simp [go_sem,x0,x1,f0,f1]
  have af9:=dZ (k:=1) (dZ (k:=0) mX (Y Z (O z3 0 4))) (Y Z (O z4 0 2));refine Rg.fT 31 (.tmp 8) (.tmp 52) rfl rfl rfl rfl hA hC hst (hK _ ((hb.setCell (p:=⟨bb,0,aH⟩) hbb _).setCell (p:=⟨bb,1,aH⟩) hbb _) (by simpa using af9) ?_);exact fun j u hj hjA hjS hdj hnl hls h=>by
   rcases (by omega:j=0\/j=1\/j=2\/j=3\/j=4\/j=5\/j=6) with rfl|rfl|rfl|rfl|rfl|rfl|rfl
   ·have h2:u=ah (aF ⟨bq,3,aH⟩):=h; exact h2
   ·have h2:u=Y Z z3:=h; exact h2
   ·have h2:u=Y Z (O z3 0 4):=h; exact h2
   ·have h2:u=ah (aF ⟨bq,4,aH⟩):=h; exact h2
   ·have h2:u=Y Z z4:=h; exact h2
   ·have h2:u=Y Z (O z4 0 2):=h; exact h2
   ·have h2:u=aU #[Y Z (O z3 0 4),Y Z (O z4 0 2)]:=h; exact h2
 ·intro a x bb v df sz kp gA gC hbb mX Nj hbel ⟨vs,hv⟩;have hv9:v=aU #[Y Z (O z3 0 4),Y Z (O z4 0 2)]:=Nj;subst hv9;have g8:a.tmps[8]?=aF (ah (aF ⟨bb,0,aH⟩)):=gA;have qI:∀ j,(j<8\/53<=j)->a.tmps[j]?=(u0::u1::u2::u3::u4::u5::ah (aF ⟨bq,0,aH⟩)::u7::u8::u9::u10::u11::u12::u13::u14::u15::u16::u17::u18::u19::u20::u21::u22::u23::u24::u25::u26::u27::u28::u29::u30::u31::u32::u33::u34::u35::u36::u37::u38::u39::u40::u41::u42::u43::u44::u45::u46::u47::u48::u49::u50::u51::u52::u53::u54::u55::u56::u57::u58::u59::u60::u61::u62::u63::u64::u65::u66::u67::u68::u69::u70::u71::u72::u73::u74::u75::u76::u77::u78::u79::u80::u81::u82::u83::u84::u85::u86::u87::u88::u89::u90::u91::u92::u93::u94::u95::u96::u97::u98::u99::u100::u101::u102::u103::u104::u105::u106::u107::u108::u109::u110::u111::u112::u113::u114::u115::u116::u117::u118::u119::u120::u121::u122::u123::[])[j]?:=fun j hj=>(kp j (fun i hi h=>by have:=(by decide:∀ i,i<9->8<=[46,47,48,49,50,51,52,8,8].getD i 0/\[46,47,48,49,50,51,52,8,8].getD i 0<53) i hi; omega)).trans aA;obtain⟨mid,hmid,rfl⟩:=Rg.gJ 8 45 df sz (by simp) qI
  match mid,hmid with
  | v8::v9::v10::v11::v12::v13::v14::v15::v16::v17::v18::v19::v20::v21::v22::v23::v24::v25::v26::v27::v28::v29::v30::v31::v32::v33::v34::v35::v36::v37::v38::v39::v40::v41::v42::v43::v44::v45::v46::v47::v48::v49::v50::v51::v52::[],_ =>
   obtain rfl:v8=ah (aF ⟨bb,0,aH⟩):=J g8;obtain rfl:v9=u9:=J (kp 9 (fun i hi h=>(by decide:∀ i,i<9->[46,47,48,49,50,51,52,8,8].getD i 0≠9) i hi h));obtain rfl:v10=u10:=J (kp 10 (fun i hi h=>(by decide:∀ i,i<9->[46,47,48,49,50,51,52,8,8].getD i 0≠10) i hi h));obtain rfl:v11=u11:=J (kp 11 (fun i hi h=>(by decide:∀ i,i<9->[46,47,48,49,50,51,52,8,8].getD i 0≠11) i hi h));obtain rfl:v12=u12:=J (kp 12 (fun i hi h=>(by decide:∀ i,i<9->[46,47,48,49,50,51,52,8,8].getD i 0≠12) i hi h));obtain rfl:v13=u13:=J (kp 13 (fun i hi h=>(by decide:∀ i,i<9->[46,47,48,49,50,51,52,8,8].getD i 0≠13) i hi h));obtain rfl:v14=u14:=J (kp 14 (fun i hi h=>(by decide:∀ i,i<9->[46,47,48,49,50,51,52,8,8].getD i 0≠14) i hi h));obtain rfl:v15=u15:=J (kp 15 (fun i hi h=>(by decide:∀ i,i<9->[46,47,48,49,50,51,52,8,8].getD i 0≠15) i hi h));obtain rfl:v16=u16:=J (kp 16 (fun i hi h=>(by decide:∀ i,i<9->[46,47,48,49,50,51,52,8,8].getD i 0≠16) i hi h));obtain rfl:v17=u17:=J (kp 17 (fun i hi h=>(by decide:∀ i,i<9->[46,47,48,49,50,51,52,8,8].getD i 0≠17) i hi h));obtain rfl:v18=u18:=J (kp 18 (fun i hi h=>(by decide:∀ i,i<9->[46,47,48,49,50,51,52,8,8].getD i 0≠18) i hi h));obtain rfl:v19=u19:=J (kp 19 (fun i hi h=>(by decide:∀ i,i<9->[46,47,48,49,50,51,52,8,8].getD i 0≠19) i hi h));obtain rfl:v20=u20:=J (kp 20 (fun i hi h=>(by decide:∀ i,i<9->[46,47,48,49,50,51,52,8,8].getD i 0≠20) i hi h));obtain rfl:v21=u21:=J (kp 21 (fun i hi h=>(by decide:∀ i,i<9->[46,47,48,49,50,51,52,8,8].getD i 0≠21) i hi h));obtain rfl:v22=u22:=J (kp 22 (fun i hi h=>(by decide:∀ i,i<9->[46,47,48,49,50,51,52,8,8].getD i 0≠22) i hi h));obtain rfl:v23=u23:=J (kp 23 (fun i hi h=>(by decide:∀ i,i<9->[46,47,48,49,50,51,52,8,8].getD i 0≠23) i hi h));obtain rfl:v24=u24:=J (kp 24 (fun i hi h=>(by decide:∀ i,i<9->[46,47,48,49,50,51,52,8,8].getD i 0≠24) i hi h));obtain rfl:v25=u25:=J (kp 25 (fun i hi h=>(by decide:∀ i,i<9->[46,47,48,49,50,51,52,8,8].getD i 0≠25) i hi h));obtain rfl:v26=u26:=J (kp 26 (fun i hi h=>(by decide:∀ i,i<9->[46,47,48,49,50,51,52,8,8].getD i 0≠26) i hi h));obtain rfl:v27=u27:=J (kp 27 (fun i hi h=>(by decide:∀ i,i<9->[46,47,48,49,50,51,52,8,8].getD i 0≠27) i hi h));obtain rfl:v28=u28:=J (kp 28 (fun i hi h=>(by decide:∀ i,i<9->[46,47,48,49,50,51,52,8,8].getD i 0≠28) i hi h));obtain rfl:v29=u29:=J (kp 29 (fun i hi h=>(by decide:∀ i,i<9->[46,47,48,49,50,51,52,8,8].getD i 0≠29) i hi h));obtain rfl:v30=u30:=J (kp 30 (fun i hi h=>(by decide:∀ i,i<9->[46,47,48,49,50,51,52,8,8].getD i 0≠30) i hi h));obtain rfl:v31=u31:=J (kp 31 (fun i hi h=>(by decide:∀ i,i<9->[46,47,48,49,50,51,52,8,8].getD i 0≠31) i hi h));obtain rfl:v32=u32:=J (kp 32 (fun i hi h=>(by decide:∀ i,i<9->[46,47,48,49,50,51,52,8,8].getD i 0≠32) i hi h));obtain rfl:v33=u33:=J (kp 33 (fun i hi h=>(by decide:∀ i,i<9->[46,47,48,49,50,51,52,8,8].getD i 0≠33) i hi h));obtain rfl:v34=u34:=J (kp 34 (fun i hi h=>(by decide:∀ i,i<9->[46,47,48,49,50,51,52,8,8].getD i 0≠34) i hi h));obtain rfl:v35=u35:=J (kp 35 (fun i hi h=>(by decide:∀ i,i<9->[46,47,48,49,50,51,52,8,8].getD i 0≠35) i hi h));obtain rfl:v36=u36:=J (kp 36 (fun i hi h=>(by decide:∀ i,i<9->[46,47,48,49,50,51,52,8,8].getD i 0≠36) i hi h));obtain rfl:v37=u37:=J (kp 37 (fun i hi h=>(by decide:∀ i,i<9->[46,47,48,49,50,51,52,8,8].getD i 0≠37) i hi h));obtain rfl:v38=u38:=J (kp 38 (fun i hi h=>(by decide:∀ i,i<9->[46,47,48,49,50,51,52,8,8].getD i 0≠38) i hi h));obtain rfl:v39=u39:=J (kp 39 (fun i hi h=>(by decide:∀ i,i<9->[46,47,48,49,50,51,52,8,8].getD i 0≠39) i hi h));obtain rfl:v40=u40:=J (kp 40 (fun i hi h=>(by decide:∀ i,i<9->[46,47,48,49,50,51,52,8,8].getD i 0≠40) i hi h));obtain rfl:v41=u41:=J (kp 41 (fun i hi h=>(by decide:∀ i,i<9->[46,47,48,49,50,51,52,8,8].getD i 0≠41) i hi h));obtain rfl:v42=u42:=J (kp 42 (fun i hi h=>(by decide:∀ i,i<9->[46,47,48,49,50,51,52,8,8].getD i 0≠42) i hi h));obtain rfl:v43=u43:=J (kp 43 (fun i hi h=>(by decide:∀ i,i<9->[46,47,48,49,50,51,52,8,8].getD i 0≠43) i hi h));obtain rfl:v44=u44:=J (kp 44 (fun i hi h=>(by decide:∀ i,i<9->[46,47,48,49,50,51,52,8,8].getD i 0≠44) i hi h));obtain rfl:v45=u45:=J (kp 45 (fun i hi h=>(by decide:∀ i,i<9->[46,47,48,49,50,51,52,8,8].getD i 0≠45) i hi h));exact HQ.out x bb _ _ _ _ _ _ _ hbb mX hbel
end Av
end Go.Proofs.YtmklifheakemeaaGreat
