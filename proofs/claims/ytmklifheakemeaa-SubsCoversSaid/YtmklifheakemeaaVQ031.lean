/-
  Right of package adv. Conditions as told.
-/
import Derived.Test.YtmklifheakemeaaVQ030
set_option maxRecDepth 100000
set_option maxHeartbeats 64000000
open _root_.List renaming mem_append->D
open _root_.Or renaming inl->J,inr->K
namespace Go.Proofs.Ytmklifheakemeaa.Av
open Go.RowKit Go.Sort Rw Ytmklifheakemeaa.Nm Pr Bk
abbrev rF (a b:En):Int:=Eh (kY a.tree b.tree) (kY a.sub b.sub)
theorem nY (a b:En):rF a b<0↔(dW a.tree b.tree=true\/(a.tree=b.tree/\dW a.sub b.sub=true)):=by
 unfold rF Eh;by_cases h:kY a.tree b.tree=0
 ·rw [if_pos h,pO];have e:=(nV _ _).1 h;constructor
  ·exact fun q=>K ⟨e,q⟩
  ·rintro (q|⟨_,q⟩)
   ·rw [e,lG] at q; cases q
   ·exact q
 ·rw [if_neg h,pO];constructor
  ·exact J
  ·rintro (q|⟨q,_⟩)
   ·exact q
   ·exact absurd ((nV _ _).2 q) h
theorem AO (x y z:En) (h1:rF x y<0) (h2:rF y z<0):rF x z<0:=by
 rw [nY] at *;rcases h1 with h1|⟨e1,h1⟩ <;> rcases h2 with h2|⟨e2,h2⟩
 ·exact J (gV h1 h2)
 ·exact J (by rw [<- e2]; exact h1)
 ·exact J (by rw [e1]; exact h2)
 ·exact K ⟨e1.trans e2,gV h1 h2⟩
structure yD (b:Br):Prop where
 near:b.near.Pairwise (·<·)
 seen:Gm b.seen
 fI:Ce b.fI
 ent:b.ent.Pairwise fun x y=>rF x y<0
 own:mo Ow.id b.own
 oks:∀ a∈b.fI,a.id∈b.seen/\wN b.near a.par=true/\Wr.jJ a.p=true
 OZ:∀ e∈b.ent,yC b e=true
 SY:∀ o∈b.own,Wr.jJ o.p=true
theorem nZ {α:Type} (l:List α) (k:Nat) (x y:α):y∈fP l k x↔y=x\/y∈l:=by
 unfold fP;rw [D,D,List.mem_singleton]
 conv=>rhs; rw [<- List.take_append_drop k l,D]
 constructor
 ·rintro ((h|h)|h)
  ·exact K (J h)
  ·exact J h
  ·exact K (K h)
 ·rintro (h|h|h)
  ·exact J (K h)
  ·exact J (J h)
  ·exact K h
theorem oO {l:List Ad} (hr:Ce l) {a:Ad} (ha:a∈l):fT l a.id=some a:=by
 obtain⟨k,hk⟩:=List.mem_iff_getElem?.1 ha;refine pQ hk rfl fun j z hj hz e=>?_;have:=mX hr hj hz hk;rw [e,lG] at this;cases this
theorem Jc {b c:Br} {e:En} (hn:c.near=b.near) (hf:fT c.fI e.tree=fT b.fI e.tree) (h:yC b e=true):yC c e=true:=by
 unfold yC at *;rw [hf,hn];exact h
end Go.Proofs.Ytmklifheakemeaa.Av
