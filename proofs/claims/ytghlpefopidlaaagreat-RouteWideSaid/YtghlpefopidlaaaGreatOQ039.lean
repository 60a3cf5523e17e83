/-
  The document's own M. Conditions as told.
-/
import Derived.Test.YtghlpefopidlaaaGreatOQ037
import Derived.Test.YtghlpefopidlaaaGreatOQ031
import Derived.Test.YtghlpefopidlaaaGreatOQ038
set_option maxRecDepth 100000
set_option maxHeartbeats 64000000
open _root_.Bool renaming false->J
open _root_.Nat renaming le_succ->D,le_refl->K
namespace Go.Proofs.YtghlpefopidlaaaGreat
namespace Rl
open Go.RowKit Go.Sort Pu Rw Pr Va
end Rl
namespace Bk
open Go.RowKit Go.Sort Rw YtghlpefopidlaaaGreat.Nm Pr Rl
def gY (p q:List C5):Bool:=mZ (p.map PS) (q.map PS)
def zI (b:Br) (f:Int) (t x:Id) (p:List C5):Br×List Ou:=if (iA b ⟨t,x,p,f,J⟩).2=J then ((iA b ⟨t,x,p,f,J⟩).1,[]) else
 match b.dG[(fC (b.dG.map Ad.id) t).toNat]? with
 | none=>((iA b ⟨t,x,p,f,J⟩).1,[])
 | some a=>((iA b ⟨t,x,p,f,J⟩).1,[lJ a.par ⟨t,x,p,f,J⟩])
def gD (s:Br×List Ou) (mt:Bool) (e:En) (TN:Int):Br×List Ou:=if mt=J then s else ((iA s.1 e).1,if (iA s.1 e).2=true then s.2++[lJ TN e] else s.2)
theorem Bv {b:Br} {e:En} (R:En->Prop) (h:∀ q∈b.ent,R q) (he:∀ u,R { e with up:=u }):∀ q∈(iA b e).1.ent,R q:=by
 unfold iA
 split
 ·exact h
 ·split
  ·exact h
  ·split
   ·exact h
   ·split
    ·exact h
    ·intro q hq;rcases List.mem_append.1 hq with h1|h1
     ·rcases List.mem_append.1 h1 with h2|h2
      ·exact h q (List.mem_of_mem_take h2)
      ·rw [List.mem_singleton.1 h2];exact he _
     ·exact h q (List.mem_of_mem_drop h1)
theorem Lj (b:Br) (e:En):(iA b e).1.ent.length<=b.ent.length+1:=by
 unfold iA
 split
 ·exact D _
 ·split
  ·exact D _
  ·split
   ·exact D _
   ·split
    ·exact D _
    ·show (eZ _ _ _).length<=_;unfold eZ;rw [List.length_append,List.length_append,List.length_take,List.length_drop];simp;omega
structure JA (b0 b:Br) (k:Nat):Prop where
 me:b.me=b0.me
 near:b.near=b0.near
 dG:b.dG=b0.dG
 seen:b.seen=b0.seen
 own:b.own=b0.own
 len:b.ent.length<=b0.ent.length+k
theorem JA.add {b0 b:Br} {k:Nat} (h:JA b0 b k) (e:En):JA b0 (iA b e).1 (k+1):=by
 obtain⟨h1,h2,h3,h4,h5⟩:=rQ b e;exact⟨h1.trans h.me,h2.trans h.near,h3.trans h.dG,h4.trans h.seen,h5.trans h.own,by have:=Lj b e; have:=h.len; omega⟩
theorem JA.succ {b0 b:Br} {k:Nat} (h:JA b0 b k):JA b0 b (k+1):=⟨h.me,h.near,h.dG,h.seen,h.own,by have:=h.len; omega⟩
theorem JA.step {b0:Br} {s:Br×List Ou} {k:Nat} (h:JA b0 s.1 k) (mt:Bool) (e:En) (t:Int):JA b0 (gD s mt e t).1 (k+1):=by
 unfold gD
 split
 ·exact h.succ
 ·exact h.add e
theorem Ll {s:Br×List Ou} (mt:Bool) (e:En) (t:Int) (R:En->Prop) (h:∀ q∈s.1.ent,R q) (he:∀ u,R { e with up:=u }):∀ q∈(gD s mt e t).1.ent,R q:=by
 unfold gD
 split
 ·exact h
 ·exact Bv R h he
theorem Lm {s:Br×List Ou} (mt:Bool) (e:En) (t:Int):(gD s mt e t).2.length<=s.2.length+1:=by
 unfold gD
 split
 ·exact D _
 ·show (if _ then _ else _:List Ou).length<=_
  split
  ·simp
  ·exact D _
def gP {α:Type} (l:List α) (f:Br×List Ou->α->Br×List Ou) (s0:Br×List Ou) (k:Nat):Br×List Ou:=(l.take k).foldl f s0
theorem kY {α:Type} {l:List α} {k:Nat} {a:α} (f:Br×List Ou->α->Br×List Ou) (s0:Br×List Ou) (h:l[k]?=some a):gP l f s0 (k+1)=f (gP l f s0 k) a:=by
 unfold gP;rw [List.take_add_one,h,List.foldl_append]
 rfl
theorem mI {α:Type} {l:List α} {b0:Br} {o0:List Ou} (mt:α->Bool) (e:α->En) (t:α->Int) (R:En->Prop) (h0:∀ q∈b0.ent,R q) (hR:∀ a∈l,∀ u,R { e a with up:=u }):∀ k,k<=l.length->JA b0 (gP l (fun s a=>gD s (mt a) (e a) (t a)) (b0,o0) k).1 k/\(∀ q∈(gP l (fun s a=>gD s (mt a) (e a) (t a)) (b0,o0) k).1.ent,R q)/\(gP l (fun s a=>gD s (mt a) (e a) (t a)) (b0,o0) k).2.length<=o0.length+k
 | 0,_=>⟨⟨rfl,rfl,rfl,rfl,rfl,K _⟩,h0,K _⟩
 | k+1,hk=>by
  obtain⟨a,ha⟩:∃ a,l[k]?=some a:=⟨_,List.getElem?_eq_getElem hk⟩;obtain⟨h1,h2,h3⟩:=mI mt e t R h0 hR k (by omega) (o0:=o0);rw [kY _ _ ha];exact⟨h1.step _ _ _,Ll _ _ _ R h2 (hR a (List.mem_of_getElem? ha)),Nat.le_trans (Lm _ _ _) (by omega)⟩
def FY (near:List Int) (but kind:Int) (t x:Id) (p:List C5):List Ou:=(near.filter fun n=>n != but).map fun n=>⟨n,kind,t,x,p⟩
abbrev Yw (x:Id) (o:Ow):En:=⟨x,o.id,o.p,-1,J⟩
abbrev Yx (f:Int) (x:Id) (p:List C5) (s:Br×List Ou) (o:Ow):Br×List Ou:=gD s (gY o.p p) (Yw x o) f
def Yy (b:Br) (f:Int) (x:Id) (p:List C5):Br×List Ou:=if (jI b ⟨x,p,f⟩).2=J then ((jI b ⟨x,p,f⟩).1,[]) else
 gP (jI b ⟨x,p,f⟩).1.own (Yx f x p) ((jI b ⟨x,p,f⟩).1,FY b.near f 1 x (0,0) p) (jI b ⟨x,p,f⟩).1.own.length
abbrev iY (x:Id) (p:List C5) (a:Ad):En:=⟨a.id,x,p,-1,J⟩
abbrev jE (x:Id) (p:List C5) (s:Br×List Ou) (a:Ad):Br×List Ou:=gD s (gY p a.p) (iY x p a) a.par
def ownIn (b:Br) (x:Id) (p:List C5):Br:={ b with own:=eZ b.own (gF (b.own.map Ow.id) x) ⟨x,p⟩ }
def eF (b:Br) (x:Id) (p:List C5):Br×List Ou:=if (b.own[gF (b.own.map Ow.id) x]?).map Ow.id=some x then (b,[]) else
 gP b.dG (jE x p) (ownIn b x p,[]) b.dG.length
end Bk
namespace Bk
open Go.RowKit Go.Sort Rw YtghlpefopidlaaaGreat.Nm Pr
open Av
end Bk
end Go.Proofs.YtghlpefopidlaaaGreat
