/-
  The document's own M. Conditions as told.
-/
import Derived.Test.YtghlpefopidlaaaGreatBQ036
import Derived.Test.YtghlpefopidlaaaGreatBQ028
import Derived.Test.YtghlpefopidlaaaGreatBQ030
set_option maxRecDepth 100000
set_option maxHeartbeats 64000000
open _root_.Bool renaming false->J
open _root_.Nat renaming le_succ->D,le_refl->K
namespace Go.Proofs.YtghlpefopidlaaaGreat
namespace Rl
open Go.RowKit Go.Sort Pu Rw Pr Va
end Rl
namespace Bk
open Go.RowKit Go.Sort Rw YtghlpefopidlaaaGreat.Nm Pr Rl
def jQ (p q:List C5):Bool:=nR (p.map Rz) (q.map Rz)
def iG (b:Br) (f:Int) (t x:Id) (p:List C5):Br×List Ou:=if (gY b ⟨t,x,p,f,J⟩).2=J then ((gY b ⟨t,x,p,f,J⟩).1,[]) else
 match b.dW[(fH (b.dW.map Ad.id) t).toNat]? with
 | none=>((gY b ⟨t,x,p,f,J⟩).1,[])
 | some a=>((gY b ⟨t,x,p,f,J⟩).1,[mU a.par ⟨t,x,p,f,J⟩])
theorem ko (b:Br) (f:Int) (t x:Id) (p:List C5):(iG b f t x p).1=(gY b ⟨t,x,p,f,J⟩).1:=by
 unfold iG
 split
 ·rfl
 ·split <;> rfl
def gH (s:Br×List Ou) (mt:Bool) (e:En) (Um:Int):Br×List Ou:=if mt=J then s else ((gY s.1 e).1,if (gY s.1 e).2=true then s.2++[mU Um e] else s.2)
theorem Dk {b:Br} {e:En} (R:En->Prop) (h:∀ q∈b.ent,R q) (he:∀ u,R { e with up:=u }):∀ q∈(gY b e).1.ent,R q:=by
 unfold gY
 split
 ·exact h
 ·split
  ·exact h
  ·split
   ·exact h
   ·split
    ·exact h
    ·intro q hq;rcases List.mem_append.1 hq with h1|h1
     ·rcases List.mem_append.1 h1 with h2|h2
      ·exact h q (List.mem_of_mem_take h2)
      ·rw [List.mem_singleton.1 h2];exact he _
     ·exact h q (List.mem_of_mem_drop h1)
theorem Dl (b:Br) (e:En):(gY b e).1.ent.length<=b.ent.length+1:=by
 unfold gY
 split
 ·exact D _
 ·split
  ·exact D _
  ·split
   ·exact D _
   ·split
    ·exact D _
    ·show (eY _ _ _).length<=_;unfold eY;rw [List.length_append,List.length_append,List.length_take,List.length_drop];simp;omega
structure M9 (b0 b:Br) (k:Nat):Prop where
 me:b.me=b0.me
 near:b.near=b0.near
 dW:b.dW=b0.dW
 seen:b.seen=b0.seen
 own:b.own=b0.own
 len:b.ent.length<=b0.ent.length+k
theorem M9.add {b0 b:Br} {k:Nat} (h:M9 b0 b k) (e:En):M9 b0 (gY b e).1 (k+1):=by
 obtain⟨h1,h2,h3,h4,h5⟩:=lC b e;exact⟨h1.trans h.me,h2.trans h.near,h3.trans h.dW,h4.trans h.seen,h5.trans h.own,by have:=Dl b e; have:=h.len; omega⟩
theorem M9.succ {b0 b:Br} {k:Nat} (h:M9 b0 b k):M9 b0 b (k+1):=⟨h.me,h.near,h.dW,h.seen,h.own,by have:=h.len; omega⟩
theorem M9.step {b0:Br} {s:Br×List Ou} {k:Nat} (h:M9 b0 s.1 k) (mt:Bool) (e:En) (t:Int):M9 b0 (gH s mt e t).1 (k+1):=by
 unfold gH
 split
 ·exact h.succ
 ·exact h.add e
theorem Na {s:Br×List Ou} (mt:Bool) (e:En) (t:Int) (R:En->Prop) (h:∀ q∈s.1.ent,R q) (he:∀ u,R { e with up:=u }):∀ q∈(gH s mt e t).1.ent,R q:=by
 unfold gH
 split
 ·exact h
 ·exact Dk R h he
theorem Nb {s:Br×List Ou} (mt:Bool) (e:En) (t:Int):(gH s mt e t).2.length<=s.2.length+1:=by
 unfold gH
 split
 ·exact D _
 ·show (if _ then _ else _:List Ou).length<=_
  split
  ·simp
  ·exact D _
def iy {α:Type} (l:List α) (f:Br×List Ou->α->Br×List Ou) (s0:Br×List Ou) (k:Nat):Br×List Ou:=(l.take k).foldl f s0
theorem om {α:Type} {l:List α} {k:Nat} {a:α} (f:Br×List Ou->α->Br×List Ou) (s0:Br×List Ou) (h:l[k]?=some a):iy l f s0 (k+1)=f (iy l f s0 k) a:=by
 unfold iy;rw [List.take_add_one,h,List.foldl_append]
 rfl
theorem pF {α:Type} {l:List α} {b0:Br} {o0:List Ou} (mt:α->Bool) (e:α->En) (t:α->Int) (R:En->Prop) (h0:∀ q∈b0.ent,R q) (hR:∀ a∈l,∀ u,R { e a with up:=u }):∀ k,k<=l.length->M9 b0 (iy l (fun s a=>gH s (mt a) (e a) (t a)) (b0,o0) k).1 k/\(∀ q∈(iy l (fun s a=>gH s (mt a) (e a) (t a)) (b0,o0) k).1.ent,R q)/\(iy l (fun s a=>gH s (mt a) (e a) (t a)) (b0,o0) k).2.length<=o0.length+k
 | 0,_=>⟨⟨rfl,rfl,rfl,rfl,rfl,K _⟩,h0,K _⟩
 | k+1,hk=>by
  obtain⟨a,ha⟩:∃ a,l[k]?=some a:=⟨_,List.getElem?_eq_getElem hk⟩;obtain⟨h1,h2,h3⟩:=pF mt e t R h0 hR k (by omega) (o0:=o0);rw [om _ _ ha];exact⟨h1.step _ _ _,Na _ _ _ R h2 (hR a (List.mem_of_getElem? ha)),Nat.le_trans (Nb _ _ _) (by omega)⟩
def Hw (near:List Int) (but kind:Int) (t x:Id) (p:List C5):List Ou:=(near.filter fun n=>n != but).map fun n=>⟨n,kind,t,x,p⟩
abbrev aav (x:Id) (o:Ow):En:=⟨x,o.id,o.p,-1,J⟩
abbrev aaw (f:Int) (x:Id) (p:List C5) (s:Br×List Ou) (o:Ow):Br×List Ou:=gH s (jQ o.p p) (aav x o) f
def aax (b:Br) (f:Int) (x:Id) (p:List C5):Br×List Ou:=if (jX b ⟨x,p,f⟩).2=J then ((jX b ⟨x,p,f⟩).1,[]) else
 iy (jX b ⟨x,p,f⟩).1.own (aaw f x p) ((jX b ⟨x,p,f⟩).1,Hw b.near f 1 x (0,0) p) (jX b ⟨x,p,f⟩).1.own.length
abbrev nJ (x:Id) (p:List C5) (a:Ad):En:=⟨a.id,x,p,-1,J⟩
abbrev kQ (x:Id) (p:List C5) (s:Br×List Ou) (a:Ad):Br×List Ou:=gH s (jQ p a.p) (nJ x p a) a.par
def ownIn (b:Br) (x:Id) (p:List C5):Br:={ b with own:=eY b.own (gQ (b.own.map Ow.id) x) ⟨x,p⟩ }
def iX (b:Br) (x:Id) (p:List C5):Br×List Ou:=if (b.own[gQ (b.own.map Ow.id) x]?).map Ow.id=some x then (b,[]) else
 iy b.dW (kQ x p) (ownIn b x p,[]) b.dW.length
end Bk
namespace Bk
open Go.RowKit Go.Sort Rw YtghlpefopidlaaaGreat.Nm Pr
open Av
end Bk
end Go.Proofs.YtghlpefopidlaaaGreat
