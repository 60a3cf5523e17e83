/-
  The document's own M. Conditions as told.
-/
import Derived.Test.YtghlpefopidlaaaGreatCQ040
import Derived.Test.YtghlpefopidlaaaGreatCQ036
import Derived.Test.YtghlpefopidlaaaGreatCQ032
set_option maxRecDepth 100000
set_option maxHeartbeats 64000000
open _root_.Bool renaming false->J
open _root_.Nat renaming le_succ->D,le_refl->K
namespace Go.Proofs.YtghlpefopidlaaaGreat
namespace Rl
open Go.RowKit Go.Sort Pu Rw Pr Va
end Rl
namespace Bk
open Go.RowKit Go.Sort Rw YtghlpefopidlaaaGreat.Nm Pr Rl
def pF (p q:List C5):Bool:=uM (p.map Jt) (q.map Jt)
def vP (b:Br) (f:Int) (t x:Id) (p:List C5):Br×List Ou:=if (gM b ⟨t,x,p,f,J⟩).2=J then ((gM b ⟨t,x,p,f,J⟩).1,[]) else
 match b.dP[(eU (b.dP.map Ad.id) t).toNat]? with
 | none=>((gM b ⟨t,x,p,f,J⟩).1,[])
 | some a=>((gM b ⟨t,x,p,f,J⟩).1,[mH a.par ⟨t,x,p,f,J⟩])
def iB (s:Br×List Ou) (mt:Bool) (e:En) (Na:Int):Br×List Ou:=if mt=J then s else ((gM s.1 e).1,if (gM s.1 e).2=true then s.2++[mH Na e] else s.2)
theorem Fp {b:Br} {e:En} (R:En->Prop) (h:∀ q∈b.ent,R q) (he:∀ u,R { e with up:=u }):∀ q∈(gM b e).1.ent,R q:=by
 unfold gM
 split
 ·exact h
 ·split
  ·exact h
  ·split
   ·exact h
   ·split
    ·exact h
    ·intro q hq;rcases List.mem_append.1 hq with h1|h1
     ·rcases List.mem_append.1 h1 with h2|h2
      ·exact h q (List.mem_of_mem_take h2)
      ·rw [List.mem_singleton.1 h2];exact he _
     ·exact h q (List.mem_of_mem_drop h1)
theorem Fq (b:Br) (e:En):(gM b e).1.ent.length<=b.ent.length+1:=by
 unfold gM
 split
 ·exact D _
 ·split
  ·exact D _
  ·split
   ·exact D _
   ·split
    ·exact D _
    ·show (eX _ _ _).length<=_;unfold eX;rw [List.length_append,List.length_append,List.length_take,List.length_drop];simp;omega
structure Fu (b0 b:Br) (k:Nat):Prop where
 me:b.me=b0.me
 near:b.near=b0.near
 dP:b.dP=b0.dP
 seen:b.seen=b0.seen
 own:b.own=b0.own
 len:b.ent.length<=b0.ent.length+k
theorem Fu.add {b0 b:Br} {k:Nat} (h:Fu b0 b k) (e:En):Fu b0 (gM b e).1 (k+1):=by
 obtain⟨h1,h2,h3,h4,h5⟩:=oV b e;exact⟨h1.trans h.me,h2.trans h.near,h3.trans h.dP,h4.trans h.seen,h5.trans h.own,by have:=Fq b e; have:=h.len; omega⟩
theorem Fu.succ {b0 b:Br} {k:Nat} (h:Fu b0 b k):Fu b0 b (k+1):=⟨h.me,h.near,h.dP,h.seen,h.own,by have:=h.len; omega⟩
theorem Fu.step {b0:Br} {s:Br×List Ou} {k:Nat} (h:Fu b0 s.1 k) (mt:Bool) (e:En) (t:Int):Fu b0 (iB s mt e t).1 (k+1):=by
 unfold iB
 split
 ·exact h.succ
 ·exact h.add e
theorem Fv {s:Br×List Ou} (mt:Bool) (e:En) (t:Int) (R:En->Prop) (h:∀ q∈s.1.ent,R q) (he:∀ u,R { e with up:=u }):∀ q∈(iB s mt e t).1.ent,R q:=by
 unfold iB
 split
 ·exact h
 ·exact Fp R h he
theorem Fw {s:Br×List Ou} (mt:Bool) (e:En) (t:Int):(iB s mt e t).2.length<=s.2.length+1:=by
 unfold iB
 split
 ·exact D _
 ·show (if _ then _ else _:List Ou).length<=_
  split
  ·simp
  ·exact D _
def gG {α:Type} (l:List α) (f:Br×List Ou->α->Br×List Ou) (s0:Br×List Ou) (k:Nat):Br×List Ou:=(l.take k).foldl f s0
theorem ny {α:Type} {l:List α} {k:Nat} {a:α} (f:Br×List Ou->α->Br×List Ou) (s0:Br×List Ou) (h:l[k]?=some a):gG l f s0 (k+1)=f (gG l f s0 k) a:=by
 unfold gG;rw [List.take_add_one,h,List.foldl_append]
 rfl
theorem xG {α:Type} {l:List α} {b0:Br} {o0:List Ou} (mt:α->Bool) (e:α->En) (t:α->Int) (R:En->Prop) (h0:∀ q∈b0.ent,R q) (hR:∀ a∈l,∀ u,R { e a with up:=u }):∀ k,k<=l.length->Fu b0 (gG l (fun s a=>iB s (mt a) (e a) (t a)) (b0,o0) k).1 k/\(∀ q∈(gG l (fun s a=>iB s (mt a) (e a) (t a)) (b0,o0) k).1.ent,R q)/\(gG l (fun s a=>iB s (mt a) (e a) (t a)) (b0,o0) k).2.length<=o0.length+k
 | 0,_=>⟨⟨rfl,rfl,rfl,rfl,rfl,K _⟩,h0,K _⟩
 | k+1,hk=>by
  obtain⟨a,ha⟩:∃ a,l[k]?=some a:=⟨_,List.getElem?_eq_getElem hk⟩;obtain⟨h1,h2,h3⟩:=xG mt e t R h0 hR k (by omega) (o0:=o0);rw [ny _ _ ha];exact⟨h1.step _ _ _,Fv _ _ _ R h2 (hR a (List.mem_of_getElem? ha)),Nat.le_trans (Fw _ _ _) (by omega)⟩
abbrev ou (x:Id) (p:List C5) (a:Ad):En:=⟨a.id,x,p,-1,J⟩
abbrev jG (x:Id) (p:List C5) (s:Br×List Ou) (a:Ad):Br×List Ou:=iB s (pF p a.p) (ou x p a) a.par
def ownIn (b:Br) (x:Id) (p:List C5):Br:={ b with own:=eX b.own (gy (b.own.map Ow.id) x) ⟨x,p⟩ }
def um (b:Br) (x:Id) (p:List C5):Br×List Ou:=if (b.own[gy (b.own.map Ow.id) x]?).map Ow.id=some x then (b,[]) else
 gG b.dP (jG x p) (ownIn b x p,[]) b.dP.length
end Bk
namespace Bk
open Go.RowKit Go.Sort Rw YtghlpefopidlaaaGreat.Nm Pr
open Av
end Bk
end Go.Proofs.YtghlpefopidlaaaGreat
