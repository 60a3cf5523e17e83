/-
  drop and OnUnsub of . Conditions as told.
-/
import Derived.Test.YtghlpefopidlaaaGreatBQ027
set_option maxRecDepth 100000
set_option maxHeartbeats 64000000
open _root_.List renaming length_append->D,getElem?_eq_getElem->J
namespace Go.Proofs.YtghlpefopidlaaaGreat.Bk
open Go.RowKit Go.Sort Rw YtghlpefopidlaaaGreat.Nm Pr
theorem qg {W W':World} {k:Nat} {me:Int} {s1 s2 s3 s4 s5:Sl} {s:Sl} {m:List Ou} (h:lM W s m) (hb:dG W k (nV me s1 s2 s3 s4 s5) 30) (hk:∀ j,j<W.heap.size->j≠k->W'.heap[j]?=W.heap[j]?):lM W' s m:=by
 obtain⟨xs,h1,h2⟩:=h;exact⟨xs,jh Pq h1 hk (oZ hb (fun c=>⟨_,_,rfl,rfl⟩) (rC me s1 s2 s3 s4 s5)),h2.mono fun x a hx=>⟨hx.1,hx.2.1,hx.2.2.1,hx.2.2.2.1,jh qZ hx.2.2.2.2.1 hk (rA hb (rD me s1 s2 s3 s4 s5)),hx.2.2.2.2.2⟩⟩
theorem iM (b:Br) (t x:Id) (f:Int):(gW b t x f).1=(takeB b t x f).1:=by
 unfold gW
 split
 ·rfl
 ·split <;> rfl
theorem Dh {α:Type} {E:Ek α} (K:E.Ok) {w:World} (B:Nat) {v x:Value} {l m:List α} (hown:Own E w B v l) (hx:Row E w x m) (hn:l.length<=1000000) (hm:m.length<=1000000) (hB:B<=w.heap.size) (ty:TypeId) :
  ∃ v' w',(Builtin.append_ #[E.ts,E.ts] ty #[v,x]).run Tryz.prog w=.ok v' w'/\Own E w' B v' (l++m)/\w.grownBy w' v.ownBlock:=by
 obtain⟨i,i1,i2,i3,i4⟩:=K.info;rcases hx with⟨rfl,rfl⟩|⟨ad,c,rfl,h2,h3,h4⟩
 ·exact⟨v,w,run_append_owned_none (P:=Tryz.prog) (w:=w) B E.ts ty E.t i E.n K.hu i1 v _ _ hown,by simpa using hown,nP _ _⟩
 ·have hf:=K.few;obtain⟨v',w',r1,r2,r3,_⟩:=run_append_own (P:=Tryz.prog) w B E.ts ty E.t i E.z E.n E.bytes K.hu i1 i2 i3 i4 K.zs K.pos v _ _ hown ad m.length c (flat E m) (dJ K m) h4 (jU K m) (by unfold maxLen; omega)
   (Nat.le_trans (Nat.mul_le_mul (show l.length+m.length<=2000000 by omega) hf) (by decide)) hB
  exact⟨v',w',r1,by rw [Own,D,fC]; exact r2,r3⟩
theorem tq {b:Br} (t x:Id) (f:Int) (R:En->Prop) (hR:∀ e,e.tree=t->R e->R (sP e)) (h:∀ e∈b.ent,R e):(∀ e∈(takeB b t x f).1.ent,R e)/\∀ e∈(takeB b t x f).2.1,R e:=by
 unfold takeB
 split
 ·exact⟨h,fun e he=>by simp at he⟩
 ·split
  ·exact⟨h,fun e he=>by simp at he⟩
  ·split
   ·exact⟨h,fun e he=>by simp at he⟩
   ·split
    ·exact⟨fun e he=>h e (qc he),fun e he=>by simp at he⟩
    ·exact sQ R hR (fun e he=>h e (qc he)) _
theorem zi (b:Br) (t x:Id) (f:Int):(gW b t x f).2.length<=b.ent.length+1:=by
 unfold gW;have h:=(lG b t x f).2
 split
 ·simp
 ·split
  ·simp
  ·rw [D,List.length_map];simp;omega
def nH (x:Id) (s:Br×List Ou) (t:Id):Br×List Ou:=((gW s.1 t x (-1)).1,s.2++(gW s.1 t x (-1)).2)
def jP (b:Br) (x:Id):List Ow:=b.own.filter fun o=>decide (o.id≠x)
def gy (b:Br) (x:Id) (k:Nat):Br×List Ou:=((b.dW.map Ad.id).take k).foldl (nH x) ({ b with own:=jP b x },[])
def fB (b:Br) (x:Id):Br×List Ou:=if (jP b x).length=b.own.length then (b,[]) else gy b x b.dW.length
theorem jC (b:Br) (x:Id) {k:Nat} {a:Ad} (h:b.dW[k]?=some a):gy b x (k+1)=nH x (gy b x k) a.id:=by
 unfold gy;rw [List.take_add_one,List.getElem?_map,h,List.foldl_append]
 rfl
structure VD (b0 b:Br) (o:List Ow):Prop where
 me:b.me=b0.me
 near:b.near=b0.near
 dW:b.dW=b0.dW
 seen:b.seen=b0.seen
 own:b.own=o
 len:b.ent.length<=b0.ent.length
theorem VD.drop {b0 b:Br} {o:List Ow} (h:VD b0 b o) (t x:Id) (f:Int):VD b0 (gW b t x f).1 o:=by
 rw [iM];obtain⟨h1,h2,h3,h4,h5⟩:=lF b t x f;exact⟨h3.trans h.me,h2.trans h.near,h1.trans h.dW,h4.trans h.seen,h5.trans h.own,Nat.le_trans (lG b t x f).1 h.len⟩
theorem nI (b:Br) (x:Id):∀ k,k<=b.dW.length->VD b (gy b x k).1 (jP b x)/\(gy b x k).2.length<=k * (b.ent.length+1)
 | 0,_=>⟨⟨rfl,rfl,rfl,rfl,rfl,Nat.le_refl _⟩,by simp [gy]⟩
 | k+1,hk=>by
  obtain⟨a,ha⟩:∃ a,b.dW[k]?=some a:=⟨_,J hk⟩;obtain⟨h1,h2⟩:=nI b x k (by omega);rw [jC b x ha];refine⟨h1.drop _ _ _,?_⟩;show ((gy b x k).2++(gW (gy b x k).1 a.id x (-1)).2).length<=_;have h3:=zi (gy b x k).1 a.id x (-1);have h4:=h1.len;rw [D,Nat.add_mul];omega
theorem wB (b:Br) (x:Id) (R:En->Prop) (hR:∀ e,R e->R (sP e)) (h:∀ e∈b.ent,R e):∀ k,k<=b.dW.length->∀ e∈(gy b x k).1.ent,R e
 | 0,_=>h
 | k+1,hk=>by
  obtain⟨a,ha⟩:∃ a,b.dW[k]?=some a:=⟨_,J hk⟩;rw [jC b x ha];show ∀ e∈(gW _ _ _ _).1.ent,R e;rw [iM];exact (tq _ _ _ R (fun e _=>hR e) (wB b x R hR h k (by omega))).1
end Go.Proofs.YtghlpefopidlaaaGreat.Bk
