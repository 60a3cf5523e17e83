/-
  Covered of broadside. Conditions as told.
-/
import Derived.Test.YtghlpefopidlaaaGreatCQ028
import Derived.Test.YtghlpefopidlaaaGreatCQ020
import Derived.Test.YtghlpefopidlaaaGreatCQ017
set_option maxRecDepth 100000
set_option maxHeartbeats 64000000
open _root_.Bool renaming false->J,true->K
open Go.Obj renaming cells->D
namespace Go.Proofs.YtghlpefopidlaaaGreat
namespace Bk
open Go.RowKit Rw YtghlpefopidlaaaGreat.Nm Pr Rl
def Jt (c:C5):Cn:=(c.1,if c.2.1=1 then .rg c.2.2.1 c.2.2.2.1 else if c.2.1=2 then .tx c.2.2.2.2 else .pr c.2.2.2.2)
theorem KR (c:Cn):Jt (r5 c)=c:=by
 obtain⟨n,k⟩:=c;cases k <;> simp [Jt,r5,kN,mI,mJ,kT]
theorem qp (a:List Cn):(a.map r5).map Jt=a:=by
 rw [List.map_map];have h:Jt∘r5=id:=funext KR;rw [h,List.map_id]
def eD (p:List C5):Prop:=∃ a:List Cn,NF a/\p=a.map r5
def lW (p q:List C5):Bool:=nR (p.map Jt) (q.map Jt)
def Im (t:Id) (p:List C5) (e:En):Bool:=decide (e.tree=t) && (e.up && lW e.p p)
def gK (m:List En) (t:Id) (p:List C5):Bool:=m.any (Im t p)
end Bk
namespace Bk
open Go.RowKit Go.Sort Rw YtghlpefopidlaaaGreat.Nm Pr
def gF (a b:Id×Id):Bool:=dB a.1 b.1 || (PX a.1 b.1 && dB a.2 b.2)
def dO (l:List (Id×Id)) (x:Id×Id):Nat:=(l.takeWhile fun a=>gF a x).length
abbrev dJ (e:En):Id×Id:=(e.tree,e.sub)
def gM (b:Br) (e:En):Br×Bool:=match b.dP[(eU (b.dP.map Ad.id) e.tree).toNat]? with
 | none=>(b,J)
 | some a=>if eU (b.dP.map Ad.id) e.tree=-1 then (b,J) else if gD (b.ent.map dJ) (dJ e)≠-1 then (b,J) else if e.from_≠-1/\e.from_=a.par then (b,J) else
  ({ b with ent:=eX b.ent (dO (b.ent.map dJ) (dJ e)) { e with up:=decide (a.par≠-1) && !gK b.ent e.tree e.p } },decide (a.par≠-1) && !gK b.ent e.tree e.p)
theorem oV (b:Br) (e:En):(gM b e).1.me=b.me/\(gM b e).1.near=b.near/\(gM b e).1.dP=b.dP/\(gM b e).1.seen=b.seen/\(gM b e).1.own=b.own:=by
 unfold gM
 split
 ·exact⟨rfl,rfl,rfl,rfl,rfl⟩
 ·split
  ·exact⟨rfl,rfl,rfl,rfl,rfl⟩
  ·split
   ·exact⟨rfl,rfl,rfl,rfl,rfl⟩
   ·split <;> exact⟨rfl,rfl,rfl,rfl,rfl⟩
end Bk
namespace Bk
open Go.RowKit Go.Sort Rw YtghlpefopidlaaaGreat.Nm Pr
open Av
def wW (e:En):En:={ e with up:=K }
def ig (t:Id) (s:List En×List En) (k:Nat):List En×List En:=match s.1[k]? with
 | none=>s
 | some e=>if e.tree=t/\e.up=J/\gK s.1 t e.p=J then (s.1.set k (wW e),s.2++[wW e]) else s
def iR (t:Id) (m:List En) (k:Nat):List En×List En:=(List.range k).foldl (ig t) (m,[])
def takeB (b:Br) (t s:Id) (f:Int):Br×List En×Bool:=match b.ent[(gD (b.ent.map dJ) (t,s)).toNat]? with
 | none=>(b,[],J)
 | some e=>if gD (b.ent.map dJ) (t,s)=-1 then (b,[],J) else if e.from_≠f then (b,[],J) else
  if e.up=J then ({ b with ent:=cutAt b.ent (gD (b.ent.map dJ) (t,s)).toNat },[],J) else
  ({ b with ent:=(iR t (cutAt b.ent (gD (b.ent.map dJ) (t,s)).toNat) (cutAt b.ent (gD (b.ent.map dJ) (t,s)).toNat).length).1 },(iR t (cutAt b.ent (gD (b.ent.map dJ) (t,s)).toNat) (cutAt b.ent (gD (b.ent.map dJ) (t,s)).toNat).length).2,K)
theorem iY (t:Id) (m:List En) (k:Nat):iR t m (k+1)=ig t (iR t m k) k:=by
 simp [iR,List.range_succ]
theorem vF (t:Id) (s:List En×List En) (k:Nat):(ig t s k).1.length=s.1.length/\(ig t s k).2.length<=s.2.length+1:=by
 unfold ig
 split
 ·exact⟨rfl,Nat.le_succ _⟩
 ·split
  ·simp
  ·exact⟨rfl,Nat.le_succ _⟩
theorem tN (t:Id) (m:List En):∀ k,(iR t m k).1.length=m.length/\(iR t m k).2.length<=k
 | 0=>⟨rfl,Nat.le_refl _⟩
 | k+1=>by
  rw [iY];have h1:=tN t m k;have h2:=vF t (iR t m k) k;omega
theorem wX:∀ (l:List iw) (k:Nat) (x:iw),l[k]?=some x->flat EN (l.set k (x.1,x.2.1,x.2.2.1,x.2.2.2.1,x.2.2.2.2.1,x.2.2.2.2.2.1,K))=(flat EN l).set (k * 7+6) (.bool K)
 | [],k,x,h=>by simp at h
 | y::r,0,x,h=>by
  obtain rfl:y=x:=by simpa using h
  rfl
 | y::r,k+1,x,h=>by
  have ih:=wX r k x (by simpa using h);rw [show (k+1) * 7+6=(k * 7+6)+1+1+1+1+1+1+1 by omega];simp only [List.set_cons_succ,flat,EN,gu,List.cons_append,List.nil_append] at ih ⊢;rw [ih]
theorem Io {w:World} {B g n cap k:Nat} {l:List iw} {x:iw} (h:iO w B (.slice (some ⟨g,0,none⟩) n cap) l) (hk:l[k]?=some x) :
  iO (w.setCell ⟨g,k * 7+6,none⟩ (.bool K)) B (.slice (some ⟨g,0,none⟩) n cap) (l.set k (x.1,x.2.1,x.2.2.1,x.2.2.2.1,x.2.2.2.2.1,x.2.2.2.2.2.1,K))/\w.cell? ⟨g,k * 7+6,none⟩=some (.bool x.2.2.2.2.2.2)/\w.frozen? ⟨g,k * 7+6,none⟩=J:=by
 have c:=gI jI h hk w (Below.refl _ _);have c6:=c 6 _ rfl;simp [Addr.add,EN] at c6;obtain⟨cur,hb⟩:=fP h;obtain⟨ao,c',hv⟩:=(Row.dx h).len;obtain⟨_,rfl,_⟩:some ⟨g,0,none⟩=ao/\n=l.length/\cap=c':=by simpa using hv
 have h:w.ownsRow B 67 7 (.slice (some ⟨g,0,none⟩) l.length cap) l.length (flat EN l):=h;have t1:=(h.stored (k * 7+6) (.bool K)).1;refine⟨?_,c6,hb.fr _⟩;have e:=wX l k x hk;show World.ownsRow _ B 67 7 _ (List.length _) (flat EN _);rw [e,List.length_set];exact t1
theorem dV.set2 {α β:Type} {R:α->β->Prop}:∀ {l:List α} {m:List β} (k:Nat) {a:α} {b:β},dV R l m->R a b->dV R (l.set k a) (m.set k b)
 | _,_,_,_,_,.nil,_=>.nil
 | _,_,0,_,_,.cons _ t,hr=>.cons hr t
 | _,_,k+1,_,_,.cons x t,hr=>.cons x (dV.set2 k t hr)
theorem wY (w:World) (c d e f:Array Value) (r s t u:TypeId):Below w.heap.size w ((((w.alloc (D c r)).alloc (D d s)).alloc (D e t)).alloc (D f u))/\cZ ((((w.alloc (D c r)).alloc (D d s)).alloc (D e t)).alloc (D f u)) w.heap.size c r/\cZ ((((w.alloc (D c r)).alloc (D d s)).alloc (D e t)).alloc (D f u)) (w.heap.size+1) d s/\cZ ((((w.alloc (D c r)).alloc (D d s)).alloc (D e t)).alloc (D f u)) (w.heap.size+1+1) e t/\cZ ((((w.alloc (D c r)).alloc (D d s)).alloc (D e t)).alloc (D f u)) (w.heap.size+1+1+1) f u:=by
 obtain⟨h0,h1,h2,h3⟩:=iA w c d e r s t;refine⟨h0.alloc h0.size _,h1.more _,h2.more _,h3.more _,?_⟩;have h:=dG (((w.alloc (D c r)).alloc (D d s)).alloc (D e t)) f u;have e2:(((w.alloc (D c r)).alloc (D d s)).alloc (D e t)).heap.size=w.heap.size+1+1+1:=by simp
 rw [e2] at h;exact h
end Bk
end Go.Proofs.YtghlpefopidlaaaGreat
