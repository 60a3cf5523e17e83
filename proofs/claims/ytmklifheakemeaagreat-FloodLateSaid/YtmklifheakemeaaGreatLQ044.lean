/-
  broadsidekeep.Broker. Conditions as told.
-/
import Derived.Test.YtmklifheakemeaaGreatLQ042
set_option maxRecDepth 100000
set_option maxHeartbeats 64000000
open List.Pairwise renaming nil->J
open _root_.Nat renaming le_trans->D,le_refl->K
namespace Go.Proofs.YtmklifheakemeaaGreat.Av
open Go.RowKit Go.Sort Rw YtmklifheakemeaaGreat.Nm Pr Bk
def KM (t:fB) (b c:Br):Prop:=c.me=b.me/\c.near=b.near/\∀ x∈c.seen,x∈b.seen\/x=t
theorem FI (b:Br) (a:Ad):∀ y∈(eO b a).1.seen,y∈b.seen\/y=a.id:=by
 unfold eO
 split
 ·exact fun y hy=>Or.inl hy
 ·exact fun y hy=>((gY _ _ _ _).1 hy).symm
theorem Wn (b:Br) (f:Int) (x:fB) (p:List C5):KM x b (fD b f x p).1:=by
 obtain⟨m1,m2,_,_⟩:=kH b ⟨x,p,f⟩;have m5:=FI b ⟨x,p,f⟩;unfold fD
 split
 ·exact⟨m1,m2,m5⟩
 ·have q:=(kS (l:=(eO b ⟨x,p,f⟩).1.own) (b0:=(eO b ⟨x,p,f⟩).1) (o0:=gJ b.near f 1 x (0,0) p) (fun o=>fJ o.p p) (fun o=>mV x o) (fun _=>f) (fun _=>True) (fun _ _=>trivial) (fun _ _ _=>trivial) _ (K _)).1;exact⟨(show (dU _ (iV f x p) _ _).1.me=_ from q.me).trans m1,(show (dU _ (iV f x p) _ _).1.near=_ from q.near).trans m2,by rw [show (dU _ (iV f x p) _ _).1.seen=_ from q.seen]; exact m5⟩
theorem Rt (t:fB) (b:Br) (x:fB) (p:List C5):KM t b (iE b x p).1:=by
 unfold iE
 split
 ·exact⟨rfl,rfl,fun _ h=>Or.inl h⟩
 ·have q:=(kS (l:=b.dV) (b0:=ownIn b x p) (o0:=[]) (fun a=>fJ p a.p) (fun a=>lI x p a) (fun a=>a.par) (fun _=>True) (fun _ _=>trivial) (fun _ _ _=>trivial) _ (K _)).1;exact⟨(show (dU _ (iN x p) _ _).1.me=_ from q.me),(show (dU _ (iN x p) _ _).1.near=_ from q.near),by rw [show (dU _ (iN x p) _ _).1.seen=_ from q.seen]; exact fun _ h=>Or.inl h⟩
def xu (k:Nat):List Int:=(List.range k).map fun (j:Nat)=>(j:Int)+1
theorem FJ (k:Nat):xu (k+1)=xu k++[(k:Int)+1]:=by simp [xu,List.range_succ]
theorem Km (k:Nat):(xu k).length=k:=by simp [xu]
theorem xA:∀ k,(xu k).Pairwise (·<·)
 | 0=>J
 | k+1=>by
  rw [FJ,List.pairwise_append];refine⟨xA k,by simp,fun a ha b hb=>?_⟩;rw [List.mem_singleton.1 hb];obtain⟨j,hj,rfl⟩:=List.mem_map.1 ha;have:=List.mem_range.1 hj;omega
theorem Wo (k:Nat) (hk:k<=4):KI 0 ⟨0,xu k,[],[],[],[]⟩ :=
 ⟨⟨xA k,J,J,J,J,fun a h=>by simp at h,fun a h=>by simp at h,fun a h=>by simp at h⟩,fun a h=>by simp at h,fun a h=>by simp at h,fun a h=>by simp at h,by rw [Km]; exact hk,K _,K _,K _,K _⟩
theorem rO (has vals:List Int):dW ((fZ has vals 7).map r5):=⟨_,Lx has vals,rfl⟩
theorem iC {p:List C5} (h:dW p):p.length<=5:=by
 obtain⟨a,na,rfl⟩:=h;rw [List.length_map];exact na.five
theorem KI.few {b:Br} (h:KI 12 b):Kn b:=⟨D h.ln (by decide),D h.la (by decide),D h.ls (by decide),D h.le (by decide),D h.lo (by decide)⟩
theorem KI.pX {b:Br} (h:KI 12 b):uF b:=⟨fun a q=>D (iC (h.pa a q)) (by decide),fun a q=>D (iC (h.pe a q)) (by decide),fun a q=>D (iC (h.po a q)) (by decide)⟩
abbrev z5:C5:=(⟨#[]⟩,0,0,0,⟨#[]⟩)
abbrev c0 (b:Br) (z:Int):Br:={ b with near:=b.near++[z] }
abbrev c1 (b:Br):Br:={ b with dV:=b.dV++[⟨(99,0),[],-1⟩] }
abbrev c2 (b:Br):Br:={ b with ent:=b.ent++[⟨(98,0),(0,0),[],-1,false⟩] }
abbrev c3 (b:Br):Br:={ b with own:=b.own++[⟨(-1,0),[]⟩,⟨(-1,0),[]⟩] }
abbrev c4 (b:Br):Br:={ b with seen:=b.seen++[(97,0),(97,0)] }
abbrev c5 (b:Br):Br:={ b with own:=[⟨(-5,0),[z5]⟩]++b.own }
end Go.Proofs.YtmklifheakemeaaGreat.Av
