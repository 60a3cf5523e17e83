/-
  Rows of deliveries; . Conditions as told.
-/
import Derived.Test.YtkcfgbddlpomgaaBQ017
import Derived.Test.YtkcfgbddlpomgaaBQ018
import Derived.Test.YtkcfgbddlpomgaaBQ020
set_option maxRecDepth 100000
set_option maxHeartbeats 64000000
open Go.IntKind renaming i64->O
open Go.Lib renaming hid->J
open Go.Value renaming slice->D,int->L,agg->Z
open _root_.Option renaming none->K,map_some->U,some->V
namespace Go.Proofs.Ytkcfgbddlpomgaa
namespace Bk
open Go.RowKit Go.Sort Rw Ytkcfgbddlpomgaa.Nm Pr Rl
abbrev oK:=Int×Int×Int×Sl
abbrev kJ (x:oK):List Value:=[L O x.1,L O x.2.1,L O x.2.2.1,dz x.2.2.2]
abbrev BS (x:oK):Value:=Z #[L O x.1,L O x.2.1,L O x.2.2.1,dz x.2.2.2]
def EG:Ek oK:=⟨77,43,4,48,Z #[L O 0,L O 0,L O 0,D K 0 0],BS,kJ⟩
theorem Eb:(Try.prog.info? 77).map (fun i=>(i.zero,i.size,i.bytes))=V (V (Z #[L O 0,L O 0,L O 0,D K 0 0]),4,48):=by kernel_rfl
theorem Ec (w:World) (p:Addr) (x:oK) (h:∀ j u,(kJ x)[j]?=V u->w.cell? (p.add j)=V u):(Instr.loadAt 77 (.pointer (V p))).run Try.prog w=.ok (BS x) w:=by
 have h0:=h 0 _ rfl;have h1:=h 1 _ rfl;have h2:=h 2 _ rfl;have h3:=h 3 _ rfl;simp [Addr.add] at h0 h1 h2 h3;simp [go_sem,h0,h1,h2,h3]
theorem Ip:EG.Ok where
 hu:=Try.underlying43
 info:=by
  have h:=Eb;cases hi:Try.prog.info? 77 with
  | none=>rw [hi] at h; cases h
  | some i =>
   rw [hi] at h;simp only [U,Option.some.injEq,Prod.mk.injEq] at h;exact⟨i,hi,h.1,h.2.1,h.2.2⟩
 zs:=rfl
 len:=fun _=>rfl
 one:=fun x u hu=>by
  simp only [EG,kJ,List.mem_cons,List.not_mem_nil,or_false] at hu;rcases hu with rfl|rfl|rfl|rfl <;> rfl
 pos:=by decide
 few:=by decide
 load:=fun w p x h=>Ec w p x h
abbrev Gs (W:World) (v:Value) (l:List oK):Prop:=Row EG W v l
abbrev qh (W:World) (B:Nat) (v:Value) (l:List oK):Prop:=Own EG W B v l
def jX (p:List C5) (l:List An):Bool:=ku (p.map BK) l
def BU (t:Id) (l:List An) (n:Int) (e:En):Bool:=decide (e.tree=t) && (decide (e.from_=n) && jX e.p l)
def Cb (l:List An) (c:Int) (o:Ow):Bool:=decide (o.id.1=c) && jX o.p l
def toB (b:Br) (t:Id) (l:List An):List Int:=b.near.filter fun n=>b.ent.any (BU t l n)
def xM:List Int:=(List.range 32).map fun (c:Nat)=>(c:Int)
def lY (b:Br) (l:List An):List Int:=xM.filter fun c=>b.own.any (Cb l c)
def iA (b:Br) (f:Int) (t:Id) (l:List An):List Int×List Int :=
 match b.dU.find? fun a=>decide (a.id=t) with
 | some a=>if a.par=f then (toB b t l,lY b l) else ([],[])
 | none=>([],[])
end Bk
namespace Av
open Go.RowKit Go.Sort Rw Ytkcfgbddlpomgaa.Nm Pr Bk
def oL (near:List Int) (f:Int):Bool:=decide (f∈near) || f == -1
def iQ {α:Type} (c:α->α->Int):List α->Bool
 | x::y::l=>decide (c x y<0) && iQ c (y::l)
 | _=>true
abbrev nP (me:Int) (near:List Int):Br:=⟨me,near,[],[],[],[]⟩
theorem xO (me:Int) (v:Sl) (l:List Int) (w:World) (hv:om w (dz v) l) (hl:l.length<=900) :
  Calls Try.prog 5 #[L O me,dz v] w fun e w'=>(∃ (l':List Int) (nv:Sl),e=.returned (nE me nv (K,0,0) (K,0,0) (K,0,0) (K,0,0))/\iF w' (nP me l') nv (K,0,0) (K,0,0) (K,0,0) (K,0,0)/\(∃ B,gK w' B (dz nv) l')/\l'.Pairwise (·<·)/\∀ x,x∈l'↔x∈l)/\Below w.heap.size w w':=by
 have n0:=fK w (.cells #[L O 0,D K 0 0,D K 0 0,D K 0 0,D K 0 0,D K 0 0] 30);have X:=J (dB w #[L O 0,D K 0 0,D K 0 0,D K 0 0,D K 0 0,D K 0 0] 30);have C:=J (lK v l _ (hv.on n0) hl);have B0:=J n0;have HL:=J hl;obtain⟨vo,vn,vc⟩:=v;clear hv hl n0;go_enter Try.func5,Try.ntmps5;go_wp2_with fail;generalize w.alloc (.cells #[L O 0,D K 0 0,D K 0 0,D K 0 0,D K 0 0,D K 0 0] 30)=W at *;refine C.out.mono ?_;rintro e1 w1 ⟨⟨⟨p1,p2,p3⟩,rfl,ho⟩,hb⟩;have B1:=J (B0.out.trans (hb.mono B0.out.size));have X1:=J (X.out.on hb);have hlt:w.heap.size<W.heap.size:=X.out.lt;have C2:=J (nN w1 W.heap.size _ l ho HL.out);have OT:=J (fun g hg=>(ho.lt g hg).1);have HW:=J hlt;clear hb ho C X;go_wp2_with fail;refine C2.out.mono ?_;rintro e2 w2 ⟨rfl,l2,ho2,hp2,hs2,hg2⟩;have B2:=J (B1.out.grown hg2 B1.out.size (fun j hj=>Nat.le_trans (Nat.le_of_lt HW.out) (OT.out j hj)));have X2:=J (show dh w2 w.heap.size _ _ from (hg2.block _ X1.out.lt (fun e=>by have:=OT.out _ e.symm; have:=HW.out; omega)).trans X1.out);have C3:=J (p8 w2 W.heap.size (p1,p2,p3) l2 ho2 hs2 (by rw [hp2.length_eq]; exact HL.out));have PM:=J hp2;have Ed:=J (fun g hg=>(ho2.lt g hg).1);clear ho2 hp2 hs2 hg2 C2 OT X1;go_wp2_with fail;refine C3.out.mono ?_;rintro e3 w3 ⟨⟨⟨t1,t2,t3⟩,rfl,l3,ho3,hs3,Ee⟩,hg3⟩;have B3:=J (B2.out.grown hg3 B2.out.size (fun j hj=>Nat.le_trans (Nat.le_of_lt HW.out) (Ed.out j hj)));have Y:=show dh w3 w.heap.size _ _ from (hg3.block _ X2.out.lt (fun e=>by have:=Ed.out _ e.symm; have:=HW.out; omega)).trans X2.out;obtain⟨y0,y1,y2,y3,y4,y5⟩:=Y.gX;obtain⟨f0,f1,f2,f3,f4,f5⟩:=Y.qH;have zz:=Y.lt;have FB:=J (dY Y (L O me) (D t1 t2 t3) (D K 0 0) (D K 0 0) (D K 0 0) (D K 0 0));have FL:=J (dM (b:=w.heap.size) B3.out (Nat.le_refl _) (L O me) (D t1 t2 t3) (D K 0 0) (D K 0 0) (D K 0 0) (D K 0 0));have FO:=J (uD ho3 w.heap.size HW.out (L O me) (D t1 t2 t3) (D K 0 0) (D K 0 0) (D K 0 0) (D K 0 0));have Q:=J (show l3.Pairwise (·<·)/\∀ x,x∈l3↔x∈l from ⟨hs3,fun x=>(Ee x).trans PM.out.mem_iff⟩);clear ho3 hs3 Ee hg3 Y X2 C3 B2 B1 B0;go_wp2_with fail;obtain⟨v0,v1,v2,v3,v4,v5⟩:=FB.out.gX;refine bodyPost_ret (v:=Z #[L O me,D t1 t2 t3,D K 0 0,D K 0 0,D K 0 0,D K 0 0]) (by simp [results,Try.results5,go_sem,v0,v1,v2,v3,v4,v5]) rfl ?_;exact⟨⟨l3,(t1,t2,t3),rfl,⟨Row.dw FO.out,⟨[],jh _,.nil⟩,jh _,⟨[],jh _,.nil⟩,⟨[],jh _,.nil⟩⟩,⟨_,FO.out⟩,Q.out.1,Q.out.2⟩,FL.out⟩
end Av
namespace Bk
open Go.RowKit Go.Sort Rw Ytkcfgbddlpomgaa.Nm Pr Rl
end Bk
end Go.Proofs.Ytkcfgbddlpomgaa
