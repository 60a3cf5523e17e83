/-
  Covered of broadside. Conditions as told.
-/
import Derived.Test.YtkcfgbddlpomgaaBQ015
import Derived.Test.YtkcfgbddlpomgaaBQ016
set_option maxRecDepth 100000
set_option maxHeartbeats 64000000
open _root_.Go renaming World->Q,Value->V
open Go.IntKind renaming i64->J
open Go.Lib renaming hid->L
open Go.Value renaming int->D,slice->K,bool->U
open _root_.Option renaming none->O
namespace Go.Proofs.Ytkcfgbddlpomgaa
namespace Bk
open Go.RowKit Rw Ytkcfgbddlpomgaa.Nm Pr Rl
def BK (c:C5):Cn:=(c.1,if c.2.1=1 then .rg c.2.2.1 c.2.2.2.1 else if c.2.1=2 then .tx c.2.2.2.2 else .pr c.2.2.2.2)
theorem BM (c:Cn):BK (r5 c)=c:=by
 obtain⟨n,k⟩:=c;cases k <;> simp [BK,r5,kN,jO,jP,kT]
theorem oI (a:List Cn):(a.map r5).map BK=a:=by
 rw [List.map_map];have h:BK∘r5=id:=funext BM;rw [h,List.map_id]
def eF (p:List C5):Prop:=∃ a:List Cn,NF a/\p=a.map r5
def jm (p q:List C5):Bool:=jS (p.map BK) (q.map BK)
def Gr (t:Id) (p:List C5) (e:En):Bool:=decide (e.tree=t) && (e.up && jm e.p p)
def gJ (m:List En) (t:Id) (p:List C5):Bool:=m.any (Gr t p)
end Bk
namespace Bk
open Go.RowKit Go.Sort Rw Ytkcfgbddlpomgaa.Nm Pr
def fI (a b:Id×Id):Bool:=dD a.1 b.1 || (Gj a.1 b.1 && dD a.2 b.2)
def dR (l:List (Id×Id)) (x:Id×Id):Nat:=(l.takeWhile fun a=>fI a x).length
abbrev eY (e:En):Id×Id:=(e.tree,e.sub)
def kY (b:Br) (e:En):Br×Bool:=match b.dU[(d9 (b.dU.map Ad.id) e.tree).toNat]? with
 | none=>(b,false)
 | some a=>if d9 (b.dU.map Ad.id) e.tree=-1 then (b,false) else if jW (b.ent.map eY) (eY e)≠-1 then (b,false) else if e.from_≠-1/\e.from_=a.par then (b,false) else
  ({ b with ent:=fu b.ent (dR (b.ent.map eY) (eY e)) { e with up:=decide (a.par≠-1) && !gJ b.ent e.tree e.p } },decide (a.par≠-1) && !gJ b.ent e.tree e.p)
end Bk
namespace Bk
open Go.RowKit Go.Sort Rw Ytkcfgbddlpomgaa.Nm Pr
open Av
end Bk
namespace Bk
open Go.RowKit Go.Sort Rw Ytkcfgbddlpomgaa.Nm Pr
end Bk
namespace Bk
open Go.RowKit Go.Sort Rw Ytkcfgbddlpomgaa.Nm Pr
open Av
structure Ou where
 Im:Int
 kind:Int
 tree:Id
 id:Id
 p:List C5
end Bk
namespace Sb
open Go.RowKit Go.Sort Rw Ytkcfgbddlpomgaa.Nm Pr Bk Av
abbrev p9 (W:Q) (b:Nat) (a0 a1 a2 a3 a4 a5 a6:V):Q:=((((((W.setCell ⟨b,0,O⟩ a0).setCell ⟨b,1,O⟩ a1).setCell ⟨b,2,O⟩ a2).setCell ⟨b,3,O⟩ a3).setCell ⟨b,4,O⟩ a4).setCell ⟨b,5,O⟩ a5).setCell ⟨b,6,O⟩ a6
theorem lW {W:Q} {b:Nat} {t:TypeId} {z0 z1 z2 z3 z4 z5 z6:V} (h:dh W b #[z0,z1,z2,z3,z4,z5,z6] t) (a0 a1 a2 a3 a4 a5 a6:V):dh (p9 W b a0 a1 a2 a3 a4 a5 a6) b #[a0,a1,a2,a3,a4,a5,a6] t:=by
 have h2:=dG (k:=6) (dG (k:=5) (dG (k:=4) (dG (k:=3) (dG (k:=2) (dG (k:=1) (dG (k:=0) h a0) a1) a2) a3) a4) a5) a6;simpa using h2
theorem jJ {B:Nat} {W0 W:Q} {b:Nat} (h:Below B W0 W) (hb:B<=b) (a0 a1 a2 a3 a4 a5 a6:V):Below B W0 (p9 W b a0 a1 a2 a3 a4 a5 a6):=(((((((h).setCell (p:=⟨b,0,O⟩) hb a0).setCell (p:=⟨b,1,O⟩) hb a1).setCell (p:=⟨b,2,O⟩) hb a2).setCell (p:=⟨b,3,O⟩) hb a3).setCell (p:=⟨b,4,O⟩) hb a4).setCell (p:=⟨b,5,O⟩) hb a5).setCell (p:=⟨b,6,O⟩) hb a6
theorem xJ {α:Type} {E:Ek α} {W:Q} {B:Nat} {v:V} {l:List α} (h:Own E W B v l) (b:Nat) (hb:b<B) (a0 a1 a2 a3 a4 a5 a6:V):Own E (p9 W b a0 a1 a2 a3 a4 a5 a6) B v l :=
 dF (dF (dF (dF (dF (dF (dF (h) b 0 a0 hb) b 1 a1 hb) b 2 a2 hb) b 3 a3 hb) b 4 a4 hb) b 5 a5 hb) b 6 a6 hb
theorem qb (w:Q) (b:Nat) (a0 a1 a2 a3 a4 a5 a6:V):But b w (p9 w b a0 a1 a2 a3 a4 a5 a6) :=
 ((((((dn _ b _ _).trans (dn _ b _ _)).trans (dn _ b _ _)).trans (dn _ b _ _)).trans (dn _ b _ _)).trans (dn _ b _ _)).trans (dn _ b _ _)
theorem oJ (x:gq) (p:List C5) (w:Q) (hp:gL w (dz x.2.2.2.2.1) p) (hl:p.length<=900) :
  Calls Try.prog 20 #[mX x] w fun e w'=>(∃ v':Sl,e=.returned (mX (x.1,x.2.1,x.2.2.1,x.2.2.2.1,v',x.2.2.2.2.2.1,x.2.2.2.2.2.2))/\kW w' w.heap.size (dz v') p)/\Below w.heap.size w w':=by
 obtain⟨y1,y2,y3,y4,⟨s1,s2,s3⟩,y6,y7⟩:=x;obtain⟨h0,X,Y⟩:=eX w #[D J y1,D J y2,D J y3,D J y4,K s1 s2 s3,D J y6,U y7] #[D J 0,D J 0,D J 0,D J 0,K O 0 0,D J 0,U false] 41 41;have C:=L (iK (s1,s2,s3) p _ (hp.on h0) hl);have B:=L h0;have x4:=X.cell 4;simp only [List.getElem?_toArray,List.getElem?_cons_zero,List.getElem?_cons_succ] at x4;have X:=L X;have Y:=L Y;clear h0 hp hl;go_enter Try.func20,Try.ntmps20;go_wp2_with fail;generalize (w.alloc (.cells #[D J y1,D J y2,D J y3,D J y4,K s1 s2 s3,D J y6,U y7] 41)).alloc (.cells #[D J 0,D J 0,D J 0,D J 0,K O 0 0,D J 0,U false] 41)=W at *;refine C.out.mono ?_;rintro e w1 ⟨⟨⟨u1,u2,u3⟩,rfl,ho⟩,hb⟩;have X1:=X.out.on hb;have Y1:=Y.out.on hb;have hs:w.heap.size<W.heap.size:=X.out.lt;have O1:=L (dF ho w.heap.size 4 (K u1 u2 u3) hs);have XB:=L (show dh _ _ #[D J y1,D J y2,D J y3,D J y4,K u1 u2 u3,D J y6,U y7] _ from by simpa using dG (k:=4) X1 (K u1 u2 u3));have YB:=L (show dh _ _ _ _ from (RowKit.Below.heap_setCell w1 ⟨w.heap.size,4,O⟩ (K u1 u2 u3) _ (show w.heap.size+1≠w.heap.size by omega)).trans Y1);have B1:=L ((B.out.trans (hb.mono B.out.size)).setCell (p:=⟨w.heap.size,4,O⟩) (Nat.le_refl _) (K u1 u2 u3));have Io:=X1.cell 4;have f4:=X1.fr 4;have z4:=X1.lt;simp only [List.getElem?_toArray,List.getElem?_cons_zero,List.getElem?_cons_succ] at Io;clear X1 Y1 ho hb x4 C;go_upto_region 2 with fail;clear Io f4 z4;generalize w1.setCell ⟨w.heap.size,4,O⟩ (K u1 u2 u3)=w2 at *;obtain⟨x0,x1,x2,x3,x4,x5,x6⟩:=XB.out.qG;obtain⟨r0,r1,r2,r3,r4,r5,r6⟩:=YB.out.qG;obtain⟨t0,t1,t2,t3,t4,t5,t6⟩:=YB.out.FZ;have zz:=YB.out.lt;have hs2:w.heap.size+1<W.heap.size:=Y.out.lt;have FB:=L (lW YB.out (D J y1) (D J y2) (D J y3) (D J y4) (K u1 u2 u3) (D J y6) (U y7));have BL:=L (jJ (b:=w.heap.size+1) B1.out (by omega) (D J y1) (D J y2) (D J y3) (D J y4) (K u1 u2 u3) (D J y6) (U y7));have FO:=L (xJ O1.out (w.heap.size+1) hs2 (D J y1) (D J y2) (D J y3) (D J y4) (K u1 u2 u3) (D J y6) (U y7));have HS:=L hs;clear hs hs2;go_wp2_with fail;obtain⟨v0,v1,v2,v3,v4,v5,v6⟩:=FB.out.qG;refine bodyPost_ret (v:=.agg #[D J y1,D J y2,D J y3,D J y4,K u1 u2 u3,D J y6,U y7]) (by simp [results,Try.results20,go_sem,v0,v1,v2,v3,v4,v5,v6]) rfl ?_;exact⟨⟨(u1,u2,u3),rfl,cK FO.out (Nat.le_of_lt HS.out)⟩,BL.out⟩
end Sb
namespace Fl
open Go.RowKit Go.Sort Rw Ytkcfgbddlpomgaa.Nm Pr Bk Av
theorem xK (a:Option Addr) (n c:Nat) (w:Q):(binOp .eql 46 (K a n c) (K O 0 0)).run Try.prog w=.ok (U a.isNone) w:=by
 simp [go_sem,binOp,run_equal_slice_nil (P:=Try.prog) w 46 75 a n c Try.underlying46]
theorem xL (w:Q) (b:Nat) (a0 a1 a2 a3 a4 a5 a6:V):But b w (xH w b a0 a1 a2 a3 a4 a5 a6) :=
 (((dn _ b _ _).trans (dn _ b _ _)).trans ((dn _ b _ _).trans (dn _ b _ _))).trans (((dn _ b _ _).trans (dn _ b _ _)).trans (dn _ b _ _))
theorem qc {w W:Q} {B b:Nat} (h:Below B w W) (hb:B<=b) (a0 a1 a2 a3 a4 a5 a6:V):Below B w (xH W b a0 a1 a2 a3 a4 a5 a6) :=
 ((((((h.setCell (p:=⟨b,0,O⟩) hb a0).setCell (p:=⟨b,1,O⟩) hb a1).setCell (p:=⟨b,2,O⟩) hb a2).setCell (p:=⟨b,3,O⟩) hb a3).setCell (p:=⟨b,4,O⟩) hb a4).setCell (p:=⟨b,5,O⟩) hb a5).setCell (p:=⟨b,6,O⟩) hb a6
end Fl
end Go.Proofs.Ytkcfgbddlpomgaa
