/-
  place and branch of . Conditions as told.
-/
import Derived.Test.YtkcfgbddlpomgaaBQ039
set_option maxRecDepth 100000
set_option maxHeartbeats 64000000
open _root_.Go renaming cell_regrown->L
open Go.IntKind renaming i64->U
open Go.Lib renaming hid->K
open Go.Obj renaming cells->V
open Go.Value renaming int->Q,pointer->ah,slice->ak
open _root_.List renaming getElem?_eq_getElem->D,getElem?_eq_some_iff->J,getElem?_map->aj
open _root_.Option renaming some->O,none->au
namespace Go.Proofs.Ytkcfgbddlpomgaa.Sb
open Go.RowKit Go.Sort Rw Ytkcfgbddlpomgaa.Nm Pr Bk Av
theorem jf {α:Type} {E:Ek α} {W:World} {so:Option Addr} {sn sc:Nat} {l:List α} (h:Row E W (ak so sn sc) l):l.length=sn:=by
 obtain⟨ao,ac,hv⟩:=h.len;simp at hv;exact hv.2.1.symm
theorem fO {W:World} {l:List gq} {m:List En} (h:dJ (iT W) l m) {i:Nat} {y:gq} (hy:l[i]?=O y):∃ e,m[i]?=O e/\pW y=eY e/\iT W y e:=by
 have hlt:=(J.1 hy).1;obtain⟨e,he⟩:∃ e,m[i]?=O e:=⟨_,D (by rw [<- h.len]; exact hlt)⟩;obtain⟨y',hy',hx⟩:=h.at i e he;rw [hy] at hy';obtain rfl:=Option.some.inj hy';exact⟨e,he,Prod.ext hx.1 hx.2.1,hx⟩
theorem vJ {m:List En} (hr:fM m) {i j:Nat} {x y:En} (hij:i<j) (hx:m[i]?=O x) (hy:m[j]?=O y):wF x y<0:=by
 obtain⟨h1,rfl⟩:=J.1 hx;obtain⟨h2,rfl⟩:=J.1 hy;exact List.pairwise_iff_getElem.1 hr i j h1 h2 hij
theorem jc (l:List (dI×dI)) (x:dI×dI):dR l x<=l.length:=(List.takeWhile_sublist _).length_le
theorem yC {m:List En} (hr:fM m) (x:dI×dI) {i:Nat} {e:En} (hi:dR (m.map eY) x<=i) (he:m[i]?=O e):fI (eY e) x=false:=by
 have hlt:=(J.1 he).1;obtain⟨z,hz⟩:∃ z,m[dR (m.map eY) x]?=O z:=⟨_,D (by omega)⟩;have h0:=kM (m.map eY) x (eY z) (by rw [aj,hz]; rfl);rcases Nat.lt_or_ge (dR (m.map eY) x) i with h|h
 ·have h1:=vJ hr h hz he;cases hq:fI (eY e) x with
  | false=>rfl
  | true =>
   rw [<- iI] at h1;have h2:wF z ⟨x.1,x.2,[],0,false⟩<0:=yw z e ⟨x.1,x.2,[],0,false⟩ ((iI z e).1 h1) ((iI e ⟨x.1,x.2,[],0,false⟩).1 hq);rw [<- iI] at h2;rw [show fI (eY z) x=true from h2] at h0;cases h0
 ·have e1:i=dR (m.map eY) x:=by omega
  rw [e1,hz] at he;rw [<- Option.some.inj he];exact h0
theorem vK (v:Sl) (l:List gq) (m:List En) (t s:dI) (w:World) (hv:iY w (dz v) l) (hA:dJ (iT w) l m) (hr:fM m) (hl:l.length<=1000) :
  Calls Try.prog 19 #[dz v,lq t,lq s] w fun e w'=>e=.returned (.tuple #[Q U (dR (m.map eY) (t,s)),.bool (iP m t s)])/\Below w.heap.size w w':=by
 obtain⟨so,n,sc⟩:=v;have hn:l.length=n:=jf hv;obtain⟨c,d⟩:=t;obtain⟨g,h⟩:=s;obtain⟨k,hk⟩:∃ k,dR (m.map eY) ((c,d),(g,h))=k:=⟨_,rfl⟩;obtain⟨th,hth⟩:∃ k,iP m (c,d) (g,h)=k:=⟨_,rfl⟩;have hkn:k<=n:=by rw [<- hk,<- hn,hA.len]; simpa using jc (m.map eY) ((c,d),(g,h))
 rw [hk,hth];obtain⟨h0,X,Y,Z⟩:=kC w #[ak so n sc] #[Q U c,Q U d] #[Q U g,Q U h] 27 23 23;have BB:=K h0;have HV:=K (hv.on h0);have HA:=K (hA.mono fun _ _ q=>q.on h0);have X1:=K X;have Y1:=K Y;have Z1:=K Z;have x0:=X.cell 0;simp only [List.getElem?_toArray,List.getElem?_cons_zero] at x0;have HF:=K (show ∀ i,i<n->∀ W,Below (((w.alloc (V #[ak so n sc] 27)).alloc (V #[Q U c,Q U d] 23)).alloc (V #[Q U g,Q U h] 23)).heap.size (((w.alloc (V #[ak so n sc] 27)).alloc (V #[Q U c,Q U d] 23)).alloc (V #[Q U g,Q U h] 23)) W ->
   Calls Try.prog 42 (#[Q U i]++#[ah (O ⟨w.heap.size,0,au⟩),ah (O ⟨w.heap.size+1,0,au⟩),ah (O ⟨w.heap.size+1+1,0,au⟩)]) W fun e w'=>e=.returned (.bool ((fun i=>match l[i]? with | some y=>!fI (pW y) ((c,d),(g,h)) | none=>true) i))/\Below W.heap.size W w' from fun i hi W hb=>by
  obtain⟨y,hy⟩:∃ y,l[i]?=O y:=⟨_,D (by omega)⟩;refine zZ i _ _ _ so n sc l (c,d) (g,h) y _ W (HV.out.on hb) hn hy ?_ (X1.out.on hb) (Y1.out.on hb) (Z1.out.on hb);simp only [hy])
 have Ev:=K (show ∀ i,i<k->(fun i=>match l[i]? with | some y=>!fI (pW y) ((c,d),(g,h)) | none=>true) i=false from fun i hi=>by
  obtain⟨y,hy⟩:∃ y,l[i]?=O y:=⟨_,D (by omega)⟩;obtain⟨e,he,hke,_⟩:=fO HA.out hy;have h1:=iJ (m.map eY) ((c,d),(g,h)) i (eY e) (by rw [hk]; exact hi) (by rw [aj,he]; rfl);simp only [hy,hke,h1]
  rfl)
 have Ew:=K (show ∀ i,k<=i->i<n->(fun i=>match l[i]? with | some y=>!fI (pW y) ((c,d),(g,h)) | none=>true) i=true from fun i hi hi2=>by
  obtain⟨y,hy⟩:∃ y,l[i]?=O y:=⟨_,D (by omega)⟩;obtain⟨e,he,hke,_⟩:=fO HA.out hy;have h1:=Sb.yC hr ((c,d),(g,h)) (by rw [hk]; exact hi) he;simp only [hy,hke,h1]
  rfl)
 have HK:=K hk;have HT:=K hth;have HN:=K hn;have ln:n<=1000:=by omega
 clear hv hA h0 X Y Z hk hth hl hn hr;go_enter Try.func19,Try.ntmps19;go_wp2_with fail;generalize ((w.alloc (V #[ak so n sc] 27)).alloc (V #[Q U c,Q U d] 23)).alloc (V #[Q U g,Q U h] 23)=W at *;refine (mI 42 #[ah (O ⟨w.heap.size,0,au⟩),ah (O ⟨w.heap.size+1,0,au⟩),ah (O ⟨w.heap.size+1+1,0,au⟩)] zX n k _ W (by omega) HF.out hkn Ev.out Ew.out).mono ?_;rintro e1 w1 ⟨rfl,hb⟩;have BN:=K (fun dq osq=>(BB.out.trans (hb.mono BB.out.size)).trans ((below_regrown w1 dq osq).mono (BB.out.trans (hb.mono BB.out.size)).size));have a0:=L (show w1.cell? ⟨w.heap.size,0,au⟩=O (ak so n sc) from (X1.out.on hb).cell 0);have b0:=L (show w1.cell? ⟨w.heap.size+1,0,au⟩=O (Q U c) from (Y1.out.on hb).cell 0);have b1:=L (show w1.cell? ⟨w.heap.size+1,1,au⟩=O (Q U d) from (Y1.out.on hb).cell 1);have c0:=L (show w1.cell? ⟨w.heap.size+1+1,0,au⟩=O (Q U g) from (Z1.out.on hb).cell 0);have c1:=L (show w1.cell? ⟨w.heap.size+1+1,1,au⟩=O (Q U h) from (Z1.out.on hb).cell 1);clear x0 HF Ev Ew;by_cases hkl:k<n
 ·obtain⟨y,hy⟩:∃ y,l[k]?=O y:=⟨_,D (by rw [HN.out]; exact hkl)⟩;obtain⟨p,ix,p0,p1,p2,p3,p4,p5,p6⟩:=mJ HV.out rfl HN.out hy hb;have TH:=K (show th=decide (pW y=((c,d),(g,h))) from by
   obtain⟨e,he,hke,_⟩:=fO HA.out hy;rw [<- HT.out,iP,HK.out,he,hke])
  have g4:decide ((k:Int)<(n:Int))=true:=by simp; omega
  obtain⟨y1,y2,y3,y4,⟨yo,yn,yc⟩,y6,y7⟩:=y;simp only at p0 p1 p2 p3;clear p4 p5 p6 hb hy;obtain⟨r1,hr1⟩:∃ r,(y1 == c && y2 == d)=r:=⟨_,rfl⟩;obtain⟨r2,hr2⟩:∃ r,(y3 == g && y4 == h)=r:=⟨_,rfl⟩;have e1:=uy y1 y2 c d r1 hr1;have e2:=uy y3 y4 g h r2 hr2;have R:=K (show th=(r1 && r2) from by
   rw [TH.out,<- hr1,<- hr2,Bool.eq_iff_iff];simp only [decide_eq_true_eq,Bool.and_eq_true,beq_iff_eq,Prod.mk.injEq])
  clear hr1 hr2 TH HT;cases r1 <;> cases r2
  all_goals
   go_wp2;refine wp_region_quiet_below (by kernel_rfl) (by kernel_rfl) ?_
   repeat (go_big_quiet_step (fail))
   refine wpQuiet_nil ?_;intro _ hw';obtain⟨⟨dq,osq⟩,hw''⟩:=hw';subst hw'';go_wp2
   go_ret2
   exact⟨by rw [R.out]; rfl,BN.out _ _⟩
 ·have TH:=K (show th=false from by
   rw [<- HT.out,iP,HK.out,List.getElem?_eq_none (by rw [<- HA.out.len,HN.out]; omega)])
  have g4:decide ((k:Int)<(n:Int))=false:=by simp; omega
  clear hb HT;go_wp2;refine wp_region_quiet_below (by kernel_rfl) (by kernel_rfl) ?_
  repeat (go_big_quiet_step (fail))
  refine wpQuiet_nil ?_;intro _ hw';obtain⟨⟨dq,osq⟩,hw''⟩:=hw';subst hw'';go_wp2
  go_ret2
  exact⟨by rw [TH.out]; rfl,BN.out _ _⟩
end Go.Proofs.Ytkcfgbddlpomgaa.Sb
