/-
  place and branch of . Conditions as told.
-/
import Derived.Test.YtmklifheakemeaaVQ033
set_option maxRecDepth 100000
set_option maxHeartbeats 64000000
open Go.IntKind renaming i64->Q
open Go.Lib renaming hid->K
open Go.Obj renaming cells->U
open Go.Value renaming int->O,pointer->V,slice->aj
open _root_.List renaming getElem?_eq_getElem->D,getElem?_eq_some_iff->J,getElem?_map->ah
open _root_.Option renaming some->L,none->ak
namespace Go.Proofs.Ytmklifheakemeaa.Sb
open Go.RowKit Go.Sort Rw Ytmklifheakemeaa.Nm Pr Bk Av
theorem gX {α:Type} {E:Ek α} {W:World} {so:Option Addr} {sn sc:Nat} {l:List α} (h:Row E W (aj so sn sc) l):l.length=sn:=by
 obtain⟨ao,ac,hv⟩:=h.len;simp at hv;exact hv.2.1.symm
theorem iQ {W:World} {l:List gM} {m:List En} (h:eF (iC W) l m) {i:Nat} {y:gM} (hy:l[i]?=L y):∃ e,m[i]?=L e/\xR y=dI e/\iC W y e:=by
 have hlt:=(J.1 hy).1;obtain⟨e,he⟩:∃ e,m[i]?=L e:=⟨_,D (by rw [<- h.len]; exact hlt)⟩;obtain⟨y',hy',hx⟩:=h.at i e he;rw [hy] at hy';obtain rfl:=Option.some.inj hy';exact⟨e,he,Prod.ext hx.1 hx.2.1,hx⟩
theorem qO {m:List En} (hr:fC m) {i j:Nat} {x y:En} (hij:i<j) (hx:m[i]?=L x) (hy:m[j]?=L y):rF x y<0:=by
 obtain⟨h1,rfl⟩:=J.1 hx;obtain⟨h2,rfl⟩:=J.1 hy;exact List.pairwise_iff_getElem.1 hr i j h1 h2 hij
theorem mM (l:List (eu×eu)) (x:eu×eu):dN l x<=l.length:=(List.takeWhile_sublist _).length_le
theorem Gq {m:List En} (hr:fC m) (x:eu×eu) {i:Nat} {e:En} (hi:dN (m.map dI) x<=i) (he:m[i]?=L e):gL (dI e) x=false:=by
 have hlt:=(J.1 he).1;obtain⟨z,hz⟩:∃ z,m[dN (m.map dI) x]?=L z:=⟨_,D (by omega)⟩;have h0:=qL (m.map dI) x (dI z) (by rw [ah,hz]; rfl);rcases Nat.lt_or_ge (dN (m.map dI) x) i with h|h
 ·have h1:=qO hr h hz he;cases hq:gL (dI e) x with
  | false=>rfl
  | true =>
   rw [<- iL] at h1;have h2:rF z ⟨x.1,x.2,[],0,false⟩<0:=AO z e ⟨x.1,x.2,[],0,false⟩ ((iL z e).1 h1) ((iL e ⟨x.1,x.2,[],0,false⟩).1 hq);rw [<- iL] at h2;rw [show gL (dI z) x=true from h2] at h0;cases h0
 ·have e1:i=dN (m.map dI) x:=by omega
  rw [e1,hz] at he;rw [<- Option.some.inj he];exact h0
theorem qP (v:Sl) (l:List gM) (m:List En) (t s:eu) (w:World) (hv:jR w (dR v) l) (hA:eF (iC w) l m) (hr:fC m) (hl:l.length<=1000) :
  Calls Try.prog 29 #[dR v,pG t,pG s] w fun e w'=>e=.returned (.tuple #[O Q (dN (m.map dI) (t,s)),.bool (gy m t s)])/\Below w.heap.size w w':=by
 obtain⟨so,n,sc⟩:=v;have hn:l.length=n:=gX hv;obtain⟨c,d⟩:=t;obtain⟨g,h⟩:=s;obtain⟨k,hk⟩:∃ k,dN (m.map dI) ((c,d),(g,h))=k:=⟨_,rfl⟩;obtain⟨th,hth⟩:∃ k,gy m (c,d) (g,h)=k:=⟨_,rfl⟩;have hkn:k<=n:=by rw [<- hk,<- hn,hA.len]; simpa using mM (m.map dI) ((c,d),(g,h))
 rw [hk,hth];obtain⟨h0,X,Y,Z⟩:=nT w #[aj so n sc] #[O Q c,O Q d] #[O Q g,O Q h] 28 25 25;have BB:=K h0;have HV:=K (hv.on h0);have HA:=K (hA.mono fun _ _ q=>q.on h0);have X1:=K X;have Y1:=K Y;have Z1:=K Z;have x0:=X.cell 0;simp only [List.getElem?_toArray,List.getElem?_cons_zero] at x0;have HF:=K (show ∀ i,i<n->∀ W,Below (((w.alloc (U #[aj so n sc] 28)).alloc (U #[O Q c,O Q d] 25)).alloc (U #[O Q g,O Q h] 25)).heap.size (((w.alloc (U #[aj so n sc] 28)).alloc (U #[O Q c,O Q d] 25)).alloc (U #[O Q g,O Q h] 25)) W ->
   Calls Try.prog 58 (#[O Q i]++#[V (L ⟨w.heap.size,0,ak⟩),V (L ⟨w.heap.size+1,0,ak⟩),V (L ⟨w.heap.size+1+1,0,ak⟩)]) W fun e w'=>e=.returned (.bool ((fun i=>match l[i]? with | some y=>!gL (xR y) ((c,d),(g,h)) | none=>true) i))/\Below W.heap.size W w' from fun i hi W hb=>by
  obtain⟨y,hy⟩:∃ y,l[i]?=L y:=⟨_,D (by omega)⟩;refine Jg i _ _ _ so n sc l (c,d) (g,h) y _ W (HV.out.on hb) hn hy ?_ (X1.out.on hb) (Y1.out.on hb) (Z1.out.on hb);simp only [hy])
 have MV:=K (show ∀ i,i<k->(fun i=>match l[i]? with | some y=>!gL (xR y) ((c,d),(g,h)) | none=>true) i=false from fun i hi=>by
  obtain⟨y,hy⟩:∃ y,l[i]?=L y:=⟨_,D (by omega)⟩;obtain⟨e,he,hke,_⟩:=iQ HA.out hy;have h1:=lI (m.map dI) ((c,d),(g,h)) i (dI e) (by rw [hk]; exact hi) (by rw [ah,he]; rfl);simp only [hy,hke,h1]
  rfl)
 have MW:=K (show ∀ i,k<=i->i<n->(fun i=>match l[i]? with | some y=>!gL (xR y) ((c,d),(g,h)) | none=>true) i=true from fun i hi hi2=>by
  obtain⟨y,hy⟩:∃ y,l[i]?=L y:=⟨_,D (by omega)⟩;obtain⟨e,he,hke,_⟩:=iQ HA.out hy;have h1:=Sb.Gq hr ((c,d),(g,h)) (by rw [hk]; exact hi) he;simp only [hy,hke,h1]
  rfl)
 have HK:=K hk;have HT:=K hth;have HN:=K hn;have ln:n<=1000:=by omega
 clear hv hA h0 X Y Z hk hth hl hn hr;go_enter Try.func29,Try.ntmps29;go_wp2_with fail;generalize ((w.alloc (U #[aj so n sc] 28)).alloc (U #[O Q c,O Q d] 25)).alloc (U #[O Q g,O Q h] 25)=W at *;refine (sU 58 #[V (L ⟨w.heap.size,0,ak⟩),V (L ⟨w.heap.size+1,0,ak⟩),V (L ⟨w.heap.size+1+1,0,ak⟩)] Je n k _ W (by omega) HF.out hkn MV.out MW.out).mono ?_;rintro e1 w1 ⟨rfl,hb⟩;have BN:=K (fun dq osq=>(BB.out.trans (hb.mono BB.out.size)).trans ((below_regrown w1 dq osq).mono (BB.out.trans (hb.mono BB.out.size)).size));have a0:=cell_regrown (show w1.cell? ⟨w.heap.size,0,ak⟩=L (aj so n sc) from (X1.out.on hb).cell 0);have b0:=cell_regrown (show w1.cell? ⟨w.heap.size+1,0,ak⟩=L (O Q c) from (Y1.out.on hb).cell 0);have b1:=cell_regrown (show w1.cell? ⟨w.heap.size+1,1,ak⟩=L (O Q d) from (Y1.out.on hb).cell 1);have c0:=cell_regrown (show w1.cell? ⟨w.heap.size+1+1,0,ak⟩=L (O Q g) from (Z1.out.on hb).cell 0);have c1:=cell_regrown (show w1.cell? ⟨w.heap.size+1+1,1,ak⟩=L (O Q h) from (Z1.out.on hb).cell 1);clear x0 HF MV MW;by_cases hkl:k<n
 ·obtain⟨y,hy⟩:∃ y,l[k]?=L y:=⟨_,D (by rw [HN.out]; exact hkl)⟩;obtain⟨p,ix,p0,p1,p2,p3,p4,p5,p6⟩:=sV HV.out rfl HN.out hy hb;have TH:=K (show th=decide (xR y=((c,d),(g,h))) from by
   obtain⟨e,he,hke,_⟩:=iQ HA.out hy;rw [<- HT.out,gy,HK.out,he,hke])
  have g4:decide ((k:Int)<(n:Int))=true:=by simp; omega
  obtain⟨y1,y2,y3,y4,⟨yo,yn,yc⟩,y6,y7⟩:=y;simp only at p0 p1 p2 p3;clear p4 p5 p6 hb hy;obtain⟨r1,hr1⟩:∃ r,(y1 == c && y2 == d)=r:=⟨_,rfl⟩;obtain⟨r2,hr2⟩:∃ r,(y3 == g && y4 == h)=r:=⟨_,rfl⟩;have e1:=Ag y1 y2 c d r1 hr1;have e2:=Ag y3 y4 g h r2 hr2;have R:=K (show th=(r1 && r2) from by
   rw [TH.out,<- hr1,<- hr2,Bool.eq_iff_iff];simp only [decide_eq_true_eq,Bool.and_eq_true,beq_iff_eq,Prod.mk.injEq])
  clear hr1 hr2 TH HT;cases r1 <;> cases r2
  all_goals
   go_wp2;refine wp_region_quiet_below (by kernel_rfl) (by kernel_rfl) ?_
   repeat (go_big_quiet_step (fail))
   refine wpQuiet_nil ?_;intro _ hw';obtain⟨⟨dq,osq⟩,hw''⟩:=hw';subst hw'';go_wp2
   go_ret2
   exact⟨by rw [R.out]; rfl,BN.out _ _⟩
 ·have TH:=K (show th=false from by
   rw [<- HT.out,gy,HK.out,List.getElem?_eq_none (by rw [<- HA.out.len,HN.out]; omega)])
  have g4:decide ((k:Int)<(n:Int))=false:=by simp; omega
  clear hb HT;go_wp2;refine wp_region_quiet_below (by kernel_rfl) (by kernel_rfl) ?_
  repeat (go_big_quiet_step (fail))
  refine wpQuiet_nil ?_;intro _ hw';obtain⟨⟨dq,osq⟩,hw''⟩:=hw';subst hw'';go_wp2
  go_ret2
  exact⟨by rw [TH.out]; rfl,BN.out _ _⟩
end Go.Proofs.Ytmklifheakemeaa.Sb
