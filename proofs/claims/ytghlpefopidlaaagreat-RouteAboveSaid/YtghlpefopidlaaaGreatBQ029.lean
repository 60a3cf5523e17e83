/-
  What Get of package . Conditions as told.
-/
import Derived.Test.YtghlpefopidlaaaGreatBQ025
set_option maxRecDepth 100000
set_option maxHeartbeats 64000000
open _root_.Bool renaming false->aO,true->bC
open _root_.Go renaming World->ak,Value->aA,maxLen->aR,Calls->bI,TypeId->dh
open Go.Act renaming eval->aS,put->aV
open Go.Builtin renaming copy_->aF,append_->aG
open Go.DataW renaming trod->aI,trod_int->aK,trod_struct->bL
open Go.Ending renaming returned->aB
open Go.Extern.SlicesOverlaps renaming overlaps->aM
open Go.Instr renaming sliceAt->Y,indexAt->cu
open Go.IntKind renaming i64->ah,wrap_i64->aN
open Go.Lib renaming hid->Z,run_overlaps_apart->bf
open Go.Obj renaming cells->au
open Go.Proofs.Tryz renaming prog->O,underlying3->ay,underlying48->aW,ntmps157->bJ,func157->bK,ntmps43->bN,func43->bP,ntmps171->bZ,func171->cK
open Go.Region renaming binds->aQ
open Go.RowKit renaming Below->aX
open Go.RowKit.Below renaming refl->aC
open Go.Value renaming slice->J,int->aj,string->aP,ownBlock->bU,cells->cZ
open _root_.List renaming getElem?_eq_getElem->aD,getElem?_eq_some_iff->aU,take_of_length_le->aY,drop_of_length_le->aZ,drop_succ_cons->bG,take_succ_cons->bH,length_map->bQ,drop_zero->bW,take_zero->bY
open _root_.Nat renaming le_refl->aH,le_trans->aJ,lt_of_lt_of_le->aT,lt_or_ge->bg,zero_le->bD,mul_le_mul->bV,zero_add->cB
open _root_.Option renaming none->U,some->X
open _root_.Or renaming inr->bF,inl->cO
namespace Go.Proofs.YtghlpefopidlaaaGreat
namespace At
open Go.RowKit Go.Sort Va In
end At
namespace Rl
open Go.RowKit Pu Rw Pr
end Rl
namespace Rl
open Go.RowKit Go.Sort Pu Rw Pr Va
theorem Qs {α:Type} (f:α->Bool) (l:List α) (m:Nat) (h:l.length=m):(l.take m).all f=l.all f:=by rw [<- h,List.take_length]
theorem Fp (pv qv:aA) (p b:List Cn) (w:ak) (hp:fF w pv (p.map r5)) (hl:fF w qv (b.map r5)) (np:NF p) (nb:NF b) :
  bI O 27 #[pv,qv] w fun e w'=>e=aB (.bool (mG p b))/\Below w.heap.size w w':=by
 have CO:=Z (IV (a:=p) nb.rise);have HP:=Z hp;have HL:=Z hl;have h5:b.length<=100:=by have:=nb.five; omega
 have GP:=Z np.fJ;have GB:=Z nb.fJ;have m5:p.length<=5:=np.five;obtain⟨ao,ac,rfl⟩:=hp.len;rw [bQ] at HP ⊢;generalize hm:p.length=m at *;have HM:=Z hm;generalize mG p b=r at *;clear hp hl hm np nb;go_enter Tryz.func27,Tryz.ntmps27;go_wp2
 go_loopw [11] (fun i wr=>∃ k:Nat,k<=m/\i=aj ah k/\Below w.heap.size w wr/\(p.take k).all (EB b)=bC) (fun i _=>m-(intOf i).toNat)
 case atStart=>exact⟨0,bD _,rfl,aC _ _,rfl⟩
 case round =>
  obtain⟨k,hk,rfl,hb,hall⟩:=hrel;have HB:=Z hb;have AL:=Z hall;clear hb hall;by_cases hlt:k<m
  ·obtain⟨⟨xn,xk⟩,hx⟩:∃ x,p[k]?=X x:=⟨_,aD (by rw [HM.out]; exact hlt)⟩;obtain⟨q,ix,px⟩:=VW (x:=r5 (xn,xk)) HP.out rfl (by rw [bQ]; exact HM.out) (by rw [List.getElem?_map,hx]; rfl);obtain⟨p0,p1,p2,p3,p4⟩:=px _ HB.out;have MO:=Z (Lp (EB b) p k (xn,xk) hx);have NO:=Z (fun h=>P7 (EB b) p k (xn,xk) hx h);have GX:=Z (GP.out _ (List.mem_of_getElem? hx));have BX:=Z (show dG (wr.alloc (au #[aP xn,aj ah (kN xk),aj ah (mE xk),aj ah (mF xk),aP (kT xk)] 91)) wr.heap.size (cells5 (xn,kN xk,mE xk,mF xk,kT xk)).toArray 91 from dO wr _ _);have B1:=Z (HB.out.alloc HB.out.size (au #[aP xn,aj ah (kN xk),aj ah (mE xk),aj ah (mF xk),aP (kT xk)] 91));have G:=Z (vT qv b xn (wr.alloc (au #[aP xn,aj ah (kN xk),aj ah (mE xk),aj ah (mF xk),aP (kT xk)] 91)) (HL.out.on B1.out) h5);have GC:=Z (show EB b (xn,xk)=match Pp b xn with
    | some y=>iI y.2 xk
    | none=>aO from rfl)
   obtain⟨gg,hgg⟩:∃ g,EB b (xn,xk)=g:=⟨_,rfl⟩;rw [hgg] at GC MO NO;simp only [r5] at p0 p1 p2 p3 p4;clear hx px hgg;go_wp2_with fail;refine G.out.mono ?_;rintro e2 w2 ⟨he2,hb2⟩;have B2:=Z (B1.out.trans (hb2.mono B1.out.size));obtain⟨x0,x1,x2,x3,x4⟩:=gJ (BX.out.on hb2);simp only at x0 x1 x2 x3 x4;have hwl:wr.heap.size<w2.heap.size:=by have:=hb2.size; simp at this; omega
   rcases hg:Pp b xn with _|⟨yn,yk⟩
   ·rw [hg] at he2 GC;subst he2;have R:=Z (show r=aO by rw [CO.out]; exact NO.out GC.out);clear hb2 G B1 BX ix p0 p1 p2 p3 p4 hg;unfold Ud;go_wp2;go_ret;exact⟨eX R.out.symm,B2.out.alloc B2.out.size _⟩
   ·obtain⟨hm1,hm2⟩:=Ld hg;obtain rfl:yn=xn:=hm2;rw [hg] at he2 GC;subst he2;have WC:=Z (fun W=>Jg yn xk yk W GX.out (GB.out _ hm1));simp only [r5] at WC;clear hb2 G B1 BX ix p0 p1 p2 p3 p4 hg hm1;unfold Ud;simp only [r5];go_wp2_with fail;refine (WC.out _).mono ?_;rintro e3 w3 ⟨rfl,hb3⟩;have B3:=Z ((B2.out.alloc B2.out.size (au #[aP yn,aj ah (kN yk),aj ah (mE yk),aj ah (mF yk),aP (kT yk)] 91)).trans (hb3.mono (B2.out.alloc B2.out.size (au #[aP yn,aj ah (kN yk),aj ah (mE yk),aj ah (mF yk),aP (kT yk)] 91)).size));rw [<- GC.out];clear hb3 B2 x0 x1 x2 x3 x4 hwl WC;cases gg
    ·have R:=Z (show r=aO by rw [CO.out]; exact NO.out rfl);go_wp2;go_ret;exact⟨eX R.out.symm,B3.out⟩
    ·go_wp2
     go_roundw
     case rel=>exact⟨k+1,by omega,by go_num,B3.out,by rw [MO.out,AL.out]; rfl⟩
     case measure=>simp [intOf]; omega
  ·obtain rfl:k=m:=by omega
   have R:=Z (show r=bC by rw [CO.out,<- Qs _ p _ HM.out]; exact AL.out);go_wp2;go_ret;exact⟨eX R.out.symm,HB.out⟩
end Rl
namespace Av
open Go.RowKit Rw YtghlpefopidlaaaGreat.Nm Pr Bk
theorem Mw {W:ak} {b:Nat} {c:jl} (h:dG W b (iU c).toArray 67):mP W (J (X ⟨b,0,U⟩) 1 1) [c] :=
 bF ⟨⟨b,0,U⟩,1,rfl,by simp,by decide,nS h (by simp [EN])⟩
def wo (B:Nat) (l:List jl) (k:Nat) (c:jl) (vv:aA) (W:ak) (e:Ending) (w':ak):Prop:=∃ v',e=aB v'/\jM w' B v' (l.take k++c::l.drop k)/\aX B W w'/\(∀ j,j<W.heap.size->X j≠vv.ownBlock->w'.heap[j]?=W.heap[j]?)
theorem Db (B:Nat) (v:aA) (l:List jl) (c:jl) (b:Nat) (W:ak) (ho:jM W B v l) (hx:dG W b (iU c).toArray 67) (hl:l.length<=900) (hB:B<=W.heap.size) :
  bI O 157 #[v,aj ah (l.length:Nat),J (X ⟨b,0,U⟩) 1 1] W (wo B l l.length c v W):=by
 obtain⟨v',w',hr,ho2,hg⟩:=kr lY B ho (Mw hx) (by omega) (by simp) hB 27;have hr:(aG #[27,27] 27 #[v,J (X ⟨b,0,U⟩) 1 1]).run O W=.ok v' w':=hr;have Q:=Z (show wo B l l.length c v W (aB v') w' from ⟨v',rfl,by rw [aY (aH _),aZ (aH _)]; exact ho2,(aC B W).grown hg hB (fun j hj=>(ho.lt j hj).1),fun j hj hne=>hg.block j hj hne⟩);obtain⟨sx,hs,_⟩:=uU lY (Row.dH ho) l.length (aH _);have hs:∀ w,(Y 27 v (X (aj ah l.length)) U U).run O w=.ok sx w:=hs;obtain⟨ao,ac,rfl⟩:=(Row.dH ho).len;clear ho ho2 hg;generalize hn:l.length=n at *;clear hn;go_enter bK,bJ;go_wp2_with (first | (at_builtin; refine wpList_append_run rfl _ _ 27 rfl rfl rfl hr ?_) | fail);go_ret;exact Q.out
theorem Mx (w:ak) (g b k la lb cb:Nat) (cur cs:Array aA) (hb:dG w b cs 67) (hg:dG w g cur 67) (hne:b≠g) (h0:0<cur.size):(callFunc 181 #[J (X ⟨b,0,U⟩) la 1,J (X ⟨g,k,U⟩) lb cb]).run O w=.ok (.value (.bool aO)) w:=by
 rw [run_callFunc_extern Tryz.func181 (by kernel_rfl) (by kernel_rfl) (by kernel_rfl) (e:=aM #[27,27] #[4]) (by kernel_rfl),
  bf w 27 4 67 Tryz.underlying27 7 Tryz.sizeOf67 ⟨b,0,U⟩ ⟨g,k,U⟩ la 1 lb cb hne 67 67 cs.size cur.size hb.shape hg.shape (by omega) (hb.fr 0) (hb.fr _)]
 rfl
theorem xY (B g n cap:Nat) (cur:Array aA) (l:List jl) (k:Nat) (c:jl) (b:Nat) (W:ak) (hn:n=l.length) (hBg:B<=g) (hg:dG W g cur 67) (hcm:cap<=aR) (hsz:cur.size=cap * 7) (ht:cur.toList.take (n * 7)=flat EN l) (hx:dG W b (iU c).toArray 67) (hne:b≠g) (hk:k<n) (hroom:n+1<=cap) (hl:n<=900) :
  bI O 157 #[J (X ⟨g,0,U⟩) n cap,aj ah k,J (X ⟨b,0,U⟩) 1 1] W (wo B l k c (J (X ⟨g,0,U⟩) n cap) W):=by
 obtain⟨R1,R2,r1,r2,ow⟩:=nk (E:=EN) (l:=l) (k:=k) (cap:=cap) (cur:=cur) (cs:=(iU c).toArray) (c:=c) lY (by omega) (by omega) hsz (by rw [<- hn]; exact ht) g b hne;have hov:=fun lb cb=>Mx W g b ((k+1) * 7) 1 lb cb cur (iU c).toArray hx hg hne (by omega);have s0:=fE (E:=EN) lY g k n cap (by omega) (by omega);have s1:=iQ (E:=EN) lY ⟨g,0,U⟩ (n+1) n cap (by omega);have s2:=fE (E:=EN) lY g (k+1) (n+1) cap (by omega) (by omega);have s3:=fE (E:=EN) lY g k (n+1) cap (by omega) (by omega);have q1:=r1 W.drew 3 (n+1-(k+1)) (cap-(k+1)) (n+1-k) (cap-k) hg (by omega);have q2:=r2 (W.drew.setRow g R1) 3 (n+1-k) (cap-k) (dG.set (show dG W.drew g cur 67 from hg) R1) (dG.other (show dG W.drew b _ 67 from hx) hne R1) rfl (by omega);have Q:=Z (show wo B l k c (J (X ⟨g,0,U⟩) n cap) W (aB (J (X ⟨g,0,U⟩) (n+1) cap)) ((W.drew.setRow g R1).setRow g R2) from ⟨_,rfl,by rw [hn]; exact ow _ B hBg hcm (dG.set (dG.set (show dG W.drew g cur 67 from hg) R1) R2),below_setRow (below_setRow (aC B W).drew hBg _) hBg _,fun j hj hne=>(setRow_other _ g j _ (fun e=>hne (by rw [e]; rfl))).trans (setRow_other _ g j _ (fun e=>hne (by rw [e]; rfl)))⟩);clear r1 r2 ow hg ht hx hsz hBg hcm;change ∀ w,(Y 27 (J (X ⟨g,0,U⟩) n cap) (X (aj ah k)) U U).run O w=.ok (J (X ⟨g,k * 7,U⟩) (n-k) (cap-k)) w at s0;change ∀ w,(Y 27 (J (X ⟨g,0,U⟩) n cap) U (X (aj ah ((n:Int)+1))) U).run O w=.ok (J (X ⟨g,0,U⟩) (n+1) cap) w at s1;change ∀ w,(Y 27 (J (X ⟨g,0,U⟩) (n+1) cap) (X (aj ah ((k:Int)+1))) U U).run O w=.ok (J (X ⟨g,(k+1) * 7,U⟩) (n+1-(k+1)) (cap-(k+1))) w at s2;change ∀ w,(Y 27 (J (X ⟨g,0,U⟩) (n+1) cap) (X (aj ah k)) U U).run O w=.ok (J (X ⟨g,k * 7,U⟩) (n+1-k) (cap-k)) w at s3;have e1:((k:Int) == (n:Int))=aO:=by rw [beq_eq_false_iff_ne]; omega
 have e2:decide ((cap:Int)<(n:Int)+1)=aO:=by simp; omega
 change (aF #[27,27] 3 #[J (X ⟨g,(k+1) * 7,U⟩) (n+1-(k+1)) (cap-(k+1)),J (X ⟨g,k * 7,U⟩) (n+1-k) (cap-k)]).run O W.drew=.ok (aj ah ((l.length-k:Nat):Int)) (W.drew.setRow g R1) at q1;change (aF #[27,27] 3 #[J (X ⟨g,k * 7,U⟩) (n+1-k) (cap-k),J (X ⟨b,0,U⟩) 1 1]).run O (W.drew.setRow g R1)=.ok (aj ah 1) ((W.drew.setRow g R1).setRow g R2) at q2;clear hn;go_enter bK,bJ;go_wp2_with (first | (simp only [hov]) | fail);clear hov s0 s1 s2 s3;have hw1:IntKind.i64.wrap ((k:Int)+1)=(k:Int)+1:=by rw [aN]; omega
 have hb1:(0:Int)<=(k:Int)+1:=by omega
 have hb0:(k:Int)+1<=(n:Int)+1:=by omega
 have htn:((k:Int)+1).toNat=k+1:=by omega
 have hb2:¬ (cap=k+1):=by omega
 have hb3:(k:Int)<=(n:Int)+1:=by omega
 have hb4:¬ (cap=k):=by omega
 have h81:n+1-(k+1)=n-k:=by omega
 rw [h81] at q1;clear h81
 go_region_law (refine gq rfl (.tmp 73) (.tmp 76) 27 rfl (v:=J (X ⟨g,(k+1) * 7,U⟩) (n-k) (cap-(k+1))) (xv:=J (X ⟨g,k * 7,U⟩) (n+1-k) (cap-k)) (by simp [aS,aV]) (by simp [aS,aV]) q1 ?_)
 all_goals simp only [Exit.then]
 all_goals apply_assumption
 clear q1 hw1 hb1 hb0 htn hb2 hb3 hb4;have s3:=fE (E:=EN) lY g k (n+1) cap (by omega) (by omega);change ∀ w,(Y 27 (J (X ⟨g,0,U⟩) (n+1) cap) (X (aj ah k)) U U).run O w=.ok (J (X ⟨g,k * 7,U⟩) (n+1-k) (cap-k)) w at s3;go_wp2_with (first | (at_builtin; refine wpList_copy_run rfl _ _ 27 rfl rfl rfl q2 ?_) | fail);go_ret;exact Q.out
theorem Aw (B g n cap:Nat) (cur:Array aA) (l:List jl) (k:Nat) (c:jl) (b:Nat) (W:ak) (hn:n=l.length) (hg:dG W g cur 67) (hcm:cap<=aR) (hnc:n<=cap) (ht:cur.toList.take (n * 7)=flat EN l) (hx:dG W b (iU c).toArray 67) (hk:k<n) (hroom:cap<n+1) (hl:n<=900) (hB:B<=W.heap.size) :
  bI O 157 #[J (X ⟨g,0,U⟩) n cap,aj ah k,J (X ⟨b,0,U⟩) 1 1] W (wo B l k c (J (X ⟨g,0,U⟩) n cap) W):=by
 have hgw:=hg.lt;have hbw:=hx.lt;obtain⟨G,R1,R2,R3,hG1,hG2,r1,r2,r3,ow⟩:=oN (E:=EN) (l:=l) (k:=k) (cap:=cap) (cur:=cur) (cs:=(iU c).toArray) (c:=c) lY 3 ay (by omega) (by omega) (by omega) (by omega) (by rw [<- hn]; exact ht) W g b hg hbw;unfold aR at hcm hG2;have s0:=fE (E:=EN) lY g k n cap (by omega) (by omega);have s1:=iQ (E:=EN) lY ⟨g,0,U⟩ k n cap (by omega);have s2:=fE (E:=EN) lY W.heap.size k (n+1) G (by omega) (by omega);have s3:=fE (E:=EN) lY W.heap.size (k+1) (n+1) G (by omega) (by omega);have a1:=r1 27;have n1:=dO W.drew R1 67;have bl:W.drew.heap.size=W.heap.size:=rfl;rw [bl] at n1;have g1:dG (W.drew.alloc (au R1 67)) g cur 67:=dG.more (show dG W.drew g cur 67 from hg) _;have x1:dG (W.drew.alloc (au R1 67)) b (iU c).toArray 67:=dG.more (show dG W.drew b _ 67 from hx) _;have q2:=r2 (W.drew.alloc (au R1 67)) 3 (n+1-k) (G-k) n1 x1 rfl (by omega);have q3:=r3 ((W.drew.alloc (au R1 67)).setRow W.heap.size R2).drew 3 (n+1-(k+1)) (G-(k+1)) (n-k) (cap-k) (dG.set n1 R2) (dG.other g1 (by omega) R2) (by omega);have Q:=Z (show wo B l k c (J (X ⟨g,0,U⟩) n cap) W (aB (J (X ⟨W.heap.size,0,U⟩) (n+1) G)) (((W.drew.alloc (au R1 67)).setRow W.heap.size R2).drew.setRow W.heap.size R3) from ⟨_,rfl,by rw [hn]; exact ow _ B hB (dG.set (dG.set n1 R2) R3),below_setRow (below_setRow ((aC B W).drew.alloc hB _) hB _).drew hB _,fun j hj _=>(setRow_other _ W.heap.size j _ (by omega)).trans ((setRow_other _ W.heap.size j _ (by omega)).trans (Array.getElem?_push_lt hj |>.trans (Array.getElem?_eq_getElem hj).symm))⟩);have l1:l.length+1=n+1:=by rw [hn]
 rw [l1,<- hn] at a1;clear r1 r2 r3 ow hg ht hx g1 x1 n1 bl l1;change ∀ w,(Y 27 (J (X ⟨g,0,U⟩) n cap) (X (aj ah k)) U U).run O w=.ok (J (X ⟨g,k * 7,U⟩) (n-k) (cap-k)) w at s0;change ∀ w,(Y 27 (J (X ⟨g,0,U⟩) n cap) U (X (aj ah k)) U).run O w=.ok (J (X ⟨g,0,U⟩) k cap) w at s1;change ∀ w,(Y 27 (J (X ⟨W.heap.size,0,U⟩) (n+1) G) (X (aj ah k)) U U).run O w=.ok (J (X ⟨W.heap.size,k * 7,U⟩) (n+1-k) (G-k)) w at s2;change ∀ w,(Y 27 (J (X ⟨W.heap.size,0,U⟩) (n+1) G) (X (aj ah ((k:Int)+1))) U U).run O w=.ok (J (X ⟨W.heap.size,(k+1) * 7,U⟩) (n+1-(k+1)) (G-(k+1))) w at s3;change (aG #[27,3] 27 #[J (X ⟨g,0,U⟩) k cap,aj ah ((n:Int)+1-k)]).run O W=.ok (J (X ⟨W.heap.size,0,U⟩) (n+1) G) (W.drew.alloc (au R1 67)) at a1;change (aF #[27,27] 3 #[J (X ⟨W.heap.size,k * 7,U⟩) (n+1-k) (G-k),J (X ⟨b,0,U⟩) 1 1]).run O (W.drew.alloc (au R1 67))=.ok (aj ah 1) ((W.drew.alloc (au R1 67)).setRow W.heap.size R2) at q2;change (aF #[27,27] 3 #[J (X ⟨W.heap.size,(k+1) * 7,U⟩) (n+1-(k+1)) (G-(k+1)),J (X ⟨g,k * 7,U⟩) (n-k) (cap-k)]).run O ((W.drew.alloc (au R1 67)).setRow W.heap.size R2).drew=.ok (aj ah ((l.length-k:Nat):Int)) (((W.drew.alloc (au R1 67)).setRow W.heap.size R2).drew.setRow W.heap.size R3) at q3;have e1:((k:Int) == (n:Int))=aO:=by rw [beq_eq_false_iff_ne]; omega
 have e2:decide ((cap:Int)<(n:Int)+1)=bC:=by simp; omega
 have hGn:n+1<=G:=by omega
 clear hn;generalize W.heap.size=N at *;generalize W.drew.alloc (au R1 67)=W1 at *;generalize W1.setRow N R2=W2 at *;go_enter bK,bJ;go_wp2_with (first | (at_builtin; refine gN rfl _ _ 27 3 rfl rfl rfl a1 ?_) | (at_builtin; refine wpList_copy_run rfl _ _ 27 rfl rfl rfl q2 ?_) | fail);clear a1 q2 s0 s1 s2 s3;have hw1:IntKind.i64.wrap ((k:Int)+1)=(k:Int)+1:=by rw [aN]; omega
 have hb1:(0:Int)<=(k:Int)+1:=by omega
 have hb0:(k:Int)+1<=(n:Int)+1:=by omega
 have htn:((k:Int)+1).toNat=k+1:=by omega
 have hb2:¬ (G=k+1):=by omega
 have hb3:(k:Int)<=(n:Int):=by omega
 have hb4:¬ (cap=k):=by omega
 have h81:n+1-(k+1)=n-k:=by omega
 rw [h81] at q3;clear h81
 go_region_law (refine gq rfl (.tmp 50) (.tmp 53) 27 rfl (v:=J (X ⟨N,(k+1) * 7,U⟩) (n-k) (G-(k+1))) (xv:=J (X ⟨g,k * 7,U⟩) (n-k) (cap-k)) (by simp [aS,aV]) (by simp [aS,aV]) q3 ?_)
 all_goals simp only [Exit.then]
 all_goals apply_assumption
 go_wp2;go_ret;exact Q.out
theorem tZ (B:Nat) (v:aA) (l:List jl) (k:Nat) (c:jl) (b:Nat) (W:ak) (ho:jM W B v l) (hx:dG W b (iU c).toArray 67) (hne:v.ownBlock≠X b) (hk:k<=l.length) (hl:l.length<=900) (hB:B<=W.heap.size) :
  bI O 157 #[v,aj ah k,J (X ⟨b,0,U⟩) 1 1] W (wo B l k c v W):=by
 rcases bg k l.length with h|h
 ·rcases eZ ho with⟨_,h2⟩|⟨g,cap,cur,rfl,h1,h2,h3,h4,h5,h6⟩
  ·rw [h2] at h; simp at h
  ·rcases bg cap (l.length+1) with h7|h7
   ·exact Aw B g _ cap cur l k c b W rfl h2 h4 h3 h6 hx h h7 hl hB
   ·exact xY B g _ cap cur l k c b W rfl h1 h2 h4 h5 h6 hx (fun e=>hne (by simp [bU,e])) h h7 hl
 ·obtain rfl:k=l.length:=by omega
  exact Db B v l c b W ho hx hl hB
end Av
namespace Bk
open Go.RowKit Go.Sort Rw YtghlpefopidlaaaGreat.Nm Pr
end Bk
namespace Bk
open Go.RowKit Go.Sort Rw YtghlpefopidlaaaGreat.Nm Pr
end Bk
namespace Pr
open Go.RowKit Pu Rw
theorem MF {α:Type} {E:Ek α} (K:E.Ok) (tn:dh) (htn:Tryz.prog.underlying tn=X (.int .i64)) (n:Nat) (h0:0<n) (hn:n<=1000) (W:ak) :
  ∃ (G:Nat) (R:Array aA),n<=G/\G<=aR/\R.size=G * E.n /\
   ∀ ty,(aG #[E.ts,tn] ty #[J U 0 0,aj ah n]).run O W=.ok (J (X ⟨W.heap.size,0,U⟩) n G) (W.drew.alloc (au R E.t)):=by
 obtain⟨i,i1,i2,i3,i4⟩:=K.info;have hf:=K.few;have hpos:=K.pos;have happ:=fun ty=>Lib.run_append_grow_zeros (P:=O) W E.ts tn ty E.t i _ ah ah K.hu htn i1 i2 U 0 0 [] (run_firstCells_none _ _ _ _ _) n h0 (by rw [i3]; exact hpos) (by omega) (by omega)
  (by rw [i4]; exact aJ (bV hn hf) (by decide))
  (growslice_fits (by omega) (by rw [i4]; exact aJ (bV (show 0+n<=2000 by omega) hf) (by decide)))
 rw [cB] at happ;have hG1:=grownCap_ge W n 0 E.t;have hG2:=grownCap_le_maxLen W n 0 E.t (by unfold aR; omega);generalize grownCap W n 0 E.t=G at happ hG1 hG2;refine⟨G,_,hG1,hG2,?_,happ⟩;simp only [Array.size_append,List.size_toArray,List.length_nil,size_zeroCells,K.zs,cB,<- Nat.add_mul];rw [show n+(G-n)=G by omega]
def MG (l:List C5) (w:ak) (e:Ending) (w':ak):Prop:=∃ v,e=aB v/\iE w' w.heap.size v l/\aX w.heap.size w w'
theorem MH (n:Nat) (w:ak) (hn:n<=200) :
  bI O 171 #[J U 0 0,aj ah n] w (MG [] w):=by
 rcases Nat.eq_zero_or_pos n with rfl|h0
 ·have Q:=Z (show MG [] w (aB (J U 0 0)) w from ⟨_,rfl,iP _ _,aC _ _⟩);go_enter cK,bZ;go_wp2;go_ret;exact Q.out
 ·obtain⟨G,R,g1,g2,g3,hr⟩:=MF (E:=EC) qZ 3 ay n h0 (by omega) w;have r:=hr 34;have s1:=iQ (E:=EC) qZ ⟨w.heap.size,0,U⟩ 0 n G (bD _);have Q:=Z (show MG [] w (aB (J (X ⟨w.heap.size,0,U⟩) 0 G)) (w.drew.alloc (au R 91)) from
   ⟨_,rfl,kD qZ (l:=[]) rfl (aH _) (dO w.drew R 91) (bD _) g2 g3 (by simp [flat]),(aC _ _).drew.alloc (by simp) _⟩)
  change (aG #[34,3] 34 #[J U 0 0,aj ah (n:Int)]).run O w=.ok (J (X ⟨w.heap.size,0,U⟩) n G) (w.drew.alloc (au R 91)) at r;change ∀ W,(Y 34 (J (X ⟨w.heap.size,0,U⟩) n G) U (X (aj ah 0)) U).run O W=.ok (J (X ⟨w.heap.size,0,U⟩) 0 G) W at s1;have e1:decide ((n:Int)<0)=aO:=by simp
  have e2:decide ((0:Int)<(n:Int))=bC:=by simp; omega
  unfold aR at g2;clear hr g3;go_enter cK,bZ;go_wp2_with (first | (at_builtin; refine gN rfl _ _ 34 3 rfl rfl rfl r ?_) | fail);go_ret;exact Q.out
def aal (n m:Nat) (s i:aA):Prop:=(i=aj ah 0/\s=aj ah 0)\/(i=aj ah 1/\s=aj ah (n:Int))\/(i=aj ah 2/\s=aj ah ((n+m:Nat):Int))
def aam (w:ak) (a b:List C5) (v i:aA) (wr:ak):Prop:=((i=aj ah 0/\iE wr w.heap.size v [])\/(i=aj ah 1/\iE wr w.heap.size v a)\/(i=aj ah 2/\iE wr w.heap.size v (a++b)))/\aX w.heap.size w wr
theorem Fq (g:Nat) (zf bv:aA) (a b:List C5) (w:ak) (c0:w.cell? ⟨g,0,U⟩=X zf) (c1:w.cell? ⟨g,1,U⟩=X bv) (ha:fF w zf a) (hb:fF w bv b) (la:a.length<=100) (lb:b.length<=100) :
  bI O 135 #[J (X ⟨g,0,U⟩) 2 2] w (MG (a++b) w):=by
 have HA:=Z ha;have HB:=Z hb;have C0:=Z c0;have C1:=Z c1;have hg:g<w.heap.size:=World.block_lt_of_cell? w _ c0;obtain⟨ao,ac,rfl⟩:=ha.len;obtain⟨bo,bc,rfl⟩:=hb.len;clear ha hb c0 c1;go_enter Tryz.func135,Tryz.ntmps135;go_wp2
 go_loop [3,11] (fun s i=>aal a.length b.length s i) (fun _ i=>(2-intOf i).toNat)
 case atStart=>exact cO ⟨rfl,rfl⟩
 case round =>
  rcases hrel with⟨rfl,rfl⟩|⟨rfl,rfl⟩|⟨rfl,rfl⟩
  ·have c0:=C0.out;go_wp2
   go_round
   case rel=>exact bF (cO ⟨rfl,rfl⟩)
   case measure=>simp [intOf]
  ·have c1:=C1.out;go_wp2
   go_round
   case rel=>exact bF (bF ⟨rfl,by go_num⟩)
   case measure=>simp [intOf]
  ·have GR:=Z (MH (a.length+b.length) w (by omega));go_wp2_with fail;refine GR.out.mono ?_;rintro e1 w1 ⟨v1,rfl,ho,hb1⟩;have O1:=Z ho;have B1:=Z hb1;clear ho hb1 GR;go_wp2
   go_loopw [6,27] (fun v i wr=>aam w a b v i wr) (fun _ i _=>(2-intOf i).toNat)
   case atStart=>exact⟨cO ⟨rfl,O1.out⟩,B1.out⟩
   case round =>
    obtain⟨hc,hbw⟩:=hrel;have BW:=Z hbw;clear hbw;rcases hc with⟨rfl,ho⟩|⟨rfl,ho⟩|⟨rfl,ho⟩
    ·have c0:=(BW.out.cell (p:=⟨g,0,U⟩) hg).trans C0.out;obtain⟨v',w',r,o',gr⟩:=TR w.heap.size ho (HA.out.on BW.out) (by simp) (by omega) BW.out.size;have B':=Z (BW.out.grown gr BW.out.size (fun j hj=>(ho.lt j hj).1));have O':=Z o';clear ho o' gr;go_wp2_with (first | (at_builtin; refine wpList_append_run rfl _ _ 34 rfl rfl rfl r ?_) | fail)
     go_roundw
     case rel=>exact⟨bF (cO ⟨rfl,O'.out⟩),B'.out⟩
     case measure=>simp [intOf]
    ·have c1:=(BW.out.cell (p:=⟨g,1,U⟩) hg).trans C1.out;obtain⟨v',w',r,o',gr⟩:=TR w.heap.size ho (HB.out.on BW.out) (by omega) (by omega) BW.out.size;have B':=Z (BW.out.grown gr BW.out.size (fun j hj=>(ho.lt j hj).1));have O':=Z o';clear ho o' gr;go_wp2_with (first | (at_builtin; refine wpList_append_run rfl _ _ 34 rfl rfl rfl r ?_) | fail)
     go_roundw
     case rel=>exact⟨bF (bF ⟨rfl,O'.out⟩),B'.out⟩
     case measure=>simp [intOf]
    ·have Q:=Z (show MG (a++b) w (aB _) _ from ⟨_,rfl,ho,BW.out⟩);clear ho;go_wp2;go_ret;exact Q.out
end Pr
namespace Av
open Go.RowKit Go.Sort Rw YtghlpefopidlaaaGreat.Nm Pr Bk
theorem jB {P:Program} (ρ:Operand->aA) (o:Oper) (y:Operand) (k:Nat) (ho:o.op=.extract y k) {c:Array aA} {v:aA} (hx:ρ y=.tuple c) (hv:c[k]?=X v) (w:ak):(execOp ρ o).run P w=.ok (.value v) w:=by
 simp [execOp,ho,hx,hv,go_sem]
end Av
namespace Av
open Go.RowKit Go.ChangeShapes Go.WideShapes Bk
theorem Qt:Tryz.prog.cellsOf 63=7:=by kernel_rfl
theorem Qu (a:Addr) (m len cap:Nat) (h:m<len) (w:ak):(cu 48 (J (X a) len cap) (aj ah m)).run O w=.ok (.pointer (X (a.add (m * 7)))) w:=by
 have h1:(m:Int)<len:=by omega
 simp [go_sem,aW,h1]
structure MI (W:ak) (v:aA) (n:Nat):Prop where
 shape:∃ ao cap,v=J ao n cap
 at_:∀ i:Nat,i<n->∃ (p:Addr) (z0 z1 z2 z3 z4:Int) (h1:Option Addr) (h2 h3:Nat) (g1:Option Addr) (g2 g3:Nat) (has vals:List Int),p.block<W.heap.size/\(∀ w,(cu 48 v (aj ah i)).run O w=.ok (.pointer (X p)) w)/\(∀ j u,([aj ah z0,aj ah z1,aj ah z2,aj ah z3,aj ah z4,J h1 h2 h3,J g1 g2 g3]:List aA)[j]?=X u->W.cell? (p.add j)=X u)/\((-9223372036854775808<=z0/\z0<=9223372036854775807)/\(-9223372036854775808<=z1/\z1<=9223372036854775807)/\(-9223372036854775808<=z2/\z2<=9223372036854775807)/\(-9223372036854775808<=z3/\z3<=9223372036854775807)/\(-9223372036854775808<=z4/\z4<=9223372036854775807))/\In.mO W (J h1 h2 h3) has/\In.mO W (J g1 g2 g3) vals/\has.length<=aR/\vals.length<=aR
theorem MI.on {W W':ak} {v:aA} {n:Nat} (h:MI W v n) (hb:aX W.heap.size W W'):MI W' v n :=
 ⟨h.shape,fun i hi=>by
  obtain⟨p,z0,z1,z2,z3,z4,x1,x2,x3,y1,y2,y3,has,vals,h1,h2,h3,h4,h5,h6,h7⟩:=h.at_ i hi;exact⟨p,z0,z1,z2,z3,z4,x1,x2,x3,y1,y2,y3,has,vals,aT h1 hb.size,h2,fun j u hu=>by rw [hb.cell (by rw [nX]; exact h1)]; exact h3 j u hu,h4,h5.on hb,h6.on hb,h7⟩⟩
theorem Uo {H:Type} {enc:dh×aA->H} {W:ak} {r:Reach} {b0:Nat} {sp:Nat->Bool} {held:Bool} {v:aA} {d:DataW H} {ps:List MemPlace}
  (hval:Value.okWide O W r b0 48 v) (hd:DataW.Trod enc O W 0 sp held 48 v d ps):∃ n:Nat,n<=aR/\MI W v n:=by
 obtain⟨ao,al,ac,rfl⟩:=okWide_slice aW hval;obtain⟨fuel,hf⟩:=hd;rcases Deep.open_slice aW hf with⟨h1,_⟩|⟨a,len,cap,m,n,D,Pl,h1,_,h3,h4,h5,_,hx⟩
 ·have e:J ao al ac=J U 0 0:=by simpa [cZ] using h1
  exact⟨0,bD _,⟨U,0,e⟩,fun i hi=>by omega⟩
 ·have e:J ao al ac=J (X a) len cap:=by simpa [cZ] using h1
  rw [e];have hle:len<=m:=by rw [h5]; split <;> omega
  refine⟨len,by omega,⟨X a,cap,rfl⟩,fun i hi=>?_⟩;obtain⟨cs',k1,k2⟩:=hx i (by omega);obtain⟨xs,n',_,_,hcl,hxl,hy⟩:=bL Tryz.underlying63 k2;rw [Qt] at hcl k1
  match cs',hcl with
  | [c0,c1,c2,c3,c4,c5,d1],_ =>
   have f0:aI enc O W 0 sp held n' 3 (([c0,c1,c2,c3,c4,c5,d1].drop 0).take (Tryz.prog.cellsOf 3))=xs[0]?:=hy 0 _ rfl;have f1:aI enc O W 0 sp held n' 3 (([c0,c1,c2,c3,c4,c5,d1].drop 1).take (Tryz.prog.cellsOf 3))=xs[1]?:=hy 1 _ rfl;have f2:aI enc O W 0 sp held n' 3 (([c0,c1,c2,c3,c4,c5,d1].drop 2).take (Tryz.prog.cellsOf 3))=xs[2]?:=hy 2 _ rfl;have f3:aI enc O W 0 sp held n' 3 (([c0,c1,c2,c3,c4,c5,d1].drop 3).take (Tryz.prog.cellsOf 3))=xs[3]?:=hy 3 _ rfl;have f4:aI enc O W 0 sp held n' 3 (([c0,c1,c2,c3,c4,c5,d1].drop 4).take (Tryz.prog.cellsOf 3))=xs[4]?:=hy 4 _ rfl;have fp:aI enc O W 0 sp held n' 52 (([c0,c1,c2,c3,c4,c5,d1].drop 5).take (Tryz.prog.cellsOf 52))=xs[5]?:=hy 5 _ rfl;have ac9:xs.length=5+1:=hxl;simp only [In.KJ,Pr.Ue,bW,bG,bH,bY] at f0 f1 f2 f3 f4 fp;rw [aD (by omega)] at f0 f1 f2 f3 f4 fp;obtain⟨m0,e0,_,w0⟩:=aK ay f0;obtain⟨m1,e1,_,w1⟩:=aK ay f1;obtain⟨m2,e2,_,w2⟩:=aK ay f2;obtain⟨m3,e3,_,w3⟩:=aK ay f3;obtain⟨m4,e4,_,w4⟩:=aK ay f4;simp only [List.cons.injEq,and_true] at e0 e1 e2 e3 e4;subst e0 e1 e2 e3 e4;obtain⟨ys,n2,_,_,_,hyl,hp⟩:=bL Tryz.underlying52 fp;have ada:ys.length=2:=hyl;have q0:aI enc O W 0 sp held n2 24 (([c5,d1].drop 0).take (Tryz.prog.cellsOf 24))=ys[0]?:=hp 0 _ rfl;have q1:aI enc O W 0 sp held n2 24 (([c5,d1].drop 1).take (Tryz.prog.cellsOf 24))=ys[1]?:=hp 1 _ rfl;simp only [Pr.Qh,bW,bG,bH,bY] at q0 q1;rw [aD (by omega)] at q0 q1;obtain⟨has,l1,i1⟩:=In.Gu q0;obtain⟨vals,l2,i2⟩:=In.Gu q1;obtain⟨x1,y1,rfl⟩:=i1.shape;obtain⟨x2,y2,rfl⟩:=i2.shape;obtain⟨_,_,k3⟩:=World.cells?_some k1;have k0:=k3 0 (by decide);rw [Rw.add_zero] at k0;refine⟨a.add (i * 7),m0,m1,m2,m3,m4,x1,_,y1,x2,_,y2,has,vals,World.block_lt_of_cell? W _ k0,fun w=>Qu a i len cap hi w,fun j u hu=>?_,⟨In.pV w0,In.pV w1,In.pV w2,In.pV w3,In.pV w4⟩,i1,i2,l1,l2⟩;have hj:j<7:=(aU.1 hu).1;rw [<- hu];exact k3 j hj
end Av
namespace Rt
open Go.RowKit Rw YtghlpefopidlaaaGreat.Nm Pr Bk
theorem MJ {W:ak} {b:Nat} {c:lZ} (h:dG W b (jF c).toArray 88):Es W (J (X ⟨b,0,U⟩) 1 1) [c] :=
 bF ⟨⟨b,0,U⟩,1,rfl,by simp,by decide,nS h (by simp [EW])⟩
def wu (B:Nat) (l:List lZ) (k:Nat) (c:lZ) (vv:aA) (W:ak) (e:Ending) (w':ak):Prop:=∃ v',e=aB v'/\oP w' B v' (l.take k++c::l.drop k)/\aX B W w'/\(∀ j,j<W.heap.size->X j≠vv.ownBlock->w'.heap[j]?=W.heap[j]?)
theorem Dc (B:Nat) (v:aA) (l:List lZ) (c:lZ) (b:Nat) (W:ak) (ho:oP W B v l) (hx:dG W b (jF c).toArray 88) (hl:l.length<=900) (hB:B<=W.heap.size) :
  bI O 43 #[v,aj ah (l.length:Nat),J (X ⟨b,0,U⟩) 1 1] W (wu B l l.length c v W):=by
 obtain⟨v',w',hr,ho2,hg⟩:=kr okW B ho (MJ hx) (by omega) (by simp) hB 28;have hr:(aG #[28,28] 28 #[v,J (X ⟨b,0,U⟩) 1 1]).run O W=.ok v' w':=hr;have Q:=Z (show wu B l l.length c v W (aB v') w' from ⟨v',rfl,by rw [aY (aH _),aZ (aH _)]; exact ho2,(aC B W).grown hg hB (fun j hj=>(ho.lt j hj).1),fun j hj hne=>hg.block j hj hne⟩);obtain⟨sx,hs,_⟩:=uU okW (Row.dH ho) l.length (aH _);have hs:∀ w,(Y 28 v (X (aj ah l.length)) U U).run O w=.ok sx w:=hs;obtain⟨ao,ac,rfl⟩:=(Row.dH ho).len;clear ho ho2 hg;generalize hn:l.length=n at *;clear hn;go_enter bP,bN;go_wp2_with (first | (at_builtin; refine wpList_append_run rfl _ _ 28 rfl rfl rfl hr ?_) | fail);go_ret;exact Q.out
theorem MN (w:ak) (g b k la lb cb:Nat) (cur cs:Array aA) (hb:dG w b cs 88) (hg:dG w g cur 88) (hne:b≠g) (h0:0<cur.size):(callFunc 112 #[J (X ⟨b,0,U⟩) la 1,J (X ⟨g,k,U⟩) lb cb]).run O w=.ok (.value (.bool aO)) w:=by
 rw [run_callFunc_extern Tryz.func112 (by kernel_rfl) (by kernel_rfl) (by kernel_rfl) (e:=aM #[28,28] #[4]) (by kernel_rfl),
  bf w 28 4 88 Tryz.underlying28 3 Tryz.sizeOf88 ⟨b,0,U⟩ ⟨g,k,U⟩ la 1 lb cb hne 88 88 cs.size cur.size hb.shape hg.shape (by omega) (hb.fr 0) (hb.fr _)]
 rfl
theorem xZ (B g n cap:Nat) (cur:Array aA) (l:List lZ) (k:Nat) (c:lZ) (b:Nat) (W:ak) (hn:n=l.length) (hBg:B<=g) (hg:dG W g cur 88) (hcm:cap<=aR) (hsz:cur.size=cap * 3) (ht:cur.toList.take (n * 3)=flat EW l) (hx:dG W b (jF c).toArray 88) (hne:b≠g) (hk:k<n) (hroom:n+1<=cap) (hl:n<=900) :
  bI O 43 #[J (X ⟨g,0,U⟩) n cap,aj ah k,J (X ⟨b,0,U⟩) 1 1] W (wu B l k c (J (X ⟨g,0,U⟩) n cap) W):=by
 obtain⟨R1,R2,r1,r2,ow⟩:=nk (E:=EW) (l:=l) (k:=k) (cap:=cap) (cur:=cur) (cs:=(jF c).toArray) (c:=c) okW (by omega) (by omega) hsz (by rw [<- hn]; exact ht) g b hne;have hov:=fun lb cb=>MN W g b ((k+1) * 3) 1 lb cb cur (jF c).toArray hx hg hne (by omega);have s0:=fE (E:=EW) okW g k n cap (by omega) (by omega);have s1:=iQ (E:=EW) okW ⟨g,0,U⟩ (n+1) n cap (by omega);have s2:=fE (E:=EW) okW g (k+1) (n+1) cap (by omega) (by omega);have s3:=fE (E:=EW) okW g k (n+1) cap (by omega) (by omega);have q1:=r1 W.drew 3 (n+1-(k+1)) (cap-(k+1)) (n+1-k) (cap-k) hg (by omega);have q2:=r2 (W.drew.setRow g R1) 3 (n+1-k) (cap-k) (dG.set (show dG W.drew g cur 88 from hg) R1) (dG.other (show dG W.drew b _ 88 from hx) hne R1) rfl (by omega);have Q:=Z (show wu B l k c (J (X ⟨g,0,U⟩) n cap) W (aB (J (X ⟨g,0,U⟩) (n+1) cap)) ((W.drew.setRow g R1).setRow g R2) from ⟨_,rfl,by rw [hn]; exact ow _ B hBg hcm (dG.set (dG.set (show dG W.drew g cur 88 from hg) R1) R2),below_setRow (below_setRow (aC B W).drew hBg _) hBg _,fun j hj hne=>(setRow_other _ g j _ (fun e=>hne (by rw [e]; rfl))).trans (setRow_other _ g j _ (fun e=>hne (by rw [e]; rfl)))⟩);clear r1 r2 ow hg ht hx hsz hBg hcm;change ∀ w,(Y 28 (J (X ⟨g,0,U⟩) n cap) (X (aj ah k)) U U).run O w=.ok (J (X ⟨g,k * 3,U⟩) (n-k) (cap-k)) w at s0;change ∀ w,(Y 28 (J (X ⟨g,0,U⟩) n cap) U (X (aj ah ((n:Int)+1))) U).run O w=.ok (J (X ⟨g,0,U⟩) (n+1) cap) w at s1;change ∀ w,(Y 28 (J (X ⟨g,0,U⟩) (n+1) cap) (X (aj ah ((k:Int)+1))) U U).run O w=.ok (J (X ⟨g,(k+1) * 3,U⟩) (n+1-(k+1)) (cap-(k+1))) w at s2;change ∀ w,(Y 28 (J (X ⟨g,0,U⟩) (n+1) cap) (X (aj ah k)) U U).run O w=.ok (J (X ⟨g,k * 3,U⟩) (n+1-k) (cap-k)) w at s3;have e1:((k:Int) == (n:Int))=aO:=by rw [beq_eq_false_iff_ne]; omega
 have e2:decide ((cap:Int)<(n:Int)+1)=aO:=by simp; omega
 change (aF #[28,28] 3 #[J (X ⟨g,(k+1) * 3,U⟩) (n+1-(k+1)) (cap-(k+1)),J (X ⟨g,k * 3,U⟩) (n+1-k) (cap-k)]).run O W.drew=.ok (aj ah ((l.length-k:Nat):Int)) (W.drew.setRow g R1) at q1;change (aF #[28,28] 3 #[J (X ⟨g,k * 3,U⟩) (n+1-k) (cap-k),J (X ⟨b,0,U⟩) 1 1]).run O (W.drew.setRow g R1)=.ok (aj ah 1) ((W.drew.setRow g R1).setRow g R2) at q2;clear hn;go_enter bP,bN;go_wp2_with (first | (simp only [hov]) | fail);clear hov s0 s1 s2 s3;have hw1:IntKind.i64.wrap ((k:Int)+1)=(k:Int)+1:=by rw [aN]; omega
 have hb1:(0:Int)<=(k:Int)+1:=by omega
 have hb0:(k:Int)+1<=(n:Int)+1:=by omega
 have htn:((k:Int)+1).toNat=k+1:=by omega
 have hb2:¬ (cap=k+1):=by omega
 have hb3:(k:Int)<=(n:Int)+1:=by omega
 have hb4:¬ (cap=k):=by omega
 have h81:n+1-(k+1)=n-k:=by omega
 rw [h81] at q1;clear h81
 go_region_law (refine gq rfl (.tmp 73) (.tmp 76) 28 rfl (v:=J (X ⟨g,(k+1) * 3,U⟩) (n-k) (cap-(k+1))) (xv:=J (X ⟨g,k * 3,U⟩) (n+1-k) (cap-k)) (by simp [aS,aV]) (by simp [aS,aV]) q1 ?_)
 all_goals simp only [Exit.then]
 all_goals apply_assumption
 clear q1 hw1 hb1 hb0 htn hb2 hb3 hb4;have s3:=fE (E:=EW) okW g k (n+1) cap (by omega) (by omega);change ∀ w,(Y 28 (J (X ⟨g,0,U⟩) (n+1) cap) (X (aj ah k)) U U).run O w=.ok (J (X ⟨g,k * 3,U⟩) (n+1-k) (cap-k)) w at s3;go_wp2_with (first | (at_builtin; refine wpList_copy_run rfl _ _ 28 rfl rfl rfl q2 ?_) | fail);go_ret;exact Q.out
theorem Ay (B g n cap:Nat) (cur:Array aA) (l:List lZ) (k:Nat) (c:lZ) (b:Nat) (W:ak) (hn:n=l.length) (hg:dG W g cur 88) (hcm:cap<=aR) (hnc:n<=cap) (ht:cur.toList.take (n * 3)=flat EW l) (hx:dG W b (jF c).toArray 88) (hk:k<n) (hroom:cap<n+1) (hl:n<=900) (hB:B<=W.heap.size) :
  bI O 43 #[J (X ⟨g,0,U⟩) n cap,aj ah k,J (X ⟨b,0,U⟩) 1 1] W (wu B l k c (J (X ⟨g,0,U⟩) n cap) W):=by
 have hgw:=hg.lt;have hbw:=hx.lt;obtain⟨G,R1,R2,R3,hG1,hG2,r1,r2,r3,ow⟩:=oN (E:=EW) (l:=l) (k:=k) (cap:=cap) (cur:=cur) (cs:=(jF c).toArray) (c:=c) okW 3 ay (by omega) (by omega) (by omega) (by omega) (by rw [<- hn]; exact ht) W g b hg hbw;unfold aR at hcm hG2;have s0:=fE (E:=EW) okW g k n cap (by omega) (by omega);have s1:=iQ (E:=EW) okW ⟨g,0,U⟩ k n cap (by omega);have s2:=fE (E:=EW) okW W.heap.size k (n+1) G (by omega) (by omega);have s3:=fE (E:=EW) okW W.heap.size (k+1) (n+1) G (by omega) (by omega);have a1:=r1 28;have n1:=dO W.drew R1 88;have bl:W.drew.heap.size=W.heap.size:=rfl;rw [bl] at n1;have g1:dG (W.drew.alloc (au R1 88)) g cur 88:=dG.more (show dG W.drew g cur 88 from hg) _;have x1:dG (W.drew.alloc (au R1 88)) b (jF c).toArray 88:=dG.more (show dG W.drew b _ 88 from hx) _;have q2:=r2 (W.drew.alloc (au R1 88)) 3 (n+1-k) (G-k) n1 x1 rfl (by omega);have q3:=r3 ((W.drew.alloc (au R1 88)).setRow W.heap.size R2).drew 3 (n+1-(k+1)) (G-(k+1)) (n-k) (cap-k) (dG.set n1 R2) (dG.other g1 (by omega) R2) (by omega);have Q:=Z (show wu B l k c (J (X ⟨g,0,U⟩) n cap) W (aB (J (X ⟨W.heap.size,0,U⟩) (n+1) G)) (((W.drew.alloc (au R1 88)).setRow W.heap.size R2).drew.setRow W.heap.size R3) from ⟨_,rfl,by rw [hn]; exact ow _ B hB (dG.set (dG.set n1 R2) R3),below_setRow (below_setRow ((aC B W).drew.alloc hB _) hB _).drew hB _,fun j hj _=>(setRow_other _ W.heap.size j _ (by omega)).trans ((setRow_other _ W.heap.size j _ (by omega)).trans (Array.getElem?_push_lt hj |>.trans (Array.getElem?_eq_getElem hj).symm))⟩);have l1:l.length+1=n+1:=by rw [hn]
 rw [l1,<- hn] at a1;clear r1 r2 r3 ow hg ht hx g1 x1 n1 bl l1;change ∀ w,(Y 28 (J (X ⟨g,0,U⟩) n cap) (X (aj ah k)) U U).run O w=.ok (J (X ⟨g,k * 3,U⟩) (n-k) (cap-k)) w at s0;change ∀ w,(Y 28 (J (X ⟨g,0,U⟩) n cap) U (X (aj ah k)) U).run O w=.ok (J (X ⟨g,0,U⟩) k cap) w at s1;change ∀ w,(Y 28 (J (X ⟨W.heap.size,0,U⟩) (n+1) G) (X (aj ah k)) U U).run O w=.ok (J (X ⟨W.heap.size,k * 3,U⟩) (n+1-k) (G-k)) w at s2;change ∀ w,(Y 28 (J (X ⟨W.heap.size,0,U⟩) (n+1) G) (X (aj ah ((k:Int)+1))) U U).run O w=.ok (J (X ⟨W.heap.size,(k+1) * 3,U⟩) (n+1-(k+1)) (G-(k+1))) w at s3;change (aG #[28,3] 28 #[J (X ⟨g,0,U⟩) k cap,aj ah ((n:Int)+1-k)]).run O W=.ok (J (X ⟨W.heap.size,0,U⟩) (n+1) G) (W.drew.alloc (au R1 88)) at a1;change (aF #[28,28] 3 #[J (X ⟨W.heap.size,k * 3,U⟩) (n+1-k) (G-k),J (X ⟨b,0,U⟩) 1 1]).run O (W.drew.alloc (au R1 88))=.ok (aj ah 1) ((W.drew.alloc (au R1 88)).setRow W.heap.size R2) at q2;change (aF #[28,28] 3 #[J (X ⟨W.heap.size,(k+1) * 3,U⟩) (n+1-(k+1)) (G-(k+1)),J (X ⟨g,k * 3,U⟩) (n-k) (cap-k)]).run O ((W.drew.alloc (au R1 88)).setRow W.heap.size R2).drew=.ok (aj ah ((l.length-k:Nat):Int)) (((W.drew.alloc (au R1 88)).setRow W.heap.size R2).drew.setRow W.heap.size R3) at q3;have e1:((k:Int) == (n:Int))=aO:=by rw [beq_eq_false_iff_ne]; omega
 have e2:decide ((cap:Int)<(n:Int)+1)=bC:=by simp; omega
 have hGn:n+1<=G:=by omega
 clear hn;generalize W.heap.size=N at *;generalize W.drew.alloc (au R1 88)=W1 at *;generalize W1.setRow N R2=W2 at *;go_enter bP,bN;go_wp2_with (first | (at_builtin; refine gN rfl _ _ 28 3 rfl rfl rfl a1 ?_) | (at_builtin; refine wpList_copy_run rfl _ _ 28 rfl rfl rfl q2 ?_) | fail);clear a1 q2 s0 s1 s2 s3;have hw1:IntKind.i64.wrap ((k:Int)+1)=(k:Int)+1:=by rw [aN]; omega
 have hb1:(0:Int)<=(k:Int)+1:=by omega
 have hb0:(k:Int)+1<=(n:Int)+1:=by omega
 have htn:((k:Int)+1).toNat=k+1:=by omega
 have hb2:¬ (G=k+1):=by omega
 have hb3:(k:Int)<=(n:Int):=by omega
 have hb4:¬ (cap=k):=by omega
 have h81:n+1-(k+1)=n-k:=by omega
 rw [h81] at q3;clear h81
 go_region_law (refine gq rfl (.tmp 50) (.tmp 53) 28 rfl (v:=J (X ⟨N,(k+1) * 3,U⟩) (n-k) (G-(k+1))) (xv:=J (X ⟨g,k * 3,U⟩) (n-k) (cap-k)) (by simp [aS,aV]) (by simp [aS,aV]) q3 ?_)
 all_goals simp only [Exit.then]
 all_goals apply_assumption
 go_wp2;go_ret;exact Q.out
theorem Df (B:Nat) (v:aA) (l:List lZ) (k:Nat) (c:lZ) (b:Nat) (W:ak) (ho:oP W B v l) (hx:dG W b (jF c).toArray 88) (hne:v.ownBlock≠X b) (hk:k<=l.length) (hl:l.length<=900) (hB:B<=W.heap.size) :
  bI O 43 #[v,aj ah k,J (X ⟨b,0,U⟩) 1 1] W (wu B l k c v W):=by
 rcases bg k l.length with h|h
 ·rcases eZ ho with⟨_,h2⟩|⟨g,cap,cur,rfl,h1,h2,h3,h4,h5,h6⟩
  ·rw [h2] at h; simp at h
  ·rcases bg cap (l.length+1) with h7|h7
   ·exact Ay B g _ cap cur l k c b W rfl h2 h4 h3 h6 hx h h7 hl hB
   ·exact xZ B g _ cap cur l k c b W rfl h1 h2 h4 h5 h6 hx (fun e=>hne (by simp [bU,e])) h h7 hl
 ·obtain rfl:k=l.length:=by omega
  exact Dc B v l c b W ho hx hl hB
end Rt
namespace Rg
open Go.RowKit Rw Av
structure RI (i N S:Nat) (d last:Nat->Nat) (V:Nat->aA->ak->Prop) (base:Act) (o:Oper) (a:Act) (x:ak):Prop where
 kp:∀ j u,(∀ i,i<N->d i≠j)->base.tmps[j]?=X u->a.eval (.tmp j)=u
 at_:∀ e∈o.after,aQ .any e=bC->e.on≠S->(last e.on=i\/N<=last e.on)->V e.on (a.eval (.tmp (d e.on))) x
def Qv (b:Nat) (W x:ak):Prop:=But b W x/\∀ B,B<=b->aX B W x
theorem Qv.grow {b:Nat} {W x x':ak} (h:Qv b W x) (hl:b<W.heap.size) (hb:aX x.heap.size x x'):Qv b W x' :=
 ⟨⟨fun k hk hne=>(hb.block k (aT hk h.1.2)).trans (h.1.1 k hk hne),aJ h.1.2 hb.size⟩,fun B hB=>(h.2 B hB).trans (hb.mono (aJ (aJ hB (Nat.le_of_lt hl)) h.1.2))⟩
structure InY (l:List Oper) (N S C:Nat) (d last:Nat->Nat) (V:Nat->aA->ak->Prop) (t:dh) (bb:Nat) (old:Array aA) (Km:aA->Array aA) (base:Act) (W:ak) (L:Array Bool) (a:Act) (x:ak):Prop where
 cl:∀ i o,done L i->l[i]?=X o->∀ e∈o.after,aQ .any e=bC->done L e.on
 no:∀ i,N<=i->¬ done L i
 df:a.defers=base.defers
 sz:a.tmps.size=base.tmps.size
 kp:∀ j,(∀ i,i<N->d i≠j)->a.tmps[j]?=base.tmps[j]?
 Zm:Qv bb W x
 val:∃ vs:Nat->aA,∀ i,i<N->i≠S->done L i->a.tmps[d i]?=X (vs i)/\(¬ done L (last i)->V i (vs i) x)
 box:¬ done L S->aX W.heap.size W x/\dG x bb old t
 fin:done L S->∃ v,a.tmps[d C]?=X v/\dG x bb (Km v) t/\V C v x
theorem zh {P:Program} {Q:Exit->Act->ak->Prop} {id:Nat} {base:Act} {W:ak} {l:List Oper} (N S C:Nat) (d last:Nat->Nat) (V:Nat->aA->ak->Prop) (fl:Nat->Bool) (t:dh) (bb:Nat) (old:Array aA) (Km:aA->Array aA)
  (hm:P.follows .mixedOrders=bC) (hf:El l.toArray=bC) (hN:l.length=N) (hS:S<N) (hC:C<N) (hCS:C≠S) (Wy:N<=last C) (jc:dG W bb old t)
  (hinj:∀ i j,i<N->j<N->i≠S->j≠S->d i=d j->i=j) (hs:∀ i,i<N->i≠S->d i<base.tmps.size)
  (hV:∀ i v x x',i<N->V i v x->aX x.heap.size x x'->V i v x')
  (hfl:∀ o,l[S]?=X o->∀ i,i<N->i≠S->fl i=aO->∃ e∈o.after,aQ .any e=bC/\e.on=i) (WH:fl C=aO)
  (hop:∀ i o,i<N->i≠S->l[i]?=X o->∀ a x,(fl i=aO->aX W.heap.size W x/\dG x bb old t)->RI i N S d last V base o a x->∀ K:Act->ak->Prop,(∀ v x',V i v x'->aX x.heap.size x x'->K (a.put (X (d i)) v) x')->wpOp P l.toArray Q i K a x)
  (ZY:∀ o,l[S]?=X o->∀ a x v,aX W.heap.size W x->dG x bb old t->a.eval (.tmp (d C))=v->V C v x->(∀ j u,base.tmps[j]?=X u->(∀ i,i<N->d i≠j)->a.eval (.tmp j)=u)->∀ K:Act->ak->Prop,(∀ x',But bb x x'->(∀ B w,B<=bb->aX B w x->aX B w x')->dG x' bb (Km v) t->(∀ j u,j<N->j≠S->N<=last j->V j u x->V j u x')->K a x')->wpOp P l.toArray Q S K a x)
  (hlast:∀ j,j<N->j≠S->N<=last j\/(last j<N/\last j≠S/\fl (last j)=aO))
  (hend:∀ a x v,a.defers=base.defers->a.tmps.size=base.tmps.size->(∀ j,(∀ i,i<N->d i≠j)->a.tmps[j]?=base.tmps[j]?)->a.tmps[d C]?=X v->dG x bb (Km v) t->V C v x->Qv bb W x->(∃ vs:Nat->aA,∀ i,i<N->i≠S->a.tmps[d i]?=X (vs i)/\(N<=last i->V i (vs i) x))->Q .normal a x):(Code.region id l.toArray bC).wp P Q base W:=by
 have hbl:bb<W.heap.size:=jc.lt;refine nT (fun L a x=>InY l N S C d last V t bb old Km base W L a x) hm hf ?_ ?_ ?_
 ·exact⟨fun i o h=>absurd h (gD _ _),fun i _=>gD _ _,rfl,rfl,fun _ _=>rfl,⟨⟨fun _ _ _=>rfl,aH _⟩,fun B hB=>(aC _ _).drew⟩,⟨fun _=>.bool bC,fun i _ _ h=>absurd h (gD _ _)⟩,fun _=>⟨(aC _ _).drew,jc⟩,fun h=>absurd h (gD _ _)⟩
 ·intro L a x i o hsz I ho hnd lI;have hi:i<l.length:=(aU.1 ho).1;have Pt:i<N:=by omega
  have vD:i<L.size:=by omega
  obtain⟨vs,hvs⟩:=I.val;obtain⟨oS,Cy⟩:∃ oS,l[S]?=X oS:=⟨_,aD (by omega)⟩;have hon:∀ e∈o.after,aQ .any e=bC->e.on<i:=fun e he hb=>by
   have h7:=List.all_eq_true.1 hf i (List.mem_range.2 (by simpa using hi));have ho':(l.toArray)[i]?=X o:=by simpa using ho
   rw [ho'] at h7;have h8:=Array.all_eq_true'.1 h7 e he;rw [hb] at h8;simpa using h8
  have dd:∀ {k},k≠i->done (L.setIfInBounds i bC) k->done L k:=fun {k} h h5=>((fV vD k).1 h5).resolve_left h;have du:∀ {k},done L k->done (L.setIfInBounds i bC) k:=fun {k} h=>(fV vD k).2 (bF h);have cl':∀ k q,done (L.setIfInBounds i bC) k->l[k]?=X q->∀ e∈q.after,aQ .any e=bC->done (L.setIfInBounds i bC) e.on:=fun k q hk hq e he hb=>by
   by_cases e2:k=i
   ·subst e2;rw [hq] at ho;cases ho;exact du (lI e he hb)
   ·exact du (I.cl k q (dd e2 hk) hq e he hb)
  have no':∀ k,N<=k->¬ done (L.setIfInBounds i bC) k:=fun k hk h=>I.no k hk (dd (by omega) h);have early:∀ k,k<N->k≠S->fl k=aO->¬ done L k->¬ done L S:=fun k hk xV Un hnk hdS=>by
   obtain⟨e,h1,h2,h3⟩:=hfl oS Cy k hk xV Un;exact hnk (h3 ▸ I.cl S oS hdS Cy e h1 h2)
  by_cases uJ:i=S
  ·subst uJ;have dC:done L C:=by
    obtain⟨e,h1,h2,h3⟩:=hfl o ho C hC hCS WH;exact h3 ▸ lI e h1 h2
   obtain⟨v1,v2⟩:=hvs C hC hCS dC;have vC:=v2 (I.no _ Wy);obtain⟨b1,b2⟩:=I.box hnd;refine ZY o ho a x (vs C) b1 b2 (dU v1) vC (fun j u hu hj=>dU (by rw [I.kp j hj]; exact hu)) _ (fun x' q1 q2 q3 q4=>⟨cl',no',I.df,I.sz,I.kp,⟨⟨fun k hk hne=>(q1.1 k (aT hk b1.size) hne).trans (I.Zm.1.1 k hk hne),aJ b1.size q1.2⟩,fun B hB=>q2 B W hB (I.Zm.2 B hB)⟩,⟨vs,fun k hk xV hdn=>?_⟩,fun hn=>absurd ((fV vD _).2 (cO rfl)) hn,fun _=>⟨vs C,v1,q3,?_⟩⟩)
   ·obtain⟨w1,w2⟩:=hvs k hk xV (dd xV hdn);refine⟨w1,fun hnl=>?_⟩;rcases hlast k hk xV with h5|⟨h5,h6,h7⟩
    ·exact q4 k _ hk xV h5 (w2 (I.no _ h5))
    ·exfalso;obtain⟨e,g1,g2,g3⟩:=hfl o ho (last k) h5 h6 h7;exact hnl (du (g3 ▸ lI e g1 g2))
   ·exact q4 C _ hC hCS Wy vC
  ·have seen:RI i N S d last V base o a x:=⟨fun j u hj hu=>dU (by rw [I.kp j hj]; exact hu),fun e he hb hS' hl=>by
    obtain⟨h1,h2⟩:=hvs e.on (by have:=hon e he hb; omega) hS' (lI e he hb);rw [dU h1];refine h2 ?_;rcases hl with hl|hl
    ·rw [hl]; exact hnd
    ·exact I.no _ hl⟩
   refine hop i o Pt uJ ho a x (fun hfi=>I.box (early i Pt uJ hfi hnd)) seen _ (fun v x' hpv hb=>?_);have self:(a.put (X (d i)) v).tmps[d i]?=X v:=by
    have h5:d i<a.tmps.size:=by rw [I.sz]; exact hs i Pt uJ
    simp [aV,h5]
   have keep:∀ k,k<N->k≠S->k≠i->(a.put (X (d i)) v).tmps[d k]?=a.tmps[d k]?:=fun k hk xV hki=>get_put _ _ _ _ (fun e=>hki (hinj _ _ hk Pt xV uJ e));refine⟨cl',no',I.df,by rw [size_put]; exact I.sz,fun j hj=>?_,I.Zm.grow hbl hb,⟨fun k=>if k=i then v else vs k,fun k hk xV hdn=>?_⟩,fun h2=>?_,fun h1=>?_⟩
   ·rw [get_put _ _ _ _ (fun e=>hj i Pt e.symm)];exact I.kp j hj
   ·by_cases e:k=i
    ·subst e;simp only [if_true];exact⟨self,fun _=>hpv⟩
    ·simp only [if_neg e];obtain⟨h3,h4⟩:=hvs k hk xV (dd e hdn);exact⟨by rw [keep k hk xV e]; exact h3,fun h6=>hV k _ _ _ hk (h4 (fun h=>h6 (du h))) hb⟩
   ·obtain⟨b1,b2⟩:=I.box (fun h=>h2 (du h));exact⟨b1.trans (hb.mono b1.size),b2.on hb⟩
   ·have h2:=dd (Ne.symm uJ) h1;obtain⟨u,h6,h8,h9⟩:=I.fin h2;obtain⟨ec,k4,k5,k6⟩:=hfl oS Cy C hC hCS WH;have dC:=I.cl S oS h2 Cy ec k4 k5;rw [k6] at dC;have eC:C≠i:=fun e=>hnd (e ▸ dC);exact⟨u,by rw [keep C hC hCS eC]; exact h6,h8.on hb,hV C _ _ _ hC h9 hb⟩
 ·intro L a x I hd;have dS:=hd S (by omega);obtain⟨v,h2,h4,h5⟩:=I.fin dS;obtain⟨vs,hvs⟩:=I.val;exact hend a x v I.df I.sz I.kp h2 h4 h5 I.Zm ⟨vs,fun i hi uJ=>by
   obtain⟨k1,k2⟩:=hvs i hi uJ (hd i (by omega));exact⟨k1,fun hl=>k2 (I.no _ hl)⟩⟩
end Rg
end Go.Proofs.YtghlpefopidlaaaGreat
