/-
  The document's own B. Conditions as told.
-/
import Derived.Test.YtghlpefopidlaaaGreatDQ006
import Derived.Test.YtghlpefopidlaaaGreatDQ004
set_option maxRecDepth 100000
set_option maxHeartbeats 64000000
open _root_.Bool renaming true->aI,false->aS
open _root_.Go renaming below_regrown->O,World->aD,bodyPost_ret->aK,Value->aL,redrawn->aM,Calls->aV
open Go.Act renaming eval->L
open Go.Builtin renaming append_->D
open Go.IntKind renaming i64->ak
open Go.Obj renaming cells->ah
open Go.Operand renaming tmp->aA
open Go.Proofs.Tryz renaming prog->Q,results163->aG,ntmps163->aH,func163->aJ
open Go.RowKit.Below renaming refl->J
open Go.Value renaming string->V,slice->Z,int->aj,pointer->aO,bool->aT
open _root_.List renaming length_map->X,getElem?_map->Y,getElem?_eq_getElem->aB,getElem?_cons_zero->aF,map_append->aN,map_cons->aP,map_take->aQ,map_drop->aR
open _root_.Nat renaming le_refl->au,zero_le->aU
open _root_.Option renaming some->ay,none->aC
open Go.Proofs.YtghlpefopidlaaaGreat renaming hq->d
namespace Go.Proofs.YtghlpefopidlaaaGreat.Rl
open Go.RowKit Go.Sort Pu Rw Pr Va
theorem aaJ (n:ByteArray) (s t:ByteArray) (w:aD):aV Q 163 #[cv (r5 (n,(.tx s))),cv (r5 (n,(.tx t)))] w (S9 n (fI (.tx s) (.tx t)) w):=by
 obtain⟨H,I,bz,M⟩:=Ny w (r5 (n,(.tx s))) (r5 (n,(.tx t))) (⟨#[]⟩,0,0,0,⟨#[]⟩);have B:=d M;have a1:=d H;have a2:=d I;have a6:=d bz;obtain⟨q,u⟩:∃ q,eZ (.tx t) (aI,0,s)=q:=⟨_,rfl⟩;have a8:=d (show fI (.tx s) (.tx t)=if q=aI then ay (.tx s) else aC by rw [<- u]; rw [oZ]; simp only [fI,beq_iff_eq]);have F:=d (fun W=>yN (n,.tx t) aI 0 s W);simp only [u] at F;generalize fI (.tx s) (.tx t)=r at *;clear H I bz M u;simp only [r5,kN,kS,kU,kT] at *;go_enter aJ,aH;go_wp2_with fail
 go_region_with (go_at_call 183; refine (F.o _).mono ?_; rintro e b9 ⟨rfl,j⟩; have G:=d (a6.o.drew.on j); have T:=d (a1.o.drew.on j); have a7:=d (a2.o.drew.on j); obtain⟨z0,N,S,z3,z4⟩:=fF G.o; obtain⟨a0,aE,b1,a3,a4⟩:=fF T.o; obtain⟨b2,b4,b5,b6,b7⟩:=fF a7.o; have b8:=fun k=>G.o.fr k; simp only at z0 N S z3 z4 a0 aE b1 a3 a4 b2 b4 b5 b6 b7)
 all_goals try simp only [Exit.then]
 all_goals try apply_assumption
 all_goals try go_wp2
 all_goals refine aK (v:=.tuple #[cv (r5 (n,(.tx s))),aT q]) (by simp [results,aG,go_sem,z0,N,S,z3,z4,r5,kN,kS,kU,kT]) rfl ?_
 all_goals exact tK a8.o rfl (jc (B.o.drew.trans (j.mono B.o.drew.size)) (w.heap.size+1+1) (by omega) _ _ _ _ _)
theorem aaK (n:ByteArray) (s t:ByteArray) (w:aD):aV Q 163 #[cv (r5 (n,(.tx s))),cv (r5 (n,(.pr t)))] w (S9 n (fI (.tx s) (.pr t)) w):=by
 obtain⟨H,I,bz,M⟩:=Ny w (r5 (n,(.tx s))) (r5 (n,(.pr t))) (⟨#[]⟩,0,0,0,⟨#[]⟩);have B:=d M;have a1:=d H;have a2:=d I;have a6:=d bz;obtain⟨q,u⟩:∃ q,eZ (.pr t) (aI,0,s)=q:=⟨_,rfl⟩;have a8:=d (show fI (.tx s) (.pr t)=if q=aI then ay (.tx s) else aC by rw [<- u]; rw [nI]; rfl);have F:=d (fun W=>yN (n,.pr t) aI 0 s W);simp only [u] at F;generalize fI (.tx s) (.pr t)=r at *;clear H I bz M u;simp only [r5,kN,kS,kU,kT] at *;go_enter aJ,aH;go_wp2_with fail
 go_region_with (go_at_call 183; refine (F.o _).mono ?_; rintro e b9 ⟨rfl,j⟩; have G:=d (a6.o.drew.on j); have T:=d (a1.o.drew.on j); have a7:=d (a2.o.drew.on j); obtain⟨z0,N,S,z3,z4⟩:=fF G.o; obtain⟨a0,aE,b1,a3,a4⟩:=fF T.o; obtain⟨b2,b4,b5,b6,b7⟩:=fF a7.o; have b8:=fun k=>G.o.fr k; simp only at z0 N S z3 z4 a0 aE b1 a3 a4 b2 b4 b5 b6 b7)
 all_goals try simp only [Exit.then]
 all_goals try apply_assumption
 all_goals try go_wp2
 all_goals refine aK (v:=.tuple #[cv (r5 (n,(.tx s))),aT q]) (by simp [results,aG,go_sem,z0,N,S,z3,z4,r5,kN,kS,kU,kT]) rfl ?_
 all_goals exact tK a8.o rfl (jc (B.o.drew.trans (j.mono B.o.drew.size)) (w.heap.size+1+1) (by omega) _ _ _ _ _)
theorem aaL (n:ByteArray) (s t:ByteArray) (w:aD):aV Q 163 #[cv (r5 (n,(.pr s))),cv (r5 (n,(.tx t)))] w (S9 n (fI (.pr s) (.tx t)) w):=by
 obtain⟨H,I,bz,M⟩:=Ny w (r5 (n,(.pr s))) (r5 (n,(.tx t))) (⟨#[]⟩,0,0,0,⟨#[]⟩);have B:=d M;have a1:=d H;have a2:=d I;have a6:=d bz;obtain⟨q,u⟩:∃ q,eZ (.pr s) (aI,0,t)=q:=⟨_,rfl⟩;have a8:=d (show fI (.pr s) (.tx t)=if q=aI then ay (.tx t) else aC by rw [<- u]; rw [nI]; rfl);have F:=d (fun W=>yN (n,.pr s) aI 0 t W);simp only [u] at F;generalize fI (.pr s) (.tx t)=r at *;clear H I bz M u;simp only [r5,kN,kS,kU,kT] at *;go_enter aJ,aH;go_wp2_with fail
 go_region_with (go_at_call 183; refine (F.o _).mono ?_; rintro e b9 ⟨rfl,j⟩; have G:=d (a6.o.drew.on j); have T:=d (a1.o.drew.on j); have a7:=d (a2.o.drew.on j); obtain⟨z0,N,S,z3,z4⟩:=fF G.o; obtain⟨a0,aE,b1,a3,a4⟩:=fF T.o; obtain⟨b2,b4,b5,b6,b7⟩:=fF a7.o; have b8:=fun k=>G.o.fr k; simp only at z0 N S z3 z4 a0 aE b1 a3 a4 b2 b4 b5 b6 b7)
 all_goals try simp only [Exit.then]
 all_goals try apply_assumption
 all_goals try go_wp2
 all_goals refine aK (v:=.tuple #[cv (r5 (n,(.tx t))),aT q]) (by simp [results,aG,go_sem,z0,N,S,z3,z4,r5,kN,kS,kU,kT]) rfl ?_
 all_goals exact tK a8.o rfl (jc (B.o.drew.trans (j.mono B.o.drew.size)) (w.heap.size+1+1) (by omega) _ _ _ _ _)
theorem WO (n:ByteArray) (a b:Kd) (w:aD):aV Q 163 #[cv (r5 (n,a)),cv (r5 (n,b))] w (S9 n (fI a b) w):=by
 cases a with
 | rg p j=>cases b with
  | rg q s=>exact aaO n p j q s w
  | tx t=>exact YK n p j t w
  | pr t=>exact YL n p j t w
 | tx s=>cases b with
  | rg q j=>exact YM n s q j w
  | tx t=>exact aaJ n s t w
  | pr t=>exact aaK n s t w
 | pr s=>cases b with
  | rg q j=>exact YN n s q j w
  | tx t=>exact aaL n s t w
  | pr t =>
   by_cases h:t.size<=s.size
   ·exact aaM n s t w h
   ·exact aaN n s t w h
theorem cnt_lt:∀ (m:List Cn) (n:ByteArray) (k:Nat) (y:Cn),k<lF m n->m[k]?=ay y->Op.bytesLess y.1.toList n.toList=aI
 | [],n,k,y,_,h=>by simp at h
 | x::q,n,0,y,j,h=>by
  simp only [aF,Option.some.injEq] at h;subst h;simp only [lF] at j
  split at j
  ·rename_i h; exact h
  ·omega
 | x::q,n,k+1,y,j,h=>by
  simp only [lF] at j
  split at j
  ·exact cnt_lt q n k y (by omega) (by simpa using h)
  ·omega
theorem aaP:∀ (m:List Cn) (n:ByteArray) (y:Cn),m[lF m n]?=ay y->Op.bytesLess y.1.toList n.toList=aS
 | [],n,y,h=>by simp at h
 | x::q,n,y,h=>by
  simp only [lF] at h
  split at h
  ·exact aaP q n y (by simpa using h)
  ·rename_i j
   simp only [aF,Option.some.injEq] at h;subst h;exact Bool.eq_false_iff.2 j
theorem aaQ {m:List Cn} {n:ByteArray} {y:Cn} (h:m[lF m n]?=ay y):lM m n=decide (y.1=n):=by
 unfold lM;rw [h]
theorem WQ {m:List Cn} {n:ByteArray} (h:m.length<=lF m n):lM m n=aS:=by
 unfold lM;rw [List.getElem?_eq_none h]
theorem Rv (m j:List Cn) (c:Cn):kV m (c::j)=match qW m c with
  | none=>aC
  | some n=>kV n j:=rfl
theorem OY {W U:aD} {S xv M:aL} {a b:List C5} {c:C5} (I:iH U W.heap.size S a) (a6:fO U xv [c]) (a2:fO W M b) (la:a.length<=100) (b1:b.length<=100) (F:Below W.heap.size W U) :
  ∃ r u v3 j,(D #[34,34] 34 #[S,xv]).run Q U=.ok r u/\(D #[34,34] 34 #[r,M]).run Q u=.ok v3 j/\iH j W.heap.size v3 (a++c::b)/\Below W.heap.size W j:=by
 obtain⟨r,u,a8,N,T⟩:=Ii W.heap.size I a6 (by omega) (by simp) F.size;have q:=F.grown T F.size (fun H G=>(I.lt H G).1);obtain⟨v3,j,aE,a7,a1⟩:=Ii W.heap.size N (a2.on q) (by simp; omega) (by omega) q.size;have b3:=q.grown a1 q.size (fun H G=>(N.lt H G).1);exact⟨r,u,v3,j,a8,aE,by simpa using a7,b3⟩
theorem aaR {U w:aD} {cb:Nat} {c:C5} {row:Option Nat} (I:fO U (Z (ay ⟨cb,0,aC⟩) 1 1) [c]) (F:U.grownBy w row) (H:row≠ay cb):fO w (Z (ay ⟨cb,0,aC⟩) 1 1) [c]:=by
 rcases I with⟨h,_⟩|⟨a,cap,j,q,r,u⟩
 ·cases h
 ·obtain⟨rfl,rfl⟩:(⟨cb,0,aC⟩:Addr)=a/\1=cap:=by simpa using j
  exact Or.inr ⟨_,1,rfl,q,r,fun M N G=>F.cell (u M N G) (by rw [mO]; exact fun e=>H e.symm)⟩
theorem ajf {W:aD} {lo G:aL} {a b:List C5} (c:C5) (N:fO W lo a) (I:fO W G b) (la:a.length<=100) (T:b.length<=100) :
  ∃ q w1 r u v3 j,(D #[34,34] 34 #[Z (ay ⟨W.heap.size,0,aC⟩) 0 0,lo]).run Q (W.alloc (ah #[] 91))=.ok q w1 /\
   (D #[34,34] 34 #[q,Z (ay ⟨w1.heap.size,0,aC⟩) 1 1]).run Q (w1.alloc (ah #[V c.1,aj ak c.2.1,aj ak c.2.2.1,aj ak c.2.2.2.1,V c.2.2.2.2] 91))=.ok r u /\
   (D #[34,34] 34 #[r,G]).run Q u=.ok v3 j/\Below W.heap.size W w1/\iH j W.heap.size v3 (a++c::b)/\Below W.heap.size W j:=by
 have b0:=(J W.heap.size W).alloc (au _) (ah #[] 91);obtain⟨q,w1,a7,a1,H⟩:=Ii W.heap.size (qZ W) (N.on b0) (by simp) (by omega) (by simp);have F:=b0.grown H b0.size (fun S M=>((qZ W).lt S M).1);have a2:=dK a1 ((J _ _).alloc (au _) (ah #[V c.1,aj ak c.2.1,aj ak c.2.2.1,aj ak c.2.2.2.1,V c.2.2.2.2] 91));obtain⟨r,u,v3,j,a8,aE,a6,b3⟩:=OY (a:=a) (by simpa using a2) (zD w1 c) I la T (F.alloc F.size _);exact⟨q,w1,r,u,v3,j,a7,a8,aE,F,a6,b3⟩
theorem aaS {W U:aD} {g cb:Nat} {lo M:aL} {a b:List C5} {c:C5} (I:iH U W.heap.size (Z (ay ⟨g,0,aC⟩) 0 0) []) (a6:fO U (Z (ay ⟨cb,0,aC⟩) 1 1) [c]) (a2:g≠cb) (r:Below W.heap.size W U) (a1:fO W lo a) (S:fO W M b) (la:a.length<=100) (a7:b.length<=100) :
  ∃ u w1 F G v3 q,(D #[34,34] 34 #[Z (ay ⟨g,0,aC⟩) 0 0,lo]).run Q U=.ok u w1 /\
   (D #[34,34] 34 #[u,Z (ay ⟨cb,0,aC⟩) 1 1]).run Q w1=.ok F G /\
   (D #[34,34] 34 #[F,M]).run Q G=.ok v3 q/\iH q W.heap.size v3 (a++c::b)/\Below W.heap.size W q:=by
 obtain⟨u,w1,b1,a8,H⟩:=Ii W.heap.size I (a1.on r) (by simp) (by omega) r.size;have N:=r.grown H r.size (fun j T=>(I.lt j T).1);obtain⟨F,G,v3,q,b2,b4,aE,b3⟩:=OY (a:=a) (by simpa using a8) (aaR a6 H (by simp [Value.ownBlock,a2])) S la a7 N;exact⟨u,w1,F,G,v3,q,b1,b2,b4,aE,b3⟩
theorem Ub {U:aD} {lo F:aL} {a b:List C5} (c:C5) (I:fO U lo a) (H:fO U F b) (la:a.length<=100) (M:b.length<=100) :
  ∃ q w1 r u v3 j,(D #[34,34] 34 #[Z (ay ⟨U.heap.size,0,aC⟩) 0 0,lo]).run Q (U.drew.alloc (ah #[] 91))=.ok q w1 /\
   (D #[34,34] 34 #[q,Z (ay ⟨w1.heap.size,0,aC⟩) 1 1]).run Q (w1.alloc (ah #[V c.1,aj ak c.2.1,aj ak c.2.2.1,aj ak c.2.2.2.1,V c.2.2.2.2] 91))=.ok r u /\
   (D #[34,34] 34 #[r,F]).run Q u=.ok v3 j/\Below U.heap.size U w1/\iH j U.heap.size v3 (a++c::b)/\Below U.heap.size U j:=by
 obtain⟨q,w1,r,u,v3,j,S,T,a1,G,N,b3⟩:=ajf (W:=U.drew) c (I.on (J _ _).drew) (H.on (J _ _).drew) la M;exact⟨q,w1,r,u,v3,j,S,T,a1,(J _ _).drew.trans G,N,(J _ _).drew.trans b3⟩
theorem Uc {U:aD} {lo F:aL} {a b:List C5} (c:C5) (I:fO U lo a) (H:fO U F b) (la:a.length<=100) (M:b.length<=100) :
  ∃ q w1 r u v3 j,(D #[34,34] 34 #[Z (ay ⟨U.heap.size+1,0,aC⟩) 0 0,lo]).run Q ((U.drew.alloc (ah #[V c.1,aj ak c.2.1,aj ak c.2.2.1,aj ak c.2.2.2.1,V c.2.2.2.2] 91)).alloc (ah #[] 91))=.ok q w1 /\
   (D #[34,34] 34 #[q,Z (ay ⟨U.heap.size,0,aC⟩) 1 1]).run Q w1=.ok r u /\
   (D #[34,34] 34 #[r,F]).run Q u=.ok v3 j/\iH j U.heap.size v3 (a++c::b)/\Below U.heap.size U j:=by
 have G:iH ((U.drew.alloc (ah #[V c.1,aj ak c.2.1,aj ak c.2.2.1,aj ak c.2.2.2.1,V c.2.2.2.2] 91)).alloc (ah #[] 91)) U.drew.heap.size (Z (ay ⟨U.heap.size+1,0,aC⟩) 0 0) []:=by
  have h:=sU (B':=U.drew.heap.size) (by simp) (qZ (U.drew.alloc (ah #[V c.1,aj ak c.2.1,aj ak c.2.2.1,aj ak c.2.2.2.1,V c.2.2.2.2] 91)))
  rwa [show (U.drew.alloc (ah #[V c.1,aj ak c.2.1,aj ak c.2.2.1,aj ak c.2.2.2.1,V c.2.2.2.2] 91)).heap.size=U.heap.size+1 by simp] at h
 obtain⟨q,w1,r,u,v3,j,S,T,a1,N,b3⟩:=aaS (W:=U.drew) (cb:=U.heap.size) G ((zD U.drew c).on ((J _ _).alloc (au _) _)) (by omega) (((J _ _).alloc (au _) _).alloc (by simp) _) (I.on (J _ _).drew) (H.on (J _ _).drew) la M;exact⟨q,w1,r,u,v3,j,S,T,a1,N,(J _ _).drew.trans b3⟩
theorem Ud {U:aD} {lo F:aL} {a b:List C5} (c:C5) (H:fO U lo a) (G:fO U F b) (la:a.length<=100) (M:b.length<=100) :
  ∃ q w1 r u v3 j,(D #[34,34] 34 #[Z (ay ⟨U.heap.size,0,aC⟩) 0 0,lo]).run Q ((U.drew.alloc (ah #[] 91)).alloc (ah #[V c.1,aj ak c.2.1,aj ak c.2.2.1,aj ak c.2.2.2.1,V c.2.2.2.2] 91))=.ok q w1 /\
   (D #[34,34] 34 #[q,Z (ay ⟨U.heap.size+1,0,aC⟩) 1 1]).run Q w1=.ok r u /\
   (D #[34,34] 34 #[r,F]).run Q u=.ok v3 j/\iH j U.heap.size v3 (a++c::b)/\Below U.heap.size U j:=by
 have I:fO ((U.drew.alloc (ah #[] 91)).alloc (ah #[V c.1,aj ak c.2.1,aj ak c.2.2.1,aj ak c.2.2.2.1,V c.2.2.2.2] 91)) (Z (ay ⟨U.heap.size+1,0,aC⟩) 1 1) [c]:=by
  have h:=zD (U.drew.alloc (ah #[] 91)) c
  rwa [show (U.drew.alloc (ah #[] 91)).heap.size=U.heap.size+1 by simp] at h
 obtain⟨q,w1,r,u,v3,j,S,T,a1,N,b3⟩:=aaS (W:=U.drew) (g:=U.heap.size) (dK (qZ U.drew) ((J _ _).alloc (au _) _)) I (by omega) (((J _ _).alloc (au _) _).alloc (by simp) _) (H.on (J _ _).drew) (G.on (J _ _).drew) la M;exact⟨q,w1,r,u,v3,j,S,T,a1,N,(J _ _).drew.trans b3⟩
theorem aef (a b:ByteArray) (h:¬ a=b):(a.toList == b.toList)=aS:=by
 rw [beq_eq_false_iff_ne];exact fun e=>h (vJ e)
def aeg (j:Option (List Cn)) (w:aD) (e:Ending) (w':aD):Prop:=Below w.heap.size w w'/\(match j with
 | some p=>∃ v,e=.returned (.tuple #[v,aT aI])/\fO w' v (p.map r5)
 | none=>e=.returned (.tuple #[Z aC 0 0,aT aS]))
theorem WT (hA:aL) (l:List Cn) (w:aD) (f2:fO w hA (l.map r5)) (lJ:l.length<=10):aV Q 123 #[hA] w (aeg (kV [] l) w):=by
 have eJ:=d f2;have lA:=d (show (l.map r5).length=l.length from X ..);obtain⟨gO,gI,rfl⟩:=f2.len;rw [X] at eJ ⊢;obtain⟨n,f3⟩:∃ n,n=l.length:=⟨_,rfl⟩;rw [<- f3] at eJ lJ ⊢;have e5:=d f3;obtain⟨cP,f4⟩:∃ r,r=kV [] l:=⟨_,rfl⟩;have l7:=d f4;have g6:=d (fun e w' (h:aeg cP w e w')=>(show aeg (kV [] l) w e w' from f4 ▸ h));generalize lP:aeg (kV [] l) w=q at *;clear lP f2 f3 f4;go_enter Tryz.func123,Tryz.ntmps123;go_wp2
 go_loopw [4,12] (fun m2 i wr=>∃ (j:Nat) (m:List Cn),j<=n/\i=aj ak j/\iH wr w.heap.size m2 (m.map r5)/\kX m/\m.length<=j/\cP=kV m (l.drop j)/\Below w.heap.size w wr) (fun _ i _=>n-(intOf i).toNat)
 case atStart=>exact⟨0,[],aU _,rfl,iR _ _,List.Pairwise.nil,by simp,by rw [l7.o]; rfl,J _ _⟩
 case round =>
  obtain⟨j,m,e9,rfl,h6,h7,mV,g5,h3⟩:=hrel;have cY:=d h3;have e6:=d h6;have eQ:=d h7;have eI:=d g5;have mW:m.length<=10:=by omega
  clear h3 h6 h7 g5;by_cases mT:j<n
  ·obtain⟨⟨G,F⟩,f5⟩:∃ x,l[j]?=ay x:=⟨_,aB (by have:=e5.o; omega)⟩;obtain⟨p,f8,hH⟩:=XG (x:=r5 (G,F)) eJ.o rfl (lA.o.trans e5.o.symm) (by rw [Y,f5]; rfl);obtain⟨hC,hD,hE,hF,hG⟩:=hH _ cY.o;have g3:l.drop j=(G,F)::l.drop (j+1):=by
    have h:=List.drop_eq_getElem_cons (l:=l) (i:=j) (by have:=e5.o; omega);rw [h]
    congr 1
    exact (List.getElem?_eq_some_iff.1 f5).2
   have eE:=eI.o;rw [g3,Rv] at eE;have e4:=d eE;have g2:=d (cY.o.alloc cY.o.size (ah #[V G,aj ak (kN F),aj ak (kS F),aj ak (kU F),V (kT F)] 91));have lB:=d (dK e6.o ((J wr.heap.size wr).alloc (au _) (ah #[V G,aj ak (kN F),aj ak (kS F),aj ak (kU F),V (kT F)] 91)));have lD:=d (show dN (wr.alloc (ah #[V G,aj ak (kN F),aj ak (kS F),aj ak (kU F),V (kT F)] 91)) wr.heap.size (cells5 (r5 (G,F))).toArray 91 from dR wr _ _);obtain⟨fN,fL,h5⟩:=(Row.dL e6.o).len;rw [X] at h5;subst h5;have mN:=zw m G;simp only [r5] at hC hD hE hF hG;clear f5 hH eE g3 eI cY e6;go_wp2_with fail;clear f8 hC hD hE hF hG;generalize wr.alloc (ah #[V G,aj ak (kN F),aj ak (kS F),aj ak (kU F),V (kT F)] 91)=gC at *;generalize wr.heap.size=cb at *
   go_loopw [7] (fun at_ mK=>∃ k:Nat,k<=lF m G/\at_=aj ak k/\Below gC.heap.size gC mK) (fun i _=>m.length-(intOf i).toNat)
   case atStart=>exact⟨0,aU _,rfl,J _ _⟩
   case round =>
    obtain⟨k,mU,rfl,dA⟩:=hrel;have cX:=d dA;have bT:=d (g2.o.trans (dA.mono g2.o.size));have c9:=d (dK lB.o dA);have cI:=d (lD.o.on dA);clear dA;obtain⟨b0,bB,bC,b3,bE⟩:=pJ cI.o;simp only [r5] at b0 bB bC b3 bE;have d4:=d (show (m.map r5).length=m.length from X ..);by_cases f1:k<lF m G
    ·obtain⟨⟨M,b5⟩,b2⟩:∃ y,m[k]?=ay y:=⟨_,aB (by omega)⟩;obtain⟨q,bI,N,S,T,a1,a2⟩:=oM (x:=r5 (M,b5)) (Row.dL c9.o) rfl d4.o (by rw [Y,b2]; rfl) (J _ _);have lt:=cnt_lt m G k _ f1 b2;have aE:k<m.length:=by omega
     have eR:decide (k<m.length)=aI:=by simpa using aE
     have eS:decide ((k:Int)<(m.length:Int))=aI:=by simpa using aE
     simp only [r5] at N S T a1 a2 lt;clear b2;go_wp2;refine ko ?_
     repeat (go_big_quiet_step (fail))
     refine kr fun H I=>?_;have a7:=d (cX.o.trans ((O wr H I).mono cX.o.size));clear bI N S T a1 a2 lt b0 bB bC b3 bE;go_wp2
     go_roundw
     case rel=>exact⟨k+1,by omega,by go_num,a7.o⟩
     case measure=>simp [intOf]; omega
    ·have cQ:k=lF m G:=by omega
     have c8:=d cQ;by_cases aE:k<m.length
     ·obtain⟨⟨M,b5⟩,b2⟩:∃ y,m[k]?=ay y:=⟨_,aB aE⟩;obtain⟨q,bI,N,S,T,a1,a2⟩:=oM (x:=r5 (M,b5)) (Row.dL c9.o) rfl d4.o (by rw [Y,b2]; rfl) (J _ _);have lt:=aaP m G (M,b5) (by rw [<- cQ]; exact b2);have eR:decide (k<m.length)=aI:=by simpa using aE
      have eS:decide ((k:Int)<(m.length:Int))=aI:=by simpa using aE
      have e7:=d (aaQ (m:=m) (n:=G) (y:=(M,b5)) (by rw [<- cQ]; exact b2));have d2:=d b2;simp only [r5] at N S T a1 a2 lt;clear b2 cQ f1;by_cases e8:M=G
      ·skip
       obtain rfl:M=G:=e8;have gA:=d (show lM m M=aI by rw [e7.o]; simp);obtain⟨x,f6,m1,f7⟩:=IU (c:=(M,F)) gA.o;rw [<- c8.o,d2.o] at f6;obtain rfl:=Option.some.inj f6;rw [<- c8.o] at f7;have b7:=d f7;clear f6 m1 f7 e7 gA;go_wp2;refine ko ?_
       repeat (go_big_quiet_step (fail))
       refine kr fun H I=>?_;clear bI N S T a1 a2 b0 bB bC b3 bE;have a7:=d (bT.o.trans ((O wr H I).mono bT.o.size));have b8:=d (dK c9.o (O wr H I));have bA:=d (cI.o.on (O wr H I));clear bT c9 cI cX;generalize grow (aM wr H) I=a6 at *;obtain⟨b0,bB,bC,b3,bE⟩:=pJ bA.o;obtain⟨q,bI,N,S,T,a1,a2⟩:=oM (x:=r5 (M,b5)) (Row.dL b8.o) rfl d4.o (by rw [Y,d2.o]; rfl) (J _ _);simp only [r5] at N S T a1 a2 b0 bB bC b3 bE;go_wp2;refine ko ?_
       repeat (go_big_quiet_step (fail))
       refine kr fun H I=>?_;clear bI N S T a1 a2 b0 bB bC b3 bE;have b1:=d (a7.o.trans ((O a6 H I).mono a7.o.size));have b9:=d (dK b8.o (O a6 H I));have a8:=d (bA.o.on (O a6 H I));clear a7 b8 bA;generalize grow (aM a6 H) I=U at *;obtain⟨q,bI,_,hI⟩:=qR wV (x:=r5 (M,b5)) (Row.dL b9.o) rfl d4.o (by rw [Y,d2.o]; rfl);have g7:=d (fun w m0=>five (hI w m0));obtain⟨N,S,T,a1,a2⟩:=g7.o U (J _ _);obtain⟨cA,cC,cD,cF,cG⟩:=fF a8.o;have eC:=d (fun W=>WO M b5 F W);generalize fI b5 F=r at *;have f0:cb<U.heap.size:=a8.o.lt;simp only [r5] at N S T a1 a2 cA cC cD cF cG eC;clear hI;change ∀ w,(Instr.indexAt 34 (Z fN m.length fL) (aj ak k)).run Q w=.ok (aO (ay q)) w at bI;go_wp2_with fail
       rename_i K eV
       have g9:∀ (fR:Nat) (bO:aD) (y:C5) (u13 hK hL hM hN hO hP hQ hR hS hT hU hV hW hX hY hZ i0 i1 i2 i4 i5 i6 i7 i8 i9 iG iS j0 j1 j2 j3 j4 j5 j6 j7 j8 j9 jB jD jI jV jY k0 k1 k2 k3 k4 k5 k6 k7 k8 k9 kA kB kE kK kO kQ l0 l1 l2 l3 l4:aL),dN bO fR (cells5 y).toArray 91->Below U.heap.size U bO->(∀ cJ,r=ay cJ->y=r5 (M,cJ))->K ⟨#[Z gO n gI,undef,u2,u3,Z fN m.length fL,undef,aO (ay ⟨cb,0,aC⟩),aj ak k,aO (ay ⟨fR,0,aC⟩),aT r.isSome,Z gO n gI,aj ak n,aj ak j,u13,hK,hL,hM,hN,hO,hP,hQ,hR,hS,hT,hU,hV,hW,hX,hY,hZ,i0,i1,i2,i4,i5,i6,i7,i8,i9,iG,iS,j0,j1,j2,j3,j4,j5,j6,j7,j8,j9,jB,jD,jI,jV,jY,k0,k1,k2,k3,k4,k5,k6,k7,k8,k9,kA,kB,kE,kK,kO,kQ,l0,l1,l2,l3,l4,undef],[]⟩ bO:=by
        clear N S T a1 a2 cA cC cD cF cG eC bI g7 a8 f0 eR eS lt;intro fR bO y u13 hK hL hM hN hO hP hQ hR hS hT hU hV hW hX hY hZ i0 i1 i2 i4 i5 i6 i7 i8 i9 iG iS j0 j1 j2 j3 j4 j5 j6 j7 j8 j9 jB jD jI jV jY k0 k1 k2 k3 k4 k5 k6 k7 k8 k9 kA kB kE kK kO kQ l0 l1 l2 l3 l4 h8 eW h9;have l8:=d h8;have l6:=d eW;have l9:=d h9;have cW:=d (b1.o.trans (eW.mono b1.o.size));clear h8 eW h9;apply eV;clear eV;rcases r with _|cJ
        ·have b6:=d (show cP=aC by rw [e4.o,b7.o]; rfl);go_wp2;refine g6.o _ _ ⟨cW.o,?_⟩;rw [b6.o]
         rfl
        ·have b6:=d (show cP=kV (m.set k (M,cJ)) (l.drop (j+1)) by rw [e4.o,b7.o]; rfl);have bX:=d (kY m (M,F) (m.set k (M,cJ)) eQ.o (by rw [b7.o]; rfl)).1;have lE:=d (l9.o cJ rfl);have g8:=d (show fO bO (Z fN m.length fL) (m.map r5) from Row.dL (dK b9.o l6.o));have eB:=d ((J bO.heap.size bO).alloc (au _) (ah #[] 91));have eM:=qZ bO;obtain⟨m3,w1,hJ,o0,h0⟩:=Ii bO.heap.size eM (g8.o.on eB.o) (by simp) (by simp; omega) (by simp);have g1:=d (eB.o.grown h0 (by simp) (fun bM e9=>(eM.lt bM e9).1));have eA:iH w1 bO.heap.size m3 (m.map r5):=by simpa using o0
         rcases gD eA with⟨_,h1⟩|⟨g,cap,cur,rfl,h2,h4,lO,lK,lR,lX⟩
         ·rw [List.map_eq_nil_iff] at h1;rw [h1] at aE;exact absurd aE (Nat.not_lt_zero _)
         ·have gR:=D7 wV (m.map r5) k (r5 (M,b5)) (by rw [Y,d2.o]; rfl);have cl:∀ bM u,bM<5->(cells5 (r5 (M,b5)))[bM]?=ay u->w1.cell? ⟨g,k * 5+bM,aC⟩=ay u:=fun bM u e9 hu=>(World.ownsRow.cellAt eA (k * 5+bM) (by rw [X]; show _<m.length * 5; omega)).trans ((gR bM e9).trans hu);have c0:=cl 0 _ (by decide) rfl;have c1:=cl 1 _ (by decide) rfl;have c2:=cl 2 _ (by decide) rfl;have c3:=cl 3 _ (by decide) rfl;have c4:=cl 4 _ (by decide) rfl;have gS:=fun bM=>(show dN w1 g cur 91 from h4).fr bM;have l5:=d h2;have g4:=d eA;have f8:=oI wV g k m.length cap aE;change ∀ w,(Instr.indexAt 34 (Z (ay ⟨g,0,aC⟩) m.length cap) (aj ak k)).run Q w=.ok (aO (ay ⟨g,k * 5,aC⟩)) w at f8;change w1.cell? ⟨g,k * 5,aC⟩=ay (V M) at c0;obtain⟨cR,cS,cT,cU,cV⟩:=fF (l8.o.on g1.o);rw [X] at hJ g4;simp only [r5] at c1 c2 c3 c4;clear o0 eA h0 eM h2 h4 lO lK lR lX gR cl eB g8;go_wp2_with (first | (at_builtin; refine wpList_append_run rfl _ _ 34 rfl rfl rfl hJ ?_) | fail)
          go_roundw
          case rel=>exact⟨j+1,m.set k (M,cJ),by omega,by go_num,by
           rw [List.map_set,<- lE.o];exact sU cW.o.size (Jm g4.o (by rw [X]) aE),bX.o,by rw [List.length_set]; omega,b6.o,zF (cW.o.trans (g1.o.mono cW.o.size)) g (Nat.le_trans cW.o.size l5.o) _ ⟩
          case measure=>simp [intOf]; omega
       clear eV
       go_region_with (go_at_call 163; refine (eC.o _).mono ?_; rintro e b4 ⟨⟨y,rfl,b2⟩,d9⟩; (try (have gE:=d ((dR U.drew (cells5 (⟨#[]⟩,0,0,0,⟨#[]⟩)).toArray 91).on d9); obtain⟨z0,mL,mM,z3,z4⟩:=fF gE.o; have gS:=fun k=>gE.o.fr k; simp only [World.size_drew] at z0 mL mM z3 z4 gS)))
       all_goals simp only [Exit.then]
       all_goals first
        | exact g9 b4.heap.size _ y _ _ _ _ _ _ _ _ _ _ _ _ _ _ _ _ _ _ _ _ _ _ _ _ _ _ _ _ _ _ _ _ _ _ _ _ _ _ _ _ _ _ _ _ _ _ _ _ _ _ _ _ _ _ _ _ _ _ _ _ _ _ _ _ (dR b4 _ _) (((J U.heap.size U).drew.trans d9).alloc d9.size _) b2
        | exact g9 U.heap.size _ y _ _ _ _ _ _ _ _ _ _ _ _ _ _ _ _ _ _ _ _ _ _ _ _ _ _ _ _ _ _ _ _ _ _ _ _ _ _ _ _ _ _ _ _ _ _ _ _ _ _ _ _ _ _ _ _ _ _ _ _ _ _ _ _ (xA ((dR U.drew (cells5 (⟨#[]⟩,0,0,0,⟨#[]⟩)).toArray 91).on d9) y) (jc (((J U.heap.size U).drew.alloc (by simp) _).trans (d9.mono (by simp))) U.heap.size (au _) _ _ _ _ _) b2
      ·have mS:=aef M G e8;have eN:=d (show lM m G=aS by rw [e7.o]; simpa using e8);clear e8 e7;go_wp2;refine ko ?_
       repeat (go_big_quiet_step (fail))
       refine kr fun H I=>?_;clear bI N S T a1 a2 b0 bB bC b3 bE;have a7:=d (bT.o.trans ((O wr H I).mono bT.o.size));have b8:=d (dK c9.o (O wr H I));have bA:=d (cI.o.on (O wr H I));clear bT c9 cI cX;generalize grow (aM wr H) I=a6 at *;obtain⟨b0,bB,bC,b3,bE⟩:=pJ bA.o;obtain⟨q,bI,N,S,T,a1,a2⟩:=oM (x:=r5 (M,b5)) (Row.dL b8.o) rfl d4.o (by rw [Y,d2.o]; rfl) (J _ _);simp only [r5] at N S T a1 a2 b0 bB bC b3 bE;go_wp2;refine ko ?_
       repeat (go_big_quiet_step (fail))
       refine kr fun H I=>?_;have b1:=d (a7.o.trans ((O a6 H I).mono a7.o.size));have b9:=d (dK b8.o (O a6 H I));have a8:=d (bA.o.on (O a6 H I));clear a7 b8 bA;generalize grow (aM a6 H) I=U at *;have b7:=d (D9 (c:=(G,F)) eN.o);rw [<- c8.o] at b7;have b6:=d (show cP=kV (m.take k++(G,F)::m.drop k) (l.drop (j+1)) by rw [e4.o,b7.o]);have bX:=d (kY m (G,F) _ eQ.o b7.o).1;have cH:=d (show (m.take k++(G,F)::m.drop k).length<=j+1 by have:=c8.o; simp; omega);have KM:=d (show k<=(m.map r5).length by have:=c8.o; rw [X]; omega);obtain⟨lo,eK,c7⟩:=loC (Row.dL b9.o) k KM.o;obtain⟨lL,eL,bP⟩:=hiC (Row.dL b9.o) k KM.o;have la:((m.map r5).take k).length<=100:=by simp; omega
       have c6:((m.map r5).drop k).length<=100:=by simp; omega
       have d3:=d (show (m.take k++(G,F)::m.drop k).map r5=(m.map r5).take k++(G,kN F,kS F,kU F,kT F)::(m.map r5).drop k by rw [aN,aP,aQ,aR]; rfl);obtain⟨m4,mA,m5,mB,fS,fX,dT,cL,dZ,d5,dC,d6⟩:=Ub (G,kN F,kS F,kU F,kT F) c7 bP la c6;obtain⟨m6,mC,m7,mD,fV,fY,cM,e0,e1,dE,d7⟩:=Uc (G,kN F,kS F,kU F,kT F) c7 bP la c6;obtain⟨m8,mH,m9,mI,fW,g0,cN,e2,e3,dS,d8⟩:=Ud (G,kN F,kS F,kU F,kT F) c7 bP la c6;have bW:=d (fun (v3:aL) (b4:aD) (f9:iH b4 U.heap.size v3 ((m.map r5).take k++(G,kN F,kS F,kU F,kT F)::(m.map r5).drop k)) (b3:Below U.heap.size U b4)=>(show iH b4 w.heap.size v3 ((m.take k++(G,F)::m.drop k).map r5)/\Below w.heap.size w b4 from ⟨by rw [d3.o]; exact sU b1.o.size f9,b1.o.trans (b3.mono b1.o.size)⟩));have EA:=d (bW.o fS fX dC d6);have d0:=d (bW.o fV fY dE d7);have d1:=d (bW.o fW g0 dS d8);obtain⟨cA,cC,cD,cF,cG⟩:=fF a8.o;obtain⟨cR,cS,cT,cU,cV⟩:=fF (a8.o.on d5);simp only [r5] at cA cC cD cF cG cR cS cT cU cV cL cM cN;have f0:cb<U.heap.size:=a8.o.lt;clear dC d6 dE d7 dS d8 bW c7 bP la c6 d5 d3 a8 b9 b1;go_wp2_with fail
       go_region_law (first
        | (refine fC rfl (aA 64) (aA 67) 34 rfl (by simp [L]) (by simp [L]) dT ?_)
        | (refine fC rfl (aA 64) (aA 67) 34 rfl (by simp [L]) (by simp [L]) cM ?_)
        | (refine fC rfl (aA 64) (aA 67) 34 rfl (by simp [L]) (by simp [L]) cN ?_)
        | (refine fC rfl (aA 68) (aA 70) 34 rfl (by simp [L]) (by simp [L]) cL ?_)
        | (refine fC rfl (aA 68) (aA 70) 34 rfl (by simp [L]) (by simp [L]) e0 ?_)
        | (refine fC rfl (aA 68) (aA 70) 34 rfl (by simp [L]) (by simp [L]) e2 ?_)
        | (refine fC rfl (aA 71) (aA 74) 34 rfl (by simp [L]) (by simp [L]) dZ ?_)
        | (refine fC rfl (aA 71) (aA 74) 34 rfl (by simp [L]) (by simp [L]) e1 ?_)
        | (refine fC rfl (aA 71) (aA 74) 34 rfl (by simp [L]) (by simp [L]) e3 ?_))
       all_goals simp only [Exit.inBlock,Exit.then]
       all_goals
        apply_assumption
        clear dT cL dZ cM e0 e1 cN e2 e3 cA cC cD cF cG cR cS cT cU cV eK eL;go_wp2
        go_roundw
        case rel=>first
         | exact⟨j+1,_,by omega,by go_num,EA.o.1,bX.o,cH.o,b6.o,EA.o.2⟩
         | exact⟨j+1,_,by omega,by go_num,d0.o.1,bX.o,cH.o,b6.o,d0.o.2⟩
         | exact⟨j+1,_,by omega,by go_num,d1.o.1,bX.o,cH.o,b6.o,d1.o.2⟩
        case measure=>simp [intOf]; omega
     ·have eR:decide (k<m.length)=aS:=by simpa using aE
      have eS:decide ((k:Int)<(m.length:Int))=aS:=by simpa using aE
      have eN:=d (WQ (m:=m) (n:=G) (by rw [<- cQ]; omega));clear cQ f1 aE;go_wp2;refine ko ?_
      repeat (go_big_quiet_step (fail))
      refine kr fun H I=>?_;clear b0 bB bC b3 bE;have a7:=d (bT.o.trans ((O wr H I).mono bT.o.size));have b8:=d (dK c9.o (O wr H I));have bA:=d (cI.o.on (O wr H I));clear bT c9 cI cX;generalize grow (aM wr H) I=a6 at *;go_wp2;refine ko ?_
      repeat (go_big_quiet_step (fail))
      refine kr fun H I=>?_;have b1:=d (a7.o.trans ((O a6 H I).mono a7.o.size));have b9:=d (dK b8.o (O a6 H I));have a8:=d (bA.o.on (O a6 H I));clear a7 b8 bA;generalize grow (aM a6 H) I=U at *;have b7:=d (D9 (c:=(G,F)) eN.o);rw [<- c8.o] at b7;have b6:=d (show cP=kV (m.take k++(G,F)::m.drop k) (l.drop (j+1)) by rw [e4.o,b7.o]);have bX:=d (kY m (G,F) _ eQ.o b7.o).1;have cH:=d (show (m.take k++(G,F)::m.drop k).length<=j+1 by have:=c8.o; simp; omega);have KM:=d (show k<=(m.map r5).length by have:=c8.o; rw [X]; omega);obtain⟨lo,eK,c7⟩:=loC (Row.dL b9.o) k KM.o;obtain⟨lL,eL,bP⟩:=hiC (Row.dL b9.o) k KM.o;have la:((m.map r5).take k).length<=100:=by simp; omega
      have c6:((m.map r5).drop k).length<=100:=by simp; omega
      have d3:=d (show (m.take k++(G,F)::m.drop k).map r5=(m.map r5).take k++(G,kN F,kS F,kU F,kT F)::(m.map r5).drop k by rw [aN,aP,aQ,aR]; rfl);obtain⟨m4,mA,m5,mB,fS,fX,dT,cL,dZ,d5,dC,d6⟩:=Ub (G,kN F,kS F,kU F,kT F) c7 bP la c6;obtain⟨m6,mC,m7,mD,fV,fY,cM,e0,e1,dE,d7⟩:=Uc (G,kN F,kS F,kU F,kT F) c7 bP la c6;obtain⟨m8,mH,m9,mI,fW,g0,cN,e2,e3,dS,d8⟩:=Ud (G,kN F,kS F,kU F,kT F) c7 bP la c6;have bW:=d (fun (v3:aL) (b4:aD) (f9:iH b4 U.heap.size v3 ((m.map r5).take k++(G,kN F,kS F,kU F,kT F)::(m.map r5).drop k)) (b3:Below U.heap.size U b4)=>(show iH b4 w.heap.size v3 ((m.take k++(G,F)::m.drop k).map r5)/\Below w.heap.size w b4 from ⟨by rw [d3.o]; exact sU b1.o.size f9,b1.o.trans (b3.mono b1.o.size)⟩));have EA:=d (bW.o fS fX dC d6);have d0:=d (bW.o fV fY dE d7);have d1:=d (bW.o fW g0 dS d8);obtain⟨cA,cC,cD,cF,cG⟩:=fF a8.o;obtain⟨cR,cS,cT,cU,cV⟩:=fF (a8.o.on d5);simp only [r5] at cA cC cD cF cG cR cS cT cU cV cL cM cN;have f0:cb<U.heap.size:=a8.o.lt;clear dC d6 dE d7 dS d8 bW c7 bP la c6 d5 d3 a8 b9 b1;go_wp2_with fail
      go_region_law (first
       | (refine fC rfl (aA 64) (aA 67) 34 rfl (by simp [L]) (by simp [L]) dT ?_)
       | (refine fC rfl (aA 64) (aA 67) 34 rfl (by simp [L]) (by simp [L]) cM ?_)
       | (refine fC rfl (aA 64) (aA 67) 34 rfl (by simp [L]) (by simp [L]) cN ?_)
       | (refine fC rfl (aA 68) (aA 70) 34 rfl (by simp [L]) (by simp [L]) cL ?_)
       | (refine fC rfl (aA 68) (aA 70) 34 rfl (by simp [L]) (by simp [L]) e0 ?_)
       | (refine fC rfl (aA 68) (aA 70) 34 rfl (by simp [L]) (by simp [L]) e2 ?_)
       | (refine fC rfl (aA 71) (aA 74) 34 rfl (by simp [L]) (by simp [L]) dZ ?_)
       | (refine fC rfl (aA 71) (aA 74) 34 rfl (by simp [L]) (by simp [L]) e1 ?_)
       | (refine fC rfl (aA 71) (aA 74) 34 rfl (by simp [L]) (by simp [L]) e3 ?_))
      all_goals simp only [Exit.inBlock,Exit.then]
      all_goals
       apply_assumption
       clear dT cL dZ cM e0 e1 cN e2 e3 cA cC cD cF cG cR cS cT cU cV eK eL;go_wp2
       go_roundw
       case rel=>first
        | exact⟨j+1,_,by omega,by go_num,EA.o.1,bX.o,cH.o,b6.o,EA.o.2⟩
        | exact⟨j+1,_,by omega,by go_num,d0.o.1,bX.o,cH.o,b6.o,d0.o.2⟩
        | exact⟨j+1,_,by omega,by go_num,d1.o.1,bX.o,cH.o,b6.o,d1.o.2⟩
       case measure=>simp [intOf]; omega
  ·obtain rfl:j=n:=by omega
   have R:=d (show cP=ay m by rw [eI.o,List.drop_of_length_le (by have:=e5.o; omega)]; rfl);go_wp2;refine g6.o _ _ ⟨cY.o,?_⟩;rw [R.o];exact⟨_,rfl,Row.dL e6.o⟩
end Go.Proofs.YtghlpefopidlaaaGreat.Rl
