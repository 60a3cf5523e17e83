/-
  The document's own M. Conditions as told.
-/
import Derived.Test.YtmklifheakemeaaGreatBQ035
import Derived.Test.YtmklifheakemeaaGreatBQ014
import Derived.Test.YtmklifheakemeaaGreatBQ026
set_option maxRecDepth 100000
set_option maxHeartbeats 64000000
open _root_.Go renaming World->aF,Value->aG
open Go.Act renaming eval->O
open Go.Builtin renaming append_->J
open Go.IntKind renaming i64->ak
open Go.Lib renaming hid->D
open Go.Obj renaming cells->ah
open Go.Operand renaming tmp->ay
open Go.Proofs.Tryz renaming prog->Q
open Go.RowKit.Below renaming refl->L
open Go.Value renaming string->V,slice->Z,int->aj,pointer->aI
open _root_.List renaming length_map->X,getElem?_map->Y,getElem?_eq_getElem->aB,getElem?_cons_zero->aD,map_append->aH,map_cons->aJ,map_take->aK,map_drop->aL
open _root_.Nat renaming le_refl->au,zero_le->aM
open _root_.Option renaming some->aA,none->aC
namespace Go.Proofs.YtmklifheakemeaaGreat.Rl
open Go.RowKit Go.Sort Pu Rw Pr Va
theorem cnt_lt:∀ (m:List Cn) (n:ByteArray) (k:Nat) (y:Cn),k<jV m n->m[k]?=aA y->Op.bytesLess y.1.toList n.toList=true
 | [],n,k,y,_,h=>by simp at h
 | x::r,n,0,y,hk,h=>by
  simp only [aD,Option.some.injEq] at h;subst h;simp only [jV] at hk
  split at hk
  ·rename_i h; exact h
  ·omega
 | x::r,n,k+1,y,hk,h=>by
  simp only [jV] at hk
  split at hk
  ·exact cnt_lt r n k y (by omega) (by simpa using h)
  ·omega
theorem U7:∀ (m:List Cn) (n:ByteArray) (y:Cn),m[jV m n]?=aA y->Op.bytesLess y.1.toList n.toList=false
 | [],n,y,h=>by simp at h
 | x::r,n,y,h=>by
  simp only [jV] at h
  split at h
  ·exact U7 r n y (by simpa using h)
  ·rename_i hn
   simp only [aD,Option.some.injEq] at h;subst h;exact Bool.eq_false_iff.2 hn
theorem U8 {m:List Cn} {n:ByteArray} {y:Cn} (h:m[jV m n]?=aA y):ko m n=decide (y.1=n):=by
 unfold ko;rw [h]
theorem QJ {m:List Cn} {n:ByteArray} (h:m.length<=jV m n):ko m n=false:=by
 unfold ko;rw [List.getElem?_eq_none h]
theorem Lj (m r:List Cn) (c:Cn):jJ m (c::r)=match nZ m c with
  | none=>aC
  | some n=>jJ n r:=rfl
theorem IG {W U:aF} {v1 xv hi:aG} {a b:List C5} {c:C5} (h1:gP U W.heap.size v1 a) (hx:fH U xv [c]) (hh:fH W hi b) (la:a.length<=100) (lb:b.length<=100) (hb:Below W.heap.size W U) :
  ∃ v2 w2 v3 w3,(J #[32,32] 32 #[v1,xv]).run Q U=.ok v2 w2/\(J #[32,32] 32 #[v2,hi]).run Q w2=.ok v3 w3/\gP w3 W.heap.size v3 (a++c::b)/\Below W.heap.size W w3:=by
 obtain⟨v2,w2,r2,o2,g2⟩:=Ce W.heap.size h1 hx (by omega) (by simp) hb.size;have b2:=hb.grown g2 hb.size (fun j hj=>(h1.lt j hj).1);obtain⟨v3,w3,r3,o3,g3⟩:=Ce W.heap.size o2 (hh.on b2) (by simp; omega) (by omega) b2.size;have b3:=b2.grown g3 b2.size (fun j hj=>(o2.lt j hj).1);exact⟨v2,w2,v3,w3,r2,r3,by simpa using o3,b3⟩
theorem U9 {U w:aF} {cb:Nat} {c:C5} {row:Option Nat} (hx:fH U (Z (aA ⟨cb,0,aC⟩) 1 1) [c]) (hg:U.grownBy w row) (hne:row≠aA cb):fH w (Z (aA ⟨cb,0,aC⟩) 1 1) [c]:=by
 rcases hx with⟨h,_⟩|⟨a,cap,h1,h2,h3,h4⟩
 ·cases h
 ·obtain⟨rfl,rfl⟩:(⟨cb,0,aC⟩:Addr)=a/\1=cap:=by simpa using h1
  exact Or.inr ⟨_,1,rfl,h2,h3,fun j u hj=>hg.cell (h4 j u hj) (by rw [nR]; exact fun e=>hne e.symm)⟩
theorem acQ {W:aF} {lo hi:aG} {a b:List C5} (c:C5) (hl:fH W lo a) (hh:fH W hi b) (la:a.length<=100) (lb:b.length<=100) :
  ∃ v1 w1 v2 w2 v3 w3,(J #[32,32] 32 #[Z (aA ⟨W.heap.size,0,aC⟩) 0 0,lo]).run Q (W.alloc (ah #[] 70))=.ok v1 w1 /\
   (J #[32,32] 32 #[v1,Z (aA ⟨w1.heap.size,0,aC⟩) 1 1]).run Q (w1.alloc (ah #[V c.1,aj ak c.2.1,aj ak c.2.2.1,aj ak c.2.2.2.1,V c.2.2.2.2] 70))=.ok v2 w2 /\
   (J #[32,32] 32 #[v2,hi]).run Q w2=.ok v3 w3/\Below W.heap.size W w1/\gP w3 W.heap.size v3 (a++c::b)/\Below W.heap.size W w3:=by
 have b0:=(L W.heap.size W).alloc (au _) (ah #[] 70);obtain⟨v1,w1,r1,o1,g1⟩:=Ce W.heap.size (oh W) (hl.on b0) (by simp) (by omega) (by simp);have b1:=b0.grown g1 b0.size (fun j hj=>((oh W).lt j hj).1);have o1':=dI o1 ((L _ _).alloc (au _) (ah #[V c.1,aj ak c.2.1,aj ak c.2.2.1,aj ak c.2.2.2.1,V c.2.2.2.2] 70));obtain⟨v2,w2,v3,w3,r2,r3,o3,b3⟩:=IG (a:=a) (by simpa using o1') (vX w1 c) hh la lb (b1.alloc b1.size _);exact⟨v1,w1,v2,w2,v3,w3,r1,r2,r3,b1,o3,b3⟩
theorem Vb {W U:aF} {g cb:Nat} {lo hi:aG} {a b:List C5} {c:C5} (h0:gP U W.heap.size (Z (aA ⟨g,0,aC⟩) 0 0) []) (hx:fH U (Z (aA ⟨cb,0,aC⟩) 1 1) [c]) (hne:g≠cb) (hU:Below W.heap.size W U) (hl:fH W lo a) (hh:fH W hi b) (la:a.length<=100) (lb:b.length<=100) :
  ∃ v1 w1 v2 w2 v3 w3,(J #[32,32] 32 #[Z (aA ⟨g,0,aC⟩) 0 0,lo]).run Q U=.ok v1 w1 /\
   (J #[32,32] 32 #[v1,Z (aA ⟨cb,0,aC⟩) 1 1]).run Q w1=.ok v2 w2 /\
   (J #[32,32] 32 #[v2,hi]).run Q w2=.ok v3 w3/\gP w3 W.heap.size v3 (a++c::b)/\Below W.heap.size W w3:=by
 obtain⟨v1,w1,r1,o1,g1⟩:=Ce W.heap.size h0 (hl.on hU) (by simp) (by omega) hU.size;have b1:=hU.grown g1 hU.size (fun j hj=>(h0.lt j hj).1);obtain⟨v2,w2,v3,w3,r2,r3,o3,b3⟩:=IG (a:=a) (by simpa using o1) (U9 hx g1 (by simp [Value.ownBlock,hne])) hh la lb b1;exact⟨v1,w1,v2,w2,v3,w3,r1,r2,r3,o3,b3⟩
theorem Nt {U:aF} {lo hi:aG} {a b:List C5} (c:C5) (hl:fH U lo a) (hh:fH U hi b) (la:a.length<=100) (lb:b.length<=100) :
  ∃ v1 w1 v2 w2 v3 w3,(J #[32,32] 32 #[Z (aA ⟨U.heap.size,0,aC⟩) 0 0,lo]).run Q (U.drew.alloc (ah #[] 70))=.ok v1 w1 /\
   (J #[32,32] 32 #[v1,Z (aA ⟨w1.heap.size,0,aC⟩) 1 1]).run Q (w1.alloc (ah #[V c.1,aj ak c.2.1,aj ak c.2.2.1,aj ak c.2.2.2.1,V c.2.2.2.2] 70))=.ok v2 w2 /\
   (J #[32,32] 32 #[v2,hi]).run Q w2=.ok v3 w3/\Below U.heap.size U w1/\gP w3 U.heap.size v3 (a++c::b)/\Below U.heap.size U w3:=by
 obtain⟨v1,w1,v2,w2,v3,w3,r1,r2,r3,b1,o3,b3⟩:=acQ (W:=U.drew) c (hl.on (L _ _).drew) (hh.on (L _ _).drew) la lb;exact⟨v1,w1,v2,w2,v3,w3,r1,r2,r3,(L _ _).drew.trans b1,o3,(L _ _).drew.trans b3⟩
theorem Nu {U:aF} {lo hi:aG} {a b:List C5} (c:C5) (hl:fH U lo a) (hh:fH U hi b) (la:a.length<=100) (lb:b.length<=100) :
  ∃ v1 w1 v2 w2 v3 w3,(J #[32,32] 32 #[Z (aA ⟨U.heap.size+1,0,aC⟩) 0 0,lo]).run Q ((U.drew.alloc (ah #[V c.1,aj ak c.2.1,aj ak c.2.2.1,aj ak c.2.2.2.1,V c.2.2.2.2] 70)).alloc (ah #[] 70))=.ok v1 w1 /\
   (J #[32,32] 32 #[v1,Z (aA ⟨U.heap.size,0,aC⟩) 1 1]).run Q w1=.ok v2 w2 /\
   (J #[32,32] 32 #[v2,hi]).run Q w2=.ok v3 w3/\gP w3 U.heap.size v3 (a++c::b)/\Below U.heap.size U w3:=by
 have h0:gP ((U.drew.alloc (ah #[V c.1,aj ak c.2.1,aj ak c.2.2.1,aj ak c.2.2.2.1,V c.2.2.2.2] 70)).alloc (ah #[] 70)) U.drew.heap.size (Z (aA ⟨U.heap.size+1,0,aC⟩) 0 0) []:=by
  have h:=qy (B':=U.drew.heap.size) (by simp) (oh (U.drew.alloc (ah #[V c.1,aj ak c.2.1,aj ak c.2.2.1,aj ak c.2.2.2.1,V c.2.2.2.2] 70)))
  rwa [show (U.drew.alloc (ah #[V c.1,aj ak c.2.1,aj ak c.2.2.1,aj ak c.2.2.2.1,V c.2.2.2.2] 70)).heap.size=U.heap.size+1 by simp] at h
 obtain⟨v1,w1,v2,w2,v3,w3,r1,r2,r3,o3,b3⟩:=Vb (W:=U.drew) (cb:=U.heap.size) h0 ((vX U.drew c).on ((L _ _).alloc (au _) _)) (by omega) (((L _ _).alloc (au _) _).alloc (by simp) _) (hl.on (L _ _).drew) (hh.on (L _ _).drew) la lb;exact⟨v1,w1,v2,w2,v3,w3,r1,r2,r3,o3,(L _ _).drew.trans b3⟩
theorem Nv {U:aF} {lo hi:aG} {a b:List C5} (c:C5) (hl:fH U lo a) (hh:fH U hi b) (la:a.length<=100) (lb:b.length<=100) :
  ∃ v1 w1 v2 w2 v3 w3,(J #[32,32] 32 #[Z (aA ⟨U.heap.size,0,aC⟩) 0 0,lo]).run Q ((U.drew.alloc (ah #[] 70)).alloc (ah #[V c.1,aj ak c.2.1,aj ak c.2.2.1,aj ak c.2.2.2.1,V c.2.2.2.2] 70))=.ok v1 w1 /\
   (J #[32,32] 32 #[v1,Z (aA ⟨U.heap.size+1,0,aC⟩) 1 1]).run Q w1=.ok v2 w2 /\
   (J #[32,32] 32 #[v2,hi]).run Q w2=.ok v3 w3/\gP w3 U.heap.size v3 (a++c::b)/\Below U.heap.size U w3:=by
 have hx:fH ((U.drew.alloc (ah #[] 70)).alloc (ah #[V c.1,aj ak c.2.1,aj ak c.2.2.1,aj ak c.2.2.2.1,V c.2.2.2.2] 70)) (Z (aA ⟨U.heap.size+1,0,aC⟩) 1 1) [c]:=by
  have h:=vX (U.drew.alloc (ah #[] 70)) c
  rwa [show (U.drew.alloc (ah #[] 70)).heap.size=U.heap.size+1 by simp] at h
 obtain⟨v1,w1,v2,w2,v3,w3,r1,r2,r3,o3,b3⟩:=Vb (W:=U.drew) (g:=U.heap.size) (dI (oh U.drew) ((L _ _).alloc (au _) _)) hx (by omega) (((L _ _).alloc (au _) _).alloc (by simp) _) (hl.on (L _ _).drew) (hh.on (L _ _).drew) la lb;exact⟨v1,w1,v2,w2,v3,w3,r1,r2,r3,o3,(L _ _).drew.trans b3⟩
theorem YQ (a b:ByteArray) (h:¬ a=b):(a.toList == b.toList)=false:=by
 rw [beq_eq_false_iff_ne];exact fun e=>h (su e)
def YR (r:Option (List Cn)) (w:aF) (e:Ending) (w':aF):Prop:=Below w.heap.size w w'/\(match r with
 | some p=>∃ v,e=.returned (.tuple #[v,.bool true])/\fH w' v (p.map r5)
 | none=>e=.returned (.tuple #[Z aC 0 0,.bool false]))
theorem QK (lv:aG) (l:List Cn) (w:aF) (hl:fH w lv (l.map r5)) (h10:l.length<=10):Calls Q 107 #[lv] w (YR (jJ [] l) w):=by
 have HL:=D hl;have LN:=D (show (l.map r5).length=l.length from X ..);obtain⟨ao,ac,rfl⟩:=hl.len;rw [X] at HL ⊢;obtain⟨n,hn⟩:∃ n,n=l.length:=⟨_,rfl⟩;rw [<- hn] at HL h10 ⊢;have HN:=D hn;obtain⟨res,hres⟩:∃ r,r=jJ [] l:=⟨_,rfl⟩;have HR:=D hres;have QS:=D (fun e w' (h:YR res w e w')=>(show YR (jJ [] l) w e w' from hres ▸ h));generalize hq:YR (jJ [] l) w=q at *;clear hq hl hn hres;go_enter Tryz.func107,Tryz.ntmps107;go_wp2
 go_loopw [4,12] (fun ov i wr=>∃ (j:Nat) (m:List Cn),j<=n/\i=aj ak j/\gP wr w.heap.size ov (m.map r5)/\jN m/\m.length<=j/\res=jJ m (l.drop j)/\Below w.heap.size w wr) (fun _ i _=>n-(intOf i).toNat)
 case atStart=>exact⟨0,[],aM _,rfl,iM _ _,List.Pairwise.nil,by simp,by rw [HR.out]; rfl,L _ _⟩
 case round =>
  obtain⟨j,m,hj,rfl,hown,hrise,hmj,Ir,hb⟩:=hrel;have BW:=D hb;have OW:=D hown;have RM:=D hrise;have FO:=D Ir;have m10:m.length<=10:=by omega
  clear hb hown hrise Ir;by_cases hjl:j<n
  ·obtain⟨⟨xn,xk⟩,hx⟩:∃ x,l[j]?=aA x:=⟨_,aB (by have:=HN.out; omega)⟩;obtain⟨p,ix,px⟩:=Xv (x:=r5 (xn,xk)) HL.out rfl (LN.out.trans HN.out.symm) (by rw [Y,hx]; rfl);obtain⟨p0,p1,p2,p3,p4⟩:=px _ BW.out;have DR:l.drop j=(xn,xk)::l.drop (j+1):=by
    have h:=List.drop_eq_getElem_cons (l:=l) (i:=j) (by have:=HN.out; omega);rw [h]
    congr 1
    exact (List.getElem?_eq_some_iff.1 hx).2
   have F2:=FO.out;rw [DR,Lj] at F2;have F3:=D F2;have B4:=D (BW.out.alloc BW.out.size (ah #[V xn,aj ak (kN xk),aj ak (jG xk),aj ak (jH xk),V (kT xk)] 70));have O4:=D (dI OW.out ((L wr.heap.size wr).alloc (au _) (ah #[V xn,aj ak (kN xk),aj ak (jG xk),aj ak (jH xk),V (kT xk)] 70)));have X4:=D (show dJ (wr.alloc (ah #[V xn,aj ak (kN xk),aj ak (jG xk),aj ak (jH xk),V (kT xk)] 70)) wr.heap.size (cells5 (r5 (xn,xk))).toArray 70 from dO wr _ _);obtain⟨oo,oc,hov⟩:=(Row.dH OW.out).len;rw [X] at hov;subst hov;have CL:=vQ m xn;simp only [r5] at p0 p1 p2 p3 p4;clear hx px F2 DR FO BW OW;go_wp2_with fail;clear ix p0 p1 p2 p3 p4;generalize wr.alloc (ah #[V xn,aj ak (kN xk),aj ak (jG xk),aj ak (jH xk),V (kT xk)] 70)=W1 at *;generalize wr.heap.size=cb at *
   go_loopw [7] (fun at_ wi=>∃ k:Nat,k<=jV m xn/\at_=aj ak k/\Below W1.heap.size W1 wi) (fun i _=>m.length-(intOf i).toNat)
   case atStart=>exact⟨0,aM _,rfl,L _ _⟩
   case round =>
    obtain⟨k,hk,rfl,hbi⟩:=hrel;have BI:=D hbi;have B5:=D (B4.out.trans (hbi.mono B4.out.size));have O5:=D (dI O4.out hbi);have X5:=D (X4.out.on hbi);clear hbi;obtain⟨b0,b1,b2,b3,b4⟩:=nk X5.out;simp only [r5] at b0 b1 b2 b3 b4;have OL:=D (show (m.map r5).length=m.length from X ..);by_cases hkc:k<jV m xn
    ·obtain⟨⟨yn,yk⟩,hy⟩:∃ y,m[k]?=aA y:=⟨_,aB (by omega)⟩;obtain⟨q,iy,q0,q1,q2,q3,q4⟩:=mJ (x:=r5 (yn,yk)) (Row.dH O5.out) rfl OL.out (by rw [Y,hy]; rfl) (L _ _);have lt:=cnt_lt m xn k _ hkc hy;have hkl:k<m.length:=by omega
     have d0:decide (k<m.length)=true:=by simpa using hkl
     have d1:decide ((k:Int)<(m.length:Int))=true:=by simpa using hkl
     simp only [r5] at q0 q1 q2 q3 q4 lt;clear hy;go_wp2;refine wp_region_quiet_below (by kernel_rfl) (by kernel_rfl) ?_
     repeat (go_big_quiet_step (fail))
     refine wpQuiet_nil ?_;intro _ hw';obtain⟨⟨dq,osq⟩,hw''⟩:=hw';subst hw'';have BN:=D (BI.out.trans ((below_regrown wr dq osq).mono BI.out.size));clear iy q0 q1 q2 q3 q4 lt b0 b1 b2 b3 b4;go_wp2
     go_roundw
     case rel=>exact⟨k+1,by omega,by go_num,BN.out⟩
     case measure=>simp [intOf]; omega
    ·have hkk:k=jV m xn:=by omega
     have HK:=D hkk;by_cases hkl:k<m.length
     ·obtain⟨⟨yn,yk⟩,hy⟩:∃ y,m[k]?=aA y:=⟨_,aB hkl⟩;obtain⟨q,iy,q0,q1,q2,q3,q4⟩:=mJ (x:=r5 (yn,yk)) (Row.dH O5.out) rfl OL.out (by rw [Y,hy]; rfl) (L _ _);have lt:=U7 m xn (yn,yk) (by rw [<- hkk]; exact hy);have d0:decide (k<m.length)=true:=by simpa using hkl
      have d1:decide ((k:Int)<(m.length:Int))=true:=by simpa using hkl
      have TH:=D (U8 (m:=m) (n:=xn) (y:=(yn,yk)) (by rw [<- hkk]; exact hy));have HY:=D hy;simp only [r5] at q0 q1 q2 q3 q4 lt;clear hy hkk hkc;by_cases he:yn=xn
      ·skip
       obtain rfl:yn=xn:=he;have TT:=D (show ko m yn=true by rw [TH.out]; simp);obtain⟨x,hx1,hx2,hx3⟩:=CK (c:=(yn,xk)) TT.out;rw [<- HK.out,HY.out] at hx1;obtain rfl:=Option.some.inj hx1;rw [<- HK.out] at hx3;have INS:=D hx3;clear hx1 hx2 hx3 TH TT;go_wp2;refine wp_region_quiet_below (by kernel_rfl) (by kernel_rfl) ?_
       repeat (go_big_quiet_step (fail))
       refine wpQuiet_nil ?_;intro _ hw';obtain⟨⟨dq,osq⟩,hw''⟩:=hw';subst hw'';clear iy q0 q1 q2 q3 q4 b0 b1 b2 b3 b4;have BN:=D (B5.out.trans ((below_regrown wr dq osq).mono B5.out.size));have ON:=D (dI O5.out (below_regrown wr dq osq));have XN:=D (X5.out.on (below_regrown wr dq osq));clear B5 O5 X5 BI;generalize grow (redrawn wr dq) osq=w2 at *;obtain⟨b0,b1,b2,b3,b4⟩:=nk XN.out;obtain⟨q,iy,q0,q1,q2,q3,q4⟩:=mJ (x:=r5 (yn,yk)) (Row.dH ON.out) rfl OL.out (by rw [Y,HY.out]; rfl) (L _ _);simp only [r5] at q0 q1 q2 q3 q4 b0 b1 b2 b3 b4;go_wp2;refine wp_region_quiet_below (by kernel_rfl) (by kernel_rfl) ?_
       repeat (go_big_quiet_step (fail))
       refine wpQuiet_nil ?_;intro _ hw';obtain⟨⟨dq,osq⟩,hw''⟩:=hw';subst hw'';clear iy q0 q1 q2 q3 q4 b0 b1 b2 b3 b4;have BU:=D (BN.out.trans ((below_regrown w2 dq osq).mono BN.out.size));have OU:=D (dI ON.out (below_regrown w2 dq osq));have XU:=D (XN.out.on (below_regrown w2 dq osq));clear BN ON XN;generalize grow (redrawn w2 dq) osq=U at *;obtain⟨q,iy,_,qx⟩:=mH uq (x:=r5 (yn,yk)) (Row.dH OU.out) rfl OL.out (by rw [Y,HY.out]; rfl);have QX:=D (fun w hw=>five (qx w hw));obtain⟨q0,q1,q2,q3,q4⟩:=QX.out U (L _ _);obtain⟨x0,x1,x2,x3,x4⟩:=eZ XU.out;have CB:=D (fun W=>QI yn yk xk W);generalize fE yk xk=r at *;have hcb:cb<U.heap.size:=XU.out.lt;simp only [r5] at q0 q1 q2 q3 q4 x0 x1 x2 x3 x4 CB;clear qx;change ∀ w,(Instr.indexAt 32 (Z oo m.length oc) (aj ak k)).run Q w=.ok (aI (aA q)) w at iy;go_wp2_with fail
       rename_i K hK
       have TAIL:∀ (pb:Nat) (wf:aF) (y:C5) (u13 u14 u15 u16 u17 u18 u19 u20 u21 u22 u23 u24 u25 u26 u27 u28 u29 u30 u31 u32 u33 u34 u35 u36 u37 u38 u39 u40 u41 u42 u43 u44 u45 u46 u47 u48 u49 u50 u51 u52 u53 u54 u55 u56 u57 u58 u59 u60 u61 u62 u63 u64 u65 u66 u67 u68 u69 u70 u71 u72 u73 u74 u75 u76:aG),dJ wf pb (cells5 y).toArray 70->Below U.heap.size U wf->(∀ k',r=aA k'->y=r5 (yn,k'))->K ⟨#[Z ao n ac,undef,u2,u3,Z oo m.length oc,undef,aI (aA ⟨cb,0,aC⟩),aj ak k,aI (aA ⟨pb,0,aC⟩),.bool r.isSome,Z ao n ac,aj ak n,aj ak j,u13,u14,u15,u16,u17,u18,u19,u20,u21,u22,u23,u24,u25,u26,u27,u28,u29,u30,u31,u32,u33,u34,u35,u36,u37,u38,u39,u40,u41,u42,u43,u44,u45,u46,u47,u48,u49,u50,u51,u52,u53,u54,u55,u56,u57,u58,u59,u60,u61,u62,u63,u64,u65,u66,u67,u68,u69,u70,u71,u72,u73,u74,u75,u76,undef],[]⟩ wf:=by
        clear q0 q1 q2 q3 q4 x0 x1 x2 x3 x4 CB iy QX XU hcb d0 d1 lt;intro pb wf y u13 u14 u15 u16 u17 u18 u19 u20 u21 u22 u23 u24 u25 u26 u27 u28 u29 u30 u31 u32 u33 u34 u35 u36 u37 u38 u39 u40 u41 u42 u43 u44 u45 u46 u47 u48 u49 u50 u51 u52 u53 u54 u55 u56 u57 u58 u59 u60 u61 u62 u63 u64 u65 u66 u67 u68 u69 u70 u71 u72 u73 u74 u75 u76 hyb hbw hyk;have HYB:=D hyb;have HBW:=D hbw;have HYK:=D hyk;have BF:=D (BU.out.trans (hbw.mono BU.out.size));clear hyb hbw hyk;apply hK;clear hK;rcases r with _|k'
        ·have F4:=D (show res=aC by rw [F3.out,INS.out]; rfl);go_wp2;refine QS.out _ _ ⟨BF.out,?_⟩;rw [F4.out]
         rfl
        ·have F4:=D (show res=jJ (m.set k (yn,k')) (l.drop (j+1)) by rw [F3.out,INS.out]; rfl);have R4:=D (kF m (yn,xk) (m.set k (yn,k')) RM.out (by rw [INS.out]; rfl)).1;have YE:=D (HYK.out k' rfl);have ROF:=D (show fH wf (Z oo m.length oc) (m.map r5) from Row.dH (dI OU.out HBW.out));have BA:=D ((L wf.heap.size wf).alloc (au _) (ah #[] 70));have MK:=oh wf;obtain⟨v1,w1,r1,o0,g1⟩:=Ce wf.heap.size MK (ROF.out.on BA.out) (by simp) (by simp; omega) (by simp);have B1:=D (BA.out.grown g1 (by simp) (fun jj hj=>(MK.lt jj hj).1));have o1:gP w1 wf.heap.size v1 (m.map r5):=by simpa using o0
         rcases gK o1 with⟨_,h2⟩|⟨g,cap,cur,rfl,hBg,hg,hlc,hcm,hsz,htk⟩
         ·rw [List.map_eq_nil_iff] at h2;rw [h2] at hkl;exact absurd hkl (Nat.not_lt_zero _)
         ·have fl:=yU uq (m.map r5) k (r5 (yn,yk)) (by rw [Y,HY.out]; rfl);have cl:∀ jj u,jj<5->(cells5 (r5 (yn,yk)))[jj]?=aA u->w1.cell? ⟨g,k * 5+jj,aC⟩=aA u:=fun jj u hj hu=>(World.ownsRow.cellAt o1 (k * 5+jj) (by rw [X]; show _<m.length * 5; omega)).trans ((fl jj hj).trans hu);have c0:=cl 0 _ (by decide) rfl;have c1:=cl 1 _ (by decide) rfl;have c2:=cl 2 _ (by decide) rfl;have c3:=cl 3 _ (by decide) rfl;have c4:=cl 4 _ (by decide) rfl;have fz:=fun jj=>(show dJ w1 g cur 70 from hg).fr jj;have BG:=D hBg;have O1:=D o1;have ix:=kY uq g k m.length cap hkl;change ∀ w,(Instr.indexAt 32 (Z (aA ⟨g,0,aC⟩) m.length cap) (aj ak k)).run Q w=.ok (aI (aA ⟨g,k * 5,aC⟩)) w at ix;change w1.cell? ⟨g,k * 5,aC⟩=aA (V yn) at c0;obtain⟨y0,y1,y2,y3,y4⟩:=eZ (HYB.out.on B1.out);rw [X] at r1 O1;simp only [r5] at c1 c2 c3 c4;clear o0 o1 g1 MK hBg hg hlc hcm hsz htk fl cl BA ROF;go_wp2_with (first | (at_builtin; refine wpList_append_run rfl _ _ 32 rfl rfl rfl r1 ?_) | fail)
          go_roundw
          case rel=>exact⟨j+1,m.set k (yn,k'),by omega,by go_num,by
           rw [List.map_set,<- YE.out];exact qy BF.out.size (Dw O1.out (by rw [X]) hkl),R4.out,by rw [List.length_set]; omega,F4.out,wB (BF.out.trans (B1.out.mono BF.out.size)) g (Nat.le_trans BF.out.size BG.out) _ _ _ _ _ _⟩
          case measure=>simp [intOf]; omega
       clear hK
       go_region_with (go_at_call 152; refine (CB.out _).mono ?_; rintro e w3 ⟨⟨y,rfl,hy⟩,hb3⟩; (try (have ZB:=D ((dO U.drew (cells5 (⟨#[]⟩,0,0,0,⟨#[]⟩)).toArray 70).on hb3); obtain⟨z0,z1,z2,z3,z4⟩:=eZ ZB.out; have fz:=fun k=>ZB.out.fr k; simp only [World.size_drew] at z0 z1 z2 z3 z4 fz)))
       all_goals simp only [Exit.then]
       all_goals first
        | exact TAIL w3.heap.size _ y _ _ _ _ _ _ _ _ _ _ _ _ _ _ _ _ _ _ _ _ _ _ _ _ _ _ _ _ _ _ _ _ _ _ _ _ _ _ _ _ _ _ _ _ _ _ _ _ _ _ _ _ _ _ _ _ _ _ _ _ _ _ _ _ (dO w3 _ _) (((L U.heap.size U).drew.trans hb3).alloc hb3.size _) hy
        | exact TAIL U.heap.size _ y _ _ _ _ _ _ _ _ _ _ _ _ _ _ _ _ _ _ _ _ _ _ _ _ _ _ _ _ _ _ _ _ _ _ _ _ _ _ _ _ _ _ _ _ _ _ _ _ _ _ _ _ _ _ _ _ _ _ _ _ _ _ _ _ (tZ ((dO U.drew (cells5 (⟨#[]⟩,0,0,0,⟨#[]⟩)).toArray 70).on hb3) y) (ig (((L U.heap.size U).drew.alloc (by simp) _).trans (hb3.mono (by simp))) U.heap.size (au _) _ _ _ _ _) hy
      ·have eq:=YQ yn xn he;have NT:=D (show ko m xn=false by rw [TH.out]; simpa using he);clear he TH;go_wp2;refine wp_region_quiet_below (by kernel_rfl) (by kernel_rfl) ?_
       repeat (go_big_quiet_step (fail))
       refine wpQuiet_nil ?_;intro _ hw';obtain⟨⟨dq,osq⟩,hw''⟩:=hw';subst hw'';clear iy q0 q1 q2 q3 q4 b0 b1 b2 b3 b4;have BN:=D (B5.out.trans ((below_regrown wr dq osq).mono B5.out.size));have ON:=D (dI O5.out (below_regrown wr dq osq));have XN:=D (X5.out.on (below_regrown wr dq osq));clear B5 O5 X5 BI;generalize grow (redrawn wr dq) osq=w2 at *;obtain⟨b0,b1,b2,b3,b4⟩:=nk XN.out;obtain⟨q,iy,q0,q1,q2,q3,q4⟩:=mJ (x:=r5 (yn,yk)) (Row.dH ON.out) rfl OL.out (by rw [Y,HY.out]; rfl) (L _ _);simp only [r5] at q0 q1 q2 q3 q4 b0 b1 b2 b3 b4;go_wp2;refine wp_region_quiet_below (by kernel_rfl) (by kernel_rfl) ?_
       repeat (go_big_quiet_step (fail))
       refine wpQuiet_nil ?_;intro _ hw';obtain⟨⟨dq,osq⟩,hw''⟩:=hw';subst hw'';have BU:=D (BN.out.trans ((below_regrown w2 dq osq).mono BN.out.size));have OU:=D (dI ON.out (below_regrown w2 dq osq));have XU:=D (XN.out.on (below_regrown w2 dq osq));clear BN ON XN;generalize grow (redrawn w2 dq) osq=U at *;have INS:=D (yX (c:=(xn,xk)) NT.out);rw [<- HK.out] at INS;have F4:=D (show res=jJ (m.take k++(xn,xk)::m.drop k) (l.drop (j+1)) by rw [F3.out,INS.out]);have R4:=D (kF m (xn,xk) _ RM.out INS.out).1;have L4:=D (show (m.take k++(xn,xk)::m.drop k).length<=j+1 by have:=HK.out; simp; omega);have KM:=D (show k<=(m.map r5).length by have:=HK.out; rw [X]; omega);obtain⟨lo,Cj,vN⟩:=loC (Row.dH OU.out) k KM.out;obtain⟨hi,Ck,xg⟩:=hiC (Row.dH OU.out) k KM.out;have la:((m.map r5).take k).length<=100:=by simp; omega
       have lb:((m.map r5).drop k).length<=100:=by simp; omega
       have MP:=D (show (m.take k++(xn,xk)::m.drop k).map r5=(m.map r5).take k++(xn,kN xk,jG xk,jH xk,kT xk)::(m.map r5).drop k by rw [aH,aJ,aK,aL]; rfl);obtain⟨va1,wa1,va2,wa2,va3,wa3,ra1,ra2,ra3,ba1,oa3,ba3⟩:=Nt (xn,kN xk,jG xk,jH xk,kT xk) vN xg la lb;obtain⟨vb1,wb1,vb2,wb2,vb3,wb3,rb1,rb2,rb3,ob3,bb3⟩:=Nu (xn,kN xk,jG xk,jH xk,kT xk) vN xg la lb;obtain⟨vc1,wc1,vc2,wc2,vc3,wc3,rc1,rc2,rc3,oc3,bc3⟩:=Nv (xn,kN xk,jG xk,jH xk,kT xk) vN xg la lb;have ENDS:=D (fun (v3:aG) (w3:aF) (o3:gP w3 U.heap.size v3 ((m.map r5).take k++(xn,kN xk,jG xk,jH xk,kT xk)::(m.map r5).drop k)) (b3:Below U.heap.size U w3)=>(show gP w3 w.heap.size v3 ((m.take k++(xn,xk)::m.drop k).map r5)/\Below w.heap.size w w3 from ⟨by rw [MP.out]; exact qy BU.out.size o3,BU.out.trans (b3.mono BU.out.size)⟩));have EA:=D (ENDS.out va3 wa3 oa3 ba3);have EB:=D (ENDS.out vb3 wb3 ob3 bb3);have EC_:=D (ENDS.out vc3 wc3 oc3 bc3);obtain⟨x0,x1,x2,x3,x4⟩:=eZ XU.out;obtain⟨y0,y1,y2,y3,y4⟩:=eZ (XU.out.on ba1);simp only [r5] at x0 x1 x2 x3 x4 y0 y1 y2 y3 y4 ra2 rb1 rc1;have hcb:cb<U.heap.size:=XU.out.lt;clear oa3 ba3 ob3 bb3 oc3 bc3 ENDS vN xg la lb ba1 MP XU OU BU;go_wp2_with fail
       go_region_law (first
        | (refine eY rfl (ay 64) (ay 67) 32 rfl (by simp [O]) (by simp [O]) ra1 ?_)
        | (refine eY rfl (ay 64) (ay 67) 32 rfl (by simp [O]) (by simp [O]) rb1 ?_)
        | (refine eY rfl (ay 64) (ay 67) 32 rfl (by simp [O]) (by simp [O]) rc1 ?_)
        | (refine eY rfl (ay 68) (ay 70) 32 rfl (by simp [O]) (by simp [O]) ra2 ?_)
        | (refine eY rfl (ay 68) (ay 70) 32 rfl (by simp [O]) (by simp [O]) rb2 ?_)
        | (refine eY rfl (ay 68) (ay 70) 32 rfl (by simp [O]) (by simp [O]) rc2 ?_)
        | (refine eY rfl (ay 71) (ay 74) 32 rfl (by simp [O]) (by simp [O]) ra3 ?_)
        | (refine eY rfl (ay 71) (ay 74) 32 rfl (by simp [O]) (by simp [O]) rb3 ?_)
        | (refine eY rfl (ay 71) (ay 74) 32 rfl (by simp [O]) (by simp [O]) rc3 ?_))
       all_goals simp only [Exit.inBlock,Exit.then]
       all_goals
        apply_assumption
        clear ra1 ra2 ra3 rb1 rb2 rb3 rc1 rc2 rc3 x0 x1 x2 x3 x4 y0 y1 y2 y3 y4 Cj Ck;go_wp2
        go_roundw
        case rel=>first
         | exact⟨j+1,_,by omega,by go_num,EA.out.1,R4.out,L4.out,F4.out,EA.out.2⟩
         | exact⟨j+1,_,by omega,by go_num,EB.out.1,R4.out,L4.out,F4.out,EB.out.2⟩
         | exact⟨j+1,_,by omega,by go_num,EC_.out.1,R4.out,L4.out,F4.out,EC_.out.2⟩
        case measure=>simp [intOf]; omega
     ·have d0:decide (k<m.length)=false:=by simpa using hkl
      have d1:decide ((k:Int)<(m.length:Int))=false:=by simpa using hkl
      have NT:=D (QJ (m:=m) (n:=xn) (by rw [<- hkk]; omega));clear hkk hkc hkl;go_wp2;refine wp_region_quiet_below (by kernel_rfl) (by kernel_rfl) ?_
      repeat (go_big_quiet_step (fail))
      refine wpQuiet_nil ?_;intro _ hw';obtain⟨⟨dq,osq⟩,hw''⟩:=hw';subst hw'';clear b0 b1 b2 b3 b4;have BN:=D (B5.out.trans ((below_regrown wr dq osq).mono B5.out.size));have ON:=D (dI O5.out (below_regrown wr dq osq));have XN:=D (X5.out.on (below_regrown wr dq osq));clear B5 O5 X5 BI;generalize grow (redrawn wr dq) osq=w2 at *;go_wp2;refine wp_region_quiet_below (by kernel_rfl) (by kernel_rfl) ?_
      repeat (go_big_quiet_step (fail))
      refine wpQuiet_nil ?_;intro _ hw';obtain⟨⟨dq,osq⟩,hw''⟩:=hw';subst hw'';have BU:=D (BN.out.trans ((below_regrown w2 dq osq).mono BN.out.size));have OU:=D (dI ON.out (below_regrown w2 dq osq));have XU:=D (XN.out.on (below_regrown w2 dq osq));clear BN ON XN;generalize grow (redrawn w2 dq) osq=U at *;have INS:=D (yX (c:=(xn,xk)) NT.out);rw [<- HK.out] at INS;have F4:=D (show res=jJ (m.take k++(xn,xk)::m.drop k) (l.drop (j+1)) by rw [F3.out,INS.out]);have R4:=D (kF m (xn,xk) _ RM.out INS.out).1;have L4:=D (show (m.take k++(xn,xk)::m.drop k).length<=j+1 by have:=HK.out; simp; omega);have KM:=D (show k<=(m.map r5).length by have:=HK.out; rw [X]; omega);obtain⟨lo,Cj,vN⟩:=loC (Row.dH OU.out) k KM.out;obtain⟨hi,Ck,xg⟩:=hiC (Row.dH OU.out) k KM.out;have la:((m.map r5).take k).length<=100:=by simp; omega
      have lb:((m.map r5).drop k).length<=100:=by simp; omega
      have MP:=D (show (m.take k++(xn,xk)::m.drop k).map r5=(m.map r5).take k++(xn,kN xk,jG xk,jH xk,kT xk)::(m.map r5).drop k by rw [aH,aJ,aK,aL]; rfl);obtain⟨va1,wa1,va2,wa2,va3,wa3,ra1,ra2,ra3,ba1,oa3,ba3⟩:=Nt (xn,kN xk,jG xk,jH xk,kT xk) vN xg la lb;obtain⟨vb1,wb1,vb2,wb2,vb3,wb3,rb1,rb2,rb3,ob3,bb3⟩:=Nu (xn,kN xk,jG xk,jH xk,kT xk) vN xg la lb;obtain⟨vc1,wc1,vc2,wc2,vc3,wc3,rc1,rc2,rc3,oc3,bc3⟩:=Nv (xn,kN xk,jG xk,jH xk,kT xk) vN xg la lb;have ENDS:=D (fun (v3:aG) (w3:aF) (o3:gP w3 U.heap.size v3 ((m.map r5).take k++(xn,kN xk,jG xk,jH xk,kT xk)::(m.map r5).drop k)) (b3:Below U.heap.size U w3)=>(show gP w3 w.heap.size v3 ((m.take k++(xn,xk)::m.drop k).map r5)/\Below w.heap.size w w3 from ⟨by rw [MP.out]; exact qy BU.out.size o3,BU.out.trans (b3.mono BU.out.size)⟩));have EA:=D (ENDS.out va3 wa3 oa3 ba3);have EB:=D (ENDS.out vb3 wb3 ob3 bb3);have EC_:=D (ENDS.out vc3 wc3 oc3 bc3);obtain⟨x0,x1,x2,x3,x4⟩:=eZ XU.out;obtain⟨y0,y1,y2,y3,y4⟩:=eZ (XU.out.on ba1);simp only [r5] at x0 x1 x2 x3 x4 y0 y1 y2 y3 y4 ra2 rb1 rc1;have hcb:cb<U.heap.size:=XU.out.lt;clear oa3 ba3 ob3 bb3 oc3 bc3 ENDS vN xg la lb ba1 MP XU OU BU;go_wp2_with fail
      go_region_law (first
       | (refine eY rfl (ay 64) (ay 67) 32 rfl (by simp [O]) (by simp [O]) ra1 ?_)
       | (refine eY rfl (ay 64) (ay 67) 32 rfl (by simp [O]) (by simp [O]) rb1 ?_)
       | (refine eY rfl (ay 64) (ay 67) 32 rfl (by simp [O]) (by simp [O]) rc1 ?_)
       | (refine eY rfl (ay 68) (ay 70) 32 rfl (by simp [O]) (by simp [O]) ra2 ?_)
       | (refine eY rfl (ay 68) (ay 70) 32 rfl (by simp [O]) (by simp [O]) rb2 ?_)
       | (refine eY rfl (ay 68) (ay 70) 32 rfl (by simp [O]) (by simp [O]) rc2 ?_)
       | (refine eY rfl (ay 71) (ay 74) 32 rfl (by simp [O]) (by simp [O]) ra3 ?_)
       | (refine eY rfl (ay 71) (ay 74) 32 rfl (by simp [O]) (by simp [O]) rb3 ?_)
       | (refine eY rfl (ay 71) (ay 74) 32 rfl (by simp [O]) (by simp [O]) rc3 ?_))
      all_goals simp only [Exit.inBlock,Exit.then]
      all_goals
       apply_assumption
       clear ra1 ra2 ra3 rb1 rb2 rb3 rc1 rc2 rc3 x0 x1 x2 x3 x4 y0 y1 y2 y3 y4 Cj Ck;go_wp2
       go_roundw
       case rel=>first
        | exact⟨j+1,_,by omega,by go_num,EA.out.1,R4.out,L4.out,F4.out,EA.out.2⟩
        | exact⟨j+1,_,by omega,by go_num,EB.out.1,R4.out,L4.out,F4.out,EB.out.2⟩
        | exact⟨j+1,_,by omega,by go_num,EC_.out.1,R4.out,L4.out,F4.out,EC_.out.2⟩
       case measure=>simp [intOf]; omega
  ·obtain rfl:j=n:=by omega
   have R:=D (show res=aA m by rw [FO.out,List.drop_of_length_le (by have:=HN.out; omega)]; rfl);go_wp2;refine QS.out _ _ ⟨BW.out,?_⟩;rw [R.out];exact⟨_,rfl,Row.dH OW.out⟩
end Go.Proofs.YtmklifheakemeaaGreat.Rl
