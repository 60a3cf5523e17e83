/-
  The document's own B. Conditions as told.
-/
import Derived.Test.YtghlpefopidlaaaGreatLQ036
import Derived.Test.YtghlpefopidlaaaGreatLQ037
import Derived.Test.YtghlpefopidlaaaGreatLQ017
import Derived.Test.YtghlpefopidlaaaGreatLQ021
set_option maxRecDepth 100000
set_option maxHeartbeats 64000000
open _root_.Go renaming World->aD,Value->aG
open Go.Act renaming eval->O
open Go.Builtin renaming append_->J
open Go.IntKind renaming i64->ak
open Go.Lib renaming hid->D
open Go.Obj renaming cells->ah
open Go.Operand renaming tmp->ay
open Go.Proofs.Tryz renaming prog->Q
open Go.RowKit.Below renaming refl->L
open Go.Value renaming string->V,slice->Z,int->aj,pointer->aI
open _root_.List renaming length_map->X,getElem?_map->Y,getElem?_eq_getElem->aB,getElem?_cons_zero->aF,map_append->aH,map_cons->aJ,map_take->aK,map_drop->aL
open _root_.Nat renaming le_refl->au,zero_le->aM
open _root_.Option renaming some->aA,none->aC
namespace Go.Proofs.YtghlpefopidlaaaGreat.Rl
open Go.RowKit Go.Sort Pu Rw Pr Va
theorem Vb (n:ByteArray) (a b:Kd) (w:aD):Calls Q 163 #[cv (r5 (n,a)),cv (r5 (n,b))] w (Qi n (fH a b) w):=by
 cases a with
 | rg p q=>cases b with
  | rg r s=>exact Zd n p q r s w
  | tx t=>exact Xj n p q t w
  | pr t=>exact Xk n p q t w
 | tx s=>cases b with
  | rg r q=>exact Xl n s r q w
  | tx t=>exact Y7 n s t w
  | pr t=>exact Y9 n s t w
 | pr s=>cases b with
  | rg r q=>exact Xm n s r q w
  | tx t=>exact Za n s t w
  | pr t =>
   by_cases h:t.size<=s.size
   ·exact Zb n s t w h
   ·exact Zc n s t w h
theorem cnt_lt:∀ (m:List Cn) (n:ByteArray) (k:Nat) (y:Cn),k<kZ m n->m[k]?=aA y->Op.bytesLess y.1.toList n.toList=true
 | [],n,k,y,_,h=>by simp at h
 | x::r,n,0,y,hk,h=>by
  simp only [aF,Option.some.injEq] at h;subst h;simp only [kZ] at hk
  split at hk
  ·rename_i h; exact h
  ·omega
 | x::r,n,k+1,y,hk,h=>by
  simp only [kZ] at hk
  split at hk
  ·exact cnt_lt r n k y (by omega) (by simpa using h)
  ·omega
theorem Ze:∀ (m:List Cn) (n:ByteArray) (y:Cn),m[kZ m n]?=aA y->Op.bytesLess y.1.toList n.toList=false
 | [],n,y,h=>by simp at h
 | x::r,n,y,h=>by
  simp only [kZ] at h
  split at h
  ·exact Ze r n y (by simpa using h)
  ·rename_i hn
   simp only [aF,Option.some.injEq] at h;subst h;exact Bool.eq_false_iff.2 hn
theorem Zf {m:List Cn} {n:ByteArray} {y:Cn} (h:m[kZ m n]?=aA y):lG m n=decide (y.1=n):=by
 unfold lG;rw [h]
theorem Vd {m:List Cn} {n:ByteArray} (h:m.length<=kZ m n):lG m n=false:=by
 unfold lG;rw [List.getElem?_eq_none h]
theorem Ph (m r:List Cn) (c:Cn):kJ m (c::r)=match ng m c with
  | none=>aC
  | some n=>kJ n r:=rfl
theorem Lr {W U:aD} {a3 xv hi:aG} {a b:List C5} {c:C5} (h1:iJ U W.heap.size a3 a) (hx:fI U xv [c]) (hh:fI W hi b) (la:a.length<=100) (lb:b.length<=100) (hb:Below W.heap.size W U) :
  ∃ T w2 a0 w3,(J #[34,34] 34 #[a3,xv]).run Q U=.ok T w2/\(J #[34,34] 34 #[T,hi]).run Q w2=.ok a0 w3/\iJ w3 W.heap.size a0 (a++c::b)/\Below W.heap.size W w3:=by
 obtain⟨T,w2,r2,o2,g2⟩:=EK W.heap.size h1 hx (by omega) (by simp) hb.size;have b2:=hb.grown g2 hb.size (fun j hj=>(h1.lt j hj).1);obtain⟨a0,w3,r3,o3,g3⟩:=EK W.heap.size o2 (hh.on b2) (by simp; omega) (by omega) b2.size;have b3:=b2.grown g3 b2.size (fun j hj=>(o2.lt j hj).1);exact⟨T,w2,a0,w3,r2,r3,by simpa using o3,b3⟩
theorem Zg {U w:aD} {cb:Nat} {c:C5} {row:Option Nat} (hx:fI U (Z (aA ⟨cb,0,aC⟩) 1 1) [c]) (hg:U.grownBy w row) (hne:row≠aA cb):fI w (Z (aA ⟨cb,0,aC⟩) 1 1) [c]:=by
 rcases hx with⟨h,_⟩|⟨a,cap,h1,h2,h3,h4⟩
 ·cases h
 ·obtain⟨rfl,rfl⟩:(⟨cb,0,aC⟩:Addr)=a/\1=cap:=by simpa using h1
  exact Or.inr ⟨_,1,rfl,h2,h3,fun j u hj=>hg.cell (h4 j u hj) (by rw [lY]; exact fun e=>hne e.symm)⟩
theorem aiv {W:aD} {lo hi:aG} {a b:List C5} (c:C5) (hl:fI W lo a) (hh:fI W hi b) (la:a.length<=100) (lb:b.length<=100) :
  ∃ T w1 a0 w2 a3 w3,(J #[34,34] 34 #[Z (aA ⟨W.heap.size,0,aC⟩) 0 0,lo]).run Q (W.alloc (ah #[] 91))=.ok T w1 /\
   (J #[34,34] 34 #[T,Z (aA ⟨w1.heap.size,0,aC⟩) 1 1]).run Q (w1.alloc (ah #[V c.1,aj ak c.2.1,aj ak c.2.2.1,aj ak c.2.2.2.1,V c.2.2.2.2] 91))=.ok a0 w2 /\
   (J #[34,34] 34 #[a0,hi]).run Q w2=.ok a3 w3/\Below W.heap.size W w1/\iJ w3 W.heap.size a3 (a++c::b)/\Below W.heap.size W w3:=by
 have b0:=(L W.heap.size W).alloc (au _) (ah #[] 91);obtain⟨T,w1,r1,o1,g1⟩:=EK W.heap.size (qE W) (hl.on b0) (by simp) (by omega) (by simp);have b1:=b0.grown g1 b0.size (fun j hj=>((qE W).lt j hj).1);have o1':=dI o1 ((L _ _).alloc (au _) (ah #[V c.1,aj ak c.2.1,aj ak c.2.2.1,aj ak c.2.2.2.1,V c.2.2.2.2] 91));obtain⟨a0,w2,a3,w3,r2,r3,o3,b3⟩:=Lr (a:=a) (by simpa using o1') (xX w1 c) hh la lb (b1.alloc b1.size _);exact⟨T,w1,a0,w2,a3,w3,r1,r2,r3,b1,o3,b3⟩
theorem Zh {W U:aD} {g cb:Nat} {lo hi:aG} {a b:List C5} {c:C5} (h0:iJ U W.heap.size (Z (aA ⟨g,0,aC⟩) 0 0) []) (hx:fI U (Z (aA ⟨cb,0,aC⟩) 1 1) [c]) (hne:g≠cb) (hU:Below W.heap.size W U) (hl:fI W lo a) (hh:fI W hi b) (la:a.length<=100) (lb:b.length<=100) :
  ∃ T w1 a0 w2 a3 w3,(J #[34,34] 34 #[Z (aA ⟨g,0,aC⟩) 0 0,lo]).run Q U=.ok T w1 /\
   (J #[34,34] 34 #[T,Z (aA ⟨cb,0,aC⟩) 1 1]).run Q w1=.ok a0 w2 /\
   (J #[34,34] 34 #[a0,hi]).run Q w2=.ok a3 w3/\iJ w3 W.heap.size a3 (a++c::b)/\Below W.heap.size W w3:=by
 obtain⟨T,w1,r1,o1,g1⟩:=EK W.heap.size h0 (hl.on hU) (by simp) (by omega) hU.size;have b1:=hU.grown g1 hU.size (fun j hj=>(h0.lt j hj).1);obtain⟨a0,w2,a3,w3,r2,r3,o3,b3⟩:=Lr (a:=a) (by simpa using o1) (Zg hx g1 (by simp [Value.ownBlock,hne])) hh la lb b1;exact⟨T,w1,a0,w2,a3,w3,r1,r2,r3,o3,b3⟩
theorem Q6 {U:aD} {lo hi:aG} {a b:List C5} (c:C5) (hl:fI U lo a) (hh:fI U hi b) (la:a.length<=100) (lb:b.length<=100) :
  ∃ T w1 a0 w2 a3 w3,(J #[34,34] 34 #[Z (aA ⟨U.heap.size,0,aC⟩) 0 0,lo]).run Q (U.drew.alloc (ah #[] 91))=.ok T w1 /\
   (J #[34,34] 34 #[T,Z (aA ⟨w1.heap.size,0,aC⟩) 1 1]).run Q (w1.alloc (ah #[V c.1,aj ak c.2.1,aj ak c.2.2.1,aj ak c.2.2.2.1,V c.2.2.2.2] 91))=.ok a0 w2 /\
   (J #[34,34] 34 #[a0,hi]).run Q w2=.ok a3 w3/\Below U.heap.size U w1/\iJ w3 U.heap.size a3 (a++c::b)/\Below U.heap.size U w3:=by
 obtain⟨T,w1,a0,w2,a3,w3,r1,r2,r3,b1,o3,b3⟩:=aiv (W:=U.drew) c (hl.on (L _ _).drew) (hh.on (L _ _).drew) la lb;exact⟨T,w1,a0,w2,a3,w3,r1,r2,r3,(L _ _).drew.trans b1,o3,(L _ _).drew.trans b3⟩
theorem Q7 {U:aD} {lo hi:aG} {a b:List C5} (c:C5) (hl:fI U lo a) (hh:fI U hi b) (la:a.length<=100) (lb:b.length<=100) :
  ∃ T w1 a0 w2 a3 w3,(J #[34,34] 34 #[Z (aA ⟨U.heap.size+1,0,aC⟩) 0 0,lo]).run Q ((U.drew.alloc (ah #[V c.1,aj ak c.2.1,aj ak c.2.2.1,aj ak c.2.2.2.1,V c.2.2.2.2] 91)).alloc (ah #[] 91))=.ok T w1 /\
   (J #[34,34] 34 #[T,Z (aA ⟨U.heap.size,0,aC⟩) 1 1]).run Q w1=.ok a0 w2 /\
   (J #[34,34] 34 #[a0,hi]).run Q w2=.ok a3 w3/\iJ w3 U.heap.size a3 (a++c::b)/\Below U.heap.size U w3:=by
 have h0:iJ ((U.drew.alloc (ah #[V c.1,aj ak c.2.1,aj ak c.2.2.1,aj ak c.2.2.2.1,V c.2.2.2.2] 91)).alloc (ah #[] 91)) U.drew.heap.size (Z (aA ⟨U.heap.size+1,0,aC⟩) 0 0) []:=by
  have h:=rU (B':=U.drew.heap.size) (by simp) (qE (U.drew.alloc (ah #[V c.1,aj ak c.2.1,aj ak c.2.2.1,aj ak c.2.2.2.1,V c.2.2.2.2] 91)))
  rwa [show (U.drew.alloc (ah #[V c.1,aj ak c.2.1,aj ak c.2.2.1,aj ak c.2.2.2.1,V c.2.2.2.2] 91)).heap.size=U.heap.size+1 by simp] at h
 obtain⟨T,w1,a0,w2,a3,w3,r1,r2,r3,o3,b3⟩:=Zh (W:=U.drew) (cb:=U.heap.size) h0 ((xX U.drew c).on ((L _ _).alloc (au _) _)) (by omega) (((L _ _).alloc (au _) _).alloc (by simp) _) (hl.on (L _ _).drew) (hh.on (L _ _).drew) la lb;exact⟨T,w1,a0,w2,a3,w3,r1,r2,r3,o3,(L _ _).drew.trans b3⟩
theorem Q8 {U:aD} {lo hi:aG} {a b:List C5} (c:C5) (hl:fI U lo a) (hh:fI U hi b) (la:a.length<=100) (lb:b.length<=100) :
  ∃ T w1 a0 w2 a3 w3,(J #[34,34] 34 #[Z (aA ⟨U.heap.size,0,aC⟩) 0 0,lo]).run Q ((U.drew.alloc (ah #[] 91)).alloc (ah #[V c.1,aj ak c.2.1,aj ak c.2.2.1,aj ak c.2.2.2.1,V c.2.2.2.2] 91))=.ok T w1 /\
   (J #[34,34] 34 #[T,Z (aA ⟨U.heap.size+1,0,aC⟩) 1 1]).run Q w1=.ok a0 w2 /\
   (J #[34,34] 34 #[a0,hi]).run Q w2=.ok a3 w3/\iJ w3 U.heap.size a3 (a++c::b)/\Below U.heap.size U w3:=by
 have hx:fI ((U.drew.alloc (ah #[] 91)).alloc (ah #[V c.1,aj ak c.2.1,aj ak c.2.2.1,aj ak c.2.2.2.1,V c.2.2.2.2] 91)) (Z (aA ⟨U.heap.size+1,0,aC⟩) 1 1) [c]:=by
  have h:=xX (U.drew.alloc (ah #[] 91)) c
  rwa [show (U.drew.alloc (ah #[] 91)).heap.size=U.heap.size+1 by simp] at h
 obtain⟨T,w1,a0,w2,a3,w3,r1,r2,r3,o3,b3⟩:=Zh (W:=U.drew) (g:=U.heap.size) (dI (qE U.drew) ((L _ _).alloc (au _) _)) hx (by omega) (((L _ _).alloc (au _) _).alloc (by simp) _) (hl.on (L _ _).drew) (hh.on (L _ _).drew) la lb;exact⟨T,w1,a0,w2,a3,w3,r1,r2,r3,o3,(L _ _).drew.trans b3⟩
theorem acV (a b:ByteArray) (h:¬ a=b):(a.toList == b.toList)=false:=by
 rw [beq_eq_false_iff_ne];exact fun e=>h (uP e)
def acW (r:Option (List Cn)) (w:aD) (e:Ending) (w':aD):Prop:=Below w.heap.size w w'/\(match r with
 | some p=>∃ v,e=.returned (.tuple #[v,.bool true])/\fI w' v (p.map r5)
 | none=>e=.returned (.tuple #[Z aC 0 0,.bool false]))
theorem Ve (lv:aG) (l:List Cn) (w:aD) (hl:fI w lv (l.map r5)) (h10:l.length<=10):Calls Q 123 #[lv] w (acW (kJ [] l) w):=by
 have cY:=D hl;have jV:=D (show (l.map r5).length=l.length from X ..);obtain⟨ao,ac,rfl⟩:=hl.len;rw [X] at cY ⊢;obtain⟨n,hn⟩:∃ n,n=l.length:=⟨_,rfl⟩;rw [<- hn] at cY h10 ⊢;have cR:=D hn;obtain⟨res,hres⟩:∃ r,r=kJ [] l:=⟨_,rfl⟩;have j8:=D hres;have i7:=D (fun e w' (h:acW res w e w')=>(show acW (kJ [] l) w e w' from hres ▸ h));generalize hq:acW (kJ [] l) w=q at *;clear hq hl hn hres;go_enter Tryz.func123,Tryz.ntmps123;go_wp2
 go_loopw [4,12] (fun ov i wr=>∃ (j:Nat) (m:List Cn),j<=n/\i=aj ak j/\iJ wr w.heap.size ov (m.map r5)/\iU m/\m.length<=j/\res=kJ m (l.drop j)/\Below w.heap.size w wr) (fun _ i _=>n-(intOf i).toNat)
 case atStart=>exact⟨0,[],aM _,rfl,iO _ _,List.Pairwise.nil,by simp,by rw [j8.out]; rfl,L _ _⟩
 case round =>
  obtain⟨j,m,hj,rfl,hown,hrise,hmj,CG,hb⟩:=hrel;have cG:=D hb;have cS:=D hown;have cU:=D hrise;have cX:=D CG;have m10:m.length<=10:=by omega
  clear hb hown hrise CG;by_cases hjl:j<n
  ·obtain⟨⟨xn,xk⟩,hx⟩:∃ x,l[j]?=aA x:=⟨_,aB (by have:=cR.out; omega)⟩;obtain⟨p,ix,px⟩:=elC (x:=r5 (xn,xk)) cY.out rfl (jV.out.trans cR.out.symm) (by rw [Y,hx]; rfl);obtain⟨p0,p1,p2,p3,p4⟩:=px _ cG.out;have DR:l.drop j=(xn,xk)::l.drop (j+1):=by
    have h:=List.drop_eq_getElem_cons (l:=l) (i:=j) (by have:=cR.out; omega);rw [h]
    congr 1
    exact (List.getElem?_eq_some_iff.1 hx).2
   have F2:=cX.out;rw [DR,Ph] at F2;have cP:=D F2;have i9:=D (cG.out.alloc cG.out.size (ah #[V xn,aj ak (kN xk),aj ak (kH xk),aj ak (kI xk),V (kT xk)] 91));have j9:=D (dI cS.out ((L wr.heap.size wr).alloc (au _) (ah #[V xn,aj ak (kN xk),aj ak (kH xk),aj ak (kI xk),V (kT xk)] 91)));have j7:=D (show dK (wr.alloc (ah #[V xn,aj ak (kN xk),aj ak (kH xk),aj ak (kI xk),V (kT xk)] 91)) wr.heap.size (cells5 (r5 (xn,xk))).toArray 91 from dQ wr _ _);obtain⟨oo,oc,hov⟩:=(Row.dJ cS.out).len;rw [X] at hov;subst hov;have CL:=xO m xn;simp only [r5] at p0 p1 p2 p3 p4;clear hx px F2 DR cX cG cS;go_wp2_with fail;clear ix p0 p1 p2 p3 p4;generalize wr.alloc (ah #[V xn,aj ak (kN xk),aj ak (kH xk),aj ak (kI xk),V (kT xk)] 91)=W1 at *;generalize wr.heap.size=cb at *
   go_loopw [7] (fun at_ wi=>∃ k:Nat,k<=kZ m xn/\at_=aj ak k/\Below W1.heap.size W1 wi) (fun i _=>m.length-(intOf i).toNat)
   case atStart=>exact⟨0,aM _,rfl,L _ _⟩
   case round =>
    obtain⟨k,hk,rfl,hbi⟩:=hrel;have cD:=D hbi;have bJ:=D (i9.out.trans (hbi.mono i9.out.size));have c7:=D (dI j9.out hbi);have c8:=D (j7.out.on hbi);clear hbi;obtain⟨b0,b1,b2,b3,b4⟩:=oK c8.out;simp only [r5] at b0 b1 b2 b3 b4;have cJ:=D (show (m.map r5).length=m.length from X ..);by_cases hkc:k<kZ m xn
    ·obtain⟨⟨yn,yk⟩,hy⟩:∃ y,m[k]?=aA y:=⟨_,aB (by omega)⟩;obtain⟨q,iy,q0,q1,q2,q3,q4⟩:=nY (x:=r5 (yn,yk)) (Row.dJ c7.out) rfl cJ.out (by rw [Y,hy]; rfl) (L _ _);have lt:=cnt_lt m xn k _ hkc hy;have hkl:k<m.length:=by omega
     have d0:decide (k<m.length)=true:=by simpa using hkl
     have d1:decide ((k:Int)<(m.length:Int))=true:=by simpa using hkl
     simp only [r5] at q0 q1 q2 q3 q4 lt;clear hy;go_wp2;refine wp_region_quiet_below (by kernel_rfl) (by kernel_rfl) ?_
     repeat (go_big_quiet_step (fail))
     refine wpQuiet_nil ?_;intro _ hw';obtain⟨⟨dq,osq⟩,hw''⟩:=hw';subst hw'';have T:=D (cD.out.trans ((below_regrown wr dq osq).mono cD.out.size));clear iy q0 q1 q2 q3 q4 lt b0 b1 b2 b3 b4;go_wp2
     go_roundw
     case rel=>exact⟨k+1,by omega,by go_num,T.out⟩
     case measure=>simp [intOf]; omega
    ·have hkk:k=kZ m xn:=by omega
     have bQ:=D hkk;by_cases hkl:k<m.length
     ·obtain⟨⟨yn,yk⟩,hy⟩:∃ y,m[k]?=aA y:=⟨_,aB hkl⟩;obtain⟨q,iy,q0,q1,q2,q3,q4⟩:=nY (x:=r5 (yn,yk)) (Row.dJ c7.out) rfl cJ.out (by rw [Y,hy]; rfl) (L _ _);have lt:=Ze m xn (yn,yk) (by rw [<- hkk]; exact hy);have d0:decide (k<m.length)=true:=by simpa using hkl
      have d1:decide ((k:Int)<(m.length:Int))=true:=by simpa using hkl
      have cQ:=D (Zf (m:=m) (n:=xn) (y:=(yn,yk)) (by rw [<- hkk]; exact hy));have cL:=D hy;simp only [r5] at q0 q1 q2 q3 q4 lt;clear hy hkk hkc;by_cases he:yn=xn
      ·skip
       obtain rfl:yn=xn:=he;have iF:=D (show lG m yn=true by rw [cQ.out]; simp);obtain⟨x,hx1,hx2,hx3⟩:=vU (c:=(yn,xk)) iF.out;rw [<- bQ.out,cL.out] at hx1;obtain rfl:=Option.some.inj hx1;rw [<- bQ.out] at hx3;have a5:=D hx3;clear hx1 hx2 hx3 cQ iF;go_wp2;refine wp_region_quiet_below (by kernel_rfl) (by kernel_rfl) ?_
       repeat (go_big_quiet_step (fail))
       refine wpQuiet_nil ?_;intro _ hw';obtain⟨⟨dq,osq⟩,hw''⟩:=hw';subst hw'';clear iy q0 q1 q2 q3 q4 b0 b1 b2 b3 b4;have T:=D (bJ.out.trans ((below_regrown wr dq osq).mono bJ.out.size));have a6:=D (dI c7.out (below_regrown wr dq osq));have a7:=D (c8.out.on (below_regrown wr dq osq));clear bJ c7 c8 cD;generalize grow (redrawn wr dq) osq=w2 at *;obtain⟨b0,b1,b2,b3,b4⟩:=oK a7.out;obtain⟨q,iy,q0,q1,q2,q3,q4⟩:=nY (x:=r5 (yn,yk)) (Row.dJ a6.out) rfl cJ.out (by rw [Y,cL.out]; rfl) (L _ _);simp only [r5] at q0 q1 q2 q3 q4 b0 b1 b2 b3 b4;go_wp2;refine wp_region_quiet_below (by kernel_rfl) (by kernel_rfl) ?_
       repeat (go_big_quiet_step (fail))
       refine wpQuiet_nil ?_;intro _ hw';obtain⟨⟨dq,osq⟩,hw''⟩:=hw';subst hw'';clear iy q0 q1 q2 q3 q4 b0 b1 b2 b3 b4;have a3:=D (T.out.trans ((below_regrown w2 dq osq).mono T.out.size));have a8:=D (dI a6.out (below_regrown w2 dq osq));have a0:=D (a7.out.on (below_regrown w2 dq osq));clear T a6 a7;generalize grow (redrawn w2 dq) osq=U at *;obtain⟨q,iy,_,qx⟩:=qA wF (x:=r5 (yn,yk)) (Row.dJ a8.out) rfl cJ.out (by rw [Y,cL.out]; rfl);have j0:=D (fun w hw=>five (qx w hw));obtain⟨q0,q1,q2,q3,q4⟩:=j0.out U (L _ _);obtain⟨x0,x1,x2,x3,x4⟩:=fG a0.out;have cW:=D (fun W=>Vb yn yk xk W);generalize fH yk xk=r at *;have hcb:cb<U.heap.size:=a0.out.lt;simp only [r5] at q0 q1 q2 q3 q4 x0 x1 x2 x3 x4 cW;clear qx;change ∀ w,(Instr.indexAt 34 (Z oo m.length oc) (aj ak k)).run Q w=.ok (aI (aA q)) w at iy;go_wp2_with fail
       rename_i K hK
       have TAIL:∀ (pb:Nat) (wf:aD) (y:C5) (d3 d4 d5 d7 d9 dA dC dE dS dT e7 e9 eA eB eC eE eI eJ eK eL eM eN eQ eS eV eW f0 f7 f8 f9 fL fN fP fR fS fW fX fY g0 g6 g9 gE gO gR gS hC hG hH hJ hL hM hO hS hT hU hW hX hY hZ i0 i3 i4 i5 i6:aG),dK wf pb (cells5 y).toArray 91->Below U.heap.size U wf->(∀ k',r=aA k'->y=r5 (yn,k'))->K ⟨#[Z ao n ac,undef,u2,u3,Z oo m.length oc,undef,aI (aA ⟨cb,0,aC⟩),aj ak k,aI (aA ⟨pb,0,aC⟩),.bool r.isSome,Z ao n ac,aj ak n,aj ak j,d3,d4,d5,d7,d9,dA,dC,dE,dS,dT,e7,e9,eA,eB,eC,eE,eI,eJ,eK,eL,eM,eN,eQ,eS,eV,eW,f0,f7,f8,f9,fL,fN,fP,fR,fS,fW,fX,fY,g0,g6,g9,gE,gO,gR,gS,hC,hG,hH,hJ,hL,hM,hO,hS,hT,hU,hW,hX,hY,hZ,i0,i3,i4,i5,i6,undef],[]⟩ wf:=by
        clear q0 q1 q2 q3 q4 x0 x1 x2 x3 x4 cW iy j0 a0 hcb d0 d1 lt;intro pb wf y d3 d4 d5 d7 d9 dA dC dE dS dT e7 e9 eA eB eC eE eI eJ eK eL eM eN eQ eS eV eW f0 f7 f8 f9 fL fN fP fR fS fW fX fY g0 g6 g9 gE gO gR gS hC hG hH hJ hL hM hO hS hT hU hW hX hY hZ i0 i3 i4 i5 i6 hyb hbw hyk;have j6:=D hyb;have k6:=D hbw;have k7:=D hyk;have cI:=D (a3.out.trans (hbw.mono a3.out.size));clear hyb hbw hyk;apply hK;clear hK;rcases r with _|k'
        ·have a4:=D (show res=aC by rw [cP.out,a5.out]; rfl);go_wp2;refine i7.out _ _ ⟨cI.out,?_⟩;rw [a4.out]
         rfl
        ·have a4:=D (show res=kJ (m.set k (yn,k')) (l.drop (j+1)) by rw [cP.out,a5.out]; rfl);have b9:=D (kg m (yn,xk) (m.set k (yn,k')) cU.out (by rw [a5.out]; rfl)).1;have j4:=D (k7.out k' rfl);have iS:=D (show fI wf (Z oo m.length oc) (m.map r5) from Row.dJ (dI a8.out k6.out));have cT:=D ((L wf.heap.size wf).alloc (au _) (ah #[] 91));have MK:=qE wf;obtain⟨j3,w1,r1,o0,g1⟩:=EK wf.heap.size MK (iS.out.on cT.out) (by simp) (by simp; omega) (by simp);have j2:=D (cT.out.grown g1 (by simp) (fun jj hj=>(MK.lt jj hj).1));have o1:iJ w1 wf.heap.size j3 (m.map r5):=by simpa using o0
         rcases gB o1 with⟨_,h2⟩|⟨g,cap,cur,rfl,hBg,hg,hlc,hcm,hsz,htk⟩
         ·rw [List.map_eq_nil_iff] at h2;rw [h2] at hkl;exact absurd hkl (Nat.not_lt_zero _)
         ·have fl:=AZ wF (m.map r5) k (r5 (yn,yk)) (by rw [Y,cL.out]; rfl);have cl:∀ jj u,jj<5->(cells5 (r5 (yn,yk)))[jj]?=aA u->w1.cell? ⟨g,k * 5+jj,aC⟩=aA u:=fun jj u hj hu=>(World.ownsRow.cellAt o1 (k * 5+jj) (by rw [X]; show _<m.length * 5; omega)).trans ((fl jj hj).trans hu);have c0:=cl 0 _ (by decide) rfl;have c1:=cl 1 _ (by decide) rfl;have c2:=cl 2 _ (by decide) rfl;have c3:=cl 3 _ (by decide) rfl;have c4:=cl 4 _ (by decide) rfl;have fz:=fun jj=>(show dK w1 g cur 91 from hg).fr jj;have j5:=D hBg;have i8:=D o1;have ix:=nT wF g k m.length cap hkl;change ∀ w,(Instr.indexAt 34 (Z (aA ⟨g,0,aC⟩) m.length cap) (aj ak k)).run Q w=.ok (aI (aA ⟨g,k * 5,aC⟩)) w at ix;change w1.cell? ⟨g,k * 5,aC⟩=aA (V yn) at c0;obtain⟨y0,y1,y2,y3,y4⟩:=fG (j6.out.on j2.out);rw [X] at r1 i8;simp only [r5] at c1 c2 c3 c4;clear o0 o1 g1 MK hBg hg hlc hcm hsz htk fl cl cT iS;go_wp2_with (first | (at_builtin; refine wpList_append_run rfl _ _ 34 rfl rfl rfl r1 ?_) | fail)
          go_roundw
          case rel=>exact⟨j+1,m.set k (yn,k'),by omega,by go_num,by
           rw [List.map_set,<- j4.out];exact rU cI.out.size (GH i8.out (by rw [X]) hkl),b9.out,by rw [List.length_set]; omega,a4.out,xY (cI.out.trans (j2.out.mono cI.out.size)) g (Nat.le_trans cI.out.size j5.out) _ _ _ _ _ _⟩
          case measure=>simp [intOf]; omega
       clear hK
       go_region_with (go_at_call 163; refine (cW.out _).mono ?_; rintro e w3 ⟨⟨y,rfl,hy⟩,hb3⟩; (try (have ZB:=D ((dQ U.drew (cells5 (⟨#[]⟩,0,0,0,⟨#[]⟩)).toArray 91).on hb3); obtain⟨z0,z1,z2,z3,z4⟩:=fG ZB.out; have fz:=fun k=>ZB.out.fr k; simp only [World.size_drew] at z0 z1 z2 z3 z4 fz)))
       all_goals simp only [Exit.then]
       all_goals first
        | exact TAIL w3.heap.size _ y _ _ _ _ _ _ _ _ _ _ _ _ _ _ _ _ _ _ _ _ _ _ _ _ _ _ _ _ _ _ _ _ _ _ _ _ _ _ _ _ _ _ _ _ _ _ _ _ _ _ _ _ _ _ _ _ _ _ _ _ _ _ _ _ (dQ w3 _ _) (((L U.heap.size U).drew.trans hb3).alloc hb3.size _) hy
        | exact TAIL U.heap.size _ y _ _ _ _ _ _ _ _ _ _ _ _ _ _ _ _ _ _ _ _ _ _ _ _ _ _ _ _ _ _ _ _ _ _ _ _ _ _ _ _ _ _ _ _ _ _ _ _ _ _ _ _ _ _ _ _ _ _ _ _ _ _ _ _ (wm ((dQ U.drew (cells5 (⟨#[]⟩,0,0,0,⟨#[]⟩)).toArray 91).on hb3) y) (iR (((L U.heap.size U).drew.alloc (by simp) _).trans (hb3.mono (by simp))) U.heap.size (au _) _ _ _ _ _) hy
      ·have eq:=acV yn xn he;have cV:=D (show lG m xn=false by rw [cQ.out]; simpa using he);clear he cQ;go_wp2;refine wp_region_quiet_below (by kernel_rfl) (by kernel_rfl) ?_
       repeat (go_big_quiet_step (fail))
       refine wpQuiet_nil ?_;intro _ hw';obtain⟨⟨dq,osq⟩,hw''⟩:=hw';subst hw'';clear iy q0 q1 q2 q3 q4 b0 b1 b2 b3 b4;have T:=D (bJ.out.trans ((below_regrown wr dq osq).mono bJ.out.size));have a6:=D (dI c7.out (below_regrown wr dq osq));have a7:=D (c8.out.on (below_regrown wr dq osq));clear bJ c7 c8 cD;generalize grow (redrawn wr dq) osq=w2 at *;obtain⟨b0,b1,b2,b3,b4⟩:=oK a7.out;obtain⟨q,iy,q0,q1,q2,q3,q4⟩:=nY (x:=r5 (yn,yk)) (Row.dJ a6.out) rfl cJ.out (by rw [Y,cL.out]; rfl) (L _ _);simp only [r5] at q0 q1 q2 q3 q4 b0 b1 b2 b3 b4;go_wp2;refine wp_region_quiet_below (by kernel_rfl) (by kernel_rfl) ?_
       repeat (go_big_quiet_step (fail))
       refine wpQuiet_nil ?_;intro _ hw';obtain⟨⟨dq,osq⟩,hw''⟩:=hw';subst hw'';have a3:=D (T.out.trans ((below_regrown w2 dq osq).mono T.out.size));have a8:=D (dI a6.out (below_regrown w2 dq osq));have a0:=D (a7.out.on (below_regrown w2 dq osq));clear T a6 a7;generalize grow (redrawn w2 dq) osq=U at *;have a5:=D (Bd (c:=(xn,xk)) cV.out);rw [<- bQ.out] at a5;have a4:=D (show res=kJ (m.take k++(xn,xk)::m.drop k) (l.drop (j+1)) by rw [cP.out,a5.out]);have b9:=D (kg m (xn,xk) _ cU.out a5.out).1;have c9:=D (show (m.take k++(xn,xk)::m.drop k).length<=j+1 by have:=bQ.out; simp; omega);have cM:=D (show k<=(m.map r5).length by have:=bQ.out; rw [X]; omega);obtain⟨lo,E5,xJ⟩:=loC (Row.dJ a8.out) k cM.out;obtain⟨hi,E8,za⟩:=hiC (Row.dJ a8.out) k cM.out;have la:((m.map r5).take k).length<=100:=by simp; omega
       have lb:((m.map r5).drop k).length<=100:=by simp; omega
       have cH:=D (show (m.take k++(xn,xk)::m.drop k).map r5=(m.map r5).take k++(xn,kN xk,kH xk,kI xk,kT xk)::(m.map r5).drop k by rw [aH,aJ,aK,aL]; rfl);obtain⟨va1,wa1,va2,wa2,va3,wa3,ra1,ra2,ra3,ba1,oa3,ba3⟩:=Q6 (xn,kN xk,kH xk,kI xk,kT xk) xJ za la lb;obtain⟨vb1,wb1,vb2,wb2,vb3,wb3,rb1,rb2,rb3,ob3,bb3⟩:=Q7 (xn,kN xk,kH xk,kI xk,kT xk) xJ za la lb;obtain⟨vc1,wc1,vc2,wc2,vc3,wc3,rc1,rc2,rc3,oc3,bc3⟩:=Q8 (xn,kN xk,kH xk,kI xk,kT xk) xJ za la lb;have aE:=D (fun (cA:aG) (w3:aD) (o3:iJ w3 U.heap.size cA ((m.map r5).take k++(xn,kN xk,kH xk,kI xk,kT xk)::(m.map r5).drop k)) (b3:Below U.heap.size U w3)=>(show iJ w3 w.heap.size cA ((m.take k++(xn,xk)::m.drop k).map r5)/\Below w.heap.size w w3 from ⟨by rw [cH.out]; exact rU a3.out.size o3,a3.out.trans (b3.mono a3.out.size)⟩));have cC:=D (aE.out va3 wa3 oa3 ba3);have cN:=D (aE.out vb3 wb3 ob3 bb3);have cF:=D (aE.out vc3 wc3 oc3 bc3);obtain⟨x0,x1,x2,x3,x4⟩:=fG a0.out;obtain⟨y0,y1,y2,y3,y4⟩:=fG (a0.out.on ba1);simp only [r5] at x0 x1 x2 x3 x4 y0 y1 y2 y3 y4 ra2 rb1 rc1;have hcb:cb<U.heap.size:=a0.out.lt;clear oa3 ba3 ob3 bb3 oc3 bc3 aE xJ za la lb ba1 cH a0 a8 a3;go_wp2_with fail
       go_region_law (first
        | (refine fB rfl (ay 64) (ay 67) 34 rfl (by simp [O]) (by simp [O]) ra1 ?_)
        | (refine fB rfl (ay 64) (ay 67) 34 rfl (by simp [O]) (by simp [O]) rb1 ?_)
        | (refine fB rfl (ay 64) (ay 67) 34 rfl (by simp [O]) (by simp [O]) rc1 ?_)
        | (refine fB rfl (ay 68) (ay 70) 34 rfl (by simp [O]) (by simp [O]) ra2 ?_)
        | (refine fB rfl (ay 68) (ay 70) 34 rfl (by simp [O]) (by simp [O]) rb2 ?_)
        | (refine fB rfl (ay 68) (ay 70) 34 rfl (by simp [O]) (by simp [O]) rc2 ?_)
        | (refine fB rfl (ay 71) (ay 74) 34 rfl (by simp [O]) (by simp [O]) ra3 ?_)
        | (refine fB rfl (ay 71) (ay 74) 34 rfl (by simp [O]) (by simp [O]) rb3 ?_)
        | (refine fB rfl (ay 71) (ay 74) 34 rfl (by simp [O]) (by simp [O]) rc3 ?_))
       all_goals simp only [Exit.inBlock,Exit.then]
       all_goals
        apply_assumption
        clear ra1 ra2 ra3 rb1 rb2 rb3 rc1 rc2 rc3 x0 x1 x2 x3 x4 y0 y1 y2 y3 y4 E5 E8;go_wp2
        go_roundw
        case rel=>first
         | exact⟨j+1,_,by omega,by go_num,cC.out.1,b9.out,c9.out,a4.out,cC.out.2⟩
         | exact⟨j+1,_,by omega,by go_num,cN.out.1,b9.out,c9.out,a4.out,cN.out.2⟩
         | exact⟨j+1,_,by omega,by go_num,cF.out.1,b9.out,c9.out,a4.out,cF.out.2⟩
        case measure=>simp [intOf]; omega
     ·have d0:decide (k<m.length)=false:=by simpa using hkl
      have d1:decide ((k:Int)<(m.length:Int))=false:=by simpa using hkl
      have cV:=D (Vd (m:=m) (n:=xn) (by rw [<- hkk]; omega));clear hkk hkc hkl;go_wp2;refine wp_region_quiet_below (by kernel_rfl) (by kernel_rfl) ?_
      repeat (go_big_quiet_step (fail))
      refine wpQuiet_nil ?_;intro _ hw';obtain⟨⟨dq,osq⟩,hw''⟩:=hw';subst hw'';clear b0 b1 b2 b3 b4;have T:=D (bJ.out.trans ((below_regrown wr dq osq).mono bJ.out.size));have a6:=D (dI c7.out (below_regrown wr dq osq));have a7:=D (c8.out.on (below_regrown wr dq osq));clear bJ c7 c8 cD;generalize grow (redrawn wr dq) osq=w2 at *;go_wp2;refine wp_region_quiet_below (by kernel_rfl) (by kernel_rfl) ?_
      repeat (go_big_quiet_step (fail))
      refine wpQuiet_nil ?_;intro _ hw';obtain⟨⟨dq,osq⟩,hw''⟩:=hw';subst hw'';have a3:=D (T.out.trans ((below_regrown w2 dq osq).mono T.out.size));have a8:=D (dI a6.out (below_regrown w2 dq osq));have a0:=D (a7.out.on (below_regrown w2 dq osq));clear T a6 a7;generalize grow (redrawn w2 dq) osq=U at *;have a5:=D (Bd (c:=(xn,xk)) cV.out);rw [<- bQ.out] at a5;have a4:=D (show res=kJ (m.take k++(xn,xk)::m.drop k) (l.drop (j+1)) by rw [cP.out,a5.out]);have b9:=D (kg m (xn,xk) _ cU.out a5.out).1;have c9:=D (show (m.take k++(xn,xk)::m.drop k).length<=j+1 by have:=bQ.out; simp; omega);have cM:=D (show k<=(m.map r5).length by have:=bQ.out; rw [X]; omega);obtain⟨lo,E5,xJ⟩:=loC (Row.dJ a8.out) k cM.out;obtain⟨hi,E8,za⟩:=hiC (Row.dJ a8.out) k cM.out;have la:((m.map r5).take k).length<=100:=by simp; omega
      have lb:((m.map r5).drop k).length<=100:=by simp; omega
      have cH:=D (show (m.take k++(xn,xk)::m.drop k).map r5=(m.map r5).take k++(xn,kN xk,kH xk,kI xk,kT xk)::(m.map r5).drop k by rw [aH,aJ,aK,aL]; rfl);obtain⟨va1,wa1,va2,wa2,va3,wa3,ra1,ra2,ra3,ba1,oa3,ba3⟩:=Q6 (xn,kN xk,kH xk,kI xk,kT xk) xJ za la lb;obtain⟨vb1,wb1,vb2,wb2,vb3,wb3,rb1,rb2,rb3,ob3,bb3⟩:=Q7 (xn,kN xk,kH xk,kI xk,kT xk) xJ za la lb;obtain⟨vc1,wc1,vc2,wc2,vc3,wc3,rc1,rc2,rc3,oc3,bc3⟩:=Q8 (xn,kN xk,kH xk,kI xk,kT xk) xJ za la lb;have aE:=D (fun (cA:aG) (w3:aD) (o3:iJ w3 U.heap.size cA ((m.map r5).take k++(xn,kN xk,kH xk,kI xk,kT xk)::(m.map r5).drop k)) (b3:Below U.heap.size U w3)=>(show iJ w3 w.heap.size cA ((m.take k++(xn,xk)::m.drop k).map r5)/\Below w.heap.size w w3 from ⟨by rw [cH.out]; exact rU a3.out.size o3,a3.out.trans (b3.mono a3.out.size)⟩));have cC:=D (aE.out va3 wa3 oa3 ba3);have cN:=D (aE.out vb3 wb3 ob3 bb3);have cF:=D (aE.out vc3 wc3 oc3 bc3);obtain⟨x0,x1,x2,x3,x4⟩:=fG a0.out;obtain⟨y0,y1,y2,y3,y4⟩:=fG (a0.out.on ba1);simp only [r5] at x0 x1 x2 x3 x4 y0 y1 y2 y3 y4 ra2 rb1 rc1;have hcb:cb<U.heap.size:=a0.out.lt;clear oa3 ba3 ob3 bb3 oc3 bc3 aE xJ za la lb ba1 cH a0 a8 a3;go_wp2_with fail
      go_region_law (first
       | (refine fB rfl (ay 64) (ay 67) 34 rfl (by simp [O]) (by simp [O]) ra1 ?_)
       | (refine fB rfl (ay 64) (ay 67) 34 rfl (by simp [O]) (by simp [O]) rb1 ?_)
       | (refine fB rfl (ay 64) (ay 67) 34 rfl (by simp [O]) (by simp [O]) rc1 ?_)
       | (refine fB rfl (ay 68) (ay 70) 34 rfl (by simp [O]) (by simp [O]) ra2 ?_)
       | (refine fB rfl (ay 68) (ay 70) 34 rfl (by simp [O]) (by simp [O]) rb2 ?_)
       | (refine fB rfl (ay 68) (ay 70) 34 rfl (by simp [O]) (by simp [O]) rc2 ?_)
       | (refine fB rfl (ay 71) (ay 74) 34 rfl (by simp [O]) (by simp [O]) ra3 ?_)
       | (refine fB rfl (ay 71) (ay 74) 34 rfl (by simp [O]) (by simp [O]) rb3 ?_)
       | (refine fB rfl (ay 71) (ay 74) 34 rfl (by simp [O]) (by simp [O]) rc3 ?_))
      all_goals simp only [Exit.inBlock,Exit.then]
      all_goals
       apply_assumption
       clear ra1 ra2 ra3 rb1 rb2 rb3 rc1 rc2 rc3 x0 x1 x2 x3 x4 y0 y1 y2 y3 y4 E5 E8;go_wp2
       go_roundw
       case rel=>first
        | exact⟨j+1,_,by omega,by go_num,cC.out.1,b9.out,c9.out,a4.out,cC.out.2⟩
        | exact⟨j+1,_,by omega,by go_num,cN.out.1,b9.out,c9.out,a4.out,cN.out.2⟩
        | exact⟨j+1,_,by omega,by go_num,cF.out.1,b9.out,c9.out,a4.out,cF.out.2⟩
       case measure=>simp [intOf]; omega
  ·obtain rfl:j=n:=by omega
   have R:=D (show res=aA m by rw [cX.out,List.drop_of_length_le (by have:=cR.out; omega)]; rfl);go_wp2;refine i7.out _ _ ⟨cG.out,?_⟩;rw [R.out];exact⟨_,rfl,Row.dJ cS.out⟩
end Go.Proofs.YtghlpefopidlaaaGreat.Rl
