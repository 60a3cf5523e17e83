/-
  The document's own B. Conditions as told.
-/
import Derived.Test.YtmklifheakemeaaGreatLQ033
import Derived.Test.YtmklifheakemeaaGreatLQ034
import Derived.Test.YtmklifheakemeaaGreatLQ017
import Derived.Test.YtmklifheakemeaaGreatLQ019
set_option maxRecDepth 100000
set_option maxHeartbeats 64000000
open _root_.Go renaming World->aD,Value->aG
open Go.Act renaming eval->O
open Go.Builtin renaming append_->J
open Go.IntKind renaming i64->ak
open Go.Lib renaming hid->D
open Go.Obj renaming cells->ah
open Go.Operand renaming tmp->ay
open Go.Proofs.Tryz renaming prog->Q
open Go.RowKit.Below renaming refl->L
open Go.Value renaming string->V,slice->Z,int->aj,pointer->aI
open _root_.List renaming length_map->X,getElem?_map->Y,getElem?_eq_getElem->aB,getElem?_cons_zero->aF,map_append->aH,map_cons->aJ,map_take->aK,map_drop->aL
open _root_.Nat renaming le_refl->au,zero_le->aM
open _root_.Option renaming some->aA,none->aC
namespace Go.Proofs.YtmklifheakemeaaGreat.Rl
open Go.RowKit Go.Sort Pu Rw Pr Va
theorem JW (n:ByteArray) (a b:Kd) (w:aD):Calls Q 152 #[cv (r5 (n,a)),cv (r5 (n,b))] w (Gh n (eX a b) w):=by
 cases a with
 | rg p q=>cases b with
  | rg r s=>exact Nf n p q r s w
  | tx t=>exact K4 n p q t w
  | pr t=>exact K6 n p q t w
 | tx s=>cases b with
  | rg r q=>exact K7 n s r q w
  | tx t=>exact M8 n s t w
  | pr t=>exact M9 n s t w
 | pr s=>cases b with
  | rg r q=>exact K8 n s r q w
  | tx t=>exact Na n s t w
  | pr t =>
   by_cases h:t.size<=s.size
   ·exact Nb n s t w h
   ·exact Nc n s t w h
theorem cnt_lt:∀ (m:List Cn) (n:ByteArray) (k:Nat) (y:Cn),k<iU m n->m[k]?=aA y->Op.bytesLess y.1.toList n.toList=true
 | [],n,k,y,_,h=>by simp at h
 | x::r,n,0,y,hk,h=>by
  simp only [aF,Option.some.injEq] at h;subst h;simp only [iU] at hk
  split at hk
  ·rename_i h; exact h
  ·omega
 | x::r,n,k+1,y,hk,h=>by
  simp only [iU] at hk
  split at hk
  ·exact cnt_lt r n k y (by omega) (by simpa using h)
  ·omega
theorem Ng:∀ (m:List Cn) (n:ByteArray) (y:Cn),m[iU m n]?=aA y->Op.bytesLess y.1.toList n.toList=false
 | [],n,y,h=>by simp at h
 | x::r,n,y,h=>by
  simp only [iU] at h
  split at h
  ·exact Ng r n y (by simpa using h)
  ·rename_i hn
   simp only [aF,Option.some.injEq] at h;subst h;exact Bool.eq_false_iff.2 hn
theorem Nh {m:List Cn} {n:ByteArray} {y:Cn} (h:m[iU m n]?=aA y):iY m n=decide (y.1=n):=by
 unfold iY;rw [h]
theorem JX {m:List Cn} {n:ByteArray} (h:m.length<=iU m n):iY m n=false:=by
 unfold iY;rw [List.getElem?_eq_none h]
theorem EZ (m r:List Cn) (c:Cn):iL m (c::r)=match lg m c with
  | none=>aC
  | some n=>iL n r:=rfl
theorem Cg {W U:aD} {v1 xv hi:aG} {a b:List C5} {c:C5} (h1:gG U W.heap.size v1 a) (hx:eY U xv [c]) (hh:eY W hi b) (la:a.length<=100) (lb:b.length<=100) (hb:Below W.heap.size W U) :
  ∃ v2 w2 v3 w3,(J #[32,32] 32 #[v1,xv]).run Q U=.ok v2 w2/\(J #[32,32] 32 #[v2,hi]).run Q w2=.ok v3 w3/\gG w3 W.heap.size v3 (a++c::b)/\Below W.heap.size W w3:=by
 obtain⟨v2,w2,r2,o2,g2⟩:=xJ W.heap.size h1 hx (by omega) (by simp) hb.size;have b2:=hb.grown g2 hb.size (fun j hj=>(h1.lt j hj).1);obtain⟨v3,w3,r3,o3,g3⟩:=xJ W.heap.size o2 (hh.on b2) (by simp; omega) (by omega) b2.size;have b3:=b2.grown g3 b2.size (fun j hj=>(o2.lt j hj).1);exact⟨v2,w2,v3,w3,r2,r3,by simpa using o3,b3⟩
theorem Ni {U w:aD} {cb:Nat} {c:C5} {row:Option Nat} (hx:eY U (Z (aA ⟨cb,0,aC⟩) 1 1) [c]) (hg:U.grownBy w row) (hne:row≠aA cb):eY w (Z (aA ⟨cb,0,aC⟩) 1 1) [c]:=by
 rcases hx with⟨h,_⟩|⟨a,cap,h1,h2,h3,h4⟩
 ·cases h
 ·obtain⟨rfl,rfl⟩:(⟨cb,0,aC⟩:Addr)=a/\1=cap:=by simpa using h1
  exact Or.inr ⟨_,1,rfl,h2,h3,fun j u hj=>hg.cell (h4 j u hj) (by rw [nC]; exact fun e=>hne e.symm)⟩
theorem Vt {W:aD} {lo hi:aG} {a b:List C5} (c:C5) (hl:eY W lo a) (hh:eY W hi b) (la:a.length<=100) (lb:b.length<=100) :
  ∃ v1 w1 v2 w2 v3 w3,(J #[32,32] 32 #[Z (aA ⟨W.heap.size,0,aC⟩) 0 0,lo]).run Q (W.alloc (ah #[] 70))=.ok v1 w1 /\
   (J #[32,32] 32 #[v1,Z (aA ⟨w1.heap.size,0,aC⟩) 1 1]).run Q (w1.alloc (ah #[V c.1,aj ak c.2.1,aj ak c.2.2.1,aj ak c.2.2.2.1,V c.2.2.2.2] 70))=.ok v2 w2 /\
   (J #[32,32] 32 #[v2,hi]).run Q w2=.ok v3 w3/\Below W.heap.size W w1/\gG w3 W.heap.size v3 (a++c::b)/\Below W.heap.size W w3:=by
 have b0:=(L W.heap.size W).alloc (au _) (ah #[] 70);obtain⟨v1,w1,r1,o1,g1⟩:=xJ W.heap.size (lq W) (hl.on b0) (by simp) (by omega) (by simp);have b1:=b0.grown g1 b0.size (fun j hj=>((lq W).lt j hj).1);have o1':=dJ o1 ((L _ _).alloc (au _) (ah #[V c.1,aj ak c.2.1,aj ak c.2.2.1,aj ak c.2.2.2.1,V c.2.2.2.2] 70));obtain⟨v2,w2,v3,w3,r2,r3,o3,b3⟩:=Cg (a:=a) (by simpa using o1') (qM w1 c) hh la lb (b1.alloc b1.size _);exact⟨v1,w1,v2,w2,v3,w3,r1,r2,r3,b1,o3,b3⟩
theorem Nj {W U:aD} {g cb:Nat} {lo hi:aG} {a b:List C5} {c:C5} (h0:gG U W.heap.size (Z (aA ⟨g,0,aC⟩) 0 0) []) (hx:eY U (Z (aA ⟨cb,0,aC⟩) 1 1) [c]) (hne:g≠cb) (hU:Below W.heap.size W U) (hl:eY W lo a) (hh:eY W hi b) (la:a.length<=100) (lb:b.length<=100) :
  ∃ v1 w1 v2 w2 v3 w3,(J #[32,32] 32 #[Z (aA ⟨g,0,aC⟩) 0 0,lo]).run Q U=.ok v1 w1 /\
   (J #[32,32] 32 #[v1,Z (aA ⟨cb,0,aC⟩) 1 1]).run Q w1=.ok v2 w2 /\
   (J #[32,32] 32 #[v2,hi]).run Q w2=.ok v3 w3/\gG w3 W.heap.size v3 (a++c::b)/\Below W.heap.size W w3:=by
 obtain⟨v1,w1,r1,o1,g1⟩:=xJ W.heap.size h0 (hl.on hU) (by simp) (by omega) hU.size;have b1:=hU.grown g1 hU.size (fun j hj=>(h0.lt j hj).1);obtain⟨v2,w2,v3,w3,r2,r3,o3,b3⟩:=Cg (a:=a) (by simpa using o1) (Ni hx g1 (by simp [Value.ownBlock,hne])) hh la lb b1;exact⟨v1,w1,v2,w2,v3,w3,r1,r2,r3,o3,b3⟩
theorem GN {U:aD} {lo hi:aG} {a b:List C5} (c:C5) (hl:eY U lo a) (hh:eY U hi b) (la:a.length<=100) (lb:b.length<=100) :
  ∃ v1 w1 v2 w2 v3 w3,(J #[32,32] 32 #[Z (aA ⟨U.heap.size,0,aC⟩) 0 0,lo]).run Q (U.drew.alloc (ah #[] 70))=.ok v1 w1 /\
   (J #[32,32] 32 #[v1,Z (aA ⟨w1.heap.size,0,aC⟩) 1 1]).run Q (w1.alloc (ah #[V c.1,aj ak c.2.1,aj ak c.2.2.1,aj ak c.2.2.2.1,V c.2.2.2.2] 70))=.ok v2 w2 /\
   (J #[32,32] 32 #[v2,hi]).run Q w2=.ok v3 w3/\Below U.heap.size U w1/\gG w3 U.heap.size v3 (a++c::b)/\Below U.heap.size U w3:=by
 obtain⟨v1,w1,v2,w2,v3,w3,r1,r2,r3,b1,o3,b3⟩:=Vt (W:=U.drew) c (hl.on (L _ _).drew) (hh.on (L _ _).drew) la lb;exact⟨v1,w1,v2,w2,v3,w3,r1,r2,r3,(L _ _).drew.trans b1,o3,(L _ _).drew.trans b3⟩
theorem GQ {U:aD} {lo hi:aG} {a b:List C5} (c:C5) (hl:eY U lo a) (hh:eY U hi b) (la:a.length<=100) (lb:b.length<=100) :
  ∃ v1 w1 v2 w2 v3 w3,(J #[32,32] 32 #[Z (aA ⟨U.heap.size+1,0,aC⟩) 0 0,lo]).run Q ((U.drew.alloc (ah #[V c.1,aj ak c.2.1,aj ak c.2.2.1,aj ak c.2.2.2.1,V c.2.2.2.2] 70)).alloc (ah #[] 70))=.ok v1 w1 /\
   (J #[32,32] 32 #[v1,Z (aA ⟨U.heap.size,0,aC⟩) 1 1]).run Q w1=.ok v2 w2 /\
   (J #[32,32] 32 #[v2,hi]).run Q w2=.ok v3 w3/\gG w3 U.heap.size v3 (a++c::b)/\Below U.heap.size U w3:=by
 have h0:gG ((U.drew.alloc (ah #[V c.1,aj ak c.2.1,aj ak c.2.2.1,aj ak c.2.2.2.1,V c.2.2.2.2] 70)).alloc (ah #[] 70)) U.drew.heap.size (Z (aA ⟨U.heap.size+1,0,aC⟩) 0 0) []:=by
  have h:=nW (B':=U.drew.heap.size) (by simp) (lq (U.drew.alloc (ah #[V c.1,aj ak c.2.1,aj ak c.2.2.1,aj ak c.2.2.2.1,V c.2.2.2.2] 70)))
  rwa [show (U.drew.alloc (ah #[V c.1,aj ak c.2.1,aj ak c.2.2.1,aj ak c.2.2.2.1,V c.2.2.2.2] 70)).heap.size=U.heap.size+1 by simp] at h
 obtain⟨v1,w1,v2,w2,v3,w3,r1,r2,r3,o3,b3⟩:=Nj (W:=U.drew) (cb:=U.heap.size) h0 ((qM U.drew c).on ((L _ _).alloc (au _) _)) (by omega) (((L _ _).alloc (au _) _).alloc (by simp) _) (hl.on (L _ _).drew) (hh.on (L _ _).drew) la lb;exact⟨v1,w1,v2,w2,v3,w3,r1,r2,r3,o3,(L _ _).drew.trans b3⟩
theorem GU {U:aD} {lo hi:aG} {a b:List C5} (c:C5) (hl:eY U lo a) (hh:eY U hi b) (la:a.length<=100) (lb:b.length<=100) :
  ∃ v1 w1 v2 w2 v3 w3,(J #[32,32] 32 #[Z (aA ⟨U.heap.size,0,aC⟩) 0 0,lo]).run Q ((U.drew.alloc (ah #[] 70)).alloc (ah #[V c.1,aj ak c.2.1,aj ak c.2.2.1,aj ak c.2.2.2.1,V c.2.2.2.2] 70))=.ok v1 w1 /\
   (J #[32,32] 32 #[v1,Z (aA ⟨U.heap.size+1,0,aC⟩) 1 1]).run Q w1=.ok v2 w2 /\
   (J #[32,32] 32 #[v2,hi]).run Q w2=.ok v3 w3/\gG w3 U.heap.size v3 (a++c::b)/\Below U.heap.size U w3:=by
 have hx:eY ((U.drew.alloc (ah #[] 70)).alloc (ah #[V c.1,aj ak c.2.1,aj ak c.2.2.1,aj ak c.2.2.2.1,V c.2.2.2.2] 70)) (Z (aA ⟨U.heap.size+1,0,aC⟩) 1 1) [c]:=by
  have h:=qM (U.drew.alloc (ah #[] 70)) c
  rwa [show (U.drew.alloc (ah #[] 70)).heap.size=U.heap.size+1 by simp] at h
 obtain⟨v1,w1,v2,w2,v3,w3,r1,r2,r3,o3,b3⟩:=Nj (W:=U.drew) (g:=U.heap.size) (dJ (lq U.drew) ((L _ _).alloc (au _) _)) hx (by omega) (((L _ _).alloc (au _) _).alloc (by simp) _) (hl.on (L _ _).drew) (hh.on (L _ _).drew) la lb;exact⟨v1,w1,v2,w2,v3,w3,r1,r2,r3,o3,(L _ _).drew.trans b3⟩
theorem Ra (a b:ByteArray) (h:¬ a=b):(a.toList == b.toList)=false:=by
 rw [beq_eq_false_iff_ne];exact fun e=>h (nX e)
def Rb (r:Option (List Cn)) (w:aD) (e:Ending) (w':aD):Prop:=Below w.heap.size w w'/\(match r with
 | some p=>∃ v,e=.returned (.tuple #[v,.bool true])/\eY w' v (p.map r5)
 | none=>e=.returned (.tuple #[Z aC 0 0,.bool false]))
theorem JY (lv:aG) (l:List Cn) (w:aD) (hl:eY w lv (l.map r5)) (h10:l.length<=10):Calls Q 107 #[lv] w (Rb (iL [] l) w):=by
 have HL:=D hl;have LN:=D (show (l.map r5).length=l.length from X ..);obtain⟨ao,ac,rfl⟩:=hl.len;rw [X] at HL ⊢;obtain⟨n,hn⟩:∃ n,n=l.length:=⟨_,rfl⟩;rw [<- hn] at HL h10 ⊢;have HN:=D hn;obtain⟨res,hres⟩:∃ r,r=iL [] l:=⟨_,rfl⟩;have HR:=D hres;have QS:=D (fun e w' (h:Rb res w e w')=>(show Rb (iL [] l) w e w' from hres ▸ h));generalize hq:Rb (iL [] l) w=q at *;clear hq hl hn hres;go_enter Tryz.func107,Tryz.ntmps107;go_wp2
 go_loopw [4,12] (fun ov i wr=>∃ (j:Nat) (m:List Cn),j<=n/\i=aj ak j/\gG wr w.heap.size ov (m.map r5)/\iP m/\m.length<=j/\res=iL m (l.drop j)/\Below w.heap.size w wr) (fun _ i _=>n-(intOf i).toNat)
 case atStart=>exact⟨0,[],aM _,rfl,jg _ _,List.Pairwise.nil,by simp,by rw [HR.out]; rfl,L _ _⟩
 case round =>
  obtain⟨j,m,hj,rfl,hown,hrise,hmj,Bj,hb⟩:=hrel;have BW:=D hb;have OW:=D hown;have RM:=D hrise;have FO:=D Bj;have m10:m.length<=10:=by omega
  clear hb hown hrise Bj;by_cases hjl:j<n
  ·obtain⟨⟨xn,xk⟩,hx⟩:∃ x,l[j]?=aA x:=⟨_,aB (by have:=HN.out; omega)⟩;obtain⟨p,ix,px⟩:=Qi (x:=r5 (xn,xk)) HL.out rfl (LN.out.trans HN.out.symm) (by rw [Y,hx]; rfl);obtain⟨p0,p1,p2,p3,p4⟩:=px _ BW.out;have DR:l.drop j=(xn,xk)::l.drop (j+1):=by
    have h:=List.drop_eq_getElem_cons (l:=l) (i:=j) (by have:=HN.out; omega);rw [h]
    congr 1
    exact (List.getElem?_eq_some_iff.1 hx).2
   have F2:=FO.out;rw [DR,EZ] at F2;have F3:=D F2;have B4:=D (BW.out.alloc BW.out.size (ah #[V xn,aj ak (kN xk),aj ak (iJ xk),aj ak (iK xk),V (kT xk)] 70));have O4:=D (dJ OW.out ((L wr.heap.size wr).alloc (au _) (ah #[V xn,aj ak (kN xk),aj ak (iJ xk),aj ak (iK xk),V (kT xk)] 70)));have X4:=D (show dI (wr.alloc (ah #[V xn,aj ak (kN xk),aj ak (iJ xk),aj ak (iK xk),V (kT xk)] 70)) wr.heap.size (cells5 (r5 (xn,xk))).toArray 70 from dL wr _ _);obtain⟨oo,oc,hov⟩:=(Row.dG OW.out).len;rw [X] at hov;subst hov;have CL:=qI m xn;simp only [r5] at p0 p1 p2 p3 p4;clear hx px F2 DR FO BW OW;go_wp2_with fail;clear ix p0 p1 p2 p3 p4;generalize wr.alloc (ah #[V xn,aj ak (kN xk),aj ak (iJ xk),aj ak (iK xk),V (kT xk)] 70)=W1 at *;generalize wr.heap.size=cb at *
   go_loopw [7] (fun at_ wi=>∃ k:Nat,k<=iU m xn/\at_=aj ak k/\Below W1.heap.size W1 wi) (fun i _=>m.length-(intOf i).toNat)
   case atStart=>exact⟨0,aM _,rfl,L _ _⟩
   case round =>
    obtain⟨k,hk,rfl,hbi⟩:=hrel;have BI:=D hbi;have B5:=D (B4.out.trans (hbi.mono B4.out.size));have O5:=D (dJ O4.out hbi);have X5:=D (X4.out.on hbi);clear hbi;obtain⟨b0,b1,b2,b3,b4⟩:=kP X5.out;simp only [r5] at b0 b1 b2 b3 b4;have OL:=D (show (m.map r5).length=m.length from X ..);by_cases hkc:k<iU m xn
    ·obtain⟨⟨yn,yk⟩,hy⟩:∃ y,m[k]?=aA y:=⟨_,aB (by omega)⟩;obtain⟨q,iy,q0,q1,q2,q3,q4⟩:=kF (x:=r5 (yn,yk)) (Row.dG O5.out) rfl OL.out (by rw [Y,hy]; rfl) (L _ _);have lt:=cnt_lt m xn k _ hkc hy;have hkl:k<m.length:=by omega
     have d0:decide (k<m.length)=true:=by simpa using hkl
     have d1:decide ((k:Int)<(m.length:Int))=true:=by simpa using hkl
     simp only [r5] at q0 q1 q2 q3 q4 lt;clear hy;go_wp2;refine wp_region_quiet_below (by kernel_rfl) (by kernel_rfl) ?_
     repeat (go_big_quiet_step (fail))
     refine wpQuiet_nil ?_;intro _ hw';obtain⟨⟨dq,osq⟩,hw''⟩:=hw';subst hw'';have BN:=D (BI.out.trans ((below_regrown wr dq osq).mono BI.out.size));clear iy q0 q1 q2 q3 q4 lt b0 b1 b2 b3 b4;go_wp2
     go_roundw
     case rel=>exact⟨k+1,by omega,by go_num,BN.out⟩
     case measure=>simp [intOf]; omega
    ·have hkk:k=iU m xn:=by omega
     have HK:=D hkk;by_cases hkl:k<m.length
     ·obtain⟨⟨yn,yk⟩,hy⟩:∃ y,m[k]?=aA y:=⟨_,aB hkl⟩;obtain⟨q,iy,q0,q1,q2,q3,q4⟩:=kF (x:=r5 (yn,yk)) (Row.dG O5.out) rfl OL.out (by rw [Y,hy]; rfl) (L _ _);have lt:=Ng m xn (yn,yk) (by rw [<- hkk]; exact hy);have d0:decide (k<m.length)=true:=by simpa using hkl
      have d1:decide ((k:Int)<(m.length:Int))=true:=by simpa using hkl
      have TH:=D (Nh (m:=m) (n:=xn) (y:=(yn,yk)) (by rw [<- hkk]; exact hy));have HY:=D hy;simp only [r5] at q0 q1 q2 q3 q4 lt;clear hy hkk hkc;by_cases he:yn=xn
      ·skip
       obtain rfl:yn=xn:=he;have TT:=D (show iY m yn=true by rw [TH.out]; simp);obtain⟨x,hx1,hx2,hx3⟩:=yh (c:=(yn,xk)) TT.out;rw [<- HK.out,HY.out] at hx1;obtain rfl:=Option.some.inj hx1;rw [<- HK.out] at hx3;have INS:=D hx3;clear hx1 hx2 hx3 TH TT;go_wp2;refine wp_region_quiet_below (by kernel_rfl) (by kernel_rfl) ?_
       repeat (go_big_quiet_step (fail))
       refine wpQuiet_nil ?_;intro _ hw';obtain⟨⟨dq,osq⟩,hw''⟩:=hw';subst hw'';clear iy q0 q1 q2 q3 q4 b0 b1 b2 b3 b4;have BN:=D (B5.out.trans ((below_regrown wr dq osq).mono B5.out.size));have ON:=D (dJ O5.out (below_regrown wr dq osq));have XN:=D (X5.out.on (below_regrown wr dq osq));clear B5 O5 X5 BI;generalize grow (redrawn wr dq) osq=w2 at *;obtain⟨b0,b1,b2,b3,b4⟩:=kP XN.out;obtain⟨q,iy,q0,q1,q2,q3,q4⟩:=kF (x:=r5 (yn,yk)) (Row.dG ON.out) rfl OL.out (by rw [Y,HY.out]; rfl) (L _ _);simp only [r5] at q0 q1 q2 q3 q4 b0 b1 b2 b3 b4;go_wp2;refine wp_region_quiet_below (by kernel_rfl) (by kernel_rfl) ?_
       repeat (go_big_quiet_step (fail))
       refine wpQuiet_nil ?_;intro _ hw';obtain⟨⟨dq,osq⟩,hw''⟩:=hw';subst hw'';clear iy q0 q1 q2 q3 q4 b0 b1 b2 b3 b4;have BU:=D (BN.out.trans ((below_regrown w2 dq osq).mono BN.out.size));have OU:=D (dJ ON.out (below_regrown w2 dq osq));have XU:=D (XN.out.on (below_regrown w2 dq osq));clear BN ON XN;generalize grow (redrawn w2 dq) osq=U at *;obtain⟨q,iy,_,qx⟩:=nE p9 (x:=r5 (yn,yk)) (Row.dG OU.out) rfl OL.out (by rw [Y,HY.out]; rfl);have QX:=D (fun w hw=>five (qx w hw));obtain⟨q0,q1,q2,q3,q4⟩:=QX.out U (L _ _);obtain⟨x0,x1,x2,x3,x4⟩:=eH XU.out;have CB:=D (fun W=>JW yn yk xk W);generalize eX yk xk=r at *;have hcb:cb<U.heap.size:=XU.out.lt;simp only [r5] at q0 q1 q2 q3 q4 x0 x1 x2 x3 x4 CB;clear qx;change ∀ w,(Instr.indexAt 32 (Z oo m.length oc) (aj ak k)).run Q w=.ok (aI (aA q)) w at iy;go_wp2_with fail
       rename_i K hK
       have TAIL:∀ (pb:Nat) (wf:aD) (y:C5) (u13 u14 u15 u16 u17 u18 u19 u20 u21 u22 u23 u24 u25 u26 u27 u28 u29 u30 u31 u32 u33 u34 u35 u36 u37 u38 u39 u40 u41 u42 u43 u44 u45 u46 u47 u48 u49 u50 u51 u52 u53 u54 u55 u56 u57 u58 u59 u60 u61 u62 u63 u64 u65 u66 u67 u68 u69 u70 u71 u72 u73 u74 u75 u76:aG),dI wf pb (cells5 y).toArray 70->Below U.heap.size U wf->(∀ k',r=aA k'->y=r5 (yn,k'))->K ⟨#[Z ao n ac,undef,u2,u3,Z oo m.length oc,undef,aI (aA ⟨cb,0,aC⟩),aj ak k,aI (aA ⟨pb,0,aC⟩),.bool r.isSome,Z ao n ac,aj ak n,aj ak j,u13,u14,u15,u16,u17,u18,u19,u20,u21,u22,u23,u24,u25,u26,u27,u28,u29,u30,u31,u32,u33,u34,u35,u36,u37,u38,u39,u40,u41,u42,u43,u44,u45,u46,u47,u48,u49,u50,u51,u52,u53,u54,u55,u56,u57,u58,u59,u60,u61,u62,u63,u64,u65,u66,u67,u68,u69,u70,u71,u72,u73,u74,u75,u76,undef],[]⟩ wf:=by
        clear q0 q1 q2 q3 q4 x0 x1 x2 x3 x4 CB iy QX XU hcb d0 d1 lt;intro pb wf y u13 u14 u15 u16 u17 u18 u19 u20 u21 u22 u23 u24 u25 u26 u27 u28 u29 u30 u31 u32 u33 u34 u35 u36 u37 u38 u39 u40 u41 u42 u43 u44 u45 u46 u47 u48 u49 u50 u51 u52 u53 u54 u55 u56 u57 u58 u59 u60 u61 u62 u63 u64 u65 u66 u67 u68 u69 u70 u71 u72 u73 u74 u75 u76 hyb hbw hyk;have HYB:=D hyb;have HBW:=D hbw;have HYK:=D hyk;have BF:=D (BU.out.trans (hbw.mono BU.out.size));clear hyb hbw hyk;apply hK;clear hK;rcases r with _|k'
        ·have F4:=D (show res=aC by rw [F3.out,INS.out]; rfl);go_wp2;refine QS.out _ _ ⟨BF.out,?_⟩;rw [F4.out]
         rfl
        ·have F4:=D (show res=iL (m.set k (yn,k')) (l.drop (j+1)) by rw [F3.out,INS.out]; rfl);have R4:=D (jq m (yn,xk) (m.set k (yn,k')) RM.out (by rw [INS.out]; rfl)).1;have YE:=D (HYK.out k' rfl);have ROF:=D (show eY wf (Z oo m.length oc) (m.map r5) from Row.dG (dJ OU.out HBW.out));have BA:=D ((L wf.heap.size wf).alloc (au _) (ah #[] 70));have MK:=lq wf;obtain⟨v1,w1,r1,o0,g1⟩:=xJ wf.heap.size MK (ROF.out.on BA.out) (by simp) (by simp; omega) (by simp);have B1:=D (BA.out.grown g1 (by simp) (fun jj hj=>(MK.lt jj hj).1));have o1:gG w1 wf.heap.size v1 (m.map r5):=by simpa using o0
         rcases gq o1 with⟨_,h2⟩|⟨g,cap,cur,rfl,hBg,hg,hlc,hcm,hsz,htk⟩
         ·rw [List.map_eq_nil_iff] at h2;rw [h2] at hkl;exact absurd hkl (Nat.not_lt_zero _)
         ·have fl:=uH p9 (m.map r5) k (r5 (yn,yk)) (by rw [Y,HY.out]; rfl);have cl:∀ jj u,jj<5->(cells5 (r5 (yn,yk)))[jj]?=aA u->w1.cell? ⟨g,k * 5+jj,aC⟩=aA u:=fun jj u hj hu=>(World.ownsRow.cellAt o1 (k * 5+jj) (by rw [X]; show _<m.length * 5; omega)).trans ((fl jj hj).trans hu);have c0:=cl 0 _ (by decide) rfl;have c1:=cl 1 _ (by decide) rfl;have c2:=cl 2 _ (by decide) rfl;have c3:=cl 3 _ (by decide) rfl;have c4:=cl 4 _ (by decide) rfl;have fz:=fun jj=>(show dI w1 g cur 70 from hg).fr jj;have BG:=D hBg;have O1:=D o1;have ix:=jV p9 g k m.length cap hkl;change ∀ w,(Instr.indexAt 32 (Z (aA ⟨g,0,aC⟩) m.length cap) (aj ak k)).run Q w=.ok (aI (aA ⟨g,k * 5,aC⟩)) w at ix;change w1.cell? ⟨g,k * 5,aC⟩=aA (V yn) at c0;obtain⟨y0,y1,y2,y3,y4⟩:=eH (HYB.out.on B1.out);rw [X] at r1 O1;simp only [r5] at c1 c2 c3 c4;clear o0 o1 g1 MK hBg hg hlc hcm hsz htk fl cl BA ROF;go_wp2_with (first | (at_builtin; refine wpList_append_run rfl _ _ 32 rfl rfl rfl r1 ?_) | fail)
          go_roundw
          case rel=>exact⟨j+1,m.set k (yn,k'),by omega,by go_num,by
           rw [List.map_set,<- YE.out];exact nW BF.out.size (yL O1.out (by rw [X]) hkl),R4.out,by rw [List.length_set]; omega,F4.out,qN (BF.out.trans (B1.out.mono BF.out.size)) g (Nat.le_trans BF.out.size BG.out) _ _ _ _ _ _⟩
          case measure=>simp [intOf]; omega
       clear hK
       go_region_with (go_at_call 152; refine (CB.out _).mono ?_; rintro e w3 ⟨⟨y,rfl,hy⟩,hb3⟩; (try (have ZB:=D ((dL U.drew (cells5 (⟨#[]⟩,0,0,0,⟨#[]⟩)).toArray 70).on hb3); obtain⟨z0,z1,z2,z3,z4⟩:=eH ZB.out; have fz:=fun k=>ZB.out.fr k; simp only [World.size_drew] at z0 z1 z2 z3 z4 fz)))
       all_goals simp only [Exit.then]
       all_goals first
        | exact TAIL w3.heap.size _ y _ _ _ _ _ _ _ _ _ _ _ _ _ _ _ _ _ _ _ _ _ _ _ _ _ _ _ _ _ _ _ _ _ _ _ _ _ _ _ _ _ _ _ _ _ _ _ _ _ _ _ _ _ _ _ _ _ _ _ _ _ _ _ _ (dL w3 _ _) (((L U.heap.size U).drew.trans hb3).alloc hb3.size _) hy
        | exact TAIL U.heap.size _ y _ _ _ _ _ _ _ _ _ _ _ _ _ _ _ _ _ _ _ _ _ _ _ _ _ _ _ _ _ _ _ _ _ _ _ _ _ _ _ _ _ _ _ _ _ _ _ _ _ _ _ _ _ _ _ _ _ _ _ _ _ _ _ _ (o9 ((dL U.drew (cells5 (⟨#[]⟩,0,0,0,⟨#[]⟩)).toArray 70).on hb3) y) (gL (((L U.heap.size U).drew.alloc (by simp) _).trans (hb3.mono (by simp))) U.heap.size (au _) _ _ _ _ _) hy
      ·have eq:=Ra yn xn he;have NT:=D (show iY m xn=false by rw [TH.out]; simpa using he);clear he TH;go_wp2;refine wp_region_quiet_below (by kernel_rfl) (by kernel_rfl) ?_
       repeat (go_big_quiet_step (fail))
       refine wpQuiet_nil ?_;intro _ hw';obtain⟨⟨dq,osq⟩,hw''⟩:=hw';subst hw'';clear iy q0 q1 q2 q3 q4 b0 b1 b2 b3 b4;have BN:=D (B5.out.trans ((below_regrown wr dq osq).mono B5.out.size));have ON:=D (dJ O5.out (below_regrown wr dq osq));have XN:=D (X5.out.on (below_regrown wr dq osq));clear B5 O5 X5 BI;generalize grow (redrawn wr dq) osq=w2 at *;obtain⟨b0,b1,b2,b3,b4⟩:=kP XN.out;obtain⟨q,iy,q0,q1,q2,q3,q4⟩:=kF (x:=r5 (yn,yk)) (Row.dG ON.out) rfl OL.out (by rw [Y,HY.out]; rfl) (L _ _);simp only [r5] at q0 q1 q2 q3 q4 b0 b1 b2 b3 b4;go_wp2;refine wp_region_quiet_below (by kernel_rfl) (by kernel_rfl) ?_
       repeat (go_big_quiet_step (fail))
       refine wpQuiet_nil ?_;intro _ hw';obtain⟨⟨dq,osq⟩,hw''⟩:=hw';subst hw'';have BU:=D (BN.out.trans ((below_regrown w2 dq osq).mono BN.out.size));have OU:=D (dJ ON.out (below_regrown w2 dq osq));have XU:=D (XN.out.on (below_regrown w2 dq osq));clear BN ON XN;generalize grow (redrawn w2 dq) osq=U at *;have INS:=D (uJ (c:=(xn,xk)) NT.out);rw [<- HK.out] at INS;have F4:=D (show res=iL (m.take k++(xn,xk)::m.drop k) (l.drop (j+1)) by rw [F3.out,INS.out]);have R4:=D (jq m (xn,xk) _ RM.out INS.out).1;have L4:=D (show (m.take k++(xn,xk)::m.drop k).length<=j+1 by have:=HK.out; simp; omega);have KM:=D (show k<=(m.map r5).length by have:=HK.out; rw [X]; omega);obtain⟨lo,Qx,Ej⟩:=loC (Row.dG OU.out) k KM.out;obtain⟨hi,Qy,El⟩:=hiC (Row.dG OU.out) k KM.out;have la:((m.map r5).take k).length<=100:=by simp; omega
       have lb:((m.map r5).drop k).length<=100:=by simp; omega
       have MP:=D (show (m.take k++(xn,xk)::m.drop k).map r5=(m.map r5).take k++(xn,kN xk,iJ xk,iK xk,kT xk)::(m.map r5).drop k by rw [aH,aJ,aK,aL]; rfl);obtain⟨va1,wa1,va2,wa2,va3,wa3,Yo,Vu,Yp,Yq,Yr,Yt⟩:=GN (xn,kN xk,iJ xk,iK xk,kT xk) Ej El la lb;obtain⟨vb1,wb1,vb2,wb2,vb3,wb3,Vv,Yu,Yv,Yw,bb3⟩:=GQ (xn,kN xk,iJ xk,iK xk,kT xk) Ej El la lb;obtain⟨vc1,wc1,vc2,wc2,vc3,wc3,Vw,Yx,Yy,Yz,bc3⟩:=GU (xn,kN xk,iJ xk,iK xk,kT xk) Ej El la lb;have ENDS:=D (fun (v3:aG) (w3:aD) (o3:gG w3 U.heap.size v3 ((m.map r5).take k++(xn,kN xk,iJ xk,iK xk,kT xk)::(m.map r5).drop k)) (b3:Below U.heap.size U w3)=>(show gG w3 w.heap.size v3 ((m.take k++(xn,xk)::m.drop k).map r5)/\Below w.heap.size w w3 from ⟨by rw [MP.out]; exact nW BU.out.size o3,BU.out.trans (b3.mono BU.out.size)⟩));have EA:=D (ENDS.out va3 wa3 Yr Yt);have EB:=D (ENDS.out vb3 wb3 Yw bb3);have YA:=D (ENDS.out vc3 wc3 Yz bc3);obtain⟨x0,x1,x2,x3,x4⟩:=eH XU.out;obtain⟨y0,y1,y2,y3,y4⟩:=eH (XU.out.on Yq);simp only [r5] at x0 x1 x2 x3 x4 y0 y1 y2 y3 y4 Vu Vv Vw;have hcb:cb<U.heap.size:=XU.out.lt;clear Yr Yt Yw bb3 Yz bc3 ENDS Ej El la lb Yq MP XU OU BU;go_wp2_with fail
       go_region_law (first
        | (refine eG rfl (ay 64) (ay 67) 32 rfl (by simp [O]) (by simp [O]) Yo ?_)
        | (refine eG rfl (ay 64) (ay 67) 32 rfl (by simp [O]) (by simp [O]) Vv ?_)
        | (refine eG rfl (ay 64) (ay 67) 32 rfl (by simp [O]) (by simp [O]) Vw ?_)
        | (refine eG rfl (ay 68) (ay 70) 32 rfl (by simp [O]) (by simp [O]) Vu ?_)
        | (refine eG rfl (ay 68) (ay 70) 32 rfl (by simp [O]) (by simp [O]) Yu ?_)
        | (refine eG rfl (ay 68) (ay 70) 32 rfl (by simp [O]) (by simp [O]) Yx ?_)
        | (refine eG rfl (ay 71) (ay 74) 32 rfl (by simp [O]) (by simp [O]) Yp ?_)
        | (refine eG rfl (ay 71) (ay 74) 32 rfl (by simp [O]) (by simp [O]) Yv ?_)
        | (refine eG rfl (ay 71) (ay 74) 32 rfl (by simp [O]) (by simp [O]) Yy ?_))
       all_goals simp only [Exit.inBlock,Exit.then]
       all_goals
        apply_assumption
        clear Yo Vu Yp Vv Yu Yv Vw Yx Yy x0 x1 x2 x3 x4 y0 y1 y2 y3 y4 Qx Qy;go_wp2
        go_roundw
        case rel=>first
         | exact⟨j+1,_,by omega,by go_num,EA.out.1,R4.out,L4.out,F4.out,EA.out.2⟩
         | exact⟨j+1,_,by omega,by go_num,EB.out.1,R4.out,L4.out,F4.out,EB.out.2⟩
         | exact⟨j+1,_,by omega,by go_num,YA.out.1,R4.out,L4.out,F4.out,YA.out.2⟩
        case measure=>simp [intOf]; omega
     ·have d0:decide (k<m.length)=false:=by simpa using hkl
      have d1:decide ((k:Int)<(m.length:Int))=false:=by simpa using hkl
      have NT:=D (JX (m:=m) (n:=xn) (by rw [<- hkk]; omega));clear hkk hkc hkl;go_wp2;refine wp_region_quiet_below (by kernel_rfl) (by kernel_rfl) ?_
      repeat (go_big_quiet_step (fail))
      refine wpQuiet_nil ?_;intro _ hw';obtain⟨⟨dq,osq⟩,hw''⟩:=hw';subst hw'';clear b0 b1 b2 b3 b4;have BN:=D (B5.out.trans ((below_regrown wr dq osq).mono B5.out.size));have ON:=D (dJ O5.out (below_regrown wr dq osq));have XN:=D (X5.out.on (below_regrown wr dq osq));clear B5 O5 X5 BI;generalize grow (redrawn wr dq) osq=w2 at *;go_wp2;refine wp_region_quiet_below (by kernel_rfl) (by kernel_rfl) ?_
      repeat (go_big_quiet_step (fail))
      refine wpQuiet_nil ?_;intro _ hw';obtain⟨⟨dq,osq⟩,hw''⟩:=hw';subst hw'';have BU:=D (BN.out.trans ((below_regrown w2 dq osq).mono BN.out.size));have OU:=D (dJ ON.out (below_regrown w2 dq osq));have XU:=D (XN.out.on (below_regrown w2 dq osq));clear BN ON XN;generalize grow (redrawn w2 dq) osq=U at *;have INS:=D (uJ (c:=(xn,xk)) NT.out);rw [<- HK.out] at INS;have F4:=D (show res=iL (m.take k++(xn,xk)::m.drop k) (l.drop (j+1)) by rw [F3.out,INS.out]);have R4:=D (jq m (xn,xk) _ RM.out INS.out).1;have L4:=D (show (m.take k++(xn,xk)::m.drop k).length<=j+1 by have:=HK.out; simp; omega);have KM:=D (show k<=(m.map r5).length by have:=HK.out; rw [X]; omega);obtain⟨lo,Qx,Ej⟩:=loC (Row.dG OU.out) k KM.out;obtain⟨hi,Qy,El⟩:=hiC (Row.dG OU.out) k KM.out;have la:((m.map r5).take k).length<=100:=by simp; omega
      have lb:((m.map r5).drop k).length<=100:=by simp; omega
      have MP:=D (show (m.take k++(xn,xk)::m.drop k).map r5=(m.map r5).take k++(xn,kN xk,iJ xk,iK xk,kT xk)::(m.map r5).drop k by rw [aH,aJ,aK,aL]; rfl);obtain⟨va1,wa1,va2,wa2,va3,wa3,Yo,Vu,Yp,Yq,Yr,Yt⟩:=GN (xn,kN xk,iJ xk,iK xk,kT xk) Ej El la lb;obtain⟨vb1,wb1,vb2,wb2,vb3,wb3,Vv,Yu,Yv,Yw,bb3⟩:=GQ (xn,kN xk,iJ xk,iK xk,kT xk) Ej El la lb;obtain⟨vc1,wc1,vc2,wc2,vc3,wc3,Vw,Yx,Yy,Yz,bc3⟩:=GU (xn,kN xk,iJ xk,iK xk,kT xk) Ej El la lb;have ENDS:=D (fun (v3:aG) (w3:aD) (o3:gG w3 U.heap.size v3 ((m.map r5).take k++(xn,kN xk,iJ xk,iK xk,kT xk)::(m.map r5).drop k)) (b3:Below U.heap.size U w3)=>(show gG w3 w.heap.size v3 ((m.take k++(xn,xk)::m.drop k).map r5)/\Below w.heap.size w w3 from ⟨by rw [MP.out]; exact nW BU.out.size o3,BU.out.trans (b3.mono BU.out.size)⟩));have EA:=D (ENDS.out va3 wa3 Yr Yt);have EB:=D (ENDS.out vb3 wb3 Yw bb3);have YA:=D (ENDS.out vc3 wc3 Yz bc3);obtain⟨x0,x1,x2,x3,x4⟩:=eH XU.out;obtain⟨y0,y1,y2,y3,y4⟩:=eH (XU.out.on Yq);simp only [r5] at x0 x1 x2 x3 x4 y0 y1 y2 y3 y4 Vu Vv Vw;have hcb:cb<U.heap.size:=XU.out.lt;clear Yr Yt Yw bb3 Yz bc3 ENDS Ej El la lb Yq MP XU OU BU;go_wp2_with fail
      go_region_law (first
       | (refine eG rfl (ay 64) (ay 67) 32 rfl (by simp [O]) (by simp [O]) Yo ?_)
       | (refine eG rfl (ay 64) (ay 67) 32 rfl (by simp [O]) (by simp [O]) Vv ?_)
       | (refine eG rfl (ay 64) (ay 67) 32 rfl (by simp [O]) (by simp [O]) Vw ?_)
       | (refine eG rfl (ay 68) (ay 70) 32 rfl (by simp [O]) (by simp [O]) Vu ?_)
       | (refine eG rfl (ay 68) (ay 70) 32 rfl (by simp [O]) (by simp [O]) Yu ?_)
       | (refine eG rfl (ay 68) (ay 70) 32 rfl (by simp [O]) (by simp [O]) Yx ?_)
       | (refine eG rfl (ay 71) (ay 74) 32 rfl (by simp [O]) (by simp [O]) Yp ?_)
       | (refine eG rfl (ay 71) (ay 74) 32 rfl (by simp [O]) (by simp [O]) Yv ?_)
       | (refine eG rfl (ay 71) (ay 74) 32 rfl (by simp [O]) (by simp [O]) Yy ?_))
      all_goals simp only [Exit.inBlock,Exit.then]
      all_goals
       apply_assumption
       clear Yo Vu Yp Vv Yu Yv Vw Yx Yy x0 x1 x2 x3 x4 y0 y1 y2 y3 y4 Qx Qy;go_wp2
       go_roundw
       case rel=>first
        | exact⟨j+1,_,by omega,by go_num,EA.out.1,R4.out,L4.out,F4.out,EA.out.2⟩
        | exact⟨j+1,_,by omega,by go_num,EB.out.1,R4.out,L4.out,F4.out,EB.out.2⟩
        | exact⟨j+1,_,by omega,by go_num,YA.out.1,R4.out,L4.out,F4.out,YA.out.2⟩
       case measure=>simp [intOf]; omega
  ·obtain rfl:j=n:=by omega
   have R:=D (show res=aA m by rw [FO.out,List.drop_of_length_le (by have:=HN.out; omega)]; rfl);go_wp2;refine QS.out _ _ ⟨BW.out,?_⟩;rw [R.out];exact⟨_,rfl,Row.dG OW.out⟩
end Go.Proofs.YtmklifheakemeaaGreat.Rl
