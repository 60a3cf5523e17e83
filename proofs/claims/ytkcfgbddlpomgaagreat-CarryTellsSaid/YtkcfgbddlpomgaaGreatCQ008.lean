/-
  Plain facts on the n. Conditions as told.
-/
import Derived.Test.YtkcfgbddlpomgaaGreatCQ004
import Derived.Test.YtkcfgbddlpomgaaGreatCQ007
import Derived.Shelf.Slices.In.SortNone
import Derived.Shelf.Sort.Plain
import Derived.Shelf.Slices.CompactI
import Derived.Shelf.Slices.SearchI
import Derived.OpenShut
import Derived.Carry
import Derived.ChangeMaps5
import Derived.ChangeArms
set_option maxRecDepth 100000
set_option maxHeartbeats 64000000
open _root_.Bool renaming false->ay,true->aM
open _root_.Go renaming cell_regrown->Y,World->ah,Value->ak,below_regrown->au,bodyPost_ret->aC,redrawn->aU,TypeId->bF,Calls->bR
open Go.IntKind renaming i64->K
open Go.Lib renaming hid->J
open Go.Obj renaming cells->V
open Go.Proofs.Tryz renaming prog->aj,underlying3->aJ,results95->aP,underlying25->aV,underlying0->aW,underlying4->aX,zeroValue25->aY,zeroValue0->bf,zeroValue3->bg,zeroValue4->bn,results60->bA,sizeOf25->bC,ntmps33->bD,sizeOf0->bG,sizeOf3->bH,sizeOf4->bI,isAgg25->bJ,func33->bK,isAgg0->bL,isAgg3->bN,isAgg4->bO
open Go.Value renaming slice->D,int->L,bool->aB,pointer->aF,string->aN,agg->bQ
open _root_.List renaming getElem?_eq_getElem->O,getD_eq_getElem?_getD->aD,setIfInBounds_toArray->aG,filter_cons_of_neg->aH,filter_cons_of_pos->aI,getElem?_cons_zero->aK,getElem?_cons_succ->aL,getElem?_toArray->aO,takeWhile_cons->aQ,map_cons->aR,set_cons_zero->aS,set_cons_succ->aT
open _root_.Nat renaming le_refl->aA,zero_le->aZ,lt_or_ge->bE,mod_lt->bP
open _root_.Option renaming some->U,none->X
open Option.some renaming inj->Z
namespace Go.Proofs.YtkcfgbddlpomgaaGreat.Rl
open Go.RowKit Pu Pr
def je:List Cn->List Cn->Option (List Cn)
 | m,[]=>U m
 | m,c::r=>match qB m c with
  | none=>X
  | some n=>je n r
theorem Bq:∀ (r m p:List Cn),mU m->je m r=U p->m.length<=p.length/\mU p
 | [],m,p,hm,h=>by
  obtain rfl:=Z h;exact⟨aA _,hm⟩
 | c::r,m,p,hm,h=>by
  simp only [je] at h;cases hi:qB m c with
  | none=>rw [hi] at h; cases h
  | some n =>
   rw [hi] at h;have e1:=yC m c n hm hi;obtain⟨e2,e3⟩:=Bq r n p (jP m c n hm hi).1 h;exact⟨by omega,e3⟩
theorem xV:∀ (r m p:List Cn) (at_:Nat),mU m->m.length<=5->(yA at_ m r=.ok p↔je m r=U p/\p.length<=5)
 | [],m,p,at_,_,h5=>by
  simp only [yA,je];constructor
  ·intro h;injection h with h
   subst h;exact⟨rfl,h5⟩
  ·rintro⟨h,_⟩;rw [Z h]
 | c::r,m,p,at_,hm,h5=>by
  simp only [yA,je];cases hi:qB m c with
  | none =>
   constructor
   ·intro h; cases h
   ·rintro⟨h,_⟩; cases h
  | some n =>
   simp only;have hn:=(jP m c n hm hi).1;by_cases h6:5<n.length
   ·rw [if_pos h6];constructor
    ·intro h; cases h
    ·rintro⟨h,h7⟩;have:=(Bq r n p hn h).1;omega
   ·rw [if_neg h6];exact xV r n p (at_+1) hn (by omega)
theorem uI:∀ (a b m m':List Cn),je m a=U m'->je m (a++b)=je m' b
 | [],b,m,m',h=>by
  obtain rfl:=Z h
  rfl
 | c::r,b,m,m',h=>by
  simp only [List.cons_append,je] at h ⊢;cases hi:qB m c with
  | none=>rw [hi] at h; cases h
  | some n =>
   rw [hi] at h;exact uI r b n m' h
theorem Bt:∀ (p m:List Cn),mU (m++p)->je m p=U (m++p)
 | [],m,_=>by simp [je]
 | c::r,m,h=>by
  have h1:∀ x∈m,Op.bytesLess x.1.toList c.1.toList=aM:=fun x hx=>(List.pairwise_append.1 h).2.2 x hx c (List.mem_cons_self ..);simp only [je];rw [J7 m c h1];simp only;rw [Bt r (m++[c]) (by simpa using h)];simp
theorem PY {a b:List Cn} (ha:mU a):je [] (a++b)=je a b:=uI a b [] a (by simpa using Bt a [] (by simpa using ha))
theorem PZ {a b:List Cn} (ha:mU a) (h5:a.length<=5):yB a b=match je a b with
  | some p=>decide (p.length<=5)
  | none=>ay:=by
 unfold yB;cases h:je a b with
 | none =>
  cases h2:yA a.length a b with
  | ok p =>
   have:=(xV b a p a.length ha h5).1 h2;rw [h] at this;cases this.1
  | error e=>rfl
 | some p =>
  by_cases h6:p.length<=5
  ·rw [(xV b a p a.length ha h5).2 ⟨h,h6⟩];simp [h6]
  ·cases h2:yA a.length a b with
   | ok q =>
    have h3:=(xV b a q a.length ha h5).1 h2;rw [h] at h3;obtain rfl:=Z h3.1;exact absurd h3.2 h6
   | error e=>simp [h6]
end Go.Proofs.YtkcfgbddlpomgaaGreat.Rl
namespace Go.Proofs.YtkcfgbddlpomgaaGreat.Kp
open Go.RowKit Va In
def nm (i:Nat):ByteArray:=⟨#[UInt8.ofNat (97+i)]⟩
def ng:Array ak:=#[aN ⟨#[97]⟩,aN ⟨#[98]⟩,aN ⟨#[99]⟩,aN ⟨#[100]⟩,aN ⟨#[101]⟩,aN ⟨#[102]⟩,aN ⟨#[103]⟩]
theorem P5 (i:Nat) (h:i<7):ng[i]?=U (aN (nm i)):=by
 match i,h with
 | 0,_=>rfl
 | 1,_=>rfl
 | 2,_=>rfl
 | 3,_=>rfl
 | 4,_=>rfl
 | 5,_=>rfl
 | 6,_=>rfl
theorem vT (w:ah):bR aj 31 #[] w fun e w'=>e=.returned (D (U ⟨w.heap.size,0,X⟩) 7 7)/\w'=w.alloc (V ng 9):=by
 go_enter Tryz.func31,Tryz.ntmps31;go_wp2;go_ret;exact⟨rfl,rfl⟩
def jR (zs:List Int) (i:Nat):Int:=if zs=[] then 0 else zs.getD (i % zs.length) 0
theorem yF (nv:ak) (zs:List Int) (i:Nat) (w:ah) (hz:iU w nv zs) (hl:zs.length<=maxLen) (hi:i<=100) :
  bR aj 33 #[nv,L K i] w fun e w'=>e=.returned (L K (jR zs i))/\w=w':=by
 obtain⟨ao,cap,rfl⟩:=hz.shape;unfold maxLen at hl;cases zs with
 | nil =>
  go_enter bK,bD;go_wp2;go_ret;exact⟨rfl,rfl⟩
 | cons z r =>
  have hm:i % (z::r).length<(z::r).length:=bP _ (by simp);obtain⟨y,hy⟩:∃ y,(z::r)[i % (z::r).length]?=U y:=⟨_,O hm⟩;obtain⟨_,p,_,hix,hpc⟩:=hz.at_ _ y hy;have P:=J (show jR (z::r) i=y by unfold jR; rw [if_neg (by simp),aD,hy]; rfl);have h0:((((z::r).length:Nat):Int) == 0)=ay:=by simp; omega
  have hne:(((z::r).length:Nat):Int)≠0:=by simp; omega
  have ht:(i:Int) % ((z::r).length:Nat)=((i % (z::r).length:Nat):Int):=rfl;have ht2:(i:Int).tmod ((z::r).length:Nat)=((i % (z::r).length:Nat):Int):=by
   rw [Int.tmod_eq_emod_of_nonneg (by omega)]; rfl
  have hn0:0<(((z::r).length:Nat):Int):=by simp
  generalize (z::r).length=n at *;generalize i % n=m at *;clear hz hy hm;go_enter bK,bD;go_wp2;go_ret;exact⟨Wi.xS P.out.symm,rfl⟩
def odd (z:Int):Bool:=bits BinOp.and K z 1 == 1
theorem yG {W:ah} {nv:ak} {zs:List Int} (hz:iU W nv zs) (i:Nat):-9223372036854775808<=jR zs i/\jR zs i<=9223372036854775807:=by
 unfold jR
 split
 ·omega
 ·rename_i h
  have hm:i % zs.length<zs.length:=bP _ (List.length_pos_iff.2 h);have:=(hz.at_ _ _ (O hm)).1;rw [aD,O hm];exact this
end Go.Proofs.YtkcfgbddlpomgaaGreat.Kp
namespace Go.Proofs.YtkcfgbddlpomgaaGreat.Bk
open Go.RowKit Go.Sort Rw YtkcfgbddlpomgaaGreat.Nm Pr
theorem nT (l:List Id) (x:Id) (k:Nat) (hall:∀ (j:Nat) (y:Id),j<k->l[j]?=U y->dY y x=aM) (hend:k=l.length\/∃ y,l[k]?=U y/\dY y x=ay):fD l x=k:=by
 unfold fD
 induction l generalizing k with
 | nil =>
  rcases hend with h|⟨y,h,_⟩
  ·rw [h]; rfl
  ·simp at h
 | cons a l ih =>
  cases k with
  | zero =>
   rcases hend with h|⟨y,h,h2⟩
   ·simp at h
   ·obtain rfl:a=y:=by simpa using h
    rw [aQ,h2]
    rfl
  | succ k =>
   have h0:=hall 0 a (by omega) rfl;rw [aQ,h0];simp only [if_true,List.length_cons];rw [ih k (fun j y hj hy=>hall (j+1) y (by omega) (by simpa using hy)) (by
    rcases hend with h|⟨y,h,h2⟩
    ·exact Or.inl (by simpa using h)
    ·exact Or.inr ⟨y,by simpa using h,h2⟩)]
noncomputable def Vl:Code:=((Tryz.f60.body.bind (gV 0)).getD .skip)
theorem P6 (Q:Exit->Act->ah->Prop) (W:ah) (b2 b3:Nat) (me c d:Int) (y1 y2 y4 y5 p3 q3:ak) (so:Option Addr) (n sc:Nat) (l:List eF) (u0 u1 u4 u5 u7 u8 u9 u10 u11 u12 u13 u14 u15 u16 u17 u18 u19 u20 u21 u22 u23 u24 u25 u26 u27 u28 u29 u30 u31 u32 u33 u34 u35 u36 u37 u38 u39 u40 u41 u42 u43 u44 u45 u46 u47 u48 u49 u50 u51 u52 u53 u54 u55 u56 u57 u58 u59 u60 u61 u62 u63 u64 u65 u66 u67 u68 u69 u70 u71 u72 u73 u74 u75 u76 u77 u78:ak)
  (h2:dG W b2 #[L K me,y1,y2,D so n sc,y4,y5] 33) (h3:dG W b3 #[L K c,L K d,p3,q3] 53) (hs:vR W (D so n sc) l) (hn:n=l.length) (hm:n<=1000000)
  (hQ:∀ (wr:ah) (v12 v13 v14 v15 v16 v17 v18 v19 v20 v21 v22 v23 v24 v25 v26 v27 v28:ak),Below W.heap.size W wr->Q .normal ⟨(u0::u1::aF (U ⟨b2,0,X⟩)::aF (U ⟨b3,0,X⟩)::u4::u5::L K (fD l (c,d):Nat)::u7::u8::u9::u10::u11::v12::v13::v14::v15::v16::v17::v18::v19::v20::v21::v22::v23::v24::v25::v26::v27::v28::u29::u30::u31::u32::u33::u34::u35::u36::u37::u38::u39::u40::u41::u42::u43::u44::u45::u46::u47::u48::u49::u50::u51::u52::u53::u54::u55::u56::u57::u58::u59::u60::u61::u62::u63::u64::u65::u66::u67::u68::u69::u70::u71::u72::u73::u74::u75::u76::u77::u78::[]).toArray,[]⟩ wr) :
  Code.wp aj Vl Q ⟨(u0::u1::aF (U ⟨b2,0,X⟩)::aF (U ⟨b3,0,X⟩)::u4::u5::L K 0::u7::u8::u9::u10::u11::u12::u13::u14::u15::u16::u17::u18::u19::u20::u21::u22::u23::u24::u25::u26::u27::u28::u29::u30::u31::u32::u33::u34::u35::u36::u37::u38::u39::u40::u41::u42::u43::u44::u45::u46::u47::u48::u49::u50::u51::u52::u53::u54::u55::u56::u57::u58::u59::u60::u61::u62::u63::u64::u65::u66::u67::u68::u69::u70::u71::u72::u73::u74::u75::u76::u77::u78::[]).toArray,[]⟩ W:=by
 have HQ:=J hQ;have H2:=J h2;have H3:=J h3;have HS:=J hs;have HN:=J hn;clear hQ h2 h3 hs hn
 conv=>arg 2; whnf
 go_wp2
 go_loopw [6] (fun i wr=>∃ k:Nat,k<=n/\i=L K k/\Below W.heap.size W wr/\∀ (j:Nat) (y:Id),j<k->l[j]?=U y->dY y (c,d)=aM) (fun i _=>n-(intOf i).toNat)
 case atStart=>exact⟨0,aZ _,rfl,Below.refl _ _,fun j y h=>by omega⟩
 case round =>
  obtain⟨k,hk,rfl,hbe,hall⟩:=hrel;have BE:=J hbe;have AL:=J hall;clear hbe hall;have q0:=Y (show wr.cell? ⟨b2,3,X⟩=U (D so n sc) from (H2.out.on BE.out).cell 3);have r0:=Y (show wr.cell? ⟨b3,0,X⟩=U (L K c) from (H3.out.on BE.out).cell 0);have r1:=Y (show wr.cell? ⟨b3,1,X⟩=U (L K d) from (H3.out.on BE.out).cell 1);have hw3:IntKind.i64.wrap ((k:Int)+1)=(k:Int)+1:=IntWalk.i64_in _ (by omega);by_cases hlt:k<n
  ·obtain⟨y,hy⟩:∃ y,l[k]?=U y:=⟨_,O (by rw [<- HN.out]; exact hlt)⟩;obtain⟨p,ix,px⟩:=elJ HS.out rfl HN.out.symm hy;have xI:=px wr BE.out;obtain⟨y1,y2⟩:=y;simp only at xI;have p0:=Y xI.1;have p1:=Y xI.2;have wW:decide ((k:Int)<(n:Int))=aM:=decide_eq_true (by omega);have AO:decide (k<n)=aM:=decide_eq_true hlt;obtain⟨r,hr⟩:∃ r,dY (y1,y2) (c,d)=r:=⟨_,rfl⟩;have LS:=J (fun d' os=>Calls.regrown_of (d:=d') (os:=os) ((rH (y1,y2) (c,d) (grow (aU wr d') os)).mono fun _ _ h=>⟨by rw [h.1,hr],h.2⟩));have HY:=J (show l[k]?=U (y1,y2) by exact hy);have HR:=J hr;clear px xI hy hr;cases r
   ·go_wp2_with fail;refine wp_region_quiet_below (by kernel_rfl) (by kernel_rfl) ?_
    repeat (go_big_quiet_step (first | (with_reducible exact LS.out _ _)))
    refine wpQuiet_nil ?_;intro _ hw';obtain⟨⟨dq,osq⟩,hw''⟩:=hw';subst hw'';have Z6:=au wr dq osq;have HF:=J (fun v12 v13 v14 v15 v16 v17 v18 v19 v20 v21 v22 v23 v24 v25 v26 v27 v28=>HQ.out (grow (aU wr dq) osq) v12 v13 v14 v15 v16 v17 v18 v19 v20 v21 v22 v23 v24 v25 v26 v27 v28 (BE.out.trans (Z6.mono BE.out.size)));rw [nT l (c,d) k AL.out (Or.inr ⟨_,HY.out,HR.out⟩)] at HF;clear ix HQ q0 r0 r1 LS wW AO p0 p1;go_wp2;exact HF.out _ _ _ _ _ _ _ _ _ _ _ _ _ _ _ _ _
   ·go_wp2_with fail;refine wp_region_quiet_below (by kernel_rfl) (by kernel_rfl) ?_
    repeat (go_big_quiet_step (first | (with_reducible exact LS.out _ _)))
    refine wpQuiet_nil ?_;intro _ hw';obtain⟨⟨dq,osq⟩,hw''⟩:=hw';subst hw'';have Z6:=J (au wr dq osq);clear ix q0 r0 r1 LS wW AO p0 p1;go_wp2
    go_roundw
    case rel=>exact⟨k+1,by omega,by go_num,BE.out.trans (Z6.out.mono BE.out.size),fun j y' hj h1=>by
     rcases bE j k with h3|h3
     ·exact AL.out j y' h3 h1
     ·obtain rfl:j=k:=by omega
      have e1:=HY.out;rw [h1] at e1;rw [Z e1];exact HR.out⟩
    case measure=>simp [intOf]; omega
  ·obtain rfl:k=n:=by omega
   have wW:decide ((k:Int)<(k:Int))=ay:=by simp
   have AO:decide (k<k)=ay:=by simp
   go_wp2_with fail;refine wp_region_quiet_below (by kernel_rfl) (by kernel_rfl) ?_
   repeat (go_big_quiet_step (fail))
   refine wpQuiet_nil ?_;intro _ hw';obtain⟨⟨dq,osq⟩,hw''⟩:=hw';subst hw'';have Z6:=au wr dq osq;have HF:=J (fun v12 v13 v14 v15 v16 v17 v18 v19 v20 v21 v22 v23 v24 v25 v26 v27 v28=>HQ.out (grow (aU wr dq) osq) v12 v13 v14 v15 v16 v17 v18 v19 v20 v21 v22 v23 v24 v25 v26 v27 v28 (BE.out.trans (Z6.mono BE.out.size)));rw [nT l (c,d) k AL.out (Or.inl (by simpa using HN.out))] at HF;clear HQ q0 r0 r1 wW AO;go_wp2;exact HF.out _ _ _ _ _ _ _ _ _ _ _ _ _ _ _ _ _
noncomputable def Vm:Code:=((Tryz.f60.body.bind (gV 2)).getD .skip)
theorem P7 (Q:Exit->Act->ah->Prop) (W:ah) (b2 b3:Nat) (me c d:Int) (y1 y3 y4 y5 p3 q3:ak) (so:Option Addr) (n sc:Nat) (l:List jv) (u0 u1 u4 u5 u7 u8 u9 u10 u11 u12 u13 u14 u15 u16 u17 u18 u19 u20 u21 u22 u23 u24 u25 u26 u27 u28 u29 u30 u31 u32 u33 u34 u35 u36 u37 u38 u39 u40 u41 u42 u43 u44 u45 u46 u47 u48 u49 u50 u51 u52 u53 u54 u55 u56 u57 u58 u59 u60 u61 u62 u63 u64 u65 u66 u67 u68 u69 u70 u71 u72 u73 u74 u75 u76 u77 u78:ak)
  (h2:dG W b2 #[L K me,y1,D so n sc,y3,y4,y5] 33) (h3:dG W b3 #[L K c,L K d,p3,q3] 53) (hs:uH W (D so n sc) l) (hn:n=l.length) (hm:n<=1000000)
  (hQ:∀ (wr:ah) (v45 v46 v47 v48 v49 v50 v51 v52 v53 v54 v55 v56 v57 v58 v59 v60 v61 v62:ak),Below W.heap.size W wr->Q .normal ⟨(u0::u1::aF (U ⟨b2,0,X⟩)::aF (U ⟨b3,0,X⟩)::u4::u5::L K (fD (l.map fun y=>(y.1,y.2.1)) (c,d):Nat)::u7::u8::u9::u10::u11::u12::u13::u14::u15::u16::u17::u18::u19::u20::u21::u22::u23::u24::u25::u26::u27::u28::u29::u30::u31::u32::u33::u34::u35::u36::u37::u38::u39::u40::u41::u42::u43::u44::v45::v46::v47::v48::v49::v50::v51::v52::v53::v54::v55::v56::v57::v58::v59::v60::v61::v62::u63::u64::u65::u66::u67::u68::u69::u70::u71::u72::u73::u74::u75::u76::u77::u78::[]).toArray,[]⟩ wr) :
  Code.wp aj Vm Q ⟨(u0::u1::aF (U ⟨b2,0,X⟩)::aF (U ⟨b3,0,X⟩)::u4::u5::L K 0::u7::u8::u9::u10::u11::u12::u13::u14::u15::u16::u17::u18::u19::u20::u21::u22::u23::u24::u25::u26::u27::u28::u29::u30::u31::u32::u33::u34::u35::u36::u37::u38::u39::u40::u41::u42::u43::u44::u45::u46::u47::u48::u49::u50::u51::u52::u53::u54::u55::u56::u57::u58::u59::u60::u61::u62::u63::u64::u65::u66::u67::u68::u69::u70::u71::u72::u73::u74::u75::u76::u77::u78::[]).toArray,[]⟩ W:=by
 have HQ:=J hQ;have H2:=J h2;have H3:=J h3;have HS:=J hs;have HN:=J hn;clear hQ h2 h3 hs hn
 conv=>arg 2; whnf
 go_wp2
 go_loopw [6] (fun i wr=>∃ k:Nat,k<=n/\i=L K k/\Below W.heap.size W wr/\∀ (j:Nat) (y:Id),j<k->(l.map fun y=>(y.1,y.2.1))[j]?=U y->dY y (c,d)=aM) (fun i _=>n-(intOf i).toNat)
 case atStart=>exact⟨0,aZ _,rfl,Below.refl _ _,fun j y h=>by omega⟩
 case round =>
  obtain⟨k,hk,rfl,hbe,hall⟩:=hrel;have BE:=J hbe;have AL:=J hall;clear hbe hall;have q0:=Y (show wr.cell? ⟨b2,2,X⟩=U (D so n sc) from (H2.out.on BE.out).cell 2);have r0:=Y (show wr.cell? ⟨b3,0,X⟩=U (L K c) from (H3.out.on BE.out).cell 0);have r1:=Y (show wr.cell? ⟨b3,1,X⟩=U (L K d) from (H3.out.on BE.out).cell 1);have hw3:IntKind.i64.wrap ((k:Int)+1)=(k:Int)+1:=IntWalk.i64_in _ (by omega);by_cases hlt:k<n
  ·obtain⟨y,hy⟩:∃ y,l[k]?=U y:=⟨_,O (by rw [<- HN.out]; exact hlt)⟩;obtain⟨p,ix,px⟩:=PI HS.out rfl HN.out.symm hy;have xI:=px wr BE.out;obtain⟨y1,y2,⟨y3o,y3n,y3c⟩,y4⟩:=y;simp only at xI;have p0:=Y xI.1;have p1:=Y xI.2.1;have wW:decide ((k:Int)<(n:Int))=aM:=decide_eq_true (by omega);have AO:decide (k<n)=aM:=decide_eq_true hlt;obtain⟨r,hr⟩:∃ r,dY (y1,y2) (c,d)=r:=⟨_,rfl⟩;have LS:=J (fun d' os=>Calls.regrown_of (d:=d') (os:=os) ((rH (y1,y2) (c,d) (grow (aU wr d') os)).mono fun _ _ h=>⟨by rw [h.1,hr],h.2⟩));have HY:=J (show (l.map fun y=>(y.1,y.2.1))[k]?=U (y1,y2) by rw [List.getElem?_map,hy]; rfl);have HR:=J hr;clear px xI hy hr;cases r
   ·go_wp2_with fail;refine wp_region_quiet_below (by kernel_rfl) (by kernel_rfl) ?_
    repeat (go_big_quiet_step (first | (with_reducible exact LS.out _ _)))
    refine wpQuiet_nil ?_;intro _ hw';obtain⟨⟨dq,osq⟩,hw''⟩:=hw';subst hw'';have Z6:=au wr dq osq;have HF:=J (fun v45 v46 v47 v48 v49 v50 v51 v52 v53 v54 v55 v56 v57 v58 v59 v60 v61 v62=>HQ.out (grow (aU wr dq) osq) v45 v46 v47 v48 v49 v50 v51 v52 v53 v54 v55 v56 v57 v58 v59 v60 v61 v62 (BE.out.trans (Z6.mono BE.out.size)));rw [nT (l.map fun y=>(y.1,y.2.1)) (c,d) k AL.out (Or.inr ⟨_,HY.out,HR.out⟩)] at HF;clear ix HQ q0 r0 r1 LS wW AO p0 p1;go_wp2;exact HF.out _ _ _ _ _ _ _ _ _ _ _ _ _ _ _ _ _ _
   ·go_wp2_with fail;refine wp_region_quiet_below (by kernel_rfl) (by kernel_rfl) ?_
    repeat (go_big_quiet_step (first | (with_reducible exact LS.out _ _)))
    refine wpQuiet_nil ?_;intro _ hw';obtain⟨⟨dq,osq⟩,hw''⟩:=hw';subst hw'';have Z6:=J (au wr dq osq);clear ix q0 r0 r1 LS wW AO p0 p1;go_wp2
    go_roundw
    case rel=>exact⟨k+1,by omega,by go_num,BE.out.trans (Z6.out.mono BE.out.size),fun j y' hj h1=>by
     rcases bE j k with h3|h3
     ·exact AL.out j y' h3 h1
     ·obtain rfl:j=k:=by omega
      have e1:=HY.out;rw [h1] at e1;rw [Z e1];exact HR.out⟩
    case measure=>simp [intOf]; omega
  ·obtain rfl:k=n:=by omega
   have wW:decide ((k:Int)<(k:Int))=ay:=by simp
   have AO:decide (k<k)=ay:=by simp
   go_wp2_with fail;refine wp_region_quiet_below (by kernel_rfl) (by kernel_rfl) ?_
   repeat (go_big_quiet_step (fail))
   refine wpQuiet_nil ?_;intro _ hw';obtain⟨⟨dq,osq⟩,hw''⟩:=hw';subst hw'';have Z6:=au wr dq osq;have HF:=J (fun v45 v46 v47 v48 v49 v50 v51 v52 v53 v54 v55 v56 v57 v58 v59 v60 v61 v62=>HQ.out (grow (aU wr dq) osq) v45 v46 v47 v48 v49 v50 v51 v52 v53 v54 v55 v56 v57 v58 v59 v60 v61 v62 (BE.out.trans (Z6.mono BE.out.size)));rw [nT (l.map fun y=>(y.1,y.2.1)) (c,d) k AL.out (Or.inl (by simpa using HN.out))] at HF;clear HQ q0 r0 r1 wW AO;go_wp2;exact HF.out _ _ _ _ _ _ _ _ _ _ _ _ _ _ _ _ _ _
def fP {α:Type} (l:List α) (k:Nat) (x:α):List α:=l.take k++[x]++l.drop k
def fB (b:Br) (a:Ad):Br×Bool:=if a.id∈b.seen then (b,ay) else ({ b with seen:=fP b.seen (fD b.seen a.id) a.id,dL:=fP b.dL (fD (b.dL.map Ad.id) a.id) a },aM)
abbrev gM (W:ah) (b:Nat) (a0 a1 a2 a3 a4 a5:ak):ah:=(((((W.setCell ⟨b,0,X⟩ a0).setCell ⟨b,1,X⟩ a1).setCell ⟨b,2,X⟩ a2).setCell ⟨b,3,X⟩ a3).setCell ⟨b,4,X⟩ a4).setCell ⟨b,5,X⟩ a5
theorem dH {W:ah} {b:Nat} {t:bF} {z0 z1 z2 z3 z4 z5:ak} (h:dG W b #[z0,z1,z2,z3,z4,z5] t) (a0 a1 a2 a3 a4 a5:ak):dG (gM W b a0 a1 a2 a3 a4 a5) b #[a0,a1,a2,a3,a4,a5] t:=by
 have h2:=dO (k:=5) (dO (k:=4) (dO (k:=3) (dO (k:=2) (dO (k:=1) (dO (k:=0) h a0) a1) a2) a3) a4) a5;simp only [aG,aS,aT] at h2;exact h2
theorem dw {w W:ah} {B b:Nat} (h:Below B w W) (hb:B<=b) (a0 a1 a2 a3 a4 a5:ak):Below B w (gM W b a0 a1 a2 a3 a4 a5) :=
 (((((h.setCell hb _).setCell hb _).setCell hb _).setCell hb _).setCell hb _).setCell hb _
theorem dB (W:ah) (b:Nat) (a0 a1 a2 a3 a4 a5:ak) (j:Nat) (hj:j≠b):(gM W b a0 a1 a2 a3 a4 a5).heap[j]?=W.heap[j]?:=by
 have h:∀ (W:ah) (k:Nat) (x:ak),(W.setCell ⟨b,k,X⟩ x).heap[j]?=W.heap[j]?:=fun W k x=>RowKit.Below.heap_setCell W _ x _ hj;unfold gM;rw [h,h,h,h,h,h]
theorem fC {α:Type} {E:Ek α} {W:ah} {B:Nat} {v:ak} {l:List α} (h:Own E W B v l) (b:Nat) (hb:b<B) (a0 a1 a2 a3 a4 a5:ak):Own E (gM W b a0 a1 a2 a3 a4 a5) B v l :=
 dW (dW (dW (dW (dW (dW h b 0 a0 hb) b 1 a1 hb) b 2 a2 hb) b 3 a3 hb) b 4 a4 hb) b 5 a5 hb
theorem gL (w:ah) (c d e:Array ak) (r s t:bF):Below w.heap.size w (((w.alloc (V c r)).alloc (V d s)).alloc (V e t))/\dG (((w.alloc (V c r)).alloc (V d s)).alloc (V e t)) w.heap.size c r/\dG (((w.alloc (V c r)).alloc (V d s)).alloc (V e t)) (w.heap.size+1) d s/\dG (((w.alloc (V c r)).alloc (V d s)).alloc (V e t)) (w.heap.size+1+1) e t:=by
 refine⟨(((Below.refl _ _).alloc (aA _) _).alloc (by simp) _).alloc (by simp; omega) _,((dI w c r).more _).more _,?_,?_⟩
 ·have h:=(dI (w.alloc (V c r)) d s).more (V e t);simpa using h
 ·have h:=dI ((w.alloc (V c r)).alloc (V d s)) e t;simpa using h
theorem P8 {W:ah} {b:Nat} {c d:Int} {p q:ak} (h:dG W b #[L K c,L K d,p,q] 53):∀ x,Below W.heap.size W x->∀ j u,(ji (c,d))[j]?=U u->x.cell? ((⟨b,0,X⟩:Addr).add j)=U u:=by
 intro x hb j u hj;rw [mZ,(h.on hb).cell]
 match j with
 | 0=>exact hj
 | 1=>exact hj
 | j+2=>simp at hj
theorem MV {W:ah} {b:Nat} {c d q:Int} {p:Sl} (h:dG W b #[L K c,L K d,dK p,L K q] 53):∀ x,Below W.heap.size W x->∀ j u,(cellsD (c,d,p,q))[j]?=U u->x.cell? ((⟨b,0,X⟩:Addr).add j)=U u:=by
 intro x hb j u hj;rw [mZ,(h.on hb).cell]
 match j with
 | 0=>exact hj
 | 1=>exact hj
 | 2=>exact hj
 | 3=>exact hj
 | j+4=>simp at hj
theorem yH {W:ah} {l:List jv} {m:List Ad} (h:dX (sW W) l m):(l.map fun y=>(y.1,y.2.1))=m.map Ad.id:=by
 induction h with
 | nil=>rfl
 | cons x t ih=>rw [aR,aR,ih,x.1]
theorem kV (l:List Id) (x:Id):fD l x<=l.length:=by
 unfold fD;exact (List.takeWhile_sublist _).length_le
theorem Qa {α:Type} {E:Ek α} {W:ah} {B:Nat} {v:ak} {l:List α} {b:Nat} (h:Own E W B v l) (hb:b<B):v.ownBlock=X\/v.ownBlock≠U b:=by
 cases hv:v.ownBlock with
 | none=>exact Or.inl rfl
 | some j =>
  refine Or.inr fun e=>?_;injection e with e
  have:=(h.lt j hv).1;omega
theorem I9 (b:Br) (nv av sv ev ov:Sl) (z:jv) (a:Ad) (w:ah) (h:gZ w b nv av sv ev ov) (hz:sW w z a) (l1:b.seen.length<=900) (l2:b.dL.length<=900) :
  bR aj 60 #[nG b.me nv av sv ev ov,mD z] w fun e w'=>(∃ AP Ja:Sl,e=.returned (.tuple #[nG b.me nv AP Ja ev ov,aB (fB b a).2])/\gZ w' (fB b a).1 nv AP Ja ev ov)/\Below w.heap.size w w':=by
 obtain⟨no,nn,nc⟩:=nv;obtain⟨ao,an,ac⟩:=av;obtain⟨so,sn,sc⟩:=sv;obtain⟨eo,en,ec⟩:=ev;obtain⟨oo,dN,oc⟩:=ov;obtain⟨c,d,⟨po,pn,pc⟩,par⟩:=z;obtain⟨xs,hx1,hx2⟩:=h.dL;have HZ:=J hz;have Zt:=J (yH hx2);have XL:=J (show xs.length<=900 by rw [hx2.len]; exact l2);have hs:=h.seen;have HA2:=J hx2;obtain⟨q1,q2,hq⟩:=hs.len;obtain⟨rfl,rfl,rfl⟩:so=q1/\sn=b.seen.length/\sc=q2:=by
  have:D so sn sc=D q1 b.seen.length q2:=hq;simpa using this
 obtain⟨q1,q2,hq⟩:=hx1.len;obtain⟨rfl,rfl,rfl⟩:ao=q1/\an=xs.length/\ac=q2:=by
  have:D ao an ac=D q1 xs.length q2:=hq;simpa using this
 have SN:=MQ b.me (D no nn nc) (D ao xs.length ac) (D eo en ec) (D oo dN oc) (so,b.seen.length,sc) b.seen (c,d);have HH:=J h;obtain⟨h0,h1,h2,h3⟩:=gL w #[L K b.me,D no nn nc,D ao xs.length ac,D so b.seen.length sc,D eo en ec,D oo dN oc] #[L K c,L K d,D po pn pc,L K par] #[L K 0,D X 0 0,D X 0 0,D X 0 0,D X 0 0,D X 0 0] 33 53 33;obtain⟨n1,hn1⟩:∃ n,n=b.seen.length:=⟨_,rfl⟩;obtain⟨n2,hn2⟩:∃ n,n=xs.length:=⟨_,rfl⟩;have HD:=hx1;simp only [<- hn1,<- hn2] at h0 h1 h2 h3 hs HD HH SN ⊢;have B0:=J h0;have X2:=J h1;have X3:=J h2;have X4:=J h3;have HS:=J hs;have HD:=J HD;have N1:=J hn1;have N2:=J hn2;have L1:=J l1;have AI:=J hz.1;have hme:∃ me,me=b.me:=⟨_,rfl⟩;obtain⟨me,hme⟩:=hme;simp only [<- hme] at X2 B0 X3 X4 SN ⊢;clear h0 h1 h2 h3 hs hx1 hx2 h hz hq hn1 hn2 l1 l2 hme;go_enter Tryz.func60,Tryz.ntmps60;go_upto_region 1 with fail;generalize (((w.alloc (V #[L K me,D no nn nc,D ao n2 ac,D so n1 sc,D eo en ec,D oo dN oc] 33)).alloc (V #[L K c,L K d,D po pn pc,L K par] 53)).alloc (V #[L K 0,D X 0 0,D X 0 0,D X 0 0,D X 0 0,D X 0 0] 33))=W at *;have SW:=J (SN W (HS.out.on B0.out));clear SN;obtain⟨x0,x1,x2,x3,x4,x5⟩:=X2.out.eZ;obtain⟨y0,y1,y2,y3⟩:=X3.out.IQ;cases hsn:decide ((c,d)∈b.seen) with
 | true =>
  have LB:=J (show fB b a=(b,ay) from if_pos (by rw [<- AI.out]; exact of_decide_eq_true hsn));rw [hsn] at SW;clear hsn;go_wp2_with fail;refine SW.out.mono ?_;rintro e1 w1 ⟨rfl,hb⟩;have B1:=J (B0.out.trans (hb.mono B0.out.size));have xW:=X2.out.on hb;have Vn:=X4.out.on hb;clear SW x0 x1 x2 x3 x4 x5 y0 y1 y2 y3;obtain⟨x0,x1,x2,x3,x4,x5⟩:=xW.eZ;obtain⟨r0,r1,r2,r3,r4,r5⟩:=Vn.eZ;obtain⟨t0,t1,t2,t3,t4,t5⟩:=Vn.kg;have zz:=Vn.lt;have FB:=J (dH Vn (L K me) (D no nn nc) (D ao n2 ac) (D so n1 sc) (D eo en ec) (D oo dN oc));have BL:=J (dw (b:=w.heap.size+1+1) B1.out (by omega) (L K me) (D no nn nc) (D ao n2 ac) (D so n1 sc) (D eo en ec) (D oo dN oc));clear hb X2 X3 X4 xW Vn HS HD;go_wp2_with fail;obtain⟨v0,v1,v2,v3,v4,v5⟩:=FB.out.eZ;refine aC (v:=.tuple #[bQ #[L K me,D no nn nc,D ao n2 ac,D so n1 sc,D eo en ec,D oo dN oc],aB ay]) (by simp [results,bA,go_sem,v0,v1,v2,v3,v4,v5]) rfl ?_;rw [LB.out];exact⟨⟨(ao,n2,ac),(so,n1,sc),rfl,HH.out.on BL.out⟩,BL.out⟩
 | false =>
  have LB:=J (show fB b a=({ b with seen:=fP b.seen (fD b.seen a.id) a.id,dL:=fP b.dL (fD (b.dL.map Ad.id) a.id) a },aM) from if_neg (by rw [<- AI.out]; exact of_decide_eq_false hsn));rw [hsn] at SW;clear hsn;go_wp2_with fail;refine SW.out.mono ?_;rintro e1 w1 ⟨rfl,hb⟩;have B1:=J (B0.out.trans (hb.mono B0.out.size));have Y2:=J (X2.out.on hb);have Y3:=J (X3.out.on hb);have Y4:=J (X4.out.on hb);have S1:=J (HS.out.on B1.out);clear SW hb X2 X3 X4 HS x0 x1 x2 x3 x4 x5 y0 y1 y2 y3
  go_upto_block 0 with (fail)
  refine P6 _ w1 w.heap.size (w.heap.size+1) me c d _ _ _ _ _ _ so n1 sc b.seen _ _ _ _ _ _ _ _ _ _ _ _ _ _ _ _ _ _ _ _ _ _ _ _ _ _ _ _ _ _ _ _ _ _ _ _ _ _ _ _ _ _ _ _ _ _ _ _ _ _ _ _ _ _ _ _ _ _ _ _ _ _ _ _ _ _ _ _ _ _ _ _ _ _ _ _ Y2.out Y3.out S1.out N1.out (by have:=L1.out; have:=N1.out; omega) ?_;intro wr v12 v13 v14 v15 v16 v17 v18 v19 v20 v21 v22 v23 v24 v25 v26 v27 v28 hb;have B2:=J (B1.out.trans (hb.mono B1.out.size));have Z2:=J (Y2.out.on hb);have Z3:=J (Y3.out.on hb);have Z4:=J (Y4.out.on hb);have S2:=J (S1.out.on hb);clear hb B1 Y2 Y3 Y4 S1;go_upto_region 6 with fail;refine ad6 _ wr w.heap.size (w.heap.size+1) me _ _ _ _ so n1 sc (fD b.seen (c,d)) b.seen (c,d) _ _ _ _ _ _ _ _ _ _ _ _ _ _ _ _ _ _ _ _ _ _ _ _ _ _ _ _ _ _ _ _ _ _ _ _ _ _ _ _ _ _ _ _ _ _ _ _ _ _ _ _ _ _ _ _ _ _ _ _ _ _ _ _ _ _ _ _ _ _ _ _ _ _ _ _ Z2.out (P8 Z3.out) S2.out (kV _ _) L1.out ?_;intro xw1 v29 v30 v31 v32 v33 v34 v35 v36 v37 v38 v39 v40 v41 v42 v43 v44 hbx ho hbl hoth hblk;obtain⟨sd1,sd2,hsv⟩:=(Row.dn ho).len;obtain⟨sl,hsl⟩:∃ n,n=(b.seen.take (fD b.seen (c,d))++[(c,d)]++b.seen.drop (fD b.seen (c,d))).length:=⟨_,rfl⟩;rw [<- hsl] at hsv;subst hsv;have B3:=J (B2.out.trans (hbl _ (aA _)));have A2:=J hbx;have A3:=J (hoth _ _ _ (by omega) Z3.out);have A4:=J (hoth _ _ _ (by omega) Z4.out);have OS:=J (dx ho (show w.heap.size+3<=wr.heap.size by have:=Z4.out.lt; omega));have D3:=J (HD.out.on B3.out);clear hbx ho hbl hoth hblk hsl B2 Z2 Z3 Z4 S2 HD
  go_upto_block 2 with (fail)
  refine P7 _ xw1 w.heap.size (w.heap.size+1) me c d _ _ _ _ _ _ ao n2 ac xs _ _ _ _ _ _ _ _ _ _ _ _ _ _ _ _ _ _ _ _ _ _ _ _ _ _ _ _ _ _ _ _ _ _ _ _ _ _ _ _ _ _ _ _ _ _ _ _ _ _ _ _ _ _ _ _ _ _ _ _ _ _ _ _ _ _ _ _ _ _ _ _ _ _ _ _ A2.out A3.out D3.out N2.out (by have:=XL.out; have:=N2.out; omega) ?_;intro ws v45 v46 v47 v48 v49 v50 v51 v52 v53 v54 v55 v56 v57 v58 v59 v60 v61 v62 hb;have B4:=J (B3.out.trans (hb.mono B3.out.size));have C2:=J (A2.out.on hb);have C3:=J (A3.out.on hb);have C4:=J (A4.out.on hb);have O4:=J (dh OS.out hb);have D4:=J (D3.out.on hb);clear hb B3 A2 A3 A4 OS D3;go_upto_region 10 with fail;refine abJ _ ws w.heap.size (w.heap.size+1) me _ _ _ _ ao n2 ac (fD (xs.map fun y=>(y.1,y.2.1)) (c,d)) xs (c,d,(po,pn,pc),par) _ _ _ _ _ _ _ _ _ _ _ _ _ _ _ _ _ _ _ _ _ _ _ _ _ _ _ _ _ _ _ _ _ _ _ _ _ _ _ _ _ _ _ _ _ _ _ _ _ _ _ _ _ _ _ _ _ _ _ _ _ _ _ _ _ _ _ _ _ _ _ _ _ _ _ _ C2.out (MV (p:=(po,pn,pc)) C3.out) D4.out (by have:=kV (xs.map fun y=>(y.1,y.2.1)) (c,d); rw [List.length_map] at this; exact this) XL.out ?_;intro xw2 v63 v64 v65 v66 v67 v68 v69 v70 v71 v72 v73 v74 v75 v76 v77 hbx ho hbl hoth hblk;obtain⟨lQ,lS,yI⟩:=(Row.dn ho).len;obtain⟨tl,htl⟩:∃ n,n=(xs.take (fD (xs.map fun y=>(y.1,y.2.1)) (c,d))++[(c,d,(po,pn,pc),par)]++xs.drop (fD (xs.map fun y=>(y.1,y.2.1)) (c,d))).length:=⟨_,rfl⟩;rw [<- htl] at yI;subst yI;have hb5:=hbl _ (aA w.heap.size);have B5:=J (B4.out.trans hb5);have E2:=hbx;have E4:=hoth _ _ _ (by omega) C4.out;have OD:=J (dx ho (show w.heap.size+3<=ws.heap.size by have:=C4.out.lt; omega));have OS:=J (O4.out.kept (w':=xw2) (row:=U w.heap.size) ⟨hb5.os,hb5.tape,hb5.output,hb5.size,fun k hk hne=>hblk k hk (fun e=>hne (by rw [e]))⟩ (Qa O4.out (by omega)));clear ho hbl hoth hblk htl hb5 hbx B4 C2 C3 C4 O4 D4;obtain⟨x0,x1,x2,x3,x4,x5⟩:=E2.eZ;obtain⟨r0,r1,r2,r3,r4,r5⟩:=E4.eZ;obtain⟨t0,t1,t2,t3,t4,t5⟩:=E4.kg;have zz:=E4.lt;have FB:=J (dH E4 (L K me) (D no nn nc) (D lQ tl lS) (D sd1 sl sd2) (D eo en ec) (D oo dN oc));have BL:=J (dw (b:=w.heap.size+1+1) B5.out (by omega) (L K me) (D no nn nc) (D lQ tl lS) (D sd1 sl sd2) (D eo en ec) (D oo dN oc));have FD:=J (fC OD.out (w.heap.size+1+1) (by omega) (L K me) (D no nn nc) (D lQ tl lS) (D sd1 sl sd2) (D eo en ec) (D oo dN oc));have FS:=J (fC OS.out (w.heap.size+1+1) (by omega) (L K me) (D no nn nc) (D lQ tl lS) (D sd1 sl sd2) (D eo en ec) (D oo dN oc));clear OD OS E2 E4;go_wp2_with fail;obtain⟨v0,v1,v2,v3,v4,v5⟩:=FB.out.eZ;refine aC (v:=.tuple #[bQ #[L K me,D no nn nc,D lQ tl lS,D sd1 sl sd2,D eo en ec,D oo dN oc],aB aM]) (by simp [results,bA,go_sem,v0,v1,v2,v3,v4,v5]) rfl ?_;rw [LB.out];refine⟨⟨(lQ,tl,lS),(sd1,sl,sd2),rfl,?_⟩,BL.out⟩;have hI:=HH.out.on BL.out;refine⟨hI.near,⟨_,Row.dn FD.out,?_⟩,?_,hI.ent,hI.own⟩
  ·have hA:=HA2.out.mono fun _ _ h=>h.on BL.out;rw [<- AI.out,<- Zt.out];exact ((hA.take _).append (.cons (HZ.out.on BL.out) .nil)).append (hA.drop _)
  ·rw [<- AI.out];exact Row.dn FS.out
def cutAt {α:Type} (l:List α) (k:Nat):List α:=l.take k++l.drop (k+1)
def gJ (b:Br) (x:Id) (f:Int):Br×Bool:=match b.dL[(eU (b.dL.map Ad.id) x).toNat]? with
 | none=>(b,ay)
 | some a=>if eU (b.dL.map Ad.id) x=-1 then (b,ay) else if a.par=f then ({ b with dL:=cutAt b.dL (eU (b.dL.map Ad.id) x).toNat,ent:=b.ent.filter fun e=>decide (e.tree≠x) },aM) else (b,ay)
theorem Dz (l:List jv) (x:Id):eU (l.map fun y=>(y.1,y.2.1)) x=-1\/∃ (k:Nat) (y:jv),eU (l.map fun y=>(y.1,y.2.1)) x=k/\l[k]?=U y:=by
 induction l with
 | nil=>exact Or.inl rfl
 | cons a l ih =>
  rw [aR,eU];by_cases h:(a.1,a.2.1)=x
  ·rw [if_pos h];exact Or.inr ⟨0,a,rfl,rfl⟩
  ·rw [if_neg h];rcases ih with h2|⟨k,y,h2,h3⟩
   ·rw [if_pos h2];exact Or.inl rfl
   ·rw [if_neg (by omega),h2];exact Or.inr ⟨k+1,y,by omega,by simpa using h3⟩
theorem dX.fil {α β:Type} {R:α->β->Prop} (p:α->Bool) (q:β->Bool) (hpq:∀ a b,R a b->p a=q b):∀ {l m},dX R l m->dX R (l.filter p) (m.filter q)
 | _,_,.nil=>.nil
 | _,_,.cons (a:=a) (b:=b) x t=>by
  have h:=hpq a b x;cases hb:q b
  ·rw [aH (by rw [h,hb]; simp),aH (by rw [hb]; simp)];exact t.fil p q hpq
  ·rw [aI (by rw [h,hb]),aI (by rw [hb])];exact .cons x (t.fil p q hpq)
theorem Vo (a b c d:Int) (r:Bool) (h:(!(a == c && b == d))=r) (w:ah):(binOp .neq 38 (bQ #[L K a,L K b]) (bQ #[L K c,L K d])).run aj w=.ok (aB r) w:=by
 have st:=Ka;subst h;by_cases h1:a=c <;> by_cases h2:b=d <;> simp [go_sem,Tryz.underlying38,aJ,st,h1,h2]
def wX (x:Id) (e:iB):Bool:=decide ((e.1,e.2.1)≠x)
theorem rJ {α:Type} (l:List α) (k:Nat) (y:α) (p:α->Bool) (h:l[k]?=U y):(l.take (k+1)).filter p=(l.take k).filter p++(if p y then [y] else []):=by
 rw [List.take_add_one,h,List.filter_append];cases hp:p y <;> simp [hp]
theorem Fy (b:Br) (nv av sv ev ov:Sl) (x:Id) (f:Int) (w:ah) (h:gZ w b nv av sv ev ov) (l2:b.dL.length<=900) (l3:b.ent.length<=900) :
  bR aj 95 #[nG b.me nv av sv ev ov,lZ x,L K f] w fun e w'=>(∃ AP ev':Sl,e=.returned (.tuple #[nG b.me nv AP sv ev' ov,aB (gJ b x f).2])/\gZ w' (gJ b x f).1 nv AP sv ev' ov)/\Below w.heap.size w w':=by
 obtain⟨no,nn,nc⟩:=nv;obtain⟨ao,an,ac⟩:=av;obtain⟨so,sn,sc⟩:=sv;obtain⟨eo,en,ec⟩:=ev;obtain⟨oo,dN,oc⟩:=ov;obtain⟨c,d⟩:=x;obtain⟨xs,hx1,hx2⟩:=h.dL;obtain⟨es,he1,he2⟩:=h.ent;have Zt:=J (yH hx2);have XL:=J (show xs.length<=900 by rw [hx2.len]; exact l2);have EL:=J (show es.length<=900 by rw [he2.len]; exact l3);have HA2:=J hx2;have HE2:=J he2;obtain⟨q1,q2,hq⟩:=hx1.len;obtain⟨rfl,rfl,rfl⟩:ao=q1/\an=xs.length/\ac=q2:=by
  have:D ao an ac=D q1 xs.length q2:=hq;simpa using this
 obtain⟨q1,q2,hq⟩:=he1.len;obtain⟨rfl,rfl,rfl⟩:eo=q1/\en=es.length/\ec=q2:=by
  have:D eo en ec=D q1 es.length q2:=hq;simpa using this
 have FD:=pF b.me (D no nn nc) (D eo es.length ec) (D so sn sc) (D oo dN oc) (ao,xs.length,ac) xs (c,d);have HH:=J h;obtain⟨h0,h1,h2,h3⟩:=gL w #[L K b.me,D no nn nc,D ao xs.length ac,D so sn sc,D eo es.length ec,D oo dN oc] #[L K c,L K d] #[L K 0,D X 0 0,D X 0 0,D X 0 0,D X 0 0,D X 0 0] 33 38 33;obtain⟨n2,hn2⟩:∃ n,n=xs.length:=⟨_,rfl⟩;obtain⟨n3,Qb⟩:∃ n,n=es.length:=⟨_,rfl⟩;simp only [<- hn2,<- Qb] at h0 h1 h2 h3 hx1 he1 HH FD ⊢;have B0:=J h0;have X2:=J h1;have X3:=J h2;have X5:=J h3;have HS:=J hx1;have HE:=J he1;have N2:=J hn2;have N3:=J Qb;obtain⟨me,hme⟩:∃ me,me=b.me:=⟨_,rfl⟩;simp only [<- hme] at X2 B0 X3 X5 FD ⊢;clear h0 h1 h2 h3 hx1 he1 hx2 he2 h hq hn2 Qb l2 l3 hme;go_enter Tryz.func95,Tryz.ntmps95;go_upto_region 1 with fail;generalize (((w.alloc (V #[L K me,D no nn nc,D ao n2 ac,D so sn sc,D eo n3 ec,D oo dN oc] 33)).alloc (V #[L K c,L K d] 38)).alloc (V #[L K 0,D X 0 0,D X 0 0,D X 0 0,D X 0 0,D X 0 0] 33))=W at *;have SW:=J (FD W (HS.out.on B0.out));clear FD;obtain⟨x0,x1,x2,x3,x4,x5⟩:=X2.out.eZ;obtain⟨y0,y1⟩:=X3.out.cs2;rcases Dz xs (c,d) with hf|⟨k,y,hf,hy⟩
 ·have LB:=J (show gJ b (c,d) f=(b,ay) by
   have hf':=hf;rw [Zt.out] at hf';unfold gJ;rw [hf']
   split
   ·rfl
   ·rw [if_pos rfl])
  rw [hf] at SW;clear hf;go_wp2_with fail;refine SW.out.mono ?_;rintro e1 w1 ⟨rfl,hb⟩;have B1:=J (B0.out.trans (hb.mono B0.out.size));have xW:=X2.out.on hb;have qZ:=X5.out.on hb;clear SW hb x0 x1 x2 x3 x4 x5 y0 y1;obtain⟨x0,x1,x2,x3,x4,x5⟩:=xW.eZ;obtain⟨r0,r1,r2,r3,r4,r5⟩:=qZ.eZ;obtain⟨t0,t1,t2,t3,t4,t5⟩:=qZ.kg;have zz:=qZ.lt;have FB:=J (dH qZ (L K me) (D no nn nc) (D ao n2 ac) (D so sn sc) (D eo n3 ec) (D oo dN oc));have BL:=J (dw (b:=w.heap.size+1+1) B1.out (by omega) (L K me) (D no nn nc) (D ao n2 ac) (D so sn sc) (D eo n3 ec) (D oo dN oc));clear X2 X3 X5 xW qZ HS HE;go_wp2_with fail;obtain⟨v0,v1,v2,v3,v4,v5⟩:=FB.out.eZ;refine aC (v:=.tuple #[bQ #[L K me,D no nn nc,D ao n2 ac,D so sn sc,D eo n3 ec,D oo dN oc],aB ay]) (by simp [results,aP,go_sem,v0,v1,v2,v3,v4,v5]) rfl ?_;rw [LB.out];exact⟨⟨(ao,n2,ac),(eo,n3,ec),rfl,HH.out.on BL.out⟩,BL.out⟩
 ·rw [hf] at SW;have hk:=(List.getElem?_eq_some_iff.1 hy).1;have XL2:=XL.out;have hkn:k<n2:=by rw [N2.out]; exact hk
  have HF:=J hf;have HY:=J hy;obtain⟨p,ix,px⟩:=PI HS.out rfl N2.out.symm hy;have LB:=J (show ∀ a,b.dL[k]?=U a->gJ b (c,d) f=if a.par=f then ({ b with dL:=cutAt b.dL k,ent:=b.ent.filter fun e=>decide (e.tree≠(c,d)) },aM) else (b,ay) from fun a ha=>by
   have hf':=HF.out;rw [Zt.out] at hf';unfold gJ;rw [hf',Int.toNat_natCast,ha];simp only;rw [if_neg (by omega)])
  obtain⟨z1,z2,⟨zo,zn,zc⟩,par⟩:=y;obtain⟨a,hak⟩:∃ a,b.dL[k]?=U a:=⟨_,O (by rw [<- HA2.out.len]; exact hk)⟩;have hap:a.par=par:=by
   obtain⟨z,hz1,hz2⟩:=HA2.out.at k a hak;rw [HY.out] at hz1;obtain rfl:=Z hz1;exact hz2.2.1.symm
  have LC:=LB.out a hak;rw [hap] at LC;have hik:decide ((k:Int)<0)=ay:=decide_eq_false (by omega);go_wp2_with fail;refine SW.out.mono ?_;rintro e1 w1 ⟨rfl,hb⟩;have B1:=J (B0.out.trans (hb.mono B0.out.size));have xW:=X2.out.on hb;have X3a:=X3.out.on hb;have qZ:=X5.out.on hb;have xI:=px w1 B1.out;obtain⟨p0,p1,p2,p3⟩:=xI;clear SW hb px HF LB hf hy hap hak x0 x1 x2 x3 x4 x5 y0 y1;by_cases hpf:par=f
  ·rw [if_pos hpf] at LC;have LB:=J LC;have hne:(par != f)=ay:=by simp [hpf]
   have HPF:=J hpf;have Z2:=J xW;have Z3:=J X3a;have Z5:=J qZ;obtain⟨x0,x1,x2,x3,x4,x5⟩:=xW.eZ;obtain⟨r0,r1,r2,r3,r4,r5⟩:=qZ.eZ;obtain⟨t0,t1,t2,t3,t4,t5⟩:=qZ.kg;have zz:=qZ.lt;clear LC hpf X2 X3 X5 xW X3a qZ;have S1:=J (HS.out.on B1.out);go_upto_region 4 with fail;refine ad7 _ w1 w.heap.size (w.heap.size+1) me _ _ _ _ ao n2 ac k xs _ _ _ _ _ _ _ _ _ _ _ _ _ _ _ _ _ _ _ _ _ _ _ _ _ _ _ _ _ _ _ _ _ _ _ _ _ _ _ _ _ _ _ _ _ _ _ _ _ _ _ _ _ _ _ _ _ Z2.out S1.out (by omega) XL.out ?_;intro xw v28 v29 v30 v31 v32 v33 v34 v35 v36 v37 v38 v39 v40 hbx ho hbl hoth hblk;obtain⟨lQ,lS,yI⟩:=(Row.dn ho).len;obtain⟨tl,htl⟩:∃ n,n=(xs.take k++xs.drop (k+1)).length:=⟨_,rfl⟩;rw [<- htl] at yI;subst yI;have B2:=J (B1.out.trans (hbl _ (aA _)));have A2:=J hbx;have A3:=J (hoth _ _ _ (by omega) Z3.out);have A5:=J (hoth _ _ _ (by omega) Z5.out);have OD:=J (dx ho (show w.heap.size+3<=w1.heap.size by have:=Z5.out.lt; omega));have E3:=J (HE.out.on B2.out);have a4:=hbx.cell 4;simp only [aO,aK,aL] at a4;have W3:=J A5.out.lt;have nb:=EL.out;rw [<- N3.out] at nb;clear hbx ho hbl hoth hblk htl B1 Z2 Z3 Z5 S1 HS HE x0 x1 x2 x3 x4 x5 r0 r1 r2 r3 r4 r5 t0 t1 t2 t3 t4 t5 zz ix p0 p1 p2 p3 hne hik;go_wp2
   go_loopw [9,44] (fun v i wr=>∃ q:Nat,q<=n3/\i=L K q/\Below xw.heap.size xw wr/\jw wr xw.heap.size v ((es.take q).filter (wX (c,d)))) (fun _ i _=>n3-(intOf i).toNat)
   case atStart=>exact⟨0,aZ _,rfl,Below.refl _ _,fF _ _⟩
   case round =>
    obtain⟨q,hq,rfl,hbe,hown⟩:=hrel;have BE:=J hbe;have OE:=J hown;clear hbe hown;by_cases hlt:q<n3
    ·obtain⟨e,hy⟩:∃ e,es[q]?=U e:=⟨_,O (by rw [<- N3.out]; exact hlt)⟩;obtain⟨p,ix,px⟩:=Pq E3.out rfl N3.out.symm hy;obtain⟨p0,p1,p2,p3,p4,p5,p6⟩:=px wr BE.out;have FS:=J (rJ es q e (wX (c,d)) hy);obtain⟨y1,y2,y3,y4,⟨yo,yn,yc⟩,y6,y7⟩:=e;simp only at p0 p1 p2 p3 p4 p5 p6;have NB:=J (fT wr (V #[L K y1,L K y2,L K y3,L K y4,D yo yn yc,L K y6,aB y7] 68));obtain⟨x0,x1⟩:=((A3.out.on BE.out).on NB.out).cs2;have hw3:IntKind.i64.wrap ((q:Int)+1)=(q:Int)+1:=IntWalk.i64_in _ (by omega);obtain⟨r,hr⟩:∃ r,(!(y1 == c && y2 == d))=r:=⟨_,rfl⟩;have he:=Vo y1 y2 c d r hr;have KN:=J (show wX (c,d) (y1,y2,y3,y4,(yo,yn,yc),y6,y7)=r by
      rw [<- hr];unfold wX;by_cases h1:y1=c <;> by_cases h2:y2=d <;> simp [h1,h2])
     clear px hy hr;cases r
     ·go_wp2
      go_roundw
      case rel=>exact⟨q+1,by omega,by go_num,BE.out.trans (NB.out.mono BE.out.size),by
       rw [FS.out,KN.out];simpa using dh OE.out NB.out⟩
      case measure=>simp [intOf]; omega
     ·have NB2:=J (fT (wr.alloc (V #[L K y1,L K y2,L K y3,L K y4,D yo yn yc,L K y6,aB y7] 68)) (V #[L K y1,L K y2,L K y3,L K y4,D yo yn yc,L K y6,aB y7] 68));have hlit:=gH nR (wr.alloc (V #[L K y1,L K y2,L K y3,L K y4,D yo yn yc,L K y6,aB y7] 68)) [(y1,y2,y3,y4,(yo,yn,yc),y6,y7)] 1 rfl (by simp) #[L K y1,L K y2,L K y3,L K y4,D yo yn yc,L K y6,aB y7] rfl;have o2:=dh (dh OE.out NB.out) NB2.out;have hB:xw.heap.size<=((wr.alloc (V #[L K y1,L K y2,L K y3,L K y4,D yo yn yc,L K y6,aB y7] 68)).alloc (V #[L K y1,L K y2,L K y3,L K y4,D yo yn yc,L K y6,aB y7] 68)).heap.size:=by have h1:=BE.out.size; simp; omega
      obtain⟨v',w',r',o',gr⟩:=fO nR xw.heap.size o2 (Row.dn hlit) (by have h1:=List.length_filter_le (wX (c,d)) (es.take q); rw [List.length_take] at h1; omega) (by simp) hB 30;have r':(Builtin.append_ #[30,30] 30 #[u9,D (U ⟨wr.heap.size+1,0,X⟩) 1 1]).run aj ((wr.alloc (V #[L K y1,L K y2,L K y3,L K y4,D yo yn yc,L K y6,aB y7] 68)).alloc (V #[L K y1,L K y2,L K y3,L K y4,D yo yn yc,L K y6,aB y7] 68))=.ok v' w':=by
       simpa [EN] using r'
      have BG:=J ((BE.out.trans ((NB.out.trans (NB2.out.mono NB.out.size)).mono BE.out.size)).grown gr hB fun j hj=>(o2.lt j hj).1);have OG:=J o';clear hlit o2 hB o' gr OE;go_wp2_with (first | (at_builtin; refine wpList_append_run rfl _ _ 30 rfl rfl rfl r' ?_) | fail)
      go_roundw
      case rel=>exact⟨q+1,by omega,by go_num,BG.out,by
       rw [FS.out,KN.out];simpa using OG.out⟩
      case measure=>simp [intOf]; omega
    ·obtain rfl:q=n3:=by omega
     have e:es.take q=es:=List.take_of_length_le (by have:=N3.out; omega);rw [e] at OE;obtain⟨Ao,Ap,hv⟩:=(Row.dn OE.out).len;obtain⟨vl,hvl⟩:∃ n,n=(es.filter (wX (c,d))).length:=⟨_,rfl⟩;rw [<- hvl] at hv;subst hv;have G2:=A2.out.on BE.out;have c4:=G2.cell 4;have g4:=G2.fr 4;have gl:=G2.lt;simp only [aO,aK,aL] at c4;clear hvl e a4 hlt hq nb;go_upto_region 13 with fail;have xW:=dO (k:=4) G2 (D Ao vl Ap);simp only [aG,aS,aT] at xW;have qZ:dG _ _ _ _:=(RowKit.Below.heap_setCell wr ⟨w.heap.size,4,X⟩ (D Ao vl Ap) _ (show w.heap.size+1+1≠w.heap.size by omega)).trans (A5.out.on BE.out);have OD2:=J (dW (dh OD.out BE.out) w.heap.size 4 (D Ao vl Ap) (by omega));have MW:=J (dW OE.out w.heap.size 4 (D Ao vl Ap) (by have:=W3.out; omega));have BQ:=J ((B2.out.trans (BE.out.mono B2.out.size)).setCell (p:=⟨w.heap.size,4,X⟩) (aA _) (D Ao vl Ap));clear G2 c4 g4 gl OD OE B2 A2 A3 A5 E3;generalize wr.setCell ⟨w.heap.size,4,X⟩ (D Ao vl Ap)=wq at *;obtain⟨x0,x1,x2,x3,x4,x5⟩:=xW.eZ;obtain⟨r0,r1,r2,r3,r4,r5⟩:=qZ.eZ;obtain⟨t0,t1,t2,t3,t4,t5⟩:=qZ.kg;have zz:=qZ.lt;have FB:=J (dH qZ (L K me) (D no nn nc) (D lQ tl lS) (D so sn sc) (D Ao vl Ap) (D oo dN oc));have BL:=J (dw (b:=w.heap.size+1+1) BQ.out (by omega) (L K me) (D no nn nc) (D lQ tl lS) (D so sn sc) (D Ao vl Ap) (D oo dN oc));have FD:=J (fC OD2.out (w.heap.size+1+1) (by omega) (L K me) (D no nn nc) (D lQ tl lS) (D so sn sc) (D Ao vl Ap) (D oo dN oc));have FE:=J (fC MW.out (w.heap.size+1+1) (by have:=W3.out; omega) (L K me) (D no nn nc) (D lQ tl lS) (D so sn sc) (D Ao vl Ap) (D oo dN oc));clear OD2 MW BQ xW qZ;go_wp2_with fail;obtain⟨v0,v1,v2,v3,v4,v5⟩:=FB.out.eZ;refine aC (v:=.tuple #[bQ #[L K me,D no nn nc,D lQ tl lS,D so sn sc,D Ao vl Ap,D oo dN oc],aB aM]) (by simp [results,aP,go_sem,v0,v1,v2,v3,v4,v5]) rfl ?_;rw [LB.out];refine⟨⟨(lQ,tl,lS),(Ao,vl,Ap),rfl,?_⟩,BL.out⟩;have hI:=HH.out.on BL.out;refine⟨hI.near,⟨_,Row.dn FD.out,?_⟩,hI.seen,⟨_,Row.dn FE.out,?_⟩,hI.own⟩
     ·have hA:=HA2.out.mono fun _ _ h=>h.on BL.out;exact (hA.take _).append (hA.drop _)
     ·have hE:=HE2.out.mono fun _ _ h=>h.on BL.out;exact hE.fil _ _ fun a b h=>by unfold wX; rw [h.1]
  ·rw [if_neg hpf] at LC;have LB:=J LC;have hne:(par != f)=aM:=by simp [hpf]
   clear LC hpf;obtain⟨x0,x1,x2,x3,x4,x5⟩:=xW.eZ;obtain⟨r0,r1,r2,r3,r4,r5⟩:=qZ.eZ;obtain⟨t0,t1,t2,t3,t4,t5⟩:=qZ.kg;have zz:=qZ.lt;clear X3a;have FB:=J (dH qZ (L K me) (D no nn nc) (D ao n2 ac) (D so sn sc) (D eo n3 ec) (D oo dN oc));have BL:=J (dw (b:=w.heap.size+1+1) B1.out (by omega) (L K me) (D no nn nc) (D ao n2 ac) (D so sn sc) (D eo n3 ec) (D oo dN oc));clear X2 X3 X5 xW qZ HS HE;go_wp2_with fail;obtain⟨v0,v1,v2,v3,v4,v5⟩:=FB.out.eZ;refine aC (v:=.tuple #[bQ #[L K me,D no nn nc,D ao n2 ac,D so sn sc,D eo n3 ec,D oo dN oc],aB ay]) (by simp [results,aP,go_sem,v0,v1,v2,v3,v4,v5]) rfl ?_;rw [LB.out];exact⟨⟨(ao,n2,ac),(eo,n3,ec),rfl,HH.out.on BL.out⟩,BL.out⟩
structure Qc (b:Br):Prop where
 near:b.near.length<=900
 dL:b.dL.length<=900
 seen:b.seen.length<=900
 ent:b.ent.length<=900
 own:b.own.length<=900
end Go.Proofs.YtkcfgbddlpomgaaGreat.Bk
namespace Go.Proofs
open Go.Shelf
def Tryz.sortI_ren:Go.Shelf.Ren:=⟨fun | 189=>75 | 125=>105 | 257=>104 | 128=>126 | 129=>127 | 294=>117 | 295=>118 | 296=>119 | 297=>120 | 298=>121 | 299=>122 | 216=>123 | 300=>124 | 301=>125 | 328=>134 | 329=>135 | 330=>136 | 331=>137 | 332=>138 | 215=>116 | 343=>142 | n=>n,fun | 28=>25 | 3=>3 | 46=>158 | 0=>0 | 51=>175 | 53=>177 | 4=>4 | 183=>168 | 182=>167 | 131=>114 | 5=>5 | 9=>9 | 218=>181 | 222=>185 | 228=>189 | 229=>190 | n=>n,fun | n=>n⟩
theorem Tryz.sortI:Go.Proofs.Lays.n189 aj Tryz.sortI_ren:={
 mixed:=by kernel_rfl
 f125:=Tryz.func105.trans (congrArg U (by kernel_rfl))
 f128:=Tryz.func126.trans (congrArg U (by kernel_rfl))
 f129:=Tryz.func127.trans (congrArg U (by kernel_rfl))
 f189:=Tryz.func75.trans (congrArg U (by kernel_rfl))
 f215:=Tryz.func116.trans (congrArg U (by kernel_rfl))
 f216:=Tryz.func123.trans (congrArg U (by kernel_rfl))
 f257:=Tryz.func104.trans (congrArg U (by kernel_rfl))
 f294:=Tryz.func117.trans (congrArg U (by kernel_rfl))
 f295:=Tryz.func118.trans (congrArg U (by kernel_rfl))
 f296:=Tryz.func119.trans (congrArg U (by kernel_rfl))
 f297:=Tryz.func120.trans (congrArg U (by kernel_rfl))
 f298:=Tryz.func121.trans (congrArg U (by kernel_rfl))
 f299:=Tryz.func122.trans (congrArg U (by kernel_rfl))
 f300:=Tryz.func124.trans (congrArg U (by kernel_rfl))
 f301:=Tryz.func125.trans (congrArg U (by kernel_rfl))
 f328:=Tryz.func134.trans (congrArg U (by kernel_rfl))
 f329:=Tryz.func135.trans (congrArg U (by kernel_rfl))
 f330:=Tryz.func136.trans (congrArg U (by kernel_rfl))
 f331:=Tryz.func137.trans (congrArg U (by kernel_rfl))
 f332:=Tryz.func138.trans (congrArg U (by kernel_rfl))
 f343:=Tryz.func142.trans (congrArg U (by kernel_rfl))
 t0:=aW
 a0:=bL
 z0:=bG
 v0:=bf
 t3:=aJ
 a3:=bN
 z3:=bH
 v3:=bg
 t4:=aX
 a4:=bO
 z4:=bI
 v4:=bn
 t5:=Tryz.underlying5
 a5:=Tryz.isAgg5
 z5:=Tryz.sizeOf5
 v5:=Tryz.zeroValue5
 t9:=Tryz.underlying9
 a9:=Tryz.isAgg9
 z9:=Tryz.sizeOf9
 v9:=Tryz.zeroValue9
 t28:=aV
 a28:=bJ
 z28:=bC
 v28:=aY
 t46:=Tryz.underlying158
 a46:=Tryz.isAgg158
 z46:=Tryz.sizeOf158
 v46:=Tryz.zeroValue158
 t51:=Tryz.underlying175
 a51:=Tryz.isAgg175
 z51:=Tryz.sizeOf175
 v51:=Tryz.zeroValue175
 t53:=Tryz.underlying177
 a53:=Tryz.isAgg177
 z53:=Tryz.sizeOf177
 v53:=Tryz.zeroValue177
 t131:=Tryz.underlying114
 a131:=Tryz.isAgg114
 z131:=Tryz.sizeOf114
 v131:=Tryz.zeroValue114
 t182:=Tryz.underlying167
 a182:=Tryz.isAgg167
 z182:=Tryz.sizeOf167
 v182:=Tryz.zeroValue167
 t183:=Tryz.underlying168
 a183:=Tryz.isAgg168
 z183:=Tryz.sizeOf168
 v183:=Tryz.zeroValue168
 t218:=Tryz.underlying181
 a218:=Tryz.isAgg181
 z218:=Tryz.sizeOf181
 v218:=Tryz.zeroValue181
 t222:=Tryz.underlying185
 a222:=Tryz.isAgg185
 z222:=Tryz.sizeOf185
 v222:=Tryz.zeroValue185
 t228:=Tryz.underlying189
 a228:=Tryz.isAgg189
 z228:=Tryz.sizeOf189
 v228:=Tryz.zeroValue189
 t229:=Tryz.underlying190
 a229:=Tryz.isAgg190
 z229:=Tryz.sizeOf190
 v229:=Tryz.zeroValue190 }
def Tryz.cptI_ren:Go.Shelf.Ren:=⟨fun | 20=>76 | n=>n,fun | 0=>0 | 3=>3 | 4=>4 | 22=>25 | n=>n,fun | n=>n⟩
theorem Tryz.cptI:Go.Proofs.Lays2.n20 aj Tryz.cptI_ren:={
 mixed:=by kernel_rfl
 i3:=by kernel_rfl
 f20:=Tryz.func76.trans (congrArg U (by kernel_rfl))
 t0:=aW
 a0:=bL
 z0:=bG
 v0:=bf
 t3:=aJ
 a3:=bN
 z3:=bH
 v3:=bg
 t4:=aX
 a4:=bO
 z4:=bI
 v4:=bn
 t22:=aV
 a22:=bJ
 z22:=bC
 v22:=aY }
end Go.Proofs
namespace Go.Proofs.YtkcfgbddlpomgaaGreat.Ar
open Go.ChangeShapes Go.WideShapes Go.RowKit
def readable (P:Program) (ts:List bF):Bool:=ts.all fun t=>P.readableRec t && decide (t<P.types.size)
theorem carry {H:Type} {enc:bF×ak->H} {P:Program} (hl:laidOutB P=aM) {W W':ah} (hb:Below W.heap.size W W') :
  ∀ (ts:List bF) (vs:List ak) (ds:List (DataW H)) (ps:List MemPlace),readable P ts=aM->DataW.TrodAll enc P W 0 (fun _=>aM) aM ts vs ds ps->(∀ x∈ps,x.block<W.heap.size) ->
   DataW.TrodAll enc P W' 0 (fun b=>decide (b<W.heap.size)) aM ts vs ds ps
 | [],vs,ds,ps,_,h,_=>by
  obtain⟨rfl,rfl,rfl⟩:=trodAll_nil h;exact trodAll_mk0
 | t::ts,vs,ds,ps,hr,h,hlt=>by
  obtain⟨v,vs',d,ds',p,q,rfl,rfl,rfl,h1,h2⟩:=trodAll_cons h;simp only [readable,List.all_cons,Bool.and_eq_true,decide_eq_true_eq] at hr;exact trodAll_cons_mk (Below.trod hl hr.1.1 hr.1.2 h1 hb (fun x hx=>hlt x (List.mem_append_left _ hx)))
   (carry hl hb ts vs' ds' q hr.2 h2 (fun x hx=>hlt x (List.mem_append_right _ hx)))
end Go.Proofs.YtkcfgbddlpomgaaGreat.Ar
