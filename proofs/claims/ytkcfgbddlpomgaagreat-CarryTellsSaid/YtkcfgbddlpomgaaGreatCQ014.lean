/-
  Names, pick, Tuple o. Conditions as told.
-/
import Derived.Test.YtkcfgbddlpomgaaGreatCQ010
import Derived.Maps.AppendAt
import Derived.Test.YtkcfgbddlpomgaaGreatCQ013
import Derived.Test.YtkcfgbddlpomgaaGreatCQ011
import Derived.Deep.LoopGhost
set_option maxRecDepth 100000
set_option maxHeartbeats 64000000
open _root_.Bool renaming false->aO,and_eq_true->aV,true->bn
open _root_.Go renaming cell_regrown->L,World->ay,Value->aH,redrawn->aK,bodyPost_ret->aS,Calls->aX,Addr->aY,below_regrown->aZ,maxLen->bf
open Go.Ending renaming returned->aL
open Go.IntKind renaming i64->aj
open Go.Lib renaming hid->J
open Go.Operand renaming tmp->ak
open Go.Proofs.Tryz renaming prog->Z,results109->aJ,ntmps109->aQ,func109->aR,ntmps33->bg,ntmps39->bA,func33->bC,func39->bD
open Go.RowKit.Below renaming refl->U,heap_setCell->aN
open Go.Value renaming pointer->Y,string->ah,slice->aF,int->aG,bool->aU
open Go.World renaming cell?_alloc_at->aB,cell?_alloc_lt->aT
open _root_.List renaming getElem?_eq_getElem->V,getElem?_toArray->au,getD_eq_getElem?_getD->aA,getElem?_cons_zero->aC,getElem?_cons_succ->aD,getElem?_eq_some_iff->aM,length_take->aW
open _root_.Option renaming some->O,none->X
open Option.some renaming inj->aI,injEq->bF
open _root_.Or renaming inr->aP,inl->bE
namespace Go.Proofs.YtkcfgbddlpomgaaGreat
namespace At
open Go.RowKit Va In
def nm (i:Nat):ByteArray:=⟨#[UInt8.ofNat (97+i)]⟩
def ng:Array aH:=#[ah ⟨#[97]⟩,ah ⟨#[98]⟩,ah ⟨#[99]⟩,ah ⟨#[100]⟩,ah ⟨#[101]⟩,ah ⟨#[102]⟩,ah ⟨#[103]⟩]
theorem P5 (i:Nat) (h:i<7):ng[i]?=O (ah (nm i)):=by
 match i,h with
 | 0,_=>rfl
 | 1,_=>rfl
 | 2,_=>rfl
 | 3,_=>rfl
 | 4,_=>rfl
 | 5,_=>rfl
 | 6,_=>rfl
theorem vT (w:ay):aX Z 31 #[] w fun e w'=>e=aL (aF (O ⟨w.heap.size,0,X⟩) 7 7)/\w'=w.alloc (.cells ng 9):=by
 go_enter Tryz.func31,Tryz.ntmps31;go_wp2;go_ret;exact⟨rfl,rfl⟩
def jR (zs:List Int) (i:Nat):Int:=if zs=[] then 0 else zs.getD (i % zs.length) 0
theorem yF (nv:aH) (zs:List Int) (i:Nat) (w:ay) (hz:iU w nv zs) (hl:zs.length<=bf) (hi:i<=100) :
  aX Z 33 #[nv,aG aj i] w fun e w'=>e=aL (aG aj (jR zs i))/\w=w':=by
 obtain⟨ao,cap,rfl⟩:=hz.shape;unfold bf at hl;cases zs with
 | nil =>
  go_enter bC,bg;go_wp2;go_ret;exact⟨rfl,rfl⟩
 | cons z r =>
  have hm:i % (z::r).length<(z::r).length:=Nat.mod_lt _ (by simp);obtain⟨y,hy⟩:∃ y,(z::r)[i % (z::r).length]?=O y:=⟨_,V hm⟩;obtain⟨_,p,_,hix,hpc⟩:=hz.at_ _ y hy;have P:=J (show jR (z::r) i=y by unfold jR; rw [if_neg (by simp),aA,hy]; rfl);have h0:((((z::r).length:Nat):Int) == 0)=aO:=by simp; omega
  have hne:(((z::r).length:Nat):Int)≠0:=by simp; omega
  have ht:(i:Int) % ((z::r).length:Nat)=((i % (z::r).length:Nat):Int):=rfl;have ht2:(i:Int).tmod ((z::r).length:Nat)=((i % (z::r).length:Nat):Int):=by
   rw [Int.tmod_eq_emod_of_nonneg (by omega)]; rfl
  have hn0:0<(((z::r).length:Nat):Int):=by simp
  generalize (z::r).length=n at *;generalize i % n=m at *;clear hz hy hm;go_enter bC,bg;go_wp2;go_ret;exact⟨Wi.xS P.out.symm,rfl⟩
def odd (z:Int):Bool:=bits BinOp.and aj z 1 == 1
def valOf (n:Int):Bool×Int×ByteArray:=(!(Xk n),U8 n,Pp n)
def qP (has vals:List Int):Nat->List A4
 | 0=>[]
 | i+1=>if i<has.length/\odd (has.getD i 0)=bn/\(qP has vals i).length<5 then qP has vals i++[(nm i,valOf (jR vals i))] else qP has vals i
theorem ZV:(Tryz.prog.info? 97).map (fun i=>(i.zero,i.size,i.bytes))=O (O (.agg #[ah ⟨#[]⟩,aU aO,aG aj 0,ah ⟨#[]⟩]),4,48):=by kernel_rfl
theorem abN:∃ i,Tryz.prog.info? 97=O i/\i.zero=O (.agg #[ah ⟨#[]⟩,aU aO,aG aj 0,ah ⟨#[]⟩])/\i.size=4/\i.bytes=48:=by
 have h:=ZV;cases hi:Tryz.prog.info? 97 with
 | none=>rw [hi] at h; cases h
 | some i =>
  rw [hi] at h;simp only [Option.map_some,bF,Prod.mk.injEq] at h;exact⟨i,rfl,h.1,h.2.1,h.2.2⟩
theorem yG {W:ay} {nv:aH} {zs:List Int} (hz:iU W nv zs) (i:Nat):-9223372036854775808<=jR zs i/\jR zs i<=9223372036854775807:=by
 unfold jR
 split
 ·omega
 ·rename_i h
  have hm:i % zs.length<zs.length:=Nat.mod_lt _ (List.length_pos_iff.2 h);have:=(hz.at_ _ _ (V hm)).1;rw [aA,V hm];exact this
theorem Kn (has vals:List Int):∀ k,(qP has vals k).length<=k
 | 0=>Nat.le_refl _
 | k+1=>by
  have h:=Kn has vals k;simp only [qP]
  split
  ·simp; omega
  ·omega
theorem dh {W W':ay} {B k:Nat} {e:TypeId} {v:aH} {n:Nat} {xs:List aH} (h:W.ownsRow B e k v n xs) (hb:Below W.heap.size W W'):W'.ownsRow B e k v n xs:=by
 refine⟨h.1,?_⟩;rcases h.2 with h2|⟨g,cap,cur,h1,h2,h3,h4⟩
 ·exact bE h2
 ·exact aP ⟨g,cap,cur,h1,h2,by rw [hb.block _ (lt_of_heap h3)]; exact h3,h4⟩
theorem mo {W:ay} {B B' k:Nat} {e:TypeId} {v:aH} {n:Nat} {xs:List aH} (hB:B'<=B) (h:W.ownsRow B e k v n xs):W.ownsRow B' e k v n xs:=by
 refine⟨h.1,?_⟩;rcases h.2 with h2|⟨g,cap,cur,h1,h2,h3⟩
 ·exact bE h2
 ·exact aP ⟨g,cap,cur,h1,Nat.le_trans hB h2,h3⟩
theorem Nl (w:ay) (x0 x1 x2 x3:aH) (t:TypeId):∀ j u,[x0,x1,x2,x3][j]?=O u->(w.alloc (.cells #[x0,x1,x2,x3] t)).cell? ((⟨w.heap.size,0,X⟩:aY).add j)=O u:=by
 intro j u hj;have e:(⟨w.heap.size,0,X⟩:aY).add j=⟨w.heap.size,j,X⟩:=by unfold Addr.add; split <;> simp_all
 rw [e,aB _ _ _ _ rfl];simpa using hj
theorem Nn (hv vv:aH) (has vals:List Int) (w:ay) (hh:iU w hv has) (hw:iU w vv vals) (lh:has.length<=bf) (lv:vals.length<=bf) :
  aX Z 10 #[.agg #[hv,vv]] w fun e w'=>∃ v,e=aL v/\w'.ownsRow w.heap.size 97 4 v (qP has vals 7).length (kX (qP has vals 7))/\Below w.heap.size w w':=by
 have HH:=J hh;have HW:=J hw;have LH:=J lh;have LV:=J lv;obtain⟨i0,hi,hz0,hz1,hz2⟩:=abN;clear hh hw lh lv;go_enter Tryz.func10,Tryz.ntmps10;go_wp2_with fail;refine (vT _).mono ?_;rintro e1 w1 ⟨rfl,rfl⟩;go_wp2
 go_loopw [3,8] (fun lv i wr=>∃ k:Nat,k<=7/\i=aG aj k/\wr.ownsRow (w.heap.size+2) 97 4 lv (qP has vals k).length (kX (qP has vals k)) /\
  Below (w.heap.size+2) ((w.alloc (.cells #[hv,vv] 27)).alloc (.cells ng 9)) wr) (fun _ i _=>7-(intOf i).toNat)
 case atStart=>exact⟨0,by omega,rfl,World.ownsRow_nil _ _ _ _,U _ _⟩
 case round =>
  obtain⟨k,hk,rfl,hown,hb⟩:=hrel;have HO:=J hown;have HB:=J hb;have T0:Below w.heap.size w ((w.alloc (.cells #[hv,vv] 27)).alloc (.cells ng 9)):=((U _ _).alloc (Nat.le_refl _) _).alloc (by simp) _;have BW:=J (T0.trans (hb.mono (by omega)));have hsz:w.heap.size+2<=wr.heap.size:=by have:=hb.size; simp at this; omega
  clear T0;obtain⟨ro,aeb,hrl⟩:=(uL.Vq hown).len;have hl5:=Kn has vals k;by_cases h7:k<7
  ·have n0:wr.cell? ⟨w.heap.size+1,k,X⟩=O (ah (nm k)):=by
    rw [hb.cell (p:=⟨w.heap.size+1,k,X⟩) (by simp),aB _ _ _ _ (by simp)]; exact P5 k h7
   have b0:wr.cell? ⟨w.heap.size,0,X⟩=O hv:=by
    rw [hb.cell (p:=⟨w.heap.size,0,X⟩) (by simp),aT _ _ _ (by simp),aB _ _ _ _ rfl]; rfl
   have b1:wr.cell? ⟨w.heap.size,1,X⟩=O vv:=by
    rw [hb.cell (p:=⟨w.heap.size,1,X⟩) (by simp),aT _ _ _ (by simp),aB _ _ _ _ rfl]; rfl
   have IH:=J (HH.out.on BW.out);obtain⟨ao,aec,hsh⟩:=HH.out.shape;clear hb hown;subst hsh;subst hrl;have hkk:(k:Int)<7:=by omega
   by_cases h1:k<has.length
   ·obtain⟨y,hy⟩:∃ y,has[k]?=O y:=⟨_,V h1⟩;have hg:has.getD k 0=y:=by rw [aA,hy]; rfl
    obtain⟨_,p,_,hix,hpc⟩:=IH.out.at_ k y hy;cases ho:odd y
    ·have T:=J (show qP has vals (k+1)=qP has vals k by simp only [qP]; rw [if_neg]; rintro⟨_,h2,_⟩; rw [hg,ho] at h2; cases h2);have hodd:(bits BinOp.and aj y 1 == 1)=aO:=ho;clear ho hy hg;go_wp2
     go_roundw
     case rel=>exact⟨k+1,by omega,by go_num,by rw [T.out]; exact HO.out,HB.out⟩
     case measure=>simp [intOf]; omega
    ·have hodd:(bits BinOp.and aj y 1 == 1)=bn:=ho;by_cases h5:(qP has vals k).length<5
     ·have T:=J (show qP has vals (k+1)=qP has vals k++[(nm k,valOf (jR vals k))] by simp only [qP]; rw [if_pos ⟨h1,by rw [hg,ho],h5⟩]);have PK:=J (fun (W:ay) (hW:Below w.heap.size w W)=>yF vv vals k W (HW.out.on hW) LV.out (by omega));have bd:=yG HW.out k;have KV:=J (fun W=>IZ (jR vals k) W bd.1 bd.2);clear ho hy hg bd;go_wp2_with fail;refine (PK.out _ BW.out).mono ?_;rintro e1 w1 ⟨rfl,rfl⟩;go_wp2_with fail;refine (KV.out _).mono ?_;rintro e2 w2 ⟨rfl,hb2⟩;have B2:=J hb2;have O2:=J (dh HO.out hb2);have hs2:=hb2.size;clear hb2;unfold valOf at T;generalize (!(Xk (jR vals k)))=t at T ⊢;generalize U8 (jR vals k)=n at T ⊢;generalize Pp (jR vals k)=s at T ⊢;go_wp2_with (first | (at_builtin; refine wpList_append_own _ rfl _ _ 39 rfl (w.heap.size+2) 97 i0 _ 4 48 Tryz.underlying39 hi hz0 hz1 hz2 rfl (by decide) _ _ _ rfl (O2.out.alloc _) ⟨w2.heap.size,0,X⟩ 1 1 (vW (nm k,t,n,s)) rfl rfl (Nl _ _ _ _ _ _) (Bu [(nm k,t,n,s)]) (by unfold bf; omega) (by omega) (by simp; omega) ?_) | fail);intro v1 w3 hown3 hgrow3 _;have O3:=J hown3;have hbel:Below (w.heap.size+2) wr w3:=((B2.out.mono hsz).alloc (by omega) _).grown hgrow3 (by simp; omega) (fun j hj=>(O2.out.lt j hj).1);have B3:=J (HB.out.trans hbel);clear hown3 hgrow3 hbel;go_wp2
      go_roundw
      case rel=>exact⟨k+1,by omega,by go_num,by
       rw [T.out,uK];simpa [kX,vW] using O3.out,B3.out⟩
      case measure=>simp [intOf]; omega
     ·have T:=J (show qP has vals (k+1)=qP has vals k by simp only [qP]; rw [if_neg]; rintro⟨_,_,h2⟩; exact h5 h2);clear ho hy hg;go_wp2
      go_roundw
      case rel=>exact⟨k+1,by omega,by go_num,by rw [T.out]; exact HO.out,HB.out⟩
      case measure=>simp [intOf]; omega
   ·have T:=J (show qP has vals (k+1)=qP has vals k by simp only [qP]; rw [if_neg]; rintro⟨h2,_⟩; exact h1 h2);go_wp2
    go_roundw
    case rel=>exact⟨k+1,by omega,by go_num,by rw [T.out]; exact HO.out,HB.out⟩
    case measure=>simp [intOf]; omega
  ·obtain rfl:k=7:=by omega
   clear hb hown;go_wp2;go_ret;exact⟨_,rfl,mo (by omega) HO.out,BW.out⟩
end At
namespace At
open Go.RowKit Go.Sort Va In
def lJ:List A4->List A4->Bool
 | [],[]=>bn
 | x::l,y::m=>DJ x y && lJ l m
 | _,_=>aO
theorem BM:∀ l m,lJ l m=bn->l.length=m.length
 | [],[],_=>rfl
 | x::l,y::m,h=>by
  simp only [lJ,aV] at h;simp [BM l m h.2]
 | [],y::m,h=>by simp [lJ] at h
 | x::l,[],h=>by simp [lJ] at h
theorem BP:∀ l m,l.length=m.length->(∀ (k:Nat) (x y:A4),l[k]?=O x->m[k]?=O y->DJ x y=bn)->lJ l m=bn
 | [],[],_,_=>rfl
 | x::l,y::m,hl,h=>by
  simp only [lJ,aV];exact⟨h 0 x y rfl rfl,BP l m (by simpa using hl) (fun k a b ha hb=>h (k+1) a b (by simpa using ha) (by simpa using hb))⟩
 | [],y::m,hl,_=>by simp at hl
 | x::l,[],hl,_=>by simp at hl
theorem Cb:∀ (l m:List A4) (k:Nat) (x y:A4),l[k]?=O x->m[k]?=O y->DJ x y=aO->lJ l m=aO
 | [],_,k,x,y,h,_,_=>by simp at h
 | _::_,[],k,x,y,_,h,_=>by simp at h
 | a::l,b::m,0,x,y,h1,h2,h3=>by
  simp at h1 h2;subst h1 h2;simp [lJ,h3]
 | a::l,b::m,k+1,x,y,h1,h2,h3=>by
  simp only [lJ,Cb l m k x y (by simpa using h1) (by simpa using h2) h3,Bool.and_false]
theorem wh {W:ay} {lv:aH} {l:List A4} {ao:Option aY} {n c k:Nat} {x:A4} (h:uL W lv l) (hv:lv=aF ao n c) (hn:l.length=n) (hk:l[k]?=O x) :
  ∃ p:aY,(∀ w,(Instr.indexAt 39 (aF ao n c) (aG aj k)).run Z w=.ok (Y (O p)) w)/\∀ w,Below W.heap.size W w ->
   w.cell? p=O (ah x.1)/\w.cell? ⟨p.block,p.off+1,X⟩=O (aU x.2.1)/\w.cell? ⟨p.block,p.off+2,X⟩=O (aG aj x.2.2.1)/\w.cell? ⟨p.block,p.off+3,X⟩=O (ah x.2.2.2):=by
 have hlt:=(aM.1 hk).1;rcases h with⟨rfl,_⟩|⟨a,cap,h1,h2,h3,h4⟩
 ·simp at hk
 ·rw [hv] at h1;obtain⟨rfl,rfl,rfl⟩:ao=O a/\n=l.length/\c=cap:=by simpa using h1
  refine⟨a.add (k * 4),fun w=>Jc a k _ _ hlt w,fun w hb=>?_⟩;have hf:=FP l k x hk;have e1:∀ j,j≠0->(⟨(a.add (k * 4)).block,(a.add (k * 4)).off+j,X⟩:aY)=a.add (k * 4+j):=fun j hj=>by
   have h5:∀ b:aY,b.add j=⟨b.block,b.off+j,X⟩:=fun b=>by unfold Addr.add; rw [if_neg hj]
   rw [<- add_add,h5]
  have g:∀ j u,(kX l)[j]?=O u->w.cell? (a.add j)=O u:=fun j u hj=>by
   have hc:=h4 j u hj;rw [hb.cell (World.block_lt_of_cell? W _ hc)]; exact hc
  rw [e1 1 (by decide),e1 2 (by decide),e1 3 (by decide)];exact⟨g _ _ hf.1,g _ _ hf.2.1,g _ _ hf.2.2.1,g _ _ hf.2.2.2⟩
theorem Cc (oO bv:aH) (l m:List A4) (w:ay) (ha:uL w oO l) (hb:uL w bv m) (hl:l.length<=1000000) (_hm:m.length<=1000000) :
  aX Z 39 #[oO,bv] w fun e w'=>e=aL (aU (lJ l m))/\Below w.heap.size w w':=by
 have HA:=J ha;have HB:=J hb;obtain⟨ao,ac,rfl⟩:=ha.len;obtain⟨bo,bc,rfl⟩:=hb.len;clear ha hb;by_cases hlen:l.length=m.length
 ·have HL:=J hlen;rw [<- hlen] at HB ⊢;generalize hn:l.length=n at *;have HN:=J hn;clear hlen hn;go_enter bD,bA;go_wp2
  go_loopw [5] (fun i wr=>∃ k:Nat,k<=n/\i=aG aj k/\Below w.heap.size w wr/\∀ (j:Nat) (x y:A4),j<k->l[j]?=O x->m[j]?=O y->DJ x y=bn) (fun i _=>n-(intOf i).toNat)
  case atStart=>exact⟨0,Nat.zero_le _,rfl,U _ _,fun j x y h=>by omega⟩
  case round =>
   obtain⟨k,hk,rfl,hbe,hall⟩:=hrel;have BE:=J hbe;have AL:=J hall;clear hbe hall;by_cases hlt:k<n
   ·obtain⟨x,hx⟩:∃ x,l[k]?=O x:=⟨_,V (by rw [HN.out]; exact hlt)⟩;obtain⟨y,hy⟩:∃ y,m[k]?=O y:=⟨_,V (by rw [<- HL.out]; exact hlt)⟩;obtain⟨p,ix,px⟩:=wh HA.out rfl HN.out hx;obtain⟨q,iy,py⟩:=wh HB.out rfl HL.out.symm hy;have p0:=L (px _ BE.out).1;have p1:=L (px _ BE.out).2.1;have p2:=L (px _ BE.out).2.2.1;have p3:=L (px _ BE.out).2.2.2;have q0:=L (py _ BE.out).1;have q1:=L (py _ BE.out).2.1;have q2:=L (py _ BE.out).2.2.1;have q3:=L (py _ BE.out).2.2.2;clear px py;obtain⟨r,hr⟩:∃ r,DJ x y=r:=⟨_,rfl⟩;have hne:=aef x y r hr;have HX:=J hx;have HY:=J hy;have HR:=J hr;clear hx hy hr;cases r
    ·have R:=J (show lJ l m=aO from Cb l m k x y HX.out HY.out HR.out);go_wp2;refine wp_region_quiet_below (by kernel_rfl) (by kernel_rfl) ?_
     repeat (go_big_quiet_step (fail))
     refine wpQuiet_nil ?_;intro _ hw';obtain⟨⟨dq,osq⟩,hw''⟩:=hw';subst hw'';go_wp2;go_ret;exact⟨dZ R.out.symm,BE.out.trans ((aZ wr dq osq).mono BE.out.size)⟩
    ·go_wp2;refine wp_region_quiet_below (by kernel_rfl) (by kernel_rfl) ?_
     repeat (go_big_quiet_step (fail))
     refine wpQuiet_nil ?_;intro _ hw';obtain⟨⟨dq,osq⟩,hw''⟩:=hw';subst hw'';clear ix iy p0 p1 p2 p3 q0 q1 q2 q3 hne;go_wp2
     go_roundw
     case rel=>exact⟨k+1,by omega,by go_num,BE.out.trans ((aZ wr dq osq).mono BE.out.size),fun j x' y' hj h1 h2=>by
      rcases Nat.lt_or_ge j k with h3|h3
      ·exact AL.out j x' y' h3 h1 h2
      ·obtain rfl:j=k:=by omega
       have e1:=HX.out;have e2:=HY.out;rw [h1] at e1;rw [h2] at e2;rw [aI e1,aI e2];exact HR.out⟩
     case measure=>simp [intOf]; omega
   ·obtain rfl:k=n:=by omega
    have R:=J (show lJ l m=bn from BP l m (by rw [HN.out]; exact HL.out) (fun j a b h1 h2=>AL.out j a b (by have:=(aM.1 h1).1; have:=HN.out; omega) h1 h2));go_wp2;go_ret;exact⟨dZ R.out.symm,BE.out⟩
 ·have R:=J (show lJ l m=aO by
   cases h:lJ l m
   ·rfl
   ·exact absurd (BM _ _ h) hlen)
  have hne:(((l.length:Nat):Int) != ((m.length:Nat):Int))=bn:=by simp; omega
  have hne2:(((l.length:Nat):Int) == ((m.length:Nat):Int))=aO:=by simp; omega
  clear hlen;go_enter bD,bA;go_wp2;go_ret;exact⟨dZ R.out.symm,U _ _⟩
def Zm (c:UInt8):Bool:=decide (97<=c.toNat) && decide (c.toNat<=122)
def Fb (s:ByteArray):Bool:=s.data.toList.all Zm && (decide (1<=s.size) && decide (s.size<=12))
end At
namespace Pr
open Go.RowKit Go.Sort Pu Rw Va
theorem qJ {W W1:ay} {v:aH} {l:List C5} {ao:Option aY} {n c k:Nat} {x:C5} (h:fG W v l) (hv:v=aF ao n c) (hn:l.length=n) (hk:l[k]?=O x) (hb:Below W.heap.size W W1) :
  ∃ p:aY,(∀ w,(Instr.indexAt 41 (aF ao n c) (aG aj k)).run Z w=.ok (Y (O p)) w) /\
   (∀ d os,(grow (aK W1 d) os).cell? p=O (ah x.1))/\(∀ d os,(grow (aK W1 d) os).cell? ⟨p.block,p.off+1,X⟩=O (aG aj x.2.1))/\(∀ d os,(grow (aK W1 d) os).cell? ⟨p.block,p.off+2,X⟩=O (aG aj x.2.2.1))/\(∀ d os,(grow (aK W1 d) os).cell? ⟨p.block,p.off+3,X⟩=O (aG aj x.2.2.2.1))/\(∀ d os,(grow (aK W1 d) os).cell? ⟨p.block,p.off+4,X⟩=O (ah x.2.2.2.2)):=by
 obtain⟨p,h1,h2⟩:=U7 h hv hn hk;obtain⟨c0,c1,c2,c3,c4⟩:=h2 _ hb;exact⟨p,h1,L c0,L c1,L c2,L c3,L c4⟩
theorem rO {W:ay} {b:Nat} {c:C5} (h:dG W b (cells5 c).toArray 106):(∀ d os,(grow (aK W d) os).cell? ⟨b,0,X⟩=O (ah c.1))/\(∀ d os,(grow (aK W d) os).cell? ⟨b,1,X⟩=O (aG aj c.2.1))/\(∀ d os,(grow (aK W d) os).cell? ⟨b,2,X⟩=O (aG aj c.2.2.1))/\(∀ d os,(grow (aK W d) os).cell? ⟨b,3,X⟩=O (aG aj c.2.2.2.1))/\(∀ d os,(grow (aK W d) os).cell? ⟨b,4,X⟩=O (ah c.2.2.2.2)) :=
 ⟨L (h.cell 0),L (h.cell 1),L (h.cell 2),L (h.cell 3),L (h.cell 4)⟩
end Pr
namespace Bk
open Go.RowKit Rw YtkcfgbddlpomgaaGreat.Nm Pr
def Ko (B b2 _:Nat) (so:Option aY) (sn sc at_:Nat) (lo hiv:aH) (lt ld:List iB) (i:Nat) (v:aH) (x:ay):Prop :=
 match i with
 | 0=>∃ g,v=aF (O ⟨g,0,X⟩) 0 0/\B<=g/\dG x g #[] 68
 | 1=>v=Y (O ⟨b2,4,X⟩)
 | 2=>v=aF so sn sc
 | 3=>v=aG aj (at_:Int)
 | 4=>v=lo
 | 5=>jw x B v lt
 | 6=>v=Y (O ⟨b2,4,X⟩)
 | 7=>v=aF so sn sc
 | 8=>v=aG aj (at_:Int)
 | 9=>v=aG aj ((at_:Int)+1)
 | 10=>v=hiv
 | 11=>jw x B v (lt++ld)
 | 12=>v=Y (O ⟨b2,4,X⟩)
 | _=>True
noncomputable def Xt:Code:=((Tryz.f93.body.bind (eu 5)).getD .skip)
theorem Qy (B b2 b3:Nat) (so:Option aY) (sn sc at_:Nat) (lo hiv:aH) (lt ld:List iB) (i:Nat) (v:aH) (x x':ay) (h:Ko B b2 b3 so sn sc at_ lo hiv lt ld i v x) (hb:Below x.heap.size x x'):Ko B b2 b3 so sn sc at_ lo hiv lt ld i v x':=by
 by_cases hi:i<13
 ·rcases (by omega:i=0\/i=1\/i=2\/i=3\/i=4\/i=5\/i=6\/i=7\/i=8\/i=9\/i=10\/i=11\/i=12) with rfl|rfl|rfl|rfl|rfl|rfl|rfl|rfl|rfl|rfl|rfl|rfl|rfl
  ·obtain⟨g,h1,h2,h3⟩:=h;exact⟨g,h1,h2,h3.on hb⟩
  ·exact h
  ·exact h
  ·exact h
  ·exact h
  ·exact dh h hb
  ·exact h
  ·exact h
  ·exact h
  ·exact h
  ·exact h
  ·exact dh h hb
  ·exact h
 ·unfold Ko
  split <;> first | omega | trivial
theorem aej (Q:Exit->Act->ay->Prop) (W:ay) (b2 b3:Nat) (me:Int) (y1 y2 y3 y5:aH) (so:Option aY) (sn sc at_:Nat) (l:List iB) (u0 u1 u2 u3 u6 u7 u8 u9 u10 u12 u13 u14 u15 u16 u17 u18 u19 u20 u21 u22 u23 u24 u25 u26 u27 u28 u29 u30 u31 u32 u33 u34 u35 u36 u37 u38 u39 u40 u41 u42 u43 u44 u45 u46 u47 u48 u49 u50 u51 u52 u53 u54 u55 u56 u57 u58 u59 u60 u61 u62 u63 u64 u65 u66 u67 u68 u69 u70 u71 u72 u73 u74 u75 u76 u77 u78 u79 u80 u81 u82 u83 u84 u85 u86 u87 u88 u89 u90 u91 u92 u93 u94 u95 u96 u97 u98 u99 u100 u101 u102 u103:aH)
  (h2:dG W b2 #[aG aj me,y1,y2,y3,aF so sn sc,y5] 33) (hs:jX W (aF so sn sc) l) (hat:at_+1<=l.length) (hlen:l.length<=900)
  (hQ:∀ (x:ay) (v39 v40 v41 v42 v43 v44 v45 v46 v47 v48 v49 v50 v51:aH),dG x b2 #[aG aj me,y1,y2,y3,v50,y5] 33->jw x W.heap.size v50 (l.take at_++l.drop (at_+1))->(∀ B,B<=b2->Below B W x)->(∀ c cs t,c≠b2->dG W c cs t->dG x c cs t)->(∀ k,k<W.heap.size->k≠b2->x.heap[k]?=W.heap[k]?)->Q .normal ⟨(u0::u1::u2::u3::Y (O ⟨b2,0,X⟩)::Y (O ⟨b3,0,X⟩)::u6::u7::u8::u9::u10::aG aj (at_:Int)::u12::u13::u14::u15::u16::u17::u18::u19::u20::u21::u22::u23::u24::u25::u26::u27::u28::u29::u30::u31::u32::u33::u34::u35::u36::u37::u38::v39::v40::v41::v42::v43::v44::v45::v46::v47::v48::v49::v50::v51::u52::u53::u54::u55::u56::u57::u58::u59::u60::u61::u62::u63::u64::u65::u66::u67::u68::u69::u70::u71::u72::u73::u74::u75::u76::u77::u78::u79::u80::u81::u82::u83::u84::u85::u86::u87::u88::u89::u90::u91::u92::u93::u94::u95::u96::u97::u98::u99::u100::u101::u102::u103::[]).toArray,[]⟩ x) :
  Code.wp Z Xt Q ⟨(u0::u1::u2::u3::Y (O ⟨b2,0,X⟩)::Y (O ⟨b3,0,X⟩)::u6::u7::u8::u9::u10::aG aj (at_:Int)::u12::u13::u14::u15::u16::u17::u18::u19::u20::u21::u22::u23::u24::u25::u26::u27::u28::u29::u30::u31::u32::u33::u34::u35::u36::u37::u38::u39::u40::u41::u42::u43::u44::u45::u46::u47::u48::u49::u50::u51::u52::u53::u54::u55::u56::u57::u58::u59::u60::u61::u62::u63::u64::u65::u66::u67::u68::u69::u70::u71::u72::u73::u74::u75::u76::u77::u78::u79::u80::u81::u82::u83::u84::u85::u86::u87::u88::u89::u90::u91::u92::u93::u94::u95::u96::u97::u98::u99::u100::u101::u102::u103::[]).toArray,[]⟩ W:=by
 have HQ:=J hQ;have H2:=J h2;have AT1:=J (show at_<=900 by omega);obtain⟨lo,AA,uz⟩:=tV nR hs at_ (by omega);obtain⟨hiv,AJ,vS⟩:=oN nR hs (at_+1) hat;have LT:=J (show (l.take at_).length<=1000 by rw [aW]; omega);have PU:=J (show (l.take at_).length<=900 by rw [aW]; omega);have LD:=J (show (l.drop (at_+1)).length<=1000 by rw [List.length_drop]; omega);generalize l.take at_=lt at *;generalize l.drop (at_+1)=ld at *;have SL:=J AA;have SH:=J (show ∀ w,(Instr.sliceAt 30 (aF so sn sc) (O (aG aj ((at_:Int)+1))) X X).run Z w=.ok hiv w from AJ);have RL:=J uz;have RH:=J vS;clear hQ h2 hs AA AJ uz vS hat hlen;have iJ:=Qy W.heap.size b2 b3 so sn sc at_ lo hiv lt ld;unfold Xt
 conv=>arg 2; whnf
 have nd:∀ j,(j<39\/52<=j)->∀ i,i<13->(fun i=>39+i) i≠j:=by
  intro j hj i hi h;simp only at h;omega
 refine Rg.fH 14 13 (fun i=>39+i) (fun i=>if i=0 then 5 else if i=5 then 11 else 13) (Ko W.heap.size b2 b3 so sn sc at_ lo hiv lt ld) (by kernel_rfl) (by kernel_rfl) rfl (by decide) (fun i j _ _ h=>by have h2:39+i=39+j:=h; omega) (fun i hi=>by show 39+i<104; omega) ?_ (fun _=>Rg.iW 1 (by kernel_rfl)) (fun kk o h1 h2=>by omega) ?_
 ·intro i o hi ho a x D hnd hc hD hb seen K hK;clear HQ;rcases (by omega:i=0\/i=1\/i=2\/i=3\/i=4\/i=5\/i=6\/i=7\/i=8\/i=9\/i=10\/i=11\/i=12) with rfl|rfl|rfl|rfl|rfl|rfl|rfl|rfl|rfl|rfl|rfl|rfl|rfl
  ·cases ho;exact Rg.cZ rfl rfl (Rg.iG a.eval _ 30 0 #[] rfl rfl (by simp [go_sem])) (hK (aF (O ⟨x.heap.size,0,X⟩) 0 0) (x.alloc (.cells #[] 68)) ⟨x.heap.size,rfl,hb.size,dI x #[] 68⟩ ((U _ _).alloc hb.size _) fun j u _ _ _ _ _ h=>iJ j u _ _ h ((U _ _).alloc (Nat.le_refl _) _))
  ·cases ho;have e4:a.eval (ak 4)=Y (O ⟨b2,0,X⟩):=seen.kp 4 _ (nd 4 (by omega)) rfl;exact Rg.cZ rfl rfl (Rg.dJ a.eval _ 33 (ak 4) 4 rfl (by rw [e4]; simp [go_sem])) (hK _ _ rfl (U _ _) fun _ _ _ _ _ _ _ h=>h)
  ·cases ho;have e40:a.eval (ak 40)=Y (O ⟨b2,4,X⟩):=seen.at_ ⟨1,.data⟩ (by simp) rfl (aP (by decide));have y:=(H2.out.on hb).cell 4;simp only [au,aC,aD] at y;exact Rg.cZ rfl rfl (Rg.dR a.eval _ 30 (ak 40) rfl (by rw [e40]; simp [go_sem,y])) (hK _ _ rfl (U _ _) fun _ _ _ _ _ _ _ h=>h)
  ·cases ho;have e11:a.eval (ak 11)=aG aj (at_:Int):=seen.kp 11 _ (nd 11 (by omega)) rfl;exact Rg.cZ rfl rfl (Rg.fJ a.eval _ (ak 11) rfl x) (hK _ _ e11 (U _ _) fun _ _ _ _ _ _ _ h=>h)
  ·cases ho;have e41:a.eval (ak 41)=aF so sn sc:=seen.at_ ⟨2,.data⟩ (by simp) rfl (aP (by decide));have e42:a.eval (ak 42)=aG aj (at_:Int):=seen.at_ ⟨3,.data⟩ (by simp) rfl (aP (by decide));exact Rg.cZ rfl rfl (Rg.jI a.eval _ 30 (ak 41) X (O (ak 42)) X rfl (by show (Instr.sliceAt 30 (a.eval (ak 41)) X (O (a.eval (ak 42))) X).run Z x=.ok lo x; rw [e41,e42]; exact SL.out x)) (hK _ _ rfl (U _ _) fun _ _ _ _ _ _ _ h=>h)
  ·cases ho;obtain⟨g,q0,hBg,hbx⟩:=seen.at_ ⟨0,.data⟩ (by simp) rfl (bE rfl);have q0:a.eval (ak 39)=aF (O ⟨g,0,X⟩) 0 0:=q0;have e43:a.eval (ak 43)=lo:=seen.at_ ⟨4,.data⟩ (by simp) rfl (aP (by decide));obtain⟨v',x',r,o',gr⟩:=iA nR W.heap.size hbx hBg (RL.out.on hb) LT.out 30;exact Rg.cZ rfl rfl (Rg.fM a.eval _ (ak 39) (ak 43) 30 rfl q0 e43 r) (hK v' x' o' (gr.mono hb.size) fun j u _ _ _ _ _ h=>iJ j u _ _ h gr)
  ·cases ho;have e4:a.eval (ak 4)=Y (O ⟨b2,0,X⟩):=seen.kp 4 _ (nd 4 (by omega)) rfl;exact Rg.cZ rfl rfl (Rg.dJ a.eval _ 33 (ak 4) 4 rfl (by rw [e4]; simp [go_sem])) (hK _ _ rfl (U _ _) fun _ _ _ _ _ _ _ h=>h)
  ·cases ho;have e45:a.eval (ak 45)=Y (O ⟨b2,4,X⟩):=seen.at_ ⟨6,.data⟩ (by simp) rfl (aP (by decide));have y:=(H2.out.on hb).cell 4;simp only [au,aC,aD] at y;exact Rg.cZ rfl rfl (Rg.dR a.eval _ 30 (ak 45) rfl (by rw [e45]; simp [go_sem,y])) (hK _ _ rfl (U _ _) fun _ _ _ _ _ _ _ h=>h)
  ·cases ho;have e11:a.eval (ak 11)=aG aj (at_:Int):=seen.kp 11 _ (nd 11 (by omega)) rfl;exact Rg.cZ rfl rfl (Rg.fJ a.eval _ (ak 11) rfl x) (hK _ _ e11 (U _ _) fun _ _ _ _ _ _ _ h=>h)
  ·cases ho;have e47:a.eval (ak 47)=aG aj (at_:Int):=seen.at_ ⟨8,.data⟩ (by simp) rfl (aP (by decide));exact Rg.cZ rfl rfl (Rg.Py a.eval _ .add 3 (ak 47) (.const (aG aj 1)) 3 rfl (by rw [e47]; exact add_one _ _ _ _ at_ AT1.out)) (hK _ _ rfl (U _ _) fun _ _ _ _ _ _ _ h=>h)
  ·cases ho;have e46:a.eval (ak 46)=aF so sn sc:=seen.at_ ⟨7,.data⟩ (by simp) rfl (aP (by decide));have e48:a.eval (ak 48)=aG aj ((at_:Int)+1):=seen.at_ ⟨9,.data⟩ (by simp) rfl (aP (by decide));exact Rg.cZ rfl rfl (Rg.jI a.eval _ 30 (ak 46) (O (ak 48)) X X rfl (by show (Instr.sliceAt 30 (a.eval (ak 46)) (O (a.eval (ak 48))) X X).run Z x=.ok hiv x; rw [e46,e48]; exact SH.out x)) (hK _ _ rfl (U _ _) fun _ _ _ _ _ _ _ h=>h)
  ·cases ho;have o44:jw x W.heap.size (a.eval (ak 44)) (lt):=seen.at_ ⟨5,.data⟩ (by simp) rfl (bE rfl);have e49:a.eval (ak 49)=hiv:=seen.at_ ⟨10,.data⟩ (by simp) rfl (aP (by decide));have ox:jX x (a.eval (ak 49)) ld:=by rw [e49]; exact RH.out.on hb
   obtain⟨v',x',r,o',gr⟩:=fO nR W.heap.size o44 ox (by have:=PU.out; omega) LD.out hb.size 30;exact Rg.cZ rfl rfl (Rg.fM a.eval _ (ak 44) (ak 49) 30 rfl rfl rfl r) (hK v' x' o' ((U _ x).grown gr hb.size fun j hj=>(o44.lt j hj).1) fun j u hj dj nl nx ni h=>by
    rcases (by omega:j=0\/j=1\/j=2\/j=3\/j=4\/j=5\/j=6\/j=7\/j=8\/j=9\/j=10\/j=11\/j=12) with rfl|rfl|rfl|rfl|rfl|rfl|rfl|rfl|rfl|rfl|rfl|rfl|rfl
    ·exact absurd rfl (fun _:(0:Nat)=0=>nl (hD ⟨5,.data⟩ (by simp) rfl))
    ·exact h
    ·exact h
    ·exact h
    ·exact h
    ·exact absurd rfl (fun _:(0:Nat)=0=>nx rfl)
    ·exact h
    ·exact h
    ·exact h
    ·exact h
    ·exact h
    ·exact absurd rfl (fun _:(0:Nat)=0=>ni rfl)
    ·exact h)
  ·cases ho;have e4:a.eval (ak 4)=Y (O ⟨b2,0,X⟩):=seen.kp 4 _ (nd 4 (by omega)) rfl;exact Rg.cZ rfl rfl (Rg.dJ a.eval _ 33 (ak 4) 4 rfl (by rw [e4]; simp [go_sem])) (hK _ _ rfl (U _ _) fun _ _ _ _ _ _ _ h=>h)
 ·intro a w' df sz kp ⟨vs,hv⟩ hb;have gr:a.tmps[50]?=O (vs 11):=(hv 11 (by omega)).1;have gp:a.tmps[51]?=O (Y (O ⟨b2,4,X⟩)):=by
   have h:vs 12=Y (O ⟨b2,4,X⟩):=(hv 12 (by omega)).2 (by decide);rw [<- h];exact (hv 12 (by omega)).1
  have oR:jw w' W.heap.size (vs 11) (lt++ld):=(hv 11 (by omega)).2 (by decide);generalize vs 11=xR at *;obtain⟨ca,cp,eR⟩:=(Row.dn oR).len;have hbx:=H2.out.on hb;have hblt:=H2.out.lt;have c5:=hbx.cell 4;have f5:=hbx.fr 4;simp only [au,aC,aD] at c5;have hb1:=dO (k:=4) hbx xR;show Rg.fu _ _ _ 1 13 a w';simp only [Rg.fu];refine Rg.fI 30 (ak 51) (ak 50) rfl rfl rfl rfl (Rg.dD gp) (Rg.dD gr) (w':=w'.setCell ⟨b2,4,X⟩ xR) (by rw [eR]; simp [go_sem,c5,f5]) ?_;have qF:∀ j,(j<39\/52<=j)->a.tmps[j]?=(u0::u1::u2::u3::Y (O ⟨b2,0,X⟩)::Y (O ⟨b3,0,X⟩)::u6::u7::u8::u9::u10::aG aj (at_:Int)::u12::u13::u14::u15::u16::u17::u18::u19::u20::u21::u22::u23::u24::u25::u26::u27::u28::u29::u30::u31::u32::u33::u34::u35::u36::u37::u38::u39::u40::u41::u42::u43::u44::u45::u46::u47::u48::u49::u50::u51::u52::u53::u54::u55::u56::u57::u58::u59::u60::u61::u62::u63::u64::u65::u66::u67::u68::u69::u70::u71::u72::u73::u74::u75::u76::u77::u78::u79::u80::u81::u82::u83::u84::u85::u86::u87::u88::u89::u90::u91::u92::u93::u94::u95::u96::u97::u98::u99::u100::u101::u102::u103::[])[j]?:=fun j hj=>(kp j (nd j hj)).trans au;obtain⟨mid,hmid,rfl⟩:=Rg.fQ 39 13 df sz (by simp) qF
  match mid,hmid with
  | [v39,v40,v41,v42,v43,v44,v45,v46,v47,v48,v49,v50,v51],_ =>
   have e1:O v50=O xR:=gr;obtain rfl:=aI e1;refine HQ.out _ v39 v40 v41 v42 v43 v44 v45 v46 v47 v48 v49 v50 v51 ?_ ?_ ?_ ?_ ?_
   ·simpa using hb1
   ·exact dW oR b2 4 _ hblt
   ·exact fun B hB=>(hb.mono (Nat.le_of_lt (Nat.lt_of_le_of_lt hB hblt))).setCell hB _
   ·intro c cs t hc hbc;exact (aN _ _ _ _ hc).trans (hbc.on hb)
   ·intro k hk hne;exact (aN _ _ _ _ hne).trans (hb.block k hk)
end Bk
namespace Rl
open Go.RowKit Pu Rw Pr Va
def Kq (n:ByteArray) (r:Option Kd) (w:ay) (e:Ending) (w':ay):Prop:=(∃ c,e=aL (.tuple #[cv c,aU r.isSome])/\∀ k,r=O k->c=r5 (n,k))/\Below w.heap.size w w'
theorem DX {n:ByteArray} {w w':ay} (c:C5) (h:Below w.heap.size w w'):Kq n X w (aL (.tuple #[cv c,aU aO])) w':=⟨⟨c,rfl,fun _ h=>by cases h⟩,h⟩
theorem ZW {n:ByteArray} {w w':ay} (b:Bool) (k:Kd) (h:Below w.heap.size w w'):Kq n (if b=bn then O k else X) w (aL (.tuple #[cv (r5 (n,k)),aU b])) w':=by
 cases b
 ·exact⟨⟨_,rfl,fun _ h=>by cases h⟩,h⟩
 ·exact⟨⟨_,rfl,fun _ h=>by rw [<- aI h]⟩,h⟩
theorem Qz (n:ByteArray) (lo1 hi1:Int) (u2:ByteArray) (w:ay):aX Z 109 #[cv (r5 (n,(.rg lo1 hi1))),cv (r5 (n,(.tx u2)))] w (Kq n (eX (.rg lo1 hi1) (.tx u2)) w):=by
 have R:=J (show eX (.rg lo1 hi1) (.tx u2)=X from rfl);rw [R.out];clear R;simp only [r5,kN,jg,jh,kT];have B:=J (rC w n 1 lo1 hi1 ⟨#[]⟩ n 2 0 0 u2);go_enter aR,aQ;go_wp2;exact aS (v:=.tuple #[cv (n,1,lo1,hi1,⟨#[]⟩),aU aO]) (by simp [results,aJ,go_sem]) rfl (DX (n,1,lo1,hi1,⟨#[]⟩) (by first | exact B.out.alloc B.out.size _ | exact (((((B.out.alloc B.out.size _).setCell (by simp) _).setCell (by simp) _).setCell (by simp) _).setCell (by simp) _).setCell (by simp) _))
theorem QA (n:ByteArray) (lo1 hi1:Int) (u2:ByteArray) (w:ay):aX Z 109 #[cv (r5 (n,(.rg lo1 hi1))),cv (r5 (n,(.pr u2)))] w (Kq n (eX (.rg lo1 hi1) (.pr u2)) w):=by
 have R:=J (show eX (.rg lo1 hi1) (.pr u2)=X from rfl);rw [R.out];clear R;simp only [r5,kN,jg,jh,kT];have B:=J (rC w n 1 lo1 hi1 ⟨#[]⟩ n 3 0 0 u2);go_enter aR,aQ;go_wp2;exact aS (v:=.tuple #[cv (n,1,lo1,hi1,⟨#[]⟩),aU aO]) (by simp [results,aJ,go_sem]) rfl (DX (n,1,lo1,hi1,⟨#[]⟩) (by first | exact B.out.alloc B.out.size _ | exact (((((B.out.alloc B.out.size _).setCell (by simp) _).setCell (by simp) _).setCell (by simp) _).setCell (by simp) _).setCell (by simp) _))
theorem QC (n:ByteArray) (u1:ByteArray) (lo2 hi2:Int) (w:ay):aX Z 109 #[cv (r5 (n,(.tx u1))),cv (r5 (n,(.rg lo2 hi2)))] w (Kq n (eX (.tx u1) (.rg lo2 hi2)) w):=by
 have R:=J (show eX (.tx u1) (.rg lo2 hi2)=X from rfl);rw [R.out];clear R;simp only [r5,kN,jg,jh,kT];have B:=J (rC w n 2 0 0 u1 n 1 lo2 hi2 ⟨#[]⟩);go_enter aR,aQ;go_wp2;exact aS (v:=.tuple #[cv (n,2,0,0,u1),aU aO]) (by simp [results,aJ,go_sem]) rfl (DX (n,2,0,0,u1) (by first | exact B.out.alloc B.out.size _ | exact (((((B.out.alloc B.out.size _).setCell (by simp) _).setCell (by simp) _).setCell (by simp) _).setCell (by simp) _).setCell (by simp) _))
theorem QD (n:ByteArray) (u1:ByteArray) (lo2 hi2:Int) (w:ay):aX Z 109 #[cv (r5 (n,(.pr u1))),cv (r5 (n,(.rg lo2 hi2)))] w (Kq n (eX (.pr u1) (.rg lo2 hi2)) w):=by
 have R:=J (show eX (.pr u1) (.rg lo2 hi2)=X from rfl);rw [R.out];clear R;simp only [r5,kN,jg,jh,kT];have B:=J (rC w n 3 0 0 u1 n 1 lo2 hi2 ⟨#[]⟩);go_enter aR,aQ;go_wp2;exact aS (v:=.tuple #[cv (n,3,0,0,u1),aU aO]) (by simp [results,aJ,go_sem]) rfl (DX (n,3,0,0,u1) (by first | exact B.out.alloc B.out.size _ | exact (((((B.out.alloc B.out.size _).setCell (by simp) _).setCell (by simp) _).setCell (by simp) _).setCell (by simp) _).setCell (by simp) _))
end Rl
end Go.Proofs.YtkcfgbddlpomgaaGreat
