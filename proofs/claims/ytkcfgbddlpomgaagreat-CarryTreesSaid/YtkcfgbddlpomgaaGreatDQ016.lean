/-
  Names, pick, Tuple o. Conditions as told.
-/
import Derived.Maps.AppendAt
import Derived.Test.YtkcfgbddlpomgaaGreatDQ014
import Derived.Test.YtkcfgbddlpomgaaGreatDQ013
set_option maxRecDepth 100000
set_option maxHeartbeats 64000000
open _root_.Go renaming Value->ay,cell_regrown->aD,World->aG,Addr->aM,below_regrown->aR,maxLen->aS,Calls->bf
open Go.IntKind renaming i64->aB
open Go.Lib renaming hid->L
open Go.Operand renaming tmp->aj
open Go.Proofs.Tryz renaming prog->aK,ntmps33->aT,ntmps39->aU,func33->aV,func39->aW,func66->aY
open Go.Proofs.YtkcfgbddlpomgaaGreat.Rg renaming dw->aC,dP->aO,dI->aP,dY->aQ,fC->aX,get_put->aZ,gL->bn,fM->bD,fU->bE,nN->bF,fJ->bG,jc->bH,gq->bI
open Go.RowKit.Below renaming refl->U,heap_setCell->aL
open Go.Value renaming pointer->J,slice->O,string->aF,int->aJ,bool->bg
open Go.World renaming cell?_alloc_at->aI,cell?_alloc_lt->aN
open _root_.List renaming getElem?_toArray->X,getElem?_cons_zero->Z,getElem?_cons_succ->ah,getElem?_eq_getElem->ak,getElem?_eq_some_iff->aA,getD_eq_getElem?_getD->aH
open _root_.Option renaming some->V,none->Y
open _root_.Or renaming inr->au
namespace Go.Proofs.YtkcfgbddlpomgaaGreat
namespace At
open Go.RowKit Va In
def nm (i:Nat):ByteArray:=⟨#[UInt8.ofNat (97+i)]⟩
def nA:Array ay:=#[aF ⟨#[97]⟩,aF ⟨#[98]⟩,aF ⟨#[99]⟩,aF ⟨#[100]⟩,aF ⟨#[101]⟩,aF ⟨#[102]⟩,aF ⟨#[103]⟩]
theorem QD (i:Nat) (h:i<7):nA[i]?=V (aF (nm i)):=by
 match i,h with
 | 0,_=>rfl
 | 1,_=>rfl
 | 2,_=>rfl
 | 3,_=>rfl
 | 4,_=>rfl
 | 5,_=>rfl
 | 6,_=>rfl
theorem vZ (w:aG):bf aK 31 #[] w fun e w'=>e=.returned (O (V ⟨w.heap.size,0,Y⟩) 7 7)/\w'=w.alloc (.cells nA 9):=by
 go_enter Tryz.func31,Tryz.ntmps31;go_wp2;go_ret;exact⟨rfl,rfl⟩
def jV (zs:List Int) (i:Nat):Int:=if zs=[] then 0 else zs.getD (i % zs.length) 0
theorem yL (nv:ay) (zs:List Int) (i:Nat) (w:aG) (hz:jo w nv zs) (hl:zs.length<=aS) (hi:i<=100) :
  bf aK 33 #[nv,aJ aB i] w fun e w'=>e=.returned (aJ aB (jV zs i))/\w=w':=by
 obtain⟨ao,cap,rfl⟩:=hz.shape;unfold aS at hl;cases zs with
 | nil =>
  go_enter aV,aT;go_wp2;go_ret;exact⟨rfl,rfl⟩
 | cons z r =>
  have hm:i % (z::r).length<(z::r).length:=Nat.mod_lt _ (by simp);obtain⟨y,hy⟩:∃ y,(z::r)[i % (z::r).length]?=V y:=⟨_,ak hm⟩;obtain⟨_,p,_,hix,hpc⟩:=hz.at_ _ y hy;have P:=L (show jV (z::r) i=y by unfold jV; rw [if_neg (by simp),aH,hy]; rfl);have h0:((((z::r).length:Nat):Int) == 0)=false:=by simp; omega
  have hne:(((z::r).length:Nat):Int)≠0:=by simp; omega
  have ht:(i:Int) % ((z::r).length:Nat)=((i % (z::r).length:Nat):Int):=rfl;have ht2:(i:Int).tmod ((z::r).length:Nat)=((i % (z::r).length:Nat):Int):=by
   rw [Int.tmod_eq_emod_of_nonneg (by omega)]; rfl
  have hn0:0<(((z::r).length:Nat):Int):=by simp
  generalize (z::r).length=n at *;generalize i % n=m at *;clear hz hy hm;go_enter aV,aT;go_wp2;go_ret;exact⟨Wi.xU P.out.symm,rfl⟩
def odd (z:Int):Bool:=bits BinOp.and aB z 1 == 1
def valOf (n:Int):Bool×Int×ByteArray:=(!(X0 n),VP n,P6 n)
def rE (has vals:List Int):Nat->List A4
 | 0=>[]
 | i+1=>if i<has.length/\odd (has.getD i 0)=true/\(rE has vals i).length<5 then rE has vals i++[(nm i,valOf (jV vals i))] else rE has vals i
theorem aaZ:(Tryz.prog.info? 97).map (fun i=>(i.zero,i.size,i.bytes))=V (V (.agg #[aF ⟨#[]⟩,bg false,aJ aB 0,aF ⟨#[]⟩]),4,48):=by kernel_rfl
theorem acV:∃ i,Tryz.prog.info? 97=V i/\i.zero=V (.agg #[aF ⟨#[]⟩,bg false,aJ aB 0,aF ⟨#[]⟩])/\i.size=4/\i.bytes=48:=by
 have h:=aaZ;cases hi:Tryz.prog.info? 97 with
 | none=>rw [hi] at h; cases h
 | some i =>
  rw [hi] at h;simp only [Option.map_some,Option.some.injEq,Prod.mk.injEq] at h;exact⟨i,rfl,h.1,h.2.1,h.2.2⟩
theorem yM {W:aG} {nv:ay} {zs:List Int} (hz:jo W nv zs) (i:Nat):-9223372036854775808<=jV zs i/\jV zs i<=9223372036854775807:=by
 unfold jV
 split
 ·omega
 ·rename_i h
  have hm:i % zs.length<zs.length:=Nat.mod_lt _ (List.length_pos_iff.2 h);have:=(hz.at_ _ _ (ak hm)).1;rw [aH,ak hm];exact this
theorem KG (has vals:List Int):∀ k,(rE has vals k).length<=k
 | 0=>Nat.le_refl _
 | k+1=>by
  have h:=KG has vals k;simp only [rE]
  split
  ·simp; omega
  ·omega
theorem dB {W W':aG} {B k:Nat} {e:TypeId} {v:ay} {n:Nat} {xs:List ay} (h:W.ownsRow B e k v n xs) (hb:Below W.heap.size W W'):W'.ownsRow B e k v n xs:=by
 refine⟨h.1,?_⟩;rcases h.2 with h2|⟨g,cap,cur,h1,h2,h3,h4⟩
 ·exact Or.inl h2
 ·exact au ⟨g,cap,cur,h1,h2,by rw [hb.block _ (lt_of_heap h3)]; exact h3,h4⟩
theorem mH {W:aG} {B B' k:Nat} {e:TypeId} {v:ay} {n:Nat} {xs:List ay} (hB:B'<=B) (h:W.ownsRow B e k v n xs):W.ownsRow B' e k v n xs:=by
 refine⟨h.1,?_⟩;rcases h.2 with h2|⟨g,cap,cur,h1,h2,h3⟩
 ·exact Or.inl h2
 ·exact au ⟨g,cap,cur,h1,Nat.le_trans hB h2,h3⟩
theorem NI (w:aG) (x0 x1 x2 x3:ay) (t:TypeId):∀ j u,[x0,x1,x2,x3][j]?=V u->(w.alloc (.cells #[x0,x1,x2,x3] t)).cell? ((⟨w.heap.size,0,Y⟩:aM).add j)=V u:=by
 intro j u hj;have e:(⟨w.heap.size,0,Y⟩:aM).add j=⟨w.heap.size,j,Y⟩:=by unfold Addr.add; split <;> simp_all
 rw [e,aI _ _ _ _ rfl];simpa using hj
theorem NJ (hv vv:ay) (has vals:List Int) (w:aG) (hh:jo w hv has) (hw:jo w vv vals) (lh:has.length<=aS) (lv:vals.length<=aS) :
  bf aK 10 #[.agg #[hv,vv]] w fun e w'=>∃ v,e=.returned v/\w'.ownsRow w.heap.size 97 4 v (rE has vals 7).length (kY (rE has vals 7))/\Below w.heap.size w w':=by
 have HH:=L hh;have HW:=L hw;have LH:=L lh;have LV:=L lv;obtain⟨i0,hi,hz0,hz1,hz2⟩:=acV;clear hh hw lh lv;go_enter Tryz.func10,Tryz.ntmps10;go_wp2_with fail;refine (vZ _).mono ?_;rintro e1 w1 ⟨rfl,rfl⟩;go_wp2
 go_loopw [3,8] (fun lv i wr=>∃ k:Nat,k<=7/\i=aJ aB k/\wr.ownsRow (w.heap.size+2) 97 4 lv (rE has vals k).length (kY (rE has vals k)) /\
  Below (w.heap.size+2) ((w.alloc (.cells #[hv,vv] 27)).alloc (.cells nA 9)) wr) (fun _ i _=>7-(intOf i).toNat)
 case atStart=>exact⟨0,by omega,rfl,World.ownsRow_nil _ _ _ _,U _ _⟩
 case round =>
  obtain⟨k,hk,rfl,hown,hb⟩:=hrel;have HO:=L hown;have HB:=L hb;have T0:Below w.heap.size w ((w.alloc (.cells #[hv,vv] 27)).alloc (.cells nA 9)):=((U _ _).alloc (Nat.le_refl _) _).alloc (by simp) _;have BW:=L (T0.trans (hb.mono (by omega)));have hsz:w.heap.size+2<=wr.heap.size:=by have:=hb.size; simp at this; omega
  clear T0;obtain⟨ro,afF,hrl⟩:=(uL.Wp hown).len;have hl5:=KG has vals k;by_cases h7:k<7
  ·have n0:wr.cell? ⟨w.heap.size+1,k,Y⟩=V (aF (nm k)):=by
    rw [hb.cell (p:=⟨w.heap.size+1,k,Y⟩) (by simp),aI _ _ _ _ (by simp)]; exact QD k h7
   have b0:wr.cell? ⟨w.heap.size,0,Y⟩=V hv:=by
    rw [hb.cell (p:=⟨w.heap.size,0,Y⟩) (by simp),aN _ _ _ (by simp),aI _ _ _ _ rfl]; rfl
   have b1:wr.cell? ⟨w.heap.size,1,Y⟩=V vv:=by
    rw [hb.cell (p:=⟨w.heap.size,1,Y⟩) (by simp),aN _ _ _ (by simp),aI _ _ _ _ rfl]; rfl
   have IH:=L (HH.out.on BW.out);obtain⟨ao,afG,hsh⟩:=HH.out.shape;clear hb hown;subst hsh;subst hrl;have hkk:(k:Int)<7:=by omega
   by_cases h1:k<has.length
   ·obtain⟨y,hy⟩:∃ y,has[k]?=V y:=⟨_,ak h1⟩;have hg:has.getD k 0=y:=by rw [aH,hy]; rfl
    obtain⟨_,p,_,hix,hpc⟩:=IH.out.at_ k y hy;cases ho:odd y
    ·have T:=L (show rE has vals (k+1)=rE has vals k by simp only [rE]; rw [if_neg]; rintro⟨_,h2,_⟩; rw [hg,ho] at h2; cases h2);have hodd:(bits BinOp.and aB y 1 == 1)=false:=ho;clear ho hy hg;go_wp2
     go_roundw
     case rel=>exact⟨k+1,by omega,by go_num,by rw [T.out]; exact HO.out,HB.out⟩
     case measure=>simp [intOf]; omega
    ·have hodd:(bits BinOp.and aB y 1 == 1)=true:=ho;by_cases h5:(rE has vals k).length<5
     ·have T:=L (show rE has vals (k+1)=rE has vals k++[(nm k,valOf (jV vals k))] by simp only [rE]; rw [if_pos ⟨h1,by rw [hg,ho],h5⟩]);have PK:=L (fun (W:aG) (hW:Below w.heap.size w W)=>yL vv vals k W (HW.out.on hW) LV.out (by omega));have bd:=yM HW.out k;have KV:=L (fun W=>Jh (jV vals k) W bd.1 bd.2);clear ho hy hg bd;go_wp2_with fail;refine (PK.out _ BW.out).mono ?_;rintro e1 w1 ⟨rfl,rfl⟩;go_wp2_with fail;refine (KV.out _).mono ?_;rintro e2 w2 ⟨rfl,hb2⟩;have B2:=L hb2;have O2:=L (dB HO.out hb2);have hs2:=hb2.size;clear hb2;unfold valOf at T;generalize (!(X0 (jV vals k)))=t at T ⊢;generalize VP (jV vals k)=n at T ⊢;generalize P6 (jV vals k)=s at T ⊢;go_wp2_with (first | (at_builtin; refine wpList_append_own _ rfl _ _ 39 rfl (w.heap.size+2) 97 i0 _ 4 48 Tryz.underlying39 hi hz0 hz1 hz2 rfl (by decide) _ _ _ rfl (O2.out.alloc _) ⟨w2.heap.size,0,Y⟩ 1 1 (yH (nm k,t,n,s)) rfl rfl (NI _ _ _ _ _ _) (Cc [(nm k,t,n,s)]) (by unfold aS; omega) (by omega) (by simp; omega) ?_) | fail);intro v1 w3 hown3 hgrow3 _;have O3:=L hown3;have hbel:Below (w.heap.size+2) wr w3:=((B2.out.mono hsz).alloc (by omega) _).grown hgrow3 (by simp; omega) (fun j hj=>(O2.out.lt j hj).1);have B3:=L (HB.out.trans hbel);clear hown3 hgrow3 hbel;go_wp2
      go_roundw
      case rel=>exact⟨k+1,by omega,by go_num,by
       rw [T.out,uK];simpa [kY,yH] using O3.out,B3.out⟩
      case measure=>simp [intOf]; omega
     ·have T:=L (show rE has vals (k+1)=rE has vals k by simp only [rE]; rw [if_neg]; rintro⟨_,_,h2⟩; exact h5 h2);clear ho hy hg;go_wp2
      go_roundw
      case rel=>exact⟨k+1,by omega,by go_num,by rw [T.out]; exact HO.out,HB.out⟩
      case measure=>simp [intOf]; omega
   ·have T:=L (show rE has vals (k+1)=rE has vals k by simp only [rE]; rw [if_neg]; rintro⟨h2,_⟩; exact h1 h2);go_wp2
    go_roundw
    case rel=>exact⟨k+1,by omega,by go_num,by rw [T.out]; exact HO.out,HB.out⟩
    case measure=>simp [intOf]; omega
  ·obtain rfl:k=7:=by omega
   clear hb hown;go_wp2;go_ret;exact⟨_,rfl,mH (by omega) HO.out,BW.out⟩
end At
namespace At
open Go.RowKit Go.Sort Va In
def lN:List A4->List A4->Bool
 | [],[]=>true
 | x::l,y::m=>Eb x y && lN l m
 | _,_=>false
theorem Cr:∀ l m,lN l m=true->l.length=m.length
 | [],[],_=>rfl
 | x::l,y::m,h=>by
  simp only [lN,Bool.and_eq_true] at h;simp [Cr l m h.2]
 | [],y::m,h=>by simp [lN] at h
 | x::l,[],h=>by simp [lN] at h
theorem Ct:∀ l m,l.length=m.length->(∀ (k:Nat) (x y:A4),l[k]?=V x->m[k]?=V y->Eb x y=true)->lN l m=true
 | [],[],_,_=>rfl
 | x::l,y::m,hl,h=>by
  simp only [lN,Bool.and_eq_true];exact⟨h 0 x y rfl rfl,Ct l m (by simpa using hl) (fun k a b ha hb=>h (k+1) a b (by simpa using ha) (by simpa using hb))⟩
 | [],y::m,hl,_=>by simp at hl
 | x::l,[],hl,_=>by simp at hl
theorem Cu:∀ (l m:List A4) (k:Nat) (x y:A4),l[k]?=V x->m[k]?=V y->Eb x y=false->lN l m=false
 | [],_,k,x,y,h,_,_=>by simp at h
 | _::_,[],k,x,y,_,h,_=>by simp at h
 | a::l,b::m,0,x,y,h1,h2,h3=>by
  simp at h1 h2;subst h1 h2;simp [lN,h3]
 | a::l,b::m,k+1,x,y,h1,h2,h3=>by
  simp only [lN,Cu l m k x y (by simpa using h1) (by simpa using h2) h3,Bool.and_false]
theorem wC {W:aG} {lv:ay} {l:List A4} {ao:Option aM} {n c k:Nat} {x:A4} (h:uL W lv l) (hv:lv=O ao n c) (hn:l.length=n) (hk:l[k]?=V x) :
  ∃ p:aM,(∀ w,(Instr.indexAt 39 (O ao n c) (aJ aB k)).run aK w=.ok (J (V p)) w)/\∀ w,Below W.heap.size W w ->
   w.cell? p=V (aF x.1)/\w.cell? ⟨p.block,p.off+1,Y⟩=V (bg x.2.1)/\w.cell? ⟨p.block,p.off+2,Y⟩=V (aJ aB x.2.2.1)/\w.cell? ⟨p.block,p.off+3,Y⟩=V (aF x.2.2.2):=by
 have hlt:=(aA.1 hk).1;rcases h with⟨rfl,_⟩|⟨a,cap,h1,h2,h3,h4⟩
 ·simp at hk
 ·rw [hv] at h1;obtain⟨rfl,rfl,rfl⟩:ao=V a/\n=l.length/\c=cap:=by simpa using h1
  refine⟨a.add (k * 4),fun w=>Jp a k _ _ hlt w,fun w hb=>?_⟩;have hf:=F7 l k x hk;have e1:∀ j,j≠0->(⟨(a.add (k * 4)).block,(a.add (k * 4)).off+j,Y⟩:aM)=a.add (k * 4+j):=fun j hj=>by
   have h5:∀ b:aM,b.add j=⟨b.block,b.off+j,Y⟩:=fun b=>by unfold Addr.add; rw [if_neg hj]
   rw [<- add_add,h5]
  have g:∀ j u,(kY l)[j]?=V u->w.cell? (a.add j)=V u:=fun j u hj=>by
   have hc:=h4 j u hj;rw [hb.cell (World.block_lt_of_cell? W _ hc)]; exact hc
  rw [e1 1 (by decide),e1 2 (by decide),e1 3 (by decide)];exact⟨g _ _ hf.1,g _ _ hf.2.1,g _ _ hf.2.2.1,g _ _ hf.2.2.2⟩
theorem Cv (qZ bv:ay) (l m:List A4) (w:aG) (ha:uL w qZ l) (hb:uL w bv m) (hl:l.length<=1000000) (_hm:m.length<=1000000) :
  bf aK 39 #[qZ,bv] w fun e w'=>e=.returned (bg (lN l m))/\Below w.heap.size w w':=by
 have HA:=L ha;have HB:=L hb;obtain⟨ao,ac,rfl⟩:=ha.len;obtain⟨bo,bc,rfl⟩:=hb.len;clear ha hb;by_cases hlen:l.length=m.length
 ·have HL:=L hlen;rw [<- hlen] at HB ⊢;generalize hn:l.length=n at *;have HN:=L hn;clear hlen hn;go_enter aW,aU;go_wp2
  go_loopw [5] (fun i wr=>∃ k:Nat,k<=n/\i=aJ aB k/\Below w.heap.size w wr/\∀ (j:Nat) (x y:A4),j<k->l[j]?=V x->m[j]?=V y->Eb x y=true) (fun i _=>n-(intOf i).toNat)
  case atStart=>exact⟨0,Nat.zero_le _,rfl,U _ _,fun j x y h=>by omega⟩
  case round =>
   obtain⟨k,hk,rfl,hbe,hall⟩:=hrel;have BE:=L hbe;have AL:=L hall;clear hbe hall;by_cases hlt:k<n
   ·obtain⟨x,hx⟩:∃ x,l[k]?=V x:=⟨_,ak (by rw [HN.out]; exact hlt)⟩;obtain⟨y,hy⟩:∃ y,m[k]?=V y:=⟨_,ak (by rw [<- HL.out]; exact hlt)⟩;obtain⟨p,ix,px⟩:=wC HA.out rfl HN.out hx;obtain⟨q,iy,py⟩:=wC HB.out rfl HL.out.symm hy;have p0:=aD (px _ BE.out).1;have p1:=aD (px _ BE.out).2.1;have p2:=aD (px _ BE.out).2.2.1;have p3:=aD (px _ BE.out).2.2.2;have q0:=aD (py _ BE.out).1;have q1:=aD (py _ BE.out).2.1;have q2:=aD (py _ BE.out).2.2.1;have q3:=aD (py _ BE.out).2.2.2;clear px py;obtain⟨r,hr⟩:∃ r,Eb x y=r:=⟨_,rfl⟩;have hne:=afC x y r hr;have HX:=L hx;have HY:=L hy;have HR:=L hr;clear hx hy hr;cases r
    ·have R:=L (show lN l m=false from Cu l m k x y HX.out HY.out HR.out);go_wp2;refine wp_region_quiet_below (by kernel_rfl) (by kernel_rfl) ?_
     repeat (go_big_quiet_step (fail))
     refine wpQuiet_nil ?_;intro _ hw';obtain⟨⟨dq,osq⟩,hw''⟩:=hw';subst hw'';go_wp2;go_ret;exact⟨eD R.out.symm,BE.out.trans ((aR wr dq osq).mono BE.out.size)⟩
    ·go_wp2;refine wp_region_quiet_below (by kernel_rfl) (by kernel_rfl) ?_
     repeat (go_big_quiet_step (fail))
     refine wpQuiet_nil ?_;intro _ hw';obtain⟨⟨dq,osq⟩,hw''⟩:=hw';subst hw'';clear ix iy p0 p1 p2 p3 q0 q1 q2 q3 hne;go_wp2
     go_roundw
     case rel=>exact⟨k+1,by omega,by go_num,BE.out.trans ((aR wr dq osq).mono BE.out.size),fun j x' y' hj h1 h2=>by
      rcases Nat.lt_or_ge j k with h3|h3
      ·exact AL.out j x' y' h3 h1 h2
      ·obtain rfl:j=k:=by omega
       have e1:=HX.out;have e2:=HY.out;rw [h1] at e1;rw [h2] at e2;rw [Option.some.inj e1,Option.some.inj e2];exact HR.out⟩
     case measure=>simp [intOf]; omega
   ·obtain rfl:k=n:=by omega
    have R:=L (show lN l m=true from Ct l m (by rw [HN.out]; exact HL.out) (fun j a b h1 h2=>AL.out j a b (by have:=(aA.1 h1).1; have:=HN.out; omega) h1 h2));go_wp2;go_ret;exact⟨eD R.out.symm,BE.out⟩
 ·have R:=L (show lN l m=false by
   cases h:lN l m
   ·rfl
   ·exact absurd (Cr _ _ h) hlen)
  have hne:(((l.length:Nat):Int) != ((m.length:Nat):Int))=true:=by simp; omega
  have hne2:(((l.length:Nat):Int) == ((m.length:Nat):Int))=false:=by simp; omega
  clear hlen;go_enter aW,aU;go_wp2;go_ret;exact⟨eD R.out.symm,U _ _⟩
def aaC (c:UInt8):Bool:=decide (97<=c.toNat) && decide (c.toNat<=122)
def FV (s:ByteArray):Bool:=s.data.toList.all aaC && (decide (1<=s.size) && decide (s.size<=12))
end At
namespace Av
open Go.RowKit Go.Sort Rw YtkcfgbddlpomgaaGreat.Nm Pr Bk
def Wx (B:Nat) (b1:Nat) (_me:Int) (_z2 _z4 _z5:ay) (o1:Option aM) (n1 c1:Nat) (nl:List Int) (o3:Option aM) (n3 c3:Nat) (sl:List eO) (i:Nat) (v:ay) (x:aG):Prop :=
 match i with
 | 0=>v=J (V ⟨b1,1,Y⟩)
 | 1=>v=O o1 n1 c1
 | 2=>∃ s:Sl,v=dR s/\lU x B v nl
 | 3=>v=J (V ⟨b1,3,Y⟩)
 | 4=>v=O o3 n3 c3
 | 5=>∃ s:Sl,v=dR s/\qB x B v sl
 | 6=>v=J (V ⟨b1,1,Y⟩)
 | _=>True
noncomputable def acW:Code:=((Tryz.f50.body.bind (eG 1)).getD .skip)
theorem Wy (B:Nat) (b1:Nat) (me:Int) (z2 z4 z5:ay) (o1:Option aM) (n1 c1:Nat) (nl:List Int) (o3:Option aM) (n3 c3:Nat) (sl:List eO) (i:Nat) (v:ay) (x x':aG) (h:Wx B b1 me z2 z4 z5 o1 n1 c1 nl o3 n3 c3 sl i v x) (hb:Below x.heap.size x x'):Wx B b1 me z2 z4 z5 o1 n1 c1 nl o3 n3 c3 sl i v x':=by
 by_cases hi:i<7
 ·rcases (by omega:i=0\/i=1\/i=2\/i=3\/i=4\/i=5\/i=6) with rfl|rfl|rfl|rfl|rfl|rfl|rfl
  ·exact h
  ·exact h
  ·obtain⟨s,h1,h2⟩:=h; exact⟨s,h1,Bk.dB h2 hb⟩
  ·exact h
  ·exact h
  ·obtain⟨s,h1,h2⟩:=h; exact⟨s,h1,Bk.dB h2 hb⟩
  ·exact h
 ·unfold Wx
  split <;> first | omega | trivial
theorem cp1 (Q:Exit->Act->aG->Prop) (W:aG) (b1:Nat) (me:Int) (z2 z4 z5:ay) (o1:Option aM) (n1 c1:Nat) (nl:List Int) (o3:Option aM) (n3 c3:Nat) (sl:List eO) (u0 u2 u3 u4 u5 u6 u7 u8 u9 u10 u11 u12 u13 u14 u15 u16 u17 u18 u19 u20 u21 u22 u23 u24 u25 u26 u27 u28 u29 u30 u31 u32 u33 u34 u35 u36 u37 u38 u39 u40 u41 u42 u43 u44 u45 u46 u47 u48 u49 u50 u51 u52 u53 u54 u55 u56 u57 u58 u59 u60 u61 u62 u63 u64 u65 u66 u67 u68 u69 u70 u71 u72 u73 u74 u75 u76 u77 u78 u79 u80 u81:ay)
  (h1:dJ W b1 #[aJ aB me,O o1 n1 c1,z2,O o3 n3 c3,z4,z5] 33) (r1:q8 W (O o1 n1 c1) nl) (r3:vV W (O o3 n3 c3) sl) (l1:nl.length<=900) (l3:sl.length<=900)
  (hQ:∀ (x:aG) (v6 v7 v8 v9 v10 v11 v12 v13:ay) (p1:Option aM) (q1 s1:Nat) (p3:Option aM) (q3 s3:Nat),dJ x b1 #[aJ aB me,O p1 q1 s1,z2,O p3 q3 s3,z4,z5] 33->lU x W.heap.size (O p1 q1 s1) nl->qB x W.heap.size (O p3 q3 s3) sl->(∀ B,B<=b1->Below B W x)->(∀ k,k<W.heap.size->k≠b1->x.heap[k]?=W.heap[k]?)->Q .normal ⟨(u0::J (V ⟨b1,0,Y⟩)::u2::u3::u4::u5::v6::v7::v8::v9::v10::v11::v12::v13::u14::u15::u16::u17::u18::u19::u20::u21::u22::u23::u24::u25::u26::u27::u28::u29::u30::u31::u32::u33::u34::u35::u36::u37::u38::u39::u40::u41::u42::u43::u44::u45::u46::u47::u48::u49::u50::u51::u52::u53::u54::u55::u56::u57::u58::u59::u60::u61::u62::u63::u64::u65::u66::u67::u68::u69::u70::u71::u72::u73::u74::u75::u76::u77::u78::u79::u80::u81::[]).toArray,[]⟩ x) :
  Code.wp aK acW Q ⟨(u0::J (V ⟨b1,0,Y⟩)::u2::u3::u4::u5::u6::u7::u8::u9::u10::u11::u12::u13::u14::u15::u16::u17::u18::u19::u20::u21::u22::u23::u24::u25::u26::u27::u28::u29::u30::u31::u32::u33::u34::u35::u36::u37::u38::u39::u40::u41::u42::u43::u44::u45::u46::u47::u48::u49::u50::u51::u52::u53::u54::u55::u56::u57::u58::u59::u60::u61::u62::u63::u64::u65::u66::u67::u68::u69::u70::u71::u72::u73::u74::u75::u76::u77::u78::u79::u80::u81::[]).toArray,[]⟩ W:=by
 have HQ:=L hQ;have H1:=L h1;have R1:=L r1;have R3:=L r3;have L1:=L l1;have L3:=L l3;clear hQ h1 r1 r3 l1 l3;have iN:=Wy W.heap.size b1 me z2 z4 z5 o1 n1 c1 nl o3 n3 c3 sl;unfold acW
 conv=>arg 2; whnf
 have nd:∀ j,(j<6\/13<=j)->∀ i,i<7->(fun i=>6+i) i≠j:=by
  intro j hj i hi h;simp only at h;omega
 refine bG 10 7 (fun i=>6+i) (fun _=>7) (Wx W.heap.size b1 me z2 z4 z5 o1 n1 c1 nl o3 n3 c3 sl) (by kernel_rfl) (by kernel_rfl) rfl (by decide) (fun i j _ _ h=>by have h2:6+i=6+j:=h; omega) (fun i hi=>by show 6+i<82; omega) ?_ (fun _=>bH 14 (by kernel_rfl)) ?_ ?_
 ·intro i o hi ho a x D hnd hc hD hb seen K hK;clear HQ;rcases (by omega:i=0\/i=1\/i=2\/i=3\/i=4\/i=5\/i=6) with rfl|rfl|rfl|rfl|rfl|rfl|rfl
  ·cases ho;have e1:a.eval (aj 1)=J (V ⟨b1,0,Y⟩):=seen.kp 1 _ (nd 1 (by omega)) rfl;exact aC rfl rfl (aO a.eval _ 33 (aj 1) 1 rfl (by rw [e1]; simp [go_sem])) (hK _ _ rfl (U _ _) fun _ _ _ _ _ _ _ h=>h)
  ·cases ho;have e6:a.eval (aj 6)=J (V ⟨b1,1,Y⟩):=seen.at_ ⟨0,.data⟩ (by simp) rfl (au (by decide));have y1:=(H1.out.on hb).cell 1;simp only [X,Z,ah] at y1;exact aC rfl rfl (aQ a.eval _ 25 (aj 6) rfl (by rw [e6]; simp [go_sem,y1])) (hK _ _ rfl (U _ _) fun _ _ _ _ _ _ _ h=>h)
  ·cases ho;have e7:a.eval (aj 7)=O o1 n1 c1:=seen.at_ ⟨1,.data⟩ (by simp) rfl (au (by decide));exact bn rfl rfl (Rw.iK a.eval _ (aj 7) 25 74 rfl e7 rfl _ (gu Tryz.func74 rfl rfl _ _)) (yP (o1,n1,c1) nl x (R1.out.on hb) L1.out) fun e w1 h=>by
    obtain⟨⟨s,rfl,h1⟩,h3⟩:=h;exact⟨_,rfl,hK _ _ ⟨s,rfl,dG h1 hb.size⟩ (h3.mono hb.size) fun j u hj _ _ _ hne h=>iN j u _ _ h h3⟩
  ·cases ho;have e1:a.eval (aj 1)=J (V ⟨b1,0,Y⟩):=seen.kp 1 _ (nd 1 (by omega)) rfl;exact aC rfl rfl (aO a.eval _ 33 (aj 1) 3 rfl (by rw [e1]; simp [go_sem])) (hK _ _ rfl (U _ _) fun _ _ _ _ _ _ _ h=>h)
  ·cases ho;have e9:a.eval (aj 9)=J (V ⟨b1,3,Y⟩):=seen.at_ ⟨3,.data⟩ (by simp) rfl (au (by decide));have y3:=(H1.out.on hb).cell 3;simp only [X,Z,ah] at y3;exact aC rfl rfl (aQ a.eval _ 29 (aj 9) rfl (by rw [e9]; simp [go_sem,y3])) (hK _ _ rfl (U _ _) fun _ _ _ _ _ _ _ h=>h)
  ·cases ho;have e10:a.eval (aj 10)=O o3 n3 c3:=seen.at_ ⟨4,.data⟩ (by simp) rfl (au (by decide));exact bn rfl rfl (Rw.iK a.eval _ (aj 10) 29 84 rfl e10 rfl _ (gu Tryz.func84 rfl rfl _ _)) (Ju (o3,n3,c3) sl x (R3.out.on hb) L3.out) fun e w1 h=>by
    obtain⟨⟨s,rfl,h1⟩,h3⟩:=h;exact⟨_,rfl,hK _ _ ⟨s,rfl,dG h1 hb.size⟩ (h3.mono hb.size) fun j u hj _ _ _ hne h=>iN j u _ _ h h3⟩
  ·cases ho;have e1:a.eval (aj 1)=J (V ⟨b1,0,Y⟩):=seen.kp 1 _ (nd 1 (by omega)) rfl;exact aC rfl rfl (aO a.eval _ 33 (aj 1) 1 rfl (by rw [e1]; simp [go_sem])) (hK _ _ rfl (U _ _) fun _ _ _ _ _ _ _ h=>h)
 ·intro kk o h1 h2 ho;rcases (by omega:kk=8\/kk=9) with rfl|rfl
  ·cases ho;exact⟨⟨7,.phase⟩,by simp,rfl,rfl⟩
  ·cases ho;exact⟨⟨8,.data⟩,by simp,rfl,rfl⟩
 ·intro a w' df sz kp ⟨vs,hv⟩ hb;have sz':a.tmps.size=82:=sz;have g1:a.tmps[1]?=V (J (V ⟨b1,0,Y⟩)):=(kp 1 (nd 1 (by omega))).trans rfl;have g12:a.tmps[12]?=V (J (V ⟨b1,1,Y⟩)):=by
   have h:vs 6=J (V ⟨b1,1,Y⟩):=(hv 6 (by omega)).2 (by decide);rw [<- h];exact (hv 6 (by omega)).1
  obtain⟨⟨p1,q1,s1⟩,hs1,ho1⟩:=(hv 2 (by omega)).2 (by decide);have g8:a.tmps[8]?=V (O p1 q1 s1):=((hv 2 (by omega)).1).trans (congrArg V hs1);rw [hs1] at ho1;obtain⟨⟨p3,q3,s3⟩,hs3,ho3⟩:=(hv 5 (by omega)).2 (by decide);have g11:a.tmps[11]?=V (O p3 q3 s3):=((hv 5 (by omega)).1).trans (congrArg V hs3);rw [hs3] at ho3;have hB:=H1.out.on hb;have hlt:=H1.out.lt;show aX _ _ _ 3 7 a w';simp only [aX];have c1x:=hB.cell 1;have f1x:=hB.fr 1;simp only [X,Z,ah] at c1x;refine bD 25 (aj 12) (aj 8) rfl rfl rfl rfl (aP g12) (aP g8) (w':=(w').setCell ⟨b1,1,Y⟩ (O p1 q1 s1)) (by simp [go_sem,c1x,f1x]) ?_;have hB1:dJ ((w').setCell ⟨b1,1,Y⟩ (O p1 q1 s1)) b1 #[aJ aB me,O p1 q1 s1,z2,O o3 n3 c3,z4,z5] 33:=by simpa using dN (k:=1) hB (O p1 q1 s1)
  refine aC rfl rfl (aO _ _ 33 (aj 1) 3 rfl (v:=J (V ⟨b1,3,Y⟩)) (by rw [aP g1]; simp [go_sem])) ?_;have afM:((a).put (V 13) (J (V ⟨b1,3,Y⟩))).tmps[13]?=V (J (V ⟨b1,3,Y⟩)):=by simp [Act.put,sz']
  show Go.wpOp _ _ _ 9 _ ((a).put (V 13) (J (V ⟨b1,3,Y⟩))) _;have c3x:=hB1.cell 3;have f3x:=hB1.fr 3;simp only [X,Z,ah] at c3x;refine bD 29 (aj 13) (aj 11) rfl rfl rfl rfl (aP afM) (aP ((aZ _ 13 _ 11 (by decide)).trans g11)) (w':=((w').setCell ⟨b1,1,Y⟩ (O p1 q1 s1)).setCell ⟨b1,3,Y⟩ (O p3 q3 s3)) (by simp [go_sem,c3x,f3x]) ?_;have hB3:dJ (((w').setCell ⟨b1,1,Y⟩ (O p1 q1 s1)).setCell ⟨b1,3,Y⟩ (O p3 q3 s3)) b1 #[aJ aB me,O p1 q1 s1,z2,O p3 q3 s3,z4,z5] 33:=by simpa using dN (k:=3) hB1 (O p3 q3 s3)
  have qU:∀ j,(j<6\/14<=j)->((a).put (V 13) (J (V ⟨b1,3,Y⟩))).tmps[j]?=(u0::J (V ⟨b1,0,Y⟩)::u2::u3::u4::u5::u6::u7::u8::u9::u10::u11::u12::u13::u14::u15::u16::u17::u18::u19::u20::u21::u22::u23::u24::u25::u26::u27::u28::u29::u30::u31::u32::u33::u34::u35::u36::u37::u38::u39::u40::u41::u42::u43::u44::u45::u46::u47::u48::u49::u50::u51::u52::u53::u54::u55::u56::u57::u58::u59::u60::u61::u62::u63::u64::u65::u66::u67::u68::u69::u70::u71::u72::u73::u74::u75::u76::u77::u78::u79::u80::u81::[])[j]?:=fun j hj=>(aZ _ 13 _ j (by omega)).trans ((kp j (nd j (by omega))).trans X);obtain⟨mid,hmid,hfr⟩:=bI (a:=(a).put (V 13) (J (V ⟨b1,3,Y⟩))) 6 8 df (by simp [Rg.size_put,sz']) (by simp) qU;show Q .normal ((a).put (V 13) (J (V ⟨b1,3,Y⟩))) _;rw [hfr]
  match mid,hmid with
  | [v6,v7,v8,v9,v10,v11,v12,v13],_ =>
   exact HQ.out _ _ _ _ _ _ _ _ _ p1 q1 s1 p3 q3 s3 hB3 (dM (dM ho1 b1 1 (O p1 q1 s1) hlt) b1 3 (O p3 q3 s3) hlt) (dM (dM ho3 b1 1 (O p1 q1 s1) hlt) b1 3 (O p3 q3 s3) hlt) (fun B hBl=>(((hb.mono (Nat.le_of_lt (Nat.lt_of_le_of_lt hBl hlt))).setCell (p:=⟨b1,1,Y⟩) hBl (O p1 q1 s1)).setCell (p:=⟨b1,3,Y⟩) hBl (O p3 q3 s3))) (fun k hk hne=>((aL ((w').setCell ⟨b1,1,Y⟩ (O p1 q1 s1)) ⟨b1,3,Y⟩ (O p3 q3 s3) k hne).trans ((aL (w') ⟨b1,1,Y⟩ (O p1 q1 s1) k hne).trans (hb.block k hk))))
def KJ (B:Nat) (b1:Nat) (_me:Int) (_z1 _z2 _z3 _z5:ay) (g n cap k:Nat) (_y1 _y2 _y3 _y4:Int) (yo:Option aM) (yn yc:Nat) (_y6:Int) (_y7:Bool) (p:List C5) (i:Nat) (v:ay) (x:aG):Prop :=
 match i with
 | 0=>v=J (V ⟨b1,4,Y⟩)
 | 1=>v=O (V ⟨g,0,Y⟩) n cap
 | 2=>v=aJ aB (k:Int)
 | 3=>v=J (V ⟨b1,4,Y⟩)
 | 4=>v=O (V ⟨g,0,Y⟩) n cap
 | 5=>v=aJ aB (k:Int)
 | 6=>v=J (V ⟨g,k * 7,Y⟩)
 | 7=>v=J (V ⟨g,k * 7+4,Y⟩)
 | 8=>v=O yo yn yc
 | 9=>∃ s:Sl,v=dR s/\jP x B v p
 | 10=>v=J (V ⟨g,k * 7,Y⟩)
 | 11=>v=J (V ⟨g,k * 7+4,Y⟩)
 | _=>True
noncomputable def Yb:Code:=((Tryz.f50.body.bind (eG 11)).getD .skip)
theorem QW (B:Nat) (b1:Nat) (me:Int) (z1 z2 z3 z5:ay) (g n cap k:Nat) (y1 y2 y3 y4:Int) (yo:Option aM) (yn yc:Nat) (y6:Int) (y7:Bool) (p:List C5) (i:Nat) (v:ay) (x x':aG) (h:KJ B b1 me z1 z2 z3 z5 g n cap k y1 y2 y3 y4 yo yn yc y6 y7 p i v x) (hb:Below x.heap.size x x'):KJ B b1 me z1 z2 z3 z5 g n cap k y1 y2 y3 y4 yo yn yc y6 y7 p i v x':=by
 by_cases hi:i<12
 ·rcases (by omega:i=0\/i=1\/i=2\/i=3\/i=4\/i=5\/i=6\/i=7\/i=8\/i=9\/i=10\/i=11) with rfl|rfl|rfl|rfl|rfl|rfl|rfl|rfl|rfl|rfl|rfl|rfl
  ·exact h
  ·exact h
  ·exact h
  ·exact h
  ·exact h
  ·exact h
  ·exact h
  ·exact h
  ·exact h
  ·obtain⟨s,h1,h2⟩:=h; exact⟨s,h1,Bk.dB h2 hb⟩
  ·exact h
  ·exact h
 ·unfold KJ
  split <;> first | omega | trivial
theorem afN (Q:Exit->Act->aG->Prop) (W:aG) (B0:Nat) (l:List iA) (b1:Nat) (me:Int) (z1 z2 z3 z5:ay) (g n cap k:Nat) (y1 y2 y3 y4:Int) (yo:Option aM) (yn yc:Nat) (y6:Int) (y7:Bool) (p:List C5) (u0 u2 u3 u5 u6 u7 u8 u9 u10 u11 u12 u13 u14 u15 u16 u17 u18 u19 u20 u21 u22 u23 u24 u25 u26 u27 u28 u29 u30 u31 u32 u33 u34 u35 u36 u37 u38 u39 u40 u41 u42 u43 u44 u45 u46 u47 u48 u49 u50 u51 u52 u53 u54 u55 u56 u57 u58 u59 u60 u61 u62 u63 u64 u65 u66 u67 u68 u69 u70 u71 u72 u73 u74 u75 u76 u77 u78 u79 u80 u81:ay)
  (h1:dJ W b1 #[aJ aB me,z1,z2,z3,O (V ⟨g,0,Y⟩) n cap,z5] 33) (ho:jg W B0 (O (V ⟨g,0,Y⟩) n cap) l) (hy:l[k]?=V (y1,y2,y3,y4,(yo,yn,yc),y6,y7)) (hp:fK W (O yo yn yc) p) (lp:p.length<=900)
  (hQ:∀ (x:aG) (v49 v50 v51 v52 v53 v54 v55 v56 v57 v58 v59 v60:ay) (s1:Option aM) (s2 s3:Nat),jP x W.heap.size (O s1 s2 s3) p->jg x B0 (O (V ⟨g,0,Y⟩) n cap) (l.set k (y1,y2,y3,y4,(s1,s2,s3),y6,y7))->But g W x->(∀ B1,B1<=g->B1<=W.heap.size->Below B1 W x)->Q .normal ⟨(u0::J (V ⟨b1,0,Y⟩)::u2::u3::aJ aB (k:Int)::u5::u6::u7::u8::u9::u10::u11::u12::u13::u14::u15::u16::u17::u18::u19::u20::u21::u22::u23::u24::u25::u26::u27::u28::u29::u30::u31::u32::u33::u34::u35::u36::u37::u38::u39::u40::u41::u42::u43::u44::u45::u46::u47::u48::v49::v50::v51::v52::v53::v54::v55::v56::v57::v58::v59::v60::u61::u62::u63::u64::u65::u66::u67::u68::u69::u70::u71::u72::u73::u74::u75::u76::u77::u78::u79::u80::u81::[]).toArray,[]⟩ x) :
  Code.wp aK Yb Q ⟨(u0::J (V ⟨b1,0,Y⟩)::u2::u3::aJ aB (k:Int)::u5::u6::u7::u8::u9::u10::u11::u12::u13::u14::u15::u16::u17::u18::u19::u20::u21::u22::u23::u24::u25::u26::u27::u28::u29::u30::u31::u32::u33::u34::u35::u36::u37::u38::u39::u40::u41::u42::u43::u44::u45::u46::u47::u48::u49::u50::u51::u52::u53::u54::u55::u56::u57::u58::u59::u60::u61::u62::u63::u64::u65::u66::u67::u68::u69::u70::u71::u72::u73::u74::u75::u76::u77::u78::u79::u80::u81::[]).toArray,[]⟩ W:=by
 have HQ:=L hQ;have H1:=L h1;have HO:=L ho;have HY:=L hy;have HP:=L hp;have LP:=L lp;have IX:=L (nI mY g k n cap (by obtain⟨_,_,hv⟩:=(Row.dx ho).len; have h:=(aA.1 hy).1; simp at hv; omega));have EL:=L (jW mY ho hy);clear hQ h1 ho hy hp lp;have iN:=QW W.heap.size b1 me z1 z2 z3 z5 g n cap k y1 y2 y3 y4 yo yn yc y6 y7 p;unfold Yb
 conv=>arg 2; whnf
 have nd:∀ j,(j<49\/61<=j)->∀ i,i<12->(fun i=>49+i) i≠j:=by
  intro j hj i hi h;simp only at h;omega
 refine bG 13 12 (fun i=>49+i) (fun _=>12) (KJ W.heap.size b1 me z1 z2 z3 z5 g n cap k y1 y2 y3 y4 yo yn yc y6 y7 p) (by kernel_rfl) (by kernel_rfl) rfl (by decide) (fun i j _ _ h=>by have h2:49+i=49+j:=h; omega) (fun i hi=>by show 49+i<82; omega) ?_ (fun _=>bH 14 (by kernel_rfl)) ?_ ?_
 ·intro i o hi ho a x D hnd hc hD hb seen K hK;clear HQ;rcases (by omega:i=0\/i=1\/i=2\/i=3\/i=4\/i=5\/i=6\/i=7\/i=8\/i=9\/i=10\/i=11) with rfl|rfl|rfl|rfl|rfl|rfl|rfl|rfl|rfl|rfl|rfl|rfl
  ·cases ho;have e1:a.eval (aj 1)=J (V ⟨b1,0,Y⟩):=seen.kp 1 _ (nd 1 (by omega)) rfl;exact aC rfl rfl (aO a.eval _ 33 (aj 1) 4 rfl (by rw [e1]; simp [go_sem])) (hK _ _ rfl (U _ _) fun _ _ _ _ _ _ _ h=>h)
  ·cases ho;have e49:a.eval (aj 49)=J (V ⟨b1,4,Y⟩):=seen.at_ ⟨0,.data⟩ (by simp) rfl (au (by decide));have y4:=(H1.out.on hb).cell 4;simp only [X,Z,ah] at y4;exact aC rfl rfl (aQ a.eval _ 30 (aj 49) rfl (by rw [e49]; simp [go_sem,y4])) (hK _ _ rfl (U _ _) fun _ _ _ _ _ _ _ h=>h)
  ·cases ho;have e4:a.eval (aj 4)=aJ aB (k:Int):=seen.kp 4 _ (nd 4 (by omega)) rfl;exact aC rfl rfl (bE a.eval _ (aj 4) rfl x) (hK _ _ e4 (U _ _) fun _ _ _ _ _ _ _ h=>h)
  ·cases ho;have e1:a.eval (aj 1)=J (V ⟨b1,0,Y⟩):=seen.kp 1 _ (nd 1 (by omega)) rfl;exact aC rfl rfl (aO a.eval _ 33 (aj 1) 4 rfl (by rw [e1]; simp [go_sem])) (hK _ _ rfl (U _ _) fun _ _ _ _ _ _ _ h=>h)
  ·cases ho;have e52:a.eval (aj 52)=J (V ⟨b1,4,Y⟩):=seen.at_ ⟨3,.data⟩ (by simp) rfl (au (by decide));have y4:=(H1.out.on hb).cell 4;simp only [X,Z,ah] at y4;exact aC rfl rfl (aQ a.eval _ 30 (aj 52) rfl (by rw [e52]; simp [go_sem,y4])) (hK _ _ rfl (U _ _) fun _ _ _ _ _ _ _ h=>h)
  ·cases ho;have e4:a.eval (aj 4)=aJ aB (k:Int):=seen.kp 4 _ (nd 4 (by omega)) rfl;exact aC rfl rfl (bE a.eval _ (aj 4) rfl x) (hK _ _ e4 (U _ _) fun _ _ _ _ _ _ _ h=>h)
  ·cases ho;have e53:a.eval (aj 53)=O (V ⟨g,0,Y⟩) n cap:=seen.at_ ⟨4,.data⟩ (by simp) rfl (au (by decide));have e54:a.eval (aj 54)=aJ aB (k:Int):=seen.at_ ⟨5,.data⟩ (by simp) rfl (au (by decide));exact aC rfl rfl (bF a.eval _ 30 (aj 53) (aj 54) rfl (by rw [e53,e54]; exact IX.out x)) (hK _ _ rfl (U _ _) fun _ _ _ _ _ _ _ h=>h)
  ·cases ho;have e55:a.eval (aj 55)=J (V ⟨g,k * 7,Y⟩):=seen.at_ ⟨6,.data⟩ (by simp) rfl (au (by decide));exact aC rfl rfl (aO a.eval _ 68 (aj 55) 2 rfl (by rw [e55]; simp [go_sem])) (hK _ _ rfl (U _ _) fun _ _ _ _ _ _ _ h=>h)
  ·cases ho;have e56:a.eval (aj 56)=J (V ⟨g,k * 7+4,Y⟩):=seen.at_ ⟨7,.data⟩ (by simp) rfl (au (by decide));have y:=EL.out x hb 4 _ rfl;simp [Addr.add,EN] at y;exact aC rfl rfl (aQ a.eval _ 41 (aj 56) rfl (by rw [e56]; simp [go_sem,y])) (hK _ _ rfl (U _ _) fun _ _ _ _ _ _ _ h=>h)
  ·cases ho;have e57:a.eval (aj 57)=O yo yn yc:=seen.at_ ⟨8,.data⟩ (by simp) rfl (au (by decide));exact bn rfl rfl (Rw.iK a.eval _ (aj 57) 41 66 rfl e57 rfl _ (gu aY rfl rfl _ _)) (qC (yo,yn,yc) p x (HP.out.on hb) LP.out) fun e w1 h=>by
    obtain⟨⟨s,rfl,h1⟩,h3⟩:=h;exact⟨_,rfl,hK _ _ ⟨s,rfl,dG h1 hb.size⟩ (h3.mono hb.size) fun j u hj _ _ _ hne h=>iN j u _ _ h h3⟩
  ·cases ho;have e50:a.eval (aj 50)=O (V ⟨g,0,Y⟩) n cap:=seen.at_ ⟨1,.data⟩ (by simp) rfl (au (by decide));have e51:a.eval (aj 51)=aJ aB (k:Int):=seen.at_ ⟨2,.data⟩ (by simp) rfl (au (by decide));exact aC rfl rfl (bF a.eval _ 30 (aj 50) (aj 51) rfl (by rw [e50,e51]; exact IX.out x)) (hK _ _ rfl (U _ _) fun _ _ _ _ _ _ _ h=>h)
  ·cases ho;have e59:a.eval (aj 59)=J (V ⟨g,k * 7,Y⟩):=seen.at_ ⟨10,.data⟩ (by simp) rfl (au (by decide));exact aC rfl rfl (aO a.eval _ 68 (aj 59) 2 rfl (by rw [e59]; simp [go_sem])) (hK _ _ rfl (U _ _) fun _ _ _ _ _ _ _ h=>h)
 ·intro kk o h1 h2 ho;omega
 ·intro a w' df sz kp ⟨vs,hv⟩ hb;have sz':a.tmps.size=82:=sz;have g60:a.tmps[60]?=V (J (V ⟨g,k * 7+4,Y⟩)):=by
   have h:vs 11=J (V ⟨g,k * 7+4,Y⟩):=(hv 11 (by omega)).2 (by decide);rw [<- h];exact (hv 11 (by omega)).1
  obtain⟨⟨s1,s2,s3⟩,hs,hc⟩:=(hv 9 (by omega)).2 (by decide);have g58:a.tmps[58]?=V (O s1 s2 s3):=((hv 9 (by omega)).1).trans (congrArg V hs);rw [hs] at hc;obtain⟨w2,hr,st1,st2,st3⟩:=aaU (k:=k) s1 s2 s3 (Bk.dB HO.out hb) HY.out;obtain⟨cur,hg⟩:=jS (Bk.dB HO.out hb);show aX _ _ _ 1 12 a w';simp only [aX];refine bD 41 (aj 60) (aj 58) rfl rfl rfl rfl (aP g60) (aP g58) (w':=w2) hr ?_;have qU:∀ j,(j<49\/61<=j)->(a).tmps[j]?=(u0::J (V ⟨b1,0,Y⟩)::u2::u3::aJ aB (k:Int)::u5::u6::u7::u8::u9::u10::u11::u12::u13::u14::u15::u16::u17::u18::u19::u20::u21::u22::u23::u24::u25::u26::u27::u28::u29::u30::u31::u32::u33::u34::u35::u36::u37::u38::u39::u40::u41::u42::u43::u44::u45::u46::u47::u48::u49::u50::u51::u52::u53::u54::u55::u56::u57::u58::u59::u60::u61::u62::u63::u64::u65::u66::u67::u68::u69::u70::u71::u72::u73::u74::u75::u76::u77::u78::u79::u80::u81::[])[j]?:=fun j hj=>(kp j (nd j (by omega))).trans X;obtain⟨mid,hmid,hfr⟩:=bI (a:=a) 49 12 df (by simp [sz']) (by simp) qU;show Q .normal (a) _;rw [hfr]
  match mid,hmid with
  | [v49,v50,v51,v52,v53,v54,v55,v56,v57,v58,v59,v60],_ =>
   exact HQ.out _ _ _ _ _ _ _ _ _ _ _ _ _ s1 s2 s3 (st2.own hc hg (by decide)) st1 ((But.of_below hb).trans st2) fun B1 hB hl=>st3 B1 W hB (hb.mono hl)
def KO (B:Nat) (b1:Nat) (_me:Int) (_z1 _z2 _z3 _z4:ay) (g n cap k:Nat) (_y1 _y2:Int) (yo:Option aM) (yn yc:Nat) (p:List C5) (i:Nat) (v:ay) (x:aG):Prop :=
 match i with
 | 0=>v=J (V ⟨b1,5,Y⟩)
 | 1=>v=O (V ⟨g,0,Y⟩) n cap
 | 2=>v=aJ aB (k:Int)
 | 3=>v=J (V ⟨b1,5,Y⟩)
 | 4=>v=O (V ⟨g,0,Y⟩) n cap
 | 5=>v=aJ aB (k:Int)
 | 6=>v=J (V ⟨g,k * 3,Y⟩)
 | 7=>v=J (V ⟨g,k * 3+2,Y⟩)
 | 8=>v=O yo yn yc
 | 9=>∃ s:Sl,v=dR s/\jP x B v p
 | 10=>v=J (V ⟨g,k * 3,Y⟩)
 | 11=>v=J (V ⟨g,k * 3+2,Y⟩)
 | _=>True
noncomputable def Yc:Code:=((Tryz.f50.body.bind (eG 16)).getD .skip)
theorem QY (B:Nat) (b1:Nat) (me:Int) (z1 z2 z3 z4:ay) (g n cap k:Nat) (y1 y2:Int) (yo:Option aM) (yn yc:Nat) (p:List C5) (i:Nat) (v:ay) (x x':aG) (h:KO B b1 me z1 z2 z3 z4 g n cap k y1 y2 yo yn yc p i v x) (hb:Below x.heap.size x x'):KO B b1 me z1 z2 z3 z4 g n cap k y1 y2 yo yn yc p i v x':=by
 by_cases hi:i<12
 ·rcases (by omega:i=0\/i=1\/i=2\/i=3\/i=4\/i=5\/i=6\/i=7\/i=8\/i=9\/i=10\/i=11) with rfl|rfl|rfl|rfl|rfl|rfl|rfl|rfl|rfl|rfl|rfl|rfl
  ·exact h
  ·exact h
  ·exact h
  ·exact h
  ·exact h
  ·exact h
  ·exact h
  ·exact h
  ·exact h
  ·obtain⟨s,h1,h2⟩:=h; exact⟨s,h1,Bk.dB h2 hb⟩
  ·exact h
  ·exact h
 ·unfold KO
  split <;> first | omega | trivial
theorem afO (Q:Exit->Act->aG->Prop) (W:aG) (B0:Nat) (l:List qM) (b1:Nat) (me:Int) (z1 z2 z3 z4:ay) (g n cap k:Nat) (y1 y2:Int) (yo:Option aM) (yn yc:Nat) (p:List C5) (u0 u2 u3 u4 u6 u7 u8 u9 u10 u11 u12 u13 u14 u15 u16 u17 u18 u19 u20 u21 u22 u23 u24 u25 u26 u27 u28 u29 u30 u31 u32 u33 u34 u35 u36 u37 u38 u39 u40 u41 u42 u43 u44 u45 u46 u47 u48 u49 u50 u51 u52 u53 u54 u55 u56 u57 u58 u59 u60 u61 u62 u63 u64 u65 u66 u67 u68 u69 u70 u71 u72 u73 u74 u75 u76 u77 u78 u79 u80 u81:ay)
  (h1:dJ W b1 #[aJ aB me,z1,z2,z3,z4,O (V ⟨g,0,Y⟩) n cap] 33) (ho:oN W B0 (O (V ⟨g,0,Y⟩) n cap) l) (hy:l[k]?=V (y1,y2,(yo,yn,yc))) (hp:fK W (O yo yn yc) p) (lp:p.length<=900)
  (hQ:∀ (x:aG) (v68 v69 v70 v71 v72 v73 v74 v75 v76 v77 v78 v79:ay) (s1:Option aM) (s2 s3:Nat),jP x W.heap.size (O s1 s2 s3) p->oN x B0 (O (V ⟨g,0,Y⟩) n cap) (l.set k (y1,y2,(s1,s2,s3)))->But g W x->(∀ B1,B1<=g->B1<=W.heap.size->Below B1 W x)->Q .normal ⟨(u0::J (V ⟨b1,0,Y⟩)::u2::u3::u4::aJ aB (k:Int)::u6::u7::u8::u9::u10::u11::u12::u13::u14::u15::u16::u17::u18::u19::u20::u21::u22::u23::u24::u25::u26::u27::u28::u29::u30::u31::u32::u33::u34::u35::u36::u37::u38::u39::u40::u41::u42::u43::u44::u45::u46::u47::u48::u49::u50::u51::u52::u53::u54::u55::u56::u57::u58::u59::u60::u61::u62::u63::u64::u65::u66::u67::v68::v69::v70::v71::v72::v73::v74::v75::v76::v77::v78::v79::u80::u81::[]).toArray,[]⟩ x) :
  Code.wp aK Yc Q ⟨(u0::J (V ⟨b1,0,Y⟩)::u2::u3::u4::aJ aB (k:Int)::u6::u7::u8::u9::u10::u11::u12::u13::u14::u15::u16::u17::u18::u19::u20::u21::u22::u23::u24::u25::u26::u27::u28::u29::u30::u31::u32::u33::u34::u35::u36::u37::u38::u39::u40::u41::u42::u43::u44::u45::u46::u47::u48::u49::u50::u51::u52::u53::u54::u55::u56::u57::u58::u59::u60::u61::u62::u63::u64::u65::u66::u67::u68::u69::u70::u71::u72::u73::u74::u75::u76::u77::u78::u79::u80::u81::[]).toArray,[]⟩ W:=by
 have HQ:=L hQ;have H1:=L h1;have HO:=L ho;have HY:=L hy;have HP:=L hp;have LP:=L lp;have IX:=L (nI okW g k n cap (by obtain⟨_,_,hv⟩:=(Row.dx ho).len; have h:=(aA.1 hy).1; simp at hv; omega));have EL:=L (jW okW ho hy);clear hQ h1 ho hy hp lp;have iN:=QY W.heap.size b1 me z1 z2 z3 z4 g n cap k y1 y2 yo yn yc p;unfold Yc
 conv=>arg 2; whnf
 have nd:∀ j,(j<68\/80<=j)->∀ i,i<12->(fun i=>68+i) i≠j:=by
  intro j hj i hi h;simp only at h;omega
 refine bG 13 12 (fun i=>68+i) (fun _=>12) (KO W.heap.size b1 me z1 z2 z3 z4 g n cap k y1 y2 yo yn yc p) (by kernel_rfl) (by kernel_rfl) rfl (by decide) (fun i j _ _ h=>by have h2:68+i=68+j:=h; omega) (fun i hi=>by show 68+i<82; omega) ?_ (fun _=>bH 14 (by kernel_rfl)) ?_ ?_
 ·intro i o hi ho a x D hnd hc hD hb seen K hK;clear HQ;rcases (by omega:i=0\/i=1\/i=2\/i=3\/i=4\/i=5\/i=6\/i=7\/i=8\/i=9\/i=10\/i=11) with rfl|rfl|rfl|rfl|rfl|rfl|rfl|rfl|rfl|rfl|rfl|rfl
  ·cases ho;have e1:a.eval (aj 1)=J (V ⟨b1,0,Y⟩):=seen.kp 1 _ (nd 1 (by omega)) rfl;exact aC rfl rfl (aO a.eval _ 33 (aj 1) 5 rfl (by rw [e1]; simp [go_sem])) (hK _ _ rfl (U _ _) fun _ _ _ _ _ _ _ h=>h)
  ·cases ho;have e68:a.eval (aj 68)=J (V ⟨b1,5,Y⟩):=seen.at_ ⟨0,.data⟩ (by simp) rfl (au (by decide));have y5:=(H1.out.on hb).cell 5;simp only [X,Z,ah] at y5;exact aC rfl rfl (aQ a.eval _ 31 (aj 68) rfl (by rw [e68]; simp [go_sem,y5])) (hK _ _ rfl (U _ _) fun _ _ _ _ _ _ _ h=>h)
  ·cases ho;have e5:a.eval (aj 5)=aJ aB (k:Int):=seen.kp 5 _ (nd 5 (by omega)) rfl;exact aC rfl rfl (bE a.eval _ (aj 5) rfl x) (hK _ _ e5 (U _ _) fun _ _ _ _ _ _ _ h=>h)
  ·cases ho;have e1:a.eval (aj 1)=J (V ⟨b1,0,Y⟩):=seen.kp 1 _ (nd 1 (by omega)) rfl;exact aC rfl rfl (aO a.eval _ 33 (aj 1) 5 rfl (by rw [e1]; simp [go_sem])) (hK _ _ rfl (U _ _) fun _ _ _ _ _ _ _ h=>h)
  ·cases ho;have e71:a.eval (aj 71)=J (V ⟨b1,5,Y⟩):=seen.at_ ⟨3,.data⟩ (by simp) rfl (au (by decide));have y5:=(H1.out.on hb).cell 5;simp only [X,Z,ah] at y5;exact aC rfl rfl (aQ a.eval _ 31 (aj 71) rfl (by rw [e71]; simp [go_sem,y5])) (hK _ _ rfl (U _ _) fun _ _ _ _ _ _ _ h=>h)
  ·cases ho;have e5:a.eval (aj 5)=aJ aB (k:Int):=seen.kp 5 _ (nd 5 (by omega)) rfl;exact aC rfl rfl (bE a.eval _ (aj 5) rfl x) (hK _ _ e5 (U _ _) fun _ _ _ _ _ _ _ h=>h)
  ·cases ho;have e72:a.eval (aj 72)=O (V ⟨g,0,Y⟩) n cap:=seen.at_ ⟨4,.data⟩ (by simp) rfl (au (by decide));have e73:a.eval (aj 73)=aJ aB (k:Int):=seen.at_ ⟨5,.data⟩ (by simp) rfl (au (by decide));exact aC rfl rfl (bF a.eval _ 31 (aj 72) (aj 73) rfl (by rw [e72,e73]; exact IX.out x)) (hK _ _ rfl (U _ _) fun _ _ _ _ _ _ _ h=>h)
  ·cases ho;have e74:a.eval (aj 74)=J (V ⟨g,k * 3,Y⟩):=seen.at_ ⟨6,.data⟩ (by simp) rfl (au (by decide));exact aC rfl rfl (aO a.eval _ 61 (aj 74) 1 rfl (by rw [e74]; simp [go_sem])) (hK _ _ rfl (U _ _) fun _ _ _ _ _ _ _ h=>h)
  ·cases ho;have e75:a.eval (aj 75)=J (V ⟨g,k * 3+2,Y⟩):=seen.at_ ⟨7,.data⟩ (by simp) rfl (au (by decide));have y:=EL.out x hb 2 _ rfl;simp [Addr.add,EW] at y;exact aC rfl rfl (aQ a.eval _ 41 (aj 75) rfl (by rw [e75]; simp [go_sem,y])) (hK _ _ rfl (U _ _) fun _ _ _ _ _ _ _ h=>h)
  ·cases ho;have e76:a.eval (aj 76)=O yo yn yc:=seen.at_ ⟨8,.data⟩ (by simp) rfl (au (by decide));exact bn rfl rfl (Rw.iK a.eval _ (aj 76) 41 66 rfl e76 rfl _ (gu aY rfl rfl _ _)) (qC (yo,yn,yc) p x (HP.out.on hb) LP.out) fun e w1 h=>by
    obtain⟨⟨s,rfl,h1⟩,h3⟩:=h;exact⟨_,rfl,hK _ _ ⟨s,rfl,dG h1 hb.size⟩ (h3.mono hb.size) fun j u hj _ _ _ hne h=>iN j u _ _ h h3⟩
  ·cases ho;have e69:a.eval (aj 69)=O (V ⟨g,0,Y⟩) n cap:=seen.at_ ⟨1,.data⟩ (by simp) rfl (au (by decide));have e70:a.eval (aj 70)=aJ aB (k:Int):=seen.at_ ⟨2,.data⟩ (by simp) rfl (au (by decide));exact aC rfl rfl (bF a.eval _ 31 (aj 69) (aj 70) rfl (by rw [e69,e70]; exact IX.out x)) (hK _ _ rfl (U _ _) fun _ _ _ _ _ _ _ h=>h)
  ·cases ho;have e78:a.eval (aj 78)=J (V ⟨g,k * 3,Y⟩):=seen.at_ ⟨10,.data⟩ (by simp) rfl (au (by decide));exact aC rfl rfl (aO a.eval _ 61 (aj 78) 1 rfl (by rw [e78]; simp [go_sem])) (hK _ _ rfl (U _ _) fun _ _ _ _ _ _ _ h=>h)
 ·intro kk o h1 h2 ho;omega
 ·intro a w' df sz kp ⟨vs,hv⟩ hb;have sz':a.tmps.size=82:=sz;have g79:a.tmps[79]?=V (J (V ⟨g,k * 3+2,Y⟩)):=by
   have h:vs 11=J (V ⟨g,k * 3+2,Y⟩):=(hv 11 (by omega)).2 (by decide);rw [<- h];exact (hv 11 (by omega)).1
  obtain⟨⟨s1,s2,s3⟩,hs,hc⟩:=(hv 9 (by omega)).2 (by decide);have g77:a.tmps[77]?=V (O s1 s2 s3):=((hv 9 (by omega)).1).trans (congrArg V hs);rw [hs] at hc;obtain⟨w2,hr,st1,st2,st3⟩:=aaV (k:=k) s1 s2 s3 (Bk.dB HO.out hb) HY.out;obtain⟨cur,hg⟩:=jS (Bk.dB HO.out hb);show aX _ _ _ 1 12 a w';simp only [aX];refine bD 41 (aj 79) (aj 77) rfl rfl rfl rfl (aP g79) (aP g77) (w':=w2) hr ?_;have qU:∀ j,(j<68\/80<=j)->(a).tmps[j]?=(u0::J (V ⟨b1,0,Y⟩)::u2::u3::u4::aJ aB (k:Int)::u6::u7::u8::u9::u10::u11::u12::u13::u14::u15::u16::u17::u18::u19::u20::u21::u22::u23::u24::u25::u26::u27::u28::u29::u30::u31::u32::u33::u34::u35::u36::u37::u38::u39::u40::u41::u42::u43::u44::u45::u46::u47::u48::u49::u50::u51::u52::u53::u54::u55::u56::u57::u58::u59::u60::u61::u62::u63::u64::u65::u66::u67::u68::u69::u70::u71::u72::u73::u74::u75::u76::u77::u78::u79::u80::u81::[])[j]?:=fun j hj=>(kp j (nd j (by omega))).trans X;obtain⟨mid,hmid,hfr⟩:=bI (a:=a) 68 12 df (by simp [sz']) (by simp) qU;show Q .normal (a) _;rw [hfr]
  match mid,hmid with
  | [v68,v69,v70,v71,v72,v73,v74,v75,v76,v77,v78,v79],_ =>
   exact HQ.out _ _ _ _ _ _ _ _ _ _ _ _ _ s1 s2 s3 (st2.own hc hg (by decide)) st1 ((But.of_below hb).trans st2) fun B1 hB hl=>st3 B1 W hB (hb.mono hl)
end Av
end Go.Proofs.YtkcfgbddlpomgaaGreat
