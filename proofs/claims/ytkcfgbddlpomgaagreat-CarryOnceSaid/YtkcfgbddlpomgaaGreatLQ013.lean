/-
  Lists of attributes,. Conditions as told.
-/
import Derived.Test.YtkcfgbddlpomgaaGreatLQ012
import Derived.Maps.AppendAt
import Derived.BigRegion
import Derived.Test.YtkcfgbddlpomgaaGreatLQ009
import Derived.Test.YtkcfgbddlpomgaaGreatLQ010
set_option maxRecDepth 100000
set_option maxHeartbeats 64000000
open _root_.Bool renaming false->aD,true->aH
open _root_.Go renaming cell_regrown->K,World->V,Value->aA,Calls->aG,bodyPost_ret->aL,below_regrown->aO,maxLen->aP,redrawn->aR,Addr->aU
open Go.Ending renaming returned->X
open Go.IntKind renaming i64->ak
open Go.Lib renaming hid->D
open Go.Obj renaming cells->Q
open Go.Proofs.Tryz renaming prog->O,ntmps144->ay,func144->aB,underlying39->aJ,results143->aN,ntmps33->aQ,func33->aS
open Go.Value renaming string->J,bool->aC,int->aI,slice->aV,agg->aW
open Go.World renaming cell?_alloc_at->Z,cell?_alloc_lt->aF
open _root_.List renaming getElem?_eq_getElem->U,getD_eq_getElem?_getD->Y
open _root_.Nat renaming le_refl->au,mod_lt->aT
open _root_.Option renaming some->L,none->ah,map_some->aM
open Option.some renaming inj->aj,injEq->aK
namespace Go.Proofs.YtkcfgbddlpomgaaGreat
namespace Rl
open Go.RowKit Pu Rw Pr
def EA:Ek An:=⟨97,39,4,48,aW #[J ⟨#[]⟩,aC aD,aI ak 0,J ⟨#[]⟩],At.av,At.yM⟩
theorem aaw:(Tryz.prog.info? 97).map (fun i=>(i.zero,i.size,i.bytes))=L (L (aW #[J ⟨#[]⟩,aC aD,aI ak 0,J ⟨#[]⟩]),4,48):=by kernel_rfl
theorem Nt (w:V) (p:aU) (c:An) (h:∀ j u,(At.yM c)[j]?=L u->w.cell? (p.add j)=L u):(Instr.loadAt 97 (.pointer (L p))).run O w=.ok (At.av c) w:=by
 have h0:=h 0 _ rfl;have h1:=h 1 _ rfl;have h2:=h 2 _ rfl;have h3:=h 3 _ rfl;simp [Addr.add] at h0 h1 h2 h3;simp [go_sem,h0,h1,h2,h3]
theorem okA:EA.Ok where
 hu:=aJ
 info:=by
  have h:=aaw;cases hi:Tryz.prog.info? 97 with
  | none=>rw [hi] at h; cases h
  | some i =>
   rw [hi] at h;simp only [aM,aK,Prod.mk.injEq] at h;exact⟨i,hi,h.1,h.2.1,h.2.2⟩
 zs:=rfl
 len:=fun _=>rfl
 one:=fun x u hu=>by
  simp only [EA,At.yM,List.mem_cons,List.not_mem_nil,or_false] at hu;rcases hu with rfl|rfl|rfl|rfl <;> rfl
 pos:=by decide
 few:=by decide
 load:=fun w p x h=>Nt w p x h
abbrev tX (W:V) (v:aA) (l:List An):Prop:=Row EA W v l
abbrev DF (W:V) (B:Nat) (v:aA) (l:List An):Prop:=Own EA W B v l
theorem DI:∀ l:List An,flat EA l=At.kZ l
 | []=>rfl
 | x::r=>by
  rw [flat,DI r]
  rfl
theorem aax {W:V} {v:aA} {l:List An}:At.xA W v l↔tX W v l:=by
 unfold At.xA tX Row;rw [DI]
theorem aay {W:V} {B:Nat} {v:aA} {l:List An} (h:W.ownsRow B 97 4 v l.length (At.kZ l)):DF W B v l:=by
 show W.ownsRow B 97 4 v l.length (flat EA l);rw [DI];exact h
structure NL (l:List An):Prop where
 rise:l.Pairwise fun x y=>Op.bytesLess x.1.toList y.1.toList=aH
 five:l.length<=5
 small:∀ x∈l,x.1.size<=100/\x.2.2.2.size<=100
theorem NL.nodup {l:List An} (h:NL l):(l.map (·.1)).Nodup:=by
 rw [List.Nodup,List.pairwise_map];exact h.rise.imp fun h=>Dq h
theorem Nu {p:List Cn} {l:List An} (h:(l.map (·.1)).Nodup):vQ p l=p.all fun c=>match l.find? fun a=>decide (a.1=c.1) with
  | some a=>dU c.2 a.2
  | none=>aD:=by
 unfold vQ
 congr 1
 funext c
 cases hf:l.find? fun a=>decide (a.1=c.1) with
 | none =>
  rw [List.any_eq_false];intro a ha;have:=List.find?_eq_none.1 hf a ha;simp only [decide_eq_true_eq] at this;simp [this]
 | some a =>
  have hm:=List.mem_of_find?_eq_some hf;have he:a.1=c.1:=by simpa using List.find?_some hf
  rw [Bool.eq_iff_iff,List.any_eq_true];constructor
  ·rintro⟨b,hb,h2⟩;simp only [Bool.and_eq_true,decide_eq_true_eq] at h2;rw [uniq h hm hb (he.trans h2.1.symm)];exact h2.2
  ·intro h2;exact⟨a,hm,by simp [he,h2]⟩
end Rl
namespace At
open Go.RowKit Va In
def nm (i:Nat):ByteArray:=⟨#[UInt8.ofNat (97+i)]⟩
def nu:Array aA:=#[J ⟨#[97]⟩,J ⟨#[98]⟩,J ⟨#[99]⟩,J ⟨#[100]⟩,J ⟨#[101]⟩,J ⟨#[102]⟩,J ⟨#[103]⟩]
theorem Qm (i:Nat) (h:i<7):nu[i]?=L (J (nm i)):=by
 match i,h with
 | 0,_=>rfl
 | 1,_=>rfl
 | 2,_=>rfl
 | 3,_=>rfl
 | 4,_=>rfl
 | 5,_=>rfl
 | 6,_=>rfl
theorem vS (w:V):aG O 31 #[] w fun e w'=>e=X (aV (L ⟨w.heap.size,0,ah⟩) 7 7)/\w'=w.alloc (Q nu 9):=by
 go_enter Tryz.func31,Tryz.ntmps31;go_wp2;go_ret;exact⟨rfl,rfl⟩
def jU (zs:List Int) (i:Nat):Int:=if zs=[] then 0 else zs.getD (i % zs.length) 0
theorem yG (nv:aA) (zs:List Int) (i:Nat) (w:V) (hz:jl w nv zs) (hl:zs.length<=aP) (hi:i<=100) :
  aG O 33 #[nv,aI ak i] w fun e w'=>e=X (aI ak (jU zs i))/\w=w':=by
 obtain⟨ao,cap,rfl⟩:=hz.shape;unfold aP at hl;cases zs with
 | nil =>
  go_enter aS,aQ;go_wp2;go_ret;exact⟨rfl,rfl⟩
 | cons z r =>
  have hm:i % (z::r).length<(z::r).length:=aT _ (by simp);obtain⟨y,hy⟩:∃ y,(z::r)[i % (z::r).length]?=L y:=⟨_,U hm⟩;obtain⟨_,p,_,hix,hpc⟩:=hz.at_ _ y hy;have P:=D (show jU (z::r) i=y by unfold jU; rw [if_neg (by simp),Y,hy]; rfl);have h0:((((z::r).length:Nat):Int) == 0)=aD:=by simp; omega
  have hne:(((z::r).length:Nat):Int)≠0:=by simp; omega
  have ht:(i:Int) % ((z::r).length:Nat)=((i % (z::r).length:Nat):Int):=rfl;have ht2:(i:Int).tmod ((z::r).length:Nat)=((i % (z::r).length:Nat):Int):=by
   rw [Int.tmod_eq_emod_of_nonneg (by omega)]; rfl
  have hn0:0<(((z::r).length:Nat):Int):=by simp
  generalize (z::r).length=n at *;generalize i % n=m at *;clear hz hy hm;go_enter aS,aQ;go_wp2;go_ret;exact⟨Wi.xM P.out.symm,rfl⟩
def odd (z:Int):Bool:=bits BinOp.and ak z 1 == 1
def valOf (n:Int):Bool×Int×ByteArray:=(!(XA n),Vt n,Pw n)
def rH (has vals:List Int):Nat->List A4
 | 0=>[]
 | i+1=>if i<has.length/\odd (has.getD i 0)=aH/\(rH has vals i).length<5 then rH has vals i++[(nm i,valOf (jU vals i))] else rH has vals i
theorem aaz:(Tryz.prog.info? 97).map (fun i=>(i.zero,i.size,i.bytes))=L (L (aW #[J ⟨#[]⟩,aC aD,aI ak 0,J ⟨#[]⟩]),4,48):=by kernel_rfl
theorem acr:∃ i,Tryz.prog.info? 97=L i/\i.zero=L (aW #[J ⟨#[]⟩,aC aD,aI ak 0,J ⟨#[]⟩])/\i.size=4/\i.bytes=48:=by
 have h:=aaz;cases hi:Tryz.prog.info? 97 with
 | none=>rw [hi] at h; cases h
 | some i =>
  rw [hi] at h;simp only [aM,aK,Prod.mk.injEq] at h;exact⟨i,rfl,h.1,h.2.1,h.2.2⟩
theorem yH {W:V} {nv:aA} {zs:List Int} (hz:jl W nv zs) (i:Nat):-9223372036854775808<=jU zs i/\jU zs i<=9223372036854775807:=by
 unfold jU
 split
 ·omega
 ·rename_i h
  have hm:i % zs.length<zs.length:=aT _ (List.length_pos_iff.2 h);have:=(hz.at_ _ _ (U hm)).1;rw [Y,U hm];exact this
theorem Kn (has vals:List Int):∀ k,(rH has vals k).length<=k
 | 0=>au _
 | k+1=>by
  have h:=Kn has vals k;simp only [rH]
  split
  ·simp; omega
  ·omega
theorem dx {W W':V} {B k:Nat} {e:TypeId} {v:aA} {n:Nat} {xs:List aA} (h:W.ownsRow B e k v n xs) (hb:Below W.heap.size W W'):W'.ownsRow B e k v n xs:=by
 refine⟨h.1,?_⟩;rcases h.2 with h2|⟨g,cap,cur,h1,h2,h3,h4⟩
 ·exact Or.inl h2
 ·exact Or.inr ⟨g,cap,cur,h1,h2,by rw [hb.block _ (lt_of_heap h3)]; exact h3,h4⟩
theorem mH {W:V} {B B' k:Nat} {e:TypeId} {v:aA} {n:Nat} {xs:List aA} (hB:B'<=B) (h:W.ownsRow B e k v n xs):W.ownsRow B' e k v n xs:=by
 refine⟨h.1,?_⟩;rcases h.2 with h2|⟨g,cap,cur,h1,h2,h3⟩
 ·exact Or.inl h2
 ·exact Or.inr ⟨g,cap,cur,h1,Nat.le_trans hB h2,h3⟩
theorem Nv (w:V) (x0 x1 x2 x3:aA) (t:TypeId):∀ j u,[x0,x1,x2,x3][j]?=L u->(w.alloc (Q #[x0,x1,x2,x3] t)).cell? ((⟨w.heap.size,0,ah⟩:aU).add j)=L u:=by
 intro j u hj;have e:(⟨w.heap.size,0,ah⟩:aU).add j=⟨w.heap.size,j,ah⟩:=by unfold Addr.add; split <;> simp_all
 rw [e,Z _ _ _ _ rfl];simpa using hj
theorem Nw (hv vv:aA) (has vals:List Int) (w:V) (hh:jl w hv has) (hw:jl w vv vals) (lh:has.length<=aP) (lv:vals.length<=aP) :
  aG O 10 #[aW #[hv,vv]] w fun e w'=>∃ v,e=X v/\w'.ownsRow w.heap.size 97 4 v (rH has vals 7).length (kZ (rH has vals 7))/\Below w.heap.size w w':=by
 have HH:=D hh;have HW:=D hw;have LH:=D lh;have LV:=D lv;obtain⟨i0,hi,hz0,hz1,hz2⟩:=acr;clear hh hw lh lv;go_enter Tryz.func10,Tryz.ntmps10;go_wp2_with fail;refine (vS _).mono ?_;rintro e1 w1 ⟨rfl,rfl⟩;go_wp2
 go_loopw [3,8] (fun lv i wr=>∃ k:Nat,k<=7/\i=aI ak k/\wr.ownsRow (w.heap.size+2) 97 4 lv (rH has vals k).length (kZ (rH has vals k)) /\
  Below (w.heap.size+2) ((w.alloc (Q #[hv,vv] 27)).alloc (Q nu 9)) wr) (fun _ i _=>7-(intOf i).toNat)
 case atStart=>exact⟨0,by omega,rfl,World.ownsRow_nil _ _ _ _,Below.refl _ _⟩
 case round =>
  obtain⟨k,hk,rfl,hown,hb⟩:=hrel;have HO:=D hown;have HB:=D hb;have T0:Below w.heap.size w ((w.alloc (Q #[hv,vv] 27)).alloc (Q nu 9)):=((Below.refl _ _).alloc (au _) _).alloc (by simp) _;have BW:=D (T0.trans (hb.mono (by omega)));have hsz:w.heap.size+2<=wr.heap.size:=by have:=hb.size; simp at this; omega
  clear T0;obtain⟨ro,aeX,hrl⟩:=(xA.VP hown).len;have hl5:=Kn has vals k;by_cases h7:k<7
  ·have n0:wr.cell? ⟨w.heap.size+1,k,ah⟩=L (J (nm k)):=by
    rw [hb.cell (p:=⟨w.heap.size+1,k,ah⟩) (by simp),Z _ _ _ _ (by simp)]; exact Qm k h7
   have b0:wr.cell? ⟨w.heap.size,0,ah⟩=L hv:=by
    rw [hb.cell (p:=⟨w.heap.size,0,ah⟩) (by simp),aF _ _ _ (by simp),Z _ _ _ _ rfl]; rfl
   have b1:wr.cell? ⟨w.heap.size,1,ah⟩=L vv:=by
    rw [hb.cell (p:=⟨w.heap.size,1,ah⟩) (by simp),aF _ _ _ (by simp),Z _ _ _ _ rfl]; rfl
   have IH:=D (HH.out.on BW.out);obtain⟨ao,aeY,hsh⟩:=HH.out.shape;clear hb hown;subst hsh;subst hrl;have hkk:(k:Int)<7:=by omega
   by_cases h1:k<has.length
   ·obtain⟨y,hy⟩:∃ y,has[k]?=L y:=⟨_,U h1⟩;have hg:has.getD k 0=y:=by rw [Y,hy]; rfl
    obtain⟨_,p,_,hix,hpc⟩:=IH.out.at_ k y hy;cases ho:odd y
    ·have T:=D (show rH has vals (k+1)=rH has vals k by simp only [rH]; rw [if_neg]; rintro⟨_,h2,_⟩; rw [hg,ho] at h2; cases h2);have hodd:(bits BinOp.and ak y 1 == 1)=aD:=ho;clear ho hy hg;go_wp2
     go_roundw
     case rel=>exact⟨k+1,by omega,by go_num,by rw [T.out]; exact HO.out,HB.out⟩
     case measure=>simp [intOf]; omega
    ·have hodd:(bits BinOp.and ak y 1 == 1)=aH:=ho;by_cases h5:(rH has vals k).length<5
     ·have T:=D (show rH has vals (k+1)=rH has vals k++[(nm k,valOf (jU vals k))] by simp only [rH]; rw [if_pos ⟨h1,by rw [hg,ho],h5⟩]);have PK:=D (fun (W:V) (hW:Below w.heap.size w W)=>yG vv vals k W (HW.out.on hW) LV.out (by omega));have bd:=yH HW.out k;have KV:=D (fun W=>I5 (jU vals k) W bd.1 bd.2);clear ho hy hg bd;go_wp2_with fail;refine (PK.out _ BW.out).mono ?_;rintro e1 w1 ⟨rfl,rfl⟩;go_wp2_with fail;refine (KV.out _).mono ?_;rintro e2 w2 ⟨rfl,hb2⟩;have B2:=D hb2;have O2:=D (dx HO.out hb2);have hs2:=hb2.size;clear hb2;unfold valOf at T;generalize (!(XA (jU vals k)))=t at T ⊢;generalize Vt (jU vals k)=n at T ⊢;generalize Pw (jU vals k)=s at T ⊢;go_wp2_with (first | (at_builtin; refine wpList_append_own _ rfl _ _ 39 rfl (w.heap.size+2) 97 i0 _ 4 48 aJ hi hz0 hz1 hz2 rfl (by decide) _ _ _ rfl (O2.out.alloc _) ⟨w2.heap.size,0,ah⟩ 1 1 (yM (nm k,t,n,s)) rfl rfl (Nv _ _ _ _ _ _) (Bd [(nm k,t,n,s)]) (by unfold aP; omega) (by omega) (by simp; omega) ?_) | fail);intro v1 w3 hown3 hgrow3 _;have O3:=D hown3;have hbel:Below (w.heap.size+2) wr w3:=((B2.out.mono hsz).alloc (by omega) _).grown hgrow3 (by simp; omega) (fun j hj=>(O2.out.lt j hj).1);have B3:=D (HB.out.trans hbel);clear hown3 hgrow3 hbel;go_wp2
      go_roundw
      case rel=>exact⟨k+1,by omega,by go_num,by
       rw [T.out,uH];simpa [kZ,yM] using O3.out,B3.out⟩
      case measure=>simp [intOf]; omega
     ·have T:=D (show rH has vals (k+1)=rH has vals k by simp only [rH]; rw [if_neg]; rintro⟨_,_,h2⟩; exact h5 h2);clear ho hy hg;go_wp2
      go_roundw
      case rel=>exact⟨k+1,by omega,by go_num,by rw [T.out]; exact HO.out,HB.out⟩
      case measure=>simp [intOf]; omega
   ·have T:=D (show rH has vals (k+1)=rH has vals k by simp only [rH]; rw [if_neg]; rintro⟨h2,_⟩; exact h1 h2);go_wp2
    go_roundw
    case rel=>exact⟨k+1,by omega,by go_num,by rw [T.out]; exact HO.out,HB.out⟩
    case measure=>simp [intOf]; omega
  ·obtain rfl:k=7:=by omega
   clear hb hown;go_wp2;go_ret;exact⟨_,rfl,mH (by omega) HO.out,BW.out⟩
end At
namespace At
open Go.RowKit Go.Sort Va In
theorem Ny {W:V} {lv:aA} {l:List A4} {ao:Option aU} {n c k:Nat} {x:A4} (h:xA W lv l) (hv:lv=aV ao n c) (hn:l.length=n) (hk:l[k]?=L x) :
  ∃ p:aU,(∀ w,(Instr.indexAt 39 (aV ao n c) (aI ak k)).run O w=.ok (.pointer (L p)) w)/\∀ w,Below W.heap.size W w ->
   w.cell? p=L (J x.1)/\w.cell? ⟨p.block,p.off+1,ah⟩=L (aC x.2.1)/\w.cell? ⟨p.block,p.off+2,ah⟩=L (aI ak x.2.2.1)/\w.cell? ⟨p.block,p.off+3,ah⟩=L (J x.2.2.2):=by
 have hlt:=(List.getElem?_eq_some_iff.1 hk).1;rcases h with⟨rfl,_⟩|⟨a,cap,h1,h2,h3,h4⟩
 ·simp at hk
 ·rw [hv] at h1;obtain⟨rfl,rfl,rfl⟩:ao=L a/\n=l.length/\c=cap:=by simpa using h1
  refine⟨a.add (k * 4),fun w=>Jm a k _ _ hlt w,fun w hb=>?_⟩;have hf:=Fy l k x hk;have e1:∀ j,j≠0->(⟨(a.add (k * 4)).block,(a.add (k * 4)).off+j,ah⟩:aU)=a.add (k * 4+j):=fun j hj=>by
   have h5:∀ b:aU,b.add j=⟨b.block,b.off+j,ah⟩:=fun b=>by unfold Addr.add; rw [if_neg hj]
   rw [<- add_add,h5]
  have g:∀ j u,(kZ l)[j]?=L u->w.cell? (a.add j)=L u:=fun j u hj=>by
   have hc:=h4 j u hj;rw [hb.cell (World.block_lt_of_cell? W _ hc)]; exact hc
  rw [e1 1 (by decide),e1 2 (by decide),e1 3 (by decide)];exact⟨g _ _ hf.1,g _ _ hf.2.1,g _ _ hf.2.2.1,g _ _ hf.2.2.2⟩
def aah (c:UInt8):Bool:=decide (97<=c.toNat) && decide (c.toNat<=122)
def Fb (s:ByteArray):Bool:=s.data.toList.all aah && (decide (1<=s.size) && decide (s.size<=12))
end At
namespace Pr
open Go.RowKit Go.Sort Pu Rw Va
theorem Nz (s:ByteArray) (w:V) :
  aG O 145 #[J s] w fun e w'=>e=X (vl aH 0 s)/\Below w.heap.size w w':=by
 go_enter Tryz.func145,Tryz.ntmps145;go_wp2;exact aL (v:=vl aH 0 s) (by simp [results,Tryz.results145,go_sem]) rfl ⟨rfl,(Below.refl _ _).alloc (au _) _⟩
theorem Fz (s:ByteArray) (w:V) (d:Nat) (os:Array Obj) :
  aG O 145 #[J s] (grow (aR w d) os) fun e w''=>e=X (vl aH 0 s)/\∃ p:Regrown,w''=grow (aR w p.d) p.os :=
 Calls.regrown_of (Nz _ _)
theorem Bg (c:Cn) (s:ByteArray) (r:Bool) (hr:dU c.2 (aH,0,s)=r) (w:V) (d:Nat) (os:Array Obj) :
  aG O 45 #[cv (r5 c),vl aH 0 s] (grow (aR w d) os) fun e w''=>e=X (aC r)/\∃ p:Regrown,w''=grow (aR w p.d) p.os:=by
 subst hr;exact Calls.regrown_of (Bf _ _ _ _ _)
def iD:Kd->Kd->Bool
 | .pr s,.pr t=>pfx t s
 | .tx s,k=>dU k (aH,0,s)
 | _,_=>aD
theorem QC (w:V) (c d:C5):dI ((w.alloc (Q (cells5 c).toArray 106)).alloc (Q (cells5 d).toArray 106)) w.heap.size (cells5 c).toArray 106/\dI ((w.alloc (Q (cells5 c).toArray 106)).alloc (Q (cells5 d).toArray 106)) (w.heap.size+1) (cells5 d).toArray 106/\Below w.heap.size w ((w.alloc (Q (cells5 c).toArray 106)).alloc (Q (cells5 d).toArray 106)):=by
 refine⟨(dK w _ _).more _,?_,((Below.refl w.heap.size w).alloc (au _) _).alloc (by simp) _⟩;have h:=dK (w.alloc (Q (cells5 c).toArray 106)) (cells5 d).toArray 106
 rwa [show (w.alloc (Q (cells5 c).toArray 106)).heap.size=w.heap.size+1 by simp] at h
theorem NA (na nb:ByteArray) (s:ByteArray) (kb:Kd) (w:V):aG O 144 #[cv (r5 (na,.tx s)),cv (r5 (nb,kb))] w fun e w'=>e=X (aC (iD (.tx s) kb))/\Below w.heap.size w w':=by
 obtain⟨ba,bb,hb⟩:=QC w (r5 (na,.tx s)) (r5 (nb,kb));have BA:=D ba;have BB:=D bb;have B:=D hb;have H:=Bg (nb,kb) s _ rfl;have C:=Fz s;have R:=D (show iD (.tx s) kb=dU kb (aH,0,s) from rfl);generalize iD (.tx s) kb=r at *;simp only [r5] at H ⊢;clear ba bb hb;go_enter aB,ay;go_wp2;have HH:=D H;have CC:=D C;clear H C;change Code.wp _ _ _ _ ((w.alloc (Q (cells5 (r5 (na,.tx s))).toArray 106)).alloc (Q (cells5 (r5 (nb,kb))).toArray 106));generalize (w.alloc (Q (cells5 (r5 (na,.tx s))).toArray 106)).alloc (Q (cells5 (r5 (nb,kb))).toArray 106)=W at *;have a4:=K (show W.cell? ⟨w.heap.size,4,ah⟩=L (J s) from BA.out.cell 4);have b0:=K (show W.cell? ⟨w.heap.size+1,0,ah⟩=L (J nb) from BB.out.cell 0);have b1:=K (show W.cell? ⟨w.heap.size+1,1,ah⟩=L (aI ak (kN kb)) from BB.out.cell 1);have b2:=K (show W.cell? ⟨w.heap.size+1,2,ah⟩=L (aI ak (jh kb)) from BB.out.cell 2);have b3:=K (show W.cell? ⟨w.heap.size+1,3,ah⟩=L (aI ak (ji kb)) from BB.out.cell 3);have b4:=K (show W.cell? ⟨w.heap.size+1,4,ah⟩=L (J (kT kb)) from BB.out.cell 4);refine wp_region_quiet_below (by kernel_rfl) (by kernel_rfl) ?_
 repeat (go_big_quiet_step (first | (with_reducible exact CC.out _ _ _) | (with_reducible exact HH.out _ _ _)))
 refine wpQuiet_nil ?_;intro _ hw';obtain⟨⟨dq,osq⟩,hw''⟩:=hw';subst hw'';have BZ:=D (B.out.trans ((aO W dq osq).mono B.out.size));clear a4 b0 b1 b2 b3 b4;go_wp2;go_ret;exact⟨eP R.out.symm,BZ.out⟩
theorem ND (na nb:ByteArray) (s:ByteArray) (t:ByteArray) (w:V):aG O 144 #[cv (r5 (na,.pr s)),cv (r5 (nb,.pr t))] w fun e w'=>e=X (aC (iD (.pr s) (.pr t)))/\Below w.heap.size w w':=by
 obtain⟨ba,bb,hb⟩:=QC w (r5 (na,.pr s)) (r5 (nb,.pr t));have BA:=D ba;have BB:=D bb;have B:=D hb;have H:=Bg (nb,.pr t) s _ rfl;have C:=Fz s;have R:=D (show iD (.pr s) (.pr t)=dU (.pr t) (aH,0,s) by simp only [iD,dU,Bool.true_and]);generalize iD (.pr s) (.pr t)=r at *;simp only [r5] at H ⊢;clear ba bb hb;go_enter aB,ay;go_wp2;have HH:=D H;have CC:=D C;clear H C;change Code.wp _ _ _ _ ((w.alloc (Q (cells5 (r5 (na,.pr s))).toArray 106)).alloc (Q (cells5 (r5 (nb,.pr t))).toArray 106));generalize (w.alloc (Q (cells5 (r5 (na,.pr s))).toArray 106)).alloc (Q (cells5 (r5 (nb,.pr t))).toArray 106)=W at *;have a4:=K (show W.cell? ⟨w.heap.size,4,ah⟩=L (J s) from BA.out.cell 4);have b0:=K (show W.cell? ⟨w.heap.size+1,0,ah⟩=L (J nb) from BB.out.cell 0);have b1:=K (show W.cell? ⟨w.heap.size+1,1,ah⟩=L (aI ak (kN (.pr t))) from BB.out.cell 1);have b2:=K (show W.cell? ⟨w.heap.size+1,2,ah⟩=L (aI ak (jh (.pr t))) from BB.out.cell 2);have b3:=K (show W.cell? ⟨w.heap.size+1,3,ah⟩=L (aI ak (ji (.pr t))) from BB.out.cell 3);have b4:=K (show W.cell? ⟨w.heap.size+1,4,ah⟩=L (J (kT (.pr t))) from BB.out.cell 4);refine wp_region_quiet_below (by kernel_rfl) (by kernel_rfl) ?_
 repeat (go_big_quiet_step (first | (with_reducible exact CC.out _ _ _) | (with_reducible exact HH.out _ _ _)))
 refine wpQuiet_nil ?_;intro _ hw';obtain⟨⟨dq,osq⟩,hw''⟩:=hw';subst hw'';have BZ:=D (B.out.trans ((aO W dq osq).mono B.out.size));clear a4 b0 b1 b2 b3 b4;go_wp2;go_ret;exact⟨eP R.out.symm,BZ.out⟩
theorem vU (na nb:ByteArray) (ka kb:Kd) (w:V) (h:(∃ lo hi,ka=.rg lo hi)\/(∃ s,ka=.pr s)/\¬ ∃ t,kb=.pr t):aG O 144 #[cv (r5 (na,ka)),cv (r5 (nb,kb))] w fun e w'=>e=X (aC (iD ka kb))/\Below w.heap.size w w':=by
 have B:=D (QC w (r5 (na,ka)) (r5 (nb,kb))).2.2;rcases h with⟨lo,hi,rfl⟩|⟨⟨s,rfl⟩,h⟩
 ·have R:=D (show iD (.rg lo hi) kb=aD from rfl);generalize iD (.rg lo hi) kb=r at *;simp only [r5];go_enter aB,ay;go_wp2;go_ret;exact⟨eP R.out.symm,B.out⟩
 ·have R:=D (show iD (.pr s) kb=aD by
   cases kb with
   | pr t=>exact absurd ⟨t,rfl⟩ h
   | _=>rfl)
  have e:((kN kb) != (3:Int))=aH:=by
   cases kb with
   | pr t=>exact absurd ⟨t,rfl⟩ h
   | _=>rfl
  generalize iD (.pr s) kb=r at *;clear h;simp only [r5];go_enter aB,ay;go_wp2;go_ret;exact⟨eP R.out.symm,B.out⟩
theorem yN (a b:Cn) (w:V):aG O 144 #[cv (r5 a),cv (r5 b)] w fun e w'=>e=X (aC (iD a.2 b.2))/\Below w.heap.size w w':=by
 obtain⟨na,ka⟩:=a;obtain⟨nb,kb⟩:=b;cases ka with
 | rg lo hi=>exact vU na nb _ kb w (Or.inl ⟨lo,hi,rfl⟩)
 | tx s=>exact NA na nb s kb w
 | pr s =>
  cases kb with
  | pr t=>exact ND na nb s t w
  | rg lo hi=>exact vU na nb _ _ w (Or.inr ⟨⟨s,rfl⟩,by rintro⟨t,h⟩; cases h⟩)
  | tx t=>exact vU na nb _ _ w (Or.inr ⟨⟨s,rfl⟩,by rintro⟨t',h⟩; cases h⟩)
def Ko (n:ByteArray) (r:Option Kd) (w:V) (e:Ending) (w':V):Prop:=(∃ x,e=X (.tuple #[cv x,aC r.isSome])/\∀ k,r=L k->x=r5 (n,k))/\Below w.heap.size w w'
theorem b3 (w:V) (o p q:Obj):Below w.heap.size w (((w.alloc o).alloc p).alloc q):=(((Below.refl w.heap.size w).alloc (au _) _).alloc (by simp) _).alloc (by simp; omega) _
theorem FJ (na nb:ByteArray) (a b c d:Int) (w:V):aG O 143 #[cv (na,1,a,b,⟨#[]⟩),cv (nb,1,c,d,⟨#[]⟩)] w (Ko na (eY (.rg a b) (.rg c d)) w):=by
 have R:=D (show eY (.rg a b) (.rg c d)=if max a c<=min b d then L (.rg (max a c) (min b d)) else ah from rfl);generalize eY (.rg a b) (.rg c d)=r at *;go_enter Tryz.func143,Tryz.ntmps143;go_wp2_with fail
 go_region
 have e1:(if a<c then c else a)=max a c:=by split <;> omega
 have e2:(if d<b then d else b)=min b d:=by split <;> omega
 try rw [e1]
 try rw [e2]
 clear e1 e2;generalize max a c=M at R ⊢;generalize min b d=N at R ⊢;by_cases h:M<=N
 ·have h1:¬ N<M:=by omega
  have R2:=D (show r=L (.rg M N) by rw [R.out,if_pos h]);clear h;go_wp2;refine aL (v:=.tuple #[cv (na,1,M,N,⟨#[]⟩),aC aH]) (by simp [results,aN,go_sem]) rfl ?_;refine⟨⟨(na,1,M,N,⟨#[]⟩),by rw [R2.out]; rfl,fun k hk=>?_⟩,(b3 w _ _ _).drew⟩;rw [R2.out] at hk;rw [<- aj hk]
  rfl
 ·have h1:N<M:=by omega
  have R2:=D (show r=ah by rw [R.out,if_neg h]);clear h;go_wp2;refine aL (v:=.tuple #[cv (⟨#[]⟩,0,0,0,⟨#[]⟩),aC aD]) (by simp [results,aN,go_sem]) rfl ?_;refine⟨⟨(⟨#[]⟩,0,0,0,⟨#[]⟩),by rw [R2.out]; rfl,fun k hk=>?_⟩,(b3 w _ _ _).drew⟩;rw [R2.out] at hk;cases hk
theorem xV (a b:Kd):eY a b=(match a,b with
 | .rg p q,.rg r t=>if max p r<=min q t then L (.rg (max p r) (min q t)) else ah
 | a,b=>if iD a b then L a else if iD b a then L b else ah):=by
 cases a <;> cases b <;> simp [eY,iD,dU]
 ·rename_i s t
  by_cases h:s.data=t.data
  ·rw [if_pos h,if_pos h]
  ·rw [if_neg h,if_neg h,if_neg (fun e=>h e.symm)]
 ·rename_i s t
  by_cases h1:pfx s t=aH <;> by_cases h2:pfx t s=aH <;> simp [h1,h2];have e1:=(fG _ _).1 h1;have e2:=(fG _ _).1 h2;rw [rE (e2.eq_of_length_le e1.length_le)]
end Pr
namespace Rl
open Go.RowKit Pu Pr
def jf:List Cn->List Cn->Option (List Cn)
 | m,[]=>L m
 | m,c::r=>match qJ m c with
  | none=>ah
  | some n=>jf n r
theorem Bh:∀ (r m p:List Cn),mX m->jf m r=L p->m.length<=p.length/\mX p
 | [],m,p,hm,h=>by
  obtain rfl:=aj h;exact⟨au _,hm⟩
 | c::r,m,p,hm,h=>by
  simp only [jf] at h;cases hi:qJ m c with
  | none=>rw [hi] at h; cases h
  | some n =>
   rw [hi] at h;have e1:=yB m c n hm hi;obtain⟨e2,e3⟩:=Bh r n p (jT m c n hm hi).1 h;exact⟨by omega,e3⟩
theorem xW:∀ (r m p:List Cn) (at_:Nat),mX m->m.length<=5->(yw at_ m r=.ok p↔jf m r=L p/\p.length<=5)
 | [],m,p,at_,_,h5=>by
  simp only [yw,jf];constructor
  ·intro h;injection h with h
   subst h;exact⟨rfl,h5⟩
  ·rintro⟨h,_⟩;rw [aj h]
 | c::r,m,p,at_,hm,h5=>by
  simp only [yw,jf];cases hi:qJ m c with
  | none =>
   constructor
   ·intro h; cases h
   ·rintro⟨h,_⟩; cases h
  | some n =>
   simp only;have hn:=(jT m c n hm hi).1;by_cases h6:5<n.length
   ·rw [if_pos h6];constructor
    ·intro h; cases h
    ·rintro⟨h,h7⟩;have:=(Bh r n p hn h).1;omega
   ·rw [if_neg h6];exact xW r n p (at_+1) hn (by omega)
theorem uI:∀ (a b m m':List Cn),jf m a=L m'->jf m (a++b)=jf m' b
 | [],b,m,m',h=>by
  obtain rfl:=aj h
  rfl
 | c::r,b,m,m',h=>by
  simp only [List.cons_append,jf] at h ⊢;cases hi:qJ m c with
  | none=>rw [hi] at h; cases h
  | some n =>
   rw [hi] at h;exact uI r b n m' h
theorem Bj:∀ (p m:List Cn),mX (m++p)->jf m p=L (m++p)
 | [],m,_=>by simp [jf]
 | c::r,m,h=>by
  have h1:∀ x∈m,Op.bytesLess x.1.toList c.1.toList=aH:=fun x hx=>(List.pairwise_append.1 h).2.2 x hx c (List.mem_cons_self ..);simp only [jf];rw [J9 m c h1];simp only;rw [Bj r (m++[c]) (by simpa using h)];simp
theorem QD {a b:List Cn} (ha:mX a):jf [] (a++b)=jf a b:=uI a b [] a (by simpa using Bj a [] (by simpa using ha))
theorem QE {a b:List Cn} (ha:mX a) (h5:a.length<=5):yA a b=match jf a b with
  | some p=>decide (p.length<=5)
  | none=>aD:=by
 unfold yA;cases h:jf a b with
 | none =>
  cases h2:yw a.length a b with
  | ok p =>
   have:=(xW b a p a.length ha h5).1 h2;rw [h] at this;cases this.1
  | error e=>rfl
 | some p =>
  by_cases h6:p.length<=5
  ·rw [(xW b a p a.length ha h5).2 ⟨h,h6⟩];simp [h6]
  ·cases h2:yw a.length a b with
   | ok q =>
    have h3:=(xW b a q a.length ha h5).1 h2;rw [h] at h3;obtain rfl:=aj h3.1;exact absurd h3.2 h6
   | error e=>simp [h6]
end Rl
namespace Pr
open Go.RowKit Go.Sort Pu Rw
end Pr
namespace Pr
open Go.RowKit Go.ChangeShapes Go.WideShapes In
theorem aaA:Tryz.prog.cellsOf 72=2:=by kernel_rfl
theorem DJ:Tryz.prog.cellsOf 25=1:=by kernel_rfl
end Pr
end Go.Proofs.YtkcfgbddlpomgaaGreat
