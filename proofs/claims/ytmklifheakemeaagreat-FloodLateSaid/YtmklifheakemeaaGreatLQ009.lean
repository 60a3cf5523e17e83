/-
  Names, pick, Tuple o. Conditions as told.
-/
import Derived.Test.YtmklifheakemeaaGreatLQ002
import Derived.Maps.AppendAt
import Derived.Lib.QuietBelow
import Derived.BigQuiet
import Derived.Test.YtmklifheakemeaaGreatLQ008
set_option maxRecDepth 100000
set_option maxHeartbeats 64000000
open _root_.Bool renaming and_eq_true->ak,false->ay,true->aG
open Go.Builtin renaming copy_->ah
open Go.Instr renaming sliceAt->O
open Go.IntKind renaming i64->X,wrap_i64->aF
open Go.Lib renaming hid->V
open Go.Obj renaming cells->aj
open Go.Proofs.Tryz renaming prog->J,ntmps180->aB,func180->aD,ntmps27->aH,func27->aI
open Go.Value renaming slice->D,string->Y,int->au
open _root_.List renaming getElem?_eq_getElem->Z
open _root_.Nat renaming le_refl->aA,lt_or_ge->aC
open _root_.Option renaming none->K,some->L
open Option.some renaming inj->U
namespace Go.Proofs.YtmklifheakemeaaGreat
namespace At
open Go.RowKit Va In
def nm (i:Nat):ByteArray:=⟨#[UInt8.ofNat (97+i)]⟩
def qH:Array Value:=#[Y ⟨#[97]⟩,Y ⟨#[98]⟩,Y ⟨#[99]⟩,Y ⟨#[100]⟩,Y ⟨#[101]⟩,Y ⟨#[102]⟩,Y ⟨#[103]⟩]
def nZ (zs:List Int) (i:Nat):Int:=if zs=[] then 0 else zs.getD (i % zs.length) 0
def odd (z:Int):Bool:=bits BinOp.and X z 1 == 1
end At
namespace At
open Go.RowKit Go.Sort Va In
end At
namespace At
open Go.RowKit Go.Sort Va In
def uD (c:UInt8):Bool:=decide (97<=c.toNat) && decide (c.toNat<=122)
def kV (s:ByteArray):Bool:=s.data.toList.all uD && (decide (1<=s.size) && decide (s.size<=12))
end At
namespace Pr
open Go.RowKit Go.Sort Pu Rw Va
def jJ:List C5->List C5->Bool
 | [],[]=>aG
 | x::l,y::m=>uE x y && jJ l m
 | _,_=>ay
theorem yw:∀ l m,jJ l m=aG->l.length=m.length
 | [],[],_=>rfl
 | x::l,y::m,h=>by
  simp only [jJ,ak] at h;simp [yw l m h.2]
 | [],y::m,h=>by simp [jJ] at h
 | x::l,[],h=>by simp [jJ] at h
theorem yx:∀ l m,l.length=m.length->(∀ (k:Nat) (x y:C5),l[k]?=L x->m[k]?=L y->uE x y=aG)->jJ l m=aG
 | [],[],_,_=>rfl
 | x::l,y::m,hl,h=>by
  simp only [jJ,ak];exact⟨h 0 x y rfl rfl,yx l m (by simpa using hl) (fun k a b ha hb=>h (k+1) a b (by simpa using ha) (by simpa using hb))⟩
 | [],y::m,hl,_=>by simp at hl
 | x::l,[],hl,_=>by simp at hl
theorem yA:∀ (l m:List C5) (k:Nat) (x y:C5),l[k]?=L x->m[k]?=L y->uE x y=ay->jJ l m=ay
 | [],_,k,x,y,h,_,_=>by simp at h
 | _::_,[],k,x,y,_,h,_=>by simp at h
 | a::l,b::m,0,x,y,h1,h2,h3=>by
  simp at h1 h2;subst h1 h2;simp [jJ,h3]
 | a::l,b::m,k+1,x,y,h1,h2,h3=>by
  simp only [jJ,yA l m k x y (by simpa using h1) (by simpa using h2) h3,Bool.and_false]
theorem yB:∀ l m:List C5,jJ l m=aG↔l=m
 | [],[]=>by simp [jJ]
 | x::l,y::m=>by
  simp only [jJ,ak,Al,yB l m,List.cons.injEq]
 | [],y::m=>by simp [jJ]
 | x::l,[]=>by simp [jJ]
theorem Jo (nA bv:Value) (l m:List C5) (w:World) (ha:eY w nA l) (hb:eY w bv m) (hl:l.length<=1000000) (_hm:m.length<=1000000) :
  Calls J 27 #[nA,bv] w fun e w'=>e=.returned (.bool (jJ l m))/\Below w.heap.size w w':=by
 have HA:=V ha;have HB:=V hb;obtain⟨ao,ac,rfl⟩:=ha.len;obtain⟨bo,bc,rfl⟩:=hb.len;clear ha hb;by_cases hlen:l.length=m.length
 ·have HL:=V hlen;rw [<- hlen] at HB ⊢;generalize hn:l.length=n at *;have HN:=V hn;clear hlen hn;go_enter aI,aH;go_wp2
  go_loopw [5] (fun i wr=>∃ k:Nat,k<=n/\i=au X k/\Below w.heap.size w wr/\∀ (j:Nat) (x y:C5),j<k->l[j]?=L x->m[j]?=L y->uE x y=aG) (fun i _=>n-(intOf i).toNat)
  case atStart=>exact⟨0,Nat.zero_le _,rfl,Below.refl _ _,fun j x y h=>by omega⟩
  case round =>
   obtain⟨k,hk,rfl,hbe,hall⟩:=hrel;have BE:=V hbe;have AL:=V hall;clear hbe hall;by_cases hlt:k<n
   ·obtain⟨x,hx⟩:∃ x,l[k]?=L x:=⟨_,Z (by rw [HN.out]; exact hlt)⟩;obtain⟨y,hy⟩:∃ y,m[k]?=L y:=⟨_,Z (by rw [<- HL.out]; exact hlt)⟩;obtain⟨p,ix,px⟩:=Qi HA.out rfl HN.out hx;obtain⟨q,iy,py⟩:=Qi HB.out rfl HL.out.symm hy;have p0:=cell_regrown (px _ BE.out).1;have p1:=cell_regrown (px _ BE.out).2.1;have p2:=cell_regrown (px _ BE.out).2.2.1;have p3:=cell_regrown (px _ BE.out).2.2.2.1;have p4:=cell_regrown (px _ BE.out).2.2.2.2;have q0:=cell_regrown (py _ BE.out).1;have q1:=cell_regrown (py _ BE.out).2.1;have q2:=cell_regrown (py _ BE.out).2.2.1;have q3:=cell_regrown (py _ BE.out).2.2.2.1;have q4:=cell_regrown (py _ BE.out).2.2.2.2;clear px py;obtain⟨r,hr⟩:∃ r,uE x y=r:=⟨_,rfl⟩;have hne:=aaK x y r hr;have HX:=V hx;have HY:=V hy;have HR:=V hr;clear hx hy hr;cases r
    ·have R:=V (show jJ l m=ay from yA l m k x y HX.out HY.out HR.out);go_wp2;refine wp_region_quiet_below (by kernel_rfl) (by kernel_rfl) ?_
     repeat (go_big_quiet_step (fail))
     refine wpQuiet_nil ?_;intro _ hw';obtain⟨⟨dq,osq⟩,hw''⟩:=hw';subst hw'';go_wp2;go_ret;exact⟨dP R.out.symm,BE.out.trans ((below_regrown wr dq osq).mono BE.out.size)⟩
    ·go_wp2;refine wp_region_quiet_below (by kernel_rfl) (by kernel_rfl) ?_
     repeat (go_big_quiet_step (fail))
     refine wpQuiet_nil ?_;intro _ hw';obtain⟨⟨dq,osq⟩,hw''⟩:=hw';subst hw'';clear ix iy p0 p1 p2 p3 p4 q0 q1 q2 q3 q4 hne;go_wp2
     go_roundw
     case rel=>exact⟨k+1,by omega,by go_num,BE.out.trans ((below_regrown wr dq osq).mono BE.out.size),fun j x' y' hj h1 h2=>by
      rcases aC j k with h3|h3
      ·exact AL.out j x' y' h3 h1 h2
      ·obtain rfl:j=k:=by omega
       have e1:=HX.out;have e2:=HY.out;rw [h1] at e1;rw [h2] at e2;rw [U e1,U e2];exact HR.out⟩
     case measure=>simp [intOf]; omega
   ·obtain rfl:k=n:=by omega
    have R:=V (show jJ l m=aG from yx l m (by rw [HN.out]; exact HL.out) (fun j a b h1 h2=>AL.out j a b (by have:=(List.getElem?_eq_some_iff.1 h1).1; have:=HN.out; omega) h1 h2));go_wp2;go_ret;exact⟨dP R.out.symm,BE.out⟩
 ·have R:=V (show jJ l m=ay by
   cases h:jJ l m
   ·rfl
   ·exact absurd (yw _ _ h) hlen)
  have hne:(((l.length:Nat):Int) != ((m.length:Nat):Int))=aG:=by simp; omega
  have hne2:(((l.length:Nat):Int) == ((m.length:Nat):Int))=ay:=by simp; omega
  clear hlen;go_enter aI,aH;go_wp2;go_ret;exact⟨dP R.out.symm,Below.refl _ _⟩
end Pr
namespace Rl
open Go.RowKit Pu Pr
theorem Jp {a b:List Cn} (ha:iP a) (h5:a.length<=5):uV (a++b)=iW a.length a b:=by
 have e:=IY a ha h5;rw [uV] at e;rw [uV,tq a b [] a 0 e,Nat.zero_add]
def iL:List Cn->List Cn->Option (List Cn)
 | m,[]=>L m
 | m,c::r=>match lg m c with
  | none=>K
  | some n=>iL n r
theorem yC:∀ (r m p:List Cn),iP m->iL m r=L p->m.length<=p.length/\iP p
 | [],m,p,hm,h=>by
  obtain rfl:=U h;exact⟨aA _,hm⟩
 | c::r,m,p,hm,h=>by
  simp only [iL] at h;cases hi:lg m c with
  | none=>rw [hi] at h; cases h
  | some n =>
   rw [hi] at h;have e1:=vE m c n hm hi;obtain⟨e2,e3⟩:=yC r n p (jq m c n hm hi).1 h;exact⟨by omega,e3⟩
theorem uL:∀ (r m p:List Cn) (at_:Nat),iP m->m.length<=5->(iW at_ m r=.ok p↔iL m r=L p/\p.length<=5)
 | [],m,p,at_,_,h5=>by
  simp only [iW,iL];constructor
  ·intro h;injection h with h
   subst h;exact⟨rfl,h5⟩
  ·rintro⟨h,_⟩;rw [U h]
 | c::r,m,p,at_,hm,h5=>by
  simp only [iW,iL];cases hi:lg m c with
  | none =>
   constructor
   ·intro h; cases h
   ·rintro⟨h,_⟩; cases h
  | some n =>
   simp only;have hn:=(jq m c n hm hi).1;by_cases h6:5<n.length
   ·rw [if_pos h6];constructor
    ·intro h; cases h
    ·rintro⟨h,h7⟩;have:=(yC r n p hn h).1;omega
   ·rw [if_neg h6];exact uL r n p (at_+1) hn (by omega)
theorem qK:∀ (a b m m':List Cn),iL m a=L m'->iL m (a++b)=iL m' b
 | [],b,m,m',h=>by
  obtain rfl:=U h
  rfl
 | c::r,b,m,m',h=>by
  simp only [List.cons_append,iL] at h ⊢;cases hi:lg m c with
  | none=>rw [hi] at h; cases h
  | some n =>
   rw [hi] at h;exact qK r b n m' h
theorem yD:∀ (p m:List Cn),iP (m++p)->iL m p=L (m++p)
 | [],m,_=>by simp [iL]
 | c::r,m,h=>by
  have h1:∀ x∈m,Op.bytesLess x.1.toList c.1.toList=aG:=fun x hx=>(List.pairwise_append.1 h).2.2 x hx c (List.mem_cons_self ..);simp only [iL];rw [zC m c h1];simp only;rw [yD r (m++[c]) (by simpa using h)];simp
theorem K9 {a b:List Cn} (ha:iP a):iL [] (a++b)=iL a b:=qK a b [] a (by simpa using yD a [] (by simpa using ha))
theorem La {a b:List Cn} (ha:iP a) (h5:a.length<=5):oh a b=match iL a b with
  | some p=>decide (p.length<=5)
  | none=>ay:=by
 unfold oh;cases h:iL a b with
 | none =>
  cases h2:iW a.length a b with
  | ok p =>
   have:=(uL b a p a.length ha h5).1 h2;rw [h] at this;cases this.1
  | error e=>rfl
 | some p =>
  by_cases h6:p.length<=5
  ·rw [(uL b a p a.length ha h5).2 ⟨h,h6⟩];simp [h6]
  ·cases h2:iW a.length a b with
   | ok q =>
    have h3:=(uL b a q a.length ha h5).1 h2;rw [h] at h3;obtain rfl:=U h3.1;exact absurd h3.2 h6
   | error e=>simp [h6]
end Rl
namespace Rl
open Go.RowKit Pu Rw Pr
def EA:Ek An:=⟨156,39,4,48,.agg #[Y ⟨#[]⟩,.bool ay,au X 0,Y ⟨#[]⟩],At.av,At.UM⟩
end Rl
namespace Pr
open Go.RowKit Go.Sort Pu Rw
theorem Qu {W:World} {b:Nat} {c:C5} (h:dI W b (cells5 c).toArray 70):eY W (D (L ⟨b,0,K⟩) 1 1) [c] :=
 Or.inr ⟨⟨b,0,K⟩,1,rfl,by simp,by decide,oQ h (by simp [EC])⟩
def Ef (B:Nat) (l:List C5) (k:Nat) (c:C5) (W:World) (e:Ending) (w':World):Prop:=∃ v',e=.returned v'/\gG w' B v' (l.take k++c::l.drop k)/\Below B W w'
theorem Eh (B:Nat) (v:Value) (l:List C5) (c:C5) (b:Nat) (W:World) (ho:gG W B v l) (hx:dI W b (cells5 c).toArray 70) (hl:l.length<=100) (hB:B<=W.heap.size) :
  Calls J 180 #[v,au X (l.length:Nat),D (L ⟨b,0,K⟩) 1 1] W (Ef B l l.length c W):=by
 obtain⟨v',w',hr,ho2,hg⟩:=xJ B ho (Qu hx) (by omega) (by simp) hB;have Q:=V (show Ef B l l.length c W (.returned v') w' from ⟨v',rfl,by rw [List.take_of_length_le (aA _),List.drop_of_length_le (aA _)]; exact ho2,(Below.refl B W).grown hg hB (fun j hj=>(ho.lt j hj).1)⟩);obtain⟨sx,hs,_⟩:=hiC (Row.dG ho) l.length (aA _);obtain⟨ao,ac,rfl⟩:=(Row.dG ho).len;clear ho ho2 hg;generalize hn:l.length=n at *;clear hn;go_enter aD,aB;go_wp2_with (first | (at_builtin; refine wpList_append_run rfl _ _ 32 rfl rfl rfl hr ?_) | fail);go_ret;exact Q.out
theorem Qv (w:World) (g b k la lb cb:Nat) (cur cs:Array Value) (hb:dI w b cs 70) (hg:dI w g cur 70) (hne:b≠g) (h0:0<cur.size):(callFunc 187 #[D (L ⟨b,0,K⟩) la 1,D (L ⟨g,k,K⟩) lb cb]).run J w=.ok (.value (.bool ay)) w:=by
 rw [run_callFunc_extern Tryz.func187 (by kernel_rfl) (by kernel_rfl) (by kernel_rfl) (e:=Extern.SlicesOverlaps.overlaps #[32,32] #[4]) (by kernel_rfl),
  Lib.run_overlaps_apart w 32 4 70 Tryz.underlying32 5 Tryz.sizeOf70 ⟨b,0,K⟩ ⟨g,k,K⟩ la 1 lb cb hne 70 70 cs.size cur.size hb.shape hg.shape (by omega) (hb.fr 0) (hb.fr _)]
 rfl
theorem zL (B g n cap:Nat) (cur:Array Value) (l:List C5) (k:Nat) (c:C5) (b:Nat) (W:World) (hn:n=l.length) (hBg:B<=g) (hg:dI W g cur 70) (hcm:cap<=maxLen) (hsz:cur.size=cap * 5) (ht:cur.toList.take (n * 5)=flat EC l) (hx:dI W b (cells5 c).toArray 70) (hne:b≠g) (hk:k<n) (hroom:n+1<=cap) (hl:n<=100) :
  Calls J 180 #[D (L ⟨g,0,K⟩) n cap,au X k,D (L ⟨b,0,K⟩) 1 1] W (Ef B l k c W):=by
 obtain⟨R1,R2,r1,r2,ow⟩:=oU (E:=EC) (l:=l) (k:=k) (cap:=cap) (cur:=cur) (cs:=(cells5 c).toArray) (c:=c) p9 (by omega) (by omega) hsz (by rw [<- hn]; exact ht) g b hne;have hov:=fun lb cb=>Qv W g b ((k+1) * 5) 1 lb cb cur (cells5 c).toArray hx hg hne (by omega);have s0:=gK (E:=EC) p9 g k n cap (by omega) (by omega);have s1:=jc (E:=EC) p9 ⟨g,0,K⟩ (n+1) n cap (by omega);have s2:=gK (E:=EC) p9 g (k+1) (n+1) cap (by omega) (by omega);have s3:=gK (E:=EC) p9 g k (n+1) cap (by omega) (by omega);have q1:=r1 W.drew 3 (n+1-(k+1)) (cap-(k+1)) (n+1-k) (cap-k) hg (by omega);have q2:=r2 (W.drew.setRow g R1) 3 (n+1-k) (cap-k) (dI.set (show dI W.drew g cur 70 from hg) R1) (dI.other (show dI W.drew b _ 70 from hx) hne R1) rfl (by omega);have Q:=V (show Ef B l k c W (.returned (D (L ⟨g,0,K⟩) (n+1) cap)) ((W.drew.setRow g R1).setRow g R2) from ⟨_,rfl,by rw [hn]; exact ow _ B hBg hcm (dI.set (dI.set (show dI W.drew g cur 70 from hg) R1) R2),below_setRow (below_setRow (Below.refl B W).drew hBg _) hBg _⟩);clear r1 r2 ow hg ht hx hsz hBg hcm;change ∀ w,(O 32 (D (L ⟨g,0,K⟩) n cap) (L (au X k)) K K).run J w=.ok (D (L ⟨g,k * 5,K⟩) (n-k) (cap-k)) w at s0;change ∀ w,(O 32 (D (L ⟨g,0,K⟩) n cap) K (L (au X ((n:Int)+1))) K).run J w=.ok (D (L ⟨g,0,K⟩) (n+1) cap) w at s1;change ∀ w,(O 32 (D (L ⟨g,0,K⟩) (n+1) cap) (L (au X ((k:Int)+1))) K K).run J w=.ok (D (L ⟨g,(k+1) * 5,K⟩) (n+1-(k+1)) (cap-(k+1))) w at s2;change ∀ w,(O 32 (D (L ⟨g,0,K⟩) (n+1) cap) (L (au X k)) K K).run J w=.ok (D (L ⟨g,k * 5,K⟩) (n+1-k) (cap-k)) w at s3;have e1:((k:Int) == (n:Int))=ay:=by rw [beq_eq_false_iff_ne]; omega
 have e2:decide ((cap:Int)<(n:Int)+1)=ay:=by simp; omega
 change (ah #[32,32] 3 #[D (L ⟨g,(k+1) * 5,K⟩) (n+1-(k+1)) (cap-(k+1)),D (L ⟨g,k * 5,K⟩) (n+1-k) (cap-k)]).run J W.drew=.ok (au X ((l.length-k:Nat):Int)) (W.drew.setRow g R1) at q1;change (ah #[32,32] 3 #[D (L ⟨g,k * 5,K⟩) (n+1-k) (cap-k),D (L ⟨b,0,K⟩) 1 1]).run J (W.drew.setRow g R1)=.ok (au X 1) ((W.drew.setRow g R1).setRow g R2) at q2;clear hn;go_enter aD,aB;go_wp2_with (first | (simp only [hov]) | fail);clear hov s0 s1 s2 s3;have hw1:IntKind.i64.wrap ((k:Int)+1)=(k:Int)+1:=by rw [aF]; omega
 have hb1:(0:Int)<=(k:Int)+1:=by omega
 have hb0:(k:Int)+1<=(n:Int)+1:=by omega
 have htn:((k:Int)+1).toNat=k+1:=by omega
 have hb2:¬ (cap=k+1):=by omega
 have hb3:(k:Int)<=(n:Int)+1:=by omega
 have hb4:¬ (cap=k):=by omega
 have h81:n+1-(k+1)=n-k:=by omega
 rw [h81] at q1;clear h81
 go_region_law (refine gZ rfl (.tmp 73) (.tmp 76) 32 rfl (v:=D (L ⟨g,(k+1) * 5,K⟩) (n-k) (cap-(k+1))) (xv:=D (L ⟨g,k * 5,K⟩) (n+1-k) (cap-k)) (by simp [Act.eval,Act.put]) (by simp [Act.eval,Act.put]) q1 ?_)
 all_goals simp only [Exit.then]
 all_goals apply_assumption
 clear q1 hw1 hb1 hb0 htn hb2 hb3 hb4;have s3:=gK (E:=EC) p9 g k (n+1) cap (by omega) (by omega);change ∀ w,(O 32 (D (L ⟨g,0,K⟩) (n+1) cap) (L (au X k)) K K).run J w=.ok (D (L ⟨g,k * 5,K⟩) (n+1-k) (cap-k)) w at s3;go_wp2_with (first | (at_builtin; refine wpList_copy_run rfl _ _ 32 rfl rfl rfl q2 ?_) | fail);go_ret;exact Q.out
theorem AA (B g n cap:Nat) (cur:Array Value) (l:List C5) (k:Nat) (c:C5) (b:Nat) (W:World) (hn:n=l.length) (hg:dI W g cur 70) (hcm:cap<=maxLen) (hnc:n<=cap) (ht:cur.toList.take (n * 5)=flat EC l) (hx:dI W b (cells5 c).toArray 70) (hk:k<n) (hroom:cap<n+1) (hl:n<=100) (hB:B<=W.heap.size) :
  Calls J 180 #[D (L ⟨g,0,K⟩) n cap,au X k,D (L ⟨b,0,K⟩) 1 1] W (Ef B l k c W):=by
 have hgw:=hg.lt;have hbw:=hx.lt;obtain⟨G,R1,R2,R3,hG1,hG2,r1,r2,r3,ow⟩:=qF (E:=EC) (l:=l) (k:=k) (cap:=cap) (cur:=cur) (cs:=(cells5 c).toArray) (c:=c) p9 3 Tryz.underlying3 (by omega) (by omega) (by omega) (by omega) (by rw [<- hn]; exact ht) W g b hg hbw;unfold maxLen at hcm hG2;have s0:=gK (E:=EC) p9 g k n cap (by omega) (by omega);have s1:=jc (E:=EC) p9 ⟨g,0,K⟩ k n cap (by omega);have s2:=gK (E:=EC) p9 W.heap.size k (n+1) G (by omega) (by omega);have s3:=gK (E:=EC) p9 W.heap.size (k+1) (n+1) G (by omega) (by omega);have a1:=r1 32;have n1:=dL W.drew R1 70;have bl:W.drew.heap.size=W.heap.size:=rfl;rw [bl] at n1;have g1:dI (W.drew.alloc (aj R1 70)) g cur 70:=dI.more (show dI W.drew g cur 70 from hg) _;have x1:dI (W.drew.alloc (aj R1 70)) b (cells5 c).toArray 70:=dI.more (show dI W.drew b _ 70 from hx) _;have q2:=r2 (W.drew.alloc (aj R1 70)) 3 (n+1-k) (G-k) n1 x1 rfl (by omega);have q3:=r3 ((W.drew.alloc (aj R1 70)).setRow W.heap.size R2).drew 3 (n+1-(k+1)) (G-(k+1)) (n-k) (cap-k) (dI.set n1 R2) (dI.other g1 (by omega) R2) (by omega);have Q:=V (show Ef B l k c W (.returned (D (L ⟨W.heap.size,0,K⟩) (n+1) G)) (((W.drew.alloc (aj R1 70)).setRow W.heap.size R2).drew.setRow W.heap.size R3) from ⟨_,rfl,by rw [hn]; exact ow _ B hB (dI.set (dI.set n1 R2) R3),below_setRow (below_setRow ((Below.refl B W).drew.alloc hB _) hB _).drew hB _⟩);have l1:l.length+1=n+1:=by rw [hn]
 rw [l1,<- hn] at a1;clear r1 r2 r3 ow hg ht hx g1 x1 n1 bl l1;change ∀ w,(O 32 (D (L ⟨g,0,K⟩) n cap) (L (au X k)) K K).run J w=.ok (D (L ⟨g,k * 5,K⟩) (n-k) (cap-k)) w at s0;change ∀ w,(O 32 (D (L ⟨g,0,K⟩) n cap) K (L (au X k)) K).run J w=.ok (D (L ⟨g,0,K⟩) k cap) w at s1;change ∀ w,(O 32 (D (L ⟨W.heap.size,0,K⟩) (n+1) G) (L (au X k)) K K).run J w=.ok (D (L ⟨W.heap.size,k * 5,K⟩) (n+1-k) (G-k)) w at s2;change ∀ w,(O 32 (D (L ⟨W.heap.size,0,K⟩) (n+1) G) (L (au X ((k:Int)+1))) K K).run J w=.ok (D (L ⟨W.heap.size,(k+1) * 5,K⟩) (n+1-(k+1)) (G-(k+1))) w at s3;change (Builtin.append_ #[32,3] 32 #[D (L ⟨g,0,K⟩) k cap,au X ((n:Int)+1-k)]).run J W=.ok (D (L ⟨W.heap.size,0,K⟩) (n+1) G) (W.drew.alloc (aj R1 70)) at a1;change (ah #[32,32] 3 #[D (L ⟨W.heap.size,k * 5,K⟩) (n+1-k) (G-k),D (L ⟨b,0,K⟩) 1 1]).run J (W.drew.alloc (aj R1 70))=.ok (au X 1) ((W.drew.alloc (aj R1 70)).setRow W.heap.size R2) at q2;change (ah #[32,32] 3 #[D (L ⟨W.heap.size,(k+1) * 5,K⟩) (n+1-(k+1)) (G-(k+1)),D (L ⟨g,k * 5,K⟩) (n-k) (cap-k)]).run J ((W.drew.alloc (aj R1 70)).setRow W.heap.size R2).drew=.ok (au X ((l.length-k:Nat):Int)) (((W.drew.alloc (aj R1 70)).setRow W.heap.size R2).drew.setRow W.heap.size R3) at q3;have e1:((k:Int) == (n:Int))=ay:=by rw [beq_eq_false_iff_ne]; omega
 have e2:decide ((cap:Int)<(n:Int)+1)=aG:=by simp; omega
 have hGn:n+1<=G:=by omega
 clear hn;generalize W.heap.size=N at *;generalize W.drew.alloc (aj R1 70)=W1 at *;generalize W1.setRow N R2=W2 at *;go_enter aD,aB;go_wp2_with (first | (at_builtin; refine iA rfl _ _ 32 3 rfl rfl rfl a1 ?_) | (at_builtin; refine wpList_copy_run rfl _ _ 32 rfl rfl rfl q2 ?_) | fail);clear a1 q2 s0 s1 s2 s3;have hw1:IntKind.i64.wrap ((k:Int)+1)=(k:Int)+1:=by rw [aF]; omega
 have hb1:(0:Int)<=(k:Int)+1:=by omega
 have hb0:(k:Int)+1<=(n:Int)+1:=by omega
 have htn:((k:Int)+1).toNat=k+1:=by omega
 have hb2:¬ (G=k+1):=by omega
 have hb3:(k:Int)<=(n:Int):=by omega
 have hb4:¬ (cap=k):=by omega
 have h81:n+1-(k+1)=n-k:=by omega
 rw [h81] at q3;clear h81
 go_region_law (refine gZ rfl (.tmp 50) (.tmp 53) 32 rfl (v:=D (L ⟨N,(k+1) * 5,K⟩) (n-k) (G-(k+1))) (xv:=D (L ⟨g,k * 5,K⟩) (n-k) (cap-k)) (by simp [Act.eval,Act.put]) (by simp [Act.eval,Act.put]) q3 ?_)
 all_goals simp only [Exit.then]
 all_goals apply_assumption
 go_wp2;go_ret;exact Q.out
theorem Ei (B:Nat) (v:Value) (l:List C5) (k:Nat) (c:C5) (b:Nat) (W:World) (ho:gG W B v l) (hx:dI W b (cells5 c).toArray 70) (hne:v.ownBlock≠L b) (hk:k<=l.length) (hl:l.length<=100) (hB:B<=W.heap.size) :
  Calls J 180 #[v,au X k,D (L ⟨b,0,K⟩) 1 1] W (Ef B l k c W):=by
 rcases aC k l.length with h|h
 ·rcases gq ho with⟨_,h2⟩|⟨g,cap,cur,rfl,h1,h2,h3,h4,h5,h6⟩
  ·rw [h2] at h; simp at h
  ·rcases aC cap (l.length+1) with h7|h7
   ·exact AA B g _ cap cur l k c b W rfl h2 h4 h3 h6 hx h h7 hl hB
   ·exact zL B g _ cap cur l k c b W rfl h1 h2 h4 h5 h6 hx (fun e=>hne (by simp [Value.ownBlock,e])) h h7 hl
 ·obtain rfl:k=l.length:=by omega
  exact Eh B v l c b W ho hx hl hB
end Pr
namespace Rg
open Go.RowKit
end Rg
end Go.Proofs.YtmklifheakemeaaGreat
