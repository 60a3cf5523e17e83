/-
  Plain facts on how p. Conditions as told.
-/
import Derived.Lib.Hide
import Derived.WalkLawsBesides
import Derived.IntWalk
import Derived.Test.YtkcfgbddlpomgaaGreatCQ003
import Derived.Lib.QuietBelow
import Derived.BigQuiet
set_option maxRecDepth 100000
set_option maxHeartbeats 64000000
open _root_.Bool renaming and_eq_true->K,true->Y,false->ak
open _root_.Go renaming cell_regrown->J,below_regrown->aB,bodyPost_ret->aD,World->aG,Calls->aH
open Go.Ending renaming returned->O
open Go.IntKind renaming i64->aj
open Go.Lib renaming hid->D
open Go.Value renaming string->U,int->aC,bool->aF
open _root_.Int renaming emod_lt_of_pos->X,tmod_eq_emod->au,emod_nonneg->ay
open _root_.List renaming pairwise_cons->V,mem_cons->Z,getElem?_eq_getElem->ah,mem_map_of_mem->aA
open Option.some renaming inj->L
namespace Go.Proofs.YtkcfgbddlpomgaaGreat
namespace Rl
open Go.RowKit Pu Pr
abbrev An:=ByteArray×V3
def has (m:List Cn) (n:ByteArray):Bool:=m.any fun x=>decide (x.1=n)
def yB (a b:List Cn):Bool:=match yA a.length a b with
 | .ok _=>Y
 | .error _=>ak
theorem MG {c:Cn} {r:List Cn} (h:mU (c::r)):∀ y∈r,y.1≠c.1:=fun y hy e=>Du ((V.1 h).1 y hy) e.symm
theorem yC:∀ (m:List Cn) (c:Cn) (m':List Cn),mU m->qB m c=some m'->m'.length=m.length+(if has m c.1 then 0 else 1)
 | [],c,m',_,h=>by
  obtain rfl:=L h
  rfl
 | x::r,c,m',hr,h=>by
  obtain⟨h1,h2⟩:=V.1 hr;simp only [qB] at h
  split at h
  ·rename_i hl
   cases hi:qB r c with
   | none=>rw [hi] at h; cases h
   | some n =>
    rw [hi] at h;obtain rfl:=L h;have e:=yC r c n h2 hi;have hx:has (x::r) c.1=has r c.1:=by simp [has,Du hl]
    rw [hx];simp only [List.length_cons];omega
  ·rename_i hl
   split at h
   ·rename_i he
    cases hb:eX x.2 c.2 with
    | none=>rw [hb] at h; cases h
    | some k =>
     rw [hb] at h;obtain rfl:=L h;have hx:has (x::r) c.1=Y:=by simp [has,he]
     rw [hx]
     rfl
   ·rename_i he
    obtain rfl:=L h;have hx:has (x::r) c.1=ak:=by
     simp only [has,List.any_cons,Bool.or_eq_false_iff,decide_eq_false_iff_not,List.any_eq_false,decide_eq_true_eq];refine⟨he,fun y hy e=>?_⟩;have h3:=h1 y hy;rw [e] at h3;exact hl h3
    rw [hx]
    rfl
/-! ### match -/
def qD (p:List Cn) (l:List An):Bool:=p.all fun c=>l.any fun a=>decide (a.1=c.1) && dP c.2 a.2
theorem uniq {l:List An} (h:(l.map (·.1)).Nodup) {x y:An} (hx:x∈l) (hy:y∈l) (e:x.1=y.1):x=y:=by
 induction l with
 | nil=>cases hx
 | cons z r ih =>
  simp only [List.map_cons,List.nodup_cons] at h;rcases Z.1 hx with rfl|hx2 <;> rcases Z.1 hy with rfl|hy2
  ·rfl
  ·exact absurd (by rw [e]; exact aA hy2) h.1
  ·exact absurd (by rw [<- e]; exact aA hx2) h.1
  ·exact ih h.2 hx2 hy2
theorem abC {l:List Cn} (h:mU l) {x y:Cn} (hx:x∈l) (hy:y∈l) (e:x.1=y.1):x=y:=by
 induction l with
 | nil=>cases hx
 | cons z r ih =>
  have h1:=MG h;have h2:=(V.1 h).2;rcases Z.1 hx with rfl|hx2 <;> rcases Z.1 hy with rfl|hy2
  ·rfl
  ·exact absurd e.symm (h1 y hy2)
  ·exact absurd e (h1 x hx2)
  ·exact ih h2 hx2 hy2
/-! ### cover -/
def eB:Kd->Kd->Bool
 | .rg p q,.rg r s=>decide (r<=p) && decide (q<=s)
 | .tx s,.tx t=>s.data.toList == t.data.toList
 | .tx s,.pr t=>pfx t s
 | .pr s,.pr t=>pfx t s
 | _,_=>ak
theorem tq (a b:Kd) (h:eB a b=Y) (v:V3) (hv:dP a v=Y):dP b v=Y:=by
 obtain⟨t,n,u⟩:=v;cases a <;> cases b <;> simp only [eB,K,decide_eq_true_eq,beq_iff_eq] at h <;> simp only [dP,K,decide_eq_true_eq,beq_iff_eq] at hv ⊢
 ·exact⟨hv.1,by omega,by omega⟩
 ·cases h
 ·cases h
 ·cases h
 ·exact⟨hv.1,hv.2.trans h⟩
 ·exact⟨hv.1,by rw [fE,hv.2,<- fE]; exact h⟩
 ·cases h
 ·cases h
 ·exact⟨hv.1,(fE _ _).2 (((fE _ _).1 h).trans ((fE _ _).1 hv.2))⟩
theorem Aw (a b:Kd) (ha:iV a=Y) (h:∀ v,dP a v=Y->dP b v=Y):eB a b=Y:=by
 cases a with
 | rg p q =>
  simp only [iV,decide_eq_true_eq] at ha;have h1:=h (ak,p,⟨#[]⟩) (by rw [yx]; simp [ha]);have h2:=h (ak,q,⟨#[]⟩) (by rw [yx]; simp [ha]);cases b with
  | rg r s =>
   rw [yx] at h1 h2;simp only [K,decide_eq_true_eq] at h1 h2;simp [eB,h1.1,h2.2]
  | tx t=>simp [dP] at h1
  | pr t=>simp [dP] at h1
 | tx s =>
  have h1:=h (Y,0,s) (by rw [lY]; simp);cases b with
  | rg r t=>rw [sw] at h1; cases h1
  | tx t=>rw [lY] at h1; exact h1
  | pr t=>rw [kF] at h1; exact h1
 | pr s =>
  have h1:=h (Y,0,s) (by rw [kF]; exact nM s);cases b with
  | rg r t=>rw [sw] at h1; cases h1
  | tx t =>
   have h2:=h (Y,0,more s) (by rw [kF]; exact Fe s);rw [lY,beq_iff_eq] at h1 h2;rw [<- h1] at h2;have h3:=congrArg List.length h2;simp [more] at h3
  | pr t=>rw [kF] at h1; exact h1
def ou (a b:List Cn):Bool:=a.all fun x=>b.any fun y=>decide (y.1=x.1) && eB y.2 x.2
end Rl
namespace Wi
open Go.RowKit
def within (n lo hi:Int):Int:=lo+n % (hi-lo+1)
theorem iL (n lo hi:Int) (h:lo<=hi):lo<=within n lo hi/\within n lo hi<=hi:=by
 unfold within;have h1:=ay n (show hi-lo+1≠0 by omega);have h2:=X n (show 0<hi-lo+1 by omega);omega
theorem IW (n lo hi:Int) (h:lo<=hi) (hn:¬ n.tmod (hi-lo+1)<0):lo+n.tmod (hi-lo+1)=within n lo hi:=by
 unfold within;rw [au] at hn ⊢
 split at hn
 ·rename_i h0; rw [if_pos h0]; omega
 ·rename_i h0
  rw [if_neg h0] at *;have h2:=X n (show 0<hi-lo+1 by omega);have:((hi-lo+1).natAbs:Int)=hi-lo+1:=by omega
  omega
theorem IY (n lo hi:Int) (h:lo<=hi) (hn:n.tmod (hi-lo+1)<0):lo+(n.tmod (hi-lo+1)+hi-lo+1)=within n lo hi:=by
 unfold within;rw [au] at hn ⊢
 split at hn
 ·have h1:=ay n (show hi-lo+1≠0 by omega);omega
 ·rename_i h0
  rw [if_neg h0] at *;have:((hi-lo+1).natAbs:Int)=hi-lo+1:=by omega
  omega
theorem Vg (n m:Int) (h:0<m):-m<n.tmod m/\n.tmod m<m:=by
 rw [au];have h1:=ay n (show m≠0 by omega);have h2:=X n h
 split <;> omega
theorem xS {k:IntKind} {a b:Int} (h:a=b):O (aC k a)=O (aC k b):=by rw [h]
theorem gI (n lo hi:Int) (w:aG) (h:lo<=hi) (h1:-1000000<=lo) (h2:hi<=1000000) (_hn1:-9223372036854775808<=n) (_hn2:n<=9223372036854775807) :
  aH Tryz.prog 9 #[aC aj n,aC aj lo,aC aj hi] w fun e w'=>e=O (aC aj (within n lo hi))/\w=w':=by
 have hm:0<hi-lo+1:=by omega
 have hm2:hi-lo+1<=2000001:=by omega
 have hb:=Vg n (hi-lo+1) hm;have P:=D (IW n lo hi h);have Q:=D (IY n lo hi h);go_enter Tryz.func9,Tryz.ntmps9;go_wp2
 ·go_ret;exact⟨xS (Q.out (by omega)),rfl⟩
 ·go_ret;exact⟨xS (P.out (by omega)),rfl⟩
end Wi
namespace Va
open Go.RowKit
abbrev vl (t:Bool) (n:Int) (s:ByteArray):Value:=.agg #[aF t,aC aj n,U s]
def Dw (t:Bool) (n:Int) (s:ByteArray):Bool:=if t then decide (n=0) && decide (s.size<=12) else s.toList.isEmpty
theorem dZ {a b:Bool} (h:a=b):O (aF a)=O (aF b):=by rw [h]
def Zq:Array Value:=#[U ⟨#[]⟩,U ⟨#[120]⟩,U ⟨#[120,121]⟩,U ⟨#[120,121,122]⟩,U ⟨#[120,122]⟩,U ⟨#[121]⟩,U ⟨#[121,121]⟩]
def oz (r:Int):ByteArray:=[⟨#[]⟩,⟨#[120]⟩,⟨#[120,121]⟩,⟨#[120,121,122]⟩,⟨#[120,122]⟩,⟨#[121]⟩,⟨#[121,121]⟩].getD r.toNat ⟨#[]⟩
theorem J8 (r:Int) (h0:0<=r) (h1:r<=6):Zq[r.toNat]?=some (U (oz r)):=by
 obtain⟨n,rfl⟩:=Int.eq_ofNat_of_zero_le h0;have hn:n<=6:=by omega
 match n,hn with
 | 0,_=>rfl
 | 1,_=>rfl
 | 2,_=>rfl
 | 3,_=>rfl
 | 4,_=>rfl
 | 5,_=>rfl
 | 6,_=>rfl
theorem vO (w:aG) :
  aH Tryz.prog 65 #[] w fun e w'=>e=O (.slice (some ⟨w.heap.size,0,none⟩) 7 7)/\w'=w.alloc (.cells Zq 9):=by
 go_enter Tryz.func65,Tryz.ntmps65;go_wp2;go_ret;exact⟨rfl,rfl⟩
def Xk (n:Int):Bool:=bits BinOp.and aj n 1 == 0
def U8 (n:Int):Int:=if Xk n then Wi.within (n.tdiv 2) 0 9 else 0
def Pp (n:Int):ByteArray:=if Xk n then ⟨#[]⟩ else oz (Wi.within (n.tdiv 2) 0 6)
theorem Vh (n:Int) (h1:-9223372036854775808<=n) (h2:n<=9223372036854775807):-9223372036854775808<=n.tdiv 2/\n.tdiv 2<=9223372036854775807:=by
 have hs:Int.sign 2=1:=rfl;rw [Int.tdiv_eq_ediv,hs]
 split <;> omega
theorem IZ (n:Int) (w:aG) (h1:-9223372036854775808<=n) (h2:n<=9223372036854775807) :
  aH Tryz.prog 32 #[aC aj n] w fun e w'=>e=O (vl (!(Xk n)) (U8 n) (Pp n))/\Below w.heap.size w w':=by
 have hh:=Vh n h1 h2;cases he:Xk n
 ·have hev:(bits BinOp.and aj n 1 == 0)=ak:=he;have hw:=Wi.iL (n.tdiv 2) 0 6 (by omega);have C:=D (fun wx=>Wi.gI (n.tdiv 2) 0 6 wx (by omega) (by omega) (by omega) hh.1 hh.2);have KN:=D (show U8 n=0 by simp [U8,he]);have KS:=D (show Pp n=oz (Wi.within (n.tdiv 2) 0 6) by simp [Pp,he]);clear he hh;generalize Wi.within (n.tdiv 2) 0 6=r at C KS hw;have hr0:=hw.1;have hr1:=hw.2;have TX:=D (J8 r hr0 hr1);clear hw;go_enter Tryz.func32,Tryz.ntmps32;go_wp2_with fail;refine (vO _).mono ?_;rintro e1 w1 ⟨rfl,rfl⟩;go_wp2_with fail;refine (C.out _).mono ?_;rintro e2 w2 ⟨rfl,rfl⟩;have hc:((w.alloc (.cells #[aF ak,aC aj 0,U ⟨#[]⟩] 93)).alloc (.cells Zq 9)).cell? ⟨w.heap.size+1,r.toNat,none⟩=some (U (oz r)):=by
   rw [World.cell?_alloc_at _ _ _ _ (by simp)]; exact TX.out
  go_wp2;rw [KN.out,KS.out];exact aD (v:=vl Y 0 (oz r)) (by simp [results,Tryz.results32,go_sem]) rfl ⟨rfl,((Below.refl _ _).alloc (Nat.le_refl _) _).alloc (by simp) _⟩
 ·have hev:(bits BinOp.and aj n 1 == 0)=Y:=he;have C:=D (fun wx=>Wi.gI (n.tdiv 2) 0 9 wx (by omega) (by omega) (by omega) hh.1 hh.2);have KN:=D (show U8 n=Wi.within (n.tdiv 2) 0 9 by simp [U8,he]);have KS:=D (show Pp n=⟨#[]⟩ by simp [Pp,he]);clear he hh;generalize Wi.within (n.tdiv 2) 0 9=r at C KN;go_enter Tryz.func32,Tryz.ntmps32;go_wp2_with fail;refine (C.out _).mono ?_;rintro e2 w2 ⟨rfl,rfl⟩;go_wp2;rw [KN.out,KS.out];exact aD (v:=vl ak r ⟨#[]⟩) (by simp [results,Tryz.results32,go_sem]) rfl ⟨rfl,(Below.refl _ _).alloc (Nat.le_refl _) _⟩
theorem yD (r:Int):(oz r).size<=3:=by
 unfold oz;rcases Nat.lt_or_ge r.toNat 7 with h|h
 ·generalize r.toNat=n at h
  match n,h with
  | 0,_=>decide
  | 1,_=>decide
  | 2,_=>decide
  | 3,_=>decide
  | 4,_=>decide
  | 5,_=>decide
  | 6,_=>decide
 ·rw [List.getD_eq_getElem?_getD,List.getElem?_eq_none (by simpa using h)]
  decide
theorem Fp (n:Int):(Pp n).size<=3:=by
 unfold Pp; split
 ·decide
 ·exact yD _
theorem Pv (n:Int):Dw (!(Xk n)) (U8 n) (Pp n)=Y:=by
 have hs:=Fp n;cases h:Xk n
 ·have h0:U8 n=0:=by simp [U8,h]
  simp [Dw,h0]; omega
 ·have h0:Pp n=⟨#[]⟩:=by simp [Pp,h]
  rw [h0]; simp [Dw]
end Va
namespace Pr
open Go.RowKit Go.Sort Pu Rw Va
def ku:List C5->List C5->Bool
 | [],[]=>Y
 | x::l,y::m=>xH x y && ku l m
 | _,_=>ak
theorem Bj:∀ l m,ku l m=Y->l.length=m.length
 | [],[],_=>rfl
 | x::l,y::m,h=>by
  simp only [ku,K] at h;simp [Bj l m h.2]
 | [],y::m,h=>by simp [ku] at h
 | x::l,[],h=>by simp [ku] at h
theorem Bl:∀ l m,l.length=m.length->(∀ (k:Nat) (x y:C5),l[k]?=some x->m[k]?=some y->xH x y=Y)->ku l m=Y
 | [],[],_,_=>rfl
 | x::l,y::m,hl,h=>by
  simp only [ku,K];exact⟨h 0 x y rfl rfl,Bl l m (by simpa using hl) (fun k a b ha hb=>h (k+1) a b (by simpa using ha) (by simpa using hb))⟩
 | [],y::m,hl,_=>by simp at hl
 | x::l,[],hl,_=>by simp at hl
theorem Bn:∀ (l m:List C5) (k:Nat) (x y:C5),l[k]?=some x->m[k]?=some y->xH x y=ak->ku l m=ak
 | [],_,k,x,y,h,_,_=>by simp at h
 | _::_,[],k,x,y,_,h,_=>by simp at h
 | a::l,b::m,0,x,y,h1,h2,h3=>by
  simp at h1 h2;subst h1 h2;simp [ku,h3]
 | a::l,b::m,k+1,x,y,h1,h2,h3=>by
  simp only [ku,Bn l m k x y (by simpa using h1) (by simpa using h2) h3,Bool.and_false]
theorem Bo:∀ l m:List C5,ku l m=Y↔l=m
 | [],[]=>by simp [ku]
 | x::l,y::m=>by
  simp only [ku,K,Fj,Bo l m,List.cons.injEq]
 | [],y::m=>by simp [ku]
 | x::l,[]=>by simp [ku]
theorem MH (oO bv:Value) (l m:List C5) (w:aG) (ha:fG w oO l) (hb:fG w bv m) (hl:l.length<=1000000) (_hm:m.length<=1000000) :
  aH Tryz.prog 68 #[oO,bv] w fun e w'=>e=O (aF (ku l m))/\Below w.heap.size w w':=by
 have HA:=D ha;have HB:=D hb;obtain⟨ao,ac,rfl⟩:=ha.len;obtain⟨bo,bc,rfl⟩:=hb.len;clear ha hb;by_cases hlen:l.length=m.length
 ·have HL:=D hlen;rw [<- hlen] at HB ⊢;generalize hn:l.length=n at *;have HN:=D hn;clear hlen hn;go_enter Tryz.func68,Tryz.ntmps68;go_wp2
  go_loopw [5] (fun i wr=>∃ k:Nat,k<=n/\i=aC aj k/\Below w.heap.size w wr/\∀ (j:Nat) (x y:C5),j<k->l[j]?=some x->m[j]?=some y->xH x y=Y) (fun i _=>n-(intOf i).toNat)
  case atStart=>exact⟨0,Nat.zero_le _,rfl,Below.refl _ _,fun j x y h=>by omega⟩
  case round =>
   obtain⟨k,hk,rfl,hbe,hall⟩:=hrel;have BE:=D hbe;have AL:=D hall;clear hbe hall;by_cases hlt:k<n
   ·obtain⟨x,hx⟩:∃ x,l[k]?=some x:=⟨_,ah (by rw [HN.out]; exact hlt)⟩;obtain⟨y,hy⟩:∃ y,m[k]?=some y:=⟨_,ah (by rw [<- HL.out]; exact hlt)⟩;obtain⟨p,ix,px⟩:=U7 HA.out rfl HN.out hx;obtain⟨q,iy,py⟩:=U7 HB.out rfl HL.out.symm hy;have p0:=J (px _ BE.out).1;have p1:=J (px _ BE.out).2.1;have p2:=J (px _ BE.out).2.2.1;have p3:=J (px _ BE.out).2.2.2.1;have p4:=J (px _ BE.out).2.2.2.2;have q0:=J (py _ BE.out).1;have q1:=J (py _ BE.out).2.1;have q2:=J (py _ BE.out).2.2.1;have q3:=J (py _ BE.out).2.2.2.1;have q4:=J (py _ BE.out).2.2.2.2;clear px py;obtain⟨r,hr⟩:∃ r,xH x y=r:=⟨_,rfl⟩;have hne:=ad1 x y r hr;have HX:=D hx;have HY:=D hy;have HR:=D hr;clear hx hy hr;cases r
    ·have R:=D (show ku l m=ak from Bn l m k x y HX.out HY.out HR.out);go_wp2;refine wp_region_quiet_below (by kernel_rfl) (by kernel_rfl) ?_
     repeat (go_big_quiet_step (fail))
     refine wpQuiet_nil ?_;intro _ hw';obtain⟨⟨dq,osq⟩,hw''⟩:=hw';subst hw'';go_wp2;go_ret;exact⟨dZ R.out.symm,BE.out.trans ((aB wr dq osq).mono BE.out.size)⟩
    ·go_wp2;refine wp_region_quiet_below (by kernel_rfl) (by kernel_rfl) ?_
     repeat (go_big_quiet_step (fail))
     refine wpQuiet_nil ?_;intro _ hw';obtain⟨⟨dq,osq⟩,hw''⟩:=hw';subst hw'';clear ix iy p0 p1 p2 p3 p4 q0 q1 q2 q3 q4 hne;go_wp2
     go_roundw
     case rel=>exact⟨k+1,by omega,by go_num,BE.out.trans ((aB wr dq osq).mono BE.out.size),fun j x' y' hj h1 h2=>by
      rcases Nat.lt_or_ge j k with h3|h3
      ·exact AL.out j x' y' h3 h1 h2
      ·obtain rfl:j=k:=by omega
       have e1:=HX.out;have e2:=HY.out;rw [h1] at e1;rw [h2] at e2;rw [L e1,L e2];exact HR.out⟩
     case measure=>simp [intOf]; omega
   ·obtain rfl:k=n:=by omega
    have R:=D (show ku l m=Y from Bl l m (by rw [HN.out]; exact HL.out) (fun j a b h1 h2=>AL.out j a b (by have:=(List.getElem?_eq_some_iff.1 h1).1; have:=HN.out; omega) h1 h2));go_wp2;go_ret;exact⟨dZ R.out.symm,BE.out⟩
 ·have R:=D (show ku l m=ak by
   cases h:ku l m
   ·rfl
   ·exact absurd (Bj _ _ h) hlen)
  have hne:(((l.length:Nat):Int) != ((m.length:Nat):Int))=Y:=by simp; omega
  have hne2:(((l.length:Nat):Int) == ((m.length:Nat):Int))=ak:=by simp; omega
  clear hlen;go_enter Tryz.func68,Tryz.ntmps68;go_wp2;go_ret;exact⟨dZ R.out.symm,Below.refl _ _⟩
end Pr
end Go.Proofs.YtkcfgbddlpomgaaGreat
