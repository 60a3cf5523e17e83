/-
  Small things for reg. Conditions as told.
-/
import Derived.Test.YtkcfgbddlpomgaaGreatDQ006
import Derived.Lib.QuietBelow
import Derived.BigQuiet
set_option maxRecDepth 100000
set_option maxHeartbeats 64000000
open _root_.Bool renaming and_eq_true->L,true->V,false->aB
open _root_.Go renaming cell_regrown->J,Value->aj,World->aA,below_regrown->aC,TypeId->aD,Operand->aI
open Go.Lib renaming hid->U
open Go.Proofs.Tryz renaming prog->ak,ntmps68->aF,func68->aH
open Go.Region renaming binds->X
open _root_.List renaming pairwise_cons->Y,getElem?_eq_getElem->Z,mem_cons->ah,mem_map_of_mem->ay
open _root_.Option renaming some->au,none->aG
open Option.some renaming inj->O
namespace Go.Proofs.YtkcfgbddlpomgaaGreat
namespace Rg
open Go.RowKit
theorem fM {P:Program} {ops:Array Oper} {Q:Exit->Act->aA->Prop} {K:Act->aA->Prop} {a:Act} {w w':aA} {i:Nat} {o:Oper} (t:aD) (x y:aI) {p v:aj}
  (ho:ops[i]?=au o) (hg:o.guard=aG) (hop:o.op=.store t x y) (hd:o.dst=aG) (hx:a.eval x=p) (hy:a.eval y=v) (hr:(Instr.storeAt t p v).run P w=.ok () w') (h:K a w'):wpOp P ops Q i K a w:=by
 refine VZ ho hg (Qh a.eval o t x y hop (by rw [hx,hy]; exact hr)) ?_;rw [hd];exact h
def D9 (l:List Oper) (i:Nat):List Nat:=match l[i]? with
 | some o=>(o.after.toList.filter fun e=>X .any e).map fun e=>e.on
 | none=>[]
def Jl (l:List Oper):Nat->List Nat->List Nat
 | 0,s=>s
 | n+1,s=>Jl l n (s++s.flatMap (D9 l))
theorem Kq {l:List Oper} {D:Nat->Prop} {i:Nat} (h:∀ o,l[i]?=au o->∀ e∈o.after,X .any e=V->D e.on):∀ j∈D9 l i,D j:=by
 intro j hj;unfold D9 at hj;cases ho:l[i]? with
 | none=>rw [ho] at hj; cases hj
 | some o =>
  rw [ho] at hj;obtain⟨e,he,rfl⟩:=List.mem_map.1 hj;obtain⟨h1,h2⟩:=List.mem_filter.1 he;exact h o ho e (Array.mem_toList_iff.1 h1) h2
theorem FZ {l:List Oper} {D:Nat->Prop} (hc:∀ j o,D j->l[j]?=au o->∀ e∈o.after,X .any e=V->D e.on):∀ n s,(∀ j∈s,D j)->∀ j∈Jl l n s,D j
 | 0,_,hs=>hs
 | n+1,s,hs=>FZ hc n _ fun j hj=>by
  rcases List.mem_append.1 hj with h|h
  ·exact hs j h
  ·obtain⟨i,hi,hd⟩:=List.mem_flatMap.1 h;exact Kq (fun o ho=>hc i o (hs i hi) ho) j hd
theorem jc {l:List Oper} {M:Nat} (n:Nat) (h:(List.range M).all (fun i=>(Jl l n (D9 l M)).contains i)=V) (D:Nat->Prop) (hc:∀ j o,D j->l[j]?=au o->∀ e∈o.after,X .any e=V->D e.on) (hm:∀ o,l[M]?=au o->∀ e∈o.after,X .any e=V->D e.on):∀ i,i<M->D i:=by
 intro i hi;have h2:=List.all_eq_true.1 h i (List.mem_range.2 hi);exact FZ hc n _ (Kq hm) i (List.contains_iff_mem.1 h2)
theorem yE {P:Program} (ρ:aI->aj) (o:Oper) (t:aD) (ho:o.op=.alloc t) {v:aj} {w w':aA} (hr:(Instr.alloc t V (.tuple #[])).run P w=.ok v w'):(execOp ρ o).run P w=.ok (.value v) w':=by
 simp [execOp,ho,hr,Result.andThen]
end Rg
namespace Rw
open Go.RowKit
theorem gy {α:Type} {E:Ek α} (K:E.Ok) {w:aA} (B:Nat) {g:Nat} {x:aj} {m:List α} (lJ:dJ w g #[] E.t) (hBg:B<=g) (hx:Row E w x m) (hm:m.length<=1000) (ty:aD) :
  ∃ v' w',(Builtin.append_ #[E.ts,E.ts] ty #[.slice (au ⟨g,0,aG⟩) 0 0,x]).run ak w=.ok v' w'/\Own E w' B v' m/\Below w.heap.size w w':=by
 have ho:Own E w B (.slice (au ⟨g,0,aG⟩) 0 0) ([]:List α):=uF K rfl hBg lJ (Nat.le_refl _) (Nat.zero_le _) (by simp) (by simp [flat]);have hl:=lJ.lt;obtain⟨v',w',r,o',gr⟩:=fT K B ho hx (by simp) hm (by omega) ty;refine⟨v',w',r,by simpa using o',?_⟩;obtain⟨i,i1,i2,i3,i4⟩:=K.info;rcases hx with⟨rfl,rfl⟩|⟨ad,c,rfl,h2,h3,h4⟩
 ·have r2:=run_append_owned_none (P:=ak) (w:=w) B E.ts ty E.t i E.n K.hu i1 _ _ _ ho;rw [r2] at r;injection r with _ e
  rw [<- e];exact Below.refl _ _
 ·rcases Nat.eq_zero_or_pos m.length with h0|h0
  ·have r2:=run_append_room (P:=ak) (w:=w) E.ts ty E.t i K.hu i1 g 0 0 #[] lJ ad m.length c (flat E m) (by rw [dZ K,i3]) h4 (o9 K m) (by omega) (by rw [dZ K,h0]; simp);rw [r2] at r;injection r with _ e
   rw [<- e];have hf:flat E m=[]:=List.eq_nil_of_length_eq_zero (by rw [dZ K,h0]; simp);have hs:=dJ.set lJ ((#[]:Array aj).toList.take (0 * i.size)++flat E m++(#[]:Array aj).toList.drop (0 * i.size+(flat E m).length)).toArray;refine⟨rfl,rfl,rfl,by simp [World.setRow],fun k hk=>?_⟩;by_cases hkg:k=g
   ·subst hkg;refine hs.trans ?_;rw [hf];simpa using lJ.symm
   ·exact setRow_other w g k _ hkg
  ·have r2:=run_append_grow (P:=ak) (w:=w) E.ts ty E.t i E.z K.hu i1 i2 ⟨g,0,aG⟩ 0 0 [] (by simp) (fun j v h=>by simp at h) ad m.length c (flat E m) (by rw [dZ K,i3]) h4 (by omega) (by omega) (by
    rw [Nat.zero_add,nextslicecap_zero h0,i4];exact Nat.le_trans (Nat.mul_le_mul hm K.few) (by decide))
   rw [r2] at r;injection r with _ e
   rw [<- e];exact (Below.refl _ _).drew.alloc (Nat.le_refl _) _
end Rw
namespace Bk
open Go.RowKit Rw
theorem dG {α:Type} {E:Ek α} {W:aA} {B C:Nat} {v:aj} {l:List α} (h:Own E W B v l) (hc:C<=B):Own E W C v l:=by
 refine⟨h.1,?_⟩;rcases h.2 with h2|⟨g,cap,cur,h1,h2,h3⟩
 ·exact Or.inl h2
 ·exact Or.inr ⟨g,cap,cur,h1,Nat.le_trans hc h2,h3⟩
theorem dB {α:Type} {E:Ek α} {W W':aA} {B:Nat} {v:aj} {l:List α} (h:Own E W B v l) (hb:Below W.heap.size W W'):Own E W' B v l :=
 h.kept (w':=W') (row:=aG) ⟨hb.os,hb.tape,hb.output,hb.size,fun k hk _=>hb.block k hk⟩ (by cases v.ownBlock <;> simp)
theorem dM {α:Type} {E:Ek α} {W:aA} {B:Nat} {v:aj} {l:List α} (h:Own E W B v l) (b k:Nat) (x:aj) (hb:b<B):Own E (W.setCell ⟨b,k,aG⟩ x) B v l :=
 h.kept (w':=W.setCell ⟨b,k,aG⟩ x) (row:=au b) ⟨rfl,rfl,rfl,by simp [World.setCell],fun j _ hne=>RowKit.Below.heap_setCell _ _ _ _ (fun e=>hne (by rw [e]))⟩ (by
  cases hv:v.ownBlock with
  | none=>exact Or.inl rfl
  | some j =>
   refine Or.inr fun e=>?_;injection e with e
   have h1:=(h.lt j hv).1;omega)
theorem add_one (x y:aI) (t:aD) (w:aA) (k:Nat) (hk:k<=900):(do eqGuard .add t x y (.int .i64 k) (.int .i64 1); binOp .add t (.int .i64 k) (.int .i64 1):Sem aj).run ak w=.ok (.int .i64 ((k:Int)+1)) w:=by
 have h:IntKind.i64.wrap ((k:Int)+1)=(k:Int)+1:=IntWalk.i64_in _ (by omega);simp [eqGuard,binOp,Op.intArith,go_sem,h]
theorem dN {W:aA} {rb k:Nat} {cs:Array aj} {t:aD} (h:dJ W rb cs t) (x:aj):dJ (W.setCell ⟨rb,k,aG⟩ x) rb (cs.setIfInBounds k x) t:=heap_setCell_same W rb k cs t x h
end Bk
namespace Pr
open Go.RowKit Go.Sort Pu Rw Va
def kE:List C5->List C5->Bool
 | [],[]=>V
 | x::l,y::m=>xK x y && kE l m
 | _,_=>aB
theorem BD:∀ l m,kE l m=V->l.length=m.length
 | [],[],_=>rfl
 | x::l,y::m,h=>by
  simp only [kE,L] at h;simp [BD l m h.2]
 | [],y::m,h=>by simp [kE] at h
 | x::l,[],h=>by simp [kE] at h
theorem BJ:∀ l m,l.length=m.length->(∀ (k:Nat) (x y:C5),l[k]?=au x->m[k]?=au y->xK x y=V)->kE l m=V
 | [],[],_,_=>rfl
 | x::l,y::m,hl,h=>by
  simp only [kE,L];exact⟨h 0 x y rfl rfl,BJ l m (by simpa using hl) (fun k a b ha hb=>h (k+1) a b (by simpa using ha) (by simpa using hb))⟩
 | [],y::m,hl,_=>by simp at hl
 | x::l,[],hl,_=>by simp at hl
theorem BM:∀ (l m:List C5) (k:Nat) (x y:C5),l[k]?=au x->m[k]?=au y->xK x y=aB->kE l m=aB
 | [],_,k,x,y,h,_,_=>by simp at h
 | _::_,[],k,x,y,_,h,_=>by simp at h
 | a::l,b::m,0,x,y,h1,h2,h3=>by
  simp at h1 h2;subst h1 h2;simp [kE,h3]
 | a::l,b::m,k+1,x,y,h1,h2,h3=>by
  simp only [kE,BM l m k x y (by simpa using h1) (by simpa using h2) h3,Bool.and_false]
theorem BP:∀ l m:List C5,kE l m=V↔l=m
 | [],[]=>by simp [kE]
 | x::l,y::m=>by
  simp only [kE,L,FY,BP l m,List.cons.injEq]
 | [],y::m=>by simp [kE]
 | x::l,[]=>by simp [kE]
theorem Ni (qZ bv:aj) (l m:List C5) (w:aA) (ha:fK w qZ l) (hb:fK w bv m) (hl:l.length<=1000000) (_hm:m.length<=1000000) :
  Calls ak 68 #[qZ,bv] w fun e w'=>e=.returned (.bool (kE l m))/\Below w.heap.size w w':=by
 have HA:=U ha;have HB:=U hb;obtain⟨ao,ac,rfl⟩:=ha.len;obtain⟨bo,bc,rfl⟩:=hb.len;clear ha hb;by_cases hlen:l.length=m.length
 ·have HL:=U hlen;rw [<- hlen] at HB ⊢;generalize hn:l.length=n at *;have HN:=U hn;clear hlen hn;go_enter aH,aF;go_wp2
  go_loopw [5] (fun i wr=>∃ k:Nat,k<=n/\i=.int .i64 k/\Below w.heap.size w wr/\∀ (j:Nat) (x y:C5),j<k->l[j]?=au x->m[j]?=au y->xK x y=V) (fun i _=>n-(intOf i).toNat)
  case atStart=>exact⟨0,Nat.zero_le _,rfl,Below.refl _ _,fun j x y h=>by omega⟩
  case round =>
   obtain⟨k,hk,rfl,hbe,hall⟩:=hrel;have BE:=U hbe;have AL:=U hall;clear hbe hall;by_cases hlt:k<n
   ·obtain⟨x,hx⟩:∃ x,l[k]?=au x:=⟨_,Z (by rw [HN.out]; exact hlt)⟩;obtain⟨y,hy⟩:∃ y,m[k]?=au y:=⟨_,Z (by rw [<- HL.out]; exact hlt)⟩;obtain⟨p,ix,px⟩:=Wm HA.out rfl HN.out hx;obtain⟨q,iy,py⟩:=Wm HB.out rfl HL.out.symm hy;have p0:=J (px _ BE.out).1;have p1:=J (px _ BE.out).2.1;have p2:=J (px _ BE.out).2.2.1;have p3:=J (px _ BE.out).2.2.2.1;have p4:=J (px _ BE.out).2.2.2.2;have q0:=J (py _ BE.out).1;have q1:=J (py _ BE.out).2.1;have q2:=J (py _ BE.out).2.2.1;have q3:=J (py _ BE.out).2.2.2.1;have q4:=J (py _ BE.out).2.2.2.2;clear px py;obtain⟨r,hr⟩:∃ r,xK x y=r:=⟨_,rfl⟩;have hne:=afy x y r hr;have HX:=U hx;have HY:=U hy;have HR:=U hr;clear hx hy hr;cases r
    ·have R:=U (show kE l m=aB from BM l m k x y HX.out HY.out HR.out);go_wp2;refine wp_region_quiet_below (by kernel_rfl) (by kernel_rfl) ?_
     repeat (go_big_quiet_step (fail))
     refine wpQuiet_nil ?_;intro _ hw';obtain⟨⟨dq,osq⟩,hw''⟩:=hw';subst hw'';go_wp2;go_ret;exact⟨eD R.out.symm,BE.out.trans ((aC wr dq osq).mono BE.out.size)⟩
    ·go_wp2;refine wp_region_quiet_below (by kernel_rfl) (by kernel_rfl) ?_
     repeat (go_big_quiet_step (fail))
     refine wpQuiet_nil ?_;intro _ hw';obtain⟨⟨dq,osq⟩,hw''⟩:=hw';subst hw'';clear ix iy p0 p1 p2 p3 p4 q0 q1 q2 q3 q4 hne;go_wp2
     go_roundw
     case rel=>exact⟨k+1,by omega,by go_num,BE.out.trans ((aC wr dq osq).mono BE.out.size),fun j x' y' hj h1 h2=>by
      rcases Nat.lt_or_ge j k with h3|h3
      ·exact AL.out j x' y' h3 h1 h2
      ·obtain rfl:j=k:=by omega
       have e1:=HX.out;have e2:=HY.out;rw [h1] at e1;rw [h2] at e2;rw [O e1,O e2];exact HR.out⟩
     case measure=>simp [intOf]; omega
   ·obtain rfl:k=n:=by omega
    have R:=U (show kE l m=V from BJ l m (by rw [HN.out]; exact HL.out) (fun j a b h1 h2=>AL.out j a b (by have:=(List.getElem?_eq_some_iff.1 h1).1; have:=HN.out; omega) h1 h2));go_wp2;go_ret;exact⟨eD R.out.symm,BE.out⟩
 ·have R:=U (show kE l m=aB by
   cases h:kE l m
   ·rfl
   ·exact absurd (BD _ _ h) hlen)
  have hne:(((l.length:Nat):Int) != ((m.length:Nat):Int))=V:=by simp; omega
  have hne2:(((l.length:Nat):Int) == ((m.length:Nat):Int))=aB:=by simp; omega
  clear hlen;go_enter aH,aF;go_wp2;go_ret;exact⟨eD R.out.symm,Below.refl _ _⟩
end Pr
namespace Rl
open Go.RowKit Pu Pr
abbrev An:=ByteArray×V3
def has (m:List Cn) (n:ByteArray):Bool:=m.any fun x=>decide (x.1=n)
def yF (a b:List Cn):Bool:=match yC a.length a b with
 | .ok _=>V
 | .error _=>aB
theorem Nj {c:Cn} {r:List Cn} (h:mX (c::r)):∀ y∈r,y.1≠c.1:=fun y hy e=>D7 ((Y.1 h).1 y hy) e.symm
theorem yG:∀ (m:List Cn) (c:Cn) (m':List Cn),mX m->qA m c=au m'->m'.length=m.length+(if has m c.1 then 0 else 1)
 | [],c,m',_,h=>by
  obtain rfl:=O h
  rfl
 | x::r,c,m',hr,h=>by
  obtain⟨h1,h2⟩:=Y.1 hr;simp only [qA] at h
  split at h
  ·rename_i hl
   cases hi:qA r c with
   | none=>rw [hi] at h; cases h
   | some n =>
    rw [hi] at h;obtain rfl:=O h;have e:=yG r c n h2 hi;have hx:has (x::r) c.1=has r c.1:=by simp [has,D7 hl]
    rw [hx];simp only [List.length_cons];omega
  ·rename_i hl
   split at h
   ·rename_i he
    cases hb:fu x.2 c.2 with
    | none=>rw [hb] at h; cases h
    | some k =>
     rw [hb] at h;obtain rfl:=O h;have hx:has (x::r) c.1=V:=by simp [has,he]
     rw [hx]
     rfl
   ·rename_i he
    obtain rfl:=O h;have hx:has (x::r) c.1=aB:=by
     simp only [has,List.any_cons,Bool.or_eq_false_iff,decide_eq_false_iff_not,List.any_eq_false,decide_eq_true_eq];refine⟨he,fun y hy e=>?_⟩;have h3:=h1 y hy;rw [e] at h3;exact hl h3
    rw [hx]
    rfl
/-! ### match -/
def vW (p:List Cn) (l:List An):Bool:=p.all fun c=>l.any fun a=>decide (a.1=c.1) && dX c.2 a.2
theorem uniq {l:List An} (h:(l.map (·.1)).Nodup) {x y:An} (hx:x∈l) (hy:y∈l) (e:x.1=y.1):x=y:=by
 induction l with
 | nil=>cases hx
 | cons z r ih =>
  simp only [List.map_cons,List.nodup_cons] at h;rcases ah.1 hx with rfl|hx2 <;> rcases ah.1 hy with rfl|hy2
  ·rfl
  ·exact absurd (by rw [e]; exact ay hy2) h.1
  ·exact absurd (by rw [<- e]; exact ay hx2) h.1
  ·exact ih h.2 hx2 hy2
theorem acR {l:List Cn} (h:mX l) {x y:Cn} (hx:x∈l) (hy:y∈l) (e:x.1=y.1):x=y:=by
 induction l with
 | nil=>cases hx
 | cons z r ih =>
  have h1:=Nj h;have h2:=(Y.1 h).2;rcases ah.1 hx with rfl|hx2 <;> rcases ah.1 hy with rfl|hy2
  ·rfl
  ·exact absurd e.symm (h1 y hy2)
  ·exact absurd e (h1 x hx2)
  ·exact ih h2 hx2 hy2
/-! ### cover -/
def eF:Kd->Kd->Bool
 | .rg p q,.rg r s=>decide (r<=p) && decide (q<=s)
 | .tx s,.tx t=>s.data.toList == t.data.toList
 | .tx s,.pr t=>pfx t s
 | .pr s,.pr t=>pfx t s
 | _,_=>aB
theorem tF (a b:Kd) (h:eF a b=V) (v:V3) (hv:dX a v=V):dX b v=V:=by
 obtain⟨t,n,u⟩:=v;cases a <;> cases b <;> simp only [eF,L,decide_eq_true_eq,beq_iff_eq] at h <;> simp only [dX,L,decide_eq_true_eq,beq_iff_eq] at hv ⊢
 ·exact⟨hv.1,by omega,by omega⟩
 ·cases h
 ·cases h
 ·cases h
 ·exact⟨hv.1,hv.2.trans h⟩
 ·exact⟨hv.1,by rw [fI,hv.2,<- fI]; exact h⟩
 ·cases h
 ·cases h
 ·exact⟨hv.1,(fI _ _).2 (((fI _ _).1 h).trans ((fI _ _).1 hv.2))⟩
theorem AP (a b:Kd) (ha:iZ a=V) (h:∀ v,dX a v=V->dX b v=V):eF a b=V:=by
 cases a with
 | rg p q =>
  simp only [iZ,decide_eq_true_eq] at ha;have h1:=h (aB,p,⟨#[]⟩) (by rw [yB]; simp [ha]);have h2:=h (aB,q,⟨#[]⟩) (by rw [yB]; simp [ha]);cases b with
  | rg r s =>
   rw [yB] at h1 h2;simp only [L,decide_eq_true_eq] at h1 h2;simp [eF,h1.1,h2.2]
  | tx t=>simp [dX] at h1
  | pr t=>simp [dX] at h1
 | tx s =>
  have h1:=h (V,0,s) (by rw [mq]; simp);cases b with
  | rg r t=>rw [su] at h1; cases h1
  | tx t=>rw [mq] at h1; exact h1
  | pr t=>rw [kJ] at h1; exact h1
 | pr s =>
  have h1:=h (V,0,s) (by rw [kJ]; exact nQ s);cases b with
  | rg r t=>rw [su] at h1; cases h1
  | tx t =>
   have h2:=h (V,0,more s) (by rw [kJ]; exact FX s);rw [mq,beq_iff_eq] at h1 h2;rw [<- h1] at h2;have h3:=congrArg List.length h2;simp [more] at h3
  | pr t=>rw [kJ] at h1; exact h1
def oz (a b:List Cn):Bool:=a.all fun x=>b.any fun y=>decide (y.1=x.1) && eF y.2 x.2
end Rl
end Go.Proofs.YtkcfgbddlpomgaaGreat
