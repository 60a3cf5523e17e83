/-
  rightEntry of packag. Conditions as told.
-/
import Derived.Test.YtmklifheakemeaaGreatLQ025
import Derived.Test.YtmklifheakemeaaGreatLQ031
set_option maxRecDepth 100000
set_option maxHeartbeats 64000000
open _root_.Bool renaming true->V,false->Y
open _root_.List renaming length_cons->D,mem_append->K,singleton_append->L,takeWhile_cons->Q,pairwise_cons->U,mem_cons->X
open _root_.Or renaming inl->J,inr->O
namespace Go.Proofs.YtmklifheakemeaaGreat.Av
open Go.RowKit Go.Sort Rw YtmklifheakemeaaGreat.Nm Pr Bk
def Cc (b:Br) (e:En):Bool:=match fT b.dV e.tree with
 | none=>Y
 | some a=>!(e.from_ == a.par && !(a.par == -1)) && (jR b.near e.from_ && (!(e.up && a.par == -1) && Wr.iG e.p))
abbrev xS (a b:En):Int:=Ko (l8 a.tree b.tree) (l8 a.sub b.sub)
theorem pF (a b:En):xS a b<0↔(dY a.tree b.tree=V\/(a.tree=b.tree/\dY a.sub b.sub=V)):=by
 unfold xS Ko;by_cases h:l8 a.tree b.tree=0
 ·rw [if_pos h,qL];have e:=(o7 _ _).1 h;constructor
  ·exact fun q=>O ⟨e,q⟩
  ·rintro (q|⟨_,q⟩)
   ·rw [e,jf] at q; cases q
   ·exact q
 ·rw [if_neg h,qL];constructor
  ·exact J
  ·rintro (q|⟨q,_⟩)
   ·exact q
   ·exact absurd ((o7 _ _).2 q) h
theorem EY (x y z:En) (h1:xS x y<0) (h2:xS y z<0):xS x z<0:=by
 rw [pF] at *;rcases h1 with h1|⟨e1,h1⟩ <;> rcases h2 with h2|⟨e2,h2⟩
 ·exact J (ig h1 h2)
 ·exact J (by rw [<- e2]; exact h1)
 ·exact J (by rw [e1]; exact h2)
 ·exact O ⟨e1.trans e2,ig h1 h2⟩
structure jE (b:Br):Prop where
 near:b.near.Pairwise (·<·)
 seen:Me b.seen
 dV:qh b.dV
 ent:b.ent.Pairwise fun x y=>xS x y<0
 own:jK Ow.id b.own
 oks:∀ a∈b.dV,a.id∈b.seen/\jR b.near a.par=V/\Wr.iG a.p=V
 Yn:∀ e∈b.ent,Cc b e=V
 WV:∀ o∈b.own,Wr.iG o.p=V
theorem gY {α:Type} (l:List α) (k:Nat) (x y:α):y∈fC l k x↔y=x\/y∈l:=by
 unfold fC;rw [K,K,List.mem_singleton]
 conv=>rhs; rw [<- List.take_append_drop k l,K]
 constructor
 ·rintro ((h|h)|h)
  ·exact O (J h)
  ·exact J h
  ·exact O (O h)
 ·rintro (h|h|h)
  ·exact J (O h)
  ·exact J (J h)
  ·exact O h
theorem Ce {α:Type} (key:α->fB):∀ (l:List α) (x:fB),∀ y∈l.take (fV key l x),dY (key y) x=V
 | [],_,y,h=>by simp at h
 | a::l,x,y,h=>by
  unfold fV at h;by_cases ha:dY (key a) x=V
  ·simp only [Q,ha,if_true,D,List.take_succ_cons,X] at h;rcases h with rfl|h
   ·exact ha
   ·exact Ce key l x y h
  ·simp [ha] at h
theorem qW {α:Type} {key:α->fB}:∀ {l:List α} (_:jK key l) (x:fB) (_:∀ y∈l,key y≠x),∀ y∈l.drop (fV key l x),dY x (key y)=V
 | [],_,_,_,y,h=>by simp at h
 | a::l,hr,x,hn,y,h=>by
  unfold fV at h;have hr':=U.1 hr;by_cases ha:dY (key a) x=V
  ·simp only [Q,ha,if_true,D,List.drop_succ_cons] at h;exact qW hr'.2 x (fun y hy=>hn y (List.mem_cons_of_mem _ hy)) y h
  ·simp [ha] at h;have hax:dY x (key a)=V:=by
    rcases lX (key a) x with q|q|q
    ·exact absurd q ha
    ·exact absurd q (hn a (by simp))
    ·exact q
   rcases h with rfl|h
   ·exact hax
   ·exact ig hax (hr'.1 y h)
theorem jq {α:Type} {key:α->fB} {l:List α} (hr:jK key l) (x:α) (hn:∀ y∈l,key y≠key x):jK key (fC l (fV key l (key x)) x):=by
 unfold fC;have h1:jK key (l.take (fV key l (key x))):=hr.sublist (List.take_sublist _ _);have h2:jK key (l.drop (fV key l (key x))):=hr.sublist (List.drop_sublist _ _);have lo:=Ce key l (key x);have hi:=qW hr (key x) hn;unfold jK at *;rw [List.append_assoc,List.pairwise_append];refine⟨h1,?_,fun a ha b hb=>?_⟩
 ·rw [L,U];exact⟨fun b hb=>hi b hb,h2⟩
 ·rw [L,X] at hb;rcases hb with rfl|hb
  ·exact lo a ha
  ·exact ig (lo a ha) (hi b hb)
theorem nN {l:List Ad} {x:fB} {a:Ad} (h:fT l x=some a):a∈l/\a.id=x:=by
 unfold fT at h;exact⟨List.mem_of_find?_eq_some h,by simpa using List.find?_some h⟩
theorem lH {l:List Ad} (hr:qh l) {a:Ad} (ha:a∈l):fT l a.id=some a:=by
 obtain⟨k,hk⟩:=List.mem_iff_getElem?.1 ha;refine oq hk rfl fun j z hj hz e=>?_;have:=ko hr hj hz hk;rw [e,jf] at this;cases this
theorem M7 {l m:List Ad} (hl:qh l) (hm:qh m) {x:fB} (h:∀ a,a.id=x->(a∈l↔a∈m)):fT l x=fT m x:=by
 cases h1:fT l x with
 | none =>
  cases h2:fT m x with
  | none=>rfl
  | some a =>
   obtain⟨q1,q2⟩:=nN h2;have:=lH hl ((h a q2).2 q1);rw [q2,h1] at this;cases this
 | some a =>
  obtain⟨q1,q2⟩:=nN h1;have:=lH hm ((h a q2).1 q1);rw [q2] at this;exact this.symm
theorem zT {b c:Br} {e:En} (hn:c.near=b.near) (hf:fT c.dV e.tree=fT b.dV e.tree) (h:Cc b e=V):Cc c e=V:=by
 unfold Cc at *;rw [hf,hn];exact h
theorem oF {b:Br} (h:jE b) (a:Ad) (hp:jR b.near a.par=V) (hq:Wr.iG a.p=V):jE (eO b a).1:=by
 by_cases hin:a.id∈b.seen
 ·rw [sH hin]; exact h
 ·rw [nM hin];have hna:∀ y∈b.dV,y.id≠a.id:=fun y hy e=>hin (by rw [<- e]; exact (h.oks y hy).1);have hns:∀ y∈b.seen,y≠a.id:=fun y hy e=>hin (by rw [<- e]; exact hy);have ra:qh (fC b.dV (fU (b.dV.map Ad.id) a.id) a):=by
   rw [<- iI];exact jq h.dV a hna
  have rs:Me (fC b.seen (fU b.seen a.id) a.id):=by
   have:=jq (key:=fun x:fB=>x) h.seen a.id hns;rw [iI,List.map_id'] at this;exact this
  refine⟨h.near,rs,ra,h.ent,h.own,fun y hy=>?_,fun e he=>?_,h.WV⟩
  ·rcases (gY _ _ _ _).1 hy with rfl|hy
   ·exact⟨(gY _ _ _ _).2 (J rfl),hp,hq⟩
   ·exact⟨(gY _ _ _ _).2 (O (h.oks y hy).1),(h.oks y hy).2⟩
  ·refine zT (b:=b) rfl (M7 ra h.dV fun y hy=>?_) (h.Yn e he);rw [gY];refine⟨fun q=>q.resolve_left fun e2=>?_,O⟩;have hk:=h.Yn e he;unfold Cc at hk;cases hf:fT b.dV e.tree with
   | none=>rw [hf] at hk; cases hk
   | some z =>
    obtain⟨z1,z2⟩:=nN hf;exact hna z z1 (by rw [z2,<- hy,e2])
theorem JU {α:Type} (l:List α) (k:Nat) (x:α):(fC l k x).length=l.length+1:=by
 unfold fC;simp only [List.length_append,D,List.length_nil,List.length_take,List.length_drop];omega
theorem uS {α β:Type} {E:Ek α} {F:Ek β} {W W':World} {B B':Nat} {v u:Value} {l:List β} {m:List α} (ho:Own F W B v l) (gr:W.grownBy W' v.ownBlock) (h:Own E W B' u m) (hne:(E.t == F.t)=Y):Own E W' B' u m:=by
 rcases gq ho with⟨h1,_⟩|⟨g,c,cur,h1,_,h2,_⟩
 ·rw [h1] at gr;exact Bk.dJ h ((Below.refl _ _).grown gr (Nat.le_refl _) (fun j hj=>by cases hj))
 ·rw [h1] at gr;exact (sK (b:=g) gr).own h h2 hne
theorem zU {β:Type} {F:Ek β} {W W':World} {B k:Nat} {v:Value} {l:List β} {cs:Array Value} {t:TypeId} (ho:Own F W B v l) (gr:W.grownBy W' v.ownBlock) (h:dI W k cs t) (hne:(t == F.t)=Y):dI W' k cs t:=by
 rcases gq ho with⟨h1,_⟩|⟨g,c,cur,h1,_,h2,_⟩
 ·rw [h1] at gr;exact h.on ((Below.refl _ _).grown gr (Nat.le_refl _) (fun j hj=>by cases hj))
 ·rw [h1] at gr;exact (sK (b:=g) gr).box h (jH h h2 hne)
end Go.Proofs.YtmklifheakemeaaGreat.Av
