/-
  Right's closures, an. Conditions as told.
-/
import Derived.Test.YtghlpefopidlaaaGreatBQ020
import Derived.Test.YtghlpefopidlaaaGreatBQ021
set_option maxRecDepth 100000
set_option maxHeartbeats 64000000
open _root_.Bool renaming and_eq_true->J,true->L
open _root_.List renaming pairwise_cons->D,mem_append->K,singleton_append->O,takeWhile_cons->U,mem_cons->V,length_cons->Y
open _root_.Or renaming inl->Q,inr->X
namespace Go.Proofs.YtghlpefopidlaaaGreat.Av
open Go.RowKit Go.Sort Rw YtghlpefopidlaaaGreat.Nm Pr Bk
abbrev cAd (a b:Ad):Int:=jO a.id b.id
abbrev uK (a b:En):Int:=Kl (jO a.tree b.tree) (jO a.sub b.sub)
abbrev cOw (a b:Ow):Int:=jO a.id b.id
def WG (b:Br):Bool:=oH mh b.near && (oH jO b.seen && (oH cAd b.dW && (oH uK b.ent && (oH cOw b.own && (b.dW.all (Uh b) && (b.ent.all (xW b) && b.own.all (fun o=>Wr.gX o.p)))))))
theorem jZ {α:Type} {c:α->α->Int} (ht:∀ x y z,c x y<0->c y z<0->c x z<0):∀ {l:List α},oH c l=L->l.Pairwise fun x y=>c x y<0
 | [],_=>List.Pairwise.nil
 | [x],_=>List.pairwise_singleton _ _
 | x::y::l,h=>by
  unfold oH at h;rw [J] at h;have ih:=jZ ht h.2;have hxy:c x y<0:=of_decide_eq_true h.1;refine D.2 ⟨fun z hz=>?_,ih⟩;rcases V.1 hz with rfl|hz
  ·exact hxy
  ·exact ht x y z hxy ((D.1 ih).1 z hz)
theorem kV {x y:dV}:jO x y<0↔dP x y=L:=oU x y
theorem Ao (x y z:dV) (h1:jO x y<0) (h2:jO y z<0):jO x z<0:=kV.2 (gF (kV.1 h1) (kV.1 h2))
theorem Jm {l:List dV} (h:oH jO l=L):He l:=(jZ Ao h).imp fun {_a _b} q=>kV.1 q
theorem Mi {l:List Ad} (h:oH cAd l=L):CJ l:=(jZ (fun x y z=>Ao x.id y.id z.id) h).imp fun {_a _b} q=>kV.1 q
theorem nD {α:Type} {c:α->α->Int}:∀ {l:List α},(l.Pairwise fun x y=>c x y<0)->oH c l=L
 | [],_=>rfl
 | [_],_=>rfl
 | x::y::l,h=>by
  have h1:=D.1 h;unfold oH;rw [decide_eq_true (h1.1 y (by simp)),Bool.true_and];exact nD h1.2
theorem Ql (x y z:Int) (h1:mh x y<0) (h2:mh y z<0):mh x z<0:=by rw [oQ] at *; omega
theorem p9 (a b:En):uK a b<0↔(dP a.tree b.tree=L\/(a.tree=b.tree/\dP a.sub b.sub=L)):=by
 unfold uK Kl;by_cases h:jO a.tree b.tree=0
 ·rw [if_pos h,oU];have e:=(pW _ _).1 h;constructor
  ·exact fun q=>X ⟨e,q⟩
  ·rintro (q|⟨_,q⟩)
   ·rw [e,iV] at q; cases q
   ·exact q
 ·rw [if_neg h,oU];constructor
  ·exact Q
  ·rintro (q|⟨q,_⟩)
   ·exact q
   ·exact absurd ((pW _ _).2 q) h
theorem Ap (x y z:En) (h1:uK x y<0) (h2:uK y z<0):uK x z<0:=by
 rw [p9] at *;rcases h1 with h1|⟨e1,h1⟩ <;> rcases h2 with h2|⟨e2,h2⟩
 ·exact Q (gF h1 h2)
 ·exact Q (by rw [<- e2]; exact h1)
 ·exact Q (by rw [e1]; exact h2)
 ·exact X ⟨e1.trans e2,gF h1 h2⟩
structure gP (b:Br):Prop where
 near:b.near.Pairwise (·<·)
 seen:He b.seen
 dW:CJ b.dW
 ent:b.ent.Pairwise fun x y=>uK x y<0
 own:iN Ow.id b.own
 oks:∀ a∈b.dW,a.id∈b.seen/\mQ b.near a.par=L/\Wr.gX a.p=L
 Pv:∀ e∈b.ent,xW b e=L
 VA:∀ o∈b.own,Wr.gX o.p=L
theorem vW (b:Br):WG b=L↔gP b:=by
 unfold WG;simp only [J,List.all_eq_true];constructor
 ·rintro⟨h1,h2,h3,h4,h5,h6,h7,h8⟩;refine⟨(jZ Ql h1).imp fun {a b} q=>(oQ a b).1 q,Jm h2,Mi h3,jZ Ap h4,(jZ (fun x y z=>Ao x.id y.id z.id) h5).imp fun {a b} q=>kV.1 q,fun a ha=>?_,h7,h8⟩;have:=h6 a ha;unfold Uh at this;simp only [J,decide_eq_true_eq] at this;exact this
 ·rintro⟨h1,h2,h3,h4,h5,h6,h7,h8⟩;refine⟨nD (h1.imp fun {a b} q=>(oQ a b).2 q),nD (h2.imp fun {a b} q=>kV.2 q),nD (h3.imp fun {a b} q=>kV.2 q),nD h4,nD (h5.imp fun {a b} q=>kV.2 q),fun a ha=>?_,h7,h8⟩;unfold Uh;simp only [J,decide_eq_true_eq];exact h6 a ha
theorem jf {α:Type} (l:List α) (k:Nat) (x y:α):y∈eY l k x↔y=x\/y∈l:=by
 unfold eY;rw [K,K,List.mem_singleton]
 conv=>rhs; rw [<- List.take_append_drop k l,K]
 constructor
 ·rintro ((h|h)|h)
  ·exact X (Q h)
  ·exact Q h
  ·exact X (X h)
 ·rintro (h|h|h)
  ·exact Q (X h)
  ·exact Q (Q h)
  ·exact X h
theorem CK {α:Type} (key:α->dV):∀ (l:List α) (x:dV),∀ y∈l.take (eG key l x),dP (key y) x=L
 | [],_,y,h=>by simp at h
 | a::l,x,y,h=>by
  unfold eG at h;by_cases ha:dP (key a) x=L
  ·simp only [U,ha,if_true,Y,List.take_succ_cons,V] at h;rcases h with rfl|h
   ·exact ha
   ·exact CK key l x y h
  ·simp [ha] at h
theorem rO {α:Type} {key:α->dV}:∀ {l:List α} (_:iN key l) (x:dV) (_:∀ y∈l,key y≠x),∀ y∈l.drop (eG key l x),dP x (key y)=L
 | [],_,_,_,y,h=>by simp at h
 | a::l,hr,x,hn,y,h=>by
  unfold eG at h;have hr':=D.1 hr;by_cases ha:dP (key a) x=L
  ·simp only [U,ha,if_true,Y,List.drop_succ_cons] at h;exact rO hr'.2 x (fun y hy=>hn y (List.mem_cons_of_mem _ hy)) y h
  ·simp [ha] at h;have hax:dP x (key a)=L:=by
    rcases mI (key a) x with q|q|q
    ·exact absurd q ha
    ·exact absurd q (hn a (by simp))
    ·exact q
   rcases h with rfl|h
   ·exact hax
   ·exact gF hax (hr'.1 y h)
theorem kC {α:Type} {key:α->dV} {l:List α} (hr:iN key l) (x:α) (hn:∀ y∈l,key y≠key x):iN key (eY l (eG key l (key x)) x):=by
 unfold eY;have h1:iN key (l.take (eG key l (key x))):=hr.sublist (List.take_sublist _ _);have h2:iN key (l.drop (eG key l (key x))):=hr.sublist (List.drop_sublist _ _);have lo:=CK key l (key x);have hi:=rO hr (key x) hn;unfold iN at *;rw [List.append_assoc,List.pairwise_append];refine⟨h1,?_,fun a ha b hb=>?_⟩
 ·rw [O,D];exact⟨fun b hb=>hi b hb,h2⟩
 ·rw [O,V] at hb;rcases hb with rfl|hb
  ·exact lo a ha
  ·exact gF (lo a ha) (hi b hb)
theorem Fa {l:List Ad} {x:dV} {a:Ad} (h:fM l x=some a):a∈l/\a.id=x:=by
 unfold fM at h;exact⟨List.mem_of_find?_eq_some h,by simpa using List.find?_some h⟩
theorem og {l:List Ad} (hr:CJ l) {a:Ad} (ha:a∈l):fM l a.id=some a:=by
 obtain⟨k,hk⟩:=List.mem_iff_getElem?.1 ha;refine rE hk rfl fun j z hj hz e=>?_;have:=jy hr hj hz hk;rw [e,iV] at this;cases this
theorem qb {b c:Br} {e:En} (hn:c.near=b.near) (hf:fM c.dW e.tree=fM b.dW e.tree) (h:xW b e=L):xW c e=L:=by
 unfold xW at *;rw [hf,hn];exact h
end Go.Proofs.YtghlpefopidlaaaGreat.Av
