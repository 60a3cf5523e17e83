/-
  A broker that the st. Conditions as told.
-/
import Derived.Test.YtmklifheakemeaaGreatLQ039
import Derived.Test.YtmklifheakemeaaGreatLQ037
import Derived.Test.YtmklifheakemeaaGreatLQ041
import Derived.Test.YtmklifheakemeaaGreatLQ038
set_option maxRecDepth 100000
set_option maxHeartbeats 64000000
open _root_.Bool renaming true->O
open _root_.Decidable renaming byContradiction->D,not_not->Z
open _root_.List renaming mem_cons->Q,pairwise_cons->U,length_cons->V,map_cons->X,mem_map->Y
open _root_.Nat renaming le_refl->J,le_succ_of_le->K,le_trans->L
namespace Go.Proofs.YtmklifheakemeaaGreat
namespace Av
open Go.RowKit Go.Sort Rw YtmklifheakemeaaGreat.Nm Pr Bk
theorem y9 (x y:En):iM (fA x) (fA y)=O↔xS x y<0:=by
 rw [pF];unfold iM fA;simp only [Bool.or_eq_true,Bool.and_eq_true,uN]
theorem Kg (x y:En) (h:fA x≠fA y):xS x y<0\/xS y x<0:=by
 rw [pF,pF];rcases lX x.tree y.tree with q|q|q
 ·exact Or.inl (Or.inl q)
 ·rcases lX x.sub y.sub with r|r|r
  ·exact Or.inl (Or.inr ⟨q,r⟩)
  ·exact absurd (Prod.ext q r) h
  ·exact Or.inr (Or.inr ⟨q.symm,r⟩)
 ·exact Or.inr (Or.inl q)
theorem za:∀ (l:List En) (x:En),∀ y∈l.take (dX (l.map fA) (fA x)),xS y x<0
 | [],_,y,h=>by simp at h
 | a::l,x,y,h=>by
  unfold dX at h;by_cases ha:iM (fA a) (fA x)=O
  ·simp only [X,List.takeWhile_cons,ha,if_true,V,List.take_succ_cons,Q] at h;rcases h with rfl|h
   ·exact (y9 _ _).1 ha
   ·exact za l x y h
  ·simp [ha] at h
theorem ze:∀ {l:List En} (_:l.Pairwise fun x y=>xS x y<0) (x:En) (_:∀ y∈l,fA y≠fA x),∀ y∈l.drop (dX (l.map fA) (fA x)),xS x y<0
 | [],_,_,_,y,h=>by simp at h
 | a::l,hr,x,hn,y,h=>by
  unfold dX at h;have hr':=U.1 hr;by_cases ha:iM (fA a) (fA x)=O
  ·simp only [X,List.takeWhile_cons,ha,if_true,V,List.drop_succ_cons] at h;exact ze hr'.2 x (fun y hy=>hn y (List.mem_cons_of_mem _ hy)) y h
  ·simp [ha] at h;have hax:xS x a<0:=by
    rcases Kg a x (hn a (by simp)) with q|q
    ·exact absurd ((y9 _ _).2 q) ha
    ·exact q
   rcases h with rfl|h
   ·exact hax
   ·exact EY _ _ _ hax (hr'.1 y h)
theorem Kh {l:List En} (hr:l.Pairwise fun x y=>xS x y<0) (x:En) (hn:∀ y∈l,fA y≠fA x):(fC l (dX (l.map fA) (fA x)) x).Pairwise fun x y=>xS x y<0:=by
 unfold fC;have h1:=hr.sublist (List.take_sublist (dX (l.map fA) (fA x)) l);have h2:=hr.sublist (List.drop_sublist (dX (l.map fA) (fA x)) l);have lo:=za l x;have hi:=ze hr x hn;rw [List.append_assoc,List.pairwise_append];refine⟨h1,?_,fun a ha b hb=>?_⟩
 ·rw [List.singleton_append,U];exact⟨fun b hb=>hi b hb,h2⟩
 ·rw [List.singleton_append,Q] at hb;rcases hb with rfl|hb
  ·exact lo a ha
  ·exact EY _ _ _ (lo a ha) (hi b hb)
theorem zf:∀ (l:List fB) (x:fB),x ∉ l->fE l x=-1
 | [],_,_=>rfl
 | a::l,x,h=>by
  rw [fE,if_neg fun e=>h (by rw [e]; simp),zf l x fun q=>h (List.mem_cons_of_mem _ q),if_pos rfl]
theorem N8 {κ:Type} [DecidableEq κ] {l:List κ} {x:κ} (h:jo l x=-1):x ∉ l:=by
 rcases mK l x with _|⟨k,h1,_⟩
 ·intro hm
  induction l with
  | nil=>simp at hm
  | cons a l ih =>
   rw [jo] at h
   split at h
   ·cases h
   ·rename_i hne
    split at h
    ·rename_i h2
     rcases Q.1 hm with e|e
     ·exact hne e.symm
     ·exact ih h2 h2 e
    ·rename_i h2
     have:=mK l x;rcases this with q|⟨k,q,_⟩
     ·exact h2 q
     ·omega
 ·omega
theorem VZ {b:Br} (h:jE b) {l:List En} (hp:l.Pairwise fun x y=>xS x y<0) (ho:∀ e∈l,Cc b e=O):jE { b with ent:=l } :=
 ⟨h.near,h.seen,h.dV,hp,h.own,h.oks,fun e he=>zT (b:=b) rfl rfl (ho e he),h.WV⟩
theorem V8 {b:Br} (h:jE b) (e:En) (hc:jR b.near e.from_=O) (hq:Wr.iG e.p=O):jE (iB b e).1:=by
 unfold iB
 split
 ·exact h
 ·rename_i a ha
  split
  ·exact h
  ·rename_i h1
   split
   ·exact h
   ·rename_i h2
    split
    ·exact h
    ·rename_i h3
     have hid:a.id=e.tree:=by
      have hm:e.tree∈b.dV.map Ad.id:=D fun q=>h1 (zf _ _ q);obtain⟨k2,h5,h6⟩:=JO _ _ hm;rw [h5,Int.toNat_natCast] at ha;rw [List.getElem?_map,ha] at h6;exact Option.some.inj h6
     have hf:fT b.dV e.tree=some a:=by
      rw [<- hid];exact lH h.dV (List.mem_of_getElem? ha)
     have hins:=Kh h.ent { e with up:=decide (a.par≠-1) && !fH b.ent e.tree e.p } fun y hy hk=>by
      have hm:fA e∈b.ent.map fA:=Y.2 ⟨y,hy,hk⟩;have h9:jo (b.ent.map fA) (fA e)=-1:=Z.1 h2;exact N8 h9 hm
     refine VZ h hins fun q hq2=>?_;rcases (gY _ _ _ _).1 hq2 with rfl|hq2
     ·unfold Cc;simp only [hf];have h4:¬ (e.from_≠-1/\e.from_=a.par):=h3;rw [hc,hq];by_cases g1:e.from_=a.par
      ·have g2:a.par=-1:=by
        rw [<- g1];exact D fun q=>h4 ⟨q,g1⟩
       simp [g1,g2]
      ·by_cases g2:a.par=-1 <;> simp [g1,g2]
     ·exact h.Yn q hq2
theorem rM {α:Type} {l:List α} {f:Br×List Ou->α->Br×List Ou} {s0:Br×List Ou} (P:Br->Prop) (h0:P s0.1) (hs:∀ s a,a∈l->P s.1->P (f s a).1):∀ k,k<=l.length->P (dU l f s0 k).1
 | 0,_=>h0
 | k+1,hk=>by
  obtain⟨a,ha⟩:∃ a,l[k]?=some a:=⟨_,List.getElem?_eq_getElem hk⟩;rw [jy f s0 ha];exact hs _ a (List.mem_of_getElem? ha) (rM P h0 hs k (by omega))
theorem step_ok {s:Br×List Ou} (h:jE s.1) (mt:Bool) (e:En) (t:Int) (hc:jR s.1.near e.from_=O) (hq:Wr.iG e.p=O):jE (fK s mt e t).1:=by
 unfold fK
 split
 ·exact h
 ·exact V8 h e hc hq
theorem pJ (l:List Int):jR l (-1)=O:=by simp [jR]
theorem Oa {b:Br} (h:jE b) (f:Int) (x:fB) (p:List C5) (hc:jR b.near f=O) (hq:Wr.iG p=O):jE (fD b f x p).1:=by
 have hl:=oF h ⟨x,p,f⟩ hc hq;unfold fD
 split
 ·exact hl
 ·refine rM jE hl (fun s o ho hs=>step_ok hs _ _ _ (pJ _) ?_) _ (J _);rw [(kH b ⟨x,p,f⟩).2.2.2] at ho;exact h.WV o ho
theorem Ki {l:List Ow} (hr:jK Ow.id l) {x:fB} (h:¬ (l[fU (l.map Ow.id) x]?).map Ow.id=some x):∀ y∈l,y.id≠x:=by
 intro y hy e;apply h;rw [<- iI];have ht:kg Ow.id l x=O:=by
  rw [Jt hr];exact decide_eq_true (Y.2 ⟨y,hy,e⟩)
 unfold kg at ht;cases hg:l[fV Ow.id l x]? with
 | none=>rw [hg] at ht; cases ht
 | some z =>
  rw [hg] at ht;rw [Option.map_some,of_decide_eq_true ht]
theorem Rp {b:Br} (h:jE b) (x:fB) (p:List C5) (hq:Wr.iG p=O):jE (iE b x p).1:=by
 unfold iE
 split
 ·exact h
 ·rename_i hn
  have hi:jE (ownIn b x p):=by
   have hr:jK Ow.id (fC b.own (fU (b.own.map Ow.id) x) ⟨x,p⟩):=by
    rw [<- iI];exact jq h.own ⟨x,p⟩ (Ki h.own hn)
   exact⟨h.near,h.seen,h.dV,h.ent,hr,h.oks,fun e he=>zT (b:=b) rfl rfl (h.Yn e he),fun o ho=>by
    rcases (gY _ _ _ _).1 ho with rfl|ho
    ·exact hq
    ·exact h.WV o ho⟩
  exact rM jE hi (fun s a _ hs=>step_ok hs _ _ _ (pJ _) hq) _ (J _)
structure KI (i:Nat) (b:Br):Prop where
 ok:jE b
 pa:∀ a∈b.dV,dW a.p
 pe:∀ e∈b.ent,dW e.p
 po:∀ o∈b.own,dW o.p
 ln:b.near.length<=4
 ls:b.seen.length<=i
 la:b.dV.length<=i
 lo:b.own.length<=i
 le:b.ent.length<=i * 12
theorem KI.more {i:Nat} {b:Br} (h:KI i b):KI (i+1) b:=⟨h.ok,h.pa,h.pe,h.po,h.ln,K h.ls,K h.la,K h.lo,by have:=h.le; omega⟩
theorem zh (b:Br) (a:Ad):∀ y∈(eO b a).1.dV,y=a\/y∈b.dV:=by
 unfold eO
 split
 ·exact fun y hy=>Or.inr hy
 ·exact fun y hy=>(gY _ _ _ _).1 hy
theorem KI.dV {i:Nat} {b:Br} (h:KI i b) (hi:i<12) (f:Int) (x:fB) (p:List C5) (hc:jR b.near f=O) (hq:Wr.iG p=O) (hp:dW p):KI (i+1) (fD b f x p).1:=by
 have hok:=Oa h.ok f x p hc hq;obtain⟨m1,m2,m3,m4⟩:=kH b ⟨x,p,f⟩;obtain⟨n1,n2⟩:=yV b ⟨x,p,f⟩;have lm:=zh b ⟨x,p,f⟩;have hpa:∀ a∈(eO b ⟨x,p,f⟩).1.dV,dW a.p:=fun a ha=>by
  rcases lm a ha with rfl|ha
  ·exact hp
  ·exact h.pa a ha
 have h1:=h.ls;have h2:=h.la;have h3:=h.lo;have h4:=h.le;revert hok;unfold fD
 split
 ·intro hok;exact⟨hok,hpa,by rw [m3]; exact h.pe,by rw [m4]; exact h.po,by rw [m2]; exact h.ln,L n2 (by omega),L n1 (by omega),by rw [m4]; omega,by rw [m3]; omega⟩
 ·intro hok;obtain⟨q1,q2,_⟩:=kS (l:=(eO b ⟨x,p,f⟩).1.own) (b0:=(eO b ⟨x,p,f⟩).1) (o0:=gJ b.near f 1 x (0,0) p) (fun o=>fJ o.p p) (fun o=>mV x o) (fun _=>f) (fun e=>dW e.p) (by rw [m3]; exact h.pe) (fun o ho _=>by rw [m4] at ho; exact h.po o ho) _ (J _);refine⟨hok,?_,q2,?_,?_,?_,?_,?_,?_⟩
  ·intro a ha;rw [show (dU _ (iV f x p) _ _).1.dV=_ from q1.dV] at ha;exact hpa a ha
  ·intro o ho;rw [show (dU _ (iV f x p) _ _).1.own=_ from q1.own,m4] at ho;exact h.po o ho
  ·rw [show (dU _ (iV f x p) _ _).1.near=_ from q1.near,m2];exact h.ln
  ·rw [show (dU _ (iV f x p) _ _).1.seen=_ from q1.seen];omega
  ·rw [show (dU _ (iV f x p) _ _).1.dV=_ from q1.dV];omega
  ·rw [show (dU _ (iV f x p) _ _).1.own=_ from q1.own,m4];omega
  ·have q3:=q1.len;rw [m3,m4] at q3;refine L (show (dU _ (iV f x p) _ _).1.ent.length<=_ from by rw [m4]; exact q3) ?_;omega
theorem KI.subs {i:Nat} {b:Br} (h:KI i b) (hi:i<12) (x:fB) (p:List C5) (hq:Wr.iG p=O) (hp:dW p):KI (i+1) (iE b x p).1:=by
 have hok:=Rp h.ok x p hq;have h1:=h.ls;have h2:=h.la;have h3:=h.lo;have h4:=h.le;revert hok;unfold iE
 split
 ·intro hok;exact h.more
 ·intro hok;obtain⟨q1,q2,_⟩:=kS (l:=b.dV) (b0:=ownIn b x p) (o0:=[]) (fun a=>fJ p a.p) (fun a=>lI x p a) (fun a=>a.par) (fun e=>dW e.p) h.pe (fun o ho _=>hp) _ (J _);refine⟨hok,?_,q2,?_,?_,?_,?_,?_,?_⟩
  ·intro a ha;rw [show (dU _ (iN x p) _ _).1.dV=_ from q1.dV] at ha;exact h.pa a ha
  ·intro o ho;rw [show (dU _ (iN x p) _ _).1.own=_ from q1.own] at ho;rcases (gY _ _ _ _).1 ho with rfl|ho
   ·exact hp
   ·exact h.po o ho
  ·rw [show (dU _ (iN x p) _ _).1.near=_ from q1.near];exact h.ln
  ·rw [show (dU _ (iN x p) _ _).1.seen=_ from q1.seen];show b.seen.length<=_;omega
  ·rw [show (dU _ (iN x p) _ _).1.dV=_ from q1.dV];show b.dV.length<=_;omega
  ·rw [show (dU _ (iN x p) _ _).1.own=_ from q1.own];show (fC _ _ _).length<=_;rw [JU];omega
  ·have q3:=q1.len;have q4:(ownIn b x p).ent.length=b.ent.length:=rfl;refine L (show (dU _ (iN x p) _ _).1.ent.length<=_ from q3) ?_;omega
end Av
namespace Sb
open Go.RowKit Go.Sort Rw YtmklifheakemeaaGreat.Nm Pr Bk Av
theorem Fv {s:Br×List Ou} (h:jE s.1) (ht:jS s.1) (mt:Bool) (e:En) (t:Int):jS (fK s mt e t).1:=by
 unfold fK
 split
 ·exact ht
 ·exact J3 h e ht
theorem Fw {α:Type} {l:List α} (mt:α->Bool) (e:α->En) (t:α->Int) {s0:Br×List Ou} (h:jE s0.1) (ht:jS s0.1) (hc:∀ s:Br×List Ou,∀ a∈l,jE s.1->jE (fK s (mt a) (e a) (t a)).1) (k:Nat) (hk:k<=l.length):jS (dU l (fun s a=>fK s (mt a) (e a) (t a)) s0 k).1 :=
 (rM (fun b=>jE b/\jS b) ⟨h,ht⟩ (fun s a ha hs=>⟨hc s a ha hs.1,Fv hs.1 hs.2 _ _ _⟩) k hk).2
theorem Kj {b:Br} (h:jE b) (ht:jS b) (f:Int) (x:fB) (p:List C5) (hc:jR b.near f=O) (hq:Wr.iG p=O):jS (fD b f x p).1:=by
 have hl:=oF h ⟨x,p,f⟩ hc hq;have hlt:=Cm h ⟨x,p,f⟩ ht;unfold fD
 split
 ·exact hlt
 ·exact Fw (s0:=((eO b ⟨x,p,f⟩).1,gJ b.near f 1 x (0,0) p)) (fun o=>fJ o.p p) (fun o=>mV x o) (fun _=>f) hl hlt (fun s o ho hs=>step_ok hs _ _ _ (pJ _) (hl.WV o ho)) _ (J _)
end Sb
end Go.Proofs.YtmklifheakemeaaGreat
