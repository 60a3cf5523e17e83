/-
  What SubsFrom wants,. Conditions as told.
-/
import Derived.Test.YtmklifheakemeaaOQ040
import Derived.Test.YtmklifheakemeaaOQ041
set_option maxRecDepth 100000
set_option maxHeartbeats 64000000
open _root_.Bool renaming false->aB,true->bg
open _root_.Decidable renaming byContradiction->aH,not_not->bR
open _root_.Go renaming Value->ak,Addr->aA,World->aC,TypeId->bQ
open Go.Act renaming put->aZ
open Go.Instr renaming indexAt->aI,sliceAt->aT
open Go.IntKind renaming i64->aj
open Go.Lib renaming hid->V
open Go.Operand renaming tmp->U
open Go.Proofs.Try renaming prog->aD,func7->bS
open Go.Proofs.Ytmklifheakemeaa.Rg renaming dw->au,eD->aQ,get_put->bK,eu->bM,iw->bV,fO->bW,lg->bX,fJ->bY,dD->bZ,eZ->cu,jM->cB
open Go.RowKit.Below renaming refl->J
open Go.Value renaming slice->O,pointer->X,int->ah,agg->bL,bool->bU
open _root_.List renaming getElem?_eq_some_iff->ay,getElem?_toArray->aF,mem_singleton->aJ,mem_iff_getElem?->aK,mem_of_getElem?->aM,length_append->aP,mem_cons->aR,map_cons->aS,length_cons->aU,pairwise_singleton->aV,singleton_append->aW,mem_cons_of_mem->aX,getElem?_set_ne->aY,takeWhile_cons->bf,pairwise_cons->bq,length_take->bA,getElem_map->bF,map_toArray->bG,length_map->bI,mem_append->bJ,mem_map->bO,map_nil->bP
open _root_.Nat renaming le_trans->aO,le_refl->bH
open _root_.Option renaming some->Y,none->aG
open Option.some renaming inj->aN
open _root_.Or renaming inr->Z,inl->aL
namespace Go.Proofs.Ytmklifheakemeaa
namespace Sb
open Go.RowKit Go.Sort Rw Ytmklifheakemeaa.Nm Pr Bk Av Rl
theorem Cu {m:List En} (hr:fM m) {i j:Nat} {x y:En} (hx:m[i]?=Y x) (hy:m[j]?=Y y) (h:dH x=dH y):i=j:=by
 rcases Nat.lt_trichotomy i j with q|q|q
 ·have:=(iR x y).2 (nR hr q hx hy);rw [h,jO] at this;cases this
 ·exact q
 ·have:=(iR y x).2 (nR hr q hy hx);rw [h,jO] at this;cases this
theorem zI {m:List En} (hr:fM m) {e:En} (he:e∈m):kU m e.tree e.sub=Y e/\fQ m e.tree e.sub=bg:=by
 have ft:=mG hr e.tree e.sub;have hk:dH e∈m.map dH:=bO.2 ⟨e,he,rfl⟩;have ht:fQ m e.tree e.sub=bg:=by
  cases h:fQ m e.tree e.sub with
  | true=>rfl
  | false =>
   rw [h,if_neg (by simp)] at ft;rcases kJ (m.map dH) (dH e) with q|⟨k,q,r⟩
   ·exfalso;obtain⟨j,hj⟩:=aK.1 hk;have:∀ l:List (dW×dW),gD l (dH e)=-1->dH e ∉ l:=by
     intro l
     induction l with
     | nil=>intro _ h; simp at h
     | cons a l ih =>
      intro h2 h3;rw [gD] at h2
      split at h2
      ·cases h2
      ·rename_i hne
       split at h2
       ·rename_i h4
        rcases aR.1 h3 with h5|h5
        ·exact hne h5.symm
        ·exact ih h4 h5
       ·rename_i h4
        rcases kJ l (dH e) with h5|⟨k,h5,_⟩
        ·exact h4 h5
        ·rw [h5] at h2; omega
    exact this _ q hk
   ·rw [show gD (m.map dH) (e.tree,e.sub)=gD (m.map dH) (dH e) from rfl,q] at ft;omega
 obtain⟨e',h1,h2,h3⟩:=lK ht;obtain⟨j,hj⟩:=aK.1 he;have hij:=Cu hr h1 hj h2;rw [hij,hj] at h1;obtain rfl:=aN h1;exact⟨h3,ht⟩
theorem wW {m:List En} {t s:dW} (h:∀ e∈m,dH e≠(t,s)):fQ m t s=aB:=by
 unfold fQ;cases hm:m[dK (m.map dH) (t,s)]? with
 | none=>rfl
 | some e=>exact decide_eq_false (h e (aM hm))
theorem zJ {b:Br} (hr:fM b.ent) (e:En) (hn:∀ y∈b.ent,dH y≠dH e) :
  (fK b.fB e.tree=aG/\dL b e=(b,aB))\/(∃ a,fK b.fB e.tree=Y a/\e.from_=a.par/\a.par≠-1/\dL b e=(b,aB)) \/
  (∃ a u,fK b.fB e.tree=Y a/\(e.from_=-1\/e.from_≠a.par)/\(u=bg->a.par≠-1)/\dL b e=({ b with ent:=fF b.ent (dK (b.ent.map dH) (dH e)) { e with up:=u } },u)/\u=(!(a.par == -1) && !dR b.ent e.tree e.p)):=by
 have ht:fQ b.ent e.tree e.sub=aB:=wW hn;rw [<- lM hr];unfold uY;cases hf:fK b.fB e.tree with
 | none=>exact aL ⟨rfl,rfl⟩
 | some a =>
  right;simp only;rw [if_neg (by rw [ht]; simp)];by_cases hp:e.from_=a.par/\a.par≠-1
  ·rw [if_pos hp];exact aL ⟨a,rfl,hp.1,hp.2,rfl⟩
  ·rw [if_neg hp];refine Z ⟨a,_,rfl,?_,fun h=>?_,rfl,rfl⟩
   ·by_cases h1:e.from_=a.par
    ·left;rw [h1];exact aH fun q=>hp ⟨h1,q⟩
    ·exact Z h1
   ·intro q;rw [q] at h;simp at h
end Sb
namespace Av
open Go.RowKit Go.Sort Rw Ytmklifheakemeaa.Nm Pr Bk
theorem zK {α:Type} (l:List α) (k:Nat) (x:α):(fF l k x).length=l.length+1:=by
 unfold fF;simp only [aP,aU,List.length_nil,bA,List.length_drop];omega
theorem rO (x y:En):gJ (dH x) (dH y)=bg↔qF x y<0:=by
 rw [lG];unfold gJ dH;simp only [Bool.or_eq_true,Bool.and_eq_true,oC]
theorem zL (x y:En) (h:dH x≠dH y):qF x y<0\/qF y x<0:=by
 rw [lG,lG];rcases kF x.tree y.tree with q|q|q
 ·exact aL (aL q)
 ·rcases kF x.sub y.sub with r|r|r
  ·exact aL (Z ⟨q,r⟩)
  ·exact absurd (Prod.ext q r) h
  ·exact Z (Z ⟨q.symm,r⟩)
 ·exact Z (aL q)
theorem rP:∀ (l:List En) (x:En),∀ y∈l.take (dK (l.map dH) (dH x)),qF y x<0
 | [],_,y,h=>by simp at h
 | a::l,x,y,h=>by
  unfold dK at h;by_cases ha:gJ (dH a) (dH x)=bg
  ·simp only [aS,bf,ha,if_true,aU,List.take_succ_cons,aR] at h;rcases h with rfl|h
   ·exact (rO _ _).1 ha
   ·exact rP l x y h
  ·simp [ha] at h
theorem rQ:∀ {l:List En} (_:l.Pairwise fun x y=>qF x y<0) (x:En) (_:∀ y∈l,dH y≠dH x),∀ y∈l.drop (dK (l.map dH) (dH x)),qF x y<0
 | [],_,_,_,y,h=>by simp at h
 | a::l,hr,x,hn,y,h=>by
  unfold dK at h;have hr':=bq.1 hr;by_cases ha:gJ (dH a) (dH x)=bg
  ·simp only [aS,bf,ha,if_true,aU,List.drop_succ_cons] at h;exact rQ hr'.2 x (fun y hy=>hn y (aX _ hy)) y h
  ·simp [ha] at h;have hax:qF x a<0:=by
    rcases zL a x (hn a (by simp)) with q|q
    ·exact absurd ((rO _ _).2 q) ha
    ·exact q
   rcases h with rfl|h
   ·exact hax
   ·exact wH _ _ _ hax (hr'.1 y h)
theorem zM {l:List En} (hr:l.Pairwise fun x y=>qF x y<0) (x:En) (hn:∀ y∈l,dH y≠dH x):(fF l (dK (l.map dH) (dH x)) x).Pairwise fun x y=>qF x y<0:=by
 unfold fF;have h1:=hr.sublist (List.take_sublist (dK (l.map dH) (dH x)) l);have h2:=hr.sublist (List.drop_sublist (dK (l.map dH) (dH x)) l);have lo:=rP l x;have hi:=rQ hr x hn;rw [List.append_assoc,List.pairwise_append];refine⟨h1,?_,fun a ha b hb=>?_⟩
 ·rw [aW,bq];exact⟨fun b hb=>hi b hb,h2⟩
 ·rw [aW,aR] at hb;rcases hb with rfl|hb
  ·exact lo a ha
  ·exact wH _ _ _ (lo a ha) (hi b hb)
theorem rR:∀ (l:List dW) (x:dW),x ∉ l->fC l x=-1
 | [],_,_=>rfl
 | a::l,x,h=>by
  rw [fC,if_neg fun e=>h (by rw [e]; simp),rR l x fun q=>h (aX _ q),if_pos rfl]
theorem Cv {κ:Type} [DecidableEq κ] {l:List κ} {x:κ} (h:gD l x=-1):x ∉ l:=by
 rcases kJ l x with _|⟨k,h1,_⟩
 ·intro hm
  induction l with
  | nil=>simp at hm
  | cons a l ih =>
   rw [gD] at h
   split at h
   ·cases h
   ·rename_i hne
    split at h
    ·rename_i h2
     rcases aR.1 hm with e|e
     ·exact hne e.symm
     ·exact ih h2 h2 e
    ·rename_i h2
     have:=kJ l x;rcases this with q|⟨k,q,_⟩
     ·exact h2 q
     ·omega
 ·omega
theorem JK {b:Br} (h:zk b) {l:List En} (hp:l.Pairwise fun x y=>qF x y<0) (ho:∀ e∈l,zi b e=bg):zk { b with ent:=l } :=
 ⟨h.near,h.seen,h.fB,hp,h.own,h.oks,fun e he=>FK (b:=b) rfl rfl (ho e he),h.Ru⟩
theorem JL {b:Br} (h:zk b) (e:En) (hc:tC b.near e.from_=bg) (hq:Wr.jd e.p=bg):zk (dL b e).1:=by
 unfold dL
 split
 ·exact h
 ·rename_i a ha
  split
  ·exact h
  ·rename_i h1
   split
   ·exact h
   ·rename_i h2
    split
    ·exact h
    ·rename_i h3
     have hid:a.id=e.tree:=by
      have hm:e.tree∈b.fB.map Ad.id:=aH fun q=>h1 (rR _ _ q);obtain⟨k2,h5,h6⟩:=zH _ _ hm;rw [h5,Int.toNat_natCast] at ha;rw [List.getElem?_map,ha] at h6;exact aN h6
     have hf:fK b.fB e.tree=Y a:=by
      rw [<- hid];exact mF h.fB (aM ha)
     have hins:=zM h.ent { e with up:=decide (a.par≠-1) && !dR b.ent e.tree e.p } fun y hy hk=>by
      have hm:dH e∈b.ent.map dH:=bO.2 ⟨y,hy,hk⟩;have h9:gD (b.ent.map dH) (dH e)=-1:=bR.1 h2;exact Cv h9 hm
     refine JK h hins fun q hq2=>?_;rcases (lH _ _ _ _).1 hq2 with rfl|hq2
     ·unfold zi;simp only [hf];have h4:¬ (e.from_≠-1/\e.from_=a.par):=h3;rw [hc,hq];by_cases g1:e.from_=a.par
      ·have g2:a.par=-1:=by
        rw [<- g1];exact aH fun q=>h4 ⟨q,g1⟩
       simp [g1,g2]
      ·by_cases g2:a.par=-1 <;> simp [g1,g2]
     ·exact h.Rt q hq2
end Av
namespace Sb
open Go.RowKit Go.Sort Rw Ytmklifheakemeaa.Nm Pr Bk Av Rl
abbrev nU (t:dW):Br:=⟨4,[0,1],[⟨t,[],0⟩],[t],[],[]⟩
structure One (t:dW) (n:Nat) (b:Br):Prop where
 ok:zk b
 me:b.me=4
 near:b.near=[0,1]
 fB:b.fB=[⟨t,[],0⟩]
 seen:b.seen=[t]
 own:b.own=[]
 tight:wL b
 pe:∀ e∈b.ent,eH e.p
 tr:∀ e∈b.ent,e.tree=t/\e.from_=1
 len:b.ent.length=n
theorem One.few {t:dW} {n:Nat} {b:Br} (h:One t n b) (hn:n<=900):uF b :=
 ⟨by rw [h.near]; decide,by rw [h.fB]; exact (by decide:1<=900),by rw [h.seen]; exact (by decide:1<=900),by rw [h.len]; exact hn,by rw [h.own]; decide⟩
theorem One.wX {t:dW} {n:Nat} {b:Br} (h:One t n b):kL b :=
 ⟨by rw [h.fB]; simp,fun e q=>aO (jr (h.pe e q)) (by decide),by rw [h.own]; simp⟩
theorem lQ (t:dW):One t 0 (nU t) :=
 ⟨⟨by simp,aV _ _,aV _ _,List.Pairwise.nil,List.Pairwise.nil,fun a h=>(by
   obtain rfl:=aJ.1 h;exact⟨by simp,rfl,rfl⟩),fun e h=>by simp at h,fun o h=>by simp at h⟩,rfl,rfl,rfl,rfl,rfl,fun _ _ _ e h=>by simp at h,fun e h=>by simp at h,fun e h=>by simp at h,rfl⟩
theorem Cw (p:List C5):ji p p=bg:=uw _
theorem Gh (p:List C5):ji [] p=bg:=rfl
theorem One.find {t:dW} {n:Nat} {b:Br} (h:One t n b):fK b.fB t=Y ⟨t,[],0⟩:=by rw [h.fB]; simp [fK]
theorem One.br {t:dW} {n:Nat} {b:Br} (h:One t n b):iP b.ent t=b.ent:=by
 rw [rE h.ok.ent];exact List.filter_eq_self.2 fun e he=>by simpa using (h.tr e he).1
theorem One.there {t:dW} {n:Nat} {b:Br} (h:One t n b) {e:En} (he:e∈b.ent):kU b.ent t e.sub=Y e:=by
 have:=(zI h.ok.ent he).1;rw [(h.tr e he).1] at this;exact this
theorem one_add {t s:dW} {n:Nat} {b:Br} (h:One t n b) {p:List C5} (hn:∀ y∈b.ent,y.sub≠s) (hp:eH p) (hr:Wr.jd p=bg) :
  dL b ⟨t,s,p,1,aB⟩=({ b with ent:=fF b.ent (dK (b.ent.map dH) (t,s)) ⟨t,s,p,1,!dR b.ent t p⟩ },!dR b.ent t p)/\One t (n+1) (dL b ⟨t,s,p,1,aB⟩).1/\(∀ z,z∈(dL b ⟨t,s,p,1,aB⟩).1.ent↔z=⟨t,s,p,1,!dR b.ent t p⟩\/z∈b.ent)/\dR (dL b ⟨t,s,p,1,aB⟩).1.ent t p=bg:=by
 have H:=JL h.ok ⟨t,s,p,1,aB⟩ (by rw [h.near]; exact (rfl:tC [0,1] 1=bg)) hr;have HT:=zn h.ok ⟨t,s,p,1,aB⟩ h.tight;rcases zJ h.ok.ent ⟨t,s,p,1,aB⟩ (fun y hy e=>hn y hy (congrArg Prod.snd e)) with⟨hf,_⟩|⟨a,hf,h2,_,_⟩|⟨a,u,hf,_,_,he,hu⟩
 ·rw [show fK b.fB (⟨t,s,p,1,aB⟩:En).tree=_ from h.find] at hf; cases hf
 ·rw [show fK b.fB (⟨t,s,p,1,aB⟩:En).tree=_ from h.find] at hf;obtain rfl:=aN hf;exact absurd (show (1:Int)=0 from h2) (by decide)
 ·rw [show fK b.fB (⟨t,s,p,1,aB⟩:En).tree=_ from h.find] at hf;obtain rfl:=aN hf;have hu2:u=!dR b.ent t p:=by rw [hu]; rfl
  subst hu2;have he2:dL b ⟨t,s,p,1,aB⟩=({ b with ent:=fF b.ent (dK (b.ent.map dH) (t,s)) ⟨t,s,p,1,!dR b.ent t p⟩ },!dR b.ent t p):=he;rw [he2] at H HT ⊢;have hm:∀ z,z∈fF b.ent (dK (b.ent.map dH) (t,s)) (⟨t,s,p,1,!dR b.ent t p⟩:En)↔z=⟨t,s,p,1,!dR b.ent t p⟩\/z∈b.ent:=fun z=>lH _ _ _ _;refine⟨rfl,⟨H,h.me,h.near,h.fB,h.seen,h.own,HT,fun e q=>?_,fun e q=>?_,(zK _ _ _).trans (by rw [h.len])⟩,hm,?_⟩
  ·rcases (hm e).1 q with rfl|q
   ·exact hp
   ·exact h.pe e q
  ·rcases (hm e).1 q with rfl|q
   ·exact⟨rfl,rfl⟩
   ·exact h.tr e q
  ·cases hc:dR b.ent t p with
   | true =>
    obtain⟨z,h1,h2⟩:=(jC _ _ _).1 hc;exact (jC _ _ _).2 ⟨z,(lH _ _ _ _).2 (Z h1),h2⟩
   | false=>exact (jC _ _ _).2 ⟨_,(lH _ _ _ _).2 (aL rfl),rfl,rfl,Cw p⟩
structure Got (t:dW) (L:List En) (b:Br):Prop where
 one:One t L.length b
 all:∀ e∈L,∃ z∈b.ent,z.sub=e.sub/\z.p=e.p
 only:∀ z∈b.ent,∃ e∈L,z.sub=e.sub
 Oz:∀ e∈L,dR b.ent t e.p=bg
structure l7 (t:dW) (L:List En):Prop where
 OA:(L.map En.sub).Nodup
 are:∀ e∈L,e.tree=t/\e.from_=1/\e.up=aB/\eH e.p/\Wr.jd e.p=bg
theorem xY (t:dW):Got t [] (nU t):=⟨lQ t,by simp,by intro z hz; simp at hz,by simp⟩
theorem qd {L:List En} (h:(L.map En.sub).Nodup) {k:Nat} {e:En} (he:L[k]?=Y e):∀ z∈L.take k,z.sub≠e.sub:=by
 intro z hz q;obtain⟨i,hi⟩:=aK.1 hz;have hl:=(ay.1 hi).1;rw [bA] at hl;rw [List.getElem?_take_of_lt (by omega)] at hi;have h1:=List.pairwise_iff_getElem.1 h i k (by rw [bI]; exact (ay.1 hi).1) (by rw [bI]; exact (ay.1 he).1) (by omega);rw [bF,bF,(ay.1 hi).2,(ay.1 he).2] at h1;exact h1 q
theorem vg {t:dW} {L:List En} {k:Nat} {b:Br} {e:En} (hL:l7 t L) (he:L[k]?=Y e) (h:Got t (L.take k) b):Got t (L.take (k+1)) (dL b e).1/\(dL b e).2=!dR b.ent t e.p:=by
 have hm:=aM he;obtain⟨a1,a2,a3,a4,a5⟩:=hL.are e hm;have hnd:=qd hL.OA he;obtain⟨t',s,p,f,u⟩:=e;obtain rfl:t'=t:=a1;obtain rfl:f=1:=a2;obtain rfl:u=aB:=a3;obtain⟨e1,e2,e3,e4⟩:=one_add h.one (s:=s) (p:=p) (fun y hy q=>by
  obtain⟨e0,h1,h2⟩:=h.only y hy;exact hnd e0 h1 (h2.symm.trans q)) a4 a5
 have htk:L.take (k+1)=L.take k++[⟨t',s,p,1,aB⟩]:=by rw [List.take_add_one,he]; rfl
 refine⟨⟨?_,fun x hx=>?_,fun z hz=>?_,fun x hx=>?_⟩,congrArg Prod.snd e1⟩
 ·rw [htk,aP]; exact e2
 ·rw [htk] at hx;rcases bJ.1 hx with hx|hx
  ·obtain⟨z,h1,h2⟩:=h.all x hx;exact⟨z,(e3 z).2 (Z h1),h2⟩
  ·obtain rfl:=aJ.1 hx;exact⟨_,(e3 _).2 (aL rfl),rfl,rfl⟩
 ·rw [htk];rcases (e3 z).1 hz with rfl|hz
  ·exact⟨⟨t',s,p,1,aB⟩,List.mem_append_right _ (aJ.2 rfl),rfl⟩
  ·obtain⟨x,h1,h2⟩:=h.only z hz;exact⟨x,List.mem_append_left _ h1,h2⟩
 ·rw [htk] at hx;rcases bJ.1 hx with hx|hx
  ·obtain⟨z,h1,h2⟩:=(jC _ _ _).1 (h.Oz x hx);exact (jC _ _ _).2 ⟨z,(e3 z).2 (Z h1),h2⟩
  ·obtain rfl:=aJ.1 hx;exact e4
end Sb
namespace Av
open Go.RowKit Go.Sort Rw Ytmklifheakemeaa.Nm Pr Bk
end Av
namespace Av
open Go.RowKit Go.Sort Rw Ytmklifheakemeaa.Nm Pr Bk
theorem xZ {α β:Type} {E:Ek α} {F:Ek β} {W W':aC} {B B':Nat} {v u:ak} {l:List β} {m:List α} (ho:Own F W B v l) (gr:W.grownBy W' v.ownBlock) (h:Own E W B' u m) (hne:(E.t == F.t)=aB):Own E W' B' u m:=by
 rcases eX ho with⟨h1,_⟩|⟨g,c,cur,h1,_,h2,_⟩
 ·rw [h1] at gr;exact Bk.dB h ((J _ _).grown gr (bH _) (fun j hj=>by cases hj))
 ·rw [h1] at gr;exact (rM (b:=g) gr).own h h2 hne
theorem Gi {β:Type} {F:Ek β} {W W':aC} {B k:Nat} {v:ak} {l:List β} {cs:Array ak} {t:bQ} (ho:Own F W B v l) (gr:W.grownBy W' v.ownBlock) (h:dz W k cs t) (hne:(t == F.t)=aB):dz W' k cs t:=by
 rcases eX ho with⟨h1,_⟩|⟨g,c,cur,h1,_,h2,_⟩
 ·rw [h1] at gr;exact h.on ((J _ _).grown gr (bH _) (fun j hj=>by cases hj))
 ·rw [h1] at gr;exact (rM (b:=g) gr).box h (iM h h2 hne)
theorem rT {α β:Type} {R:α->β->Prop} {x:α} {y:β} (hx:R x y):∀ {l:List α} {m:List β},dV R l m->dV R (l++[x]) (m++[y])
 | _,_,.nil=>.cons hx .nil
 | _,_,.cons h t=>.cons h (rT hx t)
end Av
namespace Sb
open Go.RowKit Go.Sort Rw Ytmklifheakemeaa.Nm Pr Bk Av Rl
def Nu (W:aC) (B:Nat) (x:fE) (a:En):Prop:=(x.1,x.2.1)=a.tree/\(x.2.2.1,x.2.2.2.1)=a.sub/\x.2.2.2.2.2.1=a.from_/\x.2.2.2.2.2.2=a.up/\kE W B (dO x.2.2.2.2.1) a.p
theorem Nu.en {W:aC} {B:Nat} {x:fE} {a:En} (h:Nu W B x a):iE W x a:=⟨h.1,h.2.1,h.2.2.1,h.2.2.2.1,Row.dG h.2.2.2.2⟩
structure lS (W:aC) (B:Nat) (v:ak) (lx:List fE) (l:List En):Prop where
 row:gF W B v lx
 all:dV (Nu W B) lx l
theorem lS.nil (W:aC) (B:Nat):lS W B (O aG 0 0) [] []:=⟨gX _ _,.nil⟩
theorem lS.on {W W':aC} {B:Nat} {v:ak} {lx:List fE} {l:List En} (h:lS W B v lx l) (hb:Below W.heap.size W W'):lS W' B v lx l:=⟨Bk.dB h.row hb,h.all.mono fun _ _ q=>⟨q.1,q.2.1,q.2.2.1,q.2.2.2.1,Bk.dB q.2.2.2.2 hb⟩⟩
theorem lS.but {W W':aC} {B g:Nat} {v:ak} {lx:List fE} {l:List En} {cs:Array ak} {t:bQ} (h:lS W B v lx l) (hk:But g W W') (hg:dz W g cs t) (h1:(43 == t)=aB) (h2:(56 == t)=aB):lS W' B v lx l:=⟨hk.own h.row hg h1,h.all.mono fun _ _ q=>⟨q.1,q.2.1,q.2.2.1,q.2.2.2.1,hk.own q.2.2.2.2 hg h2⟩⟩
theorem lS.push {W W':aC} {B:Nat} {v v':ak} {lx:List fE} {l:List En} {x:fE} {a:En} (h:lS W B v lx l) (gr:W.grownBy W' v.ownBlock) (ho:gF W' B v' (lx++[x])) (hx:Nu W B x a):lS W' B v' (lx++[x]) (l++[a]) :=
 ⟨ho,rT ⟨hx.1,hx.2.1,hx.2.2.1,hx.2.2.2.1,xZ h.row gr hx.2.2.2.2 (by decide)⟩ (h.all.mono fun _ _ q=>⟨q.1,q.2.1,q.2.2.1,q.2.2.2.1,xZ h.row gr q.2.2.2.2 (by decide)⟩)⟩
theorem lS.en {W:aC} {B:Nat} {v:ak} {lx:List fE} {l:List En} (h:lS W B v lx l):iZ W v lx/\dV (iE W) lx l:=⟨Row.dG h.row,h.all.mono fun _ _ q=>q.en⟩
def Gj (k:Nat) (rv:ak) (p:aA) (z:fE) (a_:En) (b:Br) (s1:Option aA) (s2 s3:Nat) (s4:Option aA) (s5 s6:Nat) (s7:Option aA) (s8 s9:Nat) (s10:Option aA) (s11 s12:Nat) (s13:Option aA) (s14 s15:Nat) (i:Nat) (v:ak) (x:aC):Prop :=
 match i with
 | 0=>v=iJ b.me (s1,s2,s3) (s4,s5,s6) (s7,s8,s9) (s10,s11,s12) (s13,s14,s15)
 | 1=>v=rv
 | 2=>v=ah aj (k:Int)
 | 3=>v=X (Y p)
 | 4=>v=iY z
 | 5=>∃ nv av sv ev ov:Sl,v=.tuple #[iJ (dL b a_).1.me nv av sv ev ov,bU (dL b a_).2]/\iW x (dL b a_).1 nv av sv ev ov
 | 6=>∃ nv av sv ev ov:Sl,v=.tuple #[iJ (dL b a_).1.me nv av sv ev ov,bU (dL b a_).2]/\iW x (dL b a_).1 nv av sv ev ov
 | 7=>∃ nv av sv ev ov:Sl,v=iJ (dL b a_).1.me nv av sv ev ov/\iW x (dL b a_).1 nv av sv ev ov
 | 8=>True
 | _=>True
noncomputable def x9:Code:=((Try.f4.body.bind (dU 18)).getD .skip)
theorem JM (Q:Exit->Act->aC->Prop) (W:aC) (bb k:Nat) (rv:ak) (p:aA) (z:fE) (a_:En) (b:Br) (s1:Option aA) (s2 s3:Nat) (s4:Option aA) (s5 s6:Nat) (s7:Option aA) (s8 s9:Nat) (s10:Option aA) (s11 s12:Nat) (s13:Option aA) (s14 s15:Nat) (u0 u1 u2 u3 u4 u5 u7 u8 u10 u11 u12 u13 u15 u16 u17 u18 u19 u20 u21 u22 u23 u24 u25 u26 u27 u28 u29 u30 u31 u32 u33 u34 u35 u36 u37 u38 u39 u40 u41 u42 u43 u44 u45 u46 u47 u48 u49 u50 u51 u52 u53 u54 u55 u56 u57 u58 u59 u60 u61 u62 u63 u64 u65 u66 u67 u68 u69 u70 u71 u72 u73 u74 u75 u76 u77 u78 u79 u80 u81 u82 u83 u84 u85 u86 u87 u88 u89 u90 u91 u92 u93 u94 u95 u96 u97 u98 u99 u100 u101 u102 u103 u104 u105 u106 u107 u108 u109 u110 u111 u112 u113 u114 u115 u116 u117 u118 u119 u120 u121 u122 u123 u124 u125 u126 u127 u128 u129 u130 u131 u132 u133 u134 u135 u136 u137 u138 u139 u140 u141 u142 u143 u144 u145 u146 u147 u148 u149 u150 u151 u152 u153 u154 u155 u156 u157 u158 u159 u160 u161 u162 u163 u164 u165 u166 u167 u168 u169 u170 u171 u172 u173 u174 u175 u176 u177 u178 u179 u180 u181 u182 u183 u184 u185 u186 u187 u188 u189 u190 u191 u192 u193 u194 u195 u196 u197 u198 u199 u200 u201 u202 u203 u204 u205 u206 u207 u208 u209 u210 u211 u212 u213 u214 u215 u216 u217 u218 u219:ak)
  (fG:dz W bb #[ah aj b.me,O s1 s2 s3,O s4 s5 s6,O s7 s8 s9,O s10 s11 s12,O s13 s14 s15] 31) (bn:iW W b (s1,s2,s3) (s4,s5,s6) (s7,s8,s9) (s10,s11,s12) (s13,s14,s15)) (ix:∀ w,(aI 28 rv (ah aj (k:Int))).run aD w=.ok (X (Y p)) w) (px:∀ x,Below W.heap.size W x->∀ j u,(eY z)[j]?=Y u->x.cell? (p.add j)=Y u) (ai:iE W z a_) (fw:uF b) (fp:kL b) (re:fM b.ent) (ok:∀ e∈b.ent,eH e.p) (oe:eH a_.p)
  (hQ:∀ (x:aC) (v103 v104 v105 v106 v107 v108 v109 v110 v111:ak) (m1:Option aA) (m2 m3:Nat) (m4:Option aA) (m5 m6:Nat) (m7:Option aA) (m8 m9:Nat) (m10:Option aA) (m11 m12:Nat) (m13:Option aA) (m14 m15:Nat),dz x bb #[ah aj (dL b a_).1.me,O m1 m2 m3,O m4 m5 m6,O m7 m8 m9,O m10 m11 m12,O m13 m14 m15] 31->iW x (dL b a_).1 (m1,m2,m3) (m4,m5,m6) (m7,m8,m9) (m10,m11,m12) (m13,m14,m15)->Rg.EH bb W x->Q .normal ⟨(u0::u1::u2::u3::u4::u5::X (Y ⟨bb,0,aG⟩)::u7::u8::rv::u10::u11::u12::u13::ah aj (k:Int)::u15::u16::u17::u18::u19::u20::u21::u22::u23::u24::u25::u26::u27::u28::u29::u30::u31::u32::u33::u34::u35::u36::u37::u38::u39::u40::u41::u42::u43::u44::u45::u46::u47::u48::u49::u50::u51::u52::u53::u54::u55::u56::u57::u58::u59::u60::u61::u62::u63::u64::u65::u66::u67::u68::u69::u70::u71::u72::u73::u74::u75::u76::u77::u78::u79::u80::u81::u82::u83::u84::u85::u86::u87::u88::u89::u90::u91::u92::u93::u94::u95::u96::u97::u98::u99::u100::u101::u102::v103::v104::v105::v106::v107::v108::v109::v110::v111::u112::u113::u114::u115::u116::u117::u118::u119::u120::u121::u122::u123::u124::u125::u126::u127::u128::u129::u130::u131::u132::u133::u134::u135::u136::u137::u138::u139::u140::u141::u142::u143::u144::u145::u146::u147::u148::u149::u150::u151::u152::u153::u154::u155::u156::u157::u158::u159::u160::u161::u162::u163::u164::u165::u166::u167::u168::u169::u170::u171::u172::u173::u174::u175::u176::u177::u178::u179::u180::u181::u182::u183::u184::u185::u186::u187::u188::u189::u190::u191::u192::u193::u194::u195::u196::u197::u198::u199::u200::u201::u202::u203::u204::u205::u206::u207::u208::u209::u210::u211::u212::u213::u214::u215::u216::u217::u218::u219::[]).toArray,[]⟩ x) :
  Code.wp aD x9 Q ⟨(u0::u1::u2::u3::u4::u5::X (Y ⟨bb,0,aG⟩)::u7::u8::rv::u10::u11::u12::u13::ah aj (k:Int)::u15::u16::u17::u18::u19::u20::u21::u22::u23::u24::u25::u26::u27::u28::u29::u30::u31::u32::u33::u34::u35::u36::u37::u38::u39::u40::u41::u42::u43::u44::u45::u46::u47::u48::u49::u50::u51::u52::u53::u54::u55::u56::u57::u58::u59::u60::u61::u62::u63::u64::u65::u66::u67::u68::u69::u70::u71::u72::u73::u74::u75::u76::u77::u78::u79::u80::u81::u82::u83::u84::u85::u86::u87::u88::u89::u90::u91::u92::u93::u94::u95::u96::u97::u98::u99::u100::u101::u102::u103::u104::u105::u106::u107::u108::u109::u110::u111::u112::u113::u114::u115::u116::u117::u118::u119::u120::u121::u122::u123::u124::u125::u126::u127::u128::u129::u130::u131::u132::u133::u134::u135::u136::u137::u138::u139::u140::u141::u142::u143::u144::u145::u146::u147::u148::u149::u150::u151::u152::u153::u154::u155::u156::u157::u158::u159::u160::u161::u162::u163::u164::u165::u166::u167::u168::u169::u170::u171::u172::u173::u174::u175::u176::u177::u178::u179::u180::u181::u182::u183::u184::u185::u186::u187::u188::u189::u190::u191::u192::u193::u194::u195::u196::u197::u198::u199::u200::u201::u202::u203::u204::u205::u206::u207::u208::u209::u210::u211::u212::u213::u214::u215::u216::u217::u218::u219::[]).toArray,[]⟩ W:=by
 have HQ:=V hQ;have HB:=V fG;have BN:=V bn;have IX:=V ix;have PX:=V px;have AI:=V ai;have FW:=V fw;have FP:=V fp;have RE:=V re;have OK:=V ok;have OE:=V oe;clear hQ fG bn ix px ai fw fp re ok oe;unfold x9
 conv=>arg 2; whnf
 have Qo:∀ i,i<10->[104,105,106,107,108,109,103,110,111,110].getD i 0≠6:=by decide
 have RZ:∀ i,i<10->[104,105,106,107,108,109,103,110,111,110].getD i 0≠9:=by decide
 have JN:∀ i,i<10->[104,105,106,107,108,109,103,110,111,110].getD i 0≠14:=by decide
 refine Rg.lJ 10 9 7 (fun i=>[104,105,106,107,108,109,103,110,111,110].getD i 0) (fun _=>10) (Gj k rv p z a_ b s1 s2 s3 s4 s5 s6 s7 s8 s9 s10 s11 s12 s13 s14 s15) (fun i=>i == 8) 31 bb #[ah aj b.me,O s1 s2 s3,O s4 s5 s6,O s7 s8 s9,O s10 s11 s12,O s13 s14 s15] (fun v=>match v with | bL c=>c | _=>#[]) (by kernel_rfl) (by kernel_rfl) rfl (by decide) (by decide) (by decide) (by decide) HB.out (fun i j hi hj h1 h2 h=>(by decide:∀ i,i<10->∀ j,j<10->i≠9->j≠9->[104,105,106,107,108,109,103,110,111,110].getD i 0=[104,105,106,107,108,109,103,110,111,110].getD j 0->i=j) i hi j hj h1 h2 h) (fun i hi _=>(by decide:∀ i,i<10->[104,105,106,107,108,109,103,110,111,110].getD i 0<220) i hi) ?_ ?_ (by decide) ?_ ?_ (fun j _ _=>aL (by decide)) ?_
 ·intro i v x x' hi h hb;by_cases hi9:i<9
  ·rcases (by omega:i=0\/i=1\/i=2\/i=3\/i=4\/i=5\/i=6\/i=7\/i=8) with rfl|rfl|rfl|rfl|rfl|rfl|rfl|rfl|rfl
   ·exact h
   ·exact h
   ·exact h
   ·exact h
   ·exact h
   ·obtain⟨a1,a2,a3,a4,a5,h1,h2⟩:=h; exact⟨a1,a2,a3,a4,a5,h1,h2.on hb⟩
   ·obtain⟨a1,a2,a3,a4,a5,h1,h2⟩:=h; exact⟨a1,a2,a3,a4,a5,h1,h2.on hb⟩
   ·obtain⟨a1,a2,a3,a4,a5,h1,h2⟩:=h; exact⟨a1,a2,a3,a4,a5,h1,h2.on hb⟩
   ·exact h
  ·obtain rfl:i=9:=by omega
   trivial
 ·intro o ho i hi hi9 hfi;cases ho;have h8:i≠8:=fun e=>by rw [e] at hfi; simp at hfi
  rcases (by omega:i=0\/i=1\/i=2\/i=3\/i=4\/i=5\/i=6\/i=7) with rfl|rfl|rfl|rfl|rfl|rfl|rfl|rfl
  ·exact⟨⟨0,.phase⟩,by simp,rfl,rfl⟩
  ·exact⟨⟨1,.phase⟩,by simp,rfl,rfl⟩
  ·exact⟨⟨2,.phase⟩,by simp,rfl,rfl⟩
  ·exact⟨⟨3,.phase⟩,by simp,rfl,rfl⟩
  ·exact⟨⟨4,.phase⟩,by simp,rfl,rfl⟩
  ·exact⟨⟨5,.chain⟩,by simp,rfl,rfl⟩
  ·exact⟨⟨6,.phase⟩,by simp,rfl,rfl⟩
  ·exact⟨⟨7,.data⟩,by simp,rfl,rfl⟩
 ·intro i o hi hi9 ho a x hpre seen K hK;clear HQ;rcases (by omega:i=0\/i=1\/i=2\/i=3\/i=4\/i=5\/i=6\/i=7\/i=8) with rfl|rfl|rfl|rfl|rfl|rfl|rfl|rfl|rfl
  ·cases ho;obtain⟨hb,hbx⟩:=hpre rfl;have e6:a.eval (U 6)=X (Y ⟨bb,0,aG⟩):=seen.kp 6 _ Qo rfl;exact au rfl rfl (bM a.eval _ 31 (U 6) rfl (by rw [e6]; exact tu hbx)) (hK _ x rfl (J _ _))
  ·cases ho;obtain⟨hb,hbx⟩:=hpre rfl;have e9:a.eval (U 9)=rv:=seen.kp 9 _ RZ rfl;exact au rfl rfl (aQ a.eval _ (U 9) rfl x) (hK _ x e9 (J _ _))
  ·cases ho;obtain⟨hb,hbx⟩:=hpre rfl;have e14:a.eval (U 14)=ah aj (k:Int):=seen.kp 14 _ JN rfl;exact au rfl rfl (aQ a.eval _ (U 14) rfl x) (hK _ x e14 (J _ _))
  ·cases ho;obtain⟨hb,hbx⟩:=hpre rfl;have e105:a.eval (U 105)=rv:=seen.at_ ⟨1,.data⟩ (by simp) rfl (by decide) (Z (by decide));have e106:a.eval (U 106)=ah aj (k:Int):=seen.at_ ⟨2,.data⟩ (by simp) rfl (by decide) (Z (by decide));exact au rfl rfl (bV a.eval _ 28 (U 105) (U 106) rfl (by rw [e105,e106]; exact IX.out x)) (hK _ x rfl (J _ _))
  ·cases ho;obtain⟨hb,hbx⟩:=hpre rfl;have e107:a.eval (U 107)=X (Y p):=seen.at_ ⟨3,.data⟩ (by simp) rfl (by decide) (Z (by decide));exact au rfl rfl (bM a.eval _ 43 (U 107) rfl (by rw [e107]; exact xA x p z (PX.out x hb))) (hK _ x rfl (J _ _))
  ·cases ho;obtain⟨hb,hbx⟩:=hpre rfl;have e104:a.eval (U 104)=iJ b.me (s1,s2,s3) (s4,s5,s6) (s7,s8,s9) (s10,s11,s12) (s13,s14,s15):=seen.at_ ⟨0,.data⟩ (by simp) rfl (by decide) (Z (by decide));have e108:a.eval (U 108)=iY z:=seen.at_ ⟨4,.data⟩ (by simp) rfl (by decide) (Z (by decide));exact cu rfl rfl (Rw.gN a.eval _ (U 104) (U 108) 31 43 7 rfl e104 e108 rfl _ (eG bS rfl rfl _ _)) (jQ b a_ (s1,s2,s3) (s4,s5,s6) (s7,s8,s9) (s10,s11,s12) (s13,s14,s15) z x (BN.out.on hb).br (AI.out.on hb) FW.out FP.out RE.out OK.out OE.out) fun e w1 h=>by
    obtain⟨⟨a1,a2,a3,a4,a5,rfl,h2,h3⟩,h5⟩:=h;exact⟨_,rfl,hK _ _ ⟨a1,a2,a3,a4,a5,rfl,h2,h3 (BN.out.on hb).no⟩ h5⟩
  ·cases ho;obtain⟨hb,hbx⟩:=hpre rfl;have E:=seen.at_ ⟨5,.data⟩ (by simp) rfl (by decide) (Z (by decide));exact au rfl rfl (aQ a.eval _ (U 109) rfl x) (hK _ x E (J _ _))
  ·cases ho;obtain⟨hb,hbx⟩:=hpre rfl;have E:=seen.at_ ⟨6,.data⟩ (by simp) rfl (by decide) (Z (by decide));obtain⟨a1,a2,a3,a4,a5,h1,h2⟩:=E;exact au rfl rfl (fu a.eval _ (U 103) 0 rfl h1 rfl x) (hK _ x ⟨a1,a2,a3,a4,a5,rfl,h2⟩ (J _ _))
  ·cases ho;have E:=seen.at_ ⟨6,.data⟩ (by simp) rfl (by decide) (Z (by decide));obtain⟨a1,a2,a3,a4,a5,h1,h2⟩:=E;exact au rfl rfl (fu a.eval _ (U 103) 1 rfl h1 rfl x) (hK _ x trivial (J _ _))
 ·intro o ho a x v hb hbx hC nV hbase K hK;clear HQ;cases ho;obtain⟨⟨m1,m2,m3⟩,⟨m4,m5,m6⟩,⟨m7,m8,m9⟩,⟨m10,m11,m12⟩,⟨m13,m14,m15⟩,hv1,hv2⟩:=nV;subst hv1;have gG:=eT x bb (ah aj (dL b a_).1.me) (O m1 m2 m3) (O m4 m5 m6) (O m7 m8 m9) (O m10 m11 m12) (O m13 m14 m15);have eB:a.eval (U 6)=X (Y ⟨bb,0,aG⟩):=hbase 6 _ rfl Qo;refine Rg.fI 31 (U 6) (U 110) rfl rfl rfl rfl eB hC (w':=jc x bb (ah aj (dL b a_).1.me) (O m1 m2 m3) (O m4 m5 m6) (O m7 m8 m9) (O m10 m11 m12) (O m13 m14 m15)) (jV hbx _ _ _ _ _ _ _ _ _ _ _ _ _ _ _ _) (hK _ gG (fun B w hB h=>dM h hB _ _ _ _ _ _) (dY hbx _ _ _ _ _ _) ?_);intro j u hj R6 _ h;rcases (by omega:j=0\/j=1\/j=2\/j=3\/j=4\/j=5\/j=6\/j=7\/j=8) with rfl|rfl|rfl|rfl|rfl|rfl|rfl|rfl|rfl
  ·have h2:u=iJ b.me (s1,s2,s3) (s4,s5,s6) (s7,s8,s9) (s10,s11,s12) (s13,s14,s15):=h; exact h2
  ·have h2:u=rv:=h; exact h2
  ·have h2:u=ah aj (k:Int):=h; exact h2
  ·have h2:u=X (Y p):=h; exact h2
  ·have h2:u=iY z:=h; exact h2
  ·obtain⟨a1,a2,a3,a4,a5,h1,h2⟩:=h; exact⟨a1,a2,a3,a4,a5,h1,h2.keep (s1:=(s1,s2,s3)) (s2:=(s4,s5,s6)) (s3:=(s7,s8,s9)) (s4:=(s10,s11,s12)) (s5:=(s13,s14,s15)) hbx gG⟩
  ·obtain⟨a1,a2,a3,a4,a5,h1,h2⟩:=h; exact⟨a1,a2,a3,a4,a5,h1,h2.keep (s1:=(s1,s2,s3)) (s2:=(s4,s5,s6)) (s3:=(s7,s8,s9)) (s4:=(s10,s11,s12)) (s5:=(s13,s14,s15)) hbx gG⟩
  ·obtain⟨a1,a2,a3,a4,a5,h1,h2⟩:=h; exact⟨a1,a2,a3,a4,a5,h1,h2.keep (s1:=(s1,s2,s3)) (s2:=(s4,s5,s6)) (s3:=(s7,s8,s9)) (s4:=(s10,s11,s12)) (s5:=(s13,s14,s15)) hbx gG⟩
  ·trivial
 ·intro a x v df sz kp gC hbx nV mI _;obtain⟨⟨m1,m2,m3⟩,⟨m4,m5,m6⟩,⟨m7,m8,m9⟩,⟨m10,m11,m12⟩,⟨m13,m14,m15⟩,hv1,hv2⟩:=nV;subst hv1;have oz:∀ j,(j<103\/112<=j)->a.tmps[j]?=(u0::u1::u2::u3::u4::u5::X (Y ⟨bb,0,aG⟩)::u7::u8::rv::u10::u11::u12::u13::ah aj (k:Int)::u15::u16::u17::u18::u19::u20::u21::u22::u23::u24::u25::u26::u27::u28::u29::u30::u31::u32::u33::u34::u35::u36::u37::u38::u39::u40::u41::u42::u43::u44::u45::u46::u47::u48::u49::u50::u51::u52::u53::u54::u55::u56::u57::u58::u59::u60::u61::u62::u63::u64::u65::u66::u67::u68::u69::u70::u71::u72::u73::u74::u75::u76::u77::u78::u79::u80::u81::u82::u83::u84::u85::u86::u87::u88::u89::u90::u91::u92::u93::u94::u95::u96::u97::u98::u99::u100::u101::u102::u103::u104::u105::u106::u107::u108::u109::u110::u111::u112::u113::u114::u115::u116::u117::u118::u119::u120::u121::u122::u123::u124::u125::u126::u127::u128::u129::u130::u131::u132::u133::u134::u135::u136::u137::u138::u139::u140::u141::u142::u143::u144::u145::u146::u147::u148::u149::u150::u151::u152::u153::u154::u155::u156::u157::u158::u159::u160::u161::u162::u163::u164::u165::u166::u167::u168::u169::u170::u171::u172::u173::u174::u175::u176::u177::u178::u179::u180::u181::u182::u183::u184::u185::u186::u187::u188::u189::u190::u191::u192::u193::u194::u195::u196::u197::u198::u199::u200::u201::u202::u203::u204::u205::u206::u207::u208::u209::u210::u211::u212::u213::u214::u215::u216::u217::u218::u219::[])[j]?:=fun j hj=>(kp j (fun i hi h=>by have:=(by decide:∀ i,i<10->103<=[104,105,106,107,108,109,103,110,111,110].getD i 0/\[104,105,106,107,108,109,103,110,111,110].getD i 0<112) i hi; omega)).trans aF;obtain⟨mid,hmid,rfl⟩:=bW 103 9 df sz (by simp) oz
  match mid,hmid with
  | [v103,v104,v105,v106,v107,v108,v109,v110,v111],_=>exact HQ.out x _ _ _ _ _ _ _ _ _ m1 m2 m3 m4 m5 m6 m7 m8 m9 m10 m11 m12 m13 m14 m15 hbx hv2 mI
def Gl (k:Nat) (rv:ak) (p:aA) (z:fE) (a_:En) (b:Br) (s1:Option aA) (s2 s3:Nat) (s4:Option aA) (s5 s6:Nat) (s7:Option aA) (s8 s9:Nat) (s10:Option aA) (s11 s12:Nat) (s13:Option aA) (s14 s15:Nat) (i:Nat) (v:ak) (x:aC):Prop :=
 match i with
 | 0=>v=iJ b.me (s1,s2,s3) (s4,s5,s6) (s7,s8,s9) (s10,s11,s12) (s13,s14,s15)
 | 1=>v=rv
 | 2=>v=ah aj (k:Int)
 | 3=>v=X (Y p)
 | 4=>v=iY z
 | 5=>∃ nv av sv ev ov:Sl,v=.tuple #[iJ (dL b a_).1.me nv av sv ev ov,bU (dL b a_).2]/\iW x (dL b a_).1 nv av sv ev ov
 | 6=>∃ nv av sv ev ov:Sl,v=.tuple #[iJ (dL b a_).1.me nv av sv ev ov,bU (dL b a_).2]/\iW x (dL b a_).1 nv av sv ev ov
 | 7=>∃ nv av sv ev ov:Sl,v=iJ (dL b a_).1.me nv av sv ev ov/\iW x (dL b a_).1 nv av sv ev ov
 | 8=>True
 | _=>True
noncomputable def yg:Code:=((Try.f4.body.bind (dU 19)).getD .skip)
theorem JO (Q:Exit->Act->aC->Prop) (W:aC) (bb k:Nat) (rv:ak) (p:aA) (z:fE) (a_:En) (b:Br) (s1:Option aA) (s2 s3:Nat) (s4:Option aA) (s5 s6:Nat) (s7:Option aA) (s8 s9:Nat) (s10:Option aA) (s11 s12:Nat) (s13:Option aA) (s14 s15:Nat) (u0 u1 u2 u3 u4 u5 u6 u7 u9 u10 u12 u13 u15 u16 u17 u18 u19 u20 u21 u22 u23 u24 u25 u26 u27 u28 u29 u30 u31 u32 u33 u34 u35 u36 u37 u38 u39 u40 u41 u42 u43 u44 u45 u46 u47 u48 u49 u50 u51 u52 u53 u54 u55 u56 u57 u58 u59 u60 u61 u62 u63 u64 u65 u66 u67 u68 u69 u70 u71 u72 u73 u74 u75 u76 u77 u78 u79 u80 u81 u82 u83 u84 u85 u86 u87 u88 u89 u90 u91 u92 u93 u94 u95 u96 u97 u98 u99 u100 u101 u102 u103 u104 u105 u106 u107 u108 u109 u110 u111 u112 u113 u114 u115 u116 u117 u118 u119 u120 u121 u122 u123 u124 u125 u126 u127 u128 u129 u130 u131 u132 u133 u134 u135 u136 u137 u138 u139 u140 u141 u142 u143 u144 u145 u146 u147 u148 u149 u150 u151 u152 u153 u154 u155 u156 u157 u158 u159 u160 u161 u162 u163 u164 u165 u166 u167 u168 u169 u170 u171 u172 u173 u174 u175 u176 u177 u178 u179 u180 u181 u182 u183 u184 u185 u186 u187 u188 u189 u190 u191 u192 u193 u194 u195 u196 u197 u198 u199 u200 u201 u202 u203 u204 u205 u206 u207 u208 u209 u210 u211 u212 u213 u214 u215 u216 u217 u218 u219:ak)
  (fG:dz W bb #[ah aj b.me,O s1 s2 s3,O s4 s5 s6,O s7 s8 s9,O s10 s11 s12,O s13 s14 s15] 31) (bn:iW W b (s1,s2,s3) (s4,s5,s6) (s7,s8,s9) (s10,s11,s12) (s13,s14,s15)) (ix:∀ w,(aI 28 rv (ah aj (k:Int))).run aD w=.ok (X (Y p)) w) (px:∀ x,Below W.heap.size W x->∀ j u,(eY z)[j]?=Y u->x.cell? (p.add j)=Y u) (ai:iE W z a_) (fw:uF b) (fp:kL b) (re:fM b.ent) (ok:∀ e∈b.ent,eH e.p) (oe:eH a_.p)
  (hQ:∀ (x:aC) (v112 v113 v114 v115 v116 v117 v118 v119 v120:ak) (m1:Option aA) (m2 m3:Nat) (m4:Option aA) (m5 m6:Nat) (m7:Option aA) (m8 m9:Nat) (m10:Option aA) (m11 m12:Nat) (m13:Option aA) (m14 m15:Nat),dz x bb #[ah aj (dL b a_).1.me,O m1 m2 m3,O m4 m5 m6,O m7 m8 m9,O m10 m11 m12,O m13 m14 m15] 31->iW x (dL b a_).1 (m1,m2,m3) (m4,m5,m6) (m7,m8,m9) (m10,m11,m12) (m13,m14,m15)->Rg.EH bb W x->Q .normal ⟨(u0::u1::u2::u3::u4::u5::u6::u7::X (Y ⟨bb,0,aG⟩)::u9::u10::rv::u12::u13::ah aj (k:Int)::u15::u16::u17::u18::u19::u20::u21::u22::u23::u24::u25::u26::u27::u28::u29::u30::u31::u32::u33::u34::u35::u36::u37::u38::u39::u40::u41::u42::u43::u44::u45::u46::u47::u48::u49::u50::u51::u52::u53::u54::u55::u56::u57::u58::u59::u60::u61::u62::u63::u64::u65::u66::u67::u68::u69::u70::u71::u72::u73::u74::u75::u76::u77::u78::u79::u80::u81::u82::u83::u84::u85::u86::u87::u88::u89::u90::u91::u92::u93::u94::u95::u96::u97::u98::u99::u100::u101::u102::u103::u104::u105::u106::u107::u108::u109::u110::u111::v112::v113::v114::v115::v116::v117::v118::v119::v120::u121::u122::u123::u124::u125::u126::u127::u128::u129::u130::u131::u132::u133::u134::u135::u136::u137::u138::u139::u140::u141::u142::u143::u144::u145::u146::u147::u148::u149::u150::u151::u152::u153::u154::u155::u156::u157::u158::u159::u160::u161::u162::u163::u164::u165::u166::u167::u168::u169::u170::u171::u172::u173::u174::u175::u176::u177::u178::u179::u180::u181::u182::u183::u184::u185::u186::u187::u188::u189::u190::u191::u192::u193::u194::u195::u196::u197::u198::u199::u200::u201::u202::u203::u204::u205::u206::u207::u208::u209::u210::u211::u212::u213::u214::u215::u216::u217::u218::u219::[]).toArray,[]⟩ x) :
  Code.wp aD yg Q ⟨(u0::u1::u2::u3::u4::u5::u6::u7::X (Y ⟨bb,0,aG⟩)::u9::u10::rv::u12::u13::ah aj (k:Int)::u15::u16::u17::u18::u19::u20::u21::u22::u23::u24::u25::u26::u27::u28::u29::u30::u31::u32::u33::u34::u35::u36::u37::u38::u39::u40::u41::u42::u43::u44::u45::u46::u47::u48::u49::u50::u51::u52::u53::u54::u55::u56::u57::u58::u59::u60::u61::u62::u63::u64::u65::u66::u67::u68::u69::u70::u71::u72::u73::u74::u75::u76::u77::u78::u79::u80::u81::u82::u83::u84::u85::u86::u87::u88::u89::u90::u91::u92::u93::u94::u95::u96::u97::u98::u99::u100::u101::u102::u103::u104::u105::u106::u107::u108::u109::u110::u111::u112::u113::u114::u115::u116::u117::u118::u119::u120::u121::u122::u123::u124::u125::u126::u127::u128::u129::u130::u131::u132::u133::u134::u135::u136::u137::u138::u139::u140::u141::u142::u143::u144::u145::u146::u147::u148::u149::u150::u151::u152::u153::u154::u155::u156::u157::u158::u159::u160::u161::u162::u163::u164::u165::u166::u167::u168::u169::u170::u171::u172::u173::u174::u175::u176::u177::u178::u179::u180::u181::u182::u183::u184::u185::u186::u187::u188::u189::u190::u191::u192::u193::u194::u195::u196::u197::u198::u199::u200::u201::u202::u203::u204::u205::u206::u207::u208::u209::u210::u211::u212::u213::u214::u215::u216::u217::u218::u219::[]).toArray,[]⟩ W:=by
 have HQ:=V hQ;have HB:=V fG;have BN:=V bn;have IX:=V ix;have PX:=V px;have AI:=V ai;have FW:=V fw;have FP:=V fp;have RE:=V re;have OK:=V ok;have OE:=V oe;clear hQ fG bn ix px ai fw fp re ok oe;unfold yg
 conv=>arg 2; whnf
 have Qp:∀ i,i<10->[113,114,115,116,117,118,112,119,120,119].getD i 0≠8:=by decide
 have OB:∀ i,i<10->[113,114,115,116,117,118,112,119,120,119].getD i 0≠11:=by decide
 have JN:∀ i,i<10->[113,114,115,116,117,118,112,119,120,119].getD i 0≠14:=by decide
 refine Rg.lJ 10 9 7 (fun i=>[113,114,115,116,117,118,112,119,120,119].getD i 0) (fun _=>10) (Gl k rv p z a_ b s1 s2 s3 s4 s5 s6 s7 s8 s9 s10 s11 s12 s13 s14 s15) (fun i=>i == 8) 31 bb #[ah aj b.me,O s1 s2 s3,O s4 s5 s6,O s7 s8 s9,O s10 s11 s12,O s13 s14 s15] (fun v=>match v with | bL c=>c | _=>#[]) (by kernel_rfl) (by kernel_rfl) rfl (by decide) (by decide) (by decide) (by decide) HB.out (fun i j hi hj h1 h2 h=>(by decide:∀ i,i<10->∀ j,j<10->i≠9->j≠9->[113,114,115,116,117,118,112,119,120,119].getD i 0=[113,114,115,116,117,118,112,119,120,119].getD j 0->i=j) i hi j hj h1 h2 h) (fun i hi _=>(by decide:∀ i,i<10->[113,114,115,116,117,118,112,119,120,119].getD i 0<220) i hi) ?_ ?_ (by decide) ?_ ?_ (fun j _ _=>aL (by decide)) ?_
 ·intro i v x x' hi h hb;by_cases hi9:i<9
  ·rcases (by omega:i=0\/i=1\/i=2\/i=3\/i=4\/i=5\/i=6\/i=7\/i=8) with rfl|rfl|rfl|rfl|rfl|rfl|rfl|rfl|rfl
   ·exact h
   ·exact h
   ·exact h
   ·exact h
   ·exact h
   ·obtain⟨a1,a2,a3,a4,a5,h1,h2⟩:=h; exact⟨a1,a2,a3,a4,a5,h1,h2.on hb⟩
   ·obtain⟨a1,a2,a3,a4,a5,h1,h2⟩:=h; exact⟨a1,a2,a3,a4,a5,h1,h2.on hb⟩
   ·obtain⟨a1,a2,a3,a4,a5,h1,h2⟩:=h; exact⟨a1,a2,a3,a4,a5,h1,h2.on hb⟩
   ·exact h
  ·obtain rfl:i=9:=by omega
   trivial
 ·intro o ho i hi hi9 hfi;cases ho;have h8:i≠8:=fun e=>by rw [e] at hfi; simp at hfi
  rcases (by omega:i=0\/i=1\/i=2\/i=3\/i=4\/i=5\/i=6\/i=7) with rfl|rfl|rfl|rfl|rfl|rfl|rfl|rfl
  ·exact⟨⟨0,.phase⟩,by simp,rfl,rfl⟩
  ·exact⟨⟨1,.phase⟩,by simp,rfl,rfl⟩
  ·exact⟨⟨2,.phase⟩,by simp,rfl,rfl⟩
  ·exact⟨⟨3,.phase⟩,by simp,rfl,rfl⟩
  ·exact⟨⟨4,.phase⟩,by simp,rfl,rfl⟩
  ·exact⟨⟨5,.chain⟩,by simp,rfl,rfl⟩
  ·exact⟨⟨6,.phase⟩,by simp,rfl,rfl⟩
  ·exact⟨⟨7,.data⟩,by simp,rfl,rfl⟩
 ·intro i o hi hi9 ho a x hpre seen K hK;clear HQ;rcases (by omega:i=0\/i=1\/i=2\/i=3\/i=4\/i=5\/i=6\/i=7\/i=8) with rfl|rfl|rfl|rfl|rfl|rfl|rfl|rfl|rfl
  ·cases ho;obtain⟨hb,hbx⟩:=hpre rfl;have e8:a.eval (U 8)=X (Y ⟨bb,0,aG⟩):=seen.kp 8 _ Qp rfl;exact au rfl rfl (bM a.eval _ 31 (U 8) rfl (by rw [e8]; exact tu hbx)) (hK _ x rfl (J _ _))
  ·cases ho;obtain⟨hb,hbx⟩:=hpre rfl;have e11:a.eval (U 11)=rv:=seen.kp 11 _ OB rfl;exact au rfl rfl (aQ a.eval _ (U 11) rfl x) (hK _ x e11 (J _ _))
  ·cases ho;obtain⟨hb,hbx⟩:=hpre rfl;have e14:a.eval (U 14)=ah aj (k:Int):=seen.kp 14 _ JN rfl;exact au rfl rfl (aQ a.eval _ (U 14) rfl x) (hK _ x e14 (J _ _))
  ·cases ho;obtain⟨hb,hbx⟩:=hpre rfl;have e114:a.eval (U 114)=rv:=seen.at_ ⟨1,.data⟩ (by simp) rfl (by decide) (Z (by decide));have e115:a.eval (U 115)=ah aj (k:Int):=seen.at_ ⟨2,.data⟩ (by simp) rfl (by decide) (Z (by decide));exact au rfl rfl (bV a.eval _ 28 (U 114) (U 115) rfl (by rw [e114,e115]; exact IX.out x)) (hK _ x rfl (J _ _))
  ·cases ho;obtain⟨hb,hbx⟩:=hpre rfl;have e116:a.eval (U 116)=X (Y p):=seen.at_ ⟨3,.data⟩ (by simp) rfl (by decide) (Z (by decide));exact au rfl rfl (bM a.eval _ 43 (U 116) rfl (by rw [e116]; exact xA x p z (PX.out x hb))) (hK _ x rfl (J _ _))
  ·cases ho;obtain⟨hb,hbx⟩:=hpre rfl;have e113:a.eval (U 113)=iJ b.me (s1,s2,s3) (s4,s5,s6) (s7,s8,s9) (s10,s11,s12) (s13,s14,s15):=seen.at_ ⟨0,.data⟩ (by simp) rfl (by decide) (Z (by decide));have e117:a.eval (U 117)=iY z:=seen.at_ ⟨4,.data⟩ (by simp) rfl (by decide) (Z (by decide));exact cu rfl rfl (Rw.gN a.eval _ (U 113) (U 117) 31 43 7 rfl e113 e117 rfl _ (eG bS rfl rfl _ _)) (jQ b a_ (s1,s2,s3) (s4,s5,s6) (s7,s8,s9) (s10,s11,s12) (s13,s14,s15) z x (BN.out.on hb).br (AI.out.on hb) FW.out FP.out RE.out OK.out OE.out) fun e w1 h=>by
    obtain⟨⟨a1,a2,a3,a4,a5,rfl,h2,h3⟩,h5⟩:=h;exact⟨_,rfl,hK _ _ ⟨a1,a2,a3,a4,a5,rfl,h2,h3 (BN.out.on hb).no⟩ h5⟩
  ·cases ho;obtain⟨hb,hbx⟩:=hpre rfl;have E:=seen.at_ ⟨5,.data⟩ (by simp) rfl (by decide) (Z (by decide));exact au rfl rfl (aQ a.eval _ (U 118) rfl x) (hK _ x E (J _ _))
  ·cases ho;obtain⟨hb,hbx⟩:=hpre rfl;have E:=seen.at_ ⟨6,.data⟩ (by simp) rfl (by decide) (Z (by decide));obtain⟨a1,a2,a3,a4,a5,h1,h2⟩:=E;exact au rfl rfl (fu a.eval _ (U 112) 0 rfl h1 rfl x) (hK _ x ⟨a1,a2,a3,a4,a5,rfl,h2⟩ (J _ _))
  ·cases ho;have E:=seen.at_ ⟨6,.data⟩ (by simp) rfl (by decide) (Z (by decide));obtain⟨a1,a2,a3,a4,a5,h1,h2⟩:=E;exact au rfl rfl (fu a.eval _ (U 112) 1 rfl h1 rfl x) (hK _ x trivial (J _ _))
 ·intro o ho a x v hb hbx hC nV hbase K hK;clear HQ;cases ho;obtain⟨⟨m1,m2,m3⟩,⟨m4,m5,m6⟩,⟨m7,m8,m9⟩,⟨m10,m11,m12⟩,⟨m13,m14,m15⟩,hv1,hv2⟩:=nV;subst hv1;have gG:=eT x bb (ah aj (dL b a_).1.me) (O m1 m2 m3) (O m4 m5 m6) (O m7 m8 m9) (O m10 m11 m12) (O m13 m14 m15);have eB:a.eval (U 8)=X (Y ⟨bb,0,aG⟩):=hbase 8 _ rfl Qp;refine Rg.fI 31 (U 8) (U 119) rfl rfl rfl rfl eB hC (w':=jc x bb (ah aj (dL b a_).1.me) (O m1 m2 m3) (O m4 m5 m6) (O m7 m8 m9) (O m10 m11 m12) (O m13 m14 m15)) (jV hbx _ _ _ _ _ _ _ _ _ _ _ _ _ _ _ _) (hK _ gG (fun B w hB h=>dM h hB _ _ _ _ _ _) (dY hbx _ _ _ _ _ _) ?_);intro j u hj R6 _ h;rcases (by omega:j=0\/j=1\/j=2\/j=3\/j=4\/j=5\/j=6\/j=7\/j=8) with rfl|rfl|rfl|rfl|rfl|rfl|rfl|rfl|rfl
  ·have h2:u=iJ b.me (s1,s2,s3) (s4,s5,s6) (s7,s8,s9) (s10,s11,s12) (s13,s14,s15):=h; exact h2
  ·have h2:u=rv:=h; exact h2
  ·have h2:u=ah aj (k:Int):=h; exact h2
  ·have h2:u=X (Y p):=h; exact h2
  ·have h2:u=iY z:=h; exact h2
  ·obtain⟨a1,a2,a3,a4,a5,h1,h2⟩:=h; exact⟨a1,a2,a3,a4,a5,h1,h2.keep (s1:=(s1,s2,s3)) (s2:=(s4,s5,s6)) (s3:=(s7,s8,s9)) (s4:=(s10,s11,s12)) (s5:=(s13,s14,s15)) hbx gG⟩
  ·obtain⟨a1,a2,a3,a4,a5,h1,h2⟩:=h; exact⟨a1,a2,a3,a4,a5,h1,h2.keep (s1:=(s1,s2,s3)) (s2:=(s4,s5,s6)) (s3:=(s7,s8,s9)) (s4:=(s10,s11,s12)) (s5:=(s13,s14,s15)) hbx gG⟩
  ·obtain⟨a1,a2,a3,a4,a5,h1,h2⟩:=h; exact⟨a1,a2,a3,a4,a5,h1,h2.keep (s1:=(s1,s2,s3)) (s2:=(s4,s5,s6)) (s3:=(s7,s8,s9)) (s4:=(s10,s11,s12)) (s5:=(s13,s14,s15)) hbx gG⟩
  ·trivial
 ·intro a x v df sz kp gC hbx nV mI _;obtain⟨⟨m1,m2,m3⟩,⟨m4,m5,m6⟩,⟨m7,m8,m9⟩,⟨m10,m11,m12⟩,⟨m13,m14,m15⟩,hv1,hv2⟩:=nV;subst hv1;have oz:∀ j,(j<112\/121<=j)->a.tmps[j]?=(u0::u1::u2::u3::u4::u5::u6::u7::X (Y ⟨bb,0,aG⟩)::u9::u10::rv::u12::u13::ah aj (k:Int)::u15::u16::u17::u18::u19::u20::u21::u22::u23::u24::u25::u26::u27::u28::u29::u30::u31::u32::u33::u34::u35::u36::u37::u38::u39::u40::u41::u42::u43::u44::u45::u46::u47::u48::u49::u50::u51::u52::u53::u54::u55::u56::u57::u58::u59::u60::u61::u62::u63::u64::u65::u66::u67::u68::u69::u70::u71::u72::u73::u74::u75::u76::u77::u78::u79::u80::u81::u82::u83::u84::u85::u86::u87::u88::u89::u90::u91::u92::u93::u94::u95::u96::u97::u98::u99::u100::u101::u102::u103::u104::u105::u106::u107::u108::u109::u110::u111::u112::u113::u114::u115::u116::u117::u118::u119::u120::u121::u122::u123::u124::u125::u126::u127::u128::u129::u130::u131::u132::u133::u134::u135::u136::u137::u138::u139::u140::u141::u142::u143::u144::u145::u146::u147::u148::u149::u150::u151::u152::u153::u154::u155::u156::u157::u158::u159::u160::u161::u162::u163::u164::u165::u166::u167::u168::u169::u170::u171::u172::u173::u174::u175::u176::u177::u178::u179::u180::u181::u182::u183::u184::u185::u186::u187::u188::u189::u190::u191::u192::u193::u194::u195::u196::u197::u198::u199::u200::u201::u202::u203::u204::u205::u206::u207::u208::u209::u210::u211::u212::u213::u214::u215::u216::u217::u218::u219::[])[j]?:=fun j hj=>(kp j (fun i hi h=>by have:=(by decide:∀ i,i<10->112<=[113,114,115,116,117,118,112,119,120,119].getD i 0/\[113,114,115,116,117,118,112,119,120,119].getD i 0<121) i hi; omega)).trans aF;obtain⟨mid,hmid,rfl⟩:=bW 112 9 df sz (by simp) oz
  match mid,hmid with
  | [v112,v113,v114,v115,v116,v117,v118,v119,v120],_=>exact HQ.out x _ _ _ _ _ _ _ _ _ m1 m2 m3 m4 m5 m6 m7 m8 m9 m10 m11 m12 m13 m14 m15 hbx hv2 mI
def oH (B:Nat) (at_:Nat) (rv lo hiv:ak) (p:aA) (z:fE) (lt ld:List fE) (i:Nat) (v:ak) (x:aC):Prop :=
 match i with
 | 0=>∃ g,v=O (Y ⟨g,0,aG⟩) 0 0/\B<=g/\dz x g #[] 43
 | 1=>v=rv
 | 2=>v=ah aj (at_:Int)
 | 3=>v=X (Y p)
 | 4=>v=iY z
 | 5=>gF x B v [z]
 | 6=>gF x B v [z]
 | 7=>v=rv
 | 8=>v=ah aj (at_:Int)
 | 9=>v=lo
 | 10=>gF x B v ([z]++lt)
 | 11=>v=rv
 | 12=>v=ah aj (at_:Int)
 | 13=>v=ah aj ((at_:Int)+1)
 | 14=>v=hiv
 | 15=>gF x B v ([z]++lt++ld)
 | _=>True
noncomputable def yh:Code:=((Try.f4.body.bind (dU 14)).getD .skip)
theorem wY (B:Nat) (at_:Nat) (rv lo hiv:ak) (p:aA) (z:fE) (lt ld:List fE) (i:Nat) (v:ak) (x x':aC) (h:oH B at_ rv lo hiv p z lt ld i v x) (hb:Below x.heap.size x x'):oH B at_ rv lo hiv p z lt ld i v x':=by
 by_cases hi:i<16
 ·rcases (by omega:i=0\/i=1\/i=2\/i=3\/i=4\/i=5\/i=6\/i=7\/i=8\/i=9\/i=10\/i=11\/i=12\/i=13\/i=14\/i=15) with rfl|rfl|rfl|rfl|rfl|rfl|rfl|rfl|rfl|rfl|rfl|rfl|rfl|rfl|rfl|rfl
  ·obtain⟨g,h1,h2,h3⟩:=h; exact⟨g,h1,h2,h3.on hb⟩
  ·exact h
  ·exact h
  ·exact h
  ·exact h
  ·exact Bk.dB h hb
  ·exact Bk.dB h hb
  ·exact h
  ·exact h
  ·exact h
  ·exact Bk.dB h hb
  ·exact h
  ·exact h
  ·exact h
  ·exact h
  ·exact Bk.dB h hb
 ·unfold oH
  split <;> first | omega | trivial
theorem JQ (Q:Exit->Act->aC->Prop) (W:aC) (at_:Nat) (rv lo hiv:ak) (p:aA) (z:fE) (lt ld:List fE) (u0 u1 u2 u3 u4 u5 u6 u7 u8 u9 u10 u12 u14 u15 u16 u17 u18 u19 u20 u21 u22 u23 u24 u25 u26 u27 u28 u29 u30 u31 u32 u33 u34 u35 u36 u37 u38 u39 u40 u41 u42 u43 u44 u45 u46 u47 u48 u49 u50 u51 u52 u53 u54 u55 u56 u57 u58 u59 u60 u61 u62 u63 u64 u65 u66 u67 u68 u69 u70 u71 u72 u73 u74 u75 u76 u77 u78 u79 u80 u81 u82 u83 u84 u85 u86 u87 u88 u89 u90 u91 u92 u93 u94 u95 u96 u97 u98 u99 u100 u101 u102 u103 u104 u105 u106 u107 u108 u109 u110 u111 u112 u113 u114 u115 u116 u117 u118 u119 u120 u121 u122 u123 u124 u125 u126 u127 u128 u129 u130 u131 u132 u133 u134 u135 u136 u137 u138 u139 u140 u141 u142 u143 u144 u145 u146 u147 u148 u149 u150 u151 u152 u153 u154 u155 u156 u157 u158 u159 u160 u161 u162 u163 u164 u165 u166 u167 u168 u169 u170 u171 u172 u173 u174 u175 u176 u177 u178 u179 u180 u181 u182 u183 u184 u185 u186 u187 u188 u189 u190 u191 u192 u193 u194 u195 u196 u197 u198 u199 u200 u201 u202 u203 u204 u205 u206 u207 u208 u209 u210 u211 u212 u213 u214 u215 u216 u217 u218 u219:ak)
  (ix:∀ w,(aI 28 rv (ah aj (at_:Int))).run aD w=.ok (X (Y p)) w) (px:∀ x,Below W.heap.size W x->∀ j u,(eY z)[j]?=Y u->x.cell? (p.add j)=Y u) (Lh:∀ w,(aT 28 rv aG (Y (ah aj (at_:Int))) aG).run aD w=.ok lo w) (Li:∀ w,(aT 28 rv (Y (ah aj ((at_:Int)+1))) aG aG).run aD w=.ok hiv w) (Lj:iZ W lo lt) (Ll:iZ W hiv ld) (Qq:lt.length<=900) (Qr:ld.length<=900) (a9:at_<=900)
  (hQ:∀ (x:aC) (w11:ak) (v82 v83 v84 v85 v86 v87 v88 v89 v90 v91 v92 v93 v94 v95 v96 v97:ak),gF x W.heap.size w11 ([z]++lt++ld)->Below W.heap.size W x->Q .normal ⟨(u0::u1::u2::u3::u4::u5::u6::u7::u8::u9::u10::w11::u12::ah aj (at_:Int)::u14::u15::u16::u17::u18::u19::u20::u21::u22::u23::u24::u25::u26::u27::u28::u29::u30::u31::u32::u33::u34::u35::u36::u37::u38::u39::u40::u41::u42::u43::u44::u45::u46::u47::u48::u49::u50::u51::u52::u53::u54::u55::u56::u57::u58::u59::u60::u61::u62::u63::u64::u65::u66::u67::u68::u69::u70::u71::u72::u73::u74::u75::u76::u77::u78::u79::u80::u81::v82::v83::v84::v85::v86::v87::v88::v89::v90::v91::v92::v93::v94::v95::v96::v97::u98::u99::u100::u101::u102::u103::u104::u105::u106::u107::u108::u109::u110::u111::u112::u113::u114::u115::u116::u117::u118::u119::u120::u121::u122::u123::u124::u125::u126::u127::u128::u129::u130::u131::u132::u133::u134::u135::u136::u137::u138::u139::u140::u141::u142::u143::u144::u145::u146::u147::u148::u149::u150::u151::u152::u153::u154::u155::u156::u157::u158::u159::u160::u161::u162::u163::u164::u165::u166::u167::u168::u169::u170::u171::u172::u173::u174::u175::u176::u177::u178::u179::u180::u181::u182::u183::u184::u185::u186::u187::u188::u189::u190::u191::u192::u193::u194::u195::u196::u197::u198::u199::u200::u201::u202::u203::u204::u205::u206::u207::u208::u209::u210::u211::u212::u213::u214::u215::u216::u217::u218::u219::[]).toArray,[]⟩ x) :
  Code.wp aD yh Q ⟨(u0::u1::u2::u3::u4::u5::u6::u7::u8::u9::u10::rv::u12::ah aj (at_:Int)::u14::u15::u16::u17::u18::u19::u20::u21::u22::u23::u24::u25::u26::u27::u28::u29::u30::u31::u32::u33::u34::u35::u36::u37::u38::u39::u40::u41::u42::u43::u44::u45::u46::u47::u48::u49::u50::u51::u52::u53::u54::u55::u56::u57::u58::u59::u60::u61::u62::u63::u64::u65::u66::u67::u68::u69::u70::u71::u72::u73::u74::u75::u76::u77::u78::u79::u80::u81::u82::u83::u84::u85::u86::u87::u88::u89::u90::u91::u92::u93::u94::u95::u96::u97::u98::u99::u100::u101::u102::u103::u104::u105::u106::u107::u108::u109::u110::u111::u112::u113::u114::u115::u116::u117::u118::u119::u120::u121::u122::u123::u124::u125::u126::u127::u128::u129::u130::u131::u132::u133::u134::u135::u136::u137::u138::u139::u140::u141::u142::u143::u144::u145::u146::u147::u148::u149::u150::u151::u152::u153::u154::u155::u156::u157::u158::u159::u160::u161::u162::u163::u164::u165::u166::u167::u168::u169::u170::u171::u172::u173::u174::u175::u176::u177::u178::u179::u180::u181::u182::u183::u184::u185::u186::u187::u188::u189::u190::u191::u192::u193::u194::u195::u196::u197::u198::u199::u200::u201::u202::u203::u204::u205::u206::u207::u208::u209::u210::u211::u212::u213::u214::u215::u216::u217::u218::u219::[]).toArray,[]⟩ W:=by
 have HQ:=V hQ;have IX:=V ix;have PX:=V px;have R7:=V Lh;have R8:=V Li;have R9:=V Lj;have Sc:=V Ll;have LT:=V (show lt.length<=900 from Qq);have LD:=V (show ld.length<=1000 from aO Qr (by decide));have Sd:=V a9;clear hQ ix px Lh Li Lj Ll Qq Qr a9;have jG:=wY W.heap.size at_ rv lo hiv p z lt ld;unfold yh
 conv=>arg 2; whnf
 have nd:∀ j,(∀ i,i<16->[82,83,84,85,86,87,88,89,90,91,92,93,94,95,96,97].getD i 0≠j)->∀ i,i<16->(fun i=>[82,83,84,85,86,87,88,89,90,91,92,93,94,95,96,97].getD i 0) i≠j:=fun j h=>h;refine Rg.gI 17 16 (fun i=>[82,83,84,85,86,87,88,89,90,91,92,93,94,95,96,97].getD i 0) (fun i=>if i=0 then 6 else if i=5 then 6 else if i=6 then 10 else if i=10 then 15 else 16) (oH W.heap.size at_ rv lo hiv p z lt ld) (by kernel_rfl) (by kernel_rfl) rfl (by decide) (fun i j hi hj h=>(by decide:∀ i,i<16->∀ j,j<16->[82,83,84,85,86,87,88,89,90,91,92,93,94,95,96,97].getD i 0=[82,83,84,85,86,87,88,89,90,91,92,93,94,95,96,97].getD j 0->i=j) i hi j hj h) (fun i hi=>(by decide:∀ i,i<16->[82,83,84,85,86,87,88,89,90,91,92,93,94,95,96,97].getD i 0<220) i hi) ?_ (fun _=>Rg.jy 14 (by kernel_rfl)) ?_ ?_
 ·intro i o hi ho a x D hnd hc hD hb seen K hK;clear HQ;rcases (by omega:i=0\/i=1\/i=2\/i=3\/i=4\/i=5\/i=6\/i=7\/i=8\/i=9\/i=10\/i=11\/i=12\/i=13\/i=14\/i=15) with rfl|rfl|rfl|rfl|rfl|rfl|rfl|rfl|rfl|rfl|rfl|rfl|rfl|rfl|rfl|rfl
  ·cases ho;exact au rfl rfl (cB a.eval _ 28 0 #[] rfl rfl (by simp [go_sem])) (hK (O (Y ⟨x.heap.size,0,aG⟩) 0 0) (x.alloc (.cells #[] 43)) ⟨x.heap.size,rfl,hb.size,dI x #[] 43⟩ ((J _ _).alloc hb.size _) fun j u _ _ _ _ _ h=>jG j u _ _ h ((J _ _).alloc (bH _) _))
  ·cases ho;have e11:a.eval (U 11)=rv:=seen.kp 11 _ (nd 11 (by decide)) rfl;exact au rfl rfl (aQ a.eval _ (U 11) rfl x) (hK _ _ e11 (J _ _) fun _ _ _ _ _ _ _ h=>h)
  ·cases ho;have e13:a.eval (U 13)=ah aj (at_:Int):=seen.kp 13 _ (nd 13 (by decide)) rfl;exact au rfl rfl (aQ a.eval _ (U 13) rfl x) (hK _ _ e13 (J _ _) fun _ _ _ _ _ _ _ h=>h)
  ·cases ho;have e83:a.eval (U 83)=rv:=seen.at_ ⟨1,.data⟩ (by simp) rfl (Z (by decide));have e84:a.eval (U 84)=ah aj (at_:Int):=seen.at_ ⟨2,.data⟩ (by simp) rfl (Z (by decide));exact au rfl rfl (bV a.eval _ 28 (U 83) (U 84) rfl (by rw [e83,e84]; exact IX.out x)) (hK _ _ rfl (J _ _) fun _ _ _ _ _ _ _ h=>h)
  ·cases ho;have e85:a.eval (U 85)=X (Y p):=seen.at_ ⟨3,.data⟩ (by simp) rfl (Z (by decide));exact au rfl rfl (bM a.eval _ 43 (U 85) rfl (by rw [e85]; exact xA x p z (PX.out x hb))) (hK _ _ rfl (J _ _) fun _ _ _ _ _ _ _ h=>h)
  ·cases ho;have e86:a.eval (U 86)=iY z:=seen.at_ ⟨4,.data⟩ (by simp) rfl (Z (by decide));have hl:=jw iO x [z] 1 rfl (by simp) (eY z).toArray (by simp [flat,EN]);have nb:=gK x (.cells (eY z).toArray 43);exact au rfl rfl (cB a.eval _ 28 1 #[(0,U 86)] rfl (ps:=#[(0,iY z)]) (by simp [e86]) (by simp [go_sem])) (hK (O (Y ⟨x.heap.size,0,aG⟩) 1 1) (x.alloc (.cells (eY z).toArray 43)) (dF hl hb.size) (nb.mono hb.size) fun j u _ _ _ _ _ h=>jG j u _ _ h nb)
  ·cases ho;have Sg:=seen.at_ ⟨0,.data⟩ (by simp) rfl (aL rfl);have Si:=seen.at_ ⟨5,.data⟩ (by simp) rfl (aL rfl);obtain⟨g,q0,hBg,hbx⟩:=Sg;have q0:a.eval (U 82)=O (Y ⟨g,0,aG⟩) 0 0:=q0;have o87:gF x W.heap.size (a.eval (U 87)) [z]:=Si;obtain⟨v',x',r,o',gr⟩:=iH iO W.heap.size hbx hBg (Row.dG o87) (by simp) 28;exact au rfl rfl (bX a.eval _ (U 82) (U 87) 28 rfl q0 rfl r) (hK v' x' o' (gr.mono hb.size) fun j u _ _ _ _ _ h=>jG j u _ _ h gr)
  ·cases ho;have e11:a.eval (U 11)=rv:=seen.kp 11 _ (nd 11 (by decide)) rfl;exact au rfl rfl (aQ a.eval _ (U 11) rfl x) (hK _ _ e11 (J _ _) fun _ _ _ _ _ _ _ h=>h)
  ·cases ho;have e13:a.eval (U 13)=ah aj (at_:Int):=seen.kp 13 _ (nd 13 (by decide)) rfl;exact au rfl rfl (aQ a.eval _ (U 13) rfl x) (hK _ _ e13 (J _ _) fun _ _ _ _ _ _ _ h=>h)
  ·cases ho;have e89:a.eval (U 89)=rv:=seen.at_ ⟨7,.data⟩ (by simp) rfl (Z (by decide));have e90:a.eval (U 90)=ah aj (at_:Int):=seen.at_ ⟨8,.data⟩ (by simp) rfl (Z (by decide));exact au rfl rfl (Rg.um a.eval _ 28 (U 89) aG (Y (U 90)) aG rfl (by show (aT 28 (a.eval (U 89)) aG (Y (a.eval (U 90))) aG).run aD x=.ok lo x; rw [e89,e90]; exact R7.out x)) (hK _ _ rfl (J _ _) fun _ _ _ _ _ _ _ h=>h)
  ·cases ho;have Sj:=seen.at_ ⟨6,.data⟩ (by simp) rfl (aL rfl);have e91:a.eval (U 91)=lo:=seen.at_ ⟨9,.data⟩ (by simp) rfl (Z (by decide));have o88:gF x W.heap.size (a.eval (U 88)) [z]:=Sj;have d6:=hD ⟨6,.data⟩ (by simp) rfl;obtain⟨v',x',r,o',gr⟩:=jg iO W.heap.size o88 (R9.out.on hb) (by simp) (aO LT.out (by decide)) hb.size 28;exact au rfl rfl (bX a.eval _ (U 88) (U 91) 28 rfl rfl e91 r) (hK v' x' o' ((J _ x).grown gr hb.size fun j hj=>(o88.lt j hj).1) fun j u hj dj nl nx ni h=>by
    rcases (by omega:j=0\/j=1\/j=2\/j=3\/j=4\/j=5\/j=6\/j=7\/j=8\/j=9\/j=10\/j=11\/j=12\/j=13\/j=14\/j=15) with rfl|rfl|rfl|rfl|rfl|rfl|rfl|rfl|rfl|rfl|rfl|rfl|rfl|rfl|rfl|rfl
    ·exact absurd d6 nl
    ·exact h
    ·exact h
    ·exact h
    ·exact h
    ·exact absurd d6 nl
    ·exact absurd rfl nx
    ·exact h
    ·exact h
    ·exact h
    ·exact absurd rfl ni
    ·exact h
    ·exact h
    ·exact h
    ·exact h
    ·exact absurd (hc 15 _ dj rfl ⟨10,.data⟩ (by simp) rfl) hnd)
  ·cases ho;have e11:a.eval (U 11)=rv:=seen.kp 11 _ (nd 11 (by decide)) rfl;exact au rfl rfl (aQ a.eval _ (U 11) rfl x) (hK _ _ e11 (J _ _) fun _ _ _ _ _ _ _ h=>h)
  ·cases ho;have e13:a.eval (U 13)=ah aj (at_:Int):=seen.kp 13 _ (nd 13 (by decide)) rfl;exact au rfl rfl (aQ a.eval _ (U 13) rfl x) (hK _ _ e13 (J _ _) fun _ _ _ _ _ _ _ h=>h)
  ·cases ho;have e94:a.eval (U 94)=ah aj (at_:Int):=seen.at_ ⟨12,.data⟩ (by simp) rfl (Z (by decide));exact au rfl rfl (Rg.Jg a.eval _ .add 3 (U 94) (.const (ah aj 1)) 3 rfl (by rw [e94]; exact add_one _ _ _ _ at_ Sd.out)) (hK _ _ rfl (J _ _) fun _ _ _ _ _ _ _ h=>h)
  ·cases ho;have e93:a.eval (U 93)=rv:=seen.at_ ⟨11,.data⟩ (by simp) rfl (Z (by decide));have e95:a.eval (U 95)=ah aj ((at_:Int)+1):=seen.at_ ⟨13,.data⟩ (by simp) rfl (Z (by decide));exact au rfl rfl (Rg.um a.eval _ 28 (U 93) (Y (U 95)) aG aG rfl (by show (aT 28 (a.eval (U 93)) (Y (a.eval (U 95))) aG aG).run aD x=.ok hiv x; rw [e93,e95]; exact R8.out x)) (hK _ _ rfl (J _ _) fun _ _ _ _ _ _ _ h=>h)
  ·cases ho;have Sk:=seen.at_ ⟨10,.data⟩ (by simp) rfl (aL rfl);have e96:a.eval (U 96)=hiv:=seen.at_ ⟨14,.data⟩ (by simp) rfl (Z (by decide));have o92:gF x W.heap.size (a.eval (U 92)) ([z]++lt):=Sk;have d10:=hD ⟨10,.data⟩ (by simp) rfl;have d6:=hc 10 _ d10 rfl ⟨6,.data⟩ (by simp) rfl;obtain⟨v',x',r,o',gr⟩:=jg iO W.heap.size o92 (Sc.out.on hb) (by have:=LT.out; rw [aP,List.length_singleton]; omega) LD.out hb.size 28;exact au rfl rfl (bX a.eval _ (U 92) (U 96) 28 rfl rfl e96 r) (hK v' x' o' ((J _ x).grown gr hb.size fun j hj=>(o92.lt j hj).1) fun j u hj dj nl nx ni h=>by
    rcases (by omega:j=0\/j=1\/j=2\/j=3\/j=4\/j=5\/j=6\/j=7\/j=8\/j=9\/j=10\/j=11\/j=12\/j=13\/j=14\/j=15) with rfl|rfl|rfl|rfl|rfl|rfl|rfl|rfl|rfl|rfl|rfl|rfl|rfl|rfl|rfl|rfl
    ·exact absurd d6 nl
    ·exact h
    ·exact h
    ·exact h
    ·exact h
    ·exact absurd d6 nl
    ·exact absurd d10 nl
    ·exact h
    ·exact h
    ·exact h
    ·exact absurd rfl nx
    ·exact h
    ·exact h
    ·exact h
    ·exact h
    ·exact absurd rfl ni)
 ·intro kk o h1 h2 ho;omega
 ·intro a w' df sz kp ⟨vs,hv⟩ hb;have sz':a.tmps.size=220:=sz;have g97:a.tmps[97]?=Y (vs 15):=(hv 15 (by omega)).1;have Sm:=(hv 15 (by omega)).2 (by decide);have o97:gF w' W.heap.size (vs 15) ([z]++lt++ld):=Sm;generalize vs 15=v' at *;show bY _ _ _ 1 16 a w';simp only [bY];refine au rfl rfl (Rg.iQ _ _ (U 97) rfl w') ?_;show Q .normal (a.put (Y 11) (a.eval (U 97))) w';rw [bZ g97];have ka:∀ j,j≠11->(a.put (Y 11) v').tmps[j]?=a.tmps[j]?:=fun j h1=>by rw [bK _ _ _ _ (by omega)]
  have kt:(a.put (Y 11) v').tmps[11]?=Y (v'):=by simp [aZ,sz']
  have oz:∀ j,(j<82\/98<=j)->(a.put (Y 11) v').tmps[j]?=(u0::u1::u2::u3::u4::u5::u6::u7::u8::u9::u10::v'::u12::ah aj (at_:Int)::u14::u15::u16::u17::u18::u19::u20::u21::u22::u23::u24::u25::u26::u27::u28::u29::u30::u31::u32::u33::u34::u35::u36::u37::u38::u39::u40::u41::u42::u43::u44::u45::u46::u47::u48::u49::u50::u51::u52::u53::u54::u55::u56::u57::u58::u59::u60::u61::u62::u63::u64::u65::u66::u67::u68::u69::u70::u71::u72::u73::u74::u75::u76::u77::u78::u79::u80::u81::u82::u83::u84::u85::u86::u87::u88::u89::u90::u91::u92::u93::u94::u95::u96::u97::u98::u99::u100::u101::u102::u103::u104::u105::u106::u107::u108::u109::u110::u111::u112::u113::u114::u115::u116::u117::u118::u119::u120::u121::u122::u123::u124::u125::u126::u127::u128::u129::u130::u131::u132::u133::u134::u135::u136::u137::u138::u139::u140::u141::u142::u143::u144::u145::u146::u147::u148::u149::u150::u151::u152::u153::u154::u155::u156::u157::u158::u159::u160::u161::u162::u163::u164::u165::u166::u167::u168::u169::u170::u171::u172::u173::u174::u175::u176::u177::u178::u179::u180::u181::u182::u183::u184::u185::u186::u187::u188::u189::u190::u191::u192::u193::u194::u195::u196::u197::u198::u199::u200::u201::u202::u203::u204::u205::u206::u207::u208::u209::u210::u211::u212::u213::u214::u215::u216::u217::u218::u219::[])[j]?:=fun j hj=>by
   by_cases hj2:j=11
   ·subst hj2;exact kt
   ·have hs:(u0::u1::u2::u3::u4::u5::u6::u7::u8::u9::u10::v'::u12::ah aj (at_:Int)::u14::u15::u16::u17::u18::u19::u20::u21::u22::u23::u24::u25::u26::u27::u28::u29::u30::u31::u32::u33::u34::u35::u36::u37::u38::u39::u40::u41::u42::u43::u44::u45::u46::u47::u48::u49::u50::u51::u52::u53::u54::u55::u56::u57::u58::u59::u60::u61::u62::u63::u64::u65::u66::u67::u68::u69::u70::u71::u72::u73::u74::u75::u76::u77::u78::u79::u80::u81::u82::u83::u84::u85::u86::u87::u88::u89::u90::u91::u92::u93::u94::u95::u96::u97::u98::u99::u100::u101::u102::u103::u104::u105::u106::u107::u108::u109::u110::u111::u112::u113::u114::u115::u116::u117::u118::u119::u120::u121::u122::u123::u124::u125::u126::u127::u128::u129::u130::u131::u132::u133::u134::u135::u136::u137::u138::u139::u140::u141::u142::u143::u144::u145::u146::u147::u148::u149::u150::u151::u152::u153::u154::u155::u156::u157::u158::u159::u160::u161::u162::u163::u164::u165::u166::u167::u168::u169::u170::u171::u172::u173::u174::u175::u176::u177::u178::u179::u180::u181::u182::u183::u184::u185::u186::u187::u188::u189::u190::u191::u192::u193::u194::u195::u196::u197::u198::u199::u200::u201::u202::u203::u204::u205::u206::u207::u208::u209::u210::u211::u212::u213::u214::u215::u216::u217::u218::u219::[]:List ak)=(u0::u1::u2::u3::u4::u5::u6::u7::u8::u9::u10::rv::u12::ah aj (at_:Int)::u14::u15::u16::u17::u18::u19::u20::u21::u22::u23::u24::u25::u26::u27::u28::u29::u30::u31::u32::u33::u34::u35::u36::u37::u38::u39::u40::u41::u42::u43::u44::u45::u46::u47::u48::u49::u50::u51::u52::u53::u54::u55::u56::u57::u58::u59::u60::u61::u62::u63::u64::u65::u66::u67::u68::u69::u70::u71::u72::u73::u74::u75::u76::u77::u78::u79::u80::u81::u82::u83::u84::u85::u86::u87::u88::u89::u90::u91::u92::u93::u94::u95::u96::u97::u98::u99::u100::u101::u102::u103::u104::u105::u106::u107::u108::u109::u110::u111::u112::u113::u114::u115::u116::u117::u118::u119::u120::u121::u122::u123::u124::u125::u126::u127::u128::u129::u130::u131::u132::u133::u134::u135::u136::u137::u138::u139::u140::u141::u142::u143::u144::u145::u146::u147::u148::u149::u150::u151::u152::u153::u154::u155::u156::u157::u158::u159::u160::u161::u162::u163::u164::u165::u166::u167::u168::u169::u170::u171::u172::u173::u174::u175::u176::u177::u178::u179::u180::u181::u182::u183::u184::u185::u186::u187::u188::u189::u190::u191::u192::u193::u194::u195::u196::u197::u198::u199::u200::u201::u202::u203::u204::u205::u206::u207::u208::u209::u210::u211::u212::u213::u214::u215::u216::u217::u218::u219::[]).set 11 (v'):=rfl;rw [hs,aY (Ne.symm hj2)];exact (ka j hj2).trans ((kp j (nd j fun i hi h=>by have:=(by decide:∀ i,i<16->82<=[82,83,84,85,86,87,88,89,90,91,92,93,94,95,96,97].getD i 0/\[82,83,84,85,86,87,88,89,90,91,92,93,94,95,96,97].getD i 0<98) i hi; omega)).trans aF)
  obtain⟨mid,hmid,hfr⟩:=bW (a:=a.put (Y 11) v') 82 16 (by simp [aZ,df]) (by simp [aZ,sz']) (by simp) oz;rw [hfr]
  match mid,hmid with
  | [v82,v83,v84,v85,v86,v87,v88,v89,v90,v91,v92,v93,v94,v95,v96,v97],_ =>
   exact HQ.out w' _ _ _ _ _ _ _ _ _ _ _ _ _ _ _ _ _ o97 hb
theorem JR {W:aC} {pp:aA} {v u:ak} (h0:W.cell? (pp.add 0)=Y v) (h1:W.cell? (pp.add 1)=Y u):(Instr.loadAt 40 (X (Y pp))).run aD W=.ok (bL #[v,u]) W:=by
 rw [Rw.add_zero] at h0;simp [Addr.add] at h1;simp [go_sem,h0,h1]
def tQ (B:Nat) (_bT _n k:Nat) (t1 t2:Int) (rv:ak) (_lx:List fE) (_l:List En) (po:Option aA) (pn pc:Nat) (pp:aA) (h1:Option aA) (h2 h3:Nat) (g1:Option aA) (g2 g3:Nat) (has vals:List Int) (i:Nat) (v:ak) (x:aC):Prop :=
 match i with
 | 0=>v=rv
 | 1=>v=bL #[ah aj t1,ah aj t2]
 | 2=>v=ah aj (k:Int)
 | 3=>v=bL #[ah aj 2,ah aj (k:Int)]
 | 4=>v=O po pn pc
 | 5=>v=ah aj (k:Int)
 | 6=>v=X (Y pp)
 | 7=>v=bL #[O h1 h2 h3,O g1 g2 g3]
 | 8=>∃ s:Sl,v=dO s/\kE x B (dO s) ((jB has vals 7).map r5)
 | 9=>∃ s:Sl,v=iY (t1,t2,2,(k:Int),s,1,aB)/\kE x B (dO s) ((jB has vals 7).map r5)
 | 10=>∃ s:Sl,gF x B v [(t1,t2,2,(k:Int),s,1,aB)]/\kE x B (dO s) ((jB has vals 7).map r5)
 | _=>True
noncomputable def Cx:Code:=((Try.f4.body.bind (dU 8)).getD .skip)
theorem zN (B:Nat) (bT n k:Nat) (t1 t2:Int) (rv:ak) (lx:List fE) (l:List En) (po:Option aA) (pn pc:Nat) (pp:aA) (h1:Option aA) (h2 h3:Nat) (g1:Option aA) (g2 g3:Nat) (has vals:List Int) (i:Nat) (v:ak) (x x':aC) (h:tQ B bT n k t1 t2 rv lx l po pn pc pp h1 h2 h3 g1 g2 g3 has vals i v x) (hb:Below x.heap.size x x'):tQ B bT n k t1 t2 rv lx l po pn pc pp h1 h2 h3 g1 g2 g3 has vals i v x':=by
 by_cases hi:i<11
 ·rcases (by omega:i=0\/i=1\/i=2\/i=3\/i=4\/i=5\/i=6\/i=7\/i=8\/i=9\/i=10) with rfl|rfl|rfl|rfl|rfl|rfl|rfl|rfl|rfl|rfl|rfl
  ·exact h
  ·exact h
  ·exact h
  ·exact h
  ·exact h
  ·exact h
  ·exact h
  ·exact h
  ·obtain⟨s,h1,h2⟩:=h; exact⟨s,h1,Bk.dB h2 hb⟩
  ·obtain⟨s,h1,h2⟩:=h; exact⟨s,h1,Bk.dB h2 hb⟩
  ·obtain⟨s,h1,h2⟩:=h; exact⟨s,Bk.dB h1 hb,Bk.dB h2 hb⟩
 ·unfold tQ
  split <;> first | omega | trivial
theorem Lm (Q:Exit->Act->aC->Prop) (W:aC) (bT n k:Nat) (t1 t2:Int) (rv:ak) (lx:List fE) (l:List En) (po:Option aA) (pn pc:Nat) (pp:aA) (h1:Option aA) (h2 h3:Nat) (g1:Option aA) (g2 g3:Nat) (has vals:List Int) (u1 u2 u3 u4 u6 u7 u8 u11 u12 u13 u14 u15 u16 u17 u18 u19 u20 u21 u22 u23 u24 u25 u26 u27 u28 u29 u30 u31 u32 u33 u34 u35 u36 u37 u38 u39 u40 u41 u42 u43 u44 u45 u46 u47 u48 u49 u50 u51 u52 u53 u54 u55 u56 u57 u58 u59 u60 u61 u62 u63 u64 u65 u66 u67 u68 u69 u70 u71 u72 u73 u74 u75 u76 u77 u78 u79 u80 u81 u82 u83 u84 u85 u86 u87 u88 u89 u90 u91 u92 u93 u94 u95 u96 u97 u98 u99 u100 u101 u102 u103 u104 u105 u106 u107 u108 u109 u110 u111 u112 u113 u114 u115 u116 u117 u118 u119 u120 u121 u122 u123 u124 u125 u126 u127 u128 u129 u130 u131 u132 u133 u134 u135 u136 u137 u138 u139 u140 u141 u142 u143 u144 u145 u146 u147 u148 u149 u150 u151 u152 u153 u154 u155 u156 u157 u158 u159 u160 u161 u162 u163 u164 u165 u166 u167 u168 u169 u170 u171 u172 u173 u174 u175 u176 u177 u178 u179 u180 u181 u182 u183 u184 u185 u186 u187 u188 u189 u190 u191 u192 u193 u194 u195 u196 u197 u198 u199 u200 u201 u202 u203 u204 u205 u206 u207 u208 u209 u210 u211 u212 u213 u214 u215 u216 u217 u218 u219:ak)
  (xt:dz W bT #[ah aj t1,ah aj t2] 25) (ar:lS W n rv lx l) (hn:n<=W.heap.size) (hl:lx.length<=900) (ix:∀ w,(aI 22 (O po pn pc) (ah aj (k:Int))).run aD w=.ok (X (Y pp)) w) (pb:pp.block<W.heap.size) (Qs:∀ (j:Nat) u,#[(O h1 h2 h3:ak),O g1 g2 g3][j]?=Y u->W.cell? (pp.add j)=Y u) (ih:In.gL W (O h1 h2 h3) has) (iv:In.gL W (O g1 g2 g3) vals) (lh:has.length<=maxLen) (lv:vals.length<=maxLen)
  (hQ:∀ (x:aC) (w9:ak) (s:Sl) (v48 v49 v50 v51 v52 v53 v54 v55 v56 v57 v58 v59:ak),lS x n w9 (lx++[(t1,t2,2,(k:Int),s,1,aB)]) (l++[(⟨(t1,t2),(2,(k:Int)),((jB has vals 7).map r5),1,aB⟩:En)])->Below n W x->(∀ (b:Nat) (cs:Array ak) (t:bQ),(t == 43)=aB->dz W b cs t->dz x b cs t)->Q .normal ⟨(O po pn pc::u1::u2::u3::u4::X (Y ⟨bT,0,aG⟩)::u6::u7::u8::w9::ah aj (k:Int)::u11::u12::u13::u14::u15::u16::u17::u18::u19::u20::u21::u22::u23::u24::u25::u26::u27::u28::u29::u30::u31::u32::u33::u34::u35::u36::u37::u38::u39::u40::u41::u42::u43::u44::u45::u46::u47::v48::v49::v50::v51::v52::v53::v54::v55::v56::v57::v58::v59::u60::u61::u62::u63::u64::u65::u66::u67::u68::u69::u70::u71::u72::u73::u74::u75::u76::u77::u78::u79::u80::u81::u82::u83::u84::u85::u86::u87::u88::u89::u90::u91::u92::u93::u94::u95::u96::u97::u98::u99::u100::u101::u102::u103::u104::u105::u106::u107::u108::u109::u110::u111::u112::u113::u114::u115::u116::u117::u118::u119::u120::u121::u122::u123::u124::u125::u126::u127::u128::u129::u130::u131::u132::u133::u134::u135::u136::u137::u138::u139::u140::u141::u142::u143::u144::u145::u146::u147::u148::u149::u150::u151::u152::u153::u154::u155::u156::u157::u158::u159::u160::u161::u162::u163::u164::u165::u166::u167::u168::u169::u170::u171::u172::u173::u174::u175::u176::u177::u178::u179::u180::u181::u182::u183::u184::u185::u186::u187::u188::u189::u190::u191::u192::u193::u194::u195::u196::u197::u198::u199::u200::u201::u202::u203::u204::u205::u206::u207::u208::u209::u210::u211::u212::u213::u214::u215::u216::u217::u218::u219::[]).toArray,[]⟩ x) :
  Code.wp aD Cx Q ⟨(O po pn pc::u1::u2::u3::u4::X (Y ⟨bT,0,aG⟩)::u6::u7::u8::rv::ah aj (k:Int)::u11::u12::u13::u14::u15::u16::u17::u18::u19::u20::u21::u22::u23::u24::u25::u26::u27::u28::u29::u30::u31::u32::u33::u34::u35::u36::u37::u38::u39::u40::u41::u42::u43::u44::u45::u46::u47::u48::u49::u50::u51::u52::u53::u54::u55::u56::u57::u58::u59::u60::u61::u62::u63::u64::u65::u66::u67::u68::u69::u70::u71::u72::u73::u74::u75::u76::u77::u78::u79::u80::u81::u82::u83::u84::u85::u86::u87::u88::u89::u90::u91::u92::u93::u94::u95::u96::u97::u98::u99::u100::u101::u102::u103::u104::u105::u106::u107::u108::u109::u110::u111::u112::u113::u114::u115::u116::u117::u118::u119::u120::u121::u122::u123::u124::u125::u126::u127::u128::u129::u130::u131::u132::u133::u134::u135::u136::u137::u138::u139::u140::u141::u142::u143::u144::u145::u146::u147::u148::u149::u150::u151::u152::u153::u154::u155::u156::u157::u158::u159::u160::u161::u162::u163::u164::u165::u166::u167::u168::u169::u170::u171::u172::u173::u174::u175::u176::u177::u178::u179::u180::u181::u182::u183::u184::u185::u186::u187::u188::u189::u190::u191::u192::u193::u194::u195::u196::u197::u198::u199::u200::u201::u202::u203::u204::u205::u206::u207::u208::u209::u210::u211::u212::u213::u214::u215::u216::u217::u218::u219::[]).toArray,[]⟩ W:=by
 have HQ:=V hQ;have HT:=V xt;have AR:=V ar;have HN:=V hn;have HL:=V hl;have IX:=V ix;have PB:=V pb;have PC:=V Qs;have IH:=V ih;have IV:=V iv;have LH:=V lh;have LV:=V lv;clear hQ xt ar hn hl ix pb Qs ih iv lh lv;have jG:=zN W.heap.size bT n k t1 t2 rv lx l po pn pc pp h1 h2 h3 g1 g2 g3 has vals;unfold Cx
 conv=>arg 2; whnf
 have nd:∀ j,(∀ i,i<11->[48,49,50,51,52,53,54,55,56,57,58].getD i 0≠j)->∀ i,i<11->(fun i=>[48,49,50,51,52,53,54,55,56,57,58].getD i 0) i≠j:=fun j h=>h;refine Rg.gI 13 11 (fun i=>[48,49,50,51,52,53,54,55,56,57,58].getD i 0) (fun _=>11) (tQ W.heap.size bT n k t1 t2 rv lx l po pn pc pp h1 h2 h3 g1 g2 g3 has vals) (by kernel_rfl) (by kernel_rfl) rfl (by decide) (fun i j hi hj h=>(by decide:∀ i,i<11->∀ j,j<11->[48,49,50,51,52,53,54,55,56,57,58].getD i 0=[48,49,50,51,52,53,54,55,56,57,58].getD j 0->i=j) i hi j hj h) (fun i hi=>(by decide:∀ i,i<11->[48,49,50,51,52,53,54,55,56,57,58].getD i 0<220) i hi) ?_ (fun _=>Rg.jy 14 (by kernel_rfl)) ?_ ?_
 ·intro i o hi ho a x D hnd hc hD hb seen K hK;clear HQ;rcases (by omega:i=0\/i=1\/i=2\/i=3\/i=4\/i=5\/i=6\/i=7\/i=8\/i=9\/i=10) with rfl|rfl|rfl|rfl|rfl|rfl|rfl|rfl|rfl|rfl|rfl
  ·cases ho;have e9:a.eval (U 9)=rv:=seen.kp 9 _ (nd 9 (by decide)) rfl;exact au rfl rfl (aQ a.eval _ (U 9) rfl x) (hK _ _ e9 (J _ _) fun _ _ _ _ _ _ _ h=>h)
  ·cases ho;have e5:a.eval (U 5)=X (Y ⟨bT,0,aG⟩):=seen.kp 5 _ (nd 5 (by decide)) rfl;obtain⟨y0,y1⟩:=(HT.out.on hb).cs2;exact au rfl rfl (bM a.eval _ 25 (U 5) rfl (by rw [e5]; simp [go_sem,y0,y1])) (hK _ _ rfl (J _ _) fun _ _ _ _ _ _ _ h=>h)
  ·cases ho;have e10:a.eval (U 10)=ah aj (k:Int):=seen.kp 10 _ (nd 10 (by decide)) rfl;exact au rfl rfl (aQ a.eval _ (U 10) rfl x) (hK _ _ e10 (J _ _) fun _ _ _ _ _ _ _ h=>h)
  ·cases ho;have e50:a.eval (U 50)=ah aj (k:Int):=seen.at_ ⟨2,.data⟩ (by simp) rfl (Z (by decide));exact au rfl rfl (Rg.gY a.eval _ 25 #[(0,.const (ah aj 2)),(1,U 50)] rfl (ps:=#[(0,ah aj 2),(1,ah aj (k:Int))]) (by simp only [bG,aS,bP,e50]; rfl) (by simp [go_sem])) (hK _ _ rfl (J _ _) fun _ _ _ _ _ _ _ h=>h)
  ·cases ho;have e0:a.eval (U 0)=O po pn pc:=seen.kp 0 _ (nd 0 (by decide)) rfl;exact au rfl rfl (aQ a.eval _ (U 0) rfl x) (hK _ _ e0 (J _ _) fun _ _ _ _ _ _ _ h=>h)
  ·cases ho;have e10:a.eval (U 10)=ah aj (k:Int):=seen.kp 10 _ (nd 10 (by decide)) rfl;exact au rfl rfl (aQ a.eval _ (U 10) rfl x) (hK _ _ e10 (J _ _) fun _ _ _ _ _ _ _ h=>h)
  ·cases ho;have e52:a.eval (U 52)=O po pn pc:=seen.at_ ⟨4,.data⟩ (by simp) rfl (Z (by decide));have e53:a.eval (U 53)=ah aj (k:Int):=seen.at_ ⟨5,.data⟩ (by simp) rfl (Z (by decide));exact au rfl rfl (bV a.eval _ 22 (U 52) (U 53) rfl (by rw [e52,e53]; exact IX.out x)) (hK _ _ rfl (J _ _) fun _ _ _ _ _ _ _ h=>h)
  ·cases ho;have e54:a.eval (U 54)=X (Y pp):=seen.at_ ⟨6,.data⟩ (by simp) rfl (Z (by decide));have y0:=hb.cell (p:=pp.add 0) (by rw [jU]; exact PB.out);have y1:=hb.cell (p:=pp.add 1) (by rw [jU]; exact PB.out);rw [PC.out 0 _ rfl] at y0;rw [PC.out 1 _ rfl] at y1;exact au rfl rfl (bM a.eval _ 40 (U 54) rfl (by rw [e54]; exact JR y0 y1)) (hK _ _ rfl (J _ _) fun _ _ _ _ _ _ _ h=>h)
  ·cases ho;have e55:a.eval (U 55)=bL #[O h1 h2 h3,O g1 g2 g3]:=seen.at_ ⟨7,.data⟩ (by simp) rfl (Z (by decide));exact cu rfl rfl (Rw.gU a.eval _ (U 55) 40 8 rfl e55 rfl _ (eG Try.func8 rfl rfl _ _)) (BK (O h1 h2 h3) (O g1 g2 g3) has vals x (IH.out.on hb) (IV.out.on hb) LH.out LV.out) fun e w1 h=>by
    obtain⟨v,rfl,q1,q2⟩:=h;obtain⟨a1,a2,hvv⟩:=(Row.dG q1).len;have q3:=dF q1 hb.size;rw [hvv] at q3;exact⟨_,rfl,hK _ _ ⟨(a1,_,a2),hvv,q3⟩ (q2.mono hb.size) fun j u _ _ _ _ _ h=>jG j u _ _ h q2⟩
  ·cases ho;have e49:a.eval (U 49)=bL #[ah aj t1,ah aj t2]:=seen.at_ ⟨1,.data⟩ (by simp) rfl (Z (by decide));have e51:a.eval (U 51)=bL #[ah aj 2,ah aj (k:Int)]:=seen.at_ ⟨3,.data⟩ (by simp) rfl (Z (by decide));have Sn:=seen.at_ ⟨8,.data⟩ (by simp) rfl (Z (by decide));obtain⟨s,q0,q1⟩:=Sn;have q0:a.eval (U 56)=dO s:=q0;exact au rfl rfl (Rg.gY a.eval _ 43 #[(0,U 49),(1,U 51),(2,U 56),(3,.const (ah aj 1))] rfl (ps:=#[(0,bL #[ah aj t1,ah aj t2]),(1,bL #[ah aj 2,ah aj (k:Int)]),(2,dO s),(3,ah aj 1)]) (by simp only [bG,aS,bP,e49,e51,q0]; rfl) (by simp [go_sem])) (hK _ _ ⟨s,rfl,q1⟩ (J _ _) fun _ _ _ _ _ _ _ h=>h)
  ·cases ho;have Sq:=seen.at_ ⟨9,.data⟩ (by simp) rfl (Z (by decide));obtain⟨s,q0,q1⟩:=Sq;have q0:a.eval (U 57)=iY (t1,t2,2,(k:Int),s,1,aB):=q0;have hl:=jw iO x [((t1,t2,2,(k:Int),s,1,aB):fE)] 1 rfl (by simp) (eY (t1,t2,2,(k:Int),s,1,aB)).toArray (by simp [flat,EN]);have nb:=gK x (.cells (eY (t1,t2,2,(k:Int),s,1,aB)).toArray 43);exact au rfl rfl (cB a.eval _ 28 1 #[(0,U 57)] rfl (ps:=#[(0,iY (t1,t2,2,(k:Int),s,1,aB))]) (by simp [q0]) (by simp [go_sem])) (hK (O (Y ⟨x.heap.size,0,aG⟩) 1 1) (x.alloc (.cells (eY (t1,t2,2,(k:Int),s,1,aB)).toArray 43)) ⟨s,dF hl hb.size,Bk.dB q1 nb⟩ (nb.mono hb.size) fun j u _ _ _ _ _ h=>jG j u _ _ h nb)
 ·intro kk o h1 h2 ho;rcases (by omega:kk=12) with rfl
  ·cases ho;exact⟨⟨11,.data⟩,by simp,rfl,rfl⟩
 ·intro a w' df sz kp ⟨vs,hv⟩ hb;have sz':a.tmps.size=220:=sz;have g48:a.tmps[48]?=Y (rv):=by
   have h:vs 0=rv:=(hv 0 (by omega)).2 (by decide);rw [<- h];exact (hv 0 (by omega)).1
  have g58:a.tmps[58]?=Y (vs 10):=(hv 10 (by omega)).1;have Sr:=(hv 10 (by omega)).2 (by decide);obtain⟨s,q1,q2⟩:=Sr;have ar:=AR.out.on hb;generalize hq:vs 10=v5 at *;obtain⟨a1,c1,hv5⟩:=(Row.dG q1).len;obtain⟨v',x',r,o',gr⟩:=jg iO n ar.row (Row.dG q1) (by have:=HL.out; omega) (by simp) (aO HN.out hb.size) 28;show bY _ _ _ 2 11 a w';simp only [bY];refine au rfl rfl (bX a.eval _ (U 48) (U 58) 28 rfl (bZ g48) (bZ g58) r) ?_;have e56:(a.put (Y 59) v').eval (U 59)=v':=bZ (by simp [aZ,sz']);refine au rfl rfl (Rg.iQ _ _ (U 59) rfl x') ?_;show Q .normal ((a.put (Y 59) v').put (Y 9) ((a.put (Y 59) v').eval (U 59))) x';rw [e56];have hp:=ar.push gr o' (a:=(⟨(t1,t2),(2,(k:Int)),((jB has vals 7).map r5),1,aB⟩:En)) (x:=(t1,t2,2,(k:Int),s,1,aB)) ⟨rfl,rfl,rfl,rfl,dF q2 HN.out⟩;have hbt:Below n W x':=(hb.mono HN.out).grown gr (aO HN.out hb.size) (fun j hj=>(ar.row.lt j hj).1);have hbx:∀ (b:Nat) (cs:Array ak) (t:bQ),(t == 43)=aB->dz W b cs t->dz x' b cs t:=fun b cs t hne h=>Gi ar.row gr (h.on hb) hne;show Q .normal ((a.put (Y 59) v').put (Y 9) v') x';have ka:∀ j,j≠59->j≠9->((a.put (Y 59) v').put (Y 9) v').tmps[j]?=a.tmps[j]?:=fun j h1 h2=>by rw [bK _ _ _ _ (by omega),bK _ _ _ _ (by omega)]
  have kt:((a.put (Y 59) v').put (Y 9) v').tmps[9]?=Y (v'):=by simp [aZ,sz']
  have oz:∀ j,(j<48\/60<=j)->((a.put (Y 59) v').put (Y 9) v').tmps[j]?=(O po pn pc::u1::u2::u3::u4::X (Y ⟨bT,0,aG⟩)::u6::u7::u8::v'::ah aj (k:Int)::u11::u12::u13::u14::u15::u16::u17::u18::u19::u20::u21::u22::u23::u24::u25::u26::u27::u28::u29::u30::u31::u32::u33::u34::u35::u36::u37::u38::u39::u40::u41::u42::u43::u44::u45::u46::u47::u48::u49::u50::u51::u52::u53::u54::u55::u56::u57::u58::u59::u60::u61::u62::u63::u64::u65::u66::u67::u68::u69::u70::u71::u72::u73::u74::u75::u76::u77::u78::u79::u80::u81::u82::u83::u84::u85::u86::u87::u88::u89::u90::u91::u92::u93::u94::u95::u96::u97::u98::u99::u100::u101::u102::u103::u104::u105::u106::u107::u108::u109::u110::u111::u112::u113::u114::u115::u116::u117::u118::u119::u120::u121::u122::u123::u124::u125::u126::u127::u128::u129::u130::u131::u132::u133::u134::u135::u136::u137::u138::u139::u140::u141::u142::u143::u144::u145::u146::u147::u148::u149::u150::u151::u152::u153::u154::u155::u156::u157::u158::u159::u160::u161::u162::u163::u164::u165::u166::u167::u168::u169::u170::u171::u172::u173::u174::u175::u176::u177::u178::u179::u180::u181::u182::u183::u184::u185::u186::u187::u188::u189::u190::u191::u192::u193::u194::u195::u196::u197::u198::u199::u200::u201::u202::u203::u204::u205::u206::u207::u208::u209::u210::u211::u212::u213::u214::u215::u216::u217::u218::u219::[])[j]?:=fun j hj=>by
   by_cases hj2:j=9
   ·subst hj2;exact kt
   ·have hs:(O po pn pc::u1::u2::u3::u4::X (Y ⟨bT,0,aG⟩)::u6::u7::u8::v'::ah aj (k:Int)::u11::u12::u13::u14::u15::u16::u17::u18::u19::u20::u21::u22::u23::u24::u25::u26::u27::u28::u29::u30::u31::u32::u33::u34::u35::u36::u37::u38::u39::u40::u41::u42::u43::u44::u45::u46::u47::u48::u49::u50::u51::u52::u53::u54::u55::u56::u57::u58::u59::u60::u61::u62::u63::u64::u65::u66::u67::u68::u69::u70::u71::u72::u73::u74::u75::u76::u77::u78::u79::u80::u81::u82::u83::u84::u85::u86::u87::u88::u89::u90::u91::u92::u93::u94::u95::u96::u97::u98::u99::u100::u101::u102::u103::u104::u105::u106::u107::u108::u109::u110::u111::u112::u113::u114::u115::u116::u117::u118::u119::u120::u121::u122::u123::u124::u125::u126::u127::u128::u129::u130::u131::u132::u133::u134::u135::u136::u137::u138::u139::u140::u141::u142::u143::u144::u145::u146::u147::u148::u149::u150::u151::u152::u153::u154::u155::u156::u157::u158::u159::u160::u161::u162::u163::u164::u165::u166::u167::u168::u169::u170::u171::u172::u173::u174::u175::u176::u177::u178::u179::u180::u181::u182::u183::u184::u185::u186::u187::u188::u189::u190::u191::u192::u193::u194::u195::u196::u197::u198::u199::u200::u201::u202::u203::u204::u205::u206::u207::u208::u209::u210::u211::u212::u213::u214::u215::u216::u217::u218::u219::[]:List ak)=(O po pn pc::u1::u2::u3::u4::X (Y ⟨bT,0,aG⟩)::u6::u7::u8::rv::ah aj (k:Int)::u11::u12::u13::u14::u15::u16::u17::u18::u19::u20::u21::u22::u23::u24::u25::u26::u27::u28::u29::u30::u31::u32::u33::u34::u35::u36::u37::u38::u39::u40::u41::u42::u43::u44::u45::u46::u47::u48::u49::u50::u51::u52::u53::u54::u55::u56::u57::u58::u59::u60::u61::u62::u63::u64::u65::u66::u67::u68::u69::u70::u71::u72::u73::u74::u75::u76::u77::u78::u79::u80::u81::u82::u83::u84::u85::u86::u87::u88::u89::u90::u91::u92::u93::u94::u95::u96::u97::u98::u99::u100::u101::u102::u103::u104::u105::u106::u107::u108::u109::u110::u111::u112::u113::u114::u115::u116::u117::u118::u119::u120::u121::u122::u123::u124::u125::u126::u127::u128::u129::u130::u131::u132::u133::u134::u135::u136::u137::u138::u139::u140::u141::u142::u143::u144::u145::u146::u147::u148::u149::u150::u151::u152::u153::u154::u155::u156::u157::u158::u159::u160::u161::u162::u163::u164::u165::u166::u167::u168::u169::u170::u171::u172::u173::u174::u175::u176::u177::u178::u179::u180::u181::u182::u183::u184::u185::u186::u187::u188::u189::u190::u191::u192::u193::u194::u195::u196::u197::u198::u199::u200::u201::u202::u203::u204::u205::u206::u207::u208::u209::u210::u211::u212::u213::u214::u215::u216::u217::u218::u219::[]).set 9 (v'):=rfl;rw [hs,aY (Ne.symm hj2)];exact (ka j (by omega) hj2).trans ((kp j (nd j fun i hi h=>by have:=(by decide:∀ i,i<11->48<=[48,49,50,51,52,53,54,55,56,57,58].getD i 0/\[48,49,50,51,52,53,54,55,56,57,58].getD i 0<60) i hi; omega)).trans aF)
  obtain⟨mid,hmid,hfr⟩:=bW (a:=(a.put (Y 59) v').put (Y 9) v') 48 12 (by simp [aZ,df]) (by simp [aZ,sz']) (by simp) oz;rw [hfr]
  match mid,hmid with
  | [v48,v49,v50,v51,v52,v53,v54,v55,v56,v57,v58,v59],_ =>
   exact HQ.out x' _ s _ _ _ _ _ _ _ _ _ _ _ _ hp hbt hbx
end Sb
namespace Av
open Go.RowKit Go.Sort Rw Ytmklifheakemeaa.Nm Pr Bk
structure Cy (W:aC) (v:ak) (n:Nat) (q:Nat->List C5):Prop where
 at_:∀ i:Nat,i<n->∃ (p:aA) (h1:Option aA) (h2 h3:Nat) (g1:Option aA) (g2 g3:Nat) (has vals:List Int),p.block<W.heap.size/\(∀ w,(aI 22 v (ah aj i)).run aD w=.ok (X (Y p)) w)/\(∀ (j:Nat) u,#[(O h1 h2 h3:ak),O g1 g2 g3][j]?=Y u->W.cell? (p.add j)=Y u)/\In.gL W (O h1 h2 h3) has/\In.gL W (O g1 g2 g3) vals/\has.length<=maxLen/\vals.length<=maxLen/\q i=(jB has vals 7).map r5
theorem Cy.on {W W':aC} {v:ak} {n:Nat} {q:Nat->List C5} (h:Cy W v n q) (hb:Below W.heap.size W W'):Cy W' v n q :=
 ⟨fun i hi=>by
  obtain⟨p,x1,x2,x3,y1,y2,y3,has,vals,h1,h2,h3,h5,h6,h7,h8,h9⟩:=h.at_ i hi;exact⟨p,x1,x2,x3,y1,y2,y3,has,vals,Nat.lt_of_lt_of_le h1 hb.size,h2,fun j u hu=>by rw [hb.cell (by rw [jU]; exact h1)]; exact h3 j u hu,h5.on hb,h6.on hb,h7,h8,h9⟩⟩
theorem JU {W:aC} {v:ak} {n:Nat} (h:JI W v n):∃ q,Cy W v n q:=by
 obtain⟨q,hq⟩:=Deep.choose_lt (α:=List C5) (n:=n) (p:=fun i x=>∃ (p:aA) (h1:Option aA) (h2 h3:Nat) (g1:Option aA) (g2 g3:Nat) (has vals:List Int),p.block<W.heap.size/\(∀ w,(aI 22 v (ah aj i)).run aD w=.ok (X (Y p)) w)/\(∀ (j:Nat) u,#[(O h1 h2 h3:ak),O g1 g2 g3][j]?=Y u->W.cell? (p.add j)=Y u)/\In.gL W (O h1 h2 h3) has/\In.gL W (O g1 g2 g3) vals/\has.length<=maxLen/\vals.length<=maxLen/\x=(jB has vals 7).map r5) (fun i hi=>by
  obtain⟨p,x1,x2,x3,y1,y2,y3,has,vals,h1,h2,h3,h5,h6,h7,h8⟩:=h.at_ i hi;exact⟨_,p,x1,x2,x3,y1,y2,y3,has,vals,h1,h2,fun j u hu=>h3 j u (by simpa using hu),h5,h6,h7,h8,rfl⟩)
 exact⟨q,⟨hq⟩⟩
end Av
end Go.Proofs.Ytmklifheakemeaa
