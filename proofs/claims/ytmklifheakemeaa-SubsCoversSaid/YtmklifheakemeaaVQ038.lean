/-
  What a round of Adve. Conditions as told.
-/
import Derived.Test.YtmklifheakemeaaVQ029
import Derived.Test.YtmklifheakemeaaVQ037
set_option maxRecDepth 100000
set_option maxHeartbeats 64000000
open _root_.Decidable renaming byContradiction->L,not_not->aD
open Go.Lib renaming hid->D
open Go.Value renaming slice->J,int->aC
open _root_.List renaming getElem?_map->O,getElem?_eq_getElem->Q,length_cons->U,getElem?_cons_zero->V,getElem?_cons_succ->Y,singleton_append->Z,getElem?_toArray->ah,mem_cons_of_mem->aj,mem_of_getElem?->ak,takeWhile_cons->au,mem_cons->ay,pairwise_cons->aA,map_cons->aB
open Option.some renaming inj->K
namespace Go.Proofs.Ytmklifheakemeaa
namespace Av
open Go.RowKit Go.Sort Rw Ytmklifheakemeaa.Nm Pr Bk
theorem DC {α:Type} (l:List α) (k:Nat) (x:α):(fP l k x).length=l.length+1:=by
 unfold fP;simp only [List.length_append,U,List.length_nil,List.length_take,List.length_drop];omega
structure MX (W:World) (v:Value) (n:Nat) (q:Nat->List C5):Prop where
 at_:∀ i:Nat,i<n->∃ (p:Addr) (h1:Option Addr) (h2 h3:Nat) (g1:Option Addr) (g2 g3:Nat) (has vals:List Int),p.block<W.heap.size/\(∀ w,(Instr.indexAt 22 v (aC .i64 i)).run Try.prog w=.ok (.pointer (some p)) w)/\(∀ (j:Nat) u,#[(J h1 h2 h3:Value),J g1 g2 g3][j]?=some u->W.cell? (p.add j)=some u)/\In.gJ W (J h1 h2 h3) has/\In.gJ W (J g1 g2 g3) vals/\has.length<=maxLen/\vals.length<=maxLen/\q i=(gN has vals 7).map r5
theorem KC {W:World} {v:Value} {n:Nat} (h:Kz W v n):∃ q,MX W v n q:=by
 obtain⟨q,hq⟩:=Deep.choose_lt (α:=List C5) (n:=n) (p:=fun i x=>∃ (p:Addr) (h1:Option Addr) (h2 h3:Nat) (g1:Option Addr) (g2 g3:Nat) (has vals:List Int),p.block<W.heap.size/\(∀ w,(Instr.indexAt 22 v (aC .i64 i)).run Try.prog w=.ok (.pointer (some p)) w)/\(∀ (j:Nat) u,#[(J h1 h2 h3:Value),J g1 g2 g3][j]?=some u->W.cell? (p.add j)=some u)/\In.gJ W (J h1 h2 h3) has/\In.gJ W (J g1 g2 g3) vals/\has.length<=maxLen/\vals.length<=maxLen/\x=(gN has vals 7).map r5) (fun i hi=>by
  obtain⟨p,x1,x2,x3,y1,y2,y3,has,vals,h1,h2,h3,h5,h6,h7,h8⟩:=h.at_ i hi;exact⟨_,p,x1,x2,x3,y1,y2,y3,has,vals,h1,h2,fun j u hu=>h3 j u (by simpa using hu),h5,h6,h7,h8,rfl⟩)
 exact⟨q,⟨hq⟩⟩
theorem om (x y:En):gL (dI x) (dI y)=true↔rF x y<0:=by
 rw [nY];unfold gL dI;simp only [Bool.or_eq_true,Bool.and_eq_true,rD]
theorem DI (x y:En) (h:dI x≠dI y):rF x y<0\/rF y x<0:=by
 rw [nY,nY];rcases mU x.tree y.tree with q|q|q
 ·exact Or.inl (Or.inl q)
 ·rcases mU x.sub y.sub with r|r|r
  ·exact Or.inl (Or.inr ⟨q,r⟩)
  ·exact absurd (Prod.ext q r) h
  ·exact Or.inr (Or.inr ⟨q.symm,r⟩)
 ·exact Or.inr (Or.inl q)
theorem vW:∀ (l:List En) (x:En),∀ y∈l.take (dN (l.map dI) (dI x)),rF y x<0
 | [],_,y,h=>by simp at h
 | a::l,x,y,h=>by
  unfold dN at h;by_cases ha:gL (dI a) (dI x)=true
  ·simp only [aB,au,ha,if_true,U,List.take_succ_cons,ay] at h;rcases h with rfl|h
   ·exact (om _ _).1 ha
   ·exact vW l x y h
  ·simp [ha] at h
theorem vX:∀ {l:List En} (_:l.Pairwise fun x y=>rF x y<0) (x:En) (_:∀ y∈l,dI y≠dI x),∀ y∈l.drop (dN (l.map dI) (dI x)),rF x y<0
 | [],_,_,_,y,h=>by simp at h
 | a::l,hr,x,hn,y,h=>by
  unfold dN at h;have hr':=aA.1 hr;by_cases ha:gL (dI a) (dI x)=true
  ·simp only [aB,au,ha,if_true,U,List.drop_succ_cons] at h;exact vX hr'.2 x (fun y hy=>hn y (aj _ hy)) y h
  ·simp [ha] at h;have hax:rF x a<0:=by
    rcases DI a x (hn a (by simp)) with q|q
    ·exact absurd ((om _ _).2 q) ha
    ·exact q
   rcases h with rfl|h
   ·exact hax
   ·exact AO _ _ _ hax (hr'.1 y h)
theorem DJ {l:List En} (hr:l.Pairwise fun x y=>rF x y<0) (x:En) (hn:∀ y∈l,dI y≠dI x):(fP l (dN (l.map dI) (dI x)) x).Pairwise fun x y=>rF x y<0:=by
 unfold fP;have h1:=hr.sublist (List.take_sublist (dN (l.map dI) (dI x)) l);have h2:=hr.sublist (List.drop_sublist (dN (l.map dI) (dI x)) l);have lo:=vW l x;have hi:=vX hr x hn;rw [List.append_assoc,List.pairwise_append];refine⟨h1,?_,fun a ha b hb=>?_⟩
 ·rw [Z,aA];exact⟨fun b hb=>hi b hb,h2⟩
 ·rw [Z,ay] at hb;rcases hb with rfl|hb
  ·exact lo a ha
  ·exact AO _ _ _ (lo a ha) (hi b hb)
theorem vY:∀ (l:List eu) (x:eu),x ∉ l->fM l x=-1
 | [],_,_=>rfl
 | a::l,x,h=>by
  rw [fM,if_neg fun e=>h (by rw [e]; simp),vY l x fun q=>h (aj _ q),if_pos rfl]
theorem Gv {κ:Type} [DecidableEq κ] {l:List κ} {x:κ} (h:gG l x=-1):x ∉ l:=by
 rcases jS l x with _|⟨k,h1,_⟩
 ·intro hm
  induction l with
  | nil=>simp at hm
  | cons a l ih =>
   rw [gG] at h
   split at h
   ·cases h
   ·rename_i hne
    split at h
    ·rename_i h2
     rcases ay.1 hm with e|e
     ·exact hne e.symm
     ·exact ih h2 h2 e
    ·rename_i h2
     have:=jS l x;rcases this with q|⟨k,q,_⟩
     ·exact h2 q
     ·omega
 ·omega
theorem A8 {b:Br} (h:yD b) {l:List En} (hp:l.Pairwise fun x y=>rF x y<0) (ho:∀ e∈l,yC b e=true):yD { b with ent:=l } :=
 ⟨h.near,h.seen,h.fI,hp,h.own,h.oks,fun e he=>Jc (b:=b) rfl rfl (ho e he),h.SY⟩
theorem KF {b:Br} (h:yD b) (e:En) (hc:wN b.near e.from_=true) (hq:Wr.jJ e.p=true):yD (dU b e).1:=by
 unfold dU
 split
 ·exact h
 ·rename_i a ha
  split
  ·exact h
  ·rename_i h1
   split
   ·exact h
   ·rename_i h2
    split
    ·exact h
    ·rename_i h3
     have hid:a.id=e.tree:=by
      have hm:e.tree∈b.fI.map Ad.id:=L fun q=>h1 (vY _ _ q);obtain⟨k2,h5,h6⟩:=DF _ _ hm;rw [h5,Int.toNat_natCast] at ha;rw [O,ha] at h6;exact K h6
     have hf:fT b.fI e.tree=some a:=by
      rw [<- hid];exact oO h.fI (ak ha)
     have hins:=DJ h.ent { e with up:=decide (a.par≠-1) && !dJ b.ent e.tree e.p } fun y hy hk=>by
      have hm:dI e∈b.ent.map dI:=List.mem_map.2 ⟨y,hy,hk⟩;have h9:gG (b.ent.map dI) (dI e)=-1:=aD.1 h2;exact Gv h9 hm
     refine A8 h hins fun q hq2=>?_;rcases (nZ _ _ _ _).1 hq2 with rfl|hq2
     ·unfold yC;simp only [hf];have h4:¬ (e.from_≠-1/\e.from_=a.par):=h3;rw [hc,hq];by_cases g1:e.from_=a.par
      ·have g2:a.par=-1:=by
        rw [<- g1];exact L fun q=>h4 ⟨q,g1⟩
       simp [g1,g2]
      ·by_cases g2:a.par=-1 <;> simp [g1,g2]
     ·exact h.OZ q hq2
theorem uV (t:eu) (s:List En×List En) (k:Nat):(fA t s k).1.map dI=s.1.map dI:=by
 unfold fA
 split
 ·rfl
 ·rename_i e he
  split
  ·rw [List.map_set];refine List.ext_getElem? fun j=>?_;rw [List.getElem?_set]
   split
   ·rename_i hj
    subst hj
    split
    ·rw [O,he]
     rfl
    ·rename_i hl
     rw [List.getElem?_eq_none (by simpa using hl)]
   ·rfl
  ·rfl
theorem tu (t:eu) (m:List En):∀ k,(fO t m k).1.map dI=m.map dI
 | 0=>rfl
 | k+1=>by rw [gq,uV,tu t m k]
theorem DK {l m:List En} (h:l.map dI=m.map dI) (hp:m.Pairwise fun x y=>rF x y<0):l.Pairwise fun x y=>rF x y<0:=by
 have h1:∀ l:List En,(l.Pairwise fun x y=>rF x y<0)↔(l.map dI).Pairwise fun x y=>gL x y=true:=fun l=>by
  rw [List.pairwise_map];exact⟨fun q=>q.imp fun {a b} r=>(om a b).2 r,fun q=>q.imp fun {a b} r=>(om a b).1 r⟩
 rw [h1,h,<- h1];exact hp
theorem l7 {α:Type} (l:List α) (k:Nat):(cutAt l k).Sublist l:=by
 unfold cutAt
 conv=>rhs; rw [<- List.take_append_drop k l]
 exact (List.Sublist.refl _).append (List.drop_sublist_drop_left l (Nat.le_succ k))
theorem Jj {b:Br} (h:yD b) (t x:eu) (f:Int):yD (takeB b t x f).1:=by
 unfold takeB
 split
 ·exact h
 ·rename_i e0 he0
  split
  ·exact h
  ·rename_i h1
   split
   ·exact h
   ·split
    ·exact A8 h (h.ent.sublist (l7 _ _)) fun q hq=>h.OZ q (p9 hq)
    ·rename_i hup
     have P9:e0.up=true:=by simpa using hup
     have ht:e0.tree=t:=by
      rcases jS (b.ent.map dI) (t,x) with q|⟨k,q,r⟩
      ·exact absurd q h1
      ·rw [q,Int.toNat_natCast] at he0;rw [O,he0] at r;exact congrArg Prod.fst (K r)
     have ho0:=h.OZ e0 (ak he0);refine A8 h (DK (tu _ _ _) (h.ent.sublist (l7 _ _))) ?_;refine (vV (fun e=>yC b e=true) (fun e he hr=>?_) (fun q hq=>h.OZ q (p9 hq)) _).1;unfold yC at hr ho0 ⊢;rw [ht] at ho0;show (match fT b.fI e.tree with | none=>false | some a=>_)=true;rw [he] at hr ⊢;cases hfa:fT b.fI t with
     | none=>rw [hfa] at hr; cases hr
     | some a =>
      rw [hfa] at hr ho0;simp only [Bool.and_eq_true] at hr ho0 ⊢;refine⟨hr.1,hr.2.1,?_,hr.2.2.2⟩;have h9:=ho0.2.2.1;rw [P9] at h9;exact h9
theorem Jk {β:Type} {F:Ek β} {W W':World} {B k:Nat} {v:Value} {l:List β} {cs:Array Value} {t:TypeId} (ho:Own F W B v l) (gr:W.grownBy W' v.ownBlock) (h:dH W k cs t) (hne:(t == F.t)=false):dH W' k cs t:=by
 rcases fD ho with⟨h1,_⟩|⟨g,c,cur,h1,_,h2,_⟩
 ·rw [h1] at gr;exact h.on ((Below.refl _ _).grown gr (Nat.le_refl _) (fun j hj=>by cases hj))
 ·rw [h1] at gr;exact (qU (b:=g) gr).box h (iO h h2 hne)
end Av
namespace Sb
open Go.RowKit Go.Sort Rw Ytmklifheakemeaa.Nm Pr Bk Av Rl
abbrev tA (m:List En) (a:Ad):Bool:=a.par == -1 || oP (jv m a.id)
theorem oV (b:Br) (nv av sv ev ov:Sl) (w:World) (h:kM w b nv av sv ev ov) (hr:fC b.ent) (hl:b.ent.length<=1000) (hok:∀ e∈b.ent,eO e.p) :
  Calls Try.prog 13 #[iN b.me nv av sv ev ov] w fun e w'=>e=.returned (.bool (sO b))/\Below w.heap.size w w':=by
 obtain⟨no,nn,nc⟩:=nv;obtain⟨ao,an,ac⟩:=av;obtain⟨so,sn,sc⟩:=sv;obtain⟨eo,en,ec⟩:=ev;obtain⟨oo,jK,oc⟩:=ov;obtain⟨la,ha1,ha2⟩:=h.fI;obtain⟨le,he1,he2⟩:=h.ent;have h0:=iG w (.cells #[aC .i64 b.me,J no nn nc,J ao an ac,J so sn sc,J eo en ec,J oo jK oc] 31);have X:=dO w #[aC .i64 b.me,J no nn nc,J ao an ac,J so sn sc,J eo en ec,J oo jK oc] 31;have B:=D h0;have A1:=D (ha1.on h0);have A2:=D (ha2.mono fun _ _ q=>q.on h0);have E1:=D (he1.on h0);have E2:=D (he2.mono fun _ _ q=>q.on h0);have X1:=D X;have x2:=X.cell 2;simp only [ah,V,Y] at x2;have hn:=gX ha1;have lm:=ha1.most;unfold maxLen at lm;rw [hn] at lm;have HN:=D hn;have HR:=D hr;have HL:=D (show le.length<=1000 by rw [he2.len]; exact hl);have OK:=D hok;obtain⟨tb,htb⟩:∃ r,sO b=r:=⟨_,rfl⟩;rw [htb];have TB:=D htb;clear h0 X ha1 ha2 he1 he2 h hn hr hl hok htb;go_enter Try.func13,Try.ntmps13;go_upto_region 1 with fail;generalize w.alloc (.cells #[aC .i64 b.me,J no nn nc,J ao an ac,J so sn sc,J eo en ec,J oo jK oc] 31)=W at *;go_wp2
 go_loopw [8] (fun i wr=>∃ k:Nat,k<=an/\i=aC .i64 k/\Below W.heap.size W wr/\∀ (j:Nat) (y:Ad),j<k->b.fI[j]?=some y->tA b.ent y=true) (fun i _=>an-(intOf i).toNat)
 case atStart=>exact⟨0,Nat.zero_le _,rfl,Below.refl _ _,fun j y h=>by omega⟩
 case round =>
  obtain⟨k,hk,rfl,hbe,hall⟩:=hrel;have BE:=D hbe;have AL:=D hall;clear hbe hall;by_cases hlt:k<an
  ·obtain⟨y,hy⟩:∃ y,la[k]?=some y:=⟨_,Q (by rw [HN.out]; exact hlt)⟩;obtain⟨q,ix,px⟩:=Pb A1.out rfl HN.out hy;obtain⟨p0,p1,p2,p3⟩:=px wr BE.out;obtain⟨a,ha⟩:∃ a,b.fI[k]?=some a:=⟨_,Q (by rw [<- A2.out.len,HN.out]; exact hlt)⟩;obtain⟨y',hy',hx⟩:=A2.out.at k a ha;rw [hy] at hy';obtain rfl:=K hy';obtain⟨y1,y2,⟨yo,yn,yc⟩,y4⟩:=y;simp only at p0 p1 p2 p3;have NB:=D (iG wr (.cells #[aC .i64 y1,aC .i64 y2,J yo yn yc,aC .i64 y4] 37));have BF:=D (BE.out.trans (NB.out.mono BE.out.size));have x4:=(X1.out.on BF.out).cell 4;simp only [ah,V,Y] at x4;have hw3:IntKind.i64.wrap ((k:Int)+1)=(k:Int)+1:=IntWalk.i64_in _ (by omega);have HA:=D ha;have HX:=D (show ((y1,y2):eu)=a.id/\y4=a.par from ⟨hx.1,hx.2.1⟩);clear px hy ha hx x2;by_cases hp:y4=-1
   ·have hne:(y4 != -1)=false:=by simp [hp]
    have HV:=D (show tA b.ent a=true by unfold tA; rw [<- HX.out.2,hp]; rfl);clear hp;go_wp2
    go_roundw
    case rel=>exact⟨k+1,by omega,by go_num,BF.out,fun j y' hj h1=>by
     rcases Nat.lt_or_ge j k with h3|h3
     ·exact AL.out j y' h3 h1
     ·obtain rfl:j=k:=by omega
      have e1:=HA.out;rw [h1] at e1;rw [K e1];exact HV.out⟩
    case measure=>simp [intOf]; omega
   ·have hne:(y4 != -1)=true:=by simp [hp]
    obtain⟨t,ht⟩:∃ r,oP (jv b.ent (y1,y2))=r:=⟨_,rfl⟩;have HV:=D (show tA b.ent a=t by
     unfold tA;rw [<- HX.out.2,<- HX.out.1,ht,show (y4 == -1)=false by simpa using hp,Bool.false_or])
    have BR:=D (lZ (eo,en,ec) le b.ent (y1,y2) _ (E1.out.on BF.out) (E2.out.mono fun _ _ q=>q.on BF.out) HR.out HL.out);obtain⟨c1,c2⟩:=AX E1.out E2.out (y1,y2);have C1:=D c1;have C2:=D c2;generalize cutV (eo,en,ec) (fJ b.ent (y1,y2)) (jv b.ent (y1,y2)).length=z at *;obtain⟨z1,z2,z3⟩:=z;have HT:=D ht;clear hp c1 c2 ht;go_wp2_with fail;refine BR.out.mono ?_;rintro e1 w1 ⟨rfl,hb⟩;have BG:=D (BF.out.trans (hb.mono BF.out.size));have TC:=D (Dz (z1,z2,z3) _ (jv b.ent (y1,y2)) w1 (C1.out.on BG.out) (C2.out.mono fun _ _ q=>q.on BG.out) (fun e he=>OK.out e (AY _ _ e he)));rw [HT.out] at TC;clear hb BR x4 p0 p1 p2 p3 ix;go_wp2_with fail;refine TC.out.mono ?_;rintro e2 w2 ⟨rfl,hb⟩;have BH:=D (BG.out.trans (hb.mono BG.out.size));clear hb TC;cases t
    ·have hd:=D (show tb=false by rw [<- TB.out]; exact Gu (tA b.ent) HA.out HV.out);go_wp2;go_ret;exact⟨by rw [hd.out]; rfl,B.out.trans (BH.out.mono B.out.size)⟩
    ·go_wp2
     go_roundw
     case rel=>exact⟨k+1,by omega,by go_num,BH.out,fun j y' hj h1=>by
      rcases Nat.lt_or_ge j k with h3|h3
      ·exact AL.out j y' h3 h1
      ·obtain rfl:j=k:=by omega
       have e1:=HA.out;rw [h1] at e1;rw [K e1];exact HV.out⟩
     case measure=>simp [intOf]; omega
  ·obtain rfl:an=k:=by omega
   have hd:=D (show tb=true by rw [<- TB.out]; exact Gt (tA b.ent) fun j y hj h=>AL.out j y (by rw [<- HN.out,A2.out.len]; exact hj) h);clear x2;go_wp2;go_ret;exact⟨by rw [hd.out]; rfl,B.out.trans (BE.out.mono B.out.size)⟩
end Sb
end Go.Proofs.Ytmklifheakemeaa
