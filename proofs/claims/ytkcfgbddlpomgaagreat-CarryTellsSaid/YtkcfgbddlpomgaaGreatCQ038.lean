/-
  What a round of Adve. Conditions as told.
-/
import Derived.Test.YtkcfgbddlpomgaaGreatCQ036
import Derived.Test.YtkcfgbddlpomgaaGreatCQ037
set_option maxRecDepth 100000
set_option maxHeartbeats 64000000
open _root_.Go renaming World->aC,Value->aI,Addr->aS
open Go.IntKind renaming i64->V
open Go.Lib renaming hid->aA
open Go.Operand renaming tmp->aj
open Go.Proofs.YtkcfgbddlpomgaaGreat.Wi renaming within->L,gI->aT
open Go.RowKit.Below renaming refl->Y
open Go.Value renaming pointer->O,int->U,slice->ah,agg->aH
open _root_.List renaming getElem?_toArray->Z,getElem?_cons_zero->au,getElem?_cons_succ->aB,getElem?_map->aD,map_cons->aF,length_cons->aG,singleton_append->aJ,mem_cons_of_mem->aK,mem_of_getElem?->aL,takeWhile_cons->aM,mem_cons->aN,pairwise_cons->aO,map_toArray->aP,map_nil->aR
open _root_.Option renaming none->X,some->ak
open Option.some renaming inj->J
open _root_.Or renaming inr->ay,inl->aQ
namespace Go.Proofs.YtkcfgbddlpomgaaGreat
namespace Av
open Go.RowKit Go.Sort Rw YtkcfgbddlpomgaaGreat.Nm Pr Bk
theorem Oe {α:Type} (l:List α) (k:Nat) (x:α):(fP l k x).length=l.length+1:=by
 unfold fP;simp only [List.length_append,aG,List.length_nil,List.length_take,List.length_drop];omega
theorem Eo {α β:Type} {E:Ek α} {F:Ek β} {W W':aC} {B B':Nat} {v u:aI} {l:List β} {m:List α} (ho:Own F W B v l) (gr:W.grownBy W' v.ownBlock) (h:Own E W B' u m) (hne:(E.t == F.t)=false):Own E W' B' u m:=by
 rcases iP ho with⟨h1,_⟩|⟨g,c,cur,h1,_,h2,_⟩
 ·rw [h1] at gr;exact Bk.dh h ((Y _ _).grown gr (Nat.le_refl _) (fun j hj=>by cases hj))
 ·rw [h1] at gr;exact (Oc (b:=g) gr).own h h2 hne
theorem sS (x y:En):iZ (eY x) (eY y)=true↔xL x y<0:=by
 rw [sO];unfold iZ eY;simp only [Bool.or_eq_true,Bool.and_eq_true,xY]
theorem Og (x y:En) (h:eY x≠eY y):xL x y<0\/xL y x<0:=by
 rw [sO,sO];rcases oI x.tree y.tree with q|q|q
 ·exact aQ (aQ q)
 ·rcases oI x.sub y.sub with r|r|r
  ·exact aQ (ay ⟨q,r⟩)
  ·exact absurd (Prod.ext q r) h
  ·exact ay (ay ⟨q.symm,r⟩)
 ·exact ay (aQ q)
theorem Di:∀ (l:List En) (x:En),∀ y∈l.take (eG (l.map eY) (eY x)),xL y x<0
 | [],_,y,h=>by simp at h
 | a::l,x,y,h=>by
  unfold eG at h;by_cases ha:iZ (eY a) (eY x)=true
  ·simp only [aF,aM,ha,if_true,aG,List.take_succ_cons,aN] at h;rcases h with rfl|h
   ·exact (sS _ _).1 ha
   ·exact Di l x y h
  ·simp [ha] at h
theorem Dj:∀ {l:List En} (_:l.Pairwise fun x y=>xL x y<0) (x:En) (_:∀ y∈l,eY y≠eY x),∀ y∈l.drop (eG (l.map eY) (eY x)),xL x y<0
 | [],_,_,_,y,h=>by simp at h
 | a::l,hr,x,hn,y,h=>by
  unfold eG at h;have hr':=aO.1 hr;by_cases ha:iZ (eY a) (eY x)=true
  ·simp only [aF,aM,ha,if_true,aG,List.drop_succ_cons] at h;exact Dj hr'.2 x (fun y hy=>hn y (aK _ hy)) y h
  ·simp [ha] at h;have hax:xL x a<0:=by
    rcases Og a x (hn a (by simp)) with q|q
    ·exact absurd ((sS _ _).2 q) ha
    ·exact q
   rcases h with rfl|h
   ·exact hax
   ·exact Ej _ _ _ hax (hr'.1 y h)
theorem Oh {l:List En} (hr:l.Pairwise fun x y=>xL x y<0) (x:En) (hn:∀ y∈l,eY y≠eY x):(fP l (eG (l.map eY) (eY x)) x).Pairwise fun x y=>xL x y<0:=by
 unfold fP;have h1:=hr.sublist (List.take_sublist (eG (l.map eY) (eY x)) l);have h2:=hr.sublist (List.drop_sublist (eG (l.map eY) (eY x)) l);have lo:=Di l x;have hi:=Dj hr x hn;rw [List.append_assoc,List.pairwise_append];refine⟨h1,?_,fun a ha b hb=>?_⟩
 ·rw [aJ,aO];exact⟨fun b hb=>hi b hb,h2⟩
 ·rw [aJ,aN] at hb;rcases hb with rfl|hb
  ·exact lo a ha
  ·exact Ej _ _ _ (lo a ha) (hi b hb)
theorem Dk:∀ (l:List eF) (x:eF),x ∉ l->eU l x=-1
 | [],_,_=>rfl
 | a::l,x,h=>by
  rw [eU,if_neg fun e=>h (by rw [e]; simp),Dk l x fun q=>h (aK _ q),if_pos rfl]
theorem SF {κ:Type} [DecidableEq κ] {l:List κ} {x:κ} (h:iH l x=-1):x ∉ l:=by
 rcases mG l x with _|⟨k,h1,_⟩
 ·intro hm
  induction l with
  | nil=>simp at hm
  | cons a l ih =>
   rw [iH] at h
   split at h
   ·cases h
   ·rename_i hne
    split at h
    ·rename_i h2
     rcases aN.1 hm with e|e
     ·exact hne e.symm
     ·exact ih h2 h2 e
    ·rename_i h2
     have:=mG l x;rcases this with q|⟨k,q,_⟩
     ·exact h2 q
     ·omega
 ·omega
theorem JR {b:Br} (h:jG b) {l:List En} (hp:l.Pairwise fun x y=>xL x y<0) (ho:∀ e∈l,wP b e=true):jG { b with ent:=l } :=
 ⟨h.near,h.seen,h.dL,hp,h.own,h.oks,fun e he=>sP (b:=b) rfl rfl (ho e he),h.X8⟩
theorem SG {b:Br} (h:jG b) (e:En) (hc:jU b.near e.from_=true) (hq:Wr.jd e.p=true):jG (gN b e).1:=by
 unfold gN
 split
 ·exact h
 ·rename_i a ha
  split
  ·exact h
  ·rename_i h1
   split
   ·exact h
   ·rename_i h2
    split
    ·exact h
    ·rename_i h3
     have hid:a.id=e.tree:=by
      have hm:e.tree∈b.dL.map Ad.id:=Decidable.byContradiction fun q=>h1 (Dk _ _ q);obtain⟨k2,h5,h6⟩:=Ck _ _ hm;rw [h5,Int.toNat_natCast] at ha;rw [aD,ha] at h6;exact J h6
     have hf:gu b.dL e.tree=ak a:=by
      rw [<- hid];exact nX h.dL (aL ha)
     have hins:=Oh h.ent { e with up:=decide (a.par≠-1) && !eP b.ent e.tree e.p } fun y hy hk=>by
      have hm:eY e∈b.ent.map eY:=List.mem_map.2 ⟨y,hy,hk⟩;have h9:iH (b.ent.map eY) (eY e)=-1:=Decidable.not_not.1 h2;exact SF h9 hm
     refine JR h hins fun q hq2=>?_;rcases (jH _ _ _ _).1 hq2 with rfl|hq2
     ·unfold wP;simp only [hf];have h4:¬ (e.from_≠-1/\e.from_=a.par):=h3;rw [hc,hq];by_cases g1:e.from_=a.par
      ·have g2:a.par=-1:=by
        rw [<- g1];exact Decidable.byContradiction fun q=>h4 ⟨q,g1⟩
       simp [g1,g2]
      ·by_cases g2:a.par=-1 <;> simp [g1,g2]
     ·exact h.Oa q hq2
theorem A9 (t:eF) (s:List En×List En) (k:Nat):(ig t s k).1.map eY=s.1.map eY:=by
 unfold ig
 split
 ·rfl
 ·rename_i e he
  split
  ·rw [List.map_set];refine List.ext_getElem? fun j=>?_;rw [List.getElem?_set]
   split
   ·rename_i hj
    subst hj
    split
    ·rw [aD,he]
     rfl
    ·rename_i hl
     rw [List.getElem?_eq_none (by simpa using hl)]
   ·rfl
  ·rfl
theorem uy (t:eF) (m:List En):∀ k,(iI t m k).1.map eY=m.map eY
 | 0=>rfl
 | k+1=>by rw [lU,A9,uy t m k]
theorem Oi {l m:List En} (h:l.map eY=m.map eY) (hp:m.Pairwise fun x y=>xL x y<0):l.Pairwise fun x y=>xL x y<0:=by
 have h1:∀ l:List En,(l.Pairwise fun x y=>xL x y<0)↔(l.map eY).Pairwise fun x y=>iZ x y=true:=fun l=>by
  rw [List.pairwise_map];exact⟨fun q=>q.imp fun {a b} r=>(sS a b).2 r,fun q=>q.imp fun {a b} r=>(sS a b).1 r⟩
 rw [h1,h,<- h1];exact hp
theorem Ep {α:Type} (l:List α) (k:Nat):(cutAt l k).Sublist l:=by
 unfold cutAt
 conv=>rhs; rw [<- List.take_append_drop k l]
 exact (List.Sublist.refl _).append (List.drop_sublist_drop_left l (Nat.le_succ k))
theorem Wo {b:Br} (h:jG b) (t x:eF) (f:Int):jG (takeB b t x f).1:=by
 unfold takeB
 split
 ·exact h
 ·rename_i e0 he0
  split
  ·exact h
  ·rename_i h1
   split
   ·exact h
   ·split
    ·exact JR h (h.ent.sublist (Ep _ _)) fun q hq=>h.Oa q (qL hq)
    ·rename_i hup
     have aeZ:e0.up=true:=by simpa using hup
     have ht:e0.tree=t:=by
      rcases mG (b.ent.map eY) (t,x) with q|⟨k,q,r⟩
      ·exact absurd q h1
      ·rw [q,Int.toNat_natCast] at he0;rw [aD,he0] at r;exact congrArg Prod.fst (J r)
     have ho0:=h.Oa e0 (aL he0);refine JR h (Oi (uy _ _ _) (h.ent.sublist (Ep _ _))) ?_;refine (wH (fun e=>wP b e=true) (fun e he hr=>?_) (fun q hq=>h.Oa q (qL hq)) _).1;unfold wP at hr ho0 ⊢;rw [ht] at ho0;show (match gu b.dL e.tree with | none=>false | some a=>_)=true;rw [he] at hr ⊢;cases hfa:gu b.dL t with
     | none=>rw [hfa] at hr; cases hr
     | some a =>
      rw [hfa] at hr ho0;simp only [Bool.and_eq_true] at hr ho0 ⊢;refine⟨hr.1,hr.2.1,?_,hr.2.2.2⟩;have h9:=ho0.2.2.1;rw [aeZ] at h9;exact h9
end Av
namespace Bk
open Go.RowKit Go.Sort Rw YtkcfgbddlpomgaaGreat.Nm Pr
open Av
def rW (W1 W:aC) (Lp ev:Sl) (vN lx:List iB):Prop:=(ev=Lp/\lx=vN)\/jw W W1.heap.size (dK ev) lx
theorem rX {W1 W:aC} {k:Nat} {me:Int} {s1 s2 s3 s4 s5:Sl} {v:aI} {p:List C5} (hb:dG W1 k (iY me s1 s2 s3 s4 s5) 33) (hk:But k W1 W) (h:fG W1 v p):fG W v p:=gK Bh h hk.1 (nk hb (nu me s1 s2 s3 s4 s5))
theorem vk {W1 W:aC} {k:Nat} {me:Int} {s1 s2 s3 s4 s5:Sl} {l:List iB} {m:List En} (hb:dG W1 k (iY me s1 s2 s3 s4 s5) 33) (hk:But k W1 W) (h:dX (iX W1) l m):dX (iX W) l m:=h.mono fun _ _ hx=>⟨hx.1,hx.2.1,hx.2.2.1,hx.2.2.2.1,rX hb hk hx.2.2.2.2⟩
theorem zI {W1 W:aC} {k:Nat} {me:Int} {s1 s2 s3 s4 s5:Sl} {l:List nH} {m:List Ou} (hb:dG W1 k (iY me s1 s2 s3 s4 s5) 33) (hk:But k W1 W) (h:dX (rQ W1) l m):dX (rQ W) l m:=zh h hb hk.1
theorem rW.row {W1 W:aC} {k:Nat} {me:Int} {s1 s2 s3 s4 s5:Sl} {Lp ev:Sl} {vN lx:List iB} (hb:dG W1 k (iY me s1 s2 s3 s4 s5) 33) (hk:But k W1 W) (h1:jX W1 (dK Lp) vN) (h:rW W1 W Lp ev vN lx):jX W (dK ev) lx:=by
 rcases h with⟨rfl,rfl⟩|h
 ·exact gK nR h1 hk.1 (jT hb (fun c=>⟨_,_,rfl,rfl⟩) (kY me s1 s2 s3 s4 s5))
 ·exact Row.dn h
theorem qb {W1 W:aC} {k:Nat} {me:Int} {s1 s2 s3 s4 s5:Sl} {b1 b:Br} {q:Nat} {nv av sv Lp ov ev:Sl} {vN lx:List iB} (hb:dG W1 k (iY me s1 s2 s3 s4 s5) 33) (hk:But k W1 W) (hI:gZ W1 b1 nv av sv Lp ov) (hn:qW W (dK nv) b1.near) (h1:jX W1 (dK Lp) vN) (h:rW W1 W Lp ev vN lx) (ha:dX (iX W1) lx b.ent) (hs:K7 b1 b q):gZ W b nv av sv ev ov:=by
 have h2:=eT hI hb hk.1 hn;exact⟨by rw [hs.near]; exact h2.near,by rw [hs.dL]; exact h2.dL,by rw [hs.seen]; exact h2.seen,⟨lx,h.row hb hk h1,vk hb hk ha⟩,by rw [hs.own]; exact h2.own⟩
theorem But.below {k:Nat} {a b c:aC} (h:But k a b) (hb:Below b.heap.size b c):But k a c:=h.trans (But.of_below hb)
theorem rW.on {W1 W W':aC} {Lp ev:Sl} {vN lx:List iB} (h:rW W1 W Lp ev vN lx) (hb:Below W.heap.size W W'):rW W1 W' Lp ev vN lx:=h.imp id fun h=>Bk.dh h hb
theorem wT (w:aC) (b:Nat) (a0 a1 a2 a3 a4 a5:aI):But b w (gM w b a0 a1 a2 a3 a4 a5):=⟨fun j _ hj=>dB w b a0 a1 a2 a3 a4 a5 j hj,by simp [gM]⟩
theorem Er {W1 W W':aC} {k B:Nat} {Lp ev:Sl} {vN lx:List iB} {v:aI} {lo:List nH} (hF:B=W1.heap.size) (ho:iQ W B v lo) (gr:W.grownBy W' v.ownBlock) (hk:But k W1 W) (h:rW W1 W Lp ev vN lx):But k W1 W'/\rW W1 W' Lp ev vN lx/\(∀ bb cs t,bb<B->dG W bb cs t->dG W' bb cs t):=by
 subst hF;have hne:∀ j,j<W1.heap.size->ak j≠v.ownBlock:=fun j hj e=>by have:=(ho.lt j e.symm).1; omega
 refine⟨⟨fun j hj hn=>(gr.block j (Nat.lt_of_lt_of_le hj hk.2) (hne j hj)).trans (hk.1 j hj hn),Nat.le_trans hk.2 gr.size⟩,h.imp id fun h=>Eo ho gr h (by decide),fun bb cs t hl hb=>(gr.block bb hb.lt (hne bb hl)).trans hb⟩
end Bk
namespace Av
open Go.RowKit Go.Sort Rw YtkcfgbddlpomgaaGreat.Nm Pr Bk
theorem zJ {P:Program} (ρ:Operand->aI) (o:Oper) (y:Operand) (k:Nat) (ho:o.op=.extract y k) {c:Array aI} {v:aI} (hx:ρ y=.tuple c) (hv:c[k]?=ak v) (w:aC):(execOp ρ o).run P w=.ok (.value v) w:=by
 simp [execOp,ho,hx,hv,go_sem]
def acN (_:Nat) (bq:Nat) (_ _ _ z3 z4:Int) (_:Option aS) (_ _:Nat) (_:Option aS) (_ _:Nat) (i:Nat) (v:aI) (_:aC):Prop :=
 match i with
 | 0=>v=O (ak ⟨bq,3,X⟩)
 | 1=>v=U V z3
 | 2=>v=U V (L z3 0 4)
 | 3=>v=O (ak ⟨bq,4,X⟩)
 | 4=>v=U V z4
 | 5=>v=U V (L z4 0 2)
 | 6=>v=aH #[U V (L z3 0 4),U V (L z4 0 2)]
 | 7=>True
 | 8=>True
 | _=>True
noncomputable def Yb:Code:=((Tryz.f7.body.bind (eu 12)).getD .skip)
theorem ae0 (Q:Exit->Act->aC->Prop) (W:aC) (bq:Nat) (z0 z1 z2 z3 z4:Int) (h1:Option aS) (h2 h3:Nat) (g1:Option aS) (g2 g3:Nat) (u0 u1 u2 u3 u4 u5 u7 u8 u9 u10 u11 u12 u13 u14 u15 u16 u17 u18 u19 u20 u21 u22 u23 u24 u25 u26 u27 u28 u29 u30 u31 u32 u33 u34 u35 u36 u37 u38 u39 u40 u41 u42 u43 u44 u45 u46 u47 u48 u49 u50 u51 u52 u53 u54 u55 u56 u57 u58 u59 u60 u61 u62 u63 u64 u65 u66 u67 u68 u69 u70 u71 u72 u73 u74 u75 u76 u77 u78 u79 u80 u81 u82 u83 u84 u85 u86 u87 u88 u89 u90 u91 u92 u93 u94 u95 u96 u97 u98 u99 u100 u101 u102 u103 u104 u105 u106 u107 u108 u109 u110 u111 u112 u113 u114 u115 u116 u117 u118 u119 u120 u121 u122 u123:aI)
  (q:dG W bq #[U V z0,U V z1,U V z2,U V z3,U V z4,ah h1 h2 h3,ah g1 g2 g3] 83) (d3:-9223372036854775808<=z3/\z3<=9223372036854775807) (d4:-9223372036854775808<=z4/\z4<=9223372036854775807)
  (hQ:∀ (x:aC) (bb:Nat) (v46 v47 v48 v49 v50 v51 v52:aI),W.heap.size<=bb->dG x bb #[U V (L z3 0 4),U V (L z4 0 2)] 38->Below W.heap.size W x->Q .normal ⟨(u0::u1::u2::u3::u4::u5::O (ak ⟨bq,0,X⟩)::u7::O (ak ⟨bb,0,X⟩)::u9::u10::u11::u12::u13::u14::u15::u16::u17::u18::u19::u20::u21::u22::u23::u24::u25::u26::u27::u28::u29::u30::u31::u32::u33::u34::u35::u36::u37::u38::u39::u40::u41::u42::u43::u44::u45::v46::v47::v48::v49::v50::v51::v52::u53::u54::u55::u56::u57::u58::u59::u60::u61::u62::u63::u64::u65::u66::u67::u68::u69::u70::u71::u72::u73::u74::u75::u76::u77::u78::u79::u80::u81::u82::u83::u84::u85::u86::u87::u88::u89::u90::u91::u92::u93::u94::u95::u96::u97::u98::u99::u100::u101::u102::u103::u104::u105::u106::u107::u108::u109::u110::u111::u112::u113::u114::u115::u116::u117::u118::u119::u120::u121::u122::u123::[]).toArray,[]⟩ x) :
  Code.wp Tryz.prog Yb Q ⟨(u0::u1::u2::u3::u4::u5::O (ak ⟨bq,0,X⟩)::u7::u8::u9::u10::u11::u12::u13::u14::u15::u16::u17::u18::u19::u20::u21::u22::u23::u24::u25::u26::u27::u28::u29::u30::u31::u32::u33::u34::u35::u36::u37::u38::u39::u40::u41::u42::u43::u44::u45::u46::u47::u48::u49::u50::u51::u52::u53::u54::u55::u56::u57::u58::u59::u60::u61::u62::u63::u64::u65::u66::u67::u68::u69::u70::u71::u72::u73::u74::u75::u76::u77::u78::u79::u80::u81::u82::u83::u84::u85::u86::u87::u88::u89::u90::u91::u92::u93::u94::u95::u96::u97::u98::u99::u100::u101::u102::u103::u104::u105::u106::u107::u108::u109::u110::u111::u112::u113::u114::u115::u116::u117::u118::u119::u120::u121::u122::u123::[]).toArray,[]⟩ W:=by
 have HQ:=aA hQ;have HQ6:=aA q;have D3:=aA d3;have D4:=aA d4;clear hQ q d3 d4;unfold Yb
 conv=>arg 2; whnf
 have nb6:∀ i,i<9->[46,47,48,49,50,51,52,8,8].getD i 0≠6:=by decide
 refine Rg.sG 9 7 8 6 (fun i=>[46,47,48,49,50,51,52,8,8].getD i 0) (fun i=>9) (acN W.heap.size bq z0 z1 z2 z3 z4 h1 h2 h3 g1 g2 g3) 38 #[U V 0,U V 0] (fun v=>match v with | aH c=>c | _=>#[]) (by kernel_rfl) (by kernel_rfl) rfl (by decide) (by decide) (by decide) (by decide) (by decide) (by decide) (by decide) (fun i j hi hj h1 h2 h=>(by decide:∀ i,i<9->∀ j,j<9->i≠8->j≠8->[46,47,48,49,50,51,52,8,8].getD i 0=[46,47,48,49,50,51,52,8,8].getD j 0->i=j) i hi j hj h1 h2 h) (fun i hi=>(by decide:∀ i,i<9->[46,47,48,49,50,51,52,8,8].getD i 0<124) i hi) ?_ ?_ ?_ ?_ ?_ ?_
 ·intro i v x x' hi h hb;rcases (by omega:i=0\/i=1\/i=2\/i=3\/i=4\/i=5\/i=6\/i=7\/i=8) with rfl|rfl|rfl|rfl|rfl|rfl|rfl|rfl|rfl
  ·exact h
  ·exact h
  ·exact h
  ·exact h
  ·exact h
  ·exact h
  ·exact h
  ·exact h
  ·exact h
 ·intro o ho;cases ho;exact⟨⟨⟨7,.data⟩,by simp,rfl,rfl⟩,⟨⟨6,.data⟩,by simp,rfl,rfl⟩⟩
 ·intro i o hi Vt Ng ho a x hb seen K hK;clear HQ;rcases (by omega:i=0\/i=1\/i=2\/i=3\/i=4\/i=5\/i=6) with rfl|rfl|rfl|rfl|rfl|rfl|rfl
  ·cases ho;have e6:a.eval (aj 6)=O (ak ⟨bq,0,X⟩):=seen.kp 6 _ nb6 rfl;exact Rg.cZ rfl rfl (Rg.dJ a.eval _ 83 (aj 6) 3 rfl (by rw [e6]; simp [go_sem])) (hK _ x rfl (Y _ _))
  ·cases ho;have e46:a.eval (aj 46)=O (ak ⟨bq,3,X⟩):=seen.at_ ⟨0,.data⟩ (by simp) rfl (by decide) (by decide) (ay (by decide));have y3:=(HQ6.out.on hb).cell 3;simp only [Z,au,aB] at y3;exact Rg.cZ rfl rfl (Rg.dR a.eval _ 3 (aj 46) rfl (by rw [e46]; simp [go_sem,y3])) (hK _ x rfl (Y _ _))
  ·cases ho;have e47:a.eval (aj 47)=U V z3:=seen.at_ ⟨1,.data⟩ (by simp) rfl (by decide) (by decide) (ay (by decide));exact Rg.gq rfl rfl (Rg.rF a.eval _ (aj 47) (.const (U V 0)) (.const (U V 4)) 3 9 rfl e47 rfl rfl rfl _ (fK Tryz.func9 rfl rfl _ _)) (aT z3 0 4 x (by omega) (by omega) (by omega) D3.out.1 D3.out.2) fun e w1 h=>by
    obtain⟨rfl,rfl⟩:=h;exact⟨_,rfl,hK _ _ rfl (Y _ _)⟩
  ·cases ho;have e6:a.eval (aj 6)=O (ak ⟨bq,0,X⟩):=seen.kp 6 _ nb6 rfl;exact Rg.cZ rfl rfl (Rg.dJ a.eval _ 83 (aj 6) 4 rfl (by rw [e6]; simp [go_sem])) (hK _ x rfl (Y _ _))
  ·cases ho;have e49:a.eval (aj 49)=O (ak ⟨bq,4,X⟩):=seen.at_ ⟨3,.data⟩ (by simp) rfl (by decide) (by decide) (ay (by decide));have y4:=(HQ6.out.on hb).cell 4;simp only [Z,au,aB] at y4;exact Rg.cZ rfl rfl (Rg.dR a.eval _ 3 (aj 49) rfl (by rw [e49]; simp [go_sem,y4])) (hK _ x rfl (Y _ _))
  ·cases ho;have e50:a.eval (aj 50)=U V z4:=seen.at_ ⟨4,.data⟩ (by simp) rfl (by decide) (by decide) (ay (by decide));exact Rg.gq rfl rfl (Rg.rF a.eval _ (aj 50) (.const (U V 0)) (.const (U V 2)) 3 9 rfl e50 rfl rfl rfl _ (fK Tryz.func9 rfl rfl _ _)) (aT z4 0 2 x (by omega) (by omega) (by omega) D4.out.1 D4.out.2) fun e w1 h=>by
    obtain⟨rfl,rfl⟩:=h;exact⟨_,rfl,hK _ _ rfl (Y _ _)⟩
  ·cases ho;have e48:a.eval (aj 48)=U V (L z3 0 4):=seen.at_ ⟨2,.data⟩ (by simp) rfl (by decide) (by decide) (ay (by decide));have e51:a.eval (aj 51)=U V (L z4 0 2):=seen.at_ ⟨5,.data⟩ (by simp) rfl (by decide) (by decide) (ay (by decide));exact Rg.cZ rfl rfl (Rg.iM a.eval _ 38 #[(0,aj 48),(1,aj 51)] rfl (ps:=#[(0,U V (L z3 0 4)),(1,U V (L z4 0 2))]) (by simp only [aP,aF,aR,e48,e51]) (by simp [go_sem])) (hK _ x rfl (Y _ _))
 ·intro o ho a x K hK;cases ho;exact Rg.cZ rfl rfl (Rg.uG a.eval _ 38 rfl (by simp [go_sem])) hK
 ·intro o ho a x bb v D hc hD hb hA hC JU hbb jQ K hK;clear HQ;cases ho;have hv:v=aH #[U V (L z3 0 4),U V (L z4 0 2)]:=JU;subst hv;obtain⟨x0,x1⟩:=jQ.cs2;obtain⟨f0,f1⟩:=jQ.fs2;have hst:(Instr.storeAt 38 (O (ak ⟨bb,0,X⟩)) (aH #[U V (L z3 0 4),U V (L z4 0 2)])).run Tryz.prog x=.ok () ((x.setCell ⟨bb,0,X⟩ (U V (L z3 0 4))).setCell ⟨bb,1,X⟩ (U V (L z4 0 2))):=by simp [go_sem,x0,x1,f0,f1]
  have aaD:=dO (k:=1) (dO (k:=0) jQ (U V (L z3 0 4))) (U V (L z4 0 2));refine Rg.fI 38 (aj 8) (aj 52) rfl rfl rfl rfl hA hC hst (hK _ ((hb.setCell (p:=⟨bb,0,X⟩) hbb _).setCell (p:=⟨bb,1,X⟩) hbb _) (by simpa using aaD) ?_);exact fun j u hj hjA hjS hdj hnl hls h=>by
   rcases (by omega:j=0\/j=1\/j=2\/j=3\/j=4\/j=5\/j=6) with rfl|rfl|rfl|rfl|rfl|rfl|rfl
   ·have h2:u=O (ak ⟨bq,3,X⟩):=h; exact h2
   ·have h2:u=U V z3:=h; exact h2
   ·have h2:u=U V (L z3 0 4):=h; exact h2
   ·have h2:u=O (ak ⟨bq,4,X⟩):=h; exact h2
   ·have h2:u=U V z4:=h; exact h2
   ·have h2:u=U V (L z4 0 2):=h; exact h2
   ·have h2:u=aH #[U V (L z3 0 4),U V (L z4 0 2)]:=h; exact h2
 ·intro a x bb v df sz kp gA gC hbb jQ JU hbel ⟨vs,hv⟩;have hv9:v=aH #[U V (L z3 0 4),U V (L z4 0 2)]:=JU;subst hv9;have g8:a.tmps[8]?=ak (O (ak ⟨bb,0,X⟩)):=gA;have qF:∀ j,(j<8\/53<=j)->a.tmps[j]?=(u0::u1::u2::u3::u4::u5::O (ak ⟨bq,0,X⟩)::u7::u8::u9::u10::u11::u12::u13::u14::u15::u16::u17::u18::u19::u20::u21::u22::u23::u24::u25::u26::u27::u28::u29::u30::u31::u32::u33::u34::u35::u36::u37::u38::u39::u40::u41::u42::u43::u44::u45::u46::u47::u48::u49::u50::u51::u52::u53::u54::u55::u56::u57::u58::u59::u60::u61::u62::u63::u64::u65::u66::u67::u68::u69::u70::u71::u72::u73::u74::u75::u76::u77::u78::u79::u80::u81::u82::u83::u84::u85::u86::u87::u88::u89::u90::u91::u92::u93::u94::u95::u96::u97::u98::u99::u100::u101::u102::u103::u104::u105::u106::u107::u108::u109::u110::u111::u112::u113::u114::u115::u116::u117::u118::u119::u120::u121::u122::u123::[])[j]?:=fun j hj=>(kp j (fun i hi h=>by have:=(by decide:∀ i,i<9->8<=[46,47,48,49,50,51,52,8,8].getD i 0/\[46,47,48,49,50,51,52,8,8].getD i 0<53) i hi; omega)).trans Z;obtain⟨mid,hmid,rfl⟩:=Rg.fQ 8 45 df sz (by simp) qF
  match mid,hmid with
  | v8::v9::v10::v11::v12::v13::v14::v15::v16::v17::v18::v19::v20::v21::v22::v23::v24::v25::v26::v27::v28::v29::v30::v31::v32::v33::v34::v35::v36::v37::v38::v39::v40::v41::v42::v43::v44::v45::v46::v47::v48::v49::v50::v51::v52::[],_ =>
   obtain rfl:v8=O (ak ⟨bb,0,X⟩):=J g8;obtain rfl:v9=u9:=J (kp 9 (fun i hi h=>(by decide:∀ i,i<9->[46,47,48,49,50,51,52,8,8].getD i 0≠9) i hi h));obtain rfl:v10=u10:=J (kp 10 (fun i hi h=>(by decide:∀ i,i<9->[46,47,48,49,50,51,52,8,8].getD i 0≠10) i hi h));obtain rfl:v11=u11:=J (kp 11 (fun i hi h=>(by decide:∀ i,i<9->[46,47,48,49,50,51,52,8,8].getD i 0≠11) i hi h));obtain rfl:v12=u12:=J (kp 12 (fun i hi h=>(by decide:∀ i,i<9->[46,47,48,49,50,51,52,8,8].getD i 0≠12) i hi h));obtain rfl:v13=u13:=J (kp 13 (fun i hi h=>(by decide:∀ i,i<9->[46,47,48,49,50,51,52,8,8].getD i 0≠13) i hi h));obtain rfl:v14=u14:=J (kp 14 (fun i hi h=>(by decide:∀ i,i<9->[46,47,48,49,50,51,52,8,8].getD i 0≠14) i hi h));obtain rfl:v15=u15:=J (kp 15 (fun i hi h=>(by decide:∀ i,i<9->[46,47,48,49,50,51,52,8,8].getD i 0≠15) i hi h));obtain rfl:v16=u16:=J (kp 16 (fun i hi h=>(by decide:∀ i,i<9->[46,47,48,49,50,51,52,8,8].getD i 0≠16) i hi h));obtain rfl:v17=u17:=J (kp 17 (fun i hi h=>(by decide:∀ i,i<9->[46,47,48,49,50,51,52,8,8].getD i 0≠17) i hi h));obtain rfl:v18=u18:=J (kp 18 (fun i hi h=>(by decide:∀ i,i<9->[46,47,48,49,50,51,52,8,8].getD i 0≠18) i hi h));obtain rfl:v19=u19:=J (kp 19 (fun i hi h=>(by decide:∀ i,i<9->[46,47,48,49,50,51,52,8,8].getD i 0≠19) i hi h));obtain rfl:v20=u20:=J (kp 20 (fun i hi h=>(by decide:∀ i,i<9->[46,47,48,49,50,51,52,8,8].getD i 0≠20) i hi h));obtain rfl:v21=u21:=J (kp 21 (fun i hi h=>(by decide:∀ i,i<9->[46,47,48,49,50,51,52,8,8].getD i 0≠21) i hi h));obtain rfl:v22=u22:=J (kp 22 (fun i hi h=>(by decide:∀ i,i<9->[46,47,48,49,50,51,52,8,8].getD i 0≠22) i hi h));obtain rfl:v23=u23:=J (kp 23 (fun i hi h=>(by decide:∀ i,i<9->[46,47,48,49,50,51,52,8,8].getD i 0≠23) i hi h));obtain rfl:v24=u24:=J (kp 24 (fun i hi h=>(by decide:∀ i,i<9->[46,47,48,49,50,51,52,8,8].getD i 0≠24) i hi h));obtain rfl:v25=u25:=J (kp 25 (fun i hi h=>(by decide:∀ i,i<9->[46,47,48,49,50,51,52,8,8].getD i 0≠25) i hi h));obtain rfl:v26=u26:=J (kp 26 (fun i hi h=>(by decide:∀ i,i<9->[46,47,48,49,50,51,52,8,8].getD i 0≠26) i hi h));obtain rfl:v27=u27:=J (kp 27 (fun i hi h=>(by decide:∀ i,i<9->[46,47,48,49,50,51,52,8,8].getD i 0≠27) i hi h));obtain rfl:v28=u28:=J (kp 28 (fun i hi h=>(by decide:∀ i,i<9->[46,47,48,49,50,51,52,8,8].getD i 0≠28) i hi h));obtain rfl:v29=u29:=J (kp 29 (fun i hi h=>(by decide:∀ i,i<9->[46,47,48,49,50,51,52,8,8].getD i 0≠29) i hi h));obtain rfl:v30=u30:=J (kp 30 (fun i hi h=>(by decide:∀ i,i<9->[46,47,48,49,50,51,52,8,8].getD i 0≠30) i hi h));obtain rfl:v31=u31:=J (kp 31 (fun i hi h=>(by decide:∀ i,i<9->[46,47,48,49,50,51,52,8,8].getD i 0≠31) i hi h));obtain rfl:v32=u32:=J (kp 32 (fun i hi h=>(by decide:∀ i,i<9->[46,47,48,49,50,51,52,8,8].getD i 0≠32) i hi h));obtain rfl:v33=u33:=J (kp 33 (fun i hi h=>(by decide:∀ i,i<9->[46,47,48,49,50,51,52,8,8].getD i 0≠33) i hi h));obtain rfl:v34=u34:=J (kp 34 (fun i hi h=>(by decide:∀ i,i<9->[46,47,48,49,50,51,52,8,8].getD i 0≠34) i hi h));obtain rfl:v35=u35:=J (kp 35 (fun i hi h=>(by decide:∀ i,i<9->[46,47,48,49,50,51,52,8,8].getD i 0≠35) i hi h));obtain rfl:v36=u36:=J (kp 36 (fun i hi h=>(by decide:∀ i,i<9->[46,47,48,49,50,51,52,8,8].getD i 0≠36) i hi h));obtain rfl:v37=u37:=J (kp 37 (fun i hi h=>(by decide:∀ i,i<9->[46,47,48,49,50,51,52,8,8].getD i 0≠37) i hi h));obtain rfl:v38=u38:=J (kp 38 (fun i hi h=>(by decide:∀ i,i<9->[46,47,48,49,50,51,52,8,8].getD i 0≠38) i hi h));obtain rfl:v39=u39:=J (kp 39 (fun i hi h=>(by decide:∀ i,i<9->[46,47,48,49,50,51,52,8,8].getD i 0≠39) i hi h));obtain rfl:v40=u40:=J (kp 40 (fun i hi h=>(by decide:∀ i,i<9->[46,47,48,49,50,51,52,8,8].getD i 0≠40) i hi h));obtain rfl:v41=u41:=J (kp 41 (fun i hi h=>(by decide:∀ i,i<9->[46,47,48,49,50,51,52,8,8].getD i 0≠41) i hi h));obtain rfl:v42=u42:=J (kp 42 (fun i hi h=>(by decide:∀ i,i<9->[46,47,48,49,50,51,52,8,8].getD i 0≠42) i hi h));obtain rfl:v43=u43:=J (kp 43 (fun i hi h=>(by decide:∀ i,i<9->[46,47,48,49,50,51,52,8,8].getD i 0≠43) i hi h));obtain rfl:v44=u44:=J (kp 44 (fun i hi h=>(by decide:∀ i,i<9->[46,47,48,49,50,51,52,8,8].getD i 0≠44) i hi h));obtain rfl:v45=u45:=J (kp 45 (fun i hi h=>(by decide:∀ i,i<9->[46,47,48,49,50,51,52,8,8].getD i 0≠45) i hi h));exact HQ.out x bb _ _ _ _ _ _ _ hbb jQ hbel
def acP (B:Nat) (bq _ _:Nat) (z0 _ _ _ _ t1 t2 i1 i2:Int) (h1:Option aS) (h2 h3:Nat) (g1:Option aS) (g2 g3:Nat) (has vals:List Int) (i:Nat) (v:aI) (x:aC):Prop :=
 match i with
 | 0=>v=O (ak ⟨bq,0,X⟩)
 | 1=>v=U V z0
 | 2=>v=U V (L z0 1 7)
 | 3=>v=aH #[U V t1,U V t2]
 | 4=>v=aH #[U V i1,U V i2]
 | 5=>v=O (ak ⟨bq,5,X⟩)
 | 6=>v=aH #[ah h1 h2 h3,ah g1 g2 g3]
 | 7=>∃ s:Sl,v=dK s/\jL x B (dK s) ((o8 has vals 7).map r5)
 | 8=>∃ s:Sl,v=aH #[U V (L z0 1 7),U V t1,U V t2,U V i1,U V i2,dK s,ah X 0 0]/\jL x B (dK s) ((o8 has vals 7).map r5)
 | 9=>True
 | 10=>True
 | _=>True
noncomputable def Yc:Code:=((Tryz.f7.body.bind (eu 14)).getD .skip)
theorem ae3 (Q:Exit->Act->aC->Prop) (W:aC) (bq b7 b8:Nat) (z0 z1 z2 z3 z4 t1 t2 i1 i2:Int) (h1:Option aS) (h2 h3:Nat) (g1:Option aS) (g2 g3:Nat) (has vals:List Int) (u0 u1 u2 u3 u4 u5 u9 u10 u11 u12 u13 u14 u15 u16 u17 u18 u19 u20 u21 u22 u23 u24 u25 u26 u27 u28 u29 u30 u31 u32 u33 u34 u35 u36 u37 u38 u39 u40 u41 u42 u43 u44 u45 u46 u47 u48 u49 u50 u51 u52 u53 u54 u55 u56 u57 u58 u59 u60 u61 u62 u63 u64 u65 u66 u67 u68 u69 u70 u71 u72 u73 u74 u75 u76 u77 u78 u79 u80 u81 u82 u83 u84 u85 u86 u87 u88 u89 u90 u91 u92 u93 u94 u95 u96 u97 u98 u99 u100 u101 u102 u103 u104 u105 u106 u107 u108 u109 u110 u111 u112 u113 u114 u115 u116 u117 u118 u119 u120 u121 u122 u123:aI)
  (q:dG W bq #[U V z0,U V z1,U V z2,U V z3,U V z4,ah h1 h2 h3,ah g1 g2 g3] 83) (d0:-9223372036854775808<=z0/\z0<=9223372036854775807) (x7:dG W b7 #[U V t1,U V t2] 38) (x8:dG W b8 #[U V i1,U V i2] 38) (ih:In.iU W (ah h1 h2 h3) has) (iv:In.iU W (ah g1 g2 g3) vals) (lh:has.length<=maxLen) (lv:vals.length<=maxLen)
  (hQ:∀ (x:aC) (bb:Nat) (v57 v58 v59 v60 v61 v62 v63 v64 v65:aI) (m1:Option aS) (m2 m3:Nat),W.heap.size<=bb->dG x bb #[U V (L z0 1 7),U V t1,U V t2,U V i1,U V i2,ah m1 m2 m3,ah X 0 0] 43->jL x W.heap.size (ah m1 m2 m3) ((o8 has vals 7).map r5)->Below W.heap.size W x->Q .normal ⟨(u0::u1::u2::u3::u4::u5::O (ak ⟨bq,0,X⟩)::O (ak ⟨b7,0,X⟩)::O (ak ⟨b8,0,X⟩)::u9::O (ak ⟨bb,0,X⟩)::u11::u12::u13::u14::u15::u16::u17::u18::u19::u20::u21::u22::u23::u24::u25::u26::u27::u28::u29::u30::u31::u32::u33::u34::u35::u36::u37::u38::u39::u40::u41::u42::u43::u44::u45::u46::u47::u48::u49::u50::u51::u52::u53::u54::u55::u56::v57::v58::v59::v60::v61::v62::v63::v64::v65::u66::u67::u68::u69::u70::u71::u72::u73::u74::u75::u76::u77::u78::u79::u80::u81::u82::u83::u84::u85::u86::u87::u88::u89::u90::u91::u92::u93::u94::u95::u96::u97::u98::u99::u100::u101::u102::u103::u104::u105::u106::u107::u108::u109::u110::u111::u112::u113::u114::u115::u116::u117::u118::u119::u120::u121::u122::u123::[]).toArray,[]⟩ x) :
  Code.wp Tryz.prog Yc Q ⟨(u0::u1::u2::u3::u4::u5::O (ak ⟨bq,0,X⟩)::O (ak ⟨b7,0,X⟩)::O (ak ⟨b8,0,X⟩)::u9::u10::u11::u12::u13::u14::u15::u16::u17::u18::u19::u20::u21::u22::u23::u24::u25::u26::u27::u28::u29::u30::u31::u32::u33::u34::u35::u36::u37::u38::u39::u40::u41::u42::u43::u44::u45::u46::u47::u48::u49::u50::u51::u52::u53::u54::u55::u56::u57::u58::u59::u60::u61::u62::u63::u64::u65::u66::u67::u68::u69::u70::u71::u72::u73::u74::u75::u76::u77::u78::u79::u80::u81::u82::u83::u84::u85::u86::u87::u88::u89::u90::u91::u92::u93::u94::u95::u96::u97::u98::u99::u100::u101::u102::u103::u104::u105::u106::u107::u108::u109::u110::u111::u112::u113::u114::u115::u116::u117::u118::u119::u120::u121::u122::u123::[]).toArray,[]⟩ W:=by
 have HQ:=aA hQ;have HQ6:=aA q;have D0:=aA d0;have H7:=aA x7;have H8:=aA x8;have IH:=aA ih;have IV:=aA iv;have LH:=aA lh;have LV:=aA lv;clear hQ q d0 x7 x8 ih iv lh lv;unfold Yc
 conv=>arg 2; whnf
 have nb6:∀ i,i<11->[57,58,59,60,61,62,63,64,65,10,10].getD i 0≠6:=by decide
 have nb7:∀ i,i<11->[57,58,59,60,61,62,63,64,65,10,10].getD i 0≠7:=by decide
 have nb8:∀ i,i<11->[57,58,59,60,61,62,63,64,65,10,10].getD i 0≠8:=by decide
 refine Rg.sG 11 9 10 8 (fun i=>[57,58,59,60,61,62,63,64,65,10,10].getD i 0) (fun i=>if i=7 then 8 else 11) (acP W.heap.size bq b7 b8 z0 z1 z2 z3 z4 t1 t2 i1 i2 h1 h2 h3 g1 g2 g3 has vals) 43 #[U V 0,U V 0,U V 0,U V 0,U V 0,ah X 0 0,ah X 0 0] (fun v=>match v with | aH c=>c | _=>#[]) (by kernel_rfl) (by kernel_rfl) rfl (by decide) (by decide) (by decide) (by decide) (by decide) (by decide) (by decide) (fun i j hi hj h1 h2 h=>(by decide:∀ i,i<11->∀ j,j<11->i≠10->j≠10->[57,58,59,60,61,62,63,64,65,10,10].getD i 0=[57,58,59,60,61,62,63,64,65,10,10].getD j 0->i=j) i hi j hj h1 h2 h) (fun i hi=>(by decide:∀ i,i<11->[57,58,59,60,61,62,63,64,65,10,10].getD i 0<124) i hi) ?_ ?_ ?_ ?_ ?_ ?_
 ·intro i v x x' hi h hb;rcases (by omega:i=0\/i=1\/i=2\/i=3\/i=4\/i=5\/i=6\/i=7\/i=8\/i=9\/i=10) with rfl|rfl|rfl|rfl|rfl|rfl|rfl|rfl|rfl|rfl|rfl
  ·exact h
  ·exact h
  ·exact h
  ·exact h
  ·exact h
  ·exact h
  ·exact h
  ·obtain⟨s,h1,h2⟩:=h; exact⟨s,h1,Bk.dh h2 hb⟩
  ·obtain⟨s,h1,h2⟩:=h; exact⟨s,h1,Bk.dh h2 hb⟩
  ·exact h
  ·exact h
 ·intro o ho;cases ho;exact⟨⟨⟨9,.data⟩,by simp,rfl,rfl⟩,⟨⟨8,.data⟩,by simp,rfl,rfl⟩⟩
 ·intro i o hi Vt Ng ho a x hb seen K hK;clear HQ;rcases (by omega:i=0\/i=1\/i=2\/i=3\/i=4\/i=5\/i=6\/i=7\/i=8) with rfl|rfl|rfl|rfl|rfl|rfl|rfl|rfl|rfl
  ·cases ho;have e6:a.eval (aj 6)=O (ak ⟨bq,0,X⟩):=seen.kp 6 _ nb6 rfl;exact Rg.cZ rfl rfl (Rg.dJ a.eval _ 83 (aj 6) 0 rfl (by rw [e6]; simp [go_sem])) (hK _ x rfl (Y _ _))
  ·cases ho;have e57:a.eval (aj 57)=O (ak ⟨bq,0,X⟩):=seen.at_ ⟨0,.data⟩ (by simp) rfl (by decide) (by decide) (ay (by decide));have y0:=(HQ6.out.on hb).cell 0;simp only [Z,au] at y0;exact Rg.cZ rfl rfl (Rg.dR a.eval _ 3 (aj 57) rfl (by rw [e57]; simp [go_sem,y0])) (hK _ x rfl (Y _ _))
  ·cases ho;have e58:a.eval (aj 58)=U V z0:=seen.at_ ⟨1,.data⟩ (by simp) rfl (by decide) (by decide) (ay (by decide));exact Rg.gq rfl rfl (Rg.rF a.eval _ (aj 58) (.const (U V 1)) (.const (U V 7)) 3 9 rfl e58 rfl rfl rfl _ (fK Tryz.func9 rfl rfl _ _)) (aT z0 1 7 x (by omega) (by omega) (by omega) D0.out.1 D0.out.2) fun e w1 h=>by
    obtain⟨rfl,rfl⟩:=h;exact⟨_,rfl,hK _ _ rfl (Y _ _)⟩
  ·cases ho;have e7:a.eval (aj 7)=O (ak ⟨b7,0,X⟩):=seen.kp 7 _ nb7 rfl;obtain⟨y0,y1⟩:=(H7.out.on hb).cs2;exact Rg.cZ rfl rfl (Rg.dR a.eval _ 38 (aj 7) rfl (by rw [e7]; simp [go_sem,y0,y1])) (hK _ x rfl (Y _ _))
  ·cases ho;have e8:a.eval (aj 8)=O (ak ⟨b8,0,X⟩):=seen.kp 8 _ nb8 rfl;obtain⟨y0,y1⟩:=(H8.out.on hb).cs2;exact Rg.cZ rfl rfl (Rg.dR a.eval _ 38 (aj 8) rfl (by rw [e8]; simp [go_sem,y0,y1])) (hK _ x rfl (Y _ _))
  ·cases ho;have e6:a.eval (aj 6)=O (ak ⟨bq,0,X⟩):=seen.kp 6 _ nb6 rfl;exact Rg.cZ rfl rfl (Rg.dJ a.eval _ 83 (aj 6) 5 rfl (by rw [e6]; simp [go_sem])) (hK _ x rfl (Y _ _))
  ·cases ho;have e62:a.eval (aj 62)=O (ak ⟨bq,5,X⟩):=seen.at_ ⟨5,.data⟩ (by simp) rfl (by decide) (by decide) (ay (by decide));have y5:=(HQ6.out.on hb).cell 5;have y6:=(HQ6.out.on hb).cell 6;simp only [Z,au,aB] at y5 y6;exact Rg.cZ rfl rfl (Rg.dR a.eval _ 72 (aj 62) rfl (by rw [e62]; simp [go_sem,y5,y6])) (hK _ x rfl (Y _ _))
  ·cases ho;have e63:a.eval (aj 63)=aH #[ah h1 h2 h3,ah g1 g2 g3]:=seen.at_ ⟨6,.data⟩ (by simp) rfl (by decide) (by decide) (ay (by decide));exact Rg.gq rfl rfl (Rw.gY a.eval _ (aj 63) 72 23 rfl e63 rfl _ (fK Tryz.func23 rfl rfl _ _)) (Qd (ah h1 h2 h3) (ah g1 g2 g3) has vals x (IH.out.on hb) (IV.out.on hb) LH.out LV.out) fun e w1 h=>by
    obtain⟨v,rfl,q1,q2⟩:=h;obtain⟨a1,a2,hvv⟩:=(Row.dn q1).len;have q3:=dx q1 hb.size;rw [hvv] at q3;exact⟨_,rfl,hK _ _ ⟨(a1,_,a2),hvv,q3⟩ q2⟩
  ·cases ho;have e59:a.eval (aj 59)=U V (L z0 1 7):=seen.at_ ⟨2,.data⟩ (by simp) rfl (by decide) (by decide) (ay (by decide));have e60:a.eval (aj 60)=aH #[U V t1,U V t2]:=seen.at_ ⟨3,.data⟩ (by simp) rfl (by decide) (by decide) (ay (by decide));have e61:a.eval (aj 61)=aH #[U V i1,U V i2]:=seen.at_ ⟨4,.data⟩ (by simp) rfl (by decide) (by decide) (ay (by decide));have E64:=seen.at_ ⟨7,.data⟩ (by simp) rfl (by decide) (by decide) (aQ rfl);obtain⟨s,q0,q1⟩:=E64;have q0:a.eval (aj 64)=dK s:=q0;exact Rg.cZ rfl rfl (Rg.iM a.eval _ 43 #[(0,aj 59),(1,aj 60),(2,aj 61),(3,aj 64)] rfl (ps:=#[(0,U V (L z0 1 7)),(1,aH #[U V t1,U V t2]),(2,aH #[U V i1,U V i2]),(3,dK s)]) (by simp only [aP,aF,aR,e59,e60,e61,q0]) (by simp [go_sem])) (hK _ x ⟨s,rfl,q1⟩ (Y _ _))
 ·intro o ho a x K hK;cases ho;exact Rg.cZ rfl rfl (Rg.uG a.eval _ 43 rfl (by simp [go_sem])) hK
 ·intro o ho a x bb v D hc hD hb hA hC JU hbb jQ K hK;clear HQ;cases ho;obtain⟨⟨m1,m2,m3⟩,hv1,hv2⟩:=JU;subst hv1;obtain⟨x0,x1,x2,x3,x4,x5,x6⟩:=jQ.mP;obtain⟨f0,f1,f2,f3,f4,f5,f6⟩:=jQ.Zn;have hst:(Instr.storeAt 43 (O (ak ⟨bb,0,X⟩)) (aH #[U V (L z0 1 7),U V t1,U V t2,U V i1,U V i2,ah m1 m2 m3,ah X 0 0])).run Tryz.prog x=.ok () (((((((x.setCell ⟨bb,0,X⟩ (U V (L z0 1 7))).setCell ⟨bb,1,X⟩ (U V t1)).setCell ⟨bb,2,X⟩ (U V t2)).setCell ⟨bb,3,X⟩ (U V i1)).setCell ⟨bb,4,X⟩ (U V i2)).setCell ⟨bb,5,X⟩ (ah m1 m2 m3)).setCell ⟨bb,6,X⟩ (ah X 0 0)):=by simp [go_sem,x0,x1,x2,x3,x4,x5,x6,f0,f1,f2,f3,f4,f5,f6]
  have aaD:=dO (k:=6) (dO (k:=5) (dO (k:=4) (dO (k:=3) (dO (k:=2) (dO (k:=1) (dO (k:=0) jQ (U V (L z0 1 7))) (U V t1)) (U V t2)) (U V i1)) (U V i2)) (ah m1 m2 m3)) (ah X 0 0);have JV:But bb x (((((((x.setCell ⟨bb,0,X⟩ (U V (L z0 1 7))).setCell ⟨bb,1,X⟩ (U V t1)).setCell ⟨bb,2,X⟩ (U V t2)).setCell ⟨bb,3,X⟩ (U V i1)).setCell ⟨bb,4,X⟩ (U V i2)).setCell ⟨bb,5,X⟩ (ah m1 m2 m3)).setCell ⟨bb,6,X⟩ (ah X 0 0)):=(((((((dQ _ bb _ _).trans (dQ _ bb _ _)).trans (dQ _ bb _ _)).trans (dQ _ bb _ _)).trans (dQ _ bb _ _)).trans (dQ _ bb _ _)).trans (dQ _ bb _ _));refine Rg.fI 43 (aj 10) (aj 65) rfl rfl rfl rfl hA hC hst (hK _ (((((((hb.setCell (p:=⟨bb,0,X⟩) hbb _).setCell (p:=⟨bb,1,X⟩) hbb _).setCell (p:=⟨bb,2,X⟩) hbb _).setCell (p:=⟨bb,3,X⟩) hbb _).setCell (p:=⟨bb,4,X⟩) hbb _).setCell (p:=⟨bb,5,X⟩) hbb _).setCell (p:=⟨bb,6,X⟩) hbb _) (by simpa using aaD) ?_);exact fun j u hj hjA hjS hdj hnl hls h=>by
   rcases (by omega:j=0\/j=1\/j=2\/j=3\/j=4\/j=5\/j=6\/j=7\/j=8) with rfl|rfl|rfl|rfl|rfl|rfl|rfl|rfl|rfl
   ·have h2:u=O (ak ⟨bq,0,X⟩):=h; exact h2
   ·have h2:u=U V z0:=h; exact h2
   ·have h2:u=U V (L z0 1 7):=h; exact h2
   ·have h2:u=aH #[U V t1,U V t2]:=h; exact h2
   ·have h2:u=aH #[U V i1,U V i2]:=h; exact h2
   ·have h2:u=O (ak ⟨bq,5,X⟩):=h; exact h2
   ·have h2:u=aH #[ah h1 h2 h3,ah g1 g2 g3]:=h; exact h2
   ·exact absurd (hD ⟨8,.data⟩ (by simp) rfl) hnl
   ·obtain⟨s,h1,h2⟩:=h; exact⟨s,h1,JV.own h2 jQ (by decide)⟩
 ·intro a x bb v df sz kp gA gC hbb jQ JU hbel ⟨vs,hv⟩;obtain⟨⟨m1,m2,m3⟩,hv1,hv2⟩:=JU;subst hv1;have g10:a.tmps[10]?=ak (O (ak ⟨bb,0,X⟩)):=gA;have qF:∀ j,(j<10\/66<=j)->a.tmps[j]?=(u0::u1::u2::u3::u4::u5::O (ak ⟨bq,0,X⟩)::O (ak ⟨b7,0,X⟩)::O (ak ⟨b8,0,X⟩)::u9::u10::u11::u12::u13::u14::u15::u16::u17::u18::u19::u20::u21::u22::u23::u24::u25::u26::u27::u28::u29::u30::u31::u32::u33::u34::u35::u36::u37::u38::u39::u40::u41::u42::u43::u44::u45::u46::u47::u48::u49::u50::u51::u52::u53::u54::u55::u56::u57::u58::u59::u60::u61::u62::u63::u64::u65::u66::u67::u68::u69::u70::u71::u72::u73::u74::u75::u76::u77::u78::u79::u80::u81::u82::u83::u84::u85::u86::u87::u88::u89::u90::u91::u92::u93::u94::u95::u96::u97::u98::u99::u100::u101::u102::u103::u104::u105::u106::u107::u108::u109::u110::u111::u112::u113::u114::u115::u116::u117::u118::u119::u120::u121::u122::u123::[])[j]?:=fun j hj=>(kp j (fun i hi h=>by have:=(by decide:∀ i,i<11->10<=[57,58,59,60,61,62,63,64,65,10,10].getD i 0/\[57,58,59,60,61,62,63,64,65,10,10].getD i 0<66) i hi; omega)).trans Z;obtain⟨mid,hmid,rfl⟩:=Rg.fQ 10 56 df sz (by simp) qF
  match mid,hmid with
  | v10::v11::v12::v13::v14::v15::v16::v17::v18::v19::v20::v21::v22::v23::v24::v25::v26::v27::v28::v29::v30::v31::v32::v33::v34::v35::v36::v37::v38::v39::v40::v41::v42::v43::v44::v45::v46::v47::v48::v49::v50::v51::v52::v53::v54::v55::v56::v57::v58::v59::v60::v61::v62::v63::v64::v65::[],_ =>
   obtain rfl:v10=O (ak ⟨bb,0,X⟩):=J g10;obtain rfl:v11=u11:=J (kp 11 (fun i hi h=>(by decide:∀ i,i<11->[57,58,59,60,61,62,63,64,65,10,10].getD i 0≠11) i hi h));obtain rfl:v12=u12:=J (kp 12 (fun i hi h=>(by decide:∀ i,i<11->[57,58,59,60,61,62,63,64,65,10,10].getD i 0≠12) i hi h));obtain rfl:v13=u13:=J (kp 13 (fun i hi h=>(by decide:∀ i,i<11->[57,58,59,60,61,62,63,64,65,10,10].getD i 0≠13) i hi h));obtain rfl:v14=u14:=J (kp 14 (fun i hi h=>(by decide:∀ i,i<11->[57,58,59,60,61,62,63,64,65,10,10].getD i 0≠14) i hi h));obtain rfl:v15=u15:=J (kp 15 (fun i hi h=>(by decide:∀ i,i<11->[57,58,59,60,61,62,63,64,65,10,10].getD i 0≠15) i hi h));obtain rfl:v16=u16:=J (kp 16 (fun i hi h=>(by decide:∀ i,i<11->[57,58,59,60,61,62,63,64,65,10,10].getD i 0≠16) i hi h));obtain rfl:v17=u17:=J (kp 17 (fun i hi h=>(by decide:∀ i,i<11->[57,58,59,60,61,62,63,64,65,10,10].getD i 0≠17) i hi h));obtain rfl:v18=u18:=J (kp 18 (fun i hi h=>(by decide:∀ i,i<11->[57,58,59,60,61,62,63,64,65,10,10].getD i 0≠18) i hi h));obtain rfl:v19=u19:=J (kp 19 (fun i hi h=>(by decide:∀ i,i<11->[57,58,59,60,61,62,63,64,65,10,10].getD i 0≠19) i hi h));obtain rfl:v20=u20:=J (kp 20 (fun i hi h=>(by decide:∀ i,i<11->[57,58,59,60,61,62,63,64,65,10,10].getD i 0≠20) i hi h));obtain rfl:v21=u21:=J (kp 21 (fun i hi h=>(by decide:∀ i,i<11->[57,58,59,60,61,62,63,64,65,10,10].getD i 0≠21) i hi h));obtain rfl:v22=u22:=J (kp 22 (fun i hi h=>(by decide:∀ i,i<11->[57,58,59,60,61,62,63,64,65,10,10].getD i 0≠22) i hi h));obtain rfl:v23=u23:=J (kp 23 (fun i hi h=>(by decide:∀ i,i<11->[57,58,59,60,61,62,63,64,65,10,10].getD i 0≠23) i hi h));obtain rfl:v24=u24:=J (kp 24 (fun i hi h=>(by decide:∀ i,i<11->[57,58,59,60,61,62,63,64,65,10,10].getD i 0≠24) i hi h));obtain rfl:v25=u25:=J (kp 25 (fun i hi h=>(by decide:∀ i,i<11->[57,58,59,60,61,62,63,64,65,10,10].getD i 0≠25) i hi h));obtain rfl:v26=u26:=J (kp 26 (fun i hi h=>(by decide:∀ i,i<11->[57,58,59,60,61,62,63,64,65,10,10].getD i 0≠26) i hi h));obtain rfl:v27=u27:=J (kp 27 (fun i hi h=>(by decide:∀ i,i<11->[57,58,59,60,61,62,63,64,65,10,10].getD i 0≠27) i hi h));obtain rfl:v28=u28:=J (kp 28 (fun i hi h=>(by decide:∀ i,i<11->[57,58,59,60,61,62,63,64,65,10,10].getD i 0≠28) i hi h));obtain rfl:v29=u29:=J (kp 29 (fun i hi h=>(by decide:∀ i,i<11->[57,58,59,60,61,62,63,64,65,10,10].getD i 0≠29) i hi h));obtain rfl:v30=u30:=J (kp 30 (fun i hi h=>(by decide:∀ i,i<11->[57,58,59,60,61,62,63,64,65,10,10].getD i 0≠30) i hi h));obtain rfl:v31=u31:=J (kp 31 (fun i hi h=>(by decide:∀ i,i<11->[57,58,59,60,61,62,63,64,65,10,10].getD i 0≠31) i hi h));obtain rfl:v32=u32:=J (kp 32 (fun i hi h=>(by decide:∀ i,i<11->[57,58,59,60,61,62,63,64,65,10,10].getD i 0≠32) i hi h));obtain rfl:v33=u33:=J (kp 33 (fun i hi h=>(by decide:∀ i,i<11->[57,58,59,60,61,62,63,64,65,10,10].getD i 0≠33) i hi h));obtain rfl:v34=u34:=J (kp 34 (fun i hi h=>(by decide:∀ i,i<11->[57,58,59,60,61,62,63,64,65,10,10].getD i 0≠34) i hi h));obtain rfl:v35=u35:=J (kp 35 (fun i hi h=>(by decide:∀ i,i<11->[57,58,59,60,61,62,63,64,65,10,10].getD i 0≠35) i hi h));obtain rfl:v36=u36:=J (kp 36 (fun i hi h=>(by decide:∀ i,i<11->[57,58,59,60,61,62,63,64,65,10,10].getD i 0≠36) i hi h));obtain rfl:v37=u37:=J (kp 37 (fun i hi h=>(by decide:∀ i,i<11->[57,58,59,60,61,62,63,64,65,10,10].getD i 0≠37) i hi h));obtain rfl:v38=u38:=J (kp 38 (fun i hi h=>(by decide:∀ i,i<11->[57,58,59,60,61,62,63,64,65,10,10].getD i 0≠38) i hi h));obtain rfl:v39=u39:=J (kp 39 (fun i hi h=>(by decide:∀ i,i<11->[57,58,59,60,61,62,63,64,65,10,10].getD i 0≠39) i hi h));obtain rfl:v40=u40:=J (kp 40 (fun i hi h=>(by decide:∀ i,i<11->[57,58,59,60,61,62,63,64,65,10,10].getD i 0≠40) i hi h));obtain rfl:v41=u41:=J (kp 41 (fun i hi h=>(by decide:∀ i,i<11->[57,58,59,60,61,62,63,64,65,10,10].getD i 0≠41) i hi h));obtain rfl:v42=u42:=J (kp 42 (fun i hi h=>(by decide:∀ i,i<11->[57,58,59,60,61,62,63,64,65,10,10].getD i 0≠42) i hi h));obtain rfl:v43=u43:=J (kp 43 (fun i hi h=>(by decide:∀ i,i<11->[57,58,59,60,61,62,63,64,65,10,10].getD i 0≠43) i hi h));obtain rfl:v44=u44:=J (kp 44 (fun i hi h=>(by decide:∀ i,i<11->[57,58,59,60,61,62,63,64,65,10,10].getD i 0≠44) i hi h));obtain rfl:v45=u45:=J (kp 45 (fun i hi h=>(by decide:∀ i,i<11->[57,58,59,60,61,62,63,64,65,10,10].getD i 0≠45) i hi h));obtain rfl:v46=u46:=J (kp 46 (fun i hi h=>(by decide:∀ i,i<11->[57,58,59,60,61,62,63,64,65,10,10].getD i 0≠46) i hi h));obtain rfl:v47=u47:=J (kp 47 (fun i hi h=>(by decide:∀ i,i<11->[57,58,59,60,61,62,63,64,65,10,10].getD i 0≠47) i hi h));obtain rfl:v48=u48:=J (kp 48 (fun i hi h=>(by decide:∀ i,i<11->[57,58,59,60,61,62,63,64,65,10,10].getD i 0≠48) i hi h));obtain rfl:v49=u49:=J (kp 49 (fun i hi h=>(by decide:∀ i,i<11->[57,58,59,60,61,62,63,64,65,10,10].getD i 0≠49) i hi h));obtain rfl:v50=u50:=J (kp 50 (fun i hi h=>(by decide:∀ i,i<11->[57,58,59,60,61,62,63,64,65,10,10].getD i 0≠50) i hi h));obtain rfl:v51=u51:=J (kp 51 (fun i hi h=>(by decide:∀ i,i<11->[57,58,59,60,61,62,63,64,65,10,10].getD i 0≠51) i hi h));obtain rfl:v52=u52:=J (kp 52 (fun i hi h=>(by decide:∀ i,i<11->[57,58,59,60,61,62,63,64,65,10,10].getD i 0≠52) i hi h));obtain rfl:v53=u53:=J (kp 53 (fun i hi h=>(by decide:∀ i,i<11->[57,58,59,60,61,62,63,64,65,10,10].getD i 0≠53) i hi h));obtain rfl:v54=u54:=J (kp 54 (fun i hi h=>(by decide:∀ i,i<11->[57,58,59,60,61,62,63,64,65,10,10].getD i 0≠54) i hi h));obtain rfl:v55=u55:=J (kp 55 (fun i hi h=>(by decide:∀ i,i<11->[57,58,59,60,61,62,63,64,65,10,10].getD i 0≠55) i hi h));obtain rfl:v56=u56:=J (kp 56 (fun i hi h=>(by decide:∀ i,i<11->[57,58,59,60,61,62,63,64,65,10,10].getD i 0≠56) i hi h));exact HQ.out x bb _ _ _ _ _ _ _ _ _ m1 m2 m3 hbb jQ hv2 hbel
end Av
end Go.Proofs.YtkcfgbddlpomgaaGreat
