/-
  CarryWant's loop: do. Conditions as told.
-/
import Derived.Test.YtkcfgbddlpomgaaGreatOQ038
import Derived.Test.YtkcfgbddlpomgaaGreatOQ040
set_option maxRecDepth 100000
set_option maxHeartbeats 64000000
open _root_.Bool renaming false->aD,true->aY,and_eq_true->bJ,eq_iff_iff->bK
open Go.IntKind renaming i64->aN
open Go.Lib renaming hid->aj
open Go.Operand renaming tmp->aV
open Go.Proofs.YtkcfgbddlpomgaaGreat.Av renaming dY->X
open Go.Proofs.YtkcfgbddlpomgaaGreat.Sb renaming jI->Y
open Go.RowKit.Below renaming refl->aH
open Go.Value renaming slice->J,pointer->U,int->aM,agg->bN
open _root_.List renaming any_eq_true->L,getElem?_eq_some_iff->O,mem_iff_getElem?->V,mem_of_getElem?->ah,length_append->ak,mem_singleton->au,mem_append->aA,mem_map->aB,getElem?_toArray->aF,filter_append->aI,getElem?_map->aJ,filter_congr->aK,getElem?_take_of_lt->aO,getElem?_cons_zero->aP,getElem?_cons_succ->aQ,map_toArray->aR,filter_cons->aS,singleton_append->aU,take_append_drop->aW,pairwise_append->aX,filter_eq_self->aZ,map_cons->bf,getElem?_drop->bg,range->bF,map_nil->bH,length_take->bI,mem_filter->bL,mem_cons->bM
open _root_.Nat renaming le_succ->aL,le_trans->aT
open _root_.Option renaming some->Z,none->aC
open _root_.Or renaming inr->aG,inl->bA
open Prod.mk renaming injEq->ay
namespace Go.Proofs.YtkcfgbddlpomgaaGreat
namespace Ca
open Go.RowKit Go.Sort Rw YtkcfgbddlpomgaaGreat.Nm Pr Bk Av Rl Sb Fl
noncomputable def aja:Code:=((Tryz.f6.body.bind (jr 0)).getD .skip)
theorem agB (Q:Exit->Act->World->Prop) (W:World) (f:Int) (iA:Option Addr) (tn tc:Nat) (tl:List Int) (u0 u1 u2 u3 u4 u5 u6 u7 u8 u9 u10 u11 u12 u13 u15 u16 u17 u18 u19 u20 u21 u23 u24 u25 u26 u27 u28 u29 u30 u31 u32 u33 u34 u35 u36 u37 u38 u39 u40 u41 u42 u43 u44 u45 u46 u47 u48 u49 u50 u51 u52 u53 u54 u55 u56 u57 u58 u59 u60 u61 u62 u63 u64 u65 u66 u67 u68 u69 u70 u71 u72 u73 u74 u75 u76 u80 u81 u82 u83 u84 u85 u86 u87 u88 u89 u90 u91 u92 u93 u94 u95 u96 u97 u98 u99 u100 u101 u102 u103 u104 u105 u106 u107 u108 u109 u110 u111 u112 u113 u114 u115 u116 u117 u118 u119 u120 u121 u122 u123 u124 u125 u126 u127 u128 u129 u130 u131 u132 u133 u134 u135 u136 u137 u138 u139 u140 u141 u142 u143 u144 u145 u146 u147 u148 u149 u150 u151 u152 u153 u154 u155 u156 u157 u158 u159 u160 u161:Value)
  (hr:qI W (J iA tn tc) tl) (hl:tl.length=tn) (hb:tn<=1000)
  (hQ:∀ (wr:World) (v24 v79 v80 v81 v82 v83 v84 v85 v86 v87 v88 v89:Value),Below W.heap.size W wr->Q .normal ⟨(u0::u1::u2::u3::u4::u5::u6::u7::u8::u9::u10::u11::u12::u13::aM aN f::u15::u16::u17::u18::u19::u20::u21::.bool (tl.any fun x=>x == f)::u23::v24::u25::u26::u27::u28::u29::u30::u31::u32::u33::u34::u35::u36::u37::u38::u39::u40::u41::u42::u43::u44::u45::u46::u47::u48::u49::u50::u51::u52::u53::u54::u55::u56::u57::u58::u59::u60::u61::u62::u63::u64::u65::u66::u67::u68::u69::u70::u71::u72::u73::u74::u75::u76::J iA tn tc::aM aN (tn:Int)::v79::v80::v81::v82::v83::v84::v85::v86::v87::v88::v89::u90::u91::u92::u93::u94::u95::u96::u97::u98::u99::u100::u101::u102::u103::u104::u105::u106::u107::u108::u109::u110::u111::u112::u113::u114::u115::u116::u117::u118::u119::u120::u121::u122::u123::u124::u125::u126::u127::u128::u129::u130::u131::u132::u133::u134::u135::u136::u137::u138::u139::u140::u141::u142::u143::u144::u145::u146::u147::u148::u149::u150::u151::u152::u153::u154::u155::u156::u157::u158::u159::u160::u161::[]).toArray,[]⟩ wr) :
  Code.wp Tryz.prog aja Q ⟨(u0::u1::u2::u3::u4::u5::u6::u7::u8::u9::u10::u11::u12::u13::aM aN f::u15::u16::u17::u18::u19::u20::u21::.bool aD::u23::u24::u25::u26::u27::u28::u29::u30::u31::u32::u33::u34::u35::u36::u37::u38::u39::u40::u41::u42::u43::u44::u45::u46::u47::u48::u49::u50::u51::u52::u53::u54::u55::u56::u57::u58::u59::u60::u61::u62::u63::u64::u65::u66::u67::u68::u69::u70::u71::u72::u73::u74::u75::u76::J iA tn tc::aM aN (tn:Int)::aM aN 0::u80::u81::u82::u83::u84::u85::u86::u87::u88::u89::u90::u91::u92::u93::u94::u95::u96::u97::u98::u99::u100::u101::u102::u103::u104::u105::u106::u107::u108::u109::u110::u111::u112::u113::u114::u115::u116::u117::u118::u119::u120::u121::u122::u123::u124::u125::u126::u127::u128::u129::u130::u131::u132::u133::u134::u135::u136::u137::u138::u139::u140::u141::u142::u143::u144::u145::u146::u147::u148::u149::u150::u151::u152::u153::u154::u155::u156::u157::u158::u159::u160::u161::[]).toArray,[]⟩ W:=by
 have HQ:=aj hQ;have HR:=aj hr;have HL:=aj hl;clear hQ hr hl
 conv=>arg 2; whnf
 go_wp2
 go_loopw [22,79] (fun v i wr=>∃ k:Nat,k<=tn/\i=aM aN k/\v=.bool ((tl.take k).any fun x=>x == f)/\Below W.heap.size W wr) (fun _ i _=>tn-(intOf i).toNat)
 case atStart=>exact⟨0,Nat.zero_le _,rfl,rfl,aH _ _⟩
 case round =>
  obtain⟨k,hk,rfl,rfl,hbe⟩:=hrel;have BE:=aj hbe;clear hbe;by_cases hlt:k<tn
  ·obtain⟨y,hy⟩:∃ y,tl[k]?=Z y:=⟨_,List.getElem?_eq_getElem (by rw [HL.out]; exact hlt)⟩;obtain⟨p,ix,_,px⟩:=nC Nm.Hl HR.out rfl HL.out hy;have p0:wr.cell? p=Z (aM aN y):=by simpa [Addr.add] using px wr BE.out 0 _ rfl
   have ix:∀ w,(Instr.indexAt 25 (J iA tn tc) (aM aN k)).run Tryz.prog w=.ok (U (Z p)) w:=ix;have AS:=aj (any_succ (f:=fun x:Int=>x == f) hy);obtain⟨r0,hr0⟩:∃ r,((tl.take k).any fun x=>x == f)=r:=⟨_,rfl⟩;obtain⟨r,hr⟩:∃ r,(y == f)=r:=⟨_,rfl⟩;have hw3:IntKind.i64.wrap ((k:Int)+1)=(k:Int)+1:=IntWalk.i64_in _ (by omega);rw [hr0];rw [hr0] at AS;have AT:=aj (show (tl.take (k+1)).any (fun x=>x == f)=(r0 || r) from by rw [AS.out,<- hr]);clear px hy hr0 AS;cases r0
   ·go_wp2
    go_roundw
    case rel=>exact⟨k+1,by omega,by go_num,by rw [AT.out]; rfl,BE.out⟩
    case measure=>simp [intOf]; omega
   ·go_wp2
    go_roundw
    case rel=>exact⟨k+1,by omega,by go_num,by rw [AT.out]; rfl,BE.out⟩
    case measure=>simp [intOf]; omega
  ·obtain rfl:tn=k:=by omega
   have e:tl.take tn=tl:=List.take_of_length_le (by have:=HL.out; omega);rw [e];clear e;have HF:=aj (fun v24 v79 v80 v81 v82 v83 v84 v85 v86 v87 v88 v89=>HQ.out wr v24 v79 v80 v81 v82 v83 v84 v85 v86 v87 v88 v89 BE.out);clear HQ;go_wp2;exact HF.out _ _ _ _ _ _ _ _ _ _ _ _
end Ca
namespace Fl
open Go.RowKit Go.Sort Rw YtkcfgbddlpomgaaGreat.Nm Pr Bk Av Rl Sb
structure agC (b:Br) (f:Int) (p:List C5):Prop where
 few:Kw b
 uY:wL b
 ok:jZ b
 ls:b.seen.length<=899
 la:b.dQ.length<=899
 lo:b.ent.length+b.own.length<=900
 pe:∀ e∈b.ent,dW e.p
 po:∀ o∈b.own,dW o.p
 pp:dW p
 co:jS b.near f=aY
 rp:Wr.jg p=aY
end Fl
namespace Sb
open Go.RowKit Go.Sort Rw YtkcfgbddlpomgaaGreat.Nm Pr Bk Av Rl
theorem Ck {m:List En} (hr:iB m) {i j:Nat} {x y:En} (hx:m[i]?=Z x) (hy:m[j]?=Z y) (h:eD x=eD y):i=j:=by
 rcases Nat.lt_trichotomy i j with q|q|q
 ·have:=(kV x y).2 (yP hr q hx hy);rw [h,rO] at this;cases this
 ·exact q
 ·have:=(kV y x).2 (yP hr q hy hx);rw [h,rO] at this;cases this
theorem RG {m:List En} (hr:iB m) {e:En} (he:e∈m):uD m e.tree e.sub=Z e/\jo m e.tree e.sub=aY:=by
 have ft:=sU hr e.tree e.sub;have hk:eD e∈m.map eD:=aB.2 ⟨e,he,rfl⟩;have ht:jo m e.tree e.sub=aY:=by
  cases h:jo m e.tree e.sub with
  | true=>rfl
  | false =>
   rw [h,if_neg (by simp)] at ft;rcases lG (m.map eD) (eD e) with q|⟨k,q,r⟩
   ·exfalso;obtain⟨j,hj⟩:=V.1 hk;have:∀ l:List (eT×eT),iJ l (eD e)=-1->eD e ∉ l:=by
     intro l
     induction l with
     | nil=>intro _ h; simp at h
     | cons a l ih =>
      intro h2 h3;rw [iJ] at h2
      split at h2
      ·cases h2
      ·rename_i hne
       split at h2
       ·rename_i h4
        rcases bM.1 h3 with h5|h5
        ·exact hne h5.symm
        ·exact ih h4 h5
       ·rename_i h4
        rcases lG l (eD e) with h5|⟨k,h5,_⟩
        ·exact h4 h5
        ·rw [h5] at h2; omega
    exact this _ q hk
   ·rw [show iJ (m.map eD) (e.tree,e.sub)=iJ (m.map eD) (eD e) from rfl,q] at ft;omega
 obtain⟨e',h1,h2,h3⟩:=sj ht;obtain⟨j,hj⟩:=V.1 he;have hij:=Ck hr h1 hj h2;rw [hij,hj] at h1;obtain rfl:=Option.some.inj h1;exact⟨h3,ht⟩
theorem RI {m:List En} {t s:eT} (h:∀ e∈m,eD e≠(t,s)):uD m t s=aC:=by
 unfold uD;cases hm:m[eu (m.map eD) (t,s)]? with
 | none=>rfl
 | some e =>
  simp only;rw [if_neg (h e (ah hm))]
theorem Mr {m:List En} {t s:eT} (h:∀ e∈m,eD e≠(t,s)):jo m t s=aD:=by
 unfold jo;cases hm:m[eu (m.map eD) (t,s)]? with
 | none=>rfl
 | some e=>exact decide_eq_false (h e (ah hm))
theorem ZF {m:List En} (hr:iB m) {j:Nat} {x:En} (hx:m[j]?=Z x):∀ y∈cutAt m j,eD y≠eD x:=by
 intro y hy h;unfold cutAt at hy;rcases aA.1 hy with q|q
 ·obtain⟨i,hi⟩:=V.1 q;have hl:=(O.1 hi).1;rw [bI] at hl;rw [aO (by omega)] at hi;have:=Ck hr hi hx h;omega
 ·obtain⟨i,hi⟩:=V.1 q;rw [bg] at hi;have:=Ck hr hi hx h;omega
theorem RJ {l:List En} (hr:iB l) (x:En) (hn:∀ y∈l,eD y≠eD x):iB (fV l (eu (l.map eD) (eD x)) x):=by
 unfold fV;have lo:∀ y∈l.take (eu (l.map eD) (eD x)),wY y x<0:=by
  intro y hy;obtain⟨i,hi⟩:=V.1 hy;have hl:=(O.1 hi).1;rw [bI] at hl;rw [aO (by omega)] at hi;exact (kV y x).1 (o8 (l.map eD) (eD x) i (eD y) (by omega) (by rw [aJ,hi]; rfl))
 have hi:∀ y∈l.drop (eu (l.map eD) (eD x)),wY x y<0:=by
  intro y hy;obtain⟨i,hi⟩:=V.1 hy;rw [bg] at hi;have h1:=uj hr (eD x) (Nat.le_add_right _ i) hi;have h2:=hn y (ah hi);rw [qB];have h3:¬ (wY y x<0):=fun q=>by rw [(kV y x).2 q] at h1; cases h1
  rw [qB] at h3;rcases lX x.tree y.tree with q|q|q
  ·exact bA q
  ·refine aG ⟨q,?_⟩;rcases lX x.sub y.sub with r|r|r
   ·exact r
   ·exact absurd (Prod.ext q.symm r.symm) h2
   ·exact absurd (aG ⟨q.symm,r⟩) h3
  ·exact absurd (bA q) h3
 rw [List.append_assoc];show List.Pairwise (fun x y=>wY x y<0) _;rw [aX];refine⟨hr.sublist (List.take_sublist _ _),?_,fun a ha b hb=>?_⟩
 ·rw [aU,List.pairwise_cons];exact⟨fun b hb=>hi b hb,hr.sublist (List.drop_sublist _ _)⟩
 ·rw [aU,bM] at hb;rcases hb with rfl|hb
  ·exact lo a ha
  ·exact AO _ _ _ (lo a ha) (hi b hb)
theorem RO {b:Br} (hr:iB b.ent) (e:En) (hn:∀ y∈b.ent,eD y≠eD e) :
  (gD b.dQ e.tree=aC/\fG b e=(b,aD))\/(∃ a,gD b.dQ e.tree=Z a/\e.from_=a.par/\a.par≠-1/\fG b e=(b,aD)) \/
  (∃ a u,gD b.dQ e.tree=Z a/\(e.from_=-1\/e.from_≠a.par)/\(u=aY->a.par≠-1)/\fG b e=({ b with ent:=fV b.ent (eu (b.ent.map eD) (eD e)) { e with up:=u } },u)/\u=(!(a.par == -1) && !eY b.ent e.tree e.p)):=by
 have ht:jo b.ent e.tree e.sub=aD:=Mr hn;rw [<- uU hr];unfold JY;cases hf:gD b.dQ e.tree with
 | none=>exact bA ⟨rfl,rfl⟩
 | some a =>
  right;simp only;rw [if_neg (by rw [ht]; simp)];by_cases hp:e.from_=a.par/\a.par≠-1
  ·rw [if_pos hp];exact bA ⟨a,rfl,hp.1,hp.2,rfl⟩
  ·rw [if_neg hp];refine aG ⟨a,_,rfl,?_,fun h=>?_,rfl,rfl⟩
   ·by_cases h1:e.from_=a.par
    ·left;rw [h1];exact Decidable.byContradiction fun q=>hp ⟨h1,q⟩
    ·exact aG h1
   ·intro q;rw [q] at h;simp at h
end Sb
namespace Fl
open Go.RowKit Go.Sort Rw YtkcfgbddlpomgaaGreat.Nm Pr Bk Av Rl Sb
structure Cut (b c:Br) (t:eT) (f:Int):Prop where
 dQ:agC c f []
 none_:gD c.dQ t=aC
 un:Bd c f t=(c,[])
 anew:lH c f t []=(c,[])
 len:c.dQ.length+1=b.dQ.length
 br:mZ c.ent t=[]
 seen:t∈c.seen
 mem:∀ e∈b.ent,e.tree≠t->e∈c.ent
end Fl
namespace Ca
open Go.RowKit Go.Sort Rw YtkcfgbddlpomgaaGreat.Nm Pr Bk Av Rl Sb Fl
def OZ (B:Nat) (_B0 bD _bP:Nat) (_me:Int) (_y1 _y2 _y3 _y4:Value) (o1:Option Addr) (n1 c1:Nat) (_lw:List pK) (h1:Option Addr) (h2 h3:Nat) (g1:Option Addr) (g2 g3:Nat) (has vals:List Int) (i:Nat) (v:Value) (x:World):Prop :=
 match i with
 | 0=>v=U (Z ⟨bD,5,aC⟩)
 | 1=>v=J o1 n1 c1
 | 2=>v=bN #[aM aN 29,aM aN 0]
 | 3=>v=bN #[J h1 h2 h3,J g1 g2 g3]
 | 4=>∃ sl:Sl,v=dU sl/\jP x B (dU sl) ((jJ has vals 7).map r5)
 | 5=>∃ sl:Sl,v=bN #[aM aN 29,aM aN 0,dU sl]/\jP x B (dU sl) ((jJ has vals 7).map r5)
 | 6=>∃ (g:Nat) (s:Sl),v=J (Z ⟨g,0,aC⟩) 1 1/\Ko x (J (Z ⟨g,0,aC⟩) 1 1) [((29,0,s):pK)]/\jP x B (dU s) ((jJ has vals 7).map r5)
 | _=>True
noncomputable def abw:Code:=((Tryz.f6.body.bind (eP 16)).getD .skip)
theorem Xc (B:Nat) (B0 bD bP:Nat) (me:Int) (y1 y2 y3 y4:Value) (o1:Option Addr) (n1 c1:Nat) (lw:List pK) (h1:Option Addr) (h2 h3:Nat) (g1:Option Addr) (g2 g3:Nat) (has vals:List Int) (i:Nat) (v:Value) (x x':World) (h:OZ B B0 bD bP me y1 y2 y3 y4 o1 n1 c1 lw h1 h2 h3 g1 g2 g3 has vals i v x) (hb:Below x.heap.size x x'):OZ B B0 bD bP me y1 y2 y3 y4 o1 n1 c1 lw h1 h2 h3 g1 g2 g3 has vals i v x':=by
 by_cases hi:i<7
 ·rcases (by omega:i=0\/i=1\/i=2\/i=3\/i=4\/i=5\/i=6) with rfl|rfl|rfl|rfl|rfl|rfl|rfl
  ·exact h
  ·exact h
  ·exact h
  ·exact h
  ·obtain⟨s,h1,h2⟩:=h; exact⟨s,h1,Bk.dG h2 hb⟩
  ·obtain⟨s,h1,h2⟩:=h; exact⟨s,h1,Bk.dG h2 hb⟩
  ·obtain⟨g,s,h1,h2,h3⟩:=h; exact⟨g,s,h1,h2.on hb,Bk.dG h3 hb⟩
 ·unfold OZ
  split <;> first | omega | trivial
theorem ajb (Q:Exit->Act->World->Prop) (W:World) (B0 bD bP:Nat) (me:Int) (y1 y2 y3 y4:Value) (o1:Option Addr) (n1 c1:Nat) (lw:List pK) (h1:Option Addr) (h2 h3:Nat) (g1:Option Addr) (g2 g3:Nat) (has vals:List Int) (u0 u1 u2 u3 u4 u5 u6 u7 u9 u10 u11 u12 u13 u14 u15 u16 u17 u18 u19 u20 u21 u22 u23 u24 u26 u27 u28 u29 u30 u31 u32 u33 u34 u35 u36 u37 u38 u39 u40 u41 u42 u43 u44 u45 u46 u47 u48 u49 u50 u51 u52 u53 u54 u55 u56 u57 u58 u59 u60 u61 u62 u63 u64 u65 u66 u67 u68 u69 u70 u71 u72 u73 u74 u75 u76 u77 u78 u79 u80 u81 u82 u83 u84 u85 u86 u87 u88 u89 u90 u91 u92 u93 u94 u95 u96 u97 u98 u99 u100 u101 u102 u103 u104 u105 u106 u107 u108 u109 u110 u111 u112 u113 u114 u115 u116 u117 u118 u119 u120 u121 u122 u123 u124 u125 u126 u127 u128 u129 u130 u131 u132 u133 u134 u135 u136 u137 u138 u139 u140 u141 u142 u143 u144 u145 u146 u147 u148 u149 u150 u151 u152 u153 u154 u155 u156 u157 u158 u159 u160 u161:Value)
  (hd:dN W bD #[aM aN me,y1,y2,y3,y4,J o1 n1 c1] 33) (xp:dN W bP #[J h1 h2 h3,J g1 g2 g3] 72) (ho:og W B0 (J o1 n1 c1) lw) (hlw:lw.length<=900) (hB0:B0<=W.heap.size) (ih:In.iC W (J h1 h2 h3) has) (iv:In.iC W (J g1 g2 g3) vals) (lh:has.length<=maxLen) (lv:vals.length<=maxLen)
  (hQ:∀ (y z x:World) (v92 v93 v94 v95 v96 v97 v98 v99 v100:Value) (p1:Option Addr) (p2 p3:Nat) (s:Sl),Below W.heap.size W y->Off (J o1 n1 c1).ownBlock y z->But bD z x->dN z bD #[aM aN me,y1,y2,y3,y4,J o1 n1 c1] 33->dN x bD #[aM aN me,y1,y2,y3,y4,J p1 p2 p3] 33->og x B0 (J p1 p2 p3) (lw++[((29,0,s):pK)])->jP x W.heap.size (dU s) ((jJ has vals 7).map r5)->(∀ B,B<=B0->B<=bD->Below B W x)->Q .normal ⟨(u0::u1::u2::u3::u4::u5::u6::u7::U (Z ⟨bP,0,aC⟩)::u9::u10::u11::u12::u13::u14::u15::u16::u17::u18::u19::u20::u21::u22::u23::u24::U (Z ⟨bD,0,aC⟩)::u26::u27::u28::u29::u30::u31::u32::u33::u34::u35::u36::u37::u38::u39::u40::u41::u42::u43::u44::u45::u46::u47::u48::u49::u50::u51::u52::u53::u54::u55::u56::u57::u58::u59::u60::u61::u62::u63::u64::u65::u66::u67::u68::u69::u70::u71::u72::u73::u74::u75::u76::u77::u78::u79::u80::u81::u82::u83::u84::u85::u86::u87::u88::u89::u90::u91::v92::v93::v94::v95::v96::v97::v98::v99::v100::u101::u102::u103::u104::u105::u106::u107::u108::u109::u110::u111::u112::u113::u114::u115::u116::u117::u118::u119::u120::u121::u122::u123::u124::u125::u126::u127::u128::u129::u130::u131::u132::u133::u134::u135::u136::u137::u138::u139::u140::u141::u142::u143::u144::u145::u146::u147::u148::u149::u150::u151::u152::u153::u154::u155::u156::u157::u158::u159::u160::u161::[]).toArray,[]⟩ x) :
  Code.wp Tryz.prog abw Q ⟨(u0::u1::u2::u3::u4::u5::u6::u7::U (Z ⟨bP,0,aC⟩)::u9::u10::u11::u12::u13::u14::u15::u16::u17::u18::u19::u20::u21::u22::u23::u24::U (Z ⟨bD,0,aC⟩)::u26::u27::u28::u29::u30::u31::u32::u33::u34::u35::u36::u37::u38::u39::u40::u41::u42::u43::u44::u45::u46::u47::u48::u49::u50::u51::u52::u53::u54::u55::u56::u57::u58::u59::u60::u61::u62::u63::u64::u65::u66::u67::u68::u69::u70::u71::u72::u73::u74::u75::u76::u77::u78::u79::u80::u81::u82::u83::u84::u85::u86::u87::u88::u89::u90::u91::u92::u93::u94::u95::u96::u97::u98::u99::u100::u101::u102::u103::u104::u105::u106::u107::u108::u109::u110::u111::u112::u113::u114::u115::u116::u117::u118::u119::u120::u121::u122::u123::u124::u125::u126::u127::u128::u129::u130::u131::u132::u133::u134::u135::u136::u137::u138::u139::u140::u141::u142::u143::u144::u145::u146::u147::u148::u149::u150::u151::u152::u153::u154::u155::u156::u157::u158::u159::u160::u161::[]).toArray,[]⟩ W:=by
 have HQ:=aj hQ;have HD:=aj hd;have HP:=aj xp;have HO:=aj ho;have LW:=aj hlw;have HB0:=aj hB0;have IH:=aj ih;have IV:=aj iv;have LH:=aj lh;have LV:=aj lv;clear hQ hd xp ho hlw hB0 ih iv lh lv;have iN:=Xc W.heap.size B0 bD bP me y1 y2 y3 y4 o1 n1 c1 lw h1 h2 h3 g1 g2 g3 has vals;unfold abw
 conv=>arg 2; whnf
 have nd:∀ j,(j<92\/99<=j)->∀ i,i<7->(fun i=>92+i) i≠j:=by
  intro j hj i hi h;simp only at h;omega
 refine Rg.fM 10 7 (fun i=>92+i) (fun _=>7) (OZ W.heap.size B0 bD bP me y1 y2 y3 y4 o1 n1 c1 lw h1 h2 h3 g1 g2 g3 has vals) (by kernel_rfl) (by kernel_rfl) rfl (by decide) (fun i j _ _ h=>by have h2:92+i=92+j:=h; omega) (fun i hi=>by show 92+i<162; omega) ?_ (fun _=>Rg.jq 14 (by kernel_rfl)) ?_ ?_
 ·intro i o hi ho a x D hnd hc hD hb seen K hK;clear HQ;rcases (by omega:i=0\/i=1\/i=2\/i=3\/i=4\/i=5\/i=6) with rfl|rfl|rfl|rfl|rfl|rfl|rfl
  ·cases ho;have e25:a.eval (aV 25)=U (Z ⟨bD,0,aC⟩):=seen.kp 25 _ (nd 25 (by omega)) rfl;exact Rg.dD rfl rfl (Rg.dX a.eval _ 33 (aV 25) 5 rfl (by rw [e25]; simp [go_sem])) (hK _ _ rfl (aH _ _) fun _ _ _ _ _ _ _ h=>h)
  ·cases ho;have e92:a.eval (aV 92)=U (Z ⟨bD,5,aC⟩):=seen.at_ ⟨0,.data⟩ (by simp) rfl (aG (by decide));have y5:=(HD.out.on hb).cell 5;simp only [aF,aP,aQ] at y5;exact Rg.dD rfl rfl (Rg.dZ a.eval _ 31 (aV 92) rfl (by rw [e92]; simp [go_sem,y5])) (hK _ _ rfl (aH _ _) fun _ _ _ _ _ _ _ h=>h)
  ·cases ho;exact Rg.dD rfl rfl (Rg.iW a.eval _ 38 #[(0,.const (aM aN 29))] rfl (ps:=#[(0,aM aN 29)]) (by simp only [aR,bf,bH]; rfl) (by simp [go_sem])) (hK _ _ rfl (aH _ _) fun _ _ _ _ _ _ _ h=>h)
  ·cases ho;have e8:a.eval (aV 8)=U (Z ⟨bP,0,aC⟩):=seen.kp 8 _ (nd 8 (by omega)) rfl;obtain⟨y0,y1⟩:=(HP.out.on hb).cs2;exact Rg.dD rfl rfl (Rg.dZ a.eval _ 72 (aV 8) rfl (by rw [e8]; simp [go_sem,y0,y1])) (hK _ _ rfl (aH _ _) fun _ _ _ _ _ _ _ h=>h)
  ·cases ho;have e95:a.eval (aV 95)=bN #[J h1 h2 h3,J g1 g2 g3]:=seen.at_ ⟨3,.data⟩ (by simp) rfl (aG (by decide));exact Rg.gH rfl rfl (Rw.iG a.eval _ (aV 95) 72 23 rfl e95 rfl _ (fT Tryz.func23 rfl rfl _ _)) (wG (J h1 h2 h3) (J g1 g2 g3) has vals x (IH.out.on hb) (IV.out.on hb) LH.out LV.out) fun e w1 h=>by
    obtain⟨v,rfl,q1,q2⟩:=h;obtain⟨a1,a2,hvv⟩:=(Row.dH q1).len;exact⟨_,rfl,hK _ _ ⟨(a1,_,a2),hvv,by rw [hvv] at q1; exact dJ q1 hb.size⟩ (q2.mono hb.size) fun j u _ _ _ _ _ h=>iN j u _ _ h q2⟩
  ·cases ho;have e94:a.eval (aV 94)=bN #[aM aN 29,aM aN 0]:=seen.at_ ⟨2,.data⟩ (by simp) rfl (aG (by decide));have E96:=seen.at_ ⟨4,.data⟩ (by simp) rfl (aG (by decide));obtain⟨s,q0,q1⟩:=E96;have q0:a.eval (aV 96)=dU s:=q0;exact Rg.dD rfl rfl (Rg.iW a.eval _ 61 #[(0,aV 94),(1,aV 96)] rfl (ps:=#[(0,bN #[aM aN 29,aM aN 0]),(1,dU s)]) (by simp only [aR,bf,bH,e94,q0]) (by simp [go_sem])) (hK _ x ⟨s,rfl,q1⟩ (aH _ _) fun _ _ _ _ _ _ _ h=>h)
  ·cases ho;have E97:=seen.at_ ⟨5,.data⟩ (by simp) rfl (aG (by decide));obtain⟨s,q0,q1⟩:=E97;have q0:a.eval (aV 97)=Kn (29,0,s):=q0;have NN:=fI x (.cells (qK (29,0,s)).toArray 61);have hl:=iD okW x [((29,0,s):pK)] 1 rfl (by simp) (qK (29,0,s)).toArray rfl;exact Rg.dD rfl rfl (Rg.iQ a.eval _ 31 1 #[(0,aV 97)] rfl (ps:=#[(0,Kn (29,0,s))]) (by simp only [aR,bf,bH,q0]) (by simp [go_sem])) (hK (J (Z ⟨x.heap.size,0,aC⟩) 1 1) (x.alloc (.cells (qK (29,0,s)).toArray 61)) ⟨x.heap.size,s,rfl,Row.dH hl,Bk.dG q1 NN⟩ (NN.mono hb.size) fun j u _ _ _ _ _ h=>iN j u _ _ h NN)
 ·intro kk o h1 h2 ho;rcases (by omega:kk=8\/kk=9) with rfl|rfl
  ·cases ho;exact⟨⟨7,.phase⟩,by simp,rfl,rfl⟩
  ·cases ho;exact⟨⟨8,.data⟩,by simp,rfl,rfl⟩
 ·intro a w' df sz kp ⟨vs,hv⟩ hb;have sz':a.tmps.size=162:=sz;have g25:a.tmps[25]?=Z (U (Z ⟨bD,0,aC⟩)):=(kp 25 (nd 25 (by omega))).trans rfl;have g93:a.tmps[93]?=Z (J o1 n1 c1):=by
   have h:vs 1=J o1 n1 c1:=(hv 1 (by omega)).2 (by decide);rw [<- h];exact (hv 1 (by omega)).1
  obtain⟨g,s,q1,q2,q3⟩:=(hv 6 (by omega)).2 (by decide);have g98:a.tmps[98]?=Z (J (Z ⟨g,0,aC⟩) 1 1):=((hv 6 (by omega)).1).trans (congrArg Z q1);have hO:=Bk.dG HO.out hb;have hD:=HD.out.on hb;obtain⟨v',w2,r,o',gr⟩:=gG okW B0 hO q2 (by have:=LW.out; omega) (by simp) (aT HB0.out hb.size) 31;have r:(Builtin.append_ #[31,31] 31 #[J o1 n1 c1,J (Z ⟨g,0,aC⟩) 1 1]).run Tryz.prog w'=.ok v' w2:=by simpa [EW] using r
  obtain⟨p1,p3,hp⟩:=(Row.dH o').len;obtain⟨p2,hp2⟩:∃ n,n=(lw++[((29,0,s):pK)]).length:=⟨_,rfl⟩
  replace hp:v'=J p1 p2 p3:=by rw [hp2]; exact hp
  subst hp;clear hp2;have hoff:=yR gr;have htag:=jL hO;have hD2:dN w2 bD #[aM aN me,y1,y2,y3,y4,J o1 n1 c1] 33:=(hoff.1 bD hD.lt (fun e=>by obtain⟨dd,hdd⟩:=htag bD e.symm; exact qN hdd hD (by decide) rfl)).trans hD;have c5:=hD2.cell 5;have f5:=hD2.fr 5;simp only [aF,aP,aQ] at c5;show Rg.fF _ _ _ 3 7 a w';simp only [Rg.fF];refine Rg.dD rfl rfl (Rg.gq a.eval _ (aV 93) (aV 98) 31 rfl (Rg.dK g93) (Rg.dK g98) r) ?_;show Go.wpOp _ _ _ 8 _ (a.put (Z 99) (J p1 p2 p3)) _;refine Rg.dD rfl rfl (Rg.dX _ _ 33 (aV 25) 5 rfl (v:=U (Z ⟨bD,5,aC⟩)) (by rw [Rg.dK ((Rg.get_put _ 99 _ 25 (by decide)).trans g25)]; simp [go_sem])) ?_;show Go.wpOp _ _ _ 9 _ ((a.put (Z 99) (J p1 p2 p3)).put (Z 100) (U (Z ⟨bD,5,aC⟩))) _;have k99:(a.put (Z 99) (J p1 p2 p3)).tmps[99]?=Z (J p1 p2 p3):=by simp [Act.put,sz']
  have k100:((a.put (Z 99) (J p1 p2 p3)).put (Z 100) (U (Z ⟨bD,5,aC⟩))).tmps[100]?=Z (U (Z ⟨bD,5,aC⟩)):=by simp [Act.put,sz']
  refine Rg.fP 31 (aV 100) (aV 99) rfl rfl rfl rfl (Rg.dK k100) (Rg.dK ((Rg.get_put _ 100 _ 99 (by decide)).trans k99)) (w':=w2.setCell ⟨bD,5,aC⟩ (J p1 p2 p3)) (by simp [go_sem,c5,f5]) ?_;have sI:∀ j,(j<92\/101<=j)->((a.put (Z 99) (J p1 p2 p3)).put (Z 100) (U (Z ⟨bD,5,aC⟩))).tmps[j]?=(u0::u1::u2::u3::u4::u5::u6::u7::U (Z ⟨bP,0,aC⟩)::u9::u10::u11::u12::u13::u14::u15::u16::u17::u18::u19::u20::u21::u22::u23::u24::U (Z ⟨bD,0,aC⟩)::u26::u27::u28::u29::u30::u31::u32::u33::u34::u35::u36::u37::u38::u39::u40::u41::u42::u43::u44::u45::u46::u47::u48::u49::u50::u51::u52::u53::u54::u55::u56::u57::u58::u59::u60::u61::u62::u63::u64::u65::u66::u67::u68::u69::u70::u71::u72::u73::u74::u75::u76::u77::u78::u79::u80::u81::u82::u83::u84::u85::u86::u87::u88::u89::u90::u91::u92::u93::u94::u95::u96::u97::u98::u99::u100::u101::u102::u103::u104::u105::u106::u107::u108::u109::u110::u111::u112::u113::u114::u115::u116::u117::u118::u119::u120::u121::u122::u123::u124::u125::u126::u127::u128::u129::u130::u131::u132::u133::u134::u135::u136::u137::u138::u139::u140::u141::u142::u143::u144::u145::u146::u147::u148::u149::u150::u151::u152::u153::u154::u155::u156::u157::u158::u159::u160::u161::[])[j]?:=fun j hj=>(Rg.get_put _ 100 _ j (by omega)).trans ((Rg.get_put _ 99 _ j (by omega)).trans ((kp j (nd j (by omega))).trans aF));obtain⟨mid,hmid,hfr⟩:=Rg.gF (a:=(a.put (Z 99) (J p1 p2 p3)).put (Z 100) (U (Z ⟨bD,5,aC⟩))) 92 9 df (by simp [Rg.size_put,sz']) (by simp) sI;show Q .normal ((a.put (Z 99) (J p1 p2 p3)).put (Z 100) (U (Z ⟨bD,5,aC⟩))) _;rw [hfr]
  match mid,hmid with
  | [v92,v93,v94,v95,v96,v97,v98,v99,v100],_ =>
   exact HQ.out w' w2 _ _ _ _ _ _ _ _ _ _ p1 p2 p3 s hb hoff (X w2 bD 5 _) hD2 (by simpa using dR (k:=5) hD2 (J p1 p2 p3)) ((X w2 bD 5 _).own o' hD2 (by decide)) ((X w2 bD 5 (J p1 p2 p3)).own (hoff.own q3 htag (by decide)) hD2 (by decide)) (fun B h1 h2=>((hb.mono (aT h1 HB0.out)).grown gr (by have:=hb.size; have:=HB0.out; omega) fun j hj=>aT h1 (hO.lt j hj).1).setCell (p:=⟨bD,5,aC⟩) h2 _)
end Ca
namespace Sb
open Go.RowKit Go.Sort Rw YtkcfgbddlpomgaaGreat.Nm Pr Bk Av Rl
end Sb
namespace Rt
open Go.RowKit Go.Sort Rw YtkcfgbddlpomgaaGreat.Nm Pr Bk Av Rl Sb
def ajc (b:Br) (p:List C5) (a:Ad):Bool:=!(a.par == -1) && !eY b.ent a.id p
def ajd (b:Br) (p:List C5) (k:Nat):List Ad:=(b.dQ.take k).filter fun a=>kH p a.p
def upK (b:Br) (p:List C5) (k:Nat):List Ad:=(ajd b p k).filter fun a=>ajc b p a
theorem Ms {m:List En} (hr:iB m) {j:Nat} {x:En} (hx:m[j]?=Z x):cutAt m j=m.filter fun y=>decide (eD y≠eD x):=by
 have hlt:=(O.1 hx).1;have e:m=m.take j++x::m.drop (j+1):=by
  conv=>lhs; rw [<- aW j m]
  rw [List.drop_eq_getElem_cons hlt,(O.1 hx).2]
 have hk:=ZF hr hx
 conv=>rhs; rw [e]
 rw [aI,List.filter_cons_of_neg (by simp)];unfold cutAt at hk ⊢;rw [aZ.2 fun y hy=>decide_eq_true (hk y (List.mem_append_left _ hy)),aZ.2 fun y hy=>decide_eq_true (hk y (List.mem_append_right _ hy))]
theorem Mt {c:Br} (hr:iB c.ent) (t x:eT) (f:Int):((∀ e∈c.ent,eD e≠(t,x))/\takeB c t x f=(c,[],aD))\/(∃ j e,c.ent[j]?=Z e/\eD e=(t,x)/\(e.from_=f->takeB c t x f=if e.up=aD then ({ c with ent:=cutAt c.ent j },[],aD) else ({ c with ent:=(gT t (cutAt c.ent j) (cutAt c.ent j).length).1 },(gT t (cutAt c.ent j) (cutAt c.ent j).length).2,aY))):=by
 have ft:=sU hr t x;by_cases ht:jo c.ent t x=aY
 ·right;obtain⟨e,h1,h2,h3⟩:=sj ht;rw [ht,if_pos rfl] at ft;refine⟨_,e,h1,h2,fun hf=>?_⟩;unfold takeB;rw [ft,Int.toNat_natCast,h1];simp only;rw [if_neg (show ¬ ((eu (c.ent.map eD) (t,x):Int)=-1) by omega),if_neg (by simp [hf])]
 ·left;rw [if_neg ht] at ft;refine⟨fun e he q=>ht ?_,?_⟩
  ·have:=(RG hr he).2;rw [show e.tree=t from congrArg Prod.fst q,show e.sub=x from congrArg Prod.snd q] at this;exact this
  ·unfold takeB;rw [ft]
   split
   ·rfl
   ·rw [if_pos rfl]
structure UK (b c:Br) (x:eT) (p:List C5) (k:Nat) (s:Br×List Ou):Prop where
 same:UnI c s.1 b.own
 rise:iB s.1.ent
 ent:s.1.ent=c.ent.filter fun e=>!(decide (e.sub=x) && decide (e.tree∈(b.dQ.take k).map Ad.id))
 out:s.2=(upK b p k).map fun a=>⟨a.par,4,a.id,x,[]⟩
end Rt
namespace Ca
open Go.RowKit Go.Sort Rw YtkcfgbddlpomgaaGreat.Nm Pr Bk Av Rl Sb Fl
def nE (e:En):eT×eT×List C5×Int:=(e.tree,e.sub,e.p,e.from_)
theorem JZ (t:eT) (s:List En×List En) (k:Nat):(gM t s k).1.map nE=s.1.map nE:=by
 unfold gM
 split
 ·rfl
 ·rename_i e he
  split
  ·rw [List.map_set];refine List.ext_getElem? fun j=>?_;rw [List.getElem?_set]
   split
   ·rename_i hj
    subst hj
    split
    ·rw [aJ,he]
     rfl
    ·rename_i h2
     rw [aJ,he] ;exact absurd (by rw [List.length_map]; exact (O.1 he).1) h2
   ·rfl
  ·rfl
theorem J2 (t:eT) (m:List En):∀ k,(gT t m k).1.map nE=m.map nE
 | 0=>rfl
 | k+1=>by rw [jH,JZ,J2 t m k]
theorem Xd {t:eT} {l:List An} {n:Int} {m m':List En} (h:∀ q,q∈m.map nE->q∈m'.map nE) (ha:m.any (IG t l n)=aY):m'.any (IG t l n)=aY:=by
 obtain⟨e,he,hh⟩:=L.1 ha;obtain⟨e',he',hq⟩:=aB.1 (h (nE e) (aB.2 ⟨e,he,rfl⟩));refine L.2 ⟨e',he',?_⟩;unfold nE at hq;simp only [ay] at hq;unfold IG at hh ⊢;rw [hq.1,hq.2.2.1,hq.2.2.2];exact hh
theorem J3 {b c:Br} (hn:c.near=b.near) (h:∀ q,q∈c.ent.map nE↔q∈b.ent.map nE) (t:eT) (l:List An):toB c t l=toB b t l:=by
 unfold toB;rw [hn];refine aK fun n _=>bK.2 ⟨Xd fun q=>(h q).1,Xd fun q=>(h q).2⟩
theorem filter_one {α:Type} [DecidableEq α] {l:List α} (hd:l.Nodup) {p q:α->Bool} (f:α) (h1:∀ x,p x=aY->q x=aY) (h2:∀ x,x≠f->q x=p x):(l.filter p).length<=(l.filter q).length/\(l.filter q).length<=(l.filter p).length+1:=by
 induction l with
 | nil=>simp
 | cons x l ih =>
  obtain⟨hx,hl⟩:=List.nodup_cons.1 hd;have ih:=ih hl;rw [aS,aS];by_cases e:x=f
  ·subst e;have heq:l.filter q=l.filter p:=aK fun y hy=>h2 y fun e=>hx (e ▸ hy);rw [heq];cases hp:p x
   ·cases q x <;> simp
   ·rw [h1 x hp]; simp
  ·rw [h2 x e];cases p x <;> simp [ih.1,ih.2]
structure Want (b c:Br) (t:eT) (p:List C5) (f:Int):Prop where
 near:c.near=b.near
 dQ:c.dQ=b.dQ
 own:c.own=b.own
 rise:iB c.ent
 mem:(c=b\/∃ e,e∈c.ent/\nE e=(t,(28,0),p,f)/\∀ y,y∈c.ent↔y=e\/y∈b.ent)
theorem J4 {b:Br} (h:qU b) (ks:∀ e∈b.ent,e.sub.1<=4) (t:eT) (p:List C5) (f:Int):Want b (fG b ⟨t,(28,0),p,f,aD⟩).1 t p f:=by
 have hn:∀ y∈b.ent,eD y≠eD (⟨t,(28,0),p,f,aD⟩:En):=fun y hy e=>by
  have h2:=ks y hy;have h3:y.sub=(28,0):=congrArg Prod.snd e;rw [h3] at h2;exact absurd h2 (by decide)
 rcases RO h.ok.ent ⟨t,(28,0),p,f,aD⟩ hn with⟨_,h2⟩|⟨_,_,_,_,h2⟩|⟨a,u,_,_,_,h2,_⟩
 ·rw [h2]; exact⟨rfl,rfl,rfl,h.ok.ent,bA rfl⟩
 ·rw [h2]; exact⟨rfl,rfl,rfl,h.ok.ent,bA rfl⟩
 ·rw [h2];refine⟨rfl,rfl,rfl,RJ h.ok.ent ({ (⟨t,(28,0),p,f,aD⟩:En) with up:=u }) hn,aG ⟨{ (⟨t,(28,0),p,f,aD⟩:En) with up:=u },(jE _ _ _ _).2 (bA rfl),rfl,fun y=>jE _ _ _ _⟩⟩
theorem Want.few {b c:Br} {t:eT} {p:List C5} {f:Int} (h:Want b c t p f) (hd:b.near.Nodup) (l:List An):(toB b t l).length<=(toB c t l).length/\(toB c t l).length<=(toB b t l).length+1:=by
 rcases h.mem with rfl|⟨e,he,hq,hm⟩
 ·exact⟨Nat.le_refl _,aL _⟩
 ·unfold toB;rw [h.near];refine filter_one hd f (fun n hn=>?_) fun n hn=>bK.2 ⟨fun hc=>?_,fun hc=>?_⟩
  ·obtain⟨y,hy,hh⟩:=L.1 hn;exact L.2 ⟨y,(hm y).2 (aG hy),hh⟩
  ·obtain⟨y,hy,hh⟩:=L.1 hc;rcases (hm y).1 hy with rfl|hy
   ·unfold nE at hq;simp only [ay] at hq;unfold IG at hh;rw [hq.2.2.2] at hh;simp only [bJ,decide_eq_true_eq] at hh;exact absurd hh.2.1.symm hn
   ·exact L.2 ⟨y,hy,hh⟩
  ·obtain⟨y,hy,hh⟩:=L.1 hc;exact L.2 ⟨y,(hm y).2 (aG hy),hh⟩
theorem Want.hit {b c:Br} {t:eT} {p:List C5} {f:Int} (h:Want b c t p f) (ks:∀ e∈b.ent,e.sub.1<=4) (hf:f∈b.near) (hi:uD c.ent t (28,0)≠aC) {l:List An} (hm:pR p l=aY):f∈toB c t l:=by
 rcases h.mem with rfl|⟨e,he,hq,_⟩
 ·refine absurd (RI fun y hy e=>?_) hi;have h2:=ks y hy;have h3:y.sub=(28,0):=congrArg Prod.snd e;rw [h3] at h2;exact absurd h2 (by decide)
 ·unfold nE at hq;simp only [ay] at hq;unfold toB;rw [h.near];refine bL.2 ⟨hf,L.2 ⟨e,he,?_⟩⟩;unfold IG;simp [hq.1,hq.2.2.1,hq.2.2.2,hm]
theorem Want.back {b c:Br} {t:eT} {p:List C5} {f:Int} (h:Want b c t p f) (ks:∀ e∈b.ent,e.sub.1<=4) (l:List An):toB (takeB c t (28,0) f).1 t l=toB b t l:=by
 have hno:∀ y∈b.ent,eD y≠(t,((28,0):eT)):=fun y hy e=>by
  have h2:=ks y hy;have h3:y.sub=(28,0):=congrArg Prod.snd e;rw [h3] at h2;exact absurd h2 (by decide)
 rcases Go.Proofs.YtkcfgbddlpomgaaGreat.Rt.Mt h.rise t (28,0) f with⟨h1,h2⟩|⟨j,e,hj,hk,h2⟩
 ·rw [h2];rcases h.mem with rfl|⟨e,he,hq,_⟩
  ·rfl
  ·refine absurd ?_ (h1 e he);unfold nE at hq;simp only [ay] at hq;unfold eD;rw [hq.1,hq.2.1]
 ·rcases h.mem with rfl|⟨e1,he1,hq,hm⟩
  ·exact absurd hk (hno e (ah hj))
  ·have hee:e=e1:=by
    rcases (hm e).1 (ah hj) with h3|h3
    ·exact h3
    ·exact absurd hk (hno e h3)
   subst hee;unfold nE at hq;simp only [ay] at hq;have hcut:∀ y,y∈cutAt c.ent j↔y∈b.ent:=fun y=>by
    rw [Go.Proofs.YtkcfgbddlpomgaaGreat.Rt.Ms h.rise hj,bL,hm y,hk];constructor
    ·rintro⟨h3|h3,h4⟩
     ·rw [h3,hk] at h4; simp at h4
     ·exact h3
    ·intro h3;exact⟨aG h3,decide_eq_true (hno y h3)⟩
   rw [h2 hq.2.2.2]
   split
   ·refine J3 (c:={ c with ent:=cutAt c.ent j }) h.near (fun q=>?_) t l;simp only [aB,hcut]
   ·refine J3 (c:={ c with ent:=(gT t (cutAt c.ent j) (cutAt c.ent j).length).1 }) h.near (fun q=>?_) t l;show q∈(gT t (cutAt c.ent j) (cutAt c.ent j).length).1.map nE↔_;rw [J2];simp only [aB,hcut]
def sZ (b:Br) (p:List C5):Br:={ b with own:=b.own++[⟨(29,0),p⟩] }
theorem Xe {b:Br} (ks:∀ o∈b.own,o.id.1<=4) (p:List C5) (l:List An):(q8 (sZ b p) l).length=(q8 b l).length+(if pR p l=aY then 1 else 0):=by
 unfold q8 sZ Qm;simp only [List.any_append];have hno:b.own.any (sM l 29)=aD:=by
  rw [List.any_eq_false];intro o ho hh;unfold sM at hh;simp only [bJ,decide_eq_true_eq] at hh;have:=ks o ho;omega
 have key:∀ c:Int,c≠29->(b.own.any (sM l c) || [(⟨(29,0),p⟩:Ow)].any (sM l c))=b.own.any (sM l c):=fun c hc=>by
  have:sM l c ⟨(29,0),p⟩=aD:=by
   unfold sM;simp [Ne.symm hc]
  simp [this]
 have k29:(b.own.any (sM l 29) || [(⟨(29,0),p⟩:Ow)].any (sM l 29))=pR p l:=by
  rw [hno];unfold sM;simp
 have e:(bF 32).map (fun (c:Nat)=>(c:Int))=((bF 29).map fun (c:Nat)=>(c:Int))++[29,30,31]:=by decide
 rw [e,aI,aI,ak,ak];have f1:(((bF 29).map fun (c:Nat)=>(c:Int)).filter fun c=>b.own.any (sM l c) || [(⟨(29,0),p⟩:Ow)].any (sM l c))=((bF 29).map fun (c:Nat)=>(c:Int)).filter fun c=>b.own.any (sM l c):=aK fun c hc=>key c fun h=>by
  obtain⟨j,hj,hj2⟩:=aB.1 hc;have:=List.mem_range.1 hj;omega
 rw [f1];have gen:∀ (A B:Int->Bool) (h:Bool),A 29=h->A 30=B 30->A 31=B 31->B 29=aD->(([29,30,31]:List Int).filter A).length=(([29,30,31]:List Int).filter B).length+(if h=aY then 1 else 0):=fun A B h h1 h2 h3 h4=>by
  simp only [aS,List.filter_nil,h1,h2,h3,h4];cases h <;> cases B 30 <;> cases B 31 <;> rfl
 rw [gen (fun c=>b.own.any (sM l c) || [(⟨(29,0),p⟩:Ow)].any (sM l c)) (fun c=>b.own.any (sM l c)) (pR p l) k29 (key 30 (by decide)) (key 31 (by decide)) hno];omega
theorem RQ {b:Br} {e:En}:(fG b e).1.near=b.near/\(fG b e).1.dQ=b.dQ/\(fG b e).1.seen=b.seen/\(fG b e).1.own=b.own/\(fG b e).1.ent.length<=b.ent.length+1:=by
 have il:∀ (l:List En) (k:Nat) (x:En),(fV l k x).length=l.length+1:=fun l k x=>by
  unfold fV;have:=aW k l;have h2:=congrArg List.length this;rw [ak] at h2;simp only [ak,List.length_cons,List.length_nil];omega
 unfold fG
 split
 ·exact⟨rfl,rfl,rfl,rfl,aL _⟩
 ·split
  ·exact⟨rfl,rfl,rfl,rfl,aL _⟩
  ·split
   ·exact⟨rfl,rfl,rfl,rfl,aL _⟩
   ·split
    ·exact⟨rfl,rfl,rfl,rfl,aL _⟩
    ·exact⟨rfl,rfl,rfl,rfl,Nat.le_of_eq (il _ _ _)⟩
theorem Xf {b:Br} (h:qU b) (hl:b.ent.length<=899) (ks:∀ e∈b.ent,e.sub.1<=4) (t:eT) {p:List C5} {f:Int} (hp:dW p) (hq:Wr.jg p=aY) (hf:f∈b.near):qU (fG b ⟨t,(28,0),p,f,aD⟩).1:=by
 obtain⟨k1,k2,k3,k4,k5⟩:=@RQ b ⟨t,(28,0),p,f,aD⟩;have hw:=J4 h ks t p f;have hc:jS b.near f=aY:=by unfold jS; simp [hf]
 have hm:∀ y∈(fG b ⟨t,(28,0),p,f,aD⟩).1.ent,dW y.p:=fun y hy=>by
  rcases hw.mem with e0|⟨e,_,hqe,hmm⟩
  ·rw [e0] at hy; exact h.pe y hy
  ·rcases (hmm y).1 hy with rfl|hy
   ·unfold nE at hqe;simp only [ay] at hqe;rw [hqe.2.2.1]; exact hp
   ·exact h.pe y hy
 exact⟨Md h.ok _ hc hq,⟨by rw [k1]; exact h.few.near,by rw [k2]; exact h.few.dQ,by rw [k3]; exact h.few.seen,by omega,by rw [k4]; exact h.few.own⟩,
  ⟨by rw [k2]; exact h.uY.dQ,fun y hy=>Y (hm y hy),by rw [k4]; exact h.uY.own⟩,hm,by rw [k4]; exact h.po,by rw [k4]; exact h.cl,by rw [k1]; exact h.np⟩
theorem Xg {c:Br} (h:qU c) (t x:eT) (f:Int):qU (takeB c t x f).1:=by
 obtain⟨k1,k2,_,k3,k4⟩:=jw c t x f;have hl:=(rz c t x f).1;have hm:=(yG (b:=c) t x f (fun e=>dW e.p) (fun _ _ h=>h) h.pe).1;exact⟨Oc h.ok t x f,⟨by rw [k2]; exact h.few.near,by rw [k1]; exact h.few.dQ,by rw [k3]; exact h.few.seen,aT hl h.few.ent,by rw [k4]; exact h.few.own⟩,
  ⟨by rw [k1]; exact h.uY.dQ,fun y hy=>Y (hm y hy),by rw [k4]; exact h.uY.own⟩,hm,by rw [k4]; exact h.po,by rw [k4]; exact h.cl,by rw [k2]; exact h.np⟩
theorem Xh {b:Br} (h:qU b) (hl:b.own.length<=899) (ks:∀ o∈b.own,o.id.1<=4) {p:List C5} (hp:dW p) (hq:Wr.jg p=aY):qU (sZ b p) where
 ok:=⟨h.ok.near,h.ok.seen,h.ok.dQ,h.ok.ent,aX.2 ⟨h.ok.own,List.pairwise_singleton _ _,fun a ha c hc=>by
   obtain rfl:=au.1 hc;have:=ks a ha;unfold eO;simp only [Bool.or_eq_true,decide_eq_true_eq];exact bA (by omega)⟩,h.ok.oks,fun e he=>sS (b:=b) rfl rfl (h.ok.NM e he),fun o ho=>by
  rcases aA.1 ho with ho|ho
  ·exact h.ok.Ze o ho
  ·obtain rfl:=au.1 ho; exact hq⟩
 few:=⟨h.few.near,h.few.dQ,h.few.seen,h.few.ent,by unfold sZ; rw [ak,List.length_singleton]; omega⟩
 uY:=⟨h.uY.dQ,h.uY.ent,fun o ho=>by
  rcases aA.1 ho with ho|ho
  ·exact h.uY.own o ho
  ·obtain rfl:=au.1 ho; exact Y hp⟩
 pe:=h.pe
 po:=fun o ho=>by
  rcases aA.1 ho with ho|ho
  ·exact h.po o ho
  ·obtain rfl:=au.1 ho; exact hp
 cl:=fun o ho=>by
  rcases aA.1 ho with ho|ho
  ·exact h.cl o ho
  ·obtain rfl:=au.1 ho; exact⟨(by decide:(0:Int)<=29),(by decide:(29:Int)<32)⟩
 np:=h.np
end Ca
end Go.Proofs.YtkcfgbddlpomgaaGreat
