/-
  Unadvertise of packa. Conditions as told.
-/
import Derived.Test.YtghlpefopidlaaaGreatBQ038
import Derived.Test.YtghlpefopidlaaaGreatBQ041
set_option maxRecDepth 100000
set_option maxHeartbeats 64000000
open Go.IntKind renaming i64->X
open Go.Lib renaming hid->aF
open Go.Operand renaming tmp->aD
open Go.Proofs.Tryz renaming prog->ak,func14->aG
open Go.Proofs.YtghlpefopidlaaaGreat.Wi renaming within->L
open Go.RowKit.Below renaming refl->aj
open Go.Value renaming int->V,pointer->Y,slice->ah,agg->aH
open _root_.List renaming length_append->U,getElem?_toArray->au,length_drop->ay,length_take->aA,getElem?_cons_zero->aB,getElem?_cons_succ->aC
open _root_.Option renaming none->O,some->Z
open Option.some renaming inj->J
namespace Go.Proofs.YtghlpefopidlaaaGreat
namespace Fl
open Go.RowKit Go.Sort Rw YtghlpefopidlaaaGreat.Nm Pr Bk Av Rl Sb
end Fl
namespace Rt
open Go.RowKit Go.Sort Rw YtghlpefopidlaaaGreat.Nm Pr Bk Av Sb
theorem Gc {w:World} {B g n cap k:Nat} {l:List lZ} (ho:oP w B (ah (Z ⟨g,0,O⟩) n cap) l) (hk:k<n) (ty:TypeId) :
  ∃ w',(Builtin.append_ #[28,28] ty #[ah (Z ⟨g,0,O⟩) k cap,ah (Z (if cap=k+1 then ⟨g,0,O⟩ else ⟨g,(k+1) * 3,O⟩)) (n-(k+1)) (cap-(k+1))]).run ak w=.ok (ah (Z ⟨g,0,O⟩) (n-1) cap) w' /\
   oP w' B (ah (Z ⟨g,0,O⟩) n cap) (cutAt l k++l.drop (n-1))/\But g w w'/\(∀ B' W,B'<=g->Below B' W w->Below B' W w'):=by
 have hl:l.length=n:=fu ho;rcases eZ ho with⟨h1,_⟩|⟨g',cap',cur,h1,h2,h3,h4,h5,h6,h7⟩
 ·cases h1
 ·obtain⟨rfl,_,rfl⟩:g=g'/\n=l.length/\cap=cap':=by simpa using h1
  obtain⟨i,i1,i2,i3,i4⟩:=okW.info;have hE:EW.n=3:=rfl;have Bn:i.size=3:=i3;rw [hl] at h4 h7;rw [hE] at h6 h7;have hd:(l.drop (k+1)).length=n-(k+1):=by rw [ay,hl]
  have JA:(flat EW (l.drop (k+1))).length=(n-(k+1)) * 3:=by rw [dJ okW,hd,hE]
  have hsz:cur.toList.length=cap * 3:=by rw [Array.length_toList]; exact h6
  have hcell:∀ j u,(flat EW (l.drop (k+1)))[j]?=Z u->w.cell? ((if cap=k+1 then (⟨g,0,O⟩:Addr) else ⟨g,(k+1) * 3,O⟩).add j)=Z u:=fun j u hj=>by
   have hlt:=(List.getElem?_eq_some_iff.1 hj).1;rw [JA] at hlt;rw [if_neg (by omega)];exact qX okW h3 (by rw [hl,hE]; exact h7) (k+1) j u hj
  have hr:=run_append_room (P:=ak) w 28 ty 88 i okW.hu i1 g k cap cur h3 _ (n-(k+1)) (cap-(k+1)) (flat EW (l.drop (k+1))) (by rw [JA,Bn]) hcell (jU okW _) (by omega) (by rw [JA,Bn,h6]; omega);rw [show k+(n-(k+1))=n-1 by omega] at hr;refine⟨_,hr,kD okW ?_ h2 (dG.set h3 _) h4 h5 ?_ ?_,⟨fun j _ hne=>setRow_other w g j _ hne,by simp⟩,fun B' W hB hb=>Rw.below_setRow hb hB _⟩
  ·rw [U,ay];unfold cutAt;rw [U,aA,hd,hl];omega
  ·rw [List.size_toArray,U,U,aA,ay,JA,hsz,Bn,hE];omega
  ·have t1:cur.toList.take (k * 3)=flat EW (l.take k):=by
    rw [<- kX okW,<- h7,List.take_take,hE,Nat.min_eq_left (by omega)]
   have t2:(cur.toList.drop ((n-1) * 3)).take 3=flat EW (l.drop (n-1)):=by
    rw [<- sD okW,<- h7,hE,List.drop_take,show n * 3-(n-1) * 3=3 by omega]
   rw [Bn,hE,JA,show k * 3+(n-(k+1)) * 3=(n-1) * 3 by omega,t1];have e1:(flat EW (l.take k)++flat EW (l.drop (k+1))).length=(n-1) * 3:=by
    rw [U,JA,dJ okW,aA,hE,hl];omega
   rw [List.take_append,e1,List.take_of_length_le (by rw [e1]; omega),show n * 3-(n-1) * 3=3 by omega,t2];unfold cutAt;rw [fC,fC]
theorem J6 {l:List lZ} {n k:Nat} (hl:l.length=n) (hk:k<n):(cutAt l k++l.drop (n-1)).take (n-1)=cutAt l k:=by
 have h:(cutAt l k).length=n-1:=by
  unfold cutAt;rw [U,aA,ay,hl];omega
 rw [<- h,List.take_left]
theorem QU (a:Addr) (f e len cap:Nat) (h:f<=e) (h2:e<=len) (h3:len<=cap) (w:World):(Instr.sliceAt 28 (ah (Z a) len cap) (Z (V X f)) (Z (V X e)) (Z (V X len))).run ak w=.ok (ah (Z (if len=f then a else a.add (f * 3))) (e-f) (len-f)) w:=by
 obtain⟨i,i1,i2,i3,i4⟩:=okW.info;have Pw:Tryz.prog.info? 88=Z i:=i1;have hu':Tryz.prog.underlying 28=Z (.slice 88):=okW.hu;have Bn:i.size=3:=i3;by_cases he:len=f
 ·subst he;obtain rfl:e=len:=by omega
  simp [go_sem,hu',sizeOf,typeInfo,Pw,Bn,h3]
 ·simp [go_sem,hu',sizeOf,typeInfo,Pw,Bn,he,h,h2,h3]
theorem NS (B g n cap k:Nat) (l:List lZ) (w:World) (ho:oP w B (ah (Z ⟨g,0,O⟩) n cap) l) (hk:k<n) (hn:n<=1000) :
  Calls ak 47 #[ah (Z ⟨g,0,O⟩) n cap,V X k,V X ((k:Int)+1)] w fun e w'=>e=.returned (ah (Z ⟨g,0,O⟩) (n-1) cap) /\
   oP w' B (ah (Z ⟨g,0,O⟩) (n-1) cap) (cutAt l k)/\But g w w'/\(∀ B' W,B'<=g->Below B' W w->Below B' W w'):=by
 have hl:l.length=n:=fu ho;have hnc:n<=cap:=by
  rcases eZ ho with⟨h1,_⟩|⟨g',cap',cur,h1,_,_,h4,_⟩
  ·cases h1
  ·obtain⟨_,_,rfl⟩:g=g'/\n=l.length/\cap=cap':=by simpa using h1
   rw [hl] at h4;exact h4
 have s3:=fun w=>QU ⟨g,0,O⟩ k (k+1) n cap (by omega) (by omega) hnc w;rw [show (((k+1:Nat):Int))=(k:Int)+1 by omega] at s3;have s1:∀ w,(Instr.sliceAt 28 (ah (Z ⟨g,0,O⟩) n cap) O (Z (V X k)) O).run ak w=.ok (ah (Z ⟨g,0,O⟩) k cap) w:=fun w=>iQ okW ⟨g,0,O⟩ k n cap (by omega) w;have s2:∀ w,(Instr.sliceAt 28 (ah (Z ⟨g,0,O⟩) n cap) (Z (V X ((k:Int)+1))) O O).run ak w=.ok (ah (Z (if cap=k+1 then ⟨g,0,O⟩ else ⟨g,(k+1) * 3,O⟩)) (n-(k+1)) (cap-(k+1))) w:=fun w=>by
  have h:=qU okW ⟨g,0,O⟩ (k+1) n cap (by omega) w;rw [show (((k+1:Nat):Int))=(k:Int)+1 by omega,mD] at h;exact h
 have hne:((k:Int) == (k:Int)+1)=false:=by simp; omega
 obtain⟨w1,r1,o1,b1,l1⟩:=Gc (Bk.dL ho (aj _ _).drew) hk 28;obtain⟨p,hp⟩:∃ p:Addr,(if cap=k+1 then (⟨g,0,O⟩:Addr) else ⟨g,(k+1) * 3,O⟩)=p:=⟨_,rfl⟩;obtain⟨q,hq⟩:∃ p:Addr,(if n=k then (⟨g,0,O⟩:Addr) else (⟨g,0,O⟩:Addr).add (k * 3))=p:=⟨_,rfl⟩;rw [hp] at s2 r1;rw [hq] at s3;obtain⟨m,hm⟩:∃ m,n=m+1:=⟨n-1,by omega⟩;obtain⟨w2,r2_,o2,b2,l2⟩:=yS okW (by decide) o1 (show n-1<n by omega) 0;rw [J6 hl hk] at o2;have O2:=aF o2;have B2:=aF (show But g w w2 from ((But.of_below (aj w.heap.size w).drew).trans b1).trans b2);have L2:=aF (show ∀ B' W,B'<=g->Below B' W w->Below B' W w2 from fun B' W hB hb=>l2 B' W hB (l1 B' W hB hb.drew));have r2:(Builtin.clear_ #[28] 0 #[ah (Z ⟨g,(n-1) * 3,O⟩) (n-(n-1)) (cap-(n-1))]).run ak w1=.ok (.tuple #[]) w2:=r2_;clear hp hq o1 b1 l1 o2 b2 l2 ho hl;generalize n-(k+1)=x1 at s2 r1;generalize cap-(k+1)=x2 at s2 r1;generalize k+1-k=x3 at s3;generalize n-k=x4 at s3;rw [show n-(n-1)=1 by omega] at r2;clear r2_;subst hm;rw [Nat.add_sub_cancel] at *;go_enter Tryz.func47,Tryz.ntmps47;go_wp2
 go_region_law (refine oG rfl (aD 22) (aD 25) 28 rfl (v:=ah (Z ⟨g,0,O⟩) k cap) (xv:=ah (Z p) x1 x2) rfl rfl r1 ?_)
 all_goals simp only [Exit.then]
 all_goals apply_assumption
 all_goals
  go_wp2_with (first | (at_builtin; refine tC rfl _ _ rfl rfl r2 ?_) | fail);go_ret;exact⟨rfl,O2.out,B2.out,L2.out⟩
end Rt
namespace Rt
open Go.RowKit Go.Sort Rw YtghlpefopidlaaaGreat.Nm Pr Bk Av Rl Sb Fl
def U2 (_B:Nat) (bq:Nat) (_z0 _z1 _z2 z3 z4:Int) (_h1:Option Addr) (_h2 _h3:Nat) (_g1:Option Addr) (_g2 _g3:Nat) (i:Nat) (v:Value) (_x:World):Prop :=
 match i with
 | 0=>v=Y (Z ⟨bq,3,O⟩)
 | 1=>v=V X z3
 | 2=>v=V X (L z3 0 3)
 | 3=>v=Y (Z ⟨bq,4,O⟩)
 | 4=>v=V X z4
 | 5=>v=V X (L z4 0 1)
 | 6=>v=aH #[V X (L z3 0 3),V X (L z4 0 1)]
 | 7=>True
 | 8=>True
 | _=>True
noncomputable def NT:Code:=((Tryz.f5.body.bind (eU 10)).getD .skip)
theorem XY (Q:Exit->Act->World->Prop) (W:World) (bq:Nat) (z0 z1 z2 z3 z4:Int) (h1:Option Addr) (h2 h3:Nat) (g1:Option Addr) (g2 g3:Nat) (u0 u1 u2 u3 u4 u5 u6 u7 u9 u10 u11 u12 u13 u14 u15 u16 u17 u18 u19 u20 u21 u22 u23 u24 u25 u26 u27 u28 u29 u30 u31 u32 u33 u34 u35 u36 u37 u38 u39 u40 u41 u42 u43 u44 u45 u46 u47 u48 u49 u50 u51 u52 u53 u54 u55 u56 u57 u58 u59 u60 u61 u62 u63 u64 u65 u66 u67 u68 u69 u70 u71 u72 u73 u74 u75 u76 u77 u78 u79 u80 u81 u82 u83 u84 u85 u86 u87 u88 u89 u90 u91 u92 u93 u94 u95 u96 u97 u98 u99 u100 u101 u102 u103 u104 u105 u106 u107 u108 u109 u110 u111 u112 u113 u114 u115 u116 u117 u118 u119 u120 u121 u122 u123 u124 u125 u126 u127 u128 u129 u130 u131 u132 u133 u134 u135 u136 u137 u138 u139 u140 u141 u142 u143 u144 u145 u146 u147 u148 u149 u150 u151 u152 u153 u154 u155 u156 u157 u158 u159 u160 u161 u162 u163 u164 u165 u166 u167 u168 u169 u170 u171 u172 u173 u174 u175 u176 u177 u178 u179 u180 u181 u182 u183 u184 u185 u186 u187 u188 u189 u190 u191 u192 u193 u194 u195 u196 u197 u198 u199 u200 u201 u202 u203 u204 u205 u206 u207 u208 u209 u210 u211 u212 u213 u214 u215 u216 u217 u218 u219 u220 u221 u222 u223 u224 u225 u226 u227 u228 u229 u230 u231 u232 u233 u234 u235 u236 u237 u238 u239 u240 u241 u242:Value)
  (q:dG W bq #[V X z0,V X z1,V X z2,V X z3,V X z4,ah h1 h2 h3,ah g1 g2 g3] 63) (d3:-9223372036854775808<=z3/\z3<=9223372036854775807) (d4:-9223372036854775808<=z4/\z4<=9223372036854775807)
  (hQ:∀ (x:World) (bb:Nat) (v54 v55 v56 v57 v58 v59 v60:Value),W.heap.size<=bb->dG x bb #[V X (L z3 0 3),V X (L z4 0 1)] 23->Below W.heap.size W x->Q .normal ⟨(u0::u1::u2::u3::u4::u5::u6::u7::Y (Z ⟨bq,0,O⟩)::Y (Z ⟨bb,0,O⟩)::u10::u11::u12::u13::u14::u15::u16::u17::u18::u19::u20::u21::u22::u23::u24::u25::u26::u27::u28::u29::u30::u31::u32::u33::u34::u35::u36::u37::u38::u39::u40::u41::u42::u43::u44::u45::u46::u47::u48::u49::u50::u51::u52::u53::v54::v55::v56::v57::v58::v59::v60::u61::u62::u63::u64::u65::u66::u67::u68::u69::u70::u71::u72::u73::u74::u75::u76::u77::u78::u79::u80::u81::u82::u83::u84::u85::u86::u87::u88::u89::u90::u91::u92::u93::u94::u95::u96::u97::u98::u99::u100::u101::u102::u103::u104::u105::u106::u107::u108::u109::u110::u111::u112::u113::u114::u115::u116::u117::u118::u119::u120::u121::u122::u123::u124::u125::u126::u127::u128::u129::u130::u131::u132::u133::u134::u135::u136::u137::u138::u139::u140::u141::u142::u143::u144::u145::u146::u147::u148::u149::u150::u151::u152::u153::u154::u155::u156::u157::u158::u159::u160::u161::u162::u163::u164::u165::u166::u167::u168::u169::u170::u171::u172::u173::u174::u175::u176::u177::u178::u179::u180::u181::u182::u183::u184::u185::u186::u187::u188::u189::u190::u191::u192::u193::u194::u195::u196::u197::u198::u199::u200::u201::u202::u203::u204::u205::u206::u207::u208::u209::u210::u211::u212::u213::u214::u215::u216::u217::u218::u219::u220::u221::u222::u223::u224::u225::u226::u227::u228::u229::u230::u231::u232::u233::u234::u235::u236::u237::u238::u239::u240::u241::u242::[]).toArray,[]⟩ x) :
  Code.wp ak NT Q ⟨(u0::u1::u2::u3::u4::u5::u6::u7::Y (Z ⟨bq,0,O⟩)::u9::u10::u11::u12::u13::u14::u15::u16::u17::u18::u19::u20::u21::u22::u23::u24::u25::u26::u27::u28::u29::u30::u31::u32::u33::u34::u35::u36::u37::u38::u39::u40::u41::u42::u43::u44::u45::u46::u47::u48::u49::u50::u51::u52::u53::u54::u55::u56::u57::u58::u59::u60::u61::u62::u63::u64::u65::u66::u67::u68::u69::u70::u71::u72::u73::u74::u75::u76::u77::u78::u79::u80::u81::u82::u83::u84::u85::u86::u87::u88::u89::u90::u91::u92::u93::u94::u95::u96::u97::u98::u99::u100::u101::u102::u103::u104::u105::u106::u107::u108::u109::u110::u111::u112::u113::u114::u115::u116::u117::u118::u119::u120::u121::u122::u123::u124::u125::u126::u127::u128::u129::u130::u131::u132::u133::u134::u135::u136::u137::u138::u139::u140::u141::u142::u143::u144::u145::u146::u147::u148::u149::u150::u151::u152::u153::u154::u155::u156::u157::u158::u159::u160::u161::u162::u163::u164::u165::u166::u167::u168::u169::u170::u171::u172::u173::u174::u175::u176::u177::u178::u179::u180::u181::u182::u183::u184::u185::u186::u187::u188::u189::u190::u191::u192::u193::u194::u195::u196::u197::u198::u199::u200::u201::u202::u203::u204::u205::u206::u207::u208::u209::u210::u211::u212::u213::u214::u215::u216::u217::u218::u219::u220::u221::u222::u223::u224::u225::u226::u227::u228::u229::u230::u231::u232::u233::u234::u235::u236::u237::u238::u239::u240::u241::u242::[]).toArray,[]⟩ W:=by
 have HQ:=aF hQ;have HQ6:=aF q;have D3:=aF d3;have D4:=aF d4;clear hQ q d3 d4;unfold NT
 conv=>arg 2; whnf
 have nb8:∀ i,i<9->[54,55,56,57,58,59,60,9,9].getD i 0≠8:=by decide
 refine Rg.sN 9 7 8 6 (fun i=>[54,55,56,57,58,59,60,9,9].getD i 0) (fun i=>9) (U2 W.heap.size bq z0 z1 z2 z3 z4 h1 h2 h3 g1 g2 g3) 23 #[V X 0,V X 0] (fun v=>match v with | aH c=>c | _=>#[]) (by kernel_rfl) (by kernel_rfl) rfl (by decide) (by decide) (by decide) (by decide) (by decide) (by decide) (by decide) (fun i j hi hj h1 h2 h=>(by decide:∀ i,i<9->∀ j,j<9->i≠8->j≠8->[54,55,56,57,58,59,60,9,9].getD i 0=[54,55,56,57,58,59,60,9,9].getD j 0->i=j) i hi j hj h1 h2 h) (fun i hi=>(by decide:∀ i,i<9->[54,55,56,57,58,59,60,9,9].getD i 0<243) i hi) ?_ ?_ ?_ ?_ ?_ ?_
 ·intro i v x x' hi h hb;rcases (by omega:i=0\/i=1\/i=2\/i=3\/i=4\/i=5\/i=6\/i=7\/i=8) with rfl|rfl|rfl|rfl|rfl|rfl|rfl|rfl|rfl
  ·exact h
  ·exact h
  ·exact h
  ·exact h
  ·exact h
  ·exact h
  ·exact h
  ·exact h
  ·exact h
 ·intro o ho;cases ho;exact⟨⟨⟨7,.data⟩,by simp,rfl,rfl⟩,⟨⟨6,.data⟩,by simp,rfl,rfl⟩⟩
 ·intro i o hi Rq uJ ho a x hb seen K hK;clear HQ;rcases (by omega:i=0\/i=1\/i=2\/i=3\/i=4\/i=5\/i=6) with rfl|rfl|rfl|rfl|rfl|rfl|rfl
  ·cases ho;have e8:a.eval (aD 8)=Y (Z ⟨bq,0,O⟩):=seen.kp 8 _ nb8 rfl;exact Rg.dF rfl rfl (Rg.eD a.eval _ 63 (aD 8) 3 rfl (by rw [e8]; simp [go_sem])) (hK _ x rfl (aj _ _))
  ·cases ho;have e54:a.eval (aD 54)=Y (Z ⟨bq,3,O⟩):=seen.at_ ⟨0,.data⟩ (by simp) rfl (by decide) (by decide) (Or.inr (by decide));have y3:=(HQ6.out.on hb).cell 3;simp only [au,aB,aC] at y3;exact Rg.dF rfl rfl (Rg.eH a.eval _ 3 (aD 54) rfl (by rw [e54]; simp [go_sem,y3])) (hK _ x rfl (aj _ _))
  ·cases ho;have e55:a.eval (aD 55)=V X z3:=seen.at_ ⟨1,.data⟩ (by simp) rfl (by decide) (by decide) (Or.inr (by decide));exact Rg.fZ rfl rfl (Rg.BI a.eval _ (aD 55) (.const (V X 0)) (.const (V X 3)) 3 14 rfl e55 rfl rfl rfl _ (fD aG rfl rfl _ _)) (Wi.jI z3 0 3 x (by omega) (by omega) (by omega) D3.out.1 D3.out.2) fun e w1 h=>by
    obtain⟨rfl,rfl⟩:=h;exact⟨_,rfl,hK _ _ rfl (aj _ _)⟩
  ·cases ho;have e8:a.eval (aD 8)=Y (Z ⟨bq,0,O⟩):=seen.kp 8 _ nb8 rfl;exact Rg.dF rfl rfl (Rg.eD a.eval _ 63 (aD 8) 4 rfl (by rw [e8]; simp [go_sem])) (hK _ x rfl (aj _ _))
  ·cases ho;have e57:a.eval (aD 57)=Y (Z ⟨bq,4,O⟩):=seen.at_ ⟨3,.data⟩ (by simp) rfl (by decide) (by decide) (Or.inr (by decide));have y4:=(HQ6.out.on hb).cell 4;simp only [au,aB,aC] at y4;exact Rg.dF rfl rfl (Rg.eH a.eval _ 3 (aD 57) rfl (by rw [e57]; simp [go_sem,y4])) (hK _ x rfl (aj _ _))
  ·cases ho;have e58:a.eval (aD 58)=V X z4:=seen.at_ ⟨4,.data⟩ (by simp) rfl (by decide) (by decide) (Or.inr (by decide));exact Rg.fZ rfl rfl (Rg.BI a.eval _ (aD 58) (.const (V X 0)) (.const (V X 1)) 3 14 rfl e58 rfl rfl rfl _ (fD aG rfl rfl _ _)) (Wi.jI z4 0 1 x (by omega) (by omega) (by omega) D4.out.1 D4.out.2) fun e w1 h=>by
    obtain⟨rfl,rfl⟩:=h;exact⟨_,rfl,hK _ _ rfl (aj _ _)⟩
  ·cases ho;have e56:a.eval (aD 56)=V X (L z3 0 3):=seen.at_ ⟨2,.data⟩ (by simp) rfl (by decide) (by decide) (Or.inr (by decide));have e59:a.eval (aD 59)=V X (L z4 0 1):=seen.at_ ⟨5,.data⟩ (by simp) rfl (by decide) (by decide) (Or.inr (by decide));exact Rg.dF rfl rfl (Rg.jD a.eval _ 23 #[(0,aD 56),(1,aD 59)] rfl (ps:=#[(0,V X (L z3 0 3)),(1,V X (L z4 0 1))]) (by simp only [List.map_toArray,List.map_cons,List.map_nil,e56,e59]) (by simp [go_sem])) (hK _ x rfl (aj _ _))
 ·intro o ho a x K hK;cases ho;exact Rg.dF rfl rfl (Rg.vE a.eval _ 23 rfl (by simp [go_sem])) hK
 ·intro o ho a x bb v D hc hD hb hA hC AZ hbb jc K hK;clear HQ;cases ho;have hv:v=aH #[V X (L z3 0 3),V X (L z4 0 1)]:=AZ;subst hv;obtain⟨x0,x1⟩:=jc.cs2;obtain⟨f0,f1⟩:=jc.ZG;have hst:(Instr.storeAt 23 (Y (Z ⟨bb,0,O⟩)) (aH #[V X (L z3 0 3),V X (L z4 0 1)])).run ak x=.ok () ((x.setCell ⟨bb,0,O⟩ (V X (L z3 0 3))).setCell ⟨bb,1,O⟩ (V X (L z4 0 1))):=by simp [go_sem,x0,x1,f0,f1]
  have aa7:=eu (k:=1) (eu (k:=0) jc (V X (L z3 0 3))) (V X (L z4 0 1));refine Rg.gI 23 (aD 9) (aD 60) rfl rfl rfl rfl hA hC hst (hK _ ((hb.setCell (p:=⟨bb,0,O⟩) hbb _).setCell (p:=⟨bb,1,O⟩) hbb _) (by simpa using aa7) ?_);exact fun j u hj hjA Zq hdj hnl hls h=>by
   rcases (by omega:j=0\/j=1\/j=2\/j=3\/j=4\/j=5\/j=6) with rfl|rfl|rfl|rfl|rfl|rfl|rfl
   ·have h2:u=Y (Z ⟨bq,3,O⟩):=h; exact h2
   ·have h2:u=V X z3:=h; exact h2
   ·have h2:u=V X (L z3 0 3):=h; exact h2
   ·have h2:u=Y (Z ⟨bq,4,O⟩):=h; exact h2
   ·have h2:u=V X z4:=h; exact h2
   ·have h2:u=V X (L z4 0 1):=h; exact h2
   ·have h2:u=aH #[V X (L z3 0 3),V X (L z4 0 1)]:=h; exact h2
 ·intro a x bb v df sz kp gA gC hbb jc AZ hbel ⟨vs,hv⟩;have hv9:v=aH #[V X (L z3 0 3),V X (L z4 0 1)]:=AZ;subst hv9;have g9:a.tmps[9]?=Z (Y (Z ⟨bb,0,O⟩)):=gA;have uI:∀ j,(j<9\/61<=j)->a.tmps[j]?=(u0::u1::u2::u3::u4::u5::u6::u7::Y (Z ⟨bq,0,O⟩)::u9::u10::u11::u12::u13::u14::u15::u16::u17::u18::u19::u20::u21::u22::u23::u24::u25::u26::u27::u28::u29::u30::u31::u32::u33::u34::u35::u36::u37::u38::u39::u40::u41::u42::u43::u44::u45::u46::u47::u48::u49::u50::u51::u52::u53::u54::u55::u56::u57::u58::u59::u60::u61::u62::u63::u64::u65::u66::u67::u68::u69::u70::u71::u72::u73::u74::u75::u76::u77::u78::u79::u80::u81::u82::u83::u84::u85::u86::u87::u88::u89::u90::u91::u92::u93::u94::u95::u96::u97::u98::u99::u100::u101::u102::u103::u104::u105::u106::u107::u108::u109::u110::u111::u112::u113::u114::u115::u116::u117::u118::u119::u120::u121::u122::u123::u124::u125::u126::u127::u128::u129::u130::u131::u132::u133::u134::u135::u136::u137::u138::u139::u140::u141::u142::u143::u144::u145::u146::u147::u148::u149::u150::u151::u152::u153::u154::u155::u156::u157::u158::u159::u160::u161::u162::u163::u164::u165::u166::u167::u168::u169::u170::u171::u172::u173::u174::u175::u176::u177::u178::u179::u180::u181::u182::u183::u184::u185::u186::u187::u188::u189::u190::u191::u192::u193::u194::u195::u196::u197::u198::u199::u200::u201::u202::u203::u204::u205::u206::u207::u208::u209::u210::u211::u212::u213::u214::u215::u216::u217::u218::u219::u220::u221::u222::u223::u224::u225::u226::u227::u228::u229::u230::u231::u232::u233::u234::u235::u236::u237::u238::u239::u240::u241::u242::[])[j]?:=fun j hj=>(kp j (fun i hi h=>by have:=(by decide:∀ i,i<9->9<=[54,55,56,57,58,59,60,9,9].getD i 0/\[54,55,56,57,58,59,60,9,9].getD i 0<61) i hi; omega)).trans au;obtain⟨mid,hmid,rfl⟩:=Rg.iA 9 52 df sz (by simp) uI
  match mid,hmid with
  | v9::v10::v11::v12::v13::v14::v15::v16::v17::v18::v19::v20::v21::v22::v23::v24::v25::v26::v27::v28::v29::v30::v31::v32::v33::v34::v35::v36::v37::v38::v39::v40::v41::v42::v43::v44::v45::v46::v47::v48::v49::v50::v51::v52::v53::v54::v55::v56::v57::v58::v59::v60::[],_ =>
   obtain rfl:v9=Y (Z ⟨bb,0,O⟩):=J g9;obtain rfl:v10=u10:=J (kp 10 (fun i hi h=>(by decide:∀ i,i<9->[54,55,56,57,58,59,60,9,9].getD i 0≠10) i hi h));obtain rfl:v11=u11:=J (kp 11 (fun i hi h=>(by decide:∀ i,i<9->[54,55,56,57,58,59,60,9,9].getD i 0≠11) i hi h));obtain rfl:v12=u12:=J (kp 12 (fun i hi h=>(by decide:∀ i,i<9->[54,55,56,57,58,59,60,9,9].getD i 0≠12) i hi h));obtain rfl:v13=u13:=J (kp 13 (fun i hi h=>(by decide:∀ i,i<9->[54,55,56,57,58,59,60,9,9].getD i 0≠13) i hi h));obtain rfl:v14=u14:=J (kp 14 (fun i hi h=>(by decide:∀ i,i<9->[54,55,56,57,58,59,60,9,9].getD i 0≠14) i hi h));obtain rfl:v15=u15:=J (kp 15 (fun i hi h=>(by decide:∀ i,i<9->[54,55,56,57,58,59,60,9,9].getD i 0≠15) i hi h));obtain rfl:v16=u16:=J (kp 16 (fun i hi h=>(by decide:∀ i,i<9->[54,55,56,57,58,59,60,9,9].getD i 0≠16) i hi h));obtain rfl:v17=u17:=J (kp 17 (fun i hi h=>(by decide:∀ i,i<9->[54,55,56,57,58,59,60,9,9].getD i 0≠17) i hi h));obtain rfl:v18=u18:=J (kp 18 (fun i hi h=>(by decide:∀ i,i<9->[54,55,56,57,58,59,60,9,9].getD i 0≠18) i hi h));obtain rfl:v19=u19:=J (kp 19 (fun i hi h=>(by decide:∀ i,i<9->[54,55,56,57,58,59,60,9,9].getD i 0≠19) i hi h));obtain rfl:v20=u20:=J (kp 20 (fun i hi h=>(by decide:∀ i,i<9->[54,55,56,57,58,59,60,9,9].getD i 0≠20) i hi h));obtain rfl:v21=u21:=J (kp 21 (fun i hi h=>(by decide:∀ i,i<9->[54,55,56,57,58,59,60,9,9].getD i 0≠21) i hi h));obtain rfl:v22=u22:=J (kp 22 (fun i hi h=>(by decide:∀ i,i<9->[54,55,56,57,58,59,60,9,9].getD i 0≠22) i hi h));obtain rfl:v23=u23:=J (kp 23 (fun i hi h=>(by decide:∀ i,i<9->[54,55,56,57,58,59,60,9,9].getD i 0≠23) i hi h));obtain rfl:v24=u24:=J (kp 24 (fun i hi h=>(by decide:∀ i,i<9->[54,55,56,57,58,59,60,9,9].getD i 0≠24) i hi h));obtain rfl:v25=u25:=J (kp 25 (fun i hi h=>(by decide:∀ i,i<9->[54,55,56,57,58,59,60,9,9].getD i 0≠25) i hi h));obtain rfl:v26=u26:=J (kp 26 (fun i hi h=>(by decide:∀ i,i<9->[54,55,56,57,58,59,60,9,9].getD i 0≠26) i hi h));obtain rfl:v27=u27:=J (kp 27 (fun i hi h=>(by decide:∀ i,i<9->[54,55,56,57,58,59,60,9,9].getD i 0≠27) i hi h));obtain rfl:v28=u28:=J (kp 28 (fun i hi h=>(by decide:∀ i,i<9->[54,55,56,57,58,59,60,9,9].getD i 0≠28) i hi h));obtain rfl:v29=u29:=J (kp 29 (fun i hi h=>(by decide:∀ i,i<9->[54,55,56,57,58,59,60,9,9].getD i 0≠29) i hi h));obtain rfl:v30=u30:=J (kp 30 (fun i hi h=>(by decide:∀ i,i<9->[54,55,56,57,58,59,60,9,9].getD i 0≠30) i hi h));obtain rfl:v31=u31:=J (kp 31 (fun i hi h=>(by decide:∀ i,i<9->[54,55,56,57,58,59,60,9,9].getD i 0≠31) i hi h));obtain rfl:v32=u32:=J (kp 32 (fun i hi h=>(by decide:∀ i,i<9->[54,55,56,57,58,59,60,9,9].getD i 0≠32) i hi h));obtain rfl:v33=u33:=J (kp 33 (fun i hi h=>(by decide:∀ i,i<9->[54,55,56,57,58,59,60,9,9].getD i 0≠33) i hi h));obtain rfl:v34=u34:=J (kp 34 (fun i hi h=>(by decide:∀ i,i<9->[54,55,56,57,58,59,60,9,9].getD i 0≠34) i hi h));obtain rfl:v35=u35:=J (kp 35 (fun i hi h=>(by decide:∀ i,i<9->[54,55,56,57,58,59,60,9,9].getD i 0≠35) i hi h));obtain rfl:v36=u36:=J (kp 36 (fun i hi h=>(by decide:∀ i,i<9->[54,55,56,57,58,59,60,9,9].getD i 0≠36) i hi h));obtain rfl:v37=u37:=J (kp 37 (fun i hi h=>(by decide:∀ i,i<9->[54,55,56,57,58,59,60,9,9].getD i 0≠37) i hi h));obtain rfl:v38=u38:=J (kp 38 (fun i hi h=>(by decide:∀ i,i<9->[54,55,56,57,58,59,60,9,9].getD i 0≠38) i hi h));obtain rfl:v39=u39:=J (kp 39 (fun i hi h=>(by decide:∀ i,i<9->[54,55,56,57,58,59,60,9,9].getD i 0≠39) i hi h));obtain rfl:v40=u40:=J (kp 40 (fun i hi h=>(by decide:∀ i,i<9->[54,55,56,57,58,59,60,9,9].getD i 0≠40) i hi h));obtain rfl:v41=u41:=J (kp 41 (fun i hi h=>(by decide:∀ i,i<9->[54,55,56,57,58,59,60,9,9].getD i 0≠41) i hi h));obtain rfl:v42=u42:=J (kp 42 (fun i hi h=>(by decide:∀ i,i<9->[54,55,56,57,58,59,60,9,9].getD i 0≠42) i hi h));obtain rfl:v43=u43:=J (kp 43 (fun i hi h=>(by decide:∀ i,i<9->[54,55,56,57,58,59,60,9,9].getD i 0≠43) i hi h));obtain rfl:v44=u44:=J (kp 44 (fun i hi h=>(by decide:∀ i,i<9->[54,55,56,57,58,59,60,9,9].getD i 0≠44) i hi h));obtain rfl:v45=u45:=J (kp 45 (fun i hi h=>(by decide:∀ i,i<9->[54,55,56,57,58,59,60,9,9].getD i 0≠45) i hi h));obtain rfl:v46=u46:=J (kp 46 (fun i hi h=>(by decide:∀ i,i<9->[54,55,56,57,58,59,60,9,9].getD i 0≠46) i hi h));obtain rfl:v47=u47:=J (kp 47 (fun i hi h=>(by decide:∀ i,i<9->[54,55,56,57,58,59,60,9,9].getD i 0≠47) i hi h));obtain rfl:v48=u48:=J (kp 48 (fun i hi h=>(by decide:∀ i,i<9->[54,55,56,57,58,59,60,9,9].getD i 0≠48) i hi h));obtain rfl:v49=u49:=J (kp 49 (fun i hi h=>(by decide:∀ i,i<9->[54,55,56,57,58,59,60,9,9].getD i 0≠49) i hi h));obtain rfl:v50=u50:=J (kp 50 (fun i hi h=>(by decide:∀ i,i<9->[54,55,56,57,58,59,60,9,9].getD i 0≠50) i hi h));obtain rfl:v51=u51:=J (kp 51 (fun i hi h=>(by decide:∀ i,i<9->[54,55,56,57,58,59,60,9,9].getD i 0≠51) i hi h));obtain rfl:v52=u52:=J (kp 52 (fun i hi h=>(by decide:∀ i,i<9->[54,55,56,57,58,59,60,9,9].getD i 0≠52) i hi h));obtain rfl:v53=u53:=J (kp 53 (fun i hi h=>(by decide:∀ i,i<9->[54,55,56,57,58,59,60,9,9].getD i 0≠53) i hi h));exact HQ.out x bb _ _ _ _ _ _ _ hbb jc hbel
end Rt
end Go.Proofs.YtghlpefopidlaaaGreat
