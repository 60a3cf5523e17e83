/-
  Advertise of package. Conditions as told.
-/
import Derived.Test.YtghlpefopidlaaaGreatBQ045
import Derived.Test.YtghlpefopidlaaaGreatBQ046
set_option maxRecDepth 100000
set_option maxHeartbeats 64000000
open _root_.BitVec renaming ofInt->aj
open _root_.Go renaming Addr->aA,World->aG,Value->aH
open Go.BinOp renaming and->aC
open Go.IntKind renaming i64->L
open Go.Lib renaming hid->D
open Go.Proofs.YtghlpefopidlaaaGreat.Av renaming eF->K
open Go.Proofs.YtghlpefopidlaaaGreat.Sb renaming fT->Z
open Go.Value renaming slice->J,int->V,pointer->Y
open _root_.List renaming mem_singleton->ah,setIfInBounds_toArray->ak,getElem?_eq_getElem->au,mem_append->ay,set_cons_zero->aD
open _root_.Nat renaming le_trans->O,le_refl->X,zero_le->aF
open _root_.Option renaming none->U,some->aB
namespace Go.Proofs.YtghlpefopidlaaaGreat
namespace Fl
open Go.RowKit Go.Sort Rw YtghlpefopidlaaaGreat.Nm Pr Bk Av Rl Sb
structure YC (b:Br) (f:Int) (p:List C5):Prop where
 few:xR b
 oD:mq b
 ok:gP b
 ls:b.seen.length<=899
 la:b.dW.length<=899
 lo:b.ent.length+b.own.length<=900
 pe:∀ e∈b.ent,dN e.p
 po:∀ o∈b.own,dN o.p
 pp:dN p
 co:mQ b.near f=true
 rp:Wr.gX p=true
structure Cut (b c:Br) (t:dV) (f:Int):Prop where
 dW:YC c f []
 none_:fM c.dW t=U
 un:UC c f t=(c,[])
 anew:aax c f t []=(c,[])
 len:c.dW.length+1=b.dW.length
 br:kK c.ent t=[]
 seen:t∈c.seen
 mem:∀ e∈b.ent,e.tree≠t->e∈c.ent
structure abq (b:Br):Prop where
 few:xR b
 oD:mq b
 ok:gP b
 pe:∀ e∈b.ent,dN e.p
end Fl
namespace Rt
open Go.RowKit Go.Sort Rw YtghlpefopidlaaaGreat.Nm Pr Bk Av Rl Sb Fl
structure Kept (b:Br) (c:Br):Prop where
 me:c.me=b.me
 near:c.near=b.near
 dW:c.dW=b.dW
 seen:c.seen=b.seen
theorem zR (b:Br) (x:dV) (p:List C5):Kept b (iX b x p).1:=by
 unfold iX
 split
 ·exact⟨rfl,rfl,rfl,rfl⟩
 ·obtain⟨h1,_,_⟩:=pF (b0:=ownIn b x p) (o0:=[]) (fun a=>jQ p a.p) (fun a=>nJ x p a) (fun a=>a.par) (fun _=>True) (fun _ _=>trivial) (fun _ _ _=>trivial) b.dW.length (X _);exact⟨h1.me,h1.near,h1.dW,h1.seen⟩
theorem uz (b:Br) (x:dV):Kept b (fB b x).1:=by
 unfold fB
 split
 ·exact⟨rfl,rfl,rfl,rfl⟩
 ·obtain⟨h1,_⟩:=nI b x b.dW.length (X _);exact⟨h1.me,h1.near,h1.dW,h1.seen⟩
theorem zS (b:Br) (f:Int) (t x:dV) (p:List C5):Kept b (iG b f t x p).1:=by
 rw [ko];obtain⟨h1,h2,h3,h4,_⟩:=lC b ⟨t,x,p,f,false⟩;exact⟨h1,h2,h3,h4⟩
theorem zT (b:Br) (t x:dV) (f:Int):Kept b (gW b t x f).1:=by
 rw [iM];obtain⟨h1,h2,h3,h4,_⟩:=lF b t x f;exact⟨h3,h2,h1,h4⟩
structure Bd (R:dV->List C5->Prop) (s:Br×List Ou):Prop where
 ent:∀ e∈s.1.ent,R e.sub e.p
 out:∀ o∈s.2,R o.id o.p
theorem D8 {b:Br} {R:dV->List C5->Prop} (h:∀ e∈b.ent,R e.sub e.p) (e:En) (he:R e.sub e.p):∀ z∈(gY b e).1.ent,R z.sub z.p:=Dk (fun z=>R z.sub z.p) h fun _=>he
theorem zU {b:Br} {R:dV->List C5->Prop} (h:∀ e∈b.ent,R e.sub e.p) (f:Int) (t x:dV) (p:List C5) (hx:R x p):Bd R (iG b f t x p):=by
 refine⟨by rw [ko]; exact D8 h _ hx,?_⟩;unfold iG
 split
 ·exact fun o ho=>by simp at ho
 ·split
  ·exact fun o ho=>by simp at ho
  ·intro o ho;rw [ah.1 ho];exact hx
theorem tQ {b:Br} {R:dV->List C5->Prop} (h:∀ e∈b.ent,R e.sub e.p) (t x:dV) (f:Int) (hx:R x []):Bd R (gW b t x f):=by
 obtain⟨h1,h2⟩:=tq t x f (fun e=>R e.sub e.p) (fun _ _ q=>q) h;refine⟨by rw [iM]; exact h1,?_⟩;unfold gW
 split
 ·exact fun o ho=>by simp at ho
 ·split
  ·exact fun o ho=>by simp at ho
  ·intro o ho;rcases ay.1 ho with ho|ho
   ·obtain⟨e,he,rfl⟩:=List.mem_map.1 ho;exact h2 e he
   ·rw [ah.1 ho];exact hx
theorem zV {b:Br} {R:dV->List C5->Prop} (h:∀ e∈b.ent,R e.sub e.p) (x:dV) (p:List C5) (hx:R x p):Bd R (iX b x p):=by
 have key:∀ k,k<=b.dW.length->Bd R (iy b.dW (kQ x p) (ownIn b x p,[]) k):=by
  intro k
  induction k with
  | zero=>exact fun _=>⟨h,fun o ho=>by simp [iy] at ho⟩
  | succ k ih =>
   intro hk;obtain⟨a,ha⟩:∃ a,b.dW[k]?=aB a:=⟨_,au hk⟩;rw [om _ _ ha];have hi:=ih (by omega);generalize iy b.dW (kQ x p) (ownIn b x p,[]) k=s at *;show Bd R (gH _ _ _ _);unfold gH
   split
   ·exact hi
   ·refine⟨D8 hi.ent _ hx,?_⟩;dsimp only
    split
    ·intro o ho;rcases ay.1 ho with ho|ho
     ·exact hi.out o ho
     ·rw [ah.1 ho];exact hx
    ·exact hi.out
 unfold iX
 split
 ·exact⟨h,fun o ho=>by simp at ho⟩
 ·exact key _ (X _)
theorem uD {b:Br} {R:dV->List C5->Prop} (h:∀ e∈b.ent,R e.sub e.p) (x:dV) (hx:R x []):Bd R (fB b x):=by
 have key:∀ k,k<=b.dW.length->Bd R (gy b x k):=by
  intro k
  induction k with
  | zero=>exact fun _=>⟨h,fun o ho=>by simp [gy] at ho⟩
  | succ k ih =>
   intro hk;obtain⟨a,ha⟩:∃ a,b.dW[k]?=aB a:=⟨_,au hk⟩;rw [jC b x ha];have hi:=ih (by omega);have hd:=tQ hi.ent a.id x (-1) hx;refine⟨hd.ent,fun o ho=>?_⟩;rcases ay.1 (show o∈(gy b x k).2++(gW (gy b x k).1 a.id x (-1)).2 from ho) with ho|ho
   ·exact hi.out o ho
   ·exact hd.out o ho
 unfold fB
 split
 ·exact⟨h,fun o ho=>by simp at ho⟩
 ·exact key _ (X _)
structure After (b:Br) (s:Br×List Ou):Prop where
 nice:abq s.1
 tight:iL s.1
 out:s.2.length<=1000000/\∀ o∈s.2,o.p.length<=1000
 me:s.1.me=b.me
theorem sj {b:Br} {s:Br×List Ou} {n m:Nat} (hk:Kept b s.1) (hl:Lens b s n m) (hf:xR b) (hfp:mq b) (he:b.ent.length+n<=900) (ho:b.own.length<=899) (hm:m<=1000000) (hr:Bd (fun _ p=>dN p) s) (hw:∀ o∈s.1.own,o.p.length<=900) (hok:gP s.1) (ht:iL s.1):After b s :=
 ⟨⟨⟨by rw [hk.near]; exact hf.near,by rw [hk.dW]; exact hf.dW,by rw [hk.seen]; exact hf.seen,O hl.ent he,O hl.own (by omega)⟩,⟨by rw [hk.dW]; exact hfp.dW,fun e q=>fT (hr.ent e q),hw⟩,hok,hr.ent⟩,ht,⟨O hl.out hm,fun o q=>O (Z (hr.out o q)) (by decide)⟩,hk.me⟩
theorem Bf:dN []:=⟨[],⟨List.Pairwise.nil,by simp,by simp,by simp⟩,rfl⟩
theorem Ov {b:Br} {x:dV} {p:List C5}:∀ o∈(iX b x p).1.own,o=⟨x,p⟩\/o∈b.own:=by
 unfold iX
 split
 ·exact fun o ho=>Or.inr ho
 ·obtain⟨h1,_,_⟩:=pF (b0:=ownIn b x p) (o0:=[]) (fun a=>jQ p a.p) (fun a=>nJ x p a) (fun a=>a.par) (fun _=>True) (fun _ _=>trivial) (fun _ _ _=>trivial) b.dW.length (X _);rw [h1.own];exact fun o ho=>(jf _ _ _ _).1 ho
theorem Gi {b:Br} {x:dV}:∀ o∈(fB b x).1.own,o∈b.own:=by
 unfold fB
 split
 ·exact fun o ho=>ho
 ·obtain⟨h1,_⟩:=nI b x b.dW.length (X _);rw [h1.own];exact fun o ho=>(List.mem_filter.1 ho).1
structure YD (b:Br):Prop where
 rt:Ba b
 lo:b.own.length<=899
 le:b.ent.length<=899
 tight:iL b
theorem Gj {b:Br} (h:YD b) (x:dV) {p:List C5} (pp:dN p) (rq:Wr.gX p=true):After b (iX b x p) :=
 sj (zR b x p) (Dq b x p) h.rt.few h.rt.oD h.rt.lo h.lo (O h.rt.few.dW (by decide)) (zV h.rt.pe x p pp) (fun o ho=>by
  rcases Ov o ho with rfl|ho
  ·exact fT pp
  ·exact h.rt.oD.own o ho) (QH h.rt.ok x p rq) (FK h.rt.ok h.tight x p rq)
theorem Bg {b:Br} (h:YD b) (x:dV):After b (fB b x) :=
 sj (uz b x) (wJ b x) h.rt.few h.rt.oD (by have:=h.le; omega) h.lo (by have h1:=h.rt.few.dW; have h2:=h.rt.few.ent; have h3:b.dW.length * (b.ent.length+1)<=900 * 901:=Nat.mul_le_mul h1 (by omega); omega) (uD h.rt.pe x Bf) (fun o ho=>h.rt.oD.own o (Gi o ho)) (JL h.rt.ok x) (AO h.tight x)
theorem Gl {b:Br} (h:YD b) (f:Int) (t x:dV) {p:List C5} (pp:dN p) (rq:Wr.gX p=true) (hc:mQ b.near f=true):After b (iG b f t x p) :=
 sj (zS b f t x p) (Dt b f t x p) h.rt.few h.rt.oD (by have:=h.le; omega) h.lo (by decide) (zU h.rt.pe f t x p pp) (fun o ho=>h.rt.oD.own o (by rw [ko,(lC b _).2.2.2.2] at ho; exact ho)) (by rw [ko]; exact Fw h.rt.ok _ hc rq) (by rw [ko]; exact sV h.rt.ok _ h.tight)
theorem after_drop {b:Br} (h:YD b) (t x:dV) (f:Int):After b (gW b t x f) :=
 sj (zT b t x f) (Dr b t x f) h.rt.few h.rt.oD (by have:=h.le; omega) h.lo (by have:=h.rt.few.ent; omega) (tQ h.rt.pe t x f Bf) (fun o ho=>h.rt.oD.own o (by rw [iM,(lF b t x f).2.2.2.2] at ho; exact ho)) (Hy h.rt.ok t x f) (by rw [iM]; exact qO t x f h.tight)
structure KA (k:Nat) (b:Br) (A:Up):Prop where
 ab:Ky b A
 rt:YD b
 ok:∀ e∈b.ent,qM e.sub
 le:b.ent.length<=k
 lo:b.own.length<=k
structure VN (k:Nat) (A:Up) (s:Br×List Ou) (A':Up):Prop where
 st:KA (k+1) s.1 A'
 said:Said A s.2 A'
 len:s.2.length<=10000
 ids:∀ o∈s.2,qM o.id
theorem KA.one {k:Nat} {b:Br} {A:Up} (h:KA k b A):b.dW.length=1:=by rw [h.ab.e.dW]; rfl
theorem Q9:KA 0 QJ [] :=
 ⟨QK,⟨⟨⟨by simp,by simp,by simp,by simp,by simp⟩,⟨by simp,by simp,by simp⟩,AP.ok,by simp,fun a h=>(by
   obtain rfl:=ah.1 h;exact Bf),by simp⟩,by simp,by simp,AP.tight⟩,by simp,by simp,by simp⟩
theorem Bh {b:Br} {A A':Up} {k n m:Nat} {s:Br×List Ou} (h:KA k b A) (hk:k<15) (ha:After b s) (hK:Kept b s.1) (hl:Lens b s n m) (hn:n<=1) (hm:m<=10000) (hr:Bd (fun x _=>qM x) s) (h1:Ky s.1 A') (h2:Said A s.2 A'):VN k A s A':=by
 have e1:=hl.ent;have e2:=hl.own;have e3:=h.le;have e4:=h.lo;refine⟨⟨h1,⟨⟨ha.nice.few,ha.nice.oD,ha.nice.ok,?_,fun a q=>?_,ha.nice.pe⟩,by omega,by omega,ha.tight⟩,hr.ent,by omega,by omega⟩,h2,O hl.out hm,hr.out⟩
 ·have:=h.one;rw [<- hK.dW] at this;omega
 ·rw [hK.dW] at q;exact h.rt.rt.pa a q
theorem U8 {b:Br} {A:Up} {k:Nat} (h:KA k b A) (hk:k<15) {x:dV} (hx:qM x) (hx3:x.1<=3) {p:List C5} (pp:dN p) (rq:Wr.gX p=true):∃ A',VN k A (iX b x p) A':=by
 obtain⟨A',h1,h2⟩:=QL h.ab hx3 pp rq;exact⟨A',Bh h hk (Gj h.rt x pp rq) (zR b x p) (Dq b x p) (by rw [h.one]; exact X _) (by rw [h.one]; omega) (zV (R:=fun x _=>qM x) h.ok x p hx) h1 h2⟩
theorem Ox {b:Br} {A:Up} {k:Nat} (h:KA k b A) (hk:k<15) {x:dV} (hx:qM x):∃ A',VN k A (fB b x) A':=by
 obtain⟨A',h1,h2⟩:=JW h.ab x;have:=h.le;exact⟨A',Bh h hk (Bg h.rt x) (uz b x) (wJ b x) (aF _) (by rw [h.one]; omega) (uD (R:=fun x _=>qM x) h.ok x hx) h1 h2⟩
theorem Rb {b:Br} {A:Up} {k:Nat} (h:KA k b A) (hk:k<15) {x:dV} (hx:qM x) (VK:8<=x.1) {f:Int} (hf:f=2\/f=3) {p:List C5} (pp:dN p) (rq:Wr.gX p=true):∃ A',VN k A (iG b f (1,0) x p) A':=by
 obtain⟨A',h1,h2⟩:=Nk h.ab hf VK pp rq;exact⟨A',Bh h hk (Gl h.rt f (1,0) x pp rq (by rw [h.ab.e.near]; rcases hf with rfl | rfl <;> rfl)) (zS b f (1,0) x p) (Dt b f (1,0) x p) (X _) (by decide) (zU (R:=fun x _=>qM x) h.ok f (1,0) x p hx) h1 h2⟩
theorem Rc {b:Br} {A:Up} {k:Nat} (h:KA k b A) (hk:k<15) {x:dV} (hx:qM x) {f:Int} (hf:f=2\/f=3):∃ A',VN k A (gW b (1,0) x f) A':=by
 obtain⟨A',h1,h2⟩:=Nj h.ab (x:=x) hf;have:=h.le;exact⟨A',Bh h hk (after_drop h.rt (1,0) x f) (zT b (1,0) x f) (Dr b (1,0) x f) (aF _) (by omega) (tQ (R:=fun x _=>qM x) h.ok (1,0) x f hx) h1 h2⟩
theorem uE (z:Int):bits aC L z 1=0\/bits aC L z 1=1:=by
 have e:bits aC L z 1=IntKind.i64.wrap ((aj 64 z &&& aj 64 1).toNat:Int):=rfl;have h:(aj 64 z &&& aj 64 1).toNat=(aj 64 z).toNat % 2:=by
  rw [BitVec.toNat_and,show (aj 64 1).toNat=1 from by decide,Nat.and_one_is_mod]
 rw [e,h,IntWalk.i64_in _ (by omega)];omega
end Rt
namespace Rt
open Go.RowKit Go.Sort Rw YtghlpefopidlaaaGreat.Nm Pr Bk Av Rl Sb Fl
open Go.Maps Go.ChangeMaps
def VO:List Nat->Code->Code
 | 1::l,.seq a _=>VO l a
 | 2::l,.seq _ b=>VO l b
 | 3::l,.block _ c=>VO l c
 | 4::l,.loop c=>VO l c
 | _,c=>c
noncomputable def Bj:Code:=VO [2,2,2,2,2,1,2,3,4,2,1,3,2,2,2,2,2] (Tryz.f5.body.getD .skip)
theorem uT (Q:Exit->Act->aG->Prop) (w W:aG) (bM bT bB k:Nat) (b:Br) (A A':Up) (l:List Ou) (n:Nat) (o1:Option aA) (o2 o3:Nat) (s1:Option aA) (s2 s3:Nat) (s4:Option aA) (s5 s6:Nat) (s7:Option aA) (s8 s9:Nat) (s10:Option aA) (s11 s12:Nat) (s13:Option aA) (s14 s15:Nat) (u0 u1 u2 u5 u7 u8 u9 u10 u12 u13 u14 u15 u16 u17 u18 u19 u20 u21 u22 u23 u24 u25 u26 u27 u28 u29 u30 u31 u32 u33 u34 u35 u36 u37 u38 u39 u40 u41 u42 u43 u44 u45 u46 u47 u48 u49 u50 u51 u52 u53 u54 u55 u56 u57 u58 u59 u60 u61 u62 u63 u64 u65 u66 u67 u68 u69 u70 u71 u72 u73 u74 u75 u76 u77 u78 u79 u80 u81 u82 u83 u84 u85 u86 u87 u88 u89 u90 u91 u92 u93 u94 u95 u96 u97 u98 u99 u100 u101 u102 u103 u104 u105 u106 u107 u108 u109 u110 u111 u112 u113 u114 u115 u116 u117 u118 u119 u120 u121 u122 u123 u124 u125 u126 u127 u128 u129 u130 u131 u132 u133 u134 u135 u136 u137 u138 u139 u140 u141 u142 u143 u144 u145 u146 u147 u148 u149 u150 u151 u152 u153 u154 u155 u156 u157 u158 u159 u160 u161 u162 u163 u164 u165 u166 u167 u168 u169 u170 u171 u172 u173 u174 u175 u176 u177 u178 u179 u180 u181 u182 u183 u184 u185 u186 u187 u188 u189 u190 u191 u192 u193 u194 u195 u196 u197 u198 u199 u200 u201 u202 u203 u204 u205 u206 u207 u208 u209 u210 u211 u212 u213 u214 u215 u216 u217 u218 u219 u220 u221 u222 u223 u224 u225 u226 u227 u228 u229 u230 u231 u232 u233 u234 u235 u236 u237 u238 u239 u240 u241 u242:aH)
  (gb:Below w.heap.size w W) (gM:w.heap.size<=bM) (xt:dG W bT #[V L 1,V L 0] 23) (xb:dG W bB #[V L 0,J s1 s2 s3,J s4 s5 s6,J s7 s8 s9,J s10 s11 s12,J s13 s14 s15] 30) (bn:mR W b (s1,s2,s3) (s4,s5,s6) (s7,s8,s9) (s10,s11,s12) (s13,s14,s15)) (ou:lM W (o1,o2,o3) l) (um:iq W bM A) (up:Nl A n) (hn:n<=900) (an:VN k A (b,l) A') (hk:k<15)
  (hQ:∀ (x:aG) (v2 v13 v14 v15 v17 v18 v20 v22 v23 v25 v26 v27 v119 v120 v121 v122 v123 v124 v125 v126 v127 v128 v129 v130 v131 v132 v133 v134 v135 v136 v137 v138 v139 v140 v141 v142 v143 v144 v145 v146 v147 v148 v149 v150 v151 v152 v153 v154 v155 v156 v157 v158 v159 v160 v161 v162 v163 v164 v165 v166 v167 v168 v169 v170 v171 v172 v173 v174 v175 v176 v177 v178 v179 v180 v181 v182 v183 v184 v185 v186 v187 v188 v189 v190 v191 v192 v193 v194 v195 v196 v197 v198 v199 v200 v201 v202 v203 v204 v205 v206 v207 v208 v209 v210 v211 v212 v213 v214 v215 v216 v217 v218 v219 v220 v221 v222 v223 v224 v225 v226 v227 v228 v229 v230 v231 v232 v233:aH),Below w.heap.size w x->dG x bT #[V L 1,V L 0] 23->dG x bB #[V L 0,J s1 s2 s3,J s4 s5 s6,J s7 s8 s9,J s10 s11 s12,J s13 s14 s15] 30->mR x b (s1,s2,s3) (s4,s5,s6) (s7,s8,s9) (s10,s11,s12) (s13,s14,s15)->iq x bM A'->Q .normal ⟨(u0::u1::v2::Y (aB ⟨bT,0,U⟩)::Y (aB ⟨bB,0,U⟩)::u5::.map (aB bM)::u7::u8::u9::u10::J o1 o2 o3::u12::v13::v14::v15::u16::v17::v18::u19::v20::u21::v22::v23::u24::v25::v26::v27::u28::u29::u30::u31::u32::u33::u34::u35::u36::u37::u38::u39::u40::u41::u42::u43::u44::u45::u46::u47::u48::u49::u50::u51::u52::u53::u54::u55::u56::u57::u58::u59::u60::u61::u62::u63::u64::u65::u66::u67::u68::u69::u70::u71::u72::u73::u74::u75::u76::u77::u78::u79::u80::u81::u82::u83::u84::u85::u86::u87::u88::u89::u90::u91::u92::u93::u94::u95::u96::u97::u98::u99::u100::u101::u102::u103::u104::u105::u106::u107::u108::u109::u110::u111::u112::u113::u114::u115::u116::u117::u118::v119::v120::v121::v122::v123::v124::v125::v126::v127::v128::v129::v130::v131::v132::v133::v134::v135::v136::v137::v138::v139::v140::v141::v142::v143::v144::v145::v146::v147::v148::v149::v150::v151::v152::v153::v154::v155::v156::v157::v158::v159::v160::v161::v162::v163::v164::v165::v166::v167::v168::v169::v170::v171::v172::v173::v174::v175::v176::v177::v178::v179::v180::v181::v182::v183::v184::v185::v186::v187::v188::v189::v190::v191::v192::v193::v194::v195::v196::v197::v198::v199::v200::v201::v202::v203::v204::v205::v206::v207::v208::v209::v210::v211::v212::v213::v214::v215::v216::v217::v218::v219::v220::v221::v222::v223::v224::v225::v226::v227::v228::v229::v230::v231::v232::v233::u234::u235::u236::u237::u238::u239::u240::u241::u242::[]).toArray,[]⟩ x) :
  Code.wp Tryz.prog Bj Q ⟨(u0::u1::u2::Y (aB ⟨bT,0,U⟩)::Y (aB ⟨bB,0,U⟩)::u5::.map (aB bM)::u7::u8::u9::u10::J o1 o2 o3::u12::u13::u14::u15::u16::u17::u18::u19::u20::u21::u22::u23::u24::u25::u26::u27::u28::u29::u30::u31::u32::u33::u34::u35::u36::u37::u38::u39::u40::u41::u42::u43::u44::u45::u46::u47::u48::u49::u50::u51::u52::u53::u54::u55::u56::u57::u58::u59::u60::u61::u62::u63::u64::u65::u66::u67::u68::u69::u70::u71::u72::u73::u74::u75::u76::u77::u78::u79::u80::u81::u82::u83::u84::u85::u86::u87::u88::u89::u90::u91::u92::u93::u94::u95::u96::u97::u98::u99::u100::u101::u102::u103::u104::u105::u106::u107::u108::u109::u110::u111::u112::u113::u114::u115::u116::u117::u118::u119::u120::u121::u122::u123::u124::u125::u126::u127::u128::u129::u130::u131::u132::u133::u134::u135::u136::u137::u138::u139::u140::u141::u142::u143::u144::u145::u146::u147::u148::u149::u150::u151::u152::u153::u154::u155::u156::u157::u158::u159::u160::u161::u162::u163::u164::u165::u166::u167::u168::u169::u170::u171::u172::u173::u174::u175::u176::u177::u178::u179::u180::u181::u182::u183::u184::u185::u186::u187::u188::u189::u190::u191::u192::u193::u194::u195::u196::u197::u198::u199::u200::u201::u202::u203::u204::u205::u206::u207::u208::u209::u210::u211::u212::u213::u214::u215::u216::u217::u218::u219::u220::u221::u222::u223::u224::u225::u226::u227::u228::u229::u230::u231::u232::u233::u234::u235::u236::u237::u238::u239::u240::u241::u242::[]).toArray,[]⟩ W:=by
 have HQ:=D hQ;have AN:=D an;have UP:=D up;have HN:=D hn;have GM:=D gM;have HK:=D hk;have jH:=D (gb);have Kj:=D (xt);have YE:=D (xb);have YG:=D (bn);have YH:=D (ou);have YI:=D (um);clear hQ an up hn gM hk gb xt xb bn ou um;unfold Bj
 conv=>arg 2; whnf
 have AE:=D AN.out.st.ab.e;have LE9:=D (show b.ent.length<=900 from O AN.out.st.le (by have:=HK.out; omega))
 go_upto_block 3 with fail
 refine Yk _ w W bM bT bB b A A' l n o1 o2 o3 s1 s2 s3 s4 s5 s6 s7 s8 s9 s10 s11 s12 s13 s14 s15 _ _ _ _ _ _ _ _ _ _ _ _ _ _ _ _ _ _ _ _ _ _ _ _ _ _ _ _ _ _ _ _ _ _ _ _ _ _ _ _ _ _ _ _ _ _ _ _ _ _ _ _ _ _ _ _ _ _ _ _ _ _ _ _ _ _ _ _ _ _ _ _ _ _ _ _ _ _ _ _ _ _ _ _ _ _ _ _ _ _ _ _ _ _ _ _ _ _ _ _ _ _ _ _ _ _ _ _ _ _ _ _ _ _ _ _ _ _ _ _ _ _ _ _ _ _ _ _ _ _ _ _ _ _ _ _ _ _ _ _ _ _ _ _ _ _ _ _ _ _ _ _ _ _ _ _ _ _ _ _ _ _ _ _ _ _ _ _ _ _ _ _ _ _ _ _ _ _ _ _ _ _ _ _ _ _ _ _ _ _ _ _ _ _ _ _ _ _ _ _ _ _ _ _ _ _ _ _ _ _ _ _ _ _ _ _ _ _ _ _ _ _ _ _ _ _ _ _ _ _ _ _ _ _ _ _ _ jH.out GM.out Kj.out YE.out YG.out YH.out YI.out AN.out.said UP.out HN.out AN.out.len AN.out.ids AE.out LE9.out ?_;intro x v2 v13 v14 v15 v17 v18 v20 v121 v122 v123 v124 v125 v126 v127 v128 v129 v130 v131 v132 v133 v134 v135 v136 v137 v138 v139 v140 v141 v142 v143 v144 v145 v146 v147 v148 v149 v150 v151 v152 v153 v154 v155 v156 v157 v158 v159 v160 v161 v162 v163 v164 v165 v166 v167 v168 v169 v170 v171 v172 v173 v174 v175 v176 v177 v178 v179 v180 v181 v182 v183 v184 v185 v186 v187 v188 v189 v190 v191 v192 v193 v194 v195 v196 hgb hxt hxb hbn Bc;clear jH Kj YE YG YH YI;have tN:=D (hgb);have U9:=D (hxt);have Vb:=D (hxb);have Oy:=D (hbn);have SN:=D (Bc);clear hgb hxt hxb hbn Bc;obtain⟨lN,lQ,lS,lT,lU,lV⟩:=Vb.out.ig;obtain⟨Kh,Ki⟩:=U9.out.cs2;obtain⟨le,hle1,hle2⟩:=Oy.out.br.ent;have OF:=vT 0 (J s1 s2 s3) (J s4 s5 s6) (J s7 s8 s9) (J s13 s14 s15) (s10,s11,s12) le b.ent (1,0) x hle1 hle2 AE.out.ok.ent (by rw [hle2.len]; exact LE9.out) (fun e he=>O (Z (AE.out.pe e he)) (by decide));rw [AE.out.br] at OF;have OF:=D OF;clear hle1 hle2;go_wp2_with fail;refine OF.out.mono ?_;rintro e5 wc ⟨⟨⟨e1,e2,e3⟩,lu,rfl,Oi,Oj⟩,hb⟩;clear OF;clear lN lQ lS lT lU lV Kh Ki;have Oz:=D (tN.out.trans (hb.mono tN.out.size));have qG:=D (U9.out.on hb);have rW:=D (Vb.out.on hb);have uF:=D (Oy.out.on hb);have OD:=D (SN.out.on hb);clear tN U9 Vb Oy SN
 go_upto_block 9 with fail
 have LE:=D (show e2<=1000 from by
  have h3:lu.length=e2:=gZ Oi;rw [<- h3,Oj.len]; exact O LE9.out (by decide))
 refine YA _ wc bM A' e1 e2 e3 lu b.ent _ _ _ _ _ _ _ _ _ _ _ _ _ _ _ _ _ _ _ _ _ _ _ _ _ _ _ _ _ _ _ _ _ _ _ _ _ _ _ _ _ _ _ _ _ _ _ _ _ _ _ _ _ _ _ _ _ _ _ _ _ _ _ _ _ _ _ _ _ _ _ _ _ _ _ _ _ _ _ _ _ _ _ _ _ _ _ _ _ _ _ _ _ _ _ _ _ _ _ _ _ _ _ _ _ _ _ _ _ _ _ _ _ _ _ _ _ _ _ _ _ _ _ _ _ _ _ _ _ _ _ _ _ _ _ _ _ _ _ _ _ _ _ _ _ _ _ _ _ _ _ _ _ _ _ _ _ _ _ _ _ _ _ _ _ _ _ _ _ _ _ _ _ _ _ _ _ _ _ _ _ _ _ _ _ _ _ _ _ _ _ _ _ _ _ _ _ _ _ _ _ _ _ _ _ _ _ _ _ _ _ _ _ _ _ _ _ _ _ _ _ _ _ _ _ _ _ _ _ _ _ _ _ _ _ _ _ _ _ OD.out AE.out.pA Oi Oj LE.out AE.out.pe (fun e he=>⟨Oe (AE.out.cov he),AN.out.st.ok e he,?_⟩) ?_
 ·cases hu:e.up with
  | true=>exact decide_eq_true ((AE.out.JM he).2 hu)
  | false=>exact decide_eq_false (fun q=>by rw [(AE.out.JM he).1 q] at hu; cases hu)
 intro wd v2_ v22_ v23_ v25_ v26_ v27_ v201_ v202_ v203_ v204_ v205_ v206_ v207_ v208_ v209_ v210_ v211_ v212_ v213_ v214_ v215_ v216_ v217_ v218_ v219_ v220_ v221_ v222_ v223_ v224_ v225_ v226_ v227_ v228_ v229_ v230_ v231_ v232_ v233_ VP;have wU:=D (Oz.out.trans (VP.mono Oz.out.size));have YJ:=D (qG.out.on VP);have DW:=D (rW.out.on VP);have YK:=D (uF.out.on VP);have pR:=D (OD.out.on VP);clear Oz qG rW uF OD;clear Oi Oj hb VP;exact HQ.out wd _ _ _ _ _ _ _ _ _ _ _ _ _ _ _ _ _ _ _ _ _ _ _ _ _ _ _ _ _ _ _ _ _ _ _ _ _ _ _ _ _ _ _ _ _ _ _ _ _ _ _ _ _ _ _ _ _ _ _ _ _ _ _ _ _ _ _ _ _ _ _ _ _ _ _ _ _ _ _ _ _ _ _ _ _ _ _ _ _ _ _ _ _ _ _ _ _ _ _ _ _ _ _ _ _ _ _ _ _ _ _ _ _ _ _ _ _ _ _ _ _ _ _ _ _ _ _ wU.out YJ.out DW.out YK.out pR.out
noncomputable def Vd:Code:=VO [2,2,2,2,2,1,2,3,4,2,1,3,2,2,2,2] (Tryz.f5.body.getD .skip)
theorem Ve {z:Int} (h1:0<=z) (h2:z<=3):z=0\/z=1\/z=2\/z=3:=by omega
theorem abt (Q:Exit->Act->aG->Prop) (w W0 W:aG) (bM bT bB bS bX fl k:Nat) (b:Br) (A:Up) (z0 z1 z2 z3 z4 x1 x2:Int) (h1:Option aA) (h2 h3:Nat) (g1:Option aA) (g2 g3:Nat) (po:Option aA) (pn pc:Nat) (p:List C5) (s1:Option aA) (s2 s3:Nat) (s4:Option aA) (s5 s6:Nat) (s7:Option aA) (s8 s9:Nat) (s10:Option aA) (s11 s12:Nat) (s13:Option aA) (s14 s15:Nat) (u0 u1 u2 u5 u7 u12 u13 u14 u15 u16 u17 u18 u19 u20 u21 u22 u23 u24 u25 u26 u27 u28 u29 u30 u31 u32 u33 u34 u35 u36 u37 u38 u39 u40 u41 u42 u43 u44 u45 u46 u47 u48 u49 u50 u51 u52 u53 u54 u55 u56 u57 u58 u59 u60 u61 u62 u63 u64 u65 u66 u67 u68 u69 u70 u71 u72 u73 u74 u75 u76 u77 u78 u79 u80 u81 u82 u83 u84 u85 u86 u87 u88 u89 u90 u91 u92 u93 u94 u95 u96 u97 u98 u99 u100 u101 u102 u103 u104 u105 u106 u107 u108 u109 u110 u111 u112 u113 u114 u115 u116 u117 u118 u119 u120 u121 u122 u123 u124 u125 u126 u127 u128 u129 u130 u131 u132 u133 u134 u135 u136 u137 u138 u139 u140 u141 u142 u143 u144 u145 u146 u147 u148 u149 u150 u151 u152 u153 u154 u155 u156 u157 u158 u159 u160 u161 u162 u163 u164 u165 u166 u167 u168 u169 u170 u171 u172 u173 u174 u175 u176 u177 u178 u179 u180 u181 u182 u183 u184 u185 u186 u187 u188 u189 u190 u191 u192 u193 u194 u195 u196 u197 u198 u199 u200 u201 u202 u203 u204 u205 u206 u207 u208 u209 u210 u211 u212 u213 u214 u215 u216 u217 u218 u219 u220 u221 u222 u223 u224 u225 u226 u227 u228 u229 u230 u231 u232 u233 u234 u235 u236 u237 u238 u239 u240 u241 u242:aH)
  (gb:Below w.heap.size w W0) (h0:Below W0.heap.size W0 W) (hbX:W0.heap.size<=bX) (gM:w.heap.size<=bM) (gB:w.heap.size<=bB) (xt:dG W0 bT #[V L 1,V L 0] 23) (xb:dG W0 bB #[V L 0,J s1 s2 s3,J s4 s5 s6,J s7 s8 s9,J s10 s11 s12,J s13 s14 s15] 30) (bn:mR W0 b (s1,s2,s3) (s4,s5,s6) (s7,s8,s9) (s10,s11,s12) (s13,s14,s15)) (um:iq W0 bM A) (xs:dG W bS #[V L z0,V L z1,V L z2,V L z3,V L z4,J h1 h2 h3,J g1 g2 g3] 63) (xx:dG W bX #[V L x1,V L x2] 23) (oc:iE W fl (J po pn pc) p) (pp:dN p) (rq:Wr.gX p=true) (hz:-9223372036854775808<=z0/\z0<=9223372036854775807) (hx:(0<=x1/\x1<=3)/\0<=x2/\x2<=1) (ab:KA k b A) (hk:k<15)
  (hQ:∀ (x:aG) (b':Br) (A':Up) (m1:Option aA) (m2 m3:Nat) (m4:Option aA) (m5 m6:Nat) (m7:Option aA) (m8 m9:Nat) (m10:Option aA) (m11 m12:Nat) (m13:Option aA) (m14 m15:Nat) (v2 v11 v13 v14 v15 v17 v18 v20 v22 v23 v25 v26 v27 v64 v65 v66 v67 v68 v69 v70 v71 v72 v73 v74 v75 v76 v77 v78 v79 v80 v81 v82 v83 v84 v85 v86 v87 v88 v89 v90 v91 v92 v93 v94 v95 v96 v97 v98 v99 v100 v101 v102 v103 v104 v105 v106 v107 v108 v109 v110 v111 v112 v113 v114 v115 v116 v117 v118 v119 v120 v121 v122 v123 v124 v125 v126 v127 v128 v129 v130 v131 v132 v133 v134 v135 v136 v137 v138 v139 v140 v141 v142 v143 v144 v145 v146 v147 v148 v149 v150 v151 v152 v153 v154 v155 v156 v157 v158 v159 v160 v161 v162 v163 v164 v165 v166 v167 v168 v169 v170 v171 v172 v173 v174 v175 v176 v177 v178 v179 v180 v181 v182 v183 v184 v185 v186 v187 v188 v189 v190 v191 v192 v193 v194 v195 v196 v197 v198 v199 v200 v201 v202 v203 v204 v205 v206 v207 v208 v209 v210 v211 v212 v213 v214 v215 v216 v217 v218 v219 v220 v221 v222 v223 v224 v225 v226 v227 v228 v229 v230 v231 v232 v233:aH),KA (k+1) b' A'->Below w.heap.size w x->dG x bT #[V L 1,V L 0] 23->dG x bB #[V L 0,J m1 m2 m3,J m4 m5 m6,J m7 m8 m9,J m10 m11 m12,J m13 m14 m15] 30->mR x b' (m1,m2,m3) (m4,m5,m6) (m7,m8,m9) (m10,m11,m12) (m13,m14,m15)->iq x bM A'->Q .normal ⟨(u0::u1::v2::Y (aB ⟨bT,0,U⟩)::Y (aB ⟨bB,0,U⟩)::u5::.map (aB bM)::u7::Y (aB ⟨bS,0,U⟩)::Y (aB ⟨bX,0,U⟩)::J po pn pc::v11::u12::v13::v14::v15::u16::v17::v18::u19::v20::u21::v22::v23::u24::v25::v26::v27::u28::u29::u30::u31::u32::u33::u34::u35::u36::u37::u38::u39::u40::u41::u42::u43::u44::u45::u46::u47::u48::u49::u50::u51::u52::u53::u54::u55::u56::u57::u58::u59::u60::u61::u62::u63::v64::v65::v66::v67::v68::v69::v70::v71::v72::v73::v74::v75::v76::v77::v78::v79::v80::v81::v82::v83::v84::v85::v86::v87::v88::v89::v90::v91::v92::v93::v94::v95::v96::v97::v98::v99::v100::v101::v102::v103::v104::v105::v106::v107::v108::v109::v110::v111::v112::v113::v114::v115::v116::v117::v118::v119::v120::v121::v122::v123::v124::v125::v126::v127::v128::v129::v130::v131::v132::v133::v134::v135::v136::v137::v138::v139::v140::v141::v142::v143::v144::v145::v146::v147::v148::v149::v150::v151::v152::v153::v154::v155::v156::v157::v158::v159::v160::v161::v162::v163::v164::v165::v166::v167::v168::v169::v170::v171::v172::v173::v174::v175::v176::v177::v178::v179::v180::v181::v182::v183::v184::v185::v186::v187::v188::v189::v190::v191::v192::v193::v194::v195::v196::v197::v198::v199::v200::v201::v202::v203::v204::v205::v206::v207::v208::v209::v210::v211::v212::v213::v214::v215::v216::v217::v218::v219::v220::v221::v222::v223::v224::v225::v226::v227::v228::v229::v230::v231::v232::v233::u234::u235::u236::u237::u238::u239::u240::u241::u242::[]).toArray,[]⟩ x) :
  Code.wp Tryz.prog Vd Q ⟨(u0::u1::u2::Y (aB ⟨bT,0,U⟩)::Y (aB ⟨bB,0,U⟩)::u5::.map (aB bM)::u7::Y (aB ⟨bS,0,U⟩)::Y (aB ⟨bX,0,U⟩)::J po pn pc::J U 0 0::u12::u13::u14::u15::u16::u17::u18::u19::u20::u21::u22::u23::u24::u25::u26::u27::u28::u29::u30::u31::u32::u33::u34::u35::u36::u37::u38::u39::u40::u41::u42::u43::u44::u45::u46::u47::u48::u49::u50::u51::u52::u53::u54::u55::u56::u57::u58::u59::u60::u61::u62::u63::u64::u65::u66::u67::u68::u69::u70::u71::u72::u73::u74::u75::u76::u77::u78::u79::u80::u81::u82::u83::u84::u85::u86::u87::u88::u89::u90::u91::u92::u93::u94::u95::u96::u97::u98::u99::u100::u101::u102::u103::u104::u105::u106::u107::u108::u109::u110::u111::u112::u113::u114::u115::u116::u117::u118::u119::u120::u121::u122::u123::u124::u125::u126::u127::u128::u129::u130::u131::u132::u133::u134::u135::u136::u137::u138::u139::u140::u141::u142::u143::u144::u145::u146::u147::u148::u149::u150::u151::u152::u153::u154::u155::u156::u157::u158::u159::u160::u161::u162::u163::u164::u165::u166::u167::u168::u169::u170::u171::u172::u173::u174::u175::u176::u177::u178::u179::u180::u181::u182::u183::u184::u185::u186::u187::u188::u189::u190::u191::u192::u193::u194::u195::u196::u197::u198::u199::u200::u201::u202::u203::u204::u205::u206::u207::u208::u209::u210::u211::u212::u213::u214::u215::u216::u217::u218::u219::u220::u221::u222::u223::u224::u225::u226::u227::u228::u229::u230::u231::u232::u233::u234::u235::u236::u237::u238::u239::u240::u241::u242::[]).toArray,[]⟩ W:=by
 have HQ:=D hQ;have AB:=D ab;have GM:=D gM;have GX:=D gB;have HK:=D hk;have PP:=D pp;have RQ:=D rq;have HX:=D hx;have SQ:=D hbX;have KC:=D gb;have SV:=D xt;have SX:=D xb;have Kn:=D bn;have SY:=D um;have ME:=D ab.ab.e.me;have qx:=D (h0);have Bl:=D (xs);have qy:=D (xx);have Gm:=D (oc);clear hQ ab gM gB hk pp rq hx hbX gb xt xb bn um h0 xs xx oc;unfold Vd
 conv=>arg 2; whnf
 conv=>enter [2,2]; change Bj
 have W4:=D (Ve (Wi.iR z0 0 3 (by decide)).1 (Wi.iR z0 0 3 (by decide)).2);obtain⟨z_0,z_1,z_2,z_3,z_4,z_5,z_6⟩:=Bl.out.xM;go_wp2_with fail;refine (Wi.jI z0 0 3 W (by decide) (by decide) (by decide) hz.1 hz.2).mono ?_;rintro e_ w_ ⟨rfl,rfl⟩;clear z_0 z_1 z_2 z_3 z_4 z_5 z_6;generalize Wi.within z0 0 3=zz_ at *;rcases W4.out with rfl|rfl|rfl|rfl
 all_goals clear W4 hz
 ·have rV:=D (KC.out.trans (qx.out.mono KC.out.size));have D9:=D (SV.out.on qx.out);have mX:=D (SX.out.on qx.out);have OG:=D (Kn.out.on qx.out);have OH:=D (SY.out.on qx.out);clear KC SV SX Kn SY SQ qx;obtain⟨A',han⟩:=U8 AB.out HK.out (show qM (x1,x2) from by have:=HX.out; exact⟨⟨by show _<=x1; omega,by show x1<=_; omega⟩,by show _<=x2; omega,by show x2<=_; omega⟩) HX.out.1.2 PP.out RQ.out;have AN:=D han;clear han;have ctr:=DC b s1 s2 s3 s4 s5 s6 s7 s8 s9 s10 s11 s12 s13 s14 s15 x1 x2 po pn pc p W OG.out (Row.dH Gm.out) AB.out.rt.rt AB.out.rt.lo PP.out RQ.out;rw [ME.out] at ctr;generalize (iX b (x1,x2) p)=C at *;have OI:=D ctr;clear ctr;obtain⟨lN,lQ,lS,lT,lU,lV⟩:=mX.out.ig;obtain⟨OJ,OL⟩:=qy.out.cs2;go_wp2_with fail;refine OI.out.mono ?_;rintro e6 y1 ⟨⟨⟨q1,q2,q3⟩,⟨q4,q5,q6⟩,⟨q7,q8,q9⟩,⟨q10,q11,q12⟩,⟨q13,q14,q15⟩,⟨o1,o2,o3⟩,lx,rfl,hbn,_,hou⟩,hb⟩;clear OI;clear lN lQ lS lT lU lV OJ OL;clear OG;clear Bl;clear qy;clear Gm;have Ea:=D (rV.out.trans (hb.mono rV.out.size));have lX:=D (D9.out.on hb);have jR:=D (mX.out.on hb);have Eb:=D (OH.out.on hb);clear rV D9 mX OH;rw [show C.1.me=0 from AN.out.st.ab.e.me];have BX:=D hbn;have OU:=D hou.outs;clear hbn hou hb;obtain⟨k0,k1,k2,k3,k4,k5⟩:=jR.out.ig;obtain⟨wM,wN,wO,wP,wQ,wR⟩:=jR.out.oJ;have zz:=jR.out.lt;have bs:=K y1 bB (V L 0) (J q1 q2 q3) (J q4 q5 q6) (J q7 q8 q9) (J q10 q11 q12) (J q13 q14 q15);have G0:=D (dI (b:=bB) Ea.out GX.out (V L 0) (J q1 q2 q3) (J q4 q5 q6) (J q7 q8 q9) (J q10 q11 q12) (J q13 q14 q15));have G1:=D (bs.box lX.out (jG lX.out jR.out (by decide)));have G2:=D (Eb.out.AX (s1:=(s1,s2,s3)) (s2:=(s4,s5,s6)) (s3:=(s7,s8,s9)) (s4:=(s10,s11,s12)) (s5:=(s13,s14,s15)) (me:=0) jR.out bs);have G3:=D (BX.out.keep (s1:=(s1,s2,s3)) (s2:=(s4,s5,s6)) (s3:=(s7,s8,s9)) (s4:=(s10,s11,s12)) (s5:=(s13,s14,s15)) (me:=0) jR.out bs);have G4:=D (qg (s1:=(s1,s2,s3)) (s2:=(s4,s5,s6)) (s3:=(s7,s8,s9)) (s4:=(s10,s11,s12)) (s5:=(s13,s14,s15)) (me:=0) OU.out jR.out bs.1);have G5:=D (dX jR.out (V L 0) (J q1 q2 q3) (J q4 q5 q6) (J q7 q8 q9) (J q10 q11 q12) (J q13 q14 q15));clear bs Ea lX Eb BX OU jR;go_wp2_with fail;clear zz k0 k1 k2 k3 k4 k5 wM wN wO wP wQ wR;unfold iY at G0 G1 G2 G3 G4 G5;generalize ((((((y1.setCell ⟨bB,0,U⟩ (V L 0)).setCell ⟨bB,1,U⟩ (J q1 q2 q3)).setCell ⟨bB,2,U⟩ (J q4 q5 q6)).setCell ⟨bB,3,U⟩ (J q7 q8 q9)).setCell ⟨bB,4,U⟩ (J q10 q11 q12)).setCell ⟨bB,5,U⟩ (J q13 q14 q15))=y2 at *;have uw:=D (G0.out);have qG:=D (G1.out);have pR:=D (G2.out);have OQ:=D (G3.out);have xu:=D (G4.out);have oI:=D (G5.out);clear G0 G1 G2 G3 G4 G5;refine uT _ w y2 bM bT bB k C.1 A A' C.2 b.ent.length o1 o2 o3 q1 q2 q3 q4 q5 q6 q7 q8 q9 q10 q11 q12 q13 q14 q15 _ _ _ _ _ _ _ _ _ _ _ _ _ _ _ _ _ _ _ _ _ _ _ _ _ _ _ _ _ _ _ _ _ _ _ _ _ _ _ _ _ _ _ _ _ _ _ _ _ _ _ _ _ _ _ _ _ _ _ _ _ _ _ _ _ _ _ _ _ _ _ _ _ _ _ _ _ _ _ _ _ _ _ _ _ _ _ _ _ _ _ _ _ _ _ _ _ _ _ _ _ _ _ _ _ _ _ _ _ _ _ _ _ _ _ _ _ _ _ _ _ _ _ _ _ _ _ _ _ _ _ _ _ _ _ _ _ _ _ _ _ _ _ _ _ _ _ _ _ _ _ _ _ _ _ _ _ _ _ _ _ _ _ _ _ _ _ _ _ _ _ _ _ _ _ _ _ _ _ _ _ _ _ _ _ _ _ _ _ _ _ _ _ _ _ _ _ _ _ _ _ _ _ _ _ _ _ _ _ _ _ _ _ _ _ _ _ _ _ _ _ _ _ _ _ _ _ _ _ _ _ _ _ _ _ _ _ _ _ uw.out GM.out qG.out oI.out OQ.out xu.out pR.out AB.out.ab.e.QM (O AB.out.le (by have:=HK.out; omega)) AN.out HK.out ?_;intro x v2 v13 v14 v15 v17 v18 v20 v22 v23 v25 v26 v27 v119 v120 v121 v122 v123 v124 v125 v126 v127 v128 v129 v130 v131 v132 v133 v134 v135 v136 v137 v138 v139 v140 v141 v142 v143 v144 v145 v146 v147 v148 v149 v150 v151 v152 v153 v154 v155 v156 v157 v158 v159 v160 v161 v162 v163 v164 v165 v166 v167 v168 v169 v170 v171 v172 v173 v174 v175 v176 v177 v178 v179 v180 v181 v182 v183 v184 v185 v186 v187 v188 v189 v190 v191 v192 v193 v194 v195 v196 v197 v198 v199 v200 v201 v202 v203 v204 v205 v206 v207 v208 v209 v210 v211 v212 v213 v214 v215 v216 v217 v218 v219 v220 v221 v222 v223 v224 v225 v226 v227 v228 v229 v230 v231 v232 v233 hgb hxt hxb hbn Bc;exact HQ.out x C.1 A' q1 q2 q3 q4 q5 q6 q7 q8 q9 q10 q11 q12 q13 q14 q15 _ _ _ _ _ _ _ _ _ _ _ _ _ _ _ _ _ _ _ _ _ _ _ _ _ _ _ _ _ _ _ _ _ _ _ _ _ _ _ _ _ _ _ _ _ _ _ _ _ _ _ _ _ _ _ _ _ _ _ _ _ _ _ _ _ _ _ _ _ _ _ _ _ _ _ _ _ _ _ _ _ _ _ _ _ _ _ _ _ _ _ _ _ _ _ _ _ _ _ _ _ _ _ _ _ _ _ _ _ _ _ _ _ _ _ _ _ _ _ _ _ _ _ _ _ _ _ _ _ _ _ _ _ _ _ _ _ _ _ _ _ _ _ _ _ _ _ _ _ _ _ _ _ _ _ _ _ _ _ _ _ _ _ _ _ _ _ _ _ _ _ _ _ _ _ _ _ _ _ _ _ _ _ AN.out.st hgb hxt hxb hbn Bc
 ·have rV:=D (KC.out.trans (qx.out.mono KC.out.size));have D9:=D (SV.out.on qx.out);have mX:=D (SX.out.on qx.out);have OG:=D (Kn.out.on qx.out);have OH:=D (SY.out.on qx.out);clear KC SV SX Kn SY SQ qx;obtain⟨A',han⟩:=Ox AB.out HK.out (show qM (x1,x2) from by have:=HX.out; exact⟨⟨by show _<=x1; omega,by show x1<=_; omega⟩,by show _<=x2; omega,by show x2<=_; omega⟩);have AN:=D han;clear han;have ctr:=xq b s1 s2 s3 s4 s5 s6 s7 s8 s9 s10 s11 s12 s13 s14 s15 x1 x2 W OG.out AB.out.rt.rt;rw [ME.out] at ctr;generalize (fB b (x1,x2))=C at *;have OI:=D ctr;clear ctr;obtain⟨lN,lQ,lS,lT,lU,lV⟩:=mX.out.ig;obtain⟨OJ,OL⟩:=qy.out.cs2;go_wp2_with fail;refine OI.out.mono ?_;rintro e6 y1 ⟨⟨⟨q1,q2,q3⟩,⟨q4,q5,q6⟩,⟨q7,q8,q9⟩,⟨q10,q11,q12⟩,⟨q13,q14,q15⟩,⟨o1,o2,o3⟩,lx,rfl,hbn,_,hou⟩,hb⟩;clear OI;clear lN lQ lS lT lU lV OJ OL;clear OG;clear Bl;clear qy;clear Gm;have Ea:=D (rV.out.trans (hb.mono rV.out.size));have lX:=D (D9.out.on hb);have jR:=D (mX.out.on hb);have Eb:=D (OH.out.on hb);clear rV D9 mX OH;rw [show C.1.me=0 from AN.out.st.ab.e.me];have BX:=D hbn;have OU:=D hou.outs;clear hbn hou hb;obtain⟨k0,k1,k2,k3,k4,k5⟩:=jR.out.ig;obtain⟨wM,wN,wO,wP,wQ,wR⟩:=jR.out.oJ;have zz:=jR.out.lt;have bs:=K y1 bB (V L 0) (J q1 q2 q3) (J q4 q5 q6) (J q7 q8 q9) (J q10 q11 q12) (J q13 q14 q15);have G0:=D (dI (b:=bB) Ea.out GX.out (V L 0) (J q1 q2 q3) (J q4 q5 q6) (J q7 q8 q9) (J q10 q11 q12) (J q13 q14 q15));have G1:=D (bs.box lX.out (jG lX.out jR.out (by decide)));have G2:=D (Eb.out.AX (s1:=(s1,s2,s3)) (s2:=(s4,s5,s6)) (s3:=(s7,s8,s9)) (s4:=(s10,s11,s12)) (s5:=(s13,s14,s15)) (me:=0) jR.out bs);have G3:=D (BX.out.keep (s1:=(s1,s2,s3)) (s2:=(s4,s5,s6)) (s3:=(s7,s8,s9)) (s4:=(s10,s11,s12)) (s5:=(s13,s14,s15)) (me:=0) jR.out bs);have G4:=D (qg (s1:=(s1,s2,s3)) (s2:=(s4,s5,s6)) (s3:=(s7,s8,s9)) (s4:=(s10,s11,s12)) (s5:=(s13,s14,s15)) (me:=0) OU.out jR.out bs.1);have G5:=D (dX jR.out (V L 0) (J q1 q2 q3) (J q4 q5 q6) (J q7 q8 q9) (J q10 q11 q12) (J q13 q14 q15));clear bs Ea lX Eb BX OU jR;go_wp2_with fail;clear zz k0 k1 k2 k3 k4 k5 wM wN wO wP wQ wR;unfold iY at G0 G1 G2 G3 G4 G5;generalize ((((((y1.setCell ⟨bB,0,U⟩ (V L 0)).setCell ⟨bB,1,U⟩ (J q1 q2 q3)).setCell ⟨bB,2,U⟩ (J q4 q5 q6)).setCell ⟨bB,3,U⟩ (J q7 q8 q9)).setCell ⟨bB,4,U⟩ (J q10 q11 q12)).setCell ⟨bB,5,U⟩ (J q13 q14 q15))=y2 at *;have uw:=D (G0.out);have qG:=D (G1.out);have pR:=D (G2.out);have OQ:=D (G3.out);have xu:=D (G4.out);have oI:=D (G5.out);clear G0 G1 G2 G3 G4 G5;refine uT _ w y2 bM bT bB k C.1 A A' C.2 b.ent.length o1 o2 o3 q1 q2 q3 q4 q5 q6 q7 q8 q9 q10 q11 q12 q13 q14 q15 _ _ _ _ _ _ _ _ _ _ _ _ _ _ _ _ _ _ _ _ _ _ _ _ _ _ _ _ _ _ _ _ _ _ _ _ _ _ _ _ _ _ _ _ _ _ _ _ _ _ _ _ _ _ _ _ _ _ _ _ _ _ _ _ _ _ _ _ _ _ _ _ _ _ _ _ _ _ _ _ _ _ _ _ _ _ _ _ _ _ _ _ _ _ _ _ _ _ _ _ _ _ _ _ _ _ _ _ _ _ _ _ _ _ _ _ _ _ _ _ _ _ _ _ _ _ _ _ _ _ _ _ _ _ _ _ _ _ _ _ _ _ _ _ _ _ _ _ _ _ _ _ _ _ _ _ _ _ _ _ _ _ _ _ _ _ _ _ _ _ _ _ _ _ _ _ _ _ _ _ _ _ _ _ _ _ _ _ _ _ _ _ _ _ _ _ _ _ _ _ _ _ _ _ _ _ _ _ _ _ _ _ _ _ _ _ _ _ _ _ _ _ _ _ _ _ _ _ _ _ _ _ _ _ _ _ _ _ _ uw.out GM.out qG.out oI.out OQ.out xu.out pR.out AB.out.ab.e.QM (O AB.out.le (by have:=HK.out; omega)) AN.out HK.out ?_;intro x v2 v13 v14 v15 v17 v18 v20 v22 v23 v25 v26 v27 v119 v120 v121 v122 v123 v124 v125 v126 v127 v128 v129 v130 v131 v132 v133 v134 v135 v136 v137 v138 v139 v140 v141 v142 v143 v144 v145 v146 v147 v148 v149 v150 v151 v152 v153 v154 v155 v156 v157 v158 v159 v160 v161 v162 v163 v164 v165 v166 v167 v168 v169 v170 v171 v172 v173 v174 v175 v176 v177 v178 v179 v180 v181 v182 v183 v184 v185 v186 v187 v188 v189 v190 v191 v192 v193 v194 v195 v196 v197 v198 v199 v200 v201 v202 v203 v204 v205 v206 v207 v208 v209 v210 v211 v212 v213 v214 v215 v216 v217 v218 v219 v220 v221 v222 v223 v224 v225 v226 v227 v228 v229 v230 v231 v232 v233 hgb hxt hxb hbn Bc;exact HQ.out x C.1 A' q1 q2 q3 q4 q5 q6 q7 q8 q9 q10 q11 q12 q13 q14 q15 _ _ _ _ _ _ _ _ _ _ _ _ _ _ _ _ _ _ _ _ _ _ _ _ _ _ _ _ _ _ _ _ _ _ _ _ _ _ _ _ _ _ _ _ _ _ _ _ _ _ _ _ _ _ _ _ _ _ _ _ _ _ _ _ _ _ _ _ _ _ _ _ _ _ _ _ _ _ _ _ _ _ _ _ _ _ _ _ _ _ _ _ _ _ _ _ _ _ _ _ _ _ _ _ _ _ _ _ _ _ _ _ _ _ _ _ _ _ _ _ _ _ _ _ _ _ _ _ _ _ _ _ _ _ _ _ _ _ _ _ _ _ _ _ _ _ _ _ _ _ _ _ _ _ _ _ _ _ _ _ _ _ _ _ _ _ _ _ _ _ _ _ _ _ _ _ _ _ _ _ _ _ _ AN.out.st hgb hxt hxb hbn Bc
 ·have hw8:IntKind.i64.wrap (x1+8)=x1+8:=IntWalk.i64_in _ (by have:=HX.out; omega);obtain⟨f,hwf,hf⟩:∃ f,IntKind.i64.wrap (2+bits aC L z1 1)=f/\(f=2\/f=3):=by
   rcases uE z1 with h|h
   ·exact⟨2,by rw [h]; rfl,Or.inl rfl⟩
   ·exact⟨3,by rw [h]; rfl,Or.inr rfl⟩
  have HF:=D hf;have HWF:=D hwf;clear hf hwf;obtain⟨OJ,OL⟩:=qy.out.cs2;obtain⟨Vf,Vg⟩:=qy.out.ZG;have bs:But bX W (W.setCell ⟨bX,0,U⟩ (V L (x1+8))):=dR W bX 0 _;have hx:=eu (k:=0) qy.out (V L (x1+8));simp only [ak,aD] at hx;have G0:=D (qx.out.setCell (p:=⟨bX,0,U⟩) SQ.out (V L (x1+8)));have G1:=D (bs.box Bl.out (jG Bl.out qy.out (by decide)));have G2:=D (bs.own Gm.out qy.out (by decide));have G3:=D (hx);clear bs hx qx Bl Gm qy;go_upto_region 22 with fail;clear OJ OL Vf Vg;generalize (W.setCell ⟨bX,0,U⟩ (V L (x1+8)))=wb at *;have tT:=D (G0.out);have OX:=D (G1.out);have Rf:=D (G2.out);have OY:=D (G3.out);clear G0 G1 G2 G3 hw8;have xH:=D (KC.out.trans (tT.out.mono KC.out.size));have lX:=D (SV.out.on tT.out);have xI:=D (SX.out.on tT.out);have uF:=D (Kn.out.on tT.out);have pR:=D (SY.out.on tT.out);clear KC SV SX Kn SY SQ tT;obtain⟨A',han⟩:=Rb AB.out HK.out (show qM ((x1+8),x2) from by have:=HX.out; exact⟨⟨by show _<=(x1+8); omega,by show (x1+8)<=_; omega⟩,by show _<=x2; omega,by show x2<=_; omega⟩) (show 8<=x1+8 from by have:=HX.out; omega) HF.out PP.out RQ.out;have AN:=D han;clear han;have ctr:=zK b s1 s2 s3 s4 s5 s6 s7 s8 s9 s10 s11 s12 s13 s14 s15 f 3 1 0 (x1+8) x2 po pn pc p wb uF.out AB.out.rt.rt.few AB.out.rt.rt.oD AB.out.rt.rt.ok AB.out.rt.rt.pe (Row.dH Rf.out) PP.out;rw [ME.out] at ctr;generalize (iG b f (1,0) (x1+8,x2) p)=C at *;have OI:=D ctr;clear ctr;obtain⟨lN,lQ,lS,lT,lU,lV⟩:=xI.out.ig;obtain⟨OJ,OL⟩:=OY.out.cs2;obtain⟨YL,xs1,xs2,YM,YN,YO,YP⟩:=OX.out.xM;obtain⟨Kh,Ki⟩:=lX.out.cs2;have hwf:=HWF.out;go_wp2_with fail;refine OI.out.mono ?_;rintro e6 y1 ⟨⟨⟨q1,q2,q3⟩,⟨q4,q5,q6⟩,⟨q7,q8,q9⟩,⟨q10,q11,q12⟩,⟨q13,q14,q15⟩,⟨o1,o2,o3⟩,lx,rfl,hbn,_,hou⟩,hb⟩;clear OI hwf;clear lN lQ lS lT lU lV OJ OL YL xs1 xs2 YM YN YO YP Kh Ki;clear uF;clear OX;clear OY;clear Rf;have Ec:=D (xH.out.trans (hb.mono xH.out.size));have xJ:=D (lX.out.on hb);have iK:=D (xI.out.on hb);have Ed:=D (pR.out.on hb);clear xH lX xI pR;rw [show C.1.me=0 from AN.out.st.ab.e.me];have BX:=D hbn;have OU:=D hou.outs;clear hbn hou hb;obtain⟨k0,k1,k2,k3,k4,k5⟩:=iK.out.ig;obtain⟨wM,wN,wO,wP,wQ,wR⟩:=iK.out.oJ;have zz:=iK.out.lt;have bs:=K y1 bB (V L 0) (J q1 q2 q3) (J q4 q5 q6) (J q7 q8 q9) (J q10 q11 q12) (J q13 q14 q15);have G0:=D (dI (b:=bB) Ec.out GX.out (V L 0) (J q1 q2 q3) (J q4 q5 q6) (J q7 q8 q9) (J q10 q11 q12) (J q13 q14 q15));have G1:=D (bs.box xJ.out (jG xJ.out iK.out (by decide)));have G2:=D (Ed.out.AX (s1:=(s1,s2,s3)) (s2:=(s4,s5,s6)) (s3:=(s7,s8,s9)) (s4:=(s10,s11,s12)) (s5:=(s13,s14,s15)) (me:=0) iK.out bs);have G3:=D (BX.out.keep (s1:=(s1,s2,s3)) (s2:=(s4,s5,s6)) (s3:=(s7,s8,s9)) (s4:=(s10,s11,s12)) (s5:=(s13,s14,s15)) (me:=0) iK.out bs);have G4:=D (qg (s1:=(s1,s2,s3)) (s2:=(s4,s5,s6)) (s3:=(s7,s8,s9)) (s4:=(s10,s11,s12)) (s5:=(s13,s14,s15)) (me:=0) OU.out iK.out bs.1);have G5:=D (dX iK.out (V L 0) (J q1 q2 q3) (J q4 q5 q6) (J q7 q8 q9) (J q10 q11 q12) (J q13 q14 q15));clear bs Ec xJ Ed BX OU iK;go_wp2_with fail;clear zz k0 k1 k2 k3 k4 k5 wM wN wO wP wQ wR;unfold iY at G0 G1 G2 G3 G4 G5;generalize ((((((y1.setCell ⟨bB,0,U⟩ (V L 0)).setCell ⟨bB,1,U⟩ (J q1 q2 q3)).setCell ⟨bB,2,U⟩ (J q4 q5 q6)).setCell ⟨bB,3,U⟩ (J q7 q8 q9)).setCell ⟨bB,4,U⟩ (J q10 q11 q12)).setCell ⟨bB,5,U⟩ (J q13 q14 q15))=y2 at *;have OZ:=D (G0.out);have O6:=D (G1.out);have O7:=D (G2.out);have O8:=D (G3.out);have O9:=D (G4.out);have mK:=D (G5.out);clear G0 G1 G2 G3 G4 G5;refine uT _ w y2 bM bT bB k C.1 A A' C.2 b.ent.length o1 o2 o3 q1 q2 q3 q4 q5 q6 q7 q8 q9 q10 q11 q12 q13 q14 q15 _ _ _ _ _ _ _ _ _ _ _ _ _ _ _ _ _ _ _ _ _ _ _ _ _ _ _ _ _ _ _ _ _ _ _ _ _ _ _ _ _ _ _ _ _ _ _ _ _ _ _ _ _ _ _ _ _ _ _ _ _ _ _ _ _ _ _ _ _ _ _ _ _ _ _ _ _ _ _ _ _ _ _ _ _ _ _ _ _ _ _ _ _ _ _ _ _ _ _ _ _ _ _ _ _ _ _ _ _ _ _ _ _ _ _ _ _ _ _ _ _ _ _ _ _ _ _ _ _ _ _ _ _ _ _ _ _ _ _ _ _ _ _ _ _ _ _ _ _ _ _ _ _ _ _ _ _ _ _ _ _ _ _ _ _ _ _ _ _ _ _ _ _ _ _ _ _ _ _ _ _ _ _ _ _ _ _ _ _ _ _ _ _ _ _ _ _ _ _ _ _ _ _ _ _ _ _ _ _ _ _ _ _ _ _ _ _ _ _ _ _ _ _ _ _ _ _ _ _ _ _ _ _ _ _ _ _ _ _ OZ.out GM.out O6.out mK.out O8.out O9.out O7.out AB.out.ab.e.QM (O AB.out.le (by have:=HK.out; omega)) AN.out HK.out ?_;intro x v2 v13 v14 v15 v17 v18 v20 v22 v23 v25 v26 v27 v119 v120 v121 v122 v123 v124 v125 v126 v127 v128 v129 v130 v131 v132 v133 v134 v135 v136 v137 v138 v139 v140 v141 v142 v143 v144 v145 v146 v147 v148 v149 v150 v151 v152 v153 v154 v155 v156 v157 v158 v159 v160 v161 v162 v163 v164 v165 v166 v167 v168 v169 v170 v171 v172 v173 v174 v175 v176 v177 v178 v179 v180 v181 v182 v183 v184 v185 v186 v187 v188 v189 v190 v191 v192 v193 v194 v195 v196 v197 v198 v199 v200 v201 v202 v203 v204 v205 v206 v207 v208 v209 v210 v211 v212 v213 v214 v215 v216 v217 v218 v219 v220 v221 v222 v223 v224 v225 v226 v227 v228 v229 v230 v231 v232 v233 hgb hxt hxb hbn Bc;exact HQ.out x C.1 A' q1 q2 q3 q4 q5 q6 q7 q8 q9 q10 q11 q12 q13 q14 q15 _ _ _ _ _ _ _ _ _ _ _ _ _ _ _ _ _ _ _ _ _ _ _ _ _ _ _ _ _ _ _ _ _ _ _ _ _ _ _ _ _ _ _ _ _ _ _ _ _ _ _ _ _ _ _ _ _ _ _ _ _ _ _ _ _ _ _ _ _ _ _ _ _ _ _ _ _ _ _ _ _ _ _ _ _ _ _ _ _ _ _ _ _ _ _ _ _ _ _ _ _ _ _ _ _ _ _ _ _ _ _ _ _ _ _ _ _ _ _ _ _ _ _ _ _ _ _ _ _ _ _ _ _ _ _ _ _ _ _ _ _ _ _ _ _ _ _ _ _ _ _ _ _ _ _ _ _ _ _ _ _ _ _ _ _ _ _ _ _ _ _ _ _ _ _ _ _ _ _ _ _ _ _ AN.out.st hgb hxt hxb hbn Bc
 ·have hw8:IntKind.i64.wrap (x1+8)=x1+8:=IntWalk.i64_in _ (by have:=HX.out; omega);obtain⟨f,hwf,hf⟩:∃ f,IntKind.i64.wrap (2+bits aC L z1 1)=f/\(f=2\/f=3):=by
   rcases uE z1 with h|h
   ·exact⟨2,by rw [h]; rfl,Or.inl rfl⟩
   ·exact⟨3,by rw [h]; rfl,Or.inr rfl⟩
  have HF:=D hf;have HWF:=D hwf;clear hf hwf;obtain⟨OJ,OL⟩:=qy.out.cs2;obtain⟨Vf,Vg⟩:=qy.out.ZG;have bs:But bX W (W.setCell ⟨bX,0,U⟩ (V L (x1+8))):=dR W bX 0 _;have hx:=eu (k:=0) qy.out (V L (x1+8));simp only [ak,aD] at hx;have G0:=D (qx.out.setCell (p:=⟨bX,0,U⟩) SQ.out (V L (x1+8)));have G1:=D (bs.box Bl.out (jG Bl.out qy.out (by decide)));have G2:=D (bs.own Gm.out qy.out (by decide));have G3:=D (hx);clear bs hx qx Bl Gm qy;go_upto_region 15 with fail;clear OJ OL Vf Vg;generalize (W.setCell ⟨bX,0,U⟩ (V L (x1+8)))=wb at *;have tT:=D (G0.out);have OX:=D (G1.out);have Rf:=D (G2.out);have OY:=D (G3.out);clear G0 G1 G2 G3 hw8;have xH:=D (KC.out.trans (tT.out.mono KC.out.size));have lX:=D (SV.out.on tT.out);have xI:=D (SX.out.on tT.out);have uF:=D (Kn.out.on tT.out);have pR:=D (SY.out.on tT.out);clear KC SV SX Kn SY SQ tT;obtain⟨A',han⟩:=Rc AB.out HK.out (show qM ((x1+8),x2) from by have:=HX.out; exact⟨⟨by show _<=(x1+8); omega,by show (x1+8)<=_; omega⟩,by show _<=x2; omega,by show x2<=_; omega⟩) HF.out;have AN:=D han;clear han;have ctr:=Dz b s1 s2 s3 s4 s5 s6 s7 s8 s9 s10 s11 s12 s13 s14 s15 f 4 1 0 (x1+8) x2 U 0 0 wb uF.out AB.out.rt.rt.few AB.out.rt.rt.oD AB.out.rt.rt.ok AB.out.rt.rt.pe;rw [ME.out] at ctr;generalize (gW b (1,0) (x1+8,x2) f)=C at *;have OI:=D ctr;clear ctr;obtain⟨lN,lQ,lS,lT,lU,lV⟩:=xI.out.ig;obtain⟨OJ,OL⟩:=OY.out.cs2;obtain⟨YL,xs1,xs2,YM,YN,YO,YP⟩:=OX.out.xM;obtain⟨Kh,Ki⟩:=lX.out.cs2;have hwf:=HWF.out;go_wp2_with fail;refine OI.out.mono ?_;rintro e6 y1 ⟨⟨⟨q1,q2,q3⟩,⟨q4,q5,q6⟩,⟨q7,q8,q9⟩,⟨q10,q11,q12⟩,⟨q13,q14,q15⟩,⟨o1,o2,o3⟩,lx,rfl,hbn,_,hou⟩,hb⟩;clear OI hwf;clear lN lQ lS lT lU lV OJ OL YL xs1 xs2 YM YN YO YP Kh Ki;clear uF;clear OX;clear OY;clear Rf;have Ec:=D (xH.out.trans (hb.mono xH.out.size));have xJ:=D (lX.out.on hb);have iK:=D (xI.out.on hb);have Ed:=D (pR.out.on hb);clear xH lX xI pR;rw [show C.1.me=0 from AN.out.st.ab.e.me];have BX:=D hbn;have OU:=D hou.outs;clear hbn hou hb;obtain⟨k0,k1,k2,k3,k4,k5⟩:=iK.out.ig;obtain⟨wM,wN,wO,wP,wQ,wR⟩:=iK.out.oJ;have zz:=iK.out.lt;have bs:=K y1 bB (V L 0) (J q1 q2 q3) (J q4 q5 q6) (J q7 q8 q9) (J q10 q11 q12) (J q13 q14 q15);have G0:=D (dI (b:=bB) Ec.out GX.out (V L 0) (J q1 q2 q3) (J q4 q5 q6) (J q7 q8 q9) (J q10 q11 q12) (J q13 q14 q15));have G1:=D (bs.box xJ.out (jG xJ.out iK.out (by decide)));have G2:=D (Ed.out.AX (s1:=(s1,s2,s3)) (s2:=(s4,s5,s6)) (s3:=(s7,s8,s9)) (s4:=(s10,s11,s12)) (s5:=(s13,s14,s15)) (me:=0) iK.out bs);have G3:=D (BX.out.keep (s1:=(s1,s2,s3)) (s2:=(s4,s5,s6)) (s3:=(s7,s8,s9)) (s4:=(s10,s11,s12)) (s5:=(s13,s14,s15)) (me:=0) iK.out bs);have G4:=D (qg (s1:=(s1,s2,s3)) (s2:=(s4,s5,s6)) (s3:=(s7,s8,s9)) (s4:=(s10,s11,s12)) (s5:=(s13,s14,s15)) (me:=0) OU.out iK.out bs.1);have G5:=D (dX iK.out (V L 0) (J q1 q2 q3) (J q4 q5 q6) (J q7 q8 q9) (J q10 q11 q12) (J q13 q14 q15));clear bs Ec xJ Ed BX OU iK;go_wp2_with fail;clear zz k0 k1 k2 k3 k4 k5 wM wN wO wP wQ wR;unfold iY at G0 G1 G2 G3 G4 G5;generalize ((((((y1.setCell ⟨bB,0,U⟩ (V L 0)).setCell ⟨bB,1,U⟩ (J q1 q2 q3)).setCell ⟨bB,2,U⟩ (J q4 q5 q6)).setCell ⟨bB,3,U⟩ (J q7 q8 q9)).setCell ⟨bB,4,U⟩ (J q10 q11 q12)).setCell ⟨bB,5,U⟩ (J q13 q14 q15))=y2 at *;have OZ:=D (G0.out);have O6:=D (G1.out);have O7:=D (G2.out);have O8:=D (G3.out);have O9:=D (G4.out);have mK:=D (G5.out);clear G0 G1 G2 G3 G4 G5;refine uT _ w y2 bM bT bB k C.1 A A' C.2 b.ent.length o1 o2 o3 q1 q2 q3 q4 q5 q6 q7 q8 q9 q10 q11 q12 q13 q14 q15 _ _ _ _ _ _ _ _ _ _ _ _ _ _ _ _ _ _ _ _ _ _ _ _ _ _ _ _ _ _ _ _ _ _ _ _ _ _ _ _ _ _ _ _ _ _ _ _ _ _ _ _ _ _ _ _ _ _ _ _ _ _ _ _ _ _ _ _ _ _ _ _ _ _ _ _ _ _ _ _ _ _ _ _ _ _ _ _ _ _ _ _ _ _ _ _ _ _ _ _ _ _ _ _ _ _ _ _ _ _ _ _ _ _ _ _ _ _ _ _ _ _ _ _ _ _ _ _ _ _ _ _ _ _ _ _ _ _ _ _ _ _ _ _ _ _ _ _ _ _ _ _ _ _ _ _ _ _ _ _ _ _ _ _ _ _ _ _ _ _ _ _ _ _ _ _ _ _ _ _ _ _ _ _ _ _ _ _ _ _ _ _ _ _ _ _ _ _ _ _ _ _ _ _ _ _ _ _ _ _ _ _ _ _ _ _ _ _ _ _ _ _ _ _ _ _ _ _ _ _ _ _ _ _ _ _ _ _ _ OZ.out GM.out O6.out mK.out O8.out O9.out O7.out AB.out.ab.e.QM (O AB.out.le (by have:=HK.out; omega)) AN.out HK.out ?_;intro x v2 v13 v14 v15 v17 v18 v20 v22 v23 v25 v26 v27 v119 v120 v121 v122 v123 v124 v125 v126 v127 v128 v129 v130 v131 v132 v133 v134 v135 v136 v137 v138 v139 v140 v141 v142 v143 v144 v145 v146 v147 v148 v149 v150 v151 v152 v153 v154 v155 v156 v157 v158 v159 v160 v161 v162 v163 v164 v165 v166 v167 v168 v169 v170 v171 v172 v173 v174 v175 v176 v177 v178 v179 v180 v181 v182 v183 v184 v185 v186 v187 v188 v189 v190 v191 v192 v193 v194 v195 v196 v197 v198 v199 v200 v201 v202 v203 v204 v205 v206 v207 v208 v209 v210 v211 v212 v213 v214 v215 v216 v217 v218 v219 v220 v221 v222 v223 v224 v225 v226 v227 v228 v229 v230 v231 v232 v233 hgb hxt hxb hbn Bc;exact HQ.out x C.1 A' q1 q2 q3 q4 q5 q6 q7 q8 q9 q10 q11 q12 q13 q14 q15 _ _ _ _ _ _ _ _ _ _ _ _ _ _ _ _ _ _ _ _ _ _ _ _ _ _ _ _ _ _ _ _ _ _ _ _ _ _ _ _ _ _ _ _ _ _ _ _ _ _ _ _ _ _ _ _ _ _ _ _ _ _ _ _ _ _ _ _ _ _ _ _ _ _ _ _ _ _ _ _ _ _ _ _ _ _ _ _ _ _ _ _ _ _ _ _ _ _ _ _ _ _ _ _ _ _ _ _ _ _ _ _ _ _ _ _ _ _ _ _ _ _ _ _ _ _ _ _ _ _ _ _ _ _ _ _ _ _ _ _ _ _ _ _ _ _ _ _ _ _ _ _ _ _ _ _ _ _ _ _ _ _ _ _ _ _ _ _ _ _ _ _ _ _ _ _ _ _ _ _ _ _ _ AN.out.st hgb hxt hxb hbn Bc
end Rt
end Go.Proofs.YtghlpefopidlaaaGreat
