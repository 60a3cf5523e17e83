/-
  Lists that are the s. Conditions as told.
-/
import Derived.Test.YtncogjpmboglhaaGreatF012
import Derived.Lib.QuietBelow
import Derived.BigQuiet
import Derived.Test.YtncogjpmboglhaaGreatF017
import Derived.Test.YtncogjpmboglhaaGreatF011
import Derived.Test.YtncogjpmboglhaaGreatF007
import Derived.Test.YtncogjpmboglhaaGreatF008
import Derived.Laws.Externs
import Derived.Lib.Hide
import Derived.Test.YtncogjpmboglhaaGreatF010
import Derived.Test.YtncogjpmboglhaaGreatF000
import Derived.Test.YtncogjpmboglhaaGreatF006
import Derived.ChangeArms
set_option maxRecDepth 100000
set_option maxHeartbeats 64000000
namespace Go.Proofs.YtncogjpmboglhaaGreat.Bk
open Go.RowKit Go.Sort Rw YtncogjpmboglhaaGreat.Nm Pr
def sameG {α:Type} (eq:α→α→Bool):List α→List α→Bool
 | [],[]=>true
 | x::l,y::m=>eq x y && sameG eq l m
 | _,_=>false
theorem sameG_len {α:Type} {eq:α→α→Bool}:∀ l m,sameG eq l m=true→l.length=m.length
 | [],[],_=>rfl
 | x::l,y::m,h=>by
  simp only [sameG,Bool.and_eq_true] at h
  simp [sameG_len l m h.2]
 | [],y::m,h=>by simp [sameG] at h
 | x::l,[],h=>by simp [sameG] at h
theorem sameG_all {α:Type} {eq:α→α→Bool}:∀ l m,l.length=m.length→(∀ (k:Nat) (x y:α),l[k]?=some x→m[k]?=some y→eq x y=true)→sameG eq l m=true
 | [],[],_,_=>rfl
 | x::l,y::m,hl,h=>by
  simp only [sameG,Bool.and_eq_true]
  exact⟨h 0 x y rfl rfl,sameG_all l m (by simpa using hl) (fun k a b ha hb=>h (k+1) a b (by simpa using ha) (by simpa using hb))⟩
 | [],y::m,hl,_=>by simp at hl
 | x::l,[],hl,_=>by simp at hl
theorem sameG_not {α:Type} {eq:α→α→Bool}:∀ (l m:List α) (k:Nat) (x y:α),l[k]?=some x→m[k]?=some y→eq x y=false→sameG eq l m=false
 | [],_,k,x,y,h,_,_=>by simp at h
 | _::_,[],k,x,y,_,h,_=>by simp at h
 | a::l,b::m,0,x,y,h1,h2,h3=>by
  simp at h1 h2
  subst h1 h2
  simp [sameG,h3]
 | a::l,b::m,k+1,x,y,h1,h2,h3=>by
  simp only [sameG,sameG_not l m k x y (by simpa using h1) (by simpa using h2) h3,Bool.and_false]
theorem sameG_iff {α:Type} {eq:α→α→Bool} (he:∀ x y,eq x y=true↔x=y):∀ l m:List α,sameG eq l m=true↔l=m
 | [],[]=>by simp [sameG]
 | x::l,y::m=>by
  simp only [sameG,Bool.and_eq_true,he,sameG_iff he l m,List.cons.injEq]
 | [],y::m=>by simp [sameG]
 | x::l,[]=>by simp [sameG]
def eqI (x y:Id):Bool:=x.1 == y.1 && x.2 == y.2
theorem eqI_iff (x y:Id):eqI x y=true↔x=y:=by
 obtain⟨a,b⟩:=x
 obtain⟨c,d⟩:=y
 simp [eqI]
def eqE (x y:En):Bool:=eqI x.tree y.tree && (eqI x.sub y.sub && (x.from_ == y.from_ && (x.up == y.up && sameC x.p y.p)))
theorem eqE_iff (x y:En):eqE x y=true↔x=y:=by
 obtain⟨a,b,c,d,e⟩:=x
 obtain⟨a',b',c',d',e'⟩:=y
 simp only [eqE,Bool.and_eq_true,eqI_iff,sameC_iff,beq_iff_eq,En.mk.injEq]
 constructor
 ·rintro⟨h1,h2,h3,h4,h5⟩
  exact⟨h1,h2,h5,h3,h4⟩
 ·rintro⟨h1,h2,h3,h4,h5⟩
  exact⟨h1,h2,h4,h5,h3⟩
theorem at_left {α β:Type} {R:α→β→Prop}:∀ {l m} (_:All2 R l m) (k:Nat) (a:α),l[k]?=some a→∃ b,m[k]?=some b∧R a b
 | _,_,.nil,k,b,h=>by simp at h
 | _,_,.cons x t,0,b,h=>by
  simp at h
  subst h
  exact⟨_,rfl,x⟩
 | _,_,.cons x t,k+1,b,h=>by
  obtain⟨a,h1,h2⟩:=at_left t k b (by simpa using h)
  exact⟨a,by simpa using h1,h2⟩
end Go.Proofs.YtncogjpmboglhaaGreat.Bk
namespace Go.Proofs.YtncogjpmboglhaaGreat.Bk
open Go.RowKit Rw YtncogjpmboglhaaGreat.Nm Pr Rl
def unR (c:C5):Cn:=(c.1,if c.2.1=1 then .rg c.2.2.1 c.2.2.2.1 else if c.2.1=2 then .tx c.2.2.2.2 else .pr c.2.2.2.2)
theorem unR_r5 (c:Cn):unR (r5 c)=c:=by
 obtain⟨n,k⟩:=c
 cases k <;> simp [unR,r5,kN,kLo,kHi,kT]
theorem unR_map (a:List Cn):(a.map r5).map unR=a:=by
 rw [List.map_map]
 have h:unR∘r5=id:=funext unR_r5
 rw [h,List.map_id]
def PredOk (p:List C5):Prop:=∃ a:List Cn,NF a∧p=a.map r5
def coversC (p q:List C5):Bool:=coversL (p.map unR) (q.map unR)
theorem covers_c (av_ bv:Value) (p q:List C5) (w:World) (ha:RowC w av_ p) (hb:RowC w bv q) (hp:PredOk p) (hq:PredOk q) :
  Calls Tryz.prog 73 #[av_,bv] w fun e w'=>e=.returned (.bool (coversC p q))∧Below w.heap.size w w':=by
 obtain⟨a,na,rfl⟩:=hp
 obtain⟨b,nb,rfl⟩:=hq
 unfold coversC
 rw [unR_map,unR_map]
 exact rcovers_any av_ bv a b w ha hb (by have:=na.five; omega) (by have:=nb.five; omega)
def covE (t:Id) (p:List C5) (e:En):Bool:=decide (e.tree=t) && (e.up && coversC e.p p)
def coveredE (m:List En) (t:Id) (p:List C5):Bool:=m.any (covE t p)
theorem rcovered_any (me:Int) (nv av sv ov:Value) (ev:Sl) (l:List XEn) (m:List En) (x:Id) (pv:Value) (p':List C5) (w:World) (hs:RowN w (slv ev) l) (hu:All2 (EnIn w) l m) (hp:RowC w pv p') (hok:∀ e∈m,PredOk e.p) (hop:PredOk p') :
  Calls Tryz.prog 15 #[.agg #[.int .i64 me,nv,av,sv,slv ev,ov],idv x,pv] w fun e w'=>e=.returned (.bool (coveredE m x p'))∧Below w.heap.size w w':=by
 have HU:=Lib.hid hu
 have HP:=Lib.hid hp
 have OK:=Lib.hid hok
 have OP:=Lib.hid hop
 obtain⟨pa,pc,rfl⟩:=hp.len
 obtain⟨pn,hpn⟩:∃ n,n=p'.length:=⟨_,rfl⟩
 rw [← hpn] at HP ⊢
 clear hu hp hok hop hpn
 obtain⟨c,d⟩:=x
 obtain⟨so,sn,sc⟩:=ev
 obtain⟨ao,ac,hv⟩:=hs.len
 have hv:Value.slice so sn sc=.slice ao l.length ac:=hv
 obtain⟨rfl,rfl,rfl⟩:so=ao∧sn=l.length∧sc=ac:=by simpa using hv
 obtain⟨h0,h1,h2⟩:=two_new w #[.int .i64 me,nv,av,sv,.slice so l.length sc,ov] #[.int .i64 c,.int .i64 d] 31 38
 have B:=Lib.hid h0
 have HS:=Lib.hid (hs.on h0)
 have X2:=Lib.hid h1
 have X3:=Lib.hid h2
 have lm:=hs.most
 unfold maxLen at lm
 obtain⟨n,hn⟩:∃ n,n=l.length:=⟨_,rfl⟩
 have q3:=h1.cell 4
 simp only [List.getElem?_toArray,List.getElem?_cons_zero,List.getElem?_cons_succ] at q3
 rw [← hn] at HS X2 lm q3 B X3 ⊢
 have HN:=Lib.hid hn.symm
 clear h0 h1 h2 hs hv hn
 go_enter Tryz.func15,Tryz.ntmps15
 go_upto_region 1 with fail
 generalize (w.alloc (.cells #[.int .i64 me,nv,av,sv,.slice so n sc,ov] 31)).alloc (.cells #[.int .i64 c,.int .i64 d] 38)=W at *
 go_wp2
 go_loopw [12] (fun i wr=>∃ k:Nat,k≤n∧i=.int .i64 k∧Below W.heap.size W wr∧∀ (j:Nat) (y:En),j<k→m[j]?=some y→covE (c,d) p' y=false) (fun i _=>n-(intOf i).toNat)
 case atStart=>exact⟨0,Nat.zero_le _,rfl,Below.refl _ _,fun j y h=>by omega⟩
 case round =>
  obtain⟨k,hk,rfl,hbe,hall⟩:=hrel
  have BE:=Lib.hid hbe
  have AL:=Lib.hid hall
  clear hbe hall
  by_cases hlt:k<n
  ·obtain⟨y,hy⟩:∃ y,l[k]?=some y:=⟨_,List.getElem?_eq_getElem (by rw [HN.out]; exact hlt)⟩
   obtain⟨p,ix,px⟩:=elN HS.out rfl HN.out hy
   obtain⟨p0,p1,p2,p3,p4,p5,p6⟩:=px wr BE.out
   obtain⟨y1,y2,y3,y4,⟨yo,yn,yc⟩,y6,y7⟩:=y
   simp only at p0 p1 p2 p3 p4 p5 p6
   have NB:=Lib.hid (newB wr (.cells #[.int .i64 y1,.int .i64 y2,.int .i64 y3,.int .i64 y4,.slice yo yn yc,.int .i64 y6,.bool y7] 43))
   obtain⟨x0,x1⟩:=((X3.out.on BE.out).on NB.out).cs2
   have hw3:IntKind.i64.wrap ((k:Int)+1)=(k:Int)+1:=IntWalk.i64_in _ (by omega)
   obtain⟨me_,hm,hin⟩:=at_left HU.out k _ hy
   obtain⟨r,hr⟩:∃ r,(y1 == c && y2 == d)=r:=⟨_,rfl⟩
   obtain⟨t,ht⟩:∃ r,coversC me_.p p'=r:=⟨_,rfl⟩
   have he:=eqId y1 y2 c d r hr
   have HV:=Lib.hid (show covE (c,d) p' me_=(r && (y7 && t)) by
    rw [← hr,← ht]
    unfold covE
    rw [← hin.1,← hin.2.2.2.1]
    by_cases g1:y1=c <;> by_cases g2:y2=d <;> simp [g1,g2])
   have HM:=Lib.hid hm
   have CV:=Lib.hid (fun W' (hb':Below w.heap.size w W')=>(covers_c (.slice yo yn yc) (.slice pa pn pc) me_.p p' W' (hin.2.2.2.2.on hb') (HP.out.on hb') (OK.out _ (List.mem_of_getElem? hm)) OP.out))
   rw [ht] at CV
   clear px hy hr ht hm hin
   cases r
   ·go_wp2
    go_roundw
    case rel=>exact⟨k+1,by omega,by go_num,BE.out.trans (NB.out.mono BE.out.size),fun j y' hj h1=>by
     rcases Nat.lt_or_ge j k with h3|h3
     ·exact AL.out j y' h3 h1
     ·obtain rfl:j=k:=by omega
      have e1:=HM.out
      rw [h1] at e1
      rw [Option.some.inj e1]
      exact HV.out.trans (by simp)⟩
    case measure=>simp [intOf]; omega
   ·cases y7
    ·go_wp2
     go_roundw
     case rel=>exact⟨k+1,by omega,by go_num,BE.out.trans (NB.out.mono BE.out.size),fun j y' hj h1=>by
     rcases Nat.lt_or_ge j k with h3|h3
     ·exact AL.out j y' h3 h1
     ·obtain rfl:j=k:=by omega
      have e1:=HM.out
      rw [h1] at e1
      rw [Option.some.inj e1]
      exact HV.out.trans (by simp)⟩
     case measure=>simp [intOf]; omega
    ·have BF:=Lib.hid (BE.out.trans (NB.out.mono BE.out.size))
     have CW:=Lib.hid (CV.out _ (B.out.trans (BF.out.mono B.out.size)))
     clear CV
     go_wp2_with fail
     refine CW.out.mono ?_
     rintro e3 w3 ⟨rfl,hb⟩
     have BG:=Lib.hid (BF.out.trans (hb.mono BF.out.size))
     clear CW hb x0 x1 p0 p1 p2 p3 p4 p5 p6 ix he
     cases t
     ·go_wp2
      go_roundw
      case rel=>exact⟨k+1,by omega,by go_num,BG.out,fun j y' hj h1=>by
     rcases Nat.lt_or_ge j k with h3|h3
     ·exact AL.out j y' h3 h1
     ·obtain rfl:j=k:=by omega
      have e1:=HM.out
      rw [h1] at e1
      rw [Option.some.inj e1]
      exact HV.out.trans (by simp)⟩
      case measure=>simp [intOf]; omega
     ·go_wp2
      go_ret
      have hd:coveredE m (c,d) p'=true:=by
       unfold coveredE
       rw [List.any_eq_true]
       exact⟨me_,List.mem_of_getElem? HM.out,HV.out.trans (by simp)⟩
      exact⟨by rw [hd]; rfl,B.out.trans (BG.out.mono B.out.size)⟩
  ·obtain rfl:k=n:=by omega
   go_wp2
   go_ret
   have hd:coveredE m (c,d) p'=false:=by
    unfold coveredE
    rw [List.any_eq_false]
    intro e he
    obtain⟨j,hj,hje⟩:=List.getElem_of_mem he
    have h9:=AL.out j e (by rw [← HN.out,HU.out.len]; exact hj) (by rw [List.getElem?_eq_getElem hj,hje])
    simpa using h9
   exact⟨by rw [hd]; rfl,B.out.trans (BE.out.mono B.out.size)⟩
def findK {κ:Type} [DecidableEq κ]:List κ→κ→Int
 | [],_=>-1
 | a::l,x=>if a=x then 0 else if findK l x=-1 then -1 else findK l x+1
theorem findK_none {κ:Type} [DecidableEq κ] (l:List κ) (x:κ) (h:∀ (j:Nat) (y:κ),l[j]?=some y→y≠x):findK l x=-1:=by
 induction l with
 | nil=>rfl
 | cons a l ih=>rw [findK,if_neg (h 0 a rfl),ih fun j y hj=>h (j+1) y (by simpa using hj),if_pos rfl]
theorem findK_at {κ:Type} [DecidableEq κ] (l:List κ) (k:Nat) (x:κ) (h:l[k]?=some x) (hall:∀ (j:Nat) (z:κ),j<k→l[j]?=some z→z≠x):findK l x=k:=by
 induction l generalizing k with
 | nil=>simp at h
 | cons a l ih =>
  cases k with
  | zero =>
   obtain rfl:a=x:=by simpa using h
   rw [findK,if_pos rfl]
   rfl
  | succ k =>
   have h2:=ih k (by simpa using h) fun j z hj hz=>hall (j+1) z (by omega) (by simpa using hz)
   rw [findK,if_neg (hall 0 a (by omega) rfl),h2,if_neg (by omega)]
   omega
theorem findK_or {κ:Type} [DecidableEq κ] (l:List κ) (x:κ):findK l x=-1∨∃ k:Nat,findK l x=k∧l[k]?=some x:=by
 induction l with
 | nil=>exact Or.inl rfl
 | cons a l ih =>
  rw [findK]
  by_cases h:a=x
  ·rw [if_pos h]
   exact Or.inr ⟨0,rfl,by rw [h]; rfl⟩
  ·rw [if_neg h]
   rcases ih with h2|⟨k,h2,h3⟩
   ·rw [if_pos h2]
    exact Or.inl rfl
   ·rw [if_neg (by omega),h2]
    exact Or.inr ⟨k+1,by omega,by simpa using h3⟩
abbrev keyN (e:XEn):Id×Id:=((e.1,e.2.1),(e.2.2.1,e.2.2.2.1))
theorem rentry_any (me:Int) (nv av sv ov:Value) (ev:Sl) (l:List XEn) (x z:Id) (w:World) (hs:RowN w (slv ev) l) :
  Calls Tryz.prog 79 #[.agg #[.int .i64 me,nv,av,sv,slv ev,ov],idv x,idv z] w fun e w'=>e=.returned (.int .i64 (findK (l.map keyN) (x,z)))∧Below w.heap.size w w':=by
 obtain⟨c,d⟩:=x
 obtain⟨g,h⟩:=z
 obtain⟨so,sn,sc⟩:=ev
 obtain⟨ao,ac,hv⟩:=hs.len
 have hv:Value.slice so sn sc=.slice ao l.length ac:=hv
 obtain⟨rfl,rfl,rfl⟩:so=ao∧sn=l.length∧sc=ac:=by simpa using hv
 obtain⟨h0,h1,h2,h3⟩:=three_new w #[.int .i64 me,nv,av,sv,.slice so l.length sc,ov] #[.int .i64 c,.int .i64 d] #[.int .i64 g,.int .i64 h] 31 38 38
 have B:=Lib.hid h0
 have HS:=Lib.hid (hs.on h0)
 have X2:=Lib.hid h1
 have X3:=Lib.hid h2
 have X4:=Lib.hid h3
 have lm:=hs.most
 unfold maxLen at lm
 obtain⟨n,hn⟩:∃ n,n=l.length:=⟨_,rfl⟩
 have q3:=h1.cell 4
 simp only [List.getElem?_toArray,List.getElem?_cons_zero,List.getElem?_cons_succ] at q3
 rw [← hn] at HS X2 lm q3 B X3 X4 ⊢
 have HN:=Lib.hid hn.symm
 clear h0 h1 h2 h3 hs hv hn
 go_enter Tryz.func79,Tryz.ntmps79
 go_upto_region 1 with fail
 generalize ((w.alloc (.cells #[.int .i64 me,nv,av,sv,.slice so n sc,ov] 31)).alloc (.cells #[.int .i64 c,.int .i64 d] 38)).alloc (.cells #[.int .i64 g,.int .i64 h] 38)=W at *
 go_wp2
 go_loopw [12] (fun i wr=>∃ k:Nat,k≤n∧i=.int .i64 k∧Below W.heap.size W wr∧∀ (j:Nat) (y:XEn),j<k→l[j]?=some y→keyN y≠((c,d),(g,h))) (fun i _=>n-(intOf i).toNat)
 case atStart=>exact⟨0,Nat.zero_le _,rfl,Below.refl _ _,fun j y h=>by omega⟩
 case round =>
  obtain⟨k,hk,rfl,hbe,hall⟩:=hrel
  have BE:=Lib.hid hbe
  have AL:=Lib.hid hall
  clear hbe hall
  by_cases hlt:k<n
  ·obtain⟨y,hy⟩:∃ y,l[k]?=some y:=⟨_,List.getElem?_eq_getElem (by rw [HN.out]; exact hlt)⟩
   obtain⟨p,ix,px⟩:=elN HS.out rfl HN.out hy
   obtain⟨p0,p1,p2,p3,p4,p5,p6⟩:=px wr BE.out
   obtain⟨y1,y2,y3,y4,⟨yo,yn,yc⟩,y6,y7⟩:=y
   simp only at p0 p1 p2 p3 p4 p5 p6
   have NB:=Lib.hid (newB wr (.cells #[.int .i64 y1,.int .i64 y2,.int .i64 y3,.int .i64 y4,.slice yo yn yc,.int .i64 y6,.bool y7] 43))
   obtain⟨x0,x1⟩:=((X3.out.on BE.out).on NB.out).cs2
   obtain⟨z0,z1⟩:=((X4.out.on BE.out).on NB.out).cs2
   have hw3:IntKind.i64.wrap ((k:Int)+1)=(k:Int)+1:=IntWalk.i64_in _ (by omega)
   obtain⟨r,hr⟩:∃ r,(y1 == c && y2 == d)=r:=⟨_,rfl⟩
   obtain⟨t,ht⟩:∃ r,(y3 == g && y4 == h)=r:=⟨_,rfl⟩
   have he:=eqId y1 y2 c d r hr
   have hf:=eqId y3 y4 g h t ht
   have HY:=Lib.hid hy
   have HR:=Lib.hid hr
   have HT:=Lib.hid ht
   clear px hy hr ht
   cases r
   ·go_wp2
    go_roundw
    case rel=>exact⟨k+1,by omega,by go_num,BE.out.trans (NB.out.mono BE.out.size),fun j y' hj h1=>by
     rcases Nat.lt_or_ge j k with h3|h3
     ·exact AL.out j y' h3 h1
     ·obtain rfl:j=k:=by omega
      have e1:=HY.out
      rw [h1] at e1
      rw [Option.some.inj e1]
      intro e
      obtain⟨⟨rfl,rfl⟩,_⟩:(y1=c∧y2=d)∧(y3=g∧y4=h):=by simpa [keyN] using e
      have:=HR.out
      simp at this⟩
    case measure=>simp [intOf]; omega
   ·cases t
    ·go_wp2
     go_roundw
     case rel=>exact⟨k+1,by omega,by go_num,BE.out.trans (NB.out.mono BE.out.size),fun j y' hj h1=>by
      rcases Nat.lt_or_ge j k with h3|h3
      ·exact AL.out j y' h3 h1
      ·obtain rfl:j=k:=by omega
       have e1:=HY.out
       rw [h1] at e1
       rw [Option.some.inj e1]
       intro e
       obtain⟨_,rfl,rfl⟩:(y1=c∧y2=d)∧(y3=g∧y4=h):=by simpa [keyN] using e
       have:=HT.out
       simp at this⟩
     case measure=>simp [intOf]; omega
    ·go_wp2
     go_ret
     have h8:=HR.out
     have h9:=HT.out
     obtain⟨rfl,rfl⟩:y1=c∧y2=d:=by simpa using h8
     obtain⟨rfl,rfl⟩:y3=g∧y4=h:=by simpa using h9
     exact⟨by rw [findK_at (l.map keyN) k ((y1,y2),(y3,y4)) (by rw [List.getElem?_map,HY.out]; rfl) (fun j z hj hz=>by
      rw [List.getElem?_map] at hz
      cases hl:l[j]? with
      | none=>rw [hl] at hz; cases hz
      | some q =>
       rw [hl] at hz
       have hz:keyN q=z:=Option.some.inj hz
       rw [← hz]
       exact AL.out j q hj hl)]; rfl,B.out.trans ((BE.out.trans (NB.out.mono BE.out.size)).mono B.out.size)⟩
  ·obtain rfl:k=n:=by omega
   go_wp2
   go_ret
   have hd:findK (l.map keyN) ((c,d),(g,h))=-1:=findK_none _ _ fun j z hz=>by
    rw [List.getElem?_map] at hz
    cases hl:l[j]? with
    | none=>rw [hl] at hz; cases hz
    | some q =>
     rw [hl] at hz
     have hz:keyN q=z:=Option.some.inj hz
     rw [← hz]
     exact AL.out j q (by rw [← HN.out]; exact (List.getElem?_eq_some_iff.1 hl).1) hl
   exact⟨by rw [hd]; rfl,B.out.trans (BE.out.mono B.out.size)⟩
end Go.Proofs.YtncogjpmboglhaaGreat.Bk
namespace Go.Proofs.YtncogjpmboglhaaGreat.Bk
open Go.RowKit Go.Sort Rw YtncogjpmboglhaaGreat.Nm Pr
theorem place_isG {κ:Type} (f:κ→Bool) (l:List κ) (k:Nat) (hall:∀ (j:Nat) (y:κ),j<k→l[j]?=some y→f y=true) (hend:k=l.length∨∃ y,l[k]?=some y∧f y=false):(l.takeWhile f).length=k:=by
 induction l generalizing k with
 | nil =>
  rcases hend with h|⟨y,h,_⟩
  ·rw [h]; rfl
  ·simp at h
 | cons a l ih =>
  cases k with
  | zero =>
   rcases hend with h|⟨y,h,h2⟩
   ·simp at h
   ·obtain rfl:a=y:=by simpa using h
    rw [List.takeWhile_cons,h2]
    rfl
  | succ k =>
   have h0:=hall 0 a (by omega) rfl
   rw [List.takeWhile_cons,h0]
   simp only [if_true,List.length_cons]
   rw [ih k (fun j y hj hy=>hall (j+1) y (by omega) (by simpa using hy)) (by
    rcases hend with h|⟨y,h,h2⟩
    ·exact Or.inl (by simpa using h)
    ·exact Or.inr ⟨y,by simpa using h,h2⟩)]
def lessP (a b:Id×Id):Bool:=lessI a.1 b.1 || (eqI a.1 b.1 && lessI a.2 b.2)
def placeP (l:List (Id×Id)) (x:Id×Id):Nat:=(l.takeWhile fun a=>lessP a x).length
noncomputable def addB0:Code:=((Tryz.f17.body.bind (findBlock 0)).getD .skip)
theorem add_b0 (Q:Exit→Act→World→Prop) (W:World) (b2 b3:Nat) (me c d g h:Int) (y1_ y2_ y3_ y5_ p3' p4' p5':Value) (so:Option Addr) (n sc:Nat) (l:List XEn) (u0 u1 u4 u5 u6 u8 u9 u10 u11 u12 u13 u14 u15 u16 u17 u18 u19 u20 u21 u22 u23 u24 u25 u26 u27 u28 u29 u30 u31 u32 u33 u34 u35 u36 u37 u38 u39 u40 u41 u42 u43 u44 u45 u46 u47 u48 u49 u50 u51 u52 u53 u54 u55 u56 u57 u58 u59 u60 u61 u62 u63 u64 u65 u66 u67 u68 u69 u70 u71 u72 u73 u74 u75 u76 u77 u78 u79 u80 u81 u82 u83 u84 u85 u86 u87 u88 u89 u90 u91 u92 u93 u94 u95 u96 u97 u98 u99 u100 u101 u102 u103 u104 u105 u106 u107 u108 u109 u110 u111 u112 u113 u114:Value)
  (h2:Box W b2 #[.int .i64 me,y1_,y2_,y3_,.slice so n sc,y5_] 31) (h3:Box W b3 #[.int .i64 c,.int .i64 d,.int .i64 g,.int .i64 h,p3',p4',p5'] 43) (hs:RowN W (.slice so n sc) l) (hn:n=l.length) (hm:n≤1000000)
  (hQ:∀ (wr:World) (v57 v58 v59 v60 v61 v62 v63 v64 v65 v66 v67 v68 v69 v70 v71 v72 v73 v74 v75 v76 v77 v78 v79 v80 v81 v82 v83 v84 v85 v86 v87 v88 v89 v90 v91 v92 v93 v94 v95 v96:Value),Below W.heap.size W wr→Q .normal ⟨(u0::u1::.pointer (some ⟨b2,0,none⟩)::.pointer (some ⟨b3,0,none⟩)::u4::u5::u6::.int .i64 (placeP (l.map keyN) ((c,d),(g,h)):Nat)::u8::u9::u10::u11::u12::u13::u14::u15::u16::u17::u18::u19::u20::u21::u22::u23::u24::u25::u26::u27::u28::u29::u30::u31::u32::u33::u34::u35::u36::u37::u38::u39::u40::u41::u42::u43::u44::u45::u46::u47::u48::u49::u50::u51::u52::u53::u54::u55::u56::v57::v58::v59::v60::v61::v62::v63::v64::v65::v66::v67::v68::v69::v70::v71::v72::v73::v74::v75::v76::v77::v78::v79::v80::v81::v82::v83::v84::v85::v86::v87::v88::v89::v90::v91::v92::v93::v94::v95::v96::u97::u98::u99::u100::u101::u102::u103::u104::u105::u106::u107::u108::u109::u110::u111::u112::u113::u114::[]).toArray,[]⟩ wr) :
  Code.wp Tryz.prog addB0 Q ⟨(u0::u1::.pointer (some ⟨b2,0,none⟩)::.pointer (some ⟨b3,0,none⟩)::u4::u5::u6::.int .i64 0::u8::u9::u10::u11::u12::u13::u14::u15::u16::u17::u18::u19::u20::u21::u22::u23::u24::u25::u26::u27::u28::u29::u30::u31::u32::u33::u34::u35::u36::u37::u38::u39::u40::u41::u42::u43::u44::u45::u46::u47::u48::u49::u50::u51::u52::u53::u54::u55::u56::u57::u58::u59::u60::u61::u62::u63::u64::u65::u66::u67::u68::u69::u70::u71::u72::u73::u74::u75::u76::u77::u78::u79::u80::u81::u82::u83::u84::u85::u86::u87::u88::u89::u90::u91::u92::u93::u94::u95::u96::u97::u98::u99::u100::u101::u102::u103::u104::u105::u106::u107::u108::u109::u110::u111::u112::u113::u114::[]).toArray,[]⟩ W:=by
 have HQ:=Lib.hid hQ
 have H2:=Lib.hid h2
 have H3:=Lib.hid h3
 have HS:=Lib.hid hs
 have HN:=Lib.hid hn
 clear hQ h2 h3 hs hn
 conv=>arg 2; whnf
 go_wp2
 go_loopw [7] (fun i wr=>∃ k:Nat,k≤n∧i=.int .i64 k∧Below W.heap.size W wr∧∀ (j:Nat) (y:Id×Id),j<k→(l.map keyN)[j]?=some y→lessP y ((c,d),(g,h))=true) (fun i _=>n-(intOf i).toNat)
 case atStart=>exact⟨0,Nat.zero_le _,rfl,Below.refl _ _,fun j y h=>by omega⟩
 case round =>
  obtain⟨k,hk,rfl,hbe,hall⟩:=hrel
  have BE:=Lib.hid hbe
  have AL:=Lib.hid hall
  clear hbe hall
  have q0:=cell_regrown (show wr.cell? ⟨b2,4,none⟩=some (.slice so n sc) from (H2.out.on BE.out).cell 4)
  have r0:=cell_regrown (show wr.cell? ⟨b3,0,none⟩=some (.int .i64 c) from (H3.out.on BE.out).cell 0)
  have r1:=cell_regrown (show wr.cell? ⟨b3,1,none⟩=some (.int .i64 d) from (H3.out.on BE.out).cell 1)
  have r2:=cell_regrown (show wr.cell? ⟨b3,2,none⟩=some (.int .i64 g) from (H3.out.on BE.out).cell 2)
  have r3:=cell_regrown (show wr.cell? ⟨b3,3,none⟩=some (.int .i64 h) from (H3.out.on BE.out).cell 3)
  have hw3:IntKind.i64.wrap ((k:Int)+1)=(k:Int)+1:=IntWalk.i64_in _ (by omega)
  by_cases hlt:k<n
  ·obtain⟨y,hy⟩:∃ y,l[k]?=some y:=⟨_,List.getElem?_eq_getElem (by rw [← HN.out]; exact hlt)⟩
   obtain⟨p,ix,px⟩:=elN HS.out rfl HN.out.symm hy
   have px2:=px wr BE.out
   obtain⟨y1,y2,y3,y4,⟨yo,yn,yc⟩,y6,y7⟩:=y
   simp only at px2
   have p0:=cell_regrown px2.1
   have p1:=cell_regrown px2.2.1
   have p2:=cell_regrown px2.2.2.1
   have p3:=cell_regrown px2.2.2.2.1
   have dlt:decide ((k:Int)<(n:Int))=true:=decide_eq_true (by omega)
   have dln:decide (k<n)=true:=decide_eq_true hlt
   obtain⟨r,hr⟩:∃ r,lessI (y1,y2) (c,d)=r:=⟨_,rfl⟩
   obtain⟨t,ht⟩:∃ r,(y1 == c && y2 == d)=r:=⟨_,rfl⟩
   obtain⟨s,hs⟩:∃ r,lessI (y3,y4) (g,h)=r:=⟨_,rfl⟩
   have he:=eqId y1 y2 c d t ht
   have LS:=Lib.hid (fun d' os=>Calls.regrown_of (d:=d') (os:=os) ((less_any (y1,y2) (c,d) (grow (redrawn wr d') os)).mono fun _ _ h=>⟨by rw [h.1,hr],h.2⟩))
   have LT:=Lib.hid (fun d' os=>Calls.regrown_of (d:=d') (os:=os) ((less_any (y3,y4) (g,h) (grow (redrawn wr d') os)).mono fun _ _ h=>⟨by rw [h.1,hs],h.2⟩))
   have HY:=Lib.hid (show (l.map keyN)[k]?=some ((y1,y2),(y3,y4)) by rw [List.getElem?_map,hy]; rfl)
   have HV:=Lib.hid (show lessP ((y1,y2),(y3,y4)) ((c,d),(g,h))=(r || (t && s)) by rw [← hr,← ht,← hs]; rfl)
   clear px px2 hy hr ht hs
   cases r
   ·cases t
    ·have HR:=Lib.hid (HV.out.trans (show _=false by simp))
     go_wp2_with fail
     refine wp_region_quiet_below (by kernel_rfl) (by kernel_rfl) ?_
     repeat (go_big_quiet_step (first | (with_reducible exact LS.out _ _) | (with_reducible exact LT.out _ _)))
     refine wpQuiet_nil ?_
     intro _ hw'
     obtain⟨⟨dq,osq⟩,hw''⟩:=hw'
     subst hw''
     have Z6:=below_regrown wr dq osq
     have HF:=Lib.hid (fun v57 v58 v59 v60 v61 v62 v63 v64 v65 v66 v67 v68 v69 v70 v71 v72 v73 v74 v75 v76 v77 v78 v79 v80 v81 v82 v83 v84 v85 v86 v87 v88 v89 v90 v91 v92 v93 v94 v95 v96=>HQ.out (grow (redrawn wr dq) osq) v57 v58 v59 v60 v61 v62 v63 v64 v65 v66 v67 v68 v69 v70 v71 v72 v73 v74 v75 v76 v77 v78 v79 v80 v81 v82 v83 v84 v85 v86 v87 v88 v89 v90 v91 v92 v93 v94 v95 v96 (BE.out.trans (Z6.mono BE.out.size)))
     rw [show placeP (l.map keyN) ((c,d),(g,h))=k from place_isG _ _ k AL.out (Or.inr ⟨_,HY.out,HR.out⟩)] at HF
     clear ix HQ q0 r0 r1 r2 r3 LS LT dlt dln p0 p1 p2 p3 he
     go_wp2
     exact HF.out _ _ _ _ _ _ _ _ _ _ _ _ _ _ _ _ _ _ _ _ _ _ _ _ _ _ _ _ _ _ _ _ _ _ _ _ _ _ _ _
    ·cases s
     ·have HR:=Lib.hid (HV.out.trans (show _=false by simp))
      go_wp2_with fail
      refine wp_region_quiet_below (by kernel_rfl) (by kernel_rfl) ?_
      repeat (go_big_quiet_step (first | (with_reducible exact LS.out _ _) | (with_reducible exact LT.out _ _)))
      refine wpQuiet_nil ?_
      intro _ hw'
      obtain⟨⟨dq,osq⟩,hw''⟩:=hw'
      subst hw''
      have Z6:=below_regrown wr dq osq
      have HF:=Lib.hid (fun v57 v58 v59 v60 v61 v62 v63 v64 v65 v66 v67 v68 v69 v70 v71 v72 v73 v74 v75 v76 v77 v78 v79 v80 v81 v82 v83 v84 v85 v86 v87 v88 v89 v90 v91 v92 v93 v94 v95 v96=>HQ.out (grow (redrawn wr dq) osq) v57 v58 v59 v60 v61 v62 v63 v64 v65 v66 v67 v68 v69 v70 v71 v72 v73 v74 v75 v76 v77 v78 v79 v80 v81 v82 v83 v84 v85 v86 v87 v88 v89 v90 v91 v92 v93 v94 v95 v96 (BE.out.trans (Z6.mono BE.out.size)))
      rw [show placeP (l.map keyN) ((c,d),(g,h))=k from place_isG _ _ k AL.out (Or.inr ⟨_,HY.out,HR.out⟩)] at HF
      clear ix HQ q0 r0 r1 r2 r3 LS LT dlt dln p0 p1 p2 p3 he
      go_wp2
      exact HF.out _ _ _ _ _ _ _ _ _ _ _ _ _ _ _ _ _ _ _ _ _ _ _ _ _ _ _ _ _ _ _ _ _ _ _ _ _ _ _ _
     ·have HR:=Lib.hid (HV.out.trans (show _=true by simp))
      go_wp2_with fail
      refine wp_region_quiet_below (by kernel_rfl) (by kernel_rfl) ?_
      repeat (go_big_quiet_step (first | (with_reducible exact LS.out _ _) | (with_reducible exact LT.out _ _)))
      refine wpQuiet_nil ?_
      intro _ hw'
      obtain⟨⟨dq,osq⟩,hw''⟩:=hw'
      subst hw''
      have Z6:=Lib.hid (below_regrown wr dq osq)
      clear ix q0 r0 r1 r2 r3 LS LT dlt dln p0 p1 p2 p3 he
      go_wp2
      go_roundw
      case rel=>exact⟨k+1,by omega,by go_num,BE.out.trans (Z6.out.mono BE.out.size),fun j y' hj h1=>by
       rcases Nat.lt_or_ge j k with h3|h3
       ·exact AL.out j y' h3 h1
       ·obtain rfl:j=k:=by omega
        have e1:=HY.out
        rw [h1] at e1
        rw [Option.some.inj e1]
        exact HR.out⟩
      case measure=>simp [intOf]; omega
   ·have HR:=Lib.hid (HV.out.trans (show _=true by simp))
    go_wp2_with fail
    refine wp_region_quiet_below (by kernel_rfl) (by kernel_rfl) ?_
    repeat (go_big_quiet_step (first | (with_reducible exact LS.out _ _) | (with_reducible exact LT.out _ _)))
    refine wpQuiet_nil ?_
    intro _ hw'
    obtain⟨⟨dq,osq⟩,hw''⟩:=hw'
    subst hw''
    have Z6:=Lib.hid (below_regrown wr dq osq)
    clear ix q0 r0 r1 r2 r3 LS LT dlt dln p0 p1 p2 p3 he
    go_wp2
    go_roundw
    case rel=>exact⟨k+1,by omega,by go_num,BE.out.trans (Z6.out.mono BE.out.size),fun j y' hj h1=>by
     rcases Nat.lt_or_ge j k with h3|h3
     ·exact AL.out j y' h3 h1
     ·obtain rfl:j=k:=by omega
      have e1:=HY.out
      rw [h1] at e1
      rw [Option.some.inj e1]
      exact HR.out⟩
    case measure=>simp [intOf]; omega
  ·obtain rfl:n=k:=by omega
   have dlt:decide ((n:Int)<(n:Int))=false:=by simp
   have dln:decide (n<n)=false:=by simp
   go_wp2_with fail
   refine wp_region_quiet_below (by kernel_rfl) (by kernel_rfl) ?_
   repeat (go_big_quiet_step (fail))
   refine wpQuiet_nil ?_
   intro _ hw'
   obtain⟨⟨dq,osq⟩,hw''⟩:=hw'
   subst hw''
   have Z6:=below_regrown wr dq osq
   have HF:=Lib.hid (fun v57 v58 v59 v60 v61 v62 v63 v64 v65 v66 v67 v68 v69 v70 v71 v72 v73 v74 v75 v76 v77 v78 v79 v80 v81 v82 v83 v84 v85 v86 v87 v88 v89 v90 v91 v92 v93 v94 v95 v96=>HQ.out (grow (redrawn wr dq) osq) v57 v58 v59 v60 v61 v62 v63 v64 v65 v66 v67 v68 v69 v70 v71 v72 v73 v74 v75 v76 v77 v78 v79 v80 v81 v82 v83 v84 v85 v86 v87 v88 v89 v90 v91 v92 v93 v94 v95 v96 (BE.out.trans (Z6.mono BE.out.size)))
   rw [show placeP (l.map keyN) ((c,d),(g,h))=n from place_isG _ _ n AL.out (Or.inl (by simpa using HN.out))] at HF
   clear HQ q0 r0 r1 r2 r3 dlt dln
   go_wp2
   exact HF.out _ _ _ _ _ _ _ _ _ _ _ _ _ _ _ _ _ _ _ _ _ _ _ _ _ _ _ _ _ _ _ _ _ _ _ _ _ _ _ _
noncomputable def addR9:Code:=((Tryz.f17.body.bind (findRegion 9)).getD .skip)
structure P9 (base:Act) (v0 v2:Value) (p:Value) (W W':World) (L:Array Bool) (a:Act) (x:World):Prop where
 df:a.defers=base.defers
 sz:a.tmps.size=base.tmps.size
 kp:∀ j,j≠112→j≠113→j≠114→j≠5→a.tmps[j]?=base.tmps[j]?
 t0:Rg.done L 0→a.tmps[112]?=some v0
 t1:Rg.done L 1→a.tmps[113]?=some p
 t2:Rg.done L 2→a.tmps[114]?=some v2
 t4:Rg.done L 4→a.tmps[5]?=some v2
 w0:¬ Rg.done L 3→x=W.drew
 w1:Rg.done L 3→x=W'
 c3:Rg.done L 3→Rg.done L 0
theorem add_r9 (Q:Exit→Act→World→Prop) (W:World) (b2 b3 b4:Nat) (me:Int) (o1 o2 o3 o4 o5:Option Addr) (n1 c1 n2 c2 n3 c3 n4 c4 n5 c5:Nat) (e0 e1 e2 e3 e4 e5 z0 z1 z2 z3 z4 z5:Value) (up:Bool) (u0 u1 u5 u6 u7 u8 u9 u10 u11 u12 u13 u14 u15 u16 u17 u18 u19 u20 u21 u22 u23 u24 u25 u26 u27 u28 u29 u30 u31 u32 u33 u34 u35 u36 u37 u38 u39 u40 u41 u42 u43 u44 u45 u46 u47 u48 u49 u50 u51 u52 u53 u54 u55 u56 u57 u58 u59 u60 u61 u62 u63 u64 u65 u66 u67 u68 u69 u70 u71 u72 u73 u74 u75 u76 u77 u78 u79 u80 u81 u82 u83 u84 u85 u86 u87 u88 u89 u90 u91 u92 u93 u94 u95 u96 u97 u98 u99 u100 u101 u102 u103 u104 u105 u106 u107 u108 u109 u110 u111 u112 u113 u114:Value)
  (h2:Box W b2 #[.int .i64 me,.slice o1 n1 c1,.slice o2 n2 c2,.slice o3 n3 c3,.slice o4 n4 c4,.slice o5 n5 c5] 31) (h3:Box W b3 #[e0,e1,e2,e3,e4,e5,.bool up] 43) (h4:Box W b4 #[z0,z1,z2,z3,z4,z5] 31) (hne:b3≠b4)
  (hQ:∀ (a:Act) (x:World),a.defers=[]→a.tmps[4]?=some (.pointer (some ⟨b4,0,none⟩))→a.tmps[5]?=some (.bool up)→x=setB W.drew b4 (.int .i64 me) (.slice o1 n1 c1) (.slice o2 n2 c2) (.slice o3 n3 c3) (.slice o4 n4 c4) (.slice o5 n5 c5)→Q .normal a x) :
  Code.wp Tryz.prog addR9 Q ⟨(u0::u1::.pointer (some ⟨b2,0,none⟩)::.pointer (some ⟨b3,0,none⟩)::.pointer (some ⟨b4,0,none⟩)::u5::u6::u7::u8::u9::u10::u11::u12::u13::u14::u15::u16::u17::u18::u19::u20::u21::u22::u23::u24::u25::u26::u27::u28::u29::u30::u31::u32::u33::u34::u35::u36::u37::u38::u39::u40::u41::u42::u43::u44::u45::u46::u47::u48::u49::u50::u51::u52::u53::u54::u55::u56::u57::u58::u59::u60::u61::u62::u63::u64::u65::u66::u67::u68::u69::u70::u71::u72::u73::u74::u75::u76::u77::u78::u79::u80::u81::u82::u83::u84::u85::u86::u87::u88::u89::u90::u91::u92::u93::u94::u95::u96::u97::u98::u99::u100::u101::u102::u103::u104::u105::u106::u107::u108::u109::u110::u111::u112::u113::u114::[]).toArray,[]⟩ W:=by
 have HQ:=Lib.hid hQ
 have H2:=Lib.hid h2.drew
 have H3:=Lib.hid h3.drew
 have H4:=Lib.hid h4.drew
 have X3:=Lib.hid (show Box (setB W.drew b4 (.int .i64 me) (.slice o1 n1 c1) (.slice o2 n2 c2) (.slice o3 n3 c3) (.slice o4 n4 c4) (.slice o5 n5 c5)) b3 #[e0,e1,e2,e3,e4,e5,.bool up] 43 from (setB_heap W.drew b4 (.int .i64 me) (.slice o1 n1 c1) (.slice o2 n2 c2) (.slice o3 n3 c3) (.slice o4 n4 c4) (.slice o5 n5 c5) b3 hne).trans h3.drew)
 clear hQ h2 h3 h4 hne
 unfold addR9
 conv=>arg 2; whnf
 obtain⟨base,hbase⟩:∃ b:Act,b=⟨(u0::u1::.pointer (some ⟨b2,0,none⟩)::.pointer (some ⟨b3,0,none⟩)::.pointer (some ⟨b4,0,none⟩)::u5::u6::u7::u8::u9::u10::u11::u12::u13::u14::u15::u16::u17::u18::u19::u20::u21::u22::u23::u24::u25::u26::u27::u28::u29::u30::u31::u32::u33::u34::u35::u36::u37::u38::u39::u40::u41::u42::u43::u44::u45::u46::u47::u48::u49::u50::u51::u52::u53::u54::u55::u56::u57::u58::u59::u60::u61::u62::u63::u64::u65::u66::u67::u68::u69::u70::u71::u72::u73::u74::u75::u76::u77::u78::u79::u80::u81::u82::u83::u84::u85::u86::u87::u88::u89::u90::u91::u92::u93::u94::u95::u96::u97::u98::u99::u100::u101::u102::u103::u104::u105::u106::u107::u108::u109::u110::u111::u112::u113::u114::[]).toArray,[]⟩:=⟨_,rfl⟩
 have b2t:base.tmps[2]?=some (.pointer (some ⟨b2,0,none⟩)):=by rw [hbase]; rfl
 have b3t:base.tmps[3]?=some (.pointer (some ⟨b3,0,none⟩)):=by rw [hbase]; rfl
 have b4t:base.tmps[4]?=some (.pointer (some ⟨b4,0,none⟩)):=by rw [hbase]; rfl
 have bsz:base.tmps.size=115:=by rw [hbase]; rfl
 have bdf:base.defers=[]:=by rw [hbase]
 rw [← hbase]
 clear hbase
 generalize hW':setB W.drew b4 (.int .i64 me) (.slice o1 n1 c1) (.slice o2 n2 c2) (.slice o3 n3 c3) (.slice o4 n4 c4) (.slice o5 n5 c5)=W' at *
 refine Rg.region_inv (fun L a x=>P9 base (.agg #[.int .i64 me,.slice o1 n1 c1,.slice o2 n2 c2,.slice o3 n3 c3,.slice o4 n4 c4,.slice o5 n5 c5]) (.bool up) (.pointer (some ⟨b3,6,none⟩)) W W' L a x) (by kernel_rfl) (by kernel_rfl) ?_ ?_ ?_
 ·exact⟨rfl,rfl,fun _ _ _ _ _=>rfl,fun h=>absurd h (Rg.none_done _ _),fun h=>absurd h (Rg.none_done _ _),fun h=>absurd h (Rg.none_done _ _),fun h=>absurd h (Rg.none_done _ _),fun _=>rfl,fun h=>absurd h (Rg.none_done _ _),fun h=>absurd h (Rg.none_done _ _)⟩
 ·intro L a x i o hsz I ho hnd hdep
  have hi:i<5:=(List.getElem?_eq_some_iff.1 ho).1
  have hL:L.size=5:=hsz
  have hiL:i<L.size:=by omega
  have k2:a.eval (.tmp 2)=.pointer (some ⟨b2,0,none⟩):=Rg.eval_some ((I.kp 2 (by decide) (by decide) (by decide) (by decide)).trans b2t)
  have k3:a.eval (.tmp 3)=.pointer (some ⟨b3,0,none⟩):=Rg.eval_some ((I.kp 3 (by decide) (by decide) (by decide) (by decide)).trans b3t)
  have k4:a.eval (.tmp 4)=.pointer (some ⟨b4,0,none⟩):=Rg.eval_some ((I.kp 4 (by decide) (by decide) (by decide) (by decide)).trans b4t)
  have asz:a.tmps.size=115:=I.sz.trans bsz
  have self:∀ (d:Nat) (v:Value),d<115→(a.put (some d) v).tmps[d]?=some v:=fun d v hd=>by
   have:d<a.tmps.size:=by omega
   simp [Act.put,this]
  have ds:=fun j=>Rg.done_set hiL j
  rcases (by omega:i=0∨i=1∨i=2∨i=3∨i=4) with rfl|rfl|rfl|rfl|rfl
  ·obtain rfl:=Option.some.inj ho
   have hx:x=W.drew:=I.w0 fun h=>hnd (I.c3 h)
   exact Rg.op_value rfl rfl (Rg.ex_load a.eval _ 31 (.tmp 2) rfl (by rw [k2,hx]; exact loadBr H2.out)) ⟨I.df,(Rg.size_put a _ _).trans I.sz,fun j j1 j2 j3 j4=>(Rg.get_put _ _ _ j (by omega)).trans (I.kp j j1 j2 j3 j4),fun _=>self 112 _ (by decide),fun h=>(Rg.get_put _ _ _ 113 (by decide)).trans (I.t1 (((ds 1).1 h).resolve_left (by decide))),fun h=>(Rg.get_put _ _ _ 114 (by decide)).trans (I.t2 (((ds 2).1 h).resolve_left (by decide))),fun h=>(Rg.get_put _ _ _ 5 (by decide)).trans (I.t4 (((ds 4).1 h).resolve_left (by decide))),fun h=>I.w0 fun h3=>h ((ds 3).2 (Or.inr h3)),fun h=>I.w1 (((ds 3).1 h).resolve_left (by decide)),fun h=>(ds 0).2 (Or.inl rfl)⟩
  ·obtain rfl:=Option.some.inj ho
   exact Rg.op_value rfl rfl (Rg.ex_field a.eval _ 43 (.tmp 3) 4 rfl (by rw [k3]; simp [go_sem])) ⟨I.df,(Rg.size_put a _ _).trans I.sz,fun j j1 j2 j3 j4=>(Rg.get_put _ _ _ j (by omega)).trans (I.kp j j1 j2 j3 j4),fun h=>(Rg.get_put _ _ _ 112 (by decide)).trans (I.t0 (((ds 0).1 h).resolve_left (by decide))),fun _=>self 113 _ (by decide),fun h=>(Rg.get_put _ _ _ 114 (by decide)).trans (I.t2 (((ds 2).1 h).resolve_left (by decide))),fun h=>(Rg.get_put _ _ _ 5 (by decide)).trans (I.t4 (((ds 4).1 h).resolve_left (by decide))),fun h=>I.w0 fun h3=>h ((ds 3).2 (Or.inr h3)),fun h=>I.w1 (((ds 3).1 h).resolve_left (by decide)),fun h=>(ds 0).2 (Or.inr (I.c3 (((ds 3).1 h).resolve_left (by decide))))⟩
  ·obtain rfl:=Option.some.inj ho
   have k113:a.eval (.tmp 113)=.pointer (some ⟨b3,6,none⟩):=Rg.eval_some (I.t1 (hdep ⟨1,.data⟩ (by simp) rfl))
   have hc:x.cell? ⟨b3,6,none⟩=some (.bool up):=by
    by_cases h3:Rg.done L 3
    ·rw [I.w1 h3]; exact X3.out.cell 6
    ·rw [I.w0 h3]; exact H3.out.cell 6
   exact Rg.op_value rfl rfl (Rg.ex_load a.eval _ 4 (.tmp 113) rfl (by rw [k113]; simp [go_sem,hc])) ⟨I.df,(Rg.size_put a _ _).trans I.sz,fun j j1 j2 j3 j4=>(Rg.get_put _ _ _ j (by omega)).trans (I.kp j j1 j2 j3 j4),fun h=>(Rg.get_put _ _ _ 112 (by decide)).trans (I.t0 (((ds 0).1 h).resolve_left (by decide))),fun h=>(Rg.get_put _ _ _ 113 (by decide)).trans (I.t1 (((ds 1).1 h).resolve_left (by decide))),fun _=>self 114 _ (by decide),fun h=>(Rg.get_put _ _ _ 5 (by decide)).trans (I.t4 (((ds 4).1 h).resolve_left (by decide))),fun h=>I.w0 fun h3=>h ((ds 3).2 (Or.inr h3)),fun h=>I.w1 (((ds 3).1 h).resolve_left (by decide)),fun h=>(ds 0).2 (Or.inr (I.c3 (((ds 3).1 h).resolve_left (by decide))))⟩
  ·obtain rfl:=Option.some.inj ho
   have hx:x=W.drew:=I.w0 hnd
   refine Rg.op_store 31 (.tmp 4) (.tmp 112) rfl rfl rfl rfl k4 (Rg.eval_some (I.t0 (hdep ⟨0,.data⟩ (by simp) rfl))) (w':=W') (by rw [hx,← hW']; exact storeBr H4.out me _ _ _ _ _ _ _ _ _ _ _ _ _ _ _) ?_
   exact⟨I.df,I.sz,I.kp,fun h=>I.t0 (((ds 0).1 h).resolve_left (by decide)),fun h=>I.t1 (((ds 1).1 h).resolve_left (by decide)),fun h=>I.t2 (((ds 2).1 h).resolve_left (by decide)),fun h=>I.t4 (((ds 4).1 h).resolve_left (by decide)),fun h=>absurd ((ds 3).2 (Or.inl rfl)) h,fun _=>rfl,fun _=>(ds 0).2 (Or.inr (hdep ⟨0,.data⟩ (by simp) rfl))⟩
  ·obtain rfl:=Option.some.inj ho
   have k114:a.eval (.tmp 114)=.bool up:=Rg.eval_some (I.t2 (hdep ⟨2,.data⟩ (by simp) rfl))
   exact Rg.op_value rfl rfl (Rg.ex_assign a.eval _ (.tmp 114) rfl x) (by rw [k114]; exact⟨I.df,(Rg.size_put a _ _).trans I.sz,fun j j1 j2 j3 j4=>(Rg.get_put _ _ _ j (by omega)).trans (I.kp j j1 j2 j3 j4),fun h=>(Rg.get_put _ _ _ 112 (by decide)).trans (I.t0 (((ds 0).1 h).resolve_left (by decide))),fun h=>(Rg.get_put _ _ _ 113 (by decide)).trans (I.t1 (((ds 1).1 h).resolve_left (by decide))),fun h=>(Rg.get_put _ _ _ 114 (by decide)).trans (I.t2 (((ds 2).1 h).resolve_left (by decide))),fun _=>self 5 _ (by decide),fun h=>I.w0 fun h3=>h ((ds 3).2 (Or.inr h3)),fun h=>I.w1 (((ds 3).1 h).resolve_left (by decide)),fun h=>(ds 0).2 (Or.inr (I.c3 (((ds 3).1 h).resolve_left (by decide))))⟩)
 ·intro L a x I hd
  exact HQ.out a x (I.df.trans bdf) ((I.kp 4 (by decide) (by decide) (by decide) (by decide)).trans b4t) (I.t4 (hd 4 (by decide))) ((I.w1 (hd 3 (by decide))))
abbrev keyE (e:En):Id×Id:=(e.tree,e.sub)
theorem keys_eq {W:World} {l:List XEn} {m:List En} (h:All2 (EnIn W) l m):l.map keyN=m.map keyE:=by
 induction h with
 | nil=>rfl
 | cons x t ih=>rw [List.map_cons,List.map_cons,ih,show keyN _=keyE _ from Prod.ext x.1 x.2.1]
def addB (b:Br) (e:En):Br×Bool:=match b.adv[(findI (b.adv.map Ad.id) e.tree).toNat]? with
 | none=>(b,false)
 | some a=>if findI (b.adv.map Ad.id) e.tree=-1 then (b,false) else if findK (b.ent.map keyE) (keyE e)≠-1 then (b,false) else if e.from_≠-1∧e.from_=a.par then (b,false) else
  ({ b with ent:=insAt b.ent (placeP (b.ent.map keyE) (keyE e)) { e with up:=decide (a.par≠-1) && !coveredE b.ent e.tree e.p } },decide (a.par≠-1) && !coveredE b.ent e.tree e.p)
theorem placeP_le (l:List (Id×Id)) (x:Id×Id):placeP l x≤l.length:=by
 unfold placeP
 exact (List.takeWhile_sublist _).length_le
theorem box_sevenN {W:World} {b:Nat} {c d g h f:Int} {p:Sl} {u:Bool} (hb:Box W b #[.int .i64 c,.int .i64 d,.int .i64 g,.int .i64 h,slv p,.int .i64 f,.bool u] 43):∀ x,Below W.heap.size W x→∀ j v,(cellsN (c,d,g,h,p,f,u))[j]?=some v→x.cell? ((⟨b,0,none⟩:Addr).add j)=some v:=by
 intro x hx j v hj
 rw [add_own,(hb.on hx).cell]
 match j with
 | 0=>exact hj
 | 1=>exact hj
 | 2=>exact hj
 | 3=>exact hj
 | 4=>exact hj
 | 5=>exact hj
 | 6=>exact hj
 | j+7=>simp at hj
theorem radd2_any (b:Br) (nv av sv ev ov:Sl) (z:XEn) (e:En) (w:World) (es:List XEn) (R:XEn→En→Prop) (h_:BrIn w b nv av sv ev ov) (he1:RowN w (slv ev) es) (he2:All2 (EnIn w) es b.ent) (hr2:All2 R es b.ent) (hrz:∀ u,R (z.1,z.2.1,z.2.2.1,z.2.2.2.1,z.2.2.2.2.1,z.2.2.2.2.2.1,u) { e with up:=u }) (hz:EnIn w z e) (l2:b.adv.length≤900) (l3:b.ent.length≤900) (hok:∀ e∈b.ent,PredOk e.p) (hop:PredOk e.p) :
  Calls Tryz.prog 17 #[brv b.me nv av sv ev ov,valN z] w fun e' w'=>(∃ (ev':Sl) (xs:List XEn),e'=.returned (.tuple #[brv b.me nv av sv ev' ov,.bool (addB b e).2])∧((ev'=ev∧xs=es∧(addB b e).1=b)∨OwnN w' w.heap.size (slv ev') xs)∧All2 R xs (addB b e).1.ent)∧Below w.heap.size w w':=by
 obtain⟨no,nn,nc⟩:=nv
 obtain⟨ao,an,ac⟩:=av
 obtain⟨so,sn,sc⟩:=sv
 obtain⟨eo,en,ec⟩:=ev
 obtain⟨oo,on_,oc⟩:=ov
 obtain⟨c,d,g,h,⟨po,pn,pc⟩,fr,up0⟩:=z
 obtain⟨⟨tc,td⟩,⟨sg,sh⟩,p',fr',up'⟩:=e
 obtain⟨hz1,hz2,hz3,hz4,hz5⟩:=hz
 obtain⟨rfl,rfl⟩:c=tc∧d=td:=by simpa using hz1
 obtain⟨rfl,rfl⟩:g=sg∧h=sh:=by simpa using hz2
 obtain rfl:fr=fr':=hz3
 obtain rfl:up0=up':=hz4
 have HP:=Lib.hid hz5
 have HR2:=Lib.hid hr2
 have HRZ:=Lib.hid hrz
 clear hr2 hrz
 obtain⟨xs,hx1,hx2⟩:=h_.adv
 have IDS:=Lib.hid (ids_eq hx2)
 have KYS:=Lib.hid (keys_eq he2)
 have XL:=Lib.hid (show xs.length≤900 by rw [hx2.len]; exact l2)
 have EL:=Lib.hid (show es.length≤900 by rw [he2.len]; exact l3)
 have HA2:=Lib.hid hx2
 have HE2:=Lib.hid he2
 have OK:=Lib.hid hok
 have OP:=Lib.hid hop
 obtain⟨q1,q2,hq⟩:=hx1.len
 obtain⟨rfl,rfl,rfl⟩:ao=q1∧an=xs.length∧ac=q2:=by
  have:Value.slice ao an ac=.slice q1 xs.length q2:=hq
  simpa using this
 clear hq
 obtain⟨q1,q2,hq⟩:=he1.len
 obtain⟨rfl,rfl,rfl⟩:eo=q1∧en=es.length∧ec=q2:=by
  have:Value.slice eo en ec=.slice q1 es.length q2:=hq
  simpa using this
 clear hq
 have FD:=rfind_any b.me (.slice no nn nc) (.slice eo es.length ec) (.slice so sn sc) (.slice oo on_ oc) (ao,xs.length,ac) xs (c,d)
 have EN:=rentry_any b.me (.slice no nn nc) (.slice ao xs.length ac) (.slice so sn sc) (.slice oo on_ oc) (eo,es.length,ec) es (c,d) (g,h)
 have CV:=fun W hb'=>rcovered_any b.me (.slice no nn nc) (.slice ao xs.length ac) (.slice so sn sc) (.slice oo on_ oc) (eo,es.length,ec) es b.ent (c,d) (.slice po pn pc) p' W (he1.on (show Below w.heap.size w W from hb')) (he2.mono fun _ _ h=>h.on hb') (hz5.on hb') hok hop
 have HH:=Lib.hid h_
 obtain⟨h0,h1,h2,h3⟩:=three_new w #[.int .i64 b.me,.slice no nn nc,.slice ao xs.length ac,.slice so sn sc,.slice eo es.length ec,.slice oo on_ oc] #[.int .i64 c,.int .i64 d,.int .i64 g,.int .i64 h,.slice po pn pc,.int .i64 fr,.bool up0] #[.int .i64 0,.slice none 0 0,.slice none 0 0,.slice none 0 0,.slice none 0 0,.slice none 0 0] 31 43 31
 obtain⟨n2,hn2⟩:∃ n,n=xs.length:=⟨_,rfl⟩
 obtain⟨n3,hn3⟩:∃ n,n=es.length:=⟨_,rfl⟩
 simp only [← hn2,← hn3] at h0 h1 h2 h3 hx1 he1 HH FD EN CV ⊢
 have B0:=Lib.hid h0
 have X2:=Lib.hid h1
 have X3:=Lib.hid h2
 have X5:=Lib.hid h3
 have HS:=Lib.hid hx1
 have HE:=Lib.hid he1
 have N2:=Lib.hid hn2
 have N3:=Lib.hid hn3
 obtain⟨me,hme⟩:∃ me,me=b.me:=⟨_,rfl⟩
 simp only [← hme] at X2 B0 X3 X5 FD EN CV ⊢
 have EN:=Lib.hid EN
 have CV:=Lib.hid CV
 clear h0 h1 h2 h3 hx1 he1 hx2 he2 h_ hn2 hn3 l2 l3 hme hz1 hz2 hz5 hok hop
 show Calls Tryz.prog 17 #[.agg #[.int .i64 me,.slice no nn nc,.slice ao n2 ac,.slice so sn sc,.slice eo n3 ec,.slice oo on_ oc],.agg #[.int .i64 c,.int .i64 d,.int .i64 g,.int .i64 h,.slice po pn pc,.int .i64 fr,.bool up0]] w _
 go_enter Tryz.func17,Tryz.ntmps17
 go_upto_region 1 with fail
 generalize (((w.alloc (.cells #[.int .i64 me,.slice no nn nc,.slice ao n2 ac,.slice so sn sc,.slice eo n3 ec,.slice oo on_ oc] 31)).alloc (.cells #[.int .i64 c,.int .i64 d,.int .i64 g,.int .i64 h,.slice po pn pc,.int .i64 fr,.bool up0] 43)).alloc (.cells #[.int .i64 0,.slice none 0 0,.slice none 0 0,.slice none 0 0,.slice none 0 0,.slice none 0 0] 31))=W at *
 have SW:=Lib.hid (FD W (HS.out.on B0.out))
 clear FD
 have x_:=X2.out
 have y_:=X3.out
 obtain⟨x0,x1,x2,x3,x4,x5⟩:=x_.cs6
 obtain⟨y0,y1,y2,y3,y4,y5,y6⟩:=y_.cs7
 clear x_ y_
 go_wp2_with fail
 refine SW.out.mono ?_
 rintro e1 w1 ⟨rfl,hb⟩
 have B1:=Lib.hid (B0.out.trans (hb.mono B0.out.size))
 have Y2:=Lib.hid (X2.out.on hb)
 have Y3:=Lib.hid (X3.out.on hb)
 have Y5:=Lib.hid (X5.out.on hb)
 clear SW hb X2 X3 X5 x0 x1 x2 x3 x4 x5 y0 y1 y2 y3 y4 y5 y6
 have a0:=cell_regrown (show w1.cell? ⟨w.heap.size,0,none⟩=some (.int .i64 me) from Y2.out.cell 0)
 have a1:=cell_regrown (show w1.cell? ⟨w.heap.size,1,none⟩=some (.slice no nn nc) from Y2.out.cell 1)
 have a2:=cell_regrown (show w1.cell? ⟨w.heap.size,2,none⟩=some (.slice ao n2 ac) from Y2.out.cell 2)
 have a3:=cell_regrown (show w1.cell? ⟨w.heap.size,3,none⟩=some (.slice so sn sc) from Y2.out.cell 3)
 have a4:=cell_regrown (show w1.cell? ⟨w.heap.size,4,none⟩=some (.slice eo n3 ec) from Y2.out.cell 4)
 have a5:=cell_regrown (show w1.cell? ⟨w.heap.size,5,none⟩=some (.slice oo on_ oc) from Y2.out.cell 5)
 have b0:=cell_regrown (show w1.cell? ⟨w.heap.size+1,0,none⟩=some (.int .i64 c) from Y3.out.cell 0)
 have b1:=cell_regrown (show w1.cell? ⟨w.heap.size+1,1,none⟩=some (.int .i64 d) from Y3.out.cell 1)
 have b2:=cell_regrown (show w1.cell? ⟨w.heap.size+1,2,none⟩=some (.int .i64 g) from Y3.out.cell 2)
 have b3:=cell_regrown (show w1.cell? ⟨w.heap.size+1,3,none⟩=some (.int .i64 h) from Y3.out.cell 3)
 have b4:=cell_regrown (show w1.cell? ⟨w.heap.size+1,4,none⟩=some (.slice po pn pc) from Y3.out.cell 4)
 have b5:=cell_regrown (show w1.cell? ⟨w.heap.size+1,5,none⟩=some (.int .i64 fr) from Y3.out.cell 5)
 have b6:=cell_regrown (show w1.cell? ⟨w.heap.size+1,6,none⟩=some (.bool up0) from Y3.out.cell 6)
 have CE:=Lib.hid (fun d os=>Calls.regrown_of (d:=d) (os:=os) (EN.out _ ((HE.out.on B1.out).on (below_regrown w1 d os))))
 clear EN
 rcases find_or xs (c,d) with hf|⟨k,y,hf,hy⟩
 ·have LB:=Lib.hid (show addB b ⟨(c,d),(g,h),p',fr,up0⟩=(b,false) by
   have hf':=hf
   rw [IDS.out] at hf'
   unfold addB
   simp only
   rw [hf']
   split
   ·rfl
   ·rw [if_pos rfl])
  rw [hf]
  clear hf
  go_upto_region 2 with fail
  refine wp_region_quiet_below (by kernel_rfl) (by kernel_rfl) ?_
  repeat (go_big_quiet_step (fail))
  refine wpQuiet_nil ?_
  intro _ hw'
  obtain⟨⟨dq,osq⟩,hw''⟩:=hw'
  subst hw''
  have Z6:=below_regrown w1 dq osq
  have B2:=Lib.hid (B1.out.trans (Z6.mono B1.out.size))
  have Z2:=Lib.hid (Y2.out.on Z6)
  have Z3:=Lib.hid (Y3.out.on Z6)
  have Z5:=Lib.hid (Y5.out.on Z6)
  clear Z6 B1 Y2 Y3 Y5 a0 a1 a2 a3 a4 a5 b0 b1 b2 b3 b4 b5 b6
  generalize grow (redrawn w1 dq) osq=w2 at *
  have FB:=Lib.hid (setB_box Z5.out (.int .i64 me) (.slice no nn nc) (.slice ao n2 ac) (.slice so sn sc) (.slice eo n3 ec) (.slice oo on_ oc))
  have BL:=Lib.hid (setB_below (b:=w.heap.size+1+1) B2.out (by omega) (.int .i64 me) (.slice no nn nc) (.slice ao n2 ac) (.slice so sn sc) (.slice eo n3 ec) (.slice oo on_ oc))
  have X2a:=Z2.out
  have X5a:=Z5.out
  obtain⟨x0,x1,x2,x3,x4,x5⟩:=X2a.cs6
  obtain⟨r0,r1,r2,r3,r4,r5⟩:=X5a.cs6
  obtain⟨t0,t1,t2,t3,t4,t5⟩:=X5a.fs6
  have zz:=X5a.lt
  clear X2a X5a
  go_wp2_with fail
  obtain⟨v0,v1,v2,v3,v4,v5⟩:=FB.out.cs6
  refine bodyPost_ret (v:=.tuple #[.agg #[.int .i64 me,.slice no nn nc,.slice ao n2 ac,.slice so sn sc,.slice eo n3 ec,.slice oo on_ oc],.bool false]) (by simp [results,Tryz.results17,go_sem,v0,v1,v2,v3,v4,v5]) rfl ?_
  rw [LB.out]
  exact⟨⟨(eo,n3,ec),es,rfl,Or.inl ⟨rfl,rfl,rfl⟩,HR2.out⟩,BL.out⟩
 ·have HF:=Lib.hid hf
  have HY:=Lib.hid hy
  have hk:=(List.getElem?_eq_some_iff.1 hy).1
  have XL2:=XL.out
  have hkn:k<n2:=by rw [N2.out]; exact hk
  obtain⟨p,ix,px⟩:=elD HS.out rfl N2.out.symm hy
  obtain⟨z1,z2,⟨zo,zn,zc⟩,par⟩:=y
  have PX:=Lib.hid px
  have pr:=cell_regrown (show w1.cell? ⟨p.block,p.off+3,none⟩=some (.int .i64 par) from (px w1 B1.out).2.2.2)
  obtain⟨a,hak⟩:∃ a,b.adv[k]?=some a:=⟨_,List.getElem?_eq_getElem (by rw [← HA2.out.len]; exact hk)⟩
  have hap:a.par=par:=by
   obtain⟨z,hz1,hz2⟩:=HA2.out.at k a hak
   rw [HY.out] at hz1
   obtain rfl:=Option.some.inj hz1
   exact hz2.2.1.symm
  have LA:=Lib.hid (show ∀ i,findK (es.map keyN) ((c,d),(g,h))=i→addB b ⟨(c,d),(g,h),p',fr,up0⟩=if i≠-1 then (b,false) else if fr≠-1∧fr=par then (b,false) else ({ b with ent:=insAt b.ent (placeP (b.ent.map keyE) ((c,d),(g,h))) ⟨(c,d),(g,h),p',fr,decide (par≠-1) && !coveredE b.ent (c,d) p'⟩ },decide (par≠-1) && !coveredE b.ent (c,d) p') from fun i hi=>by
   have hf':=HF.out
   rw [IDS.out] at hf'
   rw [KYS.out] at hi
   unfold addB
   simp only
   rw [hf',Int.toNat_natCast,hak]
   simp only
   rw [if_neg (by omega),hap,hi])
  have hik:decide ((k:Int)<0)=false:=decide_eq_false (by omega)
  rw [hf]
  clear hf hy px hak hap HF HY
  rcases findK_or (es.map keyN) ((c,d),(g,h)) with he|⟨j,he,_⟩
  ·have LC:=LA.out _ he
   rw [if_neg (by simp)] at LC
   rw [he] at CE
   clear LA he
   obtain⟨f1,hf1⟩:∃ r,(fr != -1)=r:=⟨_,rfl⟩
   obtain⟨f2,hf2⟩:∃ r,(fr == par)=r:=⟨_,rfl⟩
   have F1:=Lib.hid hf1
   have F2_:=Lib.hid hf2
   cases f1
   ·have LD:=LC
    rw [if_neg (by exact fun q=>q.1 (by simpa using hf1))] at LD
    clear LC
    go_upto_region 2 with fail
    refine wp_region_quiet_below (by kernel_rfl) (by kernel_rfl) ?_
    repeat (go_big_quiet_step (first | (with_reducible exact CE.out _ _)))
    refine wpQuiet_nil ?_
    intro _ hw'
    obtain⟨⟨dq,osq⟩,hw''⟩:=hw'
    subst hw''
    have Z6:=below_regrown w1 dq osq
    have B2:=Lib.hid (B1.out.trans (Z6.mono B1.out.size))
    have Z2:=Lib.hid (Y2.out.on Z6)
    have Z3:=Lib.hid (Y3.out.on Z6)
    have Z5:=Lib.hid (Y5.out.on Z6)
    clear Z6 B1 Y2 Y3 Y5 a0 a1 a2 a3 a4 a5 b0 b1 b2 b3 b4 b5 b6
    generalize grow (redrawn w1 dq) osq=w2 at *
    have p3b:=(PX.out w2 B2.out).2.2.2
    have x_:=Z2.out
    have y_:=Z3.out
    obtain⟨x0,x1,x2,x3,x4,x5⟩:=x_.cs6
    obtain⟨y0,y1,y2,y3,y4,y5,y6⟩:=y_.cs7
    clear x_ y_
    obtain⟨g1,hg1⟩:∃ r,(par != -1)=r:=⟨_,rfl⟩
    have GP:=Lib.hid (show decide (par≠-1)=g1 by rw [← hg1]; by_cases q:par=-1 <;> simp [q])
    rw [GP.out] at LD
    cases g1
    ·have LB:=Lib.hid LD
     clear LD CV
     have B3:=Lib.hid B2.out
     have F2:=Lib.hid Z2.out
     have F3:=Lib.hid Z3.out
     have F5:=Lib.hid Z5.out
     clear B2 Z2 Z3 Z5
     have f3:=F3.out
     obtain⟨k0,k1,k2,k3,k4,k5,k6⟩:=f3.cs7
     have f36:=f3.fr 6
     have f3l:=f3.lt
     clear f3
     go_upto_region 5 with fail
     clear k0 k1 k2 k3 k4 k5 k6 f36 f3l
     have G3:=Lib.hid (show Box _ _ #[.int .i64 c,.int .i64 d,.int .i64 g,.int .i64 h,.slice po pn pc,.int .i64 fr,.bool false] _ from by simpa using box_set (k:=6) F3.out (.bool false))
     have G2:=Lib.hid (show Box _ _ _ _ from (RowKit.Below.heap_setCell w2 ⟨w.heap.size+1,6,none⟩ (.bool false) _ (show w.heap.size≠w.heap.size+1 by omega)).trans F2.out)
     have G5:=Lib.hid (show Box _ _ _ _ from (RowKit.Below.heap_setCell w2 ⟨w.heap.size+1,6,none⟩ (.bool false) _ (show w.heap.size+1+1≠w.heap.size+1 by omega)).trans F5.out)
     have B4:=Lib.hid (B3.out.setCell (p:=⟨w.heap.size+1,6,none⟩) (by show w.heap.size≤w.heap.size+1; omega) (.bool false))
     clear B3 F2 F3 F5
     generalize w2.setCell ⟨w.heap.size+1,6,none⟩ (.bool false)=w4 at *
     have R4:=Lib.hid (HE.out.on B4.out)
     go_upto_block 0 with (fail)
     refine add_b0 _ w4 w.heap.size (w.heap.size+1) me c d g h _ _ _ _ _ _ _ eo n3 ec es _ _ _ _ _ _ _ _ _ _ _ _ _ _ _ _ _ _ _ _ _ _ _ _ _ _ _ _ _ _ _ _ _ _ _ _ _ _ _ _ _ _ _ _ _ _ _ _ _ _ _ _ _ _ _ _ _ _ _ _ _ _ _ _ _ _ _ _ _ _ _ _ _ _ _ _ _ _ _ _ _ _ _ _ _ _ _ _ _ _ _ _ _ _ _ _ _ _ _ _ _ _ _ _ _ _ _ _ _ _ _ _ G2.out G3.out R4.out N3.out (by have:=EL.out; have:=N3.out; omega) ?_
     intro wr v57 v58 v59 v60 v61 v62 v63 v64 v65 v66 v67 v68 v69 v70 v71 v72 v73 v74 v75 v76 v77 v78 v79 v80 v81 v82 v83 v84 v85 v86 v87 v88 v89 v90 v91 v92 v93 v94 v95 v96 hb
     have B5:=Lib.hid (B4.out.trans (hb.mono B4.out.size))
     have K2:=Lib.hid (G2.out.on hb)
     have K3:=Lib.hid (G3.out.on hb)
     have K5:=Lib.hid (G5.out.on hb)
     have R5:=Lib.hid (R4.out.on hb)
     clear hb B4 G2 G3 G5 R4
     go_upto_region 8 with fail
     refine ins8 _ wr w.heap.size (w.heap.size+1) me _ _ _ _ eo n3 ec (placeP (es.map keyN) ((c,d),(g,h))) es (c,d,g,h,(po,pn,pc),fr,false) _ _ _ _ _ _ _ _ _ _ _ _ _ _ _ _ _ _ _ _ _ _ _ _ _ _ _ _ _ _ _ _ _ _ _ _ _ _ _ _ _ _ _ _ _ _ _ _ _ _ _ _ _ _ _ _ _ _ _ _ _ _ _ _ _ _ _ _ _ _ _ _ _ _ _ _ _ _ _ _ _ _ _ _ _ _ _ _ _ _ _ _ _ _ _ _ _ _ _ _ _ _ _ _ _ _ _ _ _ _ _ _ K2.out (box_sevenN (p:=(po,pn,pc)) K3.out) R5.out (by have:=placeP_le (es.map keyN) ((c,d),(g,h)); rw [List.length_map] at this; exact this) EL.out ?_
     intro xw v97 v98 v99 v100 v101 v102 v103 v104 v105 v106 v107 v108 v109 v110 v111 hbx ho hbl hoth hblk
     obtain⟨td1,td2,htv⟩:=(Row.of_own ho).len
     obtain⟨tl,htl⟩:∃ n,n=(es.take (placeP (es.map keyN) ((c,d),(g,h)))++[(c,d,g,h,(po,pn,pc),fr,false)]++es.drop (placeP (es.map keyN) ((c,d),(g,h)))).length:=⟨_,rfl⟩
     rw [← htl] at htv
     subst htv
     have B6:=Lib.hid (B5.out.trans (hbl _ (Nat.le_refl _)))
     have M2:=hbx
     have M3:=hoth _ _ _ (by omega) K3.out
     have M5:=hoth _ _ _ (by omega) K5.out
     have OE:=Lib.hid (own_fewer ho (show w.heap.size+3≤wr.heap.size by have:=K5.out.lt; omega))
     clear ho hbl hoth hblk htl hbx B5 K2 K3 K5 R5
     go_upto_region 9 with fail
     refine add_r9 _ xw w.heap.size (w.heap.size+1) (w.heap.size+1+1) me no ao so td1 oo nn nc n2 ac sn sc tl td2 on_ oc _ _ _ _ _ _ _ _ _ _ _ _ false _ _ _ _ _ _ _ _ _ _ _ _ _ _ _ _ _ _ _ _ _ _ _ _ _ _ _ _ _ _ _ _ _ _ _ _ _ _ _ _ _ _ _ _ _ _ _ _ _ _ _ _ _ _ _ _ _ _ _ _ _ _ _ _ _ _ _ _ _ _ _ _ _ _ _ _ _ _ _ _ _ _ _ _ _ _ _ _ _ _ _ _ _ _ _ _ _ _ _ _ _ _ _ _ _ _ _ _ _ _ _ _ M2 M3 M5 (by omega) ?_
     intro a9 x9 hd9 h49 h59 hx9
     subst hx9
     have FB:=Lib.hid (setB_box M5.drew (.int .i64 me) (.slice no nn nc) (.slice ao n2 ac) (.slice so sn sc) (.slice td1 tl td2) (.slice oo on_ oc))
     have BL:=Lib.hid (setB_below (b:=w.heap.size+1+1) B6.out.drew (by omega) (.int .i64 me) (.slice no nn nc) (.slice ao n2 ac) (.slice so sn sc) (.slice td1 tl td2) (.slice oo on_ oc))
     have FE:=Lib.hid (setB_ownA (own_on OE.out ((Below.refl xw.heap.size xw).drew)) (w.heap.size+1+1) (by omega) (.int .i64 me) (.slice no nn nc) (.slice ao n2 ac) (.slice so sn sc) (.slice td1 tl td2) (.slice oo on_ oc))
     clear OE M2 M3 M5 B6
     simp only [Exit.then]
     apply_assumption
     go_wp2_with fail
     obtain⟨v0,v1,v2,v3,v4,v5⟩:=FB.out.cs6
     refine bodyPost_ret (v:=.tuple #[.agg #[.int .i64 me,.slice no nn nc,.slice ao n2 ac,.slice so sn sc,.slice td1 tl td2,.slice oo on_ oc],.bool false]) (by simp [results,Tryz.results17,go_sem,h49,h59,v0,v1,v2,v3,v4,v5]) hd9 ?_
     rw [LB.out]
     refine⟨⟨(td1,tl,td2),_,rfl,Or.inr (own_fewer FE.out (show w.heap.size≤w.heap.size+3 by omega)),?_⟩,BL.out⟩
     rw [← KYS.out]
     exact ((HR2.out.take _).append (.cons (HRZ.out _) .nil)).append (HR2.out.drop _)
    ·have CW:=Lib.hid (CV.out w2 B2.out)
     obtain⟨cv,hcv⟩:∃ r,coveredE b.ent (c,d) p'=r:=⟨_,rfl⟩
     rw [hcv] at CW LD
     clear CV hcv
     go_wp2_with fail
     refine CW.out.mono ?_
     rintro e3 w3 ⟨rfl,hb⟩
     have B3:=Lib.hid (B2.out.trans (hb.mono B2.out.size))
     have F2:=Lib.hid (Z2.out.on hb)
     have F3:=Lib.hid (Z3.out.on hb)
     have F5:=Lib.hid (Z5.out.on hb)
     clear hb CW B2 Z2 Z3 Z5 x0 x1 x2 x3 x4 x5 y0 y1 y2 y3 y4 y5 y6 p3b
     cases cv
     ·have LB:=Lib.hid LD
      clear LD
      have f3:=F3.out
      obtain⟨k0,k1,k2,k3,k4,k5,k6⟩:=f3.cs7
      have f36:=f3.fr 6
      have f3l:=f3.lt
      clear f3
      go_upto_region 5 with fail
      clear k0 k1 k2 k3 k4 k5 k6 f36 f3l
      have G3:=Lib.hid (show Box _ _ #[.int .i64 c,.int .i64 d,.int .i64 g,.int .i64 h,.slice po pn pc,.int .i64 fr,.bool true] _ from by simpa using box_set (k:=6) F3.out (.bool true))
      have G2:=Lib.hid (show Box _ _ _ _ from (RowKit.Below.heap_setCell w3 ⟨w.heap.size+1,6,none⟩ (.bool true) _ (show w.heap.size≠w.heap.size+1 by omega)).trans F2.out)
      have G5:=Lib.hid (show Box _ _ _ _ from (RowKit.Below.heap_setCell w3 ⟨w.heap.size+1,6,none⟩ (.bool true) _ (show w.heap.size+1+1≠w.heap.size+1 by omega)).trans F5.out)
      have B4:=Lib.hid (B3.out.setCell (p:=⟨w.heap.size+1,6,none⟩) (by show w.heap.size≤w.heap.size+1; omega) (.bool true))
      clear B3 F2 F3 F5
      generalize w3.setCell ⟨w.heap.size+1,6,none⟩ (.bool true)=w4 at *
      have R4:=Lib.hid (HE.out.on B4.out)
      go_upto_block 0 with (fail)
      refine add_b0 _ w4 w.heap.size (w.heap.size+1) me c d g h _ _ _ _ _ _ _ eo n3 ec es _ _ _ _ _ _ _ _ _ _ _ _ _ _ _ _ _ _ _ _ _ _ _ _ _ _ _ _ _ _ _ _ _ _ _ _ _ _ _ _ _ _ _ _ _ _ _ _ _ _ _ _ _ _ _ _ _ _ _ _ _ _ _ _ _ _ _ _ _ _ _ _ _ _ _ _ _ _ _ _ _ _ _ _ _ _ _ _ _ _ _ _ _ _ _ _ _ _ _ _ _ _ _ _ _ _ _ _ _ _ _ _ G2.out G3.out R4.out N3.out (by have:=EL.out; have:=N3.out; omega) ?_
      intro wr v57 v58 v59 v60 v61 v62 v63 v64 v65 v66 v67 v68 v69 v70 v71 v72 v73 v74 v75 v76 v77 v78 v79 v80 v81 v82 v83 v84 v85 v86 v87 v88 v89 v90 v91 v92 v93 v94 v95 v96 hb
      have B5:=Lib.hid (B4.out.trans (hb.mono B4.out.size))
      have K2:=Lib.hid (G2.out.on hb)
      have K3:=Lib.hid (G3.out.on hb)
      have K5:=Lib.hid (G5.out.on hb)
      have R5:=Lib.hid (R4.out.on hb)
      clear hb B4 G2 G3 G5 R4
      go_upto_region 8 with fail
      refine ins8 _ wr w.heap.size (w.heap.size+1) me _ _ _ _ eo n3 ec (placeP (es.map keyN) ((c,d),(g,h))) es (c,d,g,h,(po,pn,pc),fr,true) _ _ _ _ _ _ _ _ _ _ _ _ _ _ _ _ _ _ _ _ _ _ _ _ _ _ _ _ _ _ _ _ _ _ _ _ _ _ _ _ _ _ _ _ _ _ _ _ _ _ _ _ _ _ _ _ _ _ _ _ _ _ _ _ _ _ _ _ _ _ _ _ _ _ _ _ _ _ _ _ _ _ _ _ _ _ _ _ _ _ _ _ _ _ _ _ _ _ _ _ _ _ _ _ _ _ _ _ _ _ _ _ K2.out (box_sevenN (p:=(po,pn,pc)) K3.out) R5.out (by have:=placeP_le (es.map keyN) ((c,d),(g,h)); rw [List.length_map] at this; exact this) EL.out ?_
      intro xw v97 v98 v99 v100 v101 v102 v103 v104 v105 v106 v107 v108 v109 v110 v111 hbx ho hbl hoth hblk
      obtain⟨td1,td2,htv⟩:=(Row.of_own ho).len
      obtain⟨tl,htl⟩:∃ n,n=(es.take (placeP (es.map keyN) ((c,d),(g,h)))++[(c,d,g,h,(po,pn,pc),fr,true)]++es.drop (placeP (es.map keyN) ((c,d),(g,h)))).length:=⟨_,rfl⟩
      rw [← htl] at htv
      subst htv
      have B6:=Lib.hid (B5.out.trans (hbl _ (Nat.le_refl _)))
      have M2:=hbx
      have M3:=hoth _ _ _ (by omega) K3.out
      have M5:=hoth _ _ _ (by omega) K5.out
      have OE:=Lib.hid (own_fewer ho (show w.heap.size+3≤wr.heap.size by have:=K5.out.lt; omega))
      clear ho hbl hoth hblk htl hbx B5 K2 K3 K5 R5
      go_upto_region 9 with fail
      refine add_r9 _ xw w.heap.size (w.heap.size+1) (w.heap.size+1+1) me no ao so td1 oo nn nc n2 ac sn sc tl td2 on_ oc _ _ _ _ _ _ _ _ _ _ _ _ true _ _ _ _ _ _ _ _ _ _ _ _ _ _ _ _ _ _ _ _ _ _ _ _ _ _ _ _ _ _ _ _ _ _ _ _ _ _ _ _ _ _ _ _ _ _ _ _ _ _ _ _ _ _ _ _ _ _ _ _ _ _ _ _ _ _ _ _ _ _ _ _ _ _ _ _ _ _ _ _ _ _ _ _ _ _ _ _ _ _ _ _ _ _ _ _ _ _ _ _ _ _ _ _ _ _ _ _ _ _ _ _ M2 M3 M5 (by omega) ?_
      intro a9 x9 hd9 h49 h59 hx9
      subst hx9
      have FB:=Lib.hid (setB_box M5.drew (.int .i64 me) (.slice no nn nc) (.slice ao n2 ac) (.slice so sn sc) (.slice td1 tl td2) (.slice oo on_ oc))
      have BL:=Lib.hid (setB_below (b:=w.heap.size+1+1) B6.out.drew (by omega) (.int .i64 me) (.slice no nn nc) (.slice ao n2 ac) (.slice so sn sc) (.slice td1 tl td2) (.slice oo on_ oc))
      have FE:=Lib.hid (setB_ownA (own_on OE.out ((Below.refl xw.heap.size xw).drew)) (w.heap.size+1+1) (by omega) (.int .i64 me) (.slice no nn nc) (.slice ao n2 ac) (.slice so sn sc) (.slice td1 tl td2) (.slice oo on_ oc))
      clear OE M2 M3 M5 B6
      simp only [Exit.then]
      apply_assumption
      go_wp2_with fail
      obtain⟨v0,v1,v2,v3,v4,v5⟩:=FB.out.cs6
      refine bodyPost_ret (v:=.tuple #[.agg #[.int .i64 me,.slice no nn nc,.slice ao n2 ac,.slice so sn sc,.slice td1 tl td2,.slice oo on_ oc],.bool true]) (by simp [results,Tryz.results17,go_sem,h49,h59,v0,v1,v2,v3,v4,v5]) hd9 ?_
      rw [LB.out]
      refine⟨⟨(td1,tl,td2),_,rfl,Or.inr (own_fewer FE.out (show w.heap.size≤w.heap.size+3 by omega)),?_⟩,BL.out⟩
      rw [← KYS.out]
      exact ((HR2.out.take _).append (.cons (HRZ.out _) .nil)).append (HR2.out.drop _)
     ·have LB:=Lib.hid LD
      clear LD
      have f3:=F3.out
      obtain⟨k0,k1,k2,k3,k4,k5,k6⟩:=f3.cs7
      have f36:=f3.fr 6
      have f3l:=f3.lt
      clear f3
      go_upto_region 5 with fail
      clear k0 k1 k2 k3 k4 k5 k6 f36 f3l
      have G3:=Lib.hid (show Box _ _ #[.int .i64 c,.int .i64 d,.int .i64 g,.int .i64 h,.slice po pn pc,.int .i64 fr,.bool false] _ from by simpa using box_set (k:=6) F3.out (.bool false))
      have G2:=Lib.hid (show Box _ _ _ _ from (RowKit.Below.heap_setCell w3 ⟨w.heap.size+1,6,none⟩ (.bool false) _ (show w.heap.size≠w.heap.size+1 by omega)).trans F2.out)
      have G5:=Lib.hid (show Box _ _ _ _ from (RowKit.Below.heap_setCell w3 ⟨w.heap.size+1,6,none⟩ (.bool false) _ (show w.heap.size+1+1≠w.heap.size+1 by omega)).trans F5.out)
      have B4:=Lib.hid (B3.out.setCell (p:=⟨w.heap.size+1,6,none⟩) (by show w.heap.size≤w.heap.size+1; omega) (.bool false))
      clear B3 F2 F3 F5
      generalize w3.setCell ⟨w.heap.size+1,6,none⟩ (.bool false)=w4 at *
      have R4:=Lib.hid (HE.out.on B4.out)
      go_upto_block 0 with (fail)
      refine add_b0 _ w4 w.heap.size (w.heap.size+1) me c d g h _ _ _ _ _ _ _ eo n3 ec es _ _ _ _ _ _ _ _ _ _ _ _ _ _ _ _ _ _ _ _ _ _ _ _ _ _ _ _ _ _ _ _ _ _ _ _ _ _ _ _ _ _ _ _ _ _ _ _ _ _ _ _ _ _ _ _ _ _ _ _ _ _ _ _ _ _ _ _ _ _ _ _ _ _ _ _ _ _ _ _ _ _ _ _ _ _ _ _ _ _ _ _ _ _ _ _ _ _ _ _ _ _ _ _ _ _ _ _ _ _ _ _ G2.out G3.out R4.out N3.out (by have:=EL.out; have:=N3.out; omega) ?_
      intro wr v57 v58 v59 v60 v61 v62 v63 v64 v65 v66 v67 v68 v69 v70 v71 v72 v73 v74 v75 v76 v77 v78 v79 v80 v81 v82 v83 v84 v85 v86 v87 v88 v89 v90 v91 v92 v93 v94 v95 v96 hb
      have B5:=Lib.hid (B4.out.trans (hb.mono B4.out.size))
      have K2:=Lib.hid (G2.out.on hb)
      have K3:=Lib.hid (G3.out.on hb)
      have K5:=Lib.hid (G5.out.on hb)
      have R5:=Lib.hid (R4.out.on hb)
      clear hb B4 G2 G3 G5 R4
      go_upto_region 8 with fail
      refine ins8 _ wr w.heap.size (w.heap.size+1) me _ _ _ _ eo n3 ec (placeP (es.map keyN) ((c,d),(g,h))) es (c,d,g,h,(po,pn,pc),fr,false) _ _ _ _ _ _ _ _ _ _ _ _ _ _ _ _ _ _ _ _ _ _ _ _ _ _ _ _ _ _ _ _ _ _ _ _ _ _ _ _ _ _ _ _ _ _ _ _ _ _ _ _ _ _ _ _ _ _ _ _ _ _ _ _ _ _ _ _ _ _ _ _ _ _ _ _ _ _ _ _ _ _ _ _ _ _ _ _ _ _ _ _ _ _ _ _ _ _ _ _ _ _ _ _ _ _ _ _ _ _ _ _ K2.out (box_sevenN (p:=(po,pn,pc)) K3.out) R5.out (by have:=placeP_le (es.map keyN) ((c,d),(g,h)); rw [List.length_map] at this; exact this) EL.out ?_
      intro xw v97 v98 v99 v100 v101 v102 v103 v104 v105 v106 v107 v108 v109 v110 v111 hbx ho hbl hoth hblk
      obtain⟨td1,td2,htv⟩:=(Row.of_own ho).len
      obtain⟨tl,htl⟩:∃ n,n=(es.take (placeP (es.map keyN) ((c,d),(g,h)))++[(c,d,g,h,(po,pn,pc),fr,false)]++es.drop (placeP (es.map keyN) ((c,d),(g,h)))).length:=⟨_,rfl⟩
      rw [← htl] at htv
      subst htv
      have B6:=Lib.hid (B5.out.trans (hbl _ (Nat.le_refl _)))
      have M2:=hbx
      have M3:=hoth _ _ _ (by omega) K3.out
      have M5:=hoth _ _ _ (by omega) K5.out
      have OE:=Lib.hid (own_fewer ho (show w.heap.size+3≤wr.heap.size by have:=K5.out.lt; omega))
      clear ho hbl hoth hblk htl hbx B5 K2 K3 K5 R5
      go_upto_region 9 with fail
      refine add_r9 _ xw w.heap.size (w.heap.size+1) (w.heap.size+1+1) me no ao so td1 oo nn nc n2 ac sn sc tl td2 on_ oc _ _ _ _ _ _ _ _ _ _ _ _ false _ _ _ _ _ _ _ _ _ _ _ _ _ _ _ _ _ _ _ _ _ _ _ _ _ _ _ _ _ _ _ _ _ _ _ _ _ _ _ _ _ _ _ _ _ _ _ _ _ _ _ _ _ _ _ _ _ _ _ _ _ _ _ _ _ _ _ _ _ _ _ _ _ _ _ _ _ _ _ _ _ _ _ _ _ _ _ _ _ _ _ _ _ _ _ _ _ _ _ _ _ _ _ _ _ _ _ _ _ _ _ _ M2 M3 M5 (by omega) ?_
      intro a9 x9 hd9 h49 h59 hx9
      subst hx9
      have FB:=Lib.hid (setB_box M5.drew (.int .i64 me) (.slice no nn nc) (.slice ao n2 ac) (.slice so sn sc) (.slice td1 tl td2) (.slice oo on_ oc))
      have BL:=Lib.hid (setB_below (b:=w.heap.size+1+1) B6.out.drew (by omega) (.int .i64 me) (.slice no nn nc) (.slice ao n2 ac) (.slice so sn sc) (.slice td1 tl td2) (.slice oo on_ oc))
      have FE:=Lib.hid (setB_ownA (own_on OE.out ((Below.refl xw.heap.size xw).drew)) (w.heap.size+1+1) (by omega) (.int .i64 me) (.slice no nn nc) (.slice ao n2 ac) (.slice so sn sc) (.slice td1 tl td2) (.slice oo on_ oc))
      clear OE M2 M3 M5 B6
      simp only [Exit.then]
      apply_assumption
      go_wp2_with fail
      obtain⟨v0,v1,v2,v3,v4,v5⟩:=FB.out.cs6
      refine bodyPost_ret (v:=.tuple #[.agg #[.int .i64 me,.slice no nn nc,.slice ao n2 ac,.slice so sn sc,.slice td1 tl td2,.slice oo on_ oc],.bool false]) (by simp [results,Tryz.results17,go_sem,h49,h59,v0,v1,v2,v3,v4,v5]) hd9 ?_
      rw [LB.out]
      refine⟨⟨(td1,tl,td2),_,rfl,Or.inr (own_fewer FE.out (show w.heap.size≤w.heap.size+3 by omega)),?_⟩,BL.out⟩
      rw [← KYS.out]
      exact ((HR2.out.take _).append (.cons (HRZ.out _) .nil)).append (HR2.out.drop _)
   ·cases f2
    ·have LD:=LC
     rw [if_neg (by intro q; simp [q.2] at hf2)] at LD
     clear LC
     go_upto_region 2 with fail
     refine wp_region_quiet_below (by kernel_rfl) (by kernel_rfl) ?_
     repeat (go_big_quiet_step (first | (with_reducible exact CE.out _ _)))
     refine wpQuiet_nil ?_
     intro _ hw'
     obtain⟨⟨dq,osq⟩,hw''⟩:=hw'
     subst hw''
     have Z6:=below_regrown w1 dq osq
     have B2:=Lib.hid (B1.out.trans (Z6.mono B1.out.size))
     have Z2:=Lib.hid (Y2.out.on Z6)
     have Z3:=Lib.hid (Y3.out.on Z6)
     have Z5:=Lib.hid (Y5.out.on Z6)
     clear Z6 B1 Y2 Y3 Y5 a0 a1 a2 a3 a4 a5 b0 b1 b2 b3 b4 b5 b6
     generalize grow (redrawn w1 dq) osq=w2 at *
     have p3b:=(PX.out w2 B2.out).2.2.2
     have x_:=Z2.out
     have y_:=Z3.out
     obtain⟨x0,x1,x2,x3,x4,x5⟩:=x_.cs6
     obtain⟨y0,y1,y2,y3,y4,y5,y6⟩:=y_.cs7
     clear x_ y_
     obtain⟨g1,hg1⟩:∃ r,(par != -1)=r:=⟨_,rfl⟩
     have GP:=Lib.hid (show decide (par≠-1)=g1 by rw [← hg1]; by_cases q:par=-1 <;> simp [q])
     rw [GP.out] at LD
     cases g1
     ·have LB:=Lib.hid LD
      clear LD CV
      have B3:=Lib.hid B2.out
      have F2:=Lib.hid Z2.out
      have F3:=Lib.hid Z3.out
      have F5:=Lib.hid Z5.out
      clear B2 Z2 Z3 Z5
      have f3:=F3.out
      obtain⟨k0,k1,k2,k3,k4,k5,k6⟩:=f3.cs7
      have f36:=f3.fr 6
      have f3l:=f3.lt
      clear f3
      go_upto_region 5 with fail
      clear k0 k1 k2 k3 k4 k5 k6 f36 f3l
      have G3:=Lib.hid (show Box _ _ #[.int .i64 c,.int .i64 d,.int .i64 g,.int .i64 h,.slice po pn pc,.int .i64 fr,.bool false] _ from by simpa using box_set (k:=6) F3.out (.bool false))
      have G2:=Lib.hid (show Box _ _ _ _ from (RowKit.Below.heap_setCell w2 ⟨w.heap.size+1,6,none⟩ (.bool false) _ (show w.heap.size≠w.heap.size+1 by omega)).trans F2.out)
      have G5:=Lib.hid (show Box _ _ _ _ from (RowKit.Below.heap_setCell w2 ⟨w.heap.size+1,6,none⟩ (.bool false) _ (show w.heap.size+1+1≠w.heap.size+1 by omega)).trans F5.out)
      have B4:=Lib.hid (B3.out.setCell (p:=⟨w.heap.size+1,6,none⟩) (by show w.heap.size≤w.heap.size+1; omega) (.bool false))
      clear B3 F2 F3 F5
      generalize w2.setCell ⟨w.heap.size+1,6,none⟩ (.bool false)=w4 at *
      have R4:=Lib.hid (HE.out.on B4.out)
      go_upto_block 0 with (fail)
      refine add_b0 _ w4 w.heap.size (w.heap.size+1) me c d g h _ _ _ _ _ _ _ eo n3 ec es _ _ _ _ _ _ _ _ _ _ _ _ _ _ _ _ _ _ _ _ _ _ _ _ _ _ _ _ _ _ _ _ _ _ _ _ _ _ _ _ _ _ _ _ _ _ _ _ _ _ _ _ _ _ _ _ _ _ _ _ _ _ _ _ _ _ _ _ _ _ _ _ _ _ _ _ _ _ _ _ _ _ _ _ _ _ _ _ _ _ _ _ _ _ _ _ _ _ _ _ _ _ _ _ _ _ _ _ _ _ _ _ G2.out G3.out R4.out N3.out (by have:=EL.out; have:=N3.out; omega) ?_
      intro wr v57 v58 v59 v60 v61 v62 v63 v64 v65 v66 v67 v68 v69 v70 v71 v72 v73 v74 v75 v76 v77 v78 v79 v80 v81 v82 v83 v84 v85 v86 v87 v88 v89 v90 v91 v92 v93 v94 v95 v96 hb
      have B5:=Lib.hid (B4.out.trans (hb.mono B4.out.size))
      have K2:=Lib.hid (G2.out.on hb)
      have K3:=Lib.hid (G3.out.on hb)
      have K5:=Lib.hid (G5.out.on hb)
      have R5:=Lib.hid (R4.out.on hb)
      clear hb B4 G2 G3 G5 R4
      go_upto_region 8 with fail
      refine ins8 _ wr w.heap.size (w.heap.size+1) me _ _ _ _ eo n3 ec (placeP (es.map keyN) ((c,d),(g,h))) es (c,d,g,h,(po,pn,pc),fr,false) _ _ _ _ _ _ _ _ _ _ _ _ _ _ _ _ _ _ _ _ _ _ _ _ _ _ _ _ _ _ _ _ _ _ _ _ _ _ _ _ _ _ _ _ _ _ _ _ _ _ _ _ _ _ _ _ _ _ _ _ _ _ _ _ _ _ _ _ _ _ _ _ _ _ _ _ _ _ _ _ _ _ _ _ _ _ _ _ _ _ _ _ _ _ _ _ _ _ _ _ _ _ _ _ _ _ _ _ _ _ _ _ K2.out (box_sevenN (p:=(po,pn,pc)) K3.out) R5.out (by have:=placeP_le (es.map keyN) ((c,d),(g,h)); rw [List.length_map] at this; exact this) EL.out ?_
      intro xw v97 v98 v99 v100 v101 v102 v103 v104 v105 v106 v107 v108 v109 v110 v111 hbx ho hbl hoth hblk
      obtain⟨td1,td2,htv⟩:=(Row.of_own ho).len
      obtain⟨tl,htl⟩:∃ n,n=(es.take (placeP (es.map keyN) ((c,d),(g,h)))++[(c,d,g,h,(po,pn,pc),fr,false)]++es.drop (placeP (es.map keyN) ((c,d),(g,h)))).length:=⟨_,rfl⟩
      rw [← htl] at htv
      subst htv
      have B6:=Lib.hid (B5.out.trans (hbl _ (Nat.le_refl _)))
      have M2:=hbx
      have M3:=hoth _ _ _ (by omega) K3.out
      have M5:=hoth _ _ _ (by omega) K5.out
      have OE:=Lib.hid (own_fewer ho (show w.heap.size+3≤wr.heap.size by have:=K5.out.lt; omega))
      clear ho hbl hoth hblk htl hbx B5 K2 K3 K5 R5
      go_upto_region 9 with fail
      refine add_r9 _ xw w.heap.size (w.heap.size+1) (w.heap.size+1+1) me no ao so td1 oo nn nc n2 ac sn sc tl td2 on_ oc _ _ _ _ _ _ _ _ _ _ _ _ false _ _ _ _ _ _ _ _ _ _ _ _ _ _ _ _ _ _ _ _ _ _ _ _ _ _ _ _ _ _ _ _ _ _ _ _ _ _ _ _ _ _ _ _ _ _ _ _ _ _ _ _ _ _ _ _ _ _ _ _ _ _ _ _ _ _ _ _ _ _ _ _ _ _ _ _ _ _ _ _ _ _ _ _ _ _ _ _ _ _ _ _ _ _ _ _ _ _ _ _ _ _ _ _ _ _ _ _ _ _ _ _ M2 M3 M5 (by omega) ?_
      intro a9 x9 hd9 h49 h59 hx9
      subst hx9
      have FB:=Lib.hid (setB_box M5.drew (.int .i64 me) (.slice no nn nc) (.slice ao n2 ac) (.slice so sn sc) (.slice td1 tl td2) (.slice oo on_ oc))
      have BL:=Lib.hid (setB_below (b:=w.heap.size+1+1) B6.out.drew (by omega) (.int .i64 me) (.slice no nn nc) (.slice ao n2 ac) (.slice so sn sc) (.slice td1 tl td2) (.slice oo on_ oc))
      have FE:=Lib.hid (setB_ownA (own_on OE.out ((Below.refl xw.heap.size xw).drew)) (w.heap.size+1+1) (by omega) (.int .i64 me) (.slice no nn nc) (.slice ao n2 ac) (.slice so sn sc) (.slice td1 tl td2) (.slice oo on_ oc))
      clear OE M2 M3 M5 B6
      simp only [Exit.then]
      apply_assumption
      go_wp2_with fail
      obtain⟨v0,v1,v2,v3,v4,v5⟩:=FB.out.cs6
      refine bodyPost_ret (v:=.tuple #[.agg #[.int .i64 me,.slice no nn nc,.slice ao n2 ac,.slice so sn sc,.slice td1 tl td2,.slice oo on_ oc],.bool false]) (by simp [results,Tryz.results17,go_sem,h49,h59,v0,v1,v2,v3,v4,v5]) hd9 ?_
      rw [LB.out]
      refine⟨⟨(td1,tl,td2),_,rfl,Or.inr (own_fewer FE.out (show w.heap.size≤w.heap.size+3 by omega)),?_⟩,BL.out⟩
      rw [← KYS.out]
      exact ((HR2.out.take _).append (.cons (HRZ.out _) .nil)).append (HR2.out.drop _)
     ·have CW:=Lib.hid (CV.out w2 B2.out)
      obtain⟨cv,hcv⟩:∃ r,coveredE b.ent (c,d) p'=r:=⟨_,rfl⟩
      rw [hcv] at CW LD
      clear CV hcv
      go_wp2_with fail
      refine CW.out.mono ?_
      rintro e3 w3 ⟨rfl,hb⟩
      have B3:=Lib.hid (B2.out.trans (hb.mono B2.out.size))
      have F2:=Lib.hid (Z2.out.on hb)
      have F3:=Lib.hid (Z3.out.on hb)
      have F5:=Lib.hid (Z5.out.on hb)
      clear hb CW B2 Z2 Z3 Z5 x0 x1 x2 x3 x4 x5 y0 y1 y2 y3 y4 y5 y6 p3b
      cases cv
      ·have LB:=Lib.hid LD
       clear LD
       have f3:=F3.out
       obtain⟨k0,k1,k2,k3,k4,k5,k6⟩:=f3.cs7
       have f36:=f3.fr 6
       have f3l:=f3.lt
       clear f3
       go_upto_region 5 with fail
       clear k0 k1 k2 k3 k4 k5 k6 f36 f3l
       have G3:=Lib.hid (show Box _ _ #[.int .i64 c,.int .i64 d,.int .i64 g,.int .i64 h,.slice po pn pc,.int .i64 fr,.bool true] _ from by simpa using box_set (k:=6) F3.out (.bool true))
       have G2:=Lib.hid (show Box _ _ _ _ from (RowKit.Below.heap_setCell w3 ⟨w.heap.size+1,6,none⟩ (.bool true) _ (show w.heap.size≠w.heap.size+1 by omega)).trans F2.out)
       have G5:=Lib.hid (show Box _ _ _ _ from (RowKit.Below.heap_setCell w3 ⟨w.heap.size+1,6,none⟩ (.bool true) _ (show w.heap.size+1+1≠w.heap.size+1 by omega)).trans F5.out)
       have B4:=Lib.hid (B3.out.setCell (p:=⟨w.heap.size+1,6,none⟩) (by show w.heap.size≤w.heap.size+1; omega) (.bool true))
       clear B3 F2 F3 F5
       generalize w3.setCell ⟨w.heap.size+1,6,none⟩ (.bool true)=w4 at *
       have R4:=Lib.hid (HE.out.on B4.out)
       go_upto_block 0 with (fail)
       refine add_b0 _ w4 w.heap.size (w.heap.size+1) me c d g h _ _ _ _ _ _ _ eo n3 ec es _ _ _ _ _ _ _ _ _ _ _ _ _ _ _ _ _ _ _ _ _ _ _ _ _ _ _ _ _ _ _ _ _ _ _ _ _ _ _ _ _ _ _ _ _ _ _ _ _ _ _ _ _ _ _ _ _ _ _ _ _ _ _ _ _ _ _ _ _ _ _ _ _ _ _ _ _ _ _ _ _ _ _ _ _ _ _ _ _ _ _ _ _ _ _ _ _ _ _ _ _ _ _ _ _ _ _ _ _ _ _ _ G2.out G3.out R4.out N3.out (by have:=EL.out; have:=N3.out; omega) ?_
       intro wr v57 v58 v59 v60 v61 v62 v63 v64 v65 v66 v67 v68 v69 v70 v71 v72 v73 v74 v75 v76 v77 v78 v79 v80 v81 v82 v83 v84 v85 v86 v87 v88 v89 v90 v91 v92 v93 v94 v95 v96 hb
       have B5:=Lib.hid (B4.out.trans (hb.mono B4.out.size))
       have K2:=Lib.hid (G2.out.on hb)
       have K3:=Lib.hid (G3.out.on hb)
       have K5:=Lib.hid (G5.out.on hb)
       have R5:=Lib.hid (R4.out.on hb)
       clear hb B4 G2 G3 G5 R4
       go_upto_region 8 with fail
       refine ins8 _ wr w.heap.size (w.heap.size+1) me _ _ _ _ eo n3 ec (placeP (es.map keyN) ((c,d),(g,h))) es (c,d,g,h,(po,pn,pc),fr,true) _ _ _ _ _ _ _ _ _ _ _ _ _ _ _ _ _ _ _ _ _ _ _ _ _ _ _ _ _ _ _ _ _ _ _ _ _ _ _ _ _ _ _ _ _ _ _ _ _ _ _ _ _ _ _ _ _ _ _ _ _ _ _ _ _ _ _ _ _ _ _ _ _ _ _ _ _ _ _ _ _ _ _ _ _ _ _ _ _ _ _ _ _ _ _ _ _ _ _ _ _ _ _ _ _ _ _ _ _ _ _ _ K2.out (box_sevenN (p:=(po,pn,pc)) K3.out) R5.out (by have:=placeP_le (es.map keyN) ((c,d),(g,h)); rw [List.length_map] at this; exact this) EL.out ?_
       intro xw v97 v98 v99 v100 v101 v102 v103 v104 v105 v106 v107 v108 v109 v110 v111 hbx ho hbl hoth hblk
       obtain⟨td1,td2,htv⟩:=(Row.of_own ho).len
       obtain⟨tl,htl⟩:∃ n,n=(es.take (placeP (es.map keyN) ((c,d),(g,h)))++[(c,d,g,h,(po,pn,pc),fr,true)]++es.drop (placeP (es.map keyN) ((c,d),(g,h)))).length:=⟨_,rfl⟩
       rw [← htl] at htv
       subst htv
       have B6:=Lib.hid (B5.out.trans (hbl _ (Nat.le_refl _)))
       have M2:=hbx
       have M3:=hoth _ _ _ (by omega) K3.out
       have M5:=hoth _ _ _ (by omega) K5.out
       have OE:=Lib.hid (own_fewer ho (show w.heap.size+3≤wr.heap.size by have:=K5.out.lt; omega))
       clear ho hbl hoth hblk htl hbx B5 K2 K3 K5 R5
       go_upto_region 9 with fail
       refine add_r9 _ xw w.heap.size (w.heap.size+1) (w.heap.size+1+1) me no ao so td1 oo nn nc n2 ac sn sc tl td2 on_ oc _ _ _ _ _ _ _ _ _ _ _ _ true _ _ _ _ _ _ _ _ _ _ _ _ _ _ _ _ _ _ _ _ _ _ _ _ _ _ _ _ _ _ _ _ _ _ _ _ _ _ _ _ _ _ _ _ _ _ _ _ _ _ _ _ _ _ _ _ _ _ _ _ _ _ _ _ _ _ _ _ _ _ _ _ _ _ _ _ _ _ _ _ _ _ _ _ _ _ _ _ _ _ _ _ _ _ _ _ _ _ _ _ _ _ _ _ _ _ _ _ _ _ _ _ M2 M3 M5 (by omega) ?_
       intro a9 x9 hd9 h49 h59 hx9
       subst hx9
       have FB:=Lib.hid (setB_box M5.drew (.int .i64 me) (.slice no nn nc) (.slice ao n2 ac) (.slice so sn sc) (.slice td1 tl td2) (.slice oo on_ oc))
       have BL:=Lib.hid (setB_below (b:=w.heap.size+1+1) B6.out.drew (by omega) (.int .i64 me) (.slice no nn nc) (.slice ao n2 ac) (.slice so sn sc) (.slice td1 tl td2) (.slice oo on_ oc))
       have FE:=Lib.hid (setB_ownA (own_on OE.out ((Below.refl xw.heap.size xw).drew)) (w.heap.size+1+1) (by omega) (.int .i64 me) (.slice no nn nc) (.slice ao n2 ac) (.slice so sn sc) (.slice td1 tl td2) (.slice oo on_ oc))
       clear OE M2 M3 M5 B6
       simp only [Exit.then]
       apply_assumption
       go_wp2_with fail
       obtain⟨v0,v1,v2,v3,v4,v5⟩:=FB.out.cs6
       refine bodyPost_ret (v:=.tuple #[.agg #[.int .i64 me,.slice no nn nc,.slice ao n2 ac,.slice so sn sc,.slice td1 tl td2,.slice oo on_ oc],.bool true]) (by simp [results,Tryz.results17,go_sem,h49,h59,v0,v1,v2,v3,v4,v5]) hd9 ?_
       rw [LB.out]
       refine⟨⟨(td1,tl,td2),_,rfl,Or.inr (own_fewer FE.out (show w.heap.size≤w.heap.size+3 by omega)),?_⟩,BL.out⟩
       rw [← KYS.out]
       exact ((HR2.out.take _).append (.cons (HRZ.out _) .nil)).append (HR2.out.drop _)
      ·have LB:=Lib.hid LD
       clear LD
       have f3:=F3.out
       obtain⟨k0,k1,k2,k3,k4,k5,k6⟩:=f3.cs7
       have f36:=f3.fr 6
       have f3l:=f3.lt
       clear f3
       go_upto_region 5 with fail
       clear k0 k1 k2 k3 k4 k5 k6 f36 f3l
       have G3:=Lib.hid (show Box _ _ #[.int .i64 c,.int .i64 d,.int .i64 g,.int .i64 h,.slice po pn pc,.int .i64 fr,.bool false] _ from by simpa using box_set (k:=6) F3.out (.bool false))
       have G2:=Lib.hid (show Box _ _ _ _ from (RowKit.Below.heap_setCell w3 ⟨w.heap.size+1,6,none⟩ (.bool false) _ (show w.heap.size≠w.heap.size+1 by omega)).trans F2.out)
       have G5:=Lib.hid (show Box _ _ _ _ from (RowKit.Below.heap_setCell w3 ⟨w.heap.size+1,6,none⟩ (.bool false) _ (show w.heap.size+1+1≠w.heap.size+1 by omega)).trans F5.out)
       have B4:=Lib.hid (B3.out.setCell (p:=⟨w.heap.size+1,6,none⟩) (by show w.heap.size≤w.heap.size+1; omega) (.bool false))
       clear B3 F2 F3 F5
       generalize w3.setCell ⟨w.heap.size+1,6,none⟩ (.bool false)=w4 at *
       have R4:=Lib.hid (HE.out.on B4.out)
       go_upto_block 0 with (fail)
       refine add_b0 _ w4 w.heap.size (w.heap.size+1) me c d g h _ _ _ _ _ _ _ eo n3 ec es _ _ _ _ _ _ _ _ _ _ _ _ _ _ _ _ _ _ _ _ _ _ _ _ _ _ _ _ _ _ _ _ _ _ _ _ _ _ _ _ _ _ _ _ _ _ _ _ _ _ _ _ _ _ _ _ _ _ _ _ _ _ _ _ _ _ _ _ _ _ _ _ _ _ _ _ _ _ _ _ _ _ _ _ _ _ _ _ _ _ _ _ _ _ _ _ _ _ _ _ _ _ _ _ _ _ _ _ _ _ _ _ G2.out G3.out R4.out N3.out (by have:=EL.out; have:=N3.out; omega) ?_
       intro wr v57 v58 v59 v60 v61 v62 v63 v64 v65 v66 v67 v68 v69 v70 v71 v72 v73 v74 v75 v76 v77 v78 v79 v80 v81 v82 v83 v84 v85 v86 v87 v88 v89 v90 v91 v92 v93 v94 v95 v96 hb
       have B5:=Lib.hid (B4.out.trans (hb.mono B4.out.size))
       have K2:=Lib.hid (G2.out.on hb)
       have K3:=Lib.hid (G3.out.on hb)
       have K5:=Lib.hid (G5.out.on hb)
       have R5:=Lib.hid (R4.out.on hb)
       clear hb B4 G2 G3 G5 R4
       go_upto_region 8 with fail
       refine ins8 _ wr w.heap.size (w.heap.size+1) me _ _ _ _ eo n3 ec (placeP (es.map keyN) ((c,d),(g,h))) es (c,d,g,h,(po,pn,pc),fr,false) _ _ _ _ _ _ _ _ _ _ _ _ _ _ _ _ _ _ _ _ _ _ _ _ _ _ _ _ _ _ _ _ _ _ _ _ _ _ _ _ _ _ _ _ _ _ _ _ _ _ _ _ _ _ _ _ _ _ _ _ _ _ _ _ _ _ _ _ _ _ _ _ _ _ _ _ _ _ _ _ _ _ _ _ _ _ _ _ _ _ _ _ _ _ _ _ _ _ _ _ _ _ _ _ _ _ _ _ _ _ _ _ K2.out (box_sevenN (p:=(po,pn,pc)) K3.out) R5.out (by have:=placeP_le (es.map keyN) ((c,d),(g,h)); rw [List.length_map] at this; exact this) EL.out ?_
       intro xw v97 v98 v99 v100 v101 v102 v103 v104 v105 v106 v107 v108 v109 v110 v111 hbx ho hbl hoth hblk
       obtain⟨td1,td2,htv⟩:=(Row.of_own ho).len
       obtain⟨tl,htl⟩:∃ n,n=(es.take (placeP (es.map keyN) ((c,d),(g,h)))++[(c,d,g,h,(po,pn,pc),fr,false)]++es.drop (placeP (es.map keyN) ((c,d),(g,h)))).length:=⟨_,rfl⟩
       rw [← htl] at htv
       subst htv
       have B6:=Lib.hid (B5.out.trans (hbl _ (Nat.le_refl _)))
       have M2:=hbx
       have M3:=hoth _ _ _ (by omega) K3.out
       have M5:=hoth _ _ _ (by omega) K5.out
       have OE:=Lib.hid (own_fewer ho (show w.heap.size+3≤wr.heap.size by have:=K5.out.lt; omega))
       clear ho hbl hoth hblk htl hbx B5 K2 K3 K5 R5
       go_upto_region 9 with fail
       refine add_r9 _ xw w.heap.size (w.heap.size+1) (w.heap.size+1+1) me no ao so td1 oo nn nc n2 ac sn sc tl td2 on_ oc _ _ _ _ _ _ _ _ _ _ _ _ false _ _ _ _ _ _ _ _ _ _ _ _ _ _ _ _ _ _ _ _ _ _ _ _ _ _ _ _ _ _ _ _ _ _ _ _ _ _ _ _ _ _ _ _ _ _ _ _ _ _ _ _ _ _ _ _ _ _ _ _ _ _ _ _ _ _ _ _ _ _ _ _ _ _ _ _ _ _ _ _ _ _ _ _ _ _ _ _ _ _ _ _ _ _ _ _ _ _ _ _ _ _ _ _ _ _ _ _ _ _ _ _ M2 M3 M5 (by omega) ?_
       intro a9 x9 hd9 h49 h59 hx9
       subst hx9
       have FB:=Lib.hid (setB_box M5.drew (.int .i64 me) (.slice no nn nc) (.slice ao n2 ac) (.slice so sn sc) (.slice td1 tl td2) (.slice oo on_ oc))
       have BL:=Lib.hid (setB_below (b:=w.heap.size+1+1) B6.out.drew (by omega) (.int .i64 me) (.slice no nn nc) (.slice ao n2 ac) (.slice so sn sc) (.slice td1 tl td2) (.slice oo on_ oc))
       have FE:=Lib.hid (setB_ownA (own_on OE.out ((Below.refl xw.heap.size xw).drew)) (w.heap.size+1+1) (by omega) (.int .i64 me) (.slice no nn nc) (.slice ao n2 ac) (.slice so sn sc) (.slice td1 tl td2) (.slice oo on_ oc))
       clear OE M2 M3 M5 B6
       simp only [Exit.then]
       apply_assumption
       go_wp2_with fail
       obtain⟨v0,v1,v2,v3,v4,v5⟩:=FB.out.cs6
       refine bodyPost_ret (v:=.tuple #[.agg #[.int .i64 me,.slice no nn nc,.slice ao n2 ac,.slice so sn sc,.slice td1 tl td2,.slice oo on_ oc],.bool false]) (by simp [results,Tryz.results17,go_sem,h49,h59,v0,v1,v2,v3,v4,v5]) hd9 ?_
       rw [LB.out]
       refine⟨⟨(td1,tl,td2),_,rfl,Or.inr (own_fewer FE.out (show w.heap.size≤w.heap.size+3 by omega)),?_⟩,BL.out⟩
       rw [← KYS.out]
       exact ((HR2.out.take _).append (.cons (HRZ.out _) .nil)).append (HR2.out.drop _)
    ·have LB:=Lib.hid (LC.trans (if_pos (by simpa using And.intro hf1 hf2)))
     clear LC
     go_upto_region 2 with fail
     refine wp_region_quiet_below (by kernel_rfl) (by kernel_rfl) ?_
     repeat (go_big_quiet_step (first | (with_reducible exact CE.out _ _)))
     refine wpQuiet_nil ?_
     intro _ hw'
     obtain⟨⟨dq,osq⟩,hw''⟩:=hw'
     subst hw''
     have Z6:=below_regrown w1 dq osq
     have B2:=Lib.hid (B1.out.trans (Z6.mono B1.out.size))
     have Z2:=Lib.hid (Y2.out.on Z6)
     have Z3:=Lib.hid (Y3.out.on Z6)
     have Z5:=Lib.hid (Y5.out.on Z6)
     clear Z6 B1 Y2 Y3 Y5 a0 a1 a2 a3 a4 a5 b0 b1 b2 b3 b4 b5 b6
     generalize grow (redrawn w1 dq) osq=w2 at *
     have FB:=Lib.hid (setB_box Z5.out (.int .i64 me) (.slice no nn nc) (.slice ao n2 ac) (.slice so sn sc) (.slice eo n3 ec) (.slice oo on_ oc))
     have BL:=Lib.hid (setB_below (b:=w.heap.size+1+1) B2.out (by omega) (.int .i64 me) (.slice no nn nc) (.slice ao n2 ac) (.slice so sn sc) (.slice eo n3 ec) (.slice oo on_ oc))
     have X2a:=Z2.out
     have X5a:=Z5.out
     obtain⟨x0,x1,x2,x3,x4,x5⟩:=X2a.cs6
     obtain⟨r0,r1,r2,r3,r4,r5⟩:=X5a.cs6
     obtain⟨t0,t1,t2,t3,t4,t5⟩:=X5a.fs6
     have zz:=X5a.lt
     clear X2a X5a
     go_wp2_with fail
     obtain⟨v0,v1,v2,v3,v4,v5⟩:=FB.out.cs6
     refine bodyPost_ret (v:=.tuple #[.agg #[.int .i64 me,.slice no nn nc,.slice ao n2 ac,.slice so sn sc,.slice eo n3 ec,.slice oo on_ oc],.bool false]) (by simp [results,Tryz.results17,go_sem,v0,v1,v2,v3,v4,v5]) rfl ?_
     rw [LB.out]
     exact⟨⟨(eo,n3,ec),es,rfl,Or.inl ⟨rfl,rfl,rfl⟩,HR2.out⟩,BL.out⟩
  ·have LB:=Lib.hid (show addB b ⟨(c,d),(g,h),p',fr,up0⟩=(b,false) from (LA.out _ he).trans (if_pos (by omega)))
   have hge:decide ((0:Int)≤(j:Int))=true:=decide_eq_true (by omega)
   rw [he] at CE
   clear LA he
   go_upto_region 2 with fail
   refine wp_region_quiet_below (by kernel_rfl) (by kernel_rfl) ?_
   repeat (go_big_quiet_step (first | (with_reducible exact CE.out _ _)))
   refine wpQuiet_nil ?_
   intro _ hw'
   obtain⟨⟨dq,osq⟩,hw''⟩:=hw'
   subst hw''
   have Z6:=below_regrown w1 dq osq
   have B2:=Lib.hid (B1.out.trans (Z6.mono B1.out.size))
   have Z2:=Lib.hid (Y2.out.on Z6)
   have Z3:=Lib.hid (Y3.out.on Z6)
   have Z5:=Lib.hid (Y5.out.on Z6)
   clear Z6 B1 Y2 Y3 Y5 a0 a1 a2 a3 a4 a5 b0 b1 b2 b3 b4 b5 b6
   generalize grow (redrawn w1 dq) osq=w2 at *
   have FB:=Lib.hid (setB_box Z5.out (.int .i64 me) (.slice no nn nc) (.slice ao n2 ac) (.slice so sn sc) (.slice eo n3 ec) (.slice oo on_ oc))
   have BL:=Lib.hid (setB_below (b:=w.heap.size+1+1) B2.out (by omega) (.int .i64 me) (.slice no nn nc) (.slice ao n2 ac) (.slice so sn sc) (.slice eo n3 ec) (.slice oo on_ oc))
   have X2a:=Z2.out
   have X5a:=Z5.out
   obtain⟨x0,x1,x2,x3,x4,x5⟩:=X2a.cs6
   obtain⟨r0,r1,r2,r3,r4,r5⟩:=X5a.cs6
   obtain⟨t0,t1,t2,t3,t4,t5⟩:=X5a.fs6
   have zz:=X5a.lt
   clear X2a X5a
   go_wp2_with fail
   obtain⟨v0,v1,v2,v3,v4,v5⟩:=FB.out.cs6
   refine bodyPost_ret (v:=.tuple #[.agg #[.int .i64 me,.slice no nn nc,.slice ao n2 ac,.slice so sn sc,.slice eo n3 ec,.slice oo on_ oc],.bool false]) (by simp [results,Tryz.results17,go_sem,v0,v1,v2,v3,v4,v5]) rfl ?_
   rw [LB.out]
   exact⟨⟨(eo,n3,ec),es,rfl,Or.inl ⟨rfl,rfl,rfl⟩,HR2.out⟩,BL.out⟩
theorem addB_same (b:Br) (e:En):(addB b e).1.me=b.me∧(addB b e).1.near=b.near∧(addB b e).1.adv=b.adv∧(addB b e).1.seen=b.seen∧(addB b e).1.own=b.own:=by
 unfold addB
 split
 ·exact⟨rfl,rfl,rfl,rfl,rfl⟩
 ·split
  ·exact⟨rfl,rfl,rfl,rfl,rfl⟩
  ·split
   ·exact⟨rfl,rfl,rfl,rfl,rfl⟩
   ·split <;> exact⟨rfl,rfl,rfl,rfl,rfl⟩
theorem radd_any (b:Br) (nv av sv ev ov:Sl) (z:XEn) (e:En) (w:World) (h_:BrIn w b nv av sv ev ov) (hz:EnIn w z e) (l2:b.adv.length≤900) (l3:b.ent.length≤900) (hok:∀ e∈b.ent,PredOk e.p) (hop:PredOk e.p) :
  Calls Tryz.prog 17 #[brv b.me nv av sv ev ov,valN z] w fun e' w'=>(∃ ev':Sl,e'=.returned (.tuple #[brv b.me nv av sv ev' ov,.bool (addB b e).2])∧BrIn w' (addB b e).1 nv av sv ev' ov)∧Below w.heap.size w w':=by
 obtain⟨es,he1,he2⟩:=h_.ent
 refine (radd2_any b nv av sv ev ov z e w es (EnIn w) h_ he1 he2 he2 (fun u=>⟨hz.1,hz.2.1,hz.2.2.1,rfl,hz.2.2.2.2⟩) hz l2 l3 hok hop).mono ?_
 rintro e1 w1 ⟨⟨ev',xs,rfl,hr,hx⟩,hb⟩
 refine⟨⟨ev',rfl,?_⟩,hb⟩
 have hI:=h_.on hb
 obtain⟨_,a2,a3,a4,a5⟩:=addB_same b e
 refine⟨by rw [a2]; exact hI.near,by rw [a3]; exact hI.adv,by rw [a4]; exact hI.seen,⟨xs,?_,hx.mono fun _ _ h=>h.on hb⟩,by rw [a5]; exact hI.own⟩
 rcases hr with⟨h1,h2,_⟩|hr
 ·rw [h1,h2]
  exact he1.on hb
 ·exact Row.of_own hr
end Go.Proofs.YtncogjpmboglhaaGreat.Bk
namespace Go.Proofs.YtncogjpmboglhaaGreat.Bk
open Go.RowKit Go.Sort Rw YtncogjpmboglhaaGreat.Nm Pr
open Av
def upE (e:En):En:={ e with up:=true }
def takeStep (t:Id) (s:List En×List En) (k:Nat):List En×List En:=match s.1[k]? with
 | none=>s
 | some e=>if e.tree=t∧e.up=false∧coveredE s.1 t e.p=false then (s.1.set k (upE e),s.2++[upE e]) else s
def takeK (t:Id) (m:List En) (k:Nat):List En×List En:=(List.range k).foldl (takeStep t) (m,[])
def takeB (b:Br) (t s:Id) (f:Int):Br×List En×Bool:=match b.ent[(findK (b.ent.map keyE) (t,s)).toNat]? with
 | none=>(b,[],false)
 | some e=>if findK (b.ent.map keyE) (t,s)=-1 then (b,[],false) else if e.from_≠f then (b,[],false) else
  if e.up=false then ({ b with ent:=cutAt b.ent (findK (b.ent.map keyE) (t,s)).toNat },[],false) else
  ({ b with ent:=(takeK t (cutAt b.ent (findK (b.ent.map keyE) (t,s)).toNat) (cutAt b.ent (findK (b.ent.map keyE) (t,s)).toNat).length).1 },(takeK t (cutAt b.ent (findK (b.ent.map keyE) (t,s)).toNat) (cutAt b.ent (findK (b.ent.map keyE) (t,s)).toNat).length).2,true)
theorem takeK_succ (t:Id) (m:List En) (k:Nat):takeK t m (k+1)=takeStep t (takeK t m k) k:=by
 simp [takeK,List.range_succ]
theorem takeStep_len (t:Id) (s:List En×List En) (k:Nat):(takeStep t s k).1.length=s.1.length∧(takeStep t s k).2.length≤s.2.length+1:=by
 unfold takeStep
 split
 ·exact⟨rfl,Nat.le_succ _⟩
 ·split
  ·simp
  ·exact⟨rfl,Nat.le_succ _⟩
theorem takeK_len (t:Id) (m:List En):∀ k,(takeK t m k).1.length=m.length∧(takeK t m k).2.length≤k
 | 0=>⟨rfl,Nat.le_refl _⟩
 | k+1=>by
  rw [takeK_succ]
  have h1:=takeK_len t m k
  have h2:=takeStep_len t (takeK t m k) k
  omega
theorem takeK_ok {t:Id} {m:List En} (P:List C5→Prop) (h:∀ e∈m,P e.p):∀ k,(∀ e∈(takeK t m k).1,P e.p)∧∀ e∈(takeK t m k).2,P e.p
 | 0=>⟨h,fun e he=>by simp [takeK] at he⟩
 | k+1=>by
  have ih:=takeK_ok (t:=t) P h k
  rw [takeK_succ]
  unfold takeStep
  split
  ·exact ih
  ·rename_i e he
   split
   ·refine⟨fun x hx=>?_,fun x hx=>?_⟩
    ·rcases List.mem_or_eq_of_mem_set hx with h1|h1
     ·exact ih.1 x h1
     ·rw [h1]
      exact ih.1 e (List.mem_of_getElem? he)
    ·rcases List.mem_append.1 hx with h1|h1
     ·exact ih.2 x h1
     ·rw [List.mem_singleton.1 h1]
      exact ih.1 e (List.mem_of_getElem? he)
   ·exact ih
theorem flatN_up:∀ (l:List XEn) (k:Nat) (x:XEn),l[k]?=some x→flat EN (l.set k (x.1,x.2.1,x.2.2.1,x.2.2.2.1,x.2.2.2.2.1,x.2.2.2.2.2.1,true))=(flat EN l).set (k * 7+6) (.bool true)
 | [],k,x,h=>by simp at h
 | y::r,0,x,h=>by
  obtain rfl:y=x:=by simpa using h
  rfl
 | y::r,k+1,x,h=>by
  have ih:=flatN_up r k x (by simpa using h)
  rw [show (k+1) * 7+6=(k * 7+6)+1+1+1+1+1+1+1 by omega]
  simp only [List.set_cons_succ,flat,EN,cellsN,List.cons_append,List.nil_append] at ih ⊢
  rw [ih]
theorem own_upN {w:World} {B g n cap k:Nat} {l:List XEn} {x:XEn} (h:OwnN w B (.slice (some ⟨g,0,none⟩) n cap) l) (hk:l[k]?=some x) :
  OwnN (w.setCell ⟨g,k * 7+6,none⟩ (.bool true)) B (.slice (some ⟨g,0,none⟩) n cap) (l.set k (x.1,x.2.1,x.2.2.1,x.2.2.2.1,x.2.2.2.2.1,x.2.2.2.2.2.1,true))∧w.cell? ⟨g,k * 7+6,none⟩=some (.bool x.2.2.2.2.2.2)∧w.frozen? ⟨g,k * 7+6,none⟩=false:=by
 have c:=own_row_at okN h hk w (Below.refl _ _)
 have c6:=c 6 _ rfl
 simp [Addr.add,EN] at c6
 obtain⟨cur,hb⟩:=own_tag h
 obtain⟨ao,c',hv⟩:=(Row.of_own h).len
 obtain⟨_,rfl,_⟩:some ⟨g,0,none⟩=ao∧n=l.length∧cap=c':=by simpa using hv
 have h:w.ownsRow B 43 7 (.slice (some ⟨g,0,none⟩) l.length cap) l.length (flat EN l):=h
 have t1:=(h.stored (k * 7+6) (.bool true)).1
 refine⟨?_,c6,hb.fr _⟩
 have e:=flatN_up l k x hk
 show World.ownsRow _ B 43 7 _ (List.length _) (flat EN _)
 rw [e,List.length_set]
 exact t1
theorem All2.set2 {α β:Type} {R:α→β→Prop}:∀ {l:List α} {m:List β} (k:Nat) {a:α} {b:β},All2 R l m→R a b→All2 R (l.set k a) (m.set k b)
 | _,_,_,_,_,.nil,_=>.nil
 | _,_,0,_,_,.cons _ t,hr=>.cons hr t
 | _,_,k+1,_,_,.cons x t,hr=>.cons x (All2.set2 k t hr)
theorem four_new (w:World) (c d e f:Array Value) (r s t u:TypeId):Below w.heap.size w ((((w.alloc (.cells c r)).alloc (.cells d s)).alloc (.cells e t)).alloc (.cells f u))∧Box ((((w.alloc (.cells c r)).alloc (.cells d s)).alloc (.cells e t)).alloc (.cells f u)) w.heap.size c r∧Box ((((w.alloc (.cells c r)).alloc (.cells d s)).alloc (.cells e t)).alloc (.cells f u)) (w.heap.size+1) d s∧Box ((((w.alloc (.cells c r)).alloc (.cells d s)).alloc (.cells e t)).alloc (.cells f u)) (w.heap.size+1+1) e t∧Box ((((w.alloc (.cells c r)).alloc (.cells d s)).alloc (.cells e t)).alloc (.cells f u)) (w.heap.size+1+1+1) f u:=by
 obtain⟨h0,h1,h2,h3⟩:=three_new w c d e r s t
 refine⟨h0.alloc h0.size _,h1.more _,h2.more _,h3.more _,?_⟩
 have h:=box_new (((w.alloc (.cells c r)).alloc (.cells d s)).alloc (.cells e t)) f u
 have e2:(((w.alloc (.cells c r)).alloc (.cells d s)).alloc (.cells e t)).heap.size=w.heap.size+1+1+1:=by simp
 rw [e2] at h
 exact h
end Go.Proofs.YtncogjpmboglhaaGreat.Bk
namespace Go.Proofs.YtncogjpmboglhaaGreat.At
open Go.RowKit Go.Sort Va In
end Go.Proofs.YtncogjpmboglhaaGreat.At
namespace Go.Proofs.YtncogjpmboglhaaGreat.Rl
open Go.RowKit Pu Rw Pr
end Go.Proofs.YtncogjpmboglhaaGreat.Rl
namespace Go.Proofs.YtncogjpmboglhaaGreat.Av
open Go.RowKit Rw YtncogjpmboglhaaGreat.Nm Pr Bk
theorem row_boxN {W:World} {b:Nat} {c:XEn} (h:Box W b (cellsN c).toArray 43):RowN W (.slice (some ⟨b,0,none⟩) 1 1) [c] :=
 Or.inr ⟨⟨b,0,none⟩,1,rfl,by simp,by decide,box_one h (by simp [EN])⟩
def InsQN (B:Nat) (l:List XEn) (k:Nat) (c:XEn) (vv:Value) (W:World) (e:Ending) (w':World):Prop:=∃ v',e=.returned v'∧OwnN w' B v' (l.take k++c::l.drop k)∧Below B W w'∧(∀ j,j<W.heap.size→some j≠vv.ownBlock→w'.heap[j]?=W.heap[j]?)
theorem insert_endN (B:Nat) (v:Value) (l:List XEn) (c:XEn) (b:Nat) (W:World) (ho:OwnN W B v l) (hx:Box W b (cellsN c).toArray 43) (hl:l.length≤900) (hB:B≤W.heap.size) :
  Calls Tryz.prog 77 #[v,.int .i64 (l.length:Nat),.slice (some ⟨b,0,none⟩) 1 1] W (InsQN B l l.length c v W):=by
 obtain⟨v',w',hr,ho2,hg⟩:=app_row okN B ho (row_boxN hx) (by omega) (by simp) hB 28
 have hr:(Builtin.append_ #[28,28] 28 #[v,.slice (some ⟨b,0,none⟩) 1 1]).run Tryz.prog W=.ok v' w':=hr
 have Q:=Lib.hid (show InsQN B l l.length c v W (.returned v') w' from ⟨v',rfl,by rw [List.take_of_length_le (Nat.le_refl _),List.drop_of_length_le (Nat.le_refl _)]; exact ho2,(Below.refl B W).grown hg hB (fun j hj=>(ho.lt j hj).1),fun j hj hne=>hg.block j hj hne⟩)
 obtain⟨sx,hs,_⟩:=row_hi okN (Row.of_own ho) l.length (Nat.le_refl _)
 have hs:∀ w,(Instr.sliceAt 28 v (some (.int .i64 l.length)) none none).run Tryz.prog w=.ok sx w:=hs
 obtain⟨ao,ac,rfl⟩:=(Row.of_own ho).len
 clear ho ho2 hg
 generalize hn:l.length=n at *
 clear hn
 go_enter Tryz.func77,Tryz.ntmps77
 go_wp2_with (first | (at_builtin; refine wpList_append_run rfl _ _ 28 rfl rfl rfl hr ?_) | fail)
 go_ret
 exact Q.out
theorem no_overN (w:World) (g b k la lb cb:Nat) (cur cs:Array Value) (hb:Box w b cs 43) (hg:Box w g cur 43) (hne:b≠g) (h0:0<cur.size):(callFunc 126 #[.slice (some ⟨b,0,none⟩) la 1,.slice (some ⟨g,k,none⟩) lb cb]).run Tryz.prog w=.ok (.value (.bool false)) w:=by
 rw [run_callFunc_extern Tryz.func126 (by kernel_rfl) (by kernel_rfl) (by kernel_rfl) (e:=Extern.SlicesOverlaps.overlaps #[28,28] #[4]) (by kernel_rfl),
  Lib.run_overlaps_apart w 28 4 43 Tryz.underlying28 7 Tryz.sizeOf43 ⟨b,0,none⟩ ⟨g,k,none⟩ la 1 lb cb hne 43 43 cs.size cur.size hb.shape hg.shape (by omega) (hb.fr 0) (hb.fr _)]
 rfl
theorem insert_shiftN (B g n cap:Nat) (cur:Array Value) (l:List XEn) (k:Nat) (c:XEn) (b:Nat) (W:World) (hn:n=l.length) (hBg:B≤g) (hg:Box W g cur 43) (hcm:cap≤maxLen) (hsz:cur.size=cap * 7) (ht:cur.toList.take (n * 7)=flat EN l) (hx:Box W b (cellsN c).toArray 43) (hne:b≠g) (hk:k<n) (hroom:n+1≤cap) (hl:n≤900) :
  Calls Tryz.prog 77 #[.slice (some ⟨g,0,none⟩) n cap,.int .i64 k,.slice (some ⟨b,0,none⟩) 1 1] W (InsQN B l k c (.slice (some ⟨g,0,none⟩) n cap) W):=by
 obtain⟨R1,R2,r1,r2,ow⟩:=shift_mid (E:=EN) (l:=l) (k:=k) (cap:=cap) (cur:=cur) (cs:=(cellsN c).toArray) (c:=c) okN (by omega) (by omega) hsz (by rw [← hn]; exact ht) g b hne
 have hov:=fun lb cb=>no_overN W g b ((k+1) * 7) 1 lb cb cur (cellsN c).toArray hx hg hne (by omega)
 have s0:=cut_hi (E:=EN) okN g k n cap (by omega) (by omega)
 have s1:=slice_lo (E:=EN) okN ⟨g,0,none⟩ (n+1) n cap (by omega)
 have s2:=cut_hi (E:=EN) okN g (k+1) (n+1) cap (by omega) (by omega)
 have s3:=cut_hi (E:=EN) okN g k (n+1) cap (by omega) (by omega)
 have q1:=r1 W.drew 3 (n+1-(k+1)) (cap-(k+1)) (n+1-k) (cap-k) hg (by omega)
 have q2:=r2 (W.drew.setRow g R1) 3 (n+1-k) (cap-k) (Box.set (show Box W.drew g cur 43 from hg) R1) (Box.other (show Box W.drew b _ 43 from hx) hne R1) rfl (by omega)
 have Q:=Lib.hid (show InsQN B l k c (.slice (some ⟨g,0,none⟩) n cap) W (.returned (.slice (some ⟨g,0,none⟩) (n+1) cap)) ((W.drew.setRow g R1).setRow g R2) from ⟨_,rfl,by rw [hn]; exact ow _ B hBg hcm (Box.set (Box.set (show Box W.drew g cur 43 from hg) R1) R2),below_setRow (below_setRow (Below.refl B W).drew hBg _) hBg _,fun j hj hne=>(setRow_other _ g j _ (fun e=>hne (by rw [e]; rfl))).trans (setRow_other _ g j _ (fun e=>hne (by rw [e]; rfl)))⟩)
 clear r1 r2 ow hg ht hx hsz hBg hcm
 change ∀ w,(Instr.sliceAt 28 (.slice (some ⟨g,0,none⟩) n cap) (some (.int .i64 k)) none none).run Tryz.prog w=.ok (.slice (some ⟨g,k * 7,none⟩) (n-k) (cap-k)) w at s0
 change ∀ w,(Instr.sliceAt 28 (.slice (some ⟨g,0,none⟩) n cap) none (some (.int .i64 ((n:Int)+1))) none).run Tryz.prog w=.ok (.slice (some ⟨g,0,none⟩) (n+1) cap) w at s1
 change ∀ w,(Instr.sliceAt 28 (.slice (some ⟨g,0,none⟩) (n+1) cap) (some (.int .i64 ((k:Int)+1))) none none).run Tryz.prog w=.ok (.slice (some ⟨g,(k+1) * 7,none⟩) (n+1-(k+1)) (cap-(k+1))) w at s2
 change ∀ w,(Instr.sliceAt 28 (.slice (some ⟨g,0,none⟩) (n+1) cap) (some (.int .i64 k)) none none).run Tryz.prog w=.ok (.slice (some ⟨g,k * 7,none⟩) (n+1-k) (cap-k)) w at s3
 have e1:((k:Int) == (n:Int))=false:=by rw [beq_eq_false_iff_ne]; omega
 have e2:decide ((cap:Int)<(n:Int)+1)=false:=by simp; omega
 change (Builtin.copy_ #[28,28] 3 #[.slice (some ⟨g,(k+1) * 7,none⟩) (n+1-(k+1)) (cap-(k+1)),.slice (some ⟨g,k * 7,none⟩) (n+1-k) (cap-k)]).run Tryz.prog W.drew=.ok (.int .i64 ((l.length-k:Nat):Int)) (W.drew.setRow g R1) at q1
 change (Builtin.copy_ #[28,28] 3 #[.slice (some ⟨g,k * 7,none⟩) (n+1-k) (cap-k),.slice (some ⟨b,0,none⟩) 1 1]).run Tryz.prog (W.drew.setRow g R1)=.ok (.int .i64 1) ((W.drew.setRow g R1).setRow g R2) at q2
 clear hn
 go_enter Tryz.func77,Tryz.ntmps77
 go_wp2_with (first | (simp only [hov]) | fail)
 clear hov s0 s1 s2 s3
 have hw1:IntKind.i64.wrap ((k:Int)+1)=(k:Int)+1:=by rw [IntKind.wrap_i64]; omega
 have hb1:(0:Int)≤(k:Int)+1:=by omega
 have hb0:(k:Int)+1≤(n:Int)+1:=by omega
 have htn:((k:Int)+1).toNat=k+1:=by omega
 have hb2:¬ (cap=k+1):=by omega
 have hb3:(k:Int)≤(n:Int)+1:=by omega
 have hb4:¬ (cap=k):=by omega
 have h81:n+1-(k+1)=n-k:=by omega
 rw [h81] at q1
 clear h81
 go_region_law (refine step_copy_run rfl (.tmp 73) (.tmp 76) 28 rfl (v:=.slice (some ⟨g,(k+1) * 7,none⟩) (n-k) (cap-(k+1))) (xv:=.slice (some ⟨g,k * 7,none⟩) (n+1-k) (cap-k)) (by simp [Act.eval,Act.put]) (by simp [Act.eval,Act.put]) q1 ?_)
 all_goals simp only [Exit.then]
 all_goals apply_assumption
 clear q1 hw1 hb1 hb0 htn hb2 hb3 hb4
 have s3:=cut_hi (E:=EN) okN g k (n+1) cap (by omega) (by omega)
 change ∀ w,(Instr.sliceAt 28 (.slice (some ⟨g,0,none⟩) (n+1) cap) (some (.int .i64 k)) none none).run Tryz.prog w=.ok (.slice (some ⟨g,k * 7,none⟩) (n+1-k) (cap-k)) w at s3
 go_wp2_with (first | (at_builtin; refine wpList_copy_run rfl _ _ 28 rfl rfl rfl q2 ?_) | fail)
 go_ret
 exact Q.out
theorem insert_growN (B g n cap:Nat) (cur:Array Value) (l:List XEn) (k:Nat) (c:XEn) (b:Nat) (W:World) (hn:n=l.length) (hg:Box W g cur 43) (hcm:cap≤maxLen) (hnc:n≤cap) (ht:cur.toList.take (n * 7)=flat EN l) (hx:Box W b (cellsN c).toArray 43) (hk:k<n) (hroom:cap<n+1) (hl:n≤900) (hB:B≤W.heap.size) :
  Calls Tryz.prog 77 #[.slice (some ⟨g,0,none⟩) n cap,.int .i64 k,.slice (some ⟨b,0,none⟩) 1 1] W (InsQN B l k c (.slice (some ⟨g,0,none⟩) n cap) W):=by
 have hgw:=hg.lt
 have hbw:=hx.lt
 obtain⟨G,R1,R2,R3,hG1,hG2,r1,r2,r3,ow⟩:=grow_mid (E:=EN) (l:=l) (k:=k) (cap:=cap) (cur:=cur) (cs:=(cellsN c).toArray) (c:=c) okN 3 Tryz.underlying3 (by omega) (by omega) (by omega) (by omega) (by rw [← hn]; exact ht) W g b hg hbw
 unfold maxLen at hcm hG2
 have s0:=cut_hi (E:=EN) okN g k n cap (by omega) (by omega)
 have s1:=slice_lo (E:=EN) okN ⟨g,0,none⟩ k n cap (by omega)
 have s2:=cut_hi (E:=EN) okN W.heap.size k (n+1) G (by omega) (by omega)
 have s3:=cut_hi (E:=EN) okN W.heap.size (k+1) (n+1) G (by omega) (by omega)
 have a1:=r1 28
 have n1:=box_new W.drew R1 43
 have bl:W.drew.heap.size=W.heap.size:=rfl
 rw [bl] at n1
 have g1:Box (W.drew.alloc (.cells R1 43)) g cur 43:=Box.more (show Box W.drew g cur 43 from hg) _
 have x1:Box (W.drew.alloc (.cells R1 43)) b (cellsN c).toArray 43:=Box.more (show Box W.drew b _ 43 from hx) _
 have q2:=r2 (W.drew.alloc (.cells R1 43)) 3 (n+1-k) (G-k) n1 x1 rfl (by omega)
 have q3:=r3 ((W.drew.alloc (.cells R1 43)).setRow W.heap.size R2).drew 3 (n+1-(k+1)) (G-(k+1)) (n-k) (cap-k) (Box.set n1 R2) (Box.other g1 (by omega) R2) (by omega)
 have Q:=Lib.hid (show InsQN B l k c (.slice (some ⟨g,0,none⟩) n cap) W (.returned (.slice (some ⟨W.heap.size,0,none⟩) (n+1) G)) (((W.drew.alloc (.cells R1 43)).setRow W.heap.size R2).drew.setRow W.heap.size R3) from ⟨_,rfl,by rw [hn]; exact ow _ B hB (Box.set (Box.set n1 R2) R3),below_setRow (below_setRow ((Below.refl B W).drew.alloc hB _) hB _).drew hB _,fun j hj _=>(setRow_other _ W.heap.size j _ (by omega)).trans ((setRow_other _ W.heap.size j _ (by omega)).trans (Array.getElem?_push_lt hj |>.trans (Array.getElem?_eq_getElem hj).symm))⟩)
 have l1:l.length+1=n+1:=by rw [hn]
 rw [l1,← hn] at a1
 clear r1 r2 r3 ow hg ht hx g1 x1 n1 bl l1
 change ∀ w,(Instr.sliceAt 28 (.slice (some ⟨g,0,none⟩) n cap) (some (.int .i64 k)) none none).run Tryz.prog w=.ok (.slice (some ⟨g,k * 7,none⟩) (n-k) (cap-k)) w at s0
 change ∀ w,(Instr.sliceAt 28 (.slice (some ⟨g,0,none⟩) n cap) none (some (.int .i64 k)) none).run Tryz.prog w=.ok (.slice (some ⟨g,0,none⟩) k cap) w at s1
 change ∀ w,(Instr.sliceAt 28 (.slice (some ⟨W.heap.size,0,none⟩) (n+1) G) (some (.int .i64 k)) none none).run Tryz.prog w=.ok (.slice (some ⟨W.heap.size,k * 7,none⟩) (n+1-k) (G-k)) w at s2
 change ∀ w,(Instr.sliceAt 28 (.slice (some ⟨W.heap.size,0,none⟩) (n+1) G) (some (.int .i64 ((k:Int)+1))) none none).run Tryz.prog w=.ok (.slice (some ⟨W.heap.size,(k+1) * 7,none⟩) (n+1-(k+1)) (G-(k+1))) w at s3
 change (Builtin.append_ #[28,3] 28 #[.slice (some ⟨g,0,none⟩) k cap,.int .i64 ((n:Int)+1-k)]).run Tryz.prog W=.ok (.slice (some ⟨W.heap.size,0,none⟩) (n+1) G) (W.drew.alloc (.cells R1 43)) at a1
 change (Builtin.copy_ #[28,28] 3 #[.slice (some ⟨W.heap.size,k * 7,none⟩) (n+1-k) (G-k),.slice (some ⟨b,0,none⟩) 1 1]).run Tryz.prog (W.drew.alloc (.cells R1 43))=.ok (.int .i64 1) ((W.drew.alloc (.cells R1 43)).setRow W.heap.size R2) at q2
 change (Builtin.copy_ #[28,28] 3 #[.slice (some ⟨W.heap.size,(k+1) * 7,none⟩) (n+1-(k+1)) (G-(k+1)),.slice (some ⟨g,k * 7,none⟩) (n-k) (cap-k)]).run Tryz.prog ((W.drew.alloc (.cells R1 43)).setRow W.heap.size R2).drew=.ok (.int .i64 ((l.length-k:Nat):Int)) (((W.drew.alloc (.cells R1 43)).setRow W.heap.size R2).drew.setRow W.heap.size R3) at q3
 have e1:((k:Int) == (n:Int))=false:=by rw [beq_eq_false_iff_ne]; omega
 have e2:decide ((cap:Int)<(n:Int)+1)=true:=by simp; omega
 have hGn:n+1≤G:=by omega
 clear hn
 generalize W.heap.size=N at *
 generalize W.drew.alloc (.cells R1 43)=W1 at *
 generalize W1.setRow N R2=W2 at *
 go_enter Tryz.func77,Tryz.ntmps77
 go_wp2_with (first | (at_builtin; refine wpList_append_run2 rfl _ _ 28 3 rfl rfl rfl a1 ?_) | (at_builtin; refine wpList_copy_run rfl _ _ 28 rfl rfl rfl q2 ?_) | fail)
 clear a1 q2 s0 s1 s2 s3
 have hw1:IntKind.i64.wrap ((k:Int)+1)=(k:Int)+1:=by rw [IntKind.wrap_i64]; omega
 have hb1:(0:Int)≤(k:Int)+1:=by omega
 have hb0:(k:Int)+1≤(n:Int)+1:=by omega
 have htn:((k:Int)+1).toNat=k+1:=by omega
 have hb2:¬ (G=k+1):=by omega
 have hb3:(k:Int)≤(n:Int):=by omega
 have hb4:¬ (cap=k):=by omega
 have h81:n+1-(k+1)=n-k:=by omega
 rw [h81] at q3
 clear h81
 go_region_law (refine step_copy_run rfl (.tmp 50) (.tmp 53) 28 rfl (v:=.slice (some ⟨N,(k+1) * 7,none⟩) (n-k) (G-(k+1))) (xv:=.slice (some ⟨g,k * 7,none⟩) (n-k) (cap-k)) (by simp [Act.eval,Act.put]) (by simp [Act.eval,Act.put]) q3 ?_)
 all_goals simp only [Exit.then]
 all_goals apply_assumption
 go_wp2
 go_ret
 exact Q.out
theorem insert_anyN (B:Nat) (v:Value) (l:List XEn) (k:Nat) (c:XEn) (b:Nat) (W:World) (ho:OwnN W B v l) (hx:Box W b (cellsN c).toArray 43) (hne:v.ownBlock≠some b) (hk:k≤l.length) (hl:l.length≤900) (hB:B≤W.heap.size) :
  Calls Tryz.prog 77 #[v,.int .i64 k,.slice (some ⟨b,0,none⟩) 1 1] W (InsQN B l k c v W):=by
 rcases Nat.lt_or_ge k l.length with h|h
 ·rcases own_open ho with⟨_,h2⟩|⟨g,cap,cur,rfl,h1,h2,h3,h4,h5,h6⟩
  ·rw [h2] at h; simp at h
  ·rcases Nat.lt_or_ge cap (l.length+1) with h7|h7
   ·exact insert_growN B g _ cap cur l k c b W rfl h2 h4 h3 h6 hx h h7 hl hB
   ·exact insert_shiftN B g _ cap cur l k c b W rfl h1 h2 h4 h5 h6 hx (fun e=>hne (by simp [Value.ownBlock,e])) h h7 hl
 ·obtain rfl:k=l.length:=by omega
  exact insert_endN B v l c b W ho hx hl hB
end Go.Proofs.YtncogjpmboglhaaGreat.Av
namespace Go.Proofs.YtncogjpmboglhaaGreat.Rg
open Go.RowKit
end Go.Proofs.YtncogjpmboglhaaGreat.Rg
namespace Go.Proofs.YtncogjpmboglhaaGreat.Rg
open Go.RowKit Rw
structure SeenX (i N A S:Nat) (d last:Nat→Nat) (V:Nat→Value→World→Prop) (base:Act) (o:Oper) (a:Act) (x:World):Prop where
 kp:∀ j u,(∀ i,i<N→d i≠j)→base.tmps[j]?=some u→a.eval (.tmp j)=u
 at_:∀ e∈o.after,Region.binds .any e=true→e.on≠A→e.on≠S→(last e.on=i∨N≤last e.on)→V e.on (a.eval (.tmp (d e.on))) x
structure InX (l:List Oper) (N A S C:Nat) (d last:Nat→Nat) (V:Nat→Value→World→Prop) (t:TypeId) (zero:Array Value) (cof:Value→Array Value) (base:Act) (W:World) (L:Array Bool) (a:Act) (x:World):Prop where
 cl:∀ i o,done L i→l[i]?=some o→∀ e∈o.after,Region.binds .any e=true→done L e.on
 no:∀ i,N≤i→¬ done L i
 df:a.defers=base.defers
 sz:a.tmps.size=base.tmps.size
 kp:∀ j,(∀ i,i<N→d i≠j)→a.tmps[j]?=base.tmps[j]?
 bel:Below W.heap.size W x
 val:∃ vs:Nat→Value,∀ i,i<N→i≠S→done L i→a.tmps[d i]?=some (vs i)∧(i≠A→¬ done L (last i)→V i (vs i) x)
 box:done L A→¬ done L S→∃ bb,a.tmps[d A]?=some (.pointer (some ⟨bb,0,none⟩))∧W.heap.size≤bb∧Box x bb zero t
 fin:done L S→∃ bb v,a.tmps[d A]?=some (.pointer (some ⟨bb,0,none⟩))∧a.tmps[d C]?=some v∧W.heap.size≤bb∧Box x bb (cof v) t∧V C v x
theorem region_mk {P:Program} {Q:Exit→Act→World→Prop} {id:Nat} {base:Act} {W:World} {l:List Oper} (N A S C:Nat) (d last:Nat→Nat) (V:Nat→Value→World→Prop) (t:TypeId) (zero:Array Value) (cof:Value→Array Value)
  (hm:P.follows .mixedOrders=true) (hf:fore l.toArray=true) (hN:l.length=N) (hA:A<N) (hS:S<N) (hC:C<N) (hAS:A≠S) (hCS:C≠S) (hAC:A≠C) (hlC:N≤last C)
  (hinj:∀ i j,i<N→j<N→i≠S→j≠S→d i=d j→i=j) (hs:∀ i,i<N→d i<base.tmps.size)
  (hV:∀ i v x x',i<N→V i v x→Below x.heap.size x x'→V i v x')
  (hw:∀ o,l[S]?=some o→(∃ e∈o.after,Region.binds .any e=true∧e.on=A)∧∃ e∈o.after,Region.binds .any e=true∧e.on=C)
  (hop:∀ i o,i<N→i≠A→i≠S→l[i]?=some o→∀ a x,Below W.heap.size W x→SeenX i N A S d last V base o a x→∀ K:Act→World→Prop,(∀ v x',V i v x'→Below x.heap.size x x'→K (a.put (some (d i)) v) x')→wpOp P l.toArray Q i K a x)
  (hoA:∀ o,l[A]?=some o→∀ a x,∀ K:Act→World→Prop,K (a.put (some (d A)) (.pointer (some ⟨x.heap.size,0,none⟩))) (x.alloc (.cells zero t))→wpOp P l.toArray Q A K a x)
  (hoS:∀ o,l[S]?=some o→∀ a x bb v (D:Nat→Prop),(∀ j oj,D j→l[j]?=some oj→∀ e∈oj.after,Region.binds .any e=true→D e.on)→(∀ e∈o.after,Region.binds .any e=true→D e.on)→Below W.heap.size W x→a.eval (.tmp (d A))=.pointer (some ⟨bb,0,none⟩)→a.eval (.tmp (d C))=v→V C v x→W.heap.size≤bb→Box x bb zero t→∀ K:Act→World→Prop,(∀ x',Below W.heap.size W x'→Box x' bb (cof v) t→(∀ j u,j<N→j≠A→j≠S→D j→¬ D (last j)→last j≠S→V j u x→V j u x')→K a x')→wpOp P l.toArray Q S K a x)
  (hend:∀ a x bb v,a.defers=base.defers→a.tmps.size=base.tmps.size→(∀ j,(∀ i,i<N→d i≠j)→a.tmps[j]?=base.tmps[j]?)→a.tmps[d A]?=some (.pointer (some ⟨bb,0,none⟩))→a.tmps[d C]?=some v→W.heap.size≤bb→Box x bb (cof v) t→V C v x→Below W.heap.size W x→(∃ vs:Nat→Value,∀ i,i<N→i≠S→i≠A→a.tmps[d i]?=some (vs i)∧(N≤last i→V i (vs i) x))→Q .normal a x):(Code.region id l.toArray true).wp P Q base W:=by
 refine region_inv (fun L a x=>InX l N A S C d last V t zero cof base W L a x) hm hf ?_ ?_ ?_
 ·exact⟨fun i o h=>absurd h (none_done _ _),fun i _=>none_done _ _,rfl,rfl,fun _ _=>rfl,(Below.refl _ _).drew,⟨fun _=>.bool true,fun i _ _ h=>absurd h (none_done _ _)⟩,fun h=>absurd h (none_done _ _),fun h=>absurd h (none_done _ _)⟩
 ·intro L a x i o hsz I ho hnd hdep
  have hi:i<l.length:=(List.getElem?_eq_some_iff.1 ho).1
  have hiN:i<N:=by omega
  have hiL:i<L.size:=by omega
  obtain⟨vs,hvs⟩:=I.val
  have hon:∀ e∈o.after,Region.binds .any e=true→e.on<i:=fun e he hb=>by
   have h7:=List.all_eq_true.1 hf i (List.mem_range.2 (by simpa using hi))
   have ho':(l.toArray)[i]?=some o:=by simpa using ho
   rw [ho'] at h7
   have h8:=Array.all_eq_true'.1 h7 e he
   rw [hb] at h8
   simpa using h8
  have dd:∀ {k},k≠i→done (L.setIfInBounds i true) k→done L k:=fun {k} h h5=>((done_set hiL k).1 h5).resolve_left h
  have du:∀ {k},done L k→done (L.setIfInBounds i true) k:=fun {k} h=>(done_set hiL k).2 (Or.inr h)
  have cl':∀ k q,done (L.setIfInBounds i true) k→l[k]?=some q→∀ e∈q.after,Region.binds .any e=true→done (L.setIfInBounds i true) e.on:=fun k q hk hq e he hb=>by
   by_cases e2:k=i
   ·subst e2
    rw [hq] at ho
    cases ho
    exact du (hdep e he hb)
   ·exact du (I.cl k q (dd e2 hk) hq e he hb)
  have no':∀ k,N≤k→¬ done (L.setIfInBounds i true) k:=fun k hk h=>I.no k hk (dd (by omega) h)
  have seen:SeenX i N A S d last V base o a x:=⟨fun j u hj hu=>eval_some (by rw [I.kp j hj]; exact hu),fun e he hb hA' hS' hl=>by
   obtain⟨h1,h2⟩:=hvs e.on (by have:=hon e he hb; omega) hS' (hdep e he hb)
   rw [eval_some h1]
   refine h2 hA' ?_
   rcases hl with hl|hl
   ·rw [hl]; exact hnd
   ·exact I.no _ hl⟩
  have putI:i≠S→∀ v x',Below x.heap.size x x'→(i≠A→V i v x')→(i=A→∃ bb,v=.pointer (some ⟨bb,0,none⟩)∧W.heap.size≤bb∧Box x' bb zero t)→InX l N A S C d last V t zero cof base W (L.setIfInBounds i true) (a.put (some (d i)) v) x':=by
   intro hiS v x' hb hpv hpa
   have self:(a.put (some (d i)) v).tmps[d i]?=some v:=by
    have h5:d i<a.tmps.size:=by rw [I.sz]; exact hs i hiN
    simp [Act.put,h5]
   have keep:∀ k,k<N→k≠S→k≠i→(a.put (some (d i)) v).tmps[d k]?=a.tmps[d k]?:=fun k hk hkS hki=>get_put _ _ _ _ (fun e=>hki (hinj _ _ hk hiN hkS hiS e))
   refine⟨cl',no',I.df,by rw [size_put]; exact I.sz,fun j hj=>?_,I.bel.trans (hb.mono I.bel.size),⟨fun k=>if k=i then v else vs k,fun k hk hkS hdn=>?_⟩,fun h1 h2=>?_,fun h1=>?_⟩
   ·rw [get_put _ _ _ _ (fun e=>hj i hiN e.symm)]
    exact I.kp j hj
   ·by_cases e:k=i
    ·subst e
     simp only [if_true]
     exact⟨self,fun h3 _=>hpv h3⟩
    ·simp only [if_neg e]
     obtain⟨h3,h4⟩:=hvs k hk hkS (dd e hdn)
     exact⟨by rw [keep k hk hkS e]; exact h3,fun h5 h6=>hV k _ _ _ hk (h4 h5 (fun h=>h6 (du h))) hb⟩
   ·by_cases e:A=i
    ·subst e
     obtain⟨bb,rfl,h4,h5⟩:=hpa rfl
     exact⟨bb,self,h4,h5⟩
    ·obtain⟨bb,h3,h4,h5⟩:=I.box (dd e h1) (fun h=>h2 (du h))
     exact⟨bb,by rw [keep A hA hAS e]; exact h3,h4,h5.on hb⟩
   ·have h2:=dd (Ne.symm hiS) h1
    obtain⟨bb,u,h5,h6,h7,h8,h9⟩:=I.fin h2
    obtain⟨oS,hoS'⟩:∃ oS,l[S]?=some oS:=⟨_,List.getElem?_eq_getElem (by omega)⟩
    obtain⟨⟨ea,k1,k2,k3⟩,ec,k4,k5,k6⟩:=hw oS hoS'
    have dA:=I.cl S oS h2 hoS' ea k1 k2
    have dC:=I.cl S oS h2 hoS' ec k4 k5
    rw [k3] at dA
    rw [k6] at dC
    have eA:A≠i:=fun e=>hnd (e ▸ dA)
    have eC:C≠i:=fun e=>hnd (e ▸ dC)
    exact⟨bb,u,by rw [keep A hA hAS eA]; exact h5,by rw [keep C hC hCS eC]; exact h6,h7,h8.on hb,hV C _ _ _ hC h9 hb⟩
  by_cases hiS:i=S
  ·subst hiS
   obtain⟨⟨ea,h1,h2,h3⟩,ec,h4,h5,h6⟩:=hw o ho
   have dA:=hdep ea h1 h2
   have dC:=hdep ec h4 h5
   rw [h3] at dA
   rw [h6] at dC
   obtain⟨v1,v2⟩:=hvs C hC hCS dC
   obtain⟨bb,b1,b2,b3⟩:=I.box dA hnd
   have vC:=v2 (Ne.symm hAC) (I.no _ hlC)
   refine hoS o ho a x bb (vs C) (done L) I.cl hdep I.bel (eval_some b1) (eval_some v1) vC b2 b3 _ (fun x' q1 q2 q3=>⟨cl',no',I.df,I.sz,I.kp,q1,⟨vs,fun k hk hkS hdn=>?_⟩,fun _ hn=>absurd ((done_set hiL _).2 (Or.inl rfl)) hn,fun _=>⟨bb,vs C,b1,v1,b2,q2,?_⟩⟩)
   ·obtain⟨w1,w2⟩:=hvs k hk hkS (dd hkS hdn)
    refine⟨w1,fun hkA hnl=>?_⟩
    have n1:last k≠i:=fun e=>hnl ((done_set hiL _).2 (Or.inl e))
    have n2:¬ done L (last k):=fun e=>hnl (du e)
    exact q3 k _ hk hkA hkS (dd hkS hdn) n2 n1 (w2 hkA n2)
   ·exact q3 C _ hC (Ne.symm hAC) hCS dC (I.no _ hlC) (by omega) vC
  ·by_cases hiA:i=A
   ·subst hiA
    refine hoA o ho a x _ (putI hiS _ _ ((Below.refl _ _).alloc (Nat.le_refl _) _) (fun h=>absurd rfl h) (fun _=>⟨x.heap.size,rfl,I.bel.size,box_new x zero t⟩))
   ·refine hop i o hiN hiA hiS ho a x I.bel seen _ (fun v x' q1 q2=>putI hiS v x' q2 (fun _=>q1) (fun e=>absurd e hiA))
 ·intro L a x I hd
  have dS:=hd S (by omega)
  obtain⟨bb,v,h1,h2,h3,h4,h5⟩:=I.fin dS
  obtain⟨vs,hvs⟩:=I.val
  exact hend a x bb v I.df I.sz I.kp h1 h2 h3 h4 h5 I.bel ⟨vs,fun i hi hiS hiA=>by
   obtain⟨k1,k2⟩:=hvs i hi hiS (hd i (by omega))
   exact⟨k1,fun hl=>k2 hiA (I.no _ hl)⟩⟩
end Go.Proofs.YtncogjpmboglhaaGreat.Rg
namespace Go.Proofs.YtncogjpmboglhaaGreat.Av
open Go.RowKit Rw YtncogjpmboglhaaGreat.Nm Pr Bk Go.Sort
abbrev newB0 (me:Int) (near:List Int):Br:=⟨me,near,[],[],[],[]⟩
theorem anew_any (me:Int) (v:Sl) (l:List Int) (w:World) (hv:RowI w (slv v) l) (hl:l.length≤900) :
  Calls Tryz.prog 12 #[.int .i64 me,slv v] w fun e w'=>(∃ (l':List Int) (nv:Sl),e=.returned (brv me nv (none,0,0) (none,0,0) (none,0,0) (none,0,0))∧BrIn w' (newB0 me l') nv (none,0,0) (none,0,0) (none,0,0) (none,0,0)∧(∃ B,OwnI w' B (slv nv) l')∧l'.Pairwise (·<·)∧∀ x,x∈l'↔x∈l)∧Below w.heap.size w w':=by
 have n0:=newB w (.cells #[.int .i64 0,.slice none 0 0,.slice none 0 0,.slice none 0 0,.slice none 0 0,.slice none 0 0] 31)
 have X:=Lib.hid (box_new w #[.int .i64 0,.slice none 0 0,.slice none 0 0,.slice none 0 0,.slice none 0 0,.slice none 0 0] 31)
 have C:=Lib.hid (cloneI_any v l _ (hv.on n0) hl)
 have B0:=Lib.hid n0
 have HL:=Lib.hid hl
 obtain⟨vo,vn,vc⟩:=v
 clear hv hl n0
 go_enter Tryz.func12,Tryz.ntmps12
 go_wp2_with fail
 generalize w.alloc (.cells #[.int .i64 0,.slice none 0 0,.slice none 0 0,.slice none 0 0,.slice none 0 0,.slice none 0 0] 31)=W at *
 refine C.out.mono ?_
 rintro e1 w1 ⟨⟨⟨p1,p2,p3⟩,rfl,ho⟩,hb⟩
 have B1:=Lib.hid (B0.out.trans (hb.mono B0.out.size))
 have X1:=Lib.hid (X.out.on hb)
 have hlt:w.heap.size<W.heap.size:=X.out.lt
 have C2:=Lib.hid (sortI_any w1 W.heap.size _ l ho HL.out)
 have OT:=Lib.hid (fun g hg=>(ho.lt g hg).1)
 have HW:=Lib.hid hlt
 clear hb ho C X
 go_wp2_with fail
 refine C2.out.mono ?_
 rintro e2 w2 ⟨rfl,l2,ho2,hp2,hs2,hg2⟩
 have B2:=Lib.hid (B1.out.grown hg2 B1.out.size (fun j hj=>Nat.le_trans (Nat.le_of_lt HW.out) (OT.out j hj)))
 have X2:=Lib.hid (show Box w2 w.heap.size _ _ from (hg2.block _ X1.out.lt (fun e=>by have:=OT.out _ e.symm; have:=HW.out; omega)).trans X1.out)
 have C3:=Lib.hid (cptI_any w2 W.heap.size (p1,p2,p3) l2 ho2 hs2 (by rw [hp2.length_eq]; exact HL.out))
 have PM:=Lib.hid hp2
 have OT2:=Lib.hid (fun g hg=>(ho2.lt g hg).1)
 clear ho2 hp2 hs2 hg2 C2 OT X1
 go_wp2_with fail
 refine C3.out.mono ?_
 rintro e3 w3 ⟨⟨⟨t1,t2,t3⟩,rfl,l3,ho3,hs3,hm3⟩,hg3⟩
 have B3:=Lib.hid (B2.out.grown hg3 B2.out.size (fun j hj=>Nat.le_trans (Nat.le_of_lt HW.out) (OT2.out j hj)))
 have Y:=show Box w3 w.heap.size _ _ from (hg3.block _ X2.out.lt (fun e=>by have:=OT2.out _ e.symm; have:=HW.out; omega)).trans X2.out
 obtain⟨y0,y1,y2,y3,y4,y5⟩:=Y.cs6
 obtain⟨f0,f1,f2,f3,f4,f5⟩:=Y.fs6
 have zz:=Y.lt
 have FB:=Lib.hid (setB_box Y (.int .i64 me) (.slice t1 t2 t3) (.slice none 0 0) (.slice none 0 0) (.slice none 0 0) (.slice none 0 0))
 have FL:=Lib.hid (setB_below (b:=w.heap.size) B3.out (Nat.le_refl _) (.int .i64 me) (.slice t1 t2 t3) (.slice none 0 0) (.slice none 0 0) (.slice none 0 0) (.slice none 0 0))
 have FO:=Lib.hid (setB_ownA ho3 w.heap.size HW.out (.int .i64 me) (.slice t1 t2 t3) (.slice none 0 0) (.slice none 0 0) (.slice none 0 0) (.slice none 0 0))
 have Q:=Lib.hid (show l3.Pairwise (·<·)∧∀ x,x∈l3↔x∈l from ⟨hs3,fun x=>(hm3 x).trans PM.out.mem_iff⟩)
 clear ho3 hs3 hm3 hg3 Y X2 C3 B2 B1 B0
 go_wp2_with fail
 obtain⟨v0,v1,v2,v3,v4,v5⟩:=FB.out.cs6
 refine bodyPost_ret (v:=.agg #[.int .i64 me,.slice t1 t2 t3,.slice none 0 0,.slice none 0 0,.slice none 0 0,.slice none 0 0]) (by simp [results,Tryz.results12,go_sem,v0,v1,v2,v3,v4,v5]) rfl ?_
 exact⟨⟨l3,(t1,t2,t3),rfl,⟨Row.of_own FO.out,⟨[],row_nil _,.nil⟩,row_nil _,⟨[],row_nil _,.nil⟩,⟨[],row_nil _,.nil⟩⟩,⟨_,FO.out⟩,Q.out.1,Q.out.2⟩,FL.out⟩
end Go.Proofs.YtncogjpmboglhaaGreat.Av
namespace Go.Proofs.YtncogjpmboglhaaGreat.Bk
open Go.RowKit Go.Sort Rw YtncogjpmboglhaaGreat.Nm
end Go.Proofs.YtncogjpmboglhaaGreat.Bk
namespace Go.Proofs.YtncogjpmboglhaaGreat.Bk
open Go.RowKit Go.Sort Rw YtncogjpmboglhaaGreat.Nm Pr
abbrev XOu:=Int×Int×Int×Int×Int×Int×Sl×Sl
abbrev cellsU (x:XOu):List Value:=[.int .i64 x.1,.int .i64 x.2.1,.int .i64 x.2.2.1,.int .i64 x.2.2.2.1,.int .i64 x.2.2.2.2.1,.int .i64 x.2.2.2.2.2.1,slv x.2.2.2.2.2.2.1,slv x.2.2.2.2.2.2.2]
abbrev valU (x:XOu):Value:=.agg #[.int .i64 x.1,.int .i64 x.2.1,.int .i64 x.2.2.1,.int .i64 x.2.2.2.1,.int .i64 x.2.2.2.2.1,.int .i64 x.2.2.2.2.2.1,slv x.2.2.2.2.2.2.1,slv x.2.2.2.2.2.2.2]
def EU:Ek XOu:=⟨141,78,8,96,.agg #[.int .i64 0,.int .i64 0,.int .i64 0,.int .i64 0,.int .i64 0,.int .i64 0,.slice none 0 0,.slice none 0 0],valU,cellsU⟩
theorem infoU:(Tryz.prog.info? 141).map (fun i=>(i.zero,i.size,i.bytes))=some (some (.agg #[.int .i64 0,.int .i64 0,.int .i64 0,.int .i64 0,.int .i64 0,.int .i64 0,.slice none 0 0,.slice none 0 0]),8,96):=by kernel_rfl
theorem loadU (w:World) (p:Addr) (x:XOu) (h:∀ j u,(cellsU x)[j]?=some u→w.cell? (p.add j)=some u):(Instr.loadAt 141 (.pointer (some p))).run Tryz.prog w=.ok (valU x) w:=by
 have h0:=h 0 _ rfl
 have h1:=h 1 _ rfl
 have h2:=h 2 _ rfl
 have h3:=h 3 _ rfl
 have h4:=h 4 _ rfl
 have h5:=h 5 _ rfl
 have h6:=h 6 _ rfl
 have h7:=h 7 _ rfl
 simp [Addr.add] at h0 h1 h2 h3 h4 h5 h6 h7
 simp [go_sem,h0,h1,h2,h3,h4,h5,h6,h7]
theorem okU:EU.Ok where
 hu:=Tryz.underlying78
 info:=by
  have h:=infoU
  cases hi:Tryz.prog.info? 141 with
  | none=>rw [hi] at h; cases h
  | some i =>
   rw [hi] at h
   simp only [Option.map_some,Option.some.injEq,Prod.mk.injEq] at h
   exact⟨i,hi,h.1,h.2.1,h.2.2⟩
 zs:=rfl
 len:=fun _=>rfl
 one:=fun x u hu=>by
  simp only [EU,cellsU,List.mem_cons,List.not_mem_nil,or_false] at hu
  rcases hu with rfl|rfl|rfl|rfl|rfl|rfl|rfl|rfl <;> rfl
 pos:=by decide
 few:=by decide
 load:=fun w p x h=>loadU w p x h
abbrev RowU (W:World) (v:Value) (l:List XOu):Prop:=Row EU W v l
abbrev OwnU (W:World) (B:Nat) (v:Value) (l:List XOu):Prop:=Own EU W B v l
def othersL (near:List Int) (but:Int) (f:Int→XOu):List XOu:=(near.filter fun n=>n != but).map f
theorem others_any (me but k tc ts ic is:Int) (nv:Sl) (av sv ev ov:Value) (pv lv:Sl) (l:List Int) (w:World) (hs:RowI w (slv nv) l) (hlen:l.length≤900) :
  Calls Tryz.prog 98 #[.agg #[.int .i64 me,slv nv,av,sv,ev,ov],.int .i64 but,.agg #[.int .i64 k,.int .i64 tc,.int .i64 ts,.int .i64 ic,.int .i64 is,slv pv,slv lv]] w fun e w'=>(∃ v:Sl,e=.returned (slv v)∧OwnU w' w.heap.size (slv v) (othersL l but fun n=>(n,k,tc,ts,ic,is,pv,lv)))∧Below w.heap.size w w':=by
 obtain⟨no,nn,nc⟩:=nv
 obtain⟨po,pn,pc⟩:=pv
 obtain⟨lo_,ln,lc⟩:=lv
 obtain⟨q1,q2,hq⟩:=hs.len
 obtain⟨rfl,hnn,rfl⟩:no=q1∧nn=l.length∧nc=q2:=by
  have h:Value.slice no nn nc=.slice q1 l.length q2:=hq
  simpa using h
 clear hq
 obtain⟨h0,h1,h2⟩:=two_new w #[.int .i64 me,.slice no nn nc,av,sv,ev,ov] #[.int .i64 k,.int .i64 tc,.int .i64 ts,.int .i64 ic,.int .i64 is,.slice po pn pc,.slice lo_ ln lc] 31 77
 have B0:=Lib.hid h0
 have X5:=Lib.hid h2
 have HS:=Lib.hid (hs.on h0)
 have HN:=Lib.hid hnn
 have c1:=h1.cell 1
 simp only [List.getElem?_toArray,List.getElem?_cons_zero,List.getElem?_cons_succ] at c1
 have nb:nn≤900:=by omega
 have W2:=Lib.hid h2.lt
 clear h0 h1 h2 hs hlen hnn
 go_enter Tryz.func98,Tryz.ntmps98
 go_upto_region 1 with fail
 generalize (w.alloc (.cells #[.int .i64 me,.slice no nn nc,av,sv,ev,ov] 31)).alloc (.cells #[.int .i64 k,.int .i64 tc,.int .i64 ts,.int .i64 ic,.int .i64 is,.slice po pn pc,.slice lo_ ln lc] 77)=W at *
 go_wp2
 go_loopw [7,13] (fun v i wr=>∃ q:Nat,q≤nn∧i=.int .i64 q∧Below W.heap.size W wr∧OwnU wr W.heap.size v (othersL (l.take q) but fun n=>(n,k,tc,ts,ic,is,(po,pn,pc),(lo_,ln,lc)))) (fun _ i _=>nn-(intOf i).toNat)
 case atStart=>exact⟨0,Nat.zero_le _,rfl,Below.refl _ _,own_nil _ _⟩
 case round =>
  obtain⟨q,hq,rfl,hbe,hown⟩:=hrel
  have BE:=Lib.hid hbe
  have OE:=Lib.hid hown
  clear hbe hown
  by_cases hlt:q<nn
  ·obtain⟨y,hy⟩:∃ y,l[q]?=some y:=⟨_,List.getElem?_eq_getElem (by rw [← HN.out]; exact hlt)⟩
   obtain⟨p,ix,_,px⟩:=row_el Nm.okI HS.out rfl HN.out.symm hy
   have p0:wr.cell? p=some (.int .i64 y):=by simpa [Addr.add] using px wr BE.out 0 _ rfl
   have ix:∀ w,(Instr.indexAt 25 (.slice no nn nc) (.int .i64 q)).run Tryz.prog w=.ok (.pointer (some p)) w:=ix
   have FS:=Lib.hid (show othersL (l.take (q+1)) but (fun n=>((n,k,tc,ts,ic,is,(po,pn,pc),(lo_,ln,lc)):XOu))=othersL (l.take q) but (fun n=>(n,k,tc,ts,ic,is,(po,pn,pc),(lo_,ln,lc)))++(if (y != but)=true then [(y,k,tc,ts,ic,is,(po,pn,pc),(lo_,ln,lc))] else []) by
    unfold othersL
    rw [fil_snoc l q y _ hy,List.map_append]
    cases y != but <;> rfl)
   have hw3:IntKind.i64.wrap ((q:Int)+1)=(q:Int)+1:=IntWalk.i64_in _ (by omega)
   obtain⟨r,hr⟩:∃ r,(y != but)=r:=⟨_,rfl⟩
   rw [hr] at FS
   clear px hy
   cases r
   ·go_wp2
    go_roundw
    case rel=>exact⟨q+1,by omega,by go_num,BE.out,by
     rw [FS.out]
     simpa using OE.out⟩
    case measure=>simp [intOf]; omega
   ·have x_:=X5.out.on BE.out
    obtain⟨x0,x1,x2,x3,x4,x5,x6⟩:=x_.cs7
    have NB:=Lib.hid (newB wr (.cells #[.int .i64 y,.int .i64 k,.int .i64 tc,.int .i64 ts,.int .i64 ic,.int .i64 is,.slice po pn pc,.slice lo_ ln lc] 141))
    have hlit:=row_lit okU wr [(y,k,tc,ts,ic,is,(po,pn,pc),(lo_,ln,lc))] 1 rfl (by simp) #[.int .i64 y,.int .i64 k,.int .i64 tc,.int .i64 ts,.int .i64 ic,.int .i64 is,.slice po pn pc,.slice lo_ ln lc] rfl
    have o2:=own_on OE.out NB.out
    have hB:W.heap.size≤(wr.alloc (.cells #[.int .i64 y,.int .i64 k,.int .i64 tc,.int .i64 ts,.int .i64 ic,.int .i64 is,.slice po pn pc,.slice lo_ ln lc] 141)).heap.size:=by have h1:=BE.out.size; simp; omega
    obtain⟨v',w',r',o',gr⟩:=app_row okU W.heap.size o2 (Row.of_own hlit) (by
     unfold othersL
     rw [List.length_map]
     have h1:=List.length_filter_le (fun n=>n != but) (l.take q)
     rw [List.length_take] at h1
     omega) (by simp) hB 78
    have r':(Builtin.append_ #[78,78] 78 #[u7,.slice (some ⟨wr.heap.size,0,none⟩) 1 1]).run Tryz.prog (wr.alloc (.cells #[.int .i64 y,.int .i64 k,.int .i64 tc,.int .i64 ts,.int .i64 ic,.int .i64 is,.slice po pn pc,.slice lo_ ln lc] 141))=.ok v' w':=by
     simpa [EU] using r'
    have BG:=Lib.hid ((BE.out.trans (NB.out.mono BE.out.size)).grown gr hB fun j hj=>(o2.lt j hj).1)
    have OG:=Lib.hid o'
    clear hlit o2 hB o' gr OE x_
    go_wp2_with (first | (at_builtin; refine wpList_append_run rfl _ _ 78 rfl rfl rfl r' ?_) | fail)
    go_roundw
    case rel=>exact⟨q+1,by omega,by go_num,BG.out,by
     rw [FS.out]
     simpa using OG.out⟩
    case measure=>simp [intOf]; omega
  ·obtain rfl:nn=q:=by omega
   have e:l.take nn=l:=List.take_of_length_le (by have:=HN.out; omega)
   rw [e] at OE
   obtain⟨vo1,vo2,hv⟩:=(Row.of_own OE.out).len
   subst hv
   clear e
   go_wp2
   go_ret
   exact⟨⟨(vo1,_,vo2),rfl,own_fewer OE.out (by have:=W2.out; omega)⟩,B0.out.trans (BE.out.mono B0.out.size)⟩
abbrev setMB (W:World) (b:Nat) (a0 a1 a2 a3 a4 a5 a6:Value):World:=((((((W.setCell ⟨b,0,none⟩ a0).setCell ⟨b,1,none⟩ a1).setCell ⟨b,2,none⟩ a2).setCell ⟨b,3,none⟩ a3).setCell ⟨b,4,none⟩ a4).setCell ⟨b,5,none⟩ a5).setCell ⟨b,6,none⟩ a6
theorem setMB_box {W:World} {b:Nat} {t:TypeId} {z0 z1 z2 z3 z4 z5 z6:Value} (h:Box W b #[z0,z1,z2,z3,z4,z5,z6] t) (a0 a1 a2 a3 a4 a5 a6:Value):Box (setMB W b a0 a1 a2 a3 a4 a5 a6) b #[a0,a1,a2,a3,a4,a5,a6] t:=by
 have h2:=box_set (k:=6) (box_set (k:=5) (box_set (k:=4) (box_set (k:=3) (box_set (k:=2) (box_set (k:=1) (box_set (k:=0) h a0) a1) a2) a3) a4) a5) a6
 simp only [List.setIfInBounds_toArray,List.set_cons_zero,List.set_cons_succ] at h2
 exact h2
theorem sub_any (z:XEn) (w:World):Calls Tryz.prog 96 #[valN z] w fun e w'=>e=.returned (.agg #[.int .i64 3,.int .i64 z.1,.int .i64 z.2.1,.int .i64 z.2.2.1,.int .i64 z.2.2.2.1,slv z.2.2.2.2.1,.slice none 0 0])∧Below w.heap.size w w':=by
 obtain⟨c,d,g,h,⟨po,pn,pc⟩,fr,up⟩:=z
 obtain⟨h0,h1,h2⟩:=two_new w #[.int .i64 c,.int .i64 d,.int .i64 g,.int .i64 h,.slice po pn pc,.int .i64 fr,.bool up] #[.int .i64 0,.int .i64 0,.int .i64 0,.int .i64 0,.int .i64 0,.slice none 0 0,.slice none 0 0] 43 77
 obtain⟨x0,x1,x2,x3,x4,x5,x6⟩:=h1.cs7
 obtain⟨r0,r1,r2,r3,r4,r5,r6⟩:=h2.cs7
 obtain⟨t0,t1,t2,t3,t4,t5,t6⟩:=h2.fs7
 have zz:=h2.lt
 have FB:=Lib.hid (setMB_box h2 (.int .i64 3) (.int .i64 c) (.int .i64 d) (.int .i64 g) (.int .i64 h) (.slice po pn pc) (.slice none 0 0))
 have BL:=Lib.hid ((((((((h0.setCell (p:=⟨w.heap.size+1,0,none⟩) (by show w.heap.size≤w.heap.size+1; omega) (.int .i64 3)).setCell (p:=⟨w.heap.size+1,1,none⟩) (by show w.heap.size≤w.heap.size+1; omega) (.int .i64 c)).setCell (p:=⟨w.heap.size+1,2,none⟩) (by show w.heap.size≤w.heap.size+1; omega) (.int .i64 d)).setCell (p:=⟨w.heap.size+1,3,none⟩) (by show w.heap.size≤w.heap.size+1; omega) (.int .i64 g)).setCell (p:=⟨w.heap.size+1,4,none⟩) (by show w.heap.size≤w.heap.size+1; omega) (.int .i64 h)).setCell (p:=⟨w.heap.size+1,5,none⟩) (by show w.heap.size≤w.heap.size+1; omega) (.slice po pn pc)).setCell (p:=⟨w.heap.size+1,6,none⟩) (by show w.heap.size≤w.heap.size+1; omega) (.slice none 0 0)))
 clear h0 h1 h2
 show Calls Tryz.prog 96 #[.agg #[.int .i64 c,.int .i64 d,.int .i64 g,.int .i64 h,.slice po pn pc,.int .i64 fr,.bool up]] w _
 go_enter Tryz.func96,Tryz.ntmps96
 go_upto_region 1 with fail
 generalize (w.alloc (.cells #[.int .i64 c,.int .i64 d,.int .i64 g,.int .i64 h,.slice po pn pc,.int .i64 fr,.bool up] 43)).alloc (.cells #[.int .i64 0,.int .i64 0,.int .i64 0,.int .i64 0,.int .i64 0,.slice none 0 0,.slice none 0 0] 77)=W at *
 go_wp2_with fail
 obtain⟨v0,v1,v2,v3,v4,v5,v6⟩:=FB.out.cs7
 refine bodyPost_ret (v:=.agg #[.int .i64 3,.int .i64 c,.int .i64 d,.int .i64 g,.int .i64 h,.slice po pn pc,.slice none 0 0]) (by simp [results,Tryz.results96,go_sem,v0,v1,v2,v3,v4,v5,v6]) rfl ?_
 exact⟨rfl,BL.out⟩
end Go.Proofs.YtncogjpmboglhaaGreat.Bk
namespace Go.Proofs.YtncogjpmboglhaaGreat.Rg
open Go.RowKit
structure SeenF (i N:Nat) (dst:Nat→Option Nat) (last:Nat→Nat) (V:Nat→Value→World→Prop) (base:Act) (o:Oper) (a:Act) (w:World):Prop where
 kp:∀ j u,(∀ k,k<N→dst k≠some j)→base.tmps[j]?=some u→a.eval (.tmp j)=u
 at_:∀ e∈o.after,Region.binds .any e=true→(last e.on=i∨N≤last e.on)→∀ d,dst e.on=some d→V e.on (a.eval (.tmp d)) w
 st:∀ e∈o.after,Region.binds .any e=true→(last e.on=i∨N≤last e.on)→∃ v,V e.on v w
theorem put_other (a:Act) (d:Option Nat) (v:Value) (j:Nat) (hj:d≠some j):(a.put d v).tmps[j]?=a.tmps[j]?:=by
 cases d with
 | none=>rfl
 | some d=>exact get_put _ _ _ _ (fun e=>hj (by rw [e]))
theorem put_size (a:Act) (d:Option Nat) (v:Value):(a.put d v).tmps.size=a.tmps.size:=by
 cases d with
 | none=>rfl
 | some d=>exact size_put _ _ _
theorem put_defers (a:Act) (d:Option Nat) (v:Value):(a.put d v).defers=a.defers:=by
 cases d <;> rfl
structure PhD (l:List Oper) (N:Nat) (dst:Nat→Option Nat) (last:Nat→Nat) (V:Nat→Value→World→Prop) (F:(Nat→Prop)→World→Prop) (base:Act) (L:Array Bool) (a:Act) (x:World):Prop where
 cl:∀ i o,done L i→l[i]?=some o→∀ e∈o.after,Region.binds .any e=true→done L e.on
 df:a.defers=base.defers
 sz:a.tmps.size=base.tmps.size
 kp:∀ j,(∀ i,i<N→dst i≠some j)→a.tmps[j]?=base.tmps[j]?
 fr:F (done L) x
 no:∀ i,N≤i→¬ done L i
 val:∃ vs:Nat→Value,∀ i,i<N→done L i→(∀ d,dst i=some d→a.tmps[d]?=some (vs i))∧(¬ done L (last i)→V i (vs i) x)
theorem region_done {P:Program} {Q:Exit→Act→World→Prop} {id:Nat} {base:Act} {w:World} {l:List Oper} (N:Nat) (dst:Nat→Option Nat) (last:Nat→Nat) (V:Nat→Value→World→Prop) (F:(Nat→Prop)→World→Prop)
  (hm:P.follows .mixedOrders=true) (hf:fore l.toArray=true) (hN:l.length=N) (hinj:∀ i j d,i<N→j<N→dst i=some d→dst j=some d→i=j) (hs:∀ i d,i<N→dst i=some d→d<base.tmps.size) (h0:F (fun _=>False) w.drew)
  (hop:∀ i o,i<N→l[i]?=some o→∀ a w' (D:Nat→Prop),¬ D i→(∀ j oj,D j→l[j]?=some oj→∀ e∈oj.after,Region.binds .any e=true→D e.on)→(∀ e∈o.after,Region.binds .any e=true→D e.on)→F D w'→SeenF i N dst last V base o a w'→∀ K:Act→World→Prop,(∀ v w'',V i v w''→F (fun j=>j=i∨D j) w''→(∀ j u,j<N→D j→¬ D (last j)→last j≠i→j≠i→V j u w'→V j u w'')→K (a.put (dst i) v) w'')→wpOp P l.toArray Q i K a w')
  (hend:∀ a w',a.defers=base.defers→a.tmps.size=base.tmps.size→(∀ j,(∀ i,i<N→dst i≠some j)→a.tmps[j]?=base.tmps[j]?)→(∃ vs:Nat→Value,∀ i,i<N→(∀ d,dst i=some d→a.tmps[d]?=some (vs i))∧(N≤last i→V i (vs i) w'))→(∃ D:Nat→Prop,(∀ i,i<N→D i)∧F D w')→Q .normal a w'):(Code.region id l.toArray true).wp P Q base w:=by
 refine region_inv (fun L a x=>PhD l N dst last V F base L a x) hm hf ?_ ?_ ?_
 ·exact⟨fun i o h=>absurd h (none_done _ _),rfl,rfl,fun _ _=>rfl,by rw [show done (Array.replicate l.length false)=fun _=>False from funext fun i=>propext ⟨fun h=>none_done _ _ h,False.elim⟩]; exact h0,fun i _=>none_done _ _,fun _=>.bool true,fun i _ h=>absurd h (none_done _ _)⟩
 ·intro L a x i o hsz I ho hnd hdep
  have hi:i<l.length:=(List.getElem?_eq_some_iff.1 ho).1
  have hiL:i<L.size:=by omega
  have hiM:i<N:=by omega
  obtain⟨vs,q1⟩:=I.val
  have hon:∀ e∈o.after,Region.binds .any e=true→e.on<N:=fun e he hb=>by
   have h7:=List.all_eq_true.1 hf i (List.mem_range.2 (by simpa using hi))
   have ho':(l.toArray)[i]?=some o:=by simpa using ho
   rw [ho'] at h7
   have h8:=Array.all_eq_true'.1 h7 e he
   rw [hb] at h8
   have:e.on<i:=by simpa using h8
   omega
  have lv:∀ e∈o.after,Region.binds .any e=true→(last e.on=i∨N≤last e.on)→V e.on (vs e.on) x:=fun e he hbd hl=>by
   refine (q1 e.on (hon e he hbd) (hdep e he hbd)).2 ?_
   rcases hl with hl|hl
   ·rw [hl]; exact hnd
   ·exact I.no _ hl
  have seen:SeenF i N dst last V base o a x:=⟨fun j u hj hu=>eval_some (by rw [I.kp j hj]; exact hu),fun e he hbd hl d hd=>by
   rw [eval_some ((q1 e.on (hon e he hbd) (hdep e he hbd)).1 d hd)]
   exact lv e he hbd hl,fun e he hbd hl=>⟨_,lv e he hbd hl⟩⟩
  refine hop i o hiM ho a x (done L) hnd I.cl hdep I.fr seen _ fun v w'' hvw hfw hpr=>?_
  refine⟨fun k q hk hq e he hb=>?_,by rw [put_defers]; exact I.df,by rw [put_size]; exact I.sz,fun j hj=>?_,by rw [show done (L.setIfInBounds i true)=fun j=>j=i∨done L j from funext fun j=>propext (done_set hiL j)]; exact hfw,fun k hk hd=>?_,fun k=>if k=i then v else vs k,fun k hkM hk=>?_⟩
  ·rw [done_set hiL] at hk ⊢
   rcases hk with rfl|hk
   ·rw [hq] at ho
    cases ho
    exact Or.inr (hdep e he hb)
   ·exact Or.inr (I.cl k q hk hq e he hb)
  ·rw [put_other _ _ _ _ (hj i hiM)]
   exact I.kp j hj
  ·rcases (done_set hiL k).1 hd with h9|h9
   ·omega
   ·exact I.no k hk h9
  ·by_cases e:k=i
   ·subst e
    simp only [if_true]
    refine⟨fun d hd=>?_,fun _=>hvw⟩
    have h9:d<a.tmps.size:=by rw [I.sz]; exact hs k d hkM hd
    rw [hd]
    simp [Act.put,h9]
   ·simp only [if_neg e]
    rcases (done_set hiL k).1 hk with h9|h9
    ·exact absurd h9 e
    ·obtain⟨p1,p2⟩:=q1 k hkM h9
     refine⟨fun d hd=>?_,fun hn=>?_⟩
     ·rw [put_other _ _ _ _ (fun h=>e (hinj k i d hkM hiM hd h))]
      exact p1 d hd
     ·have n1:last k≠i:=fun e3=>hn ((done_set hiL _).2 (Or.inl e3))
      have n2:¬ done L (last k):=fun e3=>hn ((done_set hiL _).2 (Or.inr e3))
      exact hpr k _ hkM h9 n2 n1 e (p2 n2)
 ·intro L a x I hd
  obtain⟨vs,q1⟩:=I.val
  exact hend a x I.df I.sz I.kp ⟨vs,fun k hk=>⟨(q1 k hk (hd k (by omega))).1,fun hl=>(q1 k hk (hd k (by omega))).2 (I.no _ hl)⟩⟩ ⟨done L,fun i hi=>hd i (by omega),I.fr⟩
end Go.Proofs.YtncogjpmboglhaaGreat.Rg
namespace Go.Proofs.YtncogjpmboglhaaGreat.Rl
open Go.RowKit Pu Rw Pr Va
end Go.Proofs.YtncogjpmboglhaaGreat.Rl
namespace Go.Proofs.YtncogjpmboglhaaGreat.Bk
open Go.RowKit Go.Sort Rw YtncogjpmboglhaaGreat.Nm Pr
noncomputable def subsB0:Code:=((Tryz.f32.body.bind (findBlock 0)).getD .skip)
theorem subs_l0 (Q:Exit→Act→World→Prop) (W:World) (b2 b3:Nat) (me c d:Int) (y1 y2 y3 y4:Value) (so:Option Addr) (n sc:Nat) (l:List XOw) (u0 u1 u2 u5 u6 u7 u9 u10 u11 u12 u13 u14 u15 u16 u17 u18 u19 u20 u21 u22 u23 u24 u25 u26 u27 u28 u29 u30 u31 u32 u33 u34 u35 u36 u37 u38 u39 u40 u41 u42 u43 u44 u45 u46 u47 u48 u49 u50 u51 u52 u53 u54 u55 u56 u57 u58 u59 u60 u61 u62 u63 u64 u65 u66 u67 u68 u69 u70 u71 u72 u73 u74 u75 u76 u77 u78 u79 u80 u81 u82 u83 u84 u85 u86 u87 u88 u89 u90 u91 u92 u93 u94 u95 u96 u97 u98:Value)
  (h2:Box W b2 #[.int .i64 me,y1,y2,y3,y4,.slice so n sc] 31) (h3:Box W b3 #[.int .i64 c,.int .i64 d] 38) (hs:RowW W (.slice so n sc) l) (hn:n=l.length) (hm:n≤1000000)
  (hQ:∀ (wr:World) (v14 v15 v16 v17 v18 v19 v20 v21 v22 v23 v24 v25 v26 v27 v28 v29 v30:Value),Below W.heap.size W wr→Q .normal ⟨(u0::u1::u2::.pointer (some ⟨b2,0,none⟩)::.pointer (some ⟨b3,0,none⟩)::u5::u6::u7::.int .i64 (placeI (l.map fun y=>(y.1,y.2.1)) (c,d):Nat)::u9::u10::u11::u12::u13::v14::v15::v16::v17::v18::v19::v20::v21::v22::v23::v24::v25::v26::v27::v28::v29::v30::u31::u32::u33::u34::u35::u36::u37::u38::u39::u40::u41::u42::u43::u44::u45::u46::u47::u48::u49::u50::u51::u52::u53::u54::u55::u56::u57::u58::u59::u60::u61::u62::u63::u64::u65::u66::u67::u68::u69::u70::u71::u72::u73::u74::u75::u76::u77::u78::u79::u80::u81::u82::u83::u84::u85::u86::u87::u88::u89::u90::u91::u92::u93::u94::u95::u96::u97::u98::[]).toArray,[]⟩ wr) :
  Code.wp Tryz.prog subsB0 Q ⟨(u0::u1::u2::.pointer (some ⟨b2,0,none⟩)::.pointer (some ⟨b3,0,none⟩)::u5::u6::u7::.int .i64 0::u9::u10::u11::u12::u13::u14::u15::u16::u17::u18::u19::u20::u21::u22::u23::u24::u25::u26::u27::u28::u29::u30::u31::u32::u33::u34::u35::u36::u37::u38::u39::u40::u41::u42::u43::u44::u45::u46::u47::u48::u49::u50::u51::u52::u53::u54::u55::u56::u57::u58::u59::u60::u61::u62::u63::u64::u65::u66::u67::u68::u69::u70::u71::u72::u73::u74::u75::u76::u77::u78::u79::u80::u81::u82::u83::u84::u85::u86::u87::u88::u89::u90::u91::u92::u93::u94::u95::u96::u97::u98::[]).toArray,[]⟩ W:=by
 have HQ:=Lib.hid hQ
 have H2:=Lib.hid h2
 have H3:=Lib.hid h3
 have HS:=Lib.hid hs
 have HN:=Lib.hid hn
 clear hQ h2 h3 hs hn
 conv=>arg 2; whnf
 go_wp2
 go_loopw [8] (fun i wr=>∃ k:Nat,k≤n∧i=.int .i64 k∧Below W.heap.size W wr∧∀ (j:Nat) (y:Id),j<k→(l.map fun y=>(y.1,y.2.1))[j]?=some y→lessI y (c,d)=true) (fun i _=>n-(intOf i).toNat)
 case atStart=>exact⟨0,Nat.zero_le _,rfl,Below.refl _ _,fun j y h=>by omega⟩
 case round =>
  obtain⟨k,hk,rfl,hbe,hall⟩:=hrel
  have BE:=Lib.hid hbe
  have AL:=Lib.hid hall
  clear hbe hall
  have q0:=cell_regrown (show wr.cell? ⟨b2,5,none⟩=some (.slice so n sc) from (H2.out.on BE.out).cell 5)
  have r0:=cell_regrown (show wr.cell? ⟨b3,0,none⟩=some (.int .i64 c) from (H3.out.on BE.out).cell 0)
  have r1:=cell_regrown (show wr.cell? ⟨b3,1,none⟩=some (.int .i64 d) from (H3.out.on BE.out).cell 1)
  have hw3:IntKind.i64.wrap ((k:Int)+1)=(k:Int)+1:=IntWalk.i64_in _ (by omega)
  by_cases hlt:k<n
  ·obtain⟨y,hy⟩:∃ y,l[k]?=some y:=⟨_,List.getElem?_eq_getElem (by rw [← HN.out]; exact hlt)⟩
   obtain⟨p,ix,px⟩:=elW HS.out rfl HN.out.symm hy
   have px2:=px wr BE.out
   obtain⟨y1,y2,⟨yo,yn,yc⟩⟩:=y
   simp only at px2
   have p0:=cell_regrown px2.1
   have p1:=cell_regrown px2.2.1
   have dlt:decide ((k:Int)<(n:Int))=true:=decide_eq_true (by omega)
   have dln:decide (k<n)=true:=decide_eq_true hlt
   obtain⟨r,hr⟩:∃ r,lessI (y1,y2) (c,d)=r:=⟨_,rfl⟩
   have LS:=Lib.hid (fun d' os=>Calls.regrown_of (d:=d') (os:=os) ((less_any (y1,y2) (c,d) (grow (redrawn wr d') os)).mono fun _ _ h=>⟨by rw [h.1,hr],h.2⟩))
   have HY:=Lib.hid (show (l.map fun y=>(y.1,y.2.1))[k]?=some (y1,y2) by rw [List.getElem?_map,hy]; rfl)
   have HR:=Lib.hid hr
   clear px px2 hy hr
   cases r
   ·go_wp2_with fail
    refine wp_region_quiet_below (by kernel_rfl) (by kernel_rfl) ?_
    repeat (go_big_quiet_step (first | (with_reducible exact LS.out _ _)))
    refine wpQuiet_nil ?_
    intro _ hw'
    obtain⟨⟨dq,osq⟩,hw''⟩:=hw'
    subst hw''
    have Z6:=below_regrown wr dq osq
    have HF:=Lib.hid (fun v14 v15 v16 v17 v18 v19 v20 v21 v22 v23 v24 v25 v26 v27 v28 v29 v30=>HQ.out (grow (redrawn wr dq) osq) v14 v15 v16 v17 v18 v19 v20 v21 v22 v23 v24 v25 v26 v27 v28 v29 v30 (BE.out.trans (Z6.mono BE.out.size)))
    rw [place_is (l.map fun y=>(y.1,y.2.1)) (c,d) k AL.out (Or.inr ⟨_,HY.out,HR.out⟩)] at HF
    clear ix HQ q0 r0 r1 LS dlt dln p0 p1
    go_wp2
    exact HF.out _ _ _ _ _ _ _ _ _ _ _ _ _ _ _ _ _
   ·go_wp2_with fail
    refine wp_region_quiet_below (by kernel_rfl) (by kernel_rfl) ?_
    repeat (go_big_quiet_step (first | (with_reducible exact LS.out _ _)))
    refine wpQuiet_nil ?_
    intro _ hw'
    obtain⟨⟨dq,osq⟩,hw''⟩:=hw'
    subst hw''
    have Z6:=Lib.hid (below_regrown wr dq osq)
    clear ix q0 r0 r1 LS dlt dln p0 p1
    go_wp2
    go_roundw
    case rel=>exact⟨k+1,by omega,by go_num,BE.out.trans (Z6.out.mono BE.out.size),fun j y' hj h1=>by
     rcases Nat.lt_or_ge j k with h3|h3
     ·exact AL.out j y' h3 h1
     ·obtain rfl:j=k:=by omega
      have e1:=HY.out
      rw [h1] at e1
      rw [Option.some.inj e1]
      exact HR.out⟩
    case measure=>simp [intOf]; omega
  ·obtain rfl:k=n:=by omega
   have dlt:decide ((k:Int)<(k:Int))=false:=by simp
   have dln:decide (k<k)=false:=by simp
   go_wp2_with fail
   refine wp_region_quiet_below (by kernel_rfl) (by kernel_rfl) ?_
   repeat (go_big_quiet_step (fail))
   refine wpQuiet_nil ?_
   intro _ hw'
   obtain⟨⟨dq,osq⟩,hw''⟩:=hw'
   subst hw''
   have Z6:=below_regrown wr dq osq
   have HF:=Lib.hid (fun v14 v15 v16 v17 v18 v19 v20 v21 v22 v23 v24 v25 v26 v27 v28 v29 v30=>HQ.out (grow (redrawn wr dq) osq) v14 v15 v16 v17 v18 v19 v20 v21 v22 v23 v24 v25 v26 v27 v28 v29 v30 (BE.out.trans (Z6.mono BE.out.size)))
   rw [place_is (l.map fun y=>(y.1,y.2.1)) (c,d) k AL.out (Or.inl (by simpa using HN.out))] at HF
   clear HQ q0 r0 r1 dlt dln
   go_wp2
   exact HF.out _ _ _ _ _ _ _ _ _ _ _ _ _ _ _ _ _
end Go.Proofs.YtncogjpmboglhaaGreat.Bk
namespace Go.Proofs.YtncogjpmboglhaaGreat.Pr
open Go.RowKit Go.ChangeShapes Go.WideShapes In
theorem cellsP:Tryz.prog.cellsOf 53=2:=by kernel_rfl
theorem cellsIs:Tryz.prog.cellsOf 25=1:=by kernel_rfl
theorem open_pred {H:Type} {enc:TypeId×Value→H} {W:World} {r:Reach} {b0:Nat} {sp:Nat→Bool} {held:Bool} {v:Value} {d:DataW H} {ps:List MemPlace}
  (hval:Value.okWide Tryz.prog W r b0 53 v) (hd:DataW.Trod enc Tryz.prog W 0 sp held 53 v d ps) :
  ∃ (hv vv:Value) (has vals:List Int),v=.agg #[hv,vv]∧has.length≤maxLen∧vals.length≤maxLen∧InInts W hv has∧InInts W vv vals:=by
 obtain⟨cs,rfl,hsz⟩:=okWide_struct Tryz.underlying53 hval
 obtain⟨fuel,hf⟩:=hd
 obtain⟨xs,n,_,_,_,hxl,hx⟩:=DataW.trod_struct Tryz.underlying53 hf
 rw [cellsP] at hsz
 obtain⟨l⟩:=cs
 match l,hsz with
 | [c0,c1],_ =>
  have f0:DataW.trod enc Tryz.prog W 0 sp held n 25 (([c0,c1].drop 0).take (Tryz.prog.cellsOf 25))=xs[0]?:=hx 0 _ rfl
  have f1:DataW.trod enc Tryz.prog W 0 sp held n 25 (([c0,c1].drop 1).take (Tryz.prog.cellsOf 25))=xs[1]?:=hx 1 _ rfl
  have hxl':xs.length=2:=hxl
  simp only [cellsIs,List.drop_zero,List.drop_succ_cons,List.take_succ_cons,List.take_zero] at f0 f1
  rw [List.getElem?_eq_getElem (by omega)] at f0 f1
  obtain⟨has,h1,h2⟩:=in_trod f0
  obtain⟨vals,h3,h4⟩:=in_trod f1
  exact⟨c0,c1,has,vals,rfl,h1,h3,h2,h4⟩
end Go.Proofs.YtncogjpmboglhaaGreat.Pr
