/-
  A broker whose neigh. Conditions as told.
-/
import Derived.Test.YtncogjpmboglhaaGreatF027
import Derived.Test.YtncogjpmboglhaaGreatF012
import Derived.Test.YtncogjpmboglhaaGreatF018
import Derived.Test.YtncogjpmboglhaaGreatF031
import Derived.Test.YtncogjpmboglhaaGreatF024
import Derived.Test.YtncogjpmboglhaaGreatF008
import Derived.Maps.OwnSet
import Derived.DeepKeys4
import Derived.KernelRfl
import Derived.Test.YtncogjpmboglhaaGreatF017
import Derived.Test.YtncogjpmboglhaaGreatF028
set_option maxRecDepth 100000
set_option maxHeartbeats 64000000
namespace Go.Proofs.YtncogjpmboglhaaGreat.Av
open Go.RowKit Go.Sort Rw YtncogjpmboglhaaGreat.Nm Pr Bk
structure BrN (W:World) (b:Br) (nv av sv ev ov:Sl):Prop where
 br:BrIn W b nv av sv ev ov
 no:NearOwn W nv b.near
theorem BrN.on {W W':World} {b:Br} {nv av sv ev ov:Sl} (h:BrN W b nv av sv ev ov) (hb:Below W.heap.size W W'):BrN W' b nv av sv ev ov:=⟨h.br.on hb,h.no.on hb⟩
theorem BrN.keep {W W':World} {k:Nat} {me:Int} {s1 s2 s3 s4 s5:Sl} {b:Br} {nv av sv ev ov:Sl} (h:BrN W b nv av sv ev ov) (hb:Box W k (brcells me s1 s2 s3 s4 s5) 31) (hk:But k W W'):BrN W' b nv av sv ev ov:=by
 obtain⟨B,hn⟩:=h.no
 have hn2:OwnI W' B (slv nv) b.near:=hk.own hn hb (by decide)
 exact⟨brin_keep h.br hb hk.1 (Row.of_own hn2),B,hn2⟩
theorem brin_nil (W:World) (me:Int) {near:List Int} {nv:Sl} (h:RowI W (slv nv) near):BrIn W ⟨me,near,[],[],[],[]⟩ nv (none,0,0) (none,0,0) (none,0,0) (none,0,0):=⟨h,⟨[],row_nil _,.nil⟩,row_nil _,⟨[],row_nil _,.nil⟩,⟨[],row_nil _,.nil⟩⟩
theorem rise_uniq:∀ {l m:List Int},l.Pairwise (·<·)→m.Pairwise (·<·)→(∀ x,x∈l↔x∈m)→l=m
 | [],[],_,_,_=>rfl
 | [],y::m,_,_,h=>by have:=(h y).2 (by simp); simp at this
 | x::l,[],_,_,h=>by have:=(h x).1 (by simp); simp at this
 | x::l,y::m,hl,hm,h=>by
  have hl':=List.pairwise_cons.1 hl
  have hm':=List.pairwise_cons.1 hm
  have h1:x=y:=by
   rcases List.mem_cons.1 ((h x).1 (by simp)) with e|e
   ·exact e
   ·rcases List.mem_cons.1 ((h y).2 (by simp)) with e2|e2
    ·exact e2.symm
    ·have a1:=hm'.1 x e
     have a2:=hl'.1 y e2
     omega
  subst h1
  rw [rise_uniq hl'.2 hm'.2 fun z=>⟨fun hz=>?_,fun hz=>?_⟩]
  ·rcases List.mem_cons.1 ((h z).1 (List.mem_cons_of_mem _ hz)) with e|e
   ·have:=hl'.1 z hz
    omega
   ·exact e
  ·rcases List.mem_cons.1 ((h z).2 (List.mem_cons_of_mem _ hz)) with e|e
   ·have:=hm'.1 z hz
    omega
   ·exact e
theorem ex_extract {P:Program} (ρ:Operand→Value) (o:Oper) (y:Operand) (k:Nat) (ho:o.op=.extract y k) {c:Array Value} {v:Value} (hx:ρ y=.tuple c) (hv:c[k]?=some v) (w:World):(execOp ρ o).run P w=.ok (.value v) w:=by
 simp [execOp,ho,hx,hv,go_sem]
theorem sameD_any (x y:XAd) (a b:Ad) (w:World) (hx:AdIn w x a) (hy:AdIn w y b) (hl:a.p.length≤1000000):Calls Tryz.prog 58 #[valD x,valD y] w fun e w'=>e=.returned (.bool (eqD a b))∧Below w.heap.size w w':=by
 obtain⟨x1,x2,⟨xo,xn,xc⟩,x4⟩:=x
 obtain⟨y1,y2,⟨yo,yn,yc⟩,y4⟩:=y
 obtain⟨gi,gp,gr⟩:=hx
 obtain⟨ki,kp,kr⟩:=hy
 have ER:eqD a b=((x1 == y1 && x2 == y2) && ((x4 == y4) && sameC a.p b.p)):=by
  unfold eqD
  rw [← gi,← ki,← gp,← kp]
  rfl
 rw [ER]
 obtain⟨h0,X,Y⟩:=two_new w #[.int .i64 x1,.int .i64 x2,.slice xo xn xc,.int .i64 x4] #[.int .i64 y1,.int .i64 y2,.slice yo yn yc,.int .i64 y4] 41 41
 have C:=Lib.hid (psame_any _ _ a.p b.p _ (gr.on h0) (kr.on h0) hl)
 obtain⟨cx0,cx1,cx2,cx3⟩:=X.cs4
 obtain⟨cy0,cy1,cy2,cy3⟩:=Y.cs4
 have B0:=Lib.hid h0
 clear h0 X Y gr kr hl ER gi gp ki kp
 obtain⟨r0,hr0⟩:∃ r,(x1 == y1 && x2 == y2)=r:=⟨_,rfl⟩
 have he0:=eqId x1 x2 y1 y2 r0 hr0
 obtain⟨r1,hr1⟩:∃ r,(x4 == y4)=r:=⟨_,rfl⟩
 rw [hr0,hr1]
 clear hr0
 obtain⟨rs,hrs⟩:∃ r,sameC a.p b.p=r:=⟨_,rfl⟩
 rw [hrs] at C ⊢
 clear hrs
 go_enter Tryz.func58,Tryz.ntmps58
 cases r0
 ·go_wp2_with fail
  go_ret
  exact⟨rfl,B0.out⟩
 ·cases r1
  ·go_wp2_with fail
   go_ret
   exact⟨rfl,B0.out⟩
  ·go_wp2_with fail
   refine C.out.mono ?_
   rintro e w1 ⟨rfl,hb⟩
   have BB:=Lib.hid (B0.out.trans (hb.mono B0.out.size))
   clear hb
   go_wp2
   go_ret
   exact⟨rfl,BB.out⟩
theorem eqfD_any (v u:Sl) (l m:List XAd) (al bl:List Ad) (w:World) (ha:Row ED w (slv v) l) (hb:Row ED w (slv u) m) (hA:All2 (AdIn w) l al) (hB:All2 (AdIn w) m bl) (hs:∀ a∈al,a.p.length≤1000000) :
  Calls Tryz.prog 57 #[slv v,slv u,.func (.func 58) #[] #[]] w fun e w'=>e=.returned (.bool (sameG eqD al bl))∧Below w.heap.size w w':=by
 obtain⟨so,sn,sc⟩:=v
 obtain⟨uo,un,uc⟩:=u
 obtain⟨ao,ac,hv⟩:=ha.len
 have hv:Value.slice so sn sc=.slice ao l.length ac:=hv
 obtain⟨rfl,rfl,rfl⟩:so=ao∧sn=l.length∧sc=ac:=by simpa using hv
 obtain⟨ao,ac,hv2⟩:=hb.len
 have hv2:Value.slice uo un uc=.slice ao m.length ac:=hv2
 obtain⟨rfl,rfl,rfl⟩:uo=ao∧un=m.length∧uc=ac:=by simpa using hv2
 have RA:=Lib.hid ha
 have RB:=Lib.hid hb
 have LA:=Lib.hid hA
 have LB:=Lib.hid hB
 have HS:=Lib.hid hs
 have ma:=ha.most
 unfold maxLen at ma
 clear ha hb hA hB hs hv hv2
 by_cases hlen:l.length=m.length
 ·have HL:=Lib.hid hlen
  rw [← hlen] at RB ⊢
  generalize hn:l.length=n at *
  have HN:=Lib.hid hn
  clear hlen hn
  go_enter Tryz.func57,Tryz.ntmps57
  go_wp2
  go_loopw [17] (fun i wr=>∃ k:Nat,k≤n∧i=.int .i64 k∧Below w.heap.size w wr∧∀ (j:Nat) (x y:Ad),j<k→al[j]?=some x→bl[j]?=some y→eqD x y=true) (fun i _=>n-(intOf i).toNat)
  case atStart=>exact⟨0,Nat.zero_le _,rfl,Below.refl _ _,fun j x y h=>by omega⟩
  case round =>
   obtain⟨k,hk,rfl,hbe,hall⟩:=hrel
   have BE:=Lib.hid hbe
   have AL:=Lib.hid hall
   clear hbe hall
   by_cases hlt:k<n
   ·obtain⟨a,hak⟩:∃ a,al[k]?=some a:=⟨_,List.getElem?_eq_getElem (by rw [← LA.out.len,HN.out]; exact hlt)⟩
    obtain⟨b,hbk⟩:∃ b,bl[k]?=some b:=⟨_,List.getElem?_eq_getElem (by rw [← LB.out.len,← HL.out]; exact hlt)⟩
    obtain⟨x,hx,ix⟩:=LA.out.at k a hak
    obtain⟨y,hy,iy⟩:=LB.out.at k b hbk
    obtain⟨p,jx,px⟩:=elD RA.out rfl HN.out hx
    obtain⟨q,jy,py⟩:=elD RB.out rfl HL.out.symm hy
    obtain⟨p0,p1,p2,p3⟩:=px wr BE.out
    have hs1:=HS.out a (List.mem_of_getElem? hak)
    have CC:=fun W' (h:Below w.heap.size w W')=>sameD_any x y a b W' (ix.on h) (iy.on h) hs1
    have HAK:=Lib.hid hak
    have HBK:=Lib.hid hbk
    clear hx hy hak hbk hs1 px ix iy
    obtain⟨x1,x2,⟨xo,xn,xc⟩,x4⟩:=x
    obtain⟨y1,y2,⟨yo,yn,yc⟩,y4⟩:=y
    simp only at p0 p1 p2 p3
    have N1:=newB wr (.cells #[.int .i64 x1,.int .i64 x2,.slice xo xn xc,.int .i64 x4] 41)
    have N2:=newB (wr.alloc (.cells #[.int .i64 x1,.int .i64 x2,.slice xo xn xc,.int .i64 x4] 41)) (.cells #[.int .i64 y1,.int .i64 y2,.slice yo yn yc,.int .i64 y4] 41)
    have BN:=Lib.hid (BE.out.trans ((N1.trans (N2.mono N1.size)).mono BE.out.size))
    obtain⟨q0,q1,q2,q3⟩:=py _ (BE.out.trans (N1.mono BE.out.size))
    have hX:=(box_new wr #[.int .i64 x1,.int .i64 x2,.slice xo xn xc,.int .i64 x4] 41).on N2
    have hY:=box_new (wr.alloc (.cells #[.int .i64 x1,.int .i64 x2,.slice xo xn xc,.int .i64 x4] 41)) #[.int .i64 y1,.int .i64 y2,.slice yo yn yc,.int .i64 y4] 41
    have hsz:(wr.alloc (.cells #[.int .i64 x1,.int .i64 x2,.slice xo xn xc,.int .i64 x4] 41)).heap.size=wr.heap.size+1:=by simp
    rw [hsz] at hY
    obtain⟨ex0,ex1,ex2,ex3⟩:=hX.cs4
    obtain⟨ey0,ey1,ey2,ey3⟩:=hY.cs4
    simp only at q0 q1 q2 q3
    have hw3:IntKind.i64.wrap ((k:Int)+1)=(k:Int)+1:=IntWalk.i64_in _ (by omega)
    have C:=Lib.hid (CC _ BN.out)
    obtain⟨r,hr⟩:∃ r,eqD a b=r:=⟨_,rfl⟩
    rw [hr] at C
    have HR:=Lib.hid hr
    clear CC hr N1 N2 hX hY hsz py
    go_wp2_with fail
    refine C.out.mono ?_
    rintro e w1 ⟨rfl,hb⟩
    have BB:=Lib.hid (BN.out.trans (hb.mono BN.out.size))
    clear hb C p0 p1 p2 p3 q0 q1 q2 q3 ex0 ex1 ex2 ex3 ey0 ey1 ey2 ey3 jx jy
    cases r
    ·have R:=Lib.hid (show sameG eqD al bl=false from sameG_not al bl k a b HAK.out HBK.out HR.out)
     go_wp2
     go_ret
     exact⟨by rw [R.out]; rfl,BB.out⟩
    ·go_wp2
     go_roundw
     case rel=>exact⟨k+1,by omega,by go_num,BB.out,fun j x' y' hj h1 h2=>by
      rcases Nat.lt_or_ge j k with h3|h3
      ·exact AL.out j x' y' h3 h1 h2
      ·obtain rfl:j=k:=by omega
       have e1:=HAK.out
       have e2:=HBK.out
       rw [h1] at e1
       rw [h2] at e2
       rw [Option.some.inj e1,Option.some.inj e2]
       exact HR.out⟩
     case measure=>simp [intOf]; omega
   ·obtain rfl:k=n:=by omega
    have R:=Lib.hid (show sameG eqD al bl=true from sameG_all al bl (by rw [← LA.out.len,← LB.out.len,HN.out]; exact HL.out) (fun j a b h1 h2=>AL.out j a b (by have:=(List.getElem?_eq_some_iff.1 h1).1; have:=HN.out; have:=LA.out.len; omega) h1 h2))
    go_wp2
    go_ret
    exact⟨by rw [R.out]; rfl,BE.out⟩
 ·have R:=Lib.hid (show sameG eqD al bl=false by
   cases h:sameG eqD al bl
   ·rfl
   ·exact absurd ((LA.out.len.trans (sameG_len _ _ h)).trans LB.out.len.symm) hlen)
  have hne:(((l.length:Nat):Int) != ((m.length:Nat):Int))=true:=by simp; omega
  have hne2:(((l.length:Nat):Int) == ((m.length:Nat):Int))=false:=by simp; omega
  clear hlen
  go_enter Tryz.func57,Tryz.ntmps57
  go_wp2
  go_ret
  exact⟨by rw [R.out]; rfl,Below.refl _ _⟩
theorem sameN_any (x y:XEn) (a b:En) (w:World) (hx:EnIn w x a) (hy:EnIn w y b) (hl:a.p.length≤1000000):Calls Tryz.prog 60 #[valN x,valN y] w fun e w'=>e=.returned (.bool (eqE a b))∧Below w.heap.size w w':=by
 obtain⟨x1,x2,x3,x4,⟨xo,xn,xc⟩,x6,x7⟩:=x
 obtain⟨y1,y2,y3,y4,⟨yo,yn,yc⟩,y6,y7⟩:=y
 obtain⟨gi,gj,gp,gq,gr⟩:=hx
 obtain⟨ki,kj,kp,kq,kr⟩:=hy
 have ER:eqE a b=((x1 == y1 && x2 == y2) && ((x3 == y3 && x4 == y4) && ((x6 == y6) && ((x7 == y7) && sameC a.p b.p)))):=by
  unfold eqE
  rw [← gi,← ki,← gj,← kj,← gp,← kp,← gq,← kq]
  rfl
 rw [ER]
 obtain⟨h0,X,Y⟩:=two_new w #[.int .i64 x1,.int .i64 x2,.int .i64 x3,.int .i64 x4,.slice xo xn xc,.int .i64 x6,.bool x7] #[.int .i64 y1,.int .i64 y2,.int .i64 y3,.int .i64 y4,.slice yo yn yc,.int .i64 y6,.bool y7] 43 43
 have C:=Lib.hid (psame_any _ _ a.p b.p _ (gr.on h0) (kr.on h0) hl)
 obtain⟨cx0,cx1,cx2,cx3,cx4,cx5,cx6⟩:=X.cs7
 obtain⟨cy0,cy1,cy2,cy3,cy4,cy5,cy6⟩:=Y.cs7
 have B0:=Lib.hid h0
 clear h0 X Y gr kr hl ER gi gj gp gq ki kj kp kq
 obtain⟨r0,hr0⟩:∃ r,(x1 == y1 && x2 == y2)=r:=⟨_,rfl⟩
 have he0:=eqId x1 x2 y1 y2 r0 hr0
 obtain⟨r1,hr1⟩:∃ r,(x3 == y3 && x4 == y4)=r:=⟨_,rfl⟩
 have he1:=eqId x3 x4 y3 y4 r1 hr1
 obtain⟨r2,hr2⟩:∃ r,(x6 == y6)=r:=⟨_,rfl⟩
 obtain⟨r3,hr3⟩:∃ r,(x7 == y7)=r:=⟨_,rfl⟩
 rw [hr0,hr1,hr2,hr3]
 clear hr0
 clear hr1
 obtain⟨rs,hrs⟩:∃ r,sameC a.p b.p=r:=⟨_,rfl⟩
 rw [hrs] at C ⊢
 clear hrs
 go_enter Tryz.func60,Tryz.ntmps60
 cases r0
 ·go_wp2_with fail
  go_ret
  exact⟨rfl,B0.out⟩
 ·cases r1
  ·go_wp2_with fail
   go_ret
   exact⟨rfl,B0.out⟩
  ·cases r2
   ·go_wp2_with fail
    go_ret
    exact⟨rfl,B0.out⟩
   ·cases r3
    ·go_wp2_with fail
     go_ret
     exact⟨rfl,B0.out⟩
    ·go_wp2_with fail
     refine C.out.mono ?_
     rintro e w1 ⟨rfl,hb⟩
     have BB:=Lib.hid (B0.out.trans (hb.mono B0.out.size))
     clear hb
     go_wp2
     go_ret
     exact⟨rfl,BB.out⟩
theorem eqfN_any (v u:Sl) (l m:List XEn) (al bl:List En) (w:World) (ha:Row EN w (slv v) l) (hb:Row EN w (slv u) m) (hA:All2 (EnIn w) l al) (hB:All2 (EnIn w) m bl) (hs:∀ a∈al,a.p.length≤1000000) :
  Calls Tryz.prog 59 #[slv v,slv u,.func (.func 60) #[] #[]] w fun e w'=>e=.returned (.bool (sameG eqE al bl))∧Below w.heap.size w w':=by
 obtain⟨so,sn,sc⟩:=v
 obtain⟨uo,un,uc⟩:=u
 obtain⟨ao,ac,hv⟩:=ha.len
 have hv:Value.slice so sn sc=.slice ao l.length ac:=hv
 obtain⟨rfl,rfl,rfl⟩:so=ao∧sn=l.length∧sc=ac:=by simpa using hv
 obtain⟨ao,ac,hv2⟩:=hb.len
 have hv2:Value.slice uo un uc=.slice ao m.length ac:=hv2
 obtain⟨rfl,rfl,rfl⟩:uo=ao∧un=m.length∧uc=ac:=by simpa using hv2
 have RA:=Lib.hid ha
 have RB:=Lib.hid hb
 have LA:=Lib.hid hA
 have LB:=Lib.hid hB
 have HS:=Lib.hid hs
 have ma:=ha.most
 unfold maxLen at ma
 clear ha hb hA hB hs hv hv2
 by_cases hlen:l.length=m.length
 ·have HL:=Lib.hid hlen
  rw [← hlen] at RB ⊢
  generalize hn:l.length=n at *
  have HN:=Lib.hid hn
  clear hlen hn
  go_enter Tryz.func59,Tryz.ntmps59
  go_wp2
  go_loopw [17] (fun i wr=>∃ k:Nat,k≤n∧i=.int .i64 k∧Below w.heap.size w wr∧∀ (j:Nat) (x y:En),j<k→al[j]?=some x→bl[j]?=some y→eqE x y=true) (fun i _=>n-(intOf i).toNat)
  case atStart=>exact⟨0,Nat.zero_le _,rfl,Below.refl _ _,fun j x y h=>by omega⟩
  case round =>
   obtain⟨k,hk,rfl,hbe,hall⟩:=hrel
   have BE:=Lib.hid hbe
   have AL:=Lib.hid hall
   clear hbe hall
   by_cases hlt:k<n
   ·obtain⟨a,hak⟩:∃ a,al[k]?=some a:=⟨_,List.getElem?_eq_getElem (by rw [← LA.out.len,HN.out]; exact hlt)⟩
    obtain⟨b,hbk⟩:∃ b,bl[k]?=some b:=⟨_,List.getElem?_eq_getElem (by rw [← LB.out.len,← HL.out]; exact hlt)⟩
    obtain⟨x,hx,ix⟩:=LA.out.at k a hak
    obtain⟨y,hy,iy⟩:=LB.out.at k b hbk
    obtain⟨p,jx,px⟩:=elN RA.out rfl HN.out hx
    obtain⟨q,jy,py⟩:=elN RB.out rfl HL.out.symm hy
    obtain⟨p0,p1,p2,p3,p4,p5,p6⟩:=px wr BE.out
    have hs1:=HS.out a (List.mem_of_getElem? hak)
    have CC:=fun W' (h:Below w.heap.size w W')=>sameN_any x y a b W' (ix.on h) (iy.on h) hs1
    have HAK:=Lib.hid hak
    have HBK:=Lib.hid hbk
    clear hx hy hak hbk hs1 px ix iy
    obtain⟨x1,x2,x3,x4,⟨xo,xn,xc⟩,x6,x7⟩:=x
    obtain⟨y1,y2,y3,y4,⟨yo,yn,yc⟩,y6,y7⟩:=y
    simp only at p0 p1 p2 p3 p4 p5 p6
    have N1:=newB wr (.cells #[.int .i64 x1,.int .i64 x2,.int .i64 x3,.int .i64 x4,.slice xo xn xc,.int .i64 x6,.bool x7] 43)
    have N2:=newB (wr.alloc (.cells #[.int .i64 x1,.int .i64 x2,.int .i64 x3,.int .i64 x4,.slice xo xn xc,.int .i64 x6,.bool x7] 43)) (.cells #[.int .i64 y1,.int .i64 y2,.int .i64 y3,.int .i64 y4,.slice yo yn yc,.int .i64 y6,.bool y7] 43)
    have BN:=Lib.hid (BE.out.trans ((N1.trans (N2.mono N1.size)).mono BE.out.size))
    obtain⟨q0,q1,q2,q3,q4,q5,q6⟩:=py _ (BE.out.trans (N1.mono BE.out.size))
    have hX:=(box_new wr #[.int .i64 x1,.int .i64 x2,.int .i64 x3,.int .i64 x4,.slice xo xn xc,.int .i64 x6,.bool x7] 43).on N2
    have hY:=box_new (wr.alloc (.cells #[.int .i64 x1,.int .i64 x2,.int .i64 x3,.int .i64 x4,.slice xo xn xc,.int .i64 x6,.bool x7] 43)) #[.int .i64 y1,.int .i64 y2,.int .i64 y3,.int .i64 y4,.slice yo yn yc,.int .i64 y6,.bool y7] 43
    have hsz:(wr.alloc (.cells #[.int .i64 x1,.int .i64 x2,.int .i64 x3,.int .i64 x4,.slice xo xn xc,.int .i64 x6,.bool x7] 43)).heap.size=wr.heap.size+1:=by simp
    rw [hsz] at hY
    obtain⟨ex0,ex1,ex2,ex3,ex4,ex5,ex6⟩:=hX.cs7
    obtain⟨ey0,ey1,ey2,ey3,ey4,ey5,ey6⟩:=hY.cs7
    simp only at q0 q1 q2 q3 q4 q5 q6
    have hw3:IntKind.i64.wrap ((k:Int)+1)=(k:Int)+1:=IntWalk.i64_in _ (by omega)
    have C:=Lib.hid (CC _ BN.out)
    obtain⟨r,hr⟩:∃ r,eqE a b=r:=⟨_,rfl⟩
    rw [hr] at C
    have HR:=Lib.hid hr
    clear CC hr N1 N2 hX hY hsz py
    go_wp2_with fail
    refine C.out.mono ?_
    rintro e w1 ⟨rfl,hb⟩
    have BB:=Lib.hid (BN.out.trans (hb.mono BN.out.size))
    clear hb C p0 p1 p2 p3 p4 p5 p6 q0 q1 q2 q3 q4 q5 q6 ex0 ex1 ex2 ex3 ex4 ex5 ex6 ey0 ey1 ey2 ey3 ey4 ey5 ey6 jx jy
    cases r
    ·have R:=Lib.hid (show sameG eqE al bl=false from sameG_not al bl k a b HAK.out HBK.out HR.out)
     go_wp2
     go_ret
     exact⟨by rw [R.out]; rfl,BB.out⟩
    ·go_wp2
     go_roundw
     case rel=>exact⟨k+1,by omega,by go_num,BB.out,fun j x' y' hj h1 h2=>by
      rcases Nat.lt_or_ge j k with h3|h3
      ·exact AL.out j x' y' h3 h1 h2
      ·obtain rfl:j=k:=by omega
       have e1:=HAK.out
       have e2:=HBK.out
       rw [h1] at e1
       rw [h2] at e2
       rw [Option.some.inj e1,Option.some.inj e2]
       exact HR.out⟩
     case measure=>simp [intOf]; omega
   ·obtain rfl:k=n:=by omega
    have R:=Lib.hid (show sameG eqE al bl=true from sameG_all al bl (by rw [← LA.out.len,← LB.out.len,HN.out]; exact HL.out) (fun j a b h1 h2=>AL.out j a b (by have:=(List.getElem?_eq_some_iff.1 h1).1; have:=HN.out; have:=LA.out.len; omega) h1 h2))
    go_wp2
    go_ret
    exact⟨by rw [R.out]; rfl,BE.out⟩
 ·have R:=Lib.hid (show sameG eqE al bl=false by
   cases h:sameG eqE al bl
   ·rfl
   ·exact absurd ((LA.out.len.trans (sameG_len _ _ h)).trans LB.out.len.symm) hlen)
  have hne:(((l.length:Nat):Int) != ((m.length:Nat):Int))=true:=by simp; omega
  have hne2:(((l.length:Nat):Int) == ((m.length:Nat):Int))=false:=by simp; omega
  clear hlen
  go_enter Tryz.func59,Tryz.ntmps59
  go_wp2
  go_ret
  exact⟨by rw [R.out]; rfl,Below.refl _ _⟩
theorem sameW_any (x y:XOw) (a b:Ow) (w:World) (hx:OwIn w x a) (hy:OwIn w y b) (hl:a.p.length≤1000000):Calls Tryz.prog 62 #[valW x,valW y] w fun e w'=>e=.returned (.bool (eqW a b))∧Below w.heap.size w w':=by
 obtain⟨x1,x2,⟨xo,xn,xc⟩⟩:=x
 obtain⟨y1,y2,⟨yo,yn,yc⟩⟩:=y
 obtain⟨gi,gr⟩:=hx
 obtain⟨ki,kr⟩:=hy
 have ER:eqW a b=((x1 == y1 && x2 == y2) && sameC a.p b.p):=by
  unfold eqW
  rw [← gi,← ki]
  rfl
 rw [ER]
 obtain⟨h0,X,Y⟩:=two_new w #[.int .i64 x1,.int .i64 x2,.slice xo xn xc] #[.int .i64 y1,.int .i64 y2,.slice yo yn yc] 45 45
 have C:=Lib.hid (psame_any _ _ a.p b.p _ (gr.on h0) (kr.on h0) hl)
 obtain⟨cx0,cx1,cx2⟩:=X.cs3
 obtain⟨cy0,cy1,cy2⟩:=Y.cs3
 have B0:=Lib.hid h0
 clear h0 X Y gr kr hl ER gi ki
 obtain⟨r0,hr0⟩:∃ r,(x1 == y1 && x2 == y2)=r:=⟨_,rfl⟩
 have he0:=eqId x1 x2 y1 y2 r0 hr0
 rw [hr0]
 clear hr0
 obtain⟨rs,hrs⟩:∃ r,sameC a.p b.p=r:=⟨_,rfl⟩
 rw [hrs] at C ⊢
 clear hrs
 go_enter Tryz.func62,Tryz.ntmps62
 cases r0
 ·go_wp2_with fail
  go_ret
  exact⟨rfl,B0.out⟩
 ·go_wp2_with fail
  refine C.out.mono ?_
  rintro e w1 ⟨rfl,hb⟩
  have BB:=Lib.hid (B0.out.trans (hb.mono B0.out.size))
  clear hb
  go_wp2
  go_ret
  exact⟨rfl,BB.out⟩
theorem eqfW_any (v u:Sl) (l m:List XOw) (al bl:List Ow) (w:World) (ha:Row EW w (slv v) l) (hb:Row EW w (slv u) m) (hA:All2 (OwIn w) l al) (hB:All2 (OwIn w) m bl) (hs:∀ a∈al,a.p.length≤1000000) :
  Calls Tryz.prog 61 #[slv v,slv u,.func (.func 62) #[] #[]] w fun e w'=>e=.returned (.bool (sameG eqW al bl))∧Below w.heap.size w w':=by
 obtain⟨so,sn,sc⟩:=v
 obtain⟨uo,un,uc⟩:=u
 obtain⟨ao,ac,hv⟩:=ha.len
 have hv:Value.slice so sn sc=.slice ao l.length ac:=hv
 obtain⟨rfl,rfl,rfl⟩:so=ao∧sn=l.length∧sc=ac:=by simpa using hv
 obtain⟨ao,ac,hv2⟩:=hb.len
 have hv2:Value.slice uo un uc=.slice ao m.length ac:=hv2
 obtain⟨rfl,rfl,rfl⟩:uo=ao∧un=m.length∧uc=ac:=by simpa using hv2
 have RA:=Lib.hid ha
 have RB:=Lib.hid hb
 have LA:=Lib.hid hA
 have LB:=Lib.hid hB
 have HS:=Lib.hid hs
 have ma:=ha.most
 unfold maxLen at ma
 clear ha hb hA hB hs hv hv2
 by_cases hlen:l.length=m.length
 ·have HL:=Lib.hid hlen
  rw [← hlen] at RB ⊢
  generalize hn:l.length=n at *
  have HN:=Lib.hid hn
  clear hlen hn
  go_enter Tryz.func61,Tryz.ntmps61
  go_wp2
  go_loopw [17] (fun i wr=>∃ k:Nat,k≤n∧i=.int .i64 k∧Below w.heap.size w wr∧∀ (j:Nat) (x y:Ow),j<k→al[j]?=some x→bl[j]?=some y→eqW x y=true) (fun i _=>n-(intOf i).toNat)
  case atStart=>exact⟨0,Nat.zero_le _,rfl,Below.refl _ _,fun j x y h=>by omega⟩
  case round =>
   obtain⟨k,hk,rfl,hbe,hall⟩:=hrel
   have BE:=Lib.hid hbe
   have AL:=Lib.hid hall
   clear hbe hall
   by_cases hlt:k<n
   ·obtain⟨a,hak⟩:∃ a,al[k]?=some a:=⟨_,List.getElem?_eq_getElem (by rw [← LA.out.len,HN.out]; exact hlt)⟩
    obtain⟨b,hbk⟩:∃ b,bl[k]?=some b:=⟨_,List.getElem?_eq_getElem (by rw [← LB.out.len,← HL.out]; exact hlt)⟩
    obtain⟨x,hx,ix⟩:=LA.out.at k a hak
    obtain⟨y,hy,iy⟩:=LB.out.at k b hbk
    obtain⟨p,jx,px⟩:=elW RA.out rfl HN.out hx
    obtain⟨q,jy,py⟩:=elW RB.out rfl HL.out.symm hy
    obtain⟨p0,p1,p2⟩:=px wr BE.out
    have hs1:=HS.out a (List.mem_of_getElem? hak)
    have CC:=fun W' (h:Below w.heap.size w W')=>sameW_any x y a b W' (ix.on h) (iy.on h) hs1
    have HAK:=Lib.hid hak
    have HBK:=Lib.hid hbk
    clear hx hy hak hbk hs1 px ix iy
    obtain⟨x1,x2,⟨xo,xn,xc⟩⟩:=x
    obtain⟨y1,y2,⟨yo,yn,yc⟩⟩:=y
    simp only at p0 p1 p2
    have N1:=newB wr (.cells #[.int .i64 x1,.int .i64 x2,.slice xo xn xc] 45)
    have N2:=newB (wr.alloc (.cells #[.int .i64 x1,.int .i64 x2,.slice xo xn xc] 45)) (.cells #[.int .i64 y1,.int .i64 y2,.slice yo yn yc] 45)
    have BN:=Lib.hid (BE.out.trans ((N1.trans (N2.mono N1.size)).mono BE.out.size))
    obtain⟨q0,q1,q2⟩:=py _ (BE.out.trans (N1.mono BE.out.size))
    have hX:=(box_new wr #[.int .i64 x1,.int .i64 x2,.slice xo xn xc] 45).on N2
    have hY:=box_new (wr.alloc (.cells #[.int .i64 x1,.int .i64 x2,.slice xo xn xc] 45)) #[.int .i64 y1,.int .i64 y2,.slice yo yn yc] 45
    have hsz:(wr.alloc (.cells #[.int .i64 x1,.int .i64 x2,.slice xo xn xc] 45)).heap.size=wr.heap.size+1:=by simp
    rw [hsz] at hY
    obtain⟨ex0,ex1,ex2⟩:=hX.cs3
    obtain⟨ey0,ey1,ey2⟩:=hY.cs3
    simp only at q0 q1 q2
    have hw3:IntKind.i64.wrap ((k:Int)+1)=(k:Int)+1:=IntWalk.i64_in _ (by omega)
    have C:=Lib.hid (CC _ BN.out)
    obtain⟨r,hr⟩:∃ r,eqW a b=r:=⟨_,rfl⟩
    rw [hr] at C
    have HR:=Lib.hid hr
    clear CC hr N1 N2 hX hY hsz py
    go_wp2_with fail
    refine C.out.mono ?_
    rintro e w1 ⟨rfl,hb⟩
    have BB:=Lib.hid (BN.out.trans (hb.mono BN.out.size))
    clear hb C p0 p1 p2 q0 q1 q2 ex0 ex1 ex2 ey0 ey1 ey2 jx jy
    cases r
    ·have R:=Lib.hid (show sameG eqW al bl=false from sameG_not al bl k a b HAK.out HBK.out HR.out)
     go_wp2
     go_ret
     exact⟨by rw [R.out]; rfl,BB.out⟩
    ·go_wp2
     go_roundw
     case rel=>exact⟨k+1,by omega,by go_num,BB.out,fun j x' y' hj h1 h2=>by
      rcases Nat.lt_or_ge j k with h3|h3
      ·exact AL.out j x' y' h3 h1 h2
      ·obtain rfl:j=k:=by omega
       have e1:=HAK.out
       have e2:=HBK.out
       rw [h1] at e1
       rw [h2] at e2
       rw [Option.some.inj e1,Option.some.inj e2]
       exact HR.out⟩
     case measure=>simp [intOf]; omega
   ·obtain rfl:k=n:=by omega
    have R:=Lib.hid (show sameG eqW al bl=true from sameG_all al bl (by rw [← LA.out.len,← LB.out.len,HN.out]; exact HL.out) (fun j a b h1 h2=>AL.out j a b (by have:=(List.getElem?_eq_some_iff.1 h1).1; have:=HN.out; have:=LA.out.len; omega) h1 h2))
    go_wp2
    go_ret
    exact⟨by rw [R.out]; rfl,BE.out⟩
 ·have R:=Lib.hid (show sameG eqW al bl=false by
   cases h:sameG eqW al bl
   ·rfl
   ·exact absurd ((LA.out.len.trans (sameG_len _ _ h)).trans LB.out.len.symm) hlen)
  have hne:(((l.length:Nat):Int) != ((m.length:Nat):Int))=true:=by simp; omega
  have hne2:(((l.length:Nat):Int) == ((m.length:Nat):Int))=false:=by simp; omega
  clear hlen
  go_enter Tryz.func61,Tryz.ntmps61
  go_wp2
  go_ret
  exact⟨by rw [R.out]; rfl,Below.refl _ _⟩
theorem sameBr_chain (a b:Br):sameBr a b=(a.me == b.me && (sameG eqZ a.near b.near && (sameG eqI a.seen b.seen && (sameG eqD a.adv b.adv && (sameG eqE a.ent b.ent && sameG eqW a.own b.own))))):=by
 rw [Bool.eq_iff_iff,sameBr_iff]
 obtain⟨m,n,d,s,e,o⟩:=a
 obtain⟨m',n',d',s',e',o'⟩:=b
 simp only [Bool.and_eq_true,beq_iff_eq,sameG_iff eqZ_iff,sameG_iff eqI_iff,sameG_iff eqE_iff,sameG_iff eqD_iff,sameG_iff eqW_iff,Br.mk.injEq]
 constructor
 ·rintro⟨h1,h2,h3,h4,h5,h6⟩
  exact⟨h1,h2,h4,h3,h5,h6⟩
 ·rintro⟨h1,h2,h4,h3,h5,h6⟩
  exact⟨h1,h2,h3,h4,h5,h6⟩
theorem asame_any (a b:Br) (nv av sv ev ov nv2 av2 sv2 ev2 ov2:Sl) (w:World) (ha:BrIn w a nv av sv ev ov) (hb:BrIn w b nv2 av2 sv2 ev2 ov2) (fa:Few a) (pa:∀ p,(∃ x∈a.adv,x.p=p)∨(∃ x∈a.ent,x.p=p)∨(∃ x∈a.own,x.p=p)→p.length≤1000000) :
  Calls Tryz.prog 8 #[brv a.me nv av sv ev ov,brv b.me nv2 av2 sv2 ev2 ov2] w fun e w'=>e=.returned (.bool (sameBr a b))∧Below w.heap.size w w':=by
 obtain⟨xn,xnn,xnc⟩:=nv
 obtain⟨xa,xan,xac⟩:=av
 obtain⟨xs,xsn,xsc⟩:=sv
 obtain⟨xe,xen,xec⟩:=ev
 obtain⟨xw,xwn,xwc⟩:=ov
 obtain⟨yn,ynn,ync⟩:=nv2
 obtain⟨ya,yan,yac⟩:=av2
 obtain⟨ys,ysn,ysc⟩:=sv2
 obtain⟨ye,yen,yec⟩:=ev2
 obtain⟨yw,ywn,ywc⟩:=ov2
 rw [sameBr_chain]
 obtain⟨lA,hA1,hA2⟩:=ha.adv
 obtain⟨lB,hB1,hB2⟩:=hb.adv
 obtain⟨mA,iA1,iA2⟩:=ha.ent
 obtain⟨mB,iB1,iB2⟩:=hb.ent
 obtain⟨kA,jA1,jA2⟩:=ha.own
 obtain⟨kB,jB1,jB2⟩:=hb.own
 have C1:=fun W' (h:Below w.heap.size w W')=>eqI_any (.slice xn xnn xnc) (.slice yn ynn ync) a.near b.near W' (ha.near.on h) (hb.near.on h) (by have:=fa.near; omega)
 have C2:=fun W' (h:Below w.heap.size w W')=>eqJ_any (.slice xs xsn xsc) (.slice ys ysn ysc) a.seen b.seen W' (ha.seen.on h) (hb.seen.on h) (by have:=fa.seen; omega)
 have C3:=fun W' (h:Below w.heap.size w W')=>eqfD_any (xa,xan,xac) (ya,yan,yac) lA lB a.adv b.adv W' (hA1.on h) (hB1.on h) (hA2.mono fun _ _ q=>q.on h) (hB2.mono fun _ _ q=>q.on h) (fun x hx=>pa x.p (Or.inl ⟨x,hx,rfl⟩))
 have C4:=fun W' (h:Below w.heap.size w W')=>eqfN_any (xe,xen,xec) (ye,yen,yec) mA mB a.ent b.ent W' (iA1.on h) (iB1.on h) (iA2.mono fun _ _ q=>q.on h) (iB2.mono fun _ _ q=>q.on h) (fun x hx=>pa x.p (Or.inr (Or.inl ⟨x,hx,rfl⟩)))
 have C5:=fun W' (h:Below w.heap.size w W')=>eqfW_any (xw,xwn,xwc) (yw,ywn,ywc) kA kB a.own b.own W' (jA1.on h) (jB1.on h) (jA2.mono fun _ _ q=>q.on h) (jB2.mono fun _ _ q=>q.on h) (fun x hx=>pa x.p (Or.inr (Or.inr ⟨x,hx,rfl⟩)))
 obtain⟨r0,hr0⟩:∃ r,(a.me == b.me)=r:=⟨_,rfl⟩
 generalize sameG eqZ a.near b.near=r1 at *
 generalize sameG eqI a.seen b.seen=r2 at *
 generalize sameG eqD a.adv b.adv=r3 at *
 generalize sameG eqE a.ent b.ent=r4 at *
 generalize sameG eqW a.own b.own=r5 at *
 rw [hr0]
 obtain⟨h0,X,Y⟩:=two_new w #[.int .i64 a.me,.slice xn xnn xnc,.slice xa xan xac,.slice xs xsn xsc,.slice xe xen xec,.slice xw xwn xwc] #[.int .i64 b.me,.slice yn ynn ync,.slice ya yan yac,.slice ys ysn ysc,.slice ye yen yec,.slice yw ywn ywc] 31 31
 have B0:=Lib.hid h0
 have X0:=Lib.hid X
 have Y0:=Lib.hid Y
 have C1:=Lib.hid C1
 have C2:=Lib.hid C2
 have C3:=Lib.hid C3
 have C4:=Lib.hid C4
 have C5:=Lib.hid C5
 obtain⟨cx0,cx1,cx2,cx3,cx4,cx5⟩:=X.cs6
 obtain⟨cy0,cy1,cy2,cy3,cy4,cy5⟩:=Y.cs6
 clear h0 X Y ha hb fa pa hA1 hA2 hB1 hB2 iA1 iA2 iB1 iB2 jA1 jA2 jB1 jB2
 go_enter Tryz.func8,Tryz.ntmps8
 cases r0
 ·go_wp2_with fail
  go_ret
  exact⟨rfl,B0.out⟩
 ·go_wp2_with fail
  generalize (w.alloc (.cells #[.int .i64 a.me,.slice xn xnn xnc,.slice xa xan xac,.slice xs xsn xsc,.slice xe xen xec,.slice xw xwn xwc] 31)).alloc (.cells #[.int .i64 b.me,.slice yn ynn ync,.slice ya yan yac,.slice ys ysn ysc,.slice ye yen yec,.slice yw ywn ywc] 31)=W0 at *
  refine (C1.out _ B0.out).mono ?_
  rintro e1 W1 ⟨rfl,hb⟩
  have B1:=Lib.hid (B0.out.trans (hb.mono B0.out.size))
  have X1:=Lib.hid (X0.out.on hb)
  have Y1:=Lib.hid (Y0.out.on hb)
  clear hb cx0 cx1 cx2 cx3 cx4 cx5 cy0 cy1 cy2 cy3 cy4 cy5
  obtain⟨cx0,cx1,cx2,cx3,cx4,cx5⟩:=X1.out.cs6
  obtain⟨cy0,cy1,cy2,cy3,cy4,cy5⟩:=Y1.out.cs6
  cases r1
  ·go_wp2_with fail
   go_ret
   exact⟨rfl,B1.out⟩
  ·go_wp2_with fail
   refine (C2.out _ B1.out).mono ?_
   rintro e2 W2 ⟨rfl,hb⟩
   have B2:=Lib.hid (B1.out.trans (hb.mono B1.out.size))
   have X2:=Lib.hid (X1.out.on hb)
   have Y2:=Lib.hid (Y1.out.on hb)
   clear hb cx0 cx1 cx2 cx3 cx4 cx5 cy0 cy1 cy2 cy3 cy4 cy5
   obtain⟨cx0,cx1,cx2,cx3,cx4,cx5⟩:=X2.out.cs6
   obtain⟨cy0,cy1,cy2,cy3,cy4,cy5⟩:=Y2.out.cs6
   cases r2
   ·go_wp2_with fail
    go_ret
    exact⟨rfl,B2.out⟩
   ·go_wp2_with fail
    refine (C3.out _ B2.out).mono ?_
    rintro e3 W3 ⟨rfl,hb⟩
    have B3:=Lib.hid (B2.out.trans (hb.mono B2.out.size))
    have X3:=Lib.hid (X2.out.on hb)
    have Y3:=Lib.hid (Y2.out.on hb)
    clear hb cx0 cx1 cx2 cx3 cx4 cx5 cy0 cy1 cy2 cy3 cy4 cy5
    obtain⟨cx0,cx1,cx2,cx3,cx4,cx5⟩:=X3.out.cs6
    obtain⟨cy0,cy1,cy2,cy3,cy4,cy5⟩:=Y3.out.cs6
    cases r3
    ·go_wp2_with fail
     go_ret
     exact⟨rfl,B3.out⟩
    ·go_wp2_with fail
     refine (C4.out _ B3.out).mono ?_
     rintro e4 W4 ⟨rfl,hb⟩
     have B4:=Lib.hid (B3.out.trans (hb.mono B3.out.size))
     have X4:=Lib.hid (X3.out.on hb)
     have Y4:=Lib.hid (Y3.out.on hb)
     clear hb cx0 cx1 cx2 cx3 cx4 cx5 cy0 cy1 cy2 cy3 cy4 cy5
     obtain⟨cx0,cx1,cx2,cx3,cx4,cx5⟩:=X4.out.cs6
     obtain⟨cy0,cy1,cy2,cy3,cy4,cy5⟩:=Y4.out.cs6
     cases r4
     ·go_wp2_with fail
      go_ret
      exact⟨rfl,B4.out⟩
     ·go_wp2_with fail
      refine (C5.out _ B4.out).mono ?_
      rintro e5 W5 ⟨rfl,hb⟩
      have B5:=Lib.hid (B4.out.trans (hb.mono B4.out.size))
      clear hb cx0 cx1 cx2 cx3 cx4 cx5 cy0 cy1 cy2 cy3 cy4 cy5
      go_wp2_with fail
      go_ret
      exact⟨rfl,B5.out⟩
end Go.Proofs.YtncogjpmboglhaaGreat.Av
namespace Go.Proofs.YtncogjpmboglhaaGreat.Av
open Go.RowKit Rw Bk Go.Maps Go.ChangeMaps
end Go.Proofs.YtncogjpmboglhaaGreat.Av
namespace Go.Proofs.YtncogjpmboglhaaGreat.Av
open Go.RowKit Rw YtncogjpmboglhaaGreat.Nm Pr Wr
theorem one_r5 (c:Cn) (h:goodC c=true):oneB (r5 c)=true:=by
 obtain⟨n,k⟩:=c
 unfold goodC at h
 rw [Bool.and_eq_true] at h
 obtain⟨h1,h2⟩:=h
 have h1':At.nameB n=true:=h1
 cases k with
 | rg lo hi =>
  have h3:lo≤hi:=by simpa [goodK] using h2
  have h0:(⟨#[]⟩:ByteArray).size=0:=rfl
  simp [r5,oneB,kN,kLo,kHi,kT,h1',h3,h0]
 | tx t =>
  have h3:t.size≤12:=by simpa [goodK] using h2
  simp [r5,oneB,kN,kLo,kHi,kT,h1',h3]
 | pr t =>
  have h3:t.size<12:=by simpa [goodK] using h2
  have h4:t.size≤11:=by omega
  simp [r5,oneB,kN,kLo,kHi,kT,h1',h4]
theorem rightP_rise (l:List C5) (h1:l.Pairwise fun x y=>Op.bytesLess x.1.toList y.1.toList=true) (h2:l.length≤5) (h3:∀ c∈l,oneB c=true):rightP l=true:=by
 rw [rightP_end l fun j hj=>?_]
 ·simpa using h2
 unfold goodP
 rw [List.getElem?_eq_getElem hj]
 simp only [Bool.and_eq_true]
 refine⟨h3 _ (List.getElem_mem hj),?_⟩
 cases j with
 | zero=>rfl
 | succ j =>
  rw [Bool.or_eq_true]
  right
  rw [Nat.add_sub_cancel,List.getElem?_eq_getElem (by omega)]
  exact List.pairwise_iff_getElem.1 h1 j (j+1) (by omega) hj (by omega)
theorem prd_right5 (has vals:List Int):rightP ((prd has vals 7).map r5)=true:=by
 have h:=prd_nf has vals
 refine rightP_rise _ ?_ (by rw [List.length_map]; exact h.five) fun c hc=>?_
 ·rw [List.pairwise_map]
  exact h.rise
 ·obtain⟨x,hx,rfl⟩:=List.mem_map.1 hc
  exact one_r5 x (h.good x hx)
end Go.Proofs.YtncogjpmboglhaaGreat.Av
namespace Go.Proofs.YtncogjpmboglhaaGreat.Av
open Go.RowKit Go.Sort Rw YtncogjpmboglhaaGreat.Nm Pr Bk
theorem insAt_len {α:Type} (l:List α) (k:Nat) (x:α):(insAt l k x).length=l.length+1:=by
 unfold insAt
 simp only [List.length_append,List.length_cons,List.length_nil,List.length_take,List.length_drop]
 omega
theorem FewP.pa {b:Br} (h:FewP b):∀ p,(∃ x∈b.adv,x.p=p)∨(∃ x∈b.ent,x.p=p)∨(∃ x∈b.own,x.p=p)→p.length≤1000000:=by
 rintro p (⟨x,hx,rfl⟩|⟨x,hx,rfl⟩|⟨x,hx,rfl⟩)
 ·exact Nat.le_trans (h.adv x hx) (by decide)
 ·exact Nat.le_trans (h.ent x hx) (by decide)
 ·exact Nat.le_trans (h.own x hx) (by decide)
theorem same_self (b:Br):sameBr b b=true:=(sameBr_iff b b).2 rfl
end Go.Proofs.YtncogjpmboglhaaGreat.Av
namespace Go.Proofs.YtncogjpmboglhaaGreat.Bk
open Go.RowKit Go.Sort Rw YtncogjpmboglhaaGreat.Nm Pr
theorem app_rowL {α:Type} {E:Ek α} (K:E.Ok) {w:World} (B:Nat) {v x:Value} {l m:List α} (hown:Own E w B v l) (hx:Row E w x m) (hn:l.length≤1000000) (hm:m.length≤1000000) (hB:B≤w.heap.size) (ty:TypeId) :
  ∃ v' w',(Builtin.append_ #[E.ts,E.ts] ty #[v,x]).run Tryz.prog w=.ok v' w'∧Own E w' B v' (l++m)∧w.grownBy w' v.ownBlock:=by
 obtain⟨i,i1,i2,i3,i4⟩:=K.info
 rcases hx with⟨rfl,rfl⟩|⟨ad,c,rfl,h2,h3,h4⟩
 ·exact⟨v,w,run_append_owned_none (P:=Tryz.prog) (w:=w) B E.ts ty E.t i E.n K.hu i1 v _ _ hown,by simpa using hown,grown_refl _ _⟩
 ·have hf:=K.few
  obtain⟨v',w',r1,r2,r3,_⟩:=run_append_own (P:=Tryz.prog) w B E.ts ty E.t i E.z E.n E.bytes K.hu i1 i2 i3 i4 K.zs K.pos v _ _ hown ad m.length c (flat E m) (flat_length K m) h4 (flat_cell K m) (by unfold maxLen; omega)
   (Nat.le_trans (Nat.mul_le_mul (show l.length+m.length≤2000000 by omega) hf) (by decide)) hB
  exact⟨v',w',r1,by rw [Own,List.length_append,flat_append]; exact r2,r3⟩
def uns16V (B:Nat) (_ _:Nat) (me:Int) (o1 o2 o3 o4 o5:Option Addr) (n1 k1 n2 k2 n3 k3 n4 k4 n5 k5:Nat) (so to_:Option Addr) (sn sc tn tc:Nat) (lo ls:List XOu) (_ _ _ _ _ _:Value) (i:Nat) (v:Value) (x:World):Prop :=
 match i with
 | 0=>v=.agg #[.int .i64 me,.slice o1 n1 k1,.slice o2 n2 k2,.slice o3 n3 k3,.slice o4 n4 k4,.slice o5 n5 k5]
 | 1=>OwnU x B v []
 | 2=>v=.slice so sn sc
 | 3=>OwnU x B v lo
 | 4=>v=.slice to_ tn tc
 | 5=>OwnU x B v (lo++ls)
 | _=>True
noncomputable def uns16C:Code:=((Tryz.f33.body.bind (findRegion 16)).getD .skip)
theorem uns16V_on (B:Nat) (b2 b12:Nat) (me:Int) (o1 o2 o3 o4 o5:Option Addr) (n1 k1 n2 k2 n3 k3 n4 k4 n5 k5:Nat) (so to_:Option Addr) (sn sc tn tc:Nat) (lo ls:List XOu) (z0 z1 z2 z3 z4 z5:Value) (i:Nat) (v:Value) (x x':World) (h:uns16V B b2 b12 me o1 o2 o3 o4 o5 n1 k1 n2 k2 n3 k3 n4 k4 n5 k5 so to_ sn sc tn tc lo ls z0 z1 z2 z3 z4 z5 i v x) (hb:Below x.heap.size x x'):uns16V B b2 b12 me o1 o2 o3 o4 o5 n1 k1 n2 k2 n3 k3 n4 k4 n5 k5 so to_ sn sc tn tc lo ls z0 z1 z2 z3 z4 z5 i v x':=by
 by_cases hi:i<6
 ·rcases (by omega:i=0∨i=1∨i=2∨i=3∨i=4∨i=5) with rfl|rfl|rfl|rfl|rfl|rfl
  ·exact h
  ·exact own_on h hb
  ·exact h
  ·exact own_on h hb
  ·exact h
  ·exact own_on h hb
 ·unfold uns16V
  split <;> first | omega | trivial
theorem uns16 (Q:Exit→Act→World→Prop) (W:World) (b2 b12:Nat) (me:Int) (o1 o2 o3 o4 o5:Option Addr) (n1 k1 n2 k2 n3 k3 n4 k4 n5 k5:Nat) (so to_:Option Addr) (sn sc tn tc:Nat) (lo ls:List XOu) (z0 z1 z2 z3 z4 z5:Value) (u0 u1 u3 u4 u5 u6 u7 u8 u10 u11 u14 u15 u16 u17 u18 u19 u20 u21 u22 u23 u24 u25 u26 u27 u28 u29 u30 u31 u32 u33 u34 u35 u36 u37 u38 u39 u40 u41 u42 u43 u44 u45 u46 u47 u48 u49 u50 u51 u52 u53 u54 u55 u56 u57 u58 u59 u60 u61 u62:Value)
  (h2:Box W b2 #[z0,z1,z2,z3,z4,z5] 31) (h12:Box W b12 #[.int .i64 me,.slice o1 n1 k1,.slice o2 n2 k2,.slice o3 n3 k3,.slice o4 n4 k4,.slice o5 n5 k5] 31) (rlo:RowU W (.slice so sn sc) lo) (rls:RowU W (.slice to_ tn tc) ls) (l9:lo.length≤1000000) (s9:ls.length≤1000000)
  (hQ:∀ (x:World) (w9:Value) (v54 v55 v56 v57 v58 v59:Value),Box x b2 #[.int .i64 me,.slice o1 n1 k1,.slice o2 n2 k2,.slice o3 n3 k3,.slice o4 n4 k4,.slice o5 n5 k5] 31→OwnU x W.heap.size w9 (lo++ls)→(∀ j,j<W.heap.size→j≠b2→x.heap[j]?=W.heap[j]?)→(∀ B,B≤b2→Below B W x)→Q .normal ⟨(u0::u1::.pointer (some ⟨b2,0,none⟩)::u3::u4::u5::u6::u7::u8::w9::u10::u11::.pointer (some ⟨b12,0,none⟩)::.slice to_ tn tc::u14::u15::u16::u17::u18::u19::u20::u21::u22::u23::u24::u25::u26::u27::u28::u29::u30::u31::u32::u33::u34::u35::u36::u37::u38::u39::u40::u41::u42::u43::u44::u45::u46::u47::u48::u49::u50::u51::u52::u53::v54::v55::v56::v57::v58::v59::u60::u61::u62::[]).toArray,[]⟩ x) :
  Code.wp Tryz.prog uns16C Q ⟨(u0::u1::.pointer (some ⟨b2,0,none⟩)::u3::u4::u5::u6::u7::u8::.slice so sn sc::u10::u11::.pointer (some ⟨b12,0,none⟩)::.slice to_ tn tc::u14::u15::u16::u17::u18::u19::u20::u21::u22::u23::u24::u25::u26::u27::u28::u29::u30::u31::u32::u33::u34::u35::u36::u37::u38::u39::u40::u41::u42::u43::u44::u45::u46::u47::u48::u49::u50::u51::u52::u53::u54::u55::u56::u57::u58::u59::u60::u61::u62::[]).toArray,[]⟩ W:=by
 have HQ:=Lib.hid hQ
 have H2:=Lib.hid h2
 have H12:=Lib.hid h12
 have RLO:=Lib.hid rlo
 have RLS:=Lib.hid rls
 have LO:=Lib.hid l9
 have LS:=Lib.hid s9
 clear hQ h2 h12 rlo rls l9 s9
 have stab:=uns16V_on W.heap.size b2 b12 me o1 o2 o3 o4 o5 n1 k1 n2 k2 n3 k3 n4 k4 n5 k5 so to_ sn sc tn tc lo ls z0 z1 z2 z3 z4 z5
 unfold uns16C
 conv=>arg 2; whnf
 have nd:∀ j,(∀ i,i<6→[54,55,56,57,58,59].getD i 0≠j)→∀ i,i<6→(fun i=>[54,55,56,57,58,59].getD i 0) i≠j:=fun j h=>h
 refine Rg.region_live 8 6 (fun i=>[54,55,56,57,58,59].getD i 0) (fun i=>if i=1 then 3 else if i=3 then 5 else 6) (uns16V W.heap.size b2 b12 me o1 o2 o3 o4 o5 n1 k1 n2 k2 n3 k3 n4 k4 n5 k5 so to_ sn sc tn tc lo ls z0 z1 z2 z3 z4 z5) (by kernel_rfl) (by kernel_rfl) rfl (by decide) (fun i j hi hj h=>(by decide:∀ i,i<6→∀ j,j<6→[54,55,56,57,58,59].getD i 0=[54,55,56,57,58,59].getD j 0→i=j) i hi j hj h) (fun i hi=>(by decide:∀ i,i<6→[54,55,56,57,58,59].getD i 0<63) i hi) ?_ (fun _=>Rg.hall_of 14 (by kernel_rfl)) ?_ ?_
 ·intro i o hi ho a x D hnd hc hD hb seen K hK
  clear HQ
  rcases (by omega:i=0∨i=1∨i=2∨i=3∨i=4∨i=5) with rfl|rfl|rfl|rfl|rfl|rfl
  ·obtain rfl:=Option.some.inj ho
   have e12:a.eval (.tmp 12)=.pointer (some ⟨b12,0,none⟩):=seen.kp 12 _ (nd 12 (by decide)) rfl
   obtain⟨y0,y1,y2,y3,y4,y5⟩:=(H12.out.on hb).cs6
   exact Rg.op_value rfl rfl (Rg.ex_load a.eval _ 31 (.tmp 12) rfl (by rw [e12]; simp [go_sem,y0,y1,y2,y3,y4,y5])) (hK _ _ rfl (Below.refl _ _) fun _ _ _ _ _ _ _ h=>h)
  ·obtain rfl:=Option.some.inj ho
   have nb:=newB x (.cells #[] 141)
   have hl:=own_less (B':=W.heap.size) hb.size (own_made (E:=EU) x)
   exact Rg.op_value rfl rfl (Rg.ex_build a.eval _ 78 0 #[] rfl rfl (by simp [go_sem])) (hK (.slice (some ⟨x.heap.size,0,none⟩) 0 0) (x.alloc (.cells #[] 141)) hl (nb.mono hb.size) fun j u _ _ _ _ _ h=>stab j u _ _ h nb)
  ·obtain rfl:=Option.some.inj ho
   have e9:a.eval (.tmp 9)=.slice so sn sc:=seen.kp 9 _ (nd 9 (by decide)) rfl
   exact Rg.op_value rfl rfl (Rg.ex_move a.eval _ (.tmp 9) rfl x) (hK _ _ e9 (Below.refl _ _) fun _ _ _ _ _ _ _ h=>h)
  ·obtain rfl:=Option.some.inj ho
   have E55:=seen.at_ ⟨1,.data⟩ (by simp) rfl (Or.inl rfl)
   have e56:a.eval (.tmp 56)=.slice so sn sc:=seen.at_ ⟨2,.data⟩ (by simp) rfl (Or.inr (by decide))
   have o55:OwnU x W.heap.size (a.eval (.tmp 55)) []:=E55
   obtain⟨v',x',r,o',gr⟩:=app_rowL okU W.heap.size o55 (RLO.out.on hb) (by simp) LO.out hb.size 78
   have o'':OwnU x' W.heap.size v' lo:=by simpa using o'
   exact Rg.op_value rfl rfl (Rg.ex_append a.eval _ (.tmp 55) (.tmp 56) 78 rfl rfl e56 r) (hK v' x' o'' ((Below.refl _ x).grown gr hb.size fun j hj=>(o55.lt j hj).1) fun j u hj dj nl nx ni h=>by
    rcases (by omega:j=0∨j=1∨j=2∨j=3∨j=4∨j=5) with rfl|rfl|rfl|rfl|rfl|rfl
    ·exact h
    ·exact absurd rfl nx
    ·exact h
    ·exact absurd rfl ni
    ·exact h
    ·exact absurd (hc 5 _ dj rfl ⟨3,.data⟩ (by simp) rfl) hnd)
  ·obtain rfl:=Option.some.inj ho
   have e13:a.eval (.tmp 13)=.slice to_ tn tc:=seen.kp 13 _ (nd 13 (by decide)) rfl
   exact Rg.op_value rfl rfl (Rg.ex_move a.eval _ (.tmp 13) rfl x) (hK _ _ e13 (Below.refl _ _) fun _ _ _ _ _ _ _ h=>h)
  ·obtain rfl:=Option.some.inj ho
   have E57:=seen.at_ ⟨3,.data⟩ (by simp) rfl (Or.inl rfl)
   have e58:a.eval (.tmp 58)=.slice to_ tn tc:=seen.at_ ⟨4,.data⟩ (by simp) rfl (Or.inr (by decide))
   have o57:OwnU x W.heap.size (a.eval (.tmp 57)) lo:=E57
   obtain⟨v',x',r,o',gr⟩:=app_rowL okU W.heap.size o57 (RLS.out.on hb) LO.out LS.out hb.size 78
   have d3:D 3:=hD ⟨3,.data⟩ (by simp) rfl
   exact Rg.op_value rfl rfl (Rg.ex_append a.eval _ (.tmp 57) (.tmp 58) 78 rfl rfl e58 r) (hK v' x' o' ((Below.refl _ x).grown gr hb.size fun j hj=>(o57.lt j hj).1) fun j u hj dj nl nx ni h=>by
    rcases (by omega:j=0∨j=1∨j=2∨j=3∨j=4∨j=5) with rfl|rfl|rfl|rfl|rfl|rfl
    ·exact h
    ·exact absurd d3 nl
    ·exact h
    ·exact absurd rfl nx
    ·exact h
    ·exact absurd rfl ni)
 ·intro kk o h1 h2 ho
  rcases (by omega:kk=7) with rfl
  ·obtain rfl:=Option.some.inj ho
   exact⟨⟨6,.chain⟩,by simp,rfl,rfl⟩
 ·intro a w' df sz kp ⟨vs,hv⟩ hb
  have sz':a.tmps.size=63:=sz
  have g2:a.tmps[2]?=some (.pointer (some ⟨b2,0,none⟩)):=(kp 2 (nd 2 (by decide))).trans rfl
  have g54:a.tmps[54]?=some (.agg #[.int .i64 me,.slice o1 n1 k1,.slice o2 n2 k2,.slice o3 n3 k3,.slice o4 n4 k4,.slice o5 n5 k5]):=by
   have h:vs 0=.agg #[.int .i64 me,.slice o1 n1 k1,.slice o2 n2 k2,.slice o3 n3 k3,.slice o4 n4 k4,.slice o5 n5 k5]:=(hv 0 (by omega)).2 (by decide)
   rw [← h]
   exact (hv 0 (by omega)).1
  have g59:a.tmps[59]?=some (vs 5):=(hv 5 (by omega)).1
  have G59:=(hv 5 (by omega)).2 (by decide)
  have o59:OwnU w' W.heap.size (vs 5) (lo++ls):=G59
  generalize vs 5=v' at *
  have H2x:=H2.out.on hb
  have lt2:=H2.out.lt
  show Rg.SeqFrom _ _ _ 2 6 a w'
  simp only [Rg.SeqFrom]
  refine Rg.op_store 31 (.tmp 2) (.tmp 54) rfl rfl rfl rfl (Rg.eval_some g2) (Rg.eval_some g54) (w':=setB w' b2 (.int .i64 me) (.slice o1 n1 k1) (.slice o2 n2 k2) (.slice o3 n3 k3) (.slice o4 n4 k4) (.slice o5 n5 k5)) (storeBr H2x me _ _ _ _ _ _ _ _ _ _ _ _ _ _ _) ?_
  refine Rg.op_value rfl rfl (Rg.ex_assign a.eval _ (.tmp 59) rfl _) ?_
  show Q .normal (a.put (some 9) (a.eval (.tmp 59))) _
  rw [Rg.eval_some g59]
  have hx:=setB_box H2x (.int .i64 me) (.slice o1 n1 k1) (.slice o2 n2 k2) (.slice o3 n3 k3) (.slice o4 n4 k4) (.slice o5 n5 k5)
  have ho:=setB_ownA o59 b2 lt2 (.int .i64 me) (.slice o1 n1 k1) (.slice o2 n2 k2) (.slice o3 n3 k3) (.slice o4 n4 k4) (.slice o5 n5 k5)
  have hk:∀ j,j<W.heap.size→j≠b2→(setB w' b2 (.int .i64 me) (.slice o1 n1 k1) (.slice o2 n2 k2) (.slice o3 n3 k3) (.slice o4 n4 k4) (.slice o5 n5 k5)).heap[j]?=W.heap[j]?:=fun j hj hne=>(setB_heap w' b2 (.int .i64 me) (.slice o1 n1 k1) (.slice o2 n2 k2) (.slice o3 n3 k3) (.slice o4 n4 k4) (.slice o5 n5 k5) j hne).trans (hb.block j hj)
  have hbl:∀ B,B≤b2→Below B W (setB w' b2 (.int .i64 me) (.slice o1 n1 k1) (.slice o2 n2 k2) (.slice o3 n3 k3) (.slice o4 n4 k4) (.slice o5 n5 k5)):=fun B hB=>setB_below (hb.mono (Nat.le_of_lt (Nat.lt_of_le_of_lt hB lt2))) hB _ _ _ _ _ _
  obtain⟨sa,sc2,hsv⟩:=(Row.of_own ho).len
  generalize setB w' b2 (.int .i64 me) (.slice o1 n1 k1) (.slice o2 n2 k2) (.slice o3 n3 k3) (.slice o4 n4 k4) (.slice o5 n5 k5)=x2 at *
  have ka:∀ j,j≠9→(a.put (some 9) v').tmps[j]?=a.tmps[j]?:=fun j h1=>by rw [Rg.get_put _ _ _ _ (by omega)]
  have kt:(a.put (some 9) v').tmps[9]?=some (v'):=by simp [Act.put,sz']
  have kp2:∀ j,(j<54∨60≤j)→(a.put (some 9) v').tmps[j]?=(u0::u1::.pointer (some ⟨b2,0,none⟩)::u3::u4::u5::u6::u7::u8::v'::u10::u11::.pointer (some ⟨b12,0,none⟩)::.slice to_ tn tc::u14::u15::u16::u17::u18::u19::u20::u21::u22::u23::u24::u25::u26::u27::u28::u29::u30::u31::u32::u33::u34::u35::u36::u37::u38::u39::u40::u41::u42::u43::u44::u45::u46::u47::u48::u49::u50::u51::u52::u53::u54::u55::u56::u57::u58::u59::u60::u61::u62::[])[j]?:=fun j hj=>by
   by_cases hj2:j=9
   ·subst hj2
    exact kt
   ·have hs:(u0::u1::.pointer (some ⟨b2,0,none⟩)::u3::u4::u5::u6::u7::u8::v'::u10::u11::.pointer (some ⟨b12,0,none⟩)::.slice to_ tn tc::u14::u15::u16::u17::u18::u19::u20::u21::u22::u23::u24::u25::u26::u27::u28::u29::u30::u31::u32::u33::u34::u35::u36::u37::u38::u39::u40::u41::u42::u43::u44::u45::u46::u47::u48::u49::u50::u51::u52::u53::u54::u55::u56::u57::u58::u59::u60::u61::u62::[]:List Value)=(u0::u1::.pointer (some ⟨b2,0,none⟩)::u3::u4::u5::u6::u7::u8::.slice so sn sc::u10::u11::.pointer (some ⟨b12,0,none⟩)::.slice to_ tn tc::u14::u15::u16::u17::u18::u19::u20::u21::u22::u23::u24::u25::u26::u27::u28::u29::u30::u31::u32::u33::u34::u35::u36::u37::u38::u39::u40::u41::u42::u43::u44::u45::u46::u47::u48::u49::u50::u51::u52::u53::u54::u55::u56::u57::u58::u59::u60::u61::u62::[]).set 9 (v'):=rfl
    rw [hs,List.getElem?_set_ne (Ne.symm hj2)]
    exact (ka j hj2).trans ((kp j (nd j fun i hi h=>by have:=(by decide:∀ i,i<6→54≤[54,55,56,57,58,59].getD i 0∧[54,55,56,57,58,59].getD i 0<60) i hi; omega)).trans List.getElem?_toArray)
  obtain⟨mid,hmid,hfr⟩:=Rg.frame_mid (a:=a.put (some 9) v') 54 6 (by simp [Act.put,df]) (by simp [Act.put,sz']) (by simp) kp2
  rw [hfr]
  match mid,hmid with
  | [v54,v55,v56,v57,v58,v59],_ =>
   exact HQ.out x2 _ _ _ _ _ _ _ hx ho hk hbl
theorem takeK_all {t:Id} {m:List En} (R:En→Prop) (hR:∀ e,e.tree=t→R e→R (upE e)) (h:∀ e∈m,R e):∀ k,(∀ e∈(takeK t m k).1,R e)∧∀ e∈(takeK t m k).2,R e
 | 0=>⟨h,fun e he=>by simp [takeK] at he⟩
 | k+1=>by
  have ih:=takeK_all (t:=t) R hR h k
  rw [takeK_succ]
  unfold takeStep
  split
  ·exact ih
  ·rename_i e he
   split
   ·rename_i hcond
    have hu:=hR e hcond.1 (ih.1 e (List.mem_of_getElem? he))
    refine⟨fun x hx=>?_,fun x hx=>?_⟩
    ·rcases List.mem_or_eq_of_mem_set hx with h1|h1
     ·exact ih.1 x h1
     ·rw [h1]
      exact hu
    ·rcases List.mem_append.1 hx with h1|h1
     ·exact ih.2 x h1
     ·rw [List.mem_singleton.1 h1]
      exact hu
   ·exact ih
theorem mem_cut {α:Type} {l:List α} {k:Nat} {x:α} (h:x∈cutAt l k):x∈l:=by
 rcases List.mem_append.1 h with h|h
 ·exact List.mem_of_mem_take h
 ·exact List.mem_of_mem_drop h
theorem takeB_all {b:Br} (t x:Id) (f:Int) (R:En→Prop) (hR:∀ e,e.tree=t→R e→R (upE e)) (h:∀ e∈b.ent,R e):(∀ e∈(takeB b t x f).1.ent,R e)∧∀ e∈(takeB b t x f).2.1,R e:=by
 unfold takeB
 split
 ·exact⟨h,fun e he=>by simp at he⟩
 ·split
  ·exact⟨h,fun e he=>by simp at he⟩
  ·split
   ·exact⟨h,fun e he=>by simp at he⟩
   ·split
    ·exact⟨fun e he=>h e (mem_cut he),fun e he=>by simp at he⟩
    ·exact takeK_all R hR (fun e he=>h e (mem_cut he)) _
theorem dropB_len (b:Br) (t x:Id) (f:Int):(dropB b t x f).2.length≤b.ent.length+1:=by
 unfold dropB
 have h:=(takeB_len b t x f).2
 split
 ·simp
 ·split
  ·simp
  ·rw [List.length_append,List.length_map]
   simp
   omega
def unsubStep (x:Id) (s:Br×List Ou) (t:Id):Br×List Ou:=((dropB s.1 t x (-1)).1,s.2++(dropB s.1 t x (-1)).2)
def ownBut (b:Br) (x:Id):List Ow:=b.own.filter fun o=>decide (o.id≠x)
def unsubK (b:Br) (x:Id) (k:Nat):Br×List Ou:=((b.adv.map Ad.id).take k).foldl (unsubStep x) ({ b with own:=ownBut b x },[])
def unsubsB (b:Br) (x:Id):Br×List Ou:=if (ownBut b x).length=b.own.length then (b,[]) else unsubK b x b.adv.length
theorem unsubK_succ (b:Br) (x:Id) {k:Nat} {a:Ad} (h:b.adv[k]?=some a):unsubK b x (k+1)=unsubStep x (unsubK b x k) a.id:=by
 unfold unsubK
 rw [List.take_add_one,List.getElem?_map,h,List.foldl_append]
 rfl
structure UnI (b0 b:Br) (o:List Ow):Prop where
 me:b.me=b0.me
 near:b.near=b0.near
 adv:b.adv=b0.adv
 seen:b.seen=b0.seen
 own:b.own=o
 len:b.ent.length≤b0.ent.length
theorem UnI.drop {b0 b:Br} {o:List Ow} (h:UnI b0 b o) (t x:Id) (f:Int):UnI b0 (dropB b t x f).1 o:=by
 rw [dropB_near]
 obtain⟨h1,h2,h3,h4,h5⟩:=takeB_adv b t x f
 exact⟨h3.trans h.me,h2.trans h.near,h1.trans h.adv,h4.trans h.seen,h5.trans h.own,Nat.le_trans (takeB_len b t x f).1 h.len⟩
theorem unsubK_ok (b:Br) (x:Id):∀ k,k≤b.adv.length→UnI b (unsubK b x k).1 (ownBut b x)∧(unsubK b x k).2.length≤k * (b.ent.length+1)
 | 0,_=>⟨⟨rfl,rfl,rfl,rfl,rfl,Nat.le_refl _⟩,by simp [unsubK]⟩
 | k+1,hk=>by
  obtain⟨a,ha⟩:∃ a,b.adv[k]?=some a:=⟨_,List.getElem?_eq_getElem hk⟩
  obtain⟨h1,h2⟩:=unsubK_ok b x k (by omega)
  rw [unsubK_succ b x ha]
  refine⟨h1.drop _ _ _,?_⟩
  show ((unsubK b x k).2++(dropB (unsubK b x k).1 a.id x (-1)).2).length≤_
  have h3:=dropB_len (unsubK b x k).1 a.id x (-1)
  have h4:=h1.len
  rw [List.length_append,Nat.add_mul]
  omega
theorem unsubK_all (b:Br) (x:Id) (R:En→Prop) (hR:∀ e,R e→R (upE e)) (h:∀ e∈b.ent,R e):∀ k,k≤b.adv.length→∀ e∈(unsubK b x k).1.ent,R e
 | 0,_=>h
 | k+1,hk=>by
  obtain⟨a,ha⟩:∃ a,b.adv[k]?=some a:=⟨_,List.getElem?_eq_getElem hk⟩
  rw [unsubK_succ b x ha]
  show ∀ e∈(dropB _ _ _ _).1.ent,R e
  rw [dropB_near]
  exact (takeB_all _ _ _ R (fun e _=>hR e) (unsubK_all b x R hR h k (by omega))).1
theorem ous_keep {W W':World} {k:Nat} {me:Int} {s1 s2 s3 s4 s5:Sl} {l:List XOu} {m:List Ou} (h:All2 (OuIn W) l m) (hb:Box W k (brcells me s1 s2 s3 s4 s5) 31) (hk:∀ j,j<W.heap.size→j≠k→W'.heap[j]?=W.heap[j]?):All2 (OuIn W') l m :=
 h.mono fun _ _ hx=>⟨hx.1,hx.2.1,hx.2.2.1,hx.2.2.2.1,row_keep okC hx.2.2.2.2.1 hk (no_text hb (br_text me s1 s2 s3 s4 s5)),hx.2.2.2.2.2⟩
def keepW (x:Id) (o:XOw):Bool:=decide ((o.1,o.2.1)≠x)
theorem runsubs_any (b:Br) (nv av sv ev ov:Sl) (x:Id) (w:World) (h:BrIn w b nv av sv ev ov) (l2:b.adv.length≤900) (l3:b.ent.length≤900) (l4:b.own.length≤900) (hok:∀ e∈b.ent,PredOk e.p) (hkn:∀ e∈b.ent,e.tree∈b.adv.map Ad.id) :
  Calls Tryz.prog 33 #[brv b.me nv av sv ev ov,idv x] w fun e w'=>(∃ ev' ov' lo:Sl,e=.returned (.tuple #[brv b.me nv av sv ev' ov',slv lo])∧BrIn w' (unsubsB b x).1 nv av sv ev' ov'∧OutsIn w' lo (unsubsB b x).2)∧Below w.heap.size w w':=by
 obtain⟨no,nn,nc⟩:=nv
 obtain⟨ao,an,ac⟩:=av
 obtain⟨so,sn,sc⟩:=sv
 obtain⟨eo,en,ec⟩:=ev
 obtain⟨oo,on_,oc⟩:=ov
 obtain⟨c,d⟩:=x
 obtain⟨ws,hw1,hw2⟩:=h.own
 obtain⟨q1,q2,hq⟩:=hw1.len
 obtain⟨rfl,rfl,rfl⟩:oo=q1∧on_=ws.length∧oc=q2:=by
  have:Value.slice oo on_ oc=.slice q1 ws.length q2:=hq
  simpa using this
 have HH:=Lib.hid h
 have L2:=Lib.hid l2
 have L3:=Lib.hid l3
 have WL:=Lib.hid (show ws.length≤900 from by rw [hw2.len]; exact l4)
 have HW2:=Lib.hid hw2
 have OK:=Lib.hid hok
 have KN:=Lib.hid hkn
 obtain⟨on_,hon⟩:∃ n,n=ws.length:=⟨_,rfl⟩
 simp only [← hon] at HH hw1 ⊢
 have N5:=Lib.hid hon
 obtain⟨h0,h1,h2,h3⟩:=three_new w #[.int .i64 b.me,.slice no nn nc,.slice ao an ac,.slice so sn sc,.slice eo en ec,.slice oo on_ oc] #[.int .i64 c,.int .i64 d] #[.int .i64 0,.slice none 0 0,.slice none 0 0,.slice none 0 0,.slice none 0 0,.slice none 0 0] 31 38 31
 obtain⟨me,hme⟩:∃ me,me=b.me:=⟨_,rfl⟩
 simp only [← hme] at h0 h1 h2 h3 ⊢
 have GB_1:=Lib.hid (h0)
 have X2_2:=Lib.hid (h1)
 have X3_3:=Lib.hid (h2)
 have X4_4:=Lib.hid (h3)
 have HW_5:=Lib.hid (hw1.on h0)
 have ME:=Lib.hid hme
 clear h0 h1 h2 h3 h l2 l3 l4 hme hok hkn hw1 hw2 hq hon
 show Calls Tryz.prog 33 #[.agg #[.int .i64 me,.slice no nn nc,.slice ao an ac,.slice so sn sc,.slice eo en ec,.slice oo on_ oc],.agg #[.int .i64 c,.int .i64 d]] w _
 go_enter Tryz.func33,Tryz.ntmps33
 go_upto_region 1 with fail
 generalize (((w.alloc (.cells #[.int .i64 me,.slice no nn nc,.slice ao an ac,.slice so sn sc,.slice eo en ec,.slice oo on_ oc] 31)).alloc (.cells #[.int .i64 c,.int .i64 d] 38)).alloc (.cells #[.int .i64 0,.slice none 0 0,.slice none 0 0,.slice none 0 0,.slice none 0 0,.slice none 0 0] 31))=W at *
 have W4:=Lib.hid (show w.heap.size+3≤W.heap.size from by have:=X4_4.out.lt; omega)
 obtain⟨x0,x1,x2,x3,x4,x5⟩:=X2_2.out.cs6
 go_wp2_with fail
 clear x0 x1 x2 x3 x4 x5
 go_loopw [6,17] (fun v i wr=>∃ q:Nat,q≤on_∧i=.int .i64 q∧Below W.heap.size W wr∧OwnW wr W.heap.size v ((ws.take q).filter (keepW (c,d)))) (fun _ i _=>on_-(intOf i).toNat)
 case atStart=>exact⟨0,Nat.zero_le _,rfl,Below.refl _ _,own_nil _ _⟩
 case round =>
  obtain⟨q,hq,rfl,hbe,hown⟩:=hrel
  have BE:=Lib.hid hbe
  have OE:=Lib.hid hown
  clear hbe hown
  have l9:on_≤900:=by rw [N5.out]; exact WL.out
  by_cases hlt:q<on_
  ·have hlt':(q:Int)<(on_:Int):=by omega
   have hw:IntKind.i64.wrap ((q:Int)+1)=(q:Int)+1:=IntWalk.i64_in _ (by omega)
   obtain⟨z,hz⟩:∃ z,ws[q]?=some z:=⟨_,List.getElem?_eq_getElem (by rw [← N5.out]; exact hlt)⟩
   obtain⟨p,ix,px⟩:=elW HW_5.out rfl N5.out.symm hz
   obtain⟨p0,p1,p2⟩:=px wr BE.out
   have FS:=Lib.hid (fil_snoc ws q z (keepW (c,d)) hz)
   obtain⟨y1,y2,⟨yo,yn,yc⟩⟩:=z
   simp only at p0 p1 p2
   clear px hz
   go_upto_region 5 with fail
   clear p0 p1 p2 ix
   have NN:=newB wr (.cells #[.int .i64 y1,.int .i64 y2,.slice yo yn yc] 45)
   have XE:=Lib.hid (box_new wr #[.int .i64 y1,.int .i64 y2,.slice yo yn yc] 45)
   have BE2:=Lib.hid (BE.out.trans (NN.mono BE.out.size))
   have OE2:=Lib.hid (own_on OE.out NN)
   clear BE OE NN
   generalize wr.alloc (.cells #[.int .i64 y1,.int .i64 y2,.slice yo yn yc] 45)=wa at *
   obtain⟨e0_,e1_,e2_⟩:=XE.out.cs3
   have y0:=(X3_3.out.on BE2.out).cell 0
   have y1_:=(X3_3.out.on BE2.out).cell 1
   simp only [List.getElem?_toArray,List.getElem?_cons_zero,List.getElem?_cons_succ] at y0 y1_
   obtain⟨r,hr⟩:∃ r,(!(y1 == c && y2 == d))=r:=⟨_,rfl⟩
   have he:=neId y1 y2 c d r hr
   have KW:=Lib.hid (show keepW (c,d) (y1,y2,(yo,yn,yc))=r by
    rw [← hr]
    unfold keepW
    by_cases h1:y1=c <;> by_cases h2:y2=d <;> simp [h1,h2])
   clear hr
   cases r
   ·go_wp2_with fail
    go_roundw
    case rel=>exact⟨q+1,hlt,by go_num,BE2.out,by rw [FS.out,KW.out]; simpa using OE2.out⟩
    case measure=>simp [intOf]; omega
   ·have hl:=row_lit okW wa [((y1,y2,(yo,yn,yc)):XOw)] 1 rfl (by simp) #[.int .i64 y1,.int .i64 y2,.slice yo yn yc] (by rfl)
    have NB:=newB wa (.cells #[.int .i64 y1,.int .i64 y2,.slice yo yn yc] 45)
    obtain⟨v',x5,q2,o2,g2⟩:=app_row okW W.heap.size (own_on OE2.out NB) (Row.of_own hl) (by have h1:=List.length_filter_le (keepW (c,d)) (ws.take q); rw [List.length_take] at h1; omega) (by simp) (Nat.le_trans BE2.out.size NB.size) 29
    have q2:(Builtin.append_ #[29,29] 29 #[u6,.slice (some ⟨wa.heap.size,0,none⟩) 1 1]).run Tryz.prog (wa.alloc (.cells #[.int .i64 y1,.int .i64 y2,.slice yo yn yc] 45))=.ok v' x5:=q2
    have BX:=Lib.hid ((BE2.out.trans (NB.mono BE2.out.size)).grown g2 (Nat.le_trans BE2.out.size NB.size) (fun j hj=>((own_on OE2.out NB).lt j hj).1))
    have O2:=Lib.hid o2
    clear hl NB o2 g2
    go_wp2_with (first | (at_builtin; refine wpList_append_run rfl _ _ 29 rfl rfl rfl q2 ?_) | fail)
    go_roundw
    case rel=>exact⟨q+1,hlt,by go_num,BX.out,by rw [FS.out,KW.out]; simpa using O2.out⟩
    case measure=>simp [intOf]; omega
  ·obtain rfl:on_=q:=by omega
   have et:ws.take on_=ws:=List.take_of_length_le (by have:=N5.out; omega)
   rw [et] at OE
   clear et
   have FI:=Lib.hid (show All2 (OwIn w) (ws.filter (keepW (c,d))) (ownBut b (c,d)) from HW2.out.fil _ _ fun a b h=>by unfold keepW; rw [h.1])
   generalize ws.filter (keepW (c,d))=ls at *
   obtain⟨la,lc,hlv⟩:=(Row.of_own OE.out).len
   obtain⟨ln,hln⟩:∃ n,n=ls.length:=⟨_,rfl⟩
   rw [← hln] at hlv
   subst hlv
   have LN:=Lib.hid hln
   clear hln
   have LE:=Lib.hid (show (ownBut b (c,d)).length=ln from by rw [LN.out,FI.out.len])
   have LO:=Lib.hid (show b.own.length=on_ from by rw [← HW2.out.len,N5.out])
   have GB_6:=Lib.hid (GB_1.out.trans (BE.out.mono GB_1.out.size))
   have X2_6:=Lib.hid (X2_2.out.on BE.out)
   have X3_6:=Lib.hid (X3_3.out.on BE.out)
   have X4_6:=Lib.hid (X4_4.out.on BE.out)
   have HW_6:=Lib.hid (HW_5.out.on BE.out)
   clear GB_1 X2_2 X3_3 X4_4 HW_5
   obtain⟨x0,x1,x2,x3,x4,x5⟩:=X2_6.out.cs6
   by_cases hll:ln=on_
   ·have hq1:((ln:Int) == (on_:Int))=true:=by simp [hll]
    have HI:=Lib.hid (HH.out.on GB_6.out)
    obtain⟨r0,r1,r2,r3,r4,r5⟩:=X4_6.out.cs6
    obtain⟨rf0,rf1,rf2,rf3,rf4,rf5⟩:=X4_6.out.fs6
    have zz:=X4_6.out.lt
    have GG:=Lib.hid (setB_box X4_6.out (.int .i64 me) (.slice no nn nc) (.slice ao an ac) (.slice so sn sc) (.slice eo en ec) (.slice oo on_ oc))
    have BL:=Lib.hid (setB_below (b:=w.heap.size+1+1) GB_6.out (by omega) (.int .i64 me) (.slice no nn nc) (.slice ao an ac) (.slice so sn sc) (.slice eo en ec) (.slice oo on_ oc))
    have HK:=Lib.hid (fun j (_:j<wr.heap.size) (hj:j≠w.heap.size+1+1)=>setB_heap wr (w.heap.size+1+1) (.int .i64 me) (.slice no nn nc) (.slice ao an ac) (.slice so sn sc) (.slice eo en ec) (.slice oo on_ oc) j hj)
    have HC:=Lib.hid (brin_keep (s1:=(none,0,0)) (s2:=(none,0,0)) (s3:=(none,0,0)) (s4:=(none,0,0)) (s5:=(none,0,0)) HI.out X4_6.out HK.out (HH.out.near.on BL.out))
    go_wp2_with fail
    obtain⟨v0,v1,v2,v3,v4,v5⟩:=GG.out.cs6
    refine bodyPost_ret (v:=.tuple #[.agg #[.int .i64 me,.slice no nn nc,.slice ao an ac,.slice so sn sc,.slice eo en ec,.slice oo on_ oc],.slice none 0 0]) (by simp [results,Tryz.results33,go_sem,v0,v1,v2,v3,v4,v5]) rfl ?_
    have hd:unsubsB b (c,d)=(b,[]):=by unfold unsubsB; rw [if_pos (by rw [LE.out,LO.out]; exact hll)]
    rw [hd]
    exact⟨⟨(eo,en,ec),(oo,on_,oc),(none,0,0),rfl,HC.out,outs_nil _⟩,BL.out⟩
   ·have hq1:((ln:Int) == (on_:Int))=false:=by simp; omega
    have DB:=Lib.hid (show unsubsB b (c,d)=unsubK b (c,d) b.adv.length from by unfold unsubsB; rw [if_neg (by rw [LE.out,LO.out]; exact hll)])
    have f5:=X2_6.out.fr 5
    have zz:=X2_6.out.lt
    go_upto_region 11 with fail
    clear x0 x1 x2 x3 x4 x5
    have B2:=Lib.hid (GB_6.out.setCell (p:=⟨w.heap.size,5,none⟩) (Nat.le_refl _) (.slice la ln lc))
    have X2b:=box_set (k:=5) X2_6.out (.slice la ln lc)
    simp only [List.setIfInBounds_toArray,List.set_cons_zero,List.set_cons_succ] at X2b
    have X3b:Box _ _ _ _:=(RowKit.Below.heap_setCell wr ⟨w.heap.size,5,none⟩ (.slice la ln lc) _ (show w.heap.size+1≠w.heap.size by omega)).trans X3_6.out
    have X4b:Box _ _ _ _:=(RowKit.Below.heap_setCell wr ⟨w.heap.size,5,none⟩ (.slice la ln lc) _ (show w.heap.size+1+1≠w.heap.size by omega)).trans X4_6.out
    have OL:=Lib.hid (own_cell OE.out w.heap.size 5 (.slice la ln lc) (by have:=W4.out; omega))
    have BS:=Lib.hid (show BrIn _ { b with own:=ownBut b (c,d) } (no,nn,nc) (ao,an,ac) (so,sn,sc) (eo,en,ec) (la,ln,lc) from ⟨HH.out.near.on B2.out,(HH.out.on B2.out).adv,(HH.out.on B2.out).seen,(HH.out.on B2.out).ent,⟨ls,Row.of_own OL.out,FI.out.mono fun _ _ h=>h.on B2.out⟩⟩)
    clear zz f5 OL OE BE GB_6 X2_6 X3_6 X4_6 HW_6
    generalize wr.setCell ⟨w.heap.size,5,none⟩ (.slice la ln lc)=w2 at *
    have GB_7:=Lib.hid (B2.out)
    have X2_8:=Lib.hid (X2b)
    have X3_9:=Lib.hid (X3b)
    have X4_10:=Lib.hid (X4b)
    clear B2 X2b X3b X4b
    obtain⟨ad0,ha1,ha2⟩:=BS.out.adv
    obtain⟨q1,q2,hqv⟩:=ha1.len
    obtain rfl:an=b.adv.length:=by have h1:(Value.slice ao an ac)=.slice q1 ad0.length q2:=hqv; have h2:an=ad0.length:=(by simpa using congrArg (fun v=>match v with|Value.slice _ n _=>n|_=>0) h1); rw [h2,ha2.len]
    clear hqv ha1 ha2
    obtain⟨an,han⟩:∃ n,n=b.adv.length:=⟨_,rfl⟩
    have AN:=Lib.hid (show b.adv.length≤900 from L2.out)
    obtain⟨x0,x1,x2,x3,x4,x5⟩:=X2_8.out.cs6
    go_wp2_with fail
    clear x0 x1 x2 x3 x4 x5
    go_loopw [9,42] (fun v i wr=>∃ (k:Nat) (ea:Option Addr) (en2 ec2:Nat) (ta:Option Addr) (tn tc:Nat),k≤b.adv.length∧i=.int .i64 k∧v=.slice ta tn tc∧Below w.heap.size w wr∧Box wr w.heap.size #[.int .i64 me,.slice no nn nc,.slice ao b.adv.length ac,.slice so sn sc,.slice ea en2 ec2,.slice la ln lc] 31∧Box wr (w.heap.size+1) #[.int .i64 c,.int .i64 d] 38∧Box wr (w.heap.size+1+1) #[.int .i64 0,.slice none 0 0,.slice none 0 0,.slice none 0 0,.slice none 0 0,.slice none 0 0] 31∧BrIn wr (unsubK b (c,d) k).1 (no,nn,nc) (ao,b.adv.length,ac) (so,sn,sc) (ea,en2,ec2) (la,ln,lc)∧OutsIn wr (ta,tn,tc) (unsubK b (c,d) k).2) (fun _ i _=>b.adv.length-(intOf i).toNat)
    case atStart=>exact⟨0,eo,en,ec,none,0,0,Nat.zero_le _,rfl,rfl,GB_7.out,X2_8.out,X3_9.out,X4_10.out,BS.out,outs_nil _⟩
    case round =>
     clear BS GB_7 X2_8 X3_9 X4_10
     obtain⟨k,ea,en2,ec2,ta,tn,tc,hk,rfl,rfl,hgb,hx2,hx3,hx4,hbr,hou⟩:=hrel
     have GB_21:=Lib.hid (hgb)
     have X2_22:=Lib.hid (hx2)
     have X3_23:=Lib.hid (hx3)
     have X4_24:=Lib.hid (hx4)
     have BR_25:=Lib.hid (hbr)
     have OU_26:=Lib.hid (hou)
     clear hgb hx2 hx3 hx4 hbr hou
     have UK:=Lib.hid (unsubK_ok b (c,d) k hk)
     have l9:=AN.out
     by_cases hlt:k<b.adv.length
     ·have hlt':(k:Int)<(b.adv.length:Int):=by omega
      have hw:IntKind.i64.wrap ((k:Int)+1)=(k:Int)+1:=IntWalk.i64_in _ (by omega)
      obtain⟨a,hak⟩:∃ a,b.adv[k]?=some a:=⟨_,List.getElem?_eq_getElem hlt⟩
      have US:=Lib.hid (unsubK_succ b (c,d) hak)
      have PK:=Lib.hid (unsubK_all b (c,d) (fun e=>PredOk e.p) (fun _ h=>h) OK.out k hk)
      have TKN:=Lib.hid (unsubK_all b (c,d) (fun e=>e.tree∈b.adv.map Ad.id) (fun _ h=>h) KN.out k hk)
      obtain⟨ad,had1,had2⟩:=BR_25.out.adv
      rw [UK.out.1.adv] at had2
      obtain⟨z,hz1,hz2⟩:=had2.at k a hak
      obtain⟨p,ix,px⟩:=elD had1 rfl (by rw [had2.len]) hz1
      obtain⟨p0,p1,p2,p3⟩:=px wr (Below.refl _ _)
      obtain⟨z1,z2,⟨z3,z4,z5⟩,z6⟩:=z
      simp only at p0 p1 p2 p3
      have ZI:=Lib.hid (show a.id=(z1,z2) from hz2.1.symm)
      clear px hz1 hz2 had1 had2 hak
      go_upto_region 15 with fail
      clear p0 p1 p2 p3 ix
      have NN:=newB wr (.cells #[.int .i64 z1,.int .i64 z2,.slice z3 z4 z5,.int .i64 z6] 41)
      have GB_27:=Lib.hid (GB_21.out.trans (NN.mono GB_21.out.size))
      have X2_27:=Lib.hid (X2_22.out.on NN)
      have X3_27:=Lib.hid (X3_23.out.on NN)
      have X4_27:=Lib.hid (X4_24.out.on NN)
      have BR_27:=Lib.hid (BR_25.out.on NN)
      have OU_27:=Lib.hid (OU_26.out.on NN)
      clear GB_21 X2_22 X3_23 X4_24 BR_25 OU_26
      clear NN
      have X11_28:=Lib.hid (box_new wr #[.int .i64 z1,.int .i64 z2,.slice z3 z4 z5,.int .i64 z6] 41)
      generalize wr.alloc (.cells #[.int .i64 z1,.int .i64 z2,.slice z3 z4 z5,.int .i64 z6] 41)=wa at *
      have DP:=Lib.hid (rdrop_any (unsubK b (c,d) k).1 (no,nn,nc) (ao,b.adv.length,ac) (so,sn,sc) (ea,en2,ec2) (la,ln,lc) (z1,z2) (c,d) (-1) wa BR_27.out (by rw [UK.out.1.adv]; exact AN.out) (Nat.le_trans UK.out.1.len L3.out) PK.out (by rw [UK.out.1.adv]; exact TKN.out))
      rw [UK.out.1.me,← ME.out] at DP
      obtain⟨x0,x1,x2,x3,x4,x5⟩:=X2_27.out.cs6
      obtain⟨y0,y1⟩:=X3_27.out.cs2
      obtain⟨zc0,zc1,zc2,zc3⟩:=X11_28.out.cs4
      rw [ZI.out] at US
      have UK2:=Lib.hid (unsubK_ok b (c,d) (k+1) hlt)
      rw [US.out] at UK2
      go_wp2_with fail
      refine DP.out.mono ?_
      rintro e1 w1 ⟨⟨⟨ea2,en3,ec3⟩,⟨ta2,tn2,tc2⟩,rfl,hbr,hou⟩,hb⟩
      clear DP
      clear x0 x1 x2 x3 x4 x5 y0 y1 zc0 zc1 zc2 zc3
      have GB_29:=Lib.hid (GB_27.out.trans (hb.mono GB_27.out.size))
      have X2_29:=Lib.hid (X2_27.out.on hb)
      have X3_29:=Lib.hid (X3_27.out.on hb)
      have X4_29:=Lib.hid (X4_27.out.on hb)
      have BR_29:=Lib.hid (BR_27.out.on hb)
      have OU_29:=Lib.hid (OU_27.out.on hb)
      have X11_29:=Lib.hid (X11_28.out.on hb)
      clear GB_27 X2_27 X3_27 X4_27 BR_27 OU_27 X11_28
      have BR2:=Lib.hid hbr
      have OU2:=Lib.hid hou
      clear hb hbr hou BR_29 X11_29
      go_upto_region 16 with fail
      have BR3:=Lib.hid (BR2.out.on (newB w1 (.cells #[.int .i64 me,.slice no nn nc,.slice ao b.adv.length ac,.slice so sn sc,.slice ea2 en3 ec3,.slice la ln lc] 31)))
      have OU3:=Lib.hid (OU2.out.on (newB w1 (.cells #[.int .i64 me,.slice no nn nc,.slice ao b.adv.length ac,.slice so sn sc,.slice ea2 en3 ec3,.slice la ln lc] 31)))
      clear BR2 OU2
      have NN:=newB w1 (.cells #[.int .i64 me,.slice no nn nc,.slice ao b.adv.length ac,.slice so sn sc,.slice ea2 en3 ec3,.slice la ln lc] 31)
      have GB_30:=Lib.hid (GB_29.out.trans (NN.mono GB_29.out.size))
      have X2_30:=Lib.hid (X2_29.out.on NN)
      have X3_30:=Lib.hid (X3_29.out.on NN)
      have X4_30:=Lib.hid (X4_29.out.on NN)
      have OU_30:=Lib.hid (OU_29.out.on NN)
      clear GB_29 X2_29 X3_29 X4_29 OU_29
      clear NN
      have X12_31:=Lib.hid (box_new w1 #[.int .i64 me,.slice no nn nc,.slice ao b.adv.length ac,.slice so sn sc,.slice ea2 en3 ec3,.slice la ln lc] 31)
      generalize w1.alloc (.cells #[.int .i64 me,.slice no nn nc,.slice ao b.adv.length ac,.slice so sn sc,.slice ea2 en3 ec3,.slice la ln lc] 31)=wb at *
      obtain⟨lo,hlo1,hlo2⟩:=OU_30.out
      obtain⟨ls2,hls1,hls2⟩:=OU3.out
      have LL:=UK.out.2
      have LD:=dropB_len (unsubK b (c,d) k).1 (z1,z2) (c,d) (-1)
      have LU:=UK.out.1.len
      have l3:=L3.out
      have LM:k * (b.ent.length+1)≤900 * 901:=Nat.mul_le_mul (by omega) (by omega)
      refine uns16 _ wb w.heap.size w1.heap.size me no ao so ea2 la nn nc b.adv.length ac sn sc en3 ec3 ln lc ta ta2 tn tc tn2 tc2 lo ls2 _ _ _ _ _ _ _ _ _ _ _ _ _ _ _ _ _ _ _ _ _ _ _ _ _ _ _ _ _ _ _ _ _ _ _ _ _ _ _ _ _ _ _ _ _ _ _ _ _ _ _ _ _ _ _ _ _ _ _ _ _ _ _ _ _ X2_30.out X12_31.out hlo1 hls1 (by rw [hlo2.len]; omega) (by rw [hls2.len]; omega) ?_
      intro x w9 v54 v55 v56 v57 v58 v59 hbx hown hblk hbl
      have GX:=Lib.hid (GB_30.out.trans (hbl _ (Nat.le_refl _)))
      have Y2:=Lib.hid hbx
      have Y3:=Lib.hid (show Box _ _ _ _ from (hblk _ X3_30.out.lt (by omega)).trans X3_30.out)
      have Y4:=Lib.hid (show Box _ _ _ _ from (hblk _ X4_30.out.lt (by omega)).trans X4_30.out)
      have BRX:=Lib.hid (brin_keep (s1:=(no,nn,nc)) (s2:=(ao,b.adv.length,ac)) (s3:=(so,sn,sc)) (s4:=(ea,en2,ec2)) (s5:=(la,ln,lc)) BR3.out X2_30.out hblk (by rw [show (dropB (unsubK b (c,d) k).1 (z1,z2) (c,d) (-1)).1.near=b.near from UK2.out.1.near]; exact HH.out.near.on GX.out))
      have OA:=Lib.hid ((ous_keep (s1:=(no,nn,nc)) (s2:=(ao,b.adv.length,ac)) (s3:=(so,sn,sc)) (s4:=(ea,en2,ec2)) (s5:=(la,ln,lc)) hlo2 X2_30.out hblk).append (ous_keep (s1:=(no,nn,nc)) (s2:=(ao,b.adv.length,ac)) (s3:=(so,sn,sc)) (s4:=(ea,en2,ec2)) (s5:=(la,ln,lc)) hls2 X2_30.out hblk))
      obtain⟨ra,rc,hrv⟩:=(Row.of_own hown).len
      have RR:=Lib.hid (Row.of_own hown)
      rw [hrv] at RR
      rw [hrv]
      clear hbx hown hblk hbl hlo1 hlo2 hls1 hls2 hrv BR3 OU3
      go_wp2_with fail
      go_roundw
      case rel=>exact⟨k+1,ea2,en3,ec3,ra,_,rc,hlt,by go_num,rfl,GX.out,Y2.out,Y3.out,Y4.out,by rw [US.out]; exact BRX.out,by rw [US.out]; exact⟨_,RR.out,OA.out⟩⟩
      case measure=>simp [intOf]; omega
     ·obtain rfl:k=b.adv.length:=by omega
      obtain⟨x0,x1,x2,x3,x4,x5⟩:=X2_22.out.cs6
      obtain⟨r0,r1,r2,r3,r4,r5⟩:=X4_24.out.cs6
      obtain⟨rf0,rf1,rf2,rf3,rf4,rf5⟩:=X4_24.out.fs6
      have zz:=X4_24.out.lt
      have GG:=Lib.hid (setB_box X4_24.out (.int .i64 me) (.slice no nn nc) (.slice ao b.adv.length ac) (.slice so sn sc) (.slice ea en2 ec2) (.slice la ln lc))
      have BL:=Lib.hid (setB_below (b:=w.heap.size+1+1) GB_21.out (by omega) (.int .i64 me) (.slice no nn nc) (.slice ao b.adv.length ac) (.slice so sn sc) (.slice ea en2 ec2) (.slice la ln lc))
      have HK:=Lib.hid (fun j (_:j<wr.heap.size) (hj:j≠w.heap.size+1+1)=>setB_heap wr (w.heap.size+1+1) (.int .i64 me) (.slice no nn nc) (.slice ao b.adv.length ac) (.slice so sn sc) (.slice ea en2 ec2) (.slice la ln lc) j hj)
      have HC:=Lib.hid (brin_keep (s1:=(none,0,0)) (s2:=(none,0,0)) (s3:=(none,0,0)) (s4:=(none,0,0)) (s5:=(none,0,0)) BR_25.out X4_24.out HK.out (by rw [UK.out.1.near]; exact HH.out.near.on BL.out))
      have HO:=Lib.hid (outs_keep (s1:=(none,0,0)) (s2:=(none,0,0)) (s3:=(none,0,0)) (s4:=(none,0,0)) (s5:=(none,0,0)) OU_26.out X4_24.out HK.out)
      go_wp2_with fail
      obtain⟨v0,v1,v2,v3,v4,v5⟩:=GG.out.cs6
      refine bodyPost_ret (v:=.tuple #[.agg #[.int .i64 me,.slice no nn nc,.slice ao b.adv.length ac,.slice so sn sc,.slice ea en2 ec2,.slice la ln lc],.slice ta tn tc]) (by simp [results,Tryz.results33,go_sem,v0,v1,v2,v3,v4,v5]) rfl ?_
      rw [DB.out]
      exact⟨⟨(ea,en2,ec2),(la,ln,lc),(ta,tn,tc),rfl,HC.out,HO.out⟩,BL.out⟩
end Go.Proofs.YtncogjpmboglhaaGreat.Bk
namespace Go.Proofs.YtncogjpmboglhaaGreat.Av
open Go.RowKit Go.Sort Rw YtncogjpmboglhaaGreat.Nm Pr Bk
end Go.Proofs.YtncogjpmboglhaaGreat.Av
namespace Go.Proofs.YtncogjpmboglhaaGreat.Av
open Go.RowKit Go.Sort Rw YtncogjpmboglhaaGreat.Nm Pr Bk
theorem but_grown {W W':World} {b:Nat} (h:W.grownBy W' (some b)):But b W W':=⟨fun k hk hne=>h.block k hk (by simpa using hne),h.size⟩
theorem own_app {α β:Type} {E:Ek α} {F:Ek β} {W W':World} {B B':Nat} {v u:Value} {l:List β} {m:List α} (ho:Own F W B v l) (gr:W.grownBy W' v.ownBlock) (h:Own E W B' u m) (hne:(E.t == F.t)=false):Own E W' B' u m:=by
 rcases own_open ho with⟨h1,_⟩|⟨g,c,cur,h1,_,h2,_⟩
 ·rw [h1] at gr
  exact Bk.own_on h ((Below.refl _ _).grown gr (Nat.le_refl _) (fun j hj=>by cases hj))
 ·rw [h1] at gr
  exact (but_grown (b:=g) gr).own h h2 hne
end Go.Proofs.YtncogjpmboglhaaGreat.Av
namespace Go.Proofs.YtncogjpmboglhaaGreat.Bk
open Go.RowKit Go.Sort Rw YtncogjpmboglhaaGreat.Nm Pr
def uV (B:Nat) (bv:Value) (f c d:Int) (l:List Int) (i:Nat) (v:Value) (x:World):Prop :=
 match i with
 | 0=>v=bv
 | 1=>v=bv
 | 2=>v=.int .i64 f
 | 3=>v=idv (c,d)
 | 4=>v=.agg #[.int .i64 2,.int .i64 c,.int .i64 d,.int .i64 0,.int .i64 0,.slice none 0 0,.slice none 0 0]
 | 5=>∃ sl:Sl,v=slv sl∧OwnU x B v (othersL l f fun n=>(n,2,c,d,0,0,(none,0,0),(none,0,0)))
 | _=>True
noncomputable def unadvR4:Code:=((Tryz.f99.body.bind (findRegion 4)).getD .skip)
theorem unadv_r4 (Q:Exit→Act→World→Prop) (W:World) (b3 b5 b6:Nat) (me f c d:Int) (o1 o2 o3 o4 o5:Option Addr) (n1 c1 n2 c2 n3 c3 n4 c4 n5 c5:Nat) (l:List Int) (z0 z1 z2 z3 z4 z5:Value) (u0 u2 u4 u7 u8 u9 u10 u11 u12 u13 u14 u15 u16 u17 u18 u19 u20 u21 u22 u23 u24:Value)
  (h3:Box W b3 #[.int .i64 me,.slice o1 n1 c1,.slice o2 n2 c2,.slice o3 n3 c3,.slice o4 n4 c4,.slice o5 n5 c5] 31) (h5:Box W b5 #[.int .i64 c,.int .i64 d] 38) (h6:Box W b6 #[z0,z1,z2,z3,z4,z5] 31) (hl:RowI W (.slice o1 n1 c1) l) (hlen:l.length≤900)
  (hQ:∀ (a:Act) (x:World) (sl:Sl),a.defers=[]→a.tmps[6]?=some (.pointer (some ⟨b6,0,none⟩))→a.tmps[7]?=some (slv sl)→Box x b6 #[.int .i64 me,.slice o1 n1 c1,.slice o2 n2 c2,.slice o3 n3 c3,.slice o4 n4 c4,.slice o5 n5 c5] 31→OwnU x W.heap.size (slv sl) (othersL l f fun n=>(n,2,c,d,0,0,(none,0,0),(none,0,0)))→(∀ k,k<W.heap.size→k≠b6→x.heap[k]?=W.heap[k]?)→(∀ B,B≤b6→Below B W x)→Q .normal a x) :
  Code.wp Tryz.prog unadvR4 Q ⟨(u0::.int .i64 f::u2::.pointer (some ⟨b3,0,none⟩)::u4::.pointer (some ⟨b5,0,none⟩)::.pointer (some ⟨b6,0,none⟩)::u7::u8::u9::u10::u11::u12::u13::u14::u15::u16::u17::u18::u19::u20::u21::u22::u23::u24::[]).toArray,[]⟩ W:=by
 have HQ:=Lib.hid hQ
 have H3:=Lib.hid h3
 have H5:=Lib.hid h5
 have H6:=Lib.hid h6
 have HL:=Lib.hid hl
 have LL:=Lib.hid hlen
 clear hQ h3 h5 h6 hl hlen
 have stab:∀ (j:Nat) (u:Value) (x x':World),j<6→uV W.heap.size (.agg #[.int .i64 me,.slice o1 n1 c1,.slice o2 n2 c2,.slice o3 n3 c3,.slice o4 n4 c4,.slice o5 n5 c5]) f c d l j u x→Below x.heap.size x x'→uV W.heap.size (.agg #[.int .i64 me,.slice o1 n1 c1,.slice o2 n2 c2,.slice o3 n3 c3,.slice o4 n4 c4,.slice o5 n5 c5]) f c d l j u x':=by
  intro i u x x' hi h hb
  rcases (by omega:i=0∨i=1∨i=2∨i=3∨i=4∨i=5) with rfl|rfl|rfl|rfl|rfl|rfl
  ·exact h
  ·exact h
  ·exact h
  ·exact h
  ·exact h
  ·obtain⟨sl,h1,h2⟩:=h
   exact⟨sl,h1,own_on h2 hb⟩
 unfold unadvR4
 conv=>arg 2; whnf
 have nd:∀ j,(j<19∨25≤j)→∀ i,i<6→(fun i=>19+i) i≠j:=by
  intro j hj i hi h
  simp only at h
  omega
 refine Rg.region_live 8 6 (fun i=>19+i) (fun _=>6) (uV W.heap.size (.agg #[.int .i64 me,.slice o1 n1 c1,.slice o2 n2 c2,.slice o3 n3 c3,.slice o4 n4 c4,.slice o5 n5 c5]) f c d l) (by kernel_rfl) (by kernel_rfl) rfl (by decide) (fun i j _ _ h=>by have h2:19+i=19+j:=h; omega) (fun i hi=>by show 19+i<25; omega) ?_ (fun _=>Rg.hall_of 3 (by kernel_rfl)) ?_ ?_
 ·intro i o hi ho a x D hnd hc hD hb seen K hK
  clear HQ
  rcases (by omega:i=0∨i=1∨i=2∨i=3∨i=4∨i=5) with rfl|rfl|rfl|rfl|rfl|rfl
  ·obtain rfl:=Option.some.inj ho
   have e3:a.eval (.tmp 3)=.pointer (some ⟨b3,0,none⟩):=seen.kp 3 _ (nd 3 (by omega)) rfl
   exact Rg.op_value rfl rfl (Rg.ex_load a.eval _ 31 (.tmp 3) rfl (by rw [e3]; exact loadBr (H3.out.on hb))) (hK _ _ rfl (Below.refl _ _) fun _ _ _ _ _ _ _ h=>h)
  ·obtain rfl:=Option.some.inj ho
   have e3:a.eval (.tmp 3)=.pointer (some ⟨b3,0,none⟩):=seen.kp 3 _ (nd 3 (by omega)) rfl
   exact Rg.op_value rfl rfl (Rg.ex_load a.eval _ 31 (.tmp 3) rfl (by rw [e3]; exact loadBr (H3.out.on hb))) (hK _ _ rfl (Below.refl _ _) fun _ _ _ _ _ _ _ h=>h)
  ·obtain rfl:=Option.some.inj ho
   have e1:a.eval (.tmp 1)=.int .i64 f:=seen.kp 1 _ (nd 1 (by omega)) rfl
   exact Rg.op_value rfl rfl (Rg.ex_move a.eval _ (.tmp 1) rfl x) (hK _ _ e1 (Below.refl _ _) fun _ _ _ _ _ _ _ h=>h)
  ·obtain rfl:=Option.some.inj ho
   have e5:a.eval (.tmp 5)=.pointer (some ⟨b5,0,none⟩):=seen.kp 5 _ (nd 5 (by omega)) rfl
   exact Rg.op_value rfl rfl (Rg.ex_load a.eval _ 38 (.tmp 5) rfl (by rw [e5]; exact loadJ x _ (c,d) (box_J (H5.out.on hb)))) (hK _ _ rfl (Below.refl _ _) fun _ _ _ _ _ _ _ h=>h)
  ·obtain rfl:=Option.some.inj ho
   have e22:a.eval (.tmp 22)=idv (c,d):=seen.at_ ⟨3,.data⟩ (by simp) rfl (Or.inr (by decide))
   exact Rg.op_value rfl rfl (Rg.ex_buildS a.eval _ 77 #[(0,.const (.int .i64 2)),(1,.tmp 22)] rfl (ps:=#[(0,.int .i64 2),(1,idv (c,d))]) (by simp only [List.map_toArray,List.map_cons,List.map_nil,e22]; rfl) (by simp [go_sem])) (hK _ _ rfl (Below.refl _ _) fun _ _ _ _ _ _ _ h=>h)
  ·obtain rfl:=Option.some.inj ho
   have e20:a.eval (.tmp 20)=.agg #[.int .i64 me,.slice o1 n1 c1,.slice o2 n2 c2,.slice o3 n3 c3,.slice o4 n4 c4,.slice o5 n5 c5]:=seen.at_ ⟨1,.data⟩ (by simp) rfl (Or.inr (by decide))
   have e21:a.eval (.tmp 21)=.int .i64 f:=seen.at_ ⟨2,.data⟩ (by simp) rfl (Or.inr (by decide))
   have e23:a.eval (.tmp 23)=.agg #[.int .i64 2,.int .i64 c,.int .i64 d,.int .i64 0,.int .i64 0,.slice none 0 0,.slice none 0 0]:=seen.at_ ⟨4,.data⟩ (by simp) rfl (Or.inr (by decide))
   exact Rg.op_call rfl rfl (ex_call3g a.eval _ (.tmp 20) (.tmp 21) (.tmp 23) 31 3 77 98 rfl e20 e21 e23 rfl _ (call_fn Tryz.func98 rfl rfl _ _)) (others_any me f 2 c d 0 0 (o1,n1,c1) _ _ _ _ (none,0,0) (none,0,0) l x (HL.out.on hb) LL.out) fun e w1 h=>by
    obtain⟨⟨v,rfl,h1⟩,h3⟩:=h
    exact⟨_,rfl,hK _ _ ⟨v,rfl,own_fewer h1 hb.size⟩ (h3.mono hb.size) fun j u hj _ _ _ hne h=>stab j u _ _ (by omega) h h3⟩
 ·intro kk o h1 h2 ho
  obtain rfl:kk=7:=by omega
  obtain rfl:=Option.some.inj ho
  exact⟨⟨6,.chain⟩,by simp,rfl,rfl⟩
 ·intro a w' df sz kp ⟨vs,hv⟩ hb
  have g19:a.tmps[19]?=some (.agg #[.int .i64 me,.slice o1 n1 c1,.slice o2 n2 c2,.slice o3 n3 c3,.slice o4 n4 c4,.slice o5 n5 c5]):=by
   have h:vs 0=.agg #[.int .i64 me,.slice o1 n1 c1,.slice o2 n2 c2,.slice o3 n3 c3,.slice o4 n4 c4,.slice o5 n5 c5]:=(hv 0 (by omega)).2 (by decide)
   rw [← h]
   exact (hv 0 (by omega)).1
  obtain⟨sl,hsl,ho⟩:=(hv 5 (by omega)).2 (by decide)
  have g24:a.tmps[24]?=some (slv sl):=by
   rw [← hsl]
   exact (hv 5 (by omega)).1
  rw [hsl] at ho
  have g6:a.tmps[6]?=some (.pointer (some ⟨b6,0,none⟩)):=(kp 6 (nd 6 (by omega))).trans rfl
  have sz':a.tmps.size=25:=sz
  have H6':=H6.out.on hb
  have lt6:=H6.out.lt
  show Rg.SeqFrom _ _ _ 2 6 a w'
  simp only [Rg.SeqFrom]
  refine Rg.op_store 31 (.tmp 6) (.tmp 19) rfl rfl rfl rfl (Rg.eval_some g6) (Rg.eval_some g19) (w':=setB w' b6 (.int .i64 me) (.slice o1 n1 c1) (.slice o2 n2 c2) (.slice o3 n3 c3) (.slice o4 n4 c4) (.slice o5 n5 c5)) (storeBr H6' me _ _ _ _ _ _ _ _ _ _ _ _ _ _ _) ?_
  refine Rg.op_value rfl rfl (Rg.ex_assign a.eval _ (.tmp 24) rfl _) ?_
  rw [Rg.eval_some g24]
  refine HQ.out _ _ sl df ((Rg.get_put a 7 (slv sl) 6 (by decide)).trans g6) ?_ (setB_box H6' _ _ _ _ _ _) (setB_ownA ho b6 lt6 _ _ _ _ _ _) ?_ ?_
  ·have:7<a.tmps.size:=by omega
   show (a.put (some 7) (slv sl)).tmps[7]?=_
   simp [Act.put,this]
  ·intro k hk hne
   exact (setB_heap w' b6 (.int .i64 me) (.slice o1 n1 c1) (.slice o2 n2 c2) (.slice o3 n3 c3) (.slice o4 n4 c4) (.slice o5 n5 c5) k hne).trans (hb.block k hk)
  ·exact fun B hB=>setB_below (hb.mono (Nat.le_of_lt (Nat.lt_of_le_of_lt hB lt6))) hB _ _ _ _ _ _
def unadvL (b:Br) (f:Int) (x:Id):List XOu:=if (forgetB b x f).2=true then othersL b.near f (fun n=>(n,2,x.1,x.2,0,0,(none,0,0),(none,0,0))) else []
theorem forget_near (b:Br) (x:Id) (f:Int):(forgetB b x f).1.near=b.near∧(forgetB b x f).1.me=b.me:=by
 unfold forgetB
 split
 ·exact⟨rfl,rfl⟩
 ·split
  ·exact⟨rfl,rfl⟩
  ·split <;> exact⟨rfl,rfl⟩
theorem runadv_any (b:Br) (nv av sv ev ov:Sl) (x:Id) (f:Int) (w:World) (h:BrIn w b nv av sv ev ov) (l1:b.near.length≤900) (l2:b.adv.length≤900) (l3:b.ent.length≤900) :
  Calls Tryz.prog 99 #[brv b.me nv av sv ev ov,.int .i64 f,idv x] w fun e w'=>(∃ av' ev' sl:Sl,e=.returned (.tuple #[brv b.me nv av' sv ev' ov,slv sl])∧BrIn w' (forgetB b x f).1 nv av' sv ev' ov∧RowU w' (slv sl) (unadvL b f x))∧Below w.heap.size w w':=by
 obtain⟨no,nn,nc⟩:=nv
 obtain⟨ao,an,ac⟩:=av
 obtain⟨so,sn,sc⟩:=sv
 obtain⟨eo,en,ec⟩:=ev
 obtain⟨oo,on_,oc⟩:=ov
 obtain⟨c,d⟩:=x
 have FG:=Lib.hid (fun W hb'=>rforget_any b (no,nn,nc) (ao,an,ac) (so,sn,sc) (eo,en,ec) (oo,on_,oc) (c,d) f W (h.on (show Below w.heap.size w W from hb')) l2 l3)
 have HNR:=Lib.hid h.near
 have L1:=Lib.hid l1
 obtain⟨h0,h1,h2,h3⟩:=three_new w #[.int .i64 b.me,.slice no nn nc,.slice ao an ac,.slice so sn sc,.slice eo en ec,.slice oo on_ oc] #[.int .i64 c,.int .i64 d] #[.int .i64 0,.slice none 0 0,.slice none 0 0,.slice none 0 0,.slice none 0 0,.slice none 0 0] 31 38 31
 obtain⟨me,hme⟩:∃ me,me=b.me:=⟨_,rfl⟩
 simp only [← hme] at h0 h1 h2 h3 FG ⊢
 have B0:=Lib.hid h0
 have X2:=Lib.hid h1
 have X3:=Lib.hid h2
 have X5:=Lib.hid h3
 clear h0 h1 h2 h3 h l1 l2 l3 hme
 show Calls Tryz.prog 99 #[.agg #[.int .i64 me,.slice no nn nc,.slice ao an ac,.slice so sn sc,.slice eo en ec,.slice oo on_ oc],.int .i64 f,.agg #[.int .i64 c,.int .i64 d]] w _
 go_enter Tryz.func99,Tryz.ntmps99
 go_upto_region 1 with fail
 generalize (((w.alloc (.cells #[.int .i64 me,.slice no nn nc,.slice ao an ac,.slice so sn sc,.slice eo en ec,.slice oo on_ oc] 31)).alloc (.cells #[.int .i64 c,.int .i64 d] 38)).alloc (.cells #[.int .i64 0,.slice none 0 0,.slice none 0 0,.slice none 0 0,.slice none 0 0,.slice none 0 0] 31))=W at *
 have SW:=Lib.hid (FG.out W B0.out)
 have x_:=X2.out
 have y_:=X3.out
 obtain⟨x0,x1,x2,x3,x4,x5⟩:=x_.cs6
 obtain⟨y0,y1⟩:=y_.cs2
 clear x_ y_ FG
 go_wp2_with fail
 refine SW.out.mono ?_
 rintro e1 w1 ⟨⟨⟨ao2,an2,ac2⟩,⟨eo2,en2,ec2⟩,rfl,hbr⟩,hb⟩
 obtain⟨fb,hfb⟩:∃ r,(forgetB b (c,d) f).2=r:=⟨_,rfl⟩
 have LB:=Lib.hid hfb
 rw [hfb]
 have B1:=Lib.hid (B0.out.trans (hb.mono B0.out.size))
 have Y2:=X2.out.on hb
 have Y3:=X3.out.on hb
 have Y5:=X5.out.on hb
 obtain⟨k0,k1,k2,k3,k4,k5⟩:=Y2.cs6
 obtain⟨t0,t1,t2,t3,t4,t5⟩:=Y2.fs6
 have zz:=Y2.lt
 have FB:=Lib.hid (setB_box Y2 (.int .i64 me) (.slice no nn nc) (.slice ao2 an2 ac2) (.slice so sn sc) (.slice eo2 en2 ec2) (.slice oo on_ oc))
 have B2:=Lib.hid (setB_below (b:=w.heap.size) B1.out (Nat.le_refl _) (.int .i64 me) (.slice no nn nc) (.slice ao2 an2 ac2) (.slice so sn sc) (.slice eo2 en2 ec2) (.slice oo on_ oc))
 have F3:=Lib.hid (show Box _ _ _ _ from (setB_heap w1 w.heap.size (.int .i64 me) (.slice no nn nc) (.slice ao2 an2 ac2) (.slice so sn sc) (.slice eo2 en2 ec2) (.slice oo on_ oc) (w.heap.size+1) (by omega)).trans Y3)
 have F5:=Lib.hid (show Box _ _ _ _ from (setB_heap w1 w.heap.size (.int .i64 me) (.slice no nn nc) (.slice ao2 an2 ac2) (.slice so sn sc) (.slice eo2 en2 ec2) (.slice oo on_ oc) (w.heap.size+1+1) (by omega)).trans Y5)
 have HB:=Lib.hid (brin_keep (s1:=(no,nn,nc)) (s2:=(ao,an,ac)) (s3:=(so,sn,sc)) (s4:=(eo,en,ec)) (s5:=(oo,on_,oc)) hbr Y2 (fun j _ hj=>setB_heap w1 w.heap.size (.int .i64 me) (.slice no nn nc) (.slice ao2 an2 ac2) (.slice so sn sc) (.slice eo2 en2 ec2) (.slice oo on_ oc) j hj) (by rw [(forget_near b (c,d) f).1]; exact HNR.out.on B2.out))
 clear hfb hbr hb SW X2 X3 X5 B1 Y2 Y3 Y5 x0 x1 x2 x3 x4 x5 y0 y1
 go_upto_region 2 with fail
 clear zz k0 k1 k2 k3 k4 k5 t0 t1 t2 t3 t4 t5
 unfold setB at FB B2 F3 F5 HB
 generalize ((((((w1.setCell ⟨w.heap.size,0,none⟩ (.int .i64 me)).setCell ⟨w.heap.size,1,none⟩ (.slice no nn nc)).setCell ⟨w.heap.size,2,none⟩ (.slice ao2 an2 ac2)).setCell ⟨w.heap.size,3,none⟩ (.slice so sn sc)).setCell ⟨w.heap.size,4,none⟩ (.slice eo2 en2 ec2)).setCell ⟨w.heap.size,5,none⟩ (.slice oo on_ oc))=w2 at *
 cases fb
 ·have x_:=FB.out
  have r_:=F5.out
  obtain⟨x0,x1,x2,x3,x4,x5⟩:=x_.cs6
  obtain⟨r0,r1,r2,r3,r4,r5⟩:=r_.cs6
  obtain⟨t0,t1,t2,t3,t4,t5⟩:=r_.fs6
  have zz:=r_.lt
  have GB:=Lib.hid (setB_box r_ (.int .i64 me) (.slice no nn nc) (.slice ao2 an2 ac2) (.slice so sn sc) (.slice eo2 en2 ec2) (.slice oo on_ oc))
  have BL:=Lib.hid (setB_below (b:=w.heap.size+1+1) B2.out (by omega) (.int .i64 me) (.slice no nn nc) (.slice ao2 an2 ac2) (.slice so sn sc) (.slice eo2 en2 ec2) (.slice oo on_ oc))
  have HC:=Lib.hid (brin_keep (s1:=(none,0,0)) (s2:=(none,0,0)) (s3:=(none,0,0)) (s4:=(none,0,0)) (s5:=(none,0,0)) HB.out r_ (fun j _ hj=>setB_heap w2 (w.heap.size+1+1) (.int .i64 me) (.slice no nn nc) (.slice ao2 an2 ac2) (.slice so sn sc) (.slice eo2 en2 ec2) (.slice oo on_ oc) j hj) (by rw [(forget_near b (c,d) f).1]; exact HNR.out.on BL.out))
  clear x_ r_ HB FB F3 F5
  go_wp2_with fail
  obtain⟨v0,v1,v2,v3,v4,v5⟩:=GB.out.cs6
  refine bodyPost_ret (v:=.tuple #[.agg #[.int .i64 me,.slice no nn nc,.slice ao2 an2 ac2,.slice so sn sc,.slice eo2 en2 ec2,.slice oo on_ oc],.slice none 0 0]) (by simp [results,Tryz.results99,go_sem,v0,v1,v2,v3,v4,v5]) rfl ?_
  exact⟨⟨(ao2,an2,ac2),(eo2,en2,ec2),(none,0,0),rfl,HC.out,by unfold unadvL; rw [LB.out]; exact Or.inl ⟨rfl,rfl⟩⟩,BL.out⟩
 ·go_upto_region 4 with fail
  refine unadv_r4 _ w2 w.heap.size (w.heap.size+1) (w.heap.size+1+1) me f c d no ao2 so eo2 oo nn nc an2 ac2 sn sc en2 ec2 on_ oc b.near _ _ _ _ _ _ _ _ _ _ _ _ _ _ _ _ _ _ _ _ _ _ _ _ _ _ _ FB.out F3.out F5.out (HNR.out.on B2.out) L1.out ?_
  intro a9 x9 sl hd9 h69 h79 hbx ho hblk hbl
  have BL:=Lib.hid (B2.out.trans (hbl w.heap.size (by omega)))
  have HC:=Lib.hid (brin_keep (s1:=(none,0,0)) (s2:=(none,0,0)) (s3:=(none,0,0)) (s4:=(none,0,0)) (s5:=(none,0,0)) HB.out F5.out (fun j hlt hj=>hblk j hlt hj) (by rw [(forget_near b (c,d) f).1]; exact HNR.out.on BL.out))
  have HU:=Lib.hid (Row.of_own ho)
  have hbx':=hbx
  obtain⟨v0,v1,v2,v3,v4,v5⟩:=hbx'.cs6
  clear hbx' hbx ho hblk hbl HB FB F3 F5
  simp only [Exit.then]
  apply_assumption
  go_wp2_with fail
  refine bodyPost_ret (v:=.tuple #[.agg #[.int .i64 me,.slice no nn nc,.slice ao2 an2 ac2,.slice so sn sc,.slice eo2 en2 ec2,.slice oo on_ oc],slv sl]) (by simp [results,Tryz.results99,go_sem,h69,h79,v0,v1,v2,v3,v4,v5]) hd9 ?_
  exact⟨⟨(ao2,an2,ac2),(eo2,en2,ec2),sl,rfl,HC.out,by unfold unadvL; rw [LB.out]; exact HU.out⟩,BL.out⟩
def subs16V (B:Nat) (b11 _ _:Nat) (_ _ to_ c d c2 d2 fr:Int) (up:Bool) (_ po:Option Addr) (_ _ pn pc:Nat) (rv:Value) (_:List XOu) (i:Nat) (v:Value) (x:World):Prop :=
 match i with
 | 0=>v=rv
 | 1=>v=.pointer (some ⟨b11,3,none⟩)
 | 2=>v=.int .i64 to_
 | 3=>v=.agg #[.int .i64 c,.int .i64 d,.int .i64 c2,.int .i64 d2,.slice po pn pc,.int .i64 fr,.bool up]
 | 4=>v=.agg #[.int .i64 3,.int .i64 c,.int .i64 d,.int .i64 c2,.int .i64 d2,.slice po pn pc,.slice none 0 0]
 | 5=>v=valU (to_,3,c,d,c2,d2,(po,pn,pc),(none,0,0))
 | 6=>OwnU x B v [(to_,3,c,d,c2,d2,(po,pn,pc),(none,0,0))]
 | _=>True
noncomputable def subs16C:Code:=((Tryz.f32.body.bind (findRegion 16)).getD .skip)
theorem subs16V_on (B:Nat) (b11 b12 F0:Nat) (z1 z2 to_ c d c2 d2 fr:Int) (up:Bool) (z3 po:Option Addr) (z4 z5 pn pc:Nat) (rv:Value) (lo:List XOu) (i:Nat) (v:Value) (x x':World) (h:subs16V B b11 b12 F0 z1 z2 to_ c d c2 d2 fr up z3 po z4 z5 pn pc rv lo i v x) (hb:Below x.heap.size x x'):subs16V B b11 b12 F0 z1 z2 to_ c d c2 d2 fr up z3 po z4 z5 pn pc rv lo i v x':=by
 by_cases hi:i<7
 ·rcases (by omega:i=0∨i=1∨i=2∨i=3∨i=4∨i=5∨i=6) with rfl|rfl|rfl|rfl|rfl|rfl|rfl
  ·exact h
  ·exact h
  ·exact h
  ·exact h
  ·exact h
  ·exact h
  ·exact own_on h hb
 ·unfold subs16V
  split <;> first | omega | trivial
theorem subs16 (Q:Exit→Act→World→Prop) (W:World) (b11 b12 F0:Nat) (z1 z2 to_ c d c2 d2 fr:Int) (up:Bool) (z3 po:Option Addr) (z4 z5 pn pc:Nat) (rv:Value) (lo:List XOu) (u0 u1 u2 u3 u4 u5 u6 u7 u8 u10 u13 u14 u15 u16 u17 u18 u19 u20 u21 u22 u23 u24 u25 u26 u27 u28 u29 u30 u31 u32 u33 u34 u35 u36 u37 u38 u39 u40 u41 u42 u43 u44 u45 u46 u47 u48 u49 u50 u51 u52 u53 u54 u55 u56 u57 u58 u59 u60 u61 u62 u63 u64 u65 u66 u67 u68 u69 u70 u71 u72 u73 u74 u75 u76 u77 u78 u79 u80 u81 u82 u83 u84 u85 u86 u87 u88 u89 u90 u91 u92 u93 u94 u95 u96 u97 u98:Value)
  (h11:Box W b11 #[.int .i64 z1,.int .i64 z2,.slice z3 z4 z5,.int .i64 to_] 41) (h12:Box W b12 #[.int .i64 c,.int .i64 d,.int .i64 c2,.int .i64 d2,.slice po pn pc,.int .i64 fr,.bool up] 43) (fw:F0≤W.heap.size) (ho:OwnU W F0 rv lo) (hl:lo.length≤1000000)
  (hQ:∀ (x0 x:World) (w9:Value) (v88 v89 v90 v91 v92 v93 v94 v95:Value),Below W.heap.size W x0→x0.grownBy x rv.ownBlock→OwnU x F0 w9 (lo++[(to_,3,c,d,c2,d2,(po,pn,pc),(none,0,0))])→Q .normal ⟨(u0::u1::u2::u3::u4::u5::u6::u7::u8::w9::u10::.pointer (some ⟨b11,0,none⟩)::.pointer (some ⟨b12,0,none⟩)::u13::u14::u15::u16::u17::u18::u19::u20::u21::u22::u23::u24::u25::u26::u27::u28::u29::u30::u31::u32::u33::u34::u35::u36::u37::u38::u39::u40::u41::u42::u43::u44::u45::u46::u47::u48::u49::u50::u51::u52::u53::u54::u55::u56::u57::u58::u59::u60::u61::u62::u63::u64::u65::u66::u67::u68::u69::u70::u71::u72::u73::u74::u75::u76::u77::u78::u79::u80::u81::u82::u83::u84::u85::u86::u87::v88::v89::v90::v91::v92::v93::v94::v95::u96::u97::u98::[]).toArray,[]⟩ x) :
  Code.wp Tryz.prog subs16C Q ⟨(u0::u1::u2::u3::u4::u5::u6::u7::u8::rv::u10::.pointer (some ⟨b11,0,none⟩)::.pointer (some ⟨b12,0,none⟩)::u13::u14::u15::u16::u17::u18::u19::u20::u21::u22::u23::u24::u25::u26::u27::u28::u29::u30::u31::u32::u33::u34::u35::u36::u37::u38::u39::u40::u41::u42::u43::u44::u45::u46::u47::u48::u49::u50::u51::u52::u53::u54::u55::u56::u57::u58::u59::u60::u61::u62::u63::u64::u65::u66::u67::u68::u69::u70::u71::u72::u73::u74::u75::u76::u77::u78::u79::u80::u81::u82::u83::u84::u85::u86::u87::u88::u89::u90::u91::u92::u93::u94::u95::u96::u97::u98::[]).toArray,[]⟩ W:=by
 have HQ:=Lib.hid hQ
 have H11:=Lib.hid h11
 have H12:=Lib.hid h12
 have FW:=Lib.hid fw
 have HO:=Lib.hid ho
 have HL:=Lib.hid hl
 clear hQ h11 h12 fw ho hl
 have stab:=subs16V_on W.heap.size b11 b12 F0 z1 z2 to_ c d c2 d2 fr up z3 po z4 z5 pn pc rv lo
 unfold subs16C
 conv=>arg 2; whnf
 have nd:∀ j,(∀ i,i<7→[88,89,90,91,92,93,94].getD i 0≠j)→∀ i,i<7→(fun i=>[88,89,90,91,92,93,94].getD i 0) i≠j:=fun j h=>h
 refine Rg.region_live 9 7 (fun i=>[88,89,90,91,92,93,94].getD i 0) (fun _=>7) (subs16V W.heap.size b11 b12 F0 z1 z2 to_ c d c2 d2 fr up z3 po z4 z5 pn pc rv lo) (by kernel_rfl) (by kernel_rfl) rfl (by decide) (fun i j hi hj h=>(by decide:∀ i,i<7→∀ j,j<7→[88,89,90,91,92,93,94].getD i 0=[88,89,90,91,92,93,94].getD j 0→i=j) i hi j hj h) (fun i hi=>(by decide:∀ i,i<7→[88,89,90,91,92,93,94].getD i 0<99) i hi) ?_ (fun _=>Rg.hall_of 14 (by kernel_rfl)) ?_ ?_
 ·intro i o hi ho a x D hnd hc hD hb seen K hK
  clear HQ
  rcases (by omega:i=0∨i=1∨i=2∨i=3∨i=4∨i=5∨i=6) with rfl|rfl|rfl|rfl|rfl|rfl|rfl
  ·obtain rfl:=Option.some.inj ho
   have e9:a.eval (.tmp 9)=rv:=seen.kp 9 _ (nd 9 (by decide)) rfl
   exact Rg.op_value rfl rfl (Rg.ex_move a.eval _ (.tmp 9) rfl x) (hK _ _ e9 (Below.refl _ _) fun _ _ _ _ _ _ _ h=>h)
  ·obtain rfl:=Option.some.inj ho
   have e11:a.eval (.tmp 11)=.pointer (some ⟨b11,0,none⟩):=seen.kp 11 _ (nd 11 (by decide)) rfl
   exact Rg.op_value rfl rfl (Rg.ex_field a.eval _ 41 (.tmp 11) 2 rfl (by rw [e11]; simp [go_sem])) (hK _ _ rfl (Below.refl _ _) fun _ _ _ _ _ _ _ h=>h)
  ·obtain rfl:=Option.some.inj ho
   have e89:a.eval (.tmp 89)=.pointer (some ⟨b11,3,none⟩):=seen.at_ ⟨1,.data⟩ (by simp) rfl (Or.inr (by decide))
   have y3:=(H11.out.on hb).cell 3
   simp only [List.getElem?_toArray,List.getElem?_cons_zero,List.getElem?_cons_succ] at y3
   exact Rg.op_value rfl rfl (Rg.ex_load a.eval _ 3 (.tmp 89) rfl (by rw [e89]; simp [go_sem,y3])) (hK _ _ rfl (Below.refl _ _) fun _ _ _ _ _ _ _ h=>h)
  ·obtain rfl:=Option.some.inj ho
   have e12:a.eval (.tmp 12)=.pointer (some ⟨b12,0,none⟩):=seen.kp 12 _ (nd 12 (by decide)) rfl
   obtain⟨y0,y1,y2,y3,y4,y5,y6⟩:=(H12.out.on hb).cs7
   exact Rg.op_value rfl rfl (Rg.ex_load a.eval _ 43 (.tmp 12) rfl (by rw [e12]; simp [go_sem,y0,y1,y2,y3,y4,y5,y6])) (hK _ _ rfl (Below.refl _ _) fun _ _ _ _ _ _ _ h=>h)
  ·obtain rfl:=Option.some.inj ho
   have e91:a.eval (.tmp 91)=.agg #[.int .i64 c,.int .i64 d,.int .i64 c2,.int .i64 d2,.slice po pn pc,.int .i64 fr,.bool up]:=seen.at_ ⟨3,.data⟩ (by simp) rfl (Or.inr (by decide))
   exact Rg.op_call rfl rfl (ex_call1 a.eval _ (.tmp 91) 43 96 rfl e91 rfl _ (call_fn Tryz.func96 rfl rfl _ _)) (sub_any (c,d,c2,d2,(po,pn,pc),fr,up) x) fun e w1 h=>by
    obtain⟨rfl,h3⟩:=h
    exact⟨_,rfl,hK _ _ rfl (h3.mono hb.size) fun j u _ _ _ _ _ h=>stab j u _ _ h h3⟩
  ·obtain rfl:=Option.some.inj ho
   have e90:a.eval (.tmp 90)=.int .i64 to_:=seen.at_ ⟨2,.data⟩ (by simp) rfl (Or.inr (by decide))
   have e92:a.eval (.tmp 92)=.agg #[.int .i64 3,.int .i64 c,.int .i64 d,.int .i64 c2,.int .i64 d2,.slice po pn pc,.slice none 0 0]:=seen.at_ ⟨4,.data⟩ (by simp) rfl (Or.inr (by decide))
   exact Rg.op_value rfl rfl (Rg.ex_buildS a.eval _ 141 #[(0,.tmp 90),(1,.tmp 92)] rfl (ps:=#[(0,.int .i64 to_),(1,.agg #[.int .i64 3,.int .i64 c,.int .i64 d,.int .i64 c2,.int .i64 d2,.slice po pn pc,.slice none 0 0])]) (by simp only [List.map_toArray,List.map_cons,List.map_nil,e90,e92]) (by simp [go_sem])) (hK _ _ rfl (Below.refl _ _) fun _ _ _ _ _ _ _ h=>h)
  ·obtain rfl:=Option.some.inj ho
   have e93:a.eval (.tmp 93)=valU (to_,3,c,d,c2,d2,(po,pn,pc),(none,0,0)):=seen.at_ ⟨5,.data⟩ (by simp) rfl (Or.inr (by decide))
   have hl:=row_lit okU x [((to_,3,c,d,c2,d2,(po,pn,pc),(none,0,0)):XOu)] 1 rfl (by simp) (cellsU (to_,3,c,d,c2,d2,(po,pn,pc),(none,0,0))).toArray (by simp [flat,EU])
   have nb:=newB x (.cells (cellsU (to_,3,c,d,c2,d2,(po,pn,pc),(none,0,0))).toArray 141)
   exact Rg.op_value rfl rfl (Rg.ex_build a.eval _ 78 1 #[(0,.tmp 93)] rfl (ps:=#[(0,valU (to_,3,c,d,c2,d2,(po,pn,pc),(none,0,0)))]) (by simp [e93]) (by simp [go_sem])) (hK (.slice (some ⟨x.heap.size,0,none⟩) 1 1) (x.alloc (.cells (cellsU (to_,3,c,d,c2,d2,(po,pn,pc),(none,0,0))).toArray 141)) (own_fewer hl hb.size) (nb.mono hb.size) fun j u _ _ _ _ _ h=>stab j u _ _ h nb)
 ·intro kk o h1 h2 ho
  rcases (by omega:kk=8) with rfl
  ·obtain rfl:=Option.some.inj ho
   exact⟨⟨7,.data⟩,by simp,rfl,rfl⟩
 ·intro a w' df sz kp ⟨vs,hv⟩ hb
  have sz':a.tmps.size=99:=sz
  have g88:a.tmps[88]?=some (rv):=by
   have h:vs 0=rv:=(hv 0 (by omega)).2 (by decide)
   rw [← h]
   exact (hv 0 (by omega)).1
  have g94:a.tmps[94]?=some (vs 6):=(hv 6 (by omega)).1
  have G94:=(hv 6 (by omega)).2 (by decide)
  have o94:OwnU w' W.heap.size (vs 6) [(to_,3,c,d,c2,d2,(po,pn,pc),(none,0,0))]:=G94
  generalize vs 6=v6 at *
  obtain⟨v',x',r,o',gr⟩:=app_rowL okU F0 (own_on HO.out hb) (Row.of_own o94) HL.out (by simp) (Nat.le_trans FW.out hb.size) 78
  show Rg.SeqFrom _ _ _ 2 7 a w'
  simp only [Rg.SeqFrom]
  refine Rg.op_value rfl rfl (Rg.ex_append a.eval _ (.tmp 88) (.tmp 94) 78 rfl (Rg.eval_some g88) (Rg.eval_some g94) r) ?_
  have e95:(a.put (some 95) v').eval (.tmp 95)=v':=Rg.eval_some (by simp [Act.put,sz'])
  refine Rg.op_value rfl rfl (Rg.ex_assign _ _ (.tmp 95) rfl x') ?_
  show Q .normal ((a.put (some 95) v').put (some 9) ((a.put (some 95) v').eval (.tmp 95))) x'
  rw [e95]
  show Q .normal ((a.put (some 95) v').put (some 9) v') x'
  have ka:∀ j,j≠95→j≠9→((a.put (some 95) v').put (some 9) v').tmps[j]?=a.tmps[j]?:=fun j h1 h2=>by rw [Rg.get_put _ _ _ _ (by omega),Rg.get_put _ _ _ _ (by omega)]
  have kt:((a.put (some 95) v').put (some 9) v').tmps[9]?=some (v'):=by simp [Act.put,sz']
  have kp2:∀ j,(j<88∨96≤j)→((a.put (some 95) v').put (some 9) v').tmps[j]?=(u0::u1::u2::u3::u4::u5::u6::u7::u8::v'::u10::.pointer (some ⟨b11,0,none⟩)::.pointer (some ⟨b12,0,none⟩)::u13::u14::u15::u16::u17::u18::u19::u20::u21::u22::u23::u24::u25::u26::u27::u28::u29::u30::u31::u32::u33::u34::u35::u36::u37::u38::u39::u40::u41::u42::u43::u44::u45::u46::u47::u48::u49::u50::u51::u52::u53::u54::u55::u56::u57::u58::u59::u60::u61::u62::u63::u64::u65::u66::u67::u68::u69::u70::u71::u72::u73::u74::u75::u76::u77::u78::u79::u80::u81::u82::u83::u84::u85::u86::u87::u88::u89::u90::u91::u92::u93::u94::u95::u96::u97::u98::[])[j]?:=fun j hj=>by
   by_cases hj2:j=9
   ·subst hj2
    exact kt
   ·have hs:(u0::u1::u2::u3::u4::u5::u6::u7::u8::v'::u10::.pointer (some ⟨b11,0,none⟩)::.pointer (some ⟨b12,0,none⟩)::u13::u14::u15::u16::u17::u18::u19::u20::u21::u22::u23::u24::u25::u26::u27::u28::u29::u30::u31::u32::u33::u34::u35::u36::u37::u38::u39::u40::u41::u42::u43::u44::u45::u46::u47::u48::u49::u50::u51::u52::u53::u54::u55::u56::u57::u58::u59::u60::u61::u62::u63::u64::u65::u66::u67::u68::u69::u70::u71::u72::u73::u74::u75::u76::u77::u78::u79::u80::u81::u82::u83::u84::u85::u86::u87::u88::u89::u90::u91::u92::u93::u94::u95::u96::u97::u98::[]:List Value)=(u0::u1::u2::u3::u4::u5::u6::u7::u8::rv::u10::.pointer (some ⟨b11,0,none⟩)::.pointer (some ⟨b12,0,none⟩)::u13::u14::u15::u16::u17::u18::u19::u20::u21::u22::u23::u24::u25::u26::u27::u28::u29::u30::u31::u32::u33::u34::u35::u36::u37::u38::u39::u40::u41::u42::u43::u44::u45::u46::u47::u48::u49::u50::u51::u52::u53::u54::u55::u56::u57::u58::u59::u60::u61::u62::u63::u64::u65::u66::u67::u68::u69::u70::u71::u72::u73::u74::u75::u76::u77::u78::u79::u80::u81::u82::u83::u84::u85::u86::u87::u88::u89::u90::u91::u92::u93::u94::u95::u96::u97::u98::[]).set 9 (v'):=rfl
    rw [hs,List.getElem?_set_ne (Ne.symm hj2)]
    exact (ka j (by omega) hj2).trans ((kp j (nd j fun i hi h=>by have:=(by decide:∀ i,i<7→88≤[88,89,90,91,92,93,94].getD i 0∧[88,89,90,91,92,93,94].getD i 0<96) i hi; omega)).trans List.getElem?_toArray)
  obtain⟨mid,hmid,hfr⟩:=Rg.frame_mid (a:=(a.put (some 95) v').put (some 9) v') 88 8 (by simp [Act.put,df]) (by simp [Act.put,sz']) (by simp) kp2
  rw [hfr]
  match mid,hmid with
  | [v88,v89,v90,v91,v92,v93,v94,v95],_ =>
   exact HQ.out w' x' _ _ _ _ _ _ _ _ _ hb gr o'
end Go.Proofs.YtncogjpmboglhaaGreat.Bk
namespace Go.Proofs.YtncogjpmboglhaaGreat.Av
open Go.RowKit Go.ChangeShapes Go.WideShapes Bk
theorem trodSt {H:Type} {enc:TypeId×Value→H} {W:World} {sp:Nat→Bool} {held:Bool} {fuel:Nat} {g1:Value} {x:DataW H×List MemPlace}
  (hf:DataW.trod enc Tryz.prog W 0 sp held fuel 22 [g1]=some x):∃ n:Nat,n≤maxLen∧InSt W g1 n:=by
 rcases Deep.open_slice Tryz.underlying22 hf with⟨h1,_⟩|⟨a,len,cap,m,n,D,Pl,h1,_,h3,h4,h5,_,hx⟩
 ·have e:g1=.slice none 0 0:=by simpa using h1
  exact⟨0,Nat.zero_le _,⟨none,0,e⟩,fun i hi=>by omega⟩
 ·have e:g1=.slice (some a) len cap:=by simpa using h1
  rw [e]
  have hle:len≤m:=by rw [h5]; split <;> omega
  refine⟨len,by omega,⟨some a,cap,rfl⟩,fun i hi=>?_⟩
  obtain⟨cs',k1,k2⟩:=hx i (by omega)
  obtain⟨xs,n',_,_,hcl,hxl,hy⟩:=DataW.trod_struct Tryz.underlying74 k2
  rw [cellsSt] at hcl k1
  match cs',hcl with
  | [c0,c1,c2,c3,c4,c5,d1],_ =>
   have f0:DataW.trod enc Tryz.prog W 0 sp held n' 3 (([c0,c1,c2,c3,c4,c5,d1].drop 0).take (Tryz.prog.cellsOf 3))=xs[0]?:=hy 0 _ rfl
   have f1:DataW.trod enc Tryz.prog W 0 sp held n' 3 (([c0,c1,c2,c3,c4,c5,d1].drop 1).take (Tryz.prog.cellsOf 3))=xs[1]?:=hy 1 _ rfl
   have f2:DataW.trod enc Tryz.prog W 0 sp held n' 3 (([c0,c1,c2,c3,c4,c5,d1].drop 2).take (Tryz.prog.cellsOf 3))=xs[2]?:=hy 2 _ rfl
   have f3:DataW.trod enc Tryz.prog W 0 sp held n' 3 (([c0,c1,c2,c3,c4,c5,d1].drop 3).take (Tryz.prog.cellsOf 3))=xs[3]?:=hy 3 _ rfl
   have f4:DataW.trod enc Tryz.prog W 0 sp held n' 3 (([c0,c1,c2,c3,c4,c5,d1].drop 4).take (Tryz.prog.cellsOf 3))=xs[4]?:=hy 4 _ rfl
   have fp:DataW.trod enc Tryz.prog W 0 sp held n' 53 (([c0,c1,c2,c3,c4,c5,d1].drop 5).take (Tryz.prog.cellsOf 53))=xs[5]?:=hy 5 _ rfl
   have hxl':xs.length=5+1:=hxl
   simp only [In.cellsI,Pr.cellsP,List.drop_zero,List.drop_succ_cons,List.take_succ_cons,List.take_zero] at f0 f1 f2 f3 f4 fp
   rw [List.getElem?_eq_getElem (by omega)] at f0 f1 f2 f3 f4 fp
   obtain⟨m0,e0,_,w0⟩:=DataW.trod_int Tryz.underlying3 f0
   obtain⟨m1,e1,_,w1⟩:=DataW.trod_int Tryz.underlying3 f1
   obtain⟨m2,e2,_,w2⟩:=DataW.trod_int Tryz.underlying3 f2
   obtain⟨m3,e3,_,w3⟩:=DataW.trod_int Tryz.underlying3 f3
   obtain⟨m4,e4,_,w4⟩:=DataW.trod_int Tryz.underlying3 f4
   simp only [List.cons.injEq,and_true] at e0 e1 e2 e3 e4
   subst e0 e1 e2 e3 e4
   obtain⟨ys,n2,_,_,_,hyl,hp⟩:=DataW.trod_struct Tryz.underlying53 fp
   have hyl':ys.length=2:=hyl
   have q0:DataW.trod enc Tryz.prog W 0 sp held n2 25 (([c5,d1].drop 0).take (Tryz.prog.cellsOf 25))=ys[0]?:=hp 0 _ rfl
   have q1:DataW.trod enc Tryz.prog W 0 sp held n2 25 (([c5,d1].drop 1).take (Tryz.prog.cellsOf 25))=ys[1]?:=hp 1 _ rfl
   simp only [Pr.cellsIs,List.drop_zero,List.drop_succ_cons,List.take_succ_cons,List.take_zero] at q0 q1
   rw [List.getElem?_eq_getElem (by omega)] at q0 q1
   obtain⟨has,l1,i1⟩:=In.in_trod q0
   obtain⟨vals,l2,i2⟩:=In.in_trod q1
   obtain⟨x1,y1,rfl⟩:=i1.shape
   obtain⟨x2,y2,rfl⟩:=i2.shape
   obtain⟨_,_,k3⟩:=World.cells?_some k1
   have k0:=k3 0 (by decide)
   rw [Rw.add_zero] at k0
   refine⟨a.add (i * 7),m0,m1,m2,m3,m4,x1,_,y1,x2,_,y2,has,vals,World.block_lt_of_cell? W _ k0,fun w=>indexSt a i len cap hi w,fun j u hu=>?_,⟨In.lits_bd w0,In.lits_bd w1,In.lits_bd w2,In.lits_bd w3,In.lits_bd w4⟩,i1,i2,l1,l2⟩
   have hj:j<7:=(List.getElem?_eq_some_iff.1 hu).1
   rw [← hu]
   exact k3 j hj
theorem cellsBrK:Tryz.prog.cellsOf 24=2:=by kernel_rfl
theorem cellsSts:Tryz.prog.cellsOf 22=1:=by kernel_rfl
theorem litBdA {n:Int} (h:(Lit.int .i64 n).wf=true):-9223372036854775808≤n∧n≤9223372036854775807:=by
 have h2:(decide (IntKind.i64.min≤n) && decide (n≤IntKind.i64.max))=true:=h
 rw [Bool.and_eq_true,decide_eq_true_eq,decide_eq_true_eq,show IntKind.i64.min=-9223372036854775808 by decide,show IntKind.i64.max=9223372036854775807 by decide] at h2
 exact h2
theorem open_brk {H:Type} {enc:TypeId×Value→H} {W:World} {r:Reach} {b0:Nat} {sp:Nat→Bool} {held:Bool} {v:Value} {d:DataW H} {ps:List MemPlace}
  (hval:Value.okWide Tryz.prog W r b0 24 v) (hd:DataW.Trod enc Tryz.prog W 0 sp held 24 v d ps) :
  ∃ (zn:Int) (u:Value) (n:Nat),v=.agg #[.int .i64 zn,u]∧-9223372036854775808≤zn∧zn≤9223372036854775807∧n≤maxLen∧InSt W u n:=by
 obtain⟨cs,rfl,hsz⟩:=okWide_struct Tryz.underlying24 hval
 obtain⟨fuel,hf⟩:=hd
 obtain⟨xs,n,_,_,_,hxl,hx⟩:=DataW.trod_struct Tryz.underlying24 hf
 rw [cellsBrK] at hsz
 obtain⟨l⟩:=cs
 match l,hsz with
 | [c0,c1],_ =>
  have f0:DataW.trod enc Tryz.prog W 0 sp held n 3 (([c0,c1].drop 0).take (Tryz.prog.cellsOf 3))=xs[0]?:=hx 0 _ rfl
  have f1:DataW.trod enc Tryz.prog W 0 sp held n 22 (([c0,c1].drop 1).take (Tryz.prog.cellsOf 22))=xs[1]?:=hx 1 _ rfl
  have hxl':xs.length=2:=hxl
  simp only [In.cellsI,cellsSts,List.drop_zero,List.drop_succ_cons,List.take_succ_cons,List.take_zero] at f0 f1
  rw [List.getElem?_eq_getElem (by omega)] at f0 f1
  obtain⟨m0,e0,_,w0⟩:=DataW.trod_int Tryz.underlying3 f0
  simp only [List.cons.injEq,and_true] at e0
  subst e0
  obtain⟨k,h1,h2⟩:=trodSt f1
  exact⟨m0,c1,k,rfl,(litBdA w0).1,(litBdA w0).2,h1,h2⟩
end Go.Proofs.YtncogjpmboglhaaGreat.Av
