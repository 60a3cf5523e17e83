/-
  slices.BinarySearch . Conditions as told.
-/
import Derived.Test.YtncogjpmboglhaaGreatF013
import Derived.Test.YtncogjpmboglhaaGreatF012
import Derived.Deep.LoopGhost
import Derived.Test.YtncogjpmboglhaaGreatF019
import Derived.Test.YtncogjpmboglhaaGreatF023
import Derived.Test.YtncogjpmboglhaaGreatF018
import Derived.Test.YtncogjpmboglhaaGreatF014
import Derived.Test.YtncogjpmboglhaaGreatF008
import Derived.Test.YtncogjpmboglhaaGreatF010
set_option maxRecDepth 100000
set_option maxHeartbeats 64000000
namespace Go.Proofs.YtncogjpmboglhaaGreat.Av
open Go.RowKit Go.Sort Rw YtncogjpmboglhaaGreat.Nm Pr Bk
def comesB (near:List Int) (f:Int):Bool:=decide (f∈near) || f == -1
end Go.Proofs.YtncogjpmboglhaaGreat.Av
namespace Go.Proofs.YtncogjpmboglhaaGreat.Rl
open Go.RowKit Go.Sort Pu Rw Pr Va
abbrev z5:C5:=(⟨#[]⟩,0,0,0,⟨#[]⟩)
def ofV:Option Cn→Value
 | some y=>.tuple #[cv (r5 y),.bool true]
 | none=>.tuple #[cv z5,.bool false]
theorem of_any (pv:Value) (p:List Cn) (n:ByteArray) (w:World) (hp:RowC w pv (p.map r5)) (_h100:p.length≤100) :
  Calls Tryz.prog 149 #[pv,.string n] w fun e w'=>e=.returned (ofV (ofC p n))∧Below w.heap.size w w':=by
 have HP:=Lib.hid hp
 obtain⟨ao,ac,rfl⟩:=hp.len
 rw [List.length_map] at HP ⊢
 generalize hm:p.length=m at *
 have HM:=Lib.hid hm
 clear hp hm
 have B0:=Lib.hid (show Below w.heap.size w (w.alloc (.cells #[.string ⟨#[]⟩,.int .i64 0,.int .i64 0,.int .i64 0,.string ⟨#[]⟩] 47)) from (Below.refl _ _).alloc (Nat.le_refl _) _)
 have Z0:=Lib.hid (show Box (w.alloc (.cells #[.string ⟨#[]⟩,.int .i64 0,.int .i64 0,.int .i64 0,.string ⟨#[]⟩] 47)) w.heap.size (cells5 z5).toArray 47 from box_new w _ _)
 go_enter Tryz.func149,Tryz.ntmps149
 go_wp2
 generalize w.alloc (.cells #[.string ⟨#[]⟩,.int .i64 0,.int .i64 0,.int .i64 0,.string ⟨#[]⟩] 47)=w1 at B0 Z0 ⊢
 go_loopw [10] (fun i wr=>∃ k:Nat,k≤m∧i=.int .i64 k∧Below w.heap.size w wr∧Box wr w.heap.size (cells5 z5).toArray 47∧∀ (j:Nat) (y:Cn),j<k→p[j]?=some y→y.1≠n) (fun i _=>m-(intOf i).toNat)
 case atStart=>exact⟨0,Nat.zero_le _,rfl,B0.out,Z0.out,fun j y h=>by omega⟩
 case round =>
  obtain⟨k,hk,rfl,hb,ht,hall⟩:=hrel
  have HB:=Lib.hid hb
  have HT:=Lib.hid ht
  have AL:=Lib.hid hall
  clear hb hall ht
  by_cases hlt:k<m
  ·obtain⟨⟨xn,xk⟩,hx⟩:∃ x,p[k]?=some x:=⟨_,List.getElem?_eq_getElem (by rw [HM.out]; exact hlt)⟩
   obtain⟨q,ix,px⟩:=elC (x:=r5 (xn,xk)) HP.out rfl (by rw [List.length_map]; exact HM.out) (by rw [List.getElem?_map,hx]; rfl)
   obtain⟨p0,p1,p2,p3,p4⟩:=px _ HB.out
   have HX:=Lib.hid hx
   have B4:=Lib.hid (HB.out.alloc HB.out.size (.cells #[.string xn,.int .i64 (kN xk),.int .i64 (kLo xk),.int .i64 (kHi xk),.string (kT xk)] 47))
   have T4:=Lib.hid (HT.out.more (.cells #[.string xn,.int .i64 (kN xk),.int .i64 (kLo xk),.int .i64 (kHi xk),.string (kT xk)] 47))
   clear hx px
   simp only [r5] at p0 p1 p2 p3 p4
   by_cases he:xn=n
   ·have hn:(xn.toList == n.toList)=true:=by rw [he]; exact beq_self_eq_true _
    have R:=Lib.hid (of_at HX.out he AL.out)
    clear he
    obtain⟨c0,c1,c2,c3,c4⟩:=box_five HT.out
    have f0:=HT.out.fr 0
    have f1:=HT.out.fr 1
    have f2:=HT.out.fr 2
    have f3:=HT.out.fr 3
    have f4:=HT.out.fr 4
    have hlt4:=HT.out.lt
    simp only at c0 c1 c2 c3 c4
    go_wp2
    have T5:=(box_store HT.out (xn,kN xk,kLo xk,kHi xk,kT xk)).more (.cells #[.string xn,.int .i64 (kN xk),.int .i64 (kLo xk),.int .i64 (kHi xk),.string (kT xk)] 47)
    have B5:=(below_five HB.out w.heap.size (Nat.le_refl _) (.string xn) (.int .i64 (kN xk)) (.int .i64 (kLo xk)) (.int .i64 (kHi xk)) (.string (kT xk))).alloc (below_five HB.out w.heap.size (Nat.le_refl _) (.string xn) (.int .i64 (kN xk)) (.int .i64 (kLo xk)) (.int .i64 (kHi xk)) (.string (kT xk))).size (.cells #[.string xn,.int .i64 (kN xk),.int .i64 (kLo xk),.int .i64 (kHi xk),.string (kT xk)] 47)
    generalize World.alloc _ (.cells #[.string xn,.int .i64 (kN xk),.int .i64 (kLo xk),.int .i64 (kHi xk),.string (kT xk)] 47)=w6 at T5 B5 ⊢
    obtain⟨d0,d1,d2,d3,d4⟩:=box_five T5
    simp only at d0 d1 d2 d3 d4
    refine bodyPost_ret (v:=ofV (some (xn,xk))) (by simp [results,Tryz.results149,go_sem,d0,d1,d2,d3,d4,ofV,r5]) rfl ⟨by rw [R.out],B5⟩
   ·have hn:(xn.toList == n.toList)=false:=by rw [beq_eq_false_iff_ne]; exact fun h=>he (name_inj h)
    have HE:=Lib.hid he
    clear he
    go_wp2
    go_roundw
    case rel=>exact⟨k+1,by omega,by go_num,B4.out,T4.out,fun j y hj hy=>by
     rcases Nat.lt_or_ge j k with h3|h3
     ·exact AL.out j y h3 hy
     ·obtain rfl:j=k:=by omega
      have e:=HX.out
      rw [hy] at e
      rw [Option.some.inj e]
      exact HE.out⟩
    case measure=>simp [intOf]; omega
  ·obtain rfl:k=m:=by omega
   have R:=Lib.hid (of_none (p:=p) (n:=n) (fun j y hj hy=>AL.out j y (by rw [← HM.out]; exact hj) hy))
   obtain⟨c0,c1,c2,c3,c4⟩:=box_five HT.out
   have f0:=HT.out.fr 0
   have f1:=HT.out.fr 1
   have f2:=HT.out.fr 2
   have f3:=HT.out.fr 3
   have f4:=HT.out.fr 4
   have hlt4:=HT.out.lt
   simp only at c0 c1 c2 c3 c4
   go_wp2
   have T5:=box_store HT.out z5
   have B5:=below_five HB.out w.heap.size (Nat.le_refl _) (.string ⟨#[]⟩) (.int .i64 0) (.int .i64 0) (.int .i64 0) (.string ⟨#[]⟩)
   simp only at T5
   generalize World.setCell _ _ (.string ⟨#[]⟩)=w6 at T5 B5 ⊢
   obtain⟨d0,d1,d2,d3,d4⟩:=box_five T5
   simp only at d0 d1 d2 d3 d4
   refine bodyPost_ret (v:=ofV none) (by simp [results,Tryz.results149,go_sem,d0,d1,d2,d3,d4,ofV]) rfl ⟨by rw [R.out],B5⟩
theorem wider_any (n:ByteArray) (c d:Kd) (w:World) (hc:goodK c=true) (hd:goodK d=true) :
  Calls Tryz.prog 150 #[cv (r5 (n,c)),cv (r5 (n,d))] w fun e w'=>e=.returned (.bool (impliesK d c))∧Below w.heap.size w w':=by
 obtain⟨ba,bb,hb⟩:=box2 w (r5 (n,c)) (r5 (n,d))
 have BB:=Lib.hid bb
 have B:=Lib.hid hb
 have CB:=Lib.hid (both_any (n,c) (n,d) ((w.alloc (.cells (cells5 (r5 (n,c))).toArray 47)).alloc (.cells (cells5 (r5 (n,d))).toArray 47)) rfl)
 have WS:=Lib.hid (fun k (h:bothK c d=some k)=>wider_some (n:=n) hc hd h)
 have WN:=Lib.hid (fun (h:bothK c d=none)=>wider_none hd h)
 simp only at CB
 generalize bothK c d=r at *
 generalize impliesK d c=i at *
 clear ba bb hb hc hd
 simp only [r5] at CB ⊢
 go_enter Tryz.func150,Tryz.ntmps150
 go_wp2_with fail
 refine CB.out.mono ?_
 rintro e w2 ⟨⟨y,rfl,hy⟩,hb2⟩
 have B2:=Lib.hid (B.out.trans (hb2.mono B.out.size))
 obtain⟨b0,b1,b2,b3,b4⟩:=box_five (BB.out.on hb2)
 simp only [r5] at b0 b1 b2 b3 b4
 have B3:=Lib.hid (B2.out.alloc B2.out.size (.cells #[.string y.1,.int .i64 y.2.1,.int .i64 y.2.2.1,.int .i64 y.2.2.2.1,.string y.2.2.2.2] 47))
 have HY:=Lib.hid hy
 have hw2:w.heap.size+1<w2.heap.size:=by have:=hb2.size; simp at this; omega
 clear hb2 CB BB B hy
 rcases r with _|k
 ·have E:=Lib.hid (WN.out rfl)
  clear WN WS
  go_wp2
  go_ret
  exact⟨ret_bool E.out.symm,B3.out⟩
 ·have E:=Lib.hid (show eqlC y (r5 (n,d))=i by rw [HY.out k rfl]; exact WS.out k rfl)
  obtain⟨y0,y1,y2,y3,y4⟩:=y
  clear WN WS HY B3
  go_wp2
  all_goals go_ret
  all_goals exact⟨ret_bool (by rw [← E.out]; simp [eqlC,r5, *]),B2.out.alloc B2.out.size _⟩
theorem all_end {α:Type} (f:α→Bool) (l:List α) (m:Nat) (h:l.length=m):(l.take m).all f=l.all f:=by rw [← h,List.take_length]
theorem covers_any (pv qv:Value) (p b:List Cn) (w:World) (hp:RowC w pv (p.map r5)) (hl:RowC w qv (b.map r5)) (np:NF p) (nb:NF b) :
  Calls Tryz.prog 114 #[pv,qv] w fun e w'=>e=.returned (.bool (coversL p b))∧Below w.heap.size w w':=by
 have CO:=Lib.hid (covers_of (a:=p) nb.rise)
 have HP:=Lib.hid hp
 have HL:=Lib.hid hl
 have h5:b.length≤100:=by have:=nb.five; omega
 have GP:=Lib.hid np.goodK
 have GB:=Lib.hid nb.goodK
 have m5:p.length≤5:=np.five
 obtain⟨ao,ac,rfl⟩:=hp.len
 rw [List.length_map] at HP ⊢
 generalize hm:p.length=m at *
 have HM:=Lib.hid hm
 generalize coversL p b=r at *
 clear hp hl hm np nb
 go_enter Tryz.func114,Tryz.ntmps114
 go_wp2
 go_loopw [11] (fun i wr=>∃ k:Nat,k≤m∧i=.int .i64 k∧Below w.heap.size w wr∧(p.take k).all (covO b)=true) (fun i _=>m-(intOf i).toNat)
 case atStart=>exact⟨0,Nat.zero_le _,rfl,Below.refl _ _,rfl⟩
 case round =>
  obtain⟨k,hk,rfl,hb,hall⟩:=hrel
  have HB:=Lib.hid hb
  have AL:=Lib.hid hall
  clear hb hall
  by_cases hlt:k<m
  ·obtain⟨⟨xn,xk⟩,hx⟩:∃ x,p[k]?=some x:=⟨_,List.getElem?_eq_getElem (by rw [HM.out]; exact hlt)⟩
   obtain⟨q,ix,px⟩:=elC (x:=r5 (xn,xk)) HP.out rfl (by rw [List.length_map]; exact HM.out) (by rw [List.getElem?_map,hx]; rfl)
   obtain⟨p0,p1,p2,p3,p4⟩:=px _ HB.out
   have MO:=Lib.hid (all_more (covO b) p k (xn,xk) hx)
   have NO:=Lib.hid (fun h=>all_not (covO b) p k (xn,xk) hx h)
   have GX:=Lib.hid (GP.out _ (List.mem_of_getElem? hx))
   have BX:=Lib.hid (show Box (wr.alloc (.cells #[.string xn,.int .i64 (kN xk),.int .i64 (kLo xk),.int .i64 (kHi xk),.string (kT xk)] 47)) wr.heap.size (cells5 (xn,kN xk,kLo xk,kHi xk,kT xk)).toArray 47 from box_new wr _ _)
   have B1:=Lib.hid (HB.out.alloc HB.out.size (.cells #[.string xn,.int .i64 (kN xk),.int .i64 (kLo xk),.int .i64 (kHi xk),.string (kT xk)] 47))
   have G:=Lib.hid (of_any qv b xn (wr.alloc (.cells #[.string xn,.int .i64 (kN xk),.int .i64 (kLo xk),.int .i64 (kHi xk),.string (kT xk)] 47)) (HL.out.on B1.out) h5)
   have GC:=Lib.hid (show covO b (xn,xk)=match ofC b xn with
    | some y=>impliesK y.2 xk
    | none=>false from rfl)
   obtain⟨gg,hgg⟩:∃ g,covO b (xn,xk)=g:=⟨_,rfl⟩
   rw [hgg] at GC MO NO
   simp only [r5] at p0 p1 p2 p3 p4
   clear hx px hgg
   go_wp2_with fail
   refine G.out.mono ?_
   rintro e2 w2 ⟨he2,hb2⟩
   have B2:=Lib.hid (B1.out.trans (hb2.mono B1.out.size))
   obtain⟨x0,x1,x2,x3,x4⟩:=box_five (BX.out.on hb2)
   simp only at x0 x1 x2 x3 x4
   have hwl:wr.heap.size<w2.heap.size:=by have:=hb2.size; simp at this; omega
   rcases hg:ofC b xn with _|⟨yn,yk⟩
   ·rw [hg] at he2 GC
    subst he2
    have R:=Lib.hid (show r=false by rw [CO.out]; exact NO.out GC.out)
    clear hb2 G B1 BX ix p0 p1 p2 p3 p4 hg
    unfold ofV
    go_wp2
    go_ret
    exact⟨ret_bool R.out.symm,B2.out.alloc B2.out.size _⟩
   ·obtain⟨hm1,hm2⟩:=of_mem hg
    obtain rfl:yn=xn:=hm2
    rw [hg] at he2 GC
    subst he2
    have WC:=Lib.hid (fun W=>wider_any yn xk yk W GX.out (GB.out _ hm1))
    simp only [r5] at WC
    clear hb2 G B1 BX ix p0 p1 p2 p3 p4 hg hm1
    unfold ofV
    simp only [r5]
    go_wp2_with fail
    refine (WC.out _).mono ?_
    rintro e3 w3 ⟨rfl,hb3⟩
    have B3:=Lib.hid ((B2.out.alloc B2.out.size (.cells #[.string yn,.int .i64 (kN yk),.int .i64 (kLo yk),.int .i64 (kHi yk),.string (kT yk)] 47)).trans (hb3.mono (B2.out.alloc B2.out.size (.cells #[.string yn,.int .i64 (kN yk),.int .i64 (kLo yk),.int .i64 (kHi yk),.string (kT yk)] 47)).size))
    rw [← GC.out]
    clear hb3 B2 x0 x1 x2 x3 x4 hwl WC
    cases gg
    ·have R:=Lib.hid (show r=false by rw [CO.out]; exact NO.out rfl)
     go_wp2
     go_ret
     exact⟨ret_bool R.out.symm,B3.out⟩
    ·go_wp2
     go_roundw
     case rel=>exact⟨k+1,by omega,by go_num,B3.out,by rw [MO.out,AL.out]; rfl⟩
     case measure=>simp [intOf]; omega
  ·obtain rfl:k=m:=by omega
   have R:=Lib.hid (show r=true by rw [CO.out,← all_end _ p _ HM.out]; exact AL.out)
   go_wp2
   go_ret
   exact⟨ret_bool R.out.symm,HB.out⟩
end Go.Proofs.YtncogjpmboglhaaGreat.Rl
namespace Go.Proofs.YtncogjpmboglhaaGreat.Sb
open Go.RowKit Go.Sort Rw YtncogjpmboglhaaGreat.Nm Pr Bk Av
abbrev setE (W:World) (b:Nat) (a0 a1 a2 a3 a4 a5 a6:Value):World:=((((((W.setCell ⟨b,0,none⟩ a0).setCell ⟨b,1,none⟩ a1).setCell ⟨b,2,none⟩ a2).setCell ⟨b,3,none⟩ a3).setCell ⟨b,4,none⟩ a4).setCell ⟨b,5,none⟩ a5).setCell ⟨b,6,none⟩ a6
theorem setE_box {W:World} {b:Nat} {t:TypeId} {z0 z1 z2 z3 z4 z5 z6:Value} (h:Box W b #[z0,z1,z2,z3,z4,z5,z6] t) (a0 a1 a2 a3 a4 a5 a6:Value):Box (setE W b a0 a1 a2 a3 a4 a5 a6) b #[a0,a1,a2,a3,a4,a5,a6] t:=by
 have h2:=box_set (k:=6) (box_set (k:=5) (box_set (k:=4) (box_set (k:=3) (box_set (k:=2) (box_set (k:=1) (box_set (k:=0) h a0) a1) a2) a3) a4) a5) a6
 simpa using h2
theorem setE_below {B:Nat} {W0 W:World} {b:Nat} (h:Below B W0 W) (hb:B≤b) (a0 a1 a2 a3 a4 a5 a6:Value):Below B W0 (setE W b a0 a1 a2 a3 a4 a5 a6):=(((((((h).setCell (p:=⟨b,0,none⟩) hb a0).setCell (p:=⟨b,1,none⟩) hb a1).setCell (p:=⟨b,2,none⟩) hb a2).setCell (p:=⟨b,3,none⟩) hb a3).setCell (p:=⟨b,4,none⟩) hb a4).setCell (p:=⟨b,5,none⟩) hb a5).setCell (p:=⟨b,6,none⟩) hb a6
theorem setE_own {α:Type} {E:Ek α} {W:World} {B:Nat} {v:Value} {l:List α} (h:Own E W B v l) (b:Nat) (hb:b<B) (a0 a1 a2 a3 a4 a5 a6:Value):Own E (setE W b a0 a1 a2 a3 a4 a5 a6) B v l :=
 own_cell (own_cell (own_cell (own_cell (own_cell (own_cell (own_cell (h) b 0 a0 hb) b 1 a1 hb) b 2 a2 hb) b 3 a3 hb) b 4 a4 hb) b 5 a5 hb) b 6 a6 hb
theorem but_setE (w:World) (b:Nat) (a0 a1 a2 a3 a4 a5 a6:Value):But b w (setE w b a0 a1 a2 a3 a4 a5 a6) :=
 ((((((but_cell _ b _ _).trans (but_cell _ b _ _)).trans (but_cell _ b _ _)).trans (but_cell _ b _ _)).trans (but_cell _ b _ _)).trans (but_cell _ b _ _)).trans (but_cell _ b _ _)
theorem cpE_any (x:XEn) (p:List C5) (w:World) (hp:RowC w (slv x.2.2.2.2.1) p) (hl:p.length≤900) :
  Calls Tryz.prog 75 #[valN x] w fun e w'=>(∃ v':Sl,e=.returned (valN (x.1,x.2.1,x.2.2.1,x.2.2.2.1,v',x.2.2.2.2.2.1,x.2.2.2.2.2.2))∧OwnC w' w.heap.size (slv v') p)∧Below w.heap.size w w':=by
 obtain⟨y1,y2,y3,y4,⟨s1,s2,s3⟩,y6,y7⟩:=x
 obtain⟨h0,X,Y⟩:=two_new w #[.int .i64 y1,.int .i64 y2,.int .i64 y3,.int .i64 y4,.slice s1 s2 s3,.int .i64 y6,.bool y7] #[.int .i64 0,.int .i64 0,.int .i64 0,.int .i64 0,.slice none 0 0,.int .i64 0,.bool false] 43 43
 have C:=Lib.hid (cloneC_any (s1,s2,s3) p _ (hp.on h0) hl)
 have B:=Lib.hid h0
 have x4:=X.cell 4
 simp only [List.getElem?_toArray,List.getElem?_cons_zero,List.getElem?_cons_succ] at x4
 have X:=Lib.hid X
 have Y:=Lib.hid Y
 clear h0 hp hl
 go_enter Tryz.func75,Tryz.ntmps75
 go_wp2_with fail
 generalize (w.alloc (.cells #[.int .i64 y1,.int .i64 y2,.int .i64 y3,.int .i64 y4,.slice s1 s2 s3,.int .i64 y6,.bool y7] 43)).alloc (.cells #[.int .i64 0,.int .i64 0,.int .i64 0,.int .i64 0,.slice none 0 0,.int .i64 0,.bool false] 43)=W at *
 refine C.out.mono ?_
 rintro e w1 ⟨⟨⟨u1,u2,u3⟩,rfl,ho⟩,hb⟩
 have X1:=X.out.on hb
 have Y1:=Y.out.on hb
 have hs:w.heap.size<W.heap.size:=X.out.lt
 have O1:=Lib.hid (own_cell ho w.heap.size 4 (.slice u1 u2 u3) hs)
 have XB:=Lib.hid (show Box _ _ #[.int .i64 y1,.int .i64 y2,.int .i64 y3,.int .i64 y4,.slice u1 u2 u3,.int .i64 y6,.bool y7] _ from by simpa using box_set (k:=4) X1 (.slice u1 u2 u3))
 have YB:=Lib.hid (show Box _ _ _ _ from (RowKit.Below.heap_setCell w1 ⟨w.heap.size,4,none⟩ (.slice u1 u2 u3) _ (show w.heap.size+1≠w.heap.size by omega)).trans Y1)
 have B1:=Lib.hid ((B.out.trans (hb.mono B.out.size)).setCell (p:=⟨w.heap.size,4,none⟩) (Nat.le_refl _) (.slice u1 u2 u3))
 have y4':=X1.cell 4
 have f4:=X1.fr 4
 have z4:=X1.lt
 simp only [List.getElem?_toArray,List.getElem?_cons_zero,List.getElem?_cons_succ] at y4'
 clear X1 Y1 ho hb x4 C
 go_upto_region 2 with fail
 clear y4' f4 z4
 generalize w1.setCell ⟨w.heap.size,4,none⟩ (.slice u1 u2 u3)=w2 at *
 obtain⟨x0,x1,x2,x3,x4,x5,x6⟩:=XB.out.cs7
 obtain⟨r0,r1,r2,r3,r4,r5,r6⟩:=YB.out.cs7
 obtain⟨t0,t1,t2,t3,t4,t5,t6⟩:=YB.out.fs7
 have zz:=YB.out.lt
 have hs2:w.heap.size+1<W.heap.size:=Y.out.lt
 have FB:=Lib.hid (setE_box YB.out (.int .i64 y1) (.int .i64 y2) (.int .i64 y3) (.int .i64 y4) (.slice u1 u2 u3) (.int .i64 y6) (.bool y7))
 have BL:=Lib.hid (setE_below (b:=w.heap.size+1) B1.out (by omega) (.int .i64 y1) (.int .i64 y2) (.int .i64 y3) (.int .i64 y4) (.slice u1 u2 u3) (.int .i64 y6) (.bool y7))
 have FO:=Lib.hid (setE_own O1.out (w.heap.size+1) hs2 (.int .i64 y1) (.int .i64 y2) (.int .i64 y3) (.int .i64 y4) (.slice u1 u2 u3) (.int .i64 y6) (.bool y7))
 have HS:=Lib.hid hs
 clear hs hs2
 go_wp2_with fail
 obtain⟨v0,v1,v2,v3,v4,v5,v6⟩:=FB.out.cs7
 refine bodyPost_ret (v:=.agg #[.int .i64 y1,.int .i64 y2,.int .i64 y3,.int .i64 y4,.slice u1 u2 u3,.int .i64 y6,.bool y7]) (by simp [results,Tryz.results75,go_sem,v0,v1,v2,v3,v4,v5,v6]) rfl ?_
 exact⟨⟨(u1,u2,u3),rfl,own_fewer FO.out (Nat.le_of_lt HS.out)⟩,BL.out⟩
end Go.Proofs.YtncogjpmboglhaaGreat.Sb
namespace Go.Proofs.YtncogjpmboglhaaGreat.Bk
open Go.RowKit Go.Sort Rw YtncogjpmboglhaaGreat.Nm Pr
def eqD (x y:Ad):Bool:=eqI x.id y.id && (x.par == y.par && sameC x.p y.p)
def eqW (x y:Ow):Bool:=eqI x.id y.id && sameC x.p y.p
theorem eqD_iff (x y:Ad):eqD x y=true↔x=y:=by
 obtain⟨a,b,c⟩:=x
 obtain⟨a',b',c'⟩:=y
 simp only [eqD,Bool.and_eq_true,eqI_iff,sameC_iff,beq_iff_eq,Ad.mk.injEq]
 constructor
 ·rintro⟨h1,h2,h3⟩
  exact⟨h1,h3,h2⟩
 ·rintro⟨h1,h2,h3⟩
  exact⟨h1,h3,h2⟩
theorem eqW_iff (x y:Ow):eqW x y=true↔x=y:=by
 obtain⟨a,b⟩:=x
 obtain⟨a',b'⟩:=y
 simp only [eqW,Bool.and_eq_true,eqI_iff,sameC_iff,Ow.mk.injEq]
def sameBr (a b:Br):Bool:=a.me == b.me && (decide (a.near=b.near) && (sameG eqI a.seen b.seen && (decide (a.adv.length=b.adv.length) && (decide (a.own.length=b.own.length) && (sameG eqE a.ent b.ent && (sameG eqD a.adv b.adv && sameG eqW a.own b.own))))))
theorem sameBr_iff (a b:Br):sameBr a b=true↔a=b:=by
 obtain⟨m,n,d,s,e,o⟩:=a
 obtain⟨m',n',d',s',e',o'⟩:=b
 simp only [sameBr,Bool.and_eq_true,beq_iff_eq,decide_eq_true_eq,sameG_iff eqI_iff,sameG_iff eqE_iff,sameG_iff eqD_iff,sameG_iff eqW_iff,Br.mk.injEq]
 constructor
 ·rintro⟨h1,h2,h3,_,_,h6,h7,h8⟩
  exact⟨h1,h2,h7,h3,h6,h8⟩
 ·rintro⟨h1,h2,h3,h4,h5,h6⟩
  exact⟨h1,h2,h4,by rw [h3],by rw [h6],h5,h3,h6⟩
def subs6V (B b2 _:Nat) (so:Option Addr) (sn sc at_:Nat) (lo hiv:Value) (z:XOw) (lt ld:List XOw) (i:Nat) (v:Value) (x:World):Prop :=
 match i with
 | 0=>∃ g,v=.slice (some ⟨g,0,none⟩) 0 0∧B≤g∧Box x g #[] 45
 | 1=>v=.pointer (some ⟨b2,5,none⟩)
 | 2=>v=.slice so sn sc
 | 3=>v=.int .i64 (at_:Int)
 | 4=>v=lo
 | 5=>OwnW x B v lt
 | 6=>v=idv (z.1,z.2.1)
 | 7=>v=slv z.2.2
 | 8=>v=valW z
 | 9=>OwnW x B v [z]
 | 10=>OwnW x B v (lt++[z])
 | 11=>v=.pointer (some ⟨b2,5,none⟩)
 | 12=>v=.slice so sn sc
 | 13=>v=.int .i64 (at_:Int)
 | 14=>v=hiv
 | 15=>OwnW x B v (lt++[z]++ld)
 | 16=>v=.pointer (some ⟨b2,5,none⟩)
 | _=>True
noncomputable def subsR6:Code:=((Tryz.f32.body.bind (findRegion 6)).getD .skip)
theorem subs6V_on (B b2 b3:Nat) (so:Option Addr) (sn sc at_:Nat) (lo hiv:Value) (z:XOw) (lt ld:List XOw) (i:Nat) (v:Value) (x x':World) (h:subs6V B b2 b3 so sn sc at_ lo hiv z lt ld i v x) (hb:Below x.heap.size x x'):subs6V B b2 b3 so sn sc at_ lo hiv z lt ld i v x':=by
 by_cases hi:i<17
 ·rcases (by omega:i=0∨i=1∨i=2∨i=3∨i=4∨i=5∨i=6∨i=7∨i=8∨i=9∨i=10∨i=11∨i=12∨i=13∨i=14∨i=15∨i=16) with rfl|rfl|rfl|rfl|rfl|rfl|rfl|rfl|rfl|rfl|rfl|rfl|rfl|rfl|rfl|rfl|rfl
  ·obtain⟨g,h1,h2,h3⟩:=h
   exact⟨g,h1,h2,h3.on hb⟩
  ·exact h
  ·exact h
  ·exact h
  ·exact h
  ·exact own_on h hb
  ·exact h
  ·exact h
  ·exact h
  ·exact own_on h hb
  ·exact own_on h hb
  ·exact h
  ·exact h
  ·exact h
  ·exact h
  ·exact own_on h hb
  ·exact h
 ·unfold subs6V
  split <;> first | omega | trivial
theorem subs6 (Q:Exit→Act→World→Prop) (W:World) (b2 b3:Nat) (me:Int) (y1 y2 y3 y4:Value) (so:Option Addr) (sn sc at_:Nat) (l:List XOw) (z:XOw) (u0 u1 u5 u6 u7 u9 u10 u11 u12 u13 u14 u15 u16 u17 u18 u19 u20 u21 u22 u23 u24 u25 u26 u27 u28 u29 u30 u31 u32 u33 u34 u35 u36 u37 u38 u39 u40 u41 u42 u43 u44 u45 u46 u47 u48 u49 u50 u51 u52 u53 u54 u55 u56 u57 u58 u59 u60 u61 u62 u63 u64 u65 u66 u67 u68 u69 u70 u71 u72 u73 u74 u75 u76 u77 u78 u79 u80 u81 u82 u83 u84 u85 u86 u87 u88 u89 u90 u91 u92 u93 u94 u95 u96 u97 u98:Value)
  (h2:Box W b2 #[.int .i64 me,y1,y2,y3,y4,.slice so sn sc] 31) (hx:∀ x,Below W.heap.size W x→∀ j u,(cellsJ (z.1,z.2.1))[j]?=some u→x.cell? ((⟨b3,0,none⟩:Addr).add j)=some u) (hs:RowW W (.slice so sn sc) l) (hat:at_≤l.length) (hlen:l.length≤900)
  (hQ:∀ (x:World) (v47 v48 v49 v50 v51 v52 v53 v54 v55 v56 v57 v58 v59 v60 v61 v62 v63:Value),Box x b2 #[.int .i64 me,y1,y2,y3,y4,v62] 31→OwnW x W.heap.size v62 (l.take at_++[z]++l.drop at_)→(∀ B,B≤b2→Below B W x)→(∀ c cs t,c≠b2→Box W c cs t→Box x c cs t)→(∀ k,k<W.heap.size→k≠b2→x.heap[k]?=W.heap[k]?)→Q .normal ⟨(u0::u1::slv z.2.2::.pointer (some ⟨b2,0,none⟩)::.pointer (some ⟨b3,0,none⟩)::u5::u6::u7::.int .i64 (at_:Int)::u9::u10::u11::u12::u13::u14::u15::u16::u17::u18::u19::u20::u21::u22::u23::u24::u25::u26::u27::u28::u29::u30::u31::u32::u33::u34::u35::u36::u37::u38::u39::u40::u41::u42::u43::u44::u45::u46::v47::v48::v49::v50::v51::v52::v53::v54::v55::v56::v57::v58::v59::v60::v61::v62::v63::u64::u65::u66::u67::u68::u69::u70::u71::u72::u73::u74::u75::u76::u77::u78::u79::u80::u81::u82::u83::u84::u85::u86::u87::u88::u89::u90::u91::u92::u93::u94::u95::u96::u97::u98::[]).toArray,[]⟩ x) :
  Code.wp Tryz.prog subsR6 Q ⟨(u0::u1::slv z.2.2::.pointer (some ⟨b2,0,none⟩)::.pointer (some ⟨b3,0,none⟩)::u5::u6::u7::.int .i64 (at_:Int)::u9::u10::u11::u12::u13::u14::u15::u16::u17::u18::u19::u20::u21::u22::u23::u24::u25::u26::u27::u28::u29::u30::u31::u32::u33::u34::u35::u36::u37::u38::u39::u40::u41::u42::u43::u44::u45::u46::u47::u48::u49::u50::u51::u52::u53::u54::u55::u56::u57::u58::u59::u60::u61::u62::u63::u64::u65::u66::u67::u68::u69::u70::u71::u72::u73::u74::u75::u76::u77::u78::u79::u80::u81::u82::u83::u84::u85::u86::u87::u88::u89::u90::u91::u92::u93::u94::u95::u96::u97::u98::[]).toArray,[]⟩ W:=by
 have HQ:=Lib.hid hQ
 have H2:=Lib.hid h2
 have LX:=Lib.hid hx
 obtain⟨lo,slo,rlo⟩:=row_lo okW hs at_ (by omega)
 obtain⟨hiv,shi,rhi⟩:=row_hi okW hs (at_) hat
 have LT:=Lib.hid (show (l.take at_).length≤1000 by rw [List.length_take]; omega)
 have LTD:=Lib.hid (show (l.take at_).length≤900 by rw [List.length_take]; omega)
 have LD:=Lib.hid (show (l.drop (at_)).length≤1000 by rw [List.length_drop]; omega)
 generalize l.take at_=lt at *
 generalize l.drop (at_)=ld at *
 have SL:=Lib.hid slo
 have SH:=Lib.hid shi
 have RL:=Lib.hid rlo
 have RH:=Lib.hid rhi
 clear hQ h2 hx hs slo shi rlo rhi hat hlen
 have stab:=subs6V_on W.heap.size b2 b3 so sn sc at_ lo hiv z lt ld
 unfold subsR6
 conv=>arg 2; whnf
 have nd:∀ j,(j<47∨64≤j)→∀ i,i<17→(fun i=>47+i) i≠j:=by
  intro j hj i hi h
  simp only at h
  omega
 refine Rg.region_live 18 17 (fun i=>47+i) (fun i=>if i=0 then 5 else if i=5 then 10 else if i=9 then 10 else if i=10 then 15 else 17) (subs6V W.heap.size b2 b3 so sn sc at_ lo hiv z lt ld) (by kernel_rfl) (by kernel_rfl) rfl (by decide) (fun i j _ _ h=>by have h2:47+i=47+j:=h; omega) (fun i hi=>by show 47+i<99; omega) ?_ (fun _=>Rg.hall_of 1 (by kernel_rfl)) (fun kk o h1 h2=>by omega) ?_
 ·intro i o hi ho a x D hnd hc hD hb seen K hK
  clear HQ
  rcases (by omega:i=0∨i=1∨i=2∨i=3∨i=4∨i=5∨i=6∨i=7∨i=8∨i=9∨i=10∨i=11∨i=12∨i=13∨i=14∨i=15∨i=16) with rfl|rfl|rfl|rfl|rfl|rfl|rfl|rfl|rfl|rfl|rfl|rfl|rfl|rfl|rfl|rfl|rfl
  ·obtain rfl:=Option.some.inj ho
   exact Rg.op_value rfl rfl (Rg.ex_build a.eval _ 29 0 #[] rfl rfl (by simp [go_sem])) (hK (.slice (some ⟨x.heap.size,0,none⟩) 0 0) (x.alloc (.cells #[] 45)) ⟨x.heap.size,rfl,hb.size,box_new x #[] 45⟩ ((Below.refl _ _).alloc hb.size _) fun j u _ _ _ _ _ h=>stab j u _ _ h ((Below.refl _ _).alloc (Nat.le_refl _) _))
  ·obtain rfl:=Option.some.inj ho
   have e3:a.eval (.tmp 3)=.pointer (some ⟨b2,0,none⟩):=seen.kp 3 _ (nd 3 (by omega)) rfl
   exact Rg.op_value rfl rfl (Rg.ex_field a.eval _ 31 (.tmp 3) 5 rfl (by rw [e3]; simp [go_sem])) (hK _ _ rfl (Below.refl _ _) fun _ _ _ _ _ _ _ h=>h)
  ·obtain rfl:=Option.some.inj ho
   have e48:a.eval (.tmp 48)=.pointer (some ⟨b2,5,none⟩):=seen.at_ ⟨1,.data⟩ (by simp) rfl (Or.inr (by decide))
   have y:=(H2.out.on hb).cell 5
   simp only [List.getElem?_toArray,List.getElem?_cons_zero,List.getElem?_cons_succ] at y
   exact Rg.op_value rfl rfl (Rg.ex_load a.eval _ 29 (.tmp 48) rfl (by rw [e48]; simp [go_sem,y])) (hK _ _ rfl (Below.refl _ _) fun _ _ _ _ _ _ _ h=>h)
  ·obtain rfl:=Option.some.inj ho
   have e8:a.eval (.tmp 8)=.int .i64 (at_:Int):=seen.kp 8 _ (nd 8 (by omega)) rfl
   exact Rg.op_value rfl rfl (Rg.ex_move a.eval _ (.tmp 8) rfl x) (hK _ _ e8 (Below.refl _ _) fun _ _ _ _ _ _ _ h=>h)
  ·obtain rfl:=Option.some.inj ho
   have e49:a.eval (.tmp 49)=.slice so sn sc:=seen.at_ ⟨2,.data⟩ (by simp) rfl (Or.inr (by decide))
   have e50:a.eval (.tmp 50)=.int .i64 (at_:Int):=seen.at_ ⟨3,.data⟩ (by simp) rfl (Or.inr (by decide))
   exact Rg.op_value rfl rfl (Rg.ex_slice a.eval _ 29 (.tmp 49) none (some (.tmp 50)) none rfl (by show (Instr.sliceAt 29 (a.eval (.tmp 49)) none (some (a.eval (.tmp 50))) none).run Tryz.prog x=.ok lo x; rw [e49,e50]; exact SL.out x)) (hK _ _ rfl (Below.refl _ _) fun _ _ _ _ _ _ _ h=>h)
  ·obtain rfl:=Option.some.inj ho
   obtain⟨g,q0,hBg,hbx⟩:=seen.at_ ⟨0,.data⟩ (by simp) rfl (Or.inl rfl)
   have q0:a.eval (.tmp 47)=.slice (some ⟨g,0,none⟩) 0 0:=q0
   have e51:a.eval (.tmp 51)=lo:=seen.at_ ⟨4,.data⟩ (by simp) rfl (Or.inr (by decide))
   obtain⟨v',x',r,o',gr⟩:=app_fresh okW W.heap.size hbx hBg (RL.out.on hb) LT.out 29
   exact Rg.op_value rfl rfl (Rg.ex_append a.eval _ (.tmp 47) (.tmp 51) 29 rfl q0 e51 r) (hK v' x' o' (gr.mono hb.size) fun j u _ _ _ _ _ h=>stab j u _ _ h gr)
  ·obtain rfl:=Option.some.inj ho
   have e4:a.eval (.tmp 4)=.pointer (some ⟨b3,0,none⟩):=seen.kp 4 _ (nd 4 (by omega)) rfl
   exact Rg.op_value rfl rfl (Rg.ex_load a.eval _ 38 (.tmp 4) rfl (by rw [e4]; exact loadJ x _ (z.1,z.2.1) (LX.out x hb))) (hK _ _ rfl (Below.refl _ _) fun _ _ _ _ _ _ _ h=>h)
  ·obtain rfl:=Option.some.inj ho
   have e2:a.eval (.tmp 2)=slv z.2.2:=seen.kp 2 _ (nd 2 (by omega)) rfl
   exact Rg.op_value rfl rfl (Rg.ex_move a.eval _ (.tmp 2) rfl x) (hK _ _ e2 (Below.refl _ _) fun _ _ _ _ _ _ _ h=>h)
  ·obtain rfl:=Option.some.inj ho
   have e53:a.eval (.tmp 53)=idv (z.1,z.2.1):=seen.at_ ⟨6,.data⟩ (by simp) rfl (Or.inr (by decide))
   have e54:a.eval (.tmp 54)=slv z.2.2:=seen.at_ ⟨7,.data⟩ (by simp) rfl (Or.inr (by decide))
   exact Rg.op_value rfl rfl (Rg.ex_buildS a.eval _ 45 #[(0,.tmp 53),(1,.tmp 54)] rfl (ps:=#[(0,idv (z.1,z.2.1)),(1,slv z.2.2)]) (by simp only [List.map_toArray,List.map_cons,List.map_nil,e53,e54]) (by simp [go_sem])) (hK _ _ rfl (Below.refl _ _) fun _ _ _ _ _ _ _ h=>h)
  ·obtain rfl:=Option.some.inj ho
   have e55:a.eval (.tmp 55)=valW z:=seen.at_ ⟨8,.data⟩ (by simp) rfl (Or.inr (by decide))
   have hl:=row_lit okW x [z] 1 rfl (by simp) (cellsW z).toArray (by simp [flat,EW])
   have hl:OwnW (x.alloc (.cells (cellsW z).toArray 45)) x.heap.size (.slice (some ⟨x.heap.size,0,none⟩) 1 1) [z]:=hl
   exact Rg.op_value rfl rfl (Rg.ex_build a.eval _ 29 1 #[(0,.tmp 55)] rfl (ps:=#[(0,valW z)]) (by simp [e55]) (by simp [go_sem])) (hK (.slice (some ⟨x.heap.size,0,none⟩) 1 1) (x.alloc (.cells (cellsW z).toArray 45)) (own_fewer hl hb.size) ((Below.refl _ _).alloc hb.size _) fun j u _ _ _ _ _ h=>stab j u _ _ h ((Below.refl _ _).alloc (Nat.le_refl _) _))
  ·obtain rfl:=Option.some.inj ho
   have o52:OwnW x W.heap.size (a.eval (.tmp 52)) (lt):=seen.at_ ⟨5,.data⟩ (by simp) rfl (Or.inl rfl)
   have o56:OwnW x W.heap.size (a.eval (.tmp 56)) ([z]):=seen.at_ ⟨9,.data⟩ (by simp) rfl (Or.inl rfl)
   have ox:=Row.of_own o56
   obtain⟨v',x',r,o',gr⟩:=app_row okW W.heap.size o52 ox (by have:=LT.out; omega) (by simp) hb.size 29
   exact Rg.op_value rfl rfl (Rg.ex_append a.eval _ (.tmp 52) (.tmp 56) 29 rfl rfl rfl r) (hK v' x' o' ((Below.refl _ x).grown gr hb.size fun j hj=>(o52.lt j hj).1) fun j u hj dj nl nx ni h=>by
    rcases (by omega:j=0∨j=1∨j=2∨j=3∨j=4∨j=5∨j=6∨j=7∨j=8∨j=9∨j=10∨j=11∨j=12∨j=13∨j=14∨j=15∨j=16) with rfl|rfl|rfl|rfl|rfl|rfl|rfl|rfl|rfl|rfl|rfl|rfl|rfl|rfl|rfl|rfl|rfl
    ·exact absurd rfl (fun _:(0:Nat)=0=>nl (hc 5 _ (hD ⟨5,.data⟩ (by simp) rfl) rfl ⟨0,.data⟩ (by simp) rfl |> fun _=>hD ⟨5,.data⟩ (by simp) rfl))
    ·exact h
    ·exact h
    ·exact h
    ·exact h
    ·exact absurd rfl (fun _:(0:Nat)=0=>nx rfl)
    ·exact h
    ·exact h
    ·exact h
    ·exact absurd rfl (fun _:(0:Nat)=0=>nx rfl)
    ·exact absurd rfl (fun _:(0:Nat)=0=>ni rfl)
    ·exact h
    ·exact h
    ·exact h
    ·exact h
    ·exact absurd rfl (fun _:(0:Nat)=0=>hnd (hc 15 _ dj rfl ⟨10,.data⟩ (by simp) rfl))
    ·exact h)
  ·obtain rfl:=Option.some.inj ho
   have e3:a.eval (.tmp 3)=.pointer (some ⟨b2,0,none⟩):=seen.kp 3 _ (nd 3 (by omega)) rfl
   exact Rg.op_value rfl rfl (Rg.ex_field a.eval _ 31 (.tmp 3) 5 rfl (by rw [e3]; simp [go_sem])) (hK _ _ rfl (Below.refl _ _) fun _ _ _ _ _ _ _ h=>h)
  ·obtain rfl:=Option.some.inj ho
   have e58:a.eval (.tmp 58)=.pointer (some ⟨b2,5,none⟩):=seen.at_ ⟨11,.data⟩ (by simp) rfl (Or.inr (by decide))
   have y:=(H2.out.on hb).cell 5
   simp only [List.getElem?_toArray,List.getElem?_cons_zero,List.getElem?_cons_succ] at y
   exact Rg.op_value rfl rfl (Rg.ex_load a.eval _ 29 (.tmp 58) rfl (by rw [e58]; simp [go_sem,y])) (hK _ _ rfl (Below.refl _ _) fun _ _ _ _ _ _ _ h=>h)
  ·obtain rfl:=Option.some.inj ho
   have e8:a.eval (.tmp 8)=.int .i64 (at_:Int):=seen.kp 8 _ (nd 8 (by omega)) rfl
   exact Rg.op_value rfl rfl (Rg.ex_move a.eval _ (.tmp 8) rfl x) (hK _ _ e8 (Below.refl _ _) fun _ _ _ _ _ _ _ h=>h)
  ·obtain rfl:=Option.some.inj ho
   have e59:a.eval (.tmp 59)=.slice so sn sc:=seen.at_ ⟨12,.data⟩ (by simp) rfl (Or.inr (by decide))
   have e60:a.eval (.tmp 60)=.int .i64 (at_:Int):=seen.at_ ⟨13,.data⟩ (by simp) rfl (Or.inr (by decide))
   exact Rg.op_value rfl rfl (Rg.ex_slice a.eval _ 29 (.tmp 59) (some (.tmp 60)) none none rfl (by show (Instr.sliceAt 29 (a.eval (.tmp 59)) (some (a.eval (.tmp 60))) none none).run Tryz.prog x=.ok hiv x; rw [e59,e60]; exact SH.out x)) (hK _ _ rfl (Below.refl _ _) fun _ _ _ _ _ _ _ h=>h)
  ·obtain rfl:=Option.some.inj ho
   have o57:OwnW x W.heap.size (a.eval (.tmp 57)) ((lt++[z])):=seen.at_ ⟨10,.data⟩ (by simp) rfl (Or.inl rfl)
   have e61:a.eval (.tmp 61)=hiv:=seen.at_ ⟨14,.data⟩ (by simp) rfl (Or.inr (by decide))
   have ox:RowW x (a.eval (.tmp 61)) ld:=by rw [e61]; exact RH.out.on hb
   obtain⟨v',x',r,o',gr⟩:=app_row okW W.heap.size o57 ox (by have:=LTD.out; rw [List.length_append,List.length_singleton]; omega) LD.out hb.size 29
   exact Rg.op_value rfl rfl (Rg.ex_append a.eval _ (.tmp 57) (.tmp 61) 29 rfl rfl rfl r) (hK v' x' o' ((Below.refl _ x).grown gr hb.size fun j hj=>(o57.lt j hj).1) fun j u hj dj nl nx ni h=>by
    rcases (by omega:j=0∨j=1∨j=2∨j=3∨j=4∨j=5∨j=6∨j=7∨j=8∨j=9∨j=10∨j=11∨j=12∨j=13∨j=14∨j=15∨j=16) with rfl|rfl|rfl|rfl|rfl|rfl|rfl|rfl|rfl|rfl|rfl|rfl|rfl|rfl|rfl|rfl|rfl
    ·exact absurd rfl (fun _:(0:Nat)=0=>nl (hc 10 _ (hD ⟨10,.data⟩ (by simp) rfl) rfl ⟨5,.data⟩ (by simp) rfl))
    ·exact h
    ·exact h
    ·exact h
    ·exact h
    ·exact absurd rfl (fun _:(0:Nat)=0=>nl (hD ⟨10,.data⟩ (by simp) rfl))
    ·exact h
    ·exact h
    ·exact h
    ·exact absurd rfl (fun _:(0:Nat)=0=>nl (hD ⟨10,.data⟩ (by simp) rfl))
    ·exact absurd rfl (fun _:(0:Nat)=0=>nx rfl)
    ·exact h
    ·exact h
    ·exact h
    ·exact h
    ·exact absurd rfl (fun _:(0:Nat)=0=>ni rfl)
    ·exact h)
  ·obtain rfl:=Option.some.inj ho
   have e3:a.eval (.tmp 3)=.pointer (some ⟨b2,0,none⟩):=seen.kp 3 _ (nd 3 (by omega)) rfl
   exact Rg.op_value rfl rfl (Rg.ex_field a.eval _ 31 (.tmp 3) 5 rfl (by rw [e3]; simp [go_sem])) (hK _ _ rfl (Below.refl _ _) fun _ _ _ _ _ _ _ h=>h)
 ·intro a w' df sz kp ⟨vs,hv⟩ hb
  have gr:a.tmps[62]?=some (vs 15):=(hv 15 (by omega)).1
  have gp:a.tmps[63]?=some (.pointer (some ⟨b2,5,none⟩)):=by
   have h:vs 16=.pointer (some ⟨b2,5,none⟩):=(hv 16 (by omega)).2 (by decide)
   rw [← h]
   exact (hv 16 (by omega)).1
  have oR:OwnW w' W.heap.size (vs 15) (lt++[z]++ld):=(hv 15 (by omega)).2 (by decide)
  generalize vs 15=xR at *
  obtain⟨ca,cp,eR⟩:=(Row.of_own oR).len
  have hbx:=H2.out.on hb
  have hblt:=H2.out.lt
  have c5:=hbx.cell 5
  have f5:=hbx.fr 5
  simp only [List.getElem?_toArray,List.getElem?_cons_zero,List.getElem?_cons_succ] at c5
  have hb1:=box_set (k:=5) hbx xR
  show Rg.SeqFrom _ _ _ 1 17 a w'
  simp only [Rg.SeqFrom]
  refine Rg.op_store 29 (.tmp 63) (.tmp 62) rfl rfl rfl rfl (Rg.eval_some gp) (Rg.eval_some gr) (w':=w'.setCell ⟨b2,5,none⟩ xR) (by rw [eR]; simp [go_sem,c5,f5]) ?_
  have kp2:∀ j,(j<47∨64≤j)→a.tmps[j]?=(u0::u1::slv z.2.2::.pointer (some ⟨b2,0,none⟩)::.pointer (some ⟨b3,0,none⟩)::u5::u6::u7::.int .i64 (at_:Int)::u9::u10::u11::u12::u13::u14::u15::u16::u17::u18::u19::u20::u21::u22::u23::u24::u25::u26::u27::u28::u29::u30::u31::u32::u33::u34::u35::u36::u37::u38::u39::u40::u41::u42::u43::u44::u45::u46::u47::u48::u49::u50::u51::u52::u53::u54::u55::u56::u57::u58::u59::u60::u61::u62::u63::u64::u65::u66::u67::u68::u69::u70::u71::u72::u73::u74::u75::u76::u77::u78::u79::u80::u81::u82::u83::u84::u85::u86::u87::u88::u89::u90::u91::u92::u93::u94::u95::u96::u97::u98::[])[j]?:=fun j hj=>(kp j (nd j hj)).trans List.getElem?_toArray
  obtain⟨mid,hmid,rfl⟩:=Rg.frame_mid 47 17 df sz (by simp) kp2
  match mid,hmid with
  | [v47,v48,v49,v50,v51,v52,v53,v54,v55,v56,v57,v58,v59,v60,v61,v62,v63],_ =>
   have e1:some v62=some xR:=gr
   obtain rfl:=Option.some.inj e1
   refine HQ.out _ v47 v48 v49 v50 v51 v52 v53 v54 v55 v56 v57 v58 v59 v60 v61 v62 v63 ?_ ?_ ?_ ?_ ?_
   ·simpa using hb1
   ·exact own_cell oR b2 5 _ hblt
   ·exact fun B hB=>(hb.mono (Nat.le_of_lt (Nat.lt_of_le_of_lt hB hblt))).setCell hB _
   ·intro c cs t hc hbc
    exact (RowKit.Below.heap_setCell _ _ _ _ hc).trans (hbc.on hb)
   ·intro k hk hne
    exact (RowKit.Below.heap_setCell _ _ _ _ hne).trans (hb.block k hk)
end Go.Proofs.YtncogjpmboglhaaGreat.Bk
