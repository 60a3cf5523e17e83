/-
  CopyBroker of broadsidekeep: the same in new memory. Conditions as told.
-/
import Derived.Test.YtmklifheakemeaaGreatfr013
import Derived.Test.YtmklifheakemeaaGreatfr012
import Derived.Test.YtmklifheakemeaaGreatfr010
import Derived.Lib.QuietBelow
import Derived.BigQuiet
set_option maxRecDepth 100000
set_option maxHeartbeats 64000000
namespace Go.Proofs.YtmklifheakemeaaGreat.Bk
open Go.RowKit Go.Sort Rw YtmklifheakemeaaGreat.Nm Pr
structure Few (b : Br) : Prop where
 near : b.near.length ≤ 900
 adv : b.adv.length ≤ 900
 seen : b.seen.length ≤ 900
 ent : b.ent.length ≤ 900
 own : b.own.length ≤ 900
end Go.Proofs.YtmklifheakemeaaGreat.Bk
namespace Go.Proofs.YtmklifheakemeaaGreat.Av
open Go.RowKit Go.Sort Rw YtmklifheakemeaaGreat.Nm Pr Bk
abbrev setD (W : World) (b : Nat) (a0 a1 a2 a3 : Value) : World := (((W.setCell ⟨b,0,none⟩ a0).setCell ⟨b,1,none⟩ a1).setCell ⟨b,2,none⟩ a2).setCell ⟨b,3,none⟩ a3
theorem setD_box {W : World} {b : Nat} {t : TypeId} {z0 z1 z2 z3 : Value} (h : Box W b #[z0,z1,z2,z3] t) (a0 a1 a2 a3 : Value) : Box (setD W b a0 a1 a2 a3) b #[a0,a1,a2,a3] t := by
 have h2 := box_set (k := 3) (box_set (k := 2) (box_set (k := 1) (box_set (k := 0) h a0) a1) a2) a3
 simpa using h2
theorem setD_below {B : Nat} {W0 W : World} {b : Nat} (h : Below B W0 W) (hb : B ≤ b) (a0 a1 a2 a3 : Value) : Below B W0 (setD W b a0 a1 a2 a3) :=
 (((h.setCell (p := ⟨b,0,none⟩) hb a0).setCell (p := ⟨b,1,none⟩) hb a1).setCell (p := ⟨b,2,none⟩) hb a2).setCell (p := ⟨b,3,none⟩) hb a3
theorem setD_own {α : Type} {E : Ek α} {W : World} {B : Nat} {v : Value} {l : List α} (h : Own E W B v l) (b : Nat) (hb : b < B) (a0 a1 a2 a3 : Value) : Own E (setD W b a0 a1 a2 a3) B v l :=
 own_cell (own_cell (own_cell (own_cell h b 0 a0 hb) b 1 a1 hb) b 2 a2 hb) b 3 a3 hb
theorem cpAd_any (x : XAd) (p : List C5) (w : World) (hp : RowC w (slv x.2.2.1) p) (hl : p.length ≤ 900) :
  Calls Tryz.prog 79 #[valD x] w fun e w' => (∃ v' : Sl,e = .returned (valD (x.1,x.2.1,v',x.2.2.2)) ∧ OwnC w' w.heap.size (slv v') p) ∧ Below w.heap.size w w' := by
 obtain ⟨a,b,⟨s1,s2,s3⟩,q⟩ := x
 obtain ⟨h0,X,Y⟩ := two_new w #[.int .i64 a,.int .i64 b,.slice s1 s2 s3,.int .i64 q] #[.int .i64 0,.int .i64 0,.slice none 0 0,.int .i64 0] 74 74
 have C := Lib.hid (cloneC_any (s1,s2,s3) p _ (hp.on h0) hl)
 have B := Lib.hid h0
 have x2 := X.cell 2
 simp only [List.getElem?_toArray,List.getElem?_cons_zero,List.getElem?_cons_succ] at x2
 have X := Lib.hid X
 have Y := Lib.hid Y
 clear h0 hp hl
 go_enter Tryz.func79,Tryz.ntmps79
 go_wp2_with fail
 generalize (w.alloc (.cells #[.int .i64 a,.int .i64 b,.slice s1 s2 s3,.int .i64 q] 74)).alloc (.cells #[.int .i64 0,.int .i64 0,.slice none 0 0,.int .i64 0] 74) = W at *
 refine C.out.mono ?_
 rintro e w1 ⟨⟨⟨u1,u2,u3⟩,rfl,ho⟩,hb⟩
 have X1 := X.out.on hb
 have Y1 := Y.out.on hb
 have hs : w.heap.size < W.heap.size := X.out.lt
 have O1 := Lib.hid (own_cell ho w.heap.size 2 (.slice u1 u2 u3) hs)
 have XB := Lib.hid (show Box _ _ #[.int .i64 a,.int .i64 b,.slice u1 u2 u3,.int .i64 q] _ from by simpa using box_set (k := 2) X1 (.slice u1 u2 u3))
 have YB := Lib.hid (show Box _ _ _ _ from (RowKit.Below.heap_setCell w1 ⟨w.heap.size,2,none⟩ (.slice u1 u2 u3) _ (show w.heap.size + 1 ≠ w.heap.size by omega)).trans Y1)
 have B1 := Lib.hid ((B.out.trans (hb.mono B.out.size)).setCell (p := ⟨w.heap.size,2,none⟩) (Nat.le_refl _) (.slice u1 u2 u3))
 have y2 := X1.cell 2
 have f2 := X1.fr 2
 have z2 := X1.lt
 simp only [List.getElem?_toArray,List.getElem?_cons_zero,List.getElem?_cons_succ] at y2
 clear X1 Y1 ho hb x2 C
 go_upto_region 2 with fail
 clear y2 f2 z2
 generalize w1.setCell ⟨w.heap.size,2,none⟩ (.slice u1 u2 u3) = w2 at *
 obtain ⟨x0,x1,x2,x3⟩ := XB.out.cs4
 obtain ⟨r0,r1,r2,r3⟩ := YB.out.cs4
 obtain ⟨t0,t1,t2,t3⟩ := YB.out.fs4
 have zz := YB.out.lt
 have hs2 : w.heap.size + 1 < W.heap.size := Y.out.lt
 have FB := Lib.hid (setD_box YB.out (.int .i64 a) (.int .i64 b) (.slice u1 u2 u3) (.int .i64 q))
 have BL := Lib.hid (setD_below (b := w.heap.size + 1) B1.out (by omega) (.int .i64 a) (.int .i64 b) (.slice u1 u2 u3) (.int .i64 q))
 have FO := Lib.hid (setD_own O1.out (w.heap.size + 1) hs2 (.int .i64 a) (.int .i64 b) (.slice u1 u2 u3) (.int .i64 q))
 have HS := Lib.hid hs
 clear hs hs2
 go_wp2_with fail
 obtain ⟨v0,v1,v2,v3⟩ := FB.out.cs4
 refine bodyPost_ret (v := .agg #[.int .i64 a,.int .i64 b,.slice u1 u2 u3,.int .i64 q]) (by simp [results,Tryz.results79,go_sem,v0,v1,v2,v3]) rfl ?_
 exact ⟨⟨(u1,u2,u3),rfl,own_fewer FO.out (Nat.le_of_lt HS.out)⟩,BL.out⟩
end Go.Proofs.YtmklifheakemeaaGreat.Av
namespace Go.Proofs.YtmklifheakemeaaGreat.Bk
open Go.RowKit Go.Sort Rw YtmklifheakemeaaGreat.Nm Pr
abbrev XOu := Int × Int × Int × Int × Int × Int × Sl × Sl
abbrev cellsU (x : XOu) : List Value := [.int .i64 x.1,.int .i64 x.2.1,.int .i64 x.2.2.1,.int .i64 x.2.2.2.1,.int .i64 x.2.2.2.2.1,.int .i64 x.2.2.2.2.2.1,slv x.2.2.2.2.2.2.1,slv x.2.2.2.2.2.2.2]
abbrev valU (x : XOu) : Value := .agg #[.int .i64 x.1,.int .i64 x.2.1,.int .i64 x.2.2.1,.int .i64 x.2.2.2.1,.int .i64 x.2.2.2.2.1,.int .i64 x.2.2.2.2.2.1,slv x.2.2.2.2.2.2.1,slv x.2.2.2.2.2.2.2]
def EU : Ek XOu := ⟨43,35,8,96,.agg #[.int .i64 0,.int .i64 0,.int .i64 0,.int .i64 0,.int .i64 0,.int .i64 0,.slice none 0 0,.slice none 0 0],valU,cellsU⟩
theorem infoU : (Tryz.prog.info? 43).map (fun i => (i.zero,i.size,i.bytes)) = some (some (.agg #[.int .i64 0,.int .i64 0,.int .i64 0,.int .i64 0,.int .i64 0,.int .i64 0,.slice none 0 0,.slice none 0 0]),8,96) := by kernel_rfl
theorem loadU (w : World) (p : Addr) (x : XOu) (h : ∀ j u,(cellsU x)[j]? = some u → w.cell? (p.add j) = some u) : (Instr.loadAt 43 (.pointer (some p))).run Tryz.prog w = .ok (valU x) w := by
 have h0 := h 0 _ rfl
 have h1 := h 1 _ rfl
 have h2 := h 2 _ rfl
 have h3 := h 3 _ rfl
 have h4 := h 4 _ rfl
 have h5 := h 5 _ rfl
 have h6 := h 6 _ rfl
 have h7 := h 7 _ rfl
 simp [Addr.add] at h0 h1 h2 h3 h4 h5 h6 h7
 simp [go_sem,h0,h1,h2,h3,h4,h5,h6,h7]
theorem okU : EU.Ok where
 hu := Tryz.underlying35
 info := by
  have h := infoU
  cases hi : Tryz.prog.info? 43 with
  | none => rw [hi] at h; cases h
  | some i =>
   rw [hi] at h
   simp only [Option.map_some,Option.some.injEq,Prod.mk.injEq] at h
   exact ⟨i,hi,h.1,h.2.1,h.2.2⟩
 zs := rfl
 len := fun _ => rfl
 one := fun x u hu => by
  simp only [EU,cellsU,List.mem_cons,List.not_mem_nil,or_false] at hu
  rcases hu with rfl | rfl | rfl | rfl | rfl | rfl | rfl | rfl <;> rfl
 pos := by decide
 few := by decide
 load := fun w p x h => loadU w p x h
abbrev RowU (W : World) (v : Value) (l : List XOu) : Prop := Row EU W v l
abbrev OwnU (W : World) (B : Nat) (v : Value) (l : List XOu) : Prop := Own EU W B v l
theorem elU {W : World} {v : Value} {l : List XOu} {ao : Option Addr} {n c k : Nat} {x : XOu} (h : RowU W v l) (hv : v = .slice ao n c) (hn : l.length = n) (hk : l[k]? = some x) :
  ∃ p : Addr,(∀ w,(Instr.indexAt 35 (.slice ao n c) (.int .i64 k)).run Tryz.prog w = .ok (.pointer (some p)) w) ∧ ∀ w,Below W.heap.size W w → w.cell? p = some (.int .i64 x.1) ∧ w.cell? ⟨p.block,p.off + 1,none⟩ = some (.int .i64 x.2.1) ∧ w.cell? ⟨p.block,p.off + 2,none⟩ = some (.int .i64 x.2.2.1) ∧ w.cell? ⟨p.block,p.off + 3,none⟩ = some (.int .i64 x.2.2.2.1) ∧ w.cell? ⟨p.block,p.off + 4,none⟩ = some (.int .i64 x.2.2.2.2.1) ∧ w.cell? ⟨p.block,p.off + 5,none⟩ = some (.int .i64 x.2.2.2.2.2.1) ∧ w.cell? ⟨p.block,p.off + 6,none⟩ = some (slv x.2.2.2.2.2.2.1) ∧ w.cell? ⟨p.block,p.off + 7,none⟩ = some (slv x.2.2.2.2.2.2.2) := by
 obtain ⟨p,h1,_,h2⟩ := row_el okU h hv hn hk
 exact ⟨p,h1,fun w hw => ⟨by simpa [Addr.add] using h2 w hw 0 _ rfl,by simpa [Addr.add] using h2 w hw 1 _ rfl,by simpa [Addr.add] using h2 w hw 2 _ rfl,by simpa [Addr.add] using h2 w hw 3 _ rfl,by simpa [Addr.add] using h2 w hw 4 _ rfl,by simpa [Addr.add] using h2 w hw 5 _ rfl,by simpa [Addr.add] using h2 w hw 6 _ rfl,by simpa [Addr.add] using h2 w hw 7 _ rfl⟩⟩
end Go.Proofs.YtmklifheakemeaaGreat.Bk
namespace Go.Proofs.YtmklifheakemeaaGreat.Av
open Go.RowKit Go.Sort Rw YtmklifheakemeaaGreat.Nm Pr Bk
theorem own_row_at {α : Type} {E : Ek α} (K : E.Ok) {W : World} {B g n cap k : Nat} {l : List α} {x : α} (h : Own E W B (.slice (some ⟨g,0,none⟩) n cap) l) (hk : l[k]? = some x) : ∀ w,Below W.heap.size W w → ∀ j u,(E.cells x)[j]? = some u → w.cell? ((⟨g,k * E.n,none⟩ : Addr).add j) = some u := by
 obtain ⟨ao,c,hv⟩ := (Row.of_own h).len
 obtain ⟨rfl,rfl,rfl⟩ : some ⟨g,0,none⟩ = ao ∧ n = l.length ∧ cap = c := by simpa using hv
 obtain ⟨p,h1,_,h2⟩ := row_el K (Row.of_own h) rfl rfl hk
 have h3 := index_own K g k l.length cap (List.getElem?_eq_some_iff.1 hk).1 W
 rw [h1] at h3
 injection h3 with h4 _
 injection h4 with h5
 injection h5 with h6
 subst h6
 exact h2
theorem own_tag {α : Type} {E : Ek α} {W : World} {B g n cap : Nat} {l : List α} (h : Own E W B (.slice (some ⟨g,0,none⟩) n cap) l) : ∃ cur,Box W g cur E.t := by
 rcases own_open h with ⟨h1,_⟩ | ⟨g',c',cur,h1,_,h2,_⟩
 ·cases h1
 ·obtain ⟨rfl,_⟩ : g = g' ∧ True := by simp at h1; exact ⟨h1.1,trivial⟩
  exact ⟨cur,h2⟩
theorem box_ne {W : World} {b g : Nat} {c d : Array Value} {s t : TypeId} (hb : Box W b c s) (hg : Box W g d t) (hne : (s == t) = false) : b ≠ g := by
 rintro rfl
 unfold Box at hb hg
 rw [hb] at hg
 injection hg with h
 injection h with _ h2
 rw [h2] at hne
 simp at hne
def But (g : Nat) (W x : World) : Prop := (∀ k,k < W.heap.size → k ≠ g → x.heap[k]? = W.heap[k]?) ∧ W.heap.size ≤ x.heap.size
theorem But.box {g b : Nat} {W x : World} {cs : Array Value} {t : TypeId} (h : But g W x) (hb : Box W b cs t) (hne : b ≠ g) : Box x b cs t := (h.1 b hb.lt hne).trans hb
theorem But.own {α : Type} {E : Ek α} {g : Nat} {W x : World} {B : Nat} {v : Value} {l : List α} {d : Array Value} {t : TypeId} (h : But g W x) (ho : Own E W B v l) (hg : Box W g d t) (hne : (E.t == t) = false) : Own E x B v l := by
 refine ⟨ho.1,?_⟩
 rcases ho.2 with h2 | ⟨g',cap,cur,h1,h2,h3,h4⟩
 ·exact Or.inl h2
 ·exact Or.inr ⟨g',cap,cur,h1,h2,by rw [h.1 g' (lt_of_heap h3) (box_ne (show Box W g' cur E.t from h3) hg hne)]; exact h3,h4⟩
theorem flatD_set : ∀ (l : List XAd) (k : Nat) (x : XAd),k < l.length → flat ED (l.set k x) = ((((flat ED l).set (k * 4) (.int .i64 x.1)).set (k * 4 + 1) (.int .i64 x.2.1)).set (k * 4 + 2) (slv x.2.2.1)).set (k * 4 + 3) (.int .i64 x.2.2.2)
 | [],k,x,h => by simp at h
 | y :: r,0,x,_ => rfl
 | y :: r,k + 1,x,h => by
  have ih := flatD_set r k x (by simpa using h)
  rw [show (k + 1) * 4 + 3 = (k * 4 + 3) + 1 + 1 + 1 + 1 by omega,show (k + 1) * 4 + 2 = (k * 4 + 2) + 1 + 1 + 1 + 1 by omega,show (k + 1) * 4 + 1 = (k * 4 + 1) + 1 + 1 + 1 + 1 by omega,show (k + 1) * 4 = (k * 4) + 1 + 1 + 1 + 1 by omega]
  simp only [List.set_cons_succ,flat,ED,cellsD,List.cons_append,List.nil_append] at ih ⊢
  rw [ih]
theorem flatN_set : ∀ (l : List XEn) (k : Nat) (x : XEn) (s : Sl),l[k]? = some x → flat EN (l.set k (x.1,x.2.1,x.2.2.1,x.2.2.2.1,s,x.2.2.2.2.2.1,x.2.2.2.2.2.2)) = (flat EN l).set (k * 7 + 4) (slv s)
 | [],k,x,s,h => by simp at h
 | y :: r,0,x,s,h => by
  obtain rfl : y = x := by simpa using h
  rfl
 | y :: r,k + 1,x,s,h => by
  have ih := flatN_set r k x s (by simpa using h)
  rw [show (k + 1) * 7 + 4 = (k * 7 + 4) + 1 + 1 + 1 + 1 + 1 + 1 + 1 by omega]
  simp only [List.set_cons_succ,flat,EN,cellsN,List.cons_append,List.nil_append] at ih ⊢
  rw [ih]
theorem flatW_set : ∀ (l : List XOw) (k : Nat) (x : XOw) (s : Sl),l[k]? = some x → flat EW (l.set k (x.1,x.2.1,s)) = (flat EW l).set (k * 3 + 2) (slv s)
 | [],k,x,s,h => by simp at h
 | y :: r,0,x,s,h => by
  obtain rfl : y = x := by simpa using h
  rfl
 | y :: r,k + 1,x,s,h => by
  have ih := flatW_set r k x s (by simpa using h)
  rw [show (k + 1) * 3 + 2 = (k * 3 + 2) + 1 + 1 + 1 by omega]
  simp only [List.set_cons_succ,flat,EW,cellsW,List.cons_append,List.nil_append] at ih ⊢
  rw [ih]
def StoQ {α : Type} (E : Ek α) (B g : Nat) (v : Value) (l : List α) (w w' : World) : Prop := Own E w' B v l ∧ But g w w' ∧ (∀ B' W,B' ≤ g → Below B' W w → Below B' W w')
theorem but_cell (w : World) (g j : Nat) (u : Value) : But g w (w.setCell ⟨g,j,none⟩ u) := ⟨fun k _ hk => RowKit.Below.heap_setCell w ⟨g,j,none⟩ u k hk,by simp⟩
theorem But.trans {g : Nat} {a b c : World} (h1 : But g a b) (h2 : But g b c) : But g a c := ⟨fun k hk hne => (h2.1 k (Nat.lt_of_lt_of_le hk h1.2) hne).trans (h1.1 k hk hne),Nat.le_trans h1.2 h2.2⟩
theorem But.of_below {g : Nat} {a b : World} (h : Below a.heap.size a b) : But g a b := ⟨fun k hk _ => h.block k hk,h.size⟩
theorem storeD {w : World} {B g n cap k : Nat} {l : List XAd} (x : XAd) (h : OwnD w B (.slice (some ⟨g,0,none⟩) n cap) l) (hk : k < l.length) :
  ∃ w',(Instr.storeAt 74 (.pointer (some ⟨g,k * 4,none⟩)) (valD x)).run Tryz.prog w = .ok () w' ∧ StoQ ED B g (.slice (some ⟨g,0,none⟩) n cap) (l.set k x) w w' := by
 obtain ⟨y,hy⟩ : ∃ y,l[k]? = some y := ⟨_,List.getElem?_eq_getElem hk⟩
 have c := own_row_at okD h hy w (Below.refl _ _)
 have c0 := c 0 _ rfl
 have c1 := c 1 _ rfl
 have c2 := c 2 _ rfl
 have c3 := c 3 _ rfl
 simp [Addr.add,ED] at c0 c1 c2 c3
 obtain ⟨cur,hb⟩ := own_tag h
 have f := fun j => hb.fr j
 obtain ⟨ao,c',hv⟩ := (Row.of_own h).len
 obtain ⟨_,rfl,_⟩ : some ⟨g,0,none⟩ = ao ∧ n = l.length ∧ cap = c' := by simpa using hv
 have h : w.ownsRow B 74 4 (.slice (some ⟨g,0,none⟩) l.length cap) l.length (flat ED l) := h
 have s1 := (h.stored (k * 4) (.int .i64 x.1)).1
 have s2 := (s1.stored (k * 4 + 1) (.int .i64 x.2.1)).1
 have s3 := (s2.stored (k * 4 + 2) (slv x.2.2.1)).1
 have s4 := (s3.stored (k * 4 + 3) (.int .i64 x.2.2.2)).1
 refine ⟨(((w.setCell ⟨g,k * 4,none⟩ (.int .i64 x.1)).setCell ⟨g,k * 4 + 1,none⟩ (.int .i64 x.2.1)).setCell ⟨g,k * 4 + 2,none⟩ (slv x.2.2.1)).setCell ⟨g,k * 4 + 3,none⟩ (.int .i64 x.2.2.2),?_,?_,((but_cell _ g _ _).trans (but_cell _ g _ _)).trans ((but_cell _ g _ _).trans (but_cell _ g _ _)),fun B' W hB hb => (((hb.setCell (p := ⟨g,_,none⟩) hB _).setCell (p := ⟨g,_,none⟩) hB _).setCell (p := ⟨g,_,none⟩) hB _).setCell (p := ⟨g,_,none⟩) hB _⟩
 ·simp [go_sem,c0,c1,c2,c3,f]
 ·have e := flatD_set l k x hk
  show World.ownsRow _ B 74 4 _ (l.set k x).length (flat ED (l.set k x))
  rw [e,List.length_set]
  exact s4
theorem storeN {w : World} {B g n cap k : Nat} {l : List XEn} {x : XEn} (s1 : Option Addr) (s2 s3 : Nat) (h : OwnN w B (.slice (some ⟨g,0,none⟩) n cap) l) (hk : l[k]? = some x) :
  ∃ w',(Instr.storeAt 32 (.pointer (some ⟨g,k * 7 + 4,none⟩)) (.slice s1 s2 s3)).run Tryz.prog w = .ok () w' ∧ StoQ EN B g (.slice (some ⟨g,0,none⟩) n cap) (l.set k (x.1,x.2.1,x.2.2.1,x.2.2.2.1,(s1,s2,s3),x.2.2.2.2.2.1,x.2.2.2.2.2.2)) w w' := by
 have c := own_row_at okN h hk w (Below.refl _ _)
 have c4 := c 4 _ rfl
 simp [Addr.add,EN] at c4
 obtain ⟨cur,hb⟩ := own_tag h
 have f := hb.fr (k * 7 + 4)
 obtain ⟨ao,c',hv⟩ := (Row.of_own h).len
 obtain ⟨_,rfl,_⟩ : some ⟨g,0,none⟩ = ao ∧ n = l.length ∧ cap = c' := by simpa using hv
 have h : w.ownsRow B 66 7 (.slice (some ⟨g,0,none⟩) l.length cap) l.length (flat EN l) := h
 have t1 := (h.stored (k * 7 + 4) (.slice s1 s2 s3)).1
 refine ⟨w.setCell ⟨g,k * 7 + 4,none⟩ (.slice s1 s2 s3),by simp [go_sem,c4,f],?_,but_cell _ g _ _,fun B' W hB hb => hb.setCell (p := ⟨g,_,none⟩) hB _⟩
 have e := flatN_set l k x (s1,s2,s3) hk
 show World.ownsRow _ B 66 7 _ (List.length _) (flat EN _)
 rw [e,List.length_set]
 exact t1
theorem storeW {w : World} {B g n cap k : Nat} {l : List XOw} {x : XOw} (s1 : Option Addr) (s2 s3 : Nat) (h : OwnW w B (.slice (some ⟨g,0,none⟩) n cap) l) (hk : l[k]? = some x) :
  ∃ w',(Instr.storeAt 32 (.pointer (some ⟨g,k * 3 + 2,none⟩)) (.slice s1 s2 s3)).run Tryz.prog w = .ok () w' ∧ StoQ EW B g (.slice (some ⟨g,0,none⟩) n cap) (l.set k (x.1,x.2.1,(s1,s2,s3))) w w' := by
 have c := own_row_at okW h hk w (Below.refl _ _)
 have c2 := c 2 _ rfl
 simp [Addr.add,EW] at c2
 obtain ⟨cur,hb⟩ := own_tag h
 have f := hb.fr (k * 3 + 2)
 obtain ⟨ao,c',hv⟩ := (Row.of_own h).len
 obtain ⟨_,rfl,_⟩ : some ⟨g,0,none⟩ = ao ∧ n = l.length ∧ cap = c' := by simpa using hv
 have h : w.ownsRow B 34 3 (.slice (some ⟨g,0,none⟩) l.length cap) l.length (flat EW l) := h
 have t1 := (h.stored (k * 3 + 2) (.slice s1 s2 s3)).1
 refine ⟨w.setCell ⟨g,k * 3 + 2,none⟩ (.slice s1 s2 s3),by simp [go_sem,c2,f],?_,but_cell _ g _ _,fun B' W hB hb => hb.setCell (p := ⟨g,_,none⟩) hB _⟩
 have e := flatW_set l k x (s1,s2,s3) hk
 show World.ownsRow _ B 34 3 _ (List.length _) (flat EW _)
 rw [e,List.length_set]
 exact t1
theorem All2.set {α β : Type} {R : α → β → Prop} : ∀ {l : List α} {m : List β} (k : Nat) (a : α) (b : β),All2 R l m → m[k]? = some b → R a b → All2 R (l.set k a) m
 | _,_,_,_,_,.nil,h,_ => by simp at h
 | _,_,0,a,b,.cons x t,h,hr => by
  simp at h
  subst h
  exact .cons hr t
 | _,_,k + 1,a,b,.cons x t,h,hr => .cons x (All2.set k a b t (by simpa using h) hr)
def PM (w0 : World) (B : Nat) (wr : World) (v : Value) (p : List C5) : Prop := RowC w0 v p ∨ OwnC wr B v p
def AdM (w0 : World) (B : Nat) (wr : World) (x : XAd) (a : Ad) : Prop := (x.1,x.2.1) = a.id ∧ x.2.2.2 = a.par ∧ PM w0 B wr (slv x.2.2.1) a.p
def EnM (w0 : World) (B : Nat) (wr : World) (x : XEn) (a : En) : Prop := (x.1,x.2.1) = a.tree ∧ (x.2.2.1,x.2.2.2.1) = a.sub ∧ x.2.2.2.2.2.1 = a.from_ ∧ x.2.2.2.2.2.2 = a.up ∧ PM w0 B wr (slv x.2.2.2.2.1) a.p
def OwM (w0 : World) (B : Nat) (wr : World) (x : XOw) (a : Ow) : Prop := (x.1,x.2.1) = a.id ∧ PM w0 B wr (slv x.2.2) a.p
theorem PM.grow {w0 wr x : World} {B : Nat} {v : Value} {p : List C5} (h : PM w0 B wr v p) (hb : Below wr.heap.size wr x) : PM w0 B x v p := h.imp id fun h => Bk.own_on h hb
theorem PM.but {w0 wr x : World} {B : Nat} {v : Value} {p : List C5} {g : Nat} {d : Array Value} {t : TypeId} (h : PM w0 B wr v p) (hb : But g wr x) (hg : Box wr g d t) (hne : (70 == t) = false) : PM w0 B x v p := h.imp id fun h => hb.own h hg hne
theorem PM.row {w0 wr : World} {B : Nat} {v : Value} {p : List C5} (h : PM w0 B wr v p) (hb : Below w0.heap.size w0 wr) : RowC wr v p := h.elim (fun h => h.on hb) Row.of_own
theorem AdM.grow {w0 wr x : World} {B : Nat} {y : XAd} {a : Ad} (h : AdM w0 B wr y a) (hb : Below wr.heap.size wr x) : AdM w0 B x y a := ⟨h.1,h.2.1,h.2.2.grow hb⟩
theorem EnM.grow {w0 wr x : World} {B : Nat} {y : XEn} {a : En} (h : EnM w0 B wr y a) (hb : Below wr.heap.size wr x) : EnM w0 B x y a := ⟨h.1,h.2.1,h.2.2.1,h.2.2.2.1,h.2.2.2.2.grow hb⟩
theorem OwM.grow {w0 wr x : World} {B : Nat} {y : XOw} {a : Ow} (h : OwM w0 B wr y a) (hb : Below wr.heap.size wr x) : OwM w0 B x y a := ⟨h.1,h.2.grow hb⟩
theorem AdM.but {w0 wr x : World} {B : Nat} {y : XAd} {a : Ad} {g : Nat} {d : Array Value} {t : TypeId} (h : AdM w0 B wr y a) (hb : But g wr x) (hg : Box wr g d t) (hne : (70 == t) = false) : AdM w0 B x y a := ⟨h.1,h.2.1,h.2.2.but hb hg hne⟩
theorem EnM.but {w0 wr x : World} {B : Nat} {y : XEn} {a : En} {g : Nat} {d : Array Value} {t : TypeId} (h : EnM w0 B wr y a) (hb : But g wr x) (hg : Box wr g d t) (hne : (70 == t) = false) : EnM w0 B x y a := ⟨h.1,h.2.1,h.2.2.1,h.2.2.2.1,h.2.2.2.2.but hb hg hne⟩
theorem OwM.but {w0 wr x : World} {B : Nat} {y : XOw} {a : Ow} {g : Nat} {d : Array Value} {t : TypeId} (h : OwM w0 B wr y a) (hb : But g wr x) (hg : Box wr g d t) (hne : (70 == t) = false) : OwM w0 B x y a := ⟨h.1,h.2.but hb hg hne⟩
def vw (w : World) : World := { w with heap := #[] }
theorem vw_cell (w : World) (a : Addr) : (vw w).cell? a = none := by
 unfold World.cell? vw
 simp
theorem vw_row {α : Type} {E : Ek α} {w x : World} {v : Value} {l : List α} (h : Row E (vw w) v l) : Row E x v l := by
 rcases h with h | ⟨a,cap,h1,h2,h3,h4⟩
 ·exact Or.inl h
 ·refine Or.inr ⟨a,cap,h1,h2,h3,fun j u hj => ?_⟩
  have h5 := h4 j u hj
  rw [vw_cell] at h5
  cases h5
theorem take_set_succ {α : Type} : ∀ (l : List α) (k : Nat) (x : α),k < l.length → (l.set k x).take (k + 1) = l.take k ++ [x]
 | [],k,x,h => absurd h (Nat.not_lt_zero k)
 | _ :: _,0,_,_ => rfl
 | a :: l,k + 1,x,h => by
  rw [List.set_cons_succ,List.take_succ_cons,take_set_succ l k x (by simpa using h)]
  rfl
theorem all2_step {α β : Type} {R : α → β → Prop} {l : List α} {m : List β} {k : Nat} {x : α} {y : β} (h : All2 R (l.take k) (m.take k)) (hk : k < l.length) (hy : m[k]? = some y) (hx : R x y) : All2 R ((l.set k x).take (k + 1)) (m.take (k + 1)) := by
 rw [take_set_succ l k x hk,List.take_add_one,hy]
 exact h.append (.cons hx .nil)
structure Cp (w0 : World) (B : Nat) (wr : World) (b : Br) (nv av sv ev ov : Sl) : Prop where
 near : OwnI wr B (slv nv) b.near
 seen : OwnJ wr B (slv sv) b.seen
 adv : ∃ l,OwnD wr B (slv av) l ∧ All2 (AdM w0 B wr) l b.adv
 ent : ∃ l,OwnN wr B (slv ev) l ∧ All2 (EnM w0 B wr) l b.ent
 own : ∃ l,OwnW wr B (slv ov) l ∧ All2 (OwM w0 B wr) l b.own
theorem Cp.grow {w0 wr x : World} {B : Nat} {b : Br} {nv av sv ev ov : Sl} (h : Cp w0 B wr b nv av sv ev ov) (hb : Below wr.heap.size wr x) : Cp w0 B x b nv av sv ev ov where
 near := Bk.own_on h.near hb
 seen := Bk.own_on h.seen hb
 adv := by obtain ⟨l,h1,h2⟩ := h.adv; exact ⟨l,Bk.own_on h1 hb,h2.mono fun _ _ h => h.grow hb⟩
 ent := by obtain ⟨l,h1,h2⟩ := h.ent; exact ⟨l,Bk.own_on h1 hb,h2.mono fun _ _ h => h.grow hb⟩
 own := by obtain ⟨l,h1,h2⟩ := h.own; exact ⟨l,Bk.own_on h1 hb,h2.mono fun _ _ h => h.grow hb⟩
theorem Cp.but2 {w0 wr x : World} {B : Nat} {b : Br} {nv av sv ev ov : Sl} (h : Cp w0 B wr b nv av sv ev ov) {g : Nat} {d : Array Value} {t : TypeId} (hb : But g wr x) (hg : Box wr g d t) (h1 : (3 == t) = false) (h2 : (31 == t) = false) (h3 : (74 == t) = false) (h4 : (66 == t) = false) (h5 : (34 == t) = false) (h6 : (70 == t) = false) : Cp w0 B x b nv av sv ev ov where
 near := hb.own h.near hg h1
 seen := hb.own h.seen hg h2
 adv := by obtain ⟨l,g1,g2⟩ := h.adv; exact ⟨l,hb.own g1 hg h3,g2.mono fun _ _ h => h.but hb hg h6⟩
 ent := by obtain ⟨l,g1,g2⟩ := h.ent; exact ⟨l,hb.own g1 hg h4,g2.mono fun _ _ h => h.but hb hg h6⟩
 own := by obtain ⟨l,g1,g2⟩ := h.own; exact ⟨l,hb.own g1 hg h5,g2.mono fun _ _ h => h.but hb hg h6⟩
theorem Cp.but {w0 wr x : World} {B : Nat} {b : Br} {nv av sv ev ov : Sl} (h : Cp w0 B wr b nv av sv ev ov) {g : Nat} {d : Array Value} (hb : But g wr x) (hg : Box wr g d 28) : Cp w0 B x b nv av sv ev ov where
 near := hb.own h.near hg (by decide)
 seen := hb.own h.seen hg (by decide)
 adv := by obtain ⟨l,h1,h2⟩ := h.adv; exact ⟨l,hb.own h1 hg (by decide),h2.mono fun _ _ h => h.but hb hg (by decide)⟩
 ent := by obtain ⟨l,h1,h2⟩ := h.ent; exact ⟨l,hb.own h1 hg (by decide),h2.mono fun _ _ h => h.but hb hg (by decide)⟩
 own := by obtain ⟨l,h1,h2⟩ := h.own; exact ⟨l,hb.own h1 hg (by decide),h2.mono fun _ _ h => h.but hb hg (by decide)⟩
structure Cs (w0 w wr : World) (b : Br) (kd kn kw : Nat) (nv av sv ev ov : Sl) : Prop where
 bel : Below w.heap.size w wr
 bx : Box wr w.heap.size #[.int .i64 b.me,slv nv,slv av,slv sv,slv ev,slv ov] 28
 bz : Box wr (w.heap.size + 1) #[.int .i64 0,.slice none 0 0,.slice none 0 0,.slice none 0 0,.slice none 0 0,.slice none 0 0] 28
 near : OwnI wr w.heap.size (slv nv) b.near
 seen : OwnJ wr w.heap.size (slv sv) b.seen
 adv : ∃ l,OwnD wr w.heap.size (slv av) l ∧ All2 (AdM w0 w.heap.size wr) l b.adv ∧ All2 (AdM (vw w0) w.heap.size wr) (l.take kd) (b.adv.take kd)
 ent : ∃ l,OwnN wr w.heap.size (slv ev) l ∧ All2 (EnM w0 w.heap.size wr) l b.ent ∧ All2 (EnM (vw w0) w.heap.size wr) (l.take kn) (b.ent.take kn)
 own : ∃ l,OwnW wr w.heap.size (slv ov) l ∧ All2 (OwM w0 w.heap.size wr) l b.own ∧ All2 (OwM (vw w0) w.heap.size wr) (l.take kw) (b.own.take kw)
theorem Cs.setD {w0 w wr x : World} {b : Br} {kd kn kw kd' : Nat} {nv sv ev ov : Sl} {g n cap : Nat} {l l' : List XAd} (h : Cs w0 w wr b kd kn kw nv (some ⟨g,0,none⟩,n,cap) sv ev ov) (ho : OwnD wr w.heap.size (.slice (some ⟨g,0,none⟩) n cap) l) (hx : OwnD x w.heap.size (.slice (some ⟨g,0,none⟩) n cap) l') (hb : But g wr x) (hw : Below w.heap.size w x) (hA : All2 (AdM w0 w.heap.size x) l' b.adv) (hV : All2 (AdM (vw w0) w.heap.size x) (l'.take kd') (b.adv.take kd')) : Cs w0 w x b kd' kn kw nv (some ⟨g,0,none⟩,n,cap) sv ev ov := by
 obtain ⟨cur,hg⟩ := own_tag ho
 exact {
  bel := hw
  bx := hb.box h.bx (box_ne h.bx hg (by decide))
  bz := hb.box h.bz (box_ne h.bz hg (by decide))
  near := hb.own h.near hg (by decide)
  seen := hb.own h.seen hg (by decide)
  adv := ⟨l',hx,hA,hV⟩
  ent := by obtain ⟨l,h1,h2,h3⟩ := h.ent; exact ⟨l,hb.own h1 hg (by decide),h2.mono fun _ _ h => h.but hb hg (by decide),h3.mono fun _ _ h => h.but hb hg (by decide)⟩
  own := by obtain ⟨l,h1,h2,h3⟩ := h.own; exact ⟨l,hb.own h1 hg (by decide),h2.mono fun _ _ h => h.but hb hg (by decide),h3.mono fun _ _ h => h.but hb hg (by decide)⟩ }
theorem Cs.setN {w0 w wr x : World} {b : Br} {kd kn kw kn' : Nat} {nv av sv ov : Sl} {g n cap : Nat} {l l' : List XEn} (h : Cs w0 w wr b kd kn kw nv av sv (some ⟨g,0,none⟩,n,cap) ov) (ho : OwnN wr w.heap.size (.slice (some ⟨g,0,none⟩) n cap) l) (hx : OwnN x w.heap.size (.slice (some ⟨g,0,none⟩) n cap) l') (hb : But g wr x) (hw : Below w.heap.size w x) (hA : All2 (EnM w0 w.heap.size x) l' b.ent) (hV : All2 (EnM (vw w0) w.heap.size x) (l'.take kn') (b.ent.take kn')) : Cs w0 w x b kd kn' kw nv av sv (some ⟨g,0,none⟩,n,cap) ov := by
 obtain ⟨cur,hg⟩ := own_tag ho
 exact {
  bel := hw
  bx := hb.box h.bx (box_ne h.bx hg (by decide))
  bz := hb.box h.bz (box_ne h.bz hg (by decide))
  near := hb.own h.near hg (by decide)
  seen := hb.own h.seen hg (by decide)
  adv := by obtain ⟨l,h1,h2,h3⟩ := h.adv; exact ⟨l,hb.own h1 hg (by decide),h2.mono fun _ _ h => h.but hb hg (by decide),h3.mono fun _ _ h => h.but hb hg (by decide)⟩
  ent := ⟨l',hx,hA,hV⟩
  own := by obtain ⟨l,h1,h2,h3⟩ := h.own; exact ⟨l,hb.own h1 hg (by decide),h2.mono fun _ _ h => h.but hb hg (by decide),h3.mono fun _ _ h => h.but hb hg (by decide)⟩ }
theorem Cs.setW {w0 w wr x : World} {b : Br} {kd kn kw kw' : Nat} {nv av sv ev : Sl} {g n cap : Nat} {l l' : List XOw} (h : Cs w0 w wr b kd kn kw nv av sv ev (some ⟨g,0,none⟩,n,cap)) (ho : OwnW wr w.heap.size (.slice (some ⟨g,0,none⟩) n cap) l) (hx : OwnW x w.heap.size (.slice (some ⟨g,0,none⟩) n cap) l') (hb : But g wr x) (hw : Below w.heap.size w x) (hA : All2 (OwM w0 w.heap.size x) l' b.own) (hV : All2 (OwM (vw w0) w.heap.size x) (l'.take kw') (b.own.take kw')) : Cs w0 w x b kd kn kw' nv av sv ev (some ⟨g,0,none⟩,n,cap) := by
 obtain ⟨cur,hg⟩ := own_tag ho
 exact {
  bel := hw
  bx := hb.box h.bx (box_ne h.bx hg (by decide))
  bz := hb.box h.bz (box_ne h.bz hg (by decide))
  near := hb.own h.near hg (by decide)
  seen := hb.own h.seen hg (by decide)
  adv := by obtain ⟨l,h1,h2,h3⟩ := h.adv; exact ⟨l,hb.own h1 hg (by decide),h2.mono fun _ _ h => h.but hb hg (by decide),h3.mono fun _ _ h => h.but hb hg (by decide)⟩
  ent := by obtain ⟨l,h1,h2,h3⟩ := h.ent; exact ⟨l,hb.own h1 hg (by decide),h2.mono fun _ _ h => h.but hb hg (by decide),h3.mono fun _ _ h => h.but hb hg (by decide)⟩
  own := ⟨l',hx,hA,hV⟩ }
end Go.Proofs.YtmklifheakemeaaGreat.Av
namespace Go.Proofs.YtmklifheakemeaaGreat.Bk
open Go.RowKit Go.Sort Rw YtmklifheakemeaaGreat.Nm Pr
def eqI (x y : Id) : Bool := x.1 == y.1 && x.2 == y.2
theorem eqI_iff (x y : Id) : eqI x y = true ↔ x = y := by
 obtain ⟨a,b⟩ := x
 obtain ⟨c,d⟩ := y
 simp [eqI]
end Go.Proofs.YtmklifheakemeaaGreat.Bk
