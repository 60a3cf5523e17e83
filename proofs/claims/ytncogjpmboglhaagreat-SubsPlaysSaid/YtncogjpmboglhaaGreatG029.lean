/-
  slices.Delete of one entry of a row of one's own. Conditions as told.
-/
import Derived.Test.YtncogjpmboglhaaGreatG026
import Derived.Test.YtncogjpmboglhaaGreatG024
import Derived.Test.YtncogjpmboglhaaGreatG004
set_option maxRecDepth 100000
set_option maxHeartbeats 64000000
namespace Go.Proofs.YtncogjpmboglhaaGreat.Sb
open Go.RowKit Go.Sort Rw YtncogjpmboglhaaGreat.Nm Pr Bk Av
theorem app_shift {w : World} {B g n cap k : Nat} {l : List XEn} (ho : OwnN w B (.slice (some ⟨g,0,none⟩) n cap) l) (hk : k < n) (ty : TypeId) :
  ∃ w',(Builtin.append_ #[28,28] ty #[.slice (some ⟨g,0,none⟩) k cap,.slice (some (if cap = k + 1 then ⟨g,0,none⟩ else ⟨g,(k + 1) * 7,none⟩)) (n - (k + 1)) (cap - (k + 1))]).run Tryz.prog w = .ok (.slice (some ⟨g,0,none⟩) (n - 1) cap) w' ∧
   OwnN w' B (.slice (some ⟨g,0,none⟩) n cap) (cutAt l k ++ l.drop (n - 1)) ∧ But g w w' ∧ (∀ B' W,B' ≤ g → Below B' W w → Below B' W w') := by
 have hl : l.length = n := own_row_len ho
 rcases own_open ho with ⟨h1,_⟩ | ⟨g',cap',cur,h1,h2,h3,h4,h5,h6,h7⟩
 ·cases h1
 ·obtain ⟨rfl,_,rfl⟩ : g = g' ∧ n = l.length ∧ cap = cap' := by simpa using h1
  obtain ⟨i,i1,i2,i3,i4⟩ := okN.info
  have hE : EN.n = 7 := rfl
  have i3' : i.size = 7 := i3
  rw [hl] at h4 h7
  rw [hE] at h6 h7
  have hd : (l.drop (k + 1)).length = n - (k + 1) := by rw [List.length_drop,hl]
  have hfd : (flat EN (l.drop (k + 1))).length = (n - (k + 1)) * 7 := by rw [flat_length okN,hd,hE]
  have hsz : cur.toList.length = cap * 7 := by rw [Array.length_toList]; exact h6
  have hcell : ∀ j u,(flat EN (l.drop (k + 1)))[j]? = some u → w.cell? ((if cap = k + 1 then (⟨g,0,none⟩ : Addr) else ⟨g,(k + 1) * 7,none⟩).add j) = some u := fun j u hj => by
   have hlt := (List.getElem?_eq_some_iff.1 hj).1
   rw [hfd] at hlt
   rw [if_neg (by omega)]
   exact box_rest okN h3 (by rw [hl,hE]; exact h7) (k + 1) j u hj
  have hr := run_append_room (P := Tryz.prog) w 28 ty 43 i okN.hu i1 g k cap cur h3 _ (n - (k + 1)) (cap - (k + 1)) (flat EN (l.drop (k + 1))) (by rw [hfd,i3']) hcell (flat_cell okN _) (by omega) (by rw [hfd,i3',h6]; omega)
  rw [show k + (n - (k + 1)) = n - 1 by omega] at hr
  refine ⟨_,hr,own_shut okN ?_ h2 (Box.set h3 _) h4 h5 ?_ ?_,⟨fun j _ hne => setRow_other w g j _ hne,by simp⟩,fun B' W hB hb => Rw.below_setRow hb hB _⟩
  ·rw [List.length_append,List.length_drop]
   unfold cutAt
   rw [List.length_append,List.length_take,hd,hl]
   omega
  ·rw [List.size_toArray,List.length_append,List.length_append,List.length_take,List.length_drop,hfd,hsz,i3',hE]
   omega
  ·have t1 : cur.toList.take (k * 7) = flat EN (l.take k) := by
    rw [← flat_take okN,← h7,List.take_take,hE,Nat.min_eq_left (by omega)]
   have t2 : (cur.toList.drop ((n - 1) * 7)).take 7 = flat EN (l.drop (n - 1)) := by
    rw [← flat_drop okN,← h7,hE,List.drop_take,show n * 7 - (n - 1) * 7 = 7 by omega]
   rw [i3',hE,hfd,show k * 7 + (n - (k + 1)) * 7 = (n - 1) * 7 by omega,t1]
   have e1 : (flat EN (l.take k) ++ flat EN (l.drop (k + 1))).length = (n - 1) * 7 := by
    rw [List.length_append,hfd,flat_length okN,List.length_take,hE,hl]
    omega
   rw [List.take_append,e1,List.take_of_length_le (by rw [e1]; omega),show n * 7 - (n - 1) * 7 = 7 by omega,t2]
   unfold cutAt
   rw [flat_append,flat_append]
theorem cut_take {l : List XEn} {n k : Nat} (hl : l.length = n) (hk : k < n) : (cutAt l k ++ l.drop (n - 1)).take (n - 1) = cutAt l k := by
 have h : (cutAt l k).length = n - 1 := by
  unfold cutAt
  rw [List.length_append,List.length_take,List.length_drop,hl]
  omega
 rw [← h,List.take_left]
theorem slice3 (a : Addr) (f e len cap : Nat) (h : f ≤ e) (h2 : e ≤ len) (h3 : len ≤ cap) (w : World) : (Instr.sliceAt 28 (.slice (some a) len cap) (some (.int .i64 f)) (some (.int .i64 e)) (some (.int .i64 len))).run Tryz.prog w = .ok (.slice (some (if len = f then a else a.add (f * 7))) (e - f) (len - f)) w := by
 obtain ⟨i,i1,i2,i3,i4⟩ := okN.info
 have i1' : Tryz.prog.info? 43 = some i := i1
 have hu' : Tryz.prog.underlying 28 = some (.slice 43) := okN.hu
 have i3' : i.size = 7 := i3
 by_cases he : len = f
 ·subst he
  obtain rfl : e = len := by omega
  simp [go_sem,hu',sizeOf,typeInfo,i1',i3',h3]
 ·simp [go_sem,hu',sizeOf,typeInfo,i1',i3',he,h,h2,h3]
theorem del_any (B g n cap k : Nat) (l : List XEn) (w : World) (ho : OwnN w B (.slice (some ⟨g,0,none⟩) n cap) l) (hk : k < n) (hn : n ≤ 1000) :
  Calls Tryz.prog 81 #[.slice (some ⟨g,0,none⟩) n cap,.int .i64 k,.int .i64 ((k : Int) + 1)] w fun e w' => e = .returned (.slice (some ⟨g,0,none⟩) (n - 1) cap) ∧
   OwnN w' B (.slice (some ⟨g,0,none⟩) (n - 1) cap) (cutAt l k) ∧ But g w w' ∧ (∀ B' W,B' ≤ g → Below B' W w → Below B' W w') := by
 have hl : l.length = n := own_row_len ho
 have hnc : n ≤ cap := by
  rcases own_open ho with ⟨h1,_⟩ | ⟨g',cap',cur,h1,_,_,h4,_⟩
  ·cases h1
  ·obtain ⟨_,_,rfl⟩ : g = g' ∧ n = l.length ∧ cap = cap' := by simpa using h1
   rw [hl] at h4
   exact h4
 have s3 := fun w => slice3 ⟨g,0,none⟩ k (k + 1) n cap (by omega) (by omega) hnc w
 rw [show (((k + 1 : Nat) : Int)) = (k : Int) + 1 by omega] at s3
 have s1 : ∀ w,(Instr.sliceAt 28 (.slice (some ⟨g,0,none⟩) n cap) none (some (.int .i64 k)) none).run Tryz.prog w = .ok (.slice (some ⟨g,0,none⟩) k cap) w := fun w => slice_lo okN ⟨g,0,none⟩ k n cap (by omega) w
 have s2 : ∀ w,(Instr.sliceAt 28 (.slice (some ⟨g,0,none⟩) n cap) (some (.int .i64 ((k : Int) + 1))) none none).run Tryz.prog w = .ok (.slice (some (if cap = k + 1 then ⟨g,0,none⟩ else ⟨g,(k + 1) * 7,none⟩)) (n - (k + 1)) (cap - (k + 1))) w := fun w => by
  have h := slice_hi okN ⟨g,0,none⟩ (k + 1) n cap (by omega) w
  rw [show (((k + 1 : Nat) : Int)) = (k : Int) + 1 by omega,add_own] at h
  exact h
 have hne : ((k : Int) == (k : Int) + 1) = false := by simp; omega
 obtain ⟨w1,r1,o1,b1,l1⟩ := app_shift (Bk.own_on ho (Below.refl _ _).drew) hk 28
 obtain ⟨p,hp⟩ : ∃ p : Addr,(if cap = k + 1 then (⟨g,0,none⟩ : Addr) else ⟨g,(k + 1) * 7,none⟩) = p := ⟨_,rfl⟩
 obtain ⟨q,hq⟩ : ∃ p : Addr,(if n = k then (⟨g,0,none⟩ : Addr) else (⟨g,0,none⟩ : Addr).add (k * 7)) = p := ⟨_,rfl⟩
 rw [hp] at s2 r1
 rw [hq] at s3
 obtain ⟨m,hm⟩ : ∃ m,n = m + 1 := ⟨n - 1,by omega⟩
 obtain ⟨w2,r2_,o2,b2,l2⟩ := clear_own okN (by decide) o1 (show n - 1 < n by omega) 0
 rw [cut_take hl hk] at o2
 have O2 := Lib.hid o2
 have B2 := Lib.hid (show But g w w2 from ((But.of_below (Below.refl w.heap.size w).drew).trans b1).trans b2)
 have L2 := Lib.hid (show ∀ B' W,B' ≤ g → Below B' W w → Below B' W w2 from fun B' W hB hb => l2 B' W hB (l1 B' W hB hb.drew))
 have r2 : (Builtin.clear_ #[28] 0 #[.slice (some ⟨g,(n - 1) * 7,none⟩) (n - (n - 1)) (cap - (n - 1))]).run Tryz.prog w1 = .ok (.tuple #[]) w2 := r2_
 clear hp hq o1 b1 l1 o2 b2 l2 ho hl
 generalize n - (k + 1) = x1 at s2 r1
 generalize cap - (k + 1) = x2 at s2 r1
 generalize k + 1 - k = x3 at s3
 generalize n - k = x4 at s3
 rw [show n - (n - 1) = 1 by omega] at r2
 clear r2_
 subst hm
 rw [Nat.add_sub_cancel] at *
 go_enter Tryz.func81,Tryz.ntmps81
 go_wp2
 go_region_law (refine step_append_run rfl (.tmp 22) (.tmp 25) 28 rfl (v := .slice (some ⟨g,0,none⟩) k cap) (xv := .slice (some p) x1 x2) rfl rfl r1 ?_)
 all_goals simp only [Exit.then]
 all_goals apply_assumption
 all_goals
  go_wp2_with (first | (at_builtin; refine wpList_clear_run rfl _ _ rfl rfl r2 ?_) | fail)
  go_ret
  exact ⟨rfl,O2.out,B2.out,L2.out⟩
end Go.Proofs.YtncogjpmboglhaaGreat.Sb
