/-
  Rows of IDs, of advertisements, of entries and of own subscriptions; a. Conditions as told.
-/
import Derived.Test.YtmklifheakemeaaGreatfr001
import Derived.Test.YtmklifheakemeaaGreatfr005
import Derived.Lib.Hide
set_option maxRecDepth 100000
set_option maxHeartbeats 64000000
namespace Go.Proofs.YtmklifheakemeaaGreat.Bk
open Go.RowKit Rw YtmklifheakemeaaGreat.Nm Pr
abbrev Sl := Option Addr × Nat × Nat
abbrev slv (s : Sl) : Value := .slice s.1 s.2.1 s.2.2
abbrev Id := Int × Int
abbrev XID := Id
abbrev cellsJ (x : XID) : List Value := [.int .i64 x.1,.int .i64 x.2]
abbrev valJ (x : XID) : Value := .agg #[.int .i64 x.1,.int .i64 x.2]
def EJ : Ek XID := ⟨31,24,2,16,.agg #[.int .i64 0,.int .i64 0],valJ,cellsJ⟩
theorem infoJ : (Tryz.prog.info? 31).map (fun i => (i.zero,i.size,i.bytes)) = some (some (.agg #[.int .i64 0,.int .i64 0]),2,16) := by kernel_rfl
theorem loadJ (w : World) (p : Addr) (x : XID) (h : ∀ j u,(cellsJ x)[j]? = some u → w.cell? (p.add j) = some u) : (Instr.loadAt 31 (.pointer (some p))).run Tryz.prog w = .ok (valJ x) w := by
 have h0 := h 0 _ rfl
 have h1 := h 1 _ rfl
 simp [Addr.add] at h0 h1
 simp [go_sem,h0,h1]
theorem okJ : EJ.Ok where
 hu := Tryz.underlying24
 info := by
  have h := infoJ
  cases hi : Tryz.prog.info? 31 with
  | none => rw [hi] at h; cases h
  | some i =>
   rw [hi] at h
   simp only [Option.map_some,Option.some.injEq,Prod.mk.injEq] at h
   exact ⟨i,hi,h.1,h.2.1,h.2.2⟩
 zs := rfl
 len := fun _ => rfl
 one := fun x u hu => by
  simp only [EJ,cellsJ,List.mem_cons,List.not_mem_nil,or_false] at hu
  rcases hu with rfl | rfl <;> rfl
 pos := by decide
 few := by decide
 load := fun w p x h => loadJ w p x h
abbrev RowJ (W : World) (v : Value) (l : List XID) : Prop := Row EJ W v l
abbrev OwnJ (W : World) (B : Nat) (v : Value) (l : List XID) : Prop := Own EJ W B v l
theorem elJ {W : World} {v : Value} {l : List XID} {ao : Option Addr} {n c k : Nat} {x : XID} (h : RowJ W v l) (hv : v = .slice ao n c) (hn : l.length = n) (hk : l[k]? = some x) :
  ∃ p : Addr,(∀ w,(Instr.indexAt 24 (.slice ao n c) (.int .i64 k)).run Tryz.prog w = .ok (.pointer (some p)) w) ∧ ∀ w,Below W.heap.size W w → w.cell? p = some (.int .i64 x.1) ∧ w.cell? ⟨p.block,p.off + 1,none⟩ = some (.int .i64 x.2) := by
 obtain ⟨p,h1,_,h2⟩ := row_el okJ h hv hn hk
 exact ⟨p,h1,fun w hw => ⟨by simpa [Addr.add] using h2 w hw 0 _ rfl,by simpa [Addr.add] using h2 w hw 1 _ rfl⟩⟩
abbrev XAd := Int × Int × Sl × Int
abbrev cellsD (x : XAd) : List Value := [.int .i64 x.1,.int .i64 x.2.1,slv x.2.2.1,.int .i64 x.2.2.2]
abbrev valD (x : XAd) : Value := .agg #[.int .i64 x.1,.int .i64 x.2.1,slv x.2.2.1,.int .i64 x.2.2.2]
def ED : Ek XAd := ⟨74,23,4,48,.agg #[.int .i64 0,.int .i64 0,.slice none 0 0,.int .i64 0],valD,cellsD⟩
theorem infoD : (Tryz.prog.info? 74).map (fun i => (i.zero,i.size,i.bytes)) = some (some (.agg #[.int .i64 0,.int .i64 0,.slice none 0 0,.int .i64 0]),4,48) := by kernel_rfl
theorem loadD (w : World) (p : Addr) (x : XAd) (h : ∀ j u,(cellsD x)[j]? = some u → w.cell? (p.add j) = some u) : (Instr.loadAt 74 (.pointer (some p))).run Tryz.prog w = .ok (valD x) w := by
 have h0 := h 0 _ rfl
 have h1 := h 1 _ rfl
 have h2 := h 2 _ rfl
 have h3 := h 3 _ rfl
 simp [Addr.add] at h0 h1 h2 h3
 simp [go_sem,h0,h1,h2,h3]
theorem okD : ED.Ok where
 hu := Tryz.underlying23
 info := by
  have h := infoD
  cases hi : Tryz.prog.info? 74 with
  | none => rw [hi] at h; cases h
  | some i =>
   rw [hi] at h
   simp only [Option.map_some,Option.some.injEq,Prod.mk.injEq] at h
   exact ⟨i,hi,h.1,h.2.1,h.2.2⟩
 zs := rfl
 len := fun _ => rfl
 one := fun x u hu => by
  simp only [ED,cellsD,List.mem_cons,List.not_mem_nil,or_false] at hu
  rcases hu with rfl | rfl | rfl | rfl <;> rfl
 pos := by decide
 few := by decide
 load := fun w p x h => loadD w p x h
abbrev RowD (W : World) (v : Value) (l : List XAd) : Prop := Row ED W v l
abbrev OwnD (W : World) (B : Nat) (v : Value) (l : List XAd) : Prop := Own ED W B v l
theorem elD {W : World} {v : Value} {l : List XAd} {ao : Option Addr} {n c k : Nat} {x : XAd} (h : RowD W v l) (hv : v = .slice ao n c) (hn : l.length = n) (hk : l[k]? = some x) :
  ∃ p : Addr,(∀ w,(Instr.indexAt 23 (.slice ao n c) (.int .i64 k)).run Tryz.prog w = .ok (.pointer (some p)) w) ∧ ∀ w,Below W.heap.size W w → w.cell? p = some (.int .i64 x.1) ∧ w.cell? ⟨p.block,p.off + 1,none⟩ = some (.int .i64 x.2.1) ∧ w.cell? ⟨p.block,p.off + 2,none⟩ = some (slv x.2.2.1) ∧ w.cell? ⟨p.block,p.off + 3,none⟩ = some (.int .i64 x.2.2.2) := by
 obtain ⟨p,h1,_,h2⟩ := row_el okD h hv hn hk
 exact ⟨p,h1,fun w hw => ⟨by simpa [Addr.add] using h2 w hw 0 _ rfl,by simpa [Addr.add] using h2 w hw 1 _ rfl,by simpa [Addr.add] using h2 w hw 2 _ rfl,by simpa [Addr.add] using h2 w hw 3 _ rfl⟩⟩
abbrev XEn := Int × Int × Int × Int × Sl × Int × Bool
abbrev cellsN (x : XEn) : List Value := [.int .i64 x.1,.int .i64 x.2.1,.int .i64 x.2.2.1,.int .i64 x.2.2.2.1,slv x.2.2.2.2.1,.int .i64 x.2.2.2.2.2.1,.bool x.2.2.2.2.2.2]
abbrev valN (x : XEn) : Value := .agg #[.int .i64 x.1,.int .i64 x.2.1,.int .i64 x.2.2.1,.int .i64 x.2.2.2.1,slv x.2.2.2.2.1,.int .i64 x.2.2.2.2.2.1,.bool x.2.2.2.2.2.2]
def EN : Ek XEn := ⟨66,25,7,72,.agg #[.int .i64 0,.int .i64 0,.int .i64 0,.int .i64 0,.slice none 0 0,.int .i64 0,.bool false],valN,cellsN⟩
theorem infoN : (Tryz.prog.info? 66).map (fun i => (i.zero,i.size,i.bytes)) = some (some (.agg #[.int .i64 0,.int .i64 0,.int .i64 0,.int .i64 0,.slice none 0 0,.int .i64 0,.bool false]),7,72) := by kernel_rfl
theorem loadN (w : World) (p : Addr) (x : XEn) (h : ∀ j u,(cellsN x)[j]? = some u → w.cell? (p.add j) = some u) : (Instr.loadAt 66 (.pointer (some p))).run Tryz.prog w = .ok (valN x) w := by
 have h0 := h 0 _ rfl
 have h1 := h 1 _ rfl
 have h2 := h 2 _ rfl
 have h3 := h 3 _ rfl
 have h4 := h 4 _ rfl
 have h5 := h 5 _ rfl
 have h6 := h 6 _ rfl
 simp [Addr.add] at h0 h1 h2 h3 h4 h5 h6
 simp [go_sem,h0,h1,h2,h3,h4,h5,h6]
theorem okN : EN.Ok where
 hu := Tryz.underlying25
 info := by
  have h := infoN
  cases hi : Tryz.prog.info? 66 with
  | none => rw [hi] at h; cases h
  | some i =>
   rw [hi] at h
   simp only [Option.map_some,Option.some.injEq,Prod.mk.injEq] at h
   exact ⟨i,hi,h.1,h.2.1,h.2.2⟩
 zs := rfl
 len := fun _ => rfl
 one := fun x u hu => by
  simp only [EN,cellsN,List.mem_cons,List.not_mem_nil,or_false] at hu
  rcases hu with rfl | rfl | rfl | rfl | rfl | rfl | rfl <;> rfl
 pos := by decide
 few := by decide
 load := fun w p x h => loadN w p x h
abbrev RowN (W : World) (v : Value) (l : List XEn) : Prop := Row EN W v l
abbrev OwnN (W : World) (B : Nat) (v : Value) (l : List XEn) : Prop := Own EN W B v l
theorem elN {W : World} {v : Value} {l : List XEn} {ao : Option Addr} {n c k : Nat} {x : XEn} (h : RowN W v l) (hv : v = .slice ao n c) (hn : l.length = n) (hk : l[k]? = some x) :
  ∃ p : Addr,(∀ w,(Instr.indexAt 25 (.slice ao n c) (.int .i64 k)).run Tryz.prog w = .ok (.pointer (some p)) w) ∧ ∀ w,Below W.heap.size W w → w.cell? p = some (.int .i64 x.1) ∧ w.cell? ⟨p.block,p.off + 1,none⟩ = some (.int .i64 x.2.1) ∧ w.cell? ⟨p.block,p.off + 2,none⟩ = some (.int .i64 x.2.2.1) ∧ w.cell? ⟨p.block,p.off + 3,none⟩ = some (.int .i64 x.2.2.2.1) ∧ w.cell? ⟨p.block,p.off + 4,none⟩ = some (slv x.2.2.2.2.1) ∧ w.cell? ⟨p.block,p.off + 5,none⟩ = some (.int .i64 x.2.2.2.2.2.1) ∧ w.cell? ⟨p.block,p.off + 6,none⟩ = some (.bool x.2.2.2.2.2.2) := by
 obtain ⟨p,h1,_,h2⟩ := row_el okN h hv hn hk
 exact ⟨p,h1,fun w hw => ⟨by simpa [Addr.add] using h2 w hw 0 _ rfl,by simpa [Addr.add] using h2 w hw 1 _ rfl,by simpa [Addr.add] using h2 w hw 2 _ rfl,by simpa [Addr.add] using h2 w hw 3 _ rfl,by simpa [Addr.add] using h2 w hw 4 _ rfl,by simpa [Addr.add] using h2 w hw 5 _ rfl,by simpa [Addr.add] using h2 w hw 6 _ rfl⟩⟩
abbrev XOw := Int × Int × Sl
abbrev cellsW (x : XOw) : List Value := [.int .i64 x.1,.int .i64 x.2.1,slv x.2.2]
abbrev valW (x : XOw) : Value := .agg #[.int .i64 x.1,.int .i64 x.2.1,slv x.2.2]
def EW : Ek XOw := ⟨34,26,3,40,.agg #[.int .i64 0,.int .i64 0,.slice none 0 0],valW,cellsW⟩
theorem infoW : (Tryz.prog.info? 34).map (fun i => (i.zero,i.size,i.bytes)) = some (some (.agg #[.int .i64 0,.int .i64 0,.slice none 0 0]),3,40) := by kernel_rfl
theorem loadW (w : World) (p : Addr) (x : XOw) (h : ∀ j u,(cellsW x)[j]? = some u → w.cell? (p.add j) = some u) : (Instr.loadAt 34 (.pointer (some p))).run Tryz.prog w = .ok (valW x) w := by
 have h0 := h 0 _ rfl
 have h1 := h 1 _ rfl
 have h2 := h 2 _ rfl
 simp [Addr.add] at h0 h1 h2
 simp [go_sem,h0,h1,h2]
theorem okW : EW.Ok where
 hu := Tryz.underlying26
 info := by
  have h := infoW
  cases hi : Tryz.prog.info? 34 with
  | none => rw [hi] at h; cases h
  | some i =>
   rw [hi] at h
   simp only [Option.map_some,Option.some.injEq,Prod.mk.injEq] at h
   exact ⟨i,hi,h.1,h.2.1,h.2.2⟩
 zs := rfl
 len := fun _ => rfl
 one := fun x u hu => by
  simp only [EW,cellsW,List.mem_cons,List.not_mem_nil,or_false] at hu
  rcases hu with rfl | rfl | rfl <;> rfl
 pos := by decide
 few := by decide
 load := fun w p x h => loadW w p x h
abbrev RowW (W : World) (v : Value) (l : List XOw) : Prop := Row EW W v l
abbrev OwnW (W : World) (B : Nat) (v : Value) (l : List XOw) : Prop := Own EW W B v l
theorem elW {W : World} {v : Value} {l : List XOw} {ao : Option Addr} {n c k : Nat} {x : XOw} (h : RowW W v l) (hv : v = .slice ao n c) (hn : l.length = n) (hk : l[k]? = some x) :
  ∃ p : Addr,(∀ w,(Instr.indexAt 26 (.slice ao n c) (.int .i64 k)).run Tryz.prog w = .ok (.pointer (some p)) w) ∧ ∀ w,Below W.heap.size W w → w.cell? p = some (.int .i64 x.1) ∧ w.cell? ⟨p.block,p.off + 1,none⟩ = some (.int .i64 x.2.1) ∧ w.cell? ⟨p.block,p.off + 2,none⟩ = some (slv x.2.2) := by
 obtain ⟨p,h1,_,h2⟩ := row_el okW h hv hn hk
 exact ⟨p,h1,fun w hw => ⟨by simpa [Addr.add] using h2 w hw 0 _ rfl,by simpa [Addr.add] using h2 w hw 1 _ rfl,by simpa [Addr.add] using h2 w hw 2 _ rfl⟩⟩
structure Ad where
 id : Id
 p : List C5
 par : Int
structure En where
 tree : Id
 sub : Id
 p : List C5
 from_ : Int
 up : Bool
structure Ow where
 id : Id
 p : List C5
structure Br where
 me : Int
 near : List Int
 adv : List Ad
 seen : List Id
 ent : List En
 own : List Ow
def AdIn (W : World) (x : XAd) (a : Ad) : Prop := (x.1,x.2.1) = a.id ∧ x.2.2.2 = a.par ∧ RowC W (slv x.2.2.1) a.p
def EnIn (W : World) (x : XEn) (a : En) : Prop := (x.1,x.2.1) = a.tree ∧ (x.2.2.1,x.2.2.2.1) = a.sub ∧ x.2.2.2.2.2.1 = a.from_ ∧ x.2.2.2.2.2.2 = a.up ∧ RowC W (slv x.2.2.2.2.1) a.p
def OwIn (W : World) (x : XOw) (a : Ow) : Prop := (x.1,x.2.1) = a.id ∧ RowC W (slv x.2.2) a.p
theorem AdIn.on {W W' : World} {x : XAd} {a : Ad} (h : AdIn W x a) (hb : Below W.heap.size W W') : AdIn W' x a := ⟨h.1,h.2.1,h.2.2.on hb⟩
theorem EnIn.on {W W' : World} {x : XEn} {a : En} (h : EnIn W x a) (hb : Below W.heap.size W W') : EnIn W' x a := ⟨h.1,h.2.1,h.2.2.1,h.2.2.2.1,h.2.2.2.2.on hb⟩
theorem OwIn.on {W W' : World} {x : XOw} {a : Ow} (h : OwIn W x a) (hb : Below W.heap.size W W') : OwIn W' x a := ⟨h.1,h.2.on hb⟩
inductive All2 {α β : Type} (R : α → β → Prop) : List α → List β → Prop
 | nil : All2 R [] []
 | cons {a b l m} (h : R a b) (t : All2 R l m) : All2 R (a :: l) (b :: m)
theorem All2.mono {α β : Type} {R S : α → β → Prop} (h : ∀ a b,R a b → S a b) : ∀ {l m},All2 R l m → All2 S l m
 | _,_,.nil => .nil
 | _,_,.cons x t => .cons (h _ _ x) (t.mono h)
theorem All2.len {α β : Type} {R : α → β → Prop} : ∀ {l m},All2 R l m → l.length = m.length
 | _,_,.nil => rfl
 | _,_,.cons _ t => by rw [List.length_cons,List.length_cons,t.len]
theorem All2.at {α β : Type} {R : α → β → Prop} : ∀ {l m} (_ : All2 R l m) (k : Nat) (b : β),m[k]? = some b → ∃ a,l[k]? = some a ∧ R a b
 | _,_,.nil,k,b,h => by simp at h
 | _,_,.cons x t,0,b,h => by
  simp at h
  subst h
  exact ⟨_,rfl,x⟩
 | _,_,.cons x t,k + 1,b,h => by
  obtain ⟨a,h1,h2⟩ := t.at k b (by simpa using h)
  exact ⟨a,by simpa using h1,h2⟩
theorem All2.append {α β : Type} {R : α → β → Prop} : ∀ {l m l' m'},All2 R l m → All2 R l' m' → All2 R (l ++ l') (m ++ m')
 | _,_,_,_,.nil,h => h
 | _,_,_,_,.cons x t,h => .cons x (t.append h)
theorem All2.take {α β : Type} {R : α → β → Prop} : ∀ {l m} (k : Nat),All2 R l m → All2 R (l.take k) (m.take k)
 | _,_,0,_ => by simp only [List.take_zero]; exact .nil
 | _,_,k + 1,.nil => by simp only [List.take_nil]; exact .nil
 | _,_,k + 1,.cons x t => .cons x (t.take k)
theorem All2.drop {α β : Type} {R : α → β → Prop} : ∀ {l m} (k : Nat),All2 R l m → All2 R (l.drop k) (m.drop k)
 | _,_,0,h => h
 | _,_,_k + 1,.nil => .nil
 | _,_,k + 1,.cons _ t => t.drop k
structure BrIn (W : World) (b : Br) (nv av sv ev ov : Sl) : Prop where
 near : RowI W (slv nv) b.near
 adv : ∃ l,RowD W (slv av) l ∧ All2 (AdIn W) l b.adv
 seen : RowJ W (slv sv) b.seen
 ent : ∃ l,RowN W (slv ev) l ∧ All2 (EnIn W) l b.ent
 own : ∃ l,RowW W (slv ov) l ∧ All2 (OwIn W) l b.own
theorem BrIn.on {W W' : World} {b : Br} {nv av sv ev ov : Sl} (h : BrIn W b nv av sv ev ov) (hb : Below W.heap.size W W') : BrIn W' b nv av sv ev ov where
 near := h.near.on hb
 adv := by obtain ⟨l,h1,h2⟩ := h.adv; exact ⟨l,h1.on hb,h2.mono fun _ _ h => h.on hb⟩
 seen := h.seen.on hb
 ent := by obtain ⟨l,h1,h2⟩ := h.ent; exact ⟨l,h1.on hb,h2.mono fun _ _ h => h.on hb⟩
 own := by obtain ⟨l,h1,h2⟩ := h.own; exact ⟨l,h1.on hb,h2.mono fun _ _ h => h.on hb⟩
abbrev brv (me : Int) (nv av sv ev ov : Sl) : Value := .agg #[.int .i64 me,slv nv,slv av,slv sv,slv ev,slv ov]
abbrev brcells (me : Int) (nv av sv ev ov : Sl) : Array Value := #[.int .i64 me,slv nv,slv av,slv sv,slv ev,slv ov]
def lessI (a b : Id) : Bool := decide (a.1 < b.1) || (a.1 == b.1 && decide (a.2 < b.2))
def findI : List Id → Id → Int
 | [],_ => -1
 | a :: l,x => if a = x then 0 else if findI l x = -1 then -1 else findI l x + 1
def placeI (l : List Id) (x : Id) : Nat := (l.takeWhile fun a => lessI a x).length
abbrev idv (x : Id) : Value := .agg #[.int .i64 x.1,.int .i64 x.2]
theorem stoodId : Tryz.prog.stoodInHeld 31 = false := by kernel_rfl
theorem eqId (a b c d : Int) (r : Bool) (h : (a == c && b == d) = r) (w : World) : (binOp .eql 31 (.agg #[.int .i64 a,.int .i64 b]) (.agg #[.int .i64 c,.int .i64 d])).run Tryz.prog w = .ok (.bool r) w := by
 have st := stoodId
 subst h
 by_cases h1 : a = c <;> by_cases h2 : b = d <;> simp [go_sem,Tryz.underlying31,Tryz.underlying3,st,h1,h2]
theorem newB (w : World) (o : Obj) : Below w.heap.size w (w.alloc o) := (Below.refl _ _).alloc (Nat.le_refl _) _
theorem two_new (w : World) (c d : Array Value) (s t : TypeId) : Below w.heap.size w ((w.alloc (.cells c s)).alloc (.cells d t)) ∧ Box ((w.alloc (.cells c s)).alloc (.cells d t)) w.heap.size c s ∧ Box ((w.alloc (.cells c s)).alloc (.cells d t)) (w.heap.size + 1) d t := by
 refine ⟨((Below.refl _ _).alloc (Nat.le_refl _) _).alloc (by simp) _,(box_new w c s).more _,?_⟩
 have h := box_new (w.alloc (.cells c s)) d t
 simpa using h
theorem findI_bd : ∀ (l : List Id) (x : Id),-1 ≤ findI l x
 | [],_ => by simp [findI]
 | a :: l,x => by
  unfold findI
  have := findI_bd l x
  split
  ·omega
  ·split <;> omega
theorem own_fewer {α : Type} {E : Ek α} {W : World} {B C : Nat} {v : Value} {l : List α} (h : Own E W B v l) (hc : C ≤ B) : Own E W C v l := by
 refine ⟨h.1,?_⟩
 rcases h.2 with h2 | ⟨g,cap,cur,h1,h2,h3⟩
 ·exact Or.inl h2
 ·exact Or.inr ⟨g,cap,cur,h1,Nat.le_trans hc h2,h3⟩
theorem own_on {α : Type} {E : Ek α} {W W' : World} {B : Nat} {v : Value} {l : List α} (h : Own E W B v l) (hb : Below W.heap.size W W') : Own E W' B v l :=
 h.kept (w' := W') (row := none) ⟨hb.os,hb.tape,hb.output,hb.size,fun k hk _ => hb.block k hk⟩ (by cases v.ownBlock <;> simp)
theorem own_cell {α : Type} {E : Ek α} {W : World} {B : Nat} {v : Value} {l : List α} (h : Own E W B v l) (b k : Nat) (x : Value) (hb : b < B) : Own E (W.setCell ⟨b,k,none⟩ x) B v l :=
 h.kept (w' := W.setCell ⟨b,k,none⟩ x) (row := some b) ⟨rfl,rfl,rfl,by simp [World.setCell],fun j _ hne => RowKit.Below.heap_setCell _ _ _ _ (fun e => hne (by rw [e]))⟩ (by
  cases hv : v.ownBlock with
  | none => exact Or.inl rfl
  | some j =>
   refine Or.inr fun e => ?_
   injection e with e
   have h1 := (h.lt j hv).1
   omega)
theorem box_set {W : World} {rb k : Nat} {cs : Array Value} {t : TypeId} (h : Box W rb cs t) (x : Value) : Box (W.setCell ⟨rb,k,none⟩ x) rb (cs.setIfInBounds k x) t := heap_setCell_same W rb k cs t x h
end Go.Proofs.YtmklifheakemeaaGreat.Bk
