/-
  The document's own M. Conditions as told.
-/
import Derived.Test.YtncogjpmboglhaaGreatF039
import Derived.Test.YtncogjpmboglhaaGreatF019
import Derived.Test.YtncogjpmboglhaaGreatF020
import Derived.Test.YtncogjpmboglhaaGreatF023
import Derived.Test.YtncogjpmboglhaaGreatF001
import Derived.Deep.RegionWith
set_option maxRecDepth 100000
set_option maxHeartbeats 64000000
namespace Go.Proofs.YtncogjpmboglhaaGreat.Rl
open Go.RowKit Go.Sort Pu Rw Pr Va
theorem cnt_lt:∀ (m:List Cn) (n:ByteArray) (k:Nat) (y:Cn),k<cntC m n→m[k]?=some y→Op.bytesLess y.1.toList n.toList=true
 | [],n,k,y,_,h=>by simp at h
 | x::r,n,0,y,hk,h=>by
  simp only [List.getElem?_cons_zero,Option.some.injEq] at h
  subst h
  simp only [cntC] at hk
  split at hk
  ·rename_i h; exact h
  ·omega
 | x::r,n,k+1,y,hk,h=>by
  simp only [cntC] at hk
  split at hk
  ·exact cnt_lt r n k y (by omega) (by simpa using h)
  ·omega
theorem cnt_at:∀ (m:List Cn) (n:ByteArray) (y:Cn),m[cntC m n]?=some y→Op.bytesLess y.1.toList n.toList=false
 | [],n,y,h=>by simp at h
 | x::r,n,y,h=>by
  simp only [cntC] at h
  split at h
  ·exact cnt_at r n y (by simpa using h)
  ·rename_i hn
   simp only [List.getElem?_cons_zero,Option.some.injEq] at h
   subst h
   exact Bool.eq_false_iff.2 hn
theorem there_is {m:List Cn} {n:ByteArray} {y:Cn} (h:m[cntC m n]?=some y):thereC m n=decide (y.1=n):=by
 unfold thereC
 rw [h]
theorem there_end {m:List Cn} {n:ByteArray} (h:m.length≤cntC m n):thereC m n=false:=by
 unfold thereC
 rw [List.getElem?_eq_none h]
theorem foldR_step (m r:List Cn) (c:Cn):foldR m (c::r)=match insC m c with
  | none=>none
  | some n=>foldR n r:=rfl
theorem two_runs {W U:World} {v1 xv hi:Value} {a b:List C5} {c:C5} (h1:OwnC U W.heap.size v1 a) (hx:RowC U xv [c]) (hh:RowC W hi b) (la:a.length≤100) (lb:b.length≤100) (hb:Below W.heap.size W U) :
  ∃ v2 w2 v3 w3,(Builtin.append_ #[39,39] 39 #[v1,xv]).run Tryz.prog U=.ok v2 w2∧(Builtin.append_ #[39,39] 39 #[v2,hi]).run Tryz.prog w2=.ok v3 w3∧OwnC w3 W.heap.size v3 (a++c::b)∧Below W.heap.size W w3:=by
 obtain⟨v2,w2,r2,o2,g2⟩:=appC W.heap.size h1 hx (by omega) (by simp) hb.size
 have b2:=hb.grown g2 hb.size (fun j hj=>(h1.lt j hj).1)
 obtain⟨v3,w3,r3,o3,g3⟩:=appC W.heap.size o2 (hh.on b2) (by simp; omega) (by omega) b2.size
 have b3:=b2.grown g3 b2.size (fun j hj=>(o2.lt j hj).1)
 exact⟨v2,w2,v3,w3,r2,r3,by simpa using o3,b3⟩
theorem row_kept {U w:World} {cb:Nat} {c:C5} {row:Option Nat} (hx:RowC U (.slice (some ⟨cb,0,none⟩) 1 1) [c]) (hg:U.grownBy w row) (hne:row≠some cb):RowC w (.slice (some ⟨cb,0,none⟩) 1 1) [c]:=by
 rcases hx with⟨h,_⟩|⟨a,cap,h1,h2,h3,h4⟩
 ·cases h
 ·obtain⟨rfl,rfl⟩:(⟨cb,0,none⟩:Addr)=a∧1=cap:=by simpa using h1
  exact Or.inr ⟨_,1,rfl,h2,h3,fun j u hj=>hg.cell (h4 j u hj) (by rw [add_own]; exact fun e=>hne e.symm)⟩
theorem runs_a {W:World} {lo hi:Value} {a b:List C5} (c:C5) (hl:RowC W lo a) (hh:RowC W hi b) (la:a.length≤100) (lb:b.length≤100) :
  ∃ v1 w1 v2 w2 v3 w3,(Builtin.append_ #[39,39] 39 #[.slice (some ⟨W.heap.size,0,none⟩) 0 0,lo]).run Tryz.prog (W.alloc (.cells #[] 47))=.ok v1 w1 ∧
   (Builtin.append_ #[39,39] 39 #[v1,.slice (some ⟨w1.heap.size,0,none⟩) 1 1]).run Tryz.prog (w1.alloc (.cells #[.string c.1,.int .i64 c.2.1,.int .i64 c.2.2.1,.int .i64 c.2.2.2.1,.string c.2.2.2.2] 47))=.ok v2 w2 ∧
   (Builtin.append_ #[39,39] 39 #[v2,hi]).run Tryz.prog w2=.ok v3 w3∧Below W.heap.size W w1∧OwnC w3 W.heap.size v3 (a++c::b)∧Below W.heap.size W w3:=by
 have b0:=(Below.refl W.heap.size W).alloc (Nat.le_refl _) (.cells #[] 47)
 obtain⟨v1,w1,r1,o1,g1⟩:=appC W.heap.size (ownC_nil W) (hl.on b0) (by simp) (by omega) (by simp)
 have b1:=b0.grown g1 b0.size (fun j hj=>((ownC_nil W).lt j hj).1)
 have o1':=own_on o1 ((Below.refl _ _).alloc (Nat.le_refl _) (.cells #[.string c.1,.int .i64 c.2.1,.int .i64 c.2.2.1,.int .i64 c.2.2.2.1,.string c.2.2.2.2] 47))
 obtain⟨v2,w2,v3,w3,r2,r3,o3,b3⟩:=two_runs (a:=a) (by simpa using o1') (row_oneC w1 c) hh la lb (b1.alloc b1.size _)
 exact⟨v1,w1,v2,w2,v3,w3,r1,r2,r3,b1,o3,b3⟩
theorem runs_b {W U:World} {g cb:Nat} {lo hi:Value} {a b:List C5} {c:C5} (h0:OwnC U W.heap.size (.slice (some ⟨g,0,none⟩) 0 0) []) (hx:RowC U (.slice (some ⟨cb,0,none⟩) 1 1) [c]) (hne:g≠cb) (hU:Below W.heap.size W U) (hl:RowC W lo a) (hh:RowC W hi b) (la:a.length≤100) (lb:b.length≤100) :
  ∃ v1 w1 v2 w2 v3 w3,(Builtin.append_ #[39,39] 39 #[.slice (some ⟨g,0,none⟩) 0 0,lo]).run Tryz.prog U=.ok v1 w1 ∧
   (Builtin.append_ #[39,39] 39 #[v1,.slice (some ⟨cb,0,none⟩) 1 1]).run Tryz.prog w1=.ok v2 w2 ∧
   (Builtin.append_ #[39,39] 39 #[v2,hi]).run Tryz.prog w2=.ok v3 w3∧OwnC w3 W.heap.size v3 (a++c::b)∧Below W.heap.size W w3:=by
 obtain⟨v1,w1,r1,o1,g1⟩:=appC W.heap.size h0 (hl.on hU) (by simp) (by omega) hU.size
 have b1:=hU.grown g1 hU.size (fun j hj=>(h0.lt j hj).1)
 obtain⟨v2,w2,v3,w3,r2,r3,o3,b3⟩:=two_runs (a:=a) (by simpa using o1) (row_kept hx g1 (by simp [Value.ownBlock,hne])) hh la lb b1
 exact⟨v1,w1,v2,w2,v3,w3,r1,r2,r3,o3,b3⟩
theorem chain_a {U:World} {lo hi:Value} {a b:List C5} (c:C5) (hl:RowC U lo a) (hh:RowC U hi b) (la:a.length≤100) (lb:b.length≤100) :
  ∃ v1 w1 v2 w2 v3 w3,(Builtin.append_ #[39,39] 39 #[.slice (some ⟨U.heap.size,0,none⟩) 0 0,lo]).run Tryz.prog (U.drew.alloc (.cells #[] 47))=.ok v1 w1 ∧
   (Builtin.append_ #[39,39] 39 #[v1,.slice (some ⟨w1.heap.size,0,none⟩) 1 1]).run Tryz.prog (w1.alloc (.cells #[.string c.1,.int .i64 c.2.1,.int .i64 c.2.2.1,.int .i64 c.2.2.2.1,.string c.2.2.2.2] 47))=.ok v2 w2 ∧
   (Builtin.append_ #[39,39] 39 #[v2,hi]).run Tryz.prog w2=.ok v3 w3∧Below U.heap.size U w1∧OwnC w3 U.heap.size v3 (a++c::b)∧Below U.heap.size U w3:=by
 obtain⟨v1,w1,v2,w2,v3,w3,r1,r2,r3,b1,o3,b3⟩:=runs_a (W:=U.drew) c (hl.on (Below.refl _ _).drew) (hh.on (Below.refl _ _).drew) la lb
 exact⟨v1,w1,v2,w2,v3,w3,r1,r2,r3,(Below.refl _ _).drew.trans b1,o3,(Below.refl _ _).drew.trans b3⟩
theorem chain_b {U:World} {lo hi:Value} {a b:List C5} (c:C5) (hl:RowC U lo a) (hh:RowC U hi b) (la:a.length≤100) (lb:b.length≤100) :
  ∃ v1 w1 v2 w2 v3 w3,(Builtin.append_ #[39,39] 39 #[.slice (some ⟨U.heap.size+1,0,none⟩) 0 0,lo]).run Tryz.prog ((U.drew.alloc (.cells #[.string c.1,.int .i64 c.2.1,.int .i64 c.2.2.1,.int .i64 c.2.2.2.1,.string c.2.2.2.2] 47)).alloc (.cells #[] 47))=.ok v1 w1 ∧
   (Builtin.append_ #[39,39] 39 #[v1,.slice (some ⟨U.heap.size,0,none⟩) 1 1]).run Tryz.prog w1=.ok v2 w2 ∧
   (Builtin.append_ #[39,39] 39 #[v2,hi]).run Tryz.prog w2=.ok v3 w3∧OwnC w3 U.heap.size v3 (a++c::b)∧Below U.heap.size U w3:=by
 have h0:OwnC ((U.drew.alloc (.cells #[.string c.1,.int .i64 c.2.1,.int .i64 c.2.2.1,.int .i64 c.2.2.2.1,.string c.2.2.2.2] 47)).alloc (.cells #[] 47)) U.drew.heap.size (.slice (some ⟨U.heap.size+1,0,none⟩) 0 0) []:=by
  have h:=own_less (B':=U.drew.heap.size) (by simp) (ownC_nil (U.drew.alloc (.cells #[.string c.1,.int .i64 c.2.1,.int .i64 c.2.2.1,.int .i64 c.2.2.2.1,.string c.2.2.2.2] 47)))
  rwa [show (U.drew.alloc (.cells #[.string c.1,.int .i64 c.2.1,.int .i64 c.2.2.1,.int .i64 c.2.2.2.1,.string c.2.2.2.2] 47)).heap.size=U.heap.size+1 by simp] at h
 obtain⟨v1,w1,v2,w2,v3,w3,r1,r2,r3,o3,b3⟩:=runs_b (W:=U.drew) (cb:=U.heap.size) h0 ((row_oneC U.drew c).on ((Below.refl _ _).alloc (Nat.le_refl _) _)) (by omega) (((Below.refl _ _).alloc (Nat.le_refl _) _).alloc (by simp) _) (hl.on (Below.refl _ _).drew) (hh.on (Below.refl _ _).drew) la lb
 exact⟨v1,w1,v2,w2,v3,w3,r1,r2,r3,o3,(Below.refl _ _).drew.trans b3⟩
theorem chain_c {U:World} {lo hi:Value} {a b:List C5} (c:C5) (hl:RowC U lo a) (hh:RowC U hi b) (la:a.length≤100) (lb:b.length≤100) :
  ∃ v1 w1 v2 w2 v3 w3,(Builtin.append_ #[39,39] 39 #[.slice (some ⟨U.heap.size,0,none⟩) 0 0,lo]).run Tryz.prog ((U.drew.alloc (.cells #[] 47)).alloc (.cells #[.string c.1,.int .i64 c.2.1,.int .i64 c.2.2.1,.int .i64 c.2.2.2.1,.string c.2.2.2.2] 47))=.ok v1 w1 ∧
   (Builtin.append_ #[39,39] 39 #[v1,.slice (some ⟨U.heap.size+1,0,none⟩) 1 1]).run Tryz.prog w1=.ok v2 w2 ∧
   (Builtin.append_ #[39,39] 39 #[v2,hi]).run Tryz.prog w2=.ok v3 w3∧OwnC w3 U.heap.size v3 (a++c::b)∧Below U.heap.size U w3:=by
 have hx:RowC ((U.drew.alloc (.cells #[] 47)).alloc (.cells #[.string c.1,.int .i64 c.2.1,.int .i64 c.2.2.1,.int .i64 c.2.2.2.1,.string c.2.2.2.2] 47)) (.slice (some ⟨U.heap.size+1,0,none⟩) 1 1) [c]:=by
  have h:=row_oneC (U.drew.alloc (.cells #[] 47)) c
  rwa [show (U.drew.alloc (.cells #[] 47)).heap.size=U.heap.size+1 by simp] at h
 obtain⟨v1,w1,v2,w2,v3,w3,r1,r2,r3,o3,b3⟩:=runs_b (W:=U.drew) (g:=U.heap.size) (own_on (ownC_nil U.drew) ((Below.refl _ _).alloc (Nat.le_refl _) _)) hx (by omega) (((Below.refl _ _).alloc (Nat.le_refl _) _).alloc (by simp) _) (hl.on (Below.refl _ _).drew) (hh.on (Below.refl _ _).drew) la lb
 exact⟨v1,w1,v2,w2,v3,w3,r1,r2,r3,o3,(Below.refl _ _).drew.trans b3⟩
theorem str_neq (a b:ByteArray) (h:¬ a=b):(a.toList == b.toList)=false:=by
 rw [beq_eq_false_iff_ne]
 exact fun e=>h (name_inj e)
def RMkQ (r:Option (List Cn)) (w:World) (e:Ending) (w':World):Prop:=Below w.heap.size w w'∧(match r with
 | some p=>∃ v,e=.returned (.tuple #[v,.bool true])∧RowC w' v (p.map r5)
 | none=>e=.returned (.tuple #[.slice none 0 0,.bool false]))
theorem rmake_any (lv:Value) (l:List Cn) (w:World) (hl:RowC w lv (l.map r5)) (h10:l.length≤10):Calls Tryz.prog 132 #[lv] w (RMkQ (foldR [] l) w):=by
 have HL:=Lib.hid hl
 have LN:=Lib.hid (show (l.map r5).length=l.length from List.length_map ..)
 obtain⟨ao,ac,rfl⟩:=hl.len
 rw [List.length_map] at HL ⊢
 obtain⟨n,hn⟩:∃ n,n=l.length:=⟨_,rfl⟩
 rw [← hn] at HL h10 ⊢
 have HN:=Lib.hid hn
 obtain⟨res,hres⟩:∃ r,r=foldR [] l:=⟨_,rfl⟩
 have HR:=Lib.hid hres
 have QS:=Lib.hid (fun e w' (h:RMkQ res w e w')=>(show RMkQ (foldR [] l) w e w' from hres ▸ h))
 generalize hq:RMkQ (foldR [] l) w=q at *
 clear hq hl hn hres
 go_enter Tryz.func132,Tryz.ntmps132
 go_wp2
 go_loopw [4,12] (fun ov i wr=>∃ (j:Nat) (m:List Cn),j≤n∧i=.int .i64 j∧OwnC wr w.heap.size ov (m.map r5)∧RiseC m∧m.length≤j∧res=foldR m (l.drop j)∧Below w.heap.size w wr) (fun _ i _=>n-(intOf i).toNat)
 case atStart=>exact⟨0,[],Nat.zero_le _,rfl,own_nil _ _,List.Pairwise.nil,by simp,by rw [HR.out]; rfl,Below.refl _ _⟩
 case round =>
  obtain⟨j,m,hj,rfl,hown,hrise,hmj,hfold,hb⟩:=hrel
  have BW:=Lib.hid hb
  have OW:=Lib.hid hown
  have RM:=Lib.hid hrise
  have FO:=Lib.hid hfold
  have m10:m.length≤10:=by omega
  clear hb hown hrise hfold
  by_cases hjl:j<n
  ·obtain⟨⟨xn,xk⟩,hx⟩:∃ x,l[j]?=some x:=⟨_,List.getElem?_eq_getElem (by have:=HN.out; omega)⟩
   obtain⟨p,ix,px⟩:=elC (x:=r5 (xn,xk)) HL.out rfl (LN.out.trans HN.out.symm) (by rw [List.getElem?_map,hx]; rfl)
   obtain⟨p0,p1,p2,p3,p4⟩:=px _ BW.out
   have DR:l.drop j=(xn,xk)::l.drop (j+1):=by
    have h:=List.drop_eq_getElem_cons (l:=l) (i:=j) (by have:=HN.out; omega)
    rw [h]
    congr 1
    exact (List.getElem?_eq_some_iff.1 hx).2
   have F2:=FO.out
   rw [DR,foldR_step] at F2
   have F3:=Lib.hid F2
   have B4:=Lib.hid (BW.out.alloc BW.out.size (.cells #[.string xn,.int .i64 (kN xk),.int .i64 (kLo xk),.int .i64 (kHi xk),.string (kT xk)] 47))
   have O4:=Lib.hid (own_on OW.out ((Below.refl wr.heap.size wr).alloc (Nat.le_refl _) (.cells #[.string xn,.int .i64 (kN xk),.int .i64 (kLo xk),.int .i64 (kHi xk),.string (kT xk)] 47)))
   have X4:=Lib.hid (show Box (wr.alloc (.cells #[.string xn,.int .i64 (kN xk),.int .i64 (kLo xk),.int .i64 (kHi xk),.string (kT xk)] 47)) wr.heap.size (cells5 (r5 (xn,xk))).toArray 47 from box_new wr _ _)
   obtain⟨oo,oc,hov⟩:=(Row.of_own OW.out).len
   rw [List.length_map] at hov
   subst hov
   have CL:=cntC_le m xn
   simp only [r5] at p0 p1 p2 p3 p4
   clear hx px F2 DR FO BW OW
   go_wp2_with fail
   clear ix p0 p1 p2 p3 p4
   generalize wr.alloc (.cells #[.string xn,.int .i64 (kN xk),.int .i64 (kLo xk),.int .i64 (kHi xk),.string (kT xk)] 47)=W1 at *
   generalize wr.heap.size=cb at *
   go_loopw [7] (fun at_ wi=>∃ k:Nat,k≤cntC m xn∧at_=.int .i64 k∧Below W1.heap.size W1 wi) (fun i _=>m.length-(intOf i).toNat)
   case atStart=>exact⟨0,Nat.zero_le _,rfl,Below.refl _ _⟩
   case round =>
    obtain⟨k,hk,rfl,hbi⟩:=hrel
    have BI:=Lib.hid hbi
    have B5:=Lib.hid (B4.out.trans (hbi.mono B4.out.size))
    have O5:=Lib.hid (own_on O4.out hbi)
    have X5:=Lib.hid (X4.out.on hbi)
    clear hbi
    obtain⟨b0,b1,b2,b3,b4⟩:=box_regrown X5.out
    simp only [r5] at b0 b1 b2 b3 b4
    have OL:=Lib.hid (show (m.map r5).length=m.length from List.length_map ..)
    by_cases hkc:k<cntC m xn
    ·obtain⟨⟨yn,yk⟩,hy⟩:∃ y,m[k]?=some y:=⟨_,List.getElem?_eq_getElem (by omega)⟩
     obtain⟨q,iy,q0,q1,q2,q3,q4⟩:=el_regrown (x:=r5 (yn,yk)) (Row.of_own O5.out) rfl OL.out (by rw [List.getElem?_map,hy]; rfl) (Below.refl _ _)
     have lt:=cnt_lt m xn k _ hkc hy
     have hkl:k<m.length:=by omega
     have d0:decide (k<m.length)=true:=by simpa using hkl
     have d1:decide ((k:Int)<(m.length:Int))=true:=by simpa using hkl
     simp only [r5] at q0 q1 q2 q3 q4 lt
     clear hy
     go_wp2
     refine wp_region_quiet_below (by kernel_rfl) (by kernel_rfl) ?_
     repeat (go_big_quiet_step (fail))
     refine wpQuiet_nil ?_
     intro _ hw'
     obtain⟨⟨dq,osq⟩,hw''⟩:=hw'
     subst hw''
     have BN:=Lib.hid (BI.out.trans ((below_regrown wr dq osq).mono BI.out.size))
     clear iy q0 q1 q2 q3 q4 lt b0 b1 b2 b3 b4
     go_wp2
     go_roundw
     case rel=>exact⟨k+1,by omega,by go_num,BN.out⟩
     case measure=>simp [intOf]; omega
    ·have hkk:k=cntC m xn:=by omega
     have HK:=Lib.hid hkk
     by_cases hkl:k<m.length
     ·obtain⟨⟨yn,yk⟩,hy⟩:∃ y,m[k]?=some y:=⟨_,List.getElem?_eq_getElem hkl⟩
      obtain⟨q,iy,q0,q1,q2,q3,q4⟩:=el_regrown (x:=r5 (yn,yk)) (Row.of_own O5.out) rfl OL.out (by rw [List.getElem?_map,hy]; rfl) (Below.refl _ _)
      have lt:=cnt_at m xn (yn,yk) (by rw [← hkk]; exact hy)
      have d0:decide (k<m.length)=true:=by simpa using hkl
      have d1:decide ((k:Int)<(m.length:Int))=true:=by simpa using hkl
      have TH:=Lib.hid (there_is (m:=m) (n:=xn) (y:=(yn,yk)) (by rw [← hkk]; exact hy))
      have HY:=Lib.hid hy
      simp only [r5] at q0 q1 q2 q3 q4 lt
      clear hy hkk hkc
      by_cases he:yn=xn
      ·skip
       obtain rfl:yn=xn:=he
       have TT:=Lib.hid (show thereC m yn=true by rw [TH.out]; simp)
       obtain⟨x,hx1,hx2,hx3⟩:=ins_there (c:=(yn,xk)) TT.out
       rw [← HK.out,HY.out] at hx1
       obtain rfl:=Option.some.inj hx1
       rw [← HK.out] at hx3
       have INS:=Lib.hid hx3
       clear hx1 hx2 hx3 TH TT
       go_wp2
       refine wp_region_quiet_below (by kernel_rfl) (by kernel_rfl) ?_
       repeat (go_big_quiet_step (fail))
       refine wpQuiet_nil ?_
       intro _ hw'
       obtain⟨⟨dq,osq⟩,hw''⟩:=hw'
       subst hw''
       clear iy q0 q1 q2 q3 q4 b0 b1 b2 b3 b4
       have BN:=Lib.hid (B5.out.trans ((below_regrown wr dq osq).mono B5.out.size))
       have ON:=Lib.hid (own_on O5.out (below_regrown wr dq osq))
       have XN:=Lib.hid (X5.out.on (below_regrown wr dq osq))
       clear B5 O5 X5 BI
       generalize grow (redrawn wr dq) osq=w2 at *
       obtain⟨b0,b1,b2,b3,b4⟩:=box_regrown XN.out
       obtain⟨q,iy,q0,q1,q2,q3,q4⟩:=el_regrown (x:=r5 (yn,yk)) (Row.of_own ON.out) rfl OL.out (by rw [List.getElem?_map,HY.out]; rfl) (Below.refl _ _)
       simp only [r5] at q0 q1 q2 q3 q4 b0 b1 b2 b3 b4
       go_wp2
       refine wp_region_quiet_below (by kernel_rfl) (by kernel_rfl) ?_
       repeat (go_big_quiet_step (fail))
       refine wpQuiet_nil ?_
       intro _ hw'
       obtain⟨⟨dq,osq⟩,hw''⟩:=hw'
       subst hw''
       clear iy q0 q1 q2 q3 q4 b0 b1 b2 b3 b4
       have BU:=Lib.hid (BN.out.trans ((below_regrown w2 dq osq).mono BN.out.size))
       have OU:=Lib.hid (own_on ON.out (below_regrown w2 dq osq))
       have XU:=Lib.hid (XN.out.on (below_regrown w2 dq osq))
       clear BN ON XN
       generalize grow (redrawn w2 dq) osq=U at *
       obtain⟨q,iy,_,qx⟩:=row_el okC (x:=r5 (yn,yk)) (Row.of_own OU.out) rfl OL.out (by rw [List.getElem?_map,HY.out]; rfl)
       have QX:=Lib.hid (fun w hw=>five (qx w hw))
       obtain⟨q0,q1,q2,q3,q4⟩:=QX.out U (Below.refl _ _)
       obtain⟨x0,x1,x2,x3,x4⟩:=box_five XU.out
       have CB:=Lib.hid (fun W=>rboth_any yn yk xk W)
       generalize bothK yk xk=r at *
       have hcb:cb<U.heap.size:=XU.out.lt
       simp only [r5] at q0 q1 q2 q3 q4 x0 x1 x2 x3 x4 CB
       clear qx
       change ∀ w,(Instr.indexAt 39 (.slice oo m.length oc) (.int .i64 k)).run Tryz.prog w=.ok (.pointer (some q)) w at iy
       go_wp2_with fail
       rename_i K hK
       have TAIL:∀ (pb:Nat) (wf:World) (y:C5) (u13 u14 u15 u16 u17 u18 u19 u20 u21 u22 u23 u24 u25 u26 u27 u28 u29 u30 u31 u32 u33 u34 u35 u36 u37 u38 u39 u40 u41 u42 u43 u44 u45 u46 u47 u48 u49 u50 u51 u52 u53 u54 u55 u56 u57 u58 u59 u60 u61 u62 u63 u64 u65 u66 u67 u68 u69 u70 u71 u72 u73 u74 u75 u76:Value),Box wf pb (cells5 y).toArray 47→Below U.heap.size U wf→(∀ k',r=some k'→y=r5 (yn,k'))→K ⟨#[.slice ao n ac,undef,u2,u3,.slice oo m.length oc,undef,.pointer (some ⟨cb,0,none⟩),.int .i64 k,.pointer (some ⟨pb,0,none⟩),.bool r.isSome,.slice ao n ac,.int .i64 n,.int .i64 j,u13,u14,u15,u16,u17,u18,u19,u20,u21,u22,u23,u24,u25,u26,u27,u28,u29,u30,u31,u32,u33,u34,u35,u36,u37,u38,u39,u40,u41,u42,u43,u44,u45,u46,u47,u48,u49,u50,u51,u52,u53,u54,u55,u56,u57,u58,u59,u60,u61,u62,u63,u64,u65,u66,u67,u68,u69,u70,u71,u72,u73,u74,u75,u76,undef],[]⟩ wf:=by
        clear q0 q1 q2 q3 q4 x0 x1 x2 x3 x4 CB iy QX XU hcb d0 d1 lt
        intro pb wf y u13 u14 u15 u16 u17 u18 u19 u20 u21 u22 u23 u24 u25 u26 u27 u28 u29 u30 u31 u32 u33 u34 u35 u36 u37 u38 u39 u40 u41 u42 u43 u44 u45 u46 u47 u48 u49 u50 u51 u52 u53 u54 u55 u56 u57 u58 u59 u60 u61 u62 u63 u64 u65 u66 u67 u68 u69 u70 u71 u72 u73 u74 u75 u76 hyb hbw hyk
        have HYB:=Lib.hid hyb
        have HBW:=Lib.hid hbw
        have HYK:=Lib.hid hyk
        have BF:=Lib.hid (BU.out.trans (hbw.mono BU.out.size))
        clear hyb hbw hyk
        apply hK
        clear hK
        rcases r with _|k'
        ·have F4:=Lib.hid (show res=none by rw [F3.out,INS.out]; rfl)
         go_wp2
         refine QS.out _ _ ⟨BF.out,?_⟩
         rw [F4.out]
         rfl
        ·have F4:=Lib.hid (show res=foldR (m.set k (yn,k')) (l.drop (j+1)) by rw [F3.out,INS.out]; rfl)
         have R4:=Lib.hid (ins_rise m (yn,xk) (m.set k (yn,k')) RM.out (by rw [INS.out]; rfl)).1
         have YE:=Lib.hid (HYK.out k' rfl)
         have ROF:=Lib.hid (show RowC wf (.slice oo m.length oc) (m.map r5) from Row.of_own (own_on OU.out HBW.out))
         have BA:=Lib.hid ((Below.refl wf.heap.size wf).alloc (Nat.le_refl _) (.cells #[] 47))
         have MK:=ownC_nil wf
         obtain⟨v1,w1,r1,o0,g1⟩:=appC wf.heap.size MK (ROF.out.on BA.out) (by simp) (by simp; omega) (by simp)
         have B1:=Lib.hid (BA.out.grown g1 (by simp) (fun jj hj=>(MK.lt jj hj).1))
         have o1:OwnC w1 wf.heap.size v1 (m.map r5):=by simpa using o0
         rcases own_open o1 with⟨_,h2⟩|⟨g,cap,cur,rfl,hBg,hg,hlc,hcm,hsz,htk⟩
         ·rw [List.map_eq_nil_iff] at h2
          rw [h2] at hkl
          exact absurd hkl (Nat.not_lt_zero _)
         ·have fl:=flat_at okC (m.map r5) k (r5 (yn,yk)) (by rw [List.getElem?_map,HY.out]; rfl)
          have cl:∀ jj u,jj<5→(cells5 (r5 (yn,yk)))[jj]?=some u→w1.cell? ⟨g,k * 5+jj,none⟩=some u:=fun jj u hj hu=>(World.ownsRow.cellAt o1 (k * 5+jj) (by rw [List.length_map]; show _<m.length * 5; omega)).trans ((fl jj hj).trans hu)
          have c0:=cl 0 _ (by decide) rfl
          have c1:=cl 1 _ (by decide) rfl
          have c2:=cl 2 _ (by decide) rfl
          have c3:=cl 3 _ (by decide) rfl
          have c4:=cl 4 _ (by decide) rfl
          have fz:=fun jj=>(show Box w1 g cur 47 from hg).fr jj
          have BG:=Lib.hid hBg
          have O1:=Lib.hid o1
          have ix:=index_own okC g k m.length cap hkl
          change ∀ w,(Instr.indexAt 39 (.slice (some ⟨g,0,none⟩) m.length cap) (.int .i64 k)).run Tryz.prog w=.ok (.pointer (some ⟨g,k * 5,none⟩)) w at ix
          change w1.cell? ⟨g,k * 5,none⟩=some (.string yn) at c0
          obtain⟨y0,y1,y2,y3,y4⟩:=box_five (HYB.out.on B1.out)
          rw [List.length_map] at r1 O1
          simp only [r5] at c1 c2 c3 c4
          clear o0 o1 g1 MK hBg hg hlc hcm hsz htk fl cl BA ROF
          go_wp2_with (first | (at_builtin; refine wpList_append_run rfl _ _ 39 rfl rfl rfl r1 ?_) | fail)
          go_roundw
          case rel=>exact⟨j+1,m.set k (yn,k'),by omega,by go_num,by
           rw [List.map_set,← YE.out]
           exact own_less BF.out.size (own_store O1.out (by rw [List.length_map]) hkl),R4.out,by rw [List.length_set]; omega,F4.out,below_fiveAt (BF.out.trans (B1.out.mono BF.out.size)) g (Nat.le_trans BF.out.size BG.out) _ _ _ _ _ _⟩
          case measure=>simp [intOf]; omega
       clear hK
       go_region_with (go_at_call 157; refine (CB.out _).mono ?_; rintro e w3 ⟨⟨y,rfl,hy⟩,hb3⟩; (try (have ZB:=Lib.hid ((box_new U.drew (cells5 (⟨#[]⟩,0,0,0,⟨#[]⟩)).toArray 47).on hb3); obtain⟨z0,z1,z2,z3,z4⟩:=box_five ZB.out; have fz:=fun k=>ZB.out.fr k; simp only [World.size_drew] at z0 z1 z2 z3 z4 fz)))
       all_goals simp only [Exit.then]
       all_goals first
        | exact TAIL w3.heap.size _ y _ _ _ _ _ _ _ _ _ _ _ _ _ _ _ _ _ _ _ _ _ _ _ _ _ _ _ _ _ _ _ _ _ _ _ _ _ _ _ _ _ _ _ _ _ _ _ _ _ _ _ _ _ _ _ _ _ _ _ _ _ _ _ _ (box_new w3 _ _) (((Below.refl U.heap.size U).drew.trans hb3).alloc hb3.size _) hy
        | exact TAIL U.heap.size _ y _ _ _ _ _ _ _ _ _ _ _ _ _ _ _ _ _ _ _ _ _ _ _ _ _ _ _ _ _ _ _ _ _ _ _ _ _ _ _ _ _ _ _ _ _ _ _ _ _ _ _ _ _ _ _ _ _ _ _ _ _ _ _ _ (box_store ((box_new U.drew (cells5 (⟨#[]⟩,0,0,0,⟨#[]⟩)).toArray 47).on hb3) y) (below_five (((Below.refl U.heap.size U).drew.alloc (by simp) _).trans (hb3.mono (by simp))) U.heap.size (Nat.le_refl _) _ _ _ _ _) hy
      ·have eq:=str_neq yn xn he
       have NT:=Lib.hid (show thereC m xn=false by rw [TH.out]; simpa using he)
       clear he TH
       go_wp2
       refine wp_region_quiet_below (by kernel_rfl) (by kernel_rfl) ?_
       repeat (go_big_quiet_step (fail))
       refine wpQuiet_nil ?_
       intro _ hw'
       obtain⟨⟨dq,osq⟩,hw''⟩:=hw'
       subst hw''
       clear iy q0 q1 q2 q3 q4 b0 b1 b2 b3 b4
       have BN:=Lib.hid (B5.out.trans ((below_regrown wr dq osq).mono B5.out.size))
       have ON:=Lib.hid (own_on O5.out (below_regrown wr dq osq))
       have XN:=Lib.hid (X5.out.on (below_regrown wr dq osq))
       clear B5 O5 X5 BI
       generalize grow (redrawn wr dq) osq=w2 at *
       obtain⟨b0,b1,b2,b3,b4⟩:=box_regrown XN.out
       obtain⟨q,iy,q0,q1,q2,q3,q4⟩:=el_regrown (x:=r5 (yn,yk)) (Row.of_own ON.out) rfl OL.out (by rw [List.getElem?_map,HY.out]; rfl) (Below.refl _ _)
       simp only [r5] at q0 q1 q2 q3 q4 b0 b1 b2 b3 b4
       go_wp2
       refine wp_region_quiet_below (by kernel_rfl) (by kernel_rfl) ?_
       repeat (go_big_quiet_step (fail))
       refine wpQuiet_nil ?_
       intro _ hw'
       obtain⟨⟨dq,osq⟩,hw''⟩:=hw'
       subst hw''
       have BU:=Lib.hid (BN.out.trans ((below_regrown w2 dq osq).mono BN.out.size))
       have OU:=Lib.hid (own_on ON.out (below_regrown w2 dq osq))
       have XU:=Lib.hid (XN.out.on (below_regrown w2 dq osq))
       clear BN ON XN
       generalize grow (redrawn w2 dq) osq=U at *
       have INS:=Lib.hid (ins_not (c:=(xn,xk)) NT.out)
       rw [← HK.out] at INS
       have F4:=Lib.hid (show res=foldR (m.take k++(xn,xk)::m.drop k) (l.drop (j+1)) by rw [F3.out,INS.out])
       have R4:=Lib.hid (ins_rise m (xn,xk) _ RM.out INS.out).1
       have L4:=Lib.hid (show (m.take k++(xn,xk)::m.drop k).length≤j+1 by have:=HK.out; simp; omega)
       have KM:=Lib.hid (show k≤(m.map r5).length by have:=HK.out; rw [List.length_map]; omega)
       obtain⟨lo,slo,rlo⟩:=loC (Row.of_own OU.out) k KM.out
       obtain⟨hi,shi,rhi⟩:=hiC (Row.of_own OU.out) k KM.out
       have la:((m.map r5).take k).length≤100:=by simp; omega
       have lb:((m.map r5).drop k).length≤100:=by simp; omega
       have MP:=Lib.hid (show (m.take k++(xn,xk)::m.drop k).map r5=(m.map r5).take k++(xn,kN xk,kLo xk,kHi xk,kT xk)::(m.map r5).drop k by rw [List.map_append,List.map_cons,List.map_take,List.map_drop]; rfl)
       obtain⟨va1,wa1,va2,wa2,va3,wa3,ra1,ra2,ra3,ba1,oa3,ba3⟩:=chain_a (xn,kN xk,kLo xk,kHi xk,kT xk) rlo rhi la lb
       obtain⟨vb1,wb1,vb2,wb2,vb3,wb3,rb1,rb2,rb3,ob3,bb3⟩:=chain_b (xn,kN xk,kLo xk,kHi xk,kT xk) rlo rhi la lb
       obtain⟨vc1,wc1,vc2,wc2,vc3,wc3,rc1,rc2,rc3,oc3,bc3⟩:=chain_c (xn,kN xk,kLo xk,kHi xk,kT xk) rlo rhi la lb
       have ENDS:=Lib.hid (fun (v3:Value) (w3:World) (o3:OwnC w3 U.heap.size v3 ((m.map r5).take k++(xn,kN xk,kLo xk,kHi xk,kT xk)::(m.map r5).drop k)) (b3:Below U.heap.size U w3)=>(show OwnC w3 w.heap.size v3 ((m.take k++(xn,xk)::m.drop k).map r5)∧Below w.heap.size w w3 from ⟨by rw [MP.out]; exact own_less BU.out.size o3,BU.out.trans (b3.mono BU.out.size)⟩))
       have EA:=Lib.hid (ENDS.out va3 wa3 oa3 ba3)
       have EB:=Lib.hid (ENDS.out vb3 wb3 ob3 bb3)
       have EC_:=Lib.hid (ENDS.out vc3 wc3 oc3 bc3)
       obtain⟨x0,x1,x2,x3,x4⟩:=box_five XU.out
       obtain⟨y0,y1,y2,y3,y4⟩:=box_five (XU.out.on ba1)
       simp only [r5] at x0 x1 x2 x3 x4 y0 y1 y2 y3 y4 ra2 rb1 rc1
       have hcb:cb<U.heap.size:=XU.out.lt
       clear oa3 ba3 ob3 bb3 oc3 bc3 ENDS rlo rhi la lb ba1 MP XU OU BU
       go_wp2_with fail
       go_region_law (first
        | (refine step_append_run rfl (.tmp 64) (.tmp 67) 39 rfl (by simp [Act.eval]) (by simp [Act.eval]) ra1 ?_)
        | (refine step_append_run rfl (.tmp 64) (.tmp 67) 39 rfl (by simp [Act.eval]) (by simp [Act.eval]) rb1 ?_)
        | (refine step_append_run rfl (.tmp 64) (.tmp 67) 39 rfl (by simp [Act.eval]) (by simp [Act.eval]) rc1 ?_)
        | (refine step_append_run rfl (.tmp 68) (.tmp 70) 39 rfl (by simp [Act.eval]) (by simp [Act.eval]) ra2 ?_)
        | (refine step_append_run rfl (.tmp 68) (.tmp 70) 39 rfl (by simp [Act.eval]) (by simp [Act.eval]) rb2 ?_)
        | (refine step_append_run rfl (.tmp 68) (.tmp 70) 39 rfl (by simp [Act.eval]) (by simp [Act.eval]) rc2 ?_)
        | (refine step_append_run rfl (.tmp 71) (.tmp 74) 39 rfl (by simp [Act.eval]) (by simp [Act.eval]) ra3 ?_)
        | (refine step_append_run rfl (.tmp 71) (.tmp 74) 39 rfl (by simp [Act.eval]) (by simp [Act.eval]) rb3 ?_)
        | (refine step_append_run rfl (.tmp 71) (.tmp 74) 39 rfl (by simp [Act.eval]) (by simp [Act.eval]) rc3 ?_))
       all_goals simp only [Exit.inBlock,Exit.then]
       all_goals
        apply_assumption
        clear ra1 ra2 ra3 rb1 rb2 rb3 rc1 rc2 rc3 x0 x1 x2 x3 x4 y0 y1 y2 y3 y4 slo shi
        go_wp2
        go_roundw
        case rel=>first
         | exact⟨j+1,_,by omega,by go_num,EA.out.1,R4.out,L4.out,F4.out,EA.out.2⟩
         | exact⟨j+1,_,by omega,by go_num,EB.out.1,R4.out,L4.out,F4.out,EB.out.2⟩
         | exact⟨j+1,_,by omega,by go_num,EC_.out.1,R4.out,L4.out,F4.out,EC_.out.2⟩
        case measure=>simp [intOf]; omega
     ·have d0:decide (k<m.length)=false:=by simpa using hkl
      have d1:decide ((k:Int)<(m.length:Int))=false:=by simpa using hkl
      have NT:=Lib.hid (there_end (m:=m) (n:=xn) (by rw [← hkk]; omega))
      clear hkk hkc hkl
      go_wp2
      refine wp_region_quiet_below (by kernel_rfl) (by kernel_rfl) ?_
      repeat (go_big_quiet_step (fail))
      refine wpQuiet_nil ?_
      intro _ hw'
      obtain⟨⟨dq,osq⟩,hw''⟩:=hw'
      subst hw''
      clear b0 b1 b2 b3 b4
      have BN:=Lib.hid (B5.out.trans ((below_regrown wr dq osq).mono B5.out.size))
      have ON:=Lib.hid (own_on O5.out (below_regrown wr dq osq))
      have XN:=Lib.hid (X5.out.on (below_regrown wr dq osq))
      clear B5 O5 X5 BI
      generalize grow (redrawn wr dq) osq=w2 at *
      go_wp2
      refine wp_region_quiet_below (by kernel_rfl) (by kernel_rfl) ?_
      repeat (go_big_quiet_step (fail))
      refine wpQuiet_nil ?_
      intro _ hw'
      obtain⟨⟨dq,osq⟩,hw''⟩:=hw'
      subst hw''
      have BU:=Lib.hid (BN.out.trans ((below_regrown w2 dq osq).mono BN.out.size))
      have OU:=Lib.hid (own_on ON.out (below_regrown w2 dq osq))
      have XU:=Lib.hid (XN.out.on (below_regrown w2 dq osq))
      clear BN ON XN
      generalize grow (redrawn w2 dq) osq=U at *
      have INS:=Lib.hid (ins_not (c:=(xn,xk)) NT.out)
      rw [← HK.out] at INS
      have F4:=Lib.hid (show res=foldR (m.take k++(xn,xk)::m.drop k) (l.drop (j+1)) by rw [F3.out,INS.out])
      have R4:=Lib.hid (ins_rise m (xn,xk) _ RM.out INS.out).1
      have L4:=Lib.hid (show (m.take k++(xn,xk)::m.drop k).length≤j+1 by have:=HK.out; simp; omega)
      have KM:=Lib.hid (show k≤(m.map r5).length by have:=HK.out; rw [List.length_map]; omega)
      obtain⟨lo,slo,rlo⟩:=loC (Row.of_own OU.out) k KM.out
      obtain⟨hi,shi,rhi⟩:=hiC (Row.of_own OU.out) k KM.out
      have la:((m.map r5).take k).length≤100:=by simp; omega
      have lb:((m.map r5).drop k).length≤100:=by simp; omega
      have MP:=Lib.hid (show (m.take k++(xn,xk)::m.drop k).map r5=(m.map r5).take k++(xn,kN xk,kLo xk,kHi xk,kT xk)::(m.map r5).drop k by rw [List.map_append,List.map_cons,List.map_take,List.map_drop]; rfl)
      obtain⟨va1,wa1,va2,wa2,va3,wa3,ra1,ra2,ra3,ba1,oa3,ba3⟩:=chain_a (xn,kN xk,kLo xk,kHi xk,kT xk) rlo rhi la lb
      obtain⟨vb1,wb1,vb2,wb2,vb3,wb3,rb1,rb2,rb3,ob3,bb3⟩:=chain_b (xn,kN xk,kLo xk,kHi xk,kT xk) rlo rhi la lb
      obtain⟨vc1,wc1,vc2,wc2,vc3,wc3,rc1,rc2,rc3,oc3,bc3⟩:=chain_c (xn,kN xk,kLo xk,kHi xk,kT xk) rlo rhi la lb
      have ENDS:=Lib.hid (fun (v3:Value) (w3:World) (o3:OwnC w3 U.heap.size v3 ((m.map r5).take k++(xn,kN xk,kLo xk,kHi xk,kT xk)::(m.map r5).drop k)) (b3:Below U.heap.size U w3)=>(show OwnC w3 w.heap.size v3 ((m.take k++(xn,xk)::m.drop k).map r5)∧Below w.heap.size w w3 from ⟨by rw [MP.out]; exact own_less BU.out.size o3,BU.out.trans (b3.mono BU.out.size)⟩))
      have EA:=Lib.hid (ENDS.out va3 wa3 oa3 ba3)
      have EB:=Lib.hid (ENDS.out vb3 wb3 ob3 bb3)
      have EC_:=Lib.hid (ENDS.out vc3 wc3 oc3 bc3)
      obtain⟨x0,x1,x2,x3,x4⟩:=box_five XU.out
      obtain⟨y0,y1,y2,y3,y4⟩:=box_five (XU.out.on ba1)
      simp only [r5] at x0 x1 x2 x3 x4 y0 y1 y2 y3 y4 ra2 rb1 rc1
      have hcb:cb<U.heap.size:=XU.out.lt
      clear oa3 ba3 ob3 bb3 oc3 bc3 ENDS rlo rhi la lb ba1 MP XU OU BU
      go_wp2_with fail
      go_region_law (first
       | (refine step_append_run rfl (.tmp 64) (.tmp 67) 39 rfl (by simp [Act.eval]) (by simp [Act.eval]) ra1 ?_)
       | (refine step_append_run rfl (.tmp 64) (.tmp 67) 39 rfl (by simp [Act.eval]) (by simp [Act.eval]) rb1 ?_)
       | (refine step_append_run rfl (.tmp 64) (.tmp 67) 39 rfl (by simp [Act.eval]) (by simp [Act.eval]) rc1 ?_)
       | (refine step_append_run rfl (.tmp 68) (.tmp 70) 39 rfl (by simp [Act.eval]) (by simp [Act.eval]) ra2 ?_)
       | (refine step_append_run rfl (.tmp 68) (.tmp 70) 39 rfl (by simp [Act.eval]) (by simp [Act.eval]) rb2 ?_)
       | (refine step_append_run rfl (.tmp 68) (.tmp 70) 39 rfl (by simp [Act.eval]) (by simp [Act.eval]) rc2 ?_)
       | (refine step_append_run rfl (.tmp 71) (.tmp 74) 39 rfl (by simp [Act.eval]) (by simp [Act.eval]) ra3 ?_)
       | (refine step_append_run rfl (.tmp 71) (.tmp 74) 39 rfl (by simp [Act.eval]) (by simp [Act.eval]) rb3 ?_)
       | (refine step_append_run rfl (.tmp 71) (.tmp 74) 39 rfl (by simp [Act.eval]) (by simp [Act.eval]) rc3 ?_))
      all_goals simp only [Exit.inBlock,Exit.then]
      all_goals
       apply_assumption
       clear ra1 ra2 ra3 rb1 rb2 rb3 rc1 rc2 rc3 x0 x1 x2 x3 x4 y0 y1 y2 y3 y4 slo shi
       go_wp2
       go_roundw
       case rel=>first
        | exact⟨j+1,_,by omega,by go_num,EA.out.1,R4.out,L4.out,F4.out,EA.out.2⟩
        | exact⟨j+1,_,by omega,by go_num,EB.out.1,R4.out,L4.out,F4.out,EB.out.2⟩
        | exact⟨j+1,_,by omega,by go_num,EC_.out.1,R4.out,L4.out,F4.out,EC_.out.2⟩
       case measure=>simp [intOf]; omega
  ·obtain rfl:j=n:=by omega
   have R:=Lib.hid (show res=some m by rw [FO.out,List.drop_of_length_le (by have:=HN.out; omega)]; rfl)
   go_wp2
   refine QS.out _ _ ⟨BW.out,?_⟩
   rw [R.out]
   exact⟨_,rfl,Row.of_own OW.out⟩
end Go.Proofs.YtncogjpmboglhaaGreat.Rl
