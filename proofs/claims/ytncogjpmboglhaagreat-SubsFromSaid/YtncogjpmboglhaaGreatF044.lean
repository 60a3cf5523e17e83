/-
  A broker in memory w. Conditions as told.
-/
import Derived.Test.YtncogjpmboglhaaGreatF043
import Derived.Test.YtncogjpmboglhaaGreatF032
set_option maxRecDepth 100000
set_option maxHeartbeats 64000000
namespace Go.Proofs.YtncogjpmboglhaaGreat.Bk
open Go.RowKit Go.Sort Rw YtncogjpmboglhaaGreat.Nm Pr
open Av
def EntR (W1 W:World) (ev1 ev:Sl) (lx1 lx:List XEn):Prop:=(ev=ev1∧lx=lx1)∨OwnN W W1.heap.size (slv ev) lx
theorem mid_pred {W1 W:World} {k:Nat} {me:Int} {s1 s2 s3 s4 s5:Sl} {v:Value} {p:List C5} (hb:Box W1 k (brcells me s1 s2 s3 s4 s5) 31) (hk:But k W1 W) (h:RowC W1 v p):RowC W v p:=row_keep okC h hk.1 (no_text hb (br_text me s1 s2 s3 s4 s5))
theorem mid_ents {W1 W:World} {k:Nat} {me:Int} {s1 s2 s3 s4 s5:Sl} {l:List XEn} {m:List En} (hb:Box W1 k (brcells me s1 s2 s3 s4 s5) 31) (hk:But k W1 W) (h:All2 (EnIn W1) l m):All2 (EnIn W) l m:=h.mono fun _ _ hx=>⟨hx.1,hx.2.1,hx.2.2.1,hx.2.2.2.1,mid_pred hb hk hx.2.2.2.2⟩
theorem mid_outs {W1 W:World} {k:Nat} {me:Int} {s1 s2 s3 s4 s5:Sl} {l:List XOu} {m:List Ou} (hb:Box W1 k (brcells me s1 s2 s3 s4 s5) 31) (hk:But k W1 W) (h:All2 (OuIn W1) l m):All2 (OuIn W) l m:=ous_keep h hb hk.1
theorem EntR.row {W1 W:World} {k:Nat} {me:Int} {s1 s2 s3 s4 s5:Sl} {ev1 ev:Sl} {lx1 lx:List XEn} (hb:Box W1 k (brcells me s1 s2 s3 s4 s5) 31) (hk:But k W1 W) (h1:RowN W1 (slv ev1) lx1) (h:EntR W1 W ev1 ev lx1 lx):RowN W (slv ev) lx:=by
 rcases h with⟨rfl,rfl⟩|h
 ·exact row_keep okN h1 hk.1 (two_ints hb (fun c=>⟨_,_,rfl,rfl⟩) (br_ints me s1 s2 s3 s4 s5))
 ·exact Row.of_own h
theorem brin_mid {W1 W:World} {k:Nat} {me:Int} {s1 s2 s3 s4 s5:Sl} {b1 b:Br} {q:Nat} {nv av sv ev1 ov ev:Sl} {lx1 lx:List XEn} (hb:Box W1 k (brcells me s1 s2 s3 s4 s5) 31) (hk:But k W1 W) (hI:BrIn W1 b1 nv av sv ev1 ov) (hn:RowI W (slv nv) b1.near) (h1:RowN W1 (slv ev1) lx1) (h:EntR W1 W ev1 ev lx1 lx) (ha:All2 (EnIn W1) lx b.ent) (hs:AdI b1 b q):BrIn W b nv av sv ev ov:=by
 have h2:=brin_keep hI hb hk.1 hn
 exact⟨by rw [hs.near]; exact h2.near,by rw [hs.adv]; exact h2.adv,by rw [hs.seen]; exact h2.seen,⟨lx,h.row hb hk h1,mid_ents hb hk ha⟩,by rw [hs.own]; exact h2.own⟩
theorem But.below {k:Nat} {a b c:World} (h:But k a b) (hb:Below b.heap.size b c):But k a c:=h.trans (But.of_below hb)
theorem EntR.on {W1 W W':World} {ev1 ev:Sl} {lx1 lx:List XEn} (h:EntR W1 W ev1 ev lx1 lx) (hb:Below W.heap.size W W'):EntR W1 W' ev1 ev lx1 lx:=h.imp id fun h=>Bk.own_on h hb
theorem but_setB (w:World) (b:Nat) (a0 a1 a2 a3 a4 a5:Value):But b w (setB w b a0 a1 a2 a3 a4 a5):=⟨fun j _ hj=>setB_heap w b a0 a1 a2 a3 a4 a5 j hj,by simp [setB]⟩
theorem mid_app {W1 W W':World} {k B:Nat} {ev1 ev:Sl} {lx1 lx:List XEn} {v:Value} {lo:List XOu} (hF:B=W1.heap.size) (ho:OwnU W B v lo) (gr:W.grownBy W' v.ownBlock) (hk:But k W1 W) (h:EntR W1 W ev1 ev lx1 lx):But k W1 W'∧EntR W1 W' ev1 ev lx1 lx∧(∀ bb cs t,bb<B→Box W bb cs t→Box W' bb cs t):=by
 subst hF
 have hne:∀ j,j<W1.heap.size→some j≠v.ownBlock:=fun j hj e=>by have:=(ho.lt j e.symm).1; omega
 refine⟨⟨fun j hj hn=>(gr.block j (Nat.lt_of_lt_of_le hj hk.2) (hne j hj)).trans (hk.1 j hj hn),Nat.le_trans hk.2 gr.size⟩,h.imp id fun h=>own_app ho gr h (by decide),fun bb cs t hl hb=>(gr.block bb hb.lt (hne bb hl)).trans hb⟩
end Go.Proofs.YtncogjpmboglhaaGreat.Bk
