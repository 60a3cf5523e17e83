/-
  What a round of Adve. Conditions as told.
-/
import Derived.Test.YtkcfgbddlpomgaaGreatDQ035
import Derived.Test.YtkcfgbddlpomgaaGreatDQ036
import Derived.Test.YtkcfgbddlpomgaaGreatDQ034
set_option maxRecDepth 100000
set_option maxHeartbeats 64000000
open _root_.Go renaming World->D,Value->J
namespace Go.Proofs.YtkcfgbddlpomgaaGreat
namespace Av
open Go.RowKit Go.Sort Rw YtkcfgbddlpomgaaGreat.Nm Pr Bk
theorem OZ {α:Type} (l:List α) (k:Nat) (x:α):(fP l k x).length=l.length+1:=by
 unfold fP;simp only [List.length_append,List.length_cons,List.length_nil,List.length_take,List.length_drop];omega
theorem E9 {α β:Type} {E:Ek α} {F:Ek β} {W W':D} {B B':Nat} {v u:J} {l:List β} {m:List α} (ho:Own F W B v l) (gr:W.grownBy W' v.ownBlock) (h:Own E W B' u m) (hne:(E.t == F.t)=false):Own E W' B' u m:=by
 rcases iT ho with⟨h1,_⟩|⟨g,c,cur,h1,_,h2,_⟩
 ·rw [h1] at gr;exact Bk.dB h ((Below.refl _ _).grown gr (Nat.le_refl _) (fun j hj=>by cases hj))
 ·rw [h1] at gr;exact (OY (b:=g) gr).own h h2 hne
end Av
namespace Bk
open Go.RowKit Go.Sort Rw YtkcfgbddlpomgaaGreat.Nm Pr
open Av
def rQ (W1 W:D) (Me ev:Sl) (vQ lx:List iA):Prop:=(ev=Me/\lx=vQ)\/jg W W1.heap.size (dR ev) lx
theorem rR {W1 W:D} {k:Nat} {me:Int} {s1 s2 s3 s4 s5:Sl} {v:J} {p:List C5} (hb:dJ W1 k (iw me s1 s2 s3 s4 s5) 33) (hk:But k W1 W) (h:fK W1 v p):fK W v p:=fQ AO h hk.1 (mE hb (kK me s1 s2 s3 s4 s5))
theorem vk {W1 W:D} {k:Nat} {me:Int} {s1 s2 s3 s4 s5:Sl} {l:List iA} {m:List En} (hb:dJ W1 k (iw me s1 s2 s3 s4 s5) 33) (hk:But k W1 W) (h:eB (iW W1) l m):eB (iW W) l m:=h.mono fun _ _ hx=>⟨hx.1,hx.2.1,hx.2.2.1,hx.2.2.2.1,rR hb hk hx.2.2.2.2⟩
theorem zL {W1 W:D} {k:Nat} {me:Int} {s1 s2 s3 s4 s5:Sl} {l:List nC} {m:List Ou} (hb:dJ W1 k (iw me s1 s2 s3 s4 s5) 33) (hk:But k W1 W) (h:eB (rJ W1) l m):eB (rJ W) l m:=zh h hb hk.1
theorem rQ.row {W1 W:D} {k:Nat} {me:Int} {s1 s2 s3 s4 s5:Sl} {Me ev:Sl} {vQ lx:List iA} (hb:dJ W1 k (iw me s1 s2 s3 s4 s5) 33) (hk:But k W1 W) (h1:jZ W1 (dR Me) vQ) (h:rQ W1 W Me ev vQ lx):jZ W (dR ev) lx:=by
 rcases h with⟨rfl,rfl⟩|h
 ·exact fQ mY h1 hk.1 (jq hb (fun c=>⟨_,_,rfl,rfl⟩) (j5 me s1 s2 s3 s4 s5))
 ·exact Row.dx h
theorem p8 {W1 W:D} {k:Nat} {me:Int} {s1 s2 s3 s4 s5:Sl} {b1 b:Br} {q:Nat} {nv av sv Me ov ev:Sl} {vQ lx:List iA} (hb:dJ W1 k (iw me s1 s2 s3 s4 s5) 33) (hk:But k W1 W) (hI:gZ W1 b1 nv av sv Me ov) (hn:q8 W (dR nv) b1.near) (h1:jZ W1 (dR Me) vQ) (h:rQ W1 W Me ev vQ lx) (ha:eB (iW W1) lx b.ent) (hs:Lv b1 b q):gZ W b nv av sv ev ov:=by
 have h2:=eZ hI hb hk.1 hn;exact⟨by rw [hs.near]; exact h2.near,by rw [hs.dO]; exact h2.dO,by rw [hs.seen]; exact h2.seen,⟨lx,h.row hb hk h1,vk hb hk ha⟩,by rw [hs.own]; exact h2.own⟩
theorem But.below {k:Nat} {a b c:D} (h:But k a b) (hb:Below b.heap.size b c):But k a c:=h.trans (But.of_below hb)
theorem rQ.on {W1 W W':D} {Me ev:Sl} {vQ lx:List iA} (h:rQ W1 W Me ev vQ lx) (hb:Below W.heap.size W W'):rQ W1 W' Me ev vQ lx:=h.imp id fun h=>Bk.dB h hb
theorem wW (w:D) (b:Nat) (a0 a1 a2 a3 a4 a5:J):But b w (gP w b a0 a1 a2 a3 a4 a5):=⟨fun j _ hj=>dH w b a0 a1 a2 a3 a4 a5 j hj,by simp [gP]⟩
theorem Fa {W1 W W':D} {k B:Nat} {Me ev:Sl} {vQ lx:List iA} {v:J} {lo:List nC} (hF:B=W1.heap.size) (ho:jd W B v lo) (gr:W.grownBy W' v.ownBlock) (hk:But k W1 W) (h:rQ W1 W Me ev vQ lx):But k W1 W'/\rQ W1 W' Me ev vQ lx/\(∀ bb cs t,bb<B->dJ W bb cs t->dJ W' bb cs t):=by
 subst hF;have hne:∀ j,j<W1.heap.size->some j≠v.ownBlock:=fun j hj e=>by have:=(ho.lt j e.symm).1; omega
 refine⟨⟨fun j hj hn=>(gr.block j (Nat.lt_of_lt_of_le hj hk.2) (hne j hj)).trans (hk.1 j hj hn),Nat.le_trans hk.2 gr.size⟩,h.imp id fun h=>E9 ho gr h (by decide),fun bb cs t hl hb=>(gr.block bb hb.lt (hne bb hl)).trans hb⟩
end Bk
end Go.Proofs.YtkcfgbddlpomgaaGreat
