/-
  A broker with the en. Conditions as told.
-/
import Derived.Test.YtkcfgbddlpomgaaGreatDQ041
set_option maxRecDepth 100000
set_option maxHeartbeats 64000000
open _root_.List renaming mem_filter->D,filter_cons->J,find?->K
namespace Go.Proofs.YtkcfgbddlpomgaaGreat
namespace Ca
open Go.RowKit Go.Sort Rw YtkcfgbddlpomgaaGreat.Nm Pr Bk Av Rl Sb Fl
def Bg (b:Br) (p:En->Bool):Br:={ b with ent:=b.ent.filter p }
def isT (t:eO) (e:En):Bool:=decide (e.tree=t)
theorem IY {b:Br} (h:vK b) (p:En->Bool):vK (Bg b p) where
 ok:=⟨h.ok.near,h.ok.seen,h.ok.dO,h.ok.ent.sublist List.filter_sublist,h.ok.own,h.ok.oks,fun e he=>qK (b:=b) rfl rfl (h.ok.LK e (D.1 he).1),h.ok.Xi⟩
 few:=⟨h.few.near,h.few.dO,h.few.seen,Nat.le_trans (List.length_filter_le _ _) h.few.ent,h.few.own⟩
 Bf:=⟨h.Bf.dO,fun e he=>h.Bf.ent e (D.1 he).1,h.Bf.own⟩
 pe:=fun e he=>h.pe e (D.1 he).1
 po:=h.po
 cl:=h.cl
 np:=h.np
theorem Kj (b:Br) (f:Int) (t:eO) (l:List An):iH (Bg b (isT t)) f t l=iH b f t l:=by
 have e:toB (Bg b (isT t)) t l=toB b t l:=by
  unfold toB Bg;simp only [List.any_filter]
  congr 1
  funext n
  congr 1
  funext e
  unfold isT WE;cases decide (e.tree=t) <;> simp
 unfold iH;rw [e]
 rfl
theorem Kk (b:Br) (f:Int) (t:eO) (l:List An) (p:En->Bool) (hp:∀ e∈b.ent,p e=false):iH (Bg b p) f t l=([],(iH b f t l).2):=by
 have e:toB (Bg b p) t l=[]:=by
  have e0:b.ent.filter p=[]:=List.filter_eq_nil_iff.2 fun e he=>by rw [hp e he]; simp
  unfold toB Bg;rw [e0];exact List.filter_eq_nil_iff.2 fun n _=>by simp
 unfold iH;rw [e];show (match K _ b.dO with | some a=>if a.par=f then ([],xO b l) else ([],[]) | none=>([],[]))=_;cases K (fun a=>decide (a.id=t)) b.dO with
 | none=>rfl
 | some a=>by_cases g:a.par=f <;> simp [g]
theorem DK {b:Br} {f:Int} {t:eO} {l:List An} (h:∀ a,fV b.dO t=some a->f≠a.par):iH b f t l=([],[]):=by
 unfold iH;cases hf:K (fun a=>decide (a.id=t)) b.dO with
 | none=>rfl
 | some a=>exact if_neg fun g=>h a hf g.symm
theorem rZ {α β:Type} {R:α->β->Prop} {p:α->Bool} {q:β->Bool}:∀ {l:List α} {m:List β},eB R l m->(∀ x y,R x y->p x=q y)->eB R (l.filter p) (m.filter q)
 | _,_,.nil,_=>.nil
 | x::l,y::m,.cons h t,hp=>by
  rw [J,J,hp x y h];cases q y
  ·exact rZ t hp
  ·exact .cons h (rZ t hp)
theorem IZ {W:World} {b:Nat} {cs:Array Value} {t:TypeId} (hb:dJ W b cs t) (hcs:∀ (k:Nat) (s:ByteArray),cs[k]?≠some (.string s)) (a:Addr) (c:An) (h:∀ j u,(EA.cells c)[j]?=some u->W.cell? (a.add j)=some u):a.block≠b:=fun e=>by
 have h0:=h 0 _ rfl;exact hcs _ _ (uO hb h0 (by rw [sH]; exact e))
theorem PV {W W':World} {k:Nat} {me:Int} {s1 s2 s3 s4 s5:Sl} {v:Value} {l:List nC} (h:AX W v l) (hb:dJ W k (iw me s1 s2 s3 s4 s5) 33) (hk:But k W W'):AX W' v l:=fQ Fx h hk.1 (jq hb (fun _c=>⟨_,_,rfl,rfl⟩) (j5 me s1 s2 s3 s4 s5))
theorem PW {W W':World} {k:Nat} {me:Int} {s1 s2 s3 s4 s5:Sl} {v:Value} {l:List xM} (h:NM W v l) (hb:dJ W k (iw me s1 s2 s3 s4 s5) 33) (hk:But k W W'):NM W' v l:=fQ okG h hk.1 (jq hb (fun _c=>⟨_,_,rfl,rfl⟩) (j5 me s1 s2 s3 s4 s5))
theorem Qb.keep {W W':World} {k:Nat} {me:Int} {s1 s2 s3 s4 s5:Sl} {x:nC} {o:Ou×List An} (h:Qb W x o) (hb:dJ W k (iw me s1 s2 s3 s4 s5) 33) (hk:But k W W'):Qb W' x o:=⟨h.1,h.2.1,h.2.2.1,h.2.2.2.1,fQ AO h.2.2.2.2.1 hk.1 (mE hb (kK me s1 s2 s3 s4 s5)),fQ okA h.2.2.2.2.2 hk.1 (IZ hb (kK me s1 s2 s3 s4 s5))⟩
theorem SF.keep {W W':World} {k:Nat} {me:Int} {s1 s2 s3 s4 s5:Sl} {x:xM} {o:(Int×eO)×List An} (h:SF W x o) (hb:dJ W k (iw me s1 s2 s3 s4 s5) 33) (hk:But k W W'):SF W' x o:=⟨h.1,h.2.1,fQ okA h.2.2 hk.1 (IZ hb (kK me s1 s2 s3 s4 s5))⟩
end Ca
namespace Sb
open Go.RowKit Go.Sort Rw YtkcfgbddlpomgaaGreat.Nm Pr Bk Av
end Sb
namespace Fl
open Go.RowKit Go.Sort Rw YtkcfgbddlpomgaaGreat.Nm Pr Bk Av
end Fl
namespace Fl
open Go.RowKit Go.Sort Rw YtkcfgbddlpomgaaGreat.Nm Pr Bk Av Rl Sb
end Fl
end Go.Proofs.YtkcfgbddlpomgaaGreat
