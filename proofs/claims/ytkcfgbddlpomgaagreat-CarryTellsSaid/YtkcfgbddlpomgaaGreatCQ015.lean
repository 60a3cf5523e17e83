/-
  Both of package pred. Conditions as told.
-/
import Derived.Test.YtkcfgbddlpomgaaGreatCQ013
import Derived.Test.YtkcfgbddlpomgaaGreatCQ008
import Derived.Maps.OwnSet
import Derived.DeepKeys4
import Derived.KernelRfl
set_option maxRecDepth 100000
set_option maxHeartbeats 64000000
open _root_.Bool renaming eq_false_or_eq_true->U
open _root_.Go renaming World->Q,bodyPost_ret->V,Value->ah,TypeId->aB,Addr->aC
open Go.Lib renaming hid->D
open Go.Obj renaming cells->J
open Go.Proofs.Tryz renaming results139->L,prog->Z,ntmps139->au,func139->aA
open Go.Value renaming slice->Y,int->ak,string->ay,bool->aD
open _root_.Option renaming some->K,none->aj
namespace Go.Proofs.YtkcfgbddlpomgaaGreat
namespace Pr
open Go.RowKit Go.Sort Pu Rw Va
theorem Gc (w:Q) (c d z:C5):dG (((w.alloc (J (cells5 c).toArray 106)).alloc (J (cells5 d).toArray 106)).alloc (J (cells5 z).toArray 106)) w.heap.size (cells5 c).toArray 106/\dG (((w.alloc (J (cells5 c).toArray 106)).alloc (J (cells5 d).toArray 106)).alloc (J (cells5 z).toArray 106)) (w.heap.size+1) (cells5 d).toArray 106/\dG (((w.alloc (J (cells5 c).toArray 106)).alloc (J (cells5 d).toArray 106)).alloc (J (cells5 z).toArray 106)) (w.heap.size+1+1) (cells5 z).toArray 106/\Below w.heap.size w (((w.alloc (J (cells5 c).toArray 106)).alloc (J (cells5 d).toArray 106)).alloc (J (cells5 z).toArray 106)):=by
 obtain⟨h1,h2,h3⟩:=Qx w c d;refine⟨h1.more _,h2.more _,?_,h3.alloc h3.size _⟩;have h:=dI ((w.alloc (J (cells5 c).toArray 106)).alloc (J (cells5 d).toArray 106)) (cells5 z).toArray 106
 rwa [show ((w.alloc (J (cells5 c).toArray 106)).alloc (J (cells5 d).toArray 106)).heap.size=w.heap.size+1+1 by simp] at h
theorem eH {W:Q} {b:Nat} {c:C5} (h:dG W b (cells5 c).toArray 106):W.cell? ⟨b,0,aj⟩=K (ay c.1)/\W.cell? ⟨b,1,aj⟩=K (ak .i64 c.2.1)/\W.cell? ⟨b,2,aj⟩=K (ak .i64 c.2.2.1)/\W.cell? ⟨b,3,aj⟩=K (ak .i64 c.2.2.2.1)/\W.cell? ⟨b,4,aj⟩=K (ay c.2.2.2.2):=⟨h.cell 0,h.cell 1,h.cell 2,h.cell 3,h.cell 4⟩
theorem gW {B:Nat} {W w:Q} (h:Below B W w) (g:Nat) (hB:B<=g) (v0 v1 v2 v3 v4:ah):Below B W (((((w.setCell ⟨g,0,aj⟩ v0).setCell ⟨g,1,aj⟩ v1).setCell ⟨g,2,aj⟩ v2).setCell ⟨g,3,aj⟩ v3).setCell ⟨g,4,aj⟩ v4) :=
 ((((h.setCell hB _).setCell hB _).setCell hB _).setCell hB _).setCell hB _
theorem Vv (na nb:ByteArray) (a b c d:Int) (w:Q):Calls Z 139 #[cv (r5 (na,.rg a b)),cv (r5 (nb,.rg c d))] w (Km na (eX (.rg a b) (.rg c d)) w):=by
 obtain⟨ba,bb,bz,hb⟩:=Gc w (r5 (na,.rg a b)) (r5 (nb,.rg c d)) (⟨#[]⟩,0,0,0,⟨#[]⟩);have B:=D hb;have BA:=D ba;have BB:=D bb;have BZ:=D bz;have O:=D (F9 na nb a b c d (((w.alloc (J (cells5 (r5 (na,.rg a b))).toArray 106)).alloc (J (cells5 (r5 (nb,.rg c d))).toArray 106)).alloc (J (cells5 (⟨#[]⟩,0,0,0,⟨#[]⟩)).toArray 106)));generalize eX (.rg a b) (.rg c d)=r at *;clear ba bb bz hb;simp only [r5,kN,jg,jh,kT];go_enter aA,au;go_wp2_with fail;refine O.out.mono ?_;rintro e W2 ⟨⟨x,rfl,hx⟩,hb2⟩;have B2:=D (B.out.trans (hb2.mono B.out.size));have Z2:=D (BZ.out.on hb2);have X:=D hx;obtain⟨z0,z1,z2,z3,z4⟩:=eH Z2.out;have fz:=fun k=>Z2.out.fr k;simp only at z0 z1 z2 z3 z4;clear hx hb2 O B BA BB BZ;go_wp2;refine V (v:=.tuple #[cv x,aD r.isSome]) (by simp [results,L,go_sem,z0,z1,z2,z3,z4]) rfl ?_;exact⟨⟨x,rfl,X.out⟩,gW B2.out (w.heap.size+1+1) (by omega) _ _ _ _ _⟩
theorem qK (na nb:ByteArray) (ka kb:Kd) (w:Q) (hno:(kN ka=1/\kN kb≠1)\/kN ka≠1) (hn:na=nb) (r:Option Kd) (hr:r=if iC ka kb then K ka else if iC kb ka then K kb else aj):Calls Z 139 #[cv (r5 (na,ka)),cv (r5 (nb,kb))] w (Km na r w):=by
 obtain⟨ba,bb,bz,hb⟩:=Gc w (r5 (na,ka)) (r5 (nb,kb)) (⟨#[]⟩,0,0,0,⟨#[]⟩);have B:=D hb;have BA:=D ba;have BB:=D bb;have BZ:=D bz;have I1:=D (yS (na,ka) (nb,kb) (((w.alloc (J (cells5 (r5 (na,ka))).toArray 106)).alloc (J (cells5 (r5 (nb,kb))).toArray 106)).alloc (J (cells5 (⟨#[]⟩,0,0,0,⟨#[]⟩)).toArray 106)));have I2:=D (fun W=>yS (nb,kb) (na,ka) W);obtain⟨i1,e1⟩:∃ i,iC ka kb=i:=⟨_,rfl⟩;obtain⟨i2,e2⟩:∃ i,iC kb ka=i:=⟨_,rfl⟩;simp only [e1] at I1;simp only [e2] at I2;rw [e1,e2] at hr;have HR:=D hr;have NE:=D hn;obtain⟨j1,g1⟩:∃ j,(kN ka == (1:Int))=j:=⟨_,rfl⟩;have g2:j1=true->(kN kb == (1:Int))=false:=fun e=>by
  subst e;rcases hno with⟨_,h⟩|h
  ·exact beq_eq_false_iff_ne.2 h
  ·exact absurd (beq_iff_eq.1 g1) h
 have G2:=D g2;clear ba bb bz hb e1 e2 hn hno g2 hr;simp only [r5] at I1 I2 ⊢;cases j1
 all_goals try have g3:=G2.out rfl
 all_goals
  clear G2;go_enter aA,au;go_wp2_with fail;refine I1.out.mono ?_;rintro e W2 ⟨rfl,hb2⟩;have B2:=D (B.out.trans (hb2.mono B.out.size));have Z2:=D (BZ.out.on hb2);have A2:=D (BA.out.on hb2);have D2:=D (BB.out.on hb2);obtain⟨a0,a1,a2,a3,a4⟩:=eH A2.out;obtain⟨d0,d1,d2,d3,d4⟩:=eH D2.out;obtain⟨z0,z1,z2,z3,z4⟩:=eH Z2.out;have fz:=fun k=>Z2.out.fr k;simp only [r5] at a0 a1 a2 a3 a4 d0 d1 d2 d3 d4;simp only at z0 z1 z2 z3 z4;clear hb2 B BA BB BZ I1;rcases U i1 with rfl|rfl
  ·go_wp2;refine V (v:=.tuple #[cv (r5 (na,ka)),aD true]) (by simp [results,L,go_sem,z0,z1,z2,z3,z4,r5]) rfl ?_;exact⟨⟨r5 (na,ka),by rw [HR.out]; rfl,fun k hk=>by rw [HR.out] at hk; rw [<- Option.some.inj hk]⟩,gW B2.out (w.heap.size+1+1) (by omega) _ _ _ _ _⟩
  ·clear a0 a1 a2 a3 a4 d0 d1 d2 d3 d4;obtain⟨a0,a1,a2,a3,a4⟩:=eH A2.out;obtain⟨d0,d1,d2,d3,d4⟩:=eH D2.out;simp only [r5] at a0 a1 a2 a3 a4 d0 d1 d2 d3 d4;go_wp2_with fail;refine (I2.out _).mono ?_;rintro e W3 ⟨rfl,hb3⟩;have B3:=D (B2.out.trans (hb3.mono B2.out.size));have Z3:=D (Z2.out.on hb3);have D3:=D (D2.out.on hb3);clear a0 a1 a2 a3 a4 d0 d1 d2 d3 d4 z0 z1 z2 z3 z4 fz;obtain⟨d0,d1,d2,d3,d4⟩:=eH D3.out;obtain⟨z0,z1,z2,z3,z4⟩:=eH Z3.out;have fz:=fun k=>Z3.out.fr k;simp only [r5] at d0 d1 d2 d3 d4;simp only at z0 z1 z2 z3 z4;clear hb3 B2 I2 A2 D2 Z2;rcases U i2 with rfl|rfl
   ·go_wp2;refine V (v:=.tuple #[cv (r5 (nb,kb)),aD true]) (by simp [results,L,go_sem,z0,z1,z2,z3,z4,r5]) rfl ?_;exact⟨⟨r5 (nb,kb),by rw [HR.out]; rfl,fun k hk=>by rw [HR.out] at hk; rw [NE.out,<- Option.some.inj hk]⟩,gW B3.out (w.heap.size+1+1) (by omega) _ _ _ _ _⟩
   ·go_wp2;refine V (v:=.tuple #[cv ((⟨#[]⟩,0,0,0,⟨#[]⟩)),aD false]) (by simp [results,L,go_sem,z0,z1,z2,z3,z4]) rfl ?_;exact⟨⟨(⟨#[]⟩,0,0,0,⟨#[]⟩),by rw [HR.out]; rfl,fun k hk=>by rw [HR.out] at hk; cases hk⟩,gW B3.out (w.heap.size+1+1) (by omega) _ _ _ _ _⟩
theorem QE (a b:Cn) (w:Q) (hn:a.1=b.1):Calls Z 139 #[cv (r5 a),cv (r5 b)] w (Km a.1 (eX a.2 b.2) w):=by
 obtain⟨na,ka⟩:=a;obtain⟨nb,kb⟩:=b;cases ka with
 | rg p q =>
  cases kb with
  | rg r t=>exact Vv na nb p q r t w
  | tx t=>exact qK na nb _ _ w (Or.inl ⟨rfl,by simp [kN]⟩) hn _ (yh _ _)
  | pr t=>exact qK na nb _ _ w (Or.inl ⟨rfl,by simp [kN]⟩) hn _ (yh _ _)
 | tx s=>exact qK na nb _ _ w (Or.inr (by simp [kN])) hn _ (yh _ _)
 | pr s=>exact qK na nb _ _ w (Or.inr (by simp [kN])) hn _ (yh _ _)
end Pr
namespace Bk
open Go.RowKit Rw YtkcfgbddlpomgaaGreat.Nm Pr
theorem yT {W:Q} {b:Nat} {cs:Array ah} {t:aB} (hb:dG W b cs t) {a:aC} {v:ah} (h:W.cell? a=K v) (e:a.block=b):cs[a.off]?=K v:=by
 unfold World.cell? at h;unfold dG at hb;rw [e,hb] at h;have h2:a.spot=aj/\cs[a.off]?=K v:=by simpa using h
 exact h2.2
theorem Np {W W':Q} {b:Nat} (hk:∀ j,j<W.heap.size->j≠b->W'.heap[j]?=W.heap[j]?) {a:aC} {v:ah} (h:W.cell? a=K v) (e:a.block≠b):W'.cell? a=K v:=by
 have hlt:=World.block_lt_of_cell? W _ h;unfold World.cell? at h ⊢;rw [hk _ hlt e];exact h
theorem uN (a:aC) (j:Nat):(a.add j).block=a.block:=by unfold Addr.add; split <;> rfl
theorem gK {α:Type} {E:Ek α} (_K:E.Ok) {W W':Q} {b:Nat} {v:ah} {l:List α} (h:Row E W v l) (hk:∀ j,j<W.heap.size->j≠b->W'.heap[j]?=W.heap[j]?) (hno:∀ (a:aC) (c:α),(∀ j u,(E.cells c)[j]?=K u->W.cell? (a.add j)=K u)->a.block≠b):Row E W' v l:=by
 rcases h with h|⟨a,cap,h1,h2,h3,h4⟩
 ·exact Or.inl h
 ·refine Or.inr ⟨a,cap,h1,h2,h3,fun j u hj=>?_⟩;cases l with
  | nil=>simp [flat] at hj
  | cons c r =>
   have hne:a.block≠b:=hno a c fun j u hj=>h4 j u (by
    rw [flat,List.getElem?_append_left (by exact (List.getElem?_eq_some_iff.1 hj).1)];exact hj)
   exact Np hk (h4 j u hj) (by rw [uN]; exact hne)
theorem jT {α:Type} {E:Ek α} {W:Q} {b:Nat} {cs:Array ah} {t:aB} (hb:dG W b cs t) (hE:∀ c:α,∃ i j:Int,(E.cells c)[0]?=K (ak .i64 i)/\(E.cells c)[1]?=K (ak .i64 j)) (hcs:∀ (k:Nat) (i j:Int),cs[k]?=K (ak .i64 i)->cs[k+1]?=K (ak .i64 j)->False) (a:aC) (c:α) (h:∀ j u,(E.cells c)[j]?=K u->W.cell? (a.add j)=K u):a.block≠b:=fun e=>by
 obtain⟨i,j,h0,h1⟩:=hE c;have c0:=yT hb (h 0 _ h0) (by rw [uN]; exact e);have c1:=yT hb (h 1 _ h1) (by rw [uN]; exact e);have o0:(a.add 0).off=a.off:=by rw [Addr.add_zero']
 have o1:(a.add 1).off=a.off+1:=by rw [add_pos _ _ (by decide)]
 rw [o0] at c0;rw [o1] at c1;exact hcs a.off i j c0 c1
theorem nk {W:Q} {b:Nat} {cs:Array ah} {t:aB} (hb:dG W b cs t) (hcs:∀ (k:Nat) (s:ByteArray),cs[k]?≠K (ay s)) (a:aC) (c:C5) (h:∀ j u,(EC.cells c)[j]?=K u->W.cell? (a.add j)=K u):a.block≠b:=fun e=>by
 have c0:=yT hb (h 0 _ rfl) (by rw [uN]; exact e);exact hcs _ _ c0
theorem kY (me:Int) (s1 s2 s3 s4 s5:Sl):∀ (k:Nat) (i j:Int),(iY me s1 s2 s3 s4 s5)[k]?=K (ak .i64 i)->(iY me s1 s2 s3 s4 s5)[k+1]?=K (ak .i64 j)->False:=by
 intro k i j h1 h2
 match k with
 | 0=>simp at h2
 | 1=>simp at h1
 | 2=>simp at h1
 | 3=>simp at h1
 | 4=>simp at h1
 | 5=>simp at h1
 | k+6=>simp at h1
theorem nu (me:Int) (s1 s2 s3 s4 s5:Sl):∀ (k:Nat) (s:ByteArray),(iY me s1 s2 s3 s4 s5)[k]?≠K (ay s):=by
 intro k s h
 match k with
 | 0=>simp at h
 | 1=>simp at h
 | 2=>simp at h
 | 3=>simp at h
 | 4=>simp at h
 | 5=>simp at h
 | k+6=>simp at h
theorem eT {W W':Q} {k:Nat} {me:Int} {s1 s2 s3 s4 s5:Sl} {b:Br} {nv av sv ev ov:Sl} (h:gZ W b nv av sv ev ov) (hb:dG W k (iY me s1 s2 s3 s4 s5) 33) (hk:∀ j,j<W.heap.size->j≠k->W'.heap[j]?=W.heap[j]?) (hn:qW W' (dK nv) b.near):gZ W' b nv av sv ev ov where
 near:=hn
 dL:=by
  obtain⟨l,h1,h2⟩:=h.dL;exact⟨l,gK okD h1 hk (jT hb (fun c=>⟨_,_,rfl,rfl⟩) (kY me s1 s2 s3 s4 s5)),h2.mono fun x a hx=>⟨hx.1,hx.2.1,gK Bh hx.2.2 hk (nk hb (nu me s1 s2 s3 s4 s5))⟩⟩
 seen:=gK Am h.seen hk (jT hb (fun c=>⟨_,_,rfl,rfl⟩) (kY me s1 s2 s3 s4 s5))
 ent:=by
  obtain⟨l,h1,h2⟩:=h.ent;exact⟨l,gK nR h1 hk (jT hb (fun c=>⟨_,_,rfl,rfl⟩) (kY me s1 s2 s3 s4 s5)),h2.mono fun x a hx=>⟨hx.1,hx.2.1,hx.2.2.1,hx.2.2.2.1,gK Bh hx.2.2.2.2 hk (nk hb (nu me s1 s2 s3 s4 s5))⟩⟩
 own:=by
  obtain⟨l,h1,h2⟩:=h.own;exact⟨l,gK okW h1 hk (jT hb (fun c=>⟨_,_,rfl,rfl⟩) (kY me s1 s2 s3 s4 s5)),h2.mono fun x a hx=>⟨hx.1,gK Bh hx.2 hk (nk hb (nu me s1 s2 s3 s4 s5))⟩⟩
end Bk
namespace Bk
open Go.RowKit Go.Sort Rw YtkcfgbddlpomgaaGreat.Nm Pr
theorem sH {W:Q} {b:Nat} {z0 z1 z2 z3 z4 z5:ah} (h:dG W b #[z0,z1,z2,z3,z4,z5] 33) (me:Int) (o1 o2 o3 o4 o5:Option aC) (n1 c1 n2 c2 n3 c3 n4 c4 n5 c5:Nat) :
  (Instr.storeAt 33 (.pointer (K ⟨b,0,aj⟩)) (.agg #[ak .i64 me,Y o1 n1 c1,Y o2 n2 c2,Y o3 n3 c3,Y o4 n4 c4,Y o5 n5 c5])).run Z W=.ok () (gM W b (ak .i64 me) (Y o1 n1 c1) (Y o2 n2 c2) (Y o3 n3 c3) (Y o4 n4 c4) (Y o5 n5 c5)):=by
 obtain⟨x0,x1,x2,x3,x4,x5⟩:=h.eZ;obtain⟨f0,f1,f2,f3,f4,f5⟩:=h.kg;simp [go_sem,x0,x1,x2,x3,x4,x5,f0,f1,f2,f3,f4,f5]
theorem wm {W:Q} {b:Nat} {z0 z1 z2 z3 z4 z5:ah} (h:dG W b #[z0,z1,z2,z3,z4,z5] 33):(Instr.loadAt 33 (.pointer (K ⟨b,0,aj⟩))).run Z W=.ok (.agg #[z0,z1,z2,z3,z4,z5]) W:=by
 obtain⟨x0,x1,x2,x3,x4,x5⟩:=h.eZ;simp [go_sem,x0,x1,x2,x3,x4,x5]
theorem Ce {P:Program} (ρ:Operand->ah) (o:Oper) (x y z:Operand) (t s r:aB) (f:FuncId) (ho:o.op=.call { callee:=.value (.func f),args:=#[x,y,z],argTypes:=#[t,s,r] }) {v u q:ah} (hx:ρ x=v) (hy:ρ y=u) (hz:ρ z=q) (hf:ρ (.func f)=.func (.func f) #[] #[]) (w:Q)
  (hc:(callFunc f #[v,u,q]).run P w=.ok (.enter f #[v,u,q]) w):(execOp ρ o).run P w=.ok (.enter f #[v,u,q]) w:=by
 simp [execOp,ho,resolve,invoke,hx,hy,hz,hf,Deferred.ofValue,hc]
theorem Kr {W:Q} {b:Nat} {c d:Int} (h:dG W b #[ak .i64 c,ak .i64 d] 38):∀ j u,(ji (c,d))[j]?=K u->W.cell? ((⟨b,0,aj⟩:aC).add j)=K u:=by
 intro j u hj;rw [mZ,h.cell]
 match j with
 | 0=>exact hj
 | 1=>exact hj
 | j+2=>simp at hj
end Bk
namespace Av
open Go.RowKit Rw Bk Go.Maps Go.ChangeMaps
end Av
end Go.Proofs.YtkcfgbddlpomgaaGreat
