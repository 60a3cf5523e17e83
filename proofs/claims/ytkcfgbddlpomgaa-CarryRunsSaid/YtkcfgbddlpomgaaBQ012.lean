/-
  Constraint of the st. Conditions as told.
-/
import Derived.Test.YtkcfgbddlpomgaaBQ008
import Derived.Deep.RegionWith
import Derived.Test.YtkcfgbddlpomgaaBQ011
set_option maxRecDepth 100000
set_option maxHeartbeats 64000000
open _root_.Bool renaming eq_false_or_eq_true->Q
open _root_.Go renaming World->U,bodyPost_ret->Y,Value->Z,TypeId->aA,Addr->aC
open Go.Lib renaming hid->D
open Go.Obj renaming cells->J
open Go.Proofs.Try renaming results88->L,prog->aj,ntmps88->ay,func88->aB
open Go.Value renaming slice->V,int->ak,string->au,bool->aD
open _root_.Option renaming some->K,none->ah
namespace Go.Proofs.Ytkcfgbddlpomgaa
namespace Pr
open Go.RowKit Pu Rw Va Kp
end Pr
namespace Pr
open Go.RowKit Pu Rw Va Kp In
def xu (c:Cn):Prop:=c.1.size<=100/\(kT c.2).size<=100/\(-9223372036854775808<=jO c.2/\jO c.2<=9223372036854775807)/\(-9223372036854775808<=jP c.2/\jP c.2<=9223372036854775807)
structure NF (l:List Cn):Prop where
 rise:su l
 five:l.length<=5
 good:∀ c∈l,wN c=true
 small:∀ c∈l,xu c
theorem NF.fJ {l:List Cn} (h:NF l):∀ c∈l,Pr.fJ c.2=true:=fun c hc=>by
 have:=h.good c hc;simp only [wN,Bool.and_eq_true] at this;exact this.2
theorem Bt {a b:Cn} (h:r5 a=r5 b):a=b:=by
 obtain⟨n,a⟩:=a;obtain⟨m,b⟩:=b;simp only [r5,Prod.mk.injEq] at h;obtain⟨rfl,h1,h2,h3,h4⟩:=h;cases a <;> cases b <;> simp [kN,jO,jP,kT] at h1 h2 h3 h4 <;> simp [*]
end Pr
namespace Bk
open Go.RowKit Rw Ytkcfgbddlpomgaa.Nm Pr
theorem lN {W:U} {b:Nat} {cs:Array Z} {t:aA} (hb:dh W b cs t) {a:aC} {v:Z} (h:W.cell? a=K v) (e:a.block=b):cs[a.off]?=K v:=by
 unfold World.cell? at h;unfold dh at hb;rw [e,hb] at h;have h2:a.spot=ah/\cs[a.off]?=K v:=by simpa using h
 exact h2.2
theorem uJ {W W':U} {b:Nat} (hk:∀ j,j<W.heap.size->j≠b->W'.heap[j]?=W.heap[j]?) {a:aC} {v:Z} (h:W.cell? a=K v) (e:a.block≠b):W'.cell? a=K v:=by
 have hlt:=World.block_lt_of_cell? W _ h;unfold World.cell? at h ⊢;rw [hk _ hlt e];exact h
theorem lD (a:aC) (j:Nat):(a.add j).block=a.block:=by unfold Addr.add; split <;> rfl
theorem gy {α:Type} {E:Ek α} (_K:E.Ok) {W W':U} {b:Nat} {v:Z} {l:List α} (h:Row E W v l) (hk:∀ j,j<W.heap.size->j≠b->W'.heap[j]?=W.heap[j]?) (hno:∀ (a:aC) (c:α),(∀ j u,(E.cells c)[j]?=K u->W.cell? (a.add j)=K u)->a.block≠b):Row E W' v l:=by
 rcases h with h|⟨a,cap,h1,h2,h3,h4⟩
 ·exact Or.inl h
 ·refine Or.inr ⟨a,cap,h1,h2,h3,fun j u hj=>?_⟩;cases l with
  | nil=>simp [flat] at hj
  | cons c r =>
   have hne:a.block≠b:=hno a c fun j u hj=>h4 j u (by
    rw [flat,List.getElem?_append_left (by exact (List.getElem?_eq_some_iff.1 hj).1)];exact hj)
   exact uJ hk (h4 j u hj) (by rw [lD]; exact hne)
theorem jT {α:Type} {E:Ek α} {W:U} {b:Nat} {cs:Array Z} {t:aA} (hb:dh W b cs t) (hE:∀ c:α,∃ i j:Int,(E.cells c)[0]?=K (ak .i64 i)/\(E.cells c)[1]?=K (ak .i64 j)) (hcs:∀ (k:Nat) (i j:Int),cs[k]?=K (ak .i64 i)->cs[k+1]?=K (ak .i64 j)->False) (a:aC) (c:α) (h:∀ j u,(E.cells c)[j]?=K u->W.cell? (a.add j)=K u):a.block≠b:=fun e=>by
 obtain⟨i,j,h0,h1⟩:=hE c;have c0:=lN hb (h 0 _ h0) (by rw [lD]; exact e);have c1:=lN hb (h 1 _ h1) (by rw [lD]; exact e);have o0:(a.add 0).off=a.off:=by rw [Addr.add_zero']
 have o1:(a.add 1).off=a.off+1:=by rw [add_pos _ _ (by decide)]
 rw [o0] at c0;rw [o1] at c1;exact hcs a.off i j c0 c1
theorem jU {W:U} {b:Nat} {cs:Array Z} {t:aA} (hb:dh W b cs t) (hcs:∀ (k:Nat) (s:ByteArray),cs[k]?≠K (au s)) (a:aC) (c:C5) (h:∀ j u,(EC.cells c)[j]?=K u->W.cell? (a.add j)=K u):a.block≠b:=fun e=>by
 have c0:=lN hb (h 0 _ rfl) (by rw [lD]; exact e);exact hcs _ _ c0
theorem lF (me:Int) (s1 s2 s3 s4 s5:Sl):∀ (k:Nat) (i j:Int),(jQ me s1 s2 s3 s4 s5)[k]?=K (ak .i64 i)->(jQ me s1 s2 s3 s4 s5)[k+1]?=K (ak .i64 j)->False:=by
 intro k i j h1 h2
 match k with
 | 0=>simp at h2
 | 1=>simp at h1
 | 2=>simp at h1
 | 3=>simp at h1
 | 4=>simp at h1
 | 5=>simp at h1
 | k+6=>simp at h1
theorem jV (me:Int) (s1 s2 s3 s4 s5:Sl):∀ (k:Nat) (s:ByteArray),(jQ me s1 s2 s3 s4 s5)[k]?≠K (au s):=by
 intro k s h
 match k with
 | 0=>simp at h
 | 1=>simp at h
 | 2=>simp at h
 | 3=>simp at h
 | 4=>simp at h
 | 5=>simp at h
 | k+6=>simp at h
theorem uK {W W':U} {k:Nat} {me:Int} {s1 s2 s3 s4 s5:Sl} {b:Br} {nv av sv ev ov:Sl} (h:iF W b nv av sv ev ov) (hb:dh W k (jQ me s1 s2 s3 s4 s5) 30) (hk:∀ j,j<W.heap.size->j≠k->W'.heap[j]?=W.heap[j]?) (hn:om W' (dz nv) b.near):iF W' b nv av sv ev ov where
 near:=hn
 dU:=by
  obtain⟨l,h1,h2⟩:=h.dU;exact⟨l,gy okD h1 hk (jT hb (fun c=>⟨_,_,rfl,rfl⟩) (lF me s1 s2 s3 s4 s5)),h2.mono fun x a hx=>⟨hx.1,hx.2.1,gy Aw hx.2.2 hk (jU hb (jV me s1 s2 s3 s4 s5))⟩⟩
 seen:=gy qI h.seen hk (jT hb (fun c=>⟨_,_,rfl,rfl⟩) (lF me s1 s2 s3 s4 s5))
 ent:=by
  obtain⟨l,h1,h2⟩:=h.ent;exact⟨l,gy ko h1 hk (jT hb (fun c=>⟨_,_,rfl,rfl⟩) (lF me s1 s2 s3 s4 s5)),h2.mono fun x a hx=>⟨hx.1,hx.2.1,hx.2.2.1,hx.2.2.2.1,gy Aw hx.2.2.2.2 hk (jU hb (jV me s1 s2 s3 s4 s5))⟩⟩
 own:=by
  obtain⟨l,h1,h2⟩:=h.own;exact⟨l,gy okW h1 hk (jT hb (fun c=>⟨_,_,rfl,rfl⟩) (lF me s1 s2 s3 s4 s5)),h2.mono fun x a hx=>⟨hx.1,gy Aw hx.2 hk (jU hb (jV me s1 s2 s3 s4 s5))⟩⟩
end Bk
namespace Bk
open Go.RowKit Go.Sort Rw Ytkcfgbddlpomgaa.Nm Pr
theorem zI {W:U} {b:Nat} {z0 z1 z2 z3 z4 z5:Z} (h:dh W b #[z0,z1,z2,z3,z4,z5] 30) (me:Int) (o1 o2 o3 o4 o5:Option aC) (n1 c1 n2 c2 n3 c3 n4 c4 n5 c5:Nat) :
  (Instr.storeAt 30 (.pointer (K ⟨b,0,ah⟩)) (.agg #[ak .i64 me,V o1 n1 c1,V o2 n2 c2,V o3 n3 c3,V o4 n4 c4,V o5 n5 c5])).run aj W=.ok () (iU W b (ak .i64 me) (V o1 n1 c1) (V o2 n2 c2) (V o3 n3 c3) (V o4 n4 c4) (V o5 n5 c5)):=by
 obtain⟨x0,x1,x2,x3,x4,x5⟩:=h.gX;obtain⟨f0,f1,f2,f3,f4,f5⟩:=h.qH;simp [go_sem,x0,x1,x2,x3,x4,x5,f0,f1,f2,f3,f4,f5]
theorem uL {P:Program} (ρ:Operand->Z) (o:Oper) (x y z:Operand) (t s r:aA) (f:FuncId) (ho:o.op=.call { callee:=.value (.func f),args:=#[x,y,z],argTypes:=#[t,s,r] }) {v u q:Z} (hx:ρ x=v) (hy:ρ y=u) (hz:ρ z=q) (hf:ρ (.func f)=.func (.func f) #[] #[]) (w:U)
  (hc:(callFunc f #[v,u,q]).run P w=.ok (.enter f #[v,u,q]) w):(execOp ρ o).run P w=.ok (.enter f #[v,u,q]) w:=by
 simp [execOp,ho,resolve,invoke,hx,hy,hz,hf,Deferred.ofValue,hc]
end Bk
namespace Pr
open Go.RowKit Go.Sort Pu Rw Va
theorem DX (w:U) (c d z:C5):dh (((w.alloc (J (cells5 c).toArray 38)).alloc (J (cells5 d).toArray 38)).alloc (J (cells5 z).toArray 38)) w.heap.size (cells5 c).toArray 38/\dh (((w.alloc (J (cells5 c).toArray 38)).alloc (J (cells5 d).toArray 38)).alloc (J (cells5 z).toArray 38)) (w.heap.size+1) (cells5 d).toArray 38/\dh (((w.alloc (J (cells5 c).toArray 38)).alloc (J (cells5 d).toArray 38)).alloc (J (cells5 z).toArray 38)) (w.heap.size+1+1) (cells5 z).toArray 38/\Below w.heap.size w (((w.alloc (J (cells5 c).toArray 38)).alloc (J (cells5 d).toArray 38)).alloc (J (cells5 z).toArray 38)):=by
 obtain⟨h1,h2,h3⟩:=xq w c d;refine⟨h1.more _,h2.more _,?_,h3.alloc h3.size _⟩;have h:=dB ((w.alloc (J (cells5 c).toArray 38)).alloc (J (cells5 d).toArray 38)) (cells5 z).toArray 38
 rwa [show ((w.alloc (J (cells5 c).toArray 38)).alloc (J (cells5 d).toArray 38)).heap.size=w.heap.size+1+1 by simp] at h
theorem dZ {W:U} {b:Nat} {c:C5} (h:dh W b (cells5 c).toArray 38):W.cell? ⟨b,0,ah⟩=K (au c.1)/\W.cell? ⟨b,1,ah⟩=K (ak .i64 c.2.1)/\W.cell? ⟨b,2,ah⟩=K (ak .i64 c.2.2.1)/\W.cell? ⟨b,3,ah⟩=K (ak .i64 c.2.2.2.1)/\W.cell? ⟨b,4,ah⟩=K (au c.2.2.2.2):=⟨h.cell 0,h.cell 1,h.cell 2,h.cell 3,h.cell 4⟩
theorem fV {B:Nat} {W w:U} (h:Below B W w) (g:Nat) (hB:B<=g) (v0 v1 v2 v3 v4:Z):Below B W (((((w.setCell ⟨g,0,ah⟩ v0).setCell ⟨g,1,ah⟩ v1).setCell ⟨g,2,ah⟩ v2).setCell ⟨g,3,ah⟩ v3).setCell ⟨g,4,ah⟩ v4) :=
 ((((h.setCell hB _).setCell hB _).setCell hB _).setCell hB _).setCell hB _
theorem zJ (na nb:ByteArray) (a b c d:Int) (w:U):Calls aj 88 #[cv (r5 (na,.rg a b)),cv (r5 (nb,.rg c d))] w (sG na (eu (.rg a b) (.rg c d)) w):=by
 obtain⟨ba,bb,bz,hb⟩:=DX w (r5 (na,.rg a b)) (r5 (nb,.rg c d)) (⟨#[]⟩,0,0,0,⟨#[]⟩);have B:=D hb;have BA:=D ba;have BB:=D bb;have BZ:=D bz;have O:=D (pQ na nb a b c d (((w.alloc (J (cells5 (r5 (na,.rg a b))).toArray 38)).alloc (J (cells5 (r5 (nb,.rg c d))).toArray 38)).alloc (J (cells5 (⟨#[]⟩,0,0,0,⟨#[]⟩)).toArray 38)));generalize eu (.rg a b) (.rg c d)=r at *;clear ba bb bz hb;simp only [r5,kN,jO,jP,kT];go_enter aB,ay;go_wp2_with fail;refine O.out.mono ?_;rintro e W2 ⟨⟨x,rfl,hx⟩,hb2⟩;have B2:=D (B.out.trans (hb2.mono B.out.size));have Z2:=D (BZ.out.on hb2);have X:=D hx;obtain⟨z0,z1,z2,z3,z4⟩:=dZ Z2.out;have fz:=fun k=>Z2.out.fr k;simp only at z0 z1 z2 z3 z4;clear hx hb2 O B BA BB BZ;go_wp2;refine Y (v:=.tuple #[cv x,aD r.isSome]) (by simp [results,L,go_sem,z0,z1,z2,z3,z4]) rfl ?_;exact⟨⟨x,rfl,X.out⟩,fV B2.out (w.heap.size+1+1) (by omega) _ _ _ _ _⟩
theorem iL (na nb:ByteArray) (ka kb:Kd) (w:U) (hno:(kN ka=1/\kN kb≠1)\/kN ka≠1) (hn:na=nb) (r:Option Kd) (hr:r=if dQ ka kb then K ka else if dQ kb ka then K kb else ah):Calls aj 88 #[cv (r5 (na,ka)),cv (r5 (nb,kb))] w (sG na r w):=by
 obtain⟨ba,bb,bz,hb⟩:=DX w (r5 (na,ka)) (r5 (nb,kb)) (⟨#[]⟩,0,0,0,⟨#[]⟩);have B:=D hb;have BA:=D ba;have BB:=D bb;have BZ:=D bz;have I1:=D (lM (na,ka) (nb,kb) (((w.alloc (J (cells5 (r5 (na,ka))).toArray 38)).alloc (J (cells5 (r5 (nb,kb))).toArray 38)).alloc (J (cells5 (⟨#[]⟩,0,0,0,⟨#[]⟩)).toArray 38)));have I2:=D (fun W=>lM (nb,kb) (na,ka) W);obtain⟨i1,e1⟩:∃ i,dQ ka kb=i:=⟨_,rfl⟩;obtain⟨i2,e2⟩:∃ i,dQ kb ka=i:=⟨_,rfl⟩;simp only [e1] at I1;simp only [e2] at I2;rw [e1,e2] at hr;have HR:=D hr;have NE:=D hn;obtain⟨j1,g1⟩:∃ j,(kN ka == (1:Int))=j:=⟨_,rfl⟩;have g2:j1=true->(kN kb == (1:Int))=false:=fun e=>by
  subst e;rcases hno with⟨_,h⟩|h
  ·exact beq_eq_false_iff_ne.2 h
  ·exact absurd (beq_iff_eq.1 g1) h
 have G2:=D g2;clear ba bb bz hb e1 e2 hn hno g2 hr;simp only [r5] at I1 I2 ⊢;cases j1
 all_goals try have g3:=G2.out rfl
 all_goals
  clear G2;go_enter aB,ay;go_wp2_with fail;refine I1.out.mono ?_;rintro e W2 ⟨rfl,hb2⟩;have B2:=D (B.out.trans (hb2.mono B.out.size));have Z2:=D (BZ.out.on hb2);have A2:=D (BA.out.on hb2);have D2:=D (BB.out.on hb2);obtain⟨a0,a1,a2,a3,a4⟩:=dZ A2.out;obtain⟨d0,d1,d2,d3,d4⟩:=dZ D2.out;obtain⟨z0,z1,z2,z3,z4⟩:=dZ Z2.out;have fz:=fun k=>Z2.out.fr k;simp only [r5] at a0 a1 a2 a3 a4 d0 d1 d2 d3 d4;simp only at z0 z1 z2 z3 z4;clear hb2 B BA BB BZ I1;rcases Q i1 with rfl|rfl
  ·go_wp2;refine Y (v:=.tuple #[cv (r5 (na,ka)),aD true]) (by simp [results,L,go_sem,z0,z1,z2,z3,z4,r5]) rfl ?_;exact⟨⟨r5 (na,ka),by rw [HR.out]; rfl,fun k hk=>by rw [HR.out] at hk; rw [<- Option.some.inj hk]⟩,fV B2.out (w.heap.size+1+1) (by omega) _ _ _ _ _⟩
  ·clear a0 a1 a2 a3 a4 d0 d1 d2 d3 d4;obtain⟨a0,a1,a2,a3,a4⟩:=dZ A2.out;obtain⟨d0,d1,d2,d3,d4⟩:=dZ D2.out;simp only [r5] at a0 a1 a2 a3 a4 d0 d1 d2 d3 d4;go_wp2_with fail;refine (I2.out _).mono ?_;rintro e W3 ⟨rfl,hb3⟩;have B3:=D (B2.out.trans (hb3.mono B2.out.size));have Z3:=D (Z2.out.on hb3);have D3:=D (D2.out.on hb3);clear a0 a1 a2 a3 a4 d0 d1 d2 d3 d4 z0 z1 z2 z3 z4 fz;obtain⟨d0,d1,d2,d3,d4⟩:=dZ D3.out;obtain⟨z0,z1,z2,z3,z4⟩:=dZ Z3.out;have fz:=fun k=>Z3.out.fr k;simp only [r5] at d0 d1 d2 d3 d4;simp only at z0 z1 z2 z3 z4;clear hb3 B2 I2 A2 D2 Z2;rcases Q i2 with rfl|rfl
   ·go_wp2;refine Y (v:=.tuple #[cv (r5 (nb,kb)),aD true]) (by simp [results,L,go_sem,z0,z1,z2,z3,z4,r5]) rfl ?_;exact⟨⟨r5 (nb,kb),by rw [HR.out]; rfl,fun k hk=>by rw [HR.out] at hk; rw [NE.out,<- Option.some.inj hk]⟩,fV B3.out (w.heap.size+1+1) (by omega) _ _ _ _ _⟩
   ·go_wp2;refine Y (v:=.tuple #[cv ((⟨#[]⟩,0,0,0,⟨#[]⟩)),aD false]) (by simp [results,L,go_sem,z0,z1,z2,z3,z4]) rfl ?_;exact⟨⟨(⟨#[]⟩,0,0,0,⟨#[]⟩),by rw [HR.out]; rfl,fun k hk=>by rw [HR.out] at hk; cases hk⟩,fV B3.out (w.heap.size+1+1) (by omega) _ _ _ _ _⟩
theorem xw (a b:Cn) (w:U) (hn:a.1=b.1):Calls aj 88 #[cv (r5 a),cv (r5 b)] w (sG a.1 (eu a.2 b.2) w):=by
 obtain⟨na,ka⟩:=a;obtain⟨nb,kb⟩:=b;cases ka with
 | rg p q =>
  cases kb with
  | rg r t=>exact zJ na nb p q r t w
  | tx t=>exact iL na nb _ _ w (Or.inl ⟨rfl,by simp [kN]⟩) hn _ (lC _ _)
  | pr t=>exact iL na nb _ _ w (Or.inl ⟨rfl,by simp [kN]⟩) hn _ (lC _ _)
 | tx s=>exact iL na nb _ _ w (Or.inr (by simp [kN])) hn _ (lC _ _)
 | pr s=>exact iL na nb _ _ w (Or.inr (by simp [kN])) hn _ (lC _ _)
end Pr
end Go.Proofs.Ytkcfgbddlpomgaa
