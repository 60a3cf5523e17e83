/-
  Match and Covers of . Conditions as told.
-/
import Derived.Test.YtghlpefopidlaaaGreatCQ026
import Derived.Test.YtghlpefopidlaaaGreatCQ029
set_option maxRecDepth 100000
set_option maxHeartbeats 64000000
open Go.Lib renaming hid->D
open Go.Value renaming string->U,int->Z
open _root_.List renaming getElem?_eq_getElem->J,length_append->L,mem_cons->O,mem_of_getElem?->Q,getElem?_map->V,length_map->X,mem_cons_of_mem->Y,pairwise_cons->ah,mem_append->aj
namespace Go.Proofs.YtghlpefopidlaaaGreat
namespace Rl
open Go.RowKit Go.Sort Pu Rw Pr Va
theorem Iz {α:Type} (f:α->Bool) (l:List α) (m:Nat) (h:l.length=m):(l.take m).all f=l.all f:=by rw [<- h,List.take_length]
theorem yT (pv qv:Value) (p b:List Cn) (w:World) (hp:fI w pv (p.map r5)) (hl:fI w qv (b.map r5)) (np:NF p) (nb:NF b) :
  Calls Tryz.prog 27 #[pv,qv] w fun e w'=>e=.returned (.bool (nR p b))/\Below w.heap.size w w':=by
 have CO:=D (Bh (a:=p) nb.rise);have HP:=D hp;have HL:=D hl;have h5:b.length<=100:=by have:=nb.five; omega
 have GP:=D np.gH;have GB:=D nb.gH;have m5:p.length<=5:=np.five;obtain⟨ao,ac,rfl⟩:=hp.len;rw [X] at HP ⊢;generalize hm:p.length=m at *;have HM:=D hm;generalize nR p b=r at *;clear hp hl hm np nb;go_enter Tryz.func27,Tryz.ntmps27;go_wp2
 go_loopw [11] (fun i wr=>∃ k:Nat,k<=m/\i=Z .i64 k/\Below w.heap.size w wr/\(p.take k).all (yI b)=true) (fun i _=>m-(intOf i).toNat)
 case atStart=>exact⟨0,Nat.zero_le _,rfl,Below.refl _ _,rfl⟩
 case round =>
  obtain⟨k,hk,rfl,hb,hall⟩:=hrel;have HB:=D hb;have AL:=D hall;clear hb hall;by_cases hlt:k<m
  ·obtain⟨⟨xn,xk⟩,hx⟩:∃ x,p[k]?=some x:=⟨_,J (by rw [HM.out]; exact hlt)⟩;obtain⟨q,ix,px⟩:=Ml (x:=r5 (xn,xk)) HP.out rfl (by rw [X]; exact HM.out) (by rw [V,hx]; rfl);obtain⟨p0,p1,p2,p3,p4⟩:=px _ HB.out;have MO:=D (D5 (yI b) p k (xn,xk) hx);have NO:=D (fun h=>Hy (yI b) p k (xn,xk) hx h);have GX:=D (GP.out _ (Q hx));have BX:=D (show cZ (wr.alloc (.cells #[U xn,Z .i64 (kN xk),Z .i64 (mI xk),Z .i64 (mJ xk),U (kT xk)] 91)) wr.heap.size (cells5 (xn,kN xk,mI xk,mJ xk,kT xk)).toArray 91 from dG wr _ _);have B1:=D (HB.out.alloc HB.out.size (.cells #[U xn,Z .i64 (kN xk),Z .i64 (mI xk),Z .i64 (mJ xk),U (kT xk)] 91));have G:=D (KI qv b xn (wr.alloc (.cells #[U xn,Z .i64 (kN xk),Z .i64 (mI xk),Z .i64 (mJ xk),U (kT xk)] 91)) (HL.out.on B1.out) h5);have GC:=D (show yI b (xn,xk)=match GU b xn with
    | some y=>gW y.2 xk
    | none=>false from rfl)
   obtain⟨gg,hgg⟩:∃ g,yI b (xn,xk)=g:=⟨_,rfl⟩;rw [hgg] at GC MO NO;simp only [r5] at p0 p1 p2 p3 p4;clear hx px hgg;go_wp2_with fail;refine G.out.mono ?_;rintro e2 w2 ⟨he2,hb2⟩;have B2:=D (B1.out.trans (hb2.mono B1.out.size));obtain⟨x0,x1,x2,x3,x4⟩:=fC (BX.out.on hb2);simp only at x0 x1 x2 x3 x4;have hwl:wr.heap.size<w2.heap.size:=by have:=hb2.size; simp at this; omega
   rcases hg:GU b xn with _|⟨yn,yk⟩
   ·rw [hg] at he2 GC;subst he2;have R:=D (show r=false by rw [CO.out]; exact NO.out GC.out);clear hb2 G B1 BX ix p0 p1 p2 p3 p4 hg;unfold KH;go_wp2;go_ret;exact⟨dW R.out.symm,B2.out.alloc B2.out.size _⟩
   ·obtain⟨hm1,hm2⟩:=Ea hg;obtain rfl:yn=xn:=hm2;rw [hg] at he2 GC;subst he2;have WC:=D (fun W=>Bq yn xk yk W GX.out (GB.out _ hm1));simp only [r5] at WC;clear hb2 G B1 BX ix p0 p1 p2 p3 p4 hg hm1;unfold KH;simp only [r5];go_wp2_with fail;refine (WC.out _).mono ?_;rintro e3 w3 ⟨rfl,hb3⟩;have B3:=D ((B2.out.alloc B2.out.size (.cells #[U yn,Z .i64 (kN yk),Z .i64 (mI yk),Z .i64 (mJ yk),U (kT yk)] 91)).trans (hb3.mono (B2.out.alloc B2.out.size (.cells #[U yn,Z .i64 (kN yk),Z .i64 (mI yk),Z .i64 (mJ yk),U (kT yk)] 91)).size));rw [<- GC.out];clear hb3 B2 x0 x1 x2 x3 x4 hwl WC;cases gg
    ·have R:=D (show r=false by rw [CO.out]; exact NO.out rfl);go_wp2;go_ret;exact⟨dW R.out.symm,B3.out⟩
    ·go_wp2
     go_roundw
     case rel=>exact⟨k+1,by omega,by go_num,B3.out,by rw [MO.out,AL.out]; rfl⟩
     case measure=>simp [intOf]; omega
  ·obtain rfl:k=m:=by omega
   have R:=D (show r=true by rw [CO.out,<- Iz _ p _ HM.out]; exact AL.out);go_wp2;go_ret;exact⟨dW R.out.symm,HB.out⟩
end Rl
namespace Av
open Go.RowKit Rw YtghlpefopidlaaaGreat.Nm Pr Wr
end Av
namespace Bk
open Go.RowKit Go.Sort Rw YtghlpefopidlaaaGreat.Nm Pr
theorem Cc (l:List Id) (x:Id) (h:x∈l):∃ k:Nat,eU l x=k/\l[k]?=some x:=by
 induction l with
 | nil=>simp at h
 | cons a r ih =>
  by_cases e:a=x
  ·subst e;exact⟨0,by simp [eU],rfl⟩
  ·have hr:x∈r:=by
    rcases O.1 h with h1|h1
    ·exact absurd h1.symm e
    ·exact h1
   obtain⟨k,h1,h2⟩:=ih hr;refine⟨k+1,?_,by simpa using h2⟩;rw [eU,if_neg e,h1,if_neg (by omega)];omega
theorem o7 {t:Id} {m:List En} (R:En->Prop) (hR:∀ e,e.tree=t->R e->R (wW e)) (h:∀ e∈m,R e):∀ k,(∀ e∈(iR t m k).1,R e)/\∀ e∈(iR t m k).2,R e
 | 0=>⟨h,fun e he=>by simp [iR] at he⟩
 | k+1=>by
  have ih:=o7 (t:=t) R hR h k;rw [iY];unfold ig
  split
  ·exact ih
  ·rename_i e he
   split
   ·rename_i hcond
    have hu:=hR e hcond.1 (ih.1 e (Q he));refine⟨fun x hx=>?_,fun x hx=>?_⟩
    ·rcases List.mem_or_eq_of_mem_set hx with h1|h1
     ·exact ih.1 x h1
     ·rw [h1];exact hu
    ·rcases aj.1 hx with h1|h1
     ·exact ih.2 x h1
     ·rw [List.mem_singleton.1 h1];exact hu
   ·exact ih
theorem lY {α:Type} {l:List α} {k:Nat} {x:α} (h:x∈cutAt l k):x∈l:=by
 rcases aj.1 h with h|h
 ·exact List.mem_of_mem_take h
 ·exact List.mem_of_mem_drop h
structure Ou where
 Na:Int
 kind:Int
 tree:Id
 id:Id
 p:List C5
def mH (Na:Int) (e:En):Ou:=⟨Na,3,e.tree,e.sub,e.p⟩
def kW (b:Br) (t x:Id) (f:Int):Br×List Ou:=if (takeB b t x f).2.2=false then ((takeB b t x f).1,[]) else
 match b.dP[(eU (b.dP.map Ad.id) t).toNat]? with
 | none=>((takeB b t x f).1,[])
 | some a=>((takeB b t x f).1,(takeB b t x f).2.1.map (mH a.par)++[⟨a.par,4,t,x,[]⟩])
theorem o8 (b:Br) (t x:Id) (f:Int):(takeB b t x f).1.dP=b.dP/\(takeB b t x f).1.near=b.near/\(takeB b t x f).1.me=b.me/\(takeB b t x f).1.seen=b.seen/\(takeB b t x f).1.own=b.own:=by
 unfold takeB
 split
 ·exact⟨rfl,rfl,rfl,rfl,rfl⟩
 ·split
  ·exact⟨rfl,rfl,rfl,rfl,rfl⟩
  ·split
   ·exact⟨rfl,rfl,rfl,rfl,rfl⟩
   ·split <;> exact⟨rfl,rfl,rfl,rfl,rfl⟩
theorem yU {b:Br} {t x:Id} {f:Int} (h:(takeB b t x f).2.2=true):∃ e∈b.ent,e.tree=t:=by
 unfold takeB at h
 split at h
 ·cases h
 ·rename_i e he
  split at h
  ·cases h
  ·rename_i h1
   rcases nW (b.ent.map dJ) (t,x) with h2|⟨k,h2,h3⟩
   ·exact absurd h2 h1
   ·rw [h2,Int.toNat_natCast] at he;refine⟨e,Q he,?_⟩;rw [V,he] at h3;exact congrArg Prod.fst (Option.some.inj h3)
theorem lZ (b:Br) (t x:Id) (f:Int):(takeB b t x f).1.ent.length<=b.ent.length/\(takeB b t x f).2.1.length<=b.ent.length:=by
 unfold takeB
 split
 ·simp
 ·split
  ·simp
  ·split
   ·simp
   ·have hc:(cutAt b.ent (gD (b.ent.map dJ) (t,x)).toNat).length<=b.ent.length:=by
     unfold cutAt;rw [L,List.length_take,List.length_drop];omega
    split
    ·exact⟨hc,by simp⟩
    ·have h1:=tN t (cutAt b.ent (gD (b.ent.map dJ) (t,x)).toNat) (cutAt b.ent (gD (b.ent.map dJ) (t,x)).toNat).length;exact⟨by rw [show ((iR t _ _).1.length)=_ from h1.1]; exact hc,Nat.le_trans h1.2 hc⟩
theorem nu (b:Br) (t x:Id) (f:Int):(kW b t x f).1=(takeB b t x f).1:=by
 unfold kW
 split
 ·rfl
 ·split <;> rfl
theorem xw {α:Type} {E:Ek α} (K:E.Ok) {w:World} (B:Nat) {v x:Value} {l m:List α} (hown:Own E w B v l) (hx:Row E w x m) (hn:l.length<=1000000) (hm:m.length<=1000000) (hB:B<=w.heap.size) (ty:TypeId) :
  ∃ v' w',(Builtin.append_ #[E.ts,E.ts] ty #[v,x]).run Tryz.prog w=.ok v' w'/\Own E w' B v' (l++m)/\w.grownBy w' v.ownBlock:=by
 obtain⟨i,i1,i2,i3,i4⟩:=K.info;rcases hx with⟨rfl,rfl⟩|⟨ad,c,rfl,h2,h3,h4⟩
 ·exact⟨v,w,run_append_owned_none (P:=Tryz.prog) (w:=w) B E.ts ty E.t i E.n K.hu i1 v _ _ hown,by simpa using hown,kG _ _⟩
 ·have hf:=K.few;obtain⟨v',w',r1,r2,r3,_⟩:=run_append_own (P:=Tryz.prog) w B E.ts ty E.t i E.z E.n E.bytes K.hu i1 i2 i3 i4 K.zs K.pos v _ _ hown ad m.length c (flat E m) (dh K m) h4 (iT K m) (by unfold maxLen; omega)
   (Nat.le_trans (Nat.mul_le_mul (show l.length+m.length<=2000000 by omega) hf) (by decide)) hB
  exact⟨v',w',r1,by rw [Own,L,eG]; exact r2,r3⟩
theorem tQ {b:Br} (t x:Id) (f:Int) (R:En->Prop) (hR:∀ e,e.tree=t->R e->R (wW e)) (h:∀ e∈b.ent,R e):(∀ e∈(takeB b t x f).1.ent,R e)/\∀ e∈(takeB b t x f).2.1,R e:=by
 unfold takeB
 split
 ·exact⟨h,fun e he=>by simp at he⟩
 ·split
  ·exact⟨h,fun e he=>by simp at he⟩
  ·split
   ·exact⟨h,fun e he=>by simp at he⟩
   ·split
    ·exact⟨fun e he=>h e (lY he),fun e he=>by simp at he⟩
    ·exact o7 R hR (fun e he=>h e (lY he)) _
theorem Ce (b:Br) (t x:Id) (f:Int):(kW b t x f).2.length<=b.ent.length+1:=by
 unfold kW;have h:=(lZ b t x f).2
 split
 ·simp
 ·split
  ·simp
  ·rw [L,X];simp;omega
def mg (x:Id) (s:Br×List Ou) (t:Id):Br×List Ou:=((kW s.1 t x (-1)).1,s.2++(kW s.1 t x (-1)).2)
def jV (b:Br) (x:Id):List Ow:=b.own.filter fun o=>decide (o.id≠x)
def fK (b:Br) (x:Id) (k:Nat):Br×List Ou:=((b.dP.map Ad.id).take k).foldl (mg x) ({ b with own:=jV b x },[])
def jw (b:Br) (x:Id):Br×List Ou:=if (jV b x).length=b.own.length then (b,[]) else fK b x b.dP.length
theorem jQ (b:Br) (x:Id) {k:Nat} {a:Ad} (h:b.dP[k]?=some a):fK b x (k+1)=mg x (fK b x k) a.id:=by
 unfold fK;rw [List.take_add_one,V,h,List.foldl_append]
 rfl
structure Me (b0 b:Br) (o:List Ow):Prop where
 me:b.me=b0.me
 near:b.near=b0.near
 dP:b.dP=b0.dP
 seen:b.seen=b0.seen
 own:b.own=o
 len:b.ent.length<=b0.ent.length
theorem Me.drop {b0 b:Br} {o:List Ow} (h:Me b0 b o) (t x:Id) (f:Int):Me b0 (kW b t x f).1 o:=by
 rw [nu];obtain⟨h1,h2,h3,h4,h5⟩:=o8 b t x f;exact⟨h3.trans h.me,h2.trans h.near,h1.trans h.dP,h4.trans h.seen,h5.trans h.own,Nat.le_trans (lZ b t x f).1 h.len⟩
theorem tT (b:Br) (x:Id):∀ k,k<=b.dP.length->Me b (fK b x k).1 (jV b x)/\(fK b x k).2.length<=k * (b.ent.length+1)
 | 0,_=>⟨⟨rfl,rfl,rfl,rfl,rfl,Nat.le_refl _⟩,by simp [fK]⟩
 | k+1,hk=>by
  obtain⟨a,ha⟩:∃ a,b.dP[k]?=some a:=⟨_,J hk⟩;obtain⟨h1,h2⟩:=tT b x k (by omega);rw [jQ b x ha];refine⟨h1.drop _ _ _,?_⟩;show ((fK b x k).2++(kW (fK b x k).1 a.id x (-1)).2).length<=_;have h3:=Ce (fK b x k).1 a.id x (-1);have h4:=h1.len;rw [L,Nat.add_mul];omega
theorem q9 (b:Br) (x:Id) (R:En->Prop) (hR:∀ e,R e->R (wW e)) (h:∀ e∈b.ent,R e):∀ k,k<=b.dP.length->∀ e∈(fK b x k).1.ent,R e
 | 0,_=>h
 | k+1,hk=>by
  obtain⟨a,ha⟩:∃ a,b.dP[k]?=some a:=⟨_,J hk⟩;rw [jQ b x ha];show ∀ e∈(kW _ _ _ _).1.ent,R e;rw [nu];exact (tQ _ _ _ R (fun e _=>hR e) (q9 b x R hR h k (by omega))).1
end Bk
namespace Av
open Go.RowKit Go.Sort Rw YtghlpefopidlaaaGreat.Nm Pr Bk
structure ru (W:World) (b:Br) (nv av sv ev ov:Sl):Prop where
 br:ko W b nv av sv ev ov
 no:gT W nv b.near
theorem ru.on {W W':World} {b:Br} {nv av sv ev ov:Sl} (h:ru W b nv av sv ev ov) (hb:Below W.heap.size W W'):ru W' b nv av sv ev ov:=⟨h.br.on hb,h.no.on hb⟩
theorem ru.keep {W W':World} {k:Nat} {me:Int} {s1 s2 s3 s4 s5:Sl} {b:Br} {nv av sv ev ov:Sl} (h:ru W b nv av sv ev ov) (hb:cZ W k (nT me s1 s2 s3 s4 s5) 30) (hk:But k W W'):ru W' b nv av sv ev ov:=by
 obtain⟨B,hn⟩:=h.no;have hn2:qB W' B (dH nv) b.near:=hk.own hn hb (by decide);exact⟨Bd h.br hb hk.1 (Row.dx hn2),B,hn2⟩
theorem tV:∀ {l m:List Int},l.Pairwise (·<·)->m.Pairwise (·<·)->(∀ x,x∈l↔x∈m)->l=m
 | [],[],_,_,_=>rfl
 | [],y::m,_,_,h=>by have:=(h y).2 (by simp); simp at this
 | x::l,[],_,_,h=>by have:=(h x).1 (by simp); simp at this
 | x::l,y::m,hl,hm,h=>by
  have hl':=ah.1 hl;have hm':=ah.1 hm;have h1:x=y:=by
   rcases O.1 ((h x).1 (by simp)) with e|e
   ·exact e
   ·rcases O.1 ((h y).2 (by simp)) with e2|e2
    ·exact e2.symm
    ·have a1:=hm'.1 x e;have a2:=hl'.1 y e2;omega
  subst h1;rw [tV hl'.2 hm'.2 fun z=>⟨fun hz=>?_,fun hz=>?_⟩]
  ·rcases O.1 ((h z).1 (Y _ hz)) with e|e
   ·have:=hl'.1 z hz;omega
   ·exact e
  ·rcases O.1 ((h z).2 (Y _ hz)) with e|e
   ·have:=hm'.1 z hz;omega
   ·exact e
theorem o9 {W W':World} {b:Nat} (h:W.grownBy W' (some b)):But b W W':=⟨fun k hk hne=>h.block k hk (by simpa using hne),h.size⟩
end Av
namespace Bk
open Go.RowKit Go.Sort Rw YtghlpefopidlaaaGreat.Nm Pr
end Bk
namespace Bk
open Go.RowKit Go.Sort Rw YtghlpefopidlaaaGreat.Nm Pr
end Bk
namespace Av
open Go.RowKit Go.Sort Rw YtghlpefopidlaaaGreat.Nm Pr Bk
theorem kQ {P:Program} (ρ:Operand->Value) (o:Oper) (y:Operand) (k:Nat) (ho:o.op=.extract y k) {c:Array Value} {v:Value} (hx:ρ y=.tuple c) (hv:c[k]?=some v) (w:World):(execOp ρ o).run P w=.ok (.value v) w:=by
 simp [execOp,ho,hx,hv,go_sem]
end Av
end Go.Proofs.YtghlpefopidlaaaGreat
