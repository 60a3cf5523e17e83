/-
  A broker's rows lie . Conditions as told.
-/
import Derived.Test.YtghlpefopidlaaaGreatCQ009
set_option maxRecDepth 100000
set_option maxHeartbeats 64000000
open _root_.Go renaming World->U,Value->V,TypeId->X,Addr->Y
open Go.IntKind renaming i64->O
open Go.Lib renaming hid->D
open Go.Value renaming slice->J,int->L,pointer->Z
open _root_.List renaming getElem?_eq_some_iff->Q
open _root_.Option renaming some->K
namespace Go.Proofs.YtghlpefopidlaaaGreat
namespace Bk
open Go.RowKit Rw YtghlpefopidlaaaGreat.Nm Pr
theorem qK {W:U} {b:Nat} {cs:Array V} {t:X} (hb:cZ W b cs t) {a:Y} {v:V} (h:W.cell? a=K v) (e:a.block=b):cs[a.off]?=K v:=by
 unfold World.cell? at h;unfold cZ at hb;rw [e,hb] at h;have h2:a.spot=none/\cs[a.off]?=K v:=by simpa using h
 exact h2.2
theorem Bc {W W':U} {b:Nat} (hk:∀ j,j<W.heap.size->j≠b->W'.heap[j]?=W.heap[j]?) {a:Y} {v:V} (h:W.cell? a=K v) (e:a.block≠b):W'.cell? a=K v:=by
 have hlt:=World.block_lt_of_cell? W _ h;unfold World.cell? at h ⊢;rw [hk _ hlt e];exact h
theorem ql (a:Y) (j:Nat):(a.add j).block=a.block:=by unfold Addr.add; split <;> rfl
theorem jE {α:Type} {E:Ek α} (_K:E.Ok) {W W':U} {b:Nat} {v:V} {l:List α} (h:Row E W v l) (hk:∀ j,j<W.heap.size->j≠b->W'.heap[j]?=W.heap[j]?) (hno:∀ (a:Y) (c:α),(∀ j u,(E.cells c)[j]?=K u->W.cell? (a.add j)=K u)->a.block≠b):Row E W' v l:=by
 rcases h with h|⟨a,cap,h1,h2,h3,h4⟩
 ·exact Or.inl h
 ·refine Or.inr ⟨a,cap,h1,h2,h3,fun j u hj=>?_⟩;cases l with
  | nil=>simp [flat] at hj
  | cons c r =>
   have hne:a.block≠b:=hno a c fun j u hj=>h4 j u (by
    rw [flat,List.getElem?_append_left (by exact (Q.1 hj).1)];exact hj)
   exact Bc hk (h4 j u hj) (by rw [ql]; exact hne)
theorem nV {α:Type} {E:Ek α} {W:U} {b:Nat} {cs:Array V} {t:X} (hb:cZ W b cs t) (hE:∀ c:α,∃ i j:Int,(E.cells c)[0]?=K (L O i)/\(E.cells c)[1]?=K (L O j)) (hcs:∀ (k:Nat) (i j:Int),cs[k]?=K (L O i)->cs[k+1]?=K (L O j)->False) (a:Y) (c:α) (h:∀ j u,(E.cells c)[j]?=K u->W.cell? (a.add j)=K u):a.block≠b:=fun e=>by
 obtain⟨i,j,h0,h1⟩:=hE c;have c0:=qK hb (h 0 _ h0) (by rw [ql]; exact e);have c1:=qK hb (h 1 _ h1) (by rw [ql]; exact e);have o0:(a.add 0).off=a.off:=by rw [Addr.add_zero']
 have o1:(a.add 1).off=a.off+1:=by rw [add_pos _ _ (by decide)]
 rw [o0] at c0;rw [o1] at c1;exact hcs a.off i j c0 c1
theorem uV {W:U} {b:Nat} {cs:Array V} {t:X} (hb:cZ W b cs t) (hcs:∀ (k:Nat) (s:ByteArray),cs[k]?≠K (.string s)) (a:Y) (c:C5) (h:∀ j u,(EC.cells c)[j]?=K u->W.cell? (a.add j)=K u):a.block≠b:=fun e=>by
 have c0:=qK hb (h 0 _ rfl) (by rw [ql]; exact e);exact hcs _ _ c0
theorem qm (me:Int) (s1 s2 s3 s4 s5:Sl):∀ (k:Nat) (i j:Int),(nT me s1 s2 s3 s4 s5)[k]?=K (L O i)->(nT me s1 s2 s3 s4 s5)[k+1]?=K (L O j)->False:=by
 intro k i j h1 h2
 match k with
 | 0=>simp at h2
 | 1=>simp at h1
 | 2=>simp at h1
 | 3=>simp at h1
 | 4=>simp at h1
 | 5=>simp at h1
 | k+6=>simp at h1
theorem uW (me:Int) (s1 s2 s3 s4 s5:Sl):∀ (k:Nat) (s:ByteArray),(nT me s1 s2 s3 s4 s5)[k]?≠K (.string s):=by
 intro k s h
 match k with
 | 0=>simp at h
 | 1=>simp at h
 | 2=>simp at h
 | 3=>simp at h
 | 4=>simp at h
 | 5=>simp at h
 | k+6=>simp at h
theorem Bd {W W':U} {k:Nat} {me:Int} {s1 s2 s3 s4 s5:Sl} {b:Br} {nv av sv ev ov:Sl} (h:ko W b nv av sv ev ov) (hb:cZ W k (nT me s1 s2 s3 s4 s5) 30) (hk:∀ j,j<W.heap.size->j≠k->W'.heap[j]?=W.heap[j]?) (hn:Ao W' (dH nv) b.near):ko W' b nv av sv ev ov where
 near:=hn
 dP:=by
  obtain⟨l,h1,h2⟩:=h.dP;exact⟨l,jE okD h1 hk (nV hb (fun c=>⟨_,_,rfl,rfl⟩) (qm me s1 s2 s3 s4 s5)),h2.mono fun x a hx=>⟨hx.1,hx.2.1,jE qC hx.2.2 hk (uV hb (uW me s1 s2 s3 s4 s5))⟩⟩
 seen:=jE xX h.seen hk (nV hb (fun c=>⟨_,_,rfl,rfl⟩) (qm me s1 s2 s3 s4 s5))
 ent:=by
  obtain⟨l,h1,h2⟩:=h.ent;exact⟨l,jE jI h1 hk (nV hb (fun c=>⟨_,_,rfl,rfl⟩) (qm me s1 s2 s3 s4 s5)),h2.mono fun x a hx=>⟨hx.1,hx.2.1,hx.2.2.1,hx.2.2.2.1,jE qC hx.2.2.2.2 hk (uV hb (uW me s1 s2 s3 s4 s5))⟩⟩
 own:=by
  obtain⟨l,h1,h2⟩:=h.own;exact⟨l,jE okW h1 hk (nV hb (fun c=>⟨_,_,rfl,rfl⟩) (qm me s1 s2 s3 s4 s5)),h2.mono fun x a hx=>⟨hx.1,jE qC hx.2 hk (uV hb (uW me s1 s2 s3 s4 s5))⟩⟩
end Bk
namespace Bk
open Go.RowKit Go.Sort Rw YtghlpefopidlaaaGreat.Nm Pr
theorem qo {W:U} {b:Nat} {z0 z1 z2 z3 z4 z5:V} (h:cZ W b #[z0,z1,z2,z3,z4,z5] 30) (me:Int) (o1 o2 o3 o4 o5:Option Y) (n1 c1 n2 c2 n3 c3 n4 c4 n5 c5:Nat) :
  (Instr.storeAt 30 (Z (K ⟨b,0,none⟩)) (.agg #[L O me,J o1 n1 c1,J o2 n2 c2,J o3 n3 c3,J o4 n4 c4,J o5 n5 c5])).run Tryz.prog W=.ok () (iy W b (L O me) (J o1 n1 c1) (J o2 n2 c2) (J o3 n3 c3) (J o4 n4 c4) (J o5 n5 c5)):=by
 obtain⟨x0,x1,x2,x3,x4,x5⟩:=h.fQ;obtain⟨f0,f1,f2,f3,f4,f5⟩:=h.mD;simp [go_sem,x0,x1,x2,x3,x4,x5,f0,f1,f2,f3,f4,f5]
theorem D6 {W:U} {b:Nat} {z0 z1 z2 z3 z4 z5:V} (h:cZ W b #[z0,z1,z2,z3,z4,z5] 30):(Instr.loadAt 30 (Z (K ⟨b,0,none⟩))).run Tryz.prog W=.ok (.agg #[z0,z1,z2,z3,z4,z5]) W:=by
 obtain⟨x0,x1,x2,x3,x4,x5⟩:=h.fQ;simp [go_sem,x0,x1,x2,x3,x4,x5]
theorem oQ {P:Program} (ρ:Operand->V) (o:Oper) (x y z:Operand) (t s r:X) (f:FuncId) (ho:o.op=.call { callee:=.value (.func f),args:=#[x,y,z],argTypes:=#[t,s,r] }) {v u q:V} (hx:ρ x=v) (hy:ρ y=u) (hz:ρ z=q) (hf:ρ (.func f)=.func (.func f) #[] #[]) (w:U)
  (hc:(callFunc f #[v,u,q]).run P w=.ok (.enter f #[v,u,q]) w):(execOp ρ o).run P w=.ok (.enter f #[v,u,q]) w:=by
 simp [execOp,ho,resolve,invoke,hx,hy,hz,hf,Deferred.ofValue,hc]
end Bk
namespace Av
open Go.RowKit Rw YtghlpefopidlaaaGreat.Nm Pr Bk
theorem yH (l:List dQ) (x:dQ) (h:∀ (j:Nat) (y:dQ),l[j]?=K y->y≠x):eU l x=-1:=by
 induction l with
 | nil=>rfl
 | cons a l ih =>
  rw [eU,if_neg (h 0 a rfl),ih fun j y hj=>h (j+1) y (by simpa using hj),if_pos rfl]
theorem D7 (l:List dQ) (k:Nat) (x:dQ) (h:l[k]?=K x) (hall:∀ (j:Nat) (z:dQ),j<k->l[j]?=K z->z≠x):eU l x=k:=by
 induction l generalizing k with
 | nil=>simp at h
 | cons a l ih =>
  cases k with
  | zero =>
   obtain rfl:a=x:=by simpa using h
   rw [eU,if_pos rfl]
   rfl
  | succ k =>
   have h2:=ih k (by simpa using h) fun j z hj hz=>hall (j+1) z (by omega) (by simpa using hz);rw [eU,if_neg (hall 0 a (by omega) rfl),h2,if_neg (by omega)];omega
theorem wF (l:List dQ) (x:dQ):decide ((0:Int)<=eU l x)=decide (x∈l):=by
 induction l with
 | nil=>simp [eU]
 | cons a l ih =>
  have hb:=nU l x;rw [eU];by_cases h:a=x
  ·rw [if_pos h]; simp [h]
  ·rw [if_neg h];have h':¬ x=a:=fun e=>h e.symm;simp only [List.mem_cons,h',false_or];rw [<- ih];by_cases h2:eU l x=-1
   ·rw [if_pos h2,h2]
   ·rw [if_neg h2];have h3:0<=eU l x:=by omega
    have h4:0<=eU l x+1:=by omega
    simp [h3,h4]
theorem Bf (sv:Sl) (l:List dQ) (x:dQ) (w:U) (hs:uP w (dH sv) l) :
  Calls Tryz.prog 139 #[dH sv,oJ x] w fun e w'=>e=.returned (L O (eU l x))/\Below w.heap.size w w':=by
 obtain⟨c,d⟩:=x;obtain⟨so,sn,sc⟩:=sv;obtain⟨ao,ac,hv⟩:=hs.len;have hv:J so sn sc=J ao l.length ac:=hv;obtain⟨rfl,rfl,rfl⟩:so=ao/\sn=l.length/\sc=ac:=by simpa using hv
 have h0:=iM w (.cells #[L O c,L O d] 23);have h2:=dG w #[L O c,L O d] 23;have B:=D h0;have HS:=D (hs.on h0);have X3:=D h2;have lm:=hs.most;unfold maxLen at lm;obtain⟨n,hn⟩:∃ n,n=l.length:=⟨_,rfl⟩;rw [<- hn] at HS lm ⊢;have HN:=D hn.symm;clear h0 h2 hs hv hn;go_enter Tryz.func139,Tryz.ntmps139;go_upto_region 1 with fail;generalize w.alloc (.cells #[L O c,L O d] 23)=W at *;go_wp2
 go_loopw [8] (fun i wr=>∃ k:Nat,k<=n/\i=L O k/\Below W.heap.size W wr/\∀ (j:Nat) (y:dQ),j<k->l[j]?=K y->y≠(c,d)) (fun i _=>n-(intOf i).toNat)
 case atStart=>exact⟨0,Nat.zero_le _,rfl,Below.refl _ _,fun j y h=>by omega⟩
 case round =>
  obtain⟨k,hk,rfl,hbe,hall⟩:=hrel;have BE:=D hbe;have AL:=D hall;clear hbe hall;by_cases hlt:k<n
  ·obtain⟨y,hy⟩:∃ y,l[k]?=K y:=⟨_,List.getElem?_eq_getElem (by rw [HN.out]; exact hlt)⟩;obtain⟨p,ix,px⟩:=Rm HS.out rfl HN.out hy;have DD:Below W.heap.size W wr.drew:=BE.out.drew;obtain⟨p0,p1⟩:=px wr BE.out;obtain⟨y1,y2⟩:=y;simp only at p0 p1;obtain⟨x0,x1⟩:=(X3.out.on BE.out).cs2;have hw3:IntKind.i64.wrap ((k:Int)+1)=(k:Int)+1:=IntWalk.i64_in _ (by omega);obtain⟨r,hr⟩:∃ r,(c == y1 && d == y2)=r:=⟨_,rfl⟩;have he:=uR c d y1 y2 r hr;have DB:=D DD;have HY:=D hy;have HR:=D hr;clear px hy hr DD;cases r
   ·go_wp2_with fail
    go_quiet (fail)
    go_wp2
    go_roundw
    case rel=>exact⟨k+1,by omega,by go_num,⟨BE.out.os,BE.out.tape,BE.out.output,BE.out.size,BE.out.block⟩,fun j y' hj h1=>by
     rcases Nat.lt_or_ge j k with h3|h3
     ·exact AL.out j y' h3 h1
     ·obtain rfl:j=k:=by omega
      have e1:=HY.out;rw [h1] at e1;rw [Option.some.inj e1];intro e;obtain⟨rfl,rfl⟩:y1=c/\y2=d:=by simpa using e
      have:=HR.out;simp at this⟩
    case measure=>simp [intOf]; omega
   ·go_wp2_with fail
    go_quiet (fail)
    go_wp2;go_ret;have h8:=HR.out;obtain⟨rfl,rfl⟩:c=y1/\d=y2:=by simpa using h8
    exact⟨by rw [D7 l k (c,d) HY.out AL.out]; rfl,B.out.trans (Below.mono ⟨BE.out.os,BE.out.tape,BE.out.output,BE.out.size,BE.out.block⟩ B.out.size)⟩
  ·obtain rfl:k=n:=by omega
   go_wp2;go_ret;have hd:eU l (c,d)=-1:=yH l (c,d) fun j y hj=>AL.out j y (by rw [<- HN.out]; exact (Q.1 hj).1) hj;exact⟨by rw [hd]; rfl,B.out.trans (BE.out.mono B.out.size)⟩
theorem uX (sv:Sl) (l:List dQ) (x:dQ) (w:U) (hs:uP w (dH sv) l) :
  Calls Tryz.prog 98 #[dH sv,oJ x] w fun e w'=>e=.returned (.bool (decide (x∈l)))/\Below w.heap.size w w':=by
 have h0:=iM w (.cells #[L O x.1,L O x.2] 23);have h2:=dG w #[L O x.1,L O x.2] 23;have C:=Bf sv l x _ (hs.on h0);have R:=D (wF l x);obtain⟨c,d⟩:=x;obtain⟨so,sn,sc⟩:=sv;have B:=D h0;obtain⟨x0,x1⟩:=h2.cs2;generalize eU l (c,d)=r at *;generalize decide ((c,d)∈l)=s at *;clear h0 h2 hs;go_enter Tryz.func98,Tryz.ntmps98;go_wp2_with fail;refine C.mono ?_;rintro e w1 ⟨rfl,hb⟩;go_wp2;go_ret;exact⟨by have h:=R.out; subst h; rfl,B.out.trans (hb.mono B.out.size)⟩
theorem Bg (me:Int) (nv av ev ov:V) (sv:Sl) (l:List dQ) (x:dQ) (w:U) (hs:uP w (dH sv) l) :
  Calls Tryz.prog 32 #[.agg #[L O me,nv,av,dH sv,ev,ov],oJ x] w fun e w'=>e=.returned (.bool (decide (x∈l)))/\Below w.heap.size w w':=by
 obtain⟨h0,h1,h2⟩:=gP w #[L O me,nv,av,dH sv,ev,ov] #[L O x.1,L O x.2] 30 23;have C:=uX sv l x _ (hs.on h0);obtain⟨c,d⟩:=x;obtain⟨so,sn,sc⟩:=sv;have B:=D h0;have b3:=h1.cell 3;obtain⟨x0,x1⟩:=h2.cs2;simp only [List.getElem?_toArray,List.getElem?_cons_zero,List.getElem?_cons_succ] at b3;generalize decide ((c,d)∈l)=s at *;clear h0 h1 h2 hs;go_enter Tryz.func32,Tryz.ntmps32;go_wp2_with fail;refine C.mono ?_;rintro e w1 ⟨rfl,hb⟩;go_wp2;go_ret;exact⟨rfl,B.out.trans (hb.mono B.out.size)⟩
end Av
namespace Bk
open Go.RowKit Rw YtghlpefopidlaaaGreat.Nm Pr
end Bk
namespace Bk
open Go.RowKit Go.Sort Rw YtghlpefopidlaaaGreat.Nm Pr
end Bk
end Go.Proofs.YtghlpefopidlaaaGreat
