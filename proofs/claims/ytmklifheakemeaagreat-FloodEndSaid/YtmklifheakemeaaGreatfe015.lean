/-
  A broker's rows lie . Conditions as told.
-/
import Derived.Test.YtmklifheakemeaaGreatfe011
import Derived.Test.YtmklifheakemeaaGreatfe014
import Derived.Deep.LoopGhost
set_option maxRecDepth 100000
set_option maxHeartbeats 64000000
open _root_.Bool renaming false->aU,true->bH,eq_iff_iff->bK
open _root_.Go renaming World->aJ,Value->aL,Addr->aZ,Calls->bF,TypeId->bP
open Go.Ending renaming returned->aN
open Go.IntKind renaming i64->ah
open Go.Lib renaming hid->J
open Go.Obj renaming cells->aP
open Go.Operand renaming tmp->aD
open Go.Proofs.Tryz renaming prog->aB
open Go.Proofs.YtmklifheakemeaaGreat.Rg renaming get_put->ay,dD->aO,done->aS,size_put->aY,dN->bL,gQ->bM,dX->bR,dR->bS,fZ->bU
open Go.RowKit.Below renaming refl->au,heap_setCell->aR
open Go.Value renaming slice->O,int->Z,pointer->aj,bool->bf
open _root_.List renaming getElem?_eq_getElem->V,getElem?_eq_some_iff->ak,getElem?_toArray->aC,getElem?_cons_zero->aG,getElem?_cons_succ->aH,getElem?_append_left->aQ,mem_iff_getElem?->aV,getElem?_eq_none->aW,mem_of_getElem?->aX,getElem?_map->bg,mem_map->bn,length_take->bD,length_map->bI
open _root_.Nat renaming le_refl->aF,lt_or_ge->aM,zero_le->bG
open _root_.Option renaming some->U,none->aA
open Option.some renaming inj->aI
open _root_.Or renaming inr->aK,inl->aT
namespace Go.Proofs.YtmklifheakemeaaGreat
namespace Bk
open Go.RowKit Rw YtmklifheakemeaaGreat.Nm Pr
theorem AV {W:aJ} {b:Nat} {cs:Array aL} {t:bP} (hb:dK W b cs t) {a:aZ} {v:aL} (h:W.cell? a=U v) (e:a.block=b):cs[a.off]?=U v:=by
 unfold World.cell? at h;unfold dK at hb;rw [e,hb] at h;have h2:a.spot=aA/\cs[a.off]?=U v:=by simpa using h
 exact h2.2
theorem Qc {W W':aJ} {b:Nat} (hk:∀ j,j<W.heap.size->j≠b->W'.heap[j]?=W.heap[j]?) {a:aZ} {v:aL} (h:W.cell? a=U v) (e:a.block≠b):W'.cell? a=U v:=by
 have hlt:=World.block_lt_of_cell? W _ h;unfold World.cell? at h ⊢;rw [hk _ hlt e];exact h
theorem wL (a:aZ) (j:Nat):(a.add j).block=a.block:=by unfold Addr.add; split <;> rfl
theorem iI {α:Type} {E:Ek α} (_K:E.Ok) {W W':aJ} {b:Nat} {v:aL} {l:List α} (h:Row E W v l) (hk:∀ j,j<W.heap.size->j≠b->W'.heap[j]?=W.heap[j]?) (hno:∀ (a:aZ) (c:α),(∀ j u,(E.cells c)[j]?=U u->W.cell? (a.add j)=U u)->a.block≠b):Row E W' v l:=by
 rcases h with h|⟨a,cap,h1,h2,h3,h4⟩
 ·exact aT h
 ·refine aK ⟨a,cap,h1,h2,h3,fun j u hj=>?_⟩;cases l with
  | nil=>simp [flat] at hj
  | cons c r =>
   have hne:a.block≠b:=hno a c fun j u hj=>h4 j u (by
    rw [flat,aQ (by exact (ak.1 hj).1)];exact hj)
   exact Qc hk (h4 j u hj) (by rw [wL]; exact hne)
theorem kU {α:Type} {E:Ek α} {W:aJ} {b:Nat} {cs:Array aL} {t:bP} (hb:dK W b cs t) (hE:∀ c:α,∃ i j:Int,(E.cells c)[0]?=U (Z ah i)/\(E.cells c)[1]?=U (Z ah j)) (hcs:∀ (k:Nat) (i j:Int),cs[k]?=U (Z ah i)->cs[k+1]?=U (Z ah j)->False) (a:aZ) (c:α) (h:∀ j u,(E.cells c)[j]?=U u->W.cell? (a.add j)=U u):a.block≠b:=fun e=>by
 obtain⟨i,j,h0,h1⟩:=hE c;have c0:=AV hb (h 0 _ h0) (by rw [wL]; exact e);have c1:=AV hb (h 1 _ h1) (by rw [wL]; exact e);have o0:(a.add 0).off=a.off:=by rw [Addr.add_zero']
 have o1:(a.add 1).off=a.off+1:=by rw [add_pos _ _ (by decide)]
 rw [o0] at c0;rw [o1] at c1;exact hcs a.off i j c0 c1
theorem rW {W:aJ} {b:Nat} {cs:Array aL} {t:bP} (hb:dK W b cs t) (hcs:∀ (k:Nat) (s:ByteArray),cs[k]?≠U (.string s)) (a:aZ) (c:C5) (h:∀ j u,(EC.cells c)[j]?=U u->W.cell? (a.add j)=U u):a.block≠b:=fun e=>by
 have c0:=AV hb (h 0 _ rfl) (by rw [wL]; exact e);exact hcs _ _ c0
theorem mh (me:Int) (s1 s2 s3 s4 s5:Sl):∀ (k:Nat) (i j:Int),(jA me s1 s2 s3 s4 s5)[k]?=U (Z ah i)->(jA me s1 s2 s3 s4 s5)[k+1]?=U (Z ah j)->False:=by
 intro k i j h1 h2
 match k with
 | 0=>simp at h2
 | 1=>simp at h1
 | 2=>simp at h1
 | 3=>simp at h1
 | 4=>simp at h1
 | 5=>simp at h1
 | k+6=>simp at h1
theorem rX (me:Int) (s1 s2 s3 s4 s5:Sl):∀ (k:Nat) (s:ByteArray),(jA me s1 s2 s3 s4 s5)[k]?≠U (.string s):=by
 intro k s h
 match k with
 | 0=>simp at h
 | 1=>simp at h
 | 2=>simp at h
 | 3=>simp at h
 | 4=>simp at h
 | 5=>simp at h
 | k+6=>simp at h
theorem fF {W W':aJ} {k:Nat} {me:Int} {s1 s2 s3 s4 s5:Sl} {b:Br} {nv av sv ev ov:Sl} (h:iZ W b nv av sv ev ov) (hb:dK W k (jA me s1 s2 s3 s4 s5) 28) (hk:∀ j,j<W.heap.size->j≠k->W'.heap[j]?=W.heap[j]?) (hn:qJ W' (dU nv) b.near):iZ W' b nv av sv ev ov where
 near:=hn
 dQ:=by
  obtain⟨l,h1,h2⟩:=h.dQ;exact⟨l,iI okD h1 hk (kU hb (fun c=>⟨_,_,rfl,rfl⟩) (mh me s1 s2 s3 s4 s5)),h2.mono fun x a hx=>⟨hx.1,hx.2.1,iI uW hx.2.2 hk (rW hb (rX me s1 s2 s3 s4 s5))⟩⟩
 seen:=iI CY h.seen hk (kU hb (fun c=>⟨_,_,rfl,rfl⟩) (mh me s1 s2 s3 s4 s5))
 ent:=by
  obtain⟨l,h1,h2⟩:=h.ent;exact⟨l,iI nO h1 hk (kU hb (fun c=>⟨_,_,rfl,rfl⟩) (mh me s1 s2 s3 s4 s5)),h2.mono fun x a hx=>⟨hx.1,hx.2.1,hx.2.2.1,hx.2.2.2.1,iI uW hx.2.2.2.2 hk (rW hb (rX me s1 s2 s3 s4 s5))⟩⟩
 own:=by
  obtain⟨l,h1,h2⟩:=h.own;exact⟨l,iI okW h1 hk (kU hb (fun c=>⟨_,_,rfl,rfl⟩) (mh me s1 s2 s3 s4 s5)),h2.mono fun x a hx=>⟨hx.1,iI uW hx.2 hk (rW hb (rX me s1 s2 s3 s4 s5))⟩⟩
end Bk
namespace Bk
open Go.RowKit Go.Sort Rw YtmklifheakemeaaGreat.Nm Pr
theorem p8 {W:aJ} {b:Nat} {z0 z1 z2 z3 z4 z5:aL} (h:dK W b #[z0,z1,z2,z3,z4,z5] 28) (me:Int) (o1 o2 o3 o4 o5:Option aZ) (n1 c1 n2 c2 n3 c3 n4 c4 n5 c5:Nat) :
  (Instr.storeAt 28 (aj (U ⟨b,0,aA⟩)) (.agg #[Z ah me,O o1 n1 c1,O o2 n2 c2,O o3 n3 c3,O o4 n4 c4,O o5 n5 c5])).run aB W=.ok () (gH W b (Z ah me) (O o1 n1 c1) (O o2 n2 c2) (O o3 n3 c3) (O o4 n4 c4) (O o5 n5 c5)):=by
 obtain⟨x0,x1,x2,x3,x4,x5⟩:=h.eZ;obtain⟨f0,f1,f2,f3,f4,f5⟩:=h.kL;simp [go_sem,x0,x1,x2,x3,x4,x5,f0,f1,f2,f3,f4,f5]
theorem yx {W:aJ} {b:Nat} {z0 z1 z2 z3 z4 z5:aL} (h:dK W b #[z0,z1,z2,z3,z4,z5] 28):(Instr.loadAt 28 (aj (U ⟨b,0,aA⟩))).run aB W=.ok (.agg #[z0,z1,z2,z3,z4,z5]) W:=by
 obtain⟨x0,x1,x2,x3,x4,x5⟩:=h.eZ;simp [go_sem,x0,x1,x2,x3,x4,x5]
theorem yA {P:Program} (ρ:Operand->aL) (o:Oper) (x y z:Operand) (t s r:bP) (f:FuncId) (ho:o.op=.call { callee:=.value (.func f),args:=#[x,y,z],argTypes:=#[t,s,r] }) {v u q:aL} (hx:ρ x=v) (hy:ρ y=u) (hz:ρ z=q) (hf:ρ (.func f)=.func (.func f) #[] #[]) (w:aJ)
  (hc:(callFunc f #[v,u,q]).run P w=.ok (.enter f #[v,u,q]) w):(execOp ρ o).run P w=.ok (.enter f #[v,u,q]) w:=by
 simp [execOp,ho,resolve,invoke,hx,hy,hz,hf,Deferred.ofValue,hc]
theorem Nk {W:aJ} {b:Nat} {c d:Int} (h:dK W b #[Z ah c,Z ah d] 31):∀ j u,(jO (c,d))[j]?=U u->W.cell? ((⟨b,0,aA⟩:aZ).add j)=U u:=by
 intro j u hj;rw [og,h.cell]
 match j with
 | 0=>exact hj
 | 1=>exact hj
 | j+2=>simp at hj
end Bk
namespace Av
open Go.RowKit Go.Sort Rw YtmklifheakemeaaGreat.Nm Pr Bk
theorem yB (x y:fC) (w:aJ):bF aB 120 #[mM x,mM y] w fun e w'=>e=aN (bf (eH x y))/\Below w.heap.size w w':=by
 have C:=AU x y;have R:=J (show decide (qz x y<0)=eH x y from by
  have h:=wK x y;cases hl:eH x y
  ·rw [hl] at h; simp at h; simpa using h
  ·rw [hl] at h; simp at h; simpa using h)
 obtain⟨a,b⟩:=x;obtain⟨c,d⟩:=y;obtain⟨h0,X,Y⟩:=gP w #[Z ah a,Z ah b] #[Z ah c,Z ah d] 31 31;obtain⟨x0,x1⟩:=X.cs2;obtain⟨y0,y1⟩:=Y.cs2;have B:=J h0;generalize qz (a,b) (c,d)=r at *;generalize eH (a,b) (c,d)=s at *;clear X Y h0;go_enter Tryz.func120,Tryz.ntmps120;go_wp2_with fail;have C:=C ((w.alloc (aP #[Z ah a,Z ah b] 31)).alloc (aP #[Z ah c,Z ah d] 31));refine C.mono ?_;rintro e w1 ⟨rfl,hb⟩;go_wp2;go_ret;exact⟨by have h:=R.out; subst h; rfl,B.out.trans (hb.mono B.out.size)⟩
theorem Qd (x y:jD) (w:aJ):bF aB 58 #[mJ x,mJ y] w fun e w'=>e=aN (Z ah (qz (x.1,x.2.1) (y.1,y.2.1)))/\Below w.heap.size w w':=by
 obtain⟨a,b,⟨s1,s2,s3⟩,p⟩:=x;obtain⟨c,d,⟨t1,t2,t3⟩,q⟩:=y;have C:=AU (a,b) (c,d);obtain⟨h0,X,Y⟩:=gP w #[Z ah a,Z ah b,O s1 s2 s3,Z ah p] #[Z ah c,Z ah d,O t1 t2 t3,Z ah q] 74 74;have x1:=X.cell 1;have x0:=X.cell 0;have y1:=Y.cell 1;have y0:=Y.cell 0;simp only [aC,aG,aH] at x0 x1 y0 y1;have B:=J h0;generalize qz (a,b) (c,d)=r at *;clear X Y h0;go_enter Tryz.func58,Tryz.ntmps58;go_wp2_with fail;have C:=C ((w.alloc (aP #[Z ah a,Z ah b,O s1 s2 s3,Z ah p] 74)).alloc (aP #[Z ah c,Z ah d,O t1 t2 t3,Z ah q] 74));refine C.mono ?_;rintro e w1 ⟨rfl,hb⟩;go_wp2;go_ret;exact⟨rfl,B.out.trans (hb.mono B.out.size)⟩
def lF {α:Type} (key:α->fC) (l:List α):Prop:=l.Pairwise fun a b=>eH (key a) (key b)=bH
def gN {α:Type} (key:α->fC) (l:List α) (x:fC):Nat:=(l.takeWhile fun a=>eH (key a) x).length
def mq {α:Type} (key:α->fC) (l:List α) (x:fC):Bool:=match l[gN key l x]? with
 | some y=>decide (key y=x)
 | none=>aU
theorem jg {α:Type} (key:α->fC) (l:List α) (x:fC):gN key l x=fT (l.map key) x:=by
 unfold gN fT;rw [List.takeWhile_map,bI]
 rfl
theorem DV {α:Type} (key:α->fC) (l:List α) (x:fC) (k:Nat) (hall:∀ (j:Nat) (y:α),j<k->l[j]?=U y->eH (key y) x=bH) (hend:k=l.length\/∃ y,l[k]?=U y/\eH (key y) x=aU):gN key l x=k:=by
 rw [jg];refine oP _ _ k (fun j y hj h=>?_) ?_
 ·rw [bg] at h;cases hy:l[j]? with
  | none=>rw [hy] at h; cases h
  | some z=>rw [hy] at h; rw [<- aI h]; exact hall j z hj hy
 ·rcases hend with h|⟨y,h1,h2⟩
  ·exact aT (by rw [bI]; exact h)
  ·exact aK ⟨key y,by rw [bg,h1]; rfl,h2⟩
theorem nH {α:Type} {key:α->fC} {l:List α} (h:lF key l) {i j:Nat} {x y:α} (hij:i<j) (hx:l[i]?=U x) (hy:l[j]?=U y):eH (key x) (key y)=bH:=by
 obtain⟨h1,rfl⟩:=ak.1 hx;obtain⟨h2,rfl⟩:=ak.1 hy;exact List.pairwise_iff_getElem.1 h i j h1 h2 hij
theorem DW (x y:fC):decide (qz x y<0)=eH x y:=by
 have h:=wK x y;cases hl:eH x y
 ·rw [hl] at h; simp at h; simpa using h
 ·rw [hl] at h; simp at h; simpa using h
theorem Qe {α:Type} {key:α->fC} {l:List α} (h:lF key l) (x:fC):mq key l x=decide (x∈l.map key):=by
 unfold mq;have hp:gN key l x<=l.length:=by rw [jg]; exact Nat.le_trans (mg _ _) (by simp)
 have hlo:∀ (j:Nat) (y:α),j<gN key l x->l[j]?=U y->eH (key y) x=bH:=by
  intro j y hj hy;have ht:(l.takeWhile fun a=>eH (key a) x)[j]?=U y:=by
   have:=List.takeWhile_prefix (fun a=>eH (key a) x) (l:=l);obtain⟨t,ht⟩:=this;rw [<- ht,aQ hj] at hy;exact hy
  exact List.all_eq_true.1 List.all_takeWhile y (aX ht)
 have hhi:∀ (y:α),l[gN key l x]?=U y->eH (key y) x=aU:=by
  intro y hy;unfold gN at hy;cases hq:eH (key y) x with
  | false=>rfl
  | true =>
   exfalso;have:∀ (m:List α),m[(m.takeWhile fun a=>eH (key a) x).length]?=U y->False:=by
    intro m
    induction m with
    | nil=>intro h; simp at h
    | cons a m ih =>
     intro h;by_cases ha:eH (key a) x=bH
     ·exact ih (by simpa [List.takeWhile_cons,ha] using h)
     ·simp [ha] at h;subst h;exact ha hq
   exact this l hy
 cases hy:l[gN key l x]? with
 | none =>
  symm
  rw [decide_eq_false_iff_not];intro hm;obtain⟨z,hz,hzx⟩:=bn.1 hm;obtain⟨j,hj⟩:=aV.1 hz;have hjl:=(ak.1 hj).1;have hpl:l.length<=gN key l x:=by
   rcases aM (gN key l x) l.length with h0|h0
   ·rw [V h0] at hy; cases hy
   ·exact h0
  have:=hlo j z (by omega) hj;rw [hzx,lD] at this;cases this
 | some y =>
  simp only;by_cases hk:key y=x
  ·rw [decide_eq_true hk]
   symm
   rw [decide_eq_true_eq];exact bn.2 ⟨y,aX hy,hk⟩
  ·rw [decide_eq_false hk]
   symm
   rw [decide_eq_false_iff_not];intro hm;obtain⟨z,hz,hzx⟩:=bn.1 hm;obtain⟨j,hj⟩:=aV.1 hz;rcases Nat.lt_trichotomy j (gN key l x) with h1|h1|h1
   ·have:=hlo j z h1 hj;rw [hzx,lD] at this;cases this
   ·subst h1;rw [hy] at hj;rw [aI hj] at hk;exact hk hzx
   ·have h3:=nH h h1 hy hj;have h4:=hhi y hy;rw [hzx] at h3;rw [h3] at h4;cases h4
abbrev uY (x:fC):fC:=x
theorem S9 {W W1:aJ} {v:aL} {l:List fC} {ao:Option aZ} {n c k:Nat} {x:fC} (h:vT W v l) (hv:v=O ao n c) (hn:l.length=n) (hk:l[k]?=U x) (hb:Below W.heap.size W W1) :
  ∃ p:aZ,(∀ w,(Instr.indexAt 24 (O ao n c) (Z ah k)).run aB w=.ok (aj (U p)) w) /\
   (∀ d os,(grow (redrawn W1 d) os).cell? p=U (Z ah x.1))/\(∀ d os,(grow (redrawn W1 d) os).cell? ⟨p.block,p.off+1,aA⟩=U (Z ah x.2)):=by
 obtain⟨p,h1,h2⟩:=elJ h hv hn hk;obtain⟨c0,c1⟩:=h2 _ hb;exact⟨p,h1,cell_regrown c0,cell_regrown c1⟩
theorem Nl {W:aJ} {b:Nat} {c:fC} (h:dK W b #[Z ah c.1,Z ah c.2] 31):(∀ d os,(grow (redrawn W d) os).cell? ⟨b,0,aA⟩=U (Z ah c.1))/\(∀ d os,(grow (redrawn W d) os).cell? ⟨b,1,aA⟩=U (Z ah c.2)) :=
 ⟨cell_regrown (h.cell 0),cell_regrown (h.cell 1)⟩
theorem Nn (c d:fC) (r:Int) (hr:qz c d=r) (w:aJ) (k:Nat) (os:Array Obj) :
  bF aB 56 #[mM c,mM d] (grow (redrawn w k) os) fun e w''=>e=aN (Z ah r)/\∃ p:Regrown,w''=grow (redrawn w p.d) p.os:=by
 subst hr;exact Calls.regrown_of (AU c d _)
theorem Yr (v:aL) (l:List fC) (c:fC) (w:aJ) (hv:vT w v l) (hr:lF uY l) (hl:l.length<=900) :
  bF aB 113 #[v,mM c,.func (.func 56) #[] #[]] w fun e w'=>e=aN (.tuple #[Z ah (gN uY l c),bf (mq uY l c)])/\Below w.heap.size w w':=by
 have HL:=J hv;have HR:=J hr;have BX:=J (dJ w #[Z ah c.1,Z ah c.2] 31);have B1:=J ((au w.heap.size w).alloc (aF _) (aP #[Z ah c.1,Z ah c.2] 31));obtain⟨ao,ac,rfl⟩:=hv.len;obtain⟨n,hn⟩:∃ n,n=l.length:=⟨_,rfl⟩;rw [<- hn] at HL hl ⊢;have HN:=J hn;obtain⟨cnt,hc⟩:∃ k,k=gN uY l c:=⟨_,rfl⟩;obtain⟨th,ht⟩:∃ k,k=mq uY l c:=⟨_,rfl⟩;rw [<- hc,<- ht];have HC:=J hc;have HT:=J ht;clear hv hr hn hc ht;obtain⟨c1,c2⟩:=c;go_enter Tryz.func113,Tryz.ntmps113;go_wp2;generalize w.alloc (aP #[Z ah c1,Z ah c2] 31)=w1 at *
 go_loopg [9,10] n (fun kx s9 s10 wr=>∃ lo hi:Nat,s9=Z ah lo/\s10=Z ah hi/\lo<=hi/\hi<=n/\hi-lo<=kx/\Below w.heap.size w wr/\dK wr w.heap.size #[Z ah c1,Z ah c2] 31 /\
  (∀ (t:Nat) (y:fC),t<lo->l[t]?=U y->eH y (c1,c2)=bH)/\(∀ (t:Nat) (y:fC),hi<=t->l[t]?=U y->eH y (c1,c2)=aU))
 case atStart=>exact⟨0,n,rfl,rfl,bG _,aF _,by omega,B1.out,BX.out,fun t y h=>by omega,fun t y h1 h2=>by have:=(ak.1 h2).1; have:=HN.out; omega⟩
 case round =>
  clear B1 BX;obtain⟨lo,hi,rfl,rfl,hlh,hin,hg,hb,hx,ha,hz⟩:=hrel;have B:=J hb;have X:=J hx;have AL:=J ha;have ZL:=J hz;clear hb hx ha hz;by_cases hlt:lo<hi
  ·obtain⟨y,hy⟩:∃ y,l[(lo+hi) / 2]?=U y:=⟨_,V (by have:=HN.out; omega)⟩;obtain⟨p,ix,p0,p1⟩:=S9 HL.out rfl HN.out.symm hy B.out;obtain⟨b0,b1⟩:=Nl (c:=(c1,c2)) X.out;obtain⟨r,hr⟩:∃ r,qz y (c1,c2)=r:=⟨_,rfl⟩;have C:=Nn y (c1,c2) r hr wr;have LE:=J (show decide (r<0)=eH y (c1,c2) by rw [<- hr]; exact DW _ _);have Y:=J hy;clear hy hr;have e23:((lo:Int)+(hi:Int)) / 2=(((lo+hi) / 2:Nat):Int):=by omega
   generalize hm:(lo+hi) / 2=m at *;have BN:=J (fun dq osq=>B.out.trans ((below_regrown wr dq osq).mono B.out.size));have XN:=J (fun dq osq=>X.out.on (below_regrown wr dq osq));obtain⟨y1,y2⟩:=y;simp only at p0 p1 b0 b1 C;by_cases hneg:r<0
   ·have d0:decide (r<0)=bH:=by simpa using hneg
    have LT:=J (show eH (y1,y2) (c1,c2)=bH by rw [<- LE.out]; exact d0);go_wp2;refine wp_region_quiet_below (by kernel_rfl) (by kernel_rfl) ?_
    repeat (go_big_quiet_step (first | (with_reducible exact C _ _) | exact DX _ _))
    refine wpQuiet_nil ?_;intro _ hw';obtain⟨⟨dq,osq⟩,hw''⟩:=hw';subst hw'';clear ix p0 p1 b0 b1 C;go_wp2
    go_roundg (hi-(m+1))
    case measure=>omega
    case rel=>exact⟨m+1,hi,by go_num,rfl,by omega,hin,aF _,BN.out _ _,XN.out _ _,fun t z h1 h2=>by
     rcases aM t m with h3|h3
     ·exact iX (nH HR.out (by omega) h2 Y.out) LT.out
     ·obtain rfl:t=m:=by omega
      rw [Y.out] at h2;rw [<- aI h2];exact LT.out,ZL.out⟩
   ·have d0:decide (r<0)=aU:=by simpa using hneg
    have LT:=J (show eH (y1,y2) (c1,c2)=aU by rw [<- LE.out]; exact d0);go_wp2;refine wp_region_quiet_below (by kernel_rfl) (by kernel_rfl) ?_
    repeat (go_big_quiet_step (first | (with_reducible exact C _ _) | exact DX _ _))
    refine wpQuiet_nil ?_;intro _ hw';obtain⟨⟨dq,osq⟩,hw''⟩:=hw';subst hw'';clear ix p0 p1 b0 b1 C;go_wp2
    go_roundg (m-lo)
    case measure=>omega
    case rel=>exact⟨lo,m,rfl,rfl,by omega,by omega,aF _,BN.out _ _,XN.out _ _,AL.out,fun t z h1 h2=>by
     cases h:eH z (c1,c2)
     ·rfl
     ·rcases aM m t with h3|h3
      ·have:=iX (nH HR.out h3 Y.out h2) h;rw [LT.out] at this;cases this
      ·obtain rfl:t=m:=by omega
       rw [Y.out] at h2;rw [<- aI h2,LT.out] at h;cases h⟩
  ·obtain rfl:hi=lo:=by omega
   have E:=J (DV uY l (c1,c2) hi AL.out (by
    rcases aM hi n with h|h
    ·exact aK ⟨_,V (by have:=HN.out; omega),ZL.out hi _ (aF _) (V (by have:=HN.out; omega))⟩
    ·exact aT (by have:=HN.out; omega)))
   by_cases hn:hi<n
   ·obtain⟨y,hy⟩:∃ y,l[hi]?=U y:=⟨_,V (by have:=HN.out; omega)⟩;obtain⟨p,ix,p0,p1⟩:=S9 HL.out rfl HN.out.symm hy B.out;obtain⟨b0,b1⟩:=Nl (c:=(c1,c2)) X.out;obtain⟨r,hr⟩:∃ r,qz y (c1,c2)=r:=⟨_,rfl⟩;have C:=Nn y (c1,c2) r hr wr;have TH:=J (show th=(r == 0) by
     rw [HT.out,mq,E.out,hy,bK,beq_iff_eq,<- hr,uJ,decide_eq_true_eq])
    have BN:=J (fun dq osq=>B.out.trans ((below_regrown wr dq osq).mono B.out.size));have CE:=J (show cnt=hi by rw [HC.out,E.out]);clear hy hr hlt;have g4:decide ((hi:Int)<(n:Int))=bH:=by simp; omega
    obtain⟨y1,y2⟩:=y;simp only at p0 p1 b0 b1 C;go_wp2;refine wp_region_quiet_below (by kernel_rfl) (by kernel_rfl) ?_
    repeat (go_big_quiet_step (first | (with_reducible exact C _ _) | exact DX _ _))
    refine wpQuiet_nil ?_;intro _ hw';obtain⟨⟨dq,osq⟩,hw''⟩:=hw';subst hw'';clear ix p0 p1 b0 b1 C;go_wp2
    go_ret2
    exact⟨by rw [TH.out,CE.out]; rfl,BN.out _ _⟩
   ·have TH:=J (show th=aU by
     rw [HT.out,mq,E.out,aW (by have:=HN.out; omega)])
    have CE:=J (show cnt=hi by rw [HC.out,E.out]);have BN:=J (fun dq osq=>B.out.trans ((below_regrown wr dq osq).mono B.out.size));have g4:decide ((hi:Int)<(n:Int))=aU:=by simp; omega
    clear hlt;go_wp2;refine wp_region_quiet_below (by kernel_rfl) (by kernel_rfl) ?_
    repeat (go_big_quiet_step (fail))
    refine wpQuiet_nil ?_;intro _ hw';obtain⟨⟨dq,osq⟩,hw''⟩:=hw';subst hw'';go_wp2
    go_ret2
    exact⟨by rw [TH.out,CE.out]; rfl,BN.out _ _⟩
abbrev lJ (x:jD):fC:=(x.1,x.2.1)
theorem Ta {W W1:aJ} {v:aL} {l:List jD} {ao:Option aZ} {n c k:Nat} {x:jD} (h:wG W v l) (hv:v=O ao n c) (hn:l.length=n) (hk:l[k]?=U x) (hb:Below W.heap.size W W1) :
  ∃ p:aZ,(∀ w,(Instr.indexAt 23 (O ao n c) (Z ah k)).run aB w=.ok (aj (U p)) w) /\
   (∀ d os,(grow (redrawn W1 d) os).cell? p=U (Z ah x.1))/\(∀ d os,(grow (redrawn W1 d) os).cell? ⟨p.block,p.off+1,aA⟩=U (Z ah x.2.1))/\(∀ d os,(grow (redrawn W1 d) os).cell? ⟨p.block,p.off+2,aA⟩=U (dU x.2.2.1))/\(∀ d os,(grow (redrawn W1 d) os).cell? ⟨p.block,p.off+3,aA⟩=U (Z ah x.2.2.2)):=by
 obtain⟨p,h1,h2⟩:=M7 h hv hn hk;obtain⟨c0,c1,c2,c3⟩:=h2 _ hb;exact⟨p,h1,cell_regrown c0,cell_regrown c1,cell_regrown c2,cell_regrown c3⟩
theorem Np {W:aJ} {b:Nat} {c:jD} (h:dK W b #[Z ah c.1,Z ah c.2.1,dU c.2.2.1,Z ah c.2.2.2] 74):(∀ d os,(grow (redrawn W d) os).cell? ⟨b,0,aA⟩=U (Z ah c.1))/\(∀ d os,(grow (redrawn W d) os).cell? ⟨b,1,aA⟩=U (Z ah c.2.1))/\(∀ d os,(grow (redrawn W d) os).cell? ⟨b,2,aA⟩=U (dU c.2.2.1))/\(∀ d os,(grow (redrawn W d) os).cell? ⟨b,3,aA⟩=U (Z ah c.2.2.2)) :=
 ⟨cell_regrown (h.cell 0),cell_regrown (h.cell 1),cell_regrown (h.cell 2),cell_regrown (h.cell 3)⟩
theorem Nq (c d:jD) (r:Int) (hr:qz (c.1,c.2.1) (d.1,d.2.1)=r) (w:aJ) (k:Nat) (os:Array Obj) :
  bF aB 58 #[mJ c,mJ d] (grow (redrawn w k) os) fun e w''=>e=aN (Z ah r)/\∃ p:Regrown,w''=grow (redrawn w p.d) p.os:=by
 subst hr;exact Calls.regrown_of (Qd c d _)
theorem Yt (v:aL) (l:List jD) (c:jD) (w:aJ) (hv:wG w v l) (hr:lF lJ l) (hl:l.length<=900) :
  bF aB 115 #[v,mJ c,.func (.func 58) #[] #[]] w fun e w'=>e=aN (.tuple #[Z ah (gN lJ l (c.1,c.2.1)),bf (mq lJ l (c.1,c.2.1))])/\Below w.heap.size w w':=by
 have HL:=J hv;have HR:=J hr;have BX:=J (dJ w #[Z ah c.1,Z ah c.2.1,dU c.2.2.1,Z ah c.2.2.2] 74);have B1:=J ((au w.heap.size w).alloc (aF _) (aP #[Z ah c.1,Z ah c.2.1,dU c.2.2.1,Z ah c.2.2.2] 74));obtain⟨ao,ac,rfl⟩:=hv.len;obtain⟨n,hn⟩:∃ n,n=l.length:=⟨_,rfl⟩;rw [<- hn] at HL hl ⊢;have HN:=J hn;obtain⟨cnt,hc⟩:∃ k,k=gN lJ l (c.1,c.2.1):=⟨_,rfl⟩;obtain⟨th,ht⟩:∃ k,k=mq lJ l (c.1,c.2.1):=⟨_,rfl⟩;rw [<- hc,<- ht];have HC:=J hc;have HT:=J ht;clear hv hr hn hc ht;obtain⟨c1,c2,⟨c3,c4,c5⟩,c6⟩:=c;go_enter Tryz.func115,Tryz.ntmps115;go_wp2;generalize w.alloc (aP #[Z ah c1,Z ah c2,O c3 c4 c5,Z ah c6] 74)=w1 at *
 go_loopg [9,10] n (fun kx s9 s10 wr=>∃ lo hi:Nat,s9=Z ah lo/\s10=Z ah hi/\lo<=hi/\hi<=n/\hi-lo<=kx/\Below w.heap.size w wr/\dK wr w.heap.size #[Z ah c1,Z ah c2,O c3 c4 c5,Z ah c6] 74 /\
  (∀ (t:Nat) (y:jD),t<lo->l[t]?=U y->eH (y.1,y.2.1) (c1,c2)=bH)/\(∀ (t:Nat) (y:jD),hi<=t->l[t]?=U y->eH (y.1,y.2.1) (c1,c2)=aU))
 case atStart=>exact⟨0,n,rfl,rfl,bG _,aF _,by omega,B1.out,BX.out,fun t y h=>by omega,fun t y h1 h2=>by have:=(ak.1 h2).1; have:=HN.out; omega⟩
 case round =>
  clear B1 BX;obtain⟨lo,hi,rfl,rfl,hlh,hin,hg,hb,hx,ha,hz⟩:=hrel;have B:=J hb;have X:=J hx;have AL:=J ha;have ZL:=J hz;clear hb hx ha hz;by_cases hlt:lo<hi
  ·obtain⟨y,hy⟩:∃ y,l[(lo+hi) / 2]?=U y:=⟨_,V (by have:=HN.out; omega)⟩;obtain⟨p,ix,p0,p1,p2,p3⟩:=Ta HL.out rfl HN.out.symm hy B.out;obtain⟨b0,b1,b2,b3⟩:=Np (c:=(c1,c2,(c3,c4,c5),c6)) X.out;obtain⟨r,hr⟩:∃ r,qz (y.1,y.2.1) (c1,c2)=r:=⟨_,rfl⟩;have C:=Nq y (c1,c2,(c3,c4,c5),c6) r hr wr;have LE:=J (show decide (r<0)=eH (y.1,y.2.1) (c1,c2) by rw [<- hr]; exact DW _ _);have Y:=J hy;clear hy hr;have e23:((lo:Int)+(hi:Int)) / 2=(((lo+hi) / 2:Nat):Int):=by omega
   generalize hm:(lo+hi) / 2=m at *;have BN:=J (fun dq osq=>B.out.trans ((below_regrown wr dq osq).mono B.out.size));have XN:=J (fun dq osq=>X.out.on (below_regrown wr dq osq));obtain⟨y1,y2,⟨yo,yn,yc⟩,y4⟩:=y;simp only at p0 p1 p2 p3 b0 b1 b2 b3 C;by_cases hneg:r<0
   ·have d0:decide (r<0)=bH:=by simpa using hneg
    have LT:=J (show eH (y1,y2) (c1,c2)=bH by rw [<- LE.out]; exact d0);go_wp2;refine wp_region_quiet_below (by kernel_rfl) (by kernel_rfl) ?_
    repeat (go_big_quiet_step (first | (with_reducible exact C _ _) | exact DY _ _))
    refine wpQuiet_nil ?_;intro _ hw';obtain⟨⟨dq,osq⟩,hw''⟩:=hw';subst hw'';clear ix p0 p1 p2 p3 b0 b1 b2 b3 C;go_wp2
    go_roundg (hi-(m+1))
    case measure=>omega
    case rel=>exact⟨m+1,hi,by go_num,rfl,by omega,hin,aF _,BN.out _ _,XN.out _ _,fun t z h1 h2=>by
     rcases aM t m with h3|h3
     ·exact iX (nH HR.out (by omega) h2 Y.out) LT.out
     ·obtain rfl:t=m:=by omega
      rw [Y.out] at h2;rw [<- aI h2];exact LT.out,ZL.out⟩
   ·have d0:decide (r<0)=aU:=by simpa using hneg
    have LT:=J (show eH (y1,y2) (c1,c2)=aU by rw [<- LE.out]; exact d0);go_wp2;refine wp_region_quiet_below (by kernel_rfl) (by kernel_rfl) ?_
    repeat (go_big_quiet_step (first | (with_reducible exact C _ _) | exact DY _ _))
    refine wpQuiet_nil ?_;intro _ hw';obtain⟨⟨dq,osq⟩,hw''⟩:=hw';subst hw'';clear ix p0 p1 p2 p3 b0 b1 b2 b3 C;go_wp2
    go_roundg (m-lo)
    case measure=>omega
    case rel=>exact⟨lo,m,rfl,rfl,by omega,by omega,aF _,BN.out _ _,XN.out _ _,AL.out,fun t z h1 h2=>by
     cases h:eH (z.1,z.2.1) (c1,c2)
     ·rfl
     ·rcases aM m t with h3|h3
      ·have:=iX (nH HR.out h3 Y.out h2) h;rw [LT.out] at this;cases this
      ·obtain rfl:t=m:=by omega
       rw [Y.out] at h2;rw [<- aI h2,LT.out] at h;cases h⟩
  ·obtain rfl:hi=lo:=by omega
   have E:=J (DV lJ l (c1,c2) hi AL.out (by
    rcases aM hi n with h|h
    ·exact aK ⟨_,V (by have:=HN.out; omega),ZL.out hi _ (aF _) (V (by have:=HN.out; omega))⟩
    ·exact aT (by have:=HN.out; omega)))
   by_cases hn:hi<n
   ·obtain⟨y,hy⟩:∃ y,l[hi]?=U y:=⟨_,V (by have:=HN.out; omega)⟩;obtain⟨p,ix,p0,p1,p2,p3⟩:=Ta HL.out rfl HN.out.symm hy B.out;obtain⟨b0,b1,b2,b3⟩:=Np (c:=(c1,c2,(c3,c4,c5),c6)) X.out;obtain⟨r,hr⟩:∃ r,qz (y.1,y.2.1) (c1,c2)=r:=⟨_,rfl⟩;have C:=Nq y (c1,c2,(c3,c4,c5),c6) r hr wr;have TH:=J (show th=(r == 0) by
     rw [HT.out,mq,E.out,hy,bK,beq_iff_eq,<- hr,uJ,decide_eq_true_eq])
    have BN:=J (fun dq osq=>B.out.trans ((below_regrown wr dq osq).mono B.out.size));have CE:=J (show cnt=hi by rw [HC.out,E.out]);clear hy hr hlt;have g4:decide ((hi:Int)<(n:Int))=bH:=by simp; omega
    obtain⟨y1,y2,⟨yo,yn,yc⟩,y4⟩:=y;simp only at p0 p1 p2 p3 b0 b1 b2 b3 C;go_wp2;refine wp_region_quiet_below (by kernel_rfl) (by kernel_rfl) ?_
    repeat (go_big_quiet_step (first | (with_reducible exact C _ _) | exact DY _ _))
    refine wpQuiet_nil ?_;intro _ hw';obtain⟨⟨dq,osq⟩,hw''⟩:=hw';subst hw'';clear ix p0 p1 p2 p3 b0 b1 b2 b3 C;go_wp2
    go_ret2
    exact⟨by rw [TH.out,CE.out]; rfl,BN.out _ _⟩
   ·have TH:=J (show th=aU by
     rw [HT.out,mq,E.out,aW (by have:=HN.out; omega)])
    have CE:=J (show cnt=hi by rw [HC.out,E.out]);have BN:=J (fun dq osq=>B.out.trans ((below_regrown wr dq osq).mono B.out.size));have g4:decide ((hi:Int)<(n:Int))=aU:=by simp; omega
    clear hlt;go_wp2;refine wp_region_quiet_below (by kernel_rfl) (by kernel_rfl) ?_
    repeat (go_big_quiet_step (fail))
    refine wpQuiet_nil ?_;intro _ hw';obtain⟨⟨dq,osq⟩,hw''⟩:=hw';subst hw'';go_wp2
    go_ret2
    exact⟨by rw [TH.out,CE.out]; rfl,BN.out _ _⟩
theorem vY (l:List fC) (x:fC) (h:∀ (j:Nat) (y:fC),l[j]?=U y->y≠x):fJ l x=-1:=by
 induction l with
 | nil=>rfl
 | cons a l ih =>
  rw [fJ,if_neg (h 0 a rfl),ih fun j y hj=>h (j+1) y (by simpa using hj),if_pos rfl]
theorem AX (l:List fC) (k:Nat) (x:fC) (h:l[k]?=U x) (hall:∀ (j:Nat) (z:fC),j<k->l[j]?=U z->z≠x):fJ l x=k:=by
 induction l generalizing k with
 | nil=>simp at h
 | cons a l ih =>
  cases k with
  | zero =>
   obtain rfl:a=x:=by simpa using h
   rw [fJ,if_pos rfl]
   rfl
  | succ k =>
   have h2:=ih k (by simpa using h) fun j z hj hz=>hall (j+1) z (by omega) (by simpa using hz);rw [fJ,if_neg (hall 0 a (by omega) rfl),h2,if_neg (by omega)];omega
theorem Io (l:List fC) (x:fC):decide ((0:Int)<=fJ l x)=decide (x∈l):=by
 induction l with
 | nil=>simp [fJ]
 | cons a l ih =>
  have hb:=nG l x;rw [fJ];by_cases h:a=x
  ·rw [if_pos h]; simp [h]
  ·rw [if_neg h];have h':¬ x=a:=fun e=>h e.symm;simp only [List.mem_cons,h',false_or];rw [<- ih];by_cases h2:fJ l x=-1
   ·rw [if_pos h2,h2]
   ·rw [if_neg h2];have h3:0<=fJ l x:=by omega
    have h4:0<=fJ l x+1:=by omega
    simp [h3,h4]
theorem Qf (sv:Sl) (l:List fC) (x:fC) (w:aJ) (hs:vT w (dU sv) l) :
  bF aB 128 #[dU sv,mM x] w fun e w'=>e=aN (Z ah (fJ l x))/\Below w.heap.size w w':=by
 obtain⟨c,d⟩:=x;obtain⟨so,sn,sc⟩:=sv;obtain⟨ao,ac,hv⟩:=hs.len;have hv:O so sn sc=O ao l.length ac:=hv;obtain⟨rfl,rfl,rfl⟩:so=ao/\sn=l.length/\sc=ac:=by simpa using hv
 have h0:=fM w (aP #[Z ah c,Z ah d] 31);have h2:=dJ w #[Z ah c,Z ah d] 31;have B:=J h0;have HS:=J (hs.on h0);have X3:=J h2;have lm:=hs.most;unfold maxLen at lm;obtain⟨n,hn⟩:∃ n,n=l.length:=⟨_,rfl⟩;rw [<- hn] at HS lm ⊢;have HN:=J hn.symm;clear h0 h2 hs hv hn;go_enter Tryz.func128,Tryz.ntmps128;go_upto_region 1 with fail;generalize w.alloc (aP #[Z ah c,Z ah d] 31)=W at *;go_wp2
 go_loopw [8] (fun i wr=>∃ k:Nat,k<=n/\i=Z ah k/\Below W.heap.size W wr/\∀ (j:Nat) (y:fC),j<k->l[j]?=U y->y≠(c,d)) (fun i _=>n-(intOf i).toNat)
 case atStart=>exact⟨0,bG _,rfl,au _ _,fun j y h=>by omega⟩
 case round =>
  obtain⟨k,hk,rfl,hbe,hall⟩:=hrel;have BE:=J hbe;have AL:=J hall;clear hbe hall;by_cases hlt:k<n
  ·obtain⟨y,hy⟩:∃ y,l[k]?=U y:=⟨_,V (by rw [HN.out]; exact hlt)⟩;obtain⟨p,ix,px⟩:=elJ HS.out rfl HN.out hy;have DD:Below W.heap.size W wr.drew:=BE.out.drew;obtain⟨p0,p1⟩:=px wr BE.out;obtain⟨y1,y2⟩:=y;simp only at p0 p1;obtain⟨x0,x1⟩:=(X3.out.on BE.out).cs2;have hw3:IntKind.i64.wrap ((k:Int)+1)=(k:Int)+1:=IntWalk.i64_in _ (by omega);obtain⟨r,hr⟩:∃ r,(c == y1 && d == y2)=r:=⟨_,rfl⟩;have he:=qO c d y1 y2 r hr;have DB:=J DD;have HY:=J hy;have HR:=J hr;clear px hy hr DD;cases r
   ·go_wp2_with fail
    go_quiet (fail)
    go_wp2
    go_roundw
    case rel=>exact⟨k+1,by omega,by go_num,⟨BE.out.os,BE.out.tape,BE.out.output,BE.out.size,BE.out.block⟩,fun j y' hj h1=>by
     rcases aM j k with h3|h3
     ·exact AL.out j y' h3 h1
     ·obtain rfl:j=k:=by omega
      have e1:=HY.out;rw [h1] at e1;rw [aI e1];intro e;obtain⟨rfl,rfl⟩:y1=c/\y2=d:=by simpa using e
      have:=HR.out;simp at this⟩
    case measure=>simp [intOf]; omega
   ·go_wp2_with fail
    go_quiet (fail)
    go_wp2;go_ret;have h8:=HR.out;obtain⟨rfl,rfl⟩:c=y1/\d=y2:=by simpa using h8
    exact⟨by rw [AX l k (c,d) HY.out AL.out]; rfl,B.out.trans (Below.mono ⟨BE.out.os,BE.out.tape,BE.out.output,BE.out.size,BE.out.block⟩ B.out.size)⟩
  ·obtain rfl:k=n:=by omega
   go_wp2;go_ret;have hd:fJ l (c,d)=-1:=vY l (c,d) fun j y hj=>AL.out j y (by rw [<- HN.out]; exact (ak.1 hj).1) hj;exact⟨by rw [hd]; rfl,B.out.trans (BE.out.mono B.out.size)⟩
theorem F7 (sv:Sl) (l:List fC) (x:fC) (w:aJ) (hs:vT w (dU sv) l) :
  bF aB 88 #[dU sv,mM x] w fun e w'=>e=aN (bf (decide (x∈l)))/\Below w.heap.size w w':=by
 have h0:=fM w (aP #[Z ah x.1,Z ah x.2] 31);have h2:=dJ w #[Z ah x.1,Z ah x.2] 31;have C:=Qf sv l x _ (hs.on h0);have R:=J (Io l x);obtain⟨c,d⟩:=x;obtain⟨so,sn,sc⟩:=sv;have B:=J h0;obtain⟨x0,x1⟩:=h2.cs2;generalize fJ l (c,d)=r at *;generalize decide ((c,d)∈l)=s at *;clear h0 h2 hs;go_enter Tryz.func88,Tryz.ntmps88;go_wp2_with fail;refine C.mono ?_;rintro e w1 ⟨rfl,hb⟩;go_wp2;go_ret;exact⟨by have h:=R.out; subst h; rfl,B.out.trans (hb.mono B.out.size)⟩
theorem D5 (me:Int) (nv av ev ov:aL) (sv:Sl) (l:List fC) (x:fC) (w:aJ) (hs:vT w (dU sv) l) :
  bF aB 31 #[.agg #[Z ah me,nv,av,dU sv,ev,ov],mM x] w fun e w'=>e=aN (bf (decide (x∈l)))/\Below w.heap.size w w':=by
 obtain⟨h0,h1,h2⟩:=gP w #[Z ah me,nv,av,dU sv,ev,ov] #[Z ah x.1,Z ah x.2] 28 31;have C:=F7 sv l x _ (hs.on h0);obtain⟨c,d⟩:=x;obtain⟨so,sn,sc⟩:=sv;have B:=J h0;have b3:=h1.cell 3;obtain⟨x0,x1⟩:=h2.cs2;simp only [aC,aG,aH] at b3;generalize decide ((c,d)∈l)=s at *;clear h0 h1 h2 hs;go_enter Tryz.func31,Tryz.ntmps31;go_wp2_with fail;refine C.mono ?_;rintro e w1 ⟨rfl,hb⟩;go_wp2;go_ret;exact⟨rfl,B.out.trans (hb.mono B.out.size)⟩
end Av
namespace Bk
open Go.RowKit Rw YtmklifheakemeaaGreat.Nm Pr
def Nr (B b2 _:Nat) (so:Option aZ) (sn sc at_:Nat) (lo hiv:aL) (z:iq) (lt ld:List iq) (i:Nat) (v:aL) (x:aJ):Prop :=
 match i with
 | 0=>∃ g,v=O (U ⟨g,0,aA⟩) 0 0/\B<=g/\dK x g #[] 66
 | 1=>v=aj (U ⟨b2,4,aA⟩)
 | 2=>v=O so sn sc
 | 3=>v=Z ah (at_:Int)
 | 4=>v=lo
 | 5=>jV x B v lt
 | 6=>v=pF z
 | 7=>jV x B v [z]
 | 8=>jV x B v (lt++[z])
 | 9=>v=aj (U ⟨b2,4,aA⟩)
 | 10=>v=O so sn sc
 | 11=>v=Z ah (at_:Int)
 | 12=>v=hiv
 | 13=>jV x B v (lt++[z]++ld)
 | 14=>v=aj (U ⟨b2,4,aA⟩)
 | _=>True
noncomputable def ZO:Code:=((Tryz.f47.body.bind (eO 8)).getD .skip)
theorem Tc (B b2 b3:Nat) (so:Option aZ) (sn sc at_:Nat) (lo hiv:aL) (z:iq) (lt ld:List iq) (i:Nat) (v:aL) (x x':aJ) (h:Nr B b2 b3 so sn sc at_ lo hiv z lt ld i v x) (hb:Below x.heap.size x x'):Nr B b2 b3 so sn sc at_ lo hiv z lt ld i v x':=by
 by_cases hi:i<15
 ·rcases (by omega:i=0\/i=1\/i=2\/i=3\/i=4\/i=5\/i=6\/i=7\/i=8\/i=9\/i=10\/i=11\/i=12\/i=13\/i=14) with rfl|rfl|rfl|rfl|rfl|rfl|rfl|rfl|rfl|rfl|rfl|rfl|rfl|rfl|rfl
  ·obtain⟨g,h1,h2,h3⟩:=h;exact⟨g,h1,h2,h3.on hb⟩
  ·exact h
  ·exact h
  ·exact h
  ·exact h
  ·exact dI h hb
  ·exact h
  ·exact dI h hb
  ·exact dI h hb
  ·exact h
  ·exact h
  ·exact h
  ·exact h
  ·exact dI h hb
  ·exact h
 ·unfold Nr
  split <;> first | omega | trivial
theorem Qg (Q:Exit->Act->aJ->Prop) (W:aJ) (b2 b3:Nat) (me:Int) (y1 y2 y3 y5:aL) (so:Option aZ) (sn sc at_:Nat) (l:List iq) (z:iq) (u0 u1 u4 u5 u6 u8 u9 u10 u11 u12 u13 u14 u15 u16 u17 u18 u19 u20 u21 u22 u23 u24 u25 u26 u27 u28 u29 u30 u31 u32 u33 u34 u35 u36 u37 u38 u39 u40 u41 u42 u43 u44 u45 u46 u47 u48 u49 u50 u51 u52 u53 u54 u55 u56 u57 u58 u59 u60 u61 u62 u63 u64 u65 u66 u67 u68 u69 u70 u71 u72 u73 u74 u75 u76 u77 u78 u79 u80 u81 u82 u83 u84 u85 u86 u87 u88 u89 u90 u91 u92 u93 u94 u95 u96 u97 u98 u99 u100 u101 u102 u103 u104 u105 u106 u107 u108 u109 u110 u111 u112 u113 u114:aL)
  (h2:dK W b2 #[Z ah me,y1,y2,y3,O so sn sc,y5] 28) (hx:∀ x,Below W.heap.size W x->∀ j u,(iH z)[j]?=U u->x.cell? ((⟨b3,0,aA⟩:aZ).add j)=U u) (hs:lI W (O so sn sc) l) (hat:at_<=l.length) (hlen:l.length<=900)
  (hQ:∀ (x:aJ) (v97 v98 v99 v100 v101 v102 v103 v104 v105 v106 v107 v108 v109 v110 v111:aL),dK x b2 #[Z ah me,y1,y2,y3,v110,y5] 28->jV x W.heap.size v110 (l.take at_++[z]++l.drop at_)->(∀ B,B<=b2->Below B W x)->(∀ c cs t,c≠b2->dK W c cs t->dK x c cs t)->(∀ k,k<W.heap.size->k≠b2->x.heap[k]?=W.heap[k]?)->Q .normal ⟨(u0::u1::aj (U ⟨b2,0,aA⟩)::aj (U ⟨b3,0,aA⟩)::u4::u5::u6::Z ah (at_:Int)::u8::u9::u10::u11::u12::u13::u14::u15::u16::u17::u18::u19::u20::u21::u22::u23::u24::u25::u26::u27::u28::u29::u30::u31::u32::u33::u34::u35::u36::u37::u38::u39::u40::u41::u42::u43::u44::u45::u46::u47::u48::u49::u50::u51::u52::u53::u54::u55::u56::u57::u58::u59::u60::u61::u62::u63::u64::u65::u66::u67::u68::u69::u70::u71::u72::u73::u74::u75::u76::u77::u78::u79::u80::u81::u82::u83::u84::u85::u86::u87::u88::u89::u90::u91::u92::u93::u94::u95::u96::v97::v98::v99::v100::v101::v102::v103::v104::v105::v106::v107::v108::v109::v110::v111::u112::u113::u114::[]).toArray,[]⟩ x) :
  Code.wp aB ZO Q ⟨(u0::u1::aj (U ⟨b2,0,aA⟩)::aj (U ⟨b3,0,aA⟩)::u4::u5::u6::Z ah (at_:Int)::u8::u9::u10::u11::u12::u13::u14::u15::u16::u17::u18::u19::u20::u21::u22::u23::u24::u25::u26::u27::u28::u29::u30::u31::u32::u33::u34::u35::u36::u37::u38::u39::u40::u41::u42::u43::u44::u45::u46::u47::u48::u49::u50::u51::u52::u53::u54::u55::u56::u57::u58::u59::u60::u61::u62::u63::u64::u65::u66::u67::u68::u69::u70::u71::u72::u73::u74::u75::u76::u77::u78::u79::u80::u81::u82::u83::u84::u85::u86::u87::u88::u89::u90::u91::u92::u93::u94::u95::u96::u97::u98::u99::u100::u101::u102::u103::u104::u105::u106::u107::u108::u109::u110::u111::u112::u113::u114::[]).toArray,[]⟩ W:=by
 have HQ:=J hQ;have H2:=J h2;have LX:=J hx;obtain⟨lo,Dc,wB⟩:=vS nO hs at_ (by omega);obtain⟨hiv,Df,xX⟩:=qp nO hs (at_) hat;have LT:=J (show (l.take at_).length<=1000 by rw [bD]; omega);have Sc:=J (show (l.take at_).length<=900 by rw [bD]; omega);have LD:=J (show (l.drop (at_)).length<=1000 by rw [List.length_drop]; omega);generalize l.take at_=lt at *;generalize l.drop (at_)=ld at *;have SL:=J Dc;have SH:=J Df;have RL:=J wB;have RH:=J xX;clear hQ h2 hx hs Dc Df wB xX hat hlen;have iQ:=Tc W.heap.size b2 b3 so sn sc at_ lo hiv z lt ld;unfold ZO
 conv=>arg 2; whnf
 have nd:∀ j,(j<97\/112<=j)->∀ i,i<15->(fun i=>97+i) i≠j:=by
  intro j hj i hi h;simp only at h;omega
 refine Rg.fQ 16 15 (fun i=>97+i) (fun i=>if i=0 then 5 else if i=5 then 8 else if i=7 then 8 else if i=8 then 13 else 15) (Nr W.heap.size b2 b3 so sn sc at_ lo hiv z lt ld) (by kernel_rfl) (by kernel_rfl) rfl (by decide) (fun i j _ _ h=>by have h2:97+i=97+j:=h; omega) (fun i hi=>by show 97+i<115; omega) ?_ (fun _=>Rg.jl 1 (by kernel_rfl)) (fun kk o h1 h2=>by omega) ?_
 ·intro i o hi ho a x D hnd hc hD hb seen K hK;clear HQ;rcases (by omega:i=0\/i=1\/i=2\/i=3\/i=4\/i=5\/i=6\/i=7\/i=8\/i=9\/i=10\/i=11\/i=12\/i=13\/i=14) with rfl|rfl|rfl|rfl|rfl|rfl|rfl|rfl|rfl|rfl|rfl|rfl|rfl|rfl|rfl
  ·cases ho;exact aO rfl rfl (Rg.iU a.eval _ 25 0 #[] rfl rfl (by simp [go_sem])) (hK (O (U ⟨x.heap.size,0,aA⟩) 0 0) (x.alloc (aP #[] 66)) ⟨x.heap.size,rfl,hb.size,dJ x #[] 66⟩ ((au _ _).alloc hb.size _) fun j u _ _ _ _ _ h=>iQ j u _ _ h ((au _ _).alloc (aF _) _))
  ·cases ho;have e2:a.eval (aD 2)=aj (U ⟨b2,0,aA⟩):=seen.kp 2 _ (nd 2 (by omega)) rfl;exact aO rfl rfl (bS a.eval _ 28 (aD 2) 4 rfl (by rw [e2]; simp [go_sem])) (hK _ _ rfl (au _ _) fun _ _ _ _ _ _ _ h=>h)
  ·cases ho;have e98:a.eval (aD 98)=aj (U ⟨b2,4,aA⟩):=seen.at_ ⟨1,.data⟩ (by simp) rfl (aK (by decide));have y:=(H2.out.on hb).cell 4;simp only [aC,aG,aH] at y;exact aO rfl rfl (bR a.eval _ 25 (aD 98) rfl (by rw [e98]; simp [go_sem,y])) (hK _ _ rfl (au _ _) fun _ _ _ _ _ _ _ h=>h)
  ·cases ho;have e7:a.eval (aD 7)=Z ah (at_:Int):=seen.kp 7 _ (nd 7 (by omega)) rfl;exact aO rfl rfl (Rg.gy a.eval _ (aD 7) rfl x) (hK _ _ e7 (au _ _) fun _ _ _ _ _ _ _ h=>h)
  ·cases ho;have e99:a.eval (aD 99)=O so sn sc:=seen.at_ ⟨2,.data⟩ (by simp) rfl (aK (by decide));have e100:a.eval (aD 100)=Z ah (at_:Int):=seen.at_ ⟨3,.data⟩ (by simp) rfl (aK (by decide));exact aO rfl rfl (Rg.kF a.eval _ 25 (aD 99) aA (U (aD 100)) aA rfl (by show (Instr.sliceAt 25 (a.eval (aD 99)) aA (U (a.eval (aD 100))) aA).run aB x=.ok lo x; rw [e99,e100]; exact SL.out x)) (hK _ _ rfl (au _ _) fun _ _ _ _ _ _ _ h=>h)
  ·cases ho;obtain⟨g,q0,hBg,hbx⟩:=seen.at_ ⟨0,.data⟩ (by simp) rfl (aT rfl);have q0:a.eval (aD 97)=O (U ⟨g,0,aA⟩) 0 0:=q0;have e101:a.eval (aD 101)=lo:=seen.at_ ⟨4,.data⟩ (by simp) rfl (aK (by decide));obtain⟨v',x',r,o',gr⟩:=iY nO W.heap.size hbx hBg (RL.out.on hb) LT.out 25;exact aO rfl rfl (bU a.eval _ (aD 97) (aD 101) 25 rfl q0 e101 r) (hK v' x' o' (gr.mono hb.size) fun j u _ _ _ _ _ h=>iQ j u _ _ h gr)
  ·cases ho;have e3:a.eval (aD 3)=aj (U ⟨b3,0,aA⟩):=seen.kp 3 _ (nd 3 (by omega)) rfl;exact aO rfl rfl (bR a.eval _ 66 (aD 3) rfl (by rw [e3]; exact ZH x _ z (LX.out x hb))) (hK _ _ rfl (au _ _) fun _ _ _ _ _ _ _ h=>h)
  ·cases ho;have e103:a.eval (aD 103)=pF z:=seen.at_ ⟨6,.data⟩ (by simp) rfl (aK (by decide));have hl:=iF nO x [z] 1 rfl (by simp) (iH z).toArray (by simp [flat,EN]);have hl:jV (x.alloc (aP (iH z).toArray 66)) x.heap.size (O (U ⟨x.heap.size,0,aA⟩) 1 1) [z]:=hl;exact aO rfl rfl (Rg.iU a.eval _ 25 1 #[(0,aD 103)] rfl (ps:=#[(0,pF z)]) (by simp [e103]) (by simp [go_sem])) (hK (O (U ⟨x.heap.size,0,aA⟩) 1 1) (x.alloc (aP (iH z).toArray 66)) (dO hl hb.size) ((au _ _).alloc hb.size _) fun j u _ _ _ _ _ h=>iQ j u _ _ h ((au _ _).alloc (aF _) _))
  ·cases ho;have o102:jV x W.heap.size (a.eval (aD 102)) (lt):=seen.at_ ⟨5,.data⟩ (by simp) rfl (aT rfl);have o104:jV x W.heap.size (a.eval (aD 104)) ([z]):=seen.at_ ⟨7,.data⟩ (by simp) rfl (aT rfl);have ox:=Row.dH o104;obtain⟨v',x',r,o',gr⟩:=gJ nO W.heap.size o102 ox (by have:=LT.out; omega) (by simp) hb.size 25;exact aO rfl rfl (bU a.eval _ (aD 102) (aD 104) 25 rfl rfl rfl r) (hK v' x' o' ((au _ x).grown gr hb.size fun j hj=>(o102.lt j hj).1) fun j u hj dj nl nx ni h=>by
    rcases (by omega:j=0\/j=1\/j=2\/j=3\/j=4\/j=5\/j=6\/j=7\/j=8\/j=9\/j=10\/j=11\/j=12\/j=13\/j=14) with rfl|rfl|rfl|rfl|rfl|rfl|rfl|rfl|rfl|rfl|rfl|rfl|rfl|rfl|rfl
    ·exact absurd rfl (fun _:(0:Nat)=0=>nl (hc 5 _ (hD ⟨5,.data⟩ (by simp) rfl) rfl ⟨0,.data⟩ (by simp) rfl |> fun _=>hD ⟨5,.data⟩ (by simp) rfl))
    ·exact h
    ·exact h
    ·exact h
    ·exact h
    ·exact absurd rfl (fun _:(0:Nat)=0=>nx rfl)
    ·exact h
    ·exact absurd rfl (fun _:(0:Nat)=0=>nx rfl)
    ·exact absurd rfl (fun _:(0:Nat)=0=>ni rfl)
    ·exact h
    ·exact h
    ·exact h
    ·exact h
    ·exact absurd rfl (fun _:(0:Nat)=0=>hnd (hc 13 _ dj rfl ⟨8,.data⟩ (by simp) rfl))
    ·exact h)
  ·cases ho;have e2:a.eval (aD 2)=aj (U ⟨b2,0,aA⟩):=seen.kp 2 _ (nd 2 (by omega)) rfl;exact aO rfl rfl (bS a.eval _ 28 (aD 2) 4 rfl (by rw [e2]; simp [go_sem])) (hK _ _ rfl (au _ _) fun _ _ _ _ _ _ _ h=>h)
  ·cases ho;have e106:a.eval (aD 106)=aj (U ⟨b2,4,aA⟩):=seen.at_ ⟨9,.data⟩ (by simp) rfl (aK (by decide));have y:=(H2.out.on hb).cell 4;simp only [aC,aG,aH] at y;exact aO rfl rfl (bR a.eval _ 25 (aD 106) rfl (by rw [e106]; simp [go_sem,y])) (hK _ _ rfl (au _ _) fun _ _ _ _ _ _ _ h=>h)
  ·cases ho;have e7:a.eval (aD 7)=Z ah (at_:Int):=seen.kp 7 _ (nd 7 (by omega)) rfl;exact aO rfl rfl (Rg.gy a.eval _ (aD 7) rfl x) (hK _ _ e7 (au _ _) fun _ _ _ _ _ _ _ h=>h)
  ·cases ho;have e107:a.eval (aD 107)=O so sn sc:=seen.at_ ⟨10,.data⟩ (by simp) rfl (aK (by decide));have e108:a.eval (aD 108)=Z ah (at_:Int):=seen.at_ ⟨11,.data⟩ (by simp) rfl (aK (by decide));exact aO rfl rfl (Rg.kF a.eval _ 25 (aD 107) (U (aD 108)) aA aA rfl (by show (Instr.sliceAt 25 (a.eval (aD 107)) (U (a.eval (aD 108))) aA aA).run aB x=.ok hiv x; rw [e107,e108]; exact SH.out x)) (hK _ _ rfl (au _ _) fun _ _ _ _ _ _ _ h=>h)
  ·cases ho;have o105:jV x W.heap.size (a.eval (aD 105)) ((lt++[z])):=seen.at_ ⟨8,.data⟩ (by simp) rfl (aT rfl);have e109:a.eval (aD 109)=hiv:=seen.at_ ⟨12,.data⟩ (by simp) rfl (aK (by decide));have ox:lI x (a.eval (aD 109)) ld:=by rw [e109]; exact RH.out.on hb
   obtain⟨v',x',r,o',gr⟩:=gJ nO W.heap.size o105 ox (by have:=Sc.out; rw [List.length_append,List.length_singleton]; omega) LD.out hb.size 25;exact aO rfl rfl (bU a.eval _ (aD 105) (aD 109) 25 rfl rfl rfl r) (hK v' x' o' ((au _ x).grown gr hb.size fun j hj=>(o105.lt j hj).1) fun j u hj dj nl nx ni h=>by
    rcases (by omega:j=0\/j=1\/j=2\/j=3\/j=4\/j=5\/j=6\/j=7\/j=8\/j=9\/j=10\/j=11\/j=12\/j=13\/j=14) with rfl|rfl|rfl|rfl|rfl|rfl|rfl|rfl|rfl|rfl|rfl|rfl|rfl|rfl|rfl
    ·exact absurd rfl (fun _:(0:Nat)=0=>nl (hc 8 _ (hD ⟨8,.data⟩ (by simp) rfl) rfl ⟨5,.data⟩ (by simp) rfl))
    ·exact h
    ·exact h
    ·exact h
    ·exact h
    ·exact absurd rfl (fun _:(0:Nat)=0=>nl (hD ⟨8,.data⟩ (by simp) rfl))
    ·exact h
    ·exact absurd rfl (fun _:(0:Nat)=0=>nl (hD ⟨8,.data⟩ (by simp) rfl))
    ·exact absurd rfl (fun _:(0:Nat)=0=>nx rfl)
    ·exact h
    ·exact h
    ·exact h
    ·exact h
    ·exact absurd rfl (fun _:(0:Nat)=0=>ni rfl)
    ·exact h)
  ·cases ho;have e2:a.eval (aD 2)=aj (U ⟨b2,0,aA⟩):=seen.kp 2 _ (nd 2 (by omega)) rfl;exact aO rfl rfl (bS a.eval _ 28 (aD 2) 4 rfl (by rw [e2]; simp [go_sem])) (hK _ _ rfl (au _ _) fun _ _ _ _ _ _ _ h=>h)
 ·intro a w' df sz kp ⟨vs,hv⟩ hb;have gr:a.tmps[110]?=U (vs 13):=(hv 13 (by omega)).1;have gp:a.tmps[111]?=U (aj (U ⟨b2,4,aA⟩)):=by
   have h:vs 14=aj (U ⟨b2,4,aA⟩):=(hv 14 (by omega)).2 (by decide);rw [<- h];exact (hv 14 (by omega)).1
  have oR:jV w' W.heap.size (vs 13) (lt++[z]++ld):=(hv 13 (by omega)).2 (by decide);generalize vs 13=xR at *;obtain⟨ca,cp,eR⟩:=(Row.dH oR).len;have hbx:=H2.out.on hb;have hblt:=H2.out.lt;have c5:=hbx.cell 4;have f5:=hbx.fr 4;simp only [aC,aG,aH] at c5;have hb1:=dW (k:=4) hbx xR;show Rg.fH _ _ _ 1 15 a w';simp only [Rg.fH];refine Rg.fP 25 (aD 111) (aD 110) rfl rfl rfl rfl (bL gp) (bL gr) (w':=w'.setCell ⟨b2,4,aA⟩ xR) (by rw [eR]; simp [go_sem,c5,f5]) ?_;have rV:∀ j,(j<97\/112<=j)->a.tmps[j]?=(u0::u1::aj (U ⟨b2,0,aA⟩)::aj (U ⟨b3,0,aA⟩)::u4::u5::u6::Z ah (at_:Int)::u8::u9::u10::u11::u12::u13::u14::u15::u16::u17::u18::u19::u20::u21::u22::u23::u24::u25::u26::u27::u28::u29::u30::u31::u32::u33::u34::u35::u36::u37::u38::u39::u40::u41::u42::u43::u44::u45::u46::u47::u48::u49::u50::u51::u52::u53::u54::u55::u56::u57::u58::u59::u60::u61::u62::u63::u64::u65::u66::u67::u68::u69::u70::u71::u72::u73::u74::u75::u76::u77::u78::u79::u80::u81::u82::u83::u84::u85::u86::u87::u88::u89::u90::u91::u92::u93::u94::u95::u96::u97::u98::u99::u100::u101::u102::u103::u104::u105::u106::u107::u108::u109::u110::u111::u112::u113::u114::[])[j]?:=fun j hj=>(kp j (nd j hj)).trans aC;obtain⟨mid,hmid,rfl⟩:=Rg.gI 97 15 df sz (by simp) rV
  match mid,hmid with
  | [v97,v98,v99,v100,v101,v102,v103,v104,v105,v106,v107,v108,v109,v110,v111],_ =>
   have e1:U v110=U xR:=gr;obtain rfl:=aI e1;refine HQ.out _ v97 v98 v99 v100 v101 v102 v103 v104 v105 v106 v107 v108 v109 v110 v111 ?_ ?_ ?_ ?_ ?_
   ·simpa using hb1
   ·exact eF oR b2 4 _ hblt
   ·exact fun B hB=>(hb.mono (Nat.le_of_lt (Nat.lt_of_le_of_lt hB hblt))).setCell hB _
   ·intro c cs t hc hbc;exact (aR _ _ _ _ hc).trans (hbc.on hb)
   ·intro k hk hne;exact (aR _ _ _ _ hne).trans (hb.block k hk)
noncomputable def ZR:Code:=((Tryz.f47.body.bind (eO 9)).getD .skip)
structure P9 (base:Act) (v0 v2:aL) (p:aL) (W W':aJ) (L:Array Bool) (a:Act) (x:aJ):Prop where
 df:a.defers=base.defers
 sz:a.tmps.size=base.tmps.size
 kp:∀ j,j≠112->j≠113->j≠114->j≠5->a.tmps[j]?=base.tmps[j]?
 t0:aS L 0->a.tmps[112]?=U v0
 t1:aS L 1->a.tmps[113]?=U p
 t2:aS L 2->a.tmps[114]?=U v2
 t4:aS L 4->a.tmps[5]?=U v2
 w0:¬ aS L 3->x=W.drew
 w1:aS L 3->x=W'
 c3:aS L 3->aS L 0
theorem yC (Q:Exit->Act->aJ->Prop) (W:aJ) (b2 b3 b4:Nat) (me:Int) (o1 o2 o3 o4 o5:Option aZ) (n1 c1 n2 c2 n3 c3 n4 c4 n5 c5:Nat) (e0 e1 e2 e3 e4 e5 z0 z1 z2 z3 z4 z5:aL) (up:Bool) (u0 u1 u5 u6 u7 u8 u9 u10 u11 u12 u13 u14 u15 u16 u17 u18 u19 u20 u21 u22 u23 u24 u25 u26 u27 u28 u29 u30 u31 u32 u33 u34 u35 u36 u37 u38 u39 u40 u41 u42 u43 u44 u45 u46 u47 u48 u49 u50 u51 u52 u53 u54 u55 u56 u57 u58 u59 u60 u61 u62 u63 u64 u65 u66 u67 u68 u69 u70 u71 u72 u73 u74 u75 u76 u77 u78 u79 u80 u81 u82 u83 u84 u85 u86 u87 u88 u89 u90 u91 u92 u93 u94 u95 u96 u97 u98 u99 u100 u101 u102 u103 u104 u105 u106 u107 u108 u109 u110 u111 u112 u113 u114:aL)
  (h2:dK W b2 #[Z ah me,O o1 n1 c1,O o2 n2 c2,O o3 n3 c3,O o4 n4 c4,O o5 n5 c5] 28) (h3:dK W b3 #[e0,e1,e2,e3,e4,e5,bf up] 66) (h4:dK W b4 #[z0,z1,z2,z3,z4,z5] 28) (hne:b3≠b4)
  (hQ:∀ (a:Act) (x:aJ),a.defers=[]->a.tmps[4]?=U (aj (U ⟨b4,0,aA⟩))->a.tmps[5]?=U (bf up)->x=gH W.drew b4 (Z ah me) (O o1 n1 c1) (O o2 n2 c2) (O o3 n3 c3) (O o4 n4 c4) (O o5 n5 c5)->Q .normal a x) :
  Code.wp aB ZR Q ⟨(u0::u1::aj (U ⟨b2,0,aA⟩)::aj (U ⟨b3,0,aA⟩)::aj (U ⟨b4,0,aA⟩)::u5::u6::u7::u8::u9::u10::u11::u12::u13::u14::u15::u16::u17::u18::u19::u20::u21::u22::u23::u24::u25::u26::u27::u28::u29::u30::u31::u32::u33::u34::u35::u36::u37::u38::u39::u40::u41::u42::u43::u44::u45::u46::u47::u48::u49::u50::u51::u52::u53::u54::u55::u56::u57::u58::u59::u60::u61::u62::u63::u64::u65::u66::u67::u68::u69::u70::u71::u72::u73::u74::u75::u76::u77::u78::u79::u80::u81::u82::u83::u84::u85::u86::u87::u88::u89::u90::u91::u92::u93::u94::u95::u96::u97::u98::u99::u100::u101::u102::u103::u104::u105::u106::u107::u108::u109::u110::u111::u112::u113::u114::[]).toArray,[]⟩ W:=by
 have HQ:=J hQ;have H2:=J h2.drew;have H3:=J h3.drew;have H4:=J h4.drew;have X3:=J (show dK (gH W.drew b4 (Z ah me) (O o1 n1 c1) (O o2 n2 c2) (O o3 n3 c3) (O o4 n4 c4) (O o5 n5 c5)) b3 #[e0,e1,e2,e3,e4,e5,bf up] 66 from (dL W.drew b4 (Z ah me) (O o1 n1 c1) (O o2 n2 c2) (O o3 n3 c3) (O o4 n4 c4) (O o5 n5 c5) b3 hne).trans h3.drew);clear hQ h2 h3 h4 hne;unfold ZR
 conv=>arg 2; whnf
 obtain⟨base,hbase⟩:∃ b:Act,b=⟨(u0::u1::aj (U ⟨b2,0,aA⟩)::aj (U ⟨b3,0,aA⟩)::aj (U ⟨b4,0,aA⟩)::u5::u6::u7::u8::u9::u10::u11::u12::u13::u14::u15::u16::u17::u18::u19::u20::u21::u22::u23::u24::u25::u26::u27::u28::u29::u30::u31::u32::u33::u34::u35::u36::u37::u38::u39::u40::u41::u42::u43::u44::u45::u46::u47::u48::u49::u50::u51::u52::u53::u54::u55::u56::u57::u58::u59::u60::u61::u62::u63::u64::u65::u66::u67::u68::u69::u70::u71::u72::u73::u74::u75::u76::u77::u78::u79::u80::u81::u82::u83::u84::u85::u86::u87::u88::u89::u90::u91::u92::u93::u94::u95::u96::u97::u98::u99::u100::u101::u102::u103::u104::u105::u106::u107::u108::u109::u110::u111::u112::u113::u114::[]).toArray,[]⟩:=⟨_,rfl⟩;have b2t:base.tmps[2]?=U (aj (U ⟨b2,0,aA⟩)):=by rw [hbase]; rfl
 have b3t:base.tmps[3]?=U (aj (U ⟨b3,0,aA⟩)):=by rw [hbase]; rfl
 have b4t:base.tmps[4]?=U (aj (U ⟨b4,0,aA⟩)):=by rw [hbase]; rfl
 have bsz:base.tmps.size=115:=by rw [hbase]; rfl
 have bdf:base.defers=[]:=by rw [hbase]
 rw [<- hbase];clear hbase;generalize hW':gH W.drew b4 (Z ah me) (O o1 n1 c1) (O o2 n2 c2) (O o3 n3 c3) (O o4 n4 c4) (O o5 n5 c5)=W' at *;refine Rg.rU (fun L a x=>P9 base (.agg #[Z ah me,O o1 n1 c1,O o2 n2 c2,O o3 n3 c3,O o4 n4 c4,O o5 n5 c5]) (bf up) (aj (U ⟨b3,6,aA⟩)) W W' L a x) (by kernel_rfl) (by kernel_rfl) ?_ ?_ ?_
 ·exact⟨rfl,rfl,fun _ _ _ _ _=>rfl,fun h=>absurd h (bM _ _),fun h=>absurd h (bM _ _),fun h=>absurd h (bM _ _),fun h=>absurd h (bM _ _),fun _=>rfl,fun h=>absurd h (bM _ _),fun h=>absurd h (bM _ _)⟩
 ·intro L a x i o hsz I ho hnd oK;have hi:i<5:=(ak.1 ho).1;have hL:L.size=5:=hsz;have C9:i<L.size:=by omega
  have k2:a.eval (aD 2)=aj (U ⟨b2,0,aA⟩):=bL ((I.kp 2 (by decide) (by decide) (by decide) (by decide)).trans b2t);have k3:a.eval (aD 3)=aj (U ⟨b3,0,aA⟩):=bL ((I.kp 3 (by decide) (by decide) (by decide) (by decide)).trans b3t);have k4:a.eval (aD 4)=aj (U ⟨b4,0,aA⟩):=bL ((I.kp 4 (by decide) (by decide) (by decide) (by decide)).trans b4t);have asz:a.tmps.size=115:=I.sz.trans bsz;have self:∀ (d:Nat) (v:aL),d<115->(a.put (U d) v).tmps[d]?=U v:=fun d v hd=>by
   have:d<a.tmps.size:=by omega
   simp [Act.put,this]
  have ds:=fun j=>Rg.iw C9 j;rcases (by omega:i=0\/i=1\/i=2\/i=3\/i=4) with rfl|rfl|rfl|rfl|rfl
  ·cases ho;have hx:x=W.drew:=I.w0 fun h=>hnd (I.c3 h);exact aO rfl rfl (bR a.eval _ 28 (aD 2) rfl (by rw [k2,hx]; exact yx H2.out)) ⟨I.df,(aY a _ _).trans I.sz,fun j j1 j2 j3 j4=>(ay _ _ _ j (by omega)).trans (I.kp j j1 j2 j3 j4),fun _=>self 112 _ (by decide),fun h=>(ay _ _ _ 113 (by decide)).trans (I.t1 (((ds 1).1 h).resolve_left (by decide))),fun h=>(ay _ _ _ 114 (by decide)).trans (I.t2 (((ds 2).1 h).resolve_left (by decide))),fun h=>(ay _ _ _ 5 (by decide)).trans (I.t4 (((ds 4).1 h).resolve_left (by decide))),fun h=>I.w0 fun h3=>h ((ds 3).2 (aK h3)),fun h=>I.w1 (((ds 3).1 h).resolve_left (by decide)),fun h=>(ds 0).2 (aT rfl)⟩
  ·cases ho;exact aO rfl rfl (bS a.eval _ 66 (aD 3) 4 rfl (by rw [k3]; simp [go_sem])) ⟨I.df,(aY a _ _).trans I.sz,fun j j1 j2 j3 j4=>(ay _ _ _ j (by omega)).trans (I.kp j j1 j2 j3 j4),fun h=>(ay _ _ _ 112 (by decide)).trans (I.t0 (((ds 0).1 h).resolve_left (by decide))),fun _=>self 113 _ (by decide),fun h=>(ay _ _ _ 114 (by decide)).trans (I.t2 (((ds 2).1 h).resolve_left (by decide))),fun h=>(ay _ _ _ 5 (by decide)).trans (I.t4 (((ds 4).1 h).resolve_left (by decide))),fun h=>I.w0 fun h3=>h ((ds 3).2 (aK h3)),fun h=>I.w1 (((ds 3).1 h).resolve_left (by decide)),fun h=>(ds 0).2 (aK (I.c3 (((ds 3).1 h).resolve_left (by decide))))⟩
  ·cases ho;have k113:a.eval (aD 113)=aj (U ⟨b3,6,aA⟩):=bL (I.t1 (oK ⟨1,.data⟩ (by simp) rfl));have hc:x.cell? ⟨b3,6,aA⟩=U (bf up):=by
    by_cases h3:aS L 3
    ·rw [I.w1 h3]; exact X3.out.cell 6
    ·rw [I.w0 h3]; exact H3.out.cell 6
   exact aO rfl rfl (bR a.eval _ 4 (aD 113) rfl (by rw [k113]; simp [go_sem,hc])) ⟨I.df,(aY a _ _).trans I.sz,fun j j1 j2 j3 j4=>(ay _ _ _ j (by omega)).trans (I.kp j j1 j2 j3 j4),fun h=>(ay _ _ _ 112 (by decide)).trans (I.t0 (((ds 0).1 h).resolve_left (by decide))),fun h=>(ay _ _ _ 113 (by decide)).trans (I.t1 (((ds 1).1 h).resolve_left (by decide))),fun _=>self 114 _ (by decide),fun h=>(ay _ _ _ 5 (by decide)).trans (I.t4 (((ds 4).1 h).resolve_left (by decide))),fun h=>I.w0 fun h3=>h ((ds 3).2 (aK h3)),fun h=>I.w1 (((ds 3).1 h).resolve_left (by decide)),fun h=>(ds 0).2 (aK (I.c3 (((ds 3).1 h).resolve_left (by decide))))⟩
  ·cases ho;have hx:x=W.drew:=I.w0 hnd;refine Rg.fP 28 (aD 4) (aD 112) rfl rfl rfl rfl k4 (bL (I.t0 (oK ⟨0,.data⟩ (by simp) rfl))) (w':=W') (by rw [hx,<- hW']; exact p8 H4.out me _ _ _ _ _ _ _ _ _ _ _ _ _ _ _) ?_;exact⟨I.df,I.sz,I.kp,fun h=>I.t0 (((ds 0).1 h).resolve_left (by decide)),fun h=>I.t1 (((ds 1).1 h).resolve_left (by decide)),fun h=>I.t2 (((ds 2).1 h).resolve_left (by decide)),fun h=>I.t4 (((ds 4).1 h).resolve_left (by decide)),fun h=>absurd ((ds 3).2 (aT rfl)) h,fun _=>rfl,fun _=>(ds 0).2 (aK (oK ⟨0,.data⟩ (by simp) rfl))⟩
  ·cases ho;have k114:a.eval (aD 114)=bf up:=bL (I.t2 (oK ⟨2,.data⟩ (by simp) rfl));exact aO rfl rfl (Rg.kM a.eval _ (aD 114) rfl x) (by rw [k114]; exact⟨I.df,(aY a _ _).trans I.sz,fun j j1 j2 j3 j4=>(ay _ _ _ j (by omega)).trans (I.kp j j1 j2 j3 j4),fun h=>(ay _ _ _ 112 (by decide)).trans (I.t0 (((ds 0).1 h).resolve_left (by decide))),fun h=>(ay _ _ _ 113 (by decide)).trans (I.t1 (((ds 1).1 h).resolve_left (by decide))),fun h=>(ay _ _ _ 114 (by decide)).trans (I.t2 (((ds 2).1 h).resolve_left (by decide))),fun _=>self 5 _ (by decide),fun h=>I.w0 fun h3=>h ((ds 3).2 (aK h3)),fun h=>I.w1 (((ds 3).1 h).resolve_left (by decide)),fun h=>(ds 0).2 (aK (I.c3 (((ds 3).1 h).resolve_left (by decide))))⟩)
 ·intro L a x I hd;exact HQ.out a x (I.df.trans bdf) ((I.kp 4 (by decide) (by decide) (by decide) (by decide)).trans b4t) (I.t4 (hd 4 (by decide))) ((I.w1 (hd 3 (by decide))))
end Bk
namespace At
open Go.RowKit Va
abbrev V3:=Bool×Int×ByteArray
/-! ### the publications that numbers make -/
end At
namespace At
open Go.RowKit Go.Sort Va In
end At
end Go.Proofs.YtmklifheakemeaaGreat
