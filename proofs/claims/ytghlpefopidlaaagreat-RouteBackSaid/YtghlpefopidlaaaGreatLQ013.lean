/-
  The order of IDs: Le. Conditions as told.
-/
import Derived.Test.YtghlpefopidlaaaGreatLQ009
import Derived.Test.YtghlpefopidlaaaGreatLQ012
set_option maxRecDepth 100000
set_option maxHeartbeats 64000000
open _root_.Go renaming World->aD,Value->aH,Calls->aK
open Go.Addr renaming add->V
open Go.IntKind renaming i64->J
open Go.Lib renaming hid->L
open Go.Obj renaming cells->ah
open Go.Proofs.Tryz renaming prog->U
open Go.Value renaming int->D,slice->K,pointer->aI,agg->aJ,bool->aL
open _root_.List renaming getElem?_eq_some_iff->O,getElem?_eq_getElem->aj,getElem?_cons_zero->ak,getElem?_cons_succ->au,length_map->ay,getElem?_toArray->aA,mem_iff_getElem?->aB,mem_of_getElem?->aC,getElem?_map->aF,mem_map->aG
open _root_.Option renaming none->Q,some->Z
namespace Go.Proofs.YtghlpefopidlaaaGreat
namespace Av
open Go.RowKit Go.Sort Rw YtghlpefopidlaaaGreat.Nm Pr Bk
theorem vY (x y:eU) (w:aD):aK U 31 #[nC x,nC y] w fun e w'=>e=.returned (aL (eH x y))/\Below w.heap.size w w':=by
 have C:=Cb x y;have R:=L (show decide (nE x y<0)=eH x y from by
  have h:=uY x y;cases hl:eH x y
  ·rw [hl] at h; simp at h; simpa using h
  ·rw [hl] at h; simp at h; simpa using h)
 obtain⟨a,b⟩:=x;obtain⟨c,d⟩:=y;obtain⟨h0,X,Y⟩:=iI w #[D J a,D J b] #[D J c,D J d] 23 23;obtain⟨x0,x1⟩:=X.cs2;obtain⟨y0,y1⟩:=Y.cs2;have B:=L h0;generalize nE (a,b) (c,d)=r at *;generalize eH (a,b) (c,d)=s at *;clear X Y h0;go_enter Tryz.func31,Tryz.ntmps31;go_wp2_with fail;have C:=C ((w.alloc (ah #[D J a,D J b] 23)).alloc (ah #[D J c,D J d] 23));refine C.mono ?_;rintro e w1 ⟨rfl,hb⟩;go_wp2;go_ret;exact⟨by have h:=R.out; subst h; rfl,B.out.trans (hb.mono B.out.size)⟩
theorem TN (x y:kY) (w:aD):aK U 36 #[nD x,nD y] w fun e w'=>e=.returned (D J (nE (x.1,x.2.1) (y.1,y.2.1)))/\Below w.heap.size w w':=by
 obtain⟨a,b,⟨s1,s2,s3⟩,p⟩:=x;obtain⟨c,d,⟨t1,t2,t3⟩,q⟩:=y;have C:=Cb (a,b) (c,d);obtain⟨h0,X,Y⟩:=iI w #[D J a,D J b,K s1 s2 s3,D J p] #[D J c,D J d,K t1 t2 t3,D J q] 36 36;have x1:=X.cell 1;have x0:=X.cell 0;have y1:=Y.cell 1;have y0:=Y.cell 0;simp only [aA,ak,au] at x0 x1 y0 y1;have B:=L h0;generalize nE (a,b) (c,d)=r at *;clear X Y h0;go_enter Tryz.func36,Tryz.ntmps36;go_wp2_with fail;have C:=C ((w.alloc (ah #[D J a,D J b,K s1 s2 s3,D J p] 36)).alloc (ah #[D J c,D J d,K t1 t2 t3,D J q] 36));refine C.mono ?_;rintro e w1 ⟨rfl,hb⟩;go_wp2;go_ret;exact⟨rfl,B.out.trans (hb.mono B.out.size)⟩
def kS {α:Type} (key:α->eU) (l:List α):Prop:=l.Pairwise fun a b=>eH (key a) (key b)=true
def fJ {α:Type} (key:α->eU) (l:List α) (x:eU):Nat:=(l.takeWhile fun a=>eH (key a) x).length
def iG {α:Type} (key:α->eU) (l:List α) (x:eU):Bool:=match l[fJ key l x]? with
 | some y=>decide (key y=x)
 | none=>false
theorem iK {α:Type} (key:α->eU) (l:List α) (x:eU):fJ key l x=fC (l.map key) x:=by
 unfold fJ fC;rw [List.takeWhile_map,ay]
 rfl
theorem Gm {α:Type} (key:α->eU) (l:List α) (x:eU) (k:Nat) (hall:∀ (j:Nat) (y:α),j<k->l[j]?=Z y->eH (key y) x=true) (hend:k=l.length\/∃ y,l[k]?=Z y/\eH (key y) x=false):fJ key l x=k:=by
 rw [iK];refine qG _ _ k (fun j y hj h=>?_) ?_
 ·rw [aF] at h;cases hy:l[j]? with
  | none=>rw [hy] at h; cases h
  | some z=>rw [hy] at h; rw [<- Option.some.inj h]; exact hall j z hj hy
 ·rcases hend with h|⟨y,h1,h2⟩
  ·exact Or.inl (by rw [ay]; exact h)
  ·exact Or.inr ⟨key y,by rw [aF,h1]; rfl,h2⟩
theorem kU {α:Type} {key:α->eU} {l:List α} (h:kS key l) {i j:Nat} {x y:α} (hij:i<j) (hx:l[i]?=Z x) (hy:l[j]?=Z y):eH (key x) (key y)=true:=by
 obtain⟨h1,rfl⟩:=O.1 hx;obtain⟨h2,rfl⟩:=O.1 hy;exact List.pairwise_iff_getElem.1 h i j h1 h2 hij
theorem Gn (x y:eU):decide (nE x y<0)=eH x y:=by
 have h:=uY x y;cases hl:eH x y
 ·rw [hl] at h; simp at h; simpa using h
 ·rw [hl] at h; simp at h; simpa using h
theorem ze {α:Type} {key:α->eU} {l:List α} (h:kS key l) (x:eU):iG key l x=decide (x∈l.map key):=by
 unfold iG;have hp:fJ key l x<=l.length:=by rw [iK]; exact Nat.le_trans (nG _ _) (by simp)
 have hlo:∀ (j:Nat) (y:α),j<fJ key l x->l[j]?=Z y->eH (key y) x=true:=by
  intro j y hj hy;have ht:(l.takeWhile fun a=>eH (key a) x)[j]?=Z y:=by
   have:=List.takeWhile_prefix (fun a=>eH (key a) x) (l:=l);obtain⟨t,ht⟩:=this;rw [<- ht,List.getElem?_append_left hj] at hy;exact hy
  exact List.all_eq_true.1 List.all_takeWhile y (aC ht)
 have hhi:∀ (y:α),l[fJ key l x]?=Z y->eH (key y) x=false:=by
  intro y hy;unfold fJ at hy;cases hq:eH (key y) x with
  | false=>rfl
  | true =>
   exfalso;have:∀ (m:List α),m[(m.takeWhile fun a=>eH (key a) x).length]?=Z y->False:=by
    intro m
    induction m with
    | nil=>intro h; simp at h
    | cons a m ih =>
     intro h;by_cases ha:eH (key a) x=true
     ·exact ih (by simpa [List.takeWhile_cons,ha] using h)
     ·simp [ha] at h;subst h;exact ha hq
   exact this l hy
 cases hy:l[fJ key l x]? with
 | none =>
  symm
  rw [decide_eq_false_iff_not];intro hm;obtain⟨z,hz,hzx⟩:=aG.1 hm;obtain⟨j,hj⟩:=aB.1 hz;have hjl:=(O.1 hj).1;have hpl:l.length<=fJ key l x:=by
   rcases Nat.lt_or_ge (fJ key l x) l.length with h0|h0
   ·rw [aj h0] at hy; cases hy
   ·exact h0
  have:=hlo j z (by omega) hj;rw [hzx,jD] at this;cases this
 | some y =>
  simp only;by_cases hk:key y=x
  ·rw [decide_eq_true hk]
   symm
   rw [decide_eq_true_eq];exact aG.2 ⟨y,aC hy,hk⟩
  ·rw [decide_eq_false hk]
   symm
   rw [decide_eq_false_iff_not];intro hm;obtain⟨z,hz,hzx⟩:=aG.1 hm;obtain⟨j,hj⟩:=aB.1 hz;rcases Nat.lt_trichotomy j (fJ key l x) with h1|h1|h1
   ·have:=hlo j z h1 hj;rw [hzx,jD] at this;cases this
   ·subst h1;rw [hy] at hj;rw [Option.some.inj hj] at hk;exact hk hzx
   ·have h3:=kU h h1 hy hj;have h4:=hhi y hy;rw [hzx] at h3;rw [h3] at h4;cases h4
end Av
namespace Bk
open Go.RowKit Go.Sort Rw YtghlpefopidlaaaGreat.Nm Pr
abbrev mX:=Int×Int×Int×Int×Int×Int×Sl×Sl
abbrev jK (x:mX):List aH:=[D J x.1,D J x.2.1,D J x.2.2.1,D J x.2.2.2.1,D J x.2.2.2.2.1,D J x.2.2.2.2.2.1,dX x.2.2.2.2.2.2.1,dX x.2.2.2.2.2.2.2]
abbrev uZ (x:mX):aH:=aJ #[D J x.1,D J x.2.1,D J x.2.2.1,D J x.2.2.2.1,D J x.2.2.2.2.1,D J x.2.2.2.2.2.1,dX x.2.2.2.2.2.2.1,dX x.2.2.2.2.2.2.2]
def EU:Ek mX:=⟨46,37,8,96,aJ #[D J 0,D J 0,D J 0,D J 0,D J 0,D J 0,K Q 0 0,K Q 0 0],uZ,jK⟩
theorem ajI:(Tryz.prog.info? 46).map (fun i=>(i.zero,i.size,i.bytes))=Z (Z (aJ #[D J 0,D J 0,D J 0,D J 0,D J 0,D J 0,K Q 0 0,K Q 0 0]),8,96):=by kernel_rfl
theorem ajJ (w:aD) (p:Addr) (x:mX) (h:∀ j u,(jK x)[j]?=Z u->w.cell? (p.add j)=Z u):(Instr.loadAt 46 (aI (Z p))).run U w=.ok (uZ x) w:=by
 have h0:=h 0 _ rfl;have h1:=h 1 _ rfl;have h2:=h 2 _ rfl;have h3:=h 3 _ rfl;have h4:=h 4 _ rfl;have h5:=h 5 _ rfl;have h6:=h 6 _ rfl;have h7:=h 7 _ rfl;simp [V] at h0 h1 h2 h3 h4 h5 h6 h7;simp [go_sem,h0,h1,h2,h3,h4,h5,h6,h7]
theorem Ew:EU.Ok where
 hu:=Tryz.underlying37
 info:=by
  have h:=ajI;cases hi:Tryz.prog.info? 46 with
  | none=>rw [hi] at h; cases h
  | some i =>
   rw [hi] at h;simp only [Option.map_some,Option.some.injEq,Prod.mk.injEq] at h;exact⟨i,hi,h.1,h.2.1,h.2.2⟩
 zs:=rfl
 len:=fun _=>rfl
 one:=fun x u hu=>by
  simp only [EU,jK,List.mem_cons,List.not_mem_nil,or_false] at hu;rcases hu with rfl|rfl|rfl|rfl|rfl|rfl|rfl|rfl <;> rfl
 pos:=by decide
 few:=by decide
 load:=fun w p x h=>ajJ w p x h
abbrev TP (W:aD) (v:aH) (l:List mX):Prop:=Row EU W v l
abbrev jX (W:aD) (B:Nat) (v:aH) (l:List mX):Prop:=Own EU W B v l
theorem elU {W:aD} {v:aH} {l:List mX} {ao:Option Addr} {n c k:Nat} {x:mX} (h:TP W v l) (hv:v=K ao n c) (hn:l.length=n) (hk:l[k]?=Z x) :
  ∃ p:Addr,(∀ w,(Instr.indexAt 37 (K ao n c) (D J k)).run U w=.ok (aI (Z p)) w)/\∀ w,Below W.heap.size W w->w.cell? p=Z (D J x.1)/\w.cell? ⟨p.block,p.off+1,Q⟩=Z (D J x.2.1)/\w.cell? ⟨p.block,p.off+2,Q⟩=Z (D J x.2.2.1)/\w.cell? ⟨p.block,p.off+3,Q⟩=Z (D J x.2.2.2.1)/\w.cell? ⟨p.block,p.off+4,Q⟩=Z (D J x.2.2.2.2.1)/\w.cell? ⟨p.block,p.off+5,Q⟩=Z (D J x.2.2.2.2.2.1)/\w.cell? ⟨p.block,p.off+6,Q⟩=Z (dX x.2.2.2.2.2.2.1)/\w.cell? ⟨p.block,p.off+7,Q⟩=Z (dX x.2.2.2.2.2.2.2):=by
 obtain⟨p,h1,_,h2⟩:=qA Ew h hv hn hk;exact⟨p,h1,fun w hw=>⟨by simpa [V] using h2 w hw 0 _ rfl,by simpa [V] using h2 w hw 1 _ rfl,by simpa [V] using h2 w hw 2 _ rfl,by simpa [V] using h2 w hw 3 _ rfl,by simpa [V] using h2 w hw 4 _ rfl,by simpa [V] using h2 w hw 5 _ rfl,by simpa [V] using h2 w hw 6 _ rfl,by simpa [V] using h2 w hw 7 _ rfl⟩⟩
def nH (near:List Int) (but:Int) (f:Int->mX):List mX:=(near.filter fun n=>n != but).map f
theorem Ch (me but k tc ts ic is:Int) (nv:Sl) (av sv ev ov:aH) (pv lv:Sl) (l:List Int) (w:aD) (hs:uR w (dX nv) l) (hlen:l.length<=900) :
  aK U 119 #[aJ #[D J me,dX nv,av,sv,ev,ov],D J but,aJ #[D J k,D J tc,D J ts,D J ic,D J is,dX pv,dX lv]] w fun e w'=>(∃ v:Sl,e=.returned (dX v)/\jX w' w.heap.size (dX v) (nH l but fun n=>(n,k,tc,ts,ic,is,pv,lv)))/\Below w.heap.size w w':=by
 obtain⟨no,nn,nc⟩:=nv;obtain⟨po,pn,pc⟩:=pv;obtain⟨NZ,ln,lc⟩:=lv;obtain⟨q1,q2,hq⟩:=hs.len;obtain⟨rfl,hnn,rfl⟩:no=q1/\nn=l.length/\nc=q2:=by
  have h:K no nn nc=K q1 l.length q2:=hq;simpa using h
 clear hq;obtain⟨h0,h1,h2⟩:=iI w #[D J me,K no nn nc,av,sv,ev,ov] #[D J k,D J tc,D J ts,D J ic,D J is,K po pn pc,K NZ ln lc] 30 43;have B0:=L h0;have X5:=L h2;have HS:=L (hs.on h0);have HN:=L hnn;have c1:=h1.cell 1;simp only [aA,ak,au] at c1;have nb:nn<=900:=by omega
 have W2:=L h2.lt;clear h0 h1 h2 hs hlen hnn;go_enter Tryz.func119,Tryz.ntmps119;go_upto_region 1 with fail;generalize (w.alloc (ah #[D J me,K no nn nc,av,sv,ev,ov] 30)).alloc (ah #[D J k,D J tc,D J ts,D J ic,D J is,K po pn pc,K NZ ln lc] 43)=W at *;go_wp2
 go_loopw [7,13] (fun v i wr=>∃ q:Nat,q<=nn/\i=D J q/\Below W.heap.size W wr/\jX wr W.heap.size v (nH (l.take q) but fun n=>(n,k,tc,ts,ic,is,(po,pn,pc),(NZ,ln,lc)))) (fun _ i _=>nn-(intOf i).toNat)
 case atStart=>exact⟨0,Nat.zero_le _,rfl,Below.refl _ _,iO _ _⟩
 case round =>
  obtain⟨q,hq,rfl,hbe,hown⟩:=hrel;have BE:=L hbe;have OE:=L hown;clear hbe hown;by_cases hlt:q<nn
  ·obtain⟨y,hy⟩:∃ y,l[q]?=Z y:=⟨_,aj (by rw [<- HN.out]; exact hlt)⟩;obtain⟨p,ix,_,px⟩:=qA Nm.VH HS.out rfl HN.out.symm hy;have p0:wr.cell? p=Z (D J y):=by simpa [V] using px wr BE.out 0 _ rfl
   have ix:∀ w,(Instr.indexAt 24 (K no nn nc) (D J q)).run U w=.ok (aI (Z p)) w:=ix;have FS:=L (show nH (l.take (q+1)) but (fun n=>((n,k,tc,ts,ic,is,(po,pn,pc),(NZ,ln,lc)):mX))=nH (l.take q) but (fun n=>(n,k,tc,ts,ic,is,(po,pn,pc),(NZ,ln,lc)))++(if (y != but)=true then [(y,k,tc,ts,ic,is,(po,pn,pc),(NZ,ln,lc))] else []) by
    unfold nH;rw [Cg l q y _ hy,List.map_append];cases y != but <;> rfl)
   have hw3:IntKind.i64.wrap ((q:Int)+1)=(q:Int)+1:=IntWalk.i64_in _ (by omega);obtain⟨r,hr⟩:∃ r,(y != but)=r:=⟨_,rfl⟩;rw [hr] at FS;clear px hy;cases r
   ·go_wp2
    go_roundw
    case rel=>exact⟨q+1,by omega,by go_num,BE.out,by
     rw [FS.out];simpa using OE.out⟩
    case measure=>simp [intOf]; omega
   ·have x_:=X5.out.on BE.out;obtain⟨x0,x1,x2,x3,x4,x5,x6⟩:=x_.pG;have NB:=L (gN wr (ah #[D J y,D J k,D J tc,D J ts,D J ic,D J is,K po pn pc,K NZ ln lc] 46));have hlit:=jC Ew wr [(y,k,tc,ts,ic,is,(po,pn,pc),(NZ,ln,lc))] 1 rfl (by simp) #[D J y,D J k,D J tc,D J ts,D J ic,D J is,K po pn pc,K NZ ln lc] rfl;have o2:=dI OE.out NB.out;have hB:W.heap.size<=(wr.alloc (ah #[D J y,D J k,D J tc,D J ts,D J ic,D J is,K po pn pc,K NZ ln lc] 46)).heap.size:=by have h1:=BE.out.size; simp; omega
    obtain⟨v',w',r',o',gr⟩:=gZ Ew W.heap.size o2 (Row.dJ hlit) (by
     unfold nH;rw [ay];have h1:=List.length_filter_le (fun n=>n != but) (l.take q);rw [List.length_take] at h1;omega) (by simp) hB 37
    have r':(Builtin.append_ #[37,37] 37 #[u7,K (Z ⟨wr.heap.size,0,Q⟩) 1 1]).run U (wr.alloc (ah #[D J y,D J k,D J tc,D J ts,D J ic,D J is,K po pn pc,K NZ ln lc] 46))=.ok v' w':=by
     simpa [EU] using r'
    have BG:=L ((BE.out.trans (NB.out.mono BE.out.size)).grown gr hB fun j hj=>(o2.lt j hj).1);have OG:=L o';clear hlit o2 hB o' gr OE x_;go_wp2_with (first | (at_builtin; refine wpList_append_run rfl _ _ 37 rfl rfl rfl r' ?_) | fail)
    go_roundw
    case rel=>exact⟨q+1,by omega,by go_num,BG.out,by
     rw [FS.out];simpa using OG.out⟩
    case measure=>simp [intOf]; omega
  ·obtain rfl:nn=q:=by omega
   have e:l.take nn=l:=List.take_of_length_le (by have:=HN.out; omega);rw [e] at OE;obtain⟨I9,Ja,hv⟩:=(Row.dJ OE.out).len;subst hv;clear e;go_wp2;go_ret;exact⟨⟨(I9,_,Ja),rfl,dM OE.out (by have:=W2.out; omega)⟩,B0.out.trans (BE.out.mono B0.out.size)⟩
abbrev Ka (W:aD) (b:Nat) (a0 a1 a2 a3 a4 a5 a6:aH):aD:=((((((W.setCell ⟨b,0,Q⟩ a0).setCell ⟨b,1,Q⟩ a1).setCell ⟨b,2,Q⟩ a2).setCell ⟨b,3,Q⟩ a3).setCell ⟨b,4,Q⟩ a4).setCell ⟨b,5,Q⟩ a5).setCell ⟨b,6,Q⟩ a6
theorem Gp {W:aD} {b:Nat} {t:TypeId} {z0 z1 z2 z3 z4 z5 z6:aH} (h:dK W b #[z0,z1,z2,z3,z4,z5,z6] t) (a0 a1 a2 a3 a4 a5 a6:aH):dK (Ka W b a0 a1 a2 a3 a4 a5 a6) b #[a0,a1,a2,a3,a4,a5,a6] t:=by
 have h2:=eu (k:=6) (eu (k:=5) (eu (k:=4) (eu (k:=3) (eu (k:=2) (eu (k:=1) (eu (k:=0) h a0) a1) a2) a3) a4) a5) a6;simp only [List.setIfInBounds_toArray,List.set_cons_zero,List.set_cons_succ] at h2;exact h2
theorem Bh (z:jk) (w:aD):aK U 58 #[qO z] w fun e w'=>e=.returned (aJ #[D J 3,D J z.1,D J z.2.1,D J z.2.2.1,D J z.2.2.2.1,dX z.2.2.2.2.1,K Q 0 0])/\Below w.heap.size w w':=by
 obtain⟨c,d,g,h,⟨po,pn,pc⟩,fr,up⟩:=z;obtain⟨h0,h1,h2⟩:=iI w #[D J c,D J d,D J g,D J h,K po pn pc,D J fr,aL up] #[D J 0,D J 0,D J 0,D J 0,D J 0,K Q 0 0,K Q 0 0] 67 43;obtain⟨x0,x1,x2,x3,x4,x5,x6⟩:=h1.pG;obtain⟨r0,r1,r2,r3,r4,r5,r6⟩:=h2.pG;obtain⟨t0,t1,t2,t3,t4,t5,t6⟩:=h2.fs7;have zz:=h2.lt;have FB:=L (Gp h2 (D J 3) (D J c) (D J d) (D J g) (D J h) (K po pn pc) (K Q 0 0));have BL:=L ((((((((h0.setCell (p:=⟨w.heap.size+1,0,Q⟩) (by show w.heap.size<=w.heap.size+1; omega) (D J 3)).setCell (p:=⟨w.heap.size+1,1,Q⟩) (by show w.heap.size<=w.heap.size+1; omega) (D J c)).setCell (p:=⟨w.heap.size+1,2,Q⟩) (by show w.heap.size<=w.heap.size+1; omega) (D J d)).setCell (p:=⟨w.heap.size+1,3,Q⟩) (by show w.heap.size<=w.heap.size+1; omega) (D J g)).setCell (p:=⟨w.heap.size+1,4,Q⟩) (by show w.heap.size<=w.heap.size+1; omega) (D J h)).setCell (p:=⟨w.heap.size+1,5,Q⟩) (by show w.heap.size<=w.heap.size+1; omega) (K po pn pc)).setCell (p:=⟨w.heap.size+1,6,Q⟩) (by show w.heap.size<=w.heap.size+1; omega) (K Q 0 0)));clear h0 h1 h2;show aK U 58 #[aJ #[D J c,D J d,D J g,D J h,K po pn pc,D J fr,aL up]] w _;go_enter Tryz.func58,Tryz.ntmps58;go_upto_region 1 with fail;generalize (w.alloc (ah #[D J c,D J d,D J g,D J h,K po pn pc,D J fr,aL up] 67)).alloc (ah #[D J 0,D J 0,D J 0,D J 0,D J 0,K Q 0 0,K Q 0 0] 43)=W at *;go_wp2_with fail;obtain⟨T,a0,a3,a4,a5,a6,a7⟩:=FB.out.pG;refine bodyPost_ret (v:=aJ #[D J 3,D J c,D J d,D J g,D J h,K po pn pc,K Q 0 0]) (by simp [results,Tryz.results58,go_sem,T,a0,a3,a4,a5,a6,a7]) rfl ?_;exact⟨rfl,BL.out⟩
end Bk
end Go.Proofs.YtghlpefopidlaaaGreat
