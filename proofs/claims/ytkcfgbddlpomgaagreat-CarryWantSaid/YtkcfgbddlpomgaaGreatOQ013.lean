/-
  Rows of messages to . Conditions as told.
-/
import Derived.Test.YtkcfgbddlpomgaaGreatOQ011
import Derived.Test.YtkcfgbddlpomgaaGreatOQ010
import Derived.Test.YtkcfgbddlpomgaaGreatOQ012
set_option maxRecDepth 100000
set_option maxHeartbeats 64000000
open _root_.Go renaming World->ah,Value->aj,Calls->aF
open Go.Addr renaming add->Z
open Go.Builtin renaming copy_->ak,append_->ay
open Go.Ending renaming returned->au
open Go.Instr renaming sliceAt->V,indexAt->aD
open Go.IntKind renaming i64->K,wrap_i64->aB
open Go.Lib renaming hid->X
open Go.Obj renaming cells->Y
open Go.Proofs.Tryz renaming prog->O,ntmps99->aA,func99->aC
open Go.Value renaming slice->D,int->J,pointer->aG,agg->aH,bool->aI
open _root_.Option renaming none->L,some->U
namespace Go.Proofs.YtkcfgbddlpomgaaGreat
namespace Bk
open Go.RowKit Go.Sort Rw YtkcfgbddlpomgaaGreat.Nm Pr
abbrev qd:=Int×Int×Int×Int×Int×Int×Sl×Sl
abbrev kG (x:qd):List aj:=[J K x.1,J K x.2.1,J K x.2.2.1,J K x.2.2.2.1,J K x.2.2.2.2.1,J K x.2.2.2.2.2.1,dU x.2.2.2.2.2.2.1,dU x.2.2.2.2.2.2.2]
abbrev Ag (x:qd):aj:=aH #[J K x.1,J K x.2.1,J K x.2.2.1,J K x.2.2.2.1,J K x.2.2.2.2.1,J K x.2.2.2.2.2.1,dU x.2.2.2.2.2.2.1,dU x.2.2.2.2.2.2.2]
def EU:Ek qd:=⟨58,44,8,96,aH #[J K 0,J K 0,J K 0,J K 0,J K 0,J K 0,D L 0 0,D L 0 0],Ag,kG⟩
theorem ae1:(Tryz.prog.info? 58).map (fun i=>(i.zero,i.size,i.bytes))=U (U (aH #[J K 0,J K 0,J K 0,J K 0,J K 0,J K 0,D L 0 0,D L 0 0]),8,96):=by kernel_rfl
theorem ae2 (w:ah) (p:Addr) (x:qd) (h:∀ j u,(kG x)[j]?=U u->w.cell? (p.add j)=U u):(Instr.loadAt 58 (aG (U p))).run O w=.ok (Ag x) w:=by
 have h0:=h 0 _ rfl;have h1:=h 1 _ rfl;have h2:=h 2 _ rfl;have h3:=h 3 _ rfl;have h4:=h 4 _ rfl;have h5:=h 5 _ rfl;have h6:=h 6 _ rfl;have h7:=h 7 _ rfl;simp [Z] at h0 h1 h2 h3 h4 h5 h6 h7;simp [go_sem,h0,h1,h2,h3,h4,h5,h6,h7]
theorem Il:EU.Ok where
 hu:=Tryz.underlying44
 info:=by
  have h:=ae1;cases hi:Tryz.prog.info? 58 with
  | none=>rw [hi] at h; cases h
  | some i =>
   rw [hi] at h;simp only [Option.map_some,Option.some.injEq,Prod.mk.injEq] at h;exact⟨i,hi,h.1,h.2.1,h.2.2⟩
 zs:=rfl
 len:=fun _=>rfl
 one:=fun x u hu=>by
  simp only [EU,kG,List.mem_cons,List.not_mem_nil,or_false] at hu;rcases hu with rfl|rfl|rfl|rfl|rfl|rfl|rfl|rfl <;> rfl
 pos:=by decide
 few:=by decide
 load:=fun w p x h=>ae2 w p x h
abbrev Qh (W:ah) (v:aj) (l:List qd):Prop:=Row EU W v l
abbrev jB (W:ah) (B:Nat) (v:aj) (l:List qd):Prop:=Own EU W B v l
theorem elU {W:ah} {v:aj} {l:List qd} {ao:Option Addr} {n c k:Nat} {x:qd} (h:Qh W v l) (hv:v=D ao n c) (hn:l.length=n) (hk:l[k]?=U x) :
  ∃ p:Addr,(∀ w,(aD 44 (D ao n c) (J K k)).run O w=.ok (aG (U p)) w)/\∀ w,Below W.heap.size W w->w.cell? p=U (J K x.1)/\w.cell? ⟨p.block,p.off+1,L⟩=U (J K x.2.1)/\w.cell? ⟨p.block,p.off+2,L⟩=U (J K x.2.2.1)/\w.cell? ⟨p.block,p.off+3,L⟩=U (J K x.2.2.2.1)/\w.cell? ⟨p.block,p.off+4,L⟩=U (J K x.2.2.2.2.1)/\w.cell? ⟨p.block,p.off+5,L⟩=U (J K x.2.2.2.2.2.1)/\w.cell? ⟨p.block,p.off+6,L⟩=U (dU x.2.2.2.2.2.2.1)/\w.cell? ⟨p.block,p.off+7,L⟩=U (dU x.2.2.2.2.2.2.2):=by
 obtain⟨p,h1,_,h2⟩:=nC Il h hv hn hk;exact⟨p,h1,fun w hw=>⟨by simpa [Z] using h2 w hw 0 _ rfl,by simpa [Z] using h2 w hw 1 _ rfl,by simpa [Z] using h2 w hw 2 _ rfl,by simpa [Z] using h2 w hw 3 _ rfl,by simpa [Z] using h2 w hw 4 _ rfl,by simpa [Z] using h2 w hw 5 _ rfl,by simpa [Z] using h2 w hw 6 _ rfl,by simpa [Z] using h2 w hw 7 _ rfl⟩⟩
def mO (near:List Int) (but:Int) (f:Int->qd):List qd:=(near.filter fun n=>n != but).map f
theorem Ah (me but k tc ts ic is:Int) (nv:Sl) (av sv ev ov:aj) (pv lv:Sl) (l:List Int) (w:ah) (hs:qI w (dU nv) l) (hlen:l.length<=900) :
  aF O 61 #[aH #[J K me,dU nv,av,sv,ev,ov],J K but,aH #[J K k,J K tc,J K ts,J K ic,J K is,dU pv,dU lv]] w fun e w'=>(∃ v:Sl,e=au (dU v)/\jB w' w.heap.size (dU v) (mO l but fun n=>(n,k,tc,ts,ic,is,pv,lv)))/\Below w.heap.size w w':=by
 obtain⟨no,nn,nc⟩:=nv;obtain⟨po,pn,pc⟩:=pv;obtain⟨FR,ln,lc⟩:=lv;obtain⟨q1,q2,hq⟩:=hs.len;obtain⟨rfl,hnn,rfl⟩:no=q1/\nn=l.length/\nc=q2:=by
  have h:D no nn nc=D q1 l.length q2:=hq;simpa using h
 clear hq;obtain⟨h0,h1,h2⟩:=iE w #[J K me,D no nn nc,av,sv,ev,ov] #[J K k,J K tc,J K ts,J K ic,J K is,D po pn pc,D FR ln lc] 33 43;have B0:=X h0;have X5:=X h2;have HS:=X (hs.on h0);have HN:=X hnn;have c1:=h1.cell 1;simp only [List.getElem?_toArray,List.getElem?_cons_zero,List.getElem?_cons_succ] at c1;have nb:nn<=900:=by omega
 have W2:=X h2.lt;clear h0 h1 h2 hs hlen hnn;go_enter Tryz.func61,Tryz.ntmps61;go_upto_region 1 with fail;generalize (w.alloc (Y #[J K me,D no nn nc,av,sv,ev,ov] 33)).alloc (Y #[J K k,J K tc,J K ts,J K ic,J K is,D po pn pc,D FR ln lc] 43)=W at *;go_wp2
 go_loopw [7,13] (fun v i wr=>∃ q:Nat,q<=nn/\i=J K q/\Below W.heap.size W wr/\jB wr W.heap.size v (mO (l.take q) but fun n=>(n,k,tc,ts,ic,is,(po,pn,pc),(FR,ln,lc)))) (fun _ i _=>nn-(intOf i).toNat)
 case atStart=>exact⟨0,Nat.zero_le _,rfl,Below.refl _ _,gB _ _⟩
 case round =>
  obtain⟨q,hq,rfl,hbe,hown⟩:=hrel;have BE:=X hbe;have OE:=X hown;clear hbe hown;by_cases hlt:q<nn
  ·obtain⟨y,hy⟩:∃ y,l[q]?=U y:=⟨_,List.getElem?_eq_getElem (by rw [<- HN.out]; exact hlt)⟩;obtain⟨p,ix,_,px⟩:=nC Nm.Hl HS.out rfl HN.out.symm hy;have p0:wr.cell? p=U (J K y):=by simpa [Z] using px wr BE.out 0 _ rfl
   have ix:∀ w,(aD 25 (D no nn nc) (J K q)).run O w=.ok (aG (U p)) w:=ix;have FS:=X (show mO (l.take (q+1)) but (fun n=>((n,k,tc,ts,ic,is,(po,pn,pc),(FR,ln,lc)):qd))=mO (l.take q) but (fun n=>(n,k,tc,ts,ic,is,(po,pn,pc),(FR,ln,lc)))++(if (y != but)=true then [(y,k,tc,ts,ic,is,(po,pn,pc),(FR,ln,lc))] else []) by
    unfold mO;rw [zU l q y _ hy,List.map_append];cases y != but <;> rfl)
   have hw3:IntKind.i64.wrap ((q:Int)+1)=(q:Int)+1:=IntWalk.i64_in _ (by omega);obtain⟨r,hr⟩:∃ r,(y != but)=r:=⟨_,rfl⟩;rw [hr] at FS;clear px hy;cases r
   ·go_wp2
    go_roundw
    case rel=>exact⟨q+1,by omega,by go_num,BE.out,by
     rw [FS.out];simpa using OE.out⟩
    case measure=>simp [intOf]; omega
   ·have x_:=X5.out.on BE.out;obtain⟨x0,x1,x2,x3,x4,x5,x6⟩:=x_.oI;have NB:=X (fI wr (Y #[J K y,J K k,J K tc,J K ts,J K ic,J K is,D po pn pc,D FR ln lc] 58));have hlit:=iD Il wr [(y,k,tc,ts,ic,is,(po,pn,pc),(FR,ln,lc))] 1 rfl (by simp) #[J K y,J K k,J K tc,J K ts,J K ic,J K is,D po pn pc,D FR ln lc] rfl;have o2:=dG OE.out NB.out;have hB:W.heap.size<=(wr.alloc (Y #[J K y,J K k,J K tc,J K ts,J K ic,J K is,D po pn pc,D FR ln lc] 58)).heap.size:=by have h1:=BE.out.size; simp; omega
    obtain⟨v',w',r',o',gr⟩:=gG Il W.heap.size o2 (Row.dH hlit) (by
     unfold mO;rw [List.length_map];have h1:=List.length_filter_le (fun n=>n != but) (l.take q);rw [List.length_take] at h1;omega) (by simp) hB 44
    have r':(ay #[44,44] 44 #[u7,D (U ⟨wr.heap.size,0,L⟩) 1 1]).run O (wr.alloc (Y #[J K y,J K k,J K tc,J K ts,J K ic,J K is,D po pn pc,D FR ln lc] 58))=.ok v' w':=by
     simpa [EU] using r'
    have BG:=X ((BE.out.trans (NB.out.mono BE.out.size)).grown gr hB fun j hj=>(o2.lt j hj).1);have OG:=X o';clear hlit o2 hB o' gr OE x_;go_wp2_with (first | (at_builtin; refine wpList_append_run rfl _ _ 44 rfl rfl rfl r' ?_) | fail)
    go_roundw
    case rel=>exact⟨q+1,by omega,by go_num,BG.out,by
     rw [FS.out];simpa using OG.out⟩
    case measure=>simp [intOf]; omega
  ·obtain rfl:nn=q:=by omega
   have e:l.take nn=l:=List.take_of_length_le (by have:=HN.out; omega);rw [e] at OE;obtain⟨xU,xV,hv⟩:=(Row.dH OE.out).len;subst hv;clear e;go_wp2;go_ret;exact⟨⟨(xU,_,xV),rfl,dJ OE.out (by have:=W2.out; omega)⟩,B0.out.trans (BE.out.mono B0.out.size)⟩
end Bk
namespace Rl
open Go.RowKit Pu Rw Pr Va
end Rl
namespace Wr
open YtkcfgbddlpomgaaGreat.Nm At Pr
def Qi (c:C5):Bool:=Hw c.1 && (if c.2.1=1 then decide (c.2.2.2.2.size=0) && decide (c.2.2.1<=c.2.2.2.1) else if c.2.1=2 then decide (c.2.2.1=0) && (decide (c.2.2.2.1=0) && decide (c.2.2.2.2.size<=12)) else if c.2.1=3 then decide (c.2.2.1=0) && (decide (c.2.2.2.1=0) && decide (c.2.2.2.2.size<=11)) else false)
def ae3 (p x:C5):Bool:=Op.bytesLess p.1.toList x.1.toList
def Ub (l:List C5) (k:Nat):Bool:=match l[k]? with
 | some x=>Qi x && (k == 0 || (match l[k-1]? with
  | some p=>ae3 p x
  | none=>true))
 | none=>true
def jg (l:List C5):Bool:=(List.range l.length).all (Ub l) && decide (l.length<=5)
theorem KZ (l:List C5) (h:∀ j,j<l.length->Ub l j=true):jg l=decide (l.length<=5):=by
 unfold jg;rw [List.all_eq_true.2 fun j hj=>h j (List.mem_range.1 hj),Bool.true_and]
end Wr
namespace Pr
open Go.RowKit Go.Sort Pu Rw Va
end Pr
namespace Avp
open Go.RowKit Go.Sort Rw YtkcfgbddlpomgaaGreat.Nm At Pr Wr Va
end Avp
namespace Av
open Go.RowKit Rw YtkcfgbddlpomgaaGreat.Nm Pr Bk
theorem Uc {W:ah} {b:Nat} {c:kr} (h:dN W b (cellsD c).toArray 53):wB W (D (U ⟨b,0,L⟩) 1 1) [c] :=
 Or.inr ⟨⟨b,0,L⟩,1,rfl,by simp,by decide,wo h (by simp [ED])⟩
def Ai (B:Nat) (l:List kr) (k:Nat) (c:kr) (vv:aj) (W:ah) (e:Ending) (w':ah):Prop:=∃ v',e=au v'/\lD w' B v' (l.take k++c::l.drop k)/\Below B W w'/\(∀ j,j<W.heap.size->U j≠vv.ownBlock->w'.heap[j]?=W.heap[j]?)
theorem Im (B:Nat) (v:aj) (l:List kr) (c:kr) (b:Nat) (W:ah) (ho:lD W B v l) (hx:dN W b (cellsD c).toArray 53) (hl:l.length<=900) (hB:B<=W.heap.size) :
  aF O 99 #[v,J K (l.length:Nat),D (U ⟨b,0,L⟩) 1 1] W (Ai B l l.length c v W):=by
 obtain⟨v',w',hr,ho2,hg⟩:=gG okD B ho (Uc hx) (by omega) (by simp) hB 28;have hr:(ay #[28,28] 28 #[v,D (U ⟨b,0,L⟩) 1 1]).run O W=.ok v' w':=hr;have Q:=X (show Ai B l l.length c v W (au v') w' from ⟨v',rfl,by rw [List.take_of_length_le (Nat.le_refl _),List.drop_of_length_le (Nat.le_refl _)]; exact ho2,(Below.refl B W).grown hg hB (fun j hj=>(ho.lt j hj).1),fun j hj hne=>hg.block j hj hne⟩);obtain⟨sx,hs,_⟩:=qH okD (Row.dH ho) l.length (Nat.le_refl _);have hs:∀ w,(V 28 v (U (J K l.length)) L L).run O w=.ok sx w:=hs;obtain⟨ao,ac,rfl⟩:=(Row.dH ho).len;clear ho ho2 hg;generalize hn:l.length=n at *;clear hn;go_enter aC,aA;go_wp2_with (first | (at_builtin; refine wpList_append_run rfl _ _ 28 rfl rfl rfl hr ?_) | fail);go_ret;exact Q.out
theorem Ud (w:ah) (g b k la lb cb:Nat) (cur cs:Array aj) (hb:dN w b cs 53) (hg:dN w g cur 53) (hne:b≠g) (h0:0<cur.size):(callFunc 112 #[D (U ⟨b,0,L⟩) la 1,D (U ⟨g,k,L⟩) lb cb]).run O w=.ok (.value (aI false)) w:=by
 rw [run_callFunc_extern Tryz.func112 (by kernel_rfl) (by kernel_rfl) (by kernel_rfl) (e:=Extern.SlicesOverlaps.overlaps #[28,28] #[4]) (by kernel_rfl),
  Lib.run_overlaps_apart w 28 4 53 Tryz.underlying28 4 Tryz.sizeOf53 ⟨b,0,L⟩ ⟨g,k,L⟩ la 1 lb cb hne 53 53 cs.size cur.size hb.shape hg.shape (by omega) (hb.fr 0) (hb.fr _)]
 rfl
theorem CJ (B g n cap:Nat) (cur:Array aj) (l:List kr) (k:Nat) (c:kr) (b:Nat) (W:ah) (hn:n=l.length) (hBg:B<=g) (hg:dN W g cur 53) (hcm:cap<=maxLen) (hsz:cur.size=cap * 4) (ht:cur.toList.take (n * 4)=flat ED l) (hx:dN W b (cellsD c).toArray 53) (hne:b≠g) (hk:k<n) (hroom:n+1<=cap) (hl:n<=900) :
  aF O 99 #[D (U ⟨g,0,L⟩) n cap,J K k,D (U ⟨b,0,L⟩) 1 1] W (Ai B l k c (D (U ⟨g,0,L⟩) n cap) W):=by
 obtain⟨R1,R2,r1,r2,ow⟩:=xM (E:=ED) (l:=l) (k:=k) (cap:=cap) (cur:=cur) (cs:=(cellsD c).toArray) (c:=c) okD (by omega) (by omega) hsz (by rw [<- hn]; exact ht) g b hne;have hov:=fun lb cb=>Ud W g b ((k+1) * 4) 1 lb cb cur (cellsD c).toArray hx hg hne (by omega);have s0:=jF (E:=ED) okD g k n cap (by omega) (by omega);have s1:=nQ (E:=ED) okD ⟨g,0,L⟩ (n+1) n cap (by omega);have s2:=jF (E:=ED) okD g (k+1) (n+1) cap (by omega) (by omega);have s3:=jF (E:=ED) okD g k (n+1) cap (by omega) (by omega);have q1:=r1 W.drew 3 (n+1-(k+1)) (cap-(k+1)) (n+1-k) (cap-k) hg (by omega);have q2:=r2 (W.drew.setRow g R1) 3 (n+1-k) (cap-k) (dN.set (show dN W.drew g cur 53 from hg) R1) (dN.other (show dN W.drew b _ 53 from hx) hne R1) rfl (by omega);have Q:=X (show Ai B l k c (D (U ⟨g,0,L⟩) n cap) W (au (D (U ⟨g,0,L⟩) (n+1) cap)) ((W.drew.setRow g R1).setRow g R2) from ⟨_,rfl,by rw [hn]; exact ow _ B hBg hcm (dN.set (dN.set (show dN W.drew g cur 53 from hg) R1) R2),below_setRow (below_setRow (Below.refl B W).drew hBg _) hBg _,fun j hj hne=>(setRow_other _ g j _ (fun e=>hne (by rw [e]; rfl))).trans (setRow_other _ g j _ (fun e=>hne (by rw [e]; rfl)))⟩);clear r1 r2 ow hg ht hx hsz hBg hcm;change ∀ w,(V 28 (D (U ⟨g,0,L⟩) n cap) (U (J K k)) L L).run O w=.ok (D (U ⟨g,k * 4,L⟩) (n-k) (cap-k)) w at s0;change ∀ w,(V 28 (D (U ⟨g,0,L⟩) n cap) L (U (J K ((n:Int)+1))) L).run O w=.ok (D (U ⟨g,0,L⟩) (n+1) cap) w at s1;change ∀ w,(V 28 (D (U ⟨g,0,L⟩) (n+1) cap) (U (J K ((k:Int)+1))) L L).run O w=.ok (D (U ⟨g,(k+1) * 4,L⟩) (n+1-(k+1)) (cap-(k+1))) w at s2;change ∀ w,(V 28 (D (U ⟨g,0,L⟩) (n+1) cap) (U (J K k)) L L).run O w=.ok (D (U ⟨g,k * 4,L⟩) (n+1-k) (cap-k)) w at s3;have e1:((k:Int) == (n:Int))=false:=by rw [beq_eq_false_iff_ne]; omega
 have e2:decide ((cap:Int)<(n:Int)+1)=false:=by simp; omega
 change (ak #[28,28] 3 #[D (U ⟨g,(k+1) * 4,L⟩) (n+1-(k+1)) (cap-(k+1)),D (U ⟨g,k * 4,L⟩) (n+1-k) (cap-k)]).run O W.drew=.ok (J K ((l.length-k:Nat):Int)) (W.drew.setRow g R1) at q1;change (ak #[28,28] 3 #[D (U ⟨g,k * 4,L⟩) (n+1-k) (cap-k),D (U ⟨b,0,L⟩) 1 1]).run O (W.drew.setRow g R1)=.ok (J K 1) ((W.drew.setRow g R1).setRow g R2) at q2;clear hn;go_enter aC,aA;go_wp2_with (first | (simp only [hov]) | fail);clear hov s0 s1 s2 s3;have hw1:IntKind.i64.wrap ((k:Int)+1)=(k:Int)+1:=by rw [aB]; omega
 have hb1:(0:Int)<=(k:Int)+1:=by omega
 have hb0:(k:Int)+1<=(n:Int)+1:=by omega
 have htn:((k:Int)+1).toNat=k+1:=by omega
 have hb2:¬ (cap=k+1):=by omega
 have hb3:(k:Int)<=(n:Int)+1:=by omega
 have hb4:¬ (cap=k):=by omega
 have h81:n+1-(k+1)=n-k:=by omega
 rw [h81] at q1;clear h81
 go_region_law (refine kF rfl (.tmp 73) (.tmp 76) 28 rfl (v:=D (U ⟨g,(k+1) * 4,L⟩) (n-k) (cap-(k+1))) (xv:=D (U ⟨g,k * 4,L⟩) (n+1-k) (cap-k)) (by simp [Act.eval,Act.put]) (by simp [Act.eval,Act.put]) q1 ?_)
 all_goals simp only [Exit.then]
 all_goals apply_assumption
 clear q1 hw1 hb1 hb0 htn hb2 hb3 hb4;have s3:=jF (E:=ED) okD g k (n+1) cap (by omega) (by omega);change ∀ w,(V 28 (D (U ⟨g,0,L⟩) (n+1) cap) (U (J K k)) L L).run O w=.ok (D (U ⟨g,k * 4,L⟩) (n+1-k) (cap-k)) w at s3;go_wp2_with (first | (at_builtin; refine wpList_copy_run rfl _ _ 28 rfl rfl rfl q2 ?_) | fail);go_ret;exact Q.out
theorem FT (B g n cap:Nat) (cur:Array aj) (l:List kr) (k:Nat) (c:kr) (b:Nat) (W:ah) (hn:n=l.length) (hg:dN W g cur 53) (hcm:cap<=maxLen) (hnc:n<=cap) (ht:cur.toList.take (n * 4)=flat ED l) (hx:dN W b (cellsD c).toArray 53) (hk:k<n) (hroom:cap<n+1) (hl:n<=900) (hB:B<=W.heap.size) :
  aF O 99 #[D (U ⟨g,0,L⟩) n cap,J K k,D (U ⟨b,0,L⟩) 1 1] W (Ai B l k c (D (U ⟨g,0,L⟩) n cap) W):=by
 have hgw:=hg.lt;have hbw:=hx.lt;obtain⟨G,R1,R2,R3,hG1,hG2,r1,r2,r3,ow⟩:=zK (E:=ED) (l:=l) (k:=k) (cap:=cap) (cur:=cur) (cs:=(cellsD c).toArray) (c:=c) okD 3 Tryz.underlying3 (by omega) (by omega) (by omega) (by omega) (by rw [<- hn]; exact ht) W g b hg hbw;unfold maxLen at hcm hG2;have s0:=jF (E:=ED) okD g k n cap (by omega) (by omega);have s1:=nQ (E:=ED) okD ⟨g,0,L⟩ k n cap (by omega);have s2:=jF (E:=ED) okD W.heap.size k (n+1) G (by omega) (by omega);have s3:=jF (E:=ED) okD W.heap.size (k+1) (n+1) G (by omega) (by omega);have a1:=r1 28;have n1:=dO W.drew R1 53;have bl:W.drew.heap.size=W.heap.size:=rfl;rw [bl] at n1;have g1:dN (W.drew.alloc (Y R1 53)) g cur 53:=dN.more (show dN W.drew g cur 53 from hg) _;have x1:dN (W.drew.alloc (Y R1 53)) b (cellsD c).toArray 53:=dN.more (show dN W.drew b _ 53 from hx) _;have q2:=r2 (W.drew.alloc (Y R1 53)) 3 (n+1-k) (G-k) n1 x1 rfl (by omega);have q3:=r3 ((W.drew.alloc (Y R1 53)).setRow W.heap.size R2).drew 3 (n+1-(k+1)) (G-(k+1)) (n-k) (cap-k) (dN.set n1 R2) (dN.other g1 (by omega) R2) (by omega);have Q:=X (show Ai B l k c (D (U ⟨g,0,L⟩) n cap) W (au (D (U ⟨W.heap.size,0,L⟩) (n+1) G)) (((W.drew.alloc (Y R1 53)).setRow W.heap.size R2).drew.setRow W.heap.size R3) from ⟨_,rfl,by rw [hn]; exact ow _ B hB (dN.set (dN.set n1 R2) R3),below_setRow (below_setRow ((Below.refl B W).drew.alloc hB _) hB _).drew hB _,fun j hj _=>(setRow_other _ W.heap.size j _ (by omega)).trans ((setRow_other _ W.heap.size j _ (by omega)).trans (Array.getElem?_push_lt hj |>.trans (Array.getElem?_eq_getElem hj).symm))⟩);have l1:l.length+1=n+1:=by rw [hn]
 rw [l1,<- hn] at a1;clear r1 r2 r3 ow hg ht hx g1 x1 n1 bl l1;change ∀ w,(V 28 (D (U ⟨g,0,L⟩) n cap) (U (J K k)) L L).run O w=.ok (D (U ⟨g,k * 4,L⟩) (n-k) (cap-k)) w at s0;change ∀ w,(V 28 (D (U ⟨g,0,L⟩) n cap) L (U (J K k)) L).run O w=.ok (D (U ⟨g,0,L⟩) k cap) w at s1;change ∀ w,(V 28 (D (U ⟨W.heap.size,0,L⟩) (n+1) G) (U (J K k)) L L).run O w=.ok (D (U ⟨W.heap.size,k * 4,L⟩) (n+1-k) (G-k)) w at s2;change ∀ w,(V 28 (D (U ⟨W.heap.size,0,L⟩) (n+1) G) (U (J K ((k:Int)+1))) L L).run O w=.ok (D (U ⟨W.heap.size,(k+1) * 4,L⟩) (n+1-(k+1)) (G-(k+1))) w at s3;change (ay #[28,3] 28 #[D (U ⟨g,0,L⟩) k cap,J K ((n:Int)+1-k)]).run O W=.ok (D (U ⟨W.heap.size,0,L⟩) (n+1) G) (W.drew.alloc (Y R1 53)) at a1;change (ak #[28,28] 3 #[D (U ⟨W.heap.size,k * 4,L⟩) (n+1-k) (G-k),D (U ⟨b,0,L⟩) 1 1]).run O (W.drew.alloc (Y R1 53))=.ok (J K 1) ((W.drew.alloc (Y R1 53)).setRow W.heap.size R2) at q2;change (ak #[28,28] 3 #[D (U ⟨W.heap.size,(k+1) * 4,L⟩) (n+1-(k+1)) (G-(k+1)),D (U ⟨g,k * 4,L⟩) (n-k) (cap-k)]).run O ((W.drew.alloc (Y R1 53)).setRow W.heap.size R2).drew=.ok (J K ((l.length-k:Nat):Int)) (((W.drew.alloc (Y R1 53)).setRow W.heap.size R2).drew.setRow W.heap.size R3) at q3;have e1:((k:Int) == (n:Int))=false:=by rw [beq_eq_false_iff_ne]; omega
 have e2:decide ((cap:Int)<(n:Int)+1)=true:=by simp; omega
 have hGn:n+1<=G:=by omega
 clear hn;generalize W.heap.size=N at *;generalize W.drew.alloc (Y R1 53)=W1 at *;generalize W1.setRow N R2=W2 at *;go_enter aC,aA;go_wp2_with (first | (at_builtin; refine lU rfl _ _ 28 3 rfl rfl rfl a1 ?_) | (at_builtin; refine wpList_copy_run rfl _ _ 28 rfl rfl rfl q2 ?_) | fail);clear a1 q2 s0 s1 s2 s3;have hw1:IntKind.i64.wrap ((k:Int)+1)=(k:Int)+1:=by rw [aB]; omega
 have hb1:(0:Int)<=(k:Int)+1:=by omega
 have hb0:(k:Int)+1<=(n:Int)+1:=by omega
 have htn:((k:Int)+1).toNat=k+1:=by omega
 have hb2:¬ (G=k+1):=by omega
 have hb3:(k:Int)<=(n:Int):=by omega
 have hb4:¬ (cap=k):=by omega
 have h81:n+1-(k+1)=n-k:=by omega
 rw [h81] at q3;clear h81
 go_region_law (refine kF rfl (.tmp 50) (.tmp 53) 28 rfl (v:=D (U ⟨N,(k+1) * 4,L⟩) (n-k) (G-(k+1))) (xv:=D (U ⟨g,k * 4,L⟩) (n-k) (cap-k)) (by simp [Act.eval,Act.put]) (by simp [Act.eval,Act.put]) q3 ?_)
 all_goals simp only [Exit.then]
 all_goals apply_assumption
 go_wp2;go_ret;exact Q.out
theorem Io (B:Nat) (v:aj) (l:List kr) (k:Nat) (c:kr) (b:Nat) (W:ah) (ho:lD W B v l) (hx:dN W b (cellsD c).toArray 53) (hne:v.ownBlock≠U b) (hk:k<=l.length) (hl:l.length<=900) (hB:B<=W.heap.size) :
  aF O 99 #[v,J K k,D (U ⟨b,0,L⟩) 1 1] W (Ai B l k c v W):=by
 rcases Nat.lt_or_ge k l.length with h|h
 ·rcases gQ ho with⟨_,h2⟩|⟨g,cap,cur,rfl,h1,h2,h3,h4,h5,h6⟩
  ·rw [h2] at h; simp at h
  ·rcases Nat.lt_or_ge cap (l.length+1) with h7|h7
   ·exact FT B g _ cap cur l k c b W rfl h2 h4 h3 h6 hx h h7 hl hB
   ·exact CJ B g _ cap cur l k c b W rfl h1 h2 h4 h5 h6 hx (fun e=>hne (by simp [Value.ownBlock,e])) h h7 hl
 ·obtain rfl:k=l.length:=by omega
  exact Im B v l c b W ho hx hl hB
end Av
namespace Bk
open Go.RowKit Go.Sort Rw YtkcfgbddlpomgaaGreat.Nm Pr
abbrev Ue (W:ah) (b:Nat) (a0 a1 a2 a3 a4 a5 a6:aj):ah:=((((((W.setCell ⟨b,0,L⟩ a0).setCell ⟨b,1,L⟩ a1).setCell ⟨b,2,L⟩ a2).setCell ⟨b,3,L⟩ a3).setCell ⟨b,4,L⟩ a4).setCell ⟨b,5,L⟩ a5).setCell ⟨b,6,L⟩ a6
theorem Dy {W:ah} {b:Nat} {t:TypeId} {z0 z1 z2 z3 z4 z5 z6:aj} (h:dN W b #[z0,z1,z2,z3,z4,z5,z6] t) (a0 a1 a2 a3 a4 a5 a6:aj):dN (Ue W b a0 a1 a2 a3 a4 a5 a6) b #[a0,a1,a2,a3,a4,a5,a6] t:=by
 have h2:=dR (k:=6) (dR (k:=5) (dR (k:=4) (dR (k:=3) (dR (k:=2) (dR (k:=1) (dR (k:=0) h a0) a1) a2) a3) a4) a5) a6;simp only [List.setIfInBounds_toArray,List.set_cons_zero,List.set_cons_succ] at h2;exact h2
theorem zD (z:iH) (w:ah):aF O 58 #[qg z] w fun e w'=>e=au (aH #[J K 3,J K z.1,J K z.2.1,J K z.2.2.1,J K z.2.2.2.1,dU z.2.2.2.2.1,D L 0 0])/\Below w.heap.size w w':=by
 obtain⟨c,d,g,h,⟨po,pn,pc⟩,fr,up⟩:=z;obtain⟨h0,h1,h2⟩:=iE w #[J K c,J K d,J K g,J K h,D po pn pc,J K fr,aI up] #[J K 0,J K 0,J K 0,J K 0,J K 0,D L 0 0,D L 0 0] 68 43;obtain⟨x0,x1,x2,x3,x4,x5,x6⟩:=h1.oI;obtain⟨r0,r1,r2,r3,r4,r5,r6⟩:=h2.oI;obtain⟨t0,t1,t2,t3,t4,t5,t6⟩:=h2.Z9;have zz:=h2.lt;have FB:=X (Dy h2 (J K 3) (J K c) (J K d) (J K g) (J K h) (D po pn pc) (D L 0 0));have BL:=X ((((((((h0.setCell (p:=⟨w.heap.size+1,0,L⟩) (by show w.heap.size<=w.heap.size+1; omega) (J K 3)).setCell (p:=⟨w.heap.size+1,1,L⟩) (by show w.heap.size<=w.heap.size+1; omega) (J K c)).setCell (p:=⟨w.heap.size+1,2,L⟩) (by show w.heap.size<=w.heap.size+1; omega) (J K d)).setCell (p:=⟨w.heap.size+1,3,L⟩) (by show w.heap.size<=w.heap.size+1; omega) (J K g)).setCell (p:=⟨w.heap.size+1,4,L⟩) (by show w.heap.size<=w.heap.size+1; omega) (J K h)).setCell (p:=⟨w.heap.size+1,5,L⟩) (by show w.heap.size<=w.heap.size+1; omega) (D po pn pc)).setCell (p:=⟨w.heap.size+1,6,L⟩) (by show w.heap.size<=w.heap.size+1; omega) (D L 0 0)));clear h0 h1 h2;show aF O 58 #[aH #[J K c,J K d,J K g,J K h,D po pn pc,J K fr,aI up]] w _;go_enter Tryz.func58,Tryz.ntmps58;go_upto_region 1 with fail;generalize (w.alloc (Y #[J K c,J K d,J K g,J K h,D po pn pc,J K fr,aI up] 68)).alloc (Y #[J K 0,J K 0,J K 0,J K 0,J K 0,D L 0 0,D L 0 0] 43)=W at *;go_wp2_with fail;obtain⟨v0,v1,v2,v3,v4,v5,v6⟩:=FB.out.oI;refine bodyPost_ret (v:=aH #[J K 3,J K c,J K d,J K g,J K h,D po pn pc,D L 0 0]) (by simp [results,Tryz.results58,go_sem,v0,v1,v2,v3,v4,v5,v6]) rfl ?_;exact⟨rfl,BL.out⟩
end Bk
end Go.Proofs.YtkcfgbddlpomgaaGreat
