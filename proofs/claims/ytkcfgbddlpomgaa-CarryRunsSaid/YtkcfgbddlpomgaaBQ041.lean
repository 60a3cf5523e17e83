/-
  branch of package su. Conditions as told.
-/
import Derived.Test.YtkcfgbddlpomgaaBQ040
set_option maxRecDepth 100000
set_option maxHeartbeats 64000000
open Go.Lib renaming hid->J
open _root_.List renaming getElem?_eq_getElem->D,takeWhile_cons->L,length_take->O,length_drop->Q,getElem?_drop->U,takeWhile_sublist->V,take_append_drop->Z,length_cons->ah
open _root_.Option renaming some->K,none->aj
namespace Go.Proofs.Ytkcfgbddlpomgaa.Sb
open Go.RowKit Go.Sort Rw Ytkcfgbddlpomgaa.Nm Pr Bk Av
def cutV (v:Sl) (f k:Nat):Sl:=match v with
 | (K a,_,c)=>(K (if c=f then a else a.add (f * 7)),k,c-f)
 | (aj,_,_)=>(aj,0,0)
theorem yD {α:Type} (p:α->Bool):∀ (l:List α) (j:Nat) (y:α),j<(l.takeWhile p).length->l[j]?=K y->p y=true
 | [],_,_,_,h=>by simp at h
 | a::l,j,y,hj,h=>by
  by_cases ha:p a=true
  ·rw [L,if_pos ha,ah] at hj;cases j with
   | zero=>rw [<- Option.some.inj (show K a=K y from h)]; exact ha
   | succ j=>exact yD p l j y (by omega) (by simpa using h)
  ·rw [L,if_neg ha] at hj;simp at hj
theorem yE {α:Type} (p:α->Bool):∀ (l:List α) (y:α),l[(l.takeWhile p).length]?=K y->p y=false
 | [],_,h=>by simp at h
 | a::l,y,h=>by
  by_cases ha:p a=true
  ·rw [L,if_pos ha,ah] at h;exact yE p l y (by simpa using h)
  ·rw [L,if_neg ha] at h;rw [<- Option.some.inj (show K a=K y from h)];simpa using ha
theorem vL (a:Addr) (f e len cap:Nat) (h:f<=e) (h6:e<=cap) (w:World):(Instr.sliceAt 27 (.slice (K a) len cap) (K (.int .i64 f)) (K (.int .i64 e)) aj).run Try.prog w=.ok (dz (cutV (K a,len,cap) f (e-f))) w:=by
 have h1:(f:Int)<=(e:Int):=by omega
 have h3:(e:Int)<=cap:=by omega
 obtain⟨i,i1,i2,i3,i4⟩:=ko.info;have F9:Try.prog.info? 41=K i:=i1;have hu':Try.prog.underlying 27=K (.slice 41):=ko.hu;have IW:i.size=7:=i3;by_cases he:cap=f
 ·subst he;obtain rfl:e=cap:=by omega
  simp [go_sem,hu',sizeOf,typeInfo,F9,IW,cutV]
 ·simp [go_sem,hu',sizeOf,typeInfo,F9,IW,cutV,he,h,h6]
theorem tF {W:World} {v:Sl} {l:List gq} (h:iY W (dz v) l) (f k:Nat) (hk:f+k<=l.length) :
  (∀ w,(Instr.sliceAt 27 (dz v) (K (.int .i64 f)) (K (.int .i64 ((f+k:Nat):Int))) aj).run Try.prog w=.ok (dz (cutV v f k)) w)/\iY W (dz (cutV v f k)) ((l.drop f).take k):=by
 obtain⟨so,sn,sc⟩:=v;rcases h with⟨rfl,hv⟩|⟨a,cap,hv,h2,h3,h4⟩
 ·obtain⟨rfl,rfl,rfl⟩:so=aj/\sn=0/\sc=0:=by simpa using hv
  obtain⟨rfl,rfl⟩:f=0/\k=0:=by simp at hk; omega
  refine⟨fun w=>?_,Or.inl ⟨rfl,rfl⟩⟩;obtain⟨i,i1,i2,i3,i4⟩:=ko.info;have F9:Try.prog.info? 41=K i:=i1;have hu':Try.prog.underlying 27=K (.slice 41):=ko.hu;simp [go_sem,hu',sizeOf,typeInfo,F9,cutV]
 ·obtain⟨rfl,rfl,rfl⟩:so=K a/\sn=l.length/\sc=cap:=by simpa using hv
  refine⟨fun w=>by have h:=vL a f (f+k) l.length sc (Nat.le_add_right _ _) (Nat.le_trans hk h2) w; rwa [Nat.add_sub_cancel_left] at h,?_⟩;refine Or.inr ⟨(if sc=f then a else a.add (f * 7)),sc-f,?_,?_,by omega,fun j u hj=>?_⟩
  ·have e:((l.drop f).take k).length=k:=by rw [O,Q]; omega
   rw [e]
   rfl
  ·rw [O,Q]; omega
  ·have hlt:=(List.getElem?_eq_some_iff.1 hj).1;have hlen:(flat EN ((l.drop f).take k)).length=k * 7:=by
    rw [cB ko,O,Q];show _ * 7=_;rw [show min k (l.length-f)=k by omega]
   rw [hlen] at hlt;rw [if_neg (by omega),add_add];refine h4 _ u ?_;have e1:flat EN l=flat EN (l.take f)++(flat EN ((l.drop f).take k)++flat EN ((l.drop f).drop k)):=by
    rw [<- dP,Z,<- dP,Z]
   have e2:(flat EN (l.take f)).length=f * 7:=by
    rw [cB ko,O];show _ * 7=_;rw [show min f l.length=f by omega]
   rw [e1,List.getElem?_append_right (by rw [e2]; omega),e2,show f * 7+j-f * 7=j by omega,List.getElem?_append_left (by rw [hlen]; exact hlt)];exact hj
theorem kQ (m:List En) (t:dI):eT m t+(iV m t).length<=m.length:=by
 have h1:(iV m t).length<=(m.drop (eT m t)).length:=(V _).length_le;have h2:eT m t<=m.length:=(V _).length_le;rw [Q] at h1;omega
theorem mK (v:Sl) (l:List gq) (m:List En) (t:dI) (w:World) (hv:iY w (dz v) l) (hA:dJ (iT w) l m) (hr:fM m) (hl:l.length<=1000) :
  Calls Try.prog 45 #[dz v,lq t] w fun e w'=>e=.returned (dz (cutV v (eT m t) (iV m t).length))/\Below w.heap.size w w':=by
 have IY:=kQ m t;have Jy:l.length=m.length:=hA.len;obtain⟨f,hf⟩:∃ f,eT m t=f:=⟨_,rfl⟩;obtain⟨k,hk⟩:∃ k,(iV m t).length=k:=⟨_,rfl⟩;rw [hf,hk] at IY ⊢;have RC:=J ((tF hv f k (by omega)).1);obtain⟨so,n,sc⟩:=v;generalize cutV (so,n,sc) f k=z at RC ⊢;obtain⟨z1,z2,z3⟩:=z;have hn:l.length=n:=jf hv;obtain⟨c,d⟩:=t;obtain⟨h0,X,Y⟩:=eX w #[.slice so n sc] #[.int .i64 c,.int .i64 d] 27 23;have BB:=J h0;have HV:=J (hv.on h0);have HA:=J (hA.mono fun _ _ q=>q.on h0);have X1:=J X;have Y1:=J Y;have x0:=X.cell 0;simp only [List.getElem?_toArray,List.getElem?_cons_zero] at x0;have FL:∀ (i:Nat) (e:En),i<f->m[i]?=K e->dD e.tree (c,d)=true:=fun i e hi he=>yD (fun e:En=>dD e.tree (c,d)) m i e (by unfold eT at hf; omega) he;have FH:∀ (i:Nat) (e:En),f<=i->m[i]?=K e->dD e.tree (c,d)=false:=fun i e hi he=>by
  refine rR (c,d) hr e ?_;rw [<- mG];unfold eT at hf;rw [hf];exact List.mem_of_getElem? (show (m.drop f)[i-f]?=K e by rw [U,show f+(i-f)=i by omega]; exact he)
 have BL:=J (show ∀ (i:Nat) (e:En),i<k->m[f+i]?=K e->e.tree=(c,d) from fun i e hi he=>by
  have:=yD (fun e:En=>decide (e.tree=(c,d))) (m.drop f) i e (by unfold iV at hk; rw [hf] at hk; omega) (by rw [U]; exact he);exact of_decide_eq_true this)
 have BH:=J (show ∀ (e:En),m[f+k]?=K e->e.tree≠(c,d) from fun e he=>by
  have:=yE (fun e:En=>decide (e.tree=(c,d))) (m.drop f) e (by unfold iV at hk; rw [hf] at hk; rw [hk,U]; exact he);exact of_decide_eq_false this)
 have HF:=J (show ∀ i,i<n->∀ W,Below ((w.alloc (.cells #[.slice so n sc] 27)).alloc (.cells #[.int .i64 c,.int .i64 d] 23)).heap.size ((w.alloc (.cells #[.slice so n sc] 27)).alloc (.cells #[.int .i64 c,.int .i64 d] 23)) W ->
   Calls Try.prog 70 (#[.int .i64 i]++#[.pointer (K ⟨w.heap.size,0,aj⟩),.pointer (K ⟨w.heap.size+1,0,aj⟩)]) W fun e w'=>e=.returned (.bool ((fun i=>match l[i]? with | some y=>!dD (y.1,y.2.1) (c,d) | none=>true) i))/\Below W.heap.size W w' from fun i hi W hb=>by
  obtain⟨y,hy⟩:∃ y,l[i]?=K y:=⟨_,D (by omega)⟩;refine z8 i _ _ so n sc l (c,d) y _ W (HV.out.on hb) hn hy ?_ (X1.out.on hb) (Y1.out.on hb);simp only [hy])
 have Ev:=J (show ∀ i,i<f->(fun i=>match l[i]? with | some y=>!dD (y.1,y.2.1) (c,d) | none=>true) i=false from fun i hi=>by
  obtain⟨y,hy⟩:∃ y,l[i]?=K y:=⟨_,D (by omega)⟩;obtain⟨e,he,hke,hx⟩:=fO HA.out hy;have h1:=FL i e hi he;rw [<- hx.1] at h1;simp only [hy,h1]
  rfl)
 have Ew:=J (show ∀ i,f<=i->i<n->(fun i=>match l[i]? with | some y=>!dD (y.1,y.2.1) (c,d) | none=>true) i=true from fun i hi hi2=>by
  obtain⟨y,hy⟩:∃ y,l[i]?=K y:=⟨_,D (by omega)⟩;obtain⟨e,he,hke,hx⟩:=fO HA.out hy;have h1:=FH i e hi he;rw [<- hx.1] at h1;simp only [hy,h1]
  rfl)
 have HN:=J hn;have ln:n<=1000:=by omega
 have Jz:f+k<=n:=by omega
 clear hv hA h0 X Y hk hf hl hn hr IY Jy FL FH;go_enter Try.func45,Try.ntmps45;go_wp2_with fail;generalize (w.alloc (.cells #[.slice so n sc] 27)).alloc (.cells #[.int .i64 c,.int .i64 d] 23)=W at *;refine (mI 70 #[.pointer (K ⟨w.heap.size,0,aj⟩),.pointer (K ⟨w.heap.size+1,0,aj⟩)] zY n f _ W (by omega) HF.out (by omega) Ev.out Ew.out).mono ?_;rintro e1 w1 ⟨rfl,hb⟩;have B1:=J hb;clear x0 HF Ev Ew hb;go_wp2
 go_loopw [6] (fun i wr=>∃ j:Nat,j<=k/\i=.int .i64 ((f+j:Nat):Int)/\Below W.heap.size W wr) (fun i _=>f+k-(intOf i).toNat)
 case atStart=>exact⟨0,Nat.zero_le _,by simp,B1.out⟩
 case round =>
  obtain⟨j,hj,rfl,hbe⟩:=hrel;have BE:=J hbe;have a0:=cell_regrown (show wr.cell? ⟨w.heap.size,0,aj⟩=K (.slice so n sc) from (X1.out.on hbe).cell 0);have b0:=cell_regrown (show wr.cell? ⟨w.heap.size+1,0,aj⟩=K (.int .i64 c) from (Y1.out.on hbe).cell 0);have b1:=cell_regrown (show wr.cell? ⟨w.heap.size+1,1,aj⟩=K (.int .i64 d) from (Y1.out.on hbe).cell 1);have BN:=J (fun dq osq=>BE.out.trans ((below_regrown wr dq osq).mono BE.out.size));clear hbe;by_cases hjk:j<k
  ·obtain⟨y,hy⟩:∃ y,l[f+j]?=K y:=⟨_,D (by rw [HN.out]; omega)⟩;obtain⟨p,ix,p0,p1,p2,p3,p4,p5,p6⟩:=mJ HV.out rfl HN.out hy BE.out;obtain⟨e,he,_,hx⟩:=fO HA.out hy;have ht:(y.1,y.2.1)=(c,d):=hx.1.trans (BL.out j e hjk he);have hjn:f+j<n:=by omega
   have g4:decide (((f+j:Nat):Int)<(n:Int))=true:=by simp; omega
   have hw3:IntKind.i64.wrap (((f+j:Nat):Int)+1)=((f+(j+1):Nat):Int):=by rw [IntWalk.i64_in _ (by omega)]; omega
   obtain⟨y1,y2,y3,y4,⟨yo,yn,yc⟩,y6,y7⟩:=y;obtain⟨rfl,rfl⟩:y1=c/\y2=d:=by simpa using ht
   simp only at p0 p1;have e1:=uy y1 y2 y1 y2 true (by simp);clear p2 p3 p4 p5 p6 hy he hx ht;generalize hq:f+j=q at *;have HQ:=J hq;clear hq;go_wp2;refine wp_region_quiet_below (by kernel_rfl) (by kernel_rfl) ?_
   repeat (go_big_quiet_step (fail))
   refine wpQuiet_nil ?_;intro _ hw';obtain⟨⟨dq,osq⟩,hw''⟩:=hw';subst hw'';go_wp2
   go_roundw
   case rel=>exact⟨j+1,by omega,by rfl,BN.out _ _⟩
   case measure =>
    have hq:=HQ.out;simp [intOf];omega
  ·obtain rfl:j=k:=by omega
   have J2:=RC.out;by_cases hjn:f+j<n
   ·obtain⟨y,hy⟩:∃ y,l[f+j]?=K y:=⟨_,D (by rw [HN.out]; omega)⟩;obtain⟨p,ix,p0,p1,p2,p3,p4,p5,p6⟩:=mJ HV.out rfl HN.out hy BE.out;obtain⟨e,he,_,hx⟩:=fO HA.out hy;have ht:(y.1,y.2.1)≠(c,d):=fun q=>BH.out e he (hx.1.symm.trans q);have g4:decide (((f+j:Nat):Int)<(n:Int))=true:=by simp; omega
    obtain⟨y1,y2,y3,y4,⟨yo,yn,yc⟩,y6,y7⟩:=y;simp only at p0 p1;have e1:=uy y1 y2 c d false (Bool.eq_false_iff.2 fun h=>ht (by simp at h; rw [h.1,h.2]));clear p2 p3 p4 p5 p6 hy he hx ht;generalize f+j=q at *;go_wp2;refine wp_region_quiet_below (by kernel_rfl) (by kernel_rfl) ?_
    repeat (go_big_quiet_step (fail))
    refine wpQuiet_nil ?_;intro _ hw';obtain⟨⟨dq,osq⟩,hw''⟩:=hw';subst hw'';have a0:=a0 dq osq;go_wp2;go_ret;exact⟨rfl,BB.out.trans ((BN.out _ _).mono BB.out.size)⟩
   ·have g4:decide (((f+j:Nat):Int)<(n:Int))=false:=by simp; omega
    generalize f+j=q at *;go_wp2;refine wp_region_quiet_below (by kernel_rfl) (by kernel_rfl) ?_
    repeat (go_big_quiet_step (fail))
    refine wpQuiet_nil ?_;intro _ hw';obtain⟨⟨dq,osq⟩,hw''⟩:=hw';subst hw'';have a0:=a0 dq osq;go_wp2;go_ret;exact⟨rfl,BB.out.trans ((BN.out _ _).mono BB.out.size)⟩
end Go.Proofs.Ytkcfgbddlpomgaa.Sb
