/-
  Rows of messages to . Conditions as told.
-/
import Derived.Test.YtkcfgbddlpomgaaGreatDQ013
import Derived.Test.YtkcfgbddlpomgaaGreatDQ012
import Derived.BigRegion
import Derived.Test.YtkcfgbddlpomgaaGreatDQ014
set_option maxRecDepth 100000
set_option maxHeartbeats 64000000
open _root_.Go renaming cell_regrown->O,World->Y,bodyPost_ret->ay,Value->aB,Calls->aF,below_regrown->aK,redrawn->aM
open Go.Addr renaming add->ah
open Go.Ending renaming returned->Z
open Go.IntKind renaming i64->J
open Go.Lib renaming hid->K
open Go.Obj renaming cells->X
open Go.Proofs.Tryz renaming prog->Q,ntmps144->au,func144->aA,results143->aI
open Go.Value renaming int->D,slice->L,string->ak,bool->aC,pointer->aJ,agg->aL
open _root_.Nat renaming le_refl->aD
open _root_.Option renaming none->U,some->V,map_some->aH
open Option.some renaming inj->aj,injEq->aG
namespace Go.Proofs.YtkcfgbddlpomgaaGreat
namespace Bk
open Go.RowKit Go.Sort Rw YtkcfgbddlpomgaaGreat.Nm Pr
abbrev nC:=Int×Int×Int×Int×Int×Int×Sl×Sl
abbrev jQ (x:nC):List aB:=[D J x.1,D J x.2.1,D J x.2.2.1,D J x.2.2.2.1,D J x.2.2.2.2.1,D J x.2.2.2.2.2.1,dR x.2.2.2.2.2.2.1,dR x.2.2.2.2.2.2.2]
abbrev yS (x:nC):aB:=aL #[D J x.1,D J x.2.1,D J x.2.2.1,D J x.2.2.2.1,D J x.2.2.2.2.1,D J x.2.2.2.2.2.1,dR x.2.2.2.2.2.2.1,dR x.2.2.2.2.2.2.2]
def EU:Ek nC:=⟨58,44,8,96,aL #[D J 0,D J 0,D J 0,D J 0,D J 0,D J 0,L U 0 0,L U 0 0],yS,jQ⟩
theorem acT:(Tryz.prog.info? 58).map (fun i=>(i.zero,i.size,i.bytes))=V (V (aL #[D J 0,D J 0,D J 0,D J 0,D J 0,D J 0,L U 0 0,L U 0 0]),8,96):=by kernel_rfl
theorem acU (w:Y) (p:Addr) (x:nC) (h:∀ j u,(jQ x)[j]?=V u->w.cell? (p.add j)=V u):(Instr.loadAt 58 (aJ (V p))).run Q w=.ok (yS x) w:=by
 have h0:=h 0 _ rfl;have h1:=h 1 _ rfl;have h2:=h 2 _ rfl;have h3:=h 3 _ rfl;have h4:=h 4 _ rfl;have h5:=h 5 _ rfl;have h6:=h 6 _ rfl;have h7:=h 7 _ rfl;simp [ah] at h0 h1 h2 h3 h4 h5 h6 h7;simp [go_sem,h0,h1,h2,h3,h4,h5,h6,h7]
theorem Fx:EU.Ok where
 hu:=Tryz.underlying44
 info:=by
  have h:=acT;cases hi:Tryz.prog.info? 58 with
  | none=>rw [hi] at h; cases h
  | some i =>
   rw [hi] at h;simp only [aH,aG,Prod.mk.injEq] at h;exact⟨i,hi,h.1,h.2.1,h.2.2⟩
 zs:=rfl
 len:=fun _=>rfl
 one:=fun x u hu=>by
  simp only [EU,jQ,List.mem_cons,List.not_mem_nil,or_false] at hu;rcases hu with rfl|rfl|rfl|rfl|rfl|rfl|rfl|rfl <;> rfl
 pos:=by decide
 few:=by decide
 load:=fun w p x h=>acU w p x h
abbrev AX (W:Y) (v:aB) (l:List nC):Prop:=Row EU W v l
abbrev jd (W:Y) (B:Nat) (v:aB) (l:List nC):Prop:=Own EU W B v l
theorem elU {W:Y} {v:aB} {l:List nC} {ao:Option Addr} {n c k:Nat} {x:nC} (h:AX W v l) (hv:v=L ao n c) (hn:l.length=n) (hk:l[k]?=V x) :
  ∃ p:Addr,(∀ w,(Instr.indexAt 44 (L ao n c) (D J k)).run Q w=.ok (aJ (V p)) w)/\∀ w,Below W.heap.size W w->w.cell? p=V (D J x.1)/\w.cell? ⟨p.block,p.off+1,U⟩=V (D J x.2.1)/\w.cell? ⟨p.block,p.off+2,U⟩=V (D J x.2.2.1)/\w.cell? ⟨p.block,p.off+3,U⟩=V (D J x.2.2.2.1)/\w.cell? ⟨p.block,p.off+4,U⟩=V (D J x.2.2.2.2.1)/\w.cell? ⟨p.block,p.off+5,U⟩=V (D J x.2.2.2.2.2.1)/\w.cell? ⟨p.block,p.off+6,U⟩=V (dR x.2.2.2.2.2.2.1)/\w.cell? ⟨p.block,p.off+7,U⟩=V (dR x.2.2.2.2.2.2.2):=by
 obtain⟨p,h1,_,h2⟩:=mR Fx h hv hn hk;exact⟨p,h1,fun w hw=>⟨by simpa [ah] using h2 w hw 0 _ rfl,by simpa [ah] using h2 w hw 1 _ rfl,by simpa [ah] using h2 w hw 2 _ rfl,by simpa [ah] using h2 w hw 3 _ rfl,by simpa [ah] using h2 w hw 4 _ rfl,by simpa [ah] using h2 w hw 5 _ rfl,by simpa [ah] using h2 w hw 6 _ rfl,by simpa [ah] using h2 w hw 7 _ rfl⟩⟩
def lg (near:List Int) (but:Int) (f:Int->nC):List nC:=(near.filter fun n=>n != but).map f
theorem yT (me but k tc ts ic is:Int) (nv:Sl) (av sv ev ov:aB) (pv lv:Sl) (l:List Int) (w:Y) (hs:q8 w (dR nv) l) (hlen:l.length<=900) :
  aF Q 61 #[aL #[D J me,dR nv,av,sv,ev,ov],D J but,aL #[D J k,D J tc,D J ts,D J ic,D J is,dR pv,dR lv]] w fun e w'=>(∃ v:Sl,e=Z (dR v)/\jd w' w.heap.size (dR v) (lg l but fun n=>(n,k,tc,ts,ic,is,pv,lv)))/\Below w.heap.size w w':=by
 obtain⟨no,nn,nc⟩:=nv;obtain⟨po,pn,pc⟩:=pv;obtain⟨Eh,ln,lc⟩:=lv;obtain⟨q1,q2,hq⟩:=hs.len;obtain⟨rfl,hnn,rfl⟩:no=q1/\nn=l.length/\nc=q2:=by
  have h:L no nn nc=L q1 l.length q2:=hq;simpa using h
 clear hq;obtain⟨h0,h1,h2⟩:=gK w #[D J me,L no nn nc,av,sv,ev,ov] #[D J k,D J tc,D J ts,D J ic,D J is,L po pn pc,L Eh ln lc] 33 43;have B0:=K h0;have X5:=K h2;have HS:=K (hs.on h0);have HN:=K hnn;have c1:=h1.cell 1;simp only [List.getElem?_toArray,List.getElem?_cons_zero,List.getElem?_cons_succ] at c1;have nb:nn<=900:=by omega
 have W2:=K h2.lt;clear h0 h1 h2 hs hlen hnn;go_enter Tryz.func61,Tryz.ntmps61;go_upto_region 1 with fail;generalize (w.alloc (X #[D J me,L no nn nc,av,sv,ev,ov] 33)).alloc (X #[D J k,D J tc,D J ts,D J ic,D J is,L po pn pc,L Eh ln lc] 43)=W at *;go_wp2
 go_loopw [7,13] (fun v i wr=>∃ q:Nat,q<=nn/\i=D J q/\Below W.heap.size W wr/\jd wr W.heap.size v (lg (l.take q) but fun n=>(n,k,tc,ts,ic,is,(po,pn,pc),(Eh,ln,lc)))) (fun _ i _=>nn-(intOf i).toNat)
 case atStart=>exact⟨0,Nat.zero_le _,rfl,Below.refl _ _,fZ _ _⟩
 case round =>
  obtain⟨q,hq,rfl,hbe,hown⟩:=hrel;have BE:=K hbe;have OE:=K hown;clear hbe hown;by_cases hlt:q<nn
  ·obtain⟨y,hy⟩:∃ y,l[q]?=V y:=⟨_,List.getElem?_eq_getElem (by rw [<- HN.out]; exact hlt)⟩;obtain⟨p,ix,_,px⟩:=mR Nm.Jd HS.out rfl HN.out.symm hy;have p0:wr.cell? p=V (D J y):=by simpa [ah] using px wr BE.out 0 _ rfl
   have ix:∀ w,(Instr.indexAt 25 (L no nn nc) (D J q)).run Q w=.ok (aJ (V p)) w:=ix;have FS:=K (show lg (l.take (q+1)) but (fun n=>((n,k,tc,ts,ic,is,(po,pn,pc),(Eh,ln,lc)):nC))=lg (l.take q) but (fun n=>(n,k,tc,ts,ic,is,(po,pn,pc),(Eh,ln,lc)))++(if (y != but)=true then [(y,k,tc,ts,ic,is,(po,pn,pc),(Eh,ln,lc))] else []) by
    unfold lg;rw [uM l q y _ hy,List.map_append];cases y != but <;> rfl)
   have hw3:IntKind.i64.wrap ((q:Int)+1)=(q:Int)+1:=IntWalk.i64_in _ (by omega);obtain⟨r,hr⟩:∃ r,(y != but)=r:=⟨_,rfl⟩;rw [hr] at FS;clear px hy;cases r
   ·go_wp2
    go_roundw
    case rel=>exact⟨q+1,by omega,by go_num,BE.out,by
     rw [FS.out];simpa using OE.out⟩
    case measure=>simp [intOf]; omega
   ·have x_:=X5.out.on BE.out;obtain⟨x0,x1,x2,x3,x4,x5,x6⟩:=x_.mU;have NB:=K (fE wr (X #[D J y,D J k,D J tc,D J ts,D J ic,D J is,L po pn pc,L Eh ln lc] 58));have hlit:=gT Fx wr [(y,k,tc,ts,ic,is,(po,pn,pc),(Eh,ln,lc))] 1 rfl (by simp) #[D J y,D J k,D J tc,D J ts,D J ic,D J is,L po pn pc,L Eh ln lc] rfl;have o2:=dB OE.out NB.out;have hB:W.heap.size<=(wr.alloc (X #[D J y,D J k,D J tc,D J ts,D J ic,D J is,L po pn pc,L Eh ln lc] 58)).heap.size:=by have h1:=BE.out.size; simp; omega
    obtain⟨v',w',r',o',gr⟩:=fT Fx W.heap.size o2 (Row.dx hlit) (by
     unfold lg;rw [List.length_map];have h1:=List.length_filter_le (fun n=>n != but) (l.take q);rw [List.length_take] at h1;omega) (by simp) hB 44
    have r':(Builtin.append_ #[44,44] 44 #[u7,L (V ⟨wr.heap.size,0,U⟩) 1 1]).run Q (wr.alloc (X #[D J y,D J k,D J tc,D J ts,D J ic,D J is,L po pn pc,L Eh ln lc] 58))=.ok v' w':=by
     simpa [EU] using r'
    have BG:=K ((BE.out.trans (NB.out.mono BE.out.size)).grown gr hB fun j hj=>(o2.lt j hj).1);have OG:=K o';clear hlit o2 hB o' gr OE x_;go_wp2_with (first | (at_builtin; refine wpList_append_run rfl _ _ 44 rfl rfl rfl r' ?_) | fail)
    go_roundw
    case rel=>exact⟨q+1,by omega,by go_num,BG.out,by
     rw [FS.out];simpa using OG.out⟩
    case measure=>simp [intOf]; omega
  ·obtain rfl:nn=q:=by omega
   have e:l.take nn=l:=List.take_of_length_le (by have:=HN.out; omega);rw [e] at OE;obtain⟨Aw,Ay,hv⟩:=(Row.dx OE.out).len;subst hv;clear e;go_wp2;go_ret;exact⟨⟨(Aw,_,Ay),rfl,dG OE.out (by have:=W2.out; omega)⟩,B0.out.trans (BE.out.mono B0.out.size)⟩
end Bk
namespace Rl
open Go.RowKit Pu Rw Pr
def EA:Ek An:=⟨97,39,4,48,aL #[ak ⟨#[]⟩,aC false,D J 0,ak ⟨#[]⟩],At.av,At.yH⟩
theorem aaW:(Tryz.prog.info? 97).map (fun i=>(i.zero,i.size,i.bytes))=V (V (aL #[ak ⟨#[]⟩,aC false,D J 0,ak ⟨#[]⟩]),4,48):=by kernel_rfl
theorem Nz (w:Y) (p:Addr) (c:An) (h:∀ j u,(At.yH c)[j]?=V u->w.cell? (p.add j)=V u):(Instr.loadAt 97 (aJ (V p))).run Q w=.ok (At.av c) w:=by
 have h0:=h 0 _ rfl;have h1:=h 1 _ rfl;have h2:=h 2 _ rfl;have h3:=h 3 _ rfl;simp [ah] at h0 h1 h2 h3;simp [go_sem,h0,h1,h2,h3]
theorem okA:EA.Ok where
 hu:=Tryz.underlying39
 info:=by
  have h:=aaW;cases hi:Tryz.prog.info? 97 with
  | none=>rw [hi] at h; cases h
  | some i =>
   rw [hi] at h;simp only [aH,aG,Prod.mk.injEq] at h;exact⟨i,hi,h.1,h.2.1,h.2.2⟩
 zs:=rfl
 len:=fun _=>rfl
 one:=fun x u hu=>by
  simp only [EA,At.yH,List.mem_cons,List.not_mem_nil,or_false] at hu;rcases hu with rfl|rfl|rfl|rfl <;> rfl
 pos:=by decide
 few:=by decide
 load:=fun w p x h=>Nz w p x h
abbrev sZ (W:Y) (v:aB) (l:List An):Prop:=Row EA W v l
abbrev Ei (W:Y) (B:Nat) (v:aB) (l:List An):Prop:=Own EA W B v l
theorem Ej:∀ l:List An,flat EA l=At.kY l
 | []=>rfl
 | x::r=>by
  rw [flat,Ej r]
  rfl
theorem yU {W:Y} {v:aB} {l:List An}:At.uL W v l↔sZ W v l:=by
 unfold At.uL sZ Row;rw [Ej]
theorem aaX {W:Y} {B:Nat} {v:aB} {l:List An} (h:W.ownsRow B 97 4 v l.length (At.kY l)):Ei W B v l:=by
 show W.ownsRow B 97 4 v l.length (flat EA l);rw [Ej];exact h
structure NL (l:List An):Prop where
 rise:l.Pairwise fun x y=>Op.bytesLess x.1.toList y.1.toList=true
 five:l.length<=5
 small:∀ x∈l,x.1.size<=100/\x.2.2.2.size<=100
theorem NL.nodup {l:List An} (h:NL l):(l.map (·.1)).Nodup:=by
 rw [List.Nodup,List.pairwise_map];exact h.rise.imp fun h=>D7 h
theorem NA {p:List Cn} {l:List An} (h:(l.map (·.1)).Nodup):vW p l=p.all fun c=>match l.find? fun a=>decide (a.1=c.1) with
  | some a=>dX c.2 a.2
  | none=>false:=by
 unfold vW
 congr 1
 funext c
 cases hf:l.find? fun a=>decide (a.1=c.1) with
 | none =>
  rw [List.any_eq_false];intro a ha;have:=List.find?_eq_none.1 hf a ha;simp only [decide_eq_true_eq] at this;simp [this]
 | some a =>
  have hm:=List.mem_of_find?_eq_some hf;have he:a.1=c.1:=by simpa using List.find?_some hf
  rw [Bool.eq_iff_iff,List.any_eq_true];constructor
  ·rintro⟨b,hb,h2⟩;simp only [Bool.and_eq_true,decide_eq_true_eq] at h2;rw [uniq h hm hb (he.trans h2.1.symm)];exact h2.2
  ·intro h2;exact⟨a,hm,by simp [he,h2]⟩
end Rl
namespace Rl
open Go.RowKit Pu Rw Pr Va
end Rl
namespace Bk
open Go.RowKit Go.Sort Rw YtkcfgbddlpomgaaGreat.Nm Pr
abbrev QO (W:Y) (b:Nat) (a0 a1 a2 a3 a4 a5 a6:aB):Y:=((((((W.setCell ⟨b,0,U⟩ a0).setCell ⟨b,1,U⟩ a1).setCell ⟨b,2,U⟩ a2).setCell ⟨b,3,U⟩ a3).setCell ⟨b,4,U⟩ a4).setCell ⟨b,5,U⟩ a5).setCell ⟨b,6,U⟩ a6
theorem Ck {W:Y} {b:Nat} {t:TypeId} {z0 z1 z2 z3 z4 z5 z6:aB} (h:dJ W b #[z0,z1,z2,z3,z4,z5,z6] t) (a0 a1 a2 a3 a4 a5 a6:aB):dJ (QO W b a0 a1 a2 a3 a4 a5 a6) b #[a0,a1,a2,a3,a4,a5,a6] t:=by
 have h2:=dN (k:=6) (dN (k:=5) (dN (k:=4) (dN (k:=3) (dN (k:=2) (dN (k:=1) (dN (k:=0) h a0) a1) a2) a3) a4) a5) a6;simp only [List.setIfInBounds_toArray,List.set_cons_zero,List.set_cons_succ] at h2;exact h2
theorem xZ (z:iA) (w:Y):aF Q 58 #[qR z] w fun e w'=>e=Z (aL #[D J 3,D J z.1,D J z.2.1,D J z.2.2.1,D J z.2.2.2.1,dR z.2.2.2.2.1,L U 0 0])/\Below w.heap.size w w':=by
 obtain⟨c,d,g,h,⟨po,pn,pc⟩,fr,up⟩:=z;obtain⟨h0,h1,h2⟩:=gK w #[D J c,D J d,D J g,D J h,L po pn pc,D J fr,aC up] #[D J 0,D J 0,D J 0,D J 0,D J 0,L U 0 0,L U 0 0] 68 43;obtain⟨x0,x1,x2,x3,x4,x5,x6⟩:=h1.mU;obtain⟨r0,r1,r2,r3,r4,r5,r6⟩:=h2.mU;obtain⟨t0,t1,t2,t3,t4,t5,t6⟩:=h2.fs7;have zz:=h2.lt;have FB:=K (Ck h2 (D J 3) (D J c) (D J d) (D J g) (D J h) (L po pn pc) (L U 0 0));have BL:=K ((((((((h0.setCell (p:=⟨w.heap.size+1,0,U⟩) (by show w.heap.size<=w.heap.size+1; omega) (D J 3)).setCell (p:=⟨w.heap.size+1,1,U⟩) (by show w.heap.size<=w.heap.size+1; omega) (D J c)).setCell (p:=⟨w.heap.size+1,2,U⟩) (by show w.heap.size<=w.heap.size+1; omega) (D J d)).setCell (p:=⟨w.heap.size+1,3,U⟩) (by show w.heap.size<=w.heap.size+1; omega) (D J g)).setCell (p:=⟨w.heap.size+1,4,U⟩) (by show w.heap.size<=w.heap.size+1; omega) (D J h)).setCell (p:=⟨w.heap.size+1,5,U⟩) (by show w.heap.size<=w.heap.size+1; omega) (L po pn pc)).setCell (p:=⟨w.heap.size+1,6,U⟩) (by show w.heap.size<=w.heap.size+1; omega) (L U 0 0)));clear h0 h1 h2;show aF Q 58 #[aL #[D J c,D J d,D J g,D J h,L po pn pc,D J fr,aC up]] w _;go_enter Tryz.func58,Tryz.ntmps58;go_upto_region 1 with fail;generalize (w.alloc (X #[D J c,D J d,D J g,D J h,L po pn pc,D J fr,aC up] 68)).alloc (X #[D J 0,D J 0,D J 0,D J 0,D J 0,L U 0 0,L U 0 0] 43)=W at *;go_wp2_with fail;obtain⟨v0,v1,v2,v3,v4,v5,v6⟩:=FB.out.mU;refine ay (v:=aL #[D J 3,D J c,D J d,D J g,D J h,L po pn pc,L U 0 0]) (by simp [results,Tryz.results58,go_sem,v0,v1,v2,v3,v4,v5,v6]) rfl ?_;exact⟨rfl,BL.out⟩
end Bk
namespace Pr
open Go.RowKit Go.Sort Pu Rw Va
theorem ND (s:ByteArray) (w:Y) :
  aF Q 145 #[ak s] w fun e w'=>e=Z (vl true 0 s)/\Below w.heap.size w w':=by
 go_enter Tryz.func145,Tryz.ntmps145;go_wp2;exact ay (v:=vl true 0 s) (by simp [results,Tryz.results145,go_sem]) rfl ⟨rfl,(Below.refl _ _).alloc (aD _) _⟩
theorem Gj (s:ByteArray) (w:Y) (d:Nat) (os:Array Obj) :
  aF Q 145 #[ak s] (grow (aM w d) os) fun e w''=>e=Z (vl true 0 s)/\∃ p:Regrown,w''=grow (aM w p.d) p.os :=
 Calls.regrown_of (ND _ _)
theorem Cm (c:Cn) (s:ByteArray) (r:Bool) (hr:dX c.2 (true,0,s)=r) (w:Y) (d:Nat) (os:Array Obj) :
  aF Q 45 #[cv (r5 c),vl true 0 s] (grow (aM w d) os) fun e w''=>e=Z (aC r)/\∃ p:Regrown,w''=grow (aM w p.d) p.os:=by
 subst hr;exact Calls.regrown_of (Ce _ _ _ _ _)
def iE:Kd->Kd->Bool
 | .pr s,.pr t=>pfx t s
 | .tx s,k=>dX k (true,0,s)
 | _,_=>false
theorem QT (w:Y) (c d:C5):dJ ((w.alloc (X (cells5 c).toArray 106)).alloc (X (cells5 d).toArray 106)) w.heap.size (cells5 c).toArray 106/\dJ ((w.alloc (X (cells5 c).toArray 106)).alloc (X (cells5 d).toArray 106)) (w.heap.size+1) (cells5 d).toArray 106/\Below w.heap.size w ((w.alloc (X (cells5 c).toArray 106)).alloc (X (cells5 d).toArray 106)):=by
 refine⟨(dL w _ _).more _,?_,((Below.refl w.heap.size w).alloc (aD _) _).alloc (by simp) _⟩;have h:=dL (w.alloc (X (cells5 c).toArray 106)) (cells5 d).toArray 106
 rwa [show (w.alloc (X (cells5 c).toArray 106)).heap.size=w.heap.size+1 by simp] at h
theorem NG (na nb:ByteArray) (s:ByteArray) (kb:Kd) (w:Y):aF Q 144 #[cv (r5 (na,.tx s)),cv (r5 (nb,kb))] w fun e w'=>e=Z (aC (iE (.tx s) kb))/\Below w.heap.size w w':=by
 obtain⟨ba,bb,hb⟩:=QT w (r5 (na,.tx s)) (r5 (nb,kb));have BA:=K ba;have BB:=K bb;have B:=K hb;have H:=Cm (nb,kb) s _ rfl;have C:=Gj s;have R:=K (show iE (.tx s) kb=dX kb (true,0,s) from rfl);generalize iE (.tx s) kb=r at *;simp only [r5] at H ⊢;clear ba bb hb;go_enter aA,au;go_wp2;have HH:=K H;have CC:=K C;clear H C;change Code.wp _ _ _ _ ((w.alloc (X (cells5 (r5 (na,.tx s))).toArray 106)).alloc (X (cells5 (r5 (nb,kb))).toArray 106));generalize (w.alloc (X (cells5 (r5 (na,.tx s))).toArray 106)).alloc (X (cells5 (r5 (nb,kb))).toArray 106)=W at *;have a4:=O (show W.cell? ⟨w.heap.size,4,U⟩=V (ak s) from BA.out.cell 4);have b0:=O (show W.cell? ⟨w.heap.size+1,0,U⟩=V (ak nb) from BB.out.cell 0);have b1:=O (show W.cell? ⟨w.heap.size+1,1,U⟩=V (D J (kN kb)) from BB.out.cell 1);have b2:=O (show W.cell? ⟨w.heap.size+1,2,U⟩=V (D J (jk kb)) from BB.out.cell 2);have b3:=O (show W.cell? ⟨w.heap.size+1,3,U⟩=V (D J (jl kb)) from BB.out.cell 3);have b4:=O (show W.cell? ⟨w.heap.size+1,4,U⟩=V (ak (kT kb)) from BB.out.cell 4);refine wp_region_quiet_below (by kernel_rfl) (by kernel_rfl) ?_
 repeat (go_big_quiet_step (first | (with_reducible exact CC.out _ _ _) | (with_reducible exact HH.out _ _ _)))
 refine wpQuiet_nil ?_;intro _ hw';obtain⟨⟨dq,osq⟩,hw''⟩:=hw';subst hw'';have BZ:=K (B.out.trans ((aK W dq osq).mono B.out.size));clear a4 b0 b1 b2 b3 b4;go_wp2;go_ret;exact⟨eD R.out.symm,BZ.out⟩
theorem NH (na nb:ByteArray) (s:ByteArray) (t:ByteArray) (w:Y):aF Q 144 #[cv (r5 (na,.pr s)),cv (r5 (nb,.pr t))] w fun e w'=>e=Z (aC (iE (.pr s) (.pr t)))/\Below w.heap.size w w':=by
 obtain⟨ba,bb,hb⟩:=QT w (r5 (na,.pr s)) (r5 (nb,.pr t));have BA:=K ba;have BB:=K bb;have B:=K hb;have H:=Cm (nb,.pr t) s _ rfl;have C:=Gj s;have R:=K (show iE (.pr s) (.pr t)=dX (.pr t) (true,0,s) by simp only [iE,dX,Bool.true_and]);generalize iE (.pr s) (.pr t)=r at *;simp only [r5] at H ⊢;clear ba bb hb;go_enter aA,au;go_wp2;have HH:=K H;have CC:=K C;clear H C;change Code.wp _ _ _ _ ((w.alloc (X (cells5 (r5 (na,.pr s))).toArray 106)).alloc (X (cells5 (r5 (nb,.pr t))).toArray 106));generalize (w.alloc (X (cells5 (r5 (na,.pr s))).toArray 106)).alloc (X (cells5 (r5 (nb,.pr t))).toArray 106)=W at *;have a4:=O (show W.cell? ⟨w.heap.size,4,U⟩=V (ak s) from BA.out.cell 4);have b0:=O (show W.cell? ⟨w.heap.size+1,0,U⟩=V (ak nb) from BB.out.cell 0);have b1:=O (show W.cell? ⟨w.heap.size+1,1,U⟩=V (D J (kN (.pr t))) from BB.out.cell 1);have b2:=O (show W.cell? ⟨w.heap.size+1,2,U⟩=V (D J (jk (.pr t))) from BB.out.cell 2);have b3:=O (show W.cell? ⟨w.heap.size+1,3,U⟩=V (D J (jl (.pr t))) from BB.out.cell 3);have b4:=O (show W.cell? ⟨w.heap.size+1,4,U⟩=V (ak (kT (.pr t))) from BB.out.cell 4);refine wp_region_quiet_below (by kernel_rfl) (by kernel_rfl) ?_
 repeat (go_big_quiet_step (first | (with_reducible exact CC.out _ _ _) | (with_reducible exact HH.out _ _ _)))
 refine wpQuiet_nil ?_;intro _ hw';obtain⟨⟨dq,osq⟩,hw''⟩:=hw';subst hw'';have BZ:=K (B.out.trans ((aK W dq osq).mono B.out.size));clear a4 b0 b1 b2 b3 b4;go_wp2;go_ret;exact⟨eD R.out.symm,BZ.out⟩
theorem wB (na nb:ByteArray) (ka kb:Kd) (w:Y) (h:(∃ lo hi,ka=.rg lo hi)\/(∃ s,ka=.pr s)/\¬ ∃ t,kb=.pr t):aF Q 144 #[cv (r5 (na,ka)),cv (r5 (nb,kb))] w fun e w'=>e=Z (aC (iE ka kb))/\Below w.heap.size w w':=by
 have B:=K (QT w (r5 (na,ka)) (r5 (nb,kb))).2.2;rcases h with⟨lo,hi,rfl⟩|⟨⟨s,rfl⟩,h⟩
 ·have R:=K (show iE (.rg lo hi) kb=false from rfl);generalize iE (.rg lo hi) kb=r at *;simp only [r5];go_enter aA,au;go_wp2;go_ret;exact⟨eD R.out.symm,B.out⟩
 ·have R:=K (show iE (.pr s) kb=false by
   cases kb with
   | pr t=>exact absurd ⟨t,rfl⟩ h
   | _=>rfl)
  have e:((kN kb) != (3:Int))=true:=by
   cases kb with
   | pr t=>exact absurd ⟨t,rfl⟩ h
   | _=>rfl
  generalize iE (.pr s) kb=r at *;clear h;simp only [r5];go_enter aA,au;go_wp2;go_ret;exact⟨eD R.out.symm,B.out⟩
theorem yV (a b:Cn) (w:Y):aF Q 144 #[cv (r5 a),cv (r5 b)] w fun e w'=>e=Z (aC (iE a.2 b.2))/\Below w.heap.size w w':=by
 obtain⟨na,ka⟩:=a;obtain⟨nb,kb⟩:=b;cases ka with
 | rg lo hi=>exact wB na nb _ kb w (Or.inl ⟨lo,hi,rfl⟩)
 | tx s=>exact NG na nb s kb w
 | pr s =>
  cases kb with
  | pr t=>exact NH na nb s t w
  | rg lo hi=>exact wB na nb _ _ w (Or.inr ⟨⟨s,rfl⟩,by rintro⟨t,h⟩; cases h⟩)
  | tx t=>exact wB na nb _ _ w (Or.inr ⟨⟨s,rfl⟩,by rintro⟨t',h⟩; cases h⟩)
def KF (n:ByteArray) (r:Option Kd) (w:Y) (e:Ending) (w':Y):Prop:=(∃ x,e=Z (.tuple #[cv x,aC r.isSome])/\∀ k,r=V k->x=r5 (n,k))/\Below w.heap.size w w'
theorem b3 (w:Y) (o p q:Obj):Below w.heap.size w (((w.alloc o).alloc p).alloc q):=(((Below.refl w.heap.size w).alloc (aD _) _).alloc (by simp) _).alloc (by simp; omega) _
theorem Gl (na nb:ByteArray) (a b c d:Int) (w:Y):aF Q 143 #[cv (na,1,a,b,⟨#[]⟩),cv (nb,1,c,d,⟨#[]⟩)] w (KF na (fu (.rg a b) (.rg c d)) w):=by
 have R:=K (show fu (.rg a b) (.rg c d)=if max a c<=min b d then V (.rg (max a c) (min b d)) else U from rfl);generalize fu (.rg a b) (.rg c d)=r at *;go_enter Tryz.func143,Tryz.ntmps143;go_wp2_with fail
 go_region
 have e1:(if a<c then c else a)=max a c:=by split <;> omega
 have e2:(if d<b then d else b)=min b d:=by split <;> omega
 try rw [e1]
 try rw [e2]
 clear e1 e2;generalize max a c=M at R ⊢;generalize min b d=N at R ⊢;by_cases h:M<=N
 ·have h1:¬ N<M:=by omega
  have R2:=K (show r=V (.rg M N) by rw [R.out,if_pos h]);clear h;go_wp2;refine ay (v:=.tuple #[cv (na,1,M,N,⟨#[]⟩),aC true]) (by simp [results,aI,go_sem]) rfl ?_;refine⟨⟨(na,1,M,N,⟨#[]⟩),by rw [R2.out]; rfl,fun k hk=>?_⟩,(b3 w _ _ _).drew⟩;rw [R2.out] at hk;rw [<- aj hk]
  rfl
 ·have h1:N<M:=by omega
  have R2:=K (show r=U by rw [R.out,if_neg h]);clear h;go_wp2;refine ay (v:=.tuple #[cv (⟨#[]⟩,0,0,0,⟨#[]⟩),aC false]) (by simp [results,aI,go_sem]) rfl ?_;refine⟨⟨(⟨#[]⟩,0,0,0,⟨#[]⟩),by rw [R2.out]; rfl,fun k hk=>?_⟩,(b3 w _ _ _).drew⟩;rw [R2.out] at hk;cases hk
theorem yg (a b:Kd):fu a b=(match a,b with
 | .rg p q,.rg r t=>if max p r<=min q t then V (.rg (max p r) (min q t)) else U
 | a,b=>if iE a b then V a else if iE b a then V b else U):=by
 cases a <;> cases b <;> simp [fu,iE,dX]
 ·rename_i s t
  by_cases h:s.data=t.data
  ·rw [if_pos h,if_pos h]
  ·rw [if_neg h,if_neg h,if_neg (fun e=>h e.symm)]
 ·rename_i s t
  by_cases h1:pfx s t=true <;> by_cases h2:pfx t s=true <;> simp [h1,h2];have e1:=(fI _ _).1 h1;have e2:=(fI _ _).1 h2;rw [ru (e2.eq_of_length_le e1.length_le)]
end Pr
namespace Rl
open Go.RowKit Pu Pr
def jh:List Cn->List Cn->Option (List Cn)
 | m,[]=>V m
 | m,c::r=>match qA m c with
  | none=>U
  | some n=>jh n r
theorem Co:∀ (r m p:List Cn),mX m->jh m r=V p->m.length<=p.length/\mX p
 | [],m,p,hm,h=>by
  obtain rfl:=aj h;exact⟨aD _,hm⟩
 | c::r,m,p,hm,h=>by
  simp only [jh] at h;cases hi:qA m c with
  | none=>rw [hi] at h; cases h
  | some n =>
   rw [hi] at h;have e1:=yG m c n hm hi;obtain⟨e2,e3⟩:=Co r n p (jU m c n hm hi).1 h;exact⟨by omega,e3⟩
theorem yh:∀ (r m p:List Cn) (at_:Nat),mX m->m.length<=5->(yC at_ m r=.ok p↔jh m r=V p/\p.length<=5)
 | [],m,p,at_,_,h5=>by
  simp only [yC,jh];constructor
  ·intro h;injection h with h
   subst h;exact⟨rfl,h5⟩
  ·rintro⟨h,_⟩;rw [aj h]
 | c::r,m,p,at_,hm,h5=>by
  simp only [yC,jh];cases hi:qA m c with
  | none =>
   constructor
   ·intro h; cases h
   ·rintro⟨h,_⟩; cases h
  | some n =>
   simp only;have hn:=(jU m c n hm hi).1;by_cases h6:5<n.length
   ·rw [if_pos h6];constructor
    ·intro h; cases h
    ·rintro⟨h,h7⟩;have:=(Co r n p hn h).1;omega
   ·rw [if_neg h6];exact yh r n p (at_+1) hn (by omega)
theorem uP:∀ (a b m m':List Cn),jh m a=V m'->jh m (a++b)=jh m' b
 | [],b,m,m',h=>by
  obtain rfl:=aj h
  rfl
 | c::r,b,m,m',h=>by
  simp only [List.cons_append,jh] at h ⊢;cases hi:qA m c with
  | none=>rw [hi] at h; cases h
  | some n =>
   rw [hi] at h;exact uP r b n m' h
theorem Cq:∀ (p m:List Cn),mX (m++p)->jh m p=V (m++p)
 | [],m,_=>by simp [jh]
 | c::r,m,h=>by
  have h1:∀ x∈m,Op.bytesLess x.1.toList c.1.toList=true:=fun x hx=>(List.pairwise_append.1 h).2.2 x hx c (List.mem_cons_self ..);simp only [jh];rw [Kn m c h1];simp only;rw [Cq r (m++[c]) (by simpa using h)];simp
theorem QU {a b:List Cn} (ha:mX a):jh [] (a++b)=jh a b:=uP a b [] a (by simpa using Cq a [] (by simpa using ha))
theorem QV {a b:List Cn} (ha:mX a) (h5:a.length<=5):yF a b=match jh a b with
  | some p=>decide (p.length<=5)
  | none=>false:=by
 unfold yF;cases h:jh a b with
 | none =>
  cases h2:yC a.length a b with
  | ok p =>
   have:=(yh b a p a.length ha h5).1 h2;rw [h] at this;cases this.1
  | error e=>rfl
 | some p =>
  by_cases h6:p.length<=5
  ·rw [(yh b a p a.length ha h5).2 ⟨h,h6⟩];simp [h6]
  ·cases h2:yC a.length a b with
   | ok q =>
    have h3:=(yh b a q a.length ha h5).1 h2;rw [h] at h3;obtain rfl:=aj h3.1;exact absurd h3.2 h6
   | error e=>simp [h6]
end Rl
namespace Pr
open Go.RowKit Go.Sort Pu Rw
end Pr
namespace Pr
open Go.RowKit Go.ChangeShapes Go.WideShapes In
theorem aaY:Tryz.prog.cellsOf 72=2:=by kernel_rfl
theorem El:Tryz.prog.cellsOf 25=1:=by kernel_rfl
end Pr
end Go.Proofs.YtkcfgbddlpomgaaGreat
