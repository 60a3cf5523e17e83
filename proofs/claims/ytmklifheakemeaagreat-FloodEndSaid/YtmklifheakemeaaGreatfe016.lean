/-
  Rows of messages to . Conditions as told.
-/
import Derived.Test.YtmklifheakemeaaGreatfe013
import Derived.Test.YtmklifheakemeaaGreatfe015
set_option maxRecDepth 100000
set_option maxHeartbeats 64000000
open _root_.Go renaming Value->aF,World->aG,Addr->aJ,wpOp->bL
open Go.Addr renaming add->aL
open Go.IntKind renaming i64->ak
open Go.IntWalk renaming i64_in->aP
open Go.Lib renaming hid->L
open Go.Obj renaming cells->aK
open Go.Operand renaming tmp->au
open Go.Proofs.Tryz renaming prog->aI,results29->aZ,func123->bg
open Go.Proofs.YtmklifheakemeaaGreat.Rg renaming dD->aD,get_put->aO,dR->aQ,dN->aR,dX->aU,fH->aW,gU->aX,fP->aY,size_put->bD,gy->bF,oJ->bG,fQ->bI,jl->bK,gI->bM
open Go.RowKit.Below renaming refl->ah,heap_setCell->aH
open Go.Value renaming slice->J,pointer->O,int->aj,agg->bn,bool->bR
open _root_.List renaming getElem?_toArray->U,getElem?_cons_zero->V,getElem?_cons_succ->X,getElem?_eq_getElem->ay,getElem?_eq_some_iff->aA,take_of_length_le->aC,mem_of_getElem?->aM
open _root_.Nat renaming zero_le->aS,le_refl->aT,lt_of_le_of_lt->aV,le_of_lt->bf
open _root_.Option renaming some->Y,none->Z
open Option.some renaming inj->aN,injEq->bH
open _root_.Or renaming inr->aB,inl->bP
namespace Go.Proofs.YtmklifheakemeaaGreat
namespace Bk
open Go.RowKit Go.Sort Rw YtmklifheakemeaaGreat.Nm Pr
abbrev mO:=Int×Int×Int×Int×Int×Int×Sl×Sl
abbrev kV (x:mO):List aF:=[aj ak x.1,aj ak x.2.1,aj ak x.2.2.1,aj ak x.2.2.2.1,aj ak x.2.2.2.2.1,aj ak x.2.2.2.2.2.1,dU x.2.2.2.2.2.2.1,dU x.2.2.2.2.2.2.2]
abbrev wM (x:mO):aF:=bn #[aj ak x.1,aj ak x.2.1,aj ak x.2.2.1,aj ak x.2.2.2.1,aj ak x.2.2.2.2.1,aj ak x.2.2.2.2.2.1,dU x.2.2.2.2.2.2.1,dU x.2.2.2.2.2.2.2]
def EU:Ek mO:=⟨43,35,8,96,bn #[aj ak 0,aj ak 0,aj ak 0,aj ak 0,aj ak 0,aj ak 0,J Z 0 0,J Z 0 0],wM,kV⟩
theorem aem:(Tryz.prog.info? 43).map (fun i=>(i.zero,i.size,i.bytes))=Y (Y (bn #[aj ak 0,aj ak 0,aj ak 0,aj ak 0,aj ak 0,aj ak 0,J Z 0 0,J Z 0 0]),8,96):=by kernel_rfl
theorem aen (w:aG) (p:aJ) (x:mO) (h:∀ j u,(kV x)[j]?=Y u->w.cell? (p.add j)=Y u):(Instr.loadAt 43 (O (Y p))).run aI w=.ok (wM x) w:=by
 have h0:=h 0 _ rfl;have h1:=h 1 _ rfl;have h2:=h 2 _ rfl;have h3:=h 3 _ rfl;have h4:=h 4 _ rfl;have h5:=h 5 _ rfl;have h6:=h 6 _ rfl;have h7:=h 7 _ rfl;simp [aL] at h0 h1 h2 h3 h4 h5 h6 h7;simp [go_sem,h0,h1,h2,h3,h4,h5,h6,h7]
theorem D7:EU.Ok where
 hu:=Tryz.underlying35
 info:=by
  have h:=aem;cases hi:Tryz.prog.info? 43 with
  | none=>rw [hi] at h; cases h
  | some i =>
   rw [hi] at h;simp only [Option.map_some,bH,Prod.mk.injEq] at h;exact⟨i,hi,h.1,h.2.1,h.2.2⟩
 zs:=rfl
 len:=fun _=>rfl
 one:=fun x u hu=>by
  simp only [EU,kV,List.mem_cons,List.not_mem_nil,or_false] at hu;rcases hu with rfl|rfl|rfl|rfl|rfl|rfl|rfl|rfl <;> rfl
 pos:=by decide
 few:=by decide
 load:=fun w p x h=>aen w p x h
abbrev Qh (W:aG) (v:aF) (l:List mO):Prop:=Row EU W v l
abbrev jI (W:aG) (B:Nat) (v:aF) (l:List mO):Prop:=Own EU W B v l
theorem elU {W:aG} {v:aF} {l:List mO} {ao:Option aJ} {n c k:Nat} {x:mO} (h:Qh W v l) (hv:v=J ao n c) (hn:l.length=n) (hk:l[k]?=Y x) :
  ∃ p:aJ,(∀ w,(Instr.indexAt 35 (J ao n c) (aj ak k)).run aI w=.ok (O (Y p)) w)/\∀ w,Below W.heap.size W w->w.cell? p=Y (aj ak x.1)/\w.cell? ⟨p.block,p.off+1,Z⟩=Y (aj ak x.2.1)/\w.cell? ⟨p.block,p.off+2,Z⟩=Y (aj ak x.2.2.1)/\w.cell? ⟨p.block,p.off+3,Z⟩=Y (aj ak x.2.2.2.1)/\w.cell? ⟨p.block,p.off+4,Z⟩=Y (aj ak x.2.2.2.2.1)/\w.cell? ⟨p.block,p.off+5,Z⟩=Y (aj ak x.2.2.2.2.2.1)/\w.cell? ⟨p.block,p.off+6,Z⟩=Y (dU x.2.2.2.2.2.2.1)/\w.cell? ⟨p.block,p.off+7,Z⟩=Y (dU x.2.2.2.2.2.2.2):=by
 obtain⟨p,h1,_,h2⟩:=nP D7 h hv hn hk;exact⟨p,h1,fun w hw=>⟨by simpa [aL] using h2 w hw 0 _ rfl,by simpa [aL] using h2 w hw 1 _ rfl,by simpa [aL] using h2 w hw 2 _ rfl,by simpa [aL] using h2 w hw 3 _ rfl,by simpa [aL] using h2 w hw 4 _ rfl,by simpa [aL] using h2 w hw 5 _ rfl,by simpa [aL] using h2 w hw 6 _ rfl,by simpa [aL] using h2 w hw 7 _ rfl⟩⟩
def mD (near:List Int) (but:Int) (f:Int->mO):List mO:=(near.filter fun n=>n != but).map f
theorem AY (me but k tc ts ic is:Int) (nv:Sl) (av sv ev ov:aF) (pv lv:Sl) (l:List Int) (w:aG) (hs:qJ w (dU nv) l) (hlen:l.length<=900) :
  Calls aI 41 #[bn #[aj ak me,dU nv,av,sv,ev,ov],aj ak but,bn #[aj ak k,aj ak tc,aj ak ts,aj ak ic,aj ak is,dU pv,dU lv]] w fun e w'=>(∃ v:Sl,e=.returned (dU v)/\jI w' w.heap.size (dU v) (mD l but fun n=>(n,k,tc,ts,ic,is,pv,lv)))/\Below w.heap.size w w':=by
 obtain⟨no,nn,nc⟩:=nv;obtain⟨po,pn,pc⟩:=pv;obtain⟨KR,ln,lc⟩:=lv;obtain⟨q1,q2,hq⟩:=hs.len;obtain⟨rfl,hnn,rfl⟩:no=q1/\nn=l.length/\nc=q2:=by
  have h:J no nn nc=J q1 l.length q2:=hq;simpa using h
 clear hq;obtain⟨h0,h1,h2⟩:=gP w #[aj ak me,J no nn nc,av,sv,ev,ov] #[aj ak k,aj ak tc,aj ak ts,aj ak ic,aj ak is,J po pn pc,J KR ln lc] 28 41;have B0:=L h0;have X5:=L h2;have HS:=L (hs.on h0);have HN:=L hnn;have c1:=h1.cell 1;simp only [U,V,X] at c1;have nb:nn<=900:=by omega
 have W2:=L h2.lt;clear h0 h1 h2 hs hlen hnn;go_enter Tryz.func41,Tryz.ntmps41;go_upto_region 1 with fail;generalize (w.alloc (aK #[aj ak me,J no nn nc,av,sv,ev,ov] 28)).alloc (aK #[aj ak k,aj ak tc,aj ak ts,aj ak ic,aj ak is,J po pn pc,J KR ln lc] 41)=W at *;go_wp2
 go_loopw [7,13] (fun v i wr=>∃ q:Nat,q<=nn/\i=aj ak q/\Below W.heap.size W wr/\jI wr W.heap.size v (mD (l.take q) but fun n=>(n,k,tc,ts,ic,is,(po,pn,pc),(KR,ln,lc)))) (fun _ i _=>nn-(intOf i).toNat)
 case atStart=>exact⟨0,aS _,rfl,ah _ _,iM _ _⟩
 case round =>
  obtain⟨q,hq,rfl,hbe,hown⟩:=hrel;have BE:=L hbe;have OE:=L hown;clear hbe hown;by_cases hlt:q<nn
  ·obtain⟨y,hy⟩:∃ y,l[q]?=Y y:=⟨_,ay (by rw [<- HN.out]; exact hlt)⟩;obtain⟨p,ix,_,px⟩:=nP Nm.MW HS.out rfl HN.out.symm hy;have p0:wr.cell? p=Y (aj ak y):=by simpa [aL] using px wr BE.out 0 _ rfl
   have ix:∀ w,(Instr.indexAt 22 (J no nn nc) (aj ak q)).run aI w=.ok (O (Y p)) w:=ix;have FS:=L (show mD (l.take (q+1)) but (fun n=>((n,k,tc,ts,ic,is,(po,pn,pc),(KR,ln,lc)):mO))=mD (l.take q) but (fun n=>(n,k,tc,ts,ic,is,(po,pn,pc),(KR,ln,lc)))++(if (y != but)=true then [(y,k,tc,ts,ic,is,(po,pn,pc),(KR,ln,lc))] else []) by
    unfold mD;rw [Ay l q y _ hy,List.map_append];cases y != but <;> rfl)
   have hw3:IntKind.i64.wrap ((q:Int)+1)=(q:Int)+1:=aP _ (by omega);obtain⟨r,hr⟩:∃ r,(y != but)=r:=⟨_,rfl⟩;rw [hr] at FS;clear px hy;cases r
   ·go_wp2
    go_roundw
    case rel=>exact⟨q+1,by omega,by go_num,BE.out,by
     rw [FS.out];simpa using OE.out⟩
    case measure=>simp [intOf]; omega
   ·have x_:=X5.out.on BE.out;obtain⟨x0,x1,x2,x3,x4,x5,x6⟩:=x_.mI;have NB:=L (fM wr (aK #[aj ak y,aj ak k,aj ak tc,aj ak ts,aj ak ic,aj ak is,J po pn pc,J KR ln lc] 43));have hlit:=iF D7 wr [(y,k,tc,ts,ic,is,(po,pn,pc),(KR,ln,lc))] 1 rfl (by simp) #[aj ak y,aj ak k,aj ak tc,aj ak ts,aj ak ic,aj ak is,J po pn pc,J KR ln lc] rfl;have o2:=dI OE.out NB.out;have hB:W.heap.size<=(wr.alloc (aK #[aj ak y,aj ak k,aj ak tc,aj ak ts,aj ak ic,aj ak is,J po pn pc,J KR ln lc] 43)).heap.size:=by have h1:=BE.out.size; simp; omega
    obtain⟨v',w',r',o',gr⟩:=gJ D7 W.heap.size o2 (Row.dH hlit) (by
     unfold mD;rw [List.length_map];have h1:=List.length_filter_le (fun n=>n != but) (l.take q);rw [List.length_take] at h1;omega) (by simp) hB 35
    have r':(Builtin.append_ #[35,35] 35 #[u7,J (Y ⟨wr.heap.size,0,Z⟩) 1 1]).run aI (wr.alloc (aK #[aj ak y,aj ak k,aj ak tc,aj ak ts,aj ak ic,aj ak is,J po pn pc,J KR ln lc] 43))=.ok v' w':=by
     simpa [EU] using r'
    have BG:=L ((BE.out.trans (NB.out.mono BE.out.size)).grown gr hB fun j hj=>(o2.lt j hj).1);have OG:=L o';clear hlit o2 hB o' gr OE x_;go_wp2_with (first | (at_builtin; refine wpList_append_run rfl _ _ 35 rfl rfl rfl r' ?_) | fail)
    go_roundw
    case rel=>exact⟨q+1,by omega,by go_num,BG.out,by
     rw [FS.out];simpa using OG.out⟩
    case measure=>simp [intOf]; omega
  ·obtain rfl:nn=q:=by omega
   have e:l.take nn=l:=aC (by have:=HN.out; omega);rw [e] at OE;obtain⟨GK,GQ,hv⟩:=(Row.dH OE.out).len;subst hv;clear e;go_wp2;go_ret;exact⟨⟨(GK,_,GQ),rfl,dO OE.out (by have:=W2.out; omega)⟩,B0.out.trans (BE.out.mono B0.out.size)⟩
end Bk
namespace Wr
open YtmklifheakemeaaGreat.Nm At Pr
def Qi (c:C5):Bool:=nV c.1 && (if c.2.1=1 then decide (c.2.2.2.2.size=0) && decide (c.2.2.1<=c.2.2.2.1) else if c.2.1=2 then decide (c.2.2.1=0) && (decide (c.2.2.2.1=0) && decide (c.2.2.2.2.size<=12)) else if c.2.1=3 then decide (c.2.2.1=0) && (decide (c.2.2.2.1=0) && decide (c.2.2.2.2.size<=11)) else false)
def aeo (p x:C5):Bool:=Op.bytesLess p.1.toList x.1.toList
def Td (l:List C5) (k:Nat):Bool:=match l[k]? with
 | some x=>Qi x && (k == 0 || (match l[k-1]? with
  | some p=>aeo p x
  | none=>true))
 | none=>true
def jP (l:List C5):Bool:=(List.range l.length).all (Td l) && decide (l.length<=5)
theorem KT (l:List C5) (h:∀ j,j<l.length->Td l j=true):jP l=decide (l.length<=5):=by
 unfold jP;rw [List.all_eq_true.2 fun j hj=>h j (List.mem_range.1 hj),Bool.true_and]
end Wr
namespace Av
open Go.RowKit Go.Sort Rw YtmklifheakemeaaGreat.Nm Pr Bk
def Yu (B:Nat) (b1:Nat) (_me:Int) (_z2 _z4 _z5:aF) (o1:Option aJ) (n1 c1:Nat) (nl:List Int) (o3:Option aJ) (n3 c3:Nat) (sl:List fC) (i:Nat) (v:aF) (x:aG):Prop :=
 match i with
 | 0=>v=O (Y ⟨b1,1,Z⟩)
 | 1=>v=J o1 n1 c1
 | 2=>∃ s:Sl,v=dU s/\zI x B v nl
 | 3=>v=O (Y ⟨b1,3,Z⟩)
 | 4=>v=J o3 n3 c3
 | 5=>∃ s:Sl,v=dU s/\sG x B v sl
 | 6=>v=O (Y ⟨b1,1,Z⟩)
 | _=>True
noncomputable def aep:Code:=((Tryz.f91.body.bind (eO 1)).getD .skip)
theorem Yv (B:Nat) (b1:Nat) (me:Int) (z2 z4 z5:aF) (o1:Option aJ) (n1 c1:Nat) (nl:List Int) (o3:Option aJ) (n3 c3:Nat) (sl:List fC) (i:Nat) (v:aF) (x x':aG) (h:Yu B b1 me z2 z4 z5 o1 n1 c1 nl o3 n3 c3 sl i v x) (hb:Below x.heap.size x x'):Yu B b1 me z2 z4 z5 o1 n1 c1 nl o3 n3 c3 sl i v x':=by
 by_cases hi:i<7
 ·rcases (by omega:i=0\/i=1\/i=2\/i=3\/i=4\/i=5\/i=6) with rfl|rfl|rfl|rfl|rfl|rfl|rfl
  ·exact h
  ·exact h
  ·obtain⟨s,h1,h2⟩:=h; exact⟨s,h1,Bk.dI h2 hb⟩
  ·exact h
  ·exact h
  ·obtain⟨s,h1,h2⟩:=h; exact⟨s,h1,Bk.dI h2 hb⟩
  ·exact h
 ·unfold Yu
  split <;> first | omega | trivial
theorem cp1 (Q:Exit->Act->aG->Prop) (W:aG) (b1:Nat) (me:Int) (z2 z4 z5:aF) (o1:Option aJ) (n1 c1:Nat) (nl:List Int) (o3:Option aJ) (n3 c3:Nat) (sl:List fC) (u0 u2 u3 u4 u5 u6 u7 u8 u9 u10 u11 u12 u13 u14 u15 u16 u17 u18 u19 u20 u21 u22 u23 u24 u25 u26 u27 u28 u29 u30 u31 u32 u33 u34 u35 u36 u37 u38 u39 u40 u41 u42 u43 u44 u45 u46 u47 u48 u49 u50 u51 u52 u53 u54 u55 u56 u57 u58 u59 u60 u61 u62 u63 u64 u65 u66 u67 u68 u69 u70 u71 u72 u73 u74 u75 u76 u77 u78 u79 u80 u81:aF)
  (h1:dK W b1 #[aj ak me,J o1 n1 c1,z2,J o3 n3 c3,z4,z5] 28) (r1:qJ W (J o1 n1 c1) nl) (r3:vT W (J o3 n3 c3) sl) (l1:nl.length<=900) (l3:sl.length<=900)
  (hQ:∀ (x:aG) (v6 v7 v8 v9 v10 v11 v12 v13:aF) (p1:Option aJ) (q1 s1:Nat) (p3:Option aJ) (q3 s3:Nat),dK x b1 #[aj ak me,J p1 q1 s1,z2,J p3 q3 s3,z4,z5] 28->zI x W.heap.size (J p1 q1 s1) nl->sG x W.heap.size (J p3 q3 s3) sl->(∀ B,B<=b1->Below B W x)->(∀ k,k<W.heap.size->k≠b1->x.heap[k]?=W.heap[k]?)->Q .normal ⟨(u0::O (Y ⟨b1,0,Z⟩)::u2::u3::u4::u5::v6::v7::v8::v9::v10::v11::v12::v13::u14::u15::u16::u17::u18::u19::u20::u21::u22::u23::u24::u25::u26::u27::u28::u29::u30::u31::u32::u33::u34::u35::u36::u37::u38::u39::u40::u41::u42::u43::u44::u45::u46::u47::u48::u49::u50::u51::u52::u53::u54::u55::u56::u57::u58::u59::u60::u61::u62::u63::u64::u65::u66::u67::u68::u69::u70::u71::u72::u73::u74::u75::u76::u77::u78::u79::u80::u81::[]).toArray,[]⟩ x) :
  Code.wp aI aep Q ⟨(u0::O (Y ⟨b1,0,Z⟩)::u2::u3::u4::u5::u6::u7::u8::u9::u10::u11::u12::u13::u14::u15::u16::u17::u18::u19::u20::u21::u22::u23::u24::u25::u26::u27::u28::u29::u30::u31::u32::u33::u34::u35::u36::u37::u38::u39::u40::u41::u42::u43::u44::u45::u46::u47::u48::u49::u50::u51::u52::u53::u54::u55::u56::u57::u58::u59::u60::u61::u62::u63::u64::u65::u66::u67::u68::u69::u70::u71::u72::u73::u74::u75::u76::u77::u78::u79::u80::u81::[]).toArray,[]⟩ W:=by
 have HQ:=L hQ;have H1:=L h1;have R1:=L r1;have R3:=L r3;have L1:=L l1;have L3:=L l3;clear hQ h1 r1 r3 l1 l3;have iQ:=Yv W.heap.size b1 me z2 z4 z5 o1 n1 c1 nl o3 n3 c3 sl;unfold aep
 conv=>arg 2; whnf
 have nd:∀ j,(j<6\/13<=j)->∀ i,i<7->(fun i=>6+i) i≠j:=by
  intro j hj i hi h;simp only at h;omega
 refine bI 10 7 (fun i=>6+i) (fun _=>7) (Yu W.heap.size b1 me z2 z4 z5 o1 n1 c1 nl o3 n3 c3 sl) (by kernel_rfl) (by kernel_rfl) rfl (by decide) (fun i j _ _ h=>by have h2:6+i=6+j:=h; omega) (fun i hi=>by show 6+i<82; omega) ?_ (fun _=>bK 14 (by kernel_rfl)) ?_ ?_
 ·intro i o hi ho a x D hnd hc hD hb seen K hK;clear HQ;rcases (by omega:i=0\/i=1\/i=2\/i=3\/i=4\/i=5\/i=6) with rfl|rfl|rfl|rfl|rfl|rfl|rfl
  ·cases ho;have e1:a.eval (au 1)=O (Y ⟨b1,0,Z⟩):=seen.kp 1 _ (nd 1 (by omega)) rfl;exact aD rfl rfl (aQ a.eval _ 28 (au 1) 1 rfl (by rw [e1]; simp [go_sem])) (hK _ _ rfl (ah _ _) fun _ _ _ _ _ _ _ h=>h)
  ·cases ho;have e6:a.eval (au 6)=O (Y ⟨b1,1,Z⟩):=seen.at_ ⟨0,.data⟩ (by simp) rfl (aB (by decide));have y1:=(H1.out.on hb).cell 1;simp only [U,V,X] at y1;exact aD rfl rfl (aU a.eval _ 22 (au 6) rfl (by rw [e6]; simp [go_sem,y1])) (hK _ _ rfl (ah _ _) fun _ _ _ _ _ _ _ h=>h)
  ·cases ho;have e7:a.eval (au 7)=J o1 n1 c1:=seen.at_ ⟨1,.data⟩ (by simp) rfl (aB (by decide));exact aX rfl rfl (Rw.iG a.eval _ (au 7) 22 32 rfl e7 rfl _ (gF Tryz.func32 rfl rfl _ _)) (Ao (o1,n1,c1) nl x (R1.out.on hb) L1.out) fun e w1 h=>by
    obtain⟨⟨s,rfl,h1⟩,h3⟩:=h;exact⟨_,rfl,hK _ _ ⟨s,rfl,dO h1 hb.size⟩ (h3.mono hb.size) fun j u hj _ _ _ hne h=>iQ j u _ _ h h3⟩
  ·cases ho;have e1:a.eval (au 1)=O (Y ⟨b1,0,Z⟩):=seen.kp 1 _ (nd 1 (by omega)) rfl;exact aD rfl rfl (aQ a.eval _ 28 (au 1) 3 rfl (by rw [e1]; simp [go_sem])) (hK _ _ rfl (ah _ _) fun _ _ _ _ _ _ _ h=>h)
  ·cases ho;have e9:a.eval (au 9)=O (Y ⟨b1,3,Z⟩):=seen.at_ ⟨3,.data⟩ (by simp) rfl (aB (by decide));have y3:=(H1.out.on hb).cell 3;simp only [U,V,X] at y3;exact aD rfl rfl (aU a.eval _ 24 (au 9) rfl (by rw [e9]; simp [go_sem,y3])) (hK _ _ rfl (ah _ _) fun _ _ _ _ _ _ _ h=>h)
  ·cases ho;have e10:a.eval (au 10)=J o3 n3 c3:=seen.at_ ⟨4,.data⟩ (by simp) rfl (aB (by decide));exact aX rfl rfl (Rw.iG a.eval _ (au 10) 24 140 rfl e10 rfl _ (gF Tryz.func140 rfl rfl _ _)) (Ku (o3,n3,c3) sl x (R3.out.on hb) L3.out) fun e w1 h=>by
    obtain⟨⟨s,rfl,h1⟩,h3⟩:=h;exact⟨_,rfl,hK _ _ ⟨s,rfl,dO h1 hb.size⟩ (h3.mono hb.size) fun j u hj _ _ _ hne h=>iQ j u _ _ h h3⟩
  ·cases ho;have e1:a.eval (au 1)=O (Y ⟨b1,0,Z⟩):=seen.kp 1 _ (nd 1 (by omega)) rfl;exact aD rfl rfl (aQ a.eval _ 28 (au 1) 1 rfl (by rw [e1]; simp [go_sem])) (hK _ _ rfl (ah _ _) fun _ _ _ _ _ _ _ h=>h)
 ·intro kk o h1 h2 ho;rcases (by omega:kk=8\/kk=9) with rfl|rfl
  ·cases ho;exact⟨⟨7,.phase⟩,by simp,rfl,rfl⟩
  ·cases ho;exact⟨⟨8,.data⟩,by simp,rfl,rfl⟩
 ·intro a w' df sz kp ⟨vs,hv⟩ hb;have sz':a.tmps.size=82:=sz;have g1:a.tmps[1]?=Y (O (Y ⟨b1,0,Z⟩)):=(kp 1 (nd 1 (by omega))).trans rfl;have g12:a.tmps[12]?=Y (O (Y ⟨b1,1,Z⟩)):=by
   have h:vs 6=O (Y ⟨b1,1,Z⟩):=(hv 6 (by omega)).2 (by decide);rw [<- h];exact (hv 6 (by omega)).1
  obtain⟨⟨p1,q1,s1⟩,hs1,ho1⟩:=(hv 2 (by omega)).2 (by decide);have g8:a.tmps[8]?=Y (J p1 q1 s1):=((hv 2 (by omega)).1).trans (congrArg Y hs1);rw [hs1] at ho1;obtain⟨⟨p3,q3,s3⟩,hs3,ho3⟩:=(hv 5 (by omega)).2 (by decide);have g11:a.tmps[11]?=Y (J p3 q3 s3):=((hv 5 (by omega)).1).trans (congrArg Y hs3);rw [hs3] at ho3;have hB:=H1.out.on hb;have hlt:=H1.out.lt;show aW _ _ _ 3 7 a w';simp only [aW];have c1x:=hB.cell 1;have f1x:=hB.fr 1;simp only [U,V,X] at c1x;refine aY 22 (au 12) (au 8) rfl rfl rfl rfl (aR g12) (aR g8) (w':=(w').setCell ⟨b1,1,Z⟩ (J p1 q1 s1)) (by simp [go_sem,c1x,f1x]) ?_;have hB1:dK ((w').setCell ⟨b1,1,Z⟩ (J p1 q1 s1)) b1 #[aj ak me,J p1 q1 s1,z2,J o3 n3 c3,z4,z5] 28:=by simpa using dW (k:=1) hB (J p1 q1 s1)
  refine aD rfl rfl (aQ _ _ 28 (au 1) 3 rfl (v:=O (Y ⟨b1,3,Z⟩)) (by rw [aR g1]; simp [go_sem])) ?_;have agE:((a).put (Y 13) (O (Y ⟨b1,3,Z⟩))).tmps[13]?=Y (O (Y ⟨b1,3,Z⟩)):=by simp [Act.put,sz']
  show bL _ _ _ 9 _ ((a).put (Y 13) (O (Y ⟨b1,3,Z⟩))) _;have c3x:=hB1.cell 3;have f3x:=hB1.fr 3;simp only [U,V,X] at c3x;refine aY 24 (au 13) (au 11) rfl rfl rfl rfl (aR agE) (aR ((aO _ 13 _ 11 (by decide)).trans g11)) (w':=((w').setCell ⟨b1,1,Z⟩ (J p1 q1 s1)).setCell ⟨b1,3,Z⟩ (J p3 q3 s3)) (by simp [go_sem,c3x,f3x]) ?_;have hB3:dK (((w').setCell ⟨b1,1,Z⟩ (J p1 q1 s1)).setCell ⟨b1,3,Z⟩ (J p3 q3 s3)) b1 #[aj ak me,J p1 q1 s1,z2,J p3 q3 s3,z4,z5] 28:=by simpa using dW (k:=3) hB1 (J p3 q3 s3)
  have rV:∀ j,(j<6\/14<=j)->((a).put (Y 13) (O (Y ⟨b1,3,Z⟩))).tmps[j]?=(u0::O (Y ⟨b1,0,Z⟩)::u2::u3::u4::u5::u6::u7::u8::u9::u10::u11::u12::u13::u14::u15::u16::u17::u18::u19::u20::u21::u22::u23::u24::u25::u26::u27::u28::u29::u30::u31::u32::u33::u34::u35::u36::u37::u38::u39::u40::u41::u42::u43::u44::u45::u46::u47::u48::u49::u50::u51::u52::u53::u54::u55::u56::u57::u58::u59::u60::u61::u62::u63::u64::u65::u66::u67::u68::u69::u70::u71::u72::u73::u74::u75::u76::u77::u78::u79::u80::u81::[])[j]?:=fun j hj=>(aO _ 13 _ j (by omega)).trans ((kp j (nd j (by omega))).trans U);obtain⟨mid,hmid,hfr⟩:=bM (a:=(a).put (Y 13) (O (Y ⟨b1,3,Z⟩))) 6 8 df (by simp [bD,sz']) (by simp) rV;show Q .normal ((a).put (Y 13) (O (Y ⟨b1,3,Z⟩))) _;rw [hfr]
  match mid,hmid with
  | [v6,v7,v8,v9,v10,v11,v12,v13],_ =>
   exact HQ.out _ _ _ _ _ _ _ _ _ p1 q1 s1 p3 q3 s3 hB3 (eF (eF ho1 b1 1 (J p1 q1 s1) hlt) b1 3 (J p3 q3 s3) hlt) (eF (eF ho3 b1 1 (J p1 q1 s1) hlt) b1 3 (J p3 q3 s3) hlt) (fun B hBl=>(((hb.mono (bf (aV hBl hlt))).setCell (p:=⟨b1,1,Z⟩) hBl (J p1 q1 s1)).setCell (p:=⟨b1,3,Z⟩) hBl (J p3 q3 s3))) (fun k hk hne=>((aH ((w').setCell ⟨b1,1,Z⟩ (J p1 q1 s1)) ⟨b1,3,Z⟩ (J p3 q3 s3) k hne).trans ((aH (w') ⟨b1,1,Z⟩ (J p1 q1 s1) k hne).trans (hb.block k hk))))
def Yw (B:Nat) (b1:Nat) (_me:Int) (_z1 _z3:aF) (o2:Option aJ) (n2 c2:Nat) (al:List jD) (o4:Option aJ) (n4 c4:Nat) (el:List iq) (o5:Option aJ) (n5 c5:Nat) (ol:List qM) (i:Nat) (v:aF) (x:aG):Prop :=
 match i with
 | 0=>v=O (Y ⟨b1,2,Z⟩)
 | 1=>v=J o2 n2 c2
 | 2=>∃ s:Sl,v=dU s/\lZ x B v al
 | 3=>v=O (Y ⟨b1,4,Z⟩)
 | 4=>v=J o4 n4 c4
 | 5=>∃ s:Sl,v=dU s/\jV x B v el
 | 6=>v=O (Y ⟨b1,5,Z⟩)
 | 7=>v=J o5 n5 c5
 | 8=>∃ s:Sl,v=dU s/\qN x B v ol
 | 9=>v=O (Y ⟨b1,2,Z⟩)
 | _=>True
noncomputable def aer:Code:=((Tryz.f91.body.bind (eO 2)).getD .skip)
theorem Yx (B:Nat) (b1:Nat) (me:Int) (z1 z3:aF) (o2:Option aJ) (n2 c2:Nat) (al:List jD) (o4:Option aJ) (n4 c4:Nat) (el:List iq) (o5:Option aJ) (n5 c5:Nat) (ol:List qM) (i:Nat) (v:aF) (x x':aG) (h:Yw B b1 me z1 z3 o2 n2 c2 al o4 n4 c4 el o5 n5 c5 ol i v x) (hb:Below x.heap.size x x'):Yw B b1 me z1 z3 o2 n2 c2 al o4 n4 c4 el o5 n5 c5 ol i v x':=by
 by_cases hi:i<10
 ·rcases (by omega:i=0\/i=1\/i=2\/i=3\/i=4\/i=5\/i=6\/i=7\/i=8\/i=9) with rfl|rfl|rfl|rfl|rfl|rfl|rfl|rfl|rfl|rfl
  ·exact h
  ·exact h
  ·obtain⟨s,h1,h2⟩:=h; exact⟨s,h1,Bk.dI h2 hb⟩
  ·exact h
  ·exact h
  ·obtain⟨s,h1,h2⟩:=h; exact⟨s,h1,Bk.dI h2 hb⟩
  ·exact h
  ·exact h
  ·obtain⟨s,h1,h2⟩:=h; exact⟨s,h1,Bk.dI h2 hb⟩
  ·exact h
 ·unfold Yw
  split <;> first | omega | trivial
theorem cp2 (Q:Exit->Act->aG->Prop) (W:aG) (b1:Nat) (me:Int) (z1 z3:aF) (o2:Option aJ) (n2 c2:Nat) (al:List jD) (o4:Option aJ) (n4 c4:Nat) (el:List iq) (o5:Option aJ) (n5 c5:Nat) (ol:List qM) (u0 u2 u3 u4 u5 u6 u7 u8 u9 u10 u11 u12 u13 u14 u15 u16 u17 u18 u19 u20 u21 u22 u23 u24 u25 u26 u27 u28 u29 u30 u31 u32 u33 u34 u35 u36 u37 u38 u39 u40 u41 u42 u43 u44 u45 u46 u47 u48 u49 u50 u51 u52 u53 u54 u55 u56 u57 u58 u59 u60 u61 u62 u63 u64 u65 u66 u67 u68 u69 u70 u71 u72 u73 u74 u75 u76 u77 u78 u79 u80 u81:aF)
  (h1:dK W b1 #[aj ak me,z1,J o2 n2 c2,z3,J o4 n4 c4,J o5 n5 c5] 28) (r2:wG W (J o2 n2 c2) al) (r4:lI W (J o4 n4 c4) el) (r5:Pw W (J o5 n5 c5) ol) (l2:al.length<=900) (l4:el.length<=900) (l5:ol.length<=900)
  (hQ:∀ (x:aG) (v14 v15 v16 v17 v18 v19 v20 v21 v22 v23 v24 v25:aF) (p2:Option aJ) (q2 s2:Nat) (p4:Option aJ) (q4 s4:Nat) (p5:Option aJ) (q5 s5:Nat),dK x b1 #[aj ak me,z1,J p2 q2 s2,z3,J p4 q4 s4,J p5 q5 s5] 28->lZ x W.heap.size (J p2 q2 s2) al->jV x W.heap.size (J p4 q4 s4) el->qN x W.heap.size (J p5 q5 s5) ol->(∀ B,B<=b1->Below B W x)->(∀ k,k<W.heap.size->k≠b1->x.heap[k]?=W.heap[k]?)->Q .normal ⟨(u0::O (Y ⟨b1,0,Z⟩)::u2::u3::u4::u5::u6::u7::u8::u9::u10::u11::u12::u13::v14::v15::v16::v17::v18::v19::v20::v21::v22::v23::v24::v25::u26::u27::u28::u29::u30::u31::u32::u33::u34::u35::u36::u37::u38::u39::u40::u41::u42::u43::u44::u45::u46::u47::u48::u49::u50::u51::u52::u53::u54::u55::u56::u57::u58::u59::u60::u61::u62::u63::u64::u65::u66::u67::u68::u69::u70::u71::u72::u73::u74::u75::u76::u77::u78::u79::u80::u81::[]).toArray,[]⟩ x) :
  Code.wp aI aer Q ⟨(u0::O (Y ⟨b1,0,Z⟩)::u2::u3::u4::u5::u6::u7::u8::u9::u10::u11::u12::u13::u14::u15::u16::u17::u18::u19::u20::u21::u22::u23::u24::u25::u26::u27::u28::u29::u30::u31::u32::u33::u34::u35::u36::u37::u38::u39::u40::u41::u42::u43::u44::u45::u46::u47::u48::u49::u50::u51::u52::u53::u54::u55::u56::u57::u58::u59::u60::u61::u62::u63::u64::u65::u66::u67::u68::u69::u70::u71::u72::u73::u74::u75::u76::u77::u78::u79::u80::u81::[]).toArray,[]⟩ W:=by
 have HQ:=L hQ;have H1:=L h1;have R2:=L r2;have R4:=L r4;have R5:=L r5;have L2:=L l2;have L4:=L l4;have L5:=L l5;clear hQ h1 r2 r4 r5 l2 l4 l5;have iQ:=Yx W.heap.size b1 me z1 z3 o2 n2 c2 al o4 n4 c4 el o5 n5 c5 ol;unfold aer
 conv=>arg 2; whnf
 have nd:∀ j,(j<14\/24<=j)->∀ i,i<10->(fun i=>14+i) i≠j:=by
  intro j hj i hi h;simp only at h;omega
 refine bI 15 10 (fun i=>14+i) (fun _=>10) (Yw W.heap.size b1 me z1 z3 o2 n2 c2 al o4 n4 c4 el o5 n5 c5 ol) (by kernel_rfl) (by kernel_rfl) rfl (by decide) (fun i j _ _ h=>by have h2:14+i=14+j:=h; omega) (fun i hi=>by show 14+i<82; omega) ?_ (fun _=>bK 14 (by kernel_rfl)) ?_ ?_
 ·intro i o hi ho a x D hnd hc hD hb seen K hK;clear HQ;rcases (by omega:i=0\/i=1\/i=2\/i=3\/i=4\/i=5\/i=6\/i=7\/i=8\/i=9) with rfl|rfl|rfl|rfl|rfl|rfl|rfl|rfl|rfl|rfl
  ·cases ho;have e1:a.eval (au 1)=O (Y ⟨b1,0,Z⟩):=seen.kp 1 _ (nd 1 (by omega)) rfl;exact aD rfl rfl (aQ a.eval _ 28 (au 1) 2 rfl (by rw [e1]; simp [go_sem])) (hK _ _ rfl (ah _ _) fun _ _ _ _ _ _ _ h=>h)
  ·cases ho;have e14:a.eval (au 14)=O (Y ⟨b1,2,Z⟩):=seen.at_ ⟨0,.data⟩ (by simp) rfl (aB (by decide));have y2:=(H1.out.on hb).cell 2;simp only [U,V,X] at y2;exact aD rfl rfl (aU a.eval _ 23 (au 14) rfl (by rw [e14]; simp [go_sem,y2])) (hK _ _ rfl (ah _ _) fun _ _ _ _ _ _ _ h=>h)
  ·cases ho;have e15:a.eval (au 15)=J o2 n2 c2:=seen.at_ ⟨1,.data⟩ (by simp) rfl (aB (by decide));exact aX rfl rfl (Rw.iG a.eval _ (au 15) 23 141 rfl e15 rfl _ (gF Tryz.func141 rfl rfl _ _)) (Kv (o2,n2,c2) al x (R2.out.on hb) L2.out) fun e w1 h=>by
    obtain⟨⟨s,rfl,h1⟩,h3⟩:=h;exact⟨_,rfl,hK _ _ ⟨s,rfl,dO h1 hb.size⟩ (h3.mono hb.size) fun j u hj _ _ _ hne h=>iQ j u _ _ h h3⟩
  ·cases ho;have e1:a.eval (au 1)=O (Y ⟨b1,0,Z⟩):=seen.kp 1 _ (nd 1 (by omega)) rfl;exact aD rfl rfl (aQ a.eval _ 28 (au 1) 4 rfl (by rw [e1]; simp [go_sem])) (hK _ _ rfl (ah _ _) fun _ _ _ _ _ _ _ h=>h)
  ·cases ho;have e17:a.eval (au 17)=O (Y ⟨b1,4,Z⟩):=seen.at_ ⟨3,.data⟩ (by simp) rfl (aB (by decide));have y4:=(H1.out.on hb).cell 4;simp only [U,V,X] at y4;exact aD rfl rfl (aU a.eval _ 25 (au 17) rfl (by rw [e17]; simp [go_sem,y4])) (hK _ _ rfl (ah _ _) fun _ _ _ _ _ _ _ h=>h)
  ·cases ho;have e18:a.eval (au 18)=J o4 n4 c4:=seen.at_ ⟨4,.data⟩ (by simp) rfl (aB (by decide));exact aX rfl rfl (Rw.iG a.eval _ (au 18) 25 142 rfl e18 rfl _ (gF Tryz.func142 rfl rfl _ _)) (Kw (o4,n4,c4) el x (R4.out.on hb) L4.out) fun e w1 h=>by
    obtain⟨⟨s,rfl,h1⟩,h3⟩:=h;exact⟨_,rfl,hK _ _ ⟨s,rfl,dO h1 hb.size⟩ (h3.mono hb.size) fun j u hj _ _ _ hne h=>iQ j u _ _ h h3⟩
  ·cases ho;have e1:a.eval (au 1)=O (Y ⟨b1,0,Z⟩):=seen.kp 1 _ (nd 1 (by omega)) rfl;exact aD rfl rfl (aQ a.eval _ 28 (au 1) 5 rfl (by rw [e1]; simp [go_sem])) (hK _ _ rfl (ah _ _) fun _ _ _ _ _ _ _ h=>h)
  ·cases ho;have e20:a.eval (au 20)=O (Y ⟨b1,5,Z⟩):=seen.at_ ⟨6,.data⟩ (by simp) rfl (aB (by decide));have y5:=(H1.out.on hb).cell 5;simp only [U,V,X] at y5;exact aD rfl rfl (aU a.eval _ 26 (au 20) rfl (by rw [e20]; simp [go_sem,y5])) (hK _ _ rfl (ah _ _) fun _ _ _ _ _ _ _ h=>h)
  ·cases ho;have e21:a.eval (au 21)=J o5 n5 c5:=seen.at_ ⟨7,.data⟩ (by simp) rfl (aB (by decide));exact aX rfl rfl (Rw.iG a.eval _ (au 21) 26 143 rfl e21 rfl _ (gF Tryz.func143 rfl rfl _ _)) (Ky (o5,n5,c5) ol x (R5.out.on hb) L5.out) fun e w1 h=>by
    obtain⟨⟨s,rfl,h1⟩,h3⟩:=h;exact⟨_,rfl,hK _ _ ⟨s,rfl,dO h1 hb.size⟩ (h3.mono hb.size) fun j u hj _ _ _ hne h=>iQ j u _ _ h h3⟩
  ·cases ho;have e1:a.eval (au 1)=O (Y ⟨b1,0,Z⟩):=seen.kp 1 _ (nd 1 (by omega)) rfl;exact aD rfl rfl (aQ a.eval _ 28 (au 1) 2 rfl (by rw [e1]; simp [go_sem])) (hK _ _ rfl (ah _ _) fun _ _ _ _ _ _ _ h=>h)
 ·intro kk o h1 h2 ho;rcases (by omega:kk=11\/kk=12\/kk=13\/kk=14) with rfl|rfl|rfl|rfl
  ·cases ho;exact⟨⟨10,.phase⟩,by simp,rfl,rfl⟩
  ·cases ho;exact⟨⟨11,.data⟩,by simp,rfl,rfl⟩
  ·cases ho;exact⟨⟨12,.phase⟩,by simp,rfl,rfl⟩
  ·cases ho;exact⟨⟨13,.data⟩,by simp,rfl,rfl⟩
 ·intro a w' df sz kp ⟨vs,hv⟩ hb;have sz':a.tmps.size=82:=sz;have g1:a.tmps[1]?=Y (O (Y ⟨b1,0,Z⟩)):=(kp 1 (nd 1 (by omega))).trans rfl;have g23:a.tmps[23]?=Y (O (Y ⟨b1,2,Z⟩)):=by
   have h:vs 9=O (Y ⟨b1,2,Z⟩):=(hv 9 (by omega)).2 (by decide);rw [<- h];exact (hv 9 (by omega)).1
  obtain⟨⟨p2,q2,s2⟩,hs2,ho2⟩:=(hv 2 (by omega)).2 (by decide);have g16:a.tmps[16]?=Y (J p2 q2 s2):=((hv 2 (by omega)).1).trans (congrArg Y hs2);rw [hs2] at ho2;obtain⟨⟨p4,q4,s4⟩,hs4,ho4⟩:=(hv 5 (by omega)).2 (by decide);have g19:a.tmps[19]?=Y (J p4 q4 s4):=((hv 5 (by omega)).1).trans (congrArg Y hs4);rw [hs4] at ho4;obtain⟨⟨p5,q5,s5⟩,hs5,ho5⟩:=(hv 8 (by omega)).2 (by decide);have g22:a.tmps[22]?=Y (J p5 q5 s5):=((hv 8 (by omega)).1).trans (congrArg Y hs5);rw [hs5] at ho5;have hB:=H1.out.on hb;have hlt:=H1.out.lt;show aW _ _ _ 5 10 a w';simp only [aW];have c2x:=hB.cell 2;have f2x:=hB.fr 2;simp only [U,V,X] at c2x;refine aY 23 (au 23) (au 16) rfl rfl rfl rfl (aR g23) (aR g16) (w':=(w').setCell ⟨b1,2,Z⟩ (J p2 q2 s2)) (by simp [go_sem,c2x,f2x]) ?_;have hB2:dK ((w').setCell ⟨b1,2,Z⟩ (J p2 q2 s2)) b1 #[aj ak me,z1,J p2 q2 s2,z3,J o4 n4 c4,J o5 n5 c5] 28:=by simpa using dW (k:=2) hB (J p2 q2 s2)
  refine aD rfl rfl (aQ _ _ 28 (au 1) 4 rfl (v:=O (Y ⟨b1,4,Z⟩)) (by rw [aR g1]; simp [go_sem])) ?_;have agF:((a).put (Y 24) (O (Y ⟨b1,4,Z⟩))).tmps[24]?=Y (O (Y ⟨b1,4,Z⟩)):=by simp [Act.put,sz']
  show bL _ _ _ 12 _ ((a).put (Y 24) (O (Y ⟨b1,4,Z⟩))) _;have c4x:=hB2.cell 4;have f4x:=hB2.fr 4;simp only [U,V,X] at c4x;refine aY 25 (au 24) (au 19) rfl rfl rfl rfl (aR agF) (aR ((aO _ 24 _ 19 (by decide)).trans g19)) (w':=((w').setCell ⟨b1,2,Z⟩ (J p2 q2 s2)).setCell ⟨b1,4,Z⟩ (J p4 q4 s4)) (by simp [go_sem,c4x,f4x]) ?_;have hB4:dK (((w').setCell ⟨b1,2,Z⟩ (J p2 q2 s2)).setCell ⟨b1,4,Z⟩ (J p4 q4 s4)) b1 #[aj ak me,z1,J p2 q2 s2,z3,J p4 q4 s4,J o5 n5 c5] 28:=by simpa using dW (k:=4) hB2 (J p4 q4 s4)
  refine aD rfl rfl (aQ _ _ 28 (au 1) 5 rfl (v:=O (Y ⟨b1,5,Z⟩)) (by rw [aR ((aO _ 24 _ 1 (by decide)).trans g1)]; simp [go_sem])) ?_;have agG:(((a).put (Y 24) (O (Y ⟨b1,4,Z⟩))).put (Y 25) (O (Y ⟨b1,5,Z⟩))).tmps[25]?=Y (O (Y ⟨b1,5,Z⟩)):=by simp [Act.put,sz']
  show bL _ _ _ 14 _ (((a).put (Y 24) (O (Y ⟨b1,4,Z⟩))).put (Y 25) (O (Y ⟨b1,5,Z⟩))) _;have c5x:=hB4.cell 5;have f5x:=hB4.fr 5;simp only [U,V,X] at c5x;refine aY 26 (au 25) (au 22) rfl rfl rfl rfl (aR agG) (aR ((aO _ 25 _ 22 (by decide)).trans ((aO _ 24 _ 22 (by decide)).trans g22))) (w':=(((w').setCell ⟨b1,2,Z⟩ (J p2 q2 s2)).setCell ⟨b1,4,Z⟩ (J p4 q4 s4)).setCell ⟨b1,5,Z⟩ (J p5 q5 s5)) (by simp [go_sem,c5x,f5x]) ?_;have hB5:dK ((((w').setCell ⟨b1,2,Z⟩ (J p2 q2 s2)).setCell ⟨b1,4,Z⟩ (J p4 q4 s4)).setCell ⟨b1,5,Z⟩ (J p5 q5 s5)) b1 #[aj ak me,z1,J p2 q2 s2,z3,J p4 q4 s4,J p5 q5 s5] 28:=by simpa using dW (k:=5) hB4 (J p5 q5 s5)
  have rV:∀ j,(j<14\/26<=j)->(((a).put (Y 24) (O (Y ⟨b1,4,Z⟩))).put (Y 25) (O (Y ⟨b1,5,Z⟩))).tmps[j]?=(u0::O (Y ⟨b1,0,Z⟩)::u2::u3::u4::u5::u6::u7::u8::u9::u10::u11::u12::u13::u14::u15::u16::u17::u18::u19::u20::u21::u22::u23::u24::u25::u26::u27::u28::u29::u30::u31::u32::u33::u34::u35::u36::u37::u38::u39::u40::u41::u42::u43::u44::u45::u46::u47::u48::u49::u50::u51::u52::u53::u54::u55::u56::u57::u58::u59::u60::u61::u62::u63::u64::u65::u66::u67::u68::u69::u70::u71::u72::u73::u74::u75::u76::u77::u78::u79::u80::u81::[])[j]?:=fun j hj=>(aO _ 25 _ j (by omega)).trans ((aO _ 24 _ j (by omega)).trans ((kp j (nd j (by omega))).trans U));obtain⟨mid,hmid,hfr⟩:=bM (a:=((a).put (Y 24) (O (Y ⟨b1,4,Z⟩))).put (Y 25) (O (Y ⟨b1,5,Z⟩))) 14 12 df (by simp [bD,sz']) (by simp) rV;show Q .normal (((a).put (Y 24) (O (Y ⟨b1,4,Z⟩))).put (Y 25) (O (Y ⟨b1,5,Z⟩))) _;rw [hfr]
  match mid,hmid with
  | [v14,v15,v16,v17,v18,v19,v20,v21,v22,v23,v24,v25],_ =>
   exact HQ.out _ _ _ _ _ _ _ _ _ _ _ _ _ p2 q2 s2 p4 q4 s4 p5 q5 s5 hB5 (eF (eF (eF ho2 b1 2 (J p2 q2 s2) hlt) b1 4 (J p4 q4 s4) hlt) b1 5 (J p5 q5 s5) hlt) (eF (eF (eF ho4 b1 2 (J p2 q2 s2) hlt) b1 4 (J p4 q4 s4) hlt) b1 5 (J p5 q5 s5) hlt) (eF (eF (eF ho5 b1 2 (J p2 q2 s2) hlt) b1 4 (J p4 q4 s4) hlt) b1 5 (J p5 q5 s5) hlt) (fun B hBl=>((((hb.mono (bf (aV hBl hlt))).setCell (p:=⟨b1,2,Z⟩) hBl (J p2 q2 s2)).setCell (p:=⟨b1,4,Z⟩) hBl (J p4 q4 s4)).setCell (p:=⟨b1,5,Z⟩) hBl (J p5 q5 s5))) (fun k hk hne=>((aH (((w').setCell ⟨b1,2,Z⟩ (J p2 q2 s2)).setCell ⟨b1,4,Z⟩ (J p4 q4 s4)) ⟨b1,5,Z⟩ (J p5 q5 s5) k hne).trans ((aH ((w').setCell ⟨b1,2,Z⟩ (J p2 q2 s2)) ⟨b1,4,Z⟩ (J p4 q4 s4) k hne).trans ((aH (w') ⟨b1,2,Z⟩ (J p2 q2 s2) k hne).trans (hb.block k hk)))))
def Yy (B:Nat) (b1:Nat) (_me:Int) (_z1 _z3 _z4 _z5:aF) (g n cap k:Nat) (y1 y2:Int) (yo:Option aJ) (yn yc:Nat) (y4:Int) (p:List C5) (i:Nat) (v:aF) (x:aG):Prop :=
 match i with
 | 0=>v=O (Y ⟨b1,2,Z⟩)
 | 1=>v=J (Y ⟨g,0,Z⟩) n cap
 | 2=>v=aj ak (k:Int)
 | 3=>v=O (Y ⟨b1,2,Z⟩)
 | 4=>v=J (Y ⟨g,0,Z⟩) n cap
 | 5=>v=aj ak (k:Int)
 | 6=>v=O (Y ⟨g,k * 4,Z⟩)
 | 7=>v=mJ (y1,y2,(yo,yn,yc),y4)
 | 8=>∃ s:Sl,v=mJ (y1,y2,s,y4)/\gT x B (dU s) p
 | 9=>v=O (Y ⟨g,k * 4,Z⟩)
 | _=>True
noncomputable def aew:Code:=((Tryz.f91.body.bind (eO 6)).getD .skip)
theorem Yz (B:Nat) (b1:Nat) (me:Int) (z1 z3 z4 z5:aF) (g n cap k:Nat) (y1 y2:Int) (yo:Option aJ) (yn yc:Nat) (y4:Int) (p:List C5) (i:Nat) (v:aF) (x x':aG) (h:Yy B b1 me z1 z3 z4 z5 g n cap k y1 y2 yo yn yc y4 p i v x) (hb:Below x.heap.size x x'):Yy B b1 me z1 z3 z4 z5 g n cap k y1 y2 yo yn yc y4 p i v x':=by
 by_cases hi:i<10
 ·rcases (by omega:i=0\/i=1\/i=2\/i=3\/i=4\/i=5\/i=6\/i=7\/i=8\/i=9) with rfl|rfl|rfl|rfl|rfl|rfl|rfl|rfl|rfl|rfl
  ·exact h
  ·exact h
  ·exact h
  ·exact h
  ·exact h
  ·exact h
  ·exact h
  ·exact h
  ·obtain⟨s,h1,h2⟩:=h; exact⟨s,h1,Bk.dI h2 hb⟩
  ·exact h
 ·unfold Yy
  split <;> first | omega | trivial
theorem cp6 (Q:Exit->Act->aG->Prop) (W:aG) (B0:Nat) (l:List jD) (b1:Nat) (me:Int) (z1 z3 z4 z5:aF) (g n cap k:Nat) (y1 y2:Int) (yo:Option aJ) (yn yc:Nat) (y4:Int) (p:List C5) (u0 u2 u4 u5 u6 u7 u8 u9 u10 u11 u12 u13 u14 u15 u16 u17 u18 u19 u20 u21 u22 u23 u24 u25 u26 u27 u28 u29 u30 u31 u32 u33 u34 u35 u36 u37 u38 u39 u40 u41 u42 u43 u44 u45 u46 u47 u48 u49 u50 u51 u52 u53 u54 u55 u56 u57 u58 u59 u60 u61 u62 u63 u64 u65 u66 u67 u68 u69 u70 u71 u72 u73 u74 u75 u76 u77 u78 u79 u80 u81:aF)
  (h1:dK W b1 #[aj ak me,z1,J (Y ⟨g,0,Z⟩) n cap,z3,z4,z5] 28) (ho:lZ W B0 (J (Y ⟨g,0,Z⟩) n cap) l) (hy:l[k]?=Y (y1,y2,(yo,yn,yc),y4)) (hp:fI W (J yo yn yc) p) (lp:p.length<=900)
  (hQ:∀ (x:aG) (v32 v33 v34 v35 v36 v37 v38 v39 v40 v41:aF) (s1:Option aJ) (s2 s3:Nat),gT x W.heap.size (J s1 s2 s3) p->lZ x B0 (J (Y ⟨g,0,Z⟩) n cap) (l.set k (y1,y2,(s1,s2,s3),y4))->But g W x->(∀ B1,B1<=g->B1<=W.heap.size->Below B1 W x)->Q .normal ⟨(u0::O (Y ⟨b1,0,Z⟩)::u2::aj ak (k:Int)::u4::u5::u6::u7::u8::u9::u10::u11::u12::u13::u14::u15::u16::u17::u18::u19::u20::u21::u22::u23::u24::u25::u26::u27::u28::u29::u30::u31::v32::v33::v34::v35::v36::v37::v38::v39::v40::v41::u42::u43::u44::u45::u46::u47::u48::u49::u50::u51::u52::u53::u54::u55::u56::u57::u58::u59::u60::u61::u62::u63::u64::u65::u66::u67::u68::u69::u70::u71::u72::u73::u74::u75::u76::u77::u78::u79::u80::u81::[]).toArray,[]⟩ x) :
  Code.wp aI aew Q ⟨(u0::O (Y ⟨b1,0,Z⟩)::u2::aj ak (k:Int)::u4::u5::u6::u7::u8::u9::u10::u11::u12::u13::u14::u15::u16::u17::u18::u19::u20::u21::u22::u23::u24::u25::u26::u27::u28::u29::u30::u31::u32::u33::u34::u35::u36::u37::u38::u39::u40::u41::u42::u43::u44::u45::u46::u47::u48::u49::u50::u51::u52::u53::u54::u55::u56::u57::u58::u59::u60::u61::u62::u63::u64::u65::u66::u67::u68::u69::u70::u71::u72::u73::u74::u75::u76::u77::u78::u79::u80::u81::[]).toArray,[]⟩ W:=by
 have HQ:=L hQ;have H1:=L h1;have HO:=L ho;have HY:=L hy;have HP:=L hp;have LP:=L lp;have IX:=L (lC okD g k n cap (by obtain⟨_,_,hv⟩:=(Row.dH ho).len; have h:=(aA.1 hy).1; simp at hv; omega));have EL:=L (jE okD ho hy);clear hQ h1 ho hy hp lp;have iQ:=Yz W.heap.size b1 me z1 z3 z4 z5 g n cap k y1 y2 yo yn yc y4 p;unfold aew
 conv=>arg 2; whnf
 have nd:∀ j,(j<32\/42<=j)->∀ i,i<10->(fun i=>32+i) i≠j:=by
  intro j hj i hi h;simp only at h;omega
 refine bI 11 10 (fun i=>32+i) (fun _=>10) (Yy W.heap.size b1 me z1 z3 z4 z5 g n cap k y1 y2 yo yn yc y4 p) (by kernel_rfl) (by kernel_rfl) rfl (by decide) (fun i j _ _ h=>by have h2:32+i=32+j:=h; omega) (fun i hi=>by show 32+i<82; omega) ?_ (fun _=>bK 14 (by kernel_rfl)) ?_ ?_
 ·intro i o hi ho a x D hnd hc hD hb seen K hK;clear HQ;rcases (by omega:i=0\/i=1\/i=2\/i=3\/i=4\/i=5\/i=6\/i=7\/i=8\/i=9) with rfl|rfl|rfl|rfl|rfl|rfl|rfl|rfl|rfl|rfl
  ·cases ho;have e1:a.eval (au 1)=O (Y ⟨b1,0,Z⟩):=seen.kp 1 _ (nd 1 (by omega)) rfl;exact aD rfl rfl (aQ a.eval _ 28 (au 1) 2 rfl (by rw [e1]; simp [go_sem])) (hK _ _ rfl (ah _ _) fun _ _ _ _ _ _ _ h=>h)
  ·cases ho;have e32:a.eval (au 32)=O (Y ⟨b1,2,Z⟩):=seen.at_ ⟨0,.data⟩ (by simp) rfl (aB (by decide));have y2:=(H1.out.on hb).cell 2;simp only [U,V,X] at y2;exact aD rfl rfl (aU a.eval _ 23 (au 32) rfl (by rw [e32]; simp [go_sem,y2])) (hK _ _ rfl (ah _ _) fun _ _ _ _ _ _ _ h=>h)
  ·cases ho;have e3:a.eval (au 3)=aj ak (k:Int):=seen.kp 3 _ (nd 3 (by omega)) rfl;exact aD rfl rfl (bF a.eval _ (au 3) rfl x) (hK _ _ e3 (ah _ _) fun _ _ _ _ _ _ _ h=>h)
  ·cases ho;have e1:a.eval (au 1)=O (Y ⟨b1,0,Z⟩):=seen.kp 1 _ (nd 1 (by omega)) rfl;exact aD rfl rfl (aQ a.eval _ 28 (au 1) 2 rfl (by rw [e1]; simp [go_sem])) (hK _ _ rfl (ah _ _) fun _ _ _ _ _ _ _ h=>h)
  ·cases ho;have e35:a.eval (au 35)=O (Y ⟨b1,2,Z⟩):=seen.at_ ⟨3,.data⟩ (by simp) rfl (aB (by decide));have y2:=(H1.out.on hb).cell 2;simp only [U,V,X] at y2;exact aD rfl rfl (aU a.eval _ 23 (au 35) rfl (by rw [e35]; simp [go_sem,y2])) (hK _ _ rfl (ah _ _) fun _ _ _ _ _ _ _ h=>h)
  ·cases ho;have e3:a.eval (au 3)=aj ak (k:Int):=seen.kp 3 _ (nd 3 (by omega)) rfl;exact aD rfl rfl (bF a.eval _ (au 3) rfl x) (hK _ _ e3 (ah _ _) fun _ _ _ _ _ _ _ h=>h)
  ·cases ho;have e36:a.eval (au 36)=J (Y ⟨g,0,Z⟩) n cap:=seen.at_ ⟨4,.data⟩ (by simp) rfl (aB (by decide));have e37:a.eval (au 37)=aj ak (k:Int):=seen.at_ ⟨5,.data⟩ (by simp) rfl (aB (by decide));exact aD rfl rfl (bG a.eval _ 23 (au 36) (au 37) rfl (by rw [e36,e37]; exact IX.out x)) (hK _ _ rfl (ah _ _) fun _ _ _ _ _ _ _ h=>h)
  ·cases ho;have e38:a.eval (au 38)=O (Y ⟨g,k * 4,Z⟩):=seen.at_ ⟨6,.data⟩ (by simp) rfl (aB (by decide));exact aD rfl rfl (aU a.eval _ 74 (au 38) rfl (by rw [e38]; exact RG x _ (y1,y2,(yo,yn,yc),y4) (EL.out x hb))) (hK _ _ rfl (ah _ _) fun _ _ _ _ _ _ _ h=>h)
  ·cases ho;have e39:a.eval (au 39)=mJ (y1,y2,(yo,yn,yc),y4):=seen.at_ ⟨7,.data⟩ (by simp) rfl (aB (by decide));exact aX rfl rfl (Rw.iG a.eval _ (au 39) 74 79 rfl e39 rfl _ (gF Tryz.func79 rfl rfl _ _)) (AA (y1,y2,(yo,yn,yc),y4) p x (HP.out.on hb) LP.out) fun e w1 h=>by
    obtain⟨⟨s,rfl,h1⟩,h3⟩:=h;exact⟨_,rfl,hK _ _ ⟨s,rfl,dO h1 hb.size⟩ (h3.mono hb.size) fun j u hj _ _ _ hne h=>iQ j u _ _ h h3⟩
  ·cases ho;have e33:a.eval (au 33)=J (Y ⟨g,0,Z⟩) n cap:=seen.at_ ⟨1,.data⟩ (by simp) rfl (aB (by decide));have e34:a.eval (au 34)=aj ak (k:Int):=seen.at_ ⟨2,.data⟩ (by simp) rfl (aB (by decide));exact aD rfl rfl (bG a.eval _ 23 (au 33) (au 34) rfl (by rw [e33,e34]; exact IX.out x)) (hK _ _ rfl (ah _ _) fun _ _ _ _ _ _ _ h=>h)
 ·intro kk o h1 h2 ho;omega
 ·intro a w' df sz kp ⟨vs,hv⟩ hb;have sz':a.tmps.size=82:=sz;have g41:a.tmps[41]?=Y (O (Y ⟨g,k * 4,Z⟩)):=by
   have h:vs 9=O (Y ⟨g,k * 4,Z⟩):=(hv 9 (by omega)).2 (by decide);rw [<- h];exact (hv 9 (by omega)).1
  obtain⟨⟨s1,s2,s3⟩,hs,hc⟩:=(hv 8 (by omega)).2 (by decide);have g40:a.tmps[40]?=Y (mJ (y1,y2,(s1,s2,s3),y4)):=((hv 8 (by omega)).1).trans (congrArg Y hs);obtain⟨w2,hr,st1,st2,st3⟩:=acH (k:=k) (y1,y2,(s1,s2,s3),y4) (Bk.dI HO.out hb) (aA.1 HY.out).1;obtain⟨cur,hg⟩:=jJ (Bk.dI HO.out hb);show aW _ _ _ 1 10 a w';simp only [aW];refine aY 74 (au 41) (au 40) rfl rfl rfl rfl (aR g41) (aR g40) (w':=w2) hr ?_;have rV:∀ j,(j<32\/42<=j)->(a).tmps[j]?=(u0::O (Y ⟨b1,0,Z⟩)::u2::aj ak (k:Int)::u4::u5::u6::u7::u8::u9::u10::u11::u12::u13::u14::u15::u16::u17::u18::u19::u20::u21::u22::u23::u24::u25::u26::u27::u28::u29::u30::u31::u32::u33::u34::u35::u36::u37::u38::u39::u40::u41::u42::u43::u44::u45::u46::u47::u48::u49::u50::u51::u52::u53::u54::u55::u56::u57::u58::u59::u60::u61::u62::u63::u64::u65::u66::u67::u68::u69::u70::u71::u72::u73::u74::u75::u76::u77::u78::u79::u80::u81::[])[j]?:=fun j hj=>(kp j (nd j (by omega))).trans U;obtain⟨mid,hmid,hfr⟩:=bM (a:=a) 32 10 df (by simp [sz']) (by simp) rV;show Q .normal (a) _;rw [hfr]
  match mid,hmid with
  | [v32,v33,v34,v35,v36,v37,v38,v39,v40,v41],_ =>
   exact HQ.out _ _ _ _ _ _ _ _ _ _ _ s1 s2 s3 (st2.own hc hg (by decide)) st1 ((But.of_below hb).trans st2) fun B1 hB hl=>st3 B1 W hB (hb.mono hl)
def Ns (B:Nat) (b1:Nat) (_me:Int) (_z1 _z2 _z3 _z5:aF) (g n cap k:Nat) (_y1 _y2 _y3 _y4:Int) (yo:Option aJ) (yn yc:Nat) (_y6:Int) (_y7:Bool) (p:List C5) (i:Nat) (v:aF) (x:aG):Prop :=
 match i with
 | 0=>v=O (Y ⟨b1,4,Z⟩)
 | 1=>v=J (Y ⟨g,0,Z⟩) n cap
 | 2=>v=aj ak (k:Int)
 | 3=>v=O (Y ⟨b1,4,Z⟩)
 | 4=>v=J (Y ⟨g,0,Z⟩) n cap
 | 5=>v=aj ak (k:Int)
 | 6=>v=O (Y ⟨g,k * 7,Z⟩)
 | 7=>v=O (Y ⟨g,k * 7+4,Z⟩)
 | 8=>v=J yo yn yc
 | 9=>∃ s:Sl,v=dU s/\gT x B v p
 | 10=>v=O (Y ⟨g,k * 7,Z⟩)
 | 11=>v=O (Y ⟨g,k * 7+4,Z⟩)
 | _=>True
noncomputable def ZT:Code:=((Tryz.f91.body.bind (eO 11)).getD .skip)
theorem Te (B:Nat) (b1:Nat) (me:Int) (z1 z2 z3 z5:aF) (g n cap k:Nat) (y1 y2 y3 y4:Int) (yo:Option aJ) (yn yc:Nat) (y6:Int) (y7:Bool) (p:List C5) (i:Nat) (v:aF) (x x':aG) (h:Ns B b1 me z1 z2 z3 z5 g n cap k y1 y2 y3 y4 yo yn yc y6 y7 p i v x) (hb:Below x.heap.size x x'):Ns B b1 me z1 z2 z3 z5 g n cap k y1 y2 y3 y4 yo yn yc y6 y7 p i v x':=by
 by_cases hi:i<12
 ·rcases (by omega:i=0\/i=1\/i=2\/i=3\/i=4\/i=5\/i=6\/i=7\/i=8\/i=9\/i=10\/i=11) with rfl|rfl|rfl|rfl|rfl|rfl|rfl|rfl|rfl|rfl|rfl|rfl
  ·exact h
  ·exact h
  ·exact h
  ·exact h
  ·exact h
  ·exact h
  ·exact h
  ·exact h
  ·exact h
  ·obtain⟨s,h1,h2⟩:=h; exact⟨s,h1,Bk.dI h2 hb⟩
  ·exact h
  ·exact h
 ·unfold Ns
  split <;> first | omega | trivial
theorem agI (Q:Exit->Act->aG->Prop) (W:aG) (B0:Nat) (l:List iq) (b1:Nat) (me:Int) (z1 z2 z3 z5:aF) (g n cap k:Nat) (y1 y2 y3 y4:Int) (yo:Option aJ) (yn yc:Nat) (y6:Int) (y7:Bool) (p:List C5) (u0 u2 u3 u5 u6 u7 u8 u9 u10 u11 u12 u13 u14 u15 u16 u17 u18 u19 u20 u21 u22 u23 u24 u25 u26 u27 u28 u29 u30 u31 u32 u33 u34 u35 u36 u37 u38 u39 u40 u41 u42 u43 u44 u45 u46 u47 u48 u49 u50 u51 u52 u53 u54 u55 u56 u57 u58 u59 u60 u61 u62 u63 u64 u65 u66 u67 u68 u69 u70 u71 u72 u73 u74 u75 u76 u77 u78 u79 u80 u81:aF)
  (h1:dK W b1 #[aj ak me,z1,z2,z3,J (Y ⟨g,0,Z⟩) n cap,z5] 28) (ho:jV W B0 (J (Y ⟨g,0,Z⟩) n cap) l) (hy:l[k]?=Y (y1,y2,y3,y4,(yo,yn,yc),y6,y7)) (hp:fI W (J yo yn yc) p) (lp:p.length<=900)
  (hQ:∀ (x:aG) (v49 v50 v51 v52 v53 v54 v55 v56 v57 v58 v59 v60:aF) (s1:Option aJ) (s2 s3:Nat),gT x W.heap.size (J s1 s2 s3) p->jV x B0 (J (Y ⟨g,0,Z⟩) n cap) (l.set k (y1,y2,y3,y4,(s1,s2,s3),y6,y7))->But g W x->(∀ B1,B1<=g->B1<=W.heap.size->Below B1 W x)->Q .normal ⟨(u0::O (Y ⟨b1,0,Z⟩)::u2::u3::aj ak (k:Int)::u5::u6::u7::u8::u9::u10::u11::u12::u13::u14::u15::u16::u17::u18::u19::u20::u21::u22::u23::u24::u25::u26::u27::u28::u29::u30::u31::u32::u33::u34::u35::u36::u37::u38::u39::u40::u41::u42::u43::u44::u45::u46::u47::u48::v49::v50::v51::v52::v53::v54::v55::v56::v57::v58::v59::v60::u61::u62::u63::u64::u65::u66::u67::u68::u69::u70::u71::u72::u73::u74::u75::u76::u77::u78::u79::u80::u81::[]).toArray,[]⟩ x) :
  Code.wp aI ZT Q ⟨(u0::O (Y ⟨b1,0,Z⟩)::u2::u3::aj ak (k:Int)::u5::u6::u7::u8::u9::u10::u11::u12::u13::u14::u15::u16::u17::u18::u19::u20::u21::u22::u23::u24::u25::u26::u27::u28::u29::u30::u31::u32::u33::u34::u35::u36::u37::u38::u39::u40::u41::u42::u43::u44::u45::u46::u47::u48::u49::u50::u51::u52::u53::u54::u55::u56::u57::u58::u59::u60::u61::u62::u63::u64::u65::u66::u67::u68::u69::u70::u71::u72::u73::u74::u75::u76::u77::u78::u79::u80::u81::[]).toArray,[]⟩ W:=by
 have HQ:=L hQ;have H1:=L h1;have HO:=L ho;have HY:=L hy;have HP:=L hp;have LP:=L lp;have IX:=L (lC nO g k n cap (by obtain⟨_,_,hv⟩:=(Row.dH ho).len; have h:=(aA.1 hy).1; simp at hv; omega));have EL:=L (jE nO ho hy);clear hQ h1 ho hy hp lp;have iQ:=Te W.heap.size b1 me z1 z2 z3 z5 g n cap k y1 y2 y3 y4 yo yn yc y6 y7 p;unfold ZT
 conv=>arg 2; whnf
 have nd:∀ j,(j<49\/61<=j)->∀ i,i<12->(fun i=>49+i) i≠j:=by
  intro j hj i hi h;simp only at h;omega
 refine bI 13 12 (fun i=>49+i) (fun _=>12) (Ns W.heap.size b1 me z1 z2 z3 z5 g n cap k y1 y2 y3 y4 yo yn yc y6 y7 p) (by kernel_rfl) (by kernel_rfl) rfl (by decide) (fun i j _ _ h=>by have h2:49+i=49+j:=h; omega) (fun i hi=>by show 49+i<82; omega) ?_ (fun _=>bK 14 (by kernel_rfl)) ?_ ?_
 ·intro i o hi ho a x D hnd hc hD hb seen K hK;clear HQ;rcases (by omega:i=0\/i=1\/i=2\/i=3\/i=4\/i=5\/i=6\/i=7\/i=8\/i=9\/i=10\/i=11) with rfl|rfl|rfl|rfl|rfl|rfl|rfl|rfl|rfl|rfl|rfl|rfl
  ·cases ho;have e1:a.eval (au 1)=O (Y ⟨b1,0,Z⟩):=seen.kp 1 _ (nd 1 (by omega)) rfl;exact aD rfl rfl (aQ a.eval _ 28 (au 1) 4 rfl (by rw [e1]; simp [go_sem])) (hK _ _ rfl (ah _ _) fun _ _ _ _ _ _ _ h=>h)
  ·cases ho;have e49:a.eval (au 49)=O (Y ⟨b1,4,Z⟩):=seen.at_ ⟨0,.data⟩ (by simp) rfl (aB (by decide));have y4:=(H1.out.on hb).cell 4;simp only [U,V,X] at y4;exact aD rfl rfl (aU a.eval _ 25 (au 49) rfl (by rw [e49]; simp [go_sem,y4])) (hK _ _ rfl (ah _ _) fun _ _ _ _ _ _ _ h=>h)
  ·cases ho;have e4:a.eval (au 4)=aj ak (k:Int):=seen.kp 4 _ (nd 4 (by omega)) rfl;exact aD rfl rfl (bF a.eval _ (au 4) rfl x) (hK _ _ e4 (ah _ _) fun _ _ _ _ _ _ _ h=>h)
  ·cases ho;have e1:a.eval (au 1)=O (Y ⟨b1,0,Z⟩):=seen.kp 1 _ (nd 1 (by omega)) rfl;exact aD rfl rfl (aQ a.eval _ 28 (au 1) 4 rfl (by rw [e1]; simp [go_sem])) (hK _ _ rfl (ah _ _) fun _ _ _ _ _ _ _ h=>h)
  ·cases ho;have e52:a.eval (au 52)=O (Y ⟨b1,4,Z⟩):=seen.at_ ⟨3,.data⟩ (by simp) rfl (aB (by decide));have y4:=(H1.out.on hb).cell 4;simp only [U,V,X] at y4;exact aD rfl rfl (aU a.eval _ 25 (au 52) rfl (by rw [e52]; simp [go_sem,y4])) (hK _ _ rfl (ah _ _) fun _ _ _ _ _ _ _ h=>h)
  ·cases ho;have e4:a.eval (au 4)=aj ak (k:Int):=seen.kp 4 _ (nd 4 (by omega)) rfl;exact aD rfl rfl (bF a.eval _ (au 4) rfl x) (hK _ _ e4 (ah _ _) fun _ _ _ _ _ _ _ h=>h)
  ·cases ho;have e53:a.eval (au 53)=J (Y ⟨g,0,Z⟩) n cap:=seen.at_ ⟨4,.data⟩ (by simp) rfl (aB (by decide));have e54:a.eval (au 54)=aj ak (k:Int):=seen.at_ ⟨5,.data⟩ (by simp) rfl (aB (by decide));exact aD rfl rfl (bG a.eval _ 25 (au 53) (au 54) rfl (by rw [e53,e54]; exact IX.out x)) (hK _ _ rfl (ah _ _) fun _ _ _ _ _ _ _ h=>h)
  ·cases ho;have e55:a.eval (au 55)=O (Y ⟨g,k * 7,Z⟩):=seen.at_ ⟨6,.data⟩ (by simp) rfl (aB (by decide));exact aD rfl rfl (aQ a.eval _ 66 (au 55) 2 rfl (by rw [e55]; simp [go_sem])) (hK _ _ rfl (ah _ _) fun _ _ _ _ _ _ _ h=>h)
  ·cases ho;have e56:a.eval (au 56)=O (Y ⟨g,k * 7+4,Z⟩):=seen.at_ ⟨7,.data⟩ (by simp) rfl (aB (by decide));have y:=EL.out x hb 4 _ rfl;simp [aL,EN] at y;exact aD rfl rfl (aU a.eval _ 32 (au 56) rfl (by rw [e56]; simp [go_sem,y])) (hK _ _ rfl (ah _ _) fun _ _ _ _ _ _ _ h=>h)
  ·cases ho;have e57:a.eval (au 57)=J yo yn yc:=seen.at_ ⟨8,.data⟩ (by simp) rfl (aB (by decide));exact aX rfl rfl (Rw.iG a.eval _ (au 57) 32 123 rfl e57 rfl _ (gF bg rfl rfl _ _)) (mW (yo,yn,yc) p x (HP.out.on hb) LP.out) fun e w1 h=>by
    obtain⟨⟨s,rfl,h1⟩,h3⟩:=h;exact⟨_,rfl,hK _ _ ⟨s,rfl,dO h1 hb.size⟩ (h3.mono hb.size) fun j u hj _ _ _ hne h=>iQ j u _ _ h h3⟩
  ·cases ho;have e50:a.eval (au 50)=J (Y ⟨g,0,Z⟩) n cap:=seen.at_ ⟨1,.data⟩ (by simp) rfl (aB (by decide));have e51:a.eval (au 51)=aj ak (k:Int):=seen.at_ ⟨2,.data⟩ (by simp) rfl (aB (by decide));exact aD rfl rfl (bG a.eval _ 25 (au 50) (au 51) rfl (by rw [e50,e51]; exact IX.out x)) (hK _ _ rfl (ah _ _) fun _ _ _ _ _ _ _ h=>h)
  ·cases ho;have e59:a.eval (au 59)=O (Y ⟨g,k * 7,Z⟩):=seen.at_ ⟨10,.data⟩ (by simp) rfl (aB (by decide));exact aD rfl rfl (aQ a.eval _ 66 (au 59) 2 rfl (by rw [e59]; simp [go_sem])) (hK _ _ rfl (ah _ _) fun _ _ _ _ _ _ _ h=>h)
 ·intro kk o h1 h2 ho;omega
 ·intro a w' df sz kp ⟨vs,hv⟩ hb;have sz':a.tmps.size=82:=sz;have g60:a.tmps[60]?=Y (O (Y ⟨g,k * 7+4,Z⟩)):=by
   have h:vs 11=O (Y ⟨g,k * 7+4,Z⟩):=(hv 11 (by omega)).2 (by decide);rw [<- h];exact (hv 11 (by omega)).1
  obtain⟨⟨s1,s2,s3⟩,hs,hc⟩:=(hv 9 (by omega)).2 (by decide);have g58:a.tmps[58]?=Y (J s1 s2 s3):=((hv 9 (by omega)).1).trans (congrArg Y hs);rw [hs] at hc;obtain⟨w2,hr,st1,st2,st3⟩:=acI (k:=k) s1 s2 s3 (Bk.dI HO.out hb) HY.out;obtain⟨cur,hg⟩:=jJ (Bk.dI HO.out hb);show aW _ _ _ 1 12 a w';simp only [aW];refine aY 32 (au 60) (au 58) rfl rfl rfl rfl (aR g60) (aR g58) (w':=w2) hr ?_;have rV:∀ j,(j<49\/61<=j)->(a).tmps[j]?=(u0::O (Y ⟨b1,0,Z⟩)::u2::u3::aj ak (k:Int)::u5::u6::u7::u8::u9::u10::u11::u12::u13::u14::u15::u16::u17::u18::u19::u20::u21::u22::u23::u24::u25::u26::u27::u28::u29::u30::u31::u32::u33::u34::u35::u36::u37::u38::u39::u40::u41::u42::u43::u44::u45::u46::u47::u48::u49::u50::u51::u52::u53::u54::u55::u56::u57::u58::u59::u60::u61::u62::u63::u64::u65::u66::u67::u68::u69::u70::u71::u72::u73::u74::u75::u76::u77::u78::u79::u80::u81::[])[j]?:=fun j hj=>(kp j (nd j (by omega))).trans U;obtain⟨mid,hmid,hfr⟩:=bM (a:=a) 49 12 df (by simp [sz']) (by simp) rV;show Q .normal (a) _;rw [hfr]
  match mid,hmid with
  | [v49,v50,v51,v52,v53,v54,v55,v56,v57,v58,v59,v60],_ =>
   exact HQ.out _ _ _ _ _ _ _ _ _ _ _ _ _ s1 s2 s3 (st2.own hc hg (by decide)) st1 ((But.of_below hb).trans st2) fun B1 hB hl=>st3 B1 W hB (hb.mono hl)
def Nt (B:Nat) (b1:Nat) (_me:Int) (_z1 _z2 _z3 _z4:aF) (g n cap k:Nat) (_y1 _y2:Int) (yo:Option aJ) (yn yc:Nat) (p:List C5) (i:Nat) (v:aF) (x:aG):Prop :=
 match i with
 | 0=>v=O (Y ⟨b1,5,Z⟩)
 | 1=>v=J (Y ⟨g,0,Z⟩) n cap
 | 2=>v=aj ak (k:Int)
 | 3=>v=O (Y ⟨b1,5,Z⟩)
 | 4=>v=J (Y ⟨g,0,Z⟩) n cap
 | 5=>v=aj ak (k:Int)
 | 6=>v=O (Y ⟨g,k * 3,Z⟩)
 | 7=>v=O (Y ⟨g,k * 3+2,Z⟩)
 | 8=>v=J yo yn yc
 | 9=>∃ s:Sl,v=dU s/\gT x B v p
 | 10=>v=O (Y ⟨g,k * 3,Z⟩)
 | 11=>v=O (Y ⟨g,k * 3+2,Z⟩)
 | _=>True
noncomputable def ZU:Code:=((Tryz.f91.body.bind (eO 16)).getD .skip)
theorem Tf (B:Nat) (b1:Nat) (me:Int) (z1 z2 z3 z4:aF) (g n cap k:Nat) (y1 y2:Int) (yo:Option aJ) (yn yc:Nat) (p:List C5) (i:Nat) (v:aF) (x x':aG) (h:Nt B b1 me z1 z2 z3 z4 g n cap k y1 y2 yo yn yc p i v x) (hb:Below x.heap.size x x'):Nt B b1 me z1 z2 z3 z4 g n cap k y1 y2 yo yn yc p i v x':=by
 by_cases hi:i<12
 ·rcases (by omega:i=0\/i=1\/i=2\/i=3\/i=4\/i=5\/i=6\/i=7\/i=8\/i=9\/i=10\/i=11) with rfl|rfl|rfl|rfl|rfl|rfl|rfl|rfl|rfl|rfl|rfl|rfl
  ·exact h
  ·exact h
  ·exact h
  ·exact h
  ·exact h
  ·exact h
  ·exact h
  ·exact h
  ·exact h
  ·obtain⟨s,h1,h2⟩:=h; exact⟨s,h1,Bk.dI h2 hb⟩
  ·exact h
  ·exact h
 ·unfold Nt
  split <;> first | omega | trivial
theorem agJ (Q:Exit->Act->aG->Prop) (W:aG) (B0:Nat) (l:List qM) (b1:Nat) (me:Int) (z1 z2 z3 z4:aF) (g n cap k:Nat) (y1 y2:Int) (yo:Option aJ) (yn yc:Nat) (p:List C5) (u0 u2 u3 u4 u6 u7 u8 u9 u10 u11 u12 u13 u14 u15 u16 u17 u18 u19 u20 u21 u22 u23 u24 u25 u26 u27 u28 u29 u30 u31 u32 u33 u34 u35 u36 u37 u38 u39 u40 u41 u42 u43 u44 u45 u46 u47 u48 u49 u50 u51 u52 u53 u54 u55 u56 u57 u58 u59 u60 u61 u62 u63 u64 u65 u66 u67 u68 u69 u70 u71 u72 u73 u74 u75 u76 u77 u78 u79 u80 u81:aF)
  (h1:dK W b1 #[aj ak me,z1,z2,z3,z4,J (Y ⟨g,0,Z⟩) n cap] 28) (ho:qN W B0 (J (Y ⟨g,0,Z⟩) n cap) l) (hy:l[k]?=Y (y1,y2,(yo,yn,yc))) (hp:fI W (J yo yn yc) p) (lp:p.length<=900)
  (hQ:∀ (x:aG) (v68 v69 v70 v71 v72 v73 v74 v75 v76 v77 v78 v79:aF) (s1:Option aJ) (s2 s3:Nat),gT x W.heap.size (J s1 s2 s3) p->qN x B0 (J (Y ⟨g,0,Z⟩) n cap) (l.set k (y1,y2,(s1,s2,s3)))->But g W x->(∀ B1,B1<=g->B1<=W.heap.size->Below B1 W x)->Q .normal ⟨(u0::O (Y ⟨b1,0,Z⟩)::u2::u3::u4::aj ak (k:Int)::u6::u7::u8::u9::u10::u11::u12::u13::u14::u15::u16::u17::u18::u19::u20::u21::u22::u23::u24::u25::u26::u27::u28::u29::u30::u31::u32::u33::u34::u35::u36::u37::u38::u39::u40::u41::u42::u43::u44::u45::u46::u47::u48::u49::u50::u51::u52::u53::u54::u55::u56::u57::u58::u59::u60::u61::u62::u63::u64::u65::u66::u67::v68::v69::v70::v71::v72::v73::v74::v75::v76::v77::v78::v79::u80::u81::[]).toArray,[]⟩ x) :
  Code.wp aI ZU Q ⟨(u0::O (Y ⟨b1,0,Z⟩)::u2::u3::u4::aj ak (k:Int)::u6::u7::u8::u9::u10::u11::u12::u13::u14::u15::u16::u17::u18::u19::u20::u21::u22::u23::u24::u25::u26::u27::u28::u29::u30::u31::u32::u33::u34::u35::u36::u37::u38::u39::u40::u41::u42::u43::u44::u45::u46::u47::u48::u49::u50::u51::u52::u53::u54::u55::u56::u57::u58::u59::u60::u61::u62::u63::u64::u65::u66::u67::u68::u69::u70::u71::u72::u73::u74::u75::u76::u77::u78::u79::u80::u81::[]).toArray,[]⟩ W:=by
 have HQ:=L hQ;have H1:=L h1;have HO:=L ho;have HY:=L hy;have HP:=L hp;have LP:=L lp;have IX:=L (lC okW g k n cap (by obtain⟨_,_,hv⟩:=(Row.dH ho).len; have h:=(aA.1 hy).1; simp at hv; omega));have EL:=L (jE okW ho hy);clear hQ h1 ho hy hp lp;have iQ:=Tf W.heap.size b1 me z1 z2 z3 z4 g n cap k y1 y2 yo yn yc p;unfold ZU
 conv=>arg 2; whnf
 have nd:∀ j,(j<68\/80<=j)->∀ i,i<12->(fun i=>68+i) i≠j:=by
  intro j hj i hi h;simp only at h;omega
 refine bI 13 12 (fun i=>68+i) (fun _=>12) (Nt W.heap.size b1 me z1 z2 z3 z4 g n cap k y1 y2 yo yn yc p) (by kernel_rfl) (by kernel_rfl) rfl (by decide) (fun i j _ _ h=>by have h2:68+i=68+j:=h; omega) (fun i hi=>by show 68+i<82; omega) ?_ (fun _=>bK 14 (by kernel_rfl)) ?_ ?_
 ·intro i o hi ho a x D hnd hc hD hb seen K hK;clear HQ;rcases (by omega:i=0\/i=1\/i=2\/i=3\/i=4\/i=5\/i=6\/i=7\/i=8\/i=9\/i=10\/i=11) with rfl|rfl|rfl|rfl|rfl|rfl|rfl|rfl|rfl|rfl|rfl|rfl
  ·cases ho;have e1:a.eval (au 1)=O (Y ⟨b1,0,Z⟩):=seen.kp 1 _ (nd 1 (by omega)) rfl;exact aD rfl rfl (aQ a.eval _ 28 (au 1) 5 rfl (by rw [e1]; simp [go_sem])) (hK _ _ rfl (ah _ _) fun _ _ _ _ _ _ _ h=>h)
  ·cases ho;have e68:a.eval (au 68)=O (Y ⟨b1,5,Z⟩):=seen.at_ ⟨0,.data⟩ (by simp) rfl (aB (by decide));have y5:=(H1.out.on hb).cell 5;simp only [U,V,X] at y5;exact aD rfl rfl (aU a.eval _ 26 (au 68) rfl (by rw [e68]; simp [go_sem,y5])) (hK _ _ rfl (ah _ _) fun _ _ _ _ _ _ _ h=>h)
  ·cases ho;have e5:a.eval (au 5)=aj ak (k:Int):=seen.kp 5 _ (nd 5 (by omega)) rfl;exact aD rfl rfl (bF a.eval _ (au 5) rfl x) (hK _ _ e5 (ah _ _) fun _ _ _ _ _ _ _ h=>h)
  ·cases ho;have e1:a.eval (au 1)=O (Y ⟨b1,0,Z⟩):=seen.kp 1 _ (nd 1 (by omega)) rfl;exact aD rfl rfl (aQ a.eval _ 28 (au 1) 5 rfl (by rw [e1]; simp [go_sem])) (hK _ _ rfl (ah _ _) fun _ _ _ _ _ _ _ h=>h)
  ·cases ho;have e71:a.eval (au 71)=O (Y ⟨b1,5,Z⟩):=seen.at_ ⟨3,.data⟩ (by simp) rfl (aB (by decide));have y5:=(H1.out.on hb).cell 5;simp only [U,V,X] at y5;exact aD rfl rfl (aU a.eval _ 26 (au 71) rfl (by rw [e71]; simp [go_sem,y5])) (hK _ _ rfl (ah _ _) fun _ _ _ _ _ _ _ h=>h)
  ·cases ho;have e5:a.eval (au 5)=aj ak (k:Int):=seen.kp 5 _ (nd 5 (by omega)) rfl;exact aD rfl rfl (bF a.eval _ (au 5) rfl x) (hK _ _ e5 (ah _ _) fun _ _ _ _ _ _ _ h=>h)
  ·cases ho;have e72:a.eval (au 72)=J (Y ⟨g,0,Z⟩) n cap:=seen.at_ ⟨4,.data⟩ (by simp) rfl (aB (by decide));have e73:a.eval (au 73)=aj ak (k:Int):=seen.at_ ⟨5,.data⟩ (by simp) rfl (aB (by decide));exact aD rfl rfl (bG a.eval _ 26 (au 72) (au 73) rfl (by rw [e72,e73]; exact IX.out x)) (hK _ _ rfl (ah _ _) fun _ _ _ _ _ _ _ h=>h)
  ·cases ho;have e74:a.eval (au 74)=O (Y ⟨g,k * 3,Z⟩):=seen.at_ ⟨6,.data⟩ (by simp) rfl (aB (by decide));exact aD rfl rfl (aQ a.eval _ 34 (au 74) 1 rfl (by rw [e74]; simp [go_sem])) (hK _ _ rfl (ah _ _) fun _ _ _ _ _ _ _ h=>h)
  ·cases ho;have e75:a.eval (au 75)=O (Y ⟨g,k * 3+2,Z⟩):=seen.at_ ⟨7,.data⟩ (by simp) rfl (aB (by decide));have y:=EL.out x hb 2 _ rfl;simp [aL,EW] at y;exact aD rfl rfl (aU a.eval _ 32 (au 75) rfl (by rw [e75]; simp [go_sem,y])) (hK _ _ rfl (ah _ _) fun _ _ _ _ _ _ _ h=>h)
  ·cases ho;have e76:a.eval (au 76)=J yo yn yc:=seen.at_ ⟨8,.data⟩ (by simp) rfl (aB (by decide));exact aX rfl rfl (Rw.iG a.eval _ (au 76) 32 123 rfl e76 rfl _ (gF bg rfl rfl _ _)) (mW (yo,yn,yc) p x (HP.out.on hb) LP.out) fun e w1 h=>by
    obtain⟨⟨s,rfl,h1⟩,h3⟩:=h;exact⟨_,rfl,hK _ _ ⟨s,rfl,dO h1 hb.size⟩ (h3.mono hb.size) fun j u hj _ _ _ hne h=>iQ j u _ _ h h3⟩
  ·cases ho;have e69:a.eval (au 69)=J (Y ⟨g,0,Z⟩) n cap:=seen.at_ ⟨1,.data⟩ (by simp) rfl (aB (by decide));have e70:a.eval (au 70)=aj ak (k:Int):=seen.at_ ⟨2,.data⟩ (by simp) rfl (aB (by decide));exact aD rfl rfl (bG a.eval _ 26 (au 69) (au 70) rfl (by rw [e69,e70]; exact IX.out x)) (hK _ _ rfl (ah _ _) fun _ _ _ _ _ _ _ h=>h)
  ·cases ho;have e78:a.eval (au 78)=O (Y ⟨g,k * 3,Z⟩):=seen.at_ ⟨10,.data⟩ (by simp) rfl (aB (by decide));exact aD rfl rfl (aQ a.eval _ 34 (au 78) 1 rfl (by rw [e78]; simp [go_sem])) (hK _ _ rfl (ah _ _) fun _ _ _ _ _ _ _ h=>h)
 ·intro kk o h1 h2 ho;omega
 ·intro a w' df sz kp ⟨vs,hv⟩ hb;have sz':a.tmps.size=82:=sz;have g79:a.tmps[79]?=Y (O (Y ⟨g,k * 3+2,Z⟩)):=by
   have h:vs 11=O (Y ⟨g,k * 3+2,Z⟩):=(hv 11 (by omega)).2 (by decide);rw [<- h];exact (hv 11 (by omega)).1
  obtain⟨⟨s1,s2,s3⟩,hs,hc⟩:=(hv 9 (by omega)).2 (by decide);have g77:a.tmps[77]?=Y (J s1 s2 s3):=((hv 9 (by omega)).1).trans (congrArg Y hs);rw [hs] at hc;obtain⟨w2,hr,st1,st2,st3⟩:=acJ (k:=k) s1 s2 s3 (Bk.dI HO.out hb) HY.out;obtain⟨cur,hg⟩:=jJ (Bk.dI HO.out hb);show aW _ _ _ 1 12 a w';simp only [aW];refine aY 32 (au 79) (au 77) rfl rfl rfl rfl (aR g79) (aR g77) (w':=w2) hr ?_;have rV:∀ j,(j<68\/80<=j)->(a).tmps[j]?=(u0::O (Y ⟨b1,0,Z⟩)::u2::u3::u4::aj ak (k:Int)::u6::u7::u8::u9::u10::u11::u12::u13::u14::u15::u16::u17::u18::u19::u20::u21::u22::u23::u24::u25::u26::u27::u28::u29::u30::u31::u32::u33::u34::u35::u36::u37::u38::u39::u40::u41::u42::u43::u44::u45::u46::u47::u48::u49::u50::u51::u52::u53::u54::u55::u56::u57::u58::u59::u60::u61::u62::u63::u64::u65::u66::u67::u68::u69::u70::u71::u72::u73::u74::u75::u76::u77::u78::u79::u80::u81::[])[j]?:=fun j hj=>(kp j (nd j (by omega))).trans U;obtain⟨mid,hmid,hfr⟩:=bM (a:=a) 68 12 df (by simp [sz']) (by simp) rV;show Q .normal (a) _;rw [hfr]
  match mid,hmid with
  | [v68,v69,v70,v71,v72,v73,v74,v75,v76,v77,v78,v79],_ =>
   exact HQ.out _ _ _ _ _ _ _ _ _ _ _ _ _ s1 s2 s3 (st2.own hc hg (by decide)) st1 ((But.of_below hb).trans st2) fun B1 hB hl=>st3 B1 W hB (hb.mono hl)
structure yD (b:Br):Prop where
 dQ:∀ a∈b.dQ,a.p.length<=900
 ent:∀ a∈b.ent,a.p.length<=900
 own:∀ a∈b.own,a.p.length<=900
theorem gW {α:Type} {E:Ek α} {W:aG} {B n cap:Nat} {o:Option aJ} {l:List α} (h:Own E W B (J o n cap) l):l.length=n:=by
 obtain⟨_,_,hv⟩:=(Row.dH h).len;have:n=l.length:=by simpa using congrArg (fun v=>match v with | Value.slice _ n _=>n | _=>0) hv
 exact this.symm
theorem sS {α:Type} {E:Ek α} {W:aG} {B n cap:Nat} {o:Option aJ} {l:List α} (h:Own E W B (J o n cap) l) (hn:0<n):∃ g,o=Y ⟨g,0,Z⟩/\B<=g:=by
 have hl:=gW h;rcases gM h with⟨_,h2⟩|⟨g,c',cur,h1,h2,_⟩
 ·rw [h2] at hl; simp at hl; omega
 ·exact⟨g,by simp at h1; exact h1.1,h2⟩
theorem eY (w:aG) (b:Nat) (a0 a1 a2 a3 a4 a5:aF):But b w (gH w b a0 a1 a2 a3 a4 a5) :=
 (((dP _ b _ _).trans (dP _ b _ _)).trans ((dP _ b _ _).trans (dP _ b _ _))).trans ((dP _ b _ _).trans (dP _ b _ _))
theorem Cs.done {w0 w wr:aG} {b:Br} {nv sv:Sl} {p2 p4 p5:Option aJ} {q2 s2 q4 s4 q5 s5:Nat} (h:Cs w0 w wr b q2 q4 q5 nv (p2,q2,s2) sv (p4,q4,s4) (p5,q5,s5)) (a0 a1 a2 a3 a4 a5:aF):Cp (vw w0) w.heap.size (gH wr (w.heap.size+1) a0 a1 a2 a3 a4 a5) b nv (p2,q2,s2) sv (p4,q4,s4) (p5,q5,s5)/\Below w.heap.size w (gH wr (w.heap.size+1) a0 a1 a2 a3 a4 a5):=by
 obtain⟨l1,d1,d2,d3⟩:=h.dQ;obtain⟨l2,e1,e2,e3⟩:=h.ent;obtain⟨l3,f1,f2,f3⟩:=h.own;have n1:l1.length=q2:=gW d1;have n2:l2.length=q4:=gW e1;have n3:l3.length=q5:=gW f1;rw [aC (by omega),aC (by have:=d2.len; omega)] at d3;rw [aC (by omega),aC (by have:=e2.len; omega)] at e3;rw [aC (by omega),aC (by have:=f2.len; omega)] at f3;exact⟨Cp.but ⟨h.near,h.seen,⟨l1,d1,d3⟩,⟨l2,e1,e3⟩,⟨l3,f1,f3⟩⟩ (eY wr (w.heap.size+1) a0 a1 a2 a3 a4 a5) h.bz,dG h.vB (by omega) a0 a1 a2 a3 a4 a5⟩
theorem uK (b:Br) (nv av sv ev ov:Sl) (w0 w:aG) (hw0:Below w0.heap.size w0 w) (h:iZ w0 b nv av sv ev ov) (hf:Rk b) (hp:yD b) :
  Calls aI 91 #[rP b.me nv av sv ev ov] w fun e w'=>(∃ nv' CZ KG ev' ZV:Sl,e=.returned (rP b.me nv' CZ KG ev' ZV)/\Cp (vw w0) w.heap.size w' b nv' CZ KG ev' ZV)/\Below w.heap.size w w':=by
 obtain⟨no,nn,nc⟩:=nv;obtain⟨ao,an,ac⟩:=av;obtain⟨so,sn,sc⟩:=sv;obtain⟨eo,en,ec⟩:=ev;obtain⟨oo,dY,oc⟩:=ov;obtain⟨la,ha1,ha2⟩:=h.dQ;obtain⟨le,he1,he2⟩:=h.ent;obtain⟨KR,ho1,ho2⟩:=h.own;have HA:=L ha2;have HE:=L he2;have HO:=L ho2;have R0:=L (h.near.on hw0);have R1:=L (ha1.on hw0);have R2:=L (h.seen.on hw0);have R3:=L (he1.on hw0);have R4:=L (ho1.on hw0);have W0:=L hw0;have HP:=L hp;have LL0:=L hf.near;have LL1:=L (show la.length<=900 by rw [ha2.len]; exact hf.dQ);have LL2:=L hf.seen;have LL3:=L (show le.length<=900 by rw [he2.len]; exact hf.ent);have LL4:=L (show KR.length<=900 by rw [ho2.len]; exact hf.own);obtain⟨h0,h1,h2⟩:=gP w #[aj ak b.me,J no nn nc,J ao an ac,J so sn sc,J eo en ec,J oo dY oc] #[aj ak 0,J Z 0 0,J Z 0 0,J Z 0 0,J Z 0 0,J Z 0 0] 28 28;have B0:=L h0;have XB:=L h1;have ZB:=L h2;clear h0 h1 h2 h hf hp hw0 ha1 ha2 he1 he2 ho1 ho2;go_enter Tryz.func91,Tryz.ntmps91;go_upto_region 1 with fail;generalize (w.alloc (aK #[aj ak b.me,J no nn nc,J ao an ac,J so sn sc,J eo en ec,J oo dY oc] 28)).alloc (aK #[aj ak 0,J Z 0 0,J Z 0 0,J Z 0 0,J Z 0 0,J Z 0 0] 28)=W at *;refine cp1 _ W w.heap.size b.me (J ao an ac) (J eo en ec) (J oo dY oc) no nn nc b.near so sn sc b.seen _ _ _ _ _ _ _ _ _ _ _ _ _ _ _ _ _ _ _ _ _ _ _ _ _ _ _ _ _ _ _ _ _ _ _ _ _ _ _ _ _ _ _ _ _ _ _ _ _ _ _ _ _ _ _ _ _ _ _ _ _ _ _ _ _ _ _ _ _ _ _ _ _ _ _ _ _ _ _ _ _ XB.out (R0.out.on B0.out) (R2.out.on B0.out) LL0.out LL2.out ?_;intro x1 v6 v7 v8 v9 v10 v11 v12 v13 p1 q1 s1 p3 q3 s3 hb1 hn1 hs1 Tg Ti;have B1:=L (B0.out.trans (Tg _ (aT _)));have S1:=L (show W.heap.size<=x1.heap.size from (Tg _ (aT _)).size);have ZB1:=L (show dK x1 (w.heap.size+1) _ _ from (Ti _ ZB.out.lt (by omega)).trans ZB.out);have XB1:=L hb1;have N1:=L (dO hn1 B0.out.size);have J1:=L (dO hs1 B0.out.size);clear hb1 hn1 hs1 Tg Ti XB ZB;go_upto_region 2 with fail;refine cp2 _ x1 w.heap.size b.me (J p1 q1 s1) (J p3 q3 s3) ao an ac la eo en ec le oo dY oc KR _ _ _ _ _ _ _ _ _ _ _ _ _ _ _ _ _ _ _ _ _ _ _ _ _ _ _ _ _ _ _ _ _ _ _ _ _ _ _ _ _ _ _ _ _ _ _ _ _ _ _ _ _ _ _ _ _ _ _ _ _ _ _ _ _ _ _ _ _ _ _ _ _ _ _ _ _ _ _ _ _ XB1.out (R1.out.on B1.out) (R3.out.on B1.out) (R4.out.on B1.out) LL1.out LL3.out LL4.out ?_;intro x2 v14 v15 v16 v17 v18 v19 v20 v21 v22 v23 v24 v25 p2 q2 s2 p4 q4 s4 p5 q5 s5 hb2 ha2 he2 ho2 Nu F9;have CS:=L (show Cs w0 w x2 b 0 0 0 (p1,q1,s1) (p2,q2,s2) (p3,q3,s3) (p4,q4,s4) (p5,q5,s5) from {
  vB:=B1.out.trans (Nu _ (aT _))
  bx:=hb2
  bz:=(F9 _ ZB1.out.lt (by omega)).trans ZB1.out
  near:=But.own ⟨F9,(Nu _ (aT _)).size⟩ N1.out XB1.out (by decide)
  seen:=But.own ⟨F9,(Nu _ (aT _)).size⟩ J1.out XB1.out (by decide)
  dQ:=⟨la,dO ha2 B1.out.size,HA.out.mono fun _ _ q=>⟨q.1,q.2.1,bP q.2.2⟩,.nil⟩
  ent:=⟨le,dO he2 B1.out.size,HE.out.mono fun _ _ q=>⟨q.1,q.2.1,q.2.2.1,q.2.2.2.1,bP q.2.2.2.2⟩,.nil⟩
  own:=⟨KR,dO ho2 B1.out.size,HO.out.mono fun _ _ q=>⟨q.1,bP q.2⟩,.nil⟩ })
 have Q2:=L (show q2<=900 from by rw [<- gW ha2]; exact LL1.out);have Q4:=L (show q4<=900 from by rw [<- gW he2]; exact LL3.out);have Q5:=L (show q5<=900 from by rw [<- gW ho2]; exact LL4.out);clear hb2 ha2 he2 ho2 Nu F9 XB1 ZB1 N1 J1 B1 S1 R0 R1 R2 R3 R4 HA HE HO LL0 LL1 LL2 LL3 LL4 B0;have cf2:=CS.out.bx.cell 2;simp only [U,V,X] at cf2;go_wp2
 go_loopw [29] (fun i wr=>∃ k:Nat,k<=q2/\i=aj ak k/\Cs w0 w wr b k 0 0 (p1,q1,s1) (p2,q2,s2) (p3,q3,s3) (p4,q4,s4) (p5,q5,s5)) (fun i _=>q2-(intOf i).toNat)
 case atStart=>exact⟨0,aS _,rfl,CS.out⟩
 case round =>
  obtain⟨k,hk,rfl,hcs⟩:=hrel;have CS:=L hcs;have hq:=Q2.out;clear hcs;by_cases hlt:k<q2
  ·obtain⟨l,hl,hA,hV⟩:=CS.out.dQ;have hln:l.length=q2:=gW hl;obtain⟨g,rfl,hBg⟩:∃ g,p2=Y ⟨g,0,Z⟩/\w.heap.size<=g:=sS hl (show 0<q2 by omega);obtain⟨y,hy⟩:∃ y,l[k]?=Y y:=⟨_,ay (by omega)⟩;obtain⟨a,ha⟩:∃ a,b.dQ[k]?=Y a:=⟨_,ay (by have h:=hA.len; have h2:l.length=q2:=hln; omega)⟩;obtain⟨y',hy',hym⟩:=hA.at k a ha;rw [hy] at hy';obtain rfl:=aN hy';obtain⟨y1,y2,⟨yo,yn,yc⟩,y4⟩:=y;have HW:=L hl;have ZW:=L hA;have ZY:=L hV;have C8:=L hym;have Tj:=L hy;have AZ:=L ha;have Z7:=L hBg;have hw3:IntKind.i64.wrap ((k:Int)+1)=(k:Int)+1:=aP _ (by omega);clear hl hA hV hln hy ha hy' hym hBg cf2;go_upto_region 6 with fail;refine cp6 _ wr w.heap.size l w.heap.size b.me (J p1 q1 s1) (J p3 q3 s3) (J p4 q4 s4) (J p5 q5 s5) g q2 s2 k y1 y2 yo yn yc y4 a.p _ _ _ _ _ _ _ _ _ _ _ _ _ _ _ _ _ _ _ _ _ _ _ _ _ _ _ _ _ _ _ _ _ _ _ _ _ _ _ _ _ _ _ _ _ _ _ _ _ _ _ _ _ _ _ _ _ _ _ _ _ _ _ _ _ _ _ _ _ _ _ _ _ _ _ _ _ _ _ _ CS.out.bx HW.out Tj.out (C8.out.2.2.row (W0.out.trans (CS.out.vB.mono W0.out.size))) (HP.out.dQ a (aM AZ.out)) ?_;intro x v32 v33 v34 v35 v36 v37 v38 v39 v40 v41 t1 t2 t3 hC hO wN hBel;have CS2:=L (show Cs w0 w x b (k+1) 0 0 (p1,q1,s1) (Y ⟨g,0,Z⟩,q2,s2) (p3,q3,s3) (p4,q4,s4) (p5,q5,s5) from by
    obtain⟨cur,hg⟩:=jJ HW.out;exact CS.out.SI HW.out hO wN (CS.out.vB.trans (hBel _ Z7.out CS.out.vB.size)) (eP.set k _ a (ZW.out.mono fun _ _ q=>q.but wN hg (by decide)) AZ.out ⟨C8.out.1,C8.out.2.1,aB (dO hC CS.out.vB.size)⟩) (yg (ZY.out.mono fun _ _ q=>q.but wN hg (by decide)) (aA.1 Tj.out).1 AZ.out ⟨C8.out.1,C8.out.2.1,aB (dO hC CS.out.vB.size)⟩))
   clear hC hO wN hBel CS HW ZW ZY C8 Tj AZ Z7;go_wp2
   go_roundw
   case rel=>exact⟨k+1,by omega,by go_num,CS2.out⟩
   case measure=>simp [intOf]; omega
  ·obtain rfl:q2=k:=by omega
   have cf4:=CS.out.bx.cell 4;simp only [U,V,X] at cf4;clear hlt;go_wp2
   go_loopw [46] (fun i wr=>∃ k:Nat,k<=q4/\i=aj ak k/\Cs w0 w wr b q2 k 0 (p1,q1,s1) (p2,q2,s2) (p3,q3,s3) (p4,q4,s4) (p5,q5,s5)) (fun i _=>q4-(intOf i).toNat)
   case atStart=>exact⟨0,aS _,rfl,CS.out⟩
   case round =>
    obtain⟨k,hk,rfl,hcs⟩:=hrel;have CS:=L hcs;have hq:=Q4.out;clear hcs;by_cases hlt:k<q4
    ·obtain⟨l,hl,hA,hV⟩:=CS.out.ent;have hln:l.length=q4:=gW hl;obtain⟨g,rfl,hBg⟩:∃ g,p4=Y ⟨g,0,Z⟩/\w.heap.size<=g:=sS hl (show 0<q4 by omega);obtain⟨y,hy⟩:∃ y,l[k]?=Y y:=⟨_,ay (by omega)⟩;obtain⟨a,ha⟩:∃ a,b.ent[k]?=Y a:=⟨_,ay (by have h:=hA.len; have h2:l.length=q4:=hln; omega)⟩;obtain⟨y',hy',hym⟩:=hA.at k a ha;rw [hy] at hy';obtain rfl:=aN hy';obtain⟨y1,y2,y3,y4,⟨yo,yn,yc⟩,y6,y7⟩:=y;have HW:=L hl;have ZW:=L hA;have ZY:=L hV;have C8:=L hym;have Tj:=L hy;have AZ:=L ha;have Z7:=L hBg;have hw3:IntKind.i64.wrap ((k:Int)+1)=(k:Int)+1:=aP _ (by omega);clear hl hA hV hln hy ha hy' hym hBg cf4;go_upto_region 11 with fail;refine agI _ wr w.heap.size l w.heap.size b.me (J p1 q1 s1) (J p2 q2 s2) (J p3 q3 s3) (J p5 q5 s5) g q4 s4 k y1 y2 y3 y4 yo yn yc y6 y7 a.p _ _ _ _ _ _ _ _ _ _ _ _ _ _ _ _ _ _ _ _ _ _ _ _ _ _ _ _ _ _ _ _ _ _ _ _ _ _ _ _ _ _ _ _ _ _ _ _ _ _ _ _ _ _ _ _ _ _ _ _ _ _ _ _ _ _ _ _ _ _ _ _ _ _ _ _ _ _ _ _ CS.out.bx HW.out Tj.out (C8.out.2.2.2.2.row (W0.out.trans (CS.out.vB.mono W0.out.size))) (HP.out.ent a (aM AZ.out)) ?_;intro x v49 v50 v51 v52 v53 v54 v55 v56 v57 v58 v59 v60 t1 t2 t3 hC hO wN hBel;have CS2:=L (show Cs w0 w x b q2 (k+1) 0 (p1,q1,s1) (p2,q2,s2) (p3,q3,s3) (Y ⟨g,0,Z⟩,q4,s4) (p5,q5,s5) from by
      obtain⟨cur,hg⟩:=jJ HW.out;exact CS.out.agA HW.out hO wN (CS.out.vB.trans (hBel _ Z7.out CS.out.vB.size)) (eP.set k _ a (ZW.out.mono fun _ _ q=>q.but wN hg (by decide)) AZ.out ⟨C8.out.1,C8.out.2.1,C8.out.2.2.1,C8.out.2.2.2.1,aB (dO hC CS.out.vB.size)⟩) (yg (ZY.out.mono fun _ _ q=>q.but wN hg (by decide)) (aA.1 Tj.out).1 AZ.out ⟨C8.out.1,C8.out.2.1,C8.out.2.2.1,C8.out.2.2.2.1,aB (dO hC CS.out.vB.size)⟩))
     clear hC hO wN hBel CS HW ZW ZY C8 Tj AZ Z7;go_wp2
     go_roundw
     case rel=>exact⟨k+1,by omega,by go_num,CS2.out⟩
     case measure=>simp [intOf]; omega
    ·obtain rfl:q4=k:=by omega
     have cf5:=CS.out.bx.cell 5;simp only [U,V,X] at cf5;clear hlt;go_wp2
     go_loopw [65] (fun i wr=>∃ k:Nat,k<=q5/\i=aj ak k/\Cs w0 w wr b q2 q4 k (p1,q1,s1) (p2,q2,s2) (p3,q3,s3) (p4,q4,s4) (p5,q5,s5)) (fun i _=>q5-(intOf i).toNat)
     case atStart=>exact⟨0,aS _,rfl,CS.out⟩
     case round =>
      obtain⟨k,hk,rfl,hcs⟩:=hrel;have CS:=L hcs;have hq:=Q5.out;clear hcs;by_cases hlt:k<q5
      ·obtain⟨l,hl,hA,hV⟩:=CS.out.own;have hln:l.length=q5:=gW hl;obtain⟨g,rfl,hBg⟩:∃ g,p5=Y ⟨g,0,Z⟩/\w.heap.size<=g:=sS hl (show 0<q5 by omega);obtain⟨y,hy⟩:∃ y,l[k]?=Y y:=⟨_,ay (by omega)⟩;obtain⟨a,ha⟩:∃ a,b.own[k]?=Y a:=⟨_,ay (by have h:=hA.len; have h2:l.length=q5:=hln; omega)⟩;obtain⟨y',hy',hym⟩:=hA.at k a ha;rw [hy] at hy';obtain rfl:=aN hy';obtain⟨y1,y2,⟨yo,yn,yc⟩⟩:=y;have HW:=L hl;have ZW:=L hA;have ZY:=L hV;have C8:=L hym;have Tj:=L hy;have AZ:=L ha;have Z7:=L hBg;have hw3:IntKind.i64.wrap ((k:Int)+1)=(k:Int)+1:=aP _ (by omega);clear hl hA hV hln hy ha hy' hym hBg cf5;go_upto_region 16 with fail;refine agJ _ wr w.heap.size l w.heap.size b.me (J p1 q1 s1) (J p2 q2 s2) (J p3 q3 s3) (J p4 q4 s4) g q5 s5 k y1 y2 yo yn yc a.p _ _ _ _ _ _ _ _ _ _ _ _ _ _ _ _ _ _ _ _ _ _ _ _ _ _ _ _ _ _ _ _ _ _ _ _ _ _ _ _ _ _ _ _ _ _ _ _ _ _ _ _ _ _ _ _ _ _ _ _ _ _ _ _ _ _ _ _ _ _ _ _ _ _ _ _ _ _ _ _ CS.out.bx HW.out Tj.out (C8.out.2.row (W0.out.trans (CS.out.vB.mono W0.out.size))) (HP.out.own a (aM AZ.out)) ?_;intro x v68 v69 v70 v71 v72 v73 v74 v75 v76 v77 v78 v79 t1 t2 t3 hC hO wN hBel;have CS2:=L (show Cs w0 w x b q2 q4 (k+1) (p1,q1,s1) (p2,q2,s2) (p3,q3,s3) (p4,q4,s4) (Y ⟨g,0,Z⟩,q5,s5) from by
        obtain⟨cur,hg⟩:=jJ HW.out;exact CS.out.setW HW.out hO wN (CS.out.vB.trans (hBel _ Z7.out CS.out.vB.size)) (eP.set k _ a (ZW.out.mono fun _ _ q=>q.but wN hg (by decide)) AZ.out ⟨C8.out.1,aB (dO hC CS.out.vB.size)⟩) (yg (ZY.out.mono fun _ _ q=>q.but wN hg (by decide)) (aA.1 Tj.out).1 AZ.out ⟨C8.out.1,aB (dO hC CS.out.vB.size)⟩))
       clear hC hO wN hBel CS HW ZW ZY C8 Tj AZ Z7;go_wp2
       go_roundw
       case rel=>exact⟨k+1,by omega,by go_num,CS2.out⟩
       case measure=>simp [intOf]; omega
      ·obtain rfl:q5=k:=by omega
       have X1:=CS.out.bx;have Z1:=CS.out.bz;obtain⟨x0,x1,x2,x3,x4,x5⟩:=X1.eZ;obtain⟨r0,r1,r2,r3,r4,r5⟩:=Z1.eZ;obtain⟨t0,t1,t2,t3,t4,t5⟩:=Z1.kL;have zz:=Z1.lt;have FB:=L (dM Z1 (aj ak b.me) (J p1 q1 s1) (J p2 q2 s2) (J p3 q3 s3) (J p4 q4 s4) (J p5 q5 s5));have FD:=L (CS.out.done (aj ak b.me) (J p1 q1 s1) (J p2 q2 s2) (J p3 q3 s3) (J p4 q4 s4) (J p5 q5 s5));clear X1 Z1 CS;go_wp2_with fail;obtain⟨v0,v1,v2,v3,v4,v5⟩:=FB.out.eZ;refine bodyPost_ret (v:=bn #[aj ak b.me,J p1 q1 s1,J p2 q2 s2,J p3 q3 s3,J p4 q4 s4,J p5 q5 s5]) (by simp [results,Tryz.results91,go_sem,v0,v1,v2,v3,v4,v5]) rfl ?_;exact⟨⟨(p1,q1,s1),(p2,q2,s2),(p3,q3,s3),(p4,q4,s4),(p5,q5,s5),rfl,FD.out.1⟩,FD.out.2⟩
def gD (l:List Ad) (x:fC):Option Ad:=l.find? fun a=>decide (a.id=x)
theorem rY {l:List Ad} {x:fC} (h:∀ (j:Nat) (a:Ad),l[j]?=Y a->a.id≠x):gD l x=Z:=by
 unfold gD;rw [List.find?_eq_none];intro a ha;obtain⟨j,hj⟩:=List.mem_iff_getElem?.1 ha;simpa using h j a hj
theorem sU:∀ {l:List Ad} {x:fC} {k:Nat} {a:Ad},l[k]?=Y a->a.id=x->(∀ (j:Nat) (z:Ad),j<k->l[j]?=Y z->z.id≠x)->gD l x=Y a
 | [],_,_,_,h,_,_=>by simp at h
 | b::l,x,0,a,h,hx,_=>by
  obtain rfl:b=a:=by simpa using h
  simp [gD,hx]
 | b::l,x,k+1,a,h,hx,hall=>by
  have hb:=hall 0 b (by omega) rfl;have ih:=sU (l:=l) (x:=x) (k:=k) (a:=a) (by simpa using h) hx fun j z hj hz=>hall (j+1) z (by omega) (by simpa using hz);unfold gD at *;rw [List.find?_cons_of_neg (by simpa using hb)];exact ih
def aez (W:aG) (o:Option Ad) (w:aG) (e:Ending) (w':aG):Prop:=(match o with
 | none=>e=.returned (.tuple #[mJ (0,0,(Z,0,0),0),bR false])
 | some a=>∃ r:jD,e=.returned (.tuple #[mJ r,bR true])/\uX w' r a)/\Below W.heap.size w w'
theorem sV (me:Int) (nv sv ev ov:aF) (av:Sl) (l:List jD) (al:List Ad) (x:fC) (w:aG) (hs:wG w (dU av) l) (hA:eP (uX w) l al) (hf:∀ a∈al,a.p.length<=900) :
  Calls aI 29 #[bn #[aj ak me,nv,dU av,sv,ev,ov],mM x] w (aez w (gD al x) w):=by
 obtain⟨c,d⟩:=x;obtain⟨so,sn,sc⟩:=av;obtain⟨ao,ac,hv⟩:=hs.len;have hv:J so sn sc=J ao l.length ac:=hv;obtain⟨rfl,rfl,rfl⟩:so=ao/\sn=l.length/\sc=ac:=by simpa using hv
 obtain⟨h0,h1,h2⟩:=gP w #[aj ak me,nv,J so l.length sc,sv,ev,ov] #[aj ak c,aj ak d] 28 31;have h3:=fM ((w.alloc (aK #[aj ak me,nv,J so l.length sc,sv,ev,ov] 28)).alloc (aK #[aj ak c,aj ak d] 31)) (aK #[aj ak 0,aj ak 0,J Z 0 0,aj ak 0] 74);have h4:=dJ ((w.alloc (aK #[aj ak me,nv,J so l.length sc,sv,ev,ov] 28)).alloc (aK #[aj ak c,aj ak d] 31)) #[aj ak 0,aj ak 0,J Z 0 0,aj ak 0] 74;have hsz:((w.alloc (aK #[aj ak me,nv,J so l.length sc,sv,ev,ov] 28)).alloc (aK #[aj ak c,aj ak d] 31)).heap.size=w.heap.size+1+1:=by simp
 rw [hsz] at h4;have B:=L (h0.trans (h3.mono h0.size));have HS:=L (hs.on B.out);have HA:=L (hA.mono fun _ _ h=>h.on B.out);have X2:=L (h1.on h3);have X3:=L (h2.on h3);have X4:=L h4;have HF:=L hf;have lm:=hs.most;unfold maxLen at lm;obtain⟨n,hn⟩:∃ n,n=l.length:=⟨_,rfl⟩;have q3:=X2.out.cell 2;simp only [U,V,X] at q3;rw [<- hn] at HS X2 X3 X4 HA lm q3 B ⊢;have HN:=L hn.symm;obtain⟨fo,hfo⟩:∃ o,o=gD al (c,d):=⟨_,rfl⟩;rw [<- hfo];have FO:=L hfo;clear h0 h1 h2 h3 h4 hs hv hn hA hf hsz hfo;go_enter Tryz.func29,Tryz.ntmps29;go_upto_region 1 with fail;generalize ((w.alloc (aK #[aj ak me,nv,J so n sc,sv,ev,ov] 28)).alloc (aK #[aj ak c,aj ak d] 31)).alloc (aK #[aj ak 0,aj ak 0,J Z 0 0,aj ak 0] 74)=W at *;go_wp2
 go_loopw [11] (fun i wr=>∃ k:Nat,k<=n/\i=aj ak k/\Below W.heap.size W wr/\∀ (j:Nat) (y:jD),j<k->l[j]?=Y y->(y.1,y.2.1)≠(c,d)) (fun i _=>n-(intOf i).toNat)
 case atStart=>exact⟨0,aS _,rfl,ah _ _,fun j y h=>by omega⟩
 case round =>
  obtain⟨k,hk,rfl,hbe,hall⟩:=hrel;have BE:=L hbe;have AL:=L hall;clear hbe hall;by_cases hlt:k<n
  ·obtain⟨y,hy⟩:∃ y,l[k]?=Y y:=⟨_,ay (by rw [HN.out]; exact hlt)⟩;obtain⟨p,ix,px⟩:=M7 HS.out rfl HN.out hy;obtain⟨p0,p1,p2,p3⟩:=px wr BE.out;obtain⟨y1,y2,⟨yo,yn,yc⟩,y4⟩:=y;simp only at p0 p1 p2 p3;have NB:=L (fM wr (aK #[aj ak y1,aj ak y2,J yo yn yc,aj ak y4] 74));obtain⟨x0,x1⟩:=((X3.out.on BE.out).on NB.out).cs2;have hw3:IntKind.i64.wrap ((k:Int)+1)=(k:Int)+1:=aP _ (by omega);obtain⟨r,hr⟩:∃ r,(y1 == c && y2 == d)=r:=⟨_,rfl⟩;have he:=qO y1 y2 c d r hr;have HY:=L hy;have HR:=L hr;clear px hy hr;cases r
   ·go_wp2
    go_roundw
    case rel=>exact⟨k+1,by omega,by go_num,BE.out.trans (NB.out.mono BE.out.size),fun j y' hj h1=>by
     rcases Nat.lt_or_ge j k with h3|h3
     ·exact AL.out j y' h3 h1
     ·obtain rfl:j=k:=by omega
      have e1:=HY.out;rw [h1] at e1;rw [aN e1];intro e;obtain⟨rfl,rfl⟩:y1=c/\y2=d:=by simpa using e
      have:=HR.out;simp at this⟩
    case measure=>simp [intOf]; omega
   ·obtain⟨a,ha⟩:∃ a,al[k]?=Y a:=⟨_,ay (by rw [<- HA.out.len,HN.out]; exact hlt)⟩;obtain⟨z,hz1,hz2⟩:=HA.out.at k a ha;rw [HY.out] at hz1;obtain rfl:=aN hz1;have BA:=L (BE.out.trans (NB.out.mono BE.out.size));have C:=L (AA (y1,y2,(yo,yn,yc),y4) a.p _ (hz2.2.2.on BA.out) (HF.out a (aM ha)));have HZ:=L hz2;have h8:=HR.out;obtain⟨rfl,rfl⟩:y1=c/\y2=d:=by simpa using h8
    have FA:=L (show fo=Y a by
     rw [FO.out];refine sU ha hz2.1.symm fun j z hj hzz=>?_;obtain⟨u,hu1,hu2⟩:=HA.out.at j z hzz;rw [<- hu2.1];exact AL.out j u hj hu1)
    have Yl:=(X4.out.on BE.out).on NB.out;clear hz1 hz2 ha h8;go_wp2_with fail;refine C.out.mono ?_;rintro e w1 ⟨⟨⟨u1,u2,u3⟩,rfl,ho⟩,hb⟩;have Y1:=Yl.on hb;have B1:=L (BA.out.trans (hb.mono BA.out.size));obtain⟨r0,r1,r2,r3⟩:=Y1.xQ;obtain⟨t0,t1,t2,t3⟩:=Y1.fs4;have zz:=Y1.lt;have hs2:w.heap.size+1+1<(wr.alloc (aK #[aj ak y1,aj ak y2,J yo yn yc,aj ak y4] 74)).heap.size:=Yl.lt;have FB:=L (Az Y1 (aj ak y1) (aj ak y2) (J u1 u2 u3) (aj ak y4));have BL:=L (vW (b:=w.heap.size+1+1) (B.out.trans (B1.out.mono B.out.size)) (by omega) (aj ak y1) (aj ak y2) (J u1 u2 u3) (aj ak y4));have FW:=L (Ig ho (w.heap.size+1+1) hs2 (aj ak y1) (aj ak y2) (J u1 u2 u3) (aj ak y4));clear Y1 ho hb hs2 Yl;go_wp2_with fail;obtain⟨v0,v1,v2,v3⟩:=FB.out.xQ;refine bodyPost_ret (v:=.tuple #[bn #[aj ak y1,aj ak y2,J u1 u2 u3,aj ak y4],bR true]) (by simp [results,aZ,go_sem,v0,v1,v2,v3]) rfl ?_;rw [FA.out];exact⟨⟨(y1,y2,(u1,u2,u3),y4),rfl,HZ.out.1,HZ.out.2.1,Row.dH FW.out⟩,BL.out⟩
  ·obtain rfl:k=n:=by omega
   have FA:=L (show fo=Z by
    rw [FO.out];refine rY fun j z hzz=>?_;obtain⟨u,hu1,hu2⟩:=HA.out.at j z hzz;rw [<- hu2.1];exact AL.out j u (by rw [<- HN.out]; exact (aA.1 hu1).1) hu1)
   have Y1:=X4.out.on BE.out;obtain⟨r0,r1,r2,r3⟩:=Y1.xQ;obtain⟨t0,t1,t2,t3⟩:=Y1.fs4;have zz:=Y1.lt;have FB:=L (Az Y1 (aj ak 0) (aj ak 0) (J Z 0 0) (aj ak 0));have BL:=L (vW (b:=w.heap.size+1+1) (B.out.trans (BE.out.mono B.out.size)) (by omega) (aj ak 0) (aj ak 0) (J Z 0 0) (aj ak 0));clear Y1;go_wp2_with fail;obtain⟨v0,v1,v2,v3⟩:=FB.out.xQ;refine bodyPost_ret (v:=.tuple #[bn #[aj ak 0,aj ak 0,J Z 0 0,aj ak 0],bR false]) (by simp [results,aZ,go_sem,v0,v1,v2,v3]) rfl ?_;rw [FA.out];exact⟨rfl,BL.out⟩
end Av
end Go.Proofs.YtmklifheakemeaaGreat
