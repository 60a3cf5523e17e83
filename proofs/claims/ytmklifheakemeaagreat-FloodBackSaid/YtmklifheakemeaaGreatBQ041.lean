/-
  Rows of one's own of. Conditions as told.
-/
import Derived.Test.YtmklifheakemeaaGreatBQ031
import Derived.Test.YtmklifheakemeaaGreatBQ040
set_option maxRecDepth 100000
set_option maxHeartbeats 64000000
open _root_.Go renaming World->aj,Addr->ak,Value->au,Calls->aT
open Go.IntKind renaming i64->U
open Go.Lib renaming hid->L
open Go.Obj renaming cells->aG
open Go.Operand renaming tmp->ah
open Go.Proofs.Tryz renaming prog->aF,results10->aP,func28->aS
open Go.Proofs.YtmklifheakemeaaGreat.Av renaming eX->X
open Go.RowKit.Below renaming refl->aD
open Go.Value renaming slice->J,int->O,pointer->Z,agg->aI,bool->aN
open _root_.List renaming getElem?_toArray->ay,getElem?_cons_zero->aA,getElem?_cons_succ->aB,getElem?_eq_getElem->aK,map_toArray->aL,map_cons->aQ,map_nil->aR
open _root_.Nat renaming le_trans->aH,le_refl->aJ,zero_le->aM
open _root_.Option renaming some->V,none->Y
open _root_.Or renaming inr->aC,inl->aO
namespace Go.Proofs.YtmklifheakemeaaGreat
namespace Fl
open Go.RowKit Go.Sort Rw YtmklifheakemeaaGreat.Nm Pr Bk Av
def OuO (W:aj) (B:Nat) (x:mh) (o:Ou):Prop:=x.1=o.iq/\x.2.1=o.kind/\(x.2.2.1,x.2.2.2.1)=o.tree/\(x.2.2.2.2.1,x.2.2.2.2.2.1)=o.id/\gP W B (dX x.2.2.2.2.2.2.1) o.p/\x.2.2.2.2.2.2.2=(Y,0,0)
theorem OuO.ou {W:aj} {B:Nat} {x:mh} {o:Ou} (h:OuO W B x o):rZ W x o:=⟨h.1,h.2.1,h.2.2.1,h.2.2.2.1,Row.dH h.2.2.2.2.1,h.2.2.2.2.2⟩
theorem OuO.le {W:aj} {B B':Nat} {x:mh} {o:Ou} (h:OuO W B x o) (hB:B'<=B):OuO W B' x o:=⟨h.1,h.2.1,h.2.2.1,h.2.2.2.1,dN h.2.2.2.2.1 hB,h.2.2.2.2.2⟩
structure uQ (W:aj) (B:Nat) (v:au) (lx:List mh) (l:List Ou):Prop where
 row:jK W B v lx
 all:fA (OuO W B) lx l
theorem uQ.on {W W':aj} {B:Nat} {v:au} {lx:List mh} {l:List Ou} (h:uQ W B v lx l) (hb:Below W.heap.size W W'):uQ W' B v lx l:=⟨Bk.dI h.row hb,h.all.mono fun _ _ q=>⟨q.1,q.2.1,q.2.2.1,q.2.2.2.1,Bk.dI q.2.2.2.2.1 hb,q.2.2.2.2.2⟩⟩
theorem uQ.le {W:aj} {B B':Nat} {v:au} {lx:List mh} {l:List Ou} (h:uQ W B v lx l) (hB:B'<=B):uQ W B' v lx l:=⟨dN h.row hB,h.all.mono fun _ _ q=>q.le hB⟩
theorem uQ.nil (W:aj) (B:Nat):uQ W B (J Y 0 0) [] []:=⟨iM _ _,.nil⟩
theorem uQ.but {W W':aj} {B g:Nat} {v:au} {lx:List mh} {l:List Ou} {cs:Array au} {t:TypeId} (h:uQ W B v lx l) (hk:But g W W') (hg:dJ W g cs t) (h1:(43 == t)=false) (h2:(70 == t)=false):uQ W' B v lx l:=⟨hk.own h.row hg h1,h.all.mono fun _ _ q=>⟨q.1,q.2.1,q.2.2.1,q.2.2.2.1,hk.own q.2.2.2.2.1 hg h2,q.2.2.2.2.2⟩⟩
theorem uQ.outs {W:aj} {B:Nat} {s:Sl} {lx:List mh} {l:List Ou} (h:uQ W B (dX s) lx l):jE W s l:=⟨lx,Row.dH h.row,h.all.mono fun _ _ q=>q.ou⟩
theorem uQ.len {W:aj} {B:Nat} {v:au} {lx:List mh} {l:List Ou} (h:uQ W B v lx l):lx.length=l.length:=h.all.len
theorem uQ.more {W W':aj} {B:Nat} {v v':au} {lx ly:List mh} {l m:List Ou} (h:uQ W B v lx l) (gr:W.grownBy W' v.ownBlock) (ho:jK W' B v' (lx++ly)) (hx:fA (OuO W B) ly m):uQ W' B v' (lx++ly) (l++m) :=
 ⟨ho,fA.append (h.all.mono fun _ _ q=>⟨q.1,q.2.1,q.2.2.1,q.2.2.2.1,zh h.row gr q.2.2.2.2.1 (by decide),q.2.2.2.2.2⟩) (hx.mono fun _ _ q=>⟨q.1,q.2.1,q.2.2.1,q.2.2.2.1,zh h.row gr q.2.2.2.2.1 (by decide),q.2.2.2.2.2⟩)⟩
theorem Jh {near:List Int} {f k:Int} {t x:fD} {p:List C5} {q:Nat} {y:Int} (h:near[q]?=V y):eB (near.take (q+1)) f k t x p=eB (near.take q) f k t x p++(if (y != f)=true then [⟨y,k,t,x,p⟩] else []):=by
 unfold eB;rw [List.take_add_one,h,List.filter_append,List.map_append]
 congr 1
 simp only [Option.toList_some,List.filter_cons,List.filter_nil]
 split <;> rfl
theorem yg (near:List Int) (f k:Int) (t x:fD) (p:List C5):(eB near f k t x p).length<=near.length:=by
 unfold eB;rw [List.length_map];exact List.length_filter_le _ _
theorem Eb (me but k tc ts ic sj:Int) (nv:Sl) (av sv ev ov:au) (pv:Sl) (p:List C5) (l:List Int) (w:aj) (hs:qA w (dX nv) l) (hlen:l.length<=900) (hp:fH w (dX pv) p) (hpl:p.length<=900) :
  aT aF 28 #[aI #[O U me,dX nv,av,sv,ev,ov],O U but,aI #[O U k,O U tc,O U ts,O U ic,O U sj,dX pv,J Y 0 0]] w fun e w'=>(∃ (v:Sl) (lx:List mh),e=.returned (dX v)/\uQ w' w.heap.size (dX v) lx (eB l but k (tc,ts) (ic,sj) p))/\Below w.heap.size w w':=by
 obtain⟨no,nn,nc⟩:=nv;obtain⟨po,pn,pc⟩:=pv;obtain⟨q1,q2,hq⟩:=hs.len;obtain⟨rfl,hnn,rfl⟩:no=q1/\nn=l.length/\nc=q2:=by
  have h:J no nn nc=J q1 l.length q2:=hq;simpa using h
 clear hq;obtain⟨h0,h1,h2⟩:=gY w #[O U me,J no nn nc,av,sv,ev,ov] #[O U k,O U tc,O U ts,O U ic,O U sj,J po pn pc,J Y 0 0] 28 41;have B0:=L h0;have X5:=L h2;have HS:=L (hs.on h0);have HP:=L (hp.on h0);have HPL:=L hpl;have HN:=L hnn;have c1:=h1.cell 1;simp only [ay,aA,aB] at c1;have nb:nn<=900:=by omega
 have W2:=L h2.lt;clear h0 h1 h2 hs hlen hnn hp hpl;show aT aF 28 #[aI #[O U me,J no nn nc,av,sv,ev,ov],O U but,aI #[O U k,O U tc,O U ts,O U ic,O U sj,J po pn pc,J Y 0 0]] w _;go_enter aS,Tryz.ntmps28;go_upto_region 1 with fail;generalize (w.alloc (aG #[O U me,J no nn nc,av,sv,ev,ov] 28)).alloc (aG #[O U k,O U tc,O U ts,O U ic,O U sj,J po pn pc,J Y 0 0] 41)=W at *;go_wp2
 go_loopw [7,13] (fun v i wr=>∃ (q:Nat) (lx:List mh),q<=nn/\i=O U q/\Below W.heap.size W wr/\uQ wr W.heap.size v lx (eB (l.take q) but k (tc,ts) (ic,sj) p)) (fun _ i _=>nn-(intOf i).toNat)
 case atStart=>exact⟨0,[],aM _,rfl,aD _ _,uQ.nil _ _⟩
 case round =>
  obtain⟨q,lx,hq,rfl,hbe,hown⟩:=hrel;have BE:=L hbe;have OE:=L hown;clear hbe hown;by_cases hlt:q<nn
  ·obtain⟨y,hy⟩:∃ y,l[q]?=V y:=⟨_,aK (by rw [<- HN.out]; exact hlt)⟩;obtain⟨g,ix,_,px⟩:=mH Nm.JR HS.out rfl HN.out.symm hy;have p0:wr.cell? g=V (O U y):=by simpa [Addr.add] using px wr BE.out 0 _ rfl
   have ix:∀ w,(Instr.indexAt 22 (J no nn nc) (O U q)).run aF w=.ok (Z (V g)) w:=ix;have FS:=L (Jh (f:=but) (k:=k) (t:=(tc,ts)) (x:=(ic,sj)) (p:=p) hy);have hw3:IntKind.i64.wrap ((q:Int)+1)=(q:Int)+1:=IntWalk.i64_in _ (by omega);obtain⟨r,hr⟩:∃ r,(y != but)=r:=⟨_,rfl⟩;rw [hr] at FS;clear px hy;cases r
   ·go_wp2
    go_roundw
    case rel=>exact⟨q+1,lx,by omega,by go_num,BE.out,by
     rw [FS.out];simpa using OE.out⟩
    case measure=>simp [intOf]; omega
   ·have x_:=X5.out.on BE.out;obtain⟨x0,x1,x2,x3,x4,x5,x6⟩:=x_.oJ;have CM:=L (acC k tc ts ic sj (po,pn,pc) p wr (HP.out.on BE.out) HPL.out);clear x_;go_wp2_with fail;refine CM.out.mono ?_;rintro e1 w1 ⟨⟨⟨s1,s2,s3⟩,rfl,hc⟩,hb⟩;clear x0 x1 x2 x3 x4 x5 x6 p0 CM;have NB:=L (gu w1 (aG #[O U y,O U k,O U tc,O U ts,O U ic,O U sj,J s1 s2 s3,J Y 0 0] 43));have hlit:=iN Dk w1 [((y,k,tc,ts,ic,sj,(s1,s2,s3),(Y,0,0)):mh)] 1 rfl (by simp) #[O U y,O U k,O U tc,O U ts,O U ic,O U sj,J s1 s2 s3,J Y 0 0] rfl;have o2:=(OE.out.on hb).on NB.out;have hB:W.heap.size<=(w1.alloc (aG #[O U y,O U k,O U tc,O U ts,O U ic,O U sj,J s1 s2 s3,J Y 0 0] 43)).heap.size:=by have h1:=BE.out.size; have h2:=hb.size; simp; omega
    obtain⟨v',w',r',o',gr⟩:=gI Dk W.heap.size o2.row (Row.dH hlit) (by
     rw [o2.len];have h1:=yg (l.take q) but k (tc,ts) (ic,sj) p;rw [List.length_take] at h1;omega) (by simp) hB 35
    have r':(Builtin.append_ #[35,35] 35 #[u7,J (V ⟨w1.heap.size,0,Y⟩) 1 1]).run aF (w1.alloc (aG #[O U y,O U k,O U tc,O U ts,O U ic,O U sj,J s1 s2 s3,J Y 0 0] 43))=.ok v' w':=by
     simpa [EU] using r'
    have BG:=L (((BE.out.trans (hb.mono BE.out.size)).trans (NB.out.mono (by have h1:=BE.out.size; have h2:=hb.size; omega))).grown gr hB fun j hj=>(o2.row.lt j hj).1);have OG:=L (o2.more gr o' (.cons (b:=⟨y,k,(tc,ts),(ic,sj),p⟩) ⟨rfl,rfl,rfl,rfl,dN (Bk.dI hc NB.out) BE.out.size,rfl⟩ .nil));clear hlit o2 hB o' gr OE hb hc;go_wp2_with (first | (at_builtin; refine wpList_append_run rfl _ _ 35 rfl rfl rfl r' ?_) | fail)
    go_roundw
    case rel=>exact⟨q+1,_,by omega,by go_num,BG.out,by
     rw [FS.out];simpa using OG.out⟩
    case measure=>simp [intOf]; omega
  ·obtain rfl:nn=q:=by omega
   have e:l.take nn=l:=List.take_of_length_le (by have:=HN.out; omega);rw [e] at OE;obtain⟨FU,FV,hv⟩:=(Row.dH OE.out.row).len;subst hv;clear e;go_wp2;go_ret;exact⟨⟨(FU,_,FV),lx,rfl,OE.out.le (by have:=W2.out; omega)⟩,B0.out.trans (BE.out.mono B0.out.size)⟩
theorem pJ.app {W W':aj} {B:Nat} {v:au} {l:List mh} {b:Br} {nv av sv ev ov:Sl} (ho:jK W B v l) (gr:W.grownBy W' v.ownBlock) (h:pJ W b nv av sv ev ov):pJ W' b nv av sv ev ov:=by
 rcases gK ho with⟨h1,_⟩|⟨g,c,cur,h1,_,h2,_⟩
 ·rw [h1] at gr;exact h.on ((aD _ _).grown gr (aJ _) (fun j hj=>by cases hj))
 ·rw [h1] at gr;exact h.xC (xQ (b:=g) gr) h2 (by decide) (by decide) (by decide) (by decide) (by decide) (by decide)
def NP (B:Nat) (b3 _b10 _n:Nat) (_x1 _x2:Int) (_pa:Option ak) (_pb _pd:Nat) (par:Int) (y1 y2 y3 y4:Int) (po:Option ak) (pn pc:Nat) (y6:Int) (y7:Bool) (p:List C5) (rv:au) (_lx:List mh) (_l:List Ou) (i:Nat) (v:au) (x:aj):Prop :=
 match i with
 | 0=>v=rv
 | 1=>v=Z (V ⟨b3,3,Y⟩)
 | 2=>v=O U par
 | 3=>v=aI #[O U y1,O U y2,O U y3,O U y4,J po pn pc,O U y6,aN y7]
 | 4=>∃ s:Sl,v=aI #[O U 3,O U y1,O U y2,O U y3,O U y4,dX s,J Y 0 0]/\gP x B (dX s) p
 | 5=>∃ s:Sl,v=vW (par,3,y1,y2,y3,y4,s,(Y,0,0))/\gP x B (dX s) p
 | 6=>∃ s:Sl,jK x B v [(par,3,y1,y2,y3,y4,s,(Y,0,0))]/\gP x B (dX s) p
 | _=>True
noncomputable def aay:Code:=((Tryz.f36.body.bind (eT 10)).getD .skip)
theorem VE (B:Nat) (b3 b10 n:Nat) (x1 x2:Int) (pa:Option ak) (pb pd:Nat) (par:Int) (y1 y2 y3 y4:Int) (po:Option ak) (pn pc:Nat) (y6:Int) (y7:Bool) (p:List C5) (rv:au) (lx:List mh) (l:List Ou) (i:Nat) (v:au) (x x':aj) (h:NP B b3 b10 n x1 x2 pa pb pd par y1 y2 y3 y4 po pn pc y6 y7 p rv lx l i v x) (hb:Below x.heap.size x x'):NP B b3 b10 n x1 x2 pa pb pd par y1 y2 y3 y4 po pn pc y6 y7 p rv lx l i v x':=by
 by_cases hi:i<7
 ·rcases (by omega:i=0\/i=1\/i=2\/i=3\/i=4\/i=5\/i=6) with rfl|rfl|rfl|rfl|rfl|rfl|rfl
  ·exact h
  ·exact h
  ·exact h
  ·exact h
  ·obtain⟨s,h1,h2⟩:=h; exact⟨s,h1,Bk.dI h2 hb⟩
  ·obtain⟨s,h1,h2⟩:=h; exact⟨s,h1,Bk.dI h2 hb⟩
  ·obtain⟨s,h1,h2⟩:=h; exact⟨s,Bk.dI h1 hb,Bk.dI h2 hb⟩
 ·unfold NP
  split <;> first | omega | trivial
theorem ah0 (Q:Exit->Act->aj->Prop) (W:aj) (b3 b10 n:Nat) (x1 x2:Int) (pa:Option ak) (pb pd:Nat) (par:Int) (y1 y2 y3 y4:Int) (po:Option ak) (pn pc:Nat) (y6:Int) (y7:Bool) (p:List C5) (rv:au) (lx:List mh) (l:List Ou) (u0 u1 u2 u4 u5 u7 u8 u9 u11 u12 u13 u14 u15 u16 u17 u18 u19 u20 u21 u22 u23 u24 u25 u26 u27 u28 u29 u30 u31 u32 u33 u34 u35 u36 u37 u38 u39 u40 u41 u42 u43 u44 u45 u46 u47 u48:au)
  (x3:dJ W b3 #[O U x1,O U x2,J pa pb pd,O U par] 74) (x10:dJ W b10 #[O U y1,O U y2,O U y3,O U y4,J po pn pc,O U y6,aN y7] 66) (ar:uQ W n rv lx l) (hn:n<=W.heap.size) (hl:lx.length<=900) (hp:fH W (J po pn pc) p) (lp:p.length<=900)
  (hQ:∀ (x:aj) (w6:au) (s:Sl) (v38 v39 v40 v41 v42 v43 v44 v45:au),uQ x n w6 (lx++[(par,3,y1,y2,y3,y4,s,(Y,0,0))]) (l++[⟨par,3,(y1,y2),(y3,y4),p⟩])->Below n W x->(∀ (b:Nat) (cs:Array au) (t:TypeId),(t == 43)=false->dJ W b cs t->dJ x b cs t)->(∀ (b:Br) (nv av sv ev ov:Sl),pJ W b nv av sv ev ov->pJ x b nv av sv ev ov)->(∀ (B:Nat) (v:au) (p:List C5),gP W B v p->gP x B v p)->Q .normal ⟨(u0::u1::u2::Z (V ⟨b3,0,Y⟩)::u4::u5::w6::u7::u8::u9::Z (V ⟨b10,0,Y⟩)::u11::u12::u13::u14::u15::u16::u17::u18::u19::u20::u21::u22::u23::u24::u25::u26::u27::u28::u29::u30::u31::u32::u33::u34::u35::u36::u37::v38::v39::v40::v41::v42::v43::v44::v45::u46::u47::u48::[]).toArray,[]⟩ x) :
  Code.wp aF aay Q ⟨(u0::u1::u2::Z (V ⟨b3,0,Y⟩)::u4::u5::rv::u7::u8::u9::Z (V ⟨b10,0,Y⟩)::u11::u12::u13::u14::u15::u16::u17::u18::u19::u20::u21::u22::u23::u24::u25::u26::u27::u28::u29::u30::u31::u32::u33::u34::u35::u36::u37::u38::u39::u40::u41::u42::u43::u44::u45::u46::u47::u48::[]).toArray,[]⟩ W:=by
 have HQ:=L hQ;have H3:=L x3;have H10:=L x10;have AR:=L ar;have HN:=L hn;have HL:=L hl;have HP:=L hp;have LP:=L lp;clear hQ x3 x10 ar hn hl hp lp;have iT:=VE W.heap.size b3 b10 n x1 x2 pa pb pd par y1 y2 y3 y4 po pn pc y6 y7 p rv lx l;unfold aay
 conv=>arg 2; whnf
 have nd:∀ j,(∀ i,i<7->[38,39,40,41,42,43,44].getD i 0≠j)->∀ i,i<7->(fun i=>[38,39,40,41,42,43,44].getD i 0) i≠j:=fun j h=>h;refine Rg.fT 9 7 (fun i=>[38,39,40,41,42,43,44].getD i 0) (fun _=>7) (NP W.heap.size b3 b10 n x1 x2 pa pb pd par y1 y2 y3 y4 po pn pc y6 y7 p rv lx l) (by kernel_rfl) (by kernel_rfl) rfl (by decide) (fun i j hi hj h=>(by decide:∀ i,i<7->∀ j,j<7->[38,39,40,41,42,43,44].getD i 0=[38,39,40,41,42,43,44].getD j 0->i=j) i hi j hj h) (fun i hi=>(by decide:∀ i,i<7->[38,39,40,41,42,43,44].getD i 0<49) i hi) ?_ (fun _=>Rg.jk 14 (by kernel_rfl)) ?_ ?_
 ·intro i o hi ho a x D hnd hc hD hb seen K hK;clear HQ;rcases (by omega:i=0\/i=1\/i=2\/i=3\/i=4\/i=5\/i=6) with rfl|rfl|rfl|rfl|rfl|rfl|rfl
  ·cases ho;have e6:a.eval (ah 6)=rv:=seen.kp 6 _ (nd 6 (by decide)) rfl;exact Rg.dD rfl rfl (Rg.gq a.eval _ (ah 6) rfl x) (hK _ _ e6 (aD _ _) fun _ _ _ _ _ _ _ h=>h)
  ·cases ho;have e3:a.eval (ah 3)=Z (V ⟨b3,0,Y⟩):=seen.kp 3 _ (nd 3 (by decide)) rfl;exact Rg.dD rfl rfl (Rg.dU a.eval _ 74 (ah 3) 2 rfl (by rw [e3]; simp [go_sem])) (hK _ _ rfl (aD _ _) fun _ _ _ _ _ _ _ h=>h)
  ·cases ho;have e39:a.eval (ah 39)=Z (V ⟨b3,3,Y⟩):=seen.at_ ⟨1,.data⟩ (by simp) rfl (aC (by decide));have y3:=(H3.out.on hb).cell 3;simp only [ay,aA,aB] at y3;exact Rg.dD rfl rfl (Rg.dW a.eval _ 3 (ah 39) rfl (by rw [e39]; simp [go_sem,y3])) (hK _ _ rfl (aD _ _) fun _ _ _ _ _ _ _ h=>h)
  ·cases ho;have e10:a.eval (ah 10)=Z (V ⟨b10,0,Y⟩):=seen.kp 10 _ (nd 10 (by decide)) rfl;obtain⟨y0,y1,y2,y3,y4,y5,y6⟩:=(H10.out.on hb).oJ;exact Rg.dD rfl rfl (Rg.dW a.eval _ 66 (ah 10) rfl (by rw [e10]; simp [go_sem,y0,y1,y2,y3,y4,y5,y6])) (hK _ _ rfl (aD _ _) fun _ _ _ _ _ _ _ h=>h)
  ·cases ho;have e41:a.eval (ah 41)=aI #[O U y1,O U y2,O U y3,O U y4,J po pn pc,O U y6,aN y7]:=seen.at_ ⟨3,.data⟩ (by simp) rfl (aC (by decide));exact Rg.gT rfl rfl (Rw.iD a.eval _ (ah 41) 66 95 rfl e41 rfl _ (gD Tryz.func95 rfl rfl _ _)) (QE (y1,y2,y3,y4,(po,pn,pc),y6,y7) p x (HP.out.on hb) LP.out) fun e w1 h=>by
    obtain⟨⟨s,rfl,q1⟩,q2⟩:=h;exact⟨_,rfl,hK _ _ ⟨s,rfl,dN q1 hb.size⟩ (q2.mono hb.size) fun j u _ _ _ _ _ h=>iT j u _ _ h q2⟩
  ·cases ho;have e40:a.eval (ah 40)=O U par:=seen.at_ ⟨2,.data⟩ (by simp) rfl (aC (by decide));have E42:=seen.at_ ⟨4,.data⟩ (by simp) rfl (aC (by decide));obtain⟨s,q0,q1⟩:=E42;have q0:a.eval (ah 42)=aI #[O U 3,O U y1,O U y2,O U y3,O U y4,dX s,J Y 0 0]:=q0;exact Rg.dD rfl rfl (Rg.jP a.eval _ 43 #[(0,ah 40),(1,ah 42)] rfl (ps:=#[(0,O U par),(1,aI #[O U 3,O U y1,O U y2,O U y3,O U y4,dX s,J Y 0 0])]) (by simp only [aL,aQ,aR,e40,q0]) (by simp [go_sem])) (hK _ _ ⟨s,rfl,q1⟩ (aD _ _) fun _ _ _ _ _ _ _ h=>h)
  ·cases ho;have E43:=seen.at_ ⟨5,.data⟩ (by simp) rfl (aC (by decide));obtain⟨s,q0,q1⟩:=E43;have q0:a.eval (ah 43)=vW (par,3,y1,y2,y3,y4,s,(Y,0,0)):=q0;have hl:=iN Dk x [((par,3,y1,y2,y3,y4,s,(Y,0,0)):mh)] 1 rfl (by simp) (kU (par,3,y1,y2,y3,y4,s,(Y,0,0))).toArray (by simp [flat,EU]);have nb:=gu x (aG (kU (par,3,y1,y2,y3,y4,s,(Y,0,0))).toArray 43);exact Rg.dD rfl rfl (Rg.jd a.eval _ 35 1 #[(0,ah 43)] rfl (ps:=#[(0,vW (par,3,y1,y2,y3,y4,s,(Y,0,0)))]) (by simp [q0]) (by simp [go_sem])) (hK (J (V ⟨x.heap.size,0,Y⟩) 1 1) (x.alloc (aG (kU (par,3,y1,y2,y3,y4,s,(Y,0,0))).toArray 43)) ⟨s,dN hl hb.size,Bk.dI q1 nb⟩ (nb.mono hb.size) fun j u _ _ _ _ _ h=>iT j u _ _ h nb)
 ·intro kk o h1 h2 ho;rcases (by omega:kk=8) with rfl
  ·cases ho;exact⟨⟨7,.data⟩,by simp,rfl,rfl⟩
 ·intro a w' df sz kp ⟨vs,hv⟩ hb;have sz':a.tmps.size=49:=sz;have g38:a.tmps[38]?=V (rv):=by
   have h:vs 0=rv:=(hv 0 (by omega)).2 (by decide);rw [<- h];exact (hv 0 (by omega)).1
  have g44:a.tmps[44]?=V (vs 6):=(hv 6 (by omega)).1;have G44:=(hv 6 (by omega)).2 (by decide);obtain⟨s,q1,q2⟩:=G44;have ar:=AR.out.on hb;generalize hq:vs 6=v6 at *;obtain⟨a1,c1,hv6⟩:=(Row.dH q1).len;obtain⟨v',x',r,o',gr⟩:=gI Dk n ar.row (Row.dH q1) (by have:=HL.out; omega) (by simp) (aH HN.out hb.size) 35;show Rg.fG _ _ _ 2 7 a w';simp only [Rg.fG];refine Rg.dD rfl rfl (Rg.fZ a.eval _ (ah 38) (ah 44) 35 rfl (Rg.dM g38) (Rg.dM g44) r) ?_;have e45:(a.put (V 45) v').eval (ah 45)=v':=Rg.dM (by simp [Act.put,sz']);refine Rg.dD rfl rfl (Rg.kI _ _ (ah 45) rfl x') ?_;show Q .normal ((a.put (V 45) v').put (V 6) ((a.put (V 45) v').eval (ah 45))) x';rw [e45];have hp:=ar.more gr o' (m:=[⟨par,3,(y1,y2),(y3,y4),p⟩]) (.cons (show OuO _ _ _ _ from ⟨rfl,rfl,rfl,rfl,dN q2 HN.out,rfl⟩) .nil);have hbt:Below n W x':=(hb.mono HN.out).grown gr (aH HN.out hb.size) (fun j hj=>(ar.row.lt j hj).1);have hbx:∀ (b:Nat) (cs:Array au) (t:TypeId),(t == 43)=false->dJ W b cs t->dJ x' b cs t:=fun b cs t hne h=>E8 ar.row gr (h.on hb) hne;have hmx:∀ (b:Br) (nv av sv ev ov:Sl),pJ W b nv av sv ev ov->pJ x' b nv av sv ev ov:=fun b _ _ _ _ _ h=>pJ.app ar.row gr (h.on hb);have hcx:∀ (B:Nat) (v:au) (p:List C5),gP W B v p->gP x' B v p:=fun _ _ _ h=>zh ar.row gr (Bk.dI h hb) (by decide);show Q .normal ((a.put (V 45) v').put (V 6) v') x';have ka:∀ j,j≠45->j≠6->((a.put (V 45) v').put (V 6) v').tmps[j]?=a.tmps[j]?:=fun j h1 h2=>by rw [Rg.get_put _ _ _ _ (by omega),Rg.get_put _ _ _ _ (by omega)]
  have kt:((a.put (V 45) v').put (V 6) v').tmps[6]?=V (v'):=by simp [Act.put,sz']
  have rA:∀ j,(j<38\/46<=j)->((a.put (V 45) v').put (V 6) v').tmps[j]?=(u0::u1::u2::Z (V ⟨b3,0,Y⟩)::u4::u5::v'::u7::u8::u9::Z (V ⟨b10,0,Y⟩)::u11::u12::u13::u14::u15::u16::u17::u18::u19::u20::u21::u22::u23::u24::u25::u26::u27::u28::u29::u30::u31::u32::u33::u34::u35::u36::u37::u38::u39::u40::u41::u42::u43::u44::u45::u46::u47::u48::[])[j]?:=fun j hj=>by
   by_cases hj2:j=6
   ·subst hj2;exact kt
   ·have hs:(u0::u1::u2::Z (V ⟨b3,0,Y⟩)::u4::u5::v'::u7::u8::u9::Z (V ⟨b10,0,Y⟩)::u11::u12::u13::u14::u15::u16::u17::u18::u19::u20::u21::u22::u23::u24::u25::u26::u27::u28::u29::u30::u31::u32::u33::u34::u35::u36::u37::u38::u39::u40::u41::u42::u43::u44::u45::u46::u47::u48::[]:List au)=(u0::u1::u2::Z (V ⟨b3,0,Y⟩)::u4::u5::rv::u7::u8::u9::Z (V ⟨b10,0,Y⟩)::u11::u12::u13::u14::u15::u16::u17::u18::u19::u20::u21::u22::u23::u24::u25::u26::u27::u28::u29::u30::u31::u32::u33::u34::u35::u36::u37::u38::u39::u40::u41::u42::u43::u44::u45::u46::u47::u48::[]).set 6 (v'):=rfl;rw [hs,List.getElem?_set_ne (Ne.symm hj2)];exact (ka j (by omega) hj2).trans ((kp j (nd j fun i hi h=>by have:=(by decide:∀ i,i<7->38<=[38,39,40,41,42,43,44].getD i 0/\[38,39,40,41,42,43,44].getD i 0<46) i hi; omega)).trans ay)
  obtain⟨mid,hmid,hfr⟩:=Rg.gG (a:=(a.put (V 45) v').put (V 6) v') 38 8 (by simp [Act.put,df]) (by simp [Act.put,sz']) (by simp) rA;rw [hfr]
  match mid,hmid with
  | [v38,v39,v40,v41,v42,v43,v44,v45],_ =>
   exact HQ.out x' _ s _ _ _ _ _ _ _ _ hp hbt hbx hmx hcx
def ah1 (_B:Nat) (_b4 _b8:Nat) (me:Int) (s1:Option ak) (s2 s3:Nat) (s4:Option ak) (s5 s6:Nat) (s7:Option ak) (s8 s9:Nat) (s10:Option ak) (s11 s12:Nat) (s13:Option ak) (s14 s15:Nat) (rv uv v_:au) (_X1:aj) (i:Nat) (v:au) (_x:aj):Prop :=
 match i with
 | 0=>v=aI #[O U me,J s1 s2 s3,J s4 s5 s6,J s7 s8 s9,J s10 s11 s12,J s13 s14 s15]
 | 1=>v=rv
 | 2=>v=uv
 | 3=>v=v_
 | 4=>True
 | 5=>v=v_
 | _=>True
def YV (W:aj) (_b4 b8:Nat) (me:Int) (s1:Option ak) (s2 s3:Nat) (s4:Option ak) (s5 s6:Nat) (s7:Option ak) (s8 s9:Nat) (s10:Option ak) (s11 s12:Nat) (s13:Option ak) (s14 s15:Nat) (_rv _uv _v_:au) (X1:aj) (D:Nat->Prop) (x:aj):Prop:=(¬ D 3->x=W.drew)/\(D 3->¬ D 4->x=X1)/\(D 4->x=gF X1 b8 (O U me) (J s1 s2 s3) (J s4 s5 s6) (J s7 s8 s9) (J s10 s11 s12) (J s13 s14 s15))
noncomputable def afz:Code:=((Tryz.f9.body.bind (eT 7)).getD .skip)
theorem ad7 (Q:Exit->Act->aj->Prop) (W:aj) (b4 b8:Nat) (me:Int) (s1:Option ak) (s2 s3:Nat) (s4:Option ak) (s5 s6:Nat) (s7:Option ak) (s8 s9:Nat) (s10:Option ak) (s11 s12:Nat) (s13:Option ak) (s14 s15:Nat) (rv uv v_:au) (X1:aj) (z0 z1 z2 z3 z4 z5:au) (u0 u1 u2 u3 u5 u6 u7 u9 u10 u11 u14 u15 u16 u17 u18 u19 u20 u21 u22 u23 u24 u25 u26 u27 u28 u29 u30 u31 u32 u33 u34 u35 u36 u37 u38 u39 u40 u41 u42:au)
  (h40:dJ W b4 #[O U me,J s1 s2 s3,J s4 s5 s6,J s7 s8 s9,J s10 s11 s12,J s13 s14 s15] 28) (h41:dJ X1 b4 #[O U me,J s1 s2 s3,J s4 s5 s6,J s7 s8 s9,J s10 s11 s12,J s13 s14 s15] 28) (h8:dJ X1 b8 #[z0,z1,z2,z3,z4,z5] 28) (hne:b4≠b8) (hr:(Builtin.append_ #[35,35] 35 #[rv,uv]).run aF W.drew=.ok v_ X1)
  (hQ:∀ a:Act,a.defers=[]->a.tmps[8]?=V (Z (V ⟨b8,0,Y⟩))->a.tmps[9]?=V v_->Q .normal a (gF X1 b8 (O U me) (J s1 s2 s3) (J s4 s5 s6) (J s7 s8 s9) (J s10 s11 s12) (J s13 s14 s15))) :
  Code.wp aF afz Q ⟨(u0::u1::u2::u3::Z (V ⟨b4,0,Y⟩)::u5::u6::u7::Z (V ⟨b8,0,Y⟩)::u9::u10::u11::rv::uv::u14::u15::u16::u17::u18::u19::u20::u21::u22::u23::u24::u25::u26::u27::u28::u29::u30::u31::u32::u33::u34::u35::u36::u37::u38::u39::u40::u41::u42::[]).toArray,[]⟩ W:=by
 have HQ:=L hQ;have H40:=L h40;have H41:=L h41;have H8:=L h8;have NE:=L hne;have HR:=L hr;clear hQ h40 h41 h8 hne hr;have bx4:∀ D x,YV W b4 b8 me s1 s2 s3 s4 s5 s6 s7 s8 s9 s10 s11 s12 s13 s14 s15 rv uv v_ X1 D x->dJ x b4 #[O U me,J s1 s2 s3,J s4 s5 s6,J s7 s8 s9,J s10 s11 s12,J s13 s14 s15] 28:=fun D x hF=>by
  by_cases d4:D 4
  ·rw [hF.2.2 d4];exact (X X1 b8 (O U me) (J s1 s2 s3) (J s4 s5 s6) (J s7 s8 s9) (J s10 s11 s12) (J s13 s14 s15)).box H41.out NE.out
  ·by_cases d3:D 3
   ·rw [hF.2.1 d3 d4]; exact H41.out
   ·rw [hF.1 d3]; exact H40.out.on (aD _ _).drew
 unfold afz
 conv=>arg 2; whnf
 have nd:∀ j,(∀ i,i<6->[V 39,V 40,V 41,V 42,Y,V 9].getD i Y≠V j)->∀ i,i<6->(fun i=>[V 39,V 40,V 41,V 42,Y,V 9].getD i Y) i≠V j:=fun j h=>h;refine Rg.pE 6 (fun i=>[V 39,V 40,V 41,V 42,Y,V 9].getD i Y) (fun _=>6) (ah1 W.heap.size b4 b8 me s1 s2 s3 s4 s5 s6 s7 s8 s9 s10 s11 s12 s13 s14 s15 rv uv v_ X1) (YV W b4 b8 me s1 s2 s3 s4 s5 s6 s7 s8 s9 s10 s11 s12 s13 s14 s15 rv uv v_ X1) (by kernel_rfl) (by kernel_rfl) rfl (fun i j e hi hj h1 h2=>(by decide:∀ i,i<6->∀ j,j<6->([V 39,V 40,V 41,V 42,Y,V 9].getD i Y).isSome=true->[V 39,V 40,V 41,V 42,Y,V 9].getD i Y=[V 39,V 40,V 41,V 42,Y,V 9].getD j Y->i=j) i hi j hj (by have h1:[V 39,V 40,V 41,V 42,Y,V 9].getD i Y=V e:=h1; rw [h1]; rfl) (h1.trans h2.symm)) (fun i e hi h=>(by decide:∀ i,i<6->∀ q∈[V 39,V 40,V 41,V 42,Y,V 9].getD i Y,q<43) i hi e h) (⟨fun _=>rfl,fun h=>h.elim,fun h=>h.elim⟩) ?_ ?_
 ·intro i o hi ho a x D hnd hc hD hF seen K hK;clear HQ;have still:∀ i,i≠3/\i≠4->YV W b4 b8 me s1 s2 s3 s4 s5 s6 s7 s8 s9 s10 s11 s12 s13 s14 s15 rv uv v_ X1 (fun j=>j=i\/D j) x:=fun i hns=>⟨fun h=>hF.1 fun h2=>h (aC h2),fun h1 h2=>hF.2.1 (h1.resolve_left (Ne.symm hns.1)) fun h3=>h2 (aC h3),fun h=>hF.2.2 (h.resolve_left (Ne.symm hns.2))⟩;rcases (by omega:i=0\/i=1\/i=2\/i=3\/i=4\/i=5) with rfl|rfl|rfl|rfl|rfl|rfl
  ·cases ho;have e4:a.eval (ah 4)=Z (V ⟨b4,0,Y⟩):=seen.kp 4 _ (nd 4 (by decide)) rfl;obtain⟨y0,y1,y2,y3,y4,y5⟩:=(bx4 D x hF).fu;exact Rg.dD rfl rfl (Rg.dW a.eval _ 28 (ah 4) rfl (by rw [e4]; simp [go_sem,y0,y1,y2,y3,y4,y5])) (hK _ _ rfl (still 0 (by decide)) fun _ _ _ _ _ _ _ h=>h)
  ·cases ho;have e12:a.eval (ah 12)=rv:=seen.kp 12 _ (nd 12 (by decide)) rfl;exact Rg.dD rfl rfl (Rg.gq a.eval _ (ah 12) rfl x) (hK _ _ e12 (still 1 (by decide)) fun _ _ _ _ _ _ _ h=>h)
  ·cases ho;have e13:a.eval (ah 13)=uv:=seen.kp 13 _ (nd 13 (by decide)) rfl;exact Rg.dD rfl rfl (Rg.gq a.eval _ (ah 13) rfl x) (hK _ _ e13 (still 2 (by decide)) fun _ _ _ _ _ _ _ h=>h)
  ·cases ho;have e40:a.eval (ah 40)=rv:=seen.at_ ⟨1,.data⟩ (by simp) rfl (aC (by decide)) _ rfl;have e41:a.eval (ah 41)=uv:=seen.at_ ⟨2,.data⟩ (by simp) rfl (aC (by decide)) _ rfl;have n4:¬ D 4:=fun h=>hnd (hc 4 _ h rfl ⟨3,.chain⟩ (by simp) rfl);have hx:x=W.drew:=hF.1 hnd;exact Rg.dD rfl rfl (Rg.fZ a.eval _ (ah 40) (ah 41) 35 rfl e40 e41 (w':=X1) (v':=v_) (by rw [hx]; exact HR.out)) (hK _ X1 rfl ⟨fun h=>absurd (aO rfl) h,fun _ _=>rfl,fun h=>absurd (h.resolve_left (by decide)) n4⟩ (fun j u hj dj nl nx ni h=>by
    rcases (by omega:j=0\/j=1\/j=2\/j=3\/j=4\/j=5) with rfl|rfl|rfl|rfl|rfl|rfl
    ·exact h
    ·exact h
    ·exact h
    ·exact h
    ·exact h
    ·exact h))
  ·cases ho;have e8:a.eval (ah 8)=Z (V ⟨b8,0,Y⟩):=seen.kp 8 _ (nd 8 (by decide)) rfl;have e39:a.eval (ah 39)=aI #[O U me,J s1 s2 s3,J s4 s5 s6,J s7 s8 s9,J s10 s11 s12,J s13 s14 s15]:=seen.at_ ⟨0,.data⟩ (by simp) rfl (aC (by decide)) _ rfl;have d3:D 3:=hD ⟨3,.chain⟩ (by simp) rfl;have hx:x=X1:=hF.2.1 d3 hnd;have hs:=pG H8.out me s1 s4 s7 s10 s13 s2 s3 s5 s6 s8 s9 s11 s12 s14 s15;have ff:YV W b4 b8 me s1 s2 s3 s4 s5 s6 s7 s8 s9 s10 s11 s12 s13 s14 s15 rv uv v_ X1 (fun j=>j=4\/D j) (gF X1 b8 (O U me) (J s1 s2 s3) (J s4 s5 s6) (J s7 s8 s9) (J s10 s11 s12) (J s13 s14 s15)):=⟨fun h=>absurd (aC d3) h,fun _ h=>absurd (aO rfl) h,fun _=>rfl⟩;generalize gF X1 b8 (O U me) (J s1 s2 s3) (J s4 s5 s6) (J s7 s8 s9) (J s10 s11 s12) (J s13 s14 s15)=x2 at *;subst hx;have q:=hK (aN true) x2 trivial ff (fun j u hj dj nl nx ni h=>by
    rcases (by omega:j=0\/j=1\/j=2\/j=3\/j=4\/j=5) with rfl|rfl|rfl|rfl|rfl|rfl
    ·exact h
    ·exact h
    ·exact h
    ·exact h
    ·exact h
    ·exact h)
   exact Rg.fQ 28 (ah 8) (ah 39) rfl rfl rfl rfl e8 e39 hs q
  ·cases ho;have e42:a.eval (ah 42)=v_:=seen.at_ ⟨3,.data⟩ (by simp) rfl (aC (by decide)) _ rfl;exact Rg.dD rfl rfl (Rg.kI a.eval _ (ah 42) rfl x) (hK _ _ e42 (still 5 (by decide)) fun _ _ _ _ _ _ _ h=>h)
 ·intro a x df sz kp ⟨vs,hv⟩ ⟨D,hall,hF⟩;have g9:a.tmps[9]?=V v_:=by
   have h:vs 5=v_:=(hv 5 (by omega)).2 (by decide);rw [<- h];exact (hv 5 (by omega)).1 9 rfl
  rw [hF.2.2 (hall 4 (by omega))];exact HQ.out a df ((kp 8 (nd 8 (by decide))).trans rfl) g9
def ah2 (_B:Nat) (_b3 _b5 _b6:Nat) (me:Int) (s1:Option ak) (s2 s3:Nat) (s4:Option ak) (s5 s6:Nat) (s7:Option ak) (s8 s9:Nat) (s10:Option ak) (s11 s12:Nat) (s13:Option ak) (s14 s15:Nat) (f c d:Int) (near:List Int) (i:Nat) (v:au) (x:aj):Prop :=
 match i with
 | 0=>v=aI #[O U me,J s1 s2 s3,J s4 s5 s6,J s7 s8 s9,J s10 s11 s12,J s13 s14 s15]
 | 1=>v=aI #[O U me,J s1 s2 s3,J s4 s5 s6,J s7 s8 s9,J s10 s11 s12,J s13 s14 s15]
 | 2=>v=O U f
 | 3=>v=aI #[O U c,O U d]
 | 4=>v=aI #[O U 2,O U c,O U d,O U 0,O U 0,J Y 0 0,J Y 0 0]
 | 5=>∃ (s:Sl) (lx:List mh),v=dX s/\uQ x _B (dX s) lx (eB near f 2 (c,d) (0,0) [])
 | 6=>True
 | 7=>∃ (s:Sl) (lx:List mh),v=dX s/\uQ x _B (dX s) lx (eB near f 2 (c,d) (0,0) [])
 | _=>True
def VF (W:aj) (_b3 _b5 b6:Nat) (me:Int) (s1:Option ak) (s2 s3:Nat) (s4:Option ak) (s5 s6:Nat) (s7:Option ak) (s8 s9:Nat) (s10:Option ak) (s11 s12:Nat) (s13:Option ak) (s14 s15:Nat) (_f _c _d:Int) (_near:List Int) (D:Nat->Prop) (x:aj):Prop:=(¬ D 5->x=W.drew)/\(¬ D 6->Below W.heap.size W x)/\(D 6->∃ y,Below W.heap.size W y/\x=gF y b6 (O U me) (J s1 s2 s3) (J s4 s5 s6) (J s7 s8 s9) (J s10 s11 s12) (J s13 s14 s15))
noncomputable def afA:Code:=((Tryz.f10.body.bind (eT 4)).getD .skip)
theorem un4 (Q:Exit->Act->aj->Prop) (W:aj) (b3 b5 b6:Nat) (me:Int) (s1:Option ak) (s2 s3:Nat) (s4:Option ak) (s5 s6:Nat) (s7:Option ak) (s8 s9:Nat) (s10:Option ak) (s11 s12:Nat) (s13:Option ak) (s14 s15:Nat) (f c d:Int) (near:List Int) (z0 z1 z2 z3 z4 z5:au) (u0 u2 u4 u7 u8 u9 u10 u11 u12 u13 u14 u15 u16 u17 u18 u19 u20 u21 u22 u23 u24:au)
  (h3:dJ W b3 #[O U me,J s1 s2 s3,J s4 s5 s6,J s7 s8 s9,J s10 s11 s12,J s13 s14 s15] 28) (h5:dJ W b5 #[O U c,O U d] 31) (h6:dJ W b6 #[z0,z1,z2,z3,z4,z5] 28) (n3:b3≠b6) (n5:b5≠b6) (hn:qA W (J s1 s2 s3) near) (hl:near.length<=900)
  (hQ:∀ (a:Act) (y:aj) (s:Sl) (lx:List mh),a.defers=[]->a.tmps[6]?=V (Z (V ⟨b6,0,Y⟩))->a.tmps[7]?=V (dX s)->Below W.heap.size W y->uQ (gF y b6 (O U me) (J s1 s2 s3) (J s4 s5 s6) (J s7 s8 s9) (J s10 s11 s12) (J s13 s14 s15)) W.heap.size (dX s) lx (eB near f 2 (c,d) (0,0) [])->Q .normal a (gF y b6 (O U me) (J s1 s2 s3) (J s4 s5 s6) (J s7 s8 s9) (J s10 s11 s12) (J s13 s14 s15))) :
  Code.wp aF afA Q ⟨(u0::O U f::u2::Z (V ⟨b3,0,Y⟩)::u4::Z (V ⟨b5,0,Y⟩)::Z (V ⟨b6,0,Y⟩)::u7::u8::u9::u10::u11::u12::u13::u14::u15::u16::u17::u18::u19::u20::u21::u22::u23::u24::[]).toArray,[]⟩ W:=by
 have HQ:=L hQ;have H3:=L h3;have H5:=L h5;have H6:=L h6;have N3:=L n3;have N5:=L n5;have HN:=L hn;have LN:=L hl;clear hQ h3 h5 h6 n3 n5 hn hl;have bx3:∀ D x,VF W b3 b5 b6 me s1 s2 s3 s4 s5 s6 s7 s8 s9 s10 s11 s12 s13 s14 s15 f c d near D x->dJ x b3 #[O U me,J s1 s2 s3,J s4 s5 s6,J s7 s8 s9,J s10 s11 s12,J s13 s14 s15] 28:=fun D x hF=>by
  by_cases d6:D 6
  ·obtain⟨y,hy,rfl⟩:=hF.2.2 d6;exact (X y b6 (O U me) (J s1 s2 s3) (J s4 s5 s6) (J s7 s8 s9) (J s10 s11 s12) (J s13 s14 s15)).box (H3.out.on hy) N3.out
  ·exact H3.out.on (hF.2.1 d6)
 have bx5:∀ D x,VF W b3 b5 b6 me s1 s2 s3 s4 s5 s6 s7 s8 s9 s10 s11 s12 s13 s14 s15 f c d near D x->dJ x b5 #[O U c,O U d] 31:=fun D x hF=>by
  by_cases d6:D 6
  ·obtain⟨y,hy,rfl⟩:=hF.2.2 d6;exact (X y b6 (O U me) (J s1 s2 s3) (J s4 s5 s6) (J s7 s8 s9) (J s10 s11 s12) (J s13 s14 s15)).box (H5.out.on hy) N5.out
  ·exact H5.out.on (hF.2.1 d6)
 unfold afA
 conv=>arg 2; whnf
 have nd:∀ j,(∀ i,i<8->[V 19,V 20,V 21,V 22,V 23,V 24,Y,V 7].getD i Y≠V j)->∀ i,i<8->(fun i=>[V 19,V 20,V 21,V 22,V 23,V 24,Y,V 7].getD i Y) i≠V j:=fun j h=>h;refine Rg.pE 8 (fun i=>[V 19,V 20,V 21,V 22,V 23,V 24,Y,V 7].getD i Y) (fun _=>8) (ah2 W.heap.size b3 b5 b6 me s1 s2 s3 s4 s5 s6 s7 s8 s9 s10 s11 s12 s13 s14 s15 f c d near) (VF W b3 b5 b6 me s1 s2 s3 s4 s5 s6 s7 s8 s9 s10 s11 s12 s13 s14 s15 f c d near) (by kernel_rfl) (by kernel_rfl) rfl (fun i j e hi hj h1 h2=>(by decide:∀ i,i<8->∀ j,j<8->([V 19,V 20,V 21,V 22,V 23,V 24,Y,V 7].getD i Y).isSome=true->[V 19,V 20,V 21,V 22,V 23,V 24,Y,V 7].getD i Y=[V 19,V 20,V 21,V 22,V 23,V 24,Y,V 7].getD j Y->i=j) i hi j hj (by have h1:[V 19,V 20,V 21,V 22,V 23,V 24,Y,V 7].getD i Y=V e:=h1; rw [h1]; rfl) (h1.trans h2.symm)) (fun i e hi h=>(by decide:∀ i,i<8->∀ q∈[V 19,V 20,V 21,V 22,V 23,V 24,Y,V 7].getD i Y,q<25) i hi e h) (⟨fun _=>rfl,fun _=>(aD _ _).drew,fun h=>h.elim⟩) ?_ ?_
 ·intro i o hi ho a x D hnd hc hD hF seen K hK;clear HQ;have still:∀ i,i≠5/\i≠6->VF W b3 b5 b6 me s1 s2 s3 s4 s5 s6 s7 s8 s9 s10 s11 s12 s13 s14 s15 f c d near (fun j=>j=i\/D j) x:=fun i hns=>⟨fun h=>hF.1 fun h2=>h (aC h2),fun h=>hF.2.1 fun h2=>h (aC h2),fun h=>hF.2.2 (h.resolve_left (Ne.symm hns.2))⟩;rcases (by omega:i=0\/i=1\/i=2\/i=3\/i=4\/i=5\/i=6\/i=7) with rfl|rfl|rfl|rfl|rfl|rfl|rfl|rfl
  ·cases ho;have e3:a.eval (ah 3)=Z (V ⟨b3,0,Y⟩):=seen.kp 3 _ (nd 3 (by decide)) rfl;obtain⟨y0,y1,y2,y3,y4,y5⟩:=(bx3 D x hF).fu;exact Rg.dD rfl rfl (Rg.dW a.eval _ 28 (ah 3) rfl (by rw [e3]; simp [go_sem,y0,y1,y2,y3,y4,y5])) (hK _ _ rfl (still 0 (by decide)) fun _ _ _ _ _ _ _ h=>h)
  ·cases ho;have e3:a.eval (ah 3)=Z (V ⟨b3,0,Y⟩):=seen.kp 3 _ (nd 3 (by decide)) rfl;obtain⟨y0,y1,y2,y3,y4,y5⟩:=(bx3 D x hF).fu;exact Rg.dD rfl rfl (Rg.dW a.eval _ 28 (ah 3) rfl (by rw [e3]; simp [go_sem,y0,y1,y2,y3,y4,y5])) (hK _ _ rfl (still 1 (by decide)) fun _ _ _ _ _ _ _ h=>h)
  ·cases ho;have e1:a.eval (ah 1)=O U f:=seen.kp 1 _ (nd 1 (by decide)) rfl;exact Rg.dD rfl rfl (Rg.gq a.eval _ (ah 1) rfl x) (hK _ _ e1 (still 2 (by decide)) fun _ _ _ _ _ _ _ h=>h)
  ·cases ho;have e5:a.eval (ah 5)=Z (V ⟨b5,0,Y⟩):=seen.kp 5 _ (nd 5 (by decide)) rfl;obtain⟨y0,y1⟩:=(bx5 D x hF).cs2;exact Rg.dD rfl rfl (Rg.dW a.eval _ 31 (ah 5) rfl (by rw [e5]; simp [go_sem,y0,y1])) (hK _ _ rfl (still 3 (by decide)) fun _ _ _ _ _ _ _ h=>h)
  ·cases ho;have e22:a.eval (ah 22)=aI #[O U c,O U d]:=seen.at_ ⟨3,.data⟩ (by simp) rfl (aC (by decide)) _ rfl;exact Rg.dD rfl rfl (Rg.jP a.eval _ 41 #[(0,.const (O U 2)),(1,ah 22)] rfl (ps:=#[(0,O U 2),(1,aI #[O U c,O U d])]) (by simp only [aL,aQ,aR,e22]; rfl) (by simp [go_sem])) (hK _ _ rfl (still 4 (by decide)) fun _ _ _ _ _ _ _ h=>h)
  ·cases ho;have e20:a.eval (ah 20)=aI #[O U me,J s1 s2 s3,J s4 s5 s6,J s7 s8 s9,J s10 s11 s12,J s13 s14 s15]:=seen.at_ ⟨1,.data⟩ (by simp) rfl (aC (by decide)) _ rfl;have e21:a.eval (ah 21)=O U f:=seen.at_ ⟨2,.data⟩ (by simp) rfl (aC (by decide)) _ rfl;have e23:a.eval (ah 23)=aI #[O U 2,O U c,O U d,O U 0,O U 0,J Y 0 0,J Y 0 0]:=seen.at_ ⟨4,.data⟩ (by simp) rfl (aC (by decide)) _ rfl;have n6:¬ D 6:=fun h=>hnd (hc 6 _ h rfl ⟨5,.chain⟩ (by simp) rfl);have n7:¬ D 7:=fun h=>hnd (hc 7 _ h rfl ⟨5,.data⟩ (by simp) rfl);have hb:=hF.2.1 n6;exact Rg.gT rfl rfl (xE a.eval _ (ah 20) (ah 21) (ah 23) 28 3 41 28 rfl e20 e21 e23 rfl _ (gD aS rfl rfl _ _)) (Eb me f 2 c d 0 0 (s1,s2,s3) _ _ _ _ (Y,0,0) [] near x (HN.out.on hb) LN.out (ji _) (aM _)) fun e w1 h=>by
    obtain⟨⟨s,lx,rfl,h1⟩,h3⟩:=h;exact⟨_,rfl,hK _ w1 ⟨s,lx,rfl,h1.le hb.size⟩ ⟨fun h=>absurd (aO rfl) h,fun _=>hb.trans (h3.mono hb.size),fun h=>absurd (h.resolve_left (by decide)) n6⟩ (fun j u hj dj nl nx ni h=>by
    rcases (by omega:j=0\/j=1\/j=2\/j=3\/j=4\/j=5\/j=6\/j=7) with rfl|rfl|rfl|rfl|rfl|rfl|rfl|rfl
    ·exact h
    ·exact h
    ·exact h
    ·exact h
    ·exact h
    ·exact absurd rfl ni
    ·exact h
    ·exact absurd dj n7)⟩
  ·cases ho;have e6:a.eval (ah 6)=Z (V ⟨b6,0,Y⟩):=seen.kp 6 _ (nd 6 (by decide)) rfl;have e19:a.eval (ah 19)=aI #[O U me,J s1 s2 s3,J s4 s5 s6,J s7 s8 s9,J s10 s11 s12,J s13 s14 s15]:=seen.at_ ⟨0,.data⟩ (by simp) rfl (aC (by decide)) _ rfl;have d5:D 5:=hD ⟨5,.chain⟩ (by simp) rfl;have hb:=hF.2.1 hnd;have n7:¬ D 7:=fun h=>hnd (hc 7 _ h rfl ⟨6,.chain⟩ (by simp) rfl);have hs:=pG (H6.out.on hb) me s1 s4 s7 s10 s13 s2 s3 s5 s6 s8 s9 s11 s12 s14 s15;have ff:VF W b3 b5 b6 me s1 s2 s3 s4 s5 s6 s7 s8 s9 s10 s11 s12 s13 s14 s15 f c d near (fun j=>j=6\/D j) (gF x b6 (O U me) (J s1 s2 s3) (J s4 s5 s6) (J s7 s8 s9) (J s10 s11 s12) (J s13 s14 s15)):=⟨fun h=>absurd (aC d5) h,fun h=>absurd (aO rfl) h,fun _=>⟨x,hb,rfl⟩⟩;have bs:=X x b6 (O U me) (J s1 s2 s3) (J s4 s5 s6) (J s7 s8 s9) (J s10 s11 s12) (J s13 s14 s15);have h6x:=H6.out.on hb;generalize gF x b6 (O U me) (J s1 s2 s3) (J s4 s5 s6) (J s7 s8 s9) (J s10 s11 s12) (J s13 s14 s15)=x2 at *;have q:=hK (aN true) x2 trivial ff (fun j u hj dj nl nx ni h=>by
    rcases (by omega:j=0\/j=1\/j=2\/j=3\/j=4\/j=5\/j=6\/j=7) with rfl|rfl|rfl|rfl|rfl|rfl|rfl|rfl
    ·exact h
    ·exact h
    ·exact h
    ·exact h
    ·exact h
    ·obtain⟨s,lx,h1,h2⟩:=h; exact⟨s,lx,h1,h2.but bs h6x (by decide) (by decide)⟩
    ·exact h
    ·exact absurd dj n7)
   exact Rg.fQ 28 (ah 6) (ah 19) rfl rfl rfl rfl e6 e19 hs q
  ·cases ho;have E24:=seen.at_ ⟨5,.data⟩ (by simp) rfl (aC (by decide)) _ rfl;exact Rg.dD rfl rfl (Rg.kI a.eval _ (ah 24) rfl x) (hK _ _ E24 (still 7 (by decide)) fun _ _ _ _ _ _ _ h=>h)
 ·intro a x df sz kp ⟨vs,hv⟩ ⟨D,hall,hF⟩;obtain⟨s,lx,h1,h2⟩:=(hv 7 (by omega)).2 (by decide);have g7:a.tmps[7]?=V (dX s):=by
   rw [<- h1];exact (hv 7 (by omega)).1 7 rfl
  obtain⟨y,hy,rfl⟩:=hF.2.2 (hall 6 (by omega));exact HQ.out a y s lx df ((kp 6 (nd 6 (by decide))).trans rfl) g7 hy h2
end Fl
namespace Fl
open Go.RowKit Go.Sort Rw YtmklifheakemeaaGreat.Nm Pr Bk Av Rl Sb
def FlQ (W:aj) (P:Prop) (r:Br×List Ou) (e:Ending) (w':aj):Prop:=(∃ (nv av sv ev ov s:Sl) (lx:List mh),e=.returned (.tuple #[oK r.1.me nv av sv ev ov,dX s])/\tY w' r.1 nv av sv ev ov/\(P->pJ w' r.1 nv av sv ev ov)/\uQ w' W.heap.size (dX s) lx r.2)/\Below W.heap.size W w'
theorem Q6 (b:Br) (x:fD) (f:Int):(gW b x f).1.me=b.me/\(gW b x f).1.near=b.near:=by
 unfold gW
 split
 ·exact⟨rfl,rfl⟩
 ·split <;> exact⟨rfl,rfl⟩
theorem Ji (b:Br) (s1:Option ak) (s2 s3:Nat) (s4:Option ak) (s5 s6:Nat) (s7:Option ak) (s8 s9:Nat) (s10:Option ak) (s11 s12:Nat) (s13:Option ak) (s14 s15:Nat) (f c d:Int) (w:aj) (h:tY w b (s1,s2,s3) (s4,s5,s6) (s7,s8,s9) (s10,s11,s12) (s13,s14,s15)) (hf:PW b) (hfp:yP b) (hr:sM b.dQ) :
  aT aF 10 #[aI #[O U b.me,J s1 s2 s3,J s4 s5 s6,J s7 s8 s9,J s10 s11 s12,J s13 s14 s15],O U f,aI #[O U c,O U d]] w (FlQ w (pJ w b (s1,s2,s3) (s4,s5,s6) (s7,s8,s9) (s10,s11,s12) (s13,s14,s15)) (nL b f (c,d))):=by
 obtain⟨h0,h1,h2,h3⟩:=gJ w #[O U b.me,J s1 s2 s3,J s4 s5 s6,J s7 s8 s9,J s10 s11 s12,J s13 s14 s15] #[O U c,O U d] #[O U 0,J Y 0 0,J Y 0 0,J Y 0 0,J Y 0 0,J Y 0 0] 28 31 28;have FG:=L (fun W hb=>KG b (c,d) f (s1,s2,s3) (s4,s5,s6) (s7,s8,s9) (s10,s11,s12) (s13,s14,s15) W (h.br.on (show Below w.heap.size w W from hb)) hf hfp);have NO:=L h.no;have LN:=L hf.near;have RC:=L (show ∀ W,Below w.heap.size w W->pJ w b (s1,s2,s3) (s4,s5,s6) (s7,s8,s9) (s10,s11,s12) (s13,s14,s15)->pJ W b (s1,s2,s3) (s4,s5,s6) (s7,s8,s9) (s10,s11,s12) (s13,s14,s15) from fun W hb hc=>hc.on hb);have UE:=L (show nL b f (c,d)=((gW b (c,d) f).1,if (gW b (c,d) f).2=true then eB b.near f 2 (c,d) (0,0) [] else []) from by unfold nL; rw [rH hr]);have FM:=L (Q6 b (c,d) f);obtain⟨me,hme⟩:∃ me,me=b.me:=⟨_,rfl⟩;have ME:=L hme;simp only [<- hme] at h0 h1 h2 h3 FG ⊢;have gB:=L (h0);have qH:=L (h1);have Ay:=L (h2);have IQ:=L (h3);clear h0 h1 h2 h3 h hf hfp hr hme;go_enter Tryz.func10,Tryz.ntmps10;go_upto_region 1 with fail;generalize (((w.alloc (aG #[O U me,J s1 s2 s3,J s4 s5 s6,J s7 s8 s9,J s10 s11 s12,J s13 s14 s15] 28)).alloc (aG #[O U c,O U d] 31)).alloc (aG #[O U 0,J Y 0 0,J Y 0 0,J Y 0 0,J Y 0 0,J Y 0 0] 28))=W at *;have SW:=L (FG.out W gB.out);clear FG;have RC2:=L (RC.out W gB.out);have Vt:=L (NO.out.on gB.out);clear RC NO;obtain⟨x0,x1,x2,x3,x4,x5⟩:=qH.out.fu;obtain⟨y0,y1⟩:=Ay.out.cs2;go_wp2_with fail;refine SW.out.mono ?_;rintro e1 w1 ⟨⟨⟨m1,m2,m3⟩,⟨m4,m5,m6⟩,⟨m7,m8,m9⟩,⟨m10,m11,m12⟩,⟨m13,m14,m15⟩,rfl,hbr,hno,hbc⟩,hb⟩;clear SW;clear x0 x1 x2 x3 x4 x5 y0 y1;have lg:=L (gB.out.trans (hb.mono gB.out.size));have r9:=L (qH.out.on hb);have lQ:=L (Ay.out.on hb);have uz:=L (IQ.out.on hb);clear gB qH Ay IQ;generalize hr:(gW b (c,d) f).2=r at *;have BN:=L (show tY w1 (gW b (c,d) f).1 (m1,m2,m3) (m4,m5,m6) (m7,m8,m9) (m10,m11,m12) (m13,m14,m15) from ⟨hbr,hno Vt.out⟩);have BNC:=L (show pJ w b (s1,s2,s3) (s4,s5,s6) (s7,s8,s9) (s10,s11,s12) (s13,s14,s15)->pJ w1 (gW b (c,d) f).1 (m1,m2,m3) (m4,m5,m6) (m7,m8,m9) (m10,m11,m12) (m13,m14,m15) from fun h=>hbc (aO (RC2.out h)));clear hbr hno hbc hb hr RC2 Vt;rw [show (gW b (c,d) f).1.me=me from by rw [FM.out.1,ME.out]];obtain⟨k0,k1,k2,k3,k4,k5⟩:=r9.out.fu;obtain⟨oN,oO,oP,oQ,oU,oW⟩:=r9.out.kD;have zz:=r9.out.lt;have bs:=X w1 w.heap.size (O U me) (J m1 m2 m3) (J m4 m5 m6) (J m7 m8 m9) (J m10 m11 m12) (J m13 m14 m15);have G0:=L (dG (b:=w.heap.size) lg.out (aJ _) (O U me) (J m1 m2 m3) (J m4 m5 m6) (J m7 m8 m9) (J m10 m11 m12) (J m13 m14 m15));have G1:=L (bs.box lQ.out (by omega));have G2:=L (bs.box uz.out (by omega));have G3:=L (BN.out.keep (s1:=(s1,s2,s3)) (s2:=(s4,s5,s6)) (s3:=(s7,s8,s9)) (s4:=(s10,s11,s12)) (s5:=(s13,s14,s15)) (me:=me) r9.out bs);have G4:=L (fun h=>pJ.xC (BNC.out h) bs r9.out (by decide) (by decide) (by decide) (by decide) (by decide) (by decide));have G5:=L (dL r9.out (O U me) (J m1 m2 m3) (J m4 m5 m6) (J m7 m8 m9) (J m10 m11 m12) (J m13 m14 m15));clear bs lg lQ uz BN BNC r9;go_upto_region 2 with fail;clear zz k0 k1 k2 k3 k4 k5 oN oO oP oQ oU oW;unfold gF at G0 G1 G2 G3 G4 G5;generalize ((((((w1.setCell ⟨w.heap.size,0,Y⟩ (O U me)).setCell ⟨w.heap.size,1,Y⟩ (J m1 m2 m3)).setCell ⟨w.heap.size,2,Y⟩ (J m4 m5 m6)).setCell ⟨w.heap.size,3,Y⟩ (J m7 m8 m9)).setCell ⟨w.heap.size,4,Y⟩ (J m10 m11 m12)).setCell ⟨w.heap.size,5,Y⟩ (J m13 m14 m15))=w2 at *;have jm:=L (G0.out);have oG:=L (G1.out);have Jj:=L (G2.out);have Bb:=L (G3.out);have VH:=L (G4.out);have Bc:=L (G5.out);clear G0 G1 G2 G3 G4 G5;cases r
 ·have x0:=Bc.out.cell 0;have x1:=Bc.out.cell 1;have x2:=Bc.out.cell 2;have x3:=Bc.out.cell 3;have x4:=Bc.out.cell 4;have x5:=Bc.out.cell 5;simp only [ay,aA,aB] at x0 x1 x2 x3 x4 x5;obtain⟨r0,r1,r2,r3,r4,r5⟩:=Jj.out.fu;obtain⟨wG,uD,yR,Ae,Af,Ag⟩:=Jj.out.kD;have zz:=Jj.out.lt;have bs:=X w2 (w.heap.size+1+1) (O U me) (J m1 m2 m3) (J m4 m5 m6) (J m7 m8 m9) (J m10 m11 m12) (J m13 m14 m15);have GG:=L (dL Jj.out (O U me) (J m1 m2 m3) (J m4 m5 m6) (J m7 m8 m9) (J m10 m11 m12) (J m13 m14 m15));have BL:=L (dG (b:=w.heap.size+1+1) jm.out (by omega) (O U me) (J m1 m2 m3) (J m4 m5 m6) (J m7 m8 m9) (J m10 m11 m12) (J m13 m14 m15));have HB:=L (Bb.out.keep (s1:=(Y,0,0)) (s2:=(Y,0,0)) (s3:=(Y,0,0)) (s4:=(Y,0,0)) (s5:=(Y,0,0)) (me:=0) Jj.out bs);have HB2:=L (fun h=>pJ.xC (VH.out h) bs Jj.out (by decide) (by decide) (by decide) (by decide) (by decide) (by decide));clear bs;go_wp2_with fail;obtain⟨v0,v1,v2,v3,v4,v5⟩:=GG.out.fu;refine bodyPost_ret (v:=.tuple #[aI #[O U me,J m1 m2 m3,J m4 m5 m6,J m7 m8 m9,J m10 m11 m12,J m13 m14 m15],J Y 0 0]) (by simp [results,aP,go_sem,v0,v1,v2,v3,v4,v5]) rfl ?_;rw [UE.out,if_neg (by simp)];exact⟨⟨(m1,m2,m3),(m4,m5,m6),(m7,m8,m9),(m10,m11,m12),(m13,m14,m15),(Y,0,0),[],by rw [FM.out.1,ME.out],HB.out,HB2.out,uQ.nil _ _⟩,BL.out⟩
 ·go_upto_region 4 with fail;have HN:=L (show qA w2 (J m1 m2 m3) b.near from by have h:=Bb.out.br.near; rw [FM.out.2] at h; exact h);refine un4 _ w2 w.heap.size (w.heap.size+1) (w.heap.size+1+1) me m1 m2 m3 m4 m5 m6 m7 m8 m9 m10 m11 m12 m13 m14 m15 f c d b.near _ _ _ _ _ _ _ _ _ _ _ _ _ _ _ _ _ _ _ _ _ _ _ _ _ _ _ Bc.out oG.out Jj.out (by omega) (by omega) HN.out LN.out ?_;intro a y s lx hd h6 h7 hy hou;have bs:=X y (w.heap.size+1+1) (O U me) (J m1 m2 m3) (J m4 m5 m6) (J m7 m8 m9) (J m10 m11 m12) (J m13 m14 m15);have X8y:=Jj.out.on hy;have GG:=dL X8y (O U me) (J m1 m2 m3) (J m4 m5 m6) (J m7 m8 m9) (J m10 m11 m12) (J m13 m14 m15);have BL:=L (dG (b:=w.heap.size+1+1) (jm.out.trans (hy.mono jm.out.size)) (by omega) (O U me) (J m1 m2 m3) (J m4 m5 m6) (J m7 m8 m9) (J m10 m11 m12) (J m13 m14 m15));have HB:=L ((Bb.out.on hy).keep (s1:=(Y,0,0)) (s2:=(Y,0,0)) (s3:=(Y,0,0)) (s4:=(Y,0,0)) (s5:=(Y,0,0)) (me:=0) X8y bs);have HB2:=L (fun h=>pJ.xC (pJ.on (VH.out h) hy) bs X8y (by decide) (by decide) (by decide) (by decide) (by decide) (by decide));have HO:=L (hou.le jm.out.size);clear bs X8y hou hy;obtain⟨v0,v1,v2,v3,v4,v5⟩:=GG.fu;simp only [Exit.then]
  apply_assumption
  go_wp2_with fail;refine bodyPost_ret (v:=.tuple #[aI #[O U me,J m1 m2 m3,J m4 m5 m6,J m7 m8 m9,J m10 m11 m12,J m13 m14 m15],dX s]) (by simp [results,aP,go_sem,h6,h7,v0,v1,v2,v3,v4,v5]) hd ?_;rw [UE.out];simp only [if_true];exact⟨⟨(m1,m2,m3),(m4,m5,m6),(m7,m8,m9),(m10,m11,m12),(m13,m14,m15),s,lx,by rw [FM.out.1,ME.out],HB.out,HB2.out,HO.out⟩,BL.out⟩
theorem YW (oL bv:au) (p q:List C5) (w:aj) (ha:fH w oL p) (hb:fH w bv q) (hp:dZ p) (hq:dZ q) :
  aT aF 24 #[oL,bv] w fun e w'=>e=.returned (aN (jh p q))/\Below w.heap.size w w':=by
 obtain⟨a,na,rfl⟩:=hp;obtain⟨b,nb,rfl⟩:=hq;unfold jh;rw [pO,pO];exact La oL bv a b w ha hb na nb
structure JI (b0 b:Br) (k:Nat):Prop where
 at_:Lp b0 b k
 ok:jl b
 pe:∀ e∈b.ent,dZ e.p
theorem Bd {b:Br} (hok:jl b) (pe:∀ e∈b.ent,dZ e.p) (po:∀ o∈b.own,dZ o.p) (f:Int) (x:fD) (p:List C5) (o0:List Ou) (k:Nat) (hk:k<=b.own.length):JI b (eu b.own (iG f x p) (b,o0) k).1 k/\(eu b.own (iG f x p) (b,o0) k).2.length<=o0.length+k:=by
 obtain⟨h1,h2,h3⟩:=lH (l:=b.own) (b0:=b) (o0:=o0) (fun o=>jh o.p p) (fun o=>mD x o) (fun _=>f) (fun e=>dZ e.p) pe (fun a ha _=>po a ha) k hk;exact⟨⟨h1,rP jl hok (fun s o ho hs=>step_ok hs _ _ _ (nX _) (hok.Yo o ho)) k hk,h2⟩,h3⟩
theorem JI.few {b0 b:Br} {k:Nat} (h:JI b0 b k) (hf:PW b0) (hl:b0.ent.length+b0.own.length<=900) (hk:k<=b0.own.length):PW b:=⟨by rw [h.at_.near]; exact hf.near,by rw [h.at_.dQ]; exact hf.dQ,by rw [h.at_.seen]; exact hf.seen,by have:=h.at_.len; omega,by rw [h.at_.own]; exact hf.own⟩
theorem JI.uE {b0 b:Br} {k:Nat} (h:JI b0 b k) (hf:yP b0):yP b:=⟨by rw [h.at_.dQ]; exact hf.dQ,fun e he=>iF (h.pe e he),by rw [h.at_.own]; exact hf.own⟩
def yJ (b:Br) (a:Ad):Br×List Ou:=eu b.own (iG a.par a.id a.p) (b,[]) b.own.length
theorem Aa (b:Br) (s1:Option ak) (s2 s3:Nat) (s4:Option ak) (s5 s6:Nat) (s7:Option ak) (s8 s9:Nat) (s10:Option ak) (s11 s12:Nat) (s13:Option ak) (s14 s15:Nat) (x1 x2:Int) (pa:Option ak) (pb pd:Nat) (par:Int) (p:List C5) (w:aj) (h:pJ w b (s1,s2,s3) (s4,s5,s6) (s7,s8,s9) (s10,s11,s12) (s13,s14,s15)) (ha:fH w (J pa pb pd) p) (hf:PW b) (hfp:yP b) (l3:b.ent.length+b.own.length<=900) (hok:jl b) (pe:∀ e∈b.ent,dZ e.p) (po:∀ o∈b.own,dZ o.p) (pp:dZ p) :
  aT aF 36 #[aI #[O U b.me,J s1 s2 s3,J s4 s5 s6,J s7 s8 s9,J s10 s11 s12,J s13 s14 s15],aI #[O U x1,O U x2,J pa pb pd,O U par]] w fun e w'=>(∃ (nv av sv ev ov s:Sl) (lx:List mh),e=.returned (.tuple #[oK b.me nv av sv ev ov,dX s])/\pJ w' (yJ b ⟨(x1,x2),p,par⟩).1 nv av sv ev ov/\uQ w' w.heap.size (dX s) lx (yJ b ⟨(x1,x2),p,par⟩).2)/\Below w.heap.size w w':=by
 have HP:=L ha;have HF:=L hf;have FP:=L hfp;have L3:=L l3;have PP:=L pp;have PO:=L po;have FO:=L (Bd hok pe po par (x1,x2) p []);have JB:=L (show yJ b ⟨(x1,x2),p,par⟩=(eu b.own (iG par (x1,x2) p) (b,[]) b.own.length) from rfl);obtain⟨h0,h1,h2,h3⟩:=gJ w #[O U b.me,J s1 s2 s3,J s4 s5 s6,J s7 s8 s9,J s10 s11 s12,J s13 s14 s15] #[O U x1,O U x2,J pa pb pd,O U par] #[O U 0,J Y 0 0,J Y 0 0,J Y 0 0,J Y 0 0,J Y 0 0] 28 74 28;obtain⟨me,hme⟩:∃ me,me=b.me:=⟨_,rfl⟩;have ME:=L hme;simp only [<- hme] at h0 h1 h2 h3 ⊢;obtain⟨lw,ho1,ho2⟩:=h.br.own;have HOB:=L (h.on h0);have gB:=L (h0);have Lb:=L (h1);have Lc:=L (h2);have Ld:=L (h3);have ac0:=L (h.on h0);have ah3:=L (ha.on h0);obtain⟨n5,hn5⟩:∃ n,n=b.own.length:=⟨_,rfl⟩;have N5:=L hn5;have SO:=L (show s14=n5 from by
  obtain⟨_,_,hv⟩:=ho1.len;have h4:s14=lw.length:=by simpa using congrArg (fun v=>match v with | Value.slice _ n _=>n | _=>0) hv
  rw [hn5,h4,ho2.len])
 have N9:=L (show n5<=900 from by rw [hn5]; exact hf.own);rw [JB.out];clear h0 h1 h2 h3 h ha hf hfp l3 hok pe po pp ho1 ho2 lw hme hn5 HOB;have so:=SO.out;subst so;go_enter Tryz.func36,Tryz.ntmps36;go_upto_region 1 with fail;generalize (((w.alloc (aG #[O U me,J s1 s2 s3,J s4 s5 s6,J s7 s8 s9,J s10 s11 s12,J s13 s14 s15] 28)).alloc (aG #[O U x1,O U x2,J pa pb pd,O U par] 74)).alloc (aG #[O U 0,J Y 0 0,J Y 0 0,J Y 0 0,J Y 0 0,J Y 0 0] 28))=W at *;have WS:=L gB.out.size;have X4L:=L (show w.heap.size+1+1<W.heap.size from Ld.out.lt);obtain⟨c0,c1,c2,c3,c4,c5⟩:=Lb.out.fu;go_wp2_with fail;clear c0 c1 c2 c3 c4 c5
 go_loopw [6,14] (fun v i wr=>∃ (k:Nat) (m1:Option ak) (m2 m3:Nat) (m4:Option ak) (m5 m6:Nat) (m7:Option ak) (m8 m9:Nat) (m10:Option ak) (m11 m12:Nat) (m13:Option ak) (m14 m15:Nat) (lx:List mh),k<=s14/\i=O U k/\Below w.heap.size w wr/\dJ wr w.heap.size #[O U me,J m1 m2 m3,J m4 m5 m6,J m7 m8 m9,J m10 m11 m12,J m13 m14 m15] 28/\dJ wr (w.heap.size+1) #[O U x1,O U x2,J pa pb pd,O U par] 74/\dJ wr (w.heap.size+1+1) #[O U 0,J Y 0 0,J Y 0 0,J Y 0 0,J Y 0 0,J Y 0 0] 28/\pJ wr b (s1,s2,s3) (s4,s5,s6) (s7,s8,s9) (s10,s11,s12) (s13,s14,s15)/\pJ wr (eu b.own (iG par (x1,x2) p) (b,[]) k).1 (m1,m2,m3) (m4,m5,m6) (m7,m8,m9) (m10,m11,m12) (m13,m14,m15)/\uQ wr W.heap.size v lx (eu b.own (iG par (x1,x2) p) (b,[]) k).2/\W.heap.size<=wr.heap.size) (fun _ i _=>s14-(intOf i).toNat)
 case atStart=>exact⟨0,s1,s2,s3,s4,s5,s6,s7,s8,s9,s10,s11,s12,s13,s14,s15,[],aM _,rfl,gB.out,Lb.out,Lc.out,Ld.out,ac0.out,ac0.out,uQ.nil _ _,aJ _⟩
 case round =>
  clear gB Lb Lc Ld ac0 ah3;obtain⟨k,m1,m2,m3,m4,m5,m6,m7,m8,m9,m10,m11,m12,m13,m14,m15,lx,hk,rfl,hgb,hx2,hx3,hx4,hbc,hbm,hou,hws⟩:=hrel;have yD:=L (hgb);have VI:=L (hx2);have IE:=L (hx3);have sO:=L (hx4);have VJ:=L (hbc);have VL:=L (hbm);have NQ:=L (hou);have HW:=L hws;clear hgb hx2 hx3 hx4 hbc hbm hou hws;obtain⟨hji,hol⟩:=FO.out k (by rw [<- N5.out]; exact hk);have KI:=L hji;have OL:=L hol;clear hji hol;by_cases hlt:k<s14
  ·have hlt':(k:Int)<(s14:Int):=by omega
   have hw:IntKind.i64.wrap ((k:Int)+1)=(k:Int)+1:=IntWalk.i64_in _ (by have:=N9.out; omega);obtain⟨o,Fx⟩:∃ o,b.own[k]?=V o:=⟨_,aK (by rw [<- N5.out]; exact hlt)⟩;have US:=L (jF (iG par (x1,x2) p) (b,[]) Fx);have XC:=L (PO.out o (List.mem_of_getElem? Fx));obtain⟨lw,ho1,ho2⟩:=VJ.out.br.own;obtain⟨z,hz1,hz2⟩:=ho2.at k o Fx;obtain⟨pq,ix,px⟩:=elW ho1 rfl (by rw [ho2.len]; exact N5.out.symm) hz1;obtain⟨p0,p1,p2⟩:=px wr (aD _ _);obtain⟨y1,y2,⟨yo,yn,yc⟩⟩:=z;have ZI:=L (show o.id=(y1,y2) from hz2.1.symm);have PO_:=L (show fH wr (J yo yn yc) o.p from hz2.2);simp only at p0 p1 p2;clear px hz1 hz2 ho1 ho2 lw Fx;go_upto_region 5 with fail;clear p0 p1 p2 ix;have NN:=gu wr (aG #[O U y1,O U y2,J yo yn yc] 34);have wH:=L (yD.out.trans (NN.mono yD.out.size));have aaz:=L (VI.out.on NN);have sV:=L (IE.out.on NN);have aaA:=L (sO.out.on NN);have aaB:=L (VJ.out.on NN);have aaC:=L (VL.out.on NN);have aaD:=L (NQ.out.on NN);have Lv:=L (PO_.out.on NN);clear yD VI IE sO VJ VL NQ PO_;have NU:=L (dO wr #[O U y1,O U y2,J yo yn yc] 34);clear NN;have HW2:=L (show W.heap.size<=(wr.alloc (aG #[O U y1,O U y2,J yo yn yc] 34)).heap.size from by have:=HW.out; simp; omega);clear HW
   skip
   generalize hwa:wr.alloc (aG #[O U y1,O U y2,J yo yn yc] 34)=wa at *;have XOB:=L (show wr.heap.size<wa.heap.size from NU.out.lt);clear hwa;obtain⟨mt,hmt⟩:∃ r,jh o.p p=r:=⟨_,rfl⟩;have MT:=L (YW (J yo yn yc) (J pa pb pd) o.p p wa Lv.out (HP.out.on wH.out) XC.out PP.out);rw [hmt] at MT;have FY:=L (show (eu b.own (iG par (x1,x2) p) (b,[]) (k+1))=fO (eu b.own (iG par (x1,x2) p) (b,[]) k) mt (mD (x1,x2) o) par from by rw [<- hmt]; exact US.out);clear hmt US;obtain⟨z0,z1,z2⟩:=NU.out.cs3;obtain⟨a_0,a_1,a_2,a_3⟩:=sV.out.Cx;go_wp2_with fail;refine MT.out.mono ?_;rintro e4 wb ⟨rfl,hb⟩;clear MT;clear z0 z1 z2 a_0 a_1 a_2 a_3;have NV:=L (wH.out.trans (hb.mono wH.out.size));have VN:=L (aaz.out.on hb);have NY:=L (sV.out.on hb);have VP:=L (aaA.out.on hb);have VQ:=L (aaB.out.on hb);have VT:=L (aaC.out.on hb);have VU:=L (aaD.out.on hb);have VW:=L (Lv.out.on hb);have Jk:=L (NU.out.on hb);clear wH aaz sV aaA aaB aaC aaD Lv NU;have HW3:=L (aH HW2.out hb.size);clear hb HW2;cases mt
   ·have DX:=L (show (eu b.own (iG par (x1,x2) p) (b,[]) (k+1))=(eu b.own (iG par (x1,x2) p) (b,[]) k) from by rw [FY.out]; rfl);go_wp2_with fail
    go_roundw
    case rel=>exact⟨k+1,m1,m2,m3,m4,m5,m6,m7,m8,m9,m10,m11,m12,m13,m14,m15,lx,hlt,by go_num,NV.out,VN.out,NY.out,VP.out,VQ.out,by rw [DX.out]; exact VT.out,by rw [DX.out]; exact VU.out,HW3.out⟩
    case measure=>simp [intOf]; omega
   ·have z0:=Jk.out.cell 0;have z1:=Jk.out.cell 1;have z2:=Jk.out.cell 2;simp only [ay,aA,aB] at z0 z1 z2;obtain⟨a_0,a_1,a_2,a_3⟩:=NY.out.Cx;go_upto_region 8 with fail;clear z0 z1 z2 a_0 a_1 a_2 a_3;have NN:=gu wb (aG #[O U x1,O U x2,O U y1,O U y2,J yo yn yc,O U (-1),aN false] 66);have VX:=L (NV.out.trans (NN.mono NV.out.size));have tq:=L (VN.out.on NN);have aaE:=L (NY.out.on NN);have aaF:=L (VP.out.on NN);have aaG:=L (VQ.out.on NN);have VY:=L (VT.out.on NN);have aaH:=L (VU.out.on NN);have Lx:=L (VW.out.on NN);have aaI:=L (Jk.out.on NN);clear NV VN NY VP VQ VT VU VW Jk;have VZ:=L (dO wb #[O U x1,O U x2,O U y1,O U y2,J yo yn yc,O U (-1),aN false] 66);clear NN;generalize hwc:wb.alloc (aG #[O U x1,O U x2,O U y1,O U y2,J yo yn yc,O U (-1),aN false] 66)=wc at *;have HWC:=L (show W.heap.size<=wc.heap.size from by rw [<- hwc]; have:=HW3.out; simp; omega);clear hwc HW3;generalize wb.heap.size=bE at *;have AD:=L (Uq (eu b.own (iG par (x1,x2) p) (b,[]) k).1 (mD (x1,x2) o) (m1,m2,m3) (m4,m5,m6) (m7,m8,m9) (m10,m11,m12) (m13,m14,m15) (x1,x2,y1,y2,(yo,yn,yc),-1,false) wc VY.out.br ⟨rfl,ZI.out.symm,rfl,rfl,Lx.out⟩ (KI.out.few HF.out L3.out (by rw [<- N5.out]; exact hk)) (KI.out.uE FP.out) KI.out.ok.ent KI.out.pe XC.out);rw [KI.out.at_.me,<- ME.out] at AD;obtain⟨x0,x1,x2,x3,x4,x5⟩:=tq.out.fu;obtain⟨z0,z1,z2,z3,z4,z5,z6⟩:=VZ.out.oJ;go_wp2_with fail;refine AD.out.mono ?_;rintro e5 wd ⟨⟨⟨j1,j2,j3⟩,⟨j4,j5,j6⟩,⟨j7,j8,j9⟩,⟨j10,j11,j12⟩,⟨j13,j14,j15⟩,rfl,hr,hno,hx⟩,hb⟩;clear AD;clear x0 x1 x2 x3 x4 x5 z0 z1 z2 z3 z4 z5 z6;have BX:=L (hx (aO VY.out));clear hr hno hx;clear VY;have l7:=L (VX.out.trans (hb.mono VX.out.size));have uR:=L (tq.out.on hb);have yH:=L (aaE.out.on hb);have yI:=L (aaF.out.on hb);have Bf:=L (aaG.out.on hb);have aaJ:=L (aaH.out.on hb);have Wd:=L (Lx.out.on hb);have IZ:=L (aaI.out.on hb);have Wh:=L (VZ.out.on hb);clear VX tq aaE aaF aaG aaH Lx aaI VZ;have HWD:=L (aH HWC.out hb.size);clear hb HWC;obtain⟨up,hup⟩:∃ r,(gQ (eu b.own (iG par (x1,x2) p) (b,[]) k).1 (mD (x1,x2) o)).2=r:=⟨_,rfl⟩;rw [show (gQ (eu b.own (iG par (x1,x2) p) (b,[]) k).1 (mD (x1,x2) o)).1.me=me from by rw [(jq _ _).1,KI.out.at_.me,ME.out]];rw [hup];have DX:=L (show (eu b.own (iG par (x1,x2) p) (b,[]) (k+1))=((gQ (eu b.own (iG par (x1,x2) p) (b,[]) k).1 (mD (x1,x2) o)).1,if up=true then (eu b.own (iG par (x1,x2) p) (b,[]) k).2++[vG par (mD (x1,x2) o)] else (eu b.own (iG par (x1,x2) p) (b,[]) k).2) from by rw [FY.out]; unfold fO; rw [if_neg (by simp),hup]);clear hup FY;have NEB:=L (show bE≠w.heap.size from fun e=>by have h1:=Wh.out; have h2:=uR.out; unfold dJ at h1 h2; rw [e] at h1; rw [h1] at h2; injection h2 with h2; injection h2 with h2; simp at h2);have HWX:=L (show W.heap.size<=(gF wd w.heap.size (O U me) (J j1 j2 j3) (J j4 j5 j6) (J j7 j8 j9) (J j10 j11 j12) (J j13 j14 j15)).heap.size from by have:=HWD.out; simp [gF]; omega);clear HWD;clear IZ;obtain⟨k0,k1,k2,k3,k4,k5⟩:=uR.out.fu;obtain⟨oN,oO,oP,oQ,oU,oW⟩:=uR.out.kD;have zz:=uR.out.lt;have bs:=X wd w.heap.size (O U me) (J j1 j2 j3) (J j4 j5 j6) (J j7 j8 j9) (J j10 j11 j12) (J j13 j14 j15);have G0:=L (dG (b:=w.heap.size) l7.out (aJ _) (O U me) (J j1 j2 j3) (J j4 j5 j6) (J j7 j8 j9) (J j10 j11 j12) (J j13 j14 j15));have G1:=L (bs.box yH.out (by omega));have G2:=L (bs.box yI.out (by omega));have G3:=L (Bf.out.xC bs uR.out (by decide) (by decide) (by decide) (by decide) (by decide) (by decide));have G4:=L (BX.out.xC bs uR.out (by decide) (by decide) (by decide) (by decide) (by decide) (by decide));have G5:=L (aaJ.out.but bs uR.out (by decide) (by decide));have G6:=L (bs.box Wh.out NEB.out);have G7:=L (qQ (s1:=(m1,m2,m3)) (s2:=(m4,m5,m6)) (s3:=(m7,m8,m9)) (s4:=(m10,m11,m12)) (s5:=(m13,m14,m15)) uR.out bs Wd.out);have G8:=L (dL uR.out (O U me) (J j1 j2 j3) (J j4 j5 j6) (J j7 j8 j9) (J j10 j11 j12) (J j13 j14 j15));clear bs l7 yH yI Bf BX aaJ Wh Wd uR;go_upto_region 9 with fail;clear zz k0 k1 k2 k3 k4 k5 oN oO oP oQ oU oW;unfold gF at G0 G1 G2 G3 G4 G5 G6 G7 G8 HWX;generalize ((((((wd.setCell ⟨w.heap.size,0,Y⟩ (O U me)).setCell ⟨w.heap.size,1,Y⟩ (J j1 j2 j3)).setCell ⟨w.heap.size,2,Y⟩ (J j4 j5 j6)).setCell ⟨w.heap.size,3,Y⟩ (J j7 j8 j9)).setCell ⟨w.heap.size,4,Y⟩ (J j10 j11 j12)).setCell ⟨w.heap.size,5,Y⟩ (J j13 j14 j15))=we at *;have lX:=L (G0.out);have sW:=L (G1.out);have qI:=L (G2.out);have aaK:=L (G3.out);have aaL:=L (G4.out);have Wj:=L (G5.out);have afC:=L (G6.out);have ac1:=L (G7.out);have aaM:=L (G8.out);clear G0 G1 G2 G3 G4 G5 G6 G7 G8;cases up
    ·have US4:=L (show (eu b.own (iG par (x1,x2) p) (b,[]) (k+1))=((gQ (eu b.own (iG par (x1,x2) p) (b,[]) k).1 (mD (x1,x2) o)).1,(eu b.own (iG par (x1,x2) p) (b,[]) k).2) from by rw [DX.out]; simp);go_wp2_with fail
     go_roundw
     case rel=>exact⟨k+1,j1,j2,j3,j4,j5,j6,j7,j8,j9,j10,j11,j12,j13,j14,j15,lx,hlt,by go_num,lX.out,aaM.out,sW.out,qI.out,aaK.out,by rw [US4.out]; exact aaL.out,by rw [US4.out]; exact Wj.out,HWX.out⟩
     case measure=>simp [intOf]; omega
    ·have US4:=L (show (eu b.own (iG par (x1,x2) p) (b,[]) (k+1))=((gQ (eu b.own (iG par (x1,x2) p) (b,[]) k).1 (mD (x1,x2) o)).1,(eu b.own (iG par (x1,x2) p) (b,[]) k).2++[vG par (mD (x1,x2) o)]) from by rw [DX.out]; simp);go_upto_region 10 with fail;refine ah0 _ we (w.heap.size+1) bE W.heap.size x1 x2 pa pb pd par x1 x2 y1 y2 yo yn yc (-1) false o.p _ lx (eu b.own (iG par (x1,x2) p) (b,[]) k).2 _ _ _ _ _ _ _ _ _ _ _ _ _ _ _ _ _ _ _ _ _ _ _ _ _ _ _ _ _ _ _ _ _ _ _ _ _ _ _ _ _ _ _ _ _ _ sW.out afC.out Wj.out HWX.out (by rw [Wj.out.len]; have h1:=OL.out; have h2:=N9.out; simp at h1; omega) ac1.out (iF XC.out) ?_;intro x w6 s v38 v39 v40 v41 v42 v43 v44 v45 hou hbl hbx hmx _;have V0:=L (lX.out.trans (hbl.mono (aH (Nat.le_of_lt (show w.heap.size<W.heap.size from by have:=X4L.out; omega)) (aJ _))));have V1:=L (hbx _ _ _ (by decide) aaM.out);have V2:=L (hbx _ _ _ (by decide) sW.out);have V3:=L (hbx _ _ _ (by decide) qI.out);have V4:=L (hmx _ _ _ _ _ _ aaK.out);have V5:=L (hmx _ _ _ _ _ _ aaL.out);have V6:=L hou;have V7:=L (aH HWX.out hbl.size);clear hou hbl hbx hmx;go_wp2_with fail
     go_roundw
     case rel=>exact⟨k+1,j1,j2,j3,j4,j5,j6,j7,j8,j9,j10,j11,j12,j13,j14,j15,_,hlt,by go_num,V0.out,V1.out,V2.out,V3.out,V4.out,by rw [US4.out]; exact V5.out,by rw [US4.out,show vG par (mD (x1,x2) o)=⟨par,3,(x1,x2),(y1,y2),o.p⟩ from by unfold vG mD; rw [ZI.out]]; exact V6.out,V7.out⟩
     case measure=>simp [intOf]; omega
  ·obtain rfl:k=s14:=by omega
   have HJ:=L (show k=b.own.length from N5.out);obtain⟨x0,x1,x2,x3,x4,x5⟩:=VI.out.fu;obtain⟨r0,r1,r2,r3,r4,r5⟩:=sO.out.fu;obtain⟨wG,uD,yR,Ae,Af,Ag⟩:=sO.out.kD;have zz:=sO.out.lt;have bs:=X wr (w.heap.size+1+1) (O U me) (J m1 m2 m3) (J m4 m5 m6) (J m7 m8 m9) (J m10 m11 m12) (J m13 m14 m15);have GG:=L (dL sO.out (O U me) (J m1 m2 m3) (J m4 m5 m6) (J m7 m8 m9) (J m10 m11 m12) (J m13 m14 m15));have BL:=L (dG (b:=w.heap.size+1+1) yD.out (by omega) (O U me) (J m1 m2 m3) (J m4 m5 m6) (J m7 m8 m9) (J m10 m11 m12) (J m13 m14 m15));have HC:=L (VL.out.xC bs sO.out (by decide) (by decide) (by decide) (by decide) (by decide) (by decide));have HO:=L (NQ.out.but bs sO.out (by decide) (by decide));obtain⟨va,vc,hv⟩:=(Row.dH NQ.out.row).len;subst hv;clear bs;go_wp2_with fail;obtain⟨v0,v1,v2,v3,v4,v5⟩:=GG.out.fu;refine bodyPost_ret (v:=.tuple #[aI #[O U me,J m1 m2 m3,J m4 m5 m6,J m7 m8 m9,J m10 m11 m12,J m13 m14 m15],J va lx.length vc]) (by simp [results,Tryz.results36,go_sem,v0,v1,v2,v3,v4,v5]) rfl ?_;rw [<- HJ.out];exact⟨⟨(m1,m2,m3),(m4,m5,m6),(m7,m8,m9),(m10,m11,m12),(m13,m14,m15),(va,lx.length,vc),lx,by rw [ME.out],HC.out,HO.out.le (by have:=WS.out; omega)⟩,BL.out⟩
end Fl
end Go.Proofs.YtmklifheakemeaaGreat
