/-
  Rows of one's own of. Conditions as told.
-/
import Derived.Test.YtmklifheakemeaaGreatLQ040
import Derived.Test.YtmklifheakemeaaGreatLQ042
set_option maxRecDepth 100000
set_option maxHeartbeats 64000000
open _root_.Go renaming World->aj,Addr->ak,Value->au,Calls->aT
open Go.IntKind renaming i64->U
open Go.Lib renaming hid->L
open Go.Obj renaming cells->aG
open Go.Operand renaming tmp->ah
open Go.Proofs.Tryz renaming prog->aF,results10->aP,func28->aS
open Go.Proofs.YtmklifheakemeaaGreat.Av renaming fu->X
open Go.RowKit.Below renaming refl->aD
open Go.Value renaming slice->J,int->O,pointer->Z,agg->aI,bool->aN
open _root_.List renaming getElem?_toArray->ay,getElem?_cons_zero->aA,getElem?_cons_succ->aB,getElem?_eq_getElem->aK,map_toArray->aL,map_cons->aQ,map_nil->aR
open _root_.Nat renaming le_trans->aH,le_refl->aJ,zero_le->aM
open _root_.Option renaming some->V,none->Y
open _root_.Or renaming inr->aC,inl->aO
namespace Go.Proofs.YtmklifheakemeaaGreat
namespace Fl
open Go.RowKit Go.Sort Rw YtmklifheakemeaaGreat.Nm Pr Bk Av
def Sj (W:aj) (B:Nat) (x:mg) (o:Ou):Prop:=x.1=o.sO/\x.2.1=o.kind/\(x.2.2.1,x.2.2.2.1)=o.tree/\(x.2.2.2.2.1,x.2.2.2.2.2.1)=o.id/\gG W B (dO x.2.2.2.2.2.2.1) o.p/\x.2.2.2.2.2.2.2=(Y,0,0)
theorem Sj.ou {W:aj} {B:Nat} {x:mg} {o:Ou} (h:Sj W B x o):sP W x o:=⟨h.1,h.2.1,h.2.2.1,h.2.2.2.1,Row.dG h.2.2.2.2.1,h.2.2.2.2.2⟩
theorem Sj.le {W:aj} {B B':Nat} {x:mg} {o:Ou} (h:Sj W B x o) (hB:B'<=B):Sj W B' x o:=⟨h.1,h.2.1,h.2.2.1,h.2.2.2.1,dK h.2.2.2.2.1 hB,h.2.2.2.2.2⟩
structure ql (W:aj) (B:Nat) (v:au) (lx:List mg) (l:List Ou):Prop where
 row:vL W B v lx
 all:eZ (Sj W B) lx l
theorem ql.on {W W':aj} {B:Nat} {v:au} {lx:List mg} {l:List Ou} (h:ql W B v lx l) (hb:Below W.heap.size W W'):ql W' B v lx l:=⟨Bk.dJ h.row hb,h.all.mono fun _ _ q=>⟨q.1,q.2.1,q.2.2.1,q.2.2.2.1,Bk.dJ q.2.2.2.2.1 hb,q.2.2.2.2.2⟩⟩
theorem ql.le {W:aj} {B B':Nat} {v:au} {lx:List mg} {l:List Ou} (h:ql W B v lx l) (hB:B'<=B):ql W B' v lx l:=⟨dK h.row hB,h.all.mono fun _ _ q=>q.le hB⟩
theorem ql.nil (W:aj) (B:Nat):ql W B (J Y 0 0) [] []:=⟨jg _ _,.nil⟩
theorem ql.but {W W':aj} {B g:Nat} {v:au} {lx:List mg} {l:List Ou} {cs:Array au} {t:TypeId} (h:ql W B v lx l) (hk:But g W W') (hg:dI W g cs t) (h1:(43 == t)=false) (h2:(70 == t)=false):ql W' B v lx l:=⟨hk.own h.row hg h1,h.all.mono fun _ _ q=>⟨q.1,q.2.1,q.2.2.1,q.2.2.2.1,hk.own q.2.2.2.2.1 hg h2,q.2.2.2.2.2⟩⟩
theorem ql.outs {W:aj} {B:Nat} {s:Sl} {lx:List mg} {l:List Ou} (h:ql W B (dO s) lx l):iZ W s l:=⟨lx,Row.dG h.row,h.all.mono fun _ _ q=>q.ou⟩
theorem ql.len {W:aj} {B:Nat} {v:au} {lx:List mg} {l:List Ou} (h:ql W B v lx l):lx.length=l.length:=h.all.len
theorem ql.more {W W':aj} {B:Nat} {v v':au} {lx ly:List mg} {l m:List Ou} (h:ql W B v lx l) (gr:W.grownBy W' v.ownBlock) (ho:vL W' B v' (lx++ly)) (hx:eZ (Sj W B) ly m):ql W' B v' (lx++ly) (l++m) :=
 ⟨ho,eZ.append (h.all.mono fun _ _ q=>⟨q.1,q.2.1,q.2.2.1,q.2.2.2.1,uS h.row gr q.2.2.2.2.1 (by decide),q.2.2.2.2.2⟩) (hx.mono fun _ _ q=>⟨q.1,q.2.1,q.2.2.1,q.2.2.2.1,uS h.row gr q.2.2.2.2.1 (by decide),q.2.2.2.2.2⟩)⟩
theorem C8 {near:List Int} {f k:Int} {t x:fB} {p:List C5} {q:Nat} {y:Int} (h:near[q]?=V y):gJ (near.take (q+1)) f k t x p=gJ (near.take q) f k t x p++(if (y != f)=true then [⟨y,k,t,x,p⟩] else []):=by
 unfold gJ;rw [List.take_add_one,h,List.filter_append,List.map_append]
 congr 1
 simp only [Option.toList_some,List.filter_cons,List.filter_nil]
 split <;> rfl
theorem sV (near:List Int) (f k:Int) (t x:fB) (p:List C5):(gJ near f k t x p).length<=near.length:=by
 unfold gJ;rw [List.length_map];exact List.length_filter_le _ _
theorem sW (me but k tc ts ic nV:Int) (nv:Sl) (av sv ev ov:au) (pv:Sl) (p:List C5) (l:List Int) (w:aj) (hs:uW w (dO nv) l) (hlen:l.length<=900) (hp:eY w (dO pv) p) (hpl:p.length<=900) :
  aT aF 28 #[aI #[O U me,dO nv,av,sv,ev,ov],O U but,aI #[O U k,O U tc,O U ts,O U ic,O U nV,dO pv,J Y 0 0]] w fun e w'=>(∃ (v:Sl) (lx:List mg),e=.returned (dO v)/\ql w' w.heap.size (dO v) lx (gJ l but k (tc,ts) (ic,nV) p))/\Below w.heap.size w w':=by
 obtain⟨no,nn,nc⟩:=nv;obtain⟨po,pn,pc⟩:=pv;obtain⟨q1,q2,hq⟩:=hs.len;obtain⟨rfl,hnn,rfl⟩:no=q1/\nn=l.length/\nc=q2:=by
  have h:J no nn nc=J q1 l.length q2:=hq;simpa using h
 clear hq;obtain⟨h0,h1,h2⟩:=gT w #[O U me,J no nn nc,av,sv,ev,ov] #[O U k,O U tc,O U ts,O U ic,O U nV,J po pn pc,J Y 0 0] 28 41;have B0:=L h0;have X5:=L h2;have HS:=L (hs.on h0);have HP:=L (hp.on h0);have HPL:=L hpl;have HN:=L hnn;have c1:=h1.cell 1;simp only [ay,aA,aB] at c1;have nb:nn<=900:=by omega
 have W2:=L h2.lt;clear h0 h1 h2 hs hlen hnn hp hpl;show aT aF 28 #[aI #[O U me,J no nn nc,av,sv,ev,ov],O U but,aI #[O U k,O U tc,O U ts,O U ic,O U nV,J po pn pc,J Y 0 0]] w _;go_enter aS,Tryz.ntmps28;go_upto_region 1 with fail;generalize (w.alloc (aG #[O U me,J no nn nc,av,sv,ev,ov] 28)).alloc (aG #[O U k,O U tc,O U ts,O U ic,O U nV,J po pn pc,J Y 0 0] 41)=W at *;go_wp2
 go_loopw [7,13] (fun v i wr=>∃ (q:Nat) (lx:List mg),q<=nn/\i=O U q/\Below W.heap.size W wr/\ql wr W.heap.size v lx (gJ (l.take q) but k (tc,ts) (ic,nV) p)) (fun _ i _=>nn-(intOf i).toNat)
 case atStart=>exact⟨0,[],aM _,rfl,aD _ _,ql.nil _ _⟩
 case round =>
  obtain⟨q,lx,hq,rfl,hbe,hown⟩:=hrel;have BE:=L hbe;have OE:=L hown;clear hbe hown;by_cases hlt:q<nn
  ·obtain⟨y,hy⟩:∃ y,l[q]?=V y:=⟨_,aK (by rw [<- HN.out]; exact hlt)⟩;obtain⟨g,ix,_,px⟩:=nE Nm.Qh HS.out rfl HN.out.symm hy;have p0:wr.cell? g=V (O U y):=by simpa [Addr.add] using px wr BE.out 0 _ rfl
   have ix:∀ w,(Instr.indexAt 22 (J no nn nc) (O U q)).run aF w=.ok (Z (V g)) w:=ix;have FS:=L (C8 (f:=but) (k:=k) (t:=(tc,ts)) (x:=(ic,nV)) (p:=p) hy);have hw3:IntKind.i64.wrap ((q:Int)+1)=(q:Int)+1:=IntWalk.i64_in _ (by omega);obtain⟨r,hr⟩:∃ r,(y != but)=r:=⟨_,rfl⟩;rw [hr] at FS;clear px hy;cases r
   ·go_wp2
    go_roundw
    case rel=>exact⟨q+1,lx,by omega,by go_num,BE.out,by
     rw [FS.out];simpa using OE.out⟩
    case measure=>simp [intOf]; omega
   ·have x_:=X5.out.on BE.out;obtain⟨x0,x1,x2,x3,x4,x5,x6⟩:=x_.mE;have CM:=L (Vs k tc ts ic nV (po,pn,pc) p wr (HP.out.on BE.out) HPL.out);clear x_;go_wp2_with fail;refine CM.out.mono ?_;rintro e1 w1 ⟨⟨⟨s1,s2,s3⟩,rfl,hc⟩,hb⟩;clear x0 x1 x2 x3 x4 x5 x6 p0 CM;have NB:=L (gM w1 (aG #[O U y,O U k,O U tc,O U ts,O U ic,O U nV,J s1 s2 s3,J Y 0 0] 43));have hlit:=kK QF w1 [((y,k,tc,ts,ic,nV,(s1,s2,s3),(Y,0,0)):mg)] 1 rfl (by simp) #[O U y,O U k,O U tc,O U ts,O U ic,O U nV,J s1 s2 s3,J Y 0 0] rfl;have o2:=(OE.out.on hb).on NB.out;have hB:W.heap.size<=(w1.alloc (aG #[O U y,O U k,O U tc,O U ts,O U ic,O U nV,J s1 s2 s3,J Y 0 0] 43)).heap.size:=by have h1:=BE.out.size; have h2:=hb.size; simp; omega
    obtain⟨v',w',r',o',gr⟩:=ji QF W.heap.size o2.row (Row.dG hlit) (by
     rw [o2.len];have h1:=sV (l.take q) but k (tc,ts) (ic,nV) p;rw [List.length_take] at h1;omega) (by simp) hB 35
    have r':(Builtin.append_ #[35,35] 35 #[u7,J (V ⟨w1.heap.size,0,Y⟩) 1 1]).run aF (w1.alloc (aG #[O U y,O U k,O U tc,O U ts,O U ic,O U nV,J s1 s2 s3,J Y 0 0] 43))=.ok v' w':=by
     simpa [EU] using r'
    have BG:=L (((BE.out.trans (hb.mono BE.out.size)).trans (NB.out.mono (by have h1:=BE.out.size; have h2:=hb.size; omega))).grown gr hB fun j hj=>(o2.row.lt j hj).1);have OG:=L (o2.more gr o' (.cons (b:=⟨y,k,(tc,ts),(ic,nV),p⟩) ⟨rfl,rfl,rfl,rfl,dK (Bk.dJ hc NB.out) BE.out.size,rfl⟩ .nil));clear hlit o2 hB o' gr OE hb hc;go_wp2_with (first | (at_builtin; refine wpList_append_run rfl _ _ 35 rfl rfl rfl r' ?_) | fail)
    go_roundw
    case rel=>exact⟨q+1,_,by omega,by go_num,BG.out,by
     rw [FS.out];simpa using OG.out⟩
    case measure=>simp [intOf]; omega
  ·obtain rfl:nn=q:=by omega
   have e:l.take nn=l:=List.take_of_length_le (by have:=HN.out; omega);rw [e] at OE;obtain⟨vo1,vo2,hv⟩:=(Row.dG OE.out.row).len;subst hv;clear e;go_wp2;go_ret;exact⟨⟨(vo1,_,vo2),lx,rfl,OE.out.le (by have:=W2.out; omega)⟩,B0.out.trans (BE.out.mono B0.out.size)⟩
theorem lY.app {W W':aj} {B:Nat} {v:au} {l:List mg} {b:Br} {nv av sv ev ov:Sl} (ho:vL W B v l) (gr:W.grownBy W' v.ownBlock) (h:lY W b nv av sv ev ov):lY W' b nv av sv ev ov:=by
 rcases gq ho with⟨h1,_⟩|⟨g,c,cur,h1,_,h2,_⟩
 ·rw [h1] at gr;exact h.on ((aD _ _).grown gr (aJ _) (fun j hj=>by cases hj))
 ·rw [h1] at gr;exact h.sj (sK (b:=g) gr) h2 (by decide) (by decide) (by decide) (by decide) (by decide) (by decide)
def Ht (B:Nat) (b3 _b10 _n:Nat) (_x1 _x2:Int) (_pa:Option ak) (_pb _pd:Nat) (par:Int) (y1 y2 y3 y4:Int) (po:Option ak) (pn pc:Nat) (y6:Int) (y7:Bool) (p:List C5) (rv:au) (_lx:List mg) (_l:List Ou) (i:Nat) (v:au) (x:aj):Prop :=
 match i with
 | 0=>v=rv
 | 1=>v=Z (V ⟨b3,3,Y⟩)
 | 2=>v=O U par
 | 3=>v=aI #[O U y1,O U y2,O U y3,O U y4,J po pn pc,O U y6,aN y7]
 | 4=>∃ s:Sl,v=aI #[O U 3,O U y1,O U y2,O U y3,O U y4,dO s,J Y 0 0]/\gG x B (dO s) p
 | 5=>∃ s:Sl,v=AV (par,3,y1,y2,y3,y4,s,(Y,0,0))/\gG x B (dO s) p
 | 6=>∃ s:Sl,vL x B v [(par,3,y1,y2,y3,y4,s,(Y,0,0))]/\gG x B (dO s) p
 | _=>True
noncomputable def Sk:Code:=((Tryz.f36.body.bind (eT 10)).getD .skip)
theorem Ob (B:Nat) (b3 b10 n:Nat) (x1 x2:Int) (pa:Option ak) (pb pd:Nat) (par:Int) (y1 y2 y3 y4:Int) (po:Option ak) (pn pc:Nat) (y6:Int) (y7:Bool) (p:List C5) (rv:au) (lx:List mg) (l:List Ou) (i:Nat) (v:au) (x x':aj) (h:Ht B b3 b10 n x1 x2 pa pb pd par y1 y2 y3 y4 po pn pc y6 y7 p rv lx l i v x) (hb:Below x.heap.size x x'):Ht B b3 b10 n x1 x2 pa pb pd par y1 y2 y3 y4 po pn pc y6 y7 p rv lx l i v x':=by
 by_cases hi:i<7
 ·rcases (by omega:i=0\/i=1\/i=2\/i=3\/i=4\/i=5\/i=6) with rfl|rfl|rfl|rfl|rfl|rfl|rfl
  ·exact h
  ·exact h
  ·exact h
  ·exact h
  ·obtain⟨s,h1,h2⟩:=h; exact⟨s,h1,Bk.dJ h2 hb⟩
  ·obtain⟨s,h1,h2⟩:=h; exact⟨s,h1,Bk.dJ h2 hb⟩
  ·obtain⟨s,h1,h2⟩:=h; exact⟨s,Bk.dJ h1 hb,Bk.dJ h2 hb⟩
 ·unfold Ht
  split <;> first | omega | trivial
theorem abH (Q:Exit->Act->aj->Prop) (W:aj) (b3 b10 n:Nat) (x1 x2:Int) (pa:Option ak) (pb pd:Nat) (par:Int) (y1 y2 y3 y4:Int) (po:Option ak) (pn pc:Nat) (y6:Int) (y7:Bool) (p:List C5) (rv:au) (lx:List mg) (l:List Ou) (u0 u1 u2 u4 u5 u7 u8 u9 u11 u12 u13 u14 u15 u16 u17 u18 u19 u20 u21 u22 u23 u24 u25 u26 u27 u28 u29 u30 u31 u32 u33 u34 u35 u36 u37 u38 u39 u40 u41 u42 u43 u44 u45 u46 u47 u48:au)
  (x3:dI W b3 #[O U x1,O U x2,J pa pb pd,O U par] 74) (x10:dI W b10 #[O U y1,O U y2,O U y3,O U y4,J po pn pc,O U y6,aN y7] 66) (ar:ql W n rv lx l) (hn:n<=W.heap.size) (hl:lx.length<=900) (hp:eY W (J po pn pc) p) (lp:p.length<=900)
  (hQ:∀ (x:aj) (w6:au) (s:Sl) (v38 v39 v40 v41 v42 v43 v44 v45:au),ql x n w6 (lx++[(par,3,y1,y2,y3,y4,s,(Y,0,0))]) (l++[⟨par,3,(y1,y2),(y3,y4),p⟩])->Below n W x->(∀ (b:Nat) (cs:Array au) (t:TypeId),(t == 43)=false->dI W b cs t->dI x b cs t)->(∀ (b:Br) (nv av sv ev ov:Sl),lY W b nv av sv ev ov->lY x b nv av sv ev ov)->(∀ (B:Nat) (v:au) (p:List C5),gG W B v p->gG x B v p)->Q .normal ⟨(u0::u1::u2::Z (V ⟨b3,0,Y⟩)::u4::u5::w6::u7::u8::u9::Z (V ⟨b10,0,Y⟩)::u11::u12::u13::u14::u15::u16::u17::u18::u19::u20::u21::u22::u23::u24::u25::u26::u27::u28::u29::u30::u31::u32::u33::u34::u35::u36::u37::v38::v39::v40::v41::v42::v43::v44::v45::u46::u47::u48::[]).toArray,[]⟩ x) :
  Code.wp aF Sk Q ⟨(u0::u1::u2::Z (V ⟨b3,0,Y⟩)::u4::u5::rv::u7::u8::u9::Z (V ⟨b10,0,Y⟩)::u11::u12::u13::u14::u15::u16::u17::u18::u19::u20::u21::u22::u23::u24::u25::u26::u27::u28::u29::u30::u31::u32::u33::u34::u35::u36::u37::u38::u39::u40::u41::u42::u43::u44::u45::u46::u47::u48::[]).toArray,[]⟩ W:=by
 have HQ:=L hQ;have H3:=L x3;have H10:=L x10;have AR:=L ar;have HN:=L hn;have HL:=L hl;have HP:=L hp;have LP:=L lp;clear hQ x3 x10 ar hn hl hp lp;have jG:=Ob W.heap.size b3 b10 n x1 x2 pa pb pd par y1 y2 y3 y4 po pn pc y6 y7 p rv lx l;unfold Sk
 conv=>arg 2; whnf
 have nd:∀ j,(∀ i,i<7->[38,39,40,41,42,43,44].getD i 0≠j)->∀ i,i<7->(fun i=>[38,39,40,41,42,43,44].getD i 0) i≠j:=fun j h=>h;refine Rg.gN 9 7 (fun i=>[38,39,40,41,42,43,44].getD i 0) (fun _=>7) (Ht W.heap.size b3 b10 n x1 x2 pa pb pd par y1 y2 y3 y4 po pn pc y6 y7 p rv lx l) (by kernel_rfl) (by kernel_rfl) rfl (by decide) (fun i j hi hj h=>(by decide:∀ i,i<7->∀ j,j<7->[38,39,40,41,42,43,44].getD i 0=[38,39,40,41,42,43,44].getD j 0->i=j) i hi j hj h) (fun i hi=>(by decide:∀ i,i<7->[38,39,40,41,42,43,44].getD i 0<49) i hi) ?_ (fun _=>Rg.jN 14 (by kernel_rfl)) ?_ ?_
 ·intro i o hi ho a x D hnd hc hD hb seen K hK;clear HQ;rcases (by omega:i=0\/i=1\/i=2\/i=3\/i=4\/i=5\/i=6) with rfl|rfl|rfl|rfl|rfl|rfl|rfl
  ·cases ho;have e6:a.eval (ah 6)=rv:=seen.kp 6 _ (nd 6 (by decide)) rfl;exact Rg.dF rfl rfl (Rg.fM a.eval _ (ah 6) rfl x) (hK _ _ e6 (aD _ _) fun _ _ _ _ _ _ _ h=>h)
  ·cases ho;have e3:a.eval (ah 3)=Z (V ⟨b3,0,Y⟩):=seen.kp 3 _ (nd 3 (by decide)) rfl;exact Rg.dF rfl rfl (Rg.eP a.eval _ 74 (ah 3) 2 rfl (by rw [e3]; simp [go_sem])) (hK _ _ rfl (aD _ _) fun _ _ _ _ _ _ _ h=>h)
  ·cases ho;have e39:a.eval (ah 39)=Z (V ⟨b3,3,Y⟩):=seen.at_ ⟨1,.data⟩ (by simp) rfl (aC (by decide));have y3:=(H3.out.on hb).cell 3;simp only [ay,aA,aB] at y3;exact Rg.dF rfl rfl (Rg.eu a.eval _ 3 (ah 39) rfl (by rw [e39]; simp [go_sem,y3])) (hK _ _ rfl (aD _ _) fun _ _ _ _ _ _ _ h=>h)
  ·cases ho;have e10:a.eval (ah 10)=Z (V ⟨b10,0,Y⟩):=seen.kp 10 _ (nd 10 (by decide)) rfl;obtain⟨y0,y1,y2,y3,y4,y5,y6⟩:=(H10.out.on hb).mE;exact Rg.dF rfl rfl (Rg.eu a.eval _ 66 (ah 10) rfl (by rw [e10]; simp [go_sem,y0,y1,y2,y3,y4,y5,y6])) (hK _ _ rfl (aD _ _) fun _ _ _ _ _ _ _ h=>h)
  ·cases ho;have e41:a.eval (ah 41)=aI #[O U y1,O U y2,O U y3,O U y4,J po pn pc,O U y6,aN y7]:=seen.at_ ⟨3,.data⟩ (by simp) rfl (aC (by decide));exact Rg.fO rfl rfl (Rw.gu a.eval _ (ah 41) 66 95 rfl e41 rfl _ (fI Tryz.func95 rfl rfl _ _)) (JR (y1,y2,y3,y4,(po,pn,pc),y6,y7) p x (HP.out.on hb) LP.out) fun e w1 h=>by
    obtain⟨⟨s,rfl,q1⟩,q2⟩:=h;exact⟨_,rfl,hK _ _ ⟨s,rfl,dK q1 hb.size⟩ (q2.mono hb.size) fun j u _ _ _ _ _ h=>jG j u _ _ h q2⟩
  ·cases ho;have e40:a.eval (ah 40)=O U par:=seen.at_ ⟨2,.data⟩ (by simp) rfl (aC (by decide));have E42:=seen.at_ ⟨4,.data⟩ (by simp) rfl (aC (by decide));obtain⟨s,q0,q1⟩:=E42;have q0:a.eval (ah 42)=aI #[O U 3,O U y1,O U y2,O U y3,O U y4,dO s,J Y 0 0]:=q0;exact Rg.dF rfl rfl (Rg.mI a.eval _ 43 #[(0,ah 40),(1,ah 42)] rfl (ps:=#[(0,O U par),(1,aI #[O U 3,O U y1,O U y2,O U y3,O U y4,dO s,J Y 0 0])]) (by simp only [aL,aQ,aR,e40,q0]) (by simp [go_sem])) (hK _ _ ⟨s,rfl,q1⟩ (aD _ _) fun _ _ _ _ _ _ _ h=>h)
  ·cases ho;have E43:=seen.at_ ⟨5,.data⟩ (by simp) rfl (aC (by decide));obtain⟨s,q0,q1⟩:=E43;have q0:a.eval (ah 43)=AV (par,3,y1,y2,y3,y4,s,(Y,0,0)):=q0;have hl:=kK QF x [((par,3,y1,y2,y3,y4,s,(Y,0,0)):mg)] 1 rfl (by simp) (nK (par,3,y1,y2,y3,y4,s,(Y,0,0))).toArray (by simp [flat,EU]);have nb:=gM x (aG (nK (par,3,y1,y2,y3,y4,s,(Y,0,0))).toArray 43);exact Rg.dF rfl rfl (Rg.mH a.eval _ 35 1 #[(0,ah 43)] rfl (ps:=#[(0,AV (par,3,y1,y2,y3,y4,s,(Y,0,0)))]) (by simp [q0]) (by simp [go_sem])) (hK (J (V ⟨x.heap.size,0,Y⟩) 1 1) (x.alloc (aG (nK (par,3,y1,y2,y3,y4,s,(Y,0,0))).toArray 43)) ⟨s,dK hl hb.size,Bk.dJ q1 nb⟩ (nb.mono hb.size) fun j u _ _ _ _ _ h=>jG j u _ _ h nb)
 ·intro kk o h1 h2 ho;rcases (by omega:kk=8) with rfl
  ·cases ho;exact⟨⟨7,.data⟩,by simp,rfl,rfl⟩
 ·intro a w' df sz kp ⟨vs,hv⟩ hb;have sz':a.tmps.size=49:=sz;have g38:a.tmps[38]?=V (rv):=by
   have h:vs 0=rv:=(hv 0 (by omega)).2 (by decide);rw [<- h];exact (hv 0 (by omega)).1
  have g44:a.tmps[44]?=V (vs 6):=(hv 6 (by omega)).1;have G44:=(hv 6 (by omega)).2 (by decide);obtain⟨s,q1,q2⟩:=G44;have ar:=AR.out.on hb;generalize hq:vs 6=v6 at *;obtain⟨a1,c1,hv6⟩:=(Row.dG q1).len;obtain⟨v',x',r,o',gr⟩:=ji QF n ar.row (Row.dG q1) (by have:=HL.out; omega) (by simp) (aH HN.out hb.size) 35;show Rg.fP _ _ _ 2 7 a w';simp only [Rg.fP];refine Rg.dF rfl rfl (Rg.jB a.eval _ (ah 38) (ah 44) 35 rfl (Rg.dH g38) (Rg.dH g44) r) ?_;have e45:(a.put (V 45) v').eval (ah 45)=v':=Rg.dH (by simp [Act.put,sz']);refine Rg.dF rfl rfl (Rg.kD _ _ (ah 45) rfl x') ?_;show Q .normal ((a.put (V 45) v').put (V 6) ((a.put (V 45) v').eval (ah 45))) x';rw [e45];have hp:=ar.more gr o' (m:=[⟨par,3,(y1,y2),(y3,y4),p⟩]) (.cons (show Sj _ _ _ _ from ⟨rfl,rfl,rfl,rfl,dK q2 HN.out,rfl⟩) .nil);have hbt:Below n W x':=(hb.mono HN.out).grown gr (aH HN.out hb.size) (fun j hj=>(ar.row.lt j hj).1);have hbx:∀ (b:Nat) (cs:Array au) (t:TypeId),(t == 43)=false->dI W b cs t->dI x' b cs t:=fun b cs t hne h=>zU ar.row gr (h.on hb) hne;have hmx:∀ (b:Br) (nv av sv ev ov:Sl),lY W b nv av sv ev ov->lY x' b nv av sv ev ov:=fun b _ _ _ _ _ h=>lY.app ar.row gr (h.on hb);have hcx:∀ (B:Nat) (v:au) (p:List C5),gG W B v p->gG x' B v p:=fun _ _ _ h=>uS ar.row gr (Bk.dJ h hb) (by decide);show Q .normal ((a.put (V 45) v').put (V 6) v') x';have ka:∀ j,j≠45->j≠6->((a.put (V 45) v').put (V 6) v').tmps[j]?=a.tmps[j]?:=fun j h1 h2=>by rw [Rg.get_put _ _ _ _ (by omega),Rg.get_put _ _ _ _ (by omega)]
  have kt:((a.put (V 45) v').put (V 6) v').tmps[6]?=V (v'):=by simp [Act.put,sz']
  have pQ:∀ j,(j<38\/46<=j)->((a.put (V 45) v').put (V 6) v').tmps[j]?=(u0::u1::u2::Z (V ⟨b3,0,Y⟩)::u4::u5::v'::u7::u8::u9::Z (V ⟨b10,0,Y⟩)::u11::u12::u13::u14::u15::u16::u17::u18::u19::u20::u21::u22::u23::u24::u25::u26::u27::u28::u29::u30::u31::u32::u33::u34::u35::u36::u37::u38::u39::u40::u41::u42::u43::u44::u45::u46::u47::u48::[])[j]?:=fun j hj=>by
   by_cases hj2:j=6
   ·subst hj2;exact kt
   ·have hs:(u0::u1::u2::Z (V ⟨b3,0,Y⟩)::u4::u5::v'::u7::u8::u9::Z (V ⟨b10,0,Y⟩)::u11::u12::u13::u14::u15::u16::u17::u18::u19::u20::u21::u22::u23::u24::u25::u26::u27::u28::u29::u30::u31::u32::u33::u34::u35::u36::u37::u38::u39::u40::u41::u42::u43::u44::u45::u46::u47::u48::[]:List au)=(u0::u1::u2::Z (V ⟨b3,0,Y⟩)::u4::u5::rv::u7::u8::u9::Z (V ⟨b10,0,Y⟩)::u11::u12::u13::u14::u15::u16::u17::u18::u19::u20::u21::u22::u23::u24::u25::u26::u27::u28::u29::u30::u31::u32::u33::u34::u35::u36::u37::u38::u39::u40::u41::u42::u43::u44::u45::u46::u47::u48::[]).set 6 (v'):=rfl;rw [hs,List.getElem?_set_ne (Ne.symm hj2)];exact (ka j (by omega) hj2).trans ((kp j (nd j fun i hi h=>by have:=(by decide:∀ i,i<7->38<=[38,39,40,41,42,43,44].getD i 0/\[38,39,40,41,42,43,44].getD i 0<46) i hi; omega)).trans ay)
  obtain⟨mid,hmid,hfr⟩:=Rg.gF (a:=(a.put (V 45) v').put (V 6) v') 38 8 (by simp [Act.put,df]) (by simp [Act.put,sz']) (by simp) pQ;rw [hfr]
  match mid,hmid with
  | [v38,v39,v40,v41,v42,v43,v44,v45],_ =>
   exact HQ.out x' _ s _ _ _ _ _ _ _ _ hp hbt hbx hmx hcx
def abI (_B:Nat) (_b4 _b8:Nat) (me:Int) (s1:Option ak) (s2 s3:Nat) (s4:Option ak) (s5 s6:Nat) (s7:Option ak) (s8 s9:Nat) (s10:Option ak) (s11 s12:Nat) (s13:Option ak) (s14 s15:Nat) (rv uv v_:au) (_X1:aj) (i:Nat) (v:au) (_x:aj):Prop :=
 match i with
 | 0=>v=aI #[O U me,J s1 s2 s3,J s4 s5 s6,J s7 s8 s9,J s10 s11 s12,J s13 s14 s15]
 | 1=>v=rv
 | 2=>v=uv
 | 3=>v=v_
 | 4=>True
 | 5=>v=v_
 | _=>True
def Rq (W:aj) (_b4 b8:Nat) (me:Int) (s1:Option ak) (s2 s3:Nat) (s4:Option ak) (s5 s6:Nat) (s7:Option ak) (s8 s9:Nat) (s10:Option ak) (s11 s12:Nat) (s13:Option ak) (s14 s15:Nat) (_rv _uv _v_:au) (X1:aj) (D:Nat->Prop) (x:aj):Prop:=(¬ D 3->x=W.drew)/\(D 3->¬ D 4->x=X1)/\(D 4->x=iF X1 b8 (O U me) (J s1 s2 s3) (J s4 s5 s6) (J s7 s8 s9) (J s10 s11 s12) (J s13 s14 s15))
noncomputable def YV:Code:=((Tryz.f9.body.bind (eT 7)).getD .skip)
theorem ad7 (Q:Exit->Act->aj->Prop) (W:aj) (b4 b8:Nat) (me:Int) (s1:Option ak) (s2 s3:Nat) (s4:Option ak) (s5 s6:Nat) (s7:Option ak) (s8 s9:Nat) (s10:Option ak) (s11 s12:Nat) (s13:Option ak) (s14 s15:Nat) (rv uv v_:au) (X1:aj) (z0 z1 z2 z3 z4 z5:au) (u0 u1 u2 u3 u5 u6 u7 u9 u10 u11 u14 u15 u16 u17 u18 u19 u20 u21 u22 u23 u24 u25 u26 u27 u28 u29 u30 u31 u32 u33 u34 u35 u36 u37 u38 u39 u40 u41 u42:au)
  (h40:dI W b4 #[O U me,J s1 s2 s3,J s4 s5 s6,J s7 s8 s9,J s10 s11 s12,J s13 s14 s15] 28) (h41:dI X1 b4 #[O U me,J s1 s2 s3,J s4 s5 s6,J s7 s8 s9,J s10 s11 s12,J s13 s14 s15] 28) (h8:dI X1 b8 #[z0,z1,z2,z3,z4,z5] 28) (hne:b4≠b8) (hr:(Builtin.append_ #[35,35] 35 #[rv,uv]).run aF W.drew=.ok v_ X1)
  (hQ:∀ a:Act,a.defers=[]->a.tmps[8]?=V (Z (V ⟨b8,0,Y⟩))->a.tmps[9]?=V v_->Q .normal a (iF X1 b8 (O U me) (J s1 s2 s3) (J s4 s5 s6) (J s7 s8 s9) (J s10 s11 s12) (J s13 s14 s15))) :
  Code.wp aF YV Q ⟨(u0::u1::u2::u3::Z (V ⟨b4,0,Y⟩)::u5::u6::u7::Z (V ⟨b8,0,Y⟩)::u9::u10::u11::rv::uv::u14::u15::u16::u17::u18::u19::u20::u21::u22::u23::u24::u25::u26::u27::u28::u29::u30::u31::u32::u33::u34::u35::u36::u37::u38::u39::u40::u41::u42::[]).toArray,[]⟩ W:=by
 have HQ:=L hQ;have H40:=L h40;have H41:=L h41;have H8:=L h8;have NE:=L hne;have HR:=L hr;clear hQ h40 h41 h8 hne hr;have bx4:∀ D x,Rq W b4 b8 me s1 s2 s3 s4 s5 s6 s7 s8 s9 s10 s11 s12 s13 s14 s15 rv uv v_ X1 D x->dI x b4 #[O U me,J s1 s2 s3,J s4 s5 s6,J s7 s8 s9,J s10 s11 s12,J s13 s14 s15] 28:=fun D x hF=>by
  by_cases d4:D 4
  ·rw [hF.2.2 d4];exact (X X1 b8 (O U me) (J s1 s2 s3) (J s4 s5 s6) (J s7 s8 s9) (J s10 s11 s12) (J s13 s14 s15)).box H41.out NE.out
  ·by_cases d3:D 3
   ·rw [hF.2.1 d3 d4]; exact H41.out
   ·rw [hF.1 d3]; exact H40.out.on (aD _ _).drew
 unfold YV
 conv=>arg 2; whnf
 have nd:∀ j,(∀ i,i<6->[V 39,V 40,V 41,V 42,Y,V 9].getD i Y≠V j)->∀ i,i<6->(fun i=>[V 39,V 40,V 41,V 42,Y,V 9].getD i Y) i≠V j:=fun j h=>h;refine Rg.tC 6 (fun i=>[V 39,V 40,V 41,V 42,Y,V 9].getD i Y) (fun _=>6) (abI W.heap.size b4 b8 me s1 s2 s3 s4 s5 s6 s7 s8 s9 s10 s11 s12 s13 s14 s15 rv uv v_ X1) (Rq W b4 b8 me s1 s2 s3 s4 s5 s6 s7 s8 s9 s10 s11 s12 s13 s14 s15 rv uv v_ X1) (by kernel_rfl) (by kernel_rfl) rfl (fun i j e hi hj h1 h2=>(by decide:∀ i,i<6->∀ j,j<6->([V 39,V 40,V 41,V 42,Y,V 9].getD i Y).isSome=true->[V 39,V 40,V 41,V 42,Y,V 9].getD i Y=[V 39,V 40,V 41,V 42,Y,V 9].getD j Y->i=j) i hi j hj (by have h1:[V 39,V 40,V 41,V 42,Y,V 9].getD i Y=V e:=h1; rw [h1]; rfl) (h1.trans h2.symm)) (fun i e hi h=>(by decide:∀ i,i<6->∀ q∈[V 39,V 40,V 41,V 42,Y,V 9].getD i Y,q<43) i hi e h) (⟨fun _=>rfl,fun h=>h.elim,fun h=>h.elim⟩) ?_ ?_
 ·intro i o hi ho a x D hnd hc hD hF seen K hK;clear HQ;have still:∀ i,i≠3/\i≠4->Rq W b4 b8 me s1 s2 s3 s4 s5 s6 s7 s8 s9 s10 s11 s12 s13 s14 s15 rv uv v_ X1 (fun j=>j=i\/D j) x:=fun i hns=>⟨fun h=>hF.1 fun h2=>h (aC h2),fun h1 h2=>hF.2.1 (h1.resolve_left (Ne.symm hns.1)) fun h3=>h2 (aC h3),fun h=>hF.2.2 (h.resolve_left (Ne.symm hns.2))⟩;rcases (by omega:i=0\/i=1\/i=2\/i=3\/i=4\/i=5) with rfl|rfl|rfl|rfl|rfl|rfl
  ·cases ho;have e4:a.eval (ah 4)=Z (V ⟨b4,0,Y⟩):=seen.kp 4 _ (nd 4 (by decide)) rfl;obtain⟨y0,y1,y2,y3,y4,y5⟩:=(bx4 D x hF).gP;exact Rg.dF rfl rfl (Rg.eu a.eval _ 28 (ah 4) rfl (by rw [e4]; simp [go_sem,y0,y1,y2,y3,y4,y5])) (hK _ _ rfl (still 0 (by decide)) fun _ _ _ _ _ _ _ h=>h)
  ·cases ho;have e12:a.eval (ah 12)=rv:=seen.kp 12 _ (nd 12 (by decide)) rfl;exact Rg.dF rfl rfl (Rg.fM a.eval _ (ah 12) rfl x) (hK _ _ e12 (still 1 (by decide)) fun _ _ _ _ _ _ _ h=>h)
  ·cases ho;have e13:a.eval (ah 13)=uv:=seen.kp 13 _ (nd 13 (by decide)) rfl;exact Rg.dF rfl rfl (Rg.fM a.eval _ (ah 13) rfl x) (hK _ _ e13 (still 2 (by decide)) fun _ _ _ _ _ _ _ h=>h)
  ·cases ho;have e40:a.eval (ah 40)=rv:=seen.at_ ⟨1,.data⟩ (by simp) rfl (aC (by decide)) _ rfl;have e41:a.eval (ah 41)=uv:=seen.at_ ⟨2,.data⟩ (by simp) rfl (aC (by decide)) _ rfl;have n4:¬ D 4:=fun h=>hnd (hc 4 _ h rfl ⟨3,.chain⟩ (by simp) rfl);have hx:x=W.drew:=hF.1 hnd;exact Rg.dF rfl rfl (Rg.jB a.eval _ (ah 40) (ah 41) 35 rfl e40 e41 (w':=X1) (v':=v_) (by rw [hx]; exact HR.out)) (hK _ X1 rfl ⟨fun h=>absurd (aO rfl) h,fun _ _=>rfl,fun h=>absurd (h.resolve_left (by decide)) n4⟩ (fun j u hj dj nl nx ni h=>by
    rcases (by omega:j=0\/j=1\/j=2\/j=3\/j=4\/j=5) with rfl|rfl|rfl|rfl|rfl|rfl
    ·exact h
    ·exact h
    ·exact h
    ·exact h
    ·exact h
    ·exact h))
  ·cases ho;have e8:a.eval (ah 8)=Z (V ⟨b8,0,Y⟩):=seen.kp 8 _ (nd 8 (by decide)) rfl;have e39:a.eval (ah 39)=aI #[O U me,J s1 s2 s3,J s4 s5 s6,J s7 s8 s9,J s10 s11 s12,J s13 s14 s15]:=seen.at_ ⟨0,.data⟩ (by simp) rfl (aC (by decide)) _ rfl;have d3:D 3:=hD ⟨3,.chain⟩ (by simp) rfl;have hx:x=X1:=hF.2.1 d3 hnd;have hs:=nJ H8.out me s1 s4 s7 s10 s13 s2 s3 s5 s6 s8 s9 s11 s12 s14 s15;have ff:Rq W b4 b8 me s1 s2 s3 s4 s5 s6 s7 s8 s9 s10 s11 s12 s13 s14 s15 rv uv v_ X1 (fun j=>j=4\/D j) (iF X1 b8 (O U me) (J s1 s2 s3) (J s4 s5 s6) (J s7 s8 s9) (J s10 s11 s12) (J s13 s14 s15)):=⟨fun h=>absurd (aC d3) h,fun _ h=>absurd (aO rfl) h,fun _=>rfl⟩;generalize iF X1 b8 (O U me) (J s1 s2 s3) (J s4 s5 s6) (J s7 s8 s9) (J s10 s11 s12) (J s13 s14 s15)=x2 at *;subst hx;have q:=hK (aN true) x2 trivial ff (fun j u hj dj nl nx ni h=>by
    rcases (by omega:j=0\/j=1\/j=2\/j=3\/j=4\/j=5) with rfl|rfl|rfl|rfl|rfl|rfl
    ·exact h
    ·exact h
    ·exact h
    ·exact h
    ·exact h
    ·exact h)
   exact Rg.gB 28 (ah 8) (ah 39) rfl rfl rfl rfl e8 e39 hs q
  ·cases ho;have e42:a.eval (ah 42)=v_:=seen.at_ ⟨3,.data⟩ (by simp) rfl (aC (by decide)) _ rfl;exact Rg.dF rfl rfl (Rg.kD a.eval _ (ah 42) rfl x) (hK _ _ e42 (still 5 (by decide)) fun _ _ _ _ _ _ _ h=>h)
 ·intro a x df sz kp ⟨vs,hv⟩ ⟨D,hall,hF⟩;have g9:a.tmps[9]?=V v_:=by
   have h:vs 5=v_:=(hv 5 (by omega)).2 (by decide);rw [<- h];exact (hv 5 (by omega)).1 9 rfl
  rw [hF.2.2 (hall 4 (by omega))];exact HQ.out a df ((kp 8 (nd 8 (by decide))).trans rfl) g9
def abJ (_B:Nat) (_b3 _b5 _b6:Nat) (me:Int) (s1:Option ak) (s2 s3:Nat) (s4:Option ak) (s5 s6:Nat) (s7:Option ak) (s8 s9:Nat) (s10:Option ak) (s11 s12:Nat) (s13:Option ak) (s14 s15:Nat) (f c d:Int) (near:List Int) (i:Nat) (v:au) (x:aj):Prop :=
 match i with
 | 0=>v=aI #[O U me,J s1 s2 s3,J s4 s5 s6,J s7 s8 s9,J s10 s11 s12,J s13 s14 s15]
 | 1=>v=aI #[O U me,J s1 s2 s3,J s4 s5 s6,J s7 s8 s9,J s10 s11 s12,J s13 s14 s15]
 | 2=>v=O U f
 | 3=>v=aI #[O U c,O U d]
 | 4=>v=aI #[O U 2,O U c,O U d,O U 0,O U 0,J Y 0 0,J Y 0 0]
 | 5=>∃ (s:Sl) (lx:List mg),v=dO s/\ql x _B (dO s) lx (gJ near f 2 (c,d) (0,0) [])
 | 6=>True
 | 7=>∃ (s:Sl) (lx:List mg),v=dO s/\ql x _B (dO s) lx (gJ near f 2 (c,d) (0,0) [])
 | _=>True
def Oc (W:aj) (_b3 _b5 b6:Nat) (me:Int) (s1:Option ak) (s2 s3:Nat) (s4:Option ak) (s5 s6:Nat) (s7:Option ak) (s8 s9:Nat) (s10:Option ak) (s11 s12:Nat) (s13:Option ak) (s14 s15:Nat) (_f _c _d:Int) (_near:List Int) (D:Nat->Prop) (x:aj):Prop:=(¬ D 5->x=W.drew)/\(¬ D 6->Below W.heap.size W x)/\(D 6->∃ y,Below W.heap.size W y/\x=iF y b6 (O U me) (J s1 s2 s3) (J s4 s5 s6) (J s7 s8 s9) (J s10 s11 s12) (J s13 s14 s15))
noncomputable def YW:Code:=((Tryz.f10.body.bind (eT 4)).getD .skip)
theorem un4 (Q:Exit->Act->aj->Prop) (W:aj) (b3 b5 b6:Nat) (me:Int) (s1:Option ak) (s2 s3:Nat) (s4:Option ak) (s5 s6:Nat) (s7:Option ak) (s8 s9:Nat) (s10:Option ak) (s11 s12:Nat) (s13:Option ak) (s14 s15:Nat) (f c d:Int) (near:List Int) (z0 z1 z2 z3 z4 z5:au) (u0 u2 u4 u7 u8 u9 u10 u11 u12 u13 u14 u15 u16 u17 u18 u19 u20 u21 u22 u23 u24:au)
  (h3:dI W b3 #[O U me,J s1 s2 s3,J s4 s5 s6,J s7 s8 s9,J s10 s11 s12,J s13 s14 s15] 28) (h5:dI W b5 #[O U c,O U d] 31) (h6:dI W b6 #[z0,z1,z2,z3,z4,z5] 28) (n3:b3≠b6) (n5:b5≠b6) (hn:uW W (J s1 s2 s3) near) (hl:near.length<=900)
  (hQ:∀ (a:Act) (y:aj) (s:Sl) (lx:List mg),a.defers=[]->a.tmps[6]?=V (Z (V ⟨b6,0,Y⟩))->a.tmps[7]?=V (dO s)->Below W.heap.size W y->ql (iF y b6 (O U me) (J s1 s2 s3) (J s4 s5 s6) (J s7 s8 s9) (J s10 s11 s12) (J s13 s14 s15)) W.heap.size (dO s) lx (gJ near f 2 (c,d) (0,0) [])->Q .normal a (iF y b6 (O U me) (J s1 s2 s3) (J s4 s5 s6) (J s7 s8 s9) (J s10 s11 s12) (J s13 s14 s15))) :
  Code.wp aF YW Q ⟨(u0::O U f::u2::Z (V ⟨b3,0,Y⟩)::u4::Z (V ⟨b5,0,Y⟩)::Z (V ⟨b6,0,Y⟩)::u7::u8::u9::u10::u11::u12::u13::u14::u15::u16::u17::u18::u19::u20::u21::u22::u23::u24::[]).toArray,[]⟩ W:=by
 have HQ:=L hQ;have H3:=L h3;have H5:=L h5;have H6:=L h6;have N3:=L n3;have N5:=L n5;have HN:=L hn;have LN:=L hl;clear hQ h3 h5 h6 n3 n5 hn hl;have bx3:∀ D x,Oc W b3 b5 b6 me s1 s2 s3 s4 s5 s6 s7 s8 s9 s10 s11 s12 s13 s14 s15 f c d near D x->dI x b3 #[O U me,J s1 s2 s3,J s4 s5 s6,J s7 s8 s9,J s10 s11 s12,J s13 s14 s15] 28:=fun D x hF=>by
  by_cases d6:D 6
  ·obtain⟨y,hy,rfl⟩:=hF.2.2 d6;exact (X y b6 (O U me) (J s1 s2 s3) (J s4 s5 s6) (J s7 s8 s9) (J s10 s11 s12) (J s13 s14 s15)).box (H3.out.on hy) N3.out
  ·exact H3.out.on (hF.2.1 d6)
 have bx5:∀ D x,Oc W b3 b5 b6 me s1 s2 s3 s4 s5 s6 s7 s8 s9 s10 s11 s12 s13 s14 s15 f c d near D x->dI x b5 #[O U c,O U d] 31:=fun D x hF=>by
  by_cases d6:D 6
  ·obtain⟨y,hy,rfl⟩:=hF.2.2 d6;exact (X y b6 (O U me) (J s1 s2 s3) (J s4 s5 s6) (J s7 s8 s9) (J s10 s11 s12) (J s13 s14 s15)).box (H5.out.on hy) N5.out
  ·exact H5.out.on (hF.2.1 d6)
 unfold YW
 conv=>arg 2; whnf
 have nd:∀ j,(∀ i,i<8->[V 19,V 20,V 21,V 22,V 23,V 24,Y,V 7].getD i Y≠V j)->∀ i,i<8->(fun i=>[V 19,V 20,V 21,V 22,V 23,V 24,Y,V 7].getD i Y) i≠V j:=fun j h=>h;refine Rg.tC 8 (fun i=>[V 19,V 20,V 21,V 22,V 23,V 24,Y,V 7].getD i Y) (fun _=>8) (abJ W.heap.size b3 b5 b6 me s1 s2 s3 s4 s5 s6 s7 s8 s9 s10 s11 s12 s13 s14 s15 f c d near) (Oc W b3 b5 b6 me s1 s2 s3 s4 s5 s6 s7 s8 s9 s10 s11 s12 s13 s14 s15 f c d near) (by kernel_rfl) (by kernel_rfl) rfl (fun i j e hi hj h1 h2=>(by decide:∀ i,i<8->∀ j,j<8->([V 19,V 20,V 21,V 22,V 23,V 24,Y,V 7].getD i Y).isSome=true->[V 19,V 20,V 21,V 22,V 23,V 24,Y,V 7].getD i Y=[V 19,V 20,V 21,V 22,V 23,V 24,Y,V 7].getD j Y->i=j) i hi j hj (by have h1:[V 19,V 20,V 21,V 22,V 23,V 24,Y,V 7].getD i Y=V e:=h1; rw [h1]; rfl) (h1.trans h2.symm)) (fun i e hi h=>(by decide:∀ i,i<8->∀ q∈[V 19,V 20,V 21,V 22,V 23,V 24,Y,V 7].getD i Y,q<25) i hi e h) (⟨fun _=>rfl,fun _=>(aD _ _).drew,fun h=>h.elim⟩) ?_ ?_
 ·intro i o hi ho a x D hnd hc hD hF seen K hK;clear HQ;have still:∀ i,i≠5/\i≠6->Oc W b3 b5 b6 me s1 s2 s3 s4 s5 s6 s7 s8 s9 s10 s11 s12 s13 s14 s15 f c d near (fun j=>j=i\/D j) x:=fun i hns=>⟨fun h=>hF.1 fun h2=>h (aC h2),fun h=>hF.2.1 fun h2=>h (aC h2),fun h=>hF.2.2 (h.resolve_left (Ne.symm hns.2))⟩;rcases (by omega:i=0\/i=1\/i=2\/i=3\/i=4\/i=5\/i=6\/i=7) with rfl|rfl|rfl|rfl|rfl|rfl|rfl|rfl
  ·cases ho;have e3:a.eval (ah 3)=Z (V ⟨b3,0,Y⟩):=seen.kp 3 _ (nd 3 (by decide)) rfl;obtain⟨y0,y1,y2,y3,y4,y5⟩:=(bx3 D x hF).gP;exact Rg.dF rfl rfl (Rg.eu a.eval _ 28 (ah 3) rfl (by rw [e3]; simp [go_sem,y0,y1,y2,y3,y4,y5])) (hK _ _ rfl (still 0 (by decide)) fun _ _ _ _ _ _ _ h=>h)
  ·cases ho;have e3:a.eval (ah 3)=Z (V ⟨b3,0,Y⟩):=seen.kp 3 _ (nd 3 (by decide)) rfl;obtain⟨y0,y1,y2,y3,y4,y5⟩:=(bx3 D x hF).gP;exact Rg.dF rfl rfl (Rg.eu a.eval _ 28 (ah 3) rfl (by rw [e3]; simp [go_sem,y0,y1,y2,y3,y4,y5])) (hK _ _ rfl (still 1 (by decide)) fun _ _ _ _ _ _ _ h=>h)
  ·cases ho;have e1:a.eval (ah 1)=O U f:=seen.kp 1 _ (nd 1 (by decide)) rfl;exact Rg.dF rfl rfl (Rg.fM a.eval _ (ah 1) rfl x) (hK _ _ e1 (still 2 (by decide)) fun _ _ _ _ _ _ _ h=>h)
  ·cases ho;have e5:a.eval (ah 5)=Z (V ⟨b5,0,Y⟩):=seen.kp 5 _ (nd 5 (by decide)) rfl;obtain⟨y0,y1⟩:=(bx5 D x hF).cs2;exact Rg.dF rfl rfl (Rg.eu a.eval _ 31 (ah 5) rfl (by rw [e5]; simp [go_sem,y0,y1])) (hK _ _ rfl (still 3 (by decide)) fun _ _ _ _ _ _ _ h=>h)
  ·cases ho;have e22:a.eval (ah 22)=aI #[O U c,O U d]:=seen.at_ ⟨3,.data⟩ (by simp) rfl (aC (by decide)) _ rfl;exact Rg.dF rfl rfl (Rg.mI a.eval _ 41 #[(0,.const (O U 2)),(1,ah 22)] rfl (ps:=#[(0,O U 2),(1,aI #[O U c,O U d])]) (by simp only [aL,aQ,aR,e22]; rfl) (by simp [go_sem])) (hK _ _ rfl (still 4 (by decide)) fun _ _ _ _ _ _ _ h=>h)
  ·cases ho;have e20:a.eval (ah 20)=aI #[O U me,J s1 s2 s3,J s4 s5 s6,J s7 s8 s9,J s10 s11 s12,J s13 s14 s15]:=seen.at_ ⟨1,.data⟩ (by simp) rfl (aC (by decide)) _ rfl;have e21:a.eval (ah 21)=O U f:=seen.at_ ⟨2,.data⟩ (by simp) rfl (aC (by decide)) _ rfl;have e23:a.eval (ah 23)=aI #[O U 2,O U c,O U d,O U 0,O U 0,J Y 0 0,J Y 0 0]:=seen.at_ ⟨4,.data⟩ (by simp) rfl (aC (by decide)) _ rfl;have n6:¬ D 6:=fun h=>hnd (hc 6 _ h rfl ⟨5,.chain⟩ (by simp) rfl);have n7:¬ D 7:=fun h=>hnd (hc 7 _ h rfl ⟨5,.data⟩ (by simp) rfl);have hb:=hF.2.1 n6;exact Rg.fO rfl rfl (oZ a.eval _ (ah 20) (ah 21) (ah 23) 28 3 41 28 rfl e20 e21 e23 rfl _ (fI aS rfl rfl _ _)) (sW me f 2 c d 0 0 (s1,s2,s3) _ _ _ _ (Y,0,0) [] near x (HN.out.on hb) LN.out (kJ _) (aM _)) fun e w1 h=>by
    obtain⟨⟨s,lx,rfl,h1⟩,h3⟩:=h;exact⟨_,rfl,hK _ w1 ⟨s,lx,rfl,h1.le hb.size⟩ ⟨fun h=>absurd (aO rfl) h,fun _=>hb.trans (h3.mono hb.size),fun h=>absurd (h.resolve_left (by decide)) n6⟩ (fun j u hj dj nl nx ni h=>by
    rcases (by omega:j=0\/j=1\/j=2\/j=3\/j=4\/j=5\/j=6\/j=7) with rfl|rfl|rfl|rfl|rfl|rfl|rfl|rfl
    ·exact h
    ·exact h
    ·exact h
    ·exact h
    ·exact h
    ·exact absurd rfl ni
    ·exact h
    ·exact absurd dj n7)⟩
  ·cases ho;have e6:a.eval (ah 6)=Z (V ⟨b6,0,Y⟩):=seen.kp 6 _ (nd 6 (by decide)) rfl;have e19:a.eval (ah 19)=aI #[O U me,J s1 s2 s3,J s4 s5 s6,J s7 s8 s9,J s10 s11 s12,J s13 s14 s15]:=seen.at_ ⟨0,.data⟩ (by simp) rfl (aC (by decide)) _ rfl;have d5:D 5:=hD ⟨5,.chain⟩ (by simp) rfl;have hb:=hF.2.1 hnd;have n7:¬ D 7:=fun h=>hnd (hc 7 _ h rfl ⟨6,.chain⟩ (by simp) rfl);have hs:=nJ (H6.out.on hb) me s1 s4 s7 s10 s13 s2 s3 s5 s6 s8 s9 s11 s12 s14 s15;have ff:Oc W b3 b5 b6 me s1 s2 s3 s4 s5 s6 s7 s8 s9 s10 s11 s12 s13 s14 s15 f c d near (fun j=>j=6\/D j) (iF x b6 (O U me) (J s1 s2 s3) (J s4 s5 s6) (J s7 s8 s9) (J s10 s11 s12) (J s13 s14 s15)):=⟨fun h=>absurd (aC d5) h,fun h=>absurd (aO rfl) h,fun _=>⟨x,hb,rfl⟩⟩;have bs:=X x b6 (O U me) (J s1 s2 s3) (J s4 s5 s6) (J s7 s8 s9) (J s10 s11 s12) (J s13 s14 s15);have h6x:=H6.out.on hb;generalize iF x b6 (O U me) (J s1 s2 s3) (J s4 s5 s6) (J s7 s8 s9) (J s10 s11 s12) (J s13 s14 s15)=x2 at *;have q:=hK (aN true) x2 trivial ff (fun j u hj dj nl nx ni h=>by
    rcases (by omega:j=0\/j=1\/j=2\/j=3\/j=4\/j=5\/j=6\/j=7) with rfl|rfl|rfl|rfl|rfl|rfl|rfl|rfl
    ·exact h
    ·exact h
    ·exact h
    ·exact h
    ·exact h
    ·obtain⟨s,lx,h1,h2⟩:=h; exact⟨s,lx,h1,h2.but bs h6x (by decide) (by decide)⟩
    ·exact h
    ·exact absurd dj n7)
   exact Rg.gB 28 (ah 6) (ah 19) rfl rfl rfl rfl e6 e19 hs q
  ·cases ho;have E24:=seen.at_ ⟨5,.data⟩ (by simp) rfl (aC (by decide)) _ rfl;exact Rg.dF rfl rfl (Rg.kD a.eval _ (ah 24) rfl x) (hK _ _ E24 (still 7 (by decide)) fun _ _ _ _ _ _ _ h=>h)
 ·intro a x df sz kp ⟨vs,hv⟩ ⟨D,hall,hF⟩;obtain⟨s,lx,h1,h2⟩:=(hv 7 (by omega)).2 (by decide);have g7:a.tmps[7]?=V (dO s):=by
   rw [<- h1];exact (hv 7 (by omega)).1 7 rfl
  obtain⟨y,hy,rfl⟩:=hF.2.2 (hall 6 (by omega));exact HQ.out a y s lx df ((kp 6 (nd 6 (by decide))).trans rfl) g7 hy h2
end Fl
namespace Fl
open Go.RowKit Go.Sort Rw YtmklifheakemeaaGreat.Nm Pr Bk Av Rl Sb
def FlQ (W:aj) (P:Prop) (r:Br×List Ou) (e:Ending) (w':aj):Prop:=(∃ (nv av sv ev ov s:Sl) (lx:List mg),e=.returned (.tuple #[lN r.1.me nv av sv ev ov,dO s])/\mQ w' r.1 nv av sv ev ov/\(P->lY w' r.1 nv av sv ev ov)/\ql w' W.heap.size (dO s) lx r.2)/\Below W.heap.size W w'
theorem Kk (b:Br) (x:fB) (f:Int):(iD b x f).1.me=b.me/\(iD b x f).1.near=b.near:=by
 unfold iD
 split
 ·exact⟨rfl,rfl⟩
 ·split <;> exact⟨rfl,rfl⟩
theorem Od (b:Br) (s1:Option ak) (s2 s3:Nat) (s4:Option ak) (s5 s6:Nat) (s7:Option ak) (s8 s9:Nat) (s10:Option ak) (s11 s12:Nat) (s13:Option ak) (s14 s15:Nat) (f c d:Int) (w:aj) (h:mQ w b (s1,s2,s3) (s4,s5,s6) (s7,s8,s9) (s10,s11,s12) (s13,s14,s15)) (hf:Kn b) (hfp:uF b) (hr:qh b.dV) :
  aT aF 10 #[aI #[O U b.me,J s1 s2 s3,J s4 s5 s6,J s7 s8 s9,J s10 s11 s12,J s13 s14 s15],O U f,aI #[O U c,O U d]] w (FlQ w (lY w b (s1,s2,s3) (s4,s5,s6) (s7,s8,s9) (s10,s11,s12) (s13,s14,s15)) (vY b f (c,d))):=by
 obtain⟨h0,h1,h2,h3⟩:=je w #[O U b.me,J s1 s2 s3,J s4 s5 s6,J s7 s8 s9,J s10 s11 s12,J s13 s14 s15] #[O U c,O U d] #[O U 0,J Y 0 0,J Y 0 0,J Y 0 0,J Y 0 0,J Y 0 0] 28 31 28;have FG:=L (fun W hb=>EG b (c,d) f (s1,s2,s3) (s4,s5,s6) (s7,s8,s9) (s10,s11,s12) (s13,s14,s15) W (h.br.on (show Below w.heap.size w W from hb)) hf hfp);have NO:=L h.no;have LN:=L hf.near;have RC:=L (show ∀ W,Below w.heap.size w W->lY w b (s1,s2,s3) (s4,s5,s6) (s7,s8,s9) (s10,s11,s12) (s13,s14,s15)->lY W b (s1,s2,s3) (s4,s5,s6) (s7,s8,s9) (s10,s11,s12) (s13,s14,s15) from fun W hb hc=>hc.on hb);have UE:=L (show vY b f (c,d)=((iD b (c,d) f).1,if (iD b (c,d) f).2=true then gJ b.near f 2 (c,d) (0,0) [] else []) from by unfold vY; rw [Ez hr]);have FM:=L (Kk b (c,d) f);obtain⟨me,hme⟩:∃ me,me=b.me:=⟨_,rfl⟩;have ME:=L hme;simp only [<- hme] at h0 h1 h2 h3 FG ⊢;have jU:=L (h0);have Kl:=L (h1);have Fx:=L (h2);have Oe:=L (h3);clear h0 h1 h2 h3 h hf hfp hr hme;go_enter Tryz.func10,Tryz.ntmps10;go_upto_region 1 with fail;generalize (((w.alloc (aG #[O U me,J s1 s2 s3,J s4 s5 s6,J s7 s8 s9,J s10 s11 s12,J s13 s14 s15] 28)).alloc (aG #[O U c,O U d] 31)).alloc (aG #[O U 0,J Y 0 0,J Y 0 0,J Y 0 0,J Y 0 0,J Y 0 0] 28))=W at *;have SW:=L (FG.out W jU.out);clear FG;have WX:=L (RC.out W jU.out);have Ro:=L (NO.out.on jU.out);clear RC NO;obtain⟨x0,x1,x2,x3,x4,x5⟩:=Kl.out.gP;obtain⟨y0,y1⟩:=Fx.out.cs2;go_wp2_with fail;refine SW.out.mono ?_;rintro e1 w1 ⟨⟨⟨m1,m2,m3⟩,⟨m4,m5,m6⟩,⟨m7,m8,m9⟩,⟨m10,m11,m12⟩,⟨m13,m14,m15⟩,rfl,hbr,hno,hbc⟩,hb⟩;clear SW;clear x0 x1 x2 x3 x4 x5 y0 y1;have pW:=L (jU.out.trans (hb.mono jU.out.size));have wY:=L (Kl.out.on hb);have Og:=L (Fx.out.on hb);have Oh:=L (Oe.out.on hb);clear jU Kl Fx Oe;generalize hr:(iD b (c,d) f).2=r at *;have BN:=L (show mQ w1 (iD b (c,d) f).1 (m1,m2,m3) (m4,m5,m6) (m7,m8,m9) (m10,m11,m12) (m13,m14,m15) from ⟨hbr,hno Ro.out⟩);have YX:=L (show lY w b (s1,s2,s3) (s4,s5,s6) (s7,s8,s9) (s10,s11,s12) (s13,s14,s15)->lY w1 (iD b (c,d) f).1 (m1,m2,m3) (m4,m5,m6) (m7,m8,m9) (m10,m11,m12) (m13,m14,m15) from fun h=>hbc (aO (WX.out h)));clear hbr hno hbc hb hr WX Ro;rw [show (iD b (c,d) f).1.me=me from by rw [FM.out.1,ME.out]];obtain⟨k0,k1,k2,k3,k4,k5⟩:=wY.out.gP;obtain⟨NP,NQ,NR,NS,NU,NV⟩:=wY.out.pO;have zz:=wY.out.lt;have bs:=X w1 w.heap.size (O U me) (J m1 m2 m3) (J m4 m5 m6) (J m7 m8 m9) (J m10 m11 m12) (J m13 m14 m15);have G0:=L (dN (b:=w.heap.size) pW.out (aJ _) (O U me) (J m1 m2 m3) (J m4 m5 m6) (J m7 m8 m9) (J m10 m11 m12) (J m13 m14 m15));have G1:=L (bs.box Og.out (by omega));have G2:=L (bs.box Oh.out (by omega));have G3:=L (BN.out.keep (s1:=(s1,s2,s3)) (s2:=(s4,s5,s6)) (s3:=(s7,s8,s9)) (s4:=(s10,s11,s12)) (s5:=(s13,s14,s15)) (me:=me) wY.out bs);have G4:=L (fun h=>lY.sj (YX.out h) bs wY.out (by decide) (by decide) (by decide) (by decide) (by decide) (by decide));have G5:=L (dZ wY.out (O U me) (J m1 m2 m3) (J m4 m5 m6) (J m7 m8 m9) (J m10 m11 m12) (J m13 m14 m15));clear bs pW Og Oh BN YX wY;go_upto_region 2 with fail;clear zz k0 k1 k2 k3 k4 k5 NP NQ NR NS NU NV;unfold iF at G0 G1 G2 G3 G4 G5;generalize ((((((w1.setCell ⟨w.heap.size,0,Y⟩ (O U me)).setCell ⟨w.heap.size,1,Y⟩ (J m1 m2 m3)).setCell ⟨w.heap.size,2,Y⟩ (J m4 m5 m6)).setCell ⟨w.heap.size,3,Y⟩ (J m7 m8 m9)).setCell ⟨w.heap.size,4,Y⟩ (J m10 m11 m12)).setCell ⟨w.heap.size,5,Y⟩ (J m13 m14 m15))=w2 at *;have lJ:=L (G0.out);have pV:=L (G1.out);have C9:=L (G2.out);have zW:=L (G3.out);have Oi:=L (G4.out);have wZ:=L (G5.out);clear G0 G1 G2 G3 G4 G5;cases r
 ·have x0:=wZ.out.cell 0;have x1:=wZ.out.cell 1;have x2:=wZ.out.cell 2;have x3:=wZ.out.cell 3;have x4:=wZ.out.cell 4;have x5:=wZ.out.cell 5;simp only [ay,aA,aB] at x0 x1 x2 x3 x4 x5;obtain⟨r0,r1,r2,r3,r4,r5⟩:=C9.out.gP;obtain⟨N7,Fu,VY,YS,YT,YU⟩:=C9.out.pO;have zz:=C9.out.lt;have bs:=X w2 (w.heap.size+1+1) (O U me) (J m1 m2 m3) (J m4 m5 m6) (J m7 m8 m9) (J m10 m11 m12) (J m13 m14 m15);have GG:=L (dZ C9.out (O U me) (J m1 m2 m3) (J m4 m5 m6) (J m7 m8 m9) (J m10 m11 m12) (J m13 m14 m15));have BL:=L (dN (b:=w.heap.size+1+1) lJ.out (by omega) (O U me) (J m1 m2 m3) (J m4 m5 m6) (J m7 m8 m9) (J m10 m11 m12) (J m13 m14 m15));have HB:=L (zW.out.keep (s1:=(Y,0,0)) (s2:=(Y,0,0)) (s3:=(Y,0,0)) (s4:=(Y,0,0)) (s5:=(Y,0,0)) (me:=0) C9.out bs);have HB2:=L (fun h=>lY.sj (Oi.out h) bs C9.out (by decide) (by decide) (by decide) (by decide) (by decide) (by decide));clear bs;go_wp2_with fail;obtain⟨v0,v1,v2,v3,v4,v5⟩:=GG.out.gP;refine bodyPost_ret (v:=.tuple #[aI #[O U me,J m1 m2 m3,J m4 m5 m6,J m7 m8 m9,J m10 m11 m12,J m13 m14 m15],J Y 0 0]) (by simp [results,aP,go_sem,v0,v1,v2,v3,v4,v5]) rfl ?_;rw [UE.out,if_neg (by simp)];exact⟨⟨(m1,m2,m3),(m4,m5,m6),(m7,m8,m9),(m10,m11,m12),(m13,m14,m15),(Y,0,0),[],by rw [FM.out.1,ME.out],HB.out,HB2.out,ql.nil _ _⟩,BL.out⟩
 ·go_upto_region 4 with fail;have HN:=L (show uW w2 (J m1 m2 m3) b.near from by have h:=zW.out.br.near; rw [FM.out.2] at h; exact h);refine un4 _ w2 w.heap.size (w.heap.size+1) (w.heap.size+1+1) me m1 m2 m3 m4 m5 m6 m7 m8 m9 m10 m11 m12 m13 m14 m15 f c d b.near _ _ _ _ _ _ _ _ _ _ _ _ _ _ _ _ _ _ _ _ _ _ _ _ _ _ _ wZ.out pV.out C9.out (by omega) (by omega) HN.out LN.out ?_;intro a y s lx hd h6 h7 hy hou;have bs:=X y (w.heap.size+1+1) (O U me) (J m1 m2 m3) (J m4 m5 m6) (J m7 m8 m9) (J m10 m11 m12) (J m13 m14 m15);have X8y:=C9.out.on hy;have GG:=dZ X8y (O U me) (J m1 m2 m3) (J m4 m5 m6) (J m7 m8 m9) (J m10 m11 m12) (J m13 m14 m15);have BL:=L (dN (b:=w.heap.size+1+1) (lJ.out.trans (hy.mono lJ.out.size)) (by omega) (O U me) (J m1 m2 m3) (J m4 m5 m6) (J m7 m8 m9) (J m10 m11 m12) (J m13 m14 m15));have HB:=L ((zW.out.on hy).keep (s1:=(Y,0,0)) (s2:=(Y,0,0)) (s3:=(Y,0,0)) (s4:=(Y,0,0)) (s5:=(Y,0,0)) (me:=0) X8y bs);have HB2:=L (fun h=>lY.sj (lY.on (Oi.out h) hy) bs X8y (by decide) (by decide) (by decide) (by decide) (by decide) (by decide));have HO:=L (hou.le lJ.out.size);clear bs X8y hou hy;obtain⟨v0,v1,v2,v3,v4,v5⟩:=GG.gP;simp only [Exit.then]
  apply_assumption
  go_wp2_with fail;refine bodyPost_ret (v:=.tuple #[aI #[O U me,J m1 m2 m3,J m4 m5 m6,J m7 m8 m9,J m10 m11 m12,J m13 m14 m15],dO s]) (by simp [results,aP,go_sem,h6,h7,v0,v1,v2,v3,v4,v5]) hd ?_;rw [UE.out];simp only [if_true];exact⟨⟨(m1,m2,m3),(m4,m5,m6),(m7,m8,m9),(m10,m11,m12),(m13,m14,m15),s,lx,by rw [FM.out.1,ME.out],HB.out,HB2.out,HO.out⟩,BL.out⟩
theorem Hu (nA bv:au) (p q:List C5) (w:aj) (ha:eY w nA p) (hb:eY w bv q) (hp:dW p) (hq:dW q) :
  aT aF 24 #[nA,bv] w fun e w'=>e=.returned (aN (fJ p q))/\Below w.heap.size w w':=by
 obtain⟨a,na,rfl⟩:=hp;obtain⟨b,nb,rfl⟩:=hq;unfold fJ;rw [lZ,lZ];exact ER nA bv a b w ha hb na nb
structure JI (b0 b:Br) (k:Nat):Prop where
 at_:GY b0 b k
 ok:jE b
 pe:∀ e∈b.ent,dW e.p
theorem xg {b:Br} (hok:jE b) (pe:∀ e∈b.ent,dW e.p) (po:∀ o∈b.own,dW o.p) (f:Int) (x:fB) (p:List C5) (o0:List Ou) (k:Nat) (hk:k<=b.own.length):JI b (dU b.own (iV f x p) (b,o0) k).1 k/\(dU b.own (iV f x p) (b,o0) k).2.length<=o0.length+k:=by
 obtain⟨h1,h2,h3⟩:=kS (l:=b.own) (b0:=b) (o0:=o0) (fun o=>fJ o.p p) (fun o=>mV x o) (fun _=>f) (fun e=>dW e.p) pe (fun a ha _=>po a ha) k hk;exact⟨⟨h1,rM jE hok (fun s o ho hs=>step_ok hs _ _ _ (pJ _) (hok.WV o ho)) k hk,h2⟩,h3⟩
theorem JI.few {b0 b:Br} {k:Nat} (h:JI b0 b k) (hf:Kn b0) (hl:b0.ent.length+b0.own.length<=900) (hk:k<=b0.own.length):Kn b:=⟨by rw [h.at_.near]; exact hf.near,by rw [h.at_.dV]; exact hf.dV,by rw [h.at_.seen]; exact hf.seen,by have:=h.at_.len; omega,by rw [h.at_.own]; exact hf.own⟩
theorem JI.pX {b0 b:Br} {k:Nat} (h:JI b0 b k) (hf:uF b0):uF b:=⟨by rw [h.at_.dV]; exact hf.dV,fun e he=>iC (h.pe e he),by rw [h.at_.own]; exact hf.own⟩
def tO (b:Br) (a:Ad):Br×List Ou:=dU b.own (iV a.par a.id a.p) (b,[]) b.own.length
theorem vQ (b:Br) (s1:Option ak) (s2 s3:Nat) (s4:Option ak) (s5 s6:Nat) (s7:Option ak) (s8 s9:Nat) (s10:Option ak) (s11 s12:Nat) (s13:Option ak) (s14 s15:Nat) (x1 x2:Int) (pa:Option ak) (pb pd:Nat) (par:Int) (p:List C5) (w:aj) (h:lY w b (s1,s2,s3) (s4,s5,s6) (s7,s8,s9) (s10,s11,s12) (s13,s14,s15)) (ha:eY w (J pa pb pd) p) (hf:Kn b) (hfp:uF b) (l3:b.ent.length+b.own.length<=900) (hok:jE b) (pe:∀ e∈b.ent,dW e.p) (po:∀ o∈b.own,dW o.p) (pp:dW p) :
  aT aF 36 #[aI #[O U b.me,J s1 s2 s3,J s4 s5 s6,J s7 s8 s9,J s10 s11 s12,J s13 s14 s15],aI #[O U x1,O U x2,J pa pb pd,O U par]] w fun e w'=>(∃ (nv av sv ev ov s:Sl) (lx:List mg),e=.returned (.tuple #[lN b.me nv av sv ev ov,dO s])/\lY w' (tO b ⟨(x1,x2),p,par⟩).1 nv av sv ev ov/\ql w' w.heap.size (dO s) lx (tO b ⟨(x1,x2),p,par⟩).2)/\Below w.heap.size w w':=by
 have HP:=L ha;have HF:=L hf;have FP:=L hfp;have L3:=L l3;have PP:=L pp;have PO:=L po;have FO:=L (xg hok pe po par (x1,x2) p []);have JB:=L (show tO b ⟨(x1,x2),p,par⟩=(dU b.own (iV par (x1,x2) p) (b,[]) b.own.length) from rfl);obtain⟨h0,h1,h2,h3⟩:=je w #[O U b.me,J s1 s2 s3,J s4 s5 s6,J s7 s8 s9,J s10 s11 s12,J s13 s14 s15] #[O U x1,O U x2,J pa pb pd,O U par] #[O U 0,J Y 0 0,J Y 0 0,J Y 0 0,J Y 0 0,J Y 0 0] 28 74 28;obtain⟨me,hme⟩:∃ me,me=b.me:=⟨_,rfl⟩;have ME:=L hme;simp only [<- hme] at h0 h1 h2 h3 ⊢;obtain⟨lw,ho1,ho2⟩:=h.br.own;have HOB:=L (h.on h0);have jU:=L (h0);have Wd:=L (h1);have YZ:=L (h2);have Wh:=L (h3);have Wj:=L (h.on h0);have abK:=L (ha.on h0);obtain⟨n5,hn5⟩:∃ n,n=b.own.length:=⟨_,rfl⟩;have N5:=L hn5;have SO:=L (show s14=n5 from by
  obtain⟨_,_,hv⟩:=ho1.len;have h4:s14=lw.length:=by simpa using congrArg (fun v=>match v with | Value.slice _ n _=>n | _=>0) hv
  rw [hn5,h4,ho2.len])
 have N9:=L (show n5<=900 from by rw [hn5]; exact hf.own);rw [JB.out];clear h0 h1 h2 h3 h ha hf hfp l3 hok pe po pp ho1 ho2 lw hme hn5 HOB;have so:=SO.out;subst so;go_enter Tryz.func36,Tryz.ntmps36;go_upto_region 1 with fail;generalize (((w.alloc (aG #[O U me,J s1 s2 s3,J s4 s5 s6,J s7 s8 s9,J s10 s11 s12,J s13 s14 s15] 28)).alloc (aG #[O U x1,O U x2,J pa pb pd,O U par] 74)).alloc (aG #[O U 0,J Y 0 0,J Y 0 0,J Y 0 0,J Y 0 0,J Y 0 0] 28))=W at *;have WS:=L jU.out.size;have X4L:=L (show w.heap.size+1+1<W.heap.size from Wh.out.lt);obtain⟨c0,c1,c2,c3,c4,c5⟩:=Wd.out.gP;go_wp2_with fail;clear c0 c1 c2 c3 c4 c5
 go_loopw [6,14] (fun v i wr=>∃ (k:Nat) (m1:Option ak) (m2 m3:Nat) (m4:Option ak) (m5 m6:Nat) (m7:Option ak) (m8 m9:Nat) (m10:Option ak) (m11 m12:Nat) (m13:Option ak) (m14 m15:Nat) (lx:List mg),k<=s14/\i=O U k/\Below w.heap.size w wr/\dI wr w.heap.size #[O U me,J m1 m2 m3,J m4 m5 m6,J m7 m8 m9,J m10 m11 m12,J m13 m14 m15] 28/\dI wr (w.heap.size+1) #[O U x1,O U x2,J pa pb pd,O U par] 74/\dI wr (w.heap.size+1+1) #[O U 0,J Y 0 0,J Y 0 0,J Y 0 0,J Y 0 0,J Y 0 0] 28/\lY wr b (s1,s2,s3) (s4,s5,s6) (s7,s8,s9) (s10,s11,s12) (s13,s14,s15)/\lY wr (dU b.own (iV par (x1,x2) p) (b,[]) k).1 (m1,m2,m3) (m4,m5,m6) (m7,m8,m9) (m10,m11,m12) (m13,m14,m15)/\ql wr W.heap.size v lx (dU b.own (iV par (x1,x2) p) (b,[]) k).2/\W.heap.size<=wr.heap.size) (fun _ i _=>s14-(intOf i).toNat)
 case atStart=>exact⟨0,s1,s2,s3,s4,s5,s6,s7,s8,s9,s10,s11,s12,s13,s14,s15,[],aM _,rfl,jU.out,Wd.out,YZ.out,Wh.out,Wj.out,Wj.out,ql.nil _ _,aJ _⟩
 case round =>
  clear jU Wd YZ Wh Wj abK;obtain⟨k,m1,m2,m3,m4,m5,m6,m7,m8,m9,m10,m11,m12,m13,m14,m15,lx,hk,rfl,hgb,hx2,hx3,hx4,hbc,hbm,hou,hws⟩:=hrel;have Hw:=L (hgb);have Oj:=L (hx2);have Sm:=L (hx3);have tQ:=L (hx4);have Ol:=L (hbc);have Om:=L (hbm);have Hy:=L (hou);have HW:=L hws;clear hgb hx2 hx3 hx4 hbc hbm hou hws;obtain⟨hji,hol⟩:=FO.out k (by rw [<- N5.out]; exact hk);have KI:=L hji;have OL:=L hol;clear hji hol;by_cases hlt:k<s14
  ·have hlt':(k:Int)<(s14:Int):=by omega
   have hw:IntKind.i64.wrap ((k:Int)+1)=(k:Int)+1:=IntWalk.i64_in _ (by have:=N9.out; omega);obtain⟨o,Rs⟩:∃ o,b.own[k]?=V o:=⟨_,aK (by rw [<- N5.out]; exact hlt)⟩;have US:=L (jy (iV par (x1,x2) p) (b,[]) Rs);have VX:=L (PO.out o (List.mem_of_getElem? Rs));obtain⟨lw,ho1,ho2⟩:=Ol.out.br.own;obtain⟨z,hz1,hz2⟩:=ho2.at k o Rs;obtain⟨pq,ix,px⟩:=elW ho1 rfl (by rw [ho2.len]; exact N5.out.symm) hz1;obtain⟨p0,p1,p2⟩:=px wr (aD _ _);obtain⟨y1,y2,⟨yo,yn,yc⟩⟩:=z;have ZI:=L (show o.id=(y1,y2) from hz2.1.symm);have PO_:=L (show eY wr (J yo yn yc) o.p from hz2.2);simp only at p0 p1 p2;clear px hz1 hz2 ho1 ho2 lw Rs;go_upto_region 5 with fail;clear p0 p1 p2 ix;have NN:=gM wr (aG #[O U y1,O U y2,J yo yn yc] 34);have tT:=L (Hw.out.trans (NN.mono Hw.out.size));have Sn:=L (Oj.out.on NN);have oH:=L (Sm.out.on NN);have Sq:=L (tQ.out.on NN);have Da:=L (Ol.out.on NN);have Sr:=L (Om.out.on NN);have Sv:=L (Hy.out.on NN);have Fy:=L (PO_.out.on NN);clear Hw Oj Sm tQ Ol Om Hy PO_;have Hz:=L (dL wr #[O U y1,O U y2,J yo yn yc] 34);clear NN;have HW2:=L (show W.heap.size<=(wr.alloc (aG #[O U y1,O U y2,J yo yn yc] 34)).heap.size from by have:=HW.out; simp; omega);clear HW
   skip
   generalize hwa:wr.alloc (aG #[O U y1,O U y2,J yo yn yc] 34)=wa at *;have XOB:=L (show wr.heap.size<wa.heap.size from Hz.out.lt);clear hwa;obtain⟨mt,hmt⟩:∃ r,fJ o.p p=r:=⟨_,rfl⟩;have MT:=L (Hu (J yo yn yc) (J pa pb pd) o.p p wa Fy.out (HP.out.on tT.out) VX.out PP.out);rw [hmt] at MT;have Ke:=L (show (dU b.own (iV par (x1,x2) p) (b,[]) (k+1))=fK (dU b.own (iV par (x1,x2) p) (b,[]) k) mt (mV (x1,x2) o) par from by rw [<- hmt]; exact US.out);clear hmt US;obtain⟨z0,z1,z2⟩:=Hz.out.cs3;obtain⟨a_0,a_1,a_2,a_3⟩:=oH.out.zZ;go_wp2_with fail;refine MT.out.mono ?_;rintro e4 wb ⟨rfl,hb⟩;clear MT;clear z0 z1 z2 a_0 a_1 a_2 a_3;have oL:=L (tT.out.trans (hb.mono tT.out.size));have Oo:=L (Sn.out.on hb);have H7:=L (oH.out.on hb);have Oq:=L (Sq.out.on hb);have tV:=L (Da.out.on hb);have Ot:=L (Sr.out.on hb);have Ov:=L (Sv.out.on hb);have Ox:=L (Fy.out.on hb);have Db:=L (Hz.out.on hb);clear tT Sn oH Sq Da Sr Sv Fy Hz;have HW3:=L (aH HW2.out hb.size);clear hb HW2;cases mt
   ·have Fq:=L (show (dU b.own (iV par (x1,x2) p) (b,[]) (k+1))=(dU b.own (iV par (x1,x2) p) (b,[]) k) from by rw [Ke.out]; rfl);go_wp2_with fail
    go_roundw
    case rel=>exact⟨k+1,m1,m2,m3,m4,m5,m6,m7,m8,m9,m10,m11,m12,m13,m14,m15,lx,hlt,by go_num,oL.out,Oo.out,H7.out,Oq.out,tV.out,by rw [Fq.out]; exact Ot.out,by rw [Fq.out]; exact Ov.out,HW3.out⟩
    case measure=>simp [intOf]; omega
   ·have z0:=Db.out.cell 0;have z1:=Db.out.cell 1;have z2:=Db.out.cell 2;simp only [ay,aA,aB] at z0 z1 z2;obtain⟨a_0,a_1,a_2,a_3⟩:=H7.out.zZ;go_upto_region 8 with fail;clear z0 z1 z2 a_0 a_1 a_2 a_3;have NN:=gM wb (aG #[O U x1,O U x2,O U y1,O U y2,J yo yn yc,O U (-1),aN false] 66);have lM:=L (oL.out.trans (NN.mono oL.out.size));have Oy:=L (Oo.out.on NN);have Sw:=L (H7.out.on NN);have Sy:=L (Oq.out.on NN);have l6:=L (tV.out.on NN);have Oz:=L (Ot.out.on NN);have Sz:=L (Ov.out.on NN);have Fz:=L (Ox.out.on NN);have SA:=L (Db.out.on NN);clear oL Oo H7 Oq tV Ot Ov Ox Db;have OD:=L (dL wb #[O U x1,O U x2,O U y1,O U y2,J yo yn yc,O U (-1),aN false] 66);clear NN;generalize hwc:wb.alloc (aG #[O U x1,O U x2,O U y1,O U y2,J yo yn yc,O U (-1),aN false] 66)=wc at *;have HWC:=L (show W.heap.size<=wc.heap.size from by rw [<- hwc]; have:=HW3.out; simp; omega);clear hwc HW3;generalize wb.heap.size=bE at *;have AD:=L (NG (dU b.own (iV par (x1,x2) p) (b,[]) k).1 (mV (x1,x2) o) (m1,m2,m3) (m4,m5,m6) (m7,m8,m9) (m10,m11,m12) (m13,m14,m15) (x1,x2,y1,y2,(yo,yn,yc),-1,false) wc Oz.out.br ⟨rfl,ZI.out.symm,rfl,rfl,Fz.out⟩ (KI.out.few HF.out L3.out (by rw [<- N5.out]; exact hk)) (KI.out.pX FP.out) KI.out.ok.ent KI.out.pe VX.out);rw [KI.out.at_.me,<- ME.out] at AD;obtain⟨x0,x1,x2,x3,x4,x5⟩:=Oy.out.gP;obtain⟨z0,z1,z2,z3,z4,z5,z6⟩:=OD.out.mE;go_wp2_with fail;refine AD.out.mono ?_;rintro e5 wd ⟨⟨⟨j1,j2,j3⟩,⟨j4,j5,j6⟩,⟨j7,j8,j9⟩,⟨j10,j11,j12⟩,⟨j13,j14,j15⟩,rfl,hr,hno,hx⟩,hb⟩;clear AD;clear x0 x1 x2 x3 x4 x5 z0 z1 z2 z3 z4 z5 z6;have BX:=L (hx (aO Oz.out));clear hr hno hx;clear Oz;have kW:=L (lM.out.trans (hb.mono lM.out.size));have qm:=L (Oy.out.on hb);have tK:=L (Sw.out.on hb);have tL:=L (Sy.out.on hb);have Dc:=L (l6.out.on hb);have SB:=L (Sz.out.on hb);have OH:=L (Fz.out.on hb);have Y0:=L (SA.out.on hb);have xq:=L (OD.out.on hb);clear lM Oy Sw Sy l6 Sz Fz SA OD;have HWD:=L (aH HWC.out hb.size);clear hb HWC;obtain⟨up,hup⟩:∃ r,(iB (dU b.own (iV par (x1,x2) p) (b,[]) k).1 (mV (x1,x2) o)).2=r:=⟨_,rfl⟩;rw [show (iB (dU b.own (iV par (x1,x2) p) (b,[]) k).1 (mV (x1,x2) o)).1.me=me from by rw [(yU _ _).1,KI.out.at_.me,ME.out]];rw [hup];have Fq:=L (show (dU b.own (iV par (x1,x2) p) (b,[]) (k+1))=((iB (dU b.own (iV par (x1,x2) p) (b,[]) k).1 (mV (x1,x2) o)).1,if up=true then (dU b.own (iV par (x1,x2) p) (b,[]) k).2++[BP par (mV (x1,x2) o)] else (dU b.own (iV par (x1,x2) p) (b,[]) k).2) from by rw [Ke.out]; unfold fK; rw [if_neg (by simp),hup]);clear hup Ke;have YQ:=L (show bE≠w.heap.size from fun e=>by have h1:=xq.out; have h2:=qm.out; unfold dI at h1 h2; rw [e] at h1; rw [h1] at h2; injection h2 with h2; injection h2 with h2; simp at h2);have HWX:=L (show W.heap.size<=(iF wd w.heap.size (O U me) (J j1 j2 j3) (J j4 j5 j6) (J j7 j8 j9) (J j10 j11 j12) (J j13 j14 j15)).heap.size from by have:=HWD.out; simp [iF]; omega);clear HWD;clear Y0;obtain⟨k0,k1,k2,k3,k4,k5⟩:=qm.out.gP;obtain⟨NP,NQ,NR,NS,NU,NV⟩:=qm.out.pO;have zz:=qm.out.lt;have bs:=X wd w.heap.size (O U me) (J j1 j2 j3) (J j4 j5 j6) (J j7 j8 j9) (J j10 j11 j12) (J j13 j14 j15);have G0:=L (dN (b:=w.heap.size) kW.out (aJ _) (O U me) (J j1 j2 j3) (J j4 j5 j6) (J j7 j8 j9) (J j10 j11 j12) (J j13 j14 j15));have G1:=L (bs.box tK.out (by omega));have G2:=L (bs.box tL.out (by omega));have G3:=L (Dc.out.sj bs qm.out (by decide) (by decide) (by decide) (by decide) (by decide) (by decide));have G4:=L (BX.out.sj bs qm.out (by decide) (by decide) (by decide) (by decide) (by decide) (by decide));have G5:=L (SB.out.but bs qm.out (by decide) (by decide));have G6:=L (bs.box xq.out YQ.out);have G7:=L (qY (s1:=(m1,m2,m3)) (s2:=(m4,m5,m6)) (s3:=(m7,m8,m9)) (s4:=(m10,m11,m12)) (s5:=(m13,m14,m15)) qm.out bs OH.out);have G8:=L (dZ qm.out (O U me) (J j1 j2 j3) (J j4 j5 j6) (J j7 j8 j9) (J j10 j11 j12) (J j13 j14 j15));clear bs kW tK tL Dc BX SB xq OH qm;go_upto_region 9 with fail;clear zz k0 k1 k2 k3 k4 k5 NP NQ NR NS NU NV;unfold iF at G0 G1 G2 G3 G4 G5 G6 G7 G8 HWX;generalize ((((((wd.setCell ⟨w.heap.size,0,Y⟩ (O U me)).setCell ⟨w.heap.size,1,Y⟩ (J j1 j2 j3)).setCell ⟨w.heap.size,2,Y⟩ (J j4 j5 j6)).setCell ⟨w.heap.size,3,Y⟩ (J j7 j8 j9)).setCell ⟨w.heap.size,4,Y⟩ (J j10 j11 j12)).setCell ⟨w.heap.size,5,Y⟩ (J j13 j14 j15))=we at *;have nQ:=L (G0.out);have oI:=L (G1.out);have tN:=L (G2.out);have SC:=L (G3.out);have SE:=L (G4.out);have OJ:=L (G5.out);have Y8:=L (G6.out);have Wm:=L (G7.out);have SF:=L (G8.out);clear G0 G1 G2 G3 G4 G5 G6 G7 G8;cases up
    ·have Y9:=L (show (dU b.own (iV par (x1,x2) p) (b,[]) (k+1))=((iB (dU b.own (iV par (x1,x2) p) (b,[]) k).1 (mV (x1,x2) o)).1,(dU b.own (iV par (x1,x2) p) (b,[]) k).2) from by rw [Fq.out]; simp);go_wp2_with fail
     go_roundw
     case rel=>exact⟨k+1,j1,j2,j3,j4,j5,j6,j7,j8,j9,j10,j11,j12,j13,j14,j15,lx,hlt,by go_num,nQ.out,SF.out,oI.out,tN.out,SC.out,by rw [Y9.out]; exact SE.out,by rw [Y9.out]; exact OJ.out,HWX.out⟩
     case measure=>simp [intOf]; omega
    ·have Y9:=L (show (dU b.own (iV par (x1,x2) p) (b,[]) (k+1))=((iB (dU b.own (iV par (x1,x2) p) (b,[]) k).1 (mV (x1,x2) o)).1,(dU b.own (iV par (x1,x2) p) (b,[]) k).2++[BP par (mV (x1,x2) o)]) from by rw [Fq.out]; simp);go_upto_region 10 with fail;refine abH _ we (w.heap.size+1) bE W.heap.size x1 x2 pa pb pd par x1 x2 y1 y2 yo yn yc (-1) false o.p _ lx (dU b.own (iV par (x1,x2) p) (b,[]) k).2 _ _ _ _ _ _ _ _ _ _ _ _ _ _ _ _ _ _ _ _ _ _ _ _ _ _ _ _ _ _ _ _ _ _ _ _ _ _ _ _ _ _ _ _ _ _ oI.out Y8.out OJ.out HWX.out (by rw [OJ.out.len]; have h1:=OL.out; have h2:=N9.out; simp at h1; omega) Wm.out (iC VX.out) ?_;intro x w6 s v38 v39 v40 v41 v42 v43 v44 v45 hou hbl hbx hmx _;have V0:=L (nQ.out.trans (hbl.mono (aH (Nat.le_of_lt (show w.heap.size<W.heap.size from by have:=X4L.out; omega)) (aJ _))));have V1:=L (hbx _ _ _ (by decide) SF.out);have V2:=L (hbx _ _ _ (by decide) oI.out);have V3:=L (hbx _ _ _ (by decide) tN.out);have V4:=L (hmx _ _ _ _ _ _ SC.out);have V5:=L (hmx _ _ _ _ _ _ SE.out);have V6:=L hou;have V7:=L (aH HWX.out hbl.size);clear hou hbl hbx hmx;go_wp2_with fail
     go_roundw
     case rel=>exact⟨k+1,j1,j2,j3,j4,j5,j6,j7,j8,j9,j10,j11,j12,j13,j14,j15,_,hlt,by go_num,V0.out,V1.out,V2.out,V3.out,V4.out,by rw [Y9.out]; exact V5.out,by rw [Y9.out,show BP par (mV (x1,x2) o)=⟨par,3,(x1,x2),(y1,y2),o.p⟩ from by unfold BP mV; rw [ZI.out]]; exact V6.out,V7.out⟩
     case measure=>simp [intOf]; omega
  ·obtain rfl:k=s14:=by omega
   have HJ:=L (show k=b.own.length from N5.out);obtain⟨x0,x1,x2,x3,x4,x5⟩:=Oj.out.gP;obtain⟨r0,r1,r2,r3,r4,r5⟩:=tQ.out.gP;obtain⟨N7,Fu,VY,YS,YT,YU⟩:=tQ.out.pO;have zz:=tQ.out.lt;have bs:=X wr (w.heap.size+1+1) (O U me) (J m1 m2 m3) (J m4 m5 m6) (J m7 m8 m9) (J m10 m11 m12) (J m13 m14 m15);have GG:=L (dZ tQ.out (O U me) (J m1 m2 m3) (J m4 m5 m6) (J m7 m8 m9) (J m10 m11 m12) (J m13 m14 m15));have BL:=L (dN (b:=w.heap.size+1+1) Hw.out (by omega) (O U me) (J m1 m2 m3) (J m4 m5 m6) (J m7 m8 m9) (J m10 m11 m12) (J m13 m14 m15));have HC:=L (Om.out.sj bs tQ.out (by decide) (by decide) (by decide) (by decide) (by decide) (by decide));have HO:=L (Hy.out.but bs tQ.out (by decide) (by decide));obtain⟨va,vc,hv⟩:=(Row.dG Hy.out.row).len;subst hv;clear bs;go_wp2_with fail;obtain⟨v0,v1,v2,v3,v4,v5⟩:=GG.out.gP;refine bodyPost_ret (v:=.tuple #[aI #[O U me,J m1 m2 m3,J m4 m5 m6,J m7 m8 m9,J m10 m11 m12,J m13 m14 m15],J va lx.length vc]) (by simp [results,Tryz.results36,go_sem,v0,v1,v2,v3,v4,v5]) rfl ?_;rw [<- HJ.out];exact⟨⟨(m1,m2,m3),(m4,m5,m6),(m7,m8,m9),(m10,m11,m12),(m13,m14,m15),(va,lx.length,vc),lx,by rw [ME.out],HC.out,HO.out.le (by have:=WS.out; omega)⟩,BL.out⟩
end Fl
end Go.Proofs.YtmklifheakemeaaGreat
