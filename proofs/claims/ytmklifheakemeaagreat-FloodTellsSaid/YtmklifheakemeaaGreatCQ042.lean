/-
  Rows of one's own of. Conditions as told.
-/
import Derived.Test.YtmklifheakemeaaGreatCQ039
import Derived.Test.YtmklifheakemeaaGreatCQ041
set_option maxRecDepth 100000
set_option maxHeartbeats 64000000
open _root_.Bool renaming false->aR,true->aU
open _root_.Go renaming World->aB,Addr->aD,Value->aG,Calls->aX
open Go.Ending renaming returned->aO
open Go.IntKind renaming i64->V
open Go.IntWalk renaming i64_in->aP
open Go.Lib renaming hid->O
open Go.Obj renaming cells->aI
open Go.Operand renaming tmp->aC
open Go.Proofs.Tryz renaming prog->aH,results10->aY,func28->bD
open Go.Proofs.YtmklifheakemeaaGreat.Av renaming eU->Z
open Go.RowKit.Below renaming refl->aF
open Go.Value renaming slice->J,int->U,pointer->aj,agg->aM,bool->aS
open _root_.List renaming getElem?_toArray->ak,getElem?_eq_getElem->au,getElem?_cons_zero->ay,getElem?_cons_succ->aA,mem_of_getElem?->aT,map_toArray->aV,map_cons->aZ,map_nil->bf
open _root_.Nat renaming zero_le->aK,le_trans->aL,le_refl->aQ,lt_or_ge->bg
open _root_.Option renaming some->Y,none->ah
open Option.some renaming inj->aN
open _root_.Or renaming inr->aJ,inl->aW
namespace Go.Proofs.YtmklifheakemeaaGreat
namespace Fl
open Go.RowKit Go.Sort Rw YtmklifheakemeaaGreat.Nm Pr Bk Av
def OuO (W:aB) (B:Nat) (x:mE) (o:Ou):Prop:=x.1=o.iM/\x.2.1=o.kind/\(x.2.2.1,x.2.2.2.1)=o.tree/\(x.2.2.2.2.1,x.2.2.2.2.2.1)=o.id/\iq W B (dY x.2.2.2.2.2.2.1) o.p/\x.2.2.2.2.2.2.2=(ah,0,0)
theorem OuO.ou {W:aB} {B:Nat} {x:mE} {o:Ou} (h:OuO W B x o):rD W x o:=⟨h.1,h.2.1,h.2.2.1,h.2.2.2.1,Row.dH h.2.2.2.2.1,h.2.2.2.2.2⟩
theorem OuO.le {W:aB} {B B':Nat} {x:mE} {o:Ou} (h:OuO W B x o) (hB:B'<=B):OuO W B' x o:=⟨h.1,h.2.1,h.2.2.1,h.2.2.2.1,dM h.2.2.2.2.1 hB,h.2.2.2.2.2⟩
structure vY (W:aB) (B:Nat) (v:aG) (lx:List mE) (l:List Ou):Prop where
 row:jT W B v lx
 all:eY (OuO W B) lx l
theorem vY.on {W W':aB} {B:Nat} {v:aG} {lx:List mE} {l:List Ou} (h:vY W B v lx l) (hb:Below W.heap.size W W'):vY W' B v lx l:=⟨Bk.dI h.row hb,h.all.mono fun _ _ q=>⟨q.1,q.2.1,q.2.2.1,q.2.2.2.1,Bk.dI q.2.2.2.2.1 hb,q.2.2.2.2.2⟩⟩
theorem vY.le {W:aB} {B B':Nat} {v:aG} {lx:List mE} {l:List Ou} (h:vY W B v lx l) (hB:B'<=B):vY W B' v lx l:=⟨dM h.row hB,h.all.mono fun _ _ q=>q.le hB⟩
theorem vY.nil (W:aB) (B:Nat):vY W B (J ah 0 0) [] []:=⟨jl _ _,.nil⟩
theorem vY.but {W W':aB} {B g:Nat} {v:aG} {lx:List mE} {l:List Ou} {cs:Array aG} {t:TypeId} (h:vY W B v lx l) (hk:But g W W') (hg:dJ W g cs t) (h1:(43 == t)=aR) (h2:(70 == t)=aR):vY W' B v lx l:=⟨hk.own h.row hg h1,h.all.mono fun _ _ q=>⟨q.1,q.2.1,q.2.2.1,q.2.2.2.1,hk.own q.2.2.2.2.1 hg h2,q.2.2.2.2.2⟩⟩
theorem vY.outs {W:aB} {B:Nat} {s:Sl} {lx:List mE} {l:List Ou} (h:vY W B (dY s) lx l):iW W s l:=⟨lx,Row.dH h.row,h.all.mono fun _ _ q=>q.ou⟩
theorem vY.len {W:aB} {B:Nat} {v:aG} {lx:List mE} {l:List Ou} (h:vY W B v lx l):lx.length=l.length:=h.all.len
theorem vY.more {W W':aB} {B:Nat} {v v':aG} {lx ly:List mE} {l m:List Ou} (h:vY W B v lx l) (gr:W.grownBy W' v.ownBlock) (ho:jT W' B v' (lx++ly)) (hx:eY (OuO W B) ly m):vY W' B v' (lx++ly) (l++m) :=
 ⟨ho,eY.append (h.all.mono fun _ _ q=>⟨q.1,q.2.1,q.2.2.1,q.2.2.2.1,AA h.row gr q.2.2.2.2.1 (by decide),q.2.2.2.2.2⟩) (hx.mono fun _ _ q=>⟨q.1,q.2.1,q.2.2.1,q.2.2.2.1,AA h.row gr q.2.2.2.2.1 (by decide),q.2.2.2.2.2⟩)⟩
theorem Lc {near:List Int} {f k:Int} {t x:fD} {p:List C5} {q:Nat} {y:Int} (h:near[q]?=Y y):fC (near.take (q+1)) f k t x p=fC (near.take q) f k t x p++(if (y != f)=aU then [⟨y,k,t,x,p⟩] else []):=by
 unfold fC;rw [List.take_add_one,h,List.filter_append,List.map_append]
 congr 1
 simp only [Option.toList_some,List.filter_cons,List.filter_nil]
 split <;> rfl
theorem vH (near:List Int) (f k:Int) (t x:fD) (p:List C5):(fC near f k t x p).length<=near.length:=by
 unfold fC;rw [List.length_map];exact List.length_filter_le _ _
theorem Gq (me but k tc ts ic tK:Int) (nv:Sl) (av sv ev ov:aG) (pv:Sl) (p:List C5) (l:List Int) (w:aB) (hs:qF w (dY nv) l) (hlen:l.length<=900) (hp:fK w (dY pv) p) (hpl:p.length<=900) :
  aX aH 28 #[aM #[U V me,dY nv,av,sv,ev,ov],U V but,aM #[U V k,U V tc,U V ts,U V ic,U V tK,dY pv,J ah 0 0]] w fun e w'=>(∃ (v:Sl) (lx:List mE),e=aO (dY v)/\vY w' w.heap.size (dY v) lx (fC l but k (tc,ts) (ic,tK) p))/\Below w.heap.size w w':=by
 obtain⟨no,nn,nc⟩:=nv;obtain⟨po,pn,pc⟩:=pv;obtain⟨q1,q2,hq⟩:=hs.len;obtain⟨rfl,hnn,rfl⟩:no=q1/\nn=l.length/\nc=q2:=by
  have h:J no nn nc=J q1 l.length q2:=hq;simpa using h
 clear hq;obtain⟨h0,h1,h2⟩:=gM w #[U V me,J no nn nc,av,sv,ev,ov] #[U V k,U V tc,U V ts,U V ic,U V tK,J po pn pc,J ah 0 0] 28 41;have B0:=O h0;have X5:=O h2;have HS:=O (hs.on h0);have HP:=O (hp.on h0);have HPL:=O hpl;have HN:=O hnn;have c1:=h1.cell 1;simp only [ak,ay,aA] at c1;have nb:nn<=900:=by omega
 have W2:=O h2.lt;clear h0 h1 h2 hs hlen hnn hp hpl;show aX aH 28 #[aM #[U V me,J no nn nc,av,sv,ev,ov],U V but,aM #[U V k,U V tc,U V ts,U V ic,U V tK,J po pn pc,J ah 0 0]] w _;go_enter bD,Tryz.ntmps28;go_upto_region 1 with fail;generalize (w.alloc (aI #[U V me,J no nn nc,av,sv,ev,ov] 28)).alloc (aI #[U V k,U V tc,U V ts,U V ic,U V tK,J po pn pc,J ah 0 0] 41)=W at *;go_wp2
 go_loopw [7,13] (fun v i wr=>∃ (q:Nat) (lx:List mE),q<=nn/\i=U V q/\Below W.heap.size W wr/\vY wr W.heap.size v lx (fC (l.take q) but k (tc,ts) (ic,tK) p)) (fun _ i _=>nn-(intOf i).toNat)
 case atStart=>exact⟨0,[],aK _,rfl,aF _ _,vY.nil _ _⟩
 case round =>
  obtain⟨q,lx,hq,rfl,hbe,hown⟩:=hrel;have BE:=O hbe;have OE:=O hown;clear hbe hown;by_cases hlt:q<nn
  ·obtain⟨y,hy⟩:∃ y,l[q]?=Y y:=⟨_,au (by rw [<- HN.out]; exact hlt)⟩;obtain⟨g,ix,_,px⟩:=nV Nm.Oi HS.out rfl HN.out.symm hy;have p0:wr.cell? g=Y (U V y):=by simpa [Addr.add] using px wr BE.out 0 _ rfl
   have ix:∀ w,(Instr.indexAt 22 (J no nn nc) (U V q)).run aH w=.ok (aj (Y g)) w:=ix;have FS:=O (Lc (f:=but) (k:=k) (t:=(tc,ts)) (x:=(ic,tK)) (p:=p) hy);have hw3:IntKind.i64.wrap ((q:Int)+1)=(q:Int)+1:=aP _ (by omega);obtain⟨r,hr⟩:∃ r,(y != but)=r:=⟨_,rfl⟩;rw [hr] at FS;clear px hy;cases r
   ·go_wp2
    go_roundw
    case rel=>exact⟨q+1,lx,by omega,by go_num,BE.out,by
     rw [FS.out];simpa using OE.out⟩
    case measure=>simp [intOf]; omega
   ·have x_:=X5.out.on BE.out;obtain⟨x0,x1,x2,x3,x4,x5,x6⟩:=x_.nJ;have CM:=O (af2 k tc ts ic tK (po,pn,pc) p wr (HP.out.on BE.out) HPL.out);clear x_;go_wp2_with fail;refine CM.out.mono ?_;rintro e1 w1 ⟨⟨⟨s1,s2,s3⟩,rfl,hc⟩,hb⟩;clear x0 x1 x2 x3 x4 x5 x6 p0 CM;have NB:=O (fF w1 (aI #[U V y,U V k,U V tc,U V ts,U V ic,U V tK,J s1 s2 s3,J ah 0 0] 43));have hlit:=jm EK w1 [((y,k,tc,ts,ic,tK,(s1,s2,s3),(ah,0,0)):mE)] 1 rfl (by simp) #[U V y,U V k,U V tc,U V ts,U V ic,U V tK,J s1 s2 s3,J ah 0 0] rfl;have o2:=(OE.out.on hb).on NB.out;have hB:W.heap.size<=(w1.alloc (aI #[U V y,U V k,U V tc,U V ts,U V ic,U V tK,J s1 s2 s3,J ah 0 0] 43)).heap.size:=by have h1:=BE.out.size; have h2:=hb.size; simp; omega
    obtain⟨v',w',r',o',gr⟩:=gY EK W.heap.size o2.row (Row.dH hlit) (by
     rw [o2.len];have h1:=vH (l.take q) but k (tc,ts) (ic,tK) p;rw [List.length_take] at h1;omega) (by simp) hB 35
    have r':(Builtin.append_ #[35,35] 35 #[u7,J (Y ⟨w1.heap.size,0,ah⟩) 1 1]).run aH (w1.alloc (aI #[U V y,U V k,U V tc,U V ts,U V ic,U V tK,J s1 s2 s3,J ah 0 0] 43))=.ok v' w':=by
     simpa [EU] using r'
    have BG:=O (((BE.out.trans (hb.mono BE.out.size)).trans (NB.out.mono (by have h1:=BE.out.size; have h2:=hb.size; omega))).grown gr hB fun j hj=>(o2.row.lt j hj).1);have OG:=O (o2.more gr o' (.cons (b:=⟨y,k,(tc,ts),(ic,tK),p⟩) ⟨rfl,rfl,rfl,rfl,dM (Bk.dI hc NB.out) BE.out.size,rfl⟩ .nil));clear hlit o2 hB o' gr OE hb hc;go_wp2_with (first | (at_builtin; refine wpList_append_run rfl _ _ 35 rfl rfl rfl r' ?_) | fail)
    go_roundw
    case rel=>exact⟨q+1,_,by omega,by go_num,BG.out,by
     rw [FS.out];simpa using OG.out⟩
    case measure=>simp [intOf]; omega
  ·obtain rfl:nn=q:=by omega
   have e:l.take nn=l:=List.take_of_length_le (by have:=HN.out; omega);rw [e] at OE;obtain⟨LW,LZ,hv⟩:=(Row.dH OE.out.row).len;subst hv;clear e;go_wp2;go_ret;exact⟨⟨(LW,_,LZ),lx,rfl,OE.out.le (by have:=W2.out; omega)⟩,B0.out.trans (BE.out.mono B0.out.size)⟩
theorem qm.app {W W':aB} {B:Nat} {v:aG} {l:List mE} {b:Br} {nv av sv ev ov:Sl} (ho:jT W B v l) (gr:W.grownBy W' v.ownBlock) (h:qm W b nv av sv ev ov):qm W' b nv av sv ev ov:=by
 rcases gX ho with⟨h1,_⟩|⟨g,c,cur,h1,_,h2,_⟩
 ·rw [h1] at gr;exact h.on ((aF _ _).grown gr (aQ _) (fun j hj=>by cases hj))
 ·rw [h1] at gr;exact h.yO (yZ (b:=g) gr) h2 (by decide) (by decide) (by decide) (by decide) (by decide) (by decide)
def Qk (B:Nat) (b3 _b10 _n:Nat) (_x1 _x2:Int) (_pa:Option aD) (_pb _pd:Nat) (par:Int) (y1 y2 y3 y4:Int) (po:Option aD) (pn pc:Nat) (y6:Int) (y7:Bool) (p:List C5) (rv:aG) (_lx:List mE) (_l:List Ou) (i:Nat) (v:aG) (x:aB):Prop :=
 match i with
 | 0=>v=rv
 | 1=>v=aj (Y ⟨b3,3,ah⟩)
 | 2=>v=U V par
 | 3=>v=aM #[U V y1,U V y2,U V y3,U V y4,J po pn pc,U V y6,aS y7]
 | 4=>∃ s:Sl,v=aM #[U V 3,U V y1,U V y2,U V y3,U V y4,dY s,J ah 0 0]/\iq x B (dY s) p
 | 5=>∃ s:Sl,v=xA (par,3,y1,y2,y3,y4,s,(ah,0,0))/\iq x B (dY s) p
 | 6=>∃ s:Sl,jT x B v [(par,3,y1,y2,y3,y4,s,(ah,0,0))]/\iq x B (dY s) p
 | _=>True
noncomputable def acE:Code:=((Tryz.f36.body.bind (eO 10)).getD .skip)
theorem XP (B:Nat) (b3 b10 n:Nat) (x1 x2:Int) (pa:Option aD) (pb pd:Nat) (par:Int) (y1 y2 y3 y4:Int) (po:Option aD) (pn pc:Nat) (y6:Int) (y7:Bool) (p:List C5) (rv:aG) (lx:List mE) (l:List Ou) (i:Nat) (v:aG) (x x':aB) (h:Qk B b3 b10 n x1 x2 pa pb pd par y1 y2 y3 y4 po pn pc y6 y7 p rv lx l i v x) (hb:Below x.heap.size x x'):Qk B b3 b10 n x1 x2 pa pb pd par y1 y2 y3 y4 po pn pc y6 y7 p rv lx l i v x':=by
 by_cases hi:i<7
 ·rcases (by omega:i=0\/i=1\/i=2\/i=3\/i=4\/i=5\/i=6) with rfl|rfl|rfl|rfl|rfl|rfl|rfl
  ·exact h
  ·exact h
  ·exact h
  ·exact h
  ·obtain⟨s,h1,h2⟩:=h; exact⟨s,h1,Bk.dI h2 hb⟩
  ·obtain⟨s,h1,h2⟩:=h; exact⟨s,h1,Bk.dI h2 hb⟩
  ·obtain⟨s,h1,h2⟩:=h; exact⟨s,Bk.dI h1 hb,Bk.dI h2 hb⟩
 ·unfold Qk
  split <;> first | omega | trivial
theorem al0 (Q:Exit->Act->aB->Prop) (W:aB) (b3 b10 n:Nat) (x1 x2:Int) (pa:Option aD) (pb pd:Nat) (par:Int) (y1 y2 y3 y4:Int) (po:Option aD) (pn pc:Nat) (y6:Int) (y7:Bool) (p:List C5) (rv:aG) (lx:List mE) (l:List Ou) (u0 u1 u2 u4 u5 u7 u8 u9 u11 u12 u13 u14 u15 u16 u17 u18 u19 u20 u21 u22 u23 u24 u25 u26 u27 u28 u29 u30 u31 u32 u33 u34 u35 u36 u37 u38 u39 u40 u41 u42 u43 u44 u45 u46 u47 u48:aG)
  (x3:dJ W b3 #[U V x1,U V x2,J pa pb pd,U V par] 74) (x10:dJ W b10 #[U V y1,U V y2,U V y3,U V y4,J po pn pc,U V y6,aS y7] 66) (ar:vY W n rv lx l) (hn:n<=W.heap.size) (hl:lx.length<=900) (hp:fK W (J po pn pc) p) (lp:p.length<=900)
  (hQ:∀ (x:aB) (w6:aG) (s:Sl) (v38 v39 v40 v41 v42 v43 v44 v45:aG),vY x n w6 (lx++[(par,3,y1,y2,y3,y4,s,(ah,0,0))]) (l++[⟨par,3,(y1,y2),(y3,y4),p⟩])->Below n W x->(∀ (b:Nat) (cs:Array aG) (t:TypeId),(t == 43)=aR->dJ W b cs t->dJ x b cs t)->(∀ (b:Br) (nv av sv ev ov:Sl),qm W b nv av sv ev ov->qm x b nv av sv ev ov)->(∀ (B:Nat) (v:aG) (p:List C5),iq W B v p->iq x B v p)->Q .normal ⟨(u0::u1::u2::aj (Y ⟨b3,0,ah⟩)::u4::u5::w6::u7::u8::u9::aj (Y ⟨b10,0,ah⟩)::u11::u12::u13::u14::u15::u16::u17::u18::u19::u20::u21::u22::u23::u24::u25::u26::u27::u28::u29::u30::u31::u32::u33::u34::u35::u36::u37::v38::v39::v40::v41::v42::v43::v44::v45::u46::u47::u48::[]).toArray,[]⟩ x) :
  Code.wp aH acE Q ⟨(u0::u1::u2::aj (Y ⟨b3,0,ah⟩)::u4::u5::rv::u7::u8::u9::aj (Y ⟨b10,0,ah⟩)::u11::u12::u13::u14::u15::u16::u17::u18::u19::u20::u21::u22::u23::u24::u25::u26::u27::u28::u29::u30::u31::u32::u33::u34::u35::u36::u37::u38::u39::u40::u41::u42::u43::u44::u45::u46::u47::u48::[]).toArray,[]⟩ W:=by
 have HQ:=O hQ;have H3:=O x3;have H10:=O x10;have AR:=O ar;have HN:=O hn;have HL:=O hl;have HP:=O hp;have LP:=O lp;clear hQ x3 x10 ar hn hl hp lp;have iO:=XP W.heap.size b3 b10 n x1 x2 pa pb pd par y1 y2 y3 y4 po pn pc y6 y7 p rv lx l;unfold acE
 conv=>arg 2; whnf
 have nd:∀ j,(∀ i,i<7->[38,39,40,41,42,43,44].getD i 0≠j)->∀ i,i<7->(fun i=>[38,39,40,41,42,43,44].getD i 0) i≠j:=fun j h=>h;refine Rg.fQ 9 7 (fun i=>[38,39,40,41,42,43,44].getD i 0) (fun _=>7) (Qk W.heap.size b3 b10 n x1 x2 pa pb pd par y1 y2 y3 y4 po pn pc y6 y7 p rv lx l) (by kernel_rfl) (by kernel_rfl) rfl (by decide) (fun i j hi hj h=>(by decide:∀ i,i<7->∀ j,j<7->[38,39,40,41,42,43,44].getD i 0=[38,39,40,41,42,43,44].getD j 0->i=j) i hi j hj h) (fun i hi=>(by decide:∀ i,i<7->[38,39,40,41,42,43,44].getD i 0<49) i hi) ?_ (fun _=>Rg.jq 14 (by kernel_rfl)) ?_ ?_
 ·intro i o hi ho a x D hnd hc hD hb seen K hK;clear HQ;rcases (by omega:i=0\/i=1\/i=2\/i=3\/i=4\/i=5\/i=6) with rfl|rfl|rfl|rfl|rfl|rfl|rfl
  ·cases ho;have e6:a.eval (aC 6)=rv:=seen.kp 6 _ (nd 6 (by decide)) rfl;exact Rg.dD rfl rfl (Rg.fV a.eval _ (aC 6) rfl x) (hK _ _ e6 (aF _ _) fun _ _ _ _ _ _ _ h=>h)
  ·cases ho;have e3:a.eval (aC 3)=aj (Y ⟨b3,0,ah⟩):=seen.kp 3 _ (nd 3 (by decide)) rfl;exact Rg.dD rfl rfl (Rg.dW a.eval _ 74 (aC 3) 2 rfl (by rw [e3]; simp [go_sem])) (hK _ _ rfl (aF _ _) fun _ _ _ _ _ _ _ h=>h)
  ·cases ho;have e39:a.eval (aC 39)=aj (Y ⟨b3,3,ah⟩):=seen.at_ ⟨1,.data⟩ (by simp) rfl (aJ (by decide));have y3:=(H3.out.on hb).cell 3;simp only [ak,ay,aA] at y3;exact Rg.dD rfl rfl (Rg.dR a.eval _ 3 (aC 39) rfl (by rw [e39]; simp [go_sem,y3])) (hK _ _ rfl (aF _ _) fun _ _ _ _ _ _ _ h=>h)
  ·cases ho;have e10:a.eval (aC 10)=aj (Y ⟨b10,0,ah⟩):=seen.kp 10 _ (nd 10 (by decide)) rfl;obtain⟨y0,y1,y2,y3,y4,y5,y6⟩:=(H10.out.on hb).nJ;exact Rg.dD rfl rfl (Rg.dR a.eval _ 66 (aC 10) rfl (by rw [e10]; simp [go_sem,y0,y1,y2,y3,y4,y5,y6])) (hK _ _ rfl (aF _ _) fun _ _ _ _ _ _ _ h=>h)
  ·cases ho;have e41:a.eval (aC 41)=aM #[U V y1,U V y2,U V y3,U V y4,J po pn pc,U V y6,aS y7]:=seen.at_ ⟨3,.data⟩ (by simp) rfl (aJ (by decide));exact Rg.gL rfl rfl (Rw.iB a.eval _ (aC 41) 66 95 rfl e41 rfl _ (gD Tryz.func95 rfl rfl _ _)) (Ro (y1,y2,y3,y4,(po,pn,pc),y6,y7) p x (HP.out.on hb) LP.out) fun e w1 h=>by
    obtain⟨⟨s,rfl,q1⟩,q2⟩:=h;exact⟨_,rfl,hK _ _ ⟨s,rfl,dM q1 hb.size⟩ (q2.mono hb.size) fun j u _ _ _ _ _ h=>iO j u _ _ h q2⟩
  ·cases ho;have e40:a.eval (aC 40)=U V par:=seen.at_ ⟨2,.data⟩ (by simp) rfl (aJ (by decide));have E42:=seen.at_ ⟨4,.data⟩ (by simp) rfl (aJ (by decide));obtain⟨s,q0,q1⟩:=E42;have q0:a.eval (aC 42)=aM #[U V 3,U V y1,U V y2,U V y3,U V y4,dY s,J ah 0 0]:=q0;exact Rg.dD rfl rfl (Rg.jZ a.eval _ 43 #[(0,aC 40),(1,aC 42)] rfl (ps:=#[(0,U V par),(1,aM #[U V 3,U V y1,U V y2,U V y3,U V y4,dY s,J ah 0 0])]) (by simp only [aV,aZ,bf,e40,q0]) (by simp [go_sem])) (hK _ _ ⟨s,rfl,q1⟩ (aF _ _) fun _ _ _ _ _ _ _ h=>h)
  ·cases ho;have E43:=seen.at_ ⟨5,.data⟩ (by simp) rfl (aJ (by decide));obtain⟨s,q0,q1⟩:=E43;have q0:a.eval (aC 43)=xA (par,3,y1,y2,y3,y4,s,(ah,0,0)):=q0;have hl:=jm EK x [((par,3,y1,y2,y3,y4,s,(ah,0,0)):mE)] 1 rfl (by simp) (lH (par,3,y1,y2,y3,y4,s,(ah,0,0))).toArray (by simp [flat,EU]);have nb:=fF x (aI (lH (par,3,y1,y2,y3,y4,s,(ah,0,0))).toArray 43);exact Rg.dD rfl rfl (Rg.jg a.eval _ 35 1 #[(0,aC 43)] rfl (ps:=#[(0,xA (par,3,y1,y2,y3,y4,s,(ah,0,0)))]) (by simp [q0]) (by simp [go_sem])) (hK (J (Y ⟨x.heap.size,0,ah⟩) 1 1) (x.alloc (aI (lH (par,3,y1,y2,y3,y4,s,(ah,0,0))).toArray 43)) ⟨s,dM hl hb.size,Bk.dI q1 nb⟩ (nb.mono hb.size) fun j u _ _ _ _ _ h=>iO j u _ _ h nb)
 ·intro kk o h1 h2 ho;rcases (by omega:kk=8) with rfl
  ·cases ho;exact⟨⟨7,.data⟩,by simp,rfl,rfl⟩
 ·intro a w' df sz kp ⟨vs,hv⟩ hb;have sz':a.tmps.size=49:=sz;have g38:a.tmps[38]?=Y (rv):=by
   have h:vs 0=rv:=(hv 0 (by omega)).2 (by decide);rw [<- h];exact (hv 0 (by omega)).1
  have g44:a.tmps[44]?=Y (vs 6):=(hv 6 (by omega)).1;have G44:=(hv 6 (by omega)).2 (by decide);obtain⟨s,q1,q2⟩:=G44;have ar:=AR.out.on hb;generalize hq:vs 6=v6 at *;obtain⟨a1,c1,hv6⟩:=(Row.dH q1).len;obtain⟨v',x',r,o',gr⟩:=gY EK n ar.row (Row.dH q1) (by have:=HL.out; omega) (by simp) (aL HN.out hb.size) 35;show Rg.fH _ _ _ 2 7 a w';simp only [Rg.fH];refine Rg.dD rfl rfl (Rg.gI a.eval _ (aC 38) (aC 44) 35 rfl (Rg.dL g38) (Rg.dL g44) r) ?_;have e45:(a.put (Y 45) v').eval (aC 45)=v':=Rg.dL (by simp [Act.put,sz']);refine Rg.dD rfl rfl (Rg.jJ _ _ (aC 45) rfl x') ?_;show Q .normal ((a.put (Y 45) v').put (Y 6) ((a.put (Y 45) v').eval (aC 45))) x';rw [e45];have hp:=ar.more gr o' (m:=[⟨par,3,(y1,y2),(y3,y4),p⟩]) (.cons (show OuO _ _ _ _ from ⟨rfl,rfl,rfl,rfl,dM q2 HN.out,rfl⟩) .nil);have hbt:Below n W x':=(hb.mono HN.out).grown gr (aL HN.out hb.size) (fun j hj=>(ar.row.lt j hj).1);have hbx:∀ (b:Nat) (cs:Array aG) (t:TypeId),(t == 43)=aR->dJ W b cs t->dJ x' b cs t:=fun b cs t hne h=>Ih ar.row gr (h.on hb) hne;have hmx:∀ (b:Br) (nv av sv ev ov:Sl),qm W b nv av sv ev ov->qm x' b nv av sv ev ov:=fun b _ _ _ _ _ h=>qm.app ar.row gr (h.on hb);have hcx:∀ (B:Nat) (v:aG) (p:List C5),iq W B v p->iq x' B v p:=fun _ _ _ h=>AA ar.row gr (Bk.dI h hb) (by decide);show Q .normal ((a.put (Y 45) v').put (Y 6) v') x';have ka:∀ j,j≠45->j≠6->((a.put (Y 45) v').put (Y 6) v').tmps[j]?=a.tmps[j]?:=fun j h1 h2=>by rw [Rg.get_put _ _ _ _ (by omega),Rg.get_put _ _ _ _ (by omega)]
  have kt:((a.put (Y 45) v').put (Y 6) v').tmps[6]?=Y (v'):=by simp [Act.put,sz']
  have qI:∀ j,(j<38\/46<=j)->((a.put (Y 45) v').put (Y 6) v').tmps[j]?=(u0::u1::u2::aj (Y ⟨b3,0,ah⟩)::u4::u5::v'::u7::u8::u9::aj (Y ⟨b10,0,ah⟩)::u11::u12::u13::u14::u15::u16::u17::u18::u19::u20::u21::u22::u23::u24::u25::u26::u27::u28::u29::u30::u31::u32::u33::u34::u35::u36::u37::u38::u39::u40::u41::u42::u43::u44::u45::u46::u47::u48::[])[j]?:=fun j hj=>by
   by_cases hj2:j=6
   ·subst hj2;exact kt
   ·have hs:(u0::u1::u2::aj (Y ⟨b3,0,ah⟩)::u4::u5::v'::u7::u8::u9::aj (Y ⟨b10,0,ah⟩)::u11::u12::u13::u14::u15::u16::u17::u18::u19::u20::u21::u22::u23::u24::u25::u26::u27::u28::u29::u30::u31::u32::u33::u34::u35::u36::u37::u38::u39::u40::u41::u42::u43::u44::u45::u46::u47::u48::[]:List aG)=(u0::u1::u2::aj (Y ⟨b3,0,ah⟩)::u4::u5::rv::u7::u8::u9::aj (Y ⟨b10,0,ah⟩)::u11::u12::u13::u14::u15::u16::u17::u18::u19::u20::u21::u22::u23::u24::u25::u26::u27::u28::u29::u30::u31::u32::u33::u34::u35::u36::u37::u38::u39::u40::u41::u42::u43::u44::u45::u46::u47::u48::[]).set 6 (v'):=rfl;rw [hs,List.getElem?_set_ne (Ne.symm hj2)];exact (ka j (by omega) hj2).trans ((kp j (nd j fun i hi h=>by have:=(by decide:∀ i,i<7->38<=[38,39,40,41,42,43,44].getD i 0/\[38,39,40,41,42,43,44].getD i 0<46) i hi; omega)).trans ak)
  obtain⟨mid,hmid,hfr⟩:=Rg.gJ (a:=(a.put (Y 45) v').put (Y 6) v') 38 8 (by simp [Act.put,df]) (by simp [Act.put,sz']) (by simp) qI;rw [hfr]
  match mid,hmid with
  | [v38,v39,v40,v41,v42,v43,v44,v45],_ =>
   exact HQ.out x' _ s _ _ _ _ _ _ _ _ hp hbt hbx hmx hcx
def al1 (_B:Nat) (_b4 _b8:Nat) (me:Int) (s1:Option aD) (s2 s3:Nat) (s4:Option aD) (s5 s6:Nat) (s7:Option aD) (s8 s9:Nat) (s10:Option aD) (s11 s12:Nat) (s13:Option aD) (s14 s15:Nat) (rv uv v_:aG) (_X1:aB) (i:Nat) (v:aG) (_x:aB):Prop :=
 match i with
 | 0=>v=aM #[U V me,J s1 s2 s3,J s4 s5 s6,J s7 s8 s9,J s10 s11 s12,J s13 s14 s15]
 | 1=>v=rv
 | 2=>v=uv
 | 3=>v=v_
 | 4=>True
 | 5=>v=v_
 | _=>True
def abl (W:aB) (_b4 b8:Nat) (me:Int) (s1:Option aD) (s2 s3:Nat) (s4:Option aD) (s5 s6:Nat) (s7:Option aD) (s8 s9:Nat) (s10:Option aD) (s11 s12:Nat) (s13:Option aD) (s14 s15:Nat) (_rv _uv _v_:aG) (X1:aB) (D:Nat->Prop) (x:aB):Prop:=(¬ D 3->x=W.drew)/\(D 3->¬ D 4->x=X1)/\(D 4->x=gN X1 b8 (U V me) (J s1 s2 s3) (J s4 s5 s6) (J s7 s8 s9) (J s10 s11 s12) (J s13 s14 s15))
noncomputable def ajo:Code:=((Tryz.f9.body.bind (eO 7)).getD .skip)
theorem ad7 (Q:Exit->Act->aB->Prop) (W:aB) (b4 b8:Nat) (me:Int) (s1:Option aD) (s2 s3:Nat) (s4:Option aD) (s5 s6:Nat) (s7:Option aD) (s8 s9:Nat) (s10:Option aD) (s11 s12:Nat) (s13:Option aD) (s14 s15:Nat) (rv uv v_:aG) (X1:aB) (z0 z1 z2 z3 z4 z5:aG) (u0 u1 u2 u3 u5 u6 u7 u9 u10 u11 u14 u15 u16 u17 u18 u19 u20 u21 u22 u23 u24 u25 u26 u27 u28 u29 u30 u31 u32 u33 u34 u35 u36 u37 u38 u39 u40 u41 u42:aG)
  (h40:dJ W b4 #[U V me,J s1 s2 s3,J s4 s5 s6,J s7 s8 s9,J s10 s11 s12,J s13 s14 s15] 28) (h41:dJ X1 b4 #[U V me,J s1 s2 s3,J s4 s5 s6,J s7 s8 s9,J s10 s11 s12,J s13 s14 s15] 28) (h8:dJ X1 b8 #[z0,z1,z2,z3,z4,z5] 28) (hne:b4≠b8) (hr:(Builtin.append_ #[35,35] 35 #[rv,uv]).run aH W.drew=.ok v_ X1)
  (hQ:∀ a:Act,a.defers=[]->a.tmps[8]?=Y (aj (Y ⟨b8,0,ah⟩))->a.tmps[9]?=Y v_->Q .normal a (gN X1 b8 (U V me) (J s1 s2 s3) (J s4 s5 s6) (J s7 s8 s9) (J s10 s11 s12) (J s13 s14 s15))) :
  Code.wp aH ajo Q ⟨(u0::u1::u2::u3::aj (Y ⟨b4,0,ah⟩)::u5::u6::u7::aj (Y ⟨b8,0,ah⟩)::u9::u10::u11::rv::uv::u14::u15::u16::u17::u18::u19::u20::u21::u22::u23::u24::u25::u26::u27::u28::u29::u30::u31::u32::u33::u34::u35::u36::u37::u38::u39::u40::u41::u42::[]).toArray,[]⟩ W:=by
 have HQ:=O hQ;have H40:=O h40;have H41:=O h41;have H8:=O h8;have NE:=O hne;have HR:=O hr;clear hQ h40 h41 h8 hne hr;have bx4:∀ D x,abl W b4 b8 me s1 s2 s3 s4 s5 s6 s7 s8 s9 s10 s11 s12 s13 s14 s15 rv uv v_ X1 D x->dJ x b4 #[U V me,J s1 s2 s3,J s4 s5 s6,J s7 s8 s9,J s10 s11 s12,J s13 s14 s15] 28:=fun D x hF=>by
  by_cases d4:D 4
  ·rw [hF.2.2 d4];exact (Z X1 b8 (U V me) (J s1 s2 s3) (J s4 s5 s6) (J s7 s8 s9) (J s10 s11 s12) (J s13 s14 s15)).box H41.out NE.out
  ·by_cases d3:D 3
   ·rw [hF.2.1 d3 d4]; exact H41.out
   ·rw [hF.1 d3]; exact H40.out.on (aF _ _).drew
 unfold ajo
 conv=>arg 2; whnf
 have nd:∀ j,(∀ i,i<6->[Y 39,Y 40,Y 41,Y 42,ah,Y 9].getD i ah≠Y j)->∀ i,i<6->(fun i=>[Y 39,Y 40,Y 41,Y 42,ah,Y 9].getD i ah) i≠Y j:=fun j h=>h;refine Rg.qg 6 (fun i=>[Y 39,Y 40,Y 41,Y 42,ah,Y 9].getD i ah) (fun _=>6) (al1 W.heap.size b4 b8 me s1 s2 s3 s4 s5 s6 s7 s8 s9 s10 s11 s12 s13 s14 s15 rv uv v_ X1) (abl W b4 b8 me s1 s2 s3 s4 s5 s6 s7 s8 s9 s10 s11 s12 s13 s14 s15 rv uv v_ X1) (by kernel_rfl) (by kernel_rfl) rfl (fun i j e hi hj h1 h2=>(by decide:∀ i,i<6->∀ j,j<6->([Y 39,Y 40,Y 41,Y 42,ah,Y 9].getD i ah).isSome=aU->[Y 39,Y 40,Y 41,Y 42,ah,Y 9].getD i ah=[Y 39,Y 40,Y 41,Y 42,ah,Y 9].getD j ah->i=j) i hi j hj (by have h1:[Y 39,Y 40,Y 41,Y 42,ah,Y 9].getD i ah=Y e:=h1; rw [h1]; rfl) (h1.trans h2.symm)) (fun i e hi h=>(by decide:∀ i,i<6->∀ q∈[Y 39,Y 40,Y 41,Y 42,ah,Y 9].getD i ah,q<43) i hi e h) (⟨fun _=>rfl,fun h=>h.elim,fun h=>h.elim⟩) ?_ ?_
 ·intro i o hi ho a x D hnd hc hD hF seen K hK;clear HQ;have still:∀ i,i≠3/\i≠4->abl W b4 b8 me s1 s2 s3 s4 s5 s6 s7 s8 s9 s10 s11 s12 s13 s14 s15 rv uv v_ X1 (fun j=>j=i\/D j) x:=fun i hns=>⟨fun h=>hF.1 fun h2=>h (aJ h2),fun h1 h2=>hF.2.1 (h1.resolve_left (Ne.symm hns.1)) fun h3=>h2 (aJ h3),fun h=>hF.2.2 (h.resolve_left (Ne.symm hns.2))⟩;rcases (by omega:i=0\/i=1\/i=2\/i=3\/i=4\/i=5) with rfl|rfl|rfl|rfl|rfl|rfl
  ·cases ho;have e4:a.eval (aC 4)=aj (Y ⟨b4,0,ah⟩):=seen.kp 4 _ (nd 4 (by decide)) rfl;obtain⟨y0,y1,y2,y3,y4,y5⟩:=(bx4 D x hF).eX;exact Rg.dD rfl rfl (Rg.dR a.eval _ 28 (aC 4) rfl (by rw [e4]; simp [go_sem,y0,y1,y2,y3,y4,y5])) (hK _ _ rfl (still 0 (by decide)) fun _ _ _ _ _ _ _ h=>h)
  ·cases ho;have e12:a.eval (aC 12)=rv:=seen.kp 12 _ (nd 12 (by decide)) rfl;exact Rg.dD rfl rfl (Rg.fV a.eval _ (aC 12) rfl x) (hK _ _ e12 (still 1 (by decide)) fun _ _ _ _ _ _ _ h=>h)
  ·cases ho;have e13:a.eval (aC 13)=uv:=seen.kp 13 _ (nd 13 (by decide)) rfl;exact Rg.dD rfl rfl (Rg.fV a.eval _ (aC 13) rfl x) (hK _ _ e13 (still 2 (by decide)) fun _ _ _ _ _ _ _ h=>h)
  ·cases ho;have e40:a.eval (aC 40)=rv:=seen.at_ ⟨1,.data⟩ (by simp) rfl (aJ (by decide)) _ rfl;have e41:a.eval (aC 41)=uv:=seen.at_ ⟨2,.data⟩ (by simp) rfl (aJ (by decide)) _ rfl;have n4:¬ D 4:=fun h=>hnd (hc 4 _ h rfl ⟨3,.chain⟩ (by simp) rfl);have hx:x=W.drew:=hF.1 hnd;exact Rg.dD rfl rfl (Rg.gI a.eval _ (aC 40) (aC 41) 35 rfl e40 e41 (w':=X1) (v':=v_) (by rw [hx]; exact HR.out)) (hK _ X1 rfl ⟨fun h=>absurd (aW rfl) h,fun _ _=>rfl,fun h=>absurd (h.resolve_left (by decide)) n4⟩ (fun j u hj dj nl nx ni h=>by
    rcases (by omega:j=0\/j=1\/j=2\/j=3\/j=4\/j=5) with rfl|rfl|rfl|rfl|rfl|rfl
    ·exact h
    ·exact h
    ·exact h
    ·exact h
    ·exact h
    ·exact h))
  ·cases ho;have e8:a.eval (aC 8)=aj (Y ⟨b8,0,ah⟩):=seen.kp 8 _ (nd 8 (by decide)) rfl;have e39:a.eval (aC 39)=aM #[U V me,J s1 s2 s3,J s4 s5 s6,J s7 s8 s9,J s10 s11 s12,J s13 s14 s15]:=seen.at_ ⟨0,.data⟩ (by simp) rfl (aJ (by decide)) _ rfl;have d3:D 3:=hD ⟨3,.chain⟩ (by simp) rfl;have hx:x=X1:=hF.2.1 d3 hnd;have hs:=oC H8.out me s1 s4 s7 s10 s13 s2 s3 s5 s6 s8 s9 s11 s12 s14 s15;have ff:abl W b4 b8 me s1 s2 s3 s4 s5 s6 s7 s8 s9 s10 s11 s12 s13 s14 s15 rv uv v_ X1 (fun j=>j=4\/D j) (gN X1 b8 (U V me) (J s1 s2 s3) (J s4 s5 s6) (J s7 s8 s9) (J s10 s11 s12) (J s13 s14 s15)):=⟨fun h=>absurd (aJ d3) h,fun _ h=>absurd (aW rfl) h,fun _=>rfl⟩;generalize gN X1 b8 (U V me) (J s1 s2 s3) (J s4 s5 s6) (J s7 s8 s9) (J s10 s11 s12) (J s13 s14 s15)=x2 at *;subst hx;have q:=hK (aS aU) x2 trivial ff (fun j u hj dj nl nx ni h=>by
    rcases (by omega:j=0\/j=1\/j=2\/j=3\/j=4\/j=5) with rfl|rfl|rfl|rfl|rfl|rfl
    ·exact h
    ·exact h
    ·exact h
    ·exact h
    ·exact h
    ·exact h)
   exact Rg.fT 28 (aC 8) (aC 39) rfl rfl rfl rfl e8 e39 hs q
  ·cases ho;have e42:a.eval (aC 42)=v_:=seen.at_ ⟨3,.data⟩ (by simp) rfl (aJ (by decide)) _ rfl;exact Rg.dD rfl rfl (Rg.jJ a.eval _ (aC 42) rfl x) (hK _ _ e42 (still 5 (by decide)) fun _ _ _ _ _ _ _ h=>h)
 ·intro a x df sz kp ⟨vs,hv⟩ ⟨D,hall,hF⟩;have g9:a.tmps[9]?=Y v_:=by
   have h:vs 5=v_:=(hv 5 (by omega)).2 (by decide);rw [<- h];exact (hv 5 (by omega)).1 9 rfl
  rw [hF.2.2 (hall 4 (by omega))];exact HQ.out a df ((kp 8 (nd 8 (by decide))).trans rfl) g9
def al2 (_B:Nat) (_b3 _b5 _b6:Nat) (me:Int) (s1:Option aD) (s2 s3:Nat) (s4:Option aD) (s5 s6:Nat) (s7:Option aD) (s8 s9:Nat) (s10:Option aD) (s11 s12:Nat) (s13:Option aD) (s14 s15:Nat) (f c d:Int) (near:List Int) (i:Nat) (v:aG) (x:aB):Prop :=
 match i with
 | 0=>v=aM #[U V me,J s1 s2 s3,J s4 s5 s6,J s7 s8 s9,J s10 s11 s12,J s13 s14 s15]
 | 1=>v=aM #[U V me,J s1 s2 s3,J s4 s5 s6,J s7 s8 s9,J s10 s11 s12,J s13 s14 s15]
 | 2=>v=U V f
 | 3=>v=aM #[U V c,U V d]
 | 4=>v=aM #[U V 2,U V c,U V d,U V 0,U V 0,J ah 0 0,J ah 0 0]
 | 5=>∃ (s:Sl) (lx:List mE),v=dY s/\vY x _B (dY s) lx (fC near f 2 (c,d) (0,0) [])
 | 6=>True
 | 7=>∃ (s:Sl) (lx:List mE),v=dY s/\vY x _B (dY s) lx (fC near f 2 (c,d) (0,0) [])
 | _=>True
def XQ (W:aB) (_b3 _b5 b6:Nat) (me:Int) (s1:Option aD) (s2 s3:Nat) (s4:Option aD) (s5 s6:Nat) (s7:Option aD) (s8 s9:Nat) (s10:Option aD) (s11 s12:Nat) (s13:Option aD) (s14 s15:Nat) (_f _c _d:Int) (_near:List Int) (D:Nat->Prop) (x:aB):Prop:=(¬ D 5->x=W.drew)/\(¬ D 6->Below W.heap.size W x)/\(D 6->∃ y,Below W.heap.size W y/\x=gN y b6 (U V me) (J s1 s2 s3) (J s4 s5 s6) (J s7 s8 s9) (J s10 s11 s12) (J s13 s14 s15))
noncomputable def ajp:Code:=((Tryz.f10.body.bind (eO 4)).getD .skip)
theorem un4 (Q:Exit->Act->aB->Prop) (W:aB) (b3 b5 b6:Nat) (me:Int) (s1:Option aD) (s2 s3:Nat) (s4:Option aD) (s5 s6:Nat) (s7:Option aD) (s8 s9:Nat) (s10:Option aD) (s11 s12:Nat) (s13:Option aD) (s14 s15:Nat) (f c d:Int) (near:List Int) (z0 z1 z2 z3 z4 z5:aG) (u0 u2 u4 u7 u8 u9 u10 u11 u12 u13 u14 u15 u16 u17 u18 u19 u20 u21 u22 u23 u24:aG)
  (h3:dJ W b3 #[U V me,J s1 s2 s3,J s4 s5 s6,J s7 s8 s9,J s10 s11 s12,J s13 s14 s15] 28) (h5:dJ W b5 #[U V c,U V d] 31) (h6:dJ W b6 #[z0,z1,z2,z3,z4,z5] 28) (n3:b3≠b6) (n5:b5≠b6) (hn:qF W (J s1 s2 s3) near) (hl:near.length<=900)
  (hQ:∀ (a:Act) (y:aB) (s:Sl) (lx:List mE),a.defers=[]->a.tmps[6]?=Y (aj (Y ⟨b6,0,ah⟩))->a.tmps[7]?=Y (dY s)->Below W.heap.size W y->vY (gN y b6 (U V me) (J s1 s2 s3) (J s4 s5 s6) (J s7 s8 s9) (J s10 s11 s12) (J s13 s14 s15)) W.heap.size (dY s) lx (fC near f 2 (c,d) (0,0) [])->Q .normal a (gN y b6 (U V me) (J s1 s2 s3) (J s4 s5 s6) (J s7 s8 s9) (J s10 s11 s12) (J s13 s14 s15))) :
  Code.wp aH ajp Q ⟨(u0::U V f::u2::aj (Y ⟨b3,0,ah⟩)::u4::aj (Y ⟨b5,0,ah⟩)::aj (Y ⟨b6,0,ah⟩)::u7::u8::u9::u10::u11::u12::u13::u14::u15::u16::u17::u18::u19::u20::u21::u22::u23::u24::[]).toArray,[]⟩ W:=by
 have HQ:=O hQ;have H3:=O h3;have H5:=O h5;have H6:=O h6;have N3:=O n3;have N5:=O n5;have HN:=O hn;have LN:=O hl;clear hQ h3 h5 h6 n3 n5 hn hl;have bx3:∀ D x,XQ W b3 b5 b6 me s1 s2 s3 s4 s5 s6 s7 s8 s9 s10 s11 s12 s13 s14 s15 f c d near D x->dJ x b3 #[U V me,J s1 s2 s3,J s4 s5 s6,J s7 s8 s9,J s10 s11 s12,J s13 s14 s15] 28:=fun D x hF=>by
  by_cases d6:D 6
  ·obtain⟨y,hy,rfl⟩:=hF.2.2 d6;exact (Z y b6 (U V me) (J s1 s2 s3) (J s4 s5 s6) (J s7 s8 s9) (J s10 s11 s12) (J s13 s14 s15)).box (H3.out.on hy) N3.out
  ·exact H3.out.on (hF.2.1 d6)
 have bx5:∀ D x,XQ W b3 b5 b6 me s1 s2 s3 s4 s5 s6 s7 s8 s9 s10 s11 s12 s13 s14 s15 f c d near D x->dJ x b5 #[U V c,U V d] 31:=fun D x hF=>by
  by_cases d6:D 6
  ·obtain⟨y,hy,rfl⟩:=hF.2.2 d6;exact (Z y b6 (U V me) (J s1 s2 s3) (J s4 s5 s6) (J s7 s8 s9) (J s10 s11 s12) (J s13 s14 s15)).box (H5.out.on hy) N5.out
  ·exact H5.out.on (hF.2.1 d6)
 unfold ajp
 conv=>arg 2; whnf
 have nd:∀ j,(∀ i,i<8->[Y 19,Y 20,Y 21,Y 22,Y 23,Y 24,ah,Y 7].getD i ah≠Y j)->∀ i,i<8->(fun i=>[Y 19,Y 20,Y 21,Y 22,Y 23,Y 24,ah,Y 7].getD i ah) i≠Y j:=fun j h=>h;refine Rg.qg 8 (fun i=>[Y 19,Y 20,Y 21,Y 22,Y 23,Y 24,ah,Y 7].getD i ah) (fun _=>8) (al2 W.heap.size b3 b5 b6 me s1 s2 s3 s4 s5 s6 s7 s8 s9 s10 s11 s12 s13 s14 s15 f c d near) (XQ W b3 b5 b6 me s1 s2 s3 s4 s5 s6 s7 s8 s9 s10 s11 s12 s13 s14 s15 f c d near) (by kernel_rfl) (by kernel_rfl) rfl (fun i j e hi hj h1 h2=>(by decide:∀ i,i<8->∀ j,j<8->([Y 19,Y 20,Y 21,Y 22,Y 23,Y 24,ah,Y 7].getD i ah).isSome=aU->[Y 19,Y 20,Y 21,Y 22,Y 23,Y 24,ah,Y 7].getD i ah=[Y 19,Y 20,Y 21,Y 22,Y 23,Y 24,ah,Y 7].getD j ah->i=j) i hi j hj (by have h1:[Y 19,Y 20,Y 21,Y 22,Y 23,Y 24,ah,Y 7].getD i ah=Y e:=h1; rw [h1]; rfl) (h1.trans h2.symm)) (fun i e hi h=>(by decide:∀ i,i<8->∀ q∈[Y 19,Y 20,Y 21,Y 22,Y 23,Y 24,ah,Y 7].getD i ah,q<25) i hi e h) (⟨fun _=>rfl,fun _=>(aF _ _).drew,fun h=>h.elim⟩) ?_ ?_
 ·intro i o hi ho a x D hnd hc hD hF seen K hK;clear HQ;have still:∀ i,i≠5/\i≠6->XQ W b3 b5 b6 me s1 s2 s3 s4 s5 s6 s7 s8 s9 s10 s11 s12 s13 s14 s15 f c d near (fun j=>j=i\/D j) x:=fun i hns=>⟨fun h=>hF.1 fun h2=>h (aJ h2),fun h=>hF.2.1 fun h2=>h (aJ h2),fun h=>hF.2.2 (h.resolve_left (Ne.symm hns.2))⟩;rcases (by omega:i=0\/i=1\/i=2\/i=3\/i=4\/i=5\/i=6\/i=7) with rfl|rfl|rfl|rfl|rfl|rfl|rfl|rfl
  ·cases ho;have e3:a.eval (aC 3)=aj (Y ⟨b3,0,ah⟩):=seen.kp 3 _ (nd 3 (by decide)) rfl;obtain⟨y0,y1,y2,y3,y4,y5⟩:=(bx3 D x hF).eX;exact Rg.dD rfl rfl (Rg.dR a.eval _ 28 (aC 3) rfl (by rw [e3]; simp [go_sem,y0,y1,y2,y3,y4,y5])) (hK _ _ rfl (still 0 (by decide)) fun _ _ _ _ _ _ _ h=>h)
  ·cases ho;have e3:a.eval (aC 3)=aj (Y ⟨b3,0,ah⟩):=seen.kp 3 _ (nd 3 (by decide)) rfl;obtain⟨y0,y1,y2,y3,y4,y5⟩:=(bx3 D x hF).eX;exact Rg.dD rfl rfl (Rg.dR a.eval _ 28 (aC 3) rfl (by rw [e3]; simp [go_sem,y0,y1,y2,y3,y4,y5])) (hK _ _ rfl (still 1 (by decide)) fun _ _ _ _ _ _ _ h=>h)
  ·cases ho;have e1:a.eval (aC 1)=U V f:=seen.kp 1 _ (nd 1 (by decide)) rfl;exact Rg.dD rfl rfl (Rg.fV a.eval _ (aC 1) rfl x) (hK _ _ e1 (still 2 (by decide)) fun _ _ _ _ _ _ _ h=>h)
  ·cases ho;have e5:a.eval (aC 5)=aj (Y ⟨b5,0,ah⟩):=seen.kp 5 _ (nd 5 (by decide)) rfl;obtain⟨y0,y1⟩:=(bx5 D x hF).cs2;exact Rg.dD rfl rfl (Rg.dR a.eval _ 31 (aC 5) rfl (by rw [e5]; simp [go_sem,y0,y1])) (hK _ _ rfl (still 3 (by decide)) fun _ _ _ _ _ _ _ h=>h)
  ·cases ho;have e22:a.eval (aC 22)=aM #[U V c,U V d]:=seen.at_ ⟨3,.data⟩ (by simp) rfl (aJ (by decide)) _ rfl;exact Rg.dD rfl rfl (Rg.jZ a.eval _ 41 #[(0,.const (U V 2)),(1,aC 22)] rfl (ps:=#[(0,U V 2),(1,aM #[U V c,U V d])]) (by simp only [aV,aZ,bf,e22]; rfl) (by simp [go_sem])) (hK _ _ rfl (still 4 (by decide)) fun _ _ _ _ _ _ _ h=>h)
  ·cases ho;have e20:a.eval (aC 20)=aM #[U V me,J s1 s2 s3,J s4 s5 s6,J s7 s8 s9,J s10 s11 s12,J s13 s14 s15]:=seen.at_ ⟨1,.data⟩ (by simp) rfl (aJ (by decide)) _ rfl;have e21:a.eval (aC 21)=U V f:=seen.at_ ⟨2,.data⟩ (by simp) rfl (aJ (by decide)) _ rfl;have e23:a.eval (aC 23)=aM #[U V 2,U V c,U V d,U V 0,U V 0,J ah 0 0,J ah 0 0]:=seen.at_ ⟨4,.data⟩ (by simp) rfl (aJ (by decide)) _ rfl;have n6:¬ D 6:=fun h=>hnd (hc 6 _ h rfl ⟨5,.chain⟩ (by simp) rfl);have n7:¬ D 7:=fun h=>hnd (hc 7 _ h rfl ⟨5,.data⟩ (by simp) rfl);have hb:=hF.2.1 n6;exact Rg.gL rfl rfl (yQ a.eval _ (aC 20) (aC 21) (aC 23) 28 3 41 28 rfl e20 e21 e23 rfl _ (gD bD rfl rfl _ _)) (Gq me f 2 c d 0 0 (s1,s2,s3) _ _ _ _ (ah,0,0) [] near x (HN.out.on hb) LN.out (jC _) (aK _)) fun e w1 h=>by
    obtain⟨⟨s,lx,rfl,h1⟩,h3⟩:=h;exact⟨_,rfl,hK _ w1 ⟨s,lx,rfl,h1.le hb.size⟩ ⟨fun h=>absurd (aW rfl) h,fun _=>hb.trans (h3.mono hb.size),fun h=>absurd (h.resolve_left (by decide)) n6⟩ (fun j u hj dj nl nx ni h=>by
    rcases (by omega:j=0\/j=1\/j=2\/j=3\/j=4\/j=5\/j=6\/j=7) with rfl|rfl|rfl|rfl|rfl|rfl|rfl|rfl
    ·exact h
    ·exact h
    ·exact h
    ·exact h
    ·exact h
    ·exact absurd rfl ni
    ·exact h
    ·exact absurd dj n7)⟩
  ·cases ho;have e6:a.eval (aC 6)=aj (Y ⟨b6,0,ah⟩):=seen.kp 6 _ (nd 6 (by decide)) rfl;have e19:a.eval (aC 19)=aM #[U V me,J s1 s2 s3,J s4 s5 s6,J s7 s8 s9,J s10 s11 s12,J s13 s14 s15]:=seen.at_ ⟨0,.data⟩ (by simp) rfl (aJ (by decide)) _ rfl;have d5:D 5:=hD ⟨5,.chain⟩ (by simp) rfl;have hb:=hF.2.1 hnd;have n7:¬ D 7:=fun h=>hnd (hc 7 _ h rfl ⟨6,.chain⟩ (by simp) rfl);have hs:=oC (H6.out.on hb) me s1 s4 s7 s10 s13 s2 s3 s5 s6 s8 s9 s11 s12 s14 s15;have ff:XQ W b3 b5 b6 me s1 s2 s3 s4 s5 s6 s7 s8 s9 s10 s11 s12 s13 s14 s15 f c d near (fun j=>j=6\/D j) (gN x b6 (U V me) (J s1 s2 s3) (J s4 s5 s6) (J s7 s8 s9) (J s10 s11 s12) (J s13 s14 s15)):=⟨fun h=>absurd (aJ d5) h,fun h=>absurd (aW rfl) h,fun _=>⟨x,hb,rfl⟩⟩;have bs:=Z x b6 (U V me) (J s1 s2 s3) (J s4 s5 s6) (J s7 s8 s9) (J s10 s11 s12) (J s13 s14 s15);have h6x:=H6.out.on hb;generalize gN x b6 (U V me) (J s1 s2 s3) (J s4 s5 s6) (J s7 s8 s9) (J s10 s11 s12) (J s13 s14 s15)=x2 at *;have q:=hK (aS aU) x2 trivial ff (fun j u hj dj nl nx ni h=>by
    rcases (by omega:j=0\/j=1\/j=2\/j=3\/j=4\/j=5\/j=6\/j=7) with rfl|rfl|rfl|rfl|rfl|rfl|rfl|rfl
    ·exact h
    ·exact h
    ·exact h
    ·exact h
    ·exact h
    ·obtain⟨s,lx,h1,h2⟩:=h; exact⟨s,lx,h1,h2.but bs h6x (by decide) (by decide)⟩
    ·exact h
    ·exact absurd dj n7)
   exact Rg.fT 28 (aC 6) (aC 19) rfl rfl rfl rfl e6 e19 hs q
  ·cases ho;have E24:=seen.at_ ⟨5,.data⟩ (by simp) rfl (aJ (by decide)) _ rfl;exact Rg.dD rfl rfl (Rg.jJ a.eval _ (aC 24) rfl x) (hK _ _ E24 (still 7 (by decide)) fun _ _ _ _ _ _ _ h=>h)
 ·intro a x df sz kp ⟨vs,hv⟩ ⟨D,hall,hF⟩;obtain⟨s,lx,h1,h2⟩:=(hv 7 (by omega)).2 (by decide);have g7:a.tmps[7]?=Y (dY s):=by
   rw [<- h1];exact (hv 7 (by omega)).1 7 rfl
  obtain⟨y,hy,rfl⟩:=hF.2.2 (hall 6 (by omega));exact HQ.out a y s lx df ((kp 6 (nd 6 (by decide))).trans rfl) g7 hy h2
end Fl
namespace Fl
open Go.RowKit Go.Sort Rw YtmklifheakemeaaGreat.Nm Pr Bk Av Rl Sb
def FlQ (W:aB) (P:Prop) (r:Br×List Ou) (e:Ending) (w':aB):Prop:=(∃ (nv av sv ev ov s:Sl) (lx:List mE),e=aO (.tuple #[mo r.1.me nv av sv ev ov,dY s])/\tH w' r.1 nv av sv ev ov/\(P->qm w' r.1 nv av sv ev ov)/\vY w' W.heap.size (dY s) lx r.2)/\Below W.heap.size W w'
theorem Tg (b:Br) (x:fD) (f:Int):(gW b x f).1.me=b.me/\(gW b x f).1.near=b.near:=by
 unfold gW
 split
 ·exact⟨rfl,rfl⟩
 ·split <;> exact⟨rfl,rfl⟩
theorem Ld (b:Br) (s1:Option aD) (s2 s3:Nat) (s4:Option aD) (s5 s6:Nat) (s7:Option aD) (s8 s9:Nat) (s10:Option aD) (s11 s12:Nat) (s13:Option aD) (s14 s15:Nat) (f c d:Int) (w:aB) (h:tH w b (s1,s2,s3) (s4,s5,s6) (s7,s8,s9) (s10,s11,s12) (s13,s14,s15)) (hf:Hq b) (hfp:Af b) (hr:ql b.dP) :
  aX aH 10 #[aM #[U V b.me,J s1 s2 s3,J s4 s5 s6,J s7 s8 s9,J s10 s11 s12,J s13 s14 s15],U V f,aM #[U V c,U V d]] w (FlQ w (qm w b (s1,s2,s3) (s4,s5,s6) (s7,s8,s9) (s10,s11,s12) (s13,s14,s15)) (iG b f (c,d))):=by
 obtain⟨h0,h1,h2,h3⟩:=gV w #[U V b.me,J s1 s2 s3,J s4 s5 s6,J s7 s8 s9,J s10 s11 s12,J s13 s14 s15] #[U V c,U V d] #[U V 0,J ah 0 0,J ah 0 0,J ah 0 0,J ah 0 0,J ah 0 0] 28 31 28;have FG:=O (fun W hb=>Ni b (c,d) f (s1,s2,s3) (s4,s5,s6) (s7,s8,s9) (s10,s11,s12) (s13,s14,s15) W (h.br.on (show Below w.heap.size w W from hb)) hf hfp);have NO:=O h.no;have LN:=O hf.near;have RC:=O (show ∀ W,Below w.heap.size w W->qm w b (s1,s2,s3) (s4,s5,s6) (s7,s8,s9) (s10,s11,s12) (s13,s14,s15)->qm W b (s1,s2,s3) (s4,s5,s6) (s7,s8,s9) (s10,s11,s12) (s13,s14,s15) from fun W hb hc=>hc.on hb);have UE:=O (show iG b f (c,d)=((gW b (c,d) f).1,if (gW b (c,d) f).2=aU then fC b.near f 2 (c,d) (0,0) [] else []) from by unfold iG; rw [nu hr]);have FM:=O (Tg b (c,d) f);obtain⟨me,hme⟩:∃ me,me=b.me:=⟨_,rfl⟩;have ME:=O hme;simp only [<- hme] at h0 h1 h2 h3 FG ⊢;have gP:=O (h0);have q9:=O (h1);have CF:=O (h2);have Ko:=O (h3);clear h0 h1 h2 h3 h hf hfp hr hme;go_enter Tryz.func10,Tryz.ntmps10;go_upto_region 1 with fail;generalize (((w.alloc (aI #[U V me,J s1 s2 s3,J s4 s5 s6,J s7 s8 s9,J s10 s11 s12,J s13 s14 s15] 28)).alloc (aI #[U V c,U V d] 31)).alloc (aI #[U V 0,J ah 0 0,J ah 0 0,J ah 0 0,J ah 0 0,J ah 0 0] 28))=W at *;have SW:=O (FG.out W gP.out);clear FG;have RC2:=O (RC.out W gP.out);have Xj:=O (NO.out.on gP.out);clear RC NO;obtain⟨x0,x1,x2,x3,x4,x5⟩:=q9.out.eX;obtain⟨y0,y1⟩:=CF.out.cs2;go_wp2_with fail;refine SW.out.mono ?_;rintro e1 w1 ⟨⟨⟨m1,m2,m3⟩,⟨m4,m5,m6⟩,⟨m7,m8,m9⟩,⟨m10,m11,m12⟩,⟨m13,m14,m15⟩,rfl,hbr,hno,hbc⟩,hb⟩;clear SW;clear x0 x1 x2 x3 x4 x5 y0 y1;have lM:=O (gP.out.trans (hb.mono gP.out.size));have tJ:=O (q9.out.on hb);have mh:=O (CF.out.on hb);have vK:=O (Ko.out.on hb);clear gP q9 CF Ko;generalize hr:(gW b (c,d) f).2=r at *;have BN:=O (show tH w1 (gW b (c,d) f).1 (m1,m2,m3) (m4,m5,m6) (m7,m8,m9) (m10,m11,m12) (m13,m14,m15) from ⟨hbr,hno Xj.out⟩);have BNC:=O (show qm w b (s1,s2,s3) (s4,s5,s6) (s7,s8,s9) (s10,s11,s12) (s13,s14,s15)->qm w1 (gW b (c,d) f).1 (m1,m2,m3) (m4,m5,m6) (m7,m8,m9) (m10,m11,m12) (m13,m14,m15) from fun h=>hbc (aW (RC2.out h)));clear hbr hno hbc hb hr RC2 Xj;rw [show (gW b (c,d) f).1.me=me from by rw [FM.out.1,ME.out]];obtain⟨k0,k1,k2,k3,k4,k5⟩:=tJ.out.eX;obtain⟨oI,oJ,oK,oL,oM,oN⟩:=tJ.out.kI;have zz:=tJ.out.lt;have bs:=Z w1 w.heap.size (U V me) (J m1 m2 m3) (J m4 m5 m6) (J m7 m8 m9) (J m10 m11 m12) (J m13 m14 m15);have G0:=O (dG (b:=w.heap.size) lM.out (aQ _) (U V me) (J m1 m2 m3) (J m4 m5 m6) (J m7 m8 m9) (J m10 m11 m12) (J m13 m14 m15));have G1:=O (bs.box mh.out (by omega));have G2:=O (bs.box vK.out (by omega));have G3:=O (BN.out.keep (s1:=(s1,s2,s3)) (s2:=(s4,s5,s6)) (s3:=(s7,s8,s9)) (s4:=(s10,s11,s12)) (s5:=(s13,s14,s15)) (me:=me) tJ.out bs);have G4:=O (fun h=>qm.yO (BNC.out h) bs tJ.out (by decide) (by decide) (by decide) (by decide) (by decide) (by decide));have G5:=O (dK tJ.out (U V me) (J m1 m2 m3) (J m4 m5 m6) (J m7 m8 m9) (J m10 m11 m12) (J m13 m14 m15));clear bs lM mh vK BN BNC tJ;go_upto_region 2 with fail;clear zz k0 k1 k2 k3 k4 k5 oI oJ oK oL oM oN;unfold gN at G0 G1 G2 G3 G4 G5;generalize ((((((w1.setCell ⟨w.heap.size,0,ah⟩ (U V me)).setCell ⟨w.heap.size,1,ah⟩ (J m1 m2 m3)).setCell ⟨w.heap.size,2,ah⟩ (J m4 m5 m6)).setCell ⟨w.heap.size,3,ah⟩ (J m7 m8 m9)).setCell ⟨w.heap.size,4,ah⟩ (J m10 m11 m12)).setCell ⟨w.heap.size,5,ah⟩ (J m13 m14 m15))=w2 at *;have jG:=O (G0.out);have pW:=O (G1.out);have Le:=O (G2.out);have D9:=O (G3.out);have XR:=O (G4.out);have Dp:=O (G5.out);clear G0 G1 G2 G3 G4 G5;cases r
 ·have x0:=Dp.out.cell 0;have x1:=Dp.out.cell 1;have x2:=Dp.out.cell 2;have x3:=Dp.out.cell 3;have x4:=Dp.out.cell 4;have x5:=Dp.out.cell 5;simp only [ak,ay,aA] at x0 x1 x2 x3 x4 x5;obtain⟨r0,r1,r2,r3,r4,r5⟩:=Le.out.eX;obtain⟨xM,vL,Ah,Cq,Cr,Ct⟩:=Le.out.kI;have zz:=Le.out.lt;have bs:=Z w2 (w.heap.size+1+1) (U V me) (J m1 m2 m3) (J m4 m5 m6) (J m7 m8 m9) (J m10 m11 m12) (J m13 m14 m15);have GG:=O (dK Le.out (U V me) (J m1 m2 m3) (J m4 m5 m6) (J m7 m8 m9) (J m10 m11 m12) (J m13 m14 m15));have BL:=O (dG (b:=w.heap.size+1+1) jG.out (by omega) (U V me) (J m1 m2 m3) (J m4 m5 m6) (J m7 m8 m9) (J m10 m11 m12) (J m13 m14 m15));have HB:=O (D9.out.keep (s1:=(ah,0,0)) (s2:=(ah,0,0)) (s3:=(ah,0,0)) (s4:=(ah,0,0)) (s5:=(ah,0,0)) (me:=0) Le.out bs);have HB2:=O (fun h=>qm.yO (XR.out h) bs Le.out (by decide) (by decide) (by decide) (by decide) (by decide) (by decide));clear bs;go_wp2_with fail;obtain⟨v0,v1,v2,v3,v4,v5⟩:=GG.out.eX;refine bodyPost_ret (v:=.tuple #[aM #[U V me,J m1 m2 m3,J m4 m5 m6,J m7 m8 m9,J m10 m11 m12,J m13 m14 m15],J ah 0 0]) (by simp [results,aY,go_sem,v0,v1,v2,v3,v4,v5]) rfl ?_;rw [UE.out,if_neg (by simp)];exact⟨⟨(m1,m2,m3),(m4,m5,m6),(m7,m8,m9),(m10,m11,m12),(m13,m14,m15),(ah,0,0),[],by rw [FM.out.1,ME.out],HB.out,HB2.out,vY.nil _ _⟩,BL.out⟩
 ·go_upto_region 4 with fail;have HN:=O (show qF w2 (J m1 m2 m3) b.near from by have h:=D9.out.br.near; rw [FM.out.2] at h; exact h);refine un4 _ w2 w.heap.size (w.heap.size+1) (w.heap.size+1+1) me m1 m2 m3 m4 m5 m6 m7 m8 m9 m10 m11 m12 m13 m14 m15 f c d b.near _ _ _ _ _ _ _ _ _ _ _ _ _ _ _ _ _ _ _ _ _ _ _ _ _ _ _ Dp.out pW.out Le.out (by omega) (by omega) HN.out LN.out ?_;intro a y s lx hd h6 h7 hy hou;have bs:=Z y (w.heap.size+1+1) (U V me) (J m1 m2 m3) (J m4 m5 m6) (J m7 m8 m9) (J m10 m11 m12) (J m13 m14 m15);have X8y:=Le.out.on hy;have GG:=dK X8y (U V me) (J m1 m2 m3) (J m4 m5 m6) (J m7 m8 m9) (J m10 m11 m12) (J m13 m14 m15);have BL:=O (dG (b:=w.heap.size+1+1) (jG.out.trans (hy.mono jG.out.size)) (by omega) (U V me) (J m1 m2 m3) (J m4 m5 m6) (J m7 m8 m9) (J m10 m11 m12) (J m13 m14 m15));have HB:=O ((D9.out.on hy).keep (s1:=(ah,0,0)) (s2:=(ah,0,0)) (s3:=(ah,0,0)) (s4:=(ah,0,0)) (s5:=(ah,0,0)) (me:=0) X8y bs);have HB2:=O (fun h=>qm.yO (qm.on (XR.out h) hy) bs X8y (by decide) (by decide) (by decide) (by decide) (by decide) (by decide));have HO:=O (hou.le jG.out.size);clear bs X8y hou hy;obtain⟨v0,v1,v2,v3,v4,v5⟩:=GG.eX;simp only [Exit.then]
  apply_assumption
  go_wp2_with fail;refine bodyPost_ret (v:=.tuple #[aM #[U V me,J m1 m2 m3,J m4 m5 m6,J m7 m8 m9,J m10 m11 m12,J m13 m14 m15],dY s]) (by simp [results,aY,go_sem,h6,h7,v0,v1,v2,v3,v4,v5]) hd ?_;rw [UE.out];simp only [if_true];exact⟨⟨(m1,m2,m3),(m4,m5,m6),(m7,m8,m9),(m10,m11,m12),(m13,m14,m15),s,lx,by rw [FM.out.1,ME.out],HB.out,HB2.out,HO.out⟩,BL.out⟩
theorem abm (nU bv:aG) (p q:List C5) (w:aB) (ha:fK w nU p) (hb:fK w bv q) (hp:eD p) (hq:eD q) :
  aX aH 24 #[nU,bv] w fun e w'=>e=aO (aS (jH p q))/\Below w.heap.size w w':=by
 obtain⟨a,na,rfl⟩:=hp;obtain⟨b,nb,rfl⟩:=hq;unfold jH;rw [qw,qw];exact NP nU bv a b w ha hb na nb
structure JI (b0 b:Br) (k:Nat):Prop where
 at_:Ny b0 b k
 ok:ji b
 pe:∀ e∈b.ent,eD e.p
theorem Dq {b:Br} (hok:ji b) (pe:∀ e∈b.ent,eD e.p) (po:∀ o∈b.own,eD o.p) (f:Int) (x:fD) (p:List C5) (o0:List Ou) (k:Nat) (hk:k<=b.own.length):JI b (eF b.own (iX f x p) (b,o0) k).1 k/\(eF b.own (iX f x p) (b,o0) k).2.length<=o0.length+k:=by
 obtain⟨h1,h2,h3⟩:=lU (l:=b.own) (b0:=b) (o0:=o0) (fun o=>jH o.p p) (fun o=>oO x o) (fun _=>f) (fun e=>eD e.p) pe (fun a ha _=>po a ha) k hk;exact⟨⟨h1,sP ji hok (fun s o ho hs=>step_ok hs _ _ _ (oZ _) (hok.Z9 o ho)) k hk,h2⟩,h3⟩
theorem JI.few {b0 b:Br} {k:Nat} (h:JI b0 b k) (hf:Hq b0) (hl:b0.ent.length+b0.own.length<=900) (hk:k<=b0.own.length):Hq b:=⟨by rw [h.at_.near]; exact hf.near,by rw [h.at_.dP]; exact hf.dP,by rw [h.at_.seen]; exact hf.seen,by have:=h.at_.len; omega,by rw [h.at_.own]; exact hf.own⟩
theorem JI.rZ {b0 b:Br} {k:Nat} (h:JI b0 b k) (hf:Af b0):Af b:=⟨by rw [h.at_.dP]; exact hf.dP,fun e he=>iQ (h.pe e he),by rw [h.at_.own]; exact hf.own⟩
def zT (b:Br) (a:Ad):Br×List Ou:=eF b.own (iX a.par a.id a.p) (b,[]) b.own.length
theorem Cw (b:Br) (s1:Option aD) (s2 s3:Nat) (s4:Option aD) (s5 s6:Nat) (s7:Option aD) (s8 s9:Nat) (s10:Option aD) (s11 s12:Nat) (s13:Option aD) (s14 s15:Nat) (x1 x2:Int) (pa:Option aD) (pb pd:Nat) (par:Int) (p:List C5) (w:aB) (h:qm w b (s1,s2,s3) (s4,s5,s6) (s7,s8,s9) (s10,s11,s12) (s13,s14,s15)) (ha:fK w (J pa pb pd) p) (hf:Hq b) (hfp:Af b) (l3:b.ent.length+b.own.length<=900) (hok:ji b) (pe:∀ e∈b.ent,eD e.p) (po:∀ o∈b.own,eD o.p) (pp:eD p) :
  aX aH 36 #[aM #[U V b.me,J s1 s2 s3,J s4 s5 s6,J s7 s8 s9,J s10 s11 s12,J s13 s14 s15],aM #[U V x1,U V x2,J pa pb pd,U V par]] w fun e w'=>(∃ (nv av sv ev ov s:Sl) (lx:List mE),e=aO (.tuple #[mo b.me nv av sv ev ov,dY s])/\qm w' (zT b ⟨(x1,x2),p,par⟩).1 nv av sv ev ov/\vY w' w.heap.size (dY s) lx (zT b ⟨(x1,x2),p,par⟩).2)/\Below w.heap.size w w':=by
 have HP:=O ha;have HF:=O hf;have FP:=O hfp;have L3:=O l3;have PP:=O pp;have PO:=O po;have FO:=O (Dq hok pe po par (x1,x2) p []);have JB:=O (show zT b ⟨(x1,x2),p,par⟩=(eF b.own (iX par (x1,x2) p) (b,[]) b.own.length) from rfl);obtain⟨h0,h1,h2,h3⟩:=gV w #[U V b.me,J s1 s2 s3,J s4 s5 s6,J s7 s8 s9,J s10 s11 s12,J s13 s14 s15] #[U V x1,U V x2,J pa pb pd,U V par] #[U V 0,J ah 0 0,J ah 0 0,J ah 0 0,J ah 0 0,J ah 0 0] 28 74 28;obtain⟨me,hme⟩:∃ me,me=b.me:=⟨_,rfl⟩;have ME:=O hme;simp only [<- hme] at h0 h1 h2 h3 ⊢;obtain⟨lw,ho1,ho2⟩:=h.br.own;have HOB:=O (h.on h0);have gP:=O (h0);have Np:=O (h1);have Nq:=O (h2);have Nr:=O (h3);have agK:=O (h.on h0);have al3:=O (ha.on h0);obtain⟨n5,hn5⟩:∃ n,n=b.own.length:=⟨_,rfl⟩;have N5:=O hn5;have SO:=O (show s14=n5 from by
  obtain⟨_,_,hv⟩:=ho1.len;have h4:s14=lw.length:=by simpa using congrArg (fun v=>match v with | Value.slice _ n _=>n | _=>0) hv
  rw [hn5,h4,ho2.len])
 have N9:=O (show n5<=900 from by rw [hn5]; exact hf.own);rw [JB.out];clear h0 h1 h2 h3 h ha hf hfp l3 hok pe po pp ho1 ho2 lw hme hn5 HOB;have so:=SO.out;subst so;go_enter Tryz.func36,Tryz.ntmps36;go_upto_region 1 with fail;generalize (((w.alloc (aI #[U V me,J s1 s2 s3,J s4 s5 s6,J s7 s8 s9,J s10 s11 s12,J s13 s14 s15] 28)).alloc (aI #[U V x1,U V x2,J pa pb pd,U V par] 74)).alloc (aI #[U V 0,J ah 0 0,J ah 0 0,J ah 0 0,J ah 0 0,J ah 0 0] 28))=W at *;have WS:=O gP.out.size;have X4L:=O (show w.heap.size+1+1<W.heap.size from Nr.out.lt);obtain⟨c0,c1,c2,c3,c4,c5⟩:=Np.out.eX;go_wp2_with fail;clear c0 c1 c2 c3 c4 c5
 go_loopw [6,14] (fun v i wr=>∃ (k:Nat) (m1:Option aD) (m2 m3:Nat) (m4:Option aD) (m5 m6:Nat) (m7:Option aD) (m8 m9:Nat) (m10:Option aD) (m11 m12:Nat) (m13:Option aD) (m14 m15:Nat) (lx:List mE),k<=s14/\i=U V k/\Below w.heap.size w wr/\dJ wr w.heap.size #[U V me,J m1 m2 m3,J m4 m5 m6,J m7 m8 m9,J m10 m11 m12,J m13 m14 m15] 28/\dJ wr (w.heap.size+1) #[U V x1,U V x2,J pa pb pd,U V par] 74/\dJ wr (w.heap.size+1+1) #[U V 0,J ah 0 0,J ah 0 0,J ah 0 0,J ah 0 0,J ah 0 0] 28/\qm wr b (s1,s2,s3) (s4,s5,s6) (s7,s8,s9) (s10,s11,s12) (s13,s14,s15)/\qm wr (eF b.own (iX par (x1,x2) p) (b,[]) k).1 (m1,m2,m3) (m4,m5,m6) (m7,m8,m9) (m10,m11,m12) (m13,m14,m15)/\vY wr W.heap.size v lx (eF b.own (iX par (x1,x2) p) (b,[]) k).2/\W.heap.size<=wr.heap.size) (fun _ i _=>s14-(intOf i).toNat)
 case atStart=>exact⟨0,s1,s2,s3,s4,s5,s6,s7,s8,s9,s10,s11,s12,s13,s14,s15,[],aK _,rfl,gP.out,Np.out,Nq.out,Nr.out,agK.out,agK.out,vY.nil _ _,aQ _⟩
 case round =>
  clear gP Np Nq Nr agK al3;obtain⟨k,m1,m2,m3,m4,m5,m6,m7,m8,m9,m10,m11,m12,m13,m14,m15,lx,hk,rfl,hgb,hx2,hx3,hx4,hbc,hbm,hou,hws⟩:=hrel;have zK:=O (hgb);have XT:=O (hx2);have Ke:=O (hx3);have uj:=O (hx4);have XV:=O (hbc);have XW:=O (hbm);have Ql:=O (hou);have HW:=O hws;clear hgb hx2 hx3 hx4 hbc hbm hou hws;obtain⟨hji,hol⟩:=FO.out k (by rw [<- N5.out]; exact hk);have KI:=O hji;have OL:=O hol;clear hji hol;by_cases hlt:k<s14
  ·have hlt':(k:Int)<(s14:Int):=by omega
   have hw:IntKind.i64.wrap ((k:Int)+1)=(k:Int)+1:=aP _ (by have:=N9.out; omega);obtain⟨o,Iu⟩:∃ o,b.own[k]?=Y o:=⟨_,au (by rw [<- N5.out]; exact hlt)⟩;have US:=O (kM (iX par (x1,x2) p) (b,[]) Iu);have OKO:=O (PO.out o (aT Iu));obtain⟨lw,ho1,ho2⟩:=XV.out.br.own;obtain⟨z,hz1,hz2⟩:=ho2.at k o Iu;obtain⟨pq,ix,px⟩:=elW ho1 rfl (by rw [ho2.len]; exact N5.out.symm) hz1;obtain⟨p0,p1,p2⟩:=px wr (aF _ _);obtain⟨y1,y2,⟨yo,yn,yc⟩⟩:=z;have ZI:=O (show o.id=(y1,y2) from hz2.1.symm);have PO_:=O (show fK wr (J yo yn yc) o.p from hz2.2);simp only at p0 p1 p2;clear px hz1 hz2 ho1 ho2 lw Iu;go_upto_region 5 with fail;clear p0 p1 p2 ix;have NN:=fF wr (aI #[U V y1,U V y2,J yo yn yc] 34);have ru:=O (zK.out.trans (NN.mono zK.out.size));have acF:=O (XT.out.on NN);have uD:=O (Ke.out.on NN);have acG:=O (uj.out.on NN);have Lf:=O (XV.out.on NN);have acH:=O (XW.out.on NN);have acI:=O (Ql.out.on NN);have NY:=O (PO_.out.on NN);clear zK XT Ke uj XV XW Ql PO_;have Dr:=O (dO wr #[U V y1,U V y2,J yo yn yc] 34);clear NN;have HW2:=O (show W.heap.size<=(wr.alloc (aI #[U V y1,U V y2,J yo yn yc] 34)).heap.size from by have:=HW.out; simp; omega);clear HW
   skip
   generalize hwa:wr.alloc (aI #[U V y1,U V y2,J yo yn yc] 34)=wa at *;have XOB:=O (show wr.heap.size<wa.heap.size from Dr.out.lt);clear hwa;obtain⟨mt,hmt⟩:∃ r,jH o.p p=r:=⟨_,rfl⟩;have MT:=O (abm (J yo yn yc) (J pa pb pd) o.p p wa NY.out (HP.out.on ru.out) OKO.out PP.out);rw [hmt] at MT;have IY:=O (show (eF b.own (iX par (x1,x2) p) (b,[]) (k+1))=fZ (eF b.own (iX par (x1,x2) p) (b,[]) k) mt (oO (x1,x2) o) par from by rw [<- hmt]; exact US.out);clear hmt US;obtain⟨z0,z1,z2⟩:=Dr.out.cs3;obtain⟨a_0,a_1,a_2,a_3⟩:=uD.out.Ak;go_wp2_with fail;refine MT.out.mono ?_;rintro e4 wb ⟨rfl,hb⟩;clear MT;clear z0 z1 z2 a_0 a_1 a_2 a_3;have zU:=O (ru.out.trans (hb.mono ru.out.size));have XY:=O (acF.out.on hb);have Qm:=O (uD.out.on hb);have XZ:=O (acG.out.on hb);have Dt:=O (Lf.out.on hb);have X8:=O (acH.out.on hb);have X9:=O (acI.out.on hb);have Ya:=O (NY.out.on hb);have zV:=O (Dr.out.on hb);clear ru acF uD acG Lf acH acI NY Dr;have HW3:=O (aL HW2.out hb.size);clear hb HW2;cases mt
   ·have Gc:=O (show (eF b.own (iX par (x1,x2) p) (b,[]) (k+1))=(eF b.own (iX par (x1,x2) p) (b,[]) k) from by rw [IY.out]; rfl);go_wp2_with fail
    go_roundw
    case rel=>exact⟨k+1,m1,m2,m3,m4,m5,m6,m7,m8,m9,m10,m11,m12,m13,m14,m15,lx,hlt,by go_num,zU.out,XY.out,Qm.out,XZ.out,Dt.out,by rw [Gc.out]; exact X8.out,by rw [Gc.out]; exact X9.out,HW3.out⟩
    case measure=>simp [intOf]; omega
   ·have z0:=zV.out.cell 0;have z1:=zV.out.cell 1;have z2:=zV.out.cell 2;simp only [ak,ay,aA] at z0 z1 z2;obtain⟨a_0,a_1,a_2,a_3⟩:=Qm.out.Ak;go_upto_region 8 with fail;clear z0 z1 z2 a_0 a_1 a_2 a_3;have NN:=fF wb (aI #[U V x1,U V x2,U V y1,U V y2,J yo yn yc,U V (-1),aS aR] 66);have Du:=O (zU.out.trans (NN.mono zU.out.size));have uG:=O (XY.out.on NN);have acJ:=O (Qm.out.on NN);have acK:=O (XZ.out.on NN);have yA:=O (Dt.out.on NN);have Yb:=O (X8.out.on NN);have acL:=O (X9.out.on NN);have NZ:=O (Ya.out.on NN);have Lg:=O (zV.out.on NN);clear zU XY Qm XZ Dt X8 X9 Ya zV;have Yc:=O (dO wb #[U V x1,U V x2,U V y1,U V y2,J yo yn yc,U V (-1),aS aR] 66);clear NN;generalize hwc:wb.alloc (aI #[U V x1,U V x2,U V y1,U V y2,J yo yn yc,U V (-1),aS aR] 66)=wc at *;have HWC:=O (show W.heap.size<=wc.heap.size from by rw [<- hwc]; have:=HW3.out; simp; omega);clear hwc HW3;generalize wb.heap.size=bE at *;have AD:=O (XA (eF b.own (iX par (x1,x2) p) (b,[]) k).1 (oO (x1,x2) o) (m1,m2,m3) (m4,m5,m6) (m7,m8,m9) (m10,m11,m12) (m13,m14,m15) (x1,x2,y1,y2,(yo,yn,yc),-1,aR) wc Yb.out.br ⟨rfl,ZI.out.symm,rfl,rfl,NZ.out⟩ (KI.out.few HF.out L3.out (by rw [<- N5.out]; exact hk)) (KI.out.rZ FP.out) KI.out.ok.ent KI.out.pe OKO.out);rw [KI.out.at_.me,<- ME.out] at AD;obtain⟨x0,x1,x2,x3,x4,x5⟩:=uG.out.eX;obtain⟨z0,z1,z2,z3,z4,z5,z6⟩:=Yc.out.nJ;go_wp2_with fail;refine AD.out.mono ?_;rintro e5 wd ⟨⟨⟨j1,j2,j3⟩,⟨j4,j5,j6⟩,⟨j7,j8,j9⟩,⟨j10,j11,j12⟩,⟨j13,j14,j15⟩,rfl,hr,hno,hx⟩,hb⟩;clear AD;clear x0 x1 x2 x3 x4 x5 z0 z1 z2 z3 z4 z5 z6;have BX:=O (hx (aW Yb.out));clear hr hno hx;clear Yb;have qC:=O (Du.out.trans (hb.mono Du.out.size));have vZ:=O (uG.out.on hb);have zQ:=O (acJ.out.on hb);have zR:=O (acK.out.on hb);have Yd:=O (yA.out.on hb);have acM:=O (acL.out.on hb);have Ye:=O (NZ.out.on hb);have F9:=O (Lg.out.on hb);have Yf:=O (Yc.out.on hb);clear Du uG acJ acK yA acL NZ Lg Yc;have HWD:=O (aL HWC.out hb.size);clear hb HWC;obtain⟨up,hup⟩:∃ r,(iK (eF b.own (iX par (x1,x2) p) (b,[]) k).1 (oO (x1,x2) o)).2=r:=⟨_,rfl⟩;rw [show (iK (eF b.own (iX par (x1,x2) p) (b,[]) k).1 (oO (x1,x2) o)).1.me=me from by rw [(jK _ _).1,KI.out.at_.me,ME.out]];rw [hup];have Gc:=O (show (eF b.own (iX par (x1,x2) p) (b,[]) (k+1))=((iK (eF b.own (iX par (x1,x2) p) (b,[]) k).1 (oO (x1,x2) o)).1,if up=aU then (eF b.own (iX par (x1,x2) p) (b,[]) k).2++[xS par (oO (x1,x2) o)] else (eF b.own (iX par (x1,x2) p) (b,[]) k).2) from by rw [IY.out]; unfold fZ; rw [if_neg (by simp),hup]);clear hup IY;have NEB:=O (show bE≠w.heap.size from fun e=>by have h1:=Yf.out; have h2:=vZ.out; unfold dJ at h1 h2; rw [e] at h1; rw [h1] at h2; injection h2 with h2; injection h2 with h2; simp at h2);have HWX:=O (show W.heap.size<=(gN wd w.heap.size (U V me) (J j1 j2 j3) (J j4 j5 j6) (J j7 j8 j9) (J j10 j11 j12) (J j13 j14 j15)).heap.size from by have:=HWD.out; simp [gN]; omega);clear HWD;clear F9;obtain⟨k0,k1,k2,k3,k4,k5⟩:=vZ.out.eX;obtain⟨oI,oJ,oK,oL,oM,oN⟩:=vZ.out.kI;have zz:=vZ.out.lt;have bs:=Z wd w.heap.size (U V me) (J j1 j2 j3) (J j4 j5 j6) (J j7 j8 j9) (J j10 j11 j12) (J j13 j14 j15);have G0:=O (dG (b:=w.heap.size) qC.out (aQ _) (U V me) (J j1 j2 j3) (J j4 j5 j6) (J j7 j8 j9) (J j10 j11 j12) (J j13 j14 j15));have G1:=O (bs.box zQ.out (by omega));have G2:=O (bs.box zR.out (by omega));have G3:=O (Yd.out.yO bs vZ.out (by decide) (by decide) (by decide) (by decide) (by decide) (by decide));have G4:=O (BX.out.yO bs vZ.out (by decide) (by decide) (by decide) (by decide) (by decide) (by decide));have G5:=O (acM.out.but bs vZ.out (by decide) (by decide));have G6:=O (bs.box Yf.out NEB.out);have G7:=O (rM (s1:=(m1,m2,m3)) (s2:=(m4,m5,m6)) (s3:=(m7,m8,m9)) (s4:=(m10,m11,m12)) (s5:=(m13,m14,m15)) vZ.out bs Ye.out);have G8:=O (dK vZ.out (U V me) (J j1 j2 j3) (J j4 j5 j6) (J j7 j8 j9) (J j10 j11 j12) (J j13 j14 j15));clear bs qC zQ zR Yd BX acM Yf Ye vZ;go_upto_region 9 with fail;clear zz k0 k1 k2 k3 k4 k5 oI oJ oK oL oM oN;unfold gN at G0 G1 G2 G3 G4 G5 G6 G7 G8 HWX;generalize ((((((wd.setCell ⟨w.heap.size,0,ah⟩ (U V me)).setCell ⟨w.heap.size,1,ah⟩ (J j1 j2 j3)).setCell ⟨w.heap.size,2,ah⟩ (J j4 j5 j6)).setCell ⟨w.heap.size,3,ah⟩ (J j7 j8 j9)).setCell ⟨w.heap.size,4,ah⟩ (J j10 j11 j12)).setCell ⟨w.heap.size,5,ah⟩ (J j13 j14 j15))=we at *;have mI:=O (G0.out);have uE:=O (G1.out);have rz:=O (G2.out);have Gr:=O (G3.out);have acN:=O (G4.out);have Yg:=O (G5.out);have ajr:=O (G6.out);have agL:=O (G7.out);have acO:=O (G8.out);clear G0 G1 G2 G3 G4 G5 G6 G7 G8;cases up
    ·have US4:=O (show (eF b.own (iX par (x1,x2) p) (b,[]) (k+1))=((iK (eF b.own (iX par (x1,x2) p) (b,[]) k).1 (oO (x1,x2) o)).1,(eF b.own (iX par (x1,x2) p) (b,[]) k).2) from by rw [Gc.out]; simp);go_wp2_with fail
     go_roundw
     case rel=>exact⟨k+1,j1,j2,j3,j4,j5,j6,j7,j8,j9,j10,j11,j12,j13,j14,j15,lx,hlt,by go_num,mI.out,acO.out,uE.out,rz.out,Gr.out,by rw [US4.out]; exact acN.out,by rw [US4.out]; exact Yg.out,HWX.out⟩
     case measure=>simp [intOf]; omega
    ·have US4:=O (show (eF b.own (iX par (x1,x2) p) (b,[]) (k+1))=((iK (eF b.own (iX par (x1,x2) p) (b,[]) k).1 (oO (x1,x2) o)).1,(eF b.own (iX par (x1,x2) p) (b,[]) k).2++[xS par (oO (x1,x2) o)]) from by rw [Gc.out]; simp);go_upto_region 10 with fail;refine al0 _ we (w.heap.size+1) bE W.heap.size x1 x2 pa pb pd par x1 x2 y1 y2 yo yn yc (-1) aR o.p _ lx (eF b.own (iX par (x1,x2) p) (b,[]) k).2 _ _ _ _ _ _ _ _ _ _ _ _ _ _ _ _ _ _ _ _ _ _ _ _ _ _ _ _ _ _ _ _ _ _ _ _ _ _ _ _ _ _ _ _ _ _ uE.out ajr.out Yg.out HWX.out (by rw [Yg.out.len]; have h1:=OL.out; have h2:=N9.out; simp at h1; omega) agL.out (iQ OKO.out) ?_;intro x w6 s v38 v39 v40 v41 v42 v43 v44 v45 hou hbl hbx hmx _;have V0:=O (mI.out.trans (hbl.mono (aL (Nat.le_of_lt (show w.heap.size<W.heap.size from by have:=X4L.out; omega)) (aQ _))));have V1:=O (hbx _ _ _ (by decide) acO.out);have V2:=O (hbx _ _ _ (by decide) uE.out);have V3:=O (hbx _ _ _ (by decide) rz.out);have V4:=O (hmx _ _ _ _ _ _ Gr.out);have V5:=O (hmx _ _ _ _ _ _ acN.out);have V6:=O hou;have V7:=O (aL HWX.out hbl.size);clear hou hbl hbx hmx;go_wp2_with fail
     go_roundw
     case rel=>exact⟨k+1,j1,j2,j3,j4,j5,j6,j7,j8,j9,j10,j11,j12,j13,j14,j15,_,hlt,by go_num,V0.out,V1.out,V2.out,V3.out,V4.out,by rw [US4.out]; exact V5.out,by rw [US4.out,show xS par (oO (x1,x2) o)=⟨par,3,(x1,x2),(y1,y2),o.p⟩ from by unfold xS oO; rw [ZI.out]]; exact V6.out,V7.out⟩
     case measure=>simp [intOf]; omega
  ·obtain rfl:k=s14:=by omega
   have HJ:=O (show k=b.own.length from N5.out);obtain⟨x0,x1,x2,x3,x4,x5⟩:=XT.out.eX;obtain⟨r0,r1,r2,r3,r4,r5⟩:=uj.out.eX;obtain⟨xM,vL,Ah,Cq,Cr,Ct⟩:=uj.out.kI;have zz:=uj.out.lt;have bs:=Z wr (w.heap.size+1+1) (U V me) (J m1 m2 m3) (J m4 m5 m6) (J m7 m8 m9) (J m10 m11 m12) (J m13 m14 m15);have GG:=O (dK uj.out (U V me) (J m1 m2 m3) (J m4 m5 m6) (J m7 m8 m9) (J m10 m11 m12) (J m13 m14 m15));have BL:=O (dG (b:=w.heap.size+1+1) zK.out (by omega) (U V me) (J m1 m2 m3) (J m4 m5 m6) (J m7 m8 m9) (J m10 m11 m12) (J m13 m14 m15));have HC:=O (XW.out.yO bs uj.out (by decide) (by decide) (by decide) (by decide) (by decide) (by decide));have HO:=O (Ql.out.but bs uj.out (by decide) (by decide));obtain⟨va,vc,hv⟩:=(Row.dH Ql.out.row).len;subst hv;clear bs;go_wp2_with fail;obtain⟨v0,v1,v2,v3,v4,v5⟩:=GG.out.eX;refine bodyPost_ret (v:=.tuple #[aM #[U V me,J m1 m2 m3,J m4 m5 m6,J m7 m8 m9,J m10 m11 m12,J m13 m14 m15],J va lx.length vc]) (by simp [results,Tryz.results36,go_sem,v0,v1,v2,v3,v4,v5]) rfl ?_;rw [<- HJ.out];exact⟨⟨(m1,m2,m3),(m4,m5,m6),(m7,m8,m9),(m10,m11,m12),(m13,m14,m15),(va,lx.length,vc),lx,by rw [ME.out],HC.out,HO.out.le (by have:=WS.out; omega)⟩,BL.out⟩
end Fl
namespace Sb
open Go.RowKit Go.Sort Rw YtmklifheakemeaaGreat.Nm Pr Bk Av
end Sb
namespace Sb
open Go.RowKit Go.Sort Rw YtmklifheakemeaaGreat.Nm Pr Bk Av Rl
end Sb
namespace Fl
open Go.RowKit Go.Sort Rw YtmklifheakemeaaGreat.Nm Pr Bk
theorem Lh (W:aB):At.QG W (J ah 0 0) []:=aW ⟨rfl,rfl⟩
theorem Yh (k c d g h:Int) (po:Option aD) (pn pc:Nat) (qo:Option aD) (qn qc:Nat) (p:List C5) (w:aB) (hp:fK w (J po pn pc) p) (hq:fK w (J qo qn qc) p) (hl:p.length<=1000) :
  aX aH 52 #[aM #[U V k,U V c,U V d,U V g,U V h,J po pn pc,J ah 0 0],aM #[U V k,U V c,U V d,U V g,U V h,J qo qn qc,J ah 0 0]] w fun e w'=>e=aO (aS aU)/\Below w.heap.size w w':=by
 obtain⟨NB,K1,K2⟩:=gM w #[U V k,U V c,U V d,U V g,U V h,J po pn pc,J ah 0 0] #[U V k,U V c,U V d,U V g,U V h,J qo qn qc,J ah 0 0] 41 41;have B2:=O NB;have X1:=O K1;have X2:=O K2;have e1:=tF c d c d aU (by simp);have e2:=tF g h g h aU (by simp);have SP:=O (fun w' (hb:Below _ _ w')=>uP _ _ p p w' ((hp.on NB).on hb) ((hq.on NB).on hb) (by omega) (by omega));have SS:=O (show jE p p=aU from (qV p p).2 rfl);clear NB K1 K2 hp hq hl;go_enter Tryz.func52,Tryz.ntmps52;go_upto_region 1 with fail;generalize (w.alloc (aI #[U V k,U V c,U V d,U V g,U V h,J po pn pc,J ah 0 0] 41)).alloc (aI #[U V k,U V c,U V d,U V g,U V h,J qo qn qc,J ah 0 0] 41)=W at *;obtain⟨x0,x1,x2,x3,x4,x5,x6⟩:=X1.out.nJ;obtain⟨y0,y1,y2,y3,y4,y5,y6⟩:=X2.out.nJ;go_wp2_with fail;refine (SP.out _ (aF _ _)).mono ?_;rw [SS.out];rintro e3 w3 ⟨rfl,hb⟩;have B3:=O (B2.out.trans (hb.mono B2.out.size));have Y1:=X1.out.on hb;have Y2:=X2.out.on hb;have c4:=Y1.cell 6;have d4:=Y2.cell 6;simp at c4 d4;have SL:=O (At.Q7 _ _ [] [] w3 (Lh w3) (Lh w3) (aK _) (aK _));clear hb SP X1 X2 Y1 Y2 B2 x0 x1 x2 x3 x4 x5 x6 y0 y1 y2 y3 y4 y5 y6;go_wp2_with fail;refine SL.out.mono ?_;rintro e4 w4 ⟨rfl,hb⟩;have B4:=O (B3.out.trans (hb.mono B3.out.size));clear hb SL B3;go_wp2_with fail;go_ret;exact⟨rfl,B4.out⟩
theorem Li (nU bv:aG) (l m:List mE) (L:List Ou) (w:aB) (ha:Ju w nU l) (hb:Ju w bv m) (ua:eY (rD w) l L) (ub:eY (rD w) m L) (sa:∀ o∈L,o.p.length<=1000) (hl:L.length<=1000000) :
  aX aH 19 #[nU,bv] w fun e w'=>e=aO (aS aU)/\Below w.heap.size w w':=by
 have UA:=O ua;have UB:=O ub;have SH:=O sa;have HA:=O ha;have HB:=O hb;obtain⟨ao,ac,rfl⟩:=ha.len;obtain⟨bo,bc,rfl⟩:=hb.len;have hlm:m.length=l.length:=by rw [ua.len,ub.len]
 rw [hlm] at HB ⊢;have HL:=O hlm;have hl2:l.length<=1000000:=by rw [ua.len]; exact hl
 obtain⟨n,hn⟩:∃ n,n=l.length:=⟨_,rfl⟩;simp only [<- hn] at HA HB hl2 ⊢;have HN:=O hn.symm;clear ua ub sa ha hb hlm hn hl;go_enter Tryz.func19,Tryz.ntmps19;go_wp2
 go_loopw [13] (fun i wr=>∃ k:Nat,k<=n/\i=U V k/\Below w.heap.size w wr) (fun i _=>n-(intOf i).toNat)
 case atStart=>exact⟨0,aK _,rfl,aF _ _⟩
 case round =>
  obtain⟨k,hk,rfl,hbe⟩:=hrel;have BE:=O hbe;clear hbe;by_cases hlt:k<n
  ·obtain⟨x,hx⟩:∃ x,l[k]?=Y x:=⟨_,au (by rw [HN.out]; exact hlt)⟩;obtain⟨y,hy⟩:∃ y,m[k]?=Y y:=⟨_,au (by rw [HL.out,HN.out]; exact hlt)⟩;obtain⟨p,ix,px⟩:=elU HA.out rfl HN.out hx;obtain⟨q,iy,py⟩:=elU HB.out rfl (HL.out.trans HN.out) hy;obtain⟨sx,hsx,ix_⟩:=nG UA.out k x hx;obtain⟨sy,hsy,iy_⟩:=nG UB.out k y hy;rw [hsx] at hsy;obtain rfl:=aN hsy;obtain⟨x1,x2,x3,x4,x5,x6,⟨xo,xn,xc⟩,x8⟩:=x;obtain⟨y1,y2,y3,y4,y5,y6,⟨yo,yn,yc⟩,y8⟩:=y;obtain⟨iM,kd,⟨t1,t2⟩,⟨i1,i2⟩,sp⟩:=sx;obtain⟨h1,h2,h3,h4,rx,h6⟩:=ix_;obtain⟨g1,g2,g3,g4,ry,g6⟩:=iy_;simp only [Prod.mk.injEq] at h1 h2 h3 h4 h6 g1 g2 g3 g4 g6;obtain⟨rfl,rfl⟩:=h3;obtain⟨rfl,rfl⟩:=h4;obtain⟨rfl,rfl⟩:=g3;obtain⟨rfl,rfl⟩:=g4;subst h1 h2 h6 g1 g2 g6;simp only at px py;have p0:=cell_regrown (px _ BE.out).1;have p1:=cell_regrown (px _ BE.out).2.1;have p2:=cell_regrown (px _ BE.out).2.2.1;have p3:=cell_regrown (px _ BE.out).2.2.2.1;have p4:=cell_regrown (px _ BE.out).2.2.2.2.1;have p5:=cell_regrown (px _ BE.out).2.2.2.2.2.1;have p6:=cell_regrown (px _ BE.out).2.2.2.2.2.2.1;have p7:=cell_regrown (px _ BE.out).2.2.2.2.2.2.2;have q0:=cell_regrown (py _ BE.out).1;have q1:=cell_regrown (py _ BE.out).2.1;have q2:=cell_regrown (py _ BE.out).2.2.1;have q3:=cell_regrown (py _ BE.out).2.2.2.1;have q4:=cell_regrown (py _ BE.out).2.2.2.2.1;have q5:=cell_regrown (py _ BE.out).2.2.2.2.2.1;have q6:=cell_regrown (py _ BE.out).2.2.2.2.2.2.1;have q7:=cell_regrown (py _ BE.out).2.2.2.2.2.2.2;have CS:=O (fun d os=>Calls.regrown_of (d:=d) (os:=os) (Yh y2 y3 y4 y5 y6 xo xn xc yo yn yc sp _ ((rx.on BE.out).on (below_regrown wr d os)) ((ry.on BE.out).on (below_regrown wr d os)) (SH.out _ (aT hsx))));have hne:(y1 != y1)=aR:=by simp
   have hw3:IntKind.i64.wrap ((k:Int)+1)=(k:Int)+1:=aP _ (by omega);clear px py hx hy hsx rx ry;go_wp2;refine wp_region_quiet_below (by kernel_rfl) (by kernel_rfl) ?_
   repeat (go_big_quiet_step (first | (with_reducible exact CS.out _ _)))
   refine wpQuiet_nil ?_;intro _ hw';obtain⟨⟨dq,osq⟩,hw''⟩:=hw';subst hw'';clear ix iy p0 q0 p1 q1 p2 q2 p3 q3 p4 q4 p5 q5 p6 q6 p7 q7 hne;go_wp2
   go_roundw
   case rel=>exact⟨k+1,by omega,by go_num,BE.out.trans ((below_regrown wr dq osq).mono BE.out.size)⟩
   case measure=>simp [intOf]; omega
  ·obtain rfl:k=n:=by omega
   go_wp2;go_ret;exact⟨rfl,BE.out⟩
end Fl
namespace Sb
open Go.RowKit Go.Sort Rw YtmklifheakemeaaGreat.Nm Pr Bk Av Rl
abbrev tA (m:List En) (a:Ad):Bool:=a.par == -1 || wR (wQ m a.id)
theorem Dv (b:Br) (nv av sv ev ov:Sl) (w:aB) (h:iN w b nv av sv ev ov) (hr:nQ b.ent) (hl:b.ent.length<=1000) (hok:∀ e∈b.ent,eD e.p) :
  aX aH 21 #[mo b.me nv av sv ev ov] w fun e w'=>e=aO (aS (Iy b))/\Below w.heap.size w w':=by
 obtain⟨no,nn,nc⟩:=nv;obtain⟨ao,an,ac⟩:=av;obtain⟨so,sn,sc⟩:=sv;obtain⟨eo,en,ec⟩:=ev;obtain⟨oo,dU,oc⟩:=ov;obtain⟨la,ha1,ha2⟩:=h.dP;obtain⟨le,he1,he2⟩:=h.ent;have h0:=fF w (aI #[U V b.me,J no nn nc,J ao an ac,J so sn sc,J eo en ec,J oo dU oc] 28);have X:=dO w #[U V b.me,J no nn nc,J ao an ac,J so sn sc,J eo en ec,J oo dU oc] 28;have B:=O h0;have A1:=O (ha1.on h0);have A2:=O (ha2.mono fun _ _ q=>q.on h0);have E1:=O (he1.on h0);have E2:=O (he2.mono fun _ _ q=>q.on h0);have X1:=O X;have x2:=X.cell 2;simp only [ak,ay,aA] at x2;have hn:=uw ha1;have lm:=ha1.most;unfold maxLen at lm;rw [hn] at lm;have HN:=O hn;have HR:=O hr;have HL:=O (show le.length<=1000 by rw [he2.len]; exact hl);have OK:=O hok;obtain⟨tb,htb⟩:∃ r,Iy b=r:=⟨_,rfl⟩;rw [htb];have TB:=O htb;clear h0 X ha1 ha2 he1 he2 h hn hr hl hok htb;go_enter Tryz.func21,Tryz.ntmps21;go_upto_region 1 with fail;generalize w.alloc (aI #[U V b.me,J no nn nc,J ao an ac,J so sn sc,J eo en ec,J oo dU oc] 28)=W at *;go_wp2
 go_loopw [8] (fun i wr=>∃ k:Nat,k<=an/\i=U V k/\Below W.heap.size W wr/\∀ (j:Nat) (y:Ad),j<k->b.dP[j]?=Y y->tA b.ent y=aU) (fun i _=>an-(intOf i).toNat)
 case atStart=>exact⟨0,aK _,rfl,aF _ _,fun j y h=>by omega⟩
 case round =>
  obtain⟨k,hk,rfl,hbe,hall⟩:=hrel;have BE:=O hbe;have AL:=O hall;clear hbe hall;by_cases hlt:k<an
  ·obtain⟨y,hy⟩:∃ y,la[k]?=Y y:=⟨_,au (by rw [HN.out]; exact hlt)⟩;obtain⟨q,ix,px⟩:=IJ A1.out rfl HN.out hy;obtain⟨p0,p1,p2,p3⟩:=px wr BE.out;obtain⟨a,ha⟩:∃ a,b.dP[k]?=Y a:=⟨_,au (by rw [<- A2.out.len,HN.out]; exact hlt)⟩;obtain⟨y',hy',hx⟩:=A2.out.at k a ha;rw [hy] at hy';obtain rfl:=aN hy';obtain⟨y1,y2,⟨yo,yn,yc⟩,y4⟩:=y;simp only at p0 p1 p2 p3;have NB:=O (fF wr (aI #[U V y1,U V y2,J yo yn yc,U V y4] 74));have BF:=O (BE.out.trans (NB.out.mono BE.out.size));have x4:=(X1.out.on BF.out).cell 4;simp only [ak,ay,aA] at x4;have hw3:IntKind.i64.wrap ((k:Int)+1)=(k:Int)+1:=aP _ (by omega);have HA:=O ha;have HX:=O (show ((y1,y2):fD)=a.id/\y4=a.par from ⟨hx.1,hx.2.1⟩);clear px hy ha hx x2;by_cases hp:y4=-1
   ·have hne:(y4 != -1)=aR:=by simp [hp]
    have HV:=O (show tA b.ent a=aU by unfold tA; rw [<- HX.out.2,hp]; rfl);clear hp;go_wp2
    go_roundw
    case rel=>exact⟨k+1,by omega,by go_num,BF.out,fun j y' hj h1=>by
     rcases bg j k with h3|h3
     ·exact AL.out j y' h3 h1
     ·obtain rfl:j=k:=by omega
      have e1:=HA.out;rw [h1] at e1;rw [aN e1];exact HV.out⟩
    case measure=>simp [intOf]; omega
   ·have hne:(y4 != -1)=aU:=by simp [hp]
    obtain⟨t,ht⟩:∃ r,wR (wQ b.ent (y1,y2))=r:=⟨_,rfl⟩;have HV:=O (show tA b.ent a=t by
     unfold tA;rw [<- HX.out.2,<- HX.out.1,ht,show (y4 == -1)=aR by simpa using hp,Bool.false_or])
    have BR:=O (C9 (eo,en,ec) le b.ent (y1,y2) _ (E1.out.on BF.out) (E2.out.mono fun _ _ q=>q.on BF.out) HR.out HL.out);obtain⟨c1,c2⟩:=Xx E1.out E2.out (y1,y2);have C1:=O c1;have C2:=O c2;generalize cutV (eo,en,ec) (kV b.ent (y1,y2)) (wQ b.ent (y1,y2)).length=z at *;obtain⟨z1,z2,z3⟩:=z;have HT:=O ht;clear hp c1 c2 ht;go_wp2_with fail;refine BR.out.mono ?_;rintro e1 w1 ⟨rfl,hb⟩;have BG:=O (BF.out.trans (hb.mono BF.out.size));have TC:=O (SV (z1,z2,z3) _ (wQ b.ent (y1,y2)) w1 (C1.out.on BG.out) (C2.out.mono fun _ _ q=>q.on BG.out) (fun e he=>OK.out e (Xy _ _ e he)));rw [HT.out] at TC;clear hb BR x4 p0 p1 p2 p3 ix;go_wp2_with fail;refine TC.out.mono ?_;rintro e2 w2 ⟨rfl,hb⟩;have BH:=O (BG.out.trans (hb.mono BG.out.size));clear hb TC;cases t
    ·have hd:=O (show tb=aR by rw [<- TB.out]; exact Xw (tA b.ent) HA.out HV.out);go_wp2;go_ret;exact⟨by rw [hd.out]; rfl,B.out.trans (BH.out.mono B.out.size)⟩
    ·go_wp2
     go_roundw
     case rel=>exact⟨k+1,by omega,by go_num,BH.out,fun j y' hj h1=>by
      rcases bg j k with h3|h3
      ·exact AL.out j y' h3 h1
      ·obtain rfl:j=k:=by omega
       have e1:=HA.out;rw [h1] at e1;rw [aN e1];exact HV.out⟩
     case measure=>simp [intOf]; omega
  ·obtain rfl:an=k:=by omega
   have hd:=O (show tb=aU by rw [<- TB.out]; exact Xv (tA b.ent) fun j y hj h=>AL.out j y (by rw [<- HN.out,A2.out.len]; exact hj) h);clear x2;go_wp2;go_ret;exact⟨by rw [hd.out]; rfl,B.out.trans (BE.out.mono B.out.size)⟩
end Sb
end Go.Proofs.YtmklifheakemeaaGreat
