/-
  A subscription made,. Conditions as told.
-/
import Derived.Test.YtghlpefopidlaaaGreatCQ042
import Derived.Test.YtghlpefopidlaaaGreatCQ045
set_option maxRecDepth 100000
set_option maxHeartbeats 64000000
open _root_.Bool renaming false->aF,true->aY
open _root_.Go renaming Addr->ay,World->aG,Value->aO,Calls->bM
open Go.IntKind renaming i64->X
open Go.Lib renaming hid->L
open Go.Obj renaming cells->aK
open Go.Operand renaming tmp->ah
open Go.Proofs.Tryz renaming prog->aL,results45->bB,results48->bC,func45->bH,func46->bI
open Go.Proofs.YtghlpefopidlaaaGreat.Av renaming dU->aj
open Go.Proofs.YtghlpefopidlaaaGreat.Bk.Ow renaming id->aN
open Go.Proofs.YtghlpefopidlaaaGreat.Rg renaming cO->aD,dX->aX,dR->bF,iq->bG,fO->bJ,iV->bK,fM->bL,lF->bN,nQ->bO,JA->bP,lS->bQ
open Go.RowKit.Below renaming refl->aC
open Go.Value renaming slice->J,int->U,pointer->Z,agg->aH,bool->aR
open _root_.List renaming getElem?_toArray->au,getElem?_cons_zero->aA,getElem?_cons_succ->aB,getElem?_eq_some_iff->aI,map_toArray->aM,mem_iff_getElem?->aP,map_cons->aQ,filter_eq_self->aS,map_nil->aT,length_take->aV,mem_of_getElem?->aZ,getElem?_map->bg,length_map->bq,mem_map->bD
open _root_.Nat renaming le_trans->aJ,le_refl->bf
open _root_.Option renaming some->O,none->Y
open Option.some renaming inj->aW
open _root_.Or renaming inr->ak,inl->aU
namespace Go.Proofs.YtghlpefopidlaaaGreat
namespace Rt
open Go.RowKit Go.Sort Rw YtghlpefopidlaaaGreat.Nm Pr Bk Av Rl Sb
theorem IW {b:Br} (h:iH b) {i k:Nat} {a c:Ad} (hi:b.dP[i]?=O a) (hk:b.dP[k]?=O c) (e:a.id=c.id):i=k:=by
 rcases Nat.lt_trichotomy i k with q|q|q
 ·have:=gY h.dP q hi hk;rw [e,gB] at this; cases this
 ·exact q
 ·have:=gY h.dP q hk hi;rw [e,gB] at this; cases this
theorem CJ {b:Br} (hok:iH b) {k:Nat} {a:Ad} (ha:b.dP[k]?=O a):b.dP[(eU (b.dP.map Ad.id) a.id).toNat]?=O a:=by
 rw [xg,wK (b.dP.map Ad.id) k a.id (by rw [bg,ha]; rfl) fun j z hj hz q=>by
  rw [bg] at hz;cases hc:b.dP[j]? with
  | none=>rw [hc] at hz; cases hz
  | some c =>
   rw [hc] at hz;have:=IW hok hc ha ((aW hz).trans q);omega,Int.toNat_natCast]
 exact ha
def eP (b:Br) (par:Int) (e:En):Br×List Ou:=((gM b e).1,if (gM b e).2=aY then [mH par e] else [])
def jW (b:Br) (par:Int) (t x:dQ) (f:Int):Br×List Ou:=((takeB b t x f).1,if (takeB b t x f).2.2=aY then (takeB b t x f).2.1.map (mH par)++[⟨par,4,t,x,[]⟩] else [])
def iJ (b:Br) (t:dQ):Int:=match fJ b.dP t with | some a=>a.par | none=>0
theorem FX {b:Br} (hok:iH b) {k:Nat} {a:Ad} (ha:b.dP[k]?=O a):iJ b a.id=a.par:=by
 unfold iJ;rw [qW hok.dP (aZ ha)]
theorem uy {b:Br} (hok:iH b) {t:dQ} {a:Ad} (h:fJ b.dP t=O a):b.dP[(eU (b.dP.map Ad.id) t).toNat]?=O a:=by
 obtain⟨h1,h2⟩:=yQ h;obtain⟨k,hk⟩:=aP.1 h1;subst h2;exact CJ hok hk
theorem xJ {b:Br} (hok:iH b) (f:Int) (t x:dQ) (p:List C5):vP b f t x p=eP b (iJ b t) ⟨t,x,p,f,aF⟩:=by
 unfold vP eP;cases hu:(gM b ⟨t,x,p,f,aF⟩).2 with
 | false=>rfl
 | true =>
  have hf:∃ a,fJ b.dP t=O a:=by
   rw [<- mh hok.ent] at hu;unfold xC at hu;cases hq:fJ b.dP t with
   | none=>rw [show (En.tree ⟨t,x,p,f,aF⟩)=t from rfl,hq] at hu; cases hu
   | some a=>exact⟨a,rfl⟩
  obtain⟨a,ha⟩:=hf;unfold iJ;rw [uy hok ha,ha]
  rfl
theorem y8 {b:Br} (hok:iH b) (t x:dQ) (f:Int):kW b t x f=jW b (iJ b t) t x f:=by
 unfold kW jW;cases hu:(takeB b t x f).2.2 with
 | false=>rfl
 | true =>
  obtain⟨e,he,ht⟩:=yU hu;have h1:=hok.KS e he;unfold su at h1;rw [ht] at h1;unfold iJ;cases hq:fJ b.dP t with
  | none=>rw [hq] at h1; cases h1
  | some a =>
   rw [uy hok hq]
   rfl
theorem y9 (x:dQ) (p:List C5) (s:Br×List Ou) (a:Ad):jG x p s a=if pF p a.p=aF then s else ((eP s.1 a.par (ou x p a)).1,s.2++(eP s.1 a.par (ou x p a)).2):=by
 unfold jG iB eP
 split
 ·rfl
 ·dsimp only
  split
  ·rfl
  ·rw [List.append_nil]
theorem xK {s:Br×List Ou} (hok:iH s.1) {k:Nat} {a:Ad} (ha:s.1.dP[k]?=O a) (x:dQ):mg x s a.id=((jW s.1 a.par a.id x (-1)).1,s.2++(jW s.1 a.par a.id x (-1)).2):=by
 unfold mg;rw [y8 hok,FX hok ha]
theorem vM {l:List Ow} (hr:gQ aN l) {x:dQ} (h:eY aN l x=aY):l.filter (fun o=>decide (o.id≠x))=cutAt l (dM aN l x):=by
 unfold eY at h;cases hy:l[dM aN l x]? with
 | none=>rw [hy] at h; cases h
 | some y =>
  rw [hy] at h;have hyx:y.id=x:=of_decide_eq_true h;generalize dM aN l x=k at *;have hlt:=(aI.1 hy).1;have e:l=l.take k++y::l.drop (k+1):=by
   conv=>lhs; rw [<- List.take_append_drop k l]
   rw [List.drop_eq_getElem_cons hlt,(aI.1 hy).2]
  have hne:∀ j z,j≠k->l[j]?=O z->z.id≠x:=fun j z hj hz q=>by
   rcases Nat.lt_or_gt_of_ne hj with h1|h1
   ·have:=gY hr h1 hz hy;rw [q,hyx,gB] at this; cases this
   ·have:=gY hr h1 hy hz;rw [q,hyx,gB] at this; cases this
  unfold cutAt
  conv=>lhs; rw [e]
  rw [List.filter_append,List.filter_cons_of_neg (by simp [hyx])];rw [aS.2 fun z hz=>?_,aS.2 fun z hz=>?_]
  ·obtain⟨j,hj⟩:=aP.1 hz;rw [List.getElem?_drop] at hj;exact decide_eq_true (hne _ z (by omega) hj)
  ·obtain⟨j,hj⟩:=aP.1 hz;have hjl:=(aI.1 hj).1;rw [aV] at hjl;rw [List.getElem?_take_of_lt (by omega)] at hj;exact decide_eq_true (hne j z (by omega) hj)
theorem FY {l:List Ow} (hr:gQ aN l) {x:dQ} (h:eY aN l x=aF):l.filter (fun o=>decide (o.id≠x))=l:=by
 rw [sW hr] at h;refine aS.2 fun o ho=>?_;have:=of_decide_eq_false h;exact decide_eq_true fun q=>this (bD.2 ⟨o,ho,q⟩)
theorem za {b:Br} {x:dQ} (p:List C5) (h:eY aN b.own x=aY):um b x p=(b,[]):=by
 unfold eY at h;rw [fU] at h;unfold um;cases hy:b.own[gy (b.own.map aN) x]? with
 | none=>rw [hy] at h; cases h
 | some y =>
  rw [hy] at h;rw [if_pos (show Option.map aN (O y)=O x from congrArg O (of_decide_eq_true h))]
theorem FZ {b:Br} {x:dQ} (p:List C5) (h:eY aN b.own x=aF):um b x p=gG b.dP (jG x p) (ownIn b x p,[]) b.dP.length:=by
 unfold eY at h;rw [fU] at h;unfold um;rw [if_neg];intro q;cases hy:b.own[gy (b.own.map aN) x]? with
 | none=>rw [hy] at q; cases q
 | some y =>
  rw [hy] at h q;exact absurd (aW q) (of_decide_eq_false h)
theorem ze {b:Br} (hok:iH b) {x:dQ} (h:eY aN b.own x=aF):jw b x=(b,[]):=by
 unfold jw;rw [if_pos];unfold jV;rw [FY hok.own h]
theorem oC {l:List Ow} {x:dQ} (h:eY aN l x=aY):dM aN l x<l.length:=by
 unfold eY at h;cases hy:l[dM aN l x]? with
 | none=>rw [hy] at h; cases h
 | some y=>exact (aI.1 hy).1
theorem vQ {b:Br} (hok:iH b) {x:dQ} (h:eY aN b.own x=aY):jw b x=fK b x b.dP.length/\jV b x=cutAt b.own (dM aN b.own x):=by
 have e:=vM hok.own h;refine⟨?_,e⟩;unfold jw;rw [if_neg];show ¬ (b.own.filter fun o=>decide (o.id≠x)).length=b.own.length;rw [e];have:=oC h;unfold cutAt;rw [List.length_append,aV,List.length_drop];omega
structure QJ (b0 b:Br) (k:Nat):Prop where
 at_:Fu b0 b k
 ok:iH b
 pe:∀ e∈b.ent,eD e.p
theorem F5 {b:Br} (h:iH b) {x:dQ} {p:List C5} (hq:Wr.jT p=aY) (hx:eY aN b.own x=aF):iH (ownIn b x p):=by
 have hn:∀ y∈b.own,y.id≠x:=fun y hy q=>by
  rw [sW h.own] at hx;exact of_decide_eq_false hx (bD.2 ⟨y,hy,q⟩)
 have hr:gQ aN (eX b.own (gy (b.own.map aN) x) ⟨x,p⟩):=by
  rw [<- fU];exact nN h.own ⟨x,p⟩ hn
 exact⟨h.near,h.seen,h.dP,h.ent,hr,h.oks,fun e he=>vJ (b:=b) rfl rfl (h.KS e he),fun o ho=>by
  rcases (vI _ _ _ _).1 ho with rfl|ho
  ·exact hq
  ·exact h.Qu o ho⟩
theorem Lg {b:Br} {x:dQ} {p:List C5} (hok:iH (ownIn b x p)) (pe:∀ e∈b.ent,eD e.p) (pp:eD p) (hq:Wr.jT p=aY) (k:Nat) (hk:k<=b.dP.length):QJ (ownIn b x p) (gG b.dP (jG x p) (ownIn b x p,[]) k).1 k/\(gG b.dP (jG x p) (ownIn b x p,[]) k).2.length<=k:=by
 obtain⟨h1,h2,h3⟩:=xG (l:=b.dP) (b0:=ownIn b x p) (o0:=[]) (fun a=>pF p a.p) (fun a=>ou x p a) (fun a=>a.par) (fun e=>eD e.p) pe (fun a _ _=>pp) k hk;exact⟨⟨h1,z8 iH hok (fun s a _ hs=>step_ok hs _ _ _ (CG _) hq) k hk,h2⟩,by simpa using h3⟩
end Rt
namespace Rt
open Go.RowKit Go.Sort Rw YtghlpefopidlaaaGreat.Nm Pr Bk Av Rl Sb Fl
theorem Aa {w0 wr x:aG} {B:Nat} {b:Br} {nv av sv ev ov KJ:Sl} {ol:List Ow} (h:Cp w0 B wr b nv av sv ev ov) (hb:Off (dH ov).ownBlock wr x) (hx:∃ l,lD x B (dH KJ) l/\dV (yG w0 B x) l ol):Cp w0 B x { b with own:=ol } nv av sv ev KJ:=by
 obtain⟨l0,hl0,_⟩:=h.own;have hg:=fH hl0;exact {
  near:=hb.own h.near hg (by decide)
  seen:=hb.own h.seen hg (by decide)
  dP:=by obtain⟨l,h1,h2⟩:=h.dP; exact⟨l,hb.own h1 hg (by decide),h2.mono fun _ _ h=>h.off hb hg (by decide)⟩
  ent:=by obtain⟨l,h1,h2⟩:=h.ent; exact⟨l,hb.own h1 hg (by decide),h2.mono fun _ _ h=>h.off hb hg (by decide)⟩
  own:=hx }
def QK (_B:Nat) (b3 _b4 n k:Nat) (w0:aG) (b:Br) (v1:Option ay) (v2 v3:Nat) (v4:Option ay) (v5 v6:Nat) (v7:Option ay) (v8 v9:Nat) (v10:Option ay) (v11 v12:Nat) (v13:Option ay) (v14 v15:Nat) (x1 x2:Int) (po:Option ay) (pn pc:Nat) (p:List C5) (i:Nat) (v:aO) (x:aG):Prop :=
 match i with
 | 0=>v=Z (O ⟨b3,5,Y⟩)
 | 1=>v=J v13 v14 v15
 | 2=>v=U X k
 | 3=>v=aH #[U X x1,U X x2]
 | 4=>v=J po pn pc
 | 5=>∃ s:Sl,v=dH s/\fV x _B (dH s) p
 | 6=>∃ s:Sl,v=Dy (x1,x2,s)/\fV x _B (dH s) p
 | 7=>∃ (s:Sl) (g:Nat),v=J (O ⟨g,0,Y⟩) 1 1/\_B<=g/\cZ x g (iC (x1,x2,s)).toArray 88/\fV x _B (dH s) p
 | 8=>∃ s:Sl,v=dH s/\Cp (vw w0) n x (ownIn b (x1,x2) p) (v1,v2,v3) (v4,v5,v6) (v7,v8,v9) (v10,v11,v12) s
 | 9=>v=Z (O ⟨b3,5,Y⟩)
 | 10=>True
 | _=>True
def F6 (W:aG) (b3 _b4 n _k:Nat) (w0:aG) (b:Br) (v1:Option ay) (v2 v3:Nat) (v4:Option ay) (v5 v6:Nat) (v7:Option ay) (v8 v9:Nat) (v10:Option ay) (v11 v12:Nat) (v13:Option ay) (v14 v15:Nat) (x1 x2:Int) (_po:Option ay) (_pn _pc:Nat) (p:List C5) (D:Nat->Prop) (x:aG):Prop:=(¬ D 8->Below W.heap.size W x)/\(D 8->¬ D 10->Below n W x/\Off (dH (v13,v14,v15)).ownBlock W x)/\(D 10->Below n W x/\(∀ (g:Nat) (cs:Array aO) (t:TypeId),(t == 88)=aF->g≠b3->cZ W g cs t->cZ x g cs t)/\∃ s:Sl,cZ x b3 #[U X b.me,J v1 v2 v3,J v4 v5 v6,J v7 v8 v9,J v10 v11 v12,dH s] 30/\Cp (vw w0) n x (ownIn b (x1,x2) p) (v1,v2,v3) (v4,v5,v6) (v7,v8,v9) (v10,v11,v12) s)
noncomputable def Nr:Code:=((Tryz.f10.body.bind (eu 5)).getD .skip)
theorem TT (Q:Exit->Act->aG->Prop) (W:aG) (b3 b4 n k:Nat) (w0:aG) (b:Br) (v1:Option ay) (v2 v3:Nat) (v4:Option ay) (v5 v6:Nat) (v7:Option ay) (v8 v9:Nat) (v10:Option ay) (v11 v12:Nat) (v13:Option ay) (v14 v15:Nat) (x1 x2:Int) (po:Option ay) (pn pc:Nat) (p:List C5) (u0 u1 u5 u6 u7 u9 u10 u11 u12 u13 u14 u15 u16 u17 u18 u19 u20 u21 u22 u23 u24 u25 u26 u27 u28 u29 u30 u31 u32 u33 u34 u35 u36 u37 u38 u39 u40 u41 u42 u43 u44 u45 u46 u47 u48 u49 u50 u51 u52 u53 u54 u55 u56 u57 u58 u59 u60 u61 u62 u63:aO)
  (h3:cZ W b3 #[U X b.me,J v1 v2 v3,J v4 v5 v6,J v7 v8 v9,J v10 v11 v12,J v13 v14 v15] 30) (h4:cZ W b4 #[U X x1,U X x2] 23) (Sm:Cp (vw w0) n W b (v1,v2,v3) (v4,v5,v6) (v7,v8,v9) (v10,v11,v12) (v13,v14,v15)) (kk:gy (b.own.map aN) (x1,x2)=k) (kl:k<=b.own.length) (lo:b.own.length<=900) (hn:n<=W.heap.size) (nb:n<=b3) (hp:fI W (J po pn pc) p) (lp:p.length<=900)
  (hQ:∀ (x:aG) (s:Sl) (q25 q26 q27 q28 q29 q30 q31 q32 q33 q34:aO),Below n W x->(∀ (g:Nat) (cs:Array aO) (t:TypeId),(t == 88)=aF->g≠b3->cZ W g cs t->cZ x g cs t)->cZ x b3 #[U X b.me,J v1 v2 v3,J v4 v5 v6,J v7 v8 v9,J v10 v11 v12,dH s] 30->Cp (vw w0) n x (ownIn b (x1,x2) p) (v1,v2,v3) (v4,v5,v6) (v7,v8,v9) (v10,v11,v12) s->Q .normal ⟨(u0::u1::J po pn pc::Z (O ⟨b3,0,Y⟩)::Z (O ⟨b4,0,Y⟩)::u5::u6::u7::U X k::u9::u10::u11::u12::u13::u14::u15::u16::u17::u18::u19::u20::u21::u22::u23::u24::q25::q26::q27::q28::q29::q30::q31::q32::q33::q34::u35::u36::u37::u38::u39::u40::u41::u42::u43::u44::u45::u46::u47::u48::u49::u50::u51::u52::u53::u54::u55::u56::u57::u58::u59::u60::u61::u62::u63::[]).toArray,[]⟩ x) :
  Code.wp aL Nr Q ⟨(u0::u1::J po pn pc::Z (O ⟨b3,0,Y⟩)::Z (O ⟨b4,0,Y⟩)::u5::u6::u7::U X k::u9::u10::u11::u12::u13::u14::u15::u16::u17::u18::u19::u20::u21::u22::u23::u24::u25::u26::u27::u28::u29::u30::u31::u32::u33::u34::u35::u36::u37::u38::u39::u40::u41::u42::u43::u44::u45::u46::u47::u48::u49::u50::u51::u52::u53::u54::u55::u56::u57::u58::u59::u60::u61::u62::u63::[]).toArray,[]⟩ W:=by
 have HQ:=L hQ;have H3:=L h3;have H4:=L h4;have IY:=L Sm;have KK:=L kk;have KL:=L kl;have LO:=L lo;have HN:=L hn;have NB:=L nb;have HP:=L hp;have LP:=L lp;clear hQ h3 h4 Sm kk kl lo hn nb hp lp;have QL:∀ D x,F6 W b3 b4 n k w0 b v1 v2 v3 v4 v5 v6 v7 v8 v9 v10 v11 v12 v13 v14 v15 x1 x2 po pn pc p D x->¬ D 8->cZ x b3 #[U X b.me,J v1 v2 v3,J v4 v5 v6,J v7 v8 v9,J v10 v11 v12,J v13 v14 v15] 30:=fun D x hF n8=>H3.out.on (hF.1 n8);have TU:∀ D x,F6 W b3 b4 n k w0 b v1 v2 v3 v4 v5 v6 v7 v8 v9 v10 v11 v12 v13 v14 v15 x1 x2 po pn pc p D x->¬ D 8->cZ x b4 #[U X x1,U X x2] 23:=fun D x hF n8=>H4.out.on (hF.1 n8);unfold Nr
 conv=>arg 2; whnf
 have nd:∀ j,(∀ i,i<11->[O 25,O 26,O 27,O 28,O 29,O 30,O 31,O 32,O 33,O 34,Y].getD i Y≠O j)->∀ i,i<11->(fun i=>[O 25,O 26,O 27,O 28,O 29,O 30,O 31,O 32,O 33,O 34,Y].getD i Y) i≠O j:=fun j h=>h;refine bN 11 (fun i=>[O 25,O 26,O 27,O 28,O 29,O 30,O 31,O 32,O 33,O 34,Y].getD i Y) (fun i=>if i=5 then 6 else if i=6 then 7 else if i=7 then 8 else 11) (QK W.heap.size b3 b4 n k w0 b v1 v2 v3 v4 v5 v6 v7 v8 v9 v10 v11 v12 v13 v14 v15 x1 x2 po pn pc p) (F6 W b3 b4 n k w0 b v1 v2 v3 v4 v5 v6 v7 v8 v9 v10 v11 v12 v13 v14 v15 x1 x2 po pn pc p) (by kernel_rfl) (by kernel_rfl) rfl (fun i j e hi hj h1 h2=>(by decide:∀ i,i<11->∀ j,j<11->([O 25,O 26,O 27,O 28,O 29,O 30,O 31,O 32,O 33,O 34,Y].getD i Y).isSome=aY->[O 25,O 26,O 27,O 28,O 29,O 30,O 31,O 32,O 33,O 34,Y].getD i Y=[O 25,O 26,O 27,O 28,O 29,O 30,O 31,O 32,O 33,O 34,Y].getD j Y->i=j) i hi j hj (by have h1:[O 25,O 26,O 27,O 28,O 29,O 30,O 31,O 32,O 33,O 34,Y].getD i Y=O e:=h1; rw [h1]; rfl) (h1.trans h2.symm)) (fun i e hi h=>(by decide:∀ i,i<11->∀ q∈[O 25,O 26,O 27,O 28,O 29,O 30,O 31,O 32,O 33,O 34,Y].getD i Y,q<64) i hi e h) (⟨fun _=>(aC _ _).drew,fun h=>h.elim,fun h=>h.elim⟩) ?_ ?_
 ·intro i o hi ho a x D hnd hc hD hF seen K hK;clear HQ;have still:∀ i,i≠5/\i≠7/\i≠8/\i≠10->F6 W b3 b4 n k w0 b v1 v2 v3 v4 v5 v6 v7 v8 v9 v10 v11 v12 v13 v14 v15 x1 x2 po pn pc p (fun j=>j=i\/D j) x:=fun i hns=>⟨fun h=>hF.1 fun h2=>h (ak h2),fun h1 h2=>hF.2.1 (h1.resolve_left (Ne.symm hns.2.2.1)) fun h3=>h2 (ak h3),fun h=>hF.2.2 (h.resolve_left (Ne.symm hns.2.2.2))⟩;rcases (by omega:i=0\/i=1\/i=2\/i=3\/i=4\/i=5\/i=6\/i=7\/i=8\/i=9\/i=10) with rfl|rfl|rfl|rfl|rfl|rfl|rfl|rfl|rfl|rfl|rfl
  ·cases ho;have e3:a.eval (ah 3)=Z (O ⟨b3,0,Y⟩):=seen.kp 3 _ (nd 3 (by decide)) rfl;exact aD rfl rfl (bF a.eval _ 30 (ah 3) 5 rfl (by rw [e3]; simp [go_sem])) (hK _ _ rfl (still 0 (by decide)) fun _ _ _ _ _ _ _ h=>h)
  ·cases ho;have n8:¬ D 8:=fun h8=>hnd (hc 8 _ h8 rfl ⟨1,.data⟩ (by simp) rfl);have e25:a.eval (ah 25)=Z (O ⟨b3,5,Y⟩):=seen.at_ ⟨0,.data⟩ (by simp) rfl (ak (by decide)) _ rfl;have y5:=(QL D x hF n8).cell 5;simp only [au,aA,aB] at y5;exact aD rfl rfl (aX a.eval _ 28 (ah 25) rfl (by rw [e25]; simp [go_sem,y5])) (hK _ _ rfl (still 1 (by decide)) fun _ _ _ _ _ _ _ h=>h)
  ·cases ho;have e8:a.eval (ah 8)=U X k:=seen.kp 8 _ (nd 8 (by decide)) rfl;exact aD rfl rfl (bG a.eval _ (ah 8) rfl x) (hK _ _ e8 (still 2 (by decide)) fun _ _ _ _ _ _ _ h=>h)
  ·cases ho;have n8:¬ D 8:=fun h8=>hnd (hc 6 _ (hc 7 _ (hc 8 _ h8 rfl ⟨7,.data⟩ (by simp) rfl) rfl ⟨6,.data⟩ (by simp) rfl) rfl ⟨3,.data⟩ (by simp) rfl);have e4:a.eval (ah 4)=Z (O ⟨b4,0,Y⟩):=seen.kp 4 _ (nd 4 (by decide)) rfl;obtain⟨y0,y1⟩:=(TU D x hF n8).cs2;exact aD rfl rfl (aX a.eval _ 23 (ah 4) rfl (by rw [e4]; simp [go_sem,y0,y1])) (hK _ _ rfl (still 3 (by decide)) fun _ _ _ _ _ _ _ h=>h)
  ·cases ho;have e2:a.eval (ah 2)=J po pn pc:=seen.kp 2 _ (nd 2 (by decide)) rfl;exact aD rfl rfl (bG a.eval _ (ah 2) rfl x) (hK _ _ e2 (still 4 (by decide)) fun _ _ _ _ _ _ _ h=>h)
  ·cases ho;have e29:a.eval (ah 29)=J po pn pc:=seen.at_ ⟨4,.data⟩ (by simp) rfl (ak (by decide)) _ rfl;have n8:¬ D 8:=fun h=>hnd (hc 8 _ h rfl ⟨5,.chain⟩ (by simp) rfl);have n10:¬ D 10:=fun h=>n8 (hc 10 _ h rfl ⟨8,.chain⟩ (by simp) rfl);have n6:¬ D 6:=fun h=>hnd (hc 6 _ h rfl ⟨5,.data⟩ (by simp) rfl);have n7:¬ D 7:=fun h=>n6 (hc 7 _ h rfl ⟨6,.data⟩ (by simp) rfl);have hb:=hF.1 n8;exact bJ rfl rfl (Rw.gq a.eval _ (ah 29) 34 44 rfl e29 rfl _ (fu Tryz.func44 rfl rfl _ _)) (iW (po,pn,pc) p x (HP.out.on hb) LP.out) fun e w1 h=>by
    obtain⟨⟨s,rfl,q1⟩,q2⟩:=h;exact⟨_,rfl,hK _ w1 ⟨s,rfl,dn q1 hb.size⟩ ⟨fun _=>hb.trans (q2.mono hb.size),fun h=>absurd (h.resolve_left (by decide)) n8,fun h=>absurd (h.resolve_left (by decide)) n10⟩ (fun j u hj dj nl nx ni h=>by
    rcases (by omega:j=0\/j=1\/j=2\/j=3\/j=4\/j=5\/j=6\/j=7\/j=8\/j=9\/j=10) with rfl|rfl|rfl|rfl|rfl|rfl|rfl|rfl|rfl|rfl|rfl
    ·exact h
    ·exact h
    ·exact h
    ·exact h
    ·exact h
    ·exact absurd rfl ni
    ·exact absurd dj n6
    ·exact absurd dj n7
    ·exact absurd dj n8
    ·exact h
    ·exact absurd dj n10)⟩
  ·cases ho;have e28:a.eval (ah 28)=aH #[U X x1,U X x2]:=seen.at_ ⟨3,.data⟩ (by simp) rfl (ak (by decide)) _ rfl;have TV:=seen.at_ ⟨5,.data⟩ (by simp) rfl (aU rfl) _ rfl;obtain⟨s,q0,q1⟩:=TV;have q0:a.eval (ah 30)=dH s:=q0;exact aD rfl rfl (bK a.eval _ 88 #[(0,ah 28),(1,ah 30)] rfl (ps:=#[(0,aH #[U X x1,U X x2]),(1,dH s)]) (by simp only [aM,aQ,aT,e28,q0]) (by simp [go_sem])) (hK _ _ ⟨s,rfl,q1⟩ (still 6 (by decide)) fun _ _ _ _ _ _ _ h=>h)
  ·cases ho;have TW:=seen.at_ ⟨6,.data⟩ (by simp) rfl (aU rfl) _ rfl;have n8:¬ D 8:=fun h=>hnd (hc 8 _ h rfl ⟨7,.data⟩ (by simp) rfl);have n10:¬ D 10:=fun h=>n8 (hc 10 _ h rfl ⟨8,.chain⟩ (by simp) rfl);have hb:=hF.1 n8;obtain⟨s,q0,q1⟩:=TW;have q0:a.eval (ah 31)=Dy (x1,x2,s):=q0;have nb:=iM x (aK (iC (x1,x2,s)).toArray 88);exact aD rfl rfl (bO a.eval _ 28 1 #[(0,ah 31)] rfl (ps:=#[(0,Dy (x1,x2,s))]) (by simp [q0]) (by simp [go_sem])) (hK (J (O ⟨x.heap.size,0,Y⟩) 1 1) (x.alloc (aK (iC (x1,x2,s)).toArray 88)) ⟨s,x.heap.size,rfl,hb.size,dG x _ _,Bk.dw q1 nb⟩ ⟨fun _=>hb.trans (nb.mono hb.size),fun h=>absurd (h.resolve_left (by decide)) n8,fun h=>absurd (h.resolve_left (by decide)) n10⟩ (fun j u hj dj nl nx ni h=>by
    rcases (by omega:j=0\/j=1\/j=2\/j=3\/j=4\/j=5\/j=6\/j=7\/j=8\/j=9\/j=10) with rfl|rfl|rfl|rfl|rfl|rfl|rfl|rfl|rfl|rfl|rfl
    ·exact h
    ·exact h
    ·exact h
    ·exact h
    ·exact h
    ·obtain⟨s,h1,h2⟩:=h; exact⟨s,h1,Bk.dw h2 nb⟩
    ·obtain⟨s,h1,h2⟩:=h; exact⟨s,h1,Bk.dw h2 nb⟩
    ·exact absurd rfl ni
    ·exact absurd dj n8
    ·exact h
    ·exact absurd dj n10))
  ·cases ho;have e26:a.eval (ah 26)=J v13 v14 v15:=seen.at_ ⟨1,.data⟩ (by simp) rfl (ak (by decide)) _ rfl;have e27:a.eval (ah 27)=U X k:=seen.at_ ⟨2,.data⟩ (by simp) rfl (ak (by decide)) _ rfl;have TY:=seen.at_ ⟨7,.data⟩ (by simp) rfl (aU rfl) _ rfl;have d7:D 7:=hD ⟨7,.data⟩ (by simp) rfl;have d6:D 6:=hc 7 _ d7 rfl ⟨6,.data⟩ (by simp) rfl;have n10:¬ D 10:=fun h=>hnd (hc 10 _ h rfl ⟨8,.chain⟩ (by simp) rfl);have hb:=hF.1 hnd;obtain⟨s,g,q0,q1,q2,q3⟩:=TY;have q0:a.eval (ah 32)=J (O ⟨g,0,Y⟩) 1 1:=q0;have cp:=IY.out.grow hb;obtain⟨l,ho1,ho2⟩:=cp.own;obtain⟨l0,ho0,_⟩:=IY.out.own;have hne:(dH (v13,v14,v15)).ownBlock≠O g:=fun e=>by
    obtain⟨d,hd⟩:=fH ho0 _ e;have:=hd.lt;omega
   have TG:=fH ho1;exact bJ rfl rfl (oQ a.eval _ (ah 26) (ah 27) (ah 32) 28 3 28 43 rfl e26 e27 q0 rfl _ (fu Tryz.func43 rfl rfl _ _)) (xE n (dH (v13,v14,v15)) l k (x1,x2,s) g x ho1 q2 hne (by rw [ho2.len]; exact KL.out) (by rw [ho2.len]; exact LO.out) (aJ HN.out hb.size)) fun e w1 h=>by
    obtain⟨v',rfl,hown,hbel,hoth⟩:=h;obtain⟨t1,t2,hv'⟩:=(Row.dx hown).len;have hoff:Off (dH (v13,v14,v15)).ownBlock x w1:=⟨hoth,hbel.size⟩;have CP:=Aa cp (KJ:=(t1,(l.take k++(x1,x2,s)::l.drop k).length,t2)) (ol:=eX b.own k ⟨(x1,x2),p⟩) hoff ⟨eX l k (x1,x2,s),by unfold eX; rw [List.append_assoc]; rw [hv'] at hown; exact hown,nZ (ho2.mono fun _ _ q=>q.off hoff TG (by decide)) k ⟨rfl,ak (hoff.own (dn q3 HN.out) TG (by decide))⟩⟩;exact⟨_,rfl,hK v' w1 ⟨_,hv',by rw [show ownIn b (x1,x2) p={ b with own:=eX b.own k ⟨(x1,x2),p⟩ } from by unfold ownIn; rw [KK.out]]; exact CP⟩ ⟨fun h=>absurd (aU rfl) h,fun _ _=>⟨(hb.mono HN.out).trans hbel,fun j hj hne2=>(hoth j (Nat.lt_of_lt_of_le hj hb.size) hne2).trans (hb.block j hj),aJ hb.size hbel.size⟩,fun h=>absurd (h.resolve_left (by decide)) n10⟩ (fun j u hj dj nl nx ni h=>by
    rcases (by omega:j=0\/j=1\/j=2\/j=3\/j=4\/j=5\/j=6\/j=7\/j=8\/j=9\/j=10) with rfl|rfl|rfl|rfl|rfl|rfl|rfl|rfl|rfl|rfl|rfl
    ·exact h
    ·exact h
    ·exact h
    ·exact h
    ·exact h
    ·exact absurd d6 nl
    ·exact absurd d7 nl
    ·exact absurd rfl nx
    ·exact absurd rfl ni
    ·exact h
    ·exact absurd dj n10)⟩
  ·cases ho;have e3:a.eval (ah 3)=Z (O ⟨b3,0,Y⟩):=seen.kp 3 _ (nd 3 (by decide)) rfl;exact aD rfl rfl (bF a.eval _ 30 (ah 3) 5 rfl (by rw [e3]; simp [go_sem])) (hK _ _ rfl (still 9 (by decide)) fun _ _ _ _ _ _ _ h=>h)
  ·cases ho;have e34:a.eval (ah 34)=Z (O ⟨b3,5,Y⟩):=seen.at_ ⟨9,.data⟩ (by simp) rfl (ak (by decide)) _ rfl;have T9:=seen.at_ ⟨8,.data⟩ (by simp) rfl (ak (by decide)) _ rfl;have d8:D 8:=hD ⟨8,.chain⟩ (by simp) rfl;obtain⟨f1,f2⟩:=hF.2.1 d8 hnd;obtain⟨⟨s1,s2,s3⟩,q0,q1⟩:=T9;have q0:a.eval (ah 33)=J s1 s2 s3:=q0;obtain⟨l0,ho0,_⟩:=IY.out.own;have TG:=fH ho0;have Ns:=f2.box H3.out TG (by decide);have c5:=Ns.cell 5;have r5:=Ns.fr 5;simp only [au,aA,aB] at c5;have hs:(Instr.storeAt 28 (Z (O ⟨b3,5,Y⟩)) (J s1 s2 s3)).run aL x=.ok () (x.setCell ⟨b3,5,Y⟩ (J s1 s2 s3)):=by simp [go_sem,c5,r5]
   have bs:=dF x b3 5 (J s1 s2 s3);have ff:F6 W b3 b4 n k w0 b v1 v2 v3 v4 v5 v6 v7 v8 v9 v10 v11 v12 v13 v14 v15 x1 x2 po pn pc p (fun j=>j=10\/D j) (x.setCell ⟨b3,5,Y⟩ (J s1 s2 s3)):=⟨fun h=>absurd (ak d8) h,fun _ h=>absurd (aU rfl) h,fun _=>⟨f1.setCell (p:=⟨b3,5,Y⟩) NB.out _,fun g cs t h1 h2 h3=>bs.box (f2.box h3 TG h1) h2,(s1,s2,s3),by simpa using dL (k:=5) Ns (J s1 s2 s3),q1.but bs Ns⟩⟩;have d7:D 7:=hc 8 _ d8 rfl ⟨7,.data⟩ (by simp) rfl;have d6:D 6:=hc 7 _ d7 rfl ⟨6,.data⟩ (by simp) rfl;have q:=hK (aR aY) (x.setCell ⟨b3,5,Y⟩ (J s1 s2 s3)) trivial ff (fun j u hj dj nl nx ni h=>by
    rcases (by omega:j=0\/j=1\/j=2\/j=3\/j=4\/j=5\/j=6\/j=7\/j=8\/j=9\/j=10) with rfl|rfl|rfl|rfl|rfl|rfl|rfl|rfl|rfl|rfl|rfl
    ·exact h
    ·exact h
    ·exact h
    ·exact h
    ·exact h
    ·exact absurd d6 nl
    ·exact absurd d7 nl
    ·exact absurd d8 nl
    ·obtain⟨s,h1,h2⟩:=h; exact⟨s,h1,h2.but bs Ns⟩
    ·exact h
    ·exact absurd rfl ni)
   exact bL 28 (ah 34) (ah 33) rfl rfl rfl rfl e34 q0 hs q
 ·intro a x df sz kp ⟨vs,hv⟩ ⟨D,hall,hF⟩;obtain⟨f1,f2,s,f3,f4⟩:=hF.2.2 (hall 10 (by omega));have uY:∀ j,(j<25\/35<=j)->a.tmps[j]?=(u0::u1::J po pn pc::Z (O ⟨b3,0,Y⟩)::Z (O ⟨b4,0,Y⟩)::u5::u6::u7::U X k::u9::u10::u11::u12::u13::u14::u15::u16::u17::u18::u19::u20::u21::u22::u23::u24::u25::u26::u27::u28::u29::u30::u31::u32::u33::u34::u35::u36::u37::u38::u39::u40::u41::u42::u43::u44::u45::u46::u47::u48::u49::u50::u51::u52::u53::u54::u55::u56::u57::u58::u59::u60::u61::u62::u63::[])[j]?:=fun j hj=>(kp j (nd j fun i hi h=>by
   have:=(by decide:∀ i,i<11->∀ d,[O 25,O 26,O 27,O 28,O 29,O 30,O 31,O 32,O 33,O 34,Y].getD i Y=O d->25<=d/\d<35) i hi j h;omega)).trans au
  obtain⟨mid,hmid,hfr⟩:=Rg.gL (a:=a) 25 10 (by simp [df]) (by simp [sz]) (by simp) uY;rw [hfr]
  match mid,hmid with
  | [q25,q26,q27,q28,q29,q30,q31,q32,q33,q34],_=>exact HQ.out x s _ _ _ _ _ _ _ _ _ _ f1 f2 f3 f4
def QM (_B:Nat) (_b3 _b5 _b6:Nat) (me:Int) (s1:Option ay) (s2 s3:Nat) (s4:Option ay) (s5 s6:Nat) (s7:Option ay) (s8 s9:Nat) (s10:Option ay) (s11 s12:Nat) (s13:Option ay) (s14 s15:Nat) (par:Int) (y1 y2 y3 y4:Int) (po:Option ay) (pn pc:Nat) (y6:Int) (y7:Bool) (p:List C5) (i:Nat) (v:aO) (x:aG):Prop :=
 match i with
 | 0=>v=aH #[U X me,J s1 s2 s3,J s4 s5 s6,J s7 s8 s9,J s10 s11 s12,J s13 s14 s15]
 | 1=>v=U X par
 | 2=>v=aH #[U X y1,U X y2,U X y3,U X y4,J po pn pc,U X y6,aR y7]
 | 3=>∃ s:Sl,v=aH #[U X 3,U X y1,U X y2,U X y3,U X y4,dH s,J Y 0 0]/\fV x _B (dH s) p
 | 4=>∃ s:Sl,v=wM (par,3,y1,y2,y3,y4,s,(Y,0,0))/\fV x _B (dH s) p
 | 5=>∃ s:Sl,yL x _B v [(par,3,y1,y2,y3,y4,s,(Y,0,0))]/\fV x _B (dH s) p
 | 6=>True
 | 7=>∃ s:Sl,yL x _B v [(par,3,y1,y2,y3,y4,s,(Y,0,0))]/\fV x _B (dH s) p
 | _=>True
def F7 (W:aG) (_b3 _b5 b6:Nat) (me:Int) (s1:Option ay) (s2 s3:Nat) (s4:Option ay) (s5 s6:Nat) (s7:Option ay) (s8 s9:Nat) (s10:Option ay) (s11 s12:Nat) (s13:Option ay) (s14 s15:Nat) (_par:Int) (_y1 _y2 _y3 _y4:Int) (_po:Option ay) (_pn _pc:Nat) (_y6:Int) (_y7:Bool) (_p:List C5) (D:Nat->Prop) (x:aG):Prop:=(¬ D 6->Below W.heap.size W x)/\(D 6->bP b6 W x/\cZ x b6 #[U X me,J s1 s2 s3,J s4 s5 s6,J s7 s8 s9,J s10 s11 s12,J s13 s14 s15] 30)
noncomputable def Nt:Code:=((Tryz.f45.body.bind (eu 4)).getD .skip)
theorem Ua (Q:Exit->Act->aG->Prop) (W:aG) (b3 b5 b6:Nat) (me:Int) (s1:Option ay) (s2 s3:Nat) (s4:Option ay) (s5 s6:Nat) (s7:Option ay) (s8 s9:Nat) (s10:Option ay) (s11 s12:Nat) (s13:Option ay) (s14 s15:Nat) (par:Int) (y1 y2 y3 y4:Int) (po:Option ay) (pn pc:Nat) (y6:Int) (y7:Bool) (p:List C5) (z0 z1 z2 z3 z4 z5:aO) (u0 u2 u4 u7 u8 u9 u10 u11 u12 u13 u14 u15 u16 u17 u18 u19 u20 u21 u22 u23:aO)
  (h3:cZ W b3 #[U X me,J s1 s2 s3,J s4 s5 s6,J s7 s8 s9,J s10 s11 s12,J s13 s14 s15] 30) (h5:cZ W b5 #[U X y1,U X y2,U X y3,U X y4,J po pn pc,U X y6,aR y7] 67) (h6:cZ W b6 #[z0,z1,z2,z3,z4,z5] 30) (n3:b3≠b6) (n5:b5≠b6) (hp:fI W (J po pn pc) p) (lp:p.length<=900)
  (hQ:∀ (a:Act) (y:aG) (s:Sl) (ra:Option ay) (rc:Nat),a.defers=[]->a.tmps[6]?=O (Z (O ⟨b6,0,Y⟩))->a.tmps[7]?=O (J ra 1 rc)->cZ y b6 #[U X me,J s1 s2 s3,J s4 s5 s6,J s7 s8 s9,J s10 s11 s12,J s13 s14 s15] 30->bP b6 W y->yL y W.heap.size (J ra 1 rc) [(par,3,y1,y2,y3,y4,s,(Y,0,0))]->fV y W.heap.size (dH s) p->Q .normal a y) :
  Code.wp aL Nt Q ⟨(u0::U X par::u2::Z (O ⟨b3,0,Y⟩)::u4::Z (O ⟨b5,0,Y⟩)::Z (O ⟨b6,0,Y⟩)::u7::u8::u9::u10::u11::u12::u13::u14::u15::u16::u17::u18::u19::u20::u21::u22::u23::[]).toArray,[]⟩ W:=by
 have HQ:=L hQ;have H3:=L h3;have H5:=L h5;have H6:=L h6;have N3:=L n3;have N5:=L n5;have HP:=L hp;have LP:=L lp;clear hQ h3 h5 h6 n3 n5 hp lp;have QL:∀ D x,F7 W b3 b5 b6 me s1 s2 s3 s4 s5 s6 s7 s8 s9 s10 s11 s12 s13 s14 s15 par y1 y2 y3 y4 po pn pc y6 y7 p D x->cZ x b3 #[U X me,J s1 s2 s3,J s4 s5 s6,J s7 s8 s9,J s10 s11 s12,J s13 s14 s15] 30:=fun D x hF=>by
  by_cases d6:D 6
  ·exact (hF.2 d6).1.1.box H3.out N3.out
  ·exact H3.out.on (hF.1 d6)
 have QN:∀ D x,F7 W b3 b5 b6 me s1 s2 s3 s4 s5 s6 s7 s8 s9 s10 s11 s12 s13 s14 s15 par y1 y2 y3 y4 po pn pc y6 y7 p D x->cZ x b5 #[U X y1,U X y2,U X y3,U X y4,J po pn pc,U X y6,aR y7] 67:=fun D x hF=>by
  by_cases d6:D 6
  ·exact (hF.2 d6).1.1.box H5.out N5.out
  ·exact H5.out.on (hF.1 d6)
 unfold Nt
 conv=>arg 2; whnf
 have nd:∀ j,(∀ i,i<8->[O 18,O 19,O 20,O 21,O 22,O 23,Y,O 7].getD i Y≠O j)->∀ i,i<8->(fun i=>[O 18,O 19,O 20,O 21,O 22,O 23,Y,O 7].getD i Y) i≠O j:=fun j h=>h;refine bN 8 (fun i=>[O 18,O 19,O 20,O 21,O 22,O 23,Y,O 7].getD i Y) (fun _=>8) (QM W.heap.size b3 b5 b6 me s1 s2 s3 s4 s5 s6 s7 s8 s9 s10 s11 s12 s13 s14 s15 par y1 y2 y3 y4 po pn pc y6 y7 p) (F7 W b3 b5 b6 me s1 s2 s3 s4 s5 s6 s7 s8 s9 s10 s11 s12 s13 s14 s15 par y1 y2 y3 y4 po pn pc y6 y7 p) (by kernel_rfl) (by kernel_rfl) rfl (fun i j e hi hj h1 h2=>(by decide:∀ i,i<8->∀ j,j<8->([O 18,O 19,O 20,O 21,O 22,O 23,Y,O 7].getD i Y).isSome=aY->[O 18,O 19,O 20,O 21,O 22,O 23,Y,O 7].getD i Y=[O 18,O 19,O 20,O 21,O 22,O 23,Y,O 7].getD j Y->i=j) i hi j hj (by have h1:[O 18,O 19,O 20,O 21,O 22,O 23,Y,O 7].getD i Y=O e:=h1; rw [h1]; rfl) (h1.trans h2.symm)) (fun i e hi h=>(by decide:∀ i,i<8->∀ q∈[O 18,O 19,O 20,O 21,O 22,O 23,Y,O 7].getD i Y,q<24) i hi e h) (⟨fun _=>(aC _ _).drew,fun h=>h.elim⟩) ?_ ?_
 ·intro i o hi ho a x D hnd hc hD hF seen K hK;clear HQ;have still:∀ i,i≠3/\i≠5/\i≠6->F7 W b3 b5 b6 me s1 s2 s3 s4 s5 s6 s7 s8 s9 s10 s11 s12 s13 s14 s15 par y1 y2 y3 y4 po pn pc y6 y7 p (fun j=>j=i\/D j) x:=fun i hns=>⟨fun h=>hF.1 fun h2=>h (ak h2),fun h=>hF.2 (h.resolve_left (Ne.symm hns.2.2))⟩;rcases (by omega:i=0\/i=1\/i=2\/i=3\/i=4\/i=5\/i=6\/i=7) with rfl|rfl|rfl|rfl|rfl|rfl|rfl|rfl
  ·cases ho;have e3:a.eval (ah 3)=Z (O ⟨b3,0,Y⟩):=seen.kp 3 _ (nd 3 (by decide)) rfl;obtain⟨y0,y1,y2,y3,y4,y5⟩:=(QL D x hF).fQ;exact aD rfl rfl (aX a.eval _ 30 (ah 3) rfl (by rw [e3]; simp [go_sem,y0,y1,y2,y3,y4,y5])) (hK _ _ rfl (still 0 (by decide)) fun _ _ _ _ _ _ _ h=>h)
  ·cases ho;have e1:a.eval (ah 1)=U X par:=seen.kp 1 _ (nd 1 (by decide)) rfl;exact aD rfl rfl (bG a.eval _ (ah 1) rfl x) (hK _ _ e1 (still 1 (by decide)) fun _ _ _ _ _ _ _ h=>h)
  ·cases ho;have e5:a.eval (ah 5)=Z (O ⟨b5,0,Y⟩):=seen.kp 5 _ (nd 5 (by decide)) rfl;obtain⟨y0,y1,y2,y3,y4,y5,y6⟩:=(QN D x hF).Ai;exact aD rfl rfl (aX a.eval _ 67 (ah 5) rfl (by rw [e5]; simp [go_sem,y0,y1,y2,y3,y4,y5,y6])) (hK _ _ rfl (still 2 (by decide)) fun _ _ _ _ _ _ _ h=>h)
  ·cases ho;have e20:a.eval (ah 20)=aH #[U X y1,U X y2,U X y3,U X y4,J po pn pc,U X y6,aR y7]:=seen.at_ ⟨2,.data⟩ (by simp) rfl (ak (by decide)) _ rfl;have n6:¬ D 6:=fun h=>hnd (hc 6 _ h rfl ⟨3,.chain⟩ (by simp) rfl);have n4:¬ D 4:=fun h=>hnd (hc 4 _ h rfl ⟨3,.data⟩ (by simp) rfl);have n5:¬ D 5:=fun h=>n4 (hc 5 _ h rfl ⟨4,.data⟩ (by simp) rfl);have n7:¬ D 7:=fun h=>n5 (hc 7 _ h rfl ⟨5,.data⟩ (by simp) rfl);have hb:=hF.1 n6;exact bJ rfl rfl (Rw.gq a.eval _ (ah 20) 67 115 rfl e20 rfl _ (fu Tryz.func115 rfl rfl _ _)) (uw (y1,y2,y3,y4,(po,pn,pc),y6,y7) p x (HP.out.on hb) LP.out) fun e w1 h=>by
    obtain⟨⟨s,rfl,q1⟩,q2⟩:=h;exact⟨_,rfl,hK _ w1 ⟨s,rfl,dn q1 hb.size⟩ ⟨fun _=>hb.trans (q2.mono hb.size),fun h=>absurd (h.resolve_left (by decide)) n6⟩ (fun j u hj dj nl nx ni h=>by
    rcases (by omega:j=0\/j=1\/j=2\/j=3\/j=4\/j=5\/j=6\/j=7) with rfl|rfl|rfl|rfl|rfl|rfl|rfl|rfl
    ·exact h
    ·exact h
    ·exact h
    ·exact absurd rfl ni
    ·exact absurd dj n4
    ·exact absurd dj n5
    ·exact h
    ·exact absurd dj n7)⟩
  ·cases ho;have e19:a.eval (ah 19)=U X par:=seen.at_ ⟨1,.data⟩ (by simp) rfl (ak (by decide)) _ rfl;have Nu:=seen.at_ ⟨3,.data⟩ (by simp) rfl (ak (by decide)) _ rfl;obtain⟨s,q0,q1⟩:=Nu;have q0:a.eval (ah 21)=aH #[U X 3,U X y1,U X y2,U X y3,U X y4,dH s,J Y 0 0]:=q0;exact aD rfl rfl (bK a.eval _ 46 #[(0,ah 19),(1,ah 21)] rfl (ps:=#[(0,U X par),(1,aH #[U X 3,U X y1,U X y2,U X y3,U X y4,dH s,J Y 0 0])]) (by simp only [aM,aQ,aT,e19,q0]) (by simp [go_sem])) (hK _ _ ⟨s,rfl,q1⟩ (still 4 (by decide)) fun _ _ _ _ _ _ _ h=>h)
  ·cases ho;have Ub:=seen.at_ ⟨4,.data⟩ (by simp) rfl (ak (by decide)) _ rfl;obtain⟨s,q0,q1⟩:=Ub;have q0:a.eval (ah 22)=wM (par,3,y1,y2,y3,y4,s,(Y,0,0)):=q0;have hsz:W.heap.size<=x.heap.size:=by
    by_cases d6:D 6
    ·exact (hF.2 d6).1.1.2
    ·exact (hF.1 d6).size
   have n7:¬ D 7:=fun h=>hnd (hc 7 _ h rfl ⟨5,.data⟩ (by simp) rfl);have hl:=nK Jm x [((par,3,y1,y2,y3,y4,s,(Y,0,0)):lV)] 1 rfl (by simp) (iX (par,3,y1,y2,y3,y4,s,(Y,0,0))).toArray (by simp [flat,EU]);have nb:=iM x (aK (iX (par,3,y1,y2,y3,y4,s,(Y,0,0))).toArray 46);exact aD rfl rfl (bO a.eval _ 37 1 #[(0,ah 22)] rfl (ps:=#[(0,wM (par,3,y1,y2,y3,y4,s,(Y,0,0)))]) (by simp [q0]) (by simp [go_sem])) (hK (J (O ⟨x.heap.size,0,Y⟩) 1 1) (x.alloc (aK (iX (par,3,y1,y2,y3,y4,s,(Y,0,0))).toArray 46)) ⟨s,dn hl hsz,Bk.dw q1 nb⟩ ⟨fun h=>(hF.1 fun h2=>h (ak h2)).trans (nb.mono hsz),fun h=>⟨(hF.2 (h.resolve_left (by decide))).1.grow H6.out.lt nb,(hF.2 (h.resolve_left (by decide))).2.on nb⟩⟩ (fun j u hj dj nl nx ni h=>by
    rcases (by omega:j=0\/j=1\/j=2\/j=3\/j=4\/j=5\/j=6\/j=7) with rfl|rfl|rfl|rfl|rfl|rfl|rfl|rfl
    ·exact h
    ·exact h
    ·exact h
    ·obtain⟨s,h1,h2⟩:=h; exact⟨s,h1,Bk.dw h2 nb⟩
    ·obtain⟨s,h1,h2⟩:=h; exact⟨s,h1,Bk.dw h2 nb⟩
    ·exact absurd rfl ni
    ·exact h
    ·exact absurd dj n7))
  ·cases ho;have e6:a.eval (ah 6)=Z (O ⟨b6,0,Y⟩):=seen.kp 6 _ (nd 6 (by decide)) rfl;have e18:a.eval (ah 18)=aH #[U X me,J s1 s2 s3,J s4 s5 s6,J s7 s8 s9,J s10 s11 s12,J s13 s14 s15]:=seen.at_ ⟨0,.data⟩ (by simp) rfl (ak (by decide)) _ rfl;have hb:=hF.1 hnd;have n7:¬ D 7:=fun h=>hnd (hc 7 _ h rfl ⟨6,.chain⟩ (by simp) rfl);have hs:=qo (H6.out.on hb) me s1 s4 s7 s10 s13 s2 s3 s5 s6 s8 s9 s11 s12 s14 s15;have bs:=aj x b6 (U X me) (J s1 s2 s3) (J s4 s5 s6) (J s7 s8 s9) (J s10 s11 s12) (J s13 s14 s15);have Nv:=H6.out.on hb;have ff:F7 W b3 b5 b6 me s1 s2 s3 s4 s5 s6 s7 s8 s9 s10 s11 s12 s13 s14 s15 par y1 y2 y3 y4 po pn pc y6 y7 p (fun j=>j=6\/D j) (iy x b6 (U X me) (J s1 s2 s3) (J s4 s5 s6) (J s7 s8 s9) (J s10 s11 s12) (J s13 s14 s15)):=⟨fun h=>absurd (aU rfl) h,fun _=>⟨⟨(But.of_below hb).trans bs,fun B hB=>dz (b:=b6) (hb.mono (aJ hB (Nat.le_of_lt H6.out.lt))) hB (U X me) (J s1 s2 s3) (J s4 s5 s6) (J s7 s8 s9) (J s10 s11 s12) (J s13 s14 s15)⟩,dK Nv (U X me) (J s1 s2 s3) (J s4 s5 s6) (J s7 s8 s9) (J s10 s11 s12) (J s13 s14 s15)⟩⟩;generalize iy x b6 (U X me) (J s1 s2 s3) (J s4 s5 s6) (J s7 s8 s9) (J s10 s11 s12) (J s13 s14 s15)=x2 at *;have q:=hK (aR aY) x2 trivial ff (fun j u hj dj nl nx ni h=>by
    rcases (by omega:j=0\/j=1\/j=2\/j=3\/j=4\/j=5\/j=6\/j=7) with rfl|rfl|rfl|rfl|rfl|rfl|rfl|rfl
    ·exact h
    ·exact h
    ·exact h
    ·obtain⟨s,h1,h2⟩:=h; exact⟨s,h1,bs.own h2 Nv (by decide)⟩
    ·obtain⟨s,h1,h2⟩:=h; exact⟨s,h1,bs.own h2 Nv (by decide)⟩
    ·obtain⟨s,h1,h2⟩:=h; exact⟨s,bs.own h1 Nv (by decide),bs.own h2 Nv (by decide)⟩
    ·exact h
    ·exact absurd dj n7)
   exact bL 30 (ah 6) (ah 18) rfl rfl rfl rfl e6 e18 hs q
  ·cases ho;have QO:=seen.at_ ⟨5,.data⟩ (by simp) rfl (ak (by decide)) _ rfl;exact aD rfl rfl (bQ a.eval _ (ah 23) rfl x) (hK _ _ QO (still 7 (by decide)) fun _ _ _ _ _ _ _ h=>h)
 ·intro a x df sz kp ⟨vs,hv⟩ ⟨D,hall,hF⟩;obtain⟨s,q1,q2⟩:=(hv 7 (by omega)).2 (by decide);have g7:=(hv 7 (by omega)).1 7 rfl;obtain⟨f1,f2⟩:=hF.2 (hall 6 (by omega));obtain⟨ra,rc,hv7⟩:=(Row.dx q1).len;rw [hv7] at g7 q1;exact HQ.out a x s ra rc df ((kp 6 (nd 6 (by decide))).trans rfl) g7 f2 f1 q1 q2
def Nw (W:aG) (P:Prop) (r:Br×List Ou) (e:Ending) (w':aG):Prop:=(∃ (nv av sv ev ov s:Sl) (lx:List lV),e=.returned (.tuple #[nS r.1.me nv av sv ev ov,dH s])/\ru w' r.1 nv av sv ev ov/\(P->iD w' r.1 nv av sv ev ov)/\kX w' W.heap.size (dH s) lx r.2)/\Below W.heap.size W w'
theorem uz (b:Br) (s1:Option ay) (s2 s3:Nat) (s4:Option ay) (s5 s6:Nat) (s7:Option ay) (s8 s9:Nat) (s10:Option ay) (s11 s12:Nat) (s13:Option ay) (s14 s15:Nat) (par:Int) (y1 y2 y3 y4:Int) (po:Option ay) (pn pc:Nat) (y6:Int) (y7:Bool) (e:En) (w:aG) (h:ru w b (s1,s2,s3) (s4,s5,s6) (s7,s8,s9) (s10,s11,s12) (s13,s14,s15)) (he:kJ w (y1,y2,y3,y4,(po,pn,pc),y6,y7) e) (hf:yw b) (hfp:mG b) (hr:gU b.ent) (pe:∀ e∈b.ent,eD e.p) (pp:eD e.p) :
  bM aL 45 #[aH #[U X b.me,J s1 s2 s3,J s4 s5 s6,J s7 s8 s9,J s10 s11 s12,J s13 s14 s15],U X par,aH #[U X y1,U X y2,U X y3,U X y4,J po pn pc,U X y6,aR y7]] w (Nw w (iD w b (s1,s2,s3) (s4,s5,s6) (s7,s8,s9) (s10,s11,s12) (s13,s14,s15)) (eP b par e)):=by
 obtain⟨h0,h1,h2,h3⟩:=iA w #[U X b.me,J s1 s2 s3,J s4 s5 s6,J s7 s8 s9,J s10 s11 s12,J s13 s14 s15] #[U X y1,U X y2,U X y3,U X y4,J po pn pc,U X y6,aR y7] #[U X 0,J Y 0 0,J Y 0 0,J Y 0 0,J Y 0 0,J Y 0 0] 30 67 30;have FG:=L (fun W hb=>Fa b e (s1,s2,s3) (s4,s5,s6) (s7,s8,s9) (s10,s11,s12) (s13,s14,s15) (y1,y2,y3,y4,(po,pn,pc),y6,y7) W (h.br.on (show Below w.heap.size w W from hb)) (he.on hb) hf hfp hr pe pp);have NO:=L h.no;have RC:=L (show ∀ W,Below w.heap.size w W->iD w b (s1,s2,s3) (s4,s5,s6) (s7,s8,s9) (s10,s11,s12) (s13,s14,s15)->iD W b (s1,s2,s3) (s4,s5,s6) (s7,s8,s9) (s10,s11,s12) (s13,s14,s15) from fun W hb hc=>hc.on hb);have LP:=L (gJ pp);have HE:=L he;have UE:=L (show eP b par e=((gM b e).1,if (gM b e).2=aY then [mH par e] else []) from rfl);have FM:=L (oV b e);obtain⟨me,hme⟩:∃ me,me=b.me:=⟨_,rfl⟩;have ME:=L hme;simp only [<- hme] at h0 h1 h2 h3 FG ⊢;have jm:=L (h0);have Lh:=L (h1);have Li:=L (h2);have CK:=L (h3);clear h0 h1 h2 h3 h he hf hfp hr pe pp hme;go_enter bH,Tryz.ntmps45;go_upto_region 1 with fail;generalize (((w.alloc (aK #[U X me,J s1 s2 s3,J s4 s5 s6,J s7 s8 s9,J s10 s11 s12,J s13 s14 s15] 30)).alloc (aK #[U X y1,U X y2,U X y3,U X y4,J po pn pc,U X y6,aR y7] 67)).alloc (aK #[U X 0,J Y 0 0,J Y 0 0,J Y 0 0,J Y 0 0,J Y 0 0] 30))=W at *;have SW:=L (FG.out W jm.out);clear FG;have Mf:=L (RC.out W jm.out);have Ny:=L (NO.out.on jm.out);clear RC NO;obtain⟨x0,x1,x2,x3,x4,x5⟩:=Lh.out.fQ;obtain⟨Lj,y_1,Uc,Ud,Ue,Uf,Ug⟩:=Li.out.Ai;go_wp2_with fail;refine SW.out.mono ?_;rintro e1 w1 ⟨⟨⟨m1,m2,m3⟩,⟨m4,m5,m6⟩,⟨m7,m8,m9⟩,⟨m10,m11,m12⟩,⟨m13,m14,m15⟩,rfl,hbr,hno,hbc⟩,hb⟩;clear SW;clear x0 x1 x2 x3 x4 x5 Lj y_1 Uc Ud Ue Uf Ug;have CU:=L (jm.out.trans (hb.mono jm.out.size));have sG:=L (Lh.out.on hb);have Nz:=L (Li.out.on hb);have ND:=L (CK.out.on hb);clear jm Lh Li CK;generalize hr:(gM b e).2=r at *;have BN:=L (show ru w1 (gM b e).1 (m1,m2,m3) (m4,m5,m6) (m7,m8,m9) (m10,m11,m12) (m13,m14,m15) from ⟨hbr,by rw [FM.out.2.1]; exact (hno Ny.out).elim fun B q=>⟨B,by rw [<- FM.out.2.1]; exact q⟩⟩);have NG:=L (show (iD w b (s1,s2,s3) (s4,s5,s6) (s7,s8,s9) (s10,s11,s12) (s13,s14,s15)\/r=aY)->iD w1 (gM b e).1 (m1,m2,m3) (m4,m5,m6) (m7,m8,m9) (m10,m11,m12) (m13,m14,m15) from fun h=>hbc (h.imp Mf.out id));clear hbr hno hbc hb hr Mf Ny;rw [show (gM b e).1.me=me from by rw [FM.out.1,ME.out]];obtain⟨k0,k1,k2,k3,k4,k5⟩:=sG.out.fQ;obtain⟨zf,zh,zi,zk,zm,zn⟩:=sG.out.mD;have zz:=sG.out.lt;have bs:=aj w1 w.heap.size (U X me) (J m1 m2 m3) (J m4 m5 m6) (J m7 m8 m9) (J m10 m11 m12) (J m13 m14 m15);have G0:=L (dz (b:=w.heap.size) CU.out (bf _) (U X me) (J m1 m2 m3) (J m4 m5 m6) (J m7 m8 m9) (J m10 m11 m12) (J m13 m14 m15));have G1:=L (bs.box Nz.out (by omega));have G2:=L (bs.box ND.out (by omega));have G3:=L (BN.out.keep (s1:=(s1,s2,s3)) (s2:=(s4,s5,s6)) (s3:=(s7,s8,s9)) (s4:=(s10,s11,s12)) (s5:=(s13,s14,s15)) (me:=me) sG.out bs);have G4:=L (fun h=>iD.lI (NG.out h) bs sG.out (by decide) (by decide) (by decide) (by decide) (by decide) (by decide));have G5:=L (dK sG.out (U X me) (J m1 m2 m3) (J m4 m5 m6) (J m7 m8 m9) (J m10 m11 m12) (J m13 m14 m15));clear bs CU Nz ND BN NG sG;go_upto_region 2 with fail;clear zz k0 k1 k2 k3 k4 k5 zf zh zi zk zm zn;unfold iy at G0 G1 G2 G3 G4 G5;generalize ((((((w1.setCell ⟨w.heap.size,0,Y⟩ (U X me)).setCell ⟨w.heap.size,1,Y⟩ (J m1 m2 m3)).setCell ⟨w.heap.size,2,Y⟩ (J m4 m5 m6)).setCell ⟨w.heap.size,3,Y⟩ (J m7 m8 m9)).setCell ⟨w.heap.size,4,Y⟩ (J m10 m11 m12)).setCell ⟨w.heap.size,5,Y⟩ (J m13 m14 m15))=w2 at *;have kY:=L (G0.out);have QS:=L (G1.out);have xL:=L (G2.out);have QT:=L (G3.out);have F8:=L (G4.out);have rG:=L (G5.out);clear G0 G1 G2 G3 G4 G5;cases r
 ·have x0:=rG.out.cell 0;have x1:=rG.out.cell 1;have x2:=rG.out.cell 2;have x3:=rG.out.cell 3;have x4:=rG.out.cell 4;have x5:=rG.out.cell 5;simp only [au,aA,aB] at x0 x1 x2 x3 x4 x5;have F9:=L (fun h=>F8.out (aU h));obtain⟨r0,r1,r2,r3,r4,r5⟩:=xL.out.fQ;obtain⟨NH,NI,NJ,NK,NM,NP⟩:=xL.out.mD;have zz:=xL.out.lt;have bs:=aj w2 (w.heap.size+1+1) (U X me) (J m1 m2 m3) (J m4 m5 m6) (J m7 m8 m9) (J m10 m11 m12) (J m13 m14 m15);have GG:=L (dK xL.out (U X me) (J m1 m2 m3) (J m4 m5 m6) (J m7 m8 m9) (J m10 m11 m12) (J m13 m14 m15));have BL:=L (dz (b:=w.heap.size+1+1) kY.out (by omega) (U X me) (J m1 m2 m3) (J m4 m5 m6) (J m7 m8 m9) (J m10 m11 m12) (J m13 m14 m15));have HB:=L (QT.out.keep (s1:=(Y,0,0)) (s2:=(Y,0,0)) (s3:=(Y,0,0)) (s4:=(Y,0,0)) (s5:=(Y,0,0)) (me:=0) xL.out bs);have HB2:=L (fun h=>iD.lI (F9.out h) bs xL.out (by decide) (by decide) (by decide) (by decide) (by decide) (by decide));clear bs;go_wp2_with fail;obtain⟨v0,v1,v2,v3,v4,v5⟩:=GG.out.fQ;refine bodyPost_ret (v:=.tuple #[aH #[U X me,J m1 m2 m3,J m4 m5 m6,J m7 m8 m9,J m10 m11 m12,J m13 m14 m15],J Y 0 0]) (by simp [results,bB,go_sem,v0,v1,v2,v3,v4,v5]) rfl ?_;rw [UE.out,if_neg (by simp)];exact⟨⟨(m1,m2,m3),(m4,m5,m6),(m7,m8,m9),(m10,m11,m12),(m13,m14,m15),(Y,0,0),[],by rw [FM.out.1,ME.out],HB.out,HB2.out,kX.nil _ _⟩,BL.out⟩
 ·have BC:=L (F8.out (ak rfl));go_upto_region 4 with fail;refine Ua _ w2 w.heap.size (w.heap.size+1) (w.heap.size+1+1) me m1 m2 m3 m4 m5 m6 m7 m8 m9 m10 m11 m12 m13 m14 m15 par y1 y2 y3 y4 po pn pc y6 y7 e.p _ _ _ _ _ _ _ _ _ _ _ _ _ _ _ _ _ _ _ _ _ _ _ _ _ _ rG.out QS.out xL.out (by omega) (by omega) (HE.out.2.2.2.2.on kY.out) LP.out ?_;intro a y s ra rc hd h6 h7 hbx hst hou hoc;have HC:=L (BC.out.lI hst.1 xL.out (by decide) (by decide) (by decide) (by decide) (by decide) (by decide));have BL:=L (kY.out.trans (hst.2 w.heap.size (by omega)));have HO:=L (show kX y w.heap.size (J ra 1 rc) [(par,3,y1,y2,y3,y4,s,(Y,0,0))] [mH par e] from ⟨dn hou kY.out.size,.cons ⟨rfl,rfl,HE.out.1,HE.out.2.1,dn hoc kY.out.size,rfl⟩ .nil⟩);obtain⟨v0,v1,v2,v3,v4,v5⟩:=hbx.fQ;simp only [Exit.then]
  apply_assumption
  go_wp2_with fail;refine bodyPost_ret (v:=.tuple #[aH #[U X me,J m1 m2 m3,J m4 m5 m6,J m7 m8 m9,J m10 m11 m12,J m13 m14 m15],J ra 1 rc]) (by simp [results,bB,go_sem,h6,h7,v0,v1,v2,v3,v4,v5]) hd ?_;rw [UE.out];simp only [if_true];exact⟨⟨(m1,m2,m3),(m4,m5,m6),(m7,m8,m9),(m10,m11,m12),(m13,m14,m15),(ra,1,rc),_,by rw [FM.out.1,ME.out],⟨HC.out.br,HC.out.no⟩,fun _=>HC.out,HO.out⟩,BL.out⟩
def NQ (_B:Nat) (_b5 _b7 _b8 _b10 n:Nat) (me:Int) (s1:Option ay) (s2 s3:Nat) (s4:Option ay) (s5 s6:Nat) (s7:Option ay) (s8 s9:Nat) (s10:Option ay) (s11 s12:Nat) (s13:Option ay) (s14 s15:Nat) (par t1 t2 x1 x2:Int) (rv:aO) (_lx:List lV) (l:List Ou) (_bb:Br) (_z0 _z1 _z2 _z3 _z4 _z5:aO) (i:Nat) (v:aO) (x:aG):Prop :=
 match i with
 | 0=>v=aH #[U X me,J s1 s2 s3,J s4 s5 s6,J s7 s8 s9,J s10 s11 s12,J s13 s14 s15]
 | 1=>v=rv
 | 2=>v=U X par
 | 3=>v=aH #[U X t1,U X t2]
 | 4=>v=aH #[U X x1,U X x2]
 | 5=>v=aH #[U X 4,U X t1,U X t2,U X x1,U X x2,J Y 0 0,J Y 0 0]
 | 6=>v=wM (par,4,t1,t2,x1,x2,(Y,0,0),(Y,0,0))
 | 7=>yL x _B v [(par,4,t1,t2,x1,x2,(Y,0,0),(Y,0,0))]
 | 8=>∃ ly:List lV,kX x n v ly (l++[⟨par,4,(t1,t2),(x1,x2),[]⟩])
 | 9=>True
 | 10=>∃ ly:List lV,kX x n v ly (l++[⟨par,4,(t1,t2),(x1,x2),[]⟩])
 | _=>True
def rH (W:aG) (b5 b7 b8 b10 n:Nat) (me:Int) (s1:Option ay) (s2 s3:Nat) (s4:Option ay) (s5 s6:Nat) (s7:Option ay) (s8 s9:Nat) (s10:Option ay) (s11 s12:Nat) (s13:Option ay) (s14 s15:Nat) (_par t1 t2 x1 x2:Int) (_rv:aO) (_lx:List lV) (_l:List Ou) (bb:Br) (z0 z1 z2 z3 z4 z5:aO) (D:Nat->Prop) (x:aG):Prop:=(¬ D 8->Below W.heap.size W x)/\(D 8->¬ D 9->(Below n W x/\iD x bb (s1,s2,s3) (s4,s5,s6) (s7,s8,s9) (s10,s11,s12) (s13,s14,s15)/\cZ x b5 #[U X me,J s1 s2 s3,J s4 s5 s6,J s7 s8 s9,J s10 s11 s12,J s13 s14 s15] 30/\cZ x b10 #[z0,z1,z2,z3,z4,z5] 30/\cZ x b7 #[U X t1,U X t2] 23/\cZ x b8 #[U X x1,U X x2] 23))/\(D 9->Below n W x/\iD x bb (s1,s2,s3) (s4,s5,s6) (s7,s8,s9) (s10,s11,s12) (s13,s14,s15)/\cZ x b5 #[U X me,J s1 s2 s3,J s4 s5 s6,J s7 s8 s9,J s10 s11 s12,J s13 s14 s15] 30/\cZ x b10 #[U X me,J s1 s2 s3,J s4 s5 s6,J s7 s8 s9,J s10 s11 s12,J s13 s14 s15] 30)
noncomputable def JC:Code:=((Tryz.f48.body.bind (eu 10)).getD .skip)
theorem QU (Q:Exit->Act->aG->Prop) (W:aG) (b5 b7 b8 b10 n:Nat) (me:Int) (s1:Option ay) (s2 s3:Nat) (s4:Option ay) (s5 s6:Nat) (s7:Option ay) (s8 s9:Nat) (s10:Option ay) (s11 s12:Nat) (s13:Option ay) (s14 s15:Nat) (par t1 t2 x1 x2:Int) (rv:aO) (lx:List lV) (l:List Ou) (bb:Br) (z0 z1 z2 z3 z4 z5:aO) (u0 u2 u3 u4 u6 u9 u11 u12 u13 u15 u16 u17 u18 u19 u20 u21 u22 u23 u24 u25 u26 u27 u28 u29 u30 u31 u32 u33 u34 u35 u36 u37 u38 u39 u40 u41 u42 u43 u44 u45 u46 u47 u48 u49 u50 u51:aO)
  (h5:cZ W b5 #[U X me,J s1 s2 s3,J s4 s5 s6,J s7 s8 s9,J s10 s11 s12,J s13 s14 s15] 30) (h7:cZ W b7 #[U X t1,U X t2] 23) (h8:cZ W b8 #[U X x1,U X x2] 23) (h10:cZ W b10 #[z0,z1,z2,z3,z4,z5] 30) (n5:b5≠b10) (n7:b7≠b10) (n8:b8≠b10) (ar:kX W n rv lx l) (hn:n<=W.heap.size) (hl:lx.length<=900) (Sn:iD W bb (s1,s2,s3) (s4,s5,s6) (s7,s8,s9) (s10,s11,s12) (s13,s14,s15)) (nb:n<=b10)
  (hQ:∀ (a:Act) (y:aG) (ly:List lV) (ra:Option ay) (rc:Nat),a.defers=[]->a.tmps[10]?=O (Z (O ⟨b10,0,Y⟩))->a.tmps[11]?=O (J ra ly.length rc)->cZ y b10 #[U X me,J s1 s2 s3,J s4 s5 s6,J s7 s8 s9,J s10 s11 s12,J s13 s14 s15] 30->Below n W y->iD y bb (s1,s2,s3) (s4,s5,s6) (s7,s8,s9) (s10,s11,s12) (s13,s14,s15)->kX y n (J ra ly.length rc) ly (l++[⟨par,4,(t1,t2),(x1,x2),[]⟩])->Q .normal a y) :
  Code.wp aL JC Q ⟨(u0::U X par::u2::u3::u4::Z (O ⟨b5,0,Y⟩)::u6::Z (O ⟨b7,0,Y⟩)::Z (O ⟨b8,0,Y⟩)::u9::Z (O ⟨b10,0,Y⟩)::u11::u12::u13::rv::u15::u16::u17::u18::u19::u20::u21::u22::u23::u24::u25::u26::u27::u28::u29::u30::u31::u32::u33::u34::u35::u36::u37::u38::u39::u40::u41::u42::u43::u44::u45::u46::u47::u48::u49::u50::u51::[]).toArray,[]⟩ W:=by
 have HQ:=L hQ;have H5:=L h5;have H7:=L h7;have H8:=L h8;have Uh:=L h10;have N5:=L n5;have N7:=L n7;have N8:=L n8;have AR:=L ar;have HN:=L hn;have HL:=L hl;have Ui:=L Sn;have NB:=L nb;clear hQ h5 h7 h8 h10 n5 n7 n8 ar hn hl Sn nb;have QN:∀ D x,rH W b5 b7 b8 b10 n me s1 s2 s3 s4 s5 s6 s7 s8 s9 s10 s11 s12 s13 s14 s15 par t1 t2 x1 x2 rv lx l bb z0 z1 z2 z3 z4 z5 D x->cZ x b5 #[U X me,J s1 s2 s3,J s4 s5 s6,J s7 s8 s9,J s10 s11 s12,J s13 s14 s15] 30:=fun D x hF=>by
  by_cases d8:D 8
  ·by_cases d9:D 9
   ·exact (hF.2.2 d9).2.2.1
   ·exact (hF.2.1 d8 d9).2.2.1
  ·exact H5.out.on (hF.1 d8)
 have QV:∀ D x,rH W b5 b7 b8 b10 n me s1 s2 s3 s4 s5 s6 s7 s8 s9 s10 s11 s12 s13 s14 s15 par t1 t2 x1 x2 rv lx l bb z0 z1 z2 z3 z4 z5 D x->¬ D 9->cZ x b7 #[U X t1,U X t2] 23:=fun D x hF n9=>by
  by_cases d8:D 8
  ·exact (hF.2.1 d8 n9).2.2.2.2.1
  ·exact H7.out.on (hF.1 d8)
 have QW:∀ D x,rH W b5 b7 b8 b10 n me s1 s2 s3 s4 s5 s6 s7 s8 s9 s10 s11 s12 s13 s14 s15 par t1 t2 x1 x2 rv lx l bb z0 z1 z2 z3 z4 z5 D x->¬ D 9->cZ x b8 #[U X x1,U X x2] 23:=fun D x hF n9=>by
  by_cases d8:D 8
  ·exact (hF.2.1 d8 n9).2.2.2.2.2
  ·exact H8.out.on (hF.1 d8)
 unfold JC
 conv=>arg 2; whnf
 have nd:∀ j,(∀ i,i<11->[O 43,O 44,O 45,O 46,O 47,O 48,O 49,O 50,O 51,Y,O 11].getD i Y≠O j)->∀ i,i<11->(fun i=>[O 43,O 44,O 45,O 46,O 47,O 48,O 49,O 50,O 51,Y,O 11].getD i Y) i≠O j:=fun j h=>h;refine bN 11 (fun i=>[O 43,O 44,O 45,O 46,O 47,O 48,O 49,O 50,O 51,Y,O 11].getD i Y) (fun i=>if i=7 then 8 else 11) (NQ W.heap.size b5 b7 b8 b10 n me s1 s2 s3 s4 s5 s6 s7 s8 s9 s10 s11 s12 s13 s14 s15 par t1 t2 x1 x2 rv lx l bb z0 z1 z2 z3 z4 z5) (rH W b5 b7 b8 b10 n me s1 s2 s3 s4 s5 s6 s7 s8 s9 s10 s11 s12 s13 s14 s15 par t1 t2 x1 x2 rv lx l bb z0 z1 z2 z3 z4 z5) (by kernel_rfl) (by kernel_rfl) rfl (fun i j e hi hj h1 h2=>(by decide:∀ i,i<11->∀ j,j<11->([O 43,O 44,O 45,O 46,O 47,O 48,O 49,O 50,O 51,Y,O 11].getD i Y).isSome=aY->[O 43,O 44,O 45,O 46,O 47,O 48,O 49,O 50,O 51,Y,O 11].getD i Y=[O 43,O 44,O 45,O 46,O 47,O 48,O 49,O 50,O 51,Y,O 11].getD j Y->i=j) i hi j hj (by have h1:[O 43,O 44,O 45,O 46,O 47,O 48,O 49,O 50,O 51,Y,O 11].getD i Y=O e:=h1; rw [h1]; rfl) (h1.trans h2.symm)) (fun i e hi h=>(by decide:∀ i,i<11->∀ q∈[O 43,O 44,O 45,O 46,O 47,O 48,O 49,O 50,O 51,Y,O 11].getD i Y,q<52) i hi e h) (⟨fun _=>(aC _ _).drew,fun h=>h.elim,fun h=>h.elim⟩) ?_ ?_
 ·intro i o hi ho a x D hnd hc hD hF seen K hK;clear HQ;have still:∀ i,i≠7/\i≠8/\i≠9->rH W b5 b7 b8 b10 n me s1 s2 s3 s4 s5 s6 s7 s8 s9 s10 s11 s12 s13 s14 s15 par t1 t2 x1 x2 rv lx l bb z0 z1 z2 z3 z4 z5 (fun j=>j=i\/D j) x:=fun i hns=>⟨fun h=>hF.1 fun h2=>h (ak h2),fun h1 h2=>hF.2.1 (h1.resolve_left (Ne.symm hns.2.1)) fun h3=>h2 (ak h3),fun h=>hF.2.2 (h.resolve_left (Ne.symm hns.2.2))⟩;rcases (by omega:i=0\/i=1\/i=2\/i=3\/i=4\/i=5\/i=6\/i=7\/i=8\/i=9\/i=10) with rfl|rfl|rfl|rfl|rfl|rfl|rfl|rfl|rfl|rfl|rfl
  ·cases ho;have e5:a.eval (ah 5)=Z (O ⟨b5,0,Y⟩):=seen.kp 5 _ (nd 5 (by decide)) rfl;obtain⟨y0,y1,y2,y3,y4,y5⟩:=(QN D x hF).fQ;exact aD rfl rfl (aX a.eval _ 30 (ah 5) rfl (by rw [e5]; simp [go_sem,y0,y1,y2,y3,y4,y5])) (hK _ _ rfl (still 0 (by decide)) fun _ _ _ _ _ _ _ h=>h)
  ·cases ho;have e14:a.eval (ah 14)=rv:=seen.kp 14 _ (nd 14 (by decide)) rfl;exact aD rfl rfl (bG a.eval _ (ah 14) rfl x) (hK _ _ e14 (still 1 (by decide)) fun _ _ _ _ _ _ _ h=>h)
  ·cases ho;have e1:a.eval (ah 1)=U X par:=seen.kp 1 _ (nd 1 (by decide)) rfl;exact aD rfl rfl (bG a.eval _ (ah 1) rfl x) (hK _ _ e1 (still 2 (by decide)) fun _ _ _ _ _ _ _ h=>h)
  ·cases ho;have n9:¬ D 9:=fun h9=>hnd (hc 5 _ (hc 6 _ (hc 7 _ (hc 8 _ (hc 9 _ h9 rfl ⟨8,.chain⟩ (by simp) rfl) rfl ⟨7,.data⟩ (by simp) rfl) rfl ⟨6,.data⟩ (by simp) rfl) rfl ⟨5,.data⟩ (by simp) rfl) rfl ⟨3,.data⟩ (by simp) rfl);have e7:a.eval (ah 7)=Z (O ⟨b7,0,Y⟩):=seen.kp 7 _ (nd 7 (by decide)) rfl;obtain⟨y0,y1⟩:=(QV D x hF n9).cs2;exact aD rfl rfl (aX a.eval _ 23 (ah 7) rfl (by rw [e7]; simp [go_sem,y0,y1])) (hK _ _ rfl (still 3 (by decide)) fun _ _ _ _ _ _ _ h=>h)
  ·cases ho;have n9:¬ D 9:=fun h9=>hnd (hc 5 _ (hc 6 _ (hc 7 _ (hc 8 _ (hc 9 _ h9 rfl ⟨8,.chain⟩ (by simp) rfl) rfl ⟨7,.data⟩ (by simp) rfl) rfl ⟨6,.data⟩ (by simp) rfl) rfl ⟨5,.data⟩ (by simp) rfl) rfl ⟨4,.data⟩ (by simp) rfl);have e8:a.eval (ah 8)=Z (O ⟨b8,0,Y⟩):=seen.kp 8 _ (nd 8 (by decide)) rfl;obtain⟨y0,y1⟩:=(QW D x hF n9).cs2;exact aD rfl rfl (aX a.eval _ 23 (ah 8) rfl (by rw [e8]; simp [go_sem,y0,y1])) (hK _ _ rfl (still 4 (by decide)) fun _ _ _ _ _ _ _ h=>h)
  ·cases ho;have e46:a.eval (ah 46)=aH #[U X t1,U X t2]:=seen.at_ ⟨3,.data⟩ (by simp) rfl (ak (by decide)) _ rfl;have e47:a.eval (ah 47)=aH #[U X x1,U X x2]:=seen.at_ ⟨4,.data⟩ (by simp) rfl (ak (by decide)) _ rfl;exact aD rfl rfl (bK a.eval _ 43 #[(0,.const (U X 4)),(1,ah 46),(2,ah 47)] rfl (ps:=#[(0,U X 4),(1,aH #[U X t1,U X t2]),(2,aH #[U X x1,U X x2])]) (by simp only [aM,aQ,aT,e46,e47]; rfl) (by simp [go_sem])) (hK _ _ rfl (still 5 (by decide)) fun _ _ _ _ _ _ _ h=>h)
  ·cases ho;have e45:a.eval (ah 45)=U X par:=seen.at_ ⟨2,.data⟩ (by simp) rfl (ak (by decide)) _ rfl;have e48:a.eval (ah 48)=aH #[U X 4,U X t1,U X t2,U X x1,U X x2,J Y 0 0,J Y 0 0]:=seen.at_ ⟨5,.data⟩ (by simp) rfl (ak (by decide)) _ rfl;exact aD rfl rfl (bK a.eval _ 46 #[(0,ah 45),(1,ah 48)] rfl (ps:=#[(0,U X par),(1,aH #[U X 4,U X t1,U X t2,U X x1,U X x2,J Y 0 0,J Y 0 0])]) (by simp only [aM,aQ,aT,e45,e48]) (by simp [go_sem])) (hK _ _ rfl (still 6 (by decide)) fun _ _ _ _ _ _ _ h=>h)
  ·cases ho;have e49:a.eval (ah 49)=wM (par,4,t1,t2,x1,x2,(Y,0,0),(Y,0,0)):=seen.at_ ⟨6,.data⟩ (by simp) rfl (ak (by decide)) _ rfl;have n8:¬ D 8:=fun h=>hnd (hc 8 _ h rfl ⟨7,.data⟩ (by simp) rfl);have n9:¬ D 9:=fun h=>n8 (hc 9 _ h rfl ⟨8,.chain⟩ (by simp) rfl);have hb:=hF.1 n8;have hl:=nK Jm x [((par,4,t1,t2,x1,x2,(Y,0,0),(Y,0,0)):lV)] 1 rfl (by simp) (iX (par,4,t1,t2,x1,x2,(Y,0,0),(Y,0,0))).toArray (by simp [flat,EU]);have nb:=iM x (aK (iX (par,4,t1,t2,x1,x2,(Y,0,0),(Y,0,0))).toArray 46);exact aD rfl rfl (bO a.eval _ 37 1 #[(0,ah 49)] rfl (ps:=#[(0,wM (par,4,t1,t2,x1,x2,(Y,0,0),(Y,0,0)))]) (by simp [e49]) (by simp [go_sem])) (hK (J (O ⟨x.heap.size,0,Y⟩) 1 1) (x.alloc (aK (iX (par,4,t1,t2,x1,x2,(Y,0,0),(Y,0,0))).toArray 46)) (dn hl hb.size) ⟨fun _=>hb.trans (nb.mono hb.size),fun h=>absurd (h.resolve_left (by decide)) n8,fun h=>absurd (h.resolve_left (by decide)) n9⟩ (fun j u hj dj nl nx ni h=>by
    rcases (by omega:j=0\/j=1\/j=2\/j=3\/j=4\/j=5\/j=6\/j=7\/j=8\/j=9\/j=10) with rfl|rfl|rfl|rfl|rfl|rfl|rfl|rfl|rfl|rfl|rfl
    ·exact h
    ·exact h
    ·exact h
    ·exact h
    ·exact h
    ·exact h
    ·exact h
    ·exact absurd rfl ni
    ·exact absurd dj n8
    ·exact h
    ·exact absurd (hc 10 _ dj rfl ⟨8,.data⟩ (by simp) rfl) n8))
  ·cases ho;have e44:a.eval (ah 44)=rv:=seen.at_ ⟨1,.data⟩ (by simp) rfl (ak (by decide)) _ rfl;have Uj:=seen.at_ ⟨7,.data⟩ (by simp) rfl (aU rfl) _ rfl;have n9:¬ D 9:=fun h=>hnd (hc 9 _ h rfl ⟨8,.chain⟩ (by simp) rfl);have hb:=hF.1 hnd;have ar:=AR.out.on hb;obtain⟨v',x',r,o',gr⟩:=jq Jm n ar.row (Row.dx Uj) (by have:=HL.out; omega) (by simp) (aJ HN.out hb.size) 37;have hp:=ar.more gr o' (m:=[⟨par,4,(t1,t2),(x1,x2),[]⟩]) (.cons (show Lf _ _ _ _ from ⟨rfl,rfl,rfl,rfl,gN _ _,rfl⟩) .nil);have g1:Below n W x':=(hb.mono HN.out).grown gr (aJ HN.out hb.size) (fun j hj=>(ar.row.lt j hj).1);have g2:=iD.app ar.row gr (Ui.out.on hb);have g3:=gV ar.row gr (H5.out.on hb) (by decide);have g4:=gV ar.row gr (Uh.out.on hb) (by decide);have g5:=gV ar.row gr (H7.out.on hb) (by decide);have g6:=gV ar.row gr (H8.out.on hb) (by decide);have ff:rH W b5 b7 b8 b10 n me s1 s2 s3 s4 s5 s6 s7 s8 s9 s10 s11 s12 s13 s14 s15 par t1 t2 x1 x2 rv lx l bb z0 z1 z2 z3 z4 z5 (fun j=>j=8\/D j) x':=⟨fun h=>absurd (aU rfl) h,fun _ _=>⟨g1,g2,g3,g4,g5,g6⟩,fun h=>absurd (h.resolve_left (by decide)) n9⟩;have q:=hK v' x' ⟨_,hp⟩ ff (fun j u hj dj nl nx ni h=>by
    rcases (by omega:j=0\/j=1\/j=2\/j=3\/j=4\/j=5\/j=6\/j=7\/j=8\/j=9\/j=10) with rfl|rfl|rfl|rfl|rfl|rfl|rfl|rfl|rfl|rfl|rfl
    ·exact h
    ·exact h
    ·exact h
    ·exact h
    ·exact h
    ·exact h
    ·exact h
    ·exact absurd rfl nx
    ·exact absurd rfl ni
    ·exact h
    ·exact absurd (hc 10 _ dj rfl ⟨8,.data⟩ (by simp) rfl) hnd)
   exact aD rfl rfl (Rg.Au a.eval _ (ah 44) (ah 50) 37 rfl e44 rfl r) q
  ·cases ho;have e10:a.eval (ah 10)=Z (O ⟨b10,0,Y⟩):=seen.kp 10 _ (nd 10 (by decide)) rfl;have e43:a.eval (ah 43)=aH #[U X me,J s1 s2 s3,J s4 s5 s6,J s7 s8 s9,J s10 s11 s12,J s13 s14 s15]:=seen.at_ ⟨0,.data⟩ (by simp) rfl (ak (by decide)) _ rfl;have d8:D 8:=hD ⟨8,.chain⟩ (by simp) rfl;have n10:¬ D 10:=fun h=>hnd (hc 10 _ h rfl ⟨9,.chain⟩ (by simp) rfl);obtain⟨f1,f2,f3,f4,_⟩:=hF.2.1 d8 hnd;have hs:=qo f4 me s1 s4 s7 s10 s13 s2 s3 s5 s6 s8 s9 s11 s12 s14 s15;have bs:=aj x b10 (U X me) (J s1 s2 s3) (J s4 s5 s6) (J s7 s8 s9) (J s10 s11 s12) (J s13 s14 s15);have g1:=dz (b:=b10) f1 NB.out (U X me) (J s1 s2 s3) (J s4 s5 s6) (J s7 s8 s9) (J s10 s11 s12) (J s13 s14 s15);have g2:=f2.lI bs f4 (by decide) (by decide) (by decide) (by decide) (by decide) (by decide);have g3:=bs.box f3 N5.out;have g4:=dK f4 (U X me) (J s1 s2 s3) (J s4 s5 s6) (J s7 s8 s9) (J s10 s11 s12) (J s13 s14 s15);have ff:rH W b5 b7 b8 b10 n me s1 s2 s3 s4 s5 s6 s7 s8 s9 s10 s11 s12 s13 s14 s15 par t1 t2 x1 x2 rv lx l bb z0 z1 z2 z3 z4 z5 (fun j=>j=9\/D j) (iy x b10 (U X me) (J s1 s2 s3) (J s4 s5 s6) (J s7 s8 s9) (J s10 s11 s12) (J s13 s14 s15)):=⟨fun h=>absurd (ak d8) h,fun _ h=>absurd (aU rfl) h,fun _=>⟨g1,g2,g3,g4⟩⟩;clear g1 g2 g3 g4;generalize iy x b10 (U X me) (J s1 s2 s3) (J s4 s5 s6) (J s7 s8 s9) (J s10 s11 s12) (J s13 s14 s15)=x2 at *;have q:=hK (aR aY) x2 trivial ff (fun j u hj dj nl nx ni h=>by
    rcases (by omega:j=0\/j=1\/j=2\/j=3\/j=4\/j=5\/j=6\/j=7\/j=8\/j=9\/j=10) with rfl|rfl|rfl|rfl|rfl|rfl|rfl|rfl|rfl|rfl|rfl
    ·exact h
    ·exact h
    ·exact h
    ·exact h
    ·exact h
    ·exact h
    ·exact h
    ·exact absurd d8 nl
    ·obtain⟨ly,h⟩:=h; exact⟨ly,h.but bs f4 (by decide) (by decide)⟩
    ·exact h
    ·exact absurd dj n10)
   exact bL 30 (ah 10) (ah 43) rfl rfl rfl rfl e10 e43 hs q
  ·cases ho;have Uk:=seen.at_ ⟨8,.data⟩ (by simp) rfl (ak (by decide)) _ rfl;exact aD rfl rfl (bQ a.eval _ (ah 51) rfl x) (hK _ _ Uk (still 10 (by decide)) fun _ _ _ _ _ _ _ h=>h)
 ·intro a x df sz kp ⟨vs,hv⟩ ⟨D,hall,hF⟩;obtain⟨ly,q1⟩:=(hv 10 (by omega)).2 (by decide);have g11:=(hv 10 (by omega)).1 11 rfl;obtain⟨f1,f2,_,f4⟩:=hF.2.2 (hall 9 (by omega));obtain⟨ra,rc,hv7⟩:=(Row.dx q1.row).len;rw [hv7] at g11 q1;exact HQ.out a x ly ra rc df ((kp 10 (nd 10 (by decide))).trans rfl) g11 f4 f1 f2 q1
theorem Ll {V wr:aG} {B:Nat} {v:aO} {p:List C5} (h:PM (vw V) B wr v p):fI wr v p:=h.elim uU Row.dx
theorem IZ (b:Br) (t x:dQ) (f:Int) (h:b.ent.length<=900):(takeB b t x f).2.1.length<=900:=aJ (lZ b t x f).2 h
theorem CW {l:List En} {k:Nat} {e:En} (par:Int) (h:l[k]?=O e):(l.take (k+1)).map (mH par)=(l.take k).map (mH par)++[mH par e]:=by
 rw [List.take_add_one,h,List.map_append]
 rfl
theorem CX (b:Br) (s1:Option ay) (s2 s3:Nat) (s4:Option ay) (s5 s6:Nat) (s7:Option ay) (s8 s9:Nat) (s10:Option ay) (s11 s12:Nat) (s13:Option ay) (s14 s15:Nat) (par t1 t2 x1 x2 f:Int) (w:aG) (h:ru w b (s1,s2,s3) (s4,s5,s6) (s7,s8,s9) (s10,s11,s12) (s13,s14,s15)) (hf:yw b) (hfp:mG b) (hr:gU b.ent) (pe:∀ e∈b.ent,eD e.p) :
  bM aL 48 #[aH #[U X b.me,J s1 s2 s3,J s4 s5 s6,J s7 s8 s9,J s10 s11 s12,J s13 s14 s15],U X par,aH #[U X t1,U X t2],aH #[U X x1,U X x2],U X f] w (Nw w (iD w b (s1,s2,s3) (s4,s5,s6) (s7,s8,s9) (s10,s11,s12) (s13,s14,s15)) (jW b par (t1,t2) (x1,x2) f)):=by
 obtain⟨h0,h1,h2,h3,h4⟩:=wY w #[U X b.me,J s1 s2 s3,J s4 s5 s6,J s7 s8 s9,J s10 s11 s12,J s13 s14 s15] #[U X t1,U X t2] #[U X x1,U X x2] #[U X 0,J Y 0 0,J Y 0 0,J Y 0 0,J Y 0 0,J Y 0 0] 30 23 23 30;have FG:=L (fun W hb=>Cx b (s1,s2,s3) (s4,s5,s6) (s7,s8,s9) (s10,s11,s12) (s13,s14,s15) (t1,t2) (x1,x2) f W (h.br.on (show Below w.heap.size w W from hb)) hf hfp hr pe);have NO:=L h.no;have RC:=L (show ∀ W,Below w.heap.size w W->iD w b (s1,s2,s3) (s4,s5,s6) (s7,s8,s9) (s10,s11,s12) (s13,s14,s15)->iD W b (s1,s2,s3) (s4,s5,s6) (s7,s8,s9) (s10,s11,s12) (s13,s14,s15) from fun W hb hc=>hc.on hb);have UE:=L (show jW b par (t1,t2) (x1,x2) f=((takeB b (t1,t2) (x1,x2) f).1,if (takeB b (t1,t2) (x1,x2) f).2.2=aY then (takeB b (t1,t2) (x1,x2) f).2.1.map (mH par)++[⟨par,4,(t1,t2),(x1,x2),[]⟩] else []) from rfl);have FM:=L (o8 b (t1,t2) (x1,x2) f);have UL:=L (IZ b (t1,t2) (x1,x2) f hf.ent);have UP:=L (show ∀ e∈(takeB b (t1,t2) (x1,x2) f).2.1,eD e.p from (tQ (t1,t2) (x1,x2) f (fun e=>eD e.p) (fun _ _ q=>q) pe).2);obtain⟨me,hme⟩:∃ me,me=b.me:=⟨_,rfl⟩;have ME:=L hme;simp only [<- hme] at h0 h1 h2 h3 h4 FG ⊢;have jm:=L (h0);have Lm:=L (h1);have Lp:=L (h2);have CK:=L (h3);have JD:=L (h4);clear h0 h1 h2 h3 h4 h hf hfp hr pe hme;go_enter Tryz.func48,Tryz.ntmps48;go_upto_region 1 with fail;generalize hW0:((((w.alloc (aK #[U X me,J s1 s2 s3,J s4 s5 s6,J s7 s8 s9,J s10 s11 s12,J s13 s14 s15] 30)).alloc (aK #[U X t1,U X t2] 23)).alloc (aK #[U X x1,U X x2] 23)).alloc (aK #[U X 0,J Y 0 0,J Y 0 0,J Y 0 0,J Y 0 0,J Y 0 0] 30))=W at *;clear hW0;have SW:=L (FG.out W jm.out);clear FG;have Mf:=L (RC.out W jm.out);have Ny:=L (NO.out.on jm.out);clear RC NO;obtain⟨x0,x1,x2,x3,x4,x5⟩:=Lm.out.fQ;obtain⟨Lj,y_1⟩:=Lp.out.cs2;obtain⟨Ul,Um⟩:=CK.out.cs2;go_wp2_with fail;refine SW.out.mono ?_;rintro e1 w1 ⟨⟨⟨m1,m2,m3⟩,⟨m4,m5,m6⟩,⟨m7,m8,m9⟩,⟨m10,m11,m12⟩,⟨m13,m14,m15⟩,⟨g1,g2,g3⟩,lu,rfl,hbr,QX,Pq,hno,hbc,JE,⟨V0,QY⟩⟩,hb⟩;clear SW;clear x0 x1 x2 x3 x4 x5 Lj y_1 Ul Um;have kY:=L (jm.out.trans (hb.mono jm.out.size));have vR:=L (Lm.out.on hb);have NR:=L (Lp.out.on hb);have NS:=L (CK.out.on hb);have Ga:=L (JD.out.on hb);clear jm Lm Lp CK JD;have UN:=L (show lu.length=(takeB b (t1,t2) (x1,x2) f).2.1.length from Pq.len);have UG:=L (show lu.length=g2 from iE QX);obtain⟨ups,NT⟩:∃ l,l=(takeB b (t1,t2) (x1,x2) f).2.1:=⟨_,rfl⟩;rw [<- NT] at Pq UN UL UP UE QY;clear NT;generalize hr:(takeB b (t1,t2) (x1,x2) f).2.2=r at *;have BN:=L (show ru w1 (takeB b (t1,t2) (x1,x2) f).1 (m1,m2,m3) (m4,m5,m6) (m7,m8,m9) (m10,m11,m12) (m13,m14,m15) from ⟨hbr,hno Ny.out⟩);have NG:=L (show (iD w b (s1,s2,s3) (s4,s5,s6) (s7,s8,s9) (s10,s11,s12) (s13,s14,s15)\/r=aY)->iD w1 (takeB b (t1,t2) (x1,x2) f).1 (m1,m2,m3) (m4,m5,m6) (m7,m8,m9) (m10,m11,m12) (m13,m14,m15) from fun h=>hbc (h.imp Mf.out id));have RU:=L QX;have AU:=L Pq;clear hbr hno hbc hb hr Mf Ny QX Pq;rw [show (takeB b (t1,t2) (x1,x2) f).1.me=me from by rw [FM.out.2.2.1,ME.out]];have HW1:=L (show w.heap.size+1+1+1+1<=w1.heap.size from Ga.out.lt);have OV:=L JE;have AV:=L (show dV (kL (vw V0) W.heap.size w1) lu ups from QY);clear JE QY;obtain⟨k0,k1,k2,k3,k4,k5⟩:=vR.out.fQ;obtain⟨zf,zh,zi,zk,zm,zn⟩:=vR.out.mD;have zz:=vR.out.lt;have bs:=aj w1 w.heap.size (U X me) (J m1 m2 m3) (J m4 m5 m6) (J m7 m8 m9) (J m10 m11 m12) (J m13 m14 m15);have G0:=L (dz (b:=w.heap.size) kY.out (bf _) (U X me) (J m1 m2 m3) (J m4 m5 m6) (J m7 m8 m9) (J m10 m11 m12) (J m13 m14 m15));have G1:=L (bs.box NR.out (by omega));have G2:=L (bs.box NS.out (by omega));have G3:=L (bs.box Ga.out (by omega));have G4:=L (BN.out.keep (s1:=(s1,s2,s3)) (s2:=(s4,s5,s6)) (s3:=(s7,s8,s9)) (s4:=(s10,s11,s12)) (s5:=(s13,s14,s15)) (me:=me) vR.out bs);have G5:=L (fun h=>iD.lI (NG.out h) bs vR.out (by decide) (by decide) (by decide) (by decide) (by decide) (by decide));have G6:=L (bs.own OV.out vR.out (by decide));have G7:=L (AV.out.mono fun _ _ q=>q.but bs vR.out (by decide));have G8:=L (dK vR.out (U X me) (J m1 m2 m3) (J m4 m5 m6) (J m7 m8 m9) (J m10 m11 m12) (J m13 m14 m15));clear bs kY NR NS Ga BN NG OV AV vR;go_upto_region 2 with fail;clear zz k0 k1 k2 k3 k4 k5 zf zh zi zk zm zn;unfold iy at G0 G1 G2 G3 G4 G5 G6 G7 G8;generalize ((((((w1.setCell ⟨w.heap.size,0,Y⟩ (U X me)).setCell ⟨w.heap.size,1,Y⟩ (J m1 m2 m3)).setCell ⟨w.heap.size,2,Y⟩ (J m4 m5 m6)).setCell ⟨w.heap.size,3,Y⟩ (J m7 m8 m9)).setCell ⟨w.heap.size,4,Y⟩ (J m10 m11 m12)).setCell ⟨w.heap.size,5,Y⟩ (J m13 m14 m15))=w2 at *;have vS:=L (G0.out);have NU:=L (G1.out);have NV:=L (G2.out);have kR:=L (G3.out);have JF:=L (G4.out);have zo:=L (G5.out);have JG:=L (G6.out);have JH:=L (G7.out);have pW:=L (G8.out);clear G0 G1 G2 G3 G4 G5 G6 G7 G8;cases r
 ·have x0:=pW.out.cell 0;have x1:=pW.out.cell 1;have x2:=pW.out.cell 2;have x3:=pW.out.cell 3;have x4:=pW.out.cell 4;have x5:=pW.out.cell 5;simp only [au,aA,aB] at x0 x1 x2 x3 x4 x5;have F9:=L (fun h=>zo.out (aU h));obtain⟨r0,r1,r2,r3,r4,r5⟩:=kR.out.fQ;obtain⟨NH,NI,NJ,NK,NM,NP⟩:=kR.out.mD;have zz:=kR.out.lt;have bs:=aj w2 (w.heap.size+1+1+1) (U X me) (J m1 m2 m3) (J m4 m5 m6) (J m7 m8 m9) (J m10 m11 m12) (J m13 m14 m15);have GG:=L (dK kR.out (U X me) (J m1 m2 m3) (J m4 m5 m6) (J m7 m8 m9) (J m10 m11 m12) (J m13 m14 m15));have BL:=L (dz (b:=w.heap.size+1+1+1) vS.out (by omega) (U X me) (J m1 m2 m3) (J m4 m5 m6) (J m7 m8 m9) (J m10 m11 m12) (J m13 m14 m15));have HB:=L (JF.out.keep (s1:=(Y,0,0)) (s2:=(Y,0,0)) (s3:=(Y,0,0)) (s4:=(Y,0,0)) (s5:=(Y,0,0)) (me:=0) kR.out bs);have HB2:=L (fun h=>iD.lI (F9.out h) bs kR.out (by decide) (by decide) (by decide) (by decide) (by decide) (by decide));clear bs;go_wp2_with fail;obtain⟨v0,v1,v2,v3,v4,v5⟩:=GG.out.fQ;refine bodyPost_ret (v:=.tuple #[aH #[U X me,J m1 m2 m3,J m4 m5 m6,J m7 m8 m9,J m10 m11 m12,J m13 m14 m15],J Y 0 0]) (by simp [results,bC,go_sem,v0,v1,v2,v3,v4,v5]) rfl ?_;rw [UE.out,if_neg (by simp)];exact⟨⟨(m1,m2,m3),(m4,m5,m6),(m7,m8,m9),(m10,m11,m12),(m13,m14,m15),(Y,0,0),[],by rw [FM.out.2.2.1,ME.out],HB.out,HB2.out,kX.nil _ _⟩,BL.out⟩
 ·have BC:=L (zo.out (ak rfl));clear zo JF;obtain rfl:lu.length=g2:=UG.out;clear UG;generalize hg2:lu.length=g2 at *;have G2:=L hg2;clear hg2;go_wp2_with fail;have HW2:=L (show w.heap.size+1+1+1+1<=w2.heap.size from kR.out.lt)
  go_loopw [14,31] (fun v i wr=>∃ (k:Nat) (lx:List lV),k<=g2/\i=U X k/\Below w.heap.size w wr/\cZ wr w.heap.size #[U X me,J m1 m2 m3,J m4 m5 m6,J m7 m8 m9,J m10 m11 m12,J m13 m14 m15] 30/\cZ wr (w.heap.size+1) #[U X t1,U X t2] 23/\cZ wr (w.heap.size+1+1) #[U X x1,U X x2] 23/\cZ wr (w.heap.size+1+1+1) #[U X 0,J Y 0 0,J Y 0 0,J Y 0 0,J Y 0 0,J Y 0 0] 30/\iD wr (takeB b (t1,t2) (x1,x2) f).1 (m1,m2,m3) (m4,m5,m6) (m7,m8,m9) (m10,m11,m12) (m13,m14,m15)/\iO wr W.heap.size (dH (g1,g2,g3)) lu/\dV (kL (vw V0) W.heap.size wr) lu ups/\kX wr w.heap.size v lx ((ups.take k).map (mH par))/\w2.heap.size<=wr.heap.size) (fun _ i _=>g2-(intOf i).toNat)
  case atStart=>exact⟨0,[],Nat.zero_le _,rfl,vS.out,pW.out,NU.out,NV.out,kR.out,BC.out,JG.out,JH.out,kX.nil _ _,bf _⟩
  case round =>
   clear vS pW NU NV kR BC JG JH;obtain⟨k,lx,hk,rfl,hgb,hx5,hx7,Sq,NW,hbc,hov,Sr,hou,hsz⟩:=hrel;have xM:=L (hgb);have Gb:=L (hx5);have Gc:=L (hx7);have Gd:=L (Sq);have zq:=L (NW);have Gf:=L (hbc);have Gg:=L (hov);have Gh:=L (Sr);have kE:=L (hou);have Un:=L hsz;clear hgb hx5 hx7 Sq NW hbc hov Sr hou hsz;by_cases hlt:k<g2
   ·have hlt':(k:Int)<(g2:Int):=by omega
    have hw:IntKind.i64.wrap ((k:Int)+1)=(k:Int)+1:=IntWalk.i64_in _ (by have:=UL.out; have:=UN.out; have:=G2.out; omega);obtain⟨e,he⟩:∃ e,ups[k]?=O e:=⟨_,List.getElem?_eq_getElem (by rw [<- UN.out]; exact hlt)⟩;have US:=L (CW par he);have PE:=L (UP.out e (aZ he));obtain⟨z,hz1,hz2⟩:=Gh.out.at k e he;obtain⟨pq,ix,px⟩:=Pg (Row.dx Gg.out) rfl G2.out hz1;obtain⟨p0,p1,p2,p3,p4,p5,p6⟩:=px wr (aC _ _);obtain⟨y1,y2,y3,y4,⟨yo,yn,yc⟩,y6,y7⟩:=z;have ZT:=L (show (y1,y2)=e.tree from hz2.1);have ZS:=L (show (y3,y4)=e.sub from hz2.2.1);have PO:=L (show fI wr (J yo yn yc) e.p from Ll hz2.2.2.2.2);simp only at p0 p1 p2 p3 p4 p5 p6;clear px hz1 hz2 he;go_upto_region 8 with fail;clear p0 p1 p2 p3 p4 p5 p6 ix;have NN:=iM wr (aK #[U X y1,U X y2,U X y3,U X y4,J yo yn yc,U X y6,aR y7] 67);have kF:=L (xM.out.trans (NN.mono xM.out.size));have JI:=L (Gb.out.on NN);have JJ:=L (Gc.out.on NN);have JK:=L (Gd.out.on NN);have Gi:=L (zq.out.on NN);have pX:=L (Gf.out.on NN);have JL:=L (Bk.dw Gg.out NN);have JM:=L (Gh.out.mono fun _ _ q=>q.grow NN);have pY:=L (kE.out.on NN);have JN:=L (PO.out.on NN);clear xM Gb Gc Gd zq Gf Gg Gh kE PO;have Gj:=L (dG wr #[U X y1,U X y2,U X y3,U X y4,J yo yn yc,U X y6,aR y7] 67);clear NN;have HS2:=L (show w2.heap.size<=(wr.alloc (aK #[U X y1,U X y2,U X y3,U X y4,J yo yn yc,U X y6,aR y7] 67)).heap.size from by have:=Un.out; simp; omega);generalize wr.alloc (aK #[U X y1,U X y2,U X y3,U X y4,J yo yn yc,U X y6,aR y7] 67)=wa at *;generalize wr.heap.size=bE at *;have SB:=L (uw (y1,y2,y3,y4,(yo,yn,yc),y6,y7) e.p wa JN.out (gJ PE.out));obtain⟨Uo,e_1,e_2,Uq,Ur,Us,Ut⟩:=Gj.out.Ai;go_wp2_with fail;refine SB.out.mono ?_;rintro e5 wb ⟨⟨⟨q1,q2,q3⟩,rfl,hoc⟩,hb⟩;clear SB;clear Uo e_1 e_2 Uq Ur Us Ut;clear JN;have jo:=L (kF.out.trans (hb.mono kF.out.size));have NY:=L (JI.out.on hb);have NZ:=L (JJ.out.on hb);have Oa:=L (JK.out.on hb);have Lr:=L (Gi.out.on hb);have p8:=L (pX.out.on hb);have Ob:=L (Bk.dw JL.out hb);have Oc:=L (JM.out.mono fun _ _ q=>q.grow hb);have p9:=L (pY.out.on hb);have Sv:=L (Gj.out.on hb);clear kF JI JJ JK Gi pX JL JM pY Gj;have Uu:=L (aJ HS2.out hb.size);have OC:=L (dn hoc (show w.heap.size<=wa.heap.size from by have:=HW1.out; have:=HS2.out; have:=HW2.out; omega));clear hoc hb HS2;have Ab:=iM wb (aK (iX (par,3,y1,y2,y3,y4,(q1,q2,q3),(Y,0,0))).toArray 46);have hl:=nK Jm wb [((par,3,y1,y2,y3,y4,(q1,q2,q3),(Y,0,0)):lV)] 1 rfl (by simp) (iX (par,3,y1,y2,y3,y4,(q1,q2,q3),(Y,0,0))).toArray (by simp [flat,EU]);have Gl:=p9.out.on Ab;have Sw:=Bk.dw OC.out Ab;obtain⟨v',x,hrun,ho,gr⟩:=jq Jm w.heap.size Gl.row (Row.dx hl) (by rw [Gl.len,bq,aV]; have h1:=UL.out; omega) (by simp) (jo.out.trans (Ab.mono jo.out.size)).size 37;have hp:=Gl.more gr ho (m:=[⟨par,3,(y1,y2),(y3,y4),e.p⟩]) (.cons (show Lf _ _ _ _ from ⟨rfl,rfl,rfl,rfl,Sw,rfl⟩) .nil);have Uv:=L ((jo.out.trans (Ab.mono jo.out.size)).grown gr (jo.out.trans (Ab.mono jo.out.size)).size (fun j hj=>(Gl.row.lt j hj).1));have Uw:=L (gV Gl.row gr (NY.out.on Ab) (by decide));have Ux:=L (gV Gl.row gr (NZ.out.on Ab) (by decide));have Uy:=L (gV Gl.row gr (Oa.out.on Ab) (by decide));have Uz:=L (gV Gl.row gr (Lr.out.on Ab) (by decide));have TG:=fH Gl.row;have hoff:Off _ (wb.alloc (aK (iX (par,3,y1,y2,y3,y4,(q1,q2,q3),(Y,0,0))).toArray 46)) x:=⟨fun j hj hne=>gr.block j hj hne,gr.size⟩;have UA:=L (iD.app Gl.row gr (p8.out.on Ab));have UC:=L (hoff.own (Bk.dw Ob.out Ab) TG (by decide));have UD:=L (Oc.out.mono fun _ _ q=>(q.grow Ab).off hoff TG (by decide));have UF:=L hp;have UH:=L (aJ Uu.out (aJ Ab.size hoff.2));have hrun:(Builtin.append_ #[37,37] 37 #[_,J (O ⟨wb.heap.size,0,Y⟩) 1 1]).run aL (wb.alloc (aK (iX (par,3,y1,y2,y3,y4,(q1,q2,q3),(Y,0,0))).toArray 46))=.ok v' x:=hrun;clear hl Gl Sw ho gr hp hoff TG Ab;go_wp2_with (first | (at_builtin; refine wpList_append_run rfl _ _ 37 rfl rfl rfl hrun ?_) | fail)
    go_roundw
    case rel=>exact⟨k+1,_,hlt,by go_num,Uv.out,Uw.out,Ux.out,Uy.out,Uz.out,UA.out,UC.out,UD.out,by rw [US.out,show mH par e=⟨par,3,(y1,y2),(y3,y4),e.p⟩ from by unfold mH; rw [ZT.out,ZS.out]]; exact UF.out,UH.out⟩
    case measure=>simp [intOf]; omega
   ·obtain rfl:k=g2:=by omega
    have OE:=L (show kX wr w.heap.size _ lx (ups.map (mH par)) from by have h:=kE.out; rw [List.take_of_length_le (by rw [<- UN.out]; exact bf _)] at h; exact h);go_upto_region 10 with fail;refine QU _ wr w.heap.size (w.heap.size+1) (w.heap.size+1+1) (w.heap.size+1+1+1) w.heap.size me m1 m2 m3 m4 m5 m6 m7 m8 m9 m10 m11 m12 m13 m14 m15 par t1 t2 x1 x2 _ lx (ups.map (mH par)) (takeB b (t1,t2) (x1,x2) f).1 _ _ _ _ _ _ _ _ _ _ _ _ _ _ _ _ _ _ _ _ _ _ _ _ _ _ _ _ _ _ _ _ _ _ _ _ _ _ _ _ _ _ _ _ _ _ _ _ _ _ _ _ Gb.out Gc.out Gd.out zq.out (by omega) (by omega) (by omega) OE.out xM.out.size (by rw [OE.out.len,bq]; exact UL.out) Gf.out (by omega) ?_;intro a y ly ra rc hd h6 h7 hbx hbl hbc hou;have BL:=L (xM.out.trans hbl);have HC:=L hbc;have HO:=L hou;obtain⟨v0,v1,v2,v3,v4,v5⟩:=hbx.fQ;simp only [Exit.then]
    apply_assumption
    go_wp2_with fail;refine bodyPost_ret (v:=.tuple #[aH #[U X me,J m1 m2 m3,J m4 m5 m6,J m7 m8 m9,J m10 m11 m12,J m13 m14 m15],J ra ly.length rc]) (by simp [results,bC,go_sem,h6,h7,v0,v1,v2,v3,v4,v5]) hd ?_;rw [UE.out];simp only [if_true];exact⟨⟨(m1,m2,m3),(m4,m5,m6),(m7,m8,m9),(m10,m11,m12),(m13,m14,m15),(ra,ly.length,rc),ly,by rw [FM.out.2.2.1,ME.out],⟨HC.out.br,HC.out.no⟩,fun _=>HC.out,HO.out⟩,BL.out⟩
theorem I4 (b:Br) (s1:Option ay) (s2 s3:Nat) (s4:Option ay) (s5 s6:Nat) (s7:Option ay) (s8 s9:Nat) (s10:Option ay) (s11 s12:Nat) (s13:Option ay) (s14 s15:Nat) (t1 t2:Int) (w:aG) (h:ko w b (s1,s2,s3) (s4,s5,s6) (s7,s8,s9) (s10,s11,s12) (s13,s14,s15)) (hfp:mG b) :
  bM aL 46 #[aH #[U X b.me,J s1 s2 s3,J s4 s5 s6,J s7 s8 s9,J s10 s11 s12,J s13 s14 s15],aH #[U X t1,U X t2]] w fun e w'=>e=.returned (U X (iJ b (t1,t2)))/\Below w.heap.size w w':=by
 obtain⟨h0,X2,X3⟩:=gP w #[U X b.me,J s1 s2 s3,J s4 s5 s6,J s7 s8 s9,J s10 s11 s12,J s13 s14 s15] #[U X t1,U X t2] 30 23;obtain⟨la,ha1,ha2⟩:=h.dP;have SW:=L (wS b.me (J s1 s2 s3) (J s7 s8 s9) (J s10 s11 s12) (J s13 s14 s15) (s4,s5,s6) la b.dP (t1,t2) _ (ha1.on h0) (ha2.mono fun _ _ q=>q.on h0) hfp.dP);have BB:=L h0;obtain⟨x0,x1,x2,x3,x4,x5⟩:=X2.fQ;obtain⟨y0,y1⟩:=X3.cs2;clear h0 X2 X3 ha1 ha2 h hfp;go_enter bI,Tryz.ntmps46;go_wp2_with fail;generalize (w.alloc (aK #[U X b.me,J s1 s2 s3,J s4 s5 s6,J s7 s8 s9,J s10 s11 s12,J s13 s14 s15] 30)).alloc (aK #[U X t1,U X t2] 23)=W at *;refine SW.out.mono ?_;rintro e1 w1 ⟨hq,hb⟩;obtain⟨⟨r1,r2,⟨ro,rn,rc⟩,r4⟩,kn,rfl,hin⟩:∃ (r:iQ) (kn:Bool),e1=.returned (.tuple #[jD r,aR kn])/\r.2.2.2=iJ b (t1,t2):=by
  unfold iJ;cases hfa:fJ b.dP (t1,t2) with
  | none =>
   rw [hfa] at hq;exact⟨_,aF,hq,rfl⟩
  | some a =>
   rw [hfa] at hq;obtain⟨r,h1,h2⟩:=hq;exact⟨r,aY,h1,h2.2.1⟩
 have HI:=L hin;have BW:=L (BB.out.trans (hb.mono BB.out.size));clear hq hin hb SW x0 x1 x2 x3 x4 x5 y0 y1;go_wp2;go_ret;exact⟨by rw [<- HI.out]; rfl,(BW.out.alloc BW.out.size _)⟩
def QZ (_B:Nat) (_b3 b5 _bb:Nat) (P:Prop) (b:Br) (s1:Option ay) (s2 s3:Nat) (s4:Option ay) (s5 s6:Nat) (s7:Option ay) (s8 s9:Nat) (s10:Option ay) (s11 s12:Nat) (s13:Option ay) (s14 s15:Nat) (f _kd t1 t2 x1 x2:Int) (po:Option ay) (pn pc:Nat) (p:List C5) (i:Nat) (v:aO) (x:aG):Prop :=
 match i with
 | 0=>v=nS b.me (s1,s2,s3) (s4,s5,s6) (s7,s8,s9) (s10,s11,s12) (s13,s14,s15)
 | 1=>v=nS b.me (s1,s2,s3) (s4,s5,s6) (s7,s8,s9) (s10,s11,s12) (s13,s14,s15)
 | 2=>v=Z (O ⟨b5,1,Y⟩)
 | 3=>v=aH #[U X t1,U X t2]
 | 4=>v=U X (iJ b (t1,t2))
 | 5=>v=Z (O ⟨b5,1,Y⟩)
 | 6=>v=aH #[U X t1,U X t2]
 | 7=>v=Z (O ⟨b5,3,Y⟩)
 | 8=>v=aH #[U X x1,U X x2]
 | 9=>v=Z (O ⟨b5,5,Y⟩)
 | 10=>v=J po pn pc
 | 11=>v=U X f
 | 12=>v=aH #[U X t1,U X t2,U X x1,U X x2,J po pn pc,U X f,aR aF]
 | 13=>∃ (nv av sv ev ov s:Sl) (lx:List lV),v=.tuple #[nS (eP b (iJ b (t1,t2)) (⟨(t1,t2),(x1,x2),p,f,aF⟩:En)).1.me nv av sv ev ov,dH s]/\ru x (eP b (iJ b (t1,t2)) (⟨(t1,t2),(x1,x2),p,f,aF⟩:En)).1 nv av sv ev ov/\(P->iD x (eP b (iJ b (t1,t2)) (⟨(t1,t2),(x1,x2),p,f,aF⟩:En)).1 nv av sv ev ov)/\kX x _B (dH s) lx (eP b (iJ b (t1,t2)) (⟨(t1,t2),(x1,x2),p,f,aF⟩:En)).2
 | 14=>∃ (nv av sv ev ov:Sl),v=nS (eP b (iJ b (t1,t2)) (⟨(t1,t2),(x1,x2),p,f,aF⟩:En)).1.me nv av sv ev ov/\ru x (eP b (iJ b (t1,t2)) (⟨(t1,t2),(x1,x2),p,f,aF⟩:En)).1 nv av sv ev ov/\(P->iD x (eP b (iJ b (t1,t2)) (⟨(t1,t2),(x1,x2),p,f,aF⟩:En)).1 nv av sv ev ov)
 | 15=>∃ (s:Sl) (lx:List lV),v=dH s/\kX x _B (dH s) lx (eP b (iJ b (t1,t2)) (⟨(t1,t2),(x1,x2),p,f,aF⟩:En)).2
 | 16=>True
 | 17=>∃ (s:Sl) (lx:List lV),v=dH s/\kX x _B (dH s) lx (eP b (iJ b (t1,t2)) (⟨(t1,t2),(x1,x2),p,f,aF⟩:En)).2
 | _=>True
noncomputable def Od:Code:=((Tryz.f11.body.bind (eu 1)).getD .skip)
theorem os1 (Q:Exit->Act->aG->Prop) (W:aG) (b3 b5 bb:Nat) (P:Prop) (b:Br) (s1:Option ay) (s2 s3:Nat) (s4:Option ay) (s5 s6:Nat) (s7:Option ay) (s8 s9:Nat) (s10:Option ay) (s11 s12:Nat) (s13:Option ay) (s14 s15:Nat) (f kd t1 t2 x1 x2:Int) (po:Option ay) (pn pc:Nat) (p:List C5) (u0 u2 u4 u7 u8 u9 u10 u11 u12 u13 u14 u15 u16 u17 u18 u19 u20 u21 u22 u23:aO)
  (jS:cZ W bb #[U X 0,J Y 0 0,J Y 0 0,J Y 0 0,J Y 0 0,J Y 0 0] 30) (hx:cZ W b3 #[U X b.me,J s1 s2 s3,J s4 s5 s6,J s7 s8 s9,J s10 s11 s12,J s13 s14 s15] 30) (hm:cZ W b5 #[U X kd,U X t1,U X t2,U X x1,U X x2,J po pn pc,J Y 0 0] 43) (bn:ru W b (s1,s2,s3) (s4,s5,s6) (s7,s8,s9) (s10,s11,s12) (s13,s14,s15)) (Sy:P->iD W b (s1,s2,s3) (s4,s5,s6) (s7,s8,s9) (s10,s11,s12) (s13,s14,s15)) (fb:yw b) (fp:mG b) (re:gU b.ent) (pe:∀ e∈b.ent,eD e.p) (hp:fI W (J po pn pc) p) (pp:eD p)
  (hQ:∀ (x:aG) (v8 v9 v10 v11 v12 v13 v14 v15 v16 v17 v18 v19 v20 v21 v22 v23:aO) (m1:Option ay) (m2 m3:Nat) (m4:Option ay) (m5 m6:Nat) (m7:Option ay) (m8 m9:Nat) (m10:Option ay) (m11 m12:Nat) (m13:Option ay) (m14 m15:Nat) (o1:Option ay) (o2 o3:Nat) (lx:List lV),cZ x bb #[U X (eP b (iJ b (t1,t2)) (⟨(t1,t2),(x1,x2),p,f,aF⟩:En)).1.me,J m1 m2 m3,J m4 m5 m6,J m7 m8 m9,J m10 m11 m12,J m13 m14 m15] 30->ru x (eP b (iJ b (t1,t2)) (⟨(t1,t2),(x1,x2),p,f,aF⟩:En)).1 (m1,m2,m3) (m4,m5,m6) (m7,m8,m9) (m10,m11,m12) (m13,m14,m15)->(P->iD x (eP b (iJ b (t1,t2)) (⟨(t1,t2),(x1,x2),p,f,aF⟩:En)).1 (m1,m2,m3) (m4,m5,m6) (m7,m8,m9) (m10,m11,m12) (m13,m14,m15))->kX x W.heap.size (dH (o1,o2,o3)) lx (eP b (iJ b (t1,t2)) (⟨(t1,t2),(x1,x2),p,f,aF⟩:En)).2->bP bb W x->Q .normal ⟨(u0::U X f::u2::Z (O ⟨b3,0,Y⟩)::u4::Z (O ⟨b5,0,Y⟩)::Z (O ⟨bb,0,Y⟩)::dH (o1,o2,o3)::v8::v9::v10::v11::v12::v13::v14::v15::v16::v17::v18::v19::v20::v21::v22::v23::[]).toArray,[]⟩ x) :
  Code.wp aL Od Q ⟨(u0::U X f::u2::Z (O ⟨b3,0,Y⟩)::u4::Z (O ⟨b5,0,Y⟩)::Z (O ⟨bb,0,Y⟩)::u7::u8::u9::u10::u11::u12::u13::u14::u15::u16::u17::u18::u19::u20::u21::u22::u23::[]).toArray,[]⟩ W:=by
 have HQ:=L hQ;have HB:=L jS;have HX:=L hx;have HM:=L hm;have BN:=L bn;have Q0:=L Sy;have FB:=L fb;have FP:=L fp;have RE:=L re;have PE:=L pe;have HP:=L hp;have PP:=L pp;clear hQ jS hx hm bn Sy fb fp re pe hp pp;unfold Od
 conv=>arg 2; whnf
 have Q6:∀ i,i<18->[8,9,10,11,12,13,14,15,16,17,18,19,20,21,22,23,22,7].getD i 0≠1:=by decide
 have Sz:∀ i,i<18->[8,9,10,11,12,13,14,15,16,17,18,19,20,21,22,23,22,7].getD i 0≠3:=by decide
 have Pt:∀ i,i<18->[8,9,10,11,12,13,14,15,16,17,18,19,20,21,22,23,22,7].getD i 0≠5:=by decide
 have UJ:∀ i,i<18->[8,9,10,11,12,13,14,15,16,17,18,19,20,21,22,23,22,7].getD i 0≠6:=by decide
 refine Rg.CF 18 16 14 (fun i=>[8,9,10,11,12,13,14,15,16,17,18,19,20,21,22,23,22,7].getD i 0) (fun i=>18) (QZ W.heap.size b3 b5 bb P b s1 s2 s3 s4 s5 s6 s7 s8 s9 s10 s11 s12 s13 s14 s15 f kd t1 t2 x1 x2 po pn pc p) (fun i=>i == 15 || i == 17) 30 bb #[U X 0,J Y 0 0,J Y 0 0,J Y 0 0,J Y 0 0,J Y 0 0] (fun v=>match v with | aH c=>c | _=>#[]) (by kernel_rfl) (by kernel_rfl) rfl (by decide) (by decide) (by decide) (by decide) HB.out (fun i j hi hj h1 h2 h=>(by decide:∀ i,i<18->∀ j,j<18->i≠16->j≠16->[8,9,10,11,12,13,14,15,16,17,18,19,20,21,22,23,22,7].getD i 0=[8,9,10,11,12,13,14,15,16,17,18,19,20,21,22,23,22,7].getD j 0->i=j) i hi j hj h1 h2 h) (fun i hi _=>(by decide:∀ i,i<18->[8,9,10,11,12,13,14,15,16,17,18,19,20,21,22,23,22,7].getD i 0<24) i hi) ?_ ?_ (by decide) ?_ ?_ (fun j h1 h2=>(by decide:∀ j,j<18->j≠16->18<=(fun i=>18) j\/((fun i=>18) j<18/\(fun i=>18) j≠16/\(fun i=>i == 15 || i == 17) ((fun i=>18) j)=aF)) j h1 h2) ?_
 ·intro i v x x' hi h hb;rcases (by omega:i=0\/i=1\/i=2\/i=3\/i=4\/i=5\/i=6\/i=7\/i=8\/i=9\/i=10\/i=11\/i=12\/i=13\/i=14\/i=15\/i=16\/i=17) with rfl|rfl|rfl|rfl|rfl|rfl|rfl|rfl|rfl|rfl|rfl|rfl|rfl|rfl|rfl|rfl|rfl|rfl
  ·exact h
  ·exact h
  ·exact h
  ·exact h
  ·exact h
  ·exact h
  ·exact h
  ·exact h
  ·exact h
  ·exact h
  ·exact h
  ·exact h
  ·exact h
  ·obtain⟨a1,a2,a3,a4,a5,a6,lx,h1,h2,h3,h4⟩:=h; exact⟨a1,a2,a3,a4,a5,a6,lx,h1,h2.on hb,fun q=>(h3 q).on hb,h4.on hb⟩
  ·obtain⟨a1,a2,a3,a4,a5,h1,h2,h3⟩:=h; exact⟨a1,a2,a3,a4,a5,h1,h2.on hb,fun q=>(h3 q).on hb⟩
  ·obtain⟨s,lx,h1,h2⟩:=h; exact⟨s,lx,h1,h2.on hb⟩
  ·exact h
  ·obtain⟨s,lx,h1,h2⟩:=h; exact⟨s,lx,h1,h2.on hb⟩
 ·intro o ho i hi rX hfi;cases ho;have h15:i≠15:=fun e=>by rw [e] at hfi; simp at hfi
  have h17:i≠17:=fun e=>by rw [e] at hfi; simp at hfi
  rcases (by omega:i=0\/i=1\/i=2\/i=3\/i=4\/i=5\/i=6\/i=7\/i=8\/i=9\/i=10\/i=11\/i=12\/i=13\/i=14) with rfl|rfl|rfl|rfl|rfl|rfl|rfl|rfl|rfl|rfl|rfl|rfl|rfl|rfl|rfl
  ·exact⟨⟨0,.phase⟩,by simp,rfl,rfl⟩
  ·exact⟨⟨1,.phase⟩,by simp,rfl,rfl⟩
  ·exact⟨⟨2,.phase⟩,by simp,rfl,rfl⟩
  ·exact⟨⟨3,.phase⟩,by simp,rfl,rfl⟩
  ·exact⟨⟨4,.phase⟩,by simp,rfl,rfl⟩
  ·exact⟨⟨5,.phase⟩,by simp,rfl,rfl⟩
  ·exact⟨⟨6,.phase⟩,by simp,rfl,rfl⟩
  ·exact⟨⟨7,.phase⟩,by simp,rfl,rfl⟩
  ·exact⟨⟨8,.phase⟩,by simp,rfl,rfl⟩
  ·exact⟨⟨9,.phase⟩,by simp,rfl,rfl⟩
  ·exact⟨⟨10,.phase⟩,by simp,rfl,rfl⟩
  ·exact⟨⟨11,.phase⟩,by simp,rfl,rfl⟩
  ·exact⟨⟨12,.phase⟩,by simp,rfl,rfl⟩
  ·exact⟨⟨13,.chain⟩,by simp,rfl,rfl⟩
  ·exact⟨⟨14,.data⟩,by simp,rfl,rfl⟩
 ·intro i o hi rX ho a x hpre seen K hK;clear HQ;rcases (by omega:i=0\/i=1\/i=2\/i=3\/i=4\/i=5\/i=6\/i=7\/i=8\/i=9\/i=10\/i=11\/i=12\/i=13\/i=14\/i=15\/i=17) with rfl|rfl|rfl|rfl|rfl|rfl|rfl|rfl|rfl|rfl|rfl|rfl|rfl|rfl|rfl|rfl|rfl
  ·cases ho;obtain⟨hb,hbx⟩:=hpre rfl;have e3:a.eval (ah 3)=Z (O ⟨b3,0,Y⟩):=seen.kp 3 _ Sz rfl;exact aD rfl rfl (aX a.eval _ 30 (ah 3) rfl (by rw [e3]; exact D6 (HX.out.on hb))) (hK _ x rfl (aC _ _))
  ·cases ho;obtain⟨hb,hbx⟩:=hpre rfl;have e3:a.eval (ah 3)=Z (O ⟨b3,0,Y⟩):=seen.kp 3 _ Sz rfl;exact aD rfl rfl (aX a.eval _ 30 (ah 3) rfl (by rw [e3]; exact D6 (HX.out.on hb))) (hK _ x rfl (aC _ _))
  ·cases ho;obtain⟨hb,hbx⟩:=hpre rfl;have e5:a.eval (ah 5)=Z (O ⟨b5,0,Y⟩):=seen.kp 5 _ Pt rfl;exact aD rfl rfl (bF a.eval _ 43 (ah 5) 1 rfl (by rw [e5]; simp [go_sem])) (hK _ x rfl (aC _ _))
  ·cases ho;obtain⟨hb,hbx⟩:=hpre rfl;have e10:a.eval (ah 10)=Z (O ⟨b5,1,Y⟩):=seen.at_ ⟨2,.data⟩ (by simp) rfl (by decide) (ak (by decide));have y1:=(HM.out.on hb).cell 1;have y2:=(HM.out.on hb).cell 2;simp only [au,aA,aB] at y1 y2;exact aD rfl rfl (aX a.eval _ 23 (ah 10) rfl (by rw [e10]; simp [go_sem,y1,y2])) (hK _ x rfl (aC _ _))
  ·cases ho;obtain⟨hb,hbx⟩:=hpre rfl;have e9:a.eval (ah 9)=nS b.me (s1,s2,s3) (s4,s5,s6) (s7,s8,s9) (s10,s11,s12) (s13,s14,s15):=seen.at_ ⟨1,.data⟩ (by simp) rfl (by decide) (ak (by decide));have e11:a.eval (ah 11)=aH #[U X t1,U X t2]:=seen.at_ ⟨3,.data⟩ (by simp) rfl (by decide) (ak (by decide));exact bJ rfl rfl (Rw.lg a.eval _ (ah 9) (ah 11) 30 23 46 rfl e9 e11 rfl _ (fu bI rfl rfl _ _)) (I4 b s1 s2 s3 s4 s5 s6 s7 s8 s9 s10 s11 s12 s13 s14 s15 t1 t2 x (BN.out.on hb).br FP.out) fun e w1 h=>by
    obtain⟨rfl,h5⟩:=h;exact⟨_,rfl,hK _ _ rfl h5⟩
  ·cases ho;obtain⟨hb,hbx⟩:=hpre rfl;have e5:a.eval (ah 5)=Z (O ⟨b5,0,Y⟩):=seen.kp 5 _ Pt rfl;exact aD rfl rfl (bF a.eval _ 43 (ah 5) 1 rfl (by rw [e5]; simp [go_sem])) (hK _ x rfl (aC _ _))
  ·cases ho;obtain⟨hb,hbx⟩:=hpre rfl;have e13:a.eval (ah 13)=Z (O ⟨b5,1,Y⟩):=seen.at_ ⟨5,.data⟩ (by simp) rfl (by decide) (ak (by decide));have y1:=(HM.out.on hb).cell 1;have y2:=(HM.out.on hb).cell 2;simp only [au,aA,aB] at y1 y2;exact aD rfl rfl (aX a.eval _ 23 (ah 13) rfl (by rw [e13]; simp [go_sem,y1,y2])) (hK _ x rfl (aC _ _))
  ·cases ho;obtain⟨hb,hbx⟩:=hpre rfl;have e5:a.eval (ah 5)=Z (O ⟨b5,0,Y⟩):=seen.kp 5 _ Pt rfl;exact aD rfl rfl (bF a.eval _ 43 (ah 5) 2 rfl (by rw [e5]; simp [go_sem])) (hK _ x rfl (aC _ _))
  ·cases ho;obtain⟨hb,hbx⟩:=hpre rfl;have e15:a.eval (ah 15)=Z (O ⟨b5,3,Y⟩):=seen.at_ ⟨7,.data⟩ (by simp) rfl (by decide) (ak (by decide));have y3:=(HM.out.on hb).cell 3;have y4:=(HM.out.on hb).cell 4;simp only [au,aA,aB] at y3 y4;exact aD rfl rfl (aX a.eval _ 23 (ah 15) rfl (by rw [e15]; simp [go_sem,y3,y4])) (hK _ x rfl (aC _ _))
  ·cases ho;obtain⟨hb,hbx⟩:=hpre rfl;have e5:a.eval (ah 5)=Z (O ⟨b5,0,Y⟩):=seen.kp 5 _ Pt rfl;exact aD rfl rfl (bF a.eval _ 43 (ah 5) 3 rfl (by rw [e5]; simp [go_sem])) (hK _ x rfl (aC _ _))
  ·cases ho;obtain⟨hb,hbx⟩:=hpre rfl;have e17:a.eval (ah 17)=Z (O ⟨b5,5,Y⟩):=seen.at_ ⟨9,.data⟩ (by simp) rfl (by decide) (ak (by decide));have y5:=(HM.out.on hb).cell 5;simp only [au,aA,aB] at y5;exact aD rfl rfl (aX a.eval _ 34 (ah 17) rfl (by rw [e17]; simp [go_sem,y5])) (hK _ x rfl (aC _ _))
  ·cases ho;obtain⟨hb,hbx⟩:=hpre rfl;have e1:a.eval (ah 1)=U X f:=seen.kp 1 _ Q6 rfl;exact aD rfl rfl (bG a.eval _ (ah 1) rfl x) (hK _ x e1 (aC _ _))
  ·cases ho;obtain⟨hb,hbx⟩:=hpre rfl;have e14:a.eval (ah 14)=aH #[U X t1,U X t2]:=seen.at_ ⟨6,.data⟩ (by simp) rfl (by decide) (ak (by decide));have e16:a.eval (ah 16)=aH #[U X x1,U X x2]:=seen.at_ ⟨8,.data⟩ (by simp) rfl (by decide) (ak (by decide));have e18:a.eval (ah 18)=J po pn pc:=seen.at_ ⟨10,.data⟩ (by simp) rfl (by decide) (ak (by decide));have e19:a.eval (ah 19)=U X f:=seen.at_ ⟨11,.data⟩ (by simp) rfl (by decide) (ak (by decide));exact aD rfl rfl (bK a.eval _ 67 #[(0,ah 14),(1,ah 16),(2,ah 18),(3,ah 19)] rfl (ps:=#[(0,aH #[U X t1,U X t2]),(1,aH #[U X x1,U X x2]),(2,J po pn pc),(3,U X f)]) (by simp only [aM,aQ,aT,e14,e16,e18,e19]) (by simp [go_sem])) (hK _ x rfl (aC _ _))
  ·cases ho;obtain⟨hb,hbx⟩:=hpre rfl;have e8:a.eval (ah 8)=nS b.me (s1,s2,s3) (s4,s5,s6) (s7,s8,s9) (s10,s11,s12) (s13,s14,s15):=seen.at_ ⟨0,.data⟩ (by simp) rfl (by decide) (ak (by decide));have e12:a.eval (ah 12)=U X (iJ b (t1,t2)):=seen.at_ ⟨4,.data⟩ (by simp) rfl (by decide) (ak (by decide));have e20:a.eval (ah 20)=aH #[U X t1,U X t2,U X x1,U X x2,J po pn pc,U X f,aR aF]:=seen.at_ ⟨12,.data⟩ (by simp) rfl (by decide) (ak (by decide));exact bJ rfl rfl (oQ a.eval _ (ah 8) (ah 12) (ah 20) 30 3 67 45 rfl e8 e12 e20 rfl _ (fu bH rfl rfl _ _)) (uz b s1 s2 s3 s4 s5 s6 s7 s8 s9 s10 s11 s12 s13 s14 s15 (iJ b (t1,t2)) t1 t2 x1 x2 po pn pc f aF (⟨(t1,t2),(x1,x2),p,f,aF⟩:En) x (BN.out.on hb) ⟨rfl,rfl,rfl,rfl,HP.out.on hb⟩ FB.out FP.out RE.out PE.out PP.out) fun e w1 h=>by
    obtain⟨⟨a1,a2,a3,a4,a5,a6,lx,rfl,h2,h3,h4⟩,h5⟩:=h;exact⟨_,rfl,hK _ _ ⟨a1,a2,a3,a4,a5,a6,lx,rfl,h2,fun q=>h3 (Q0.out q |>.on hb),h4.le hb.size⟩ h5⟩
  ·cases ho;obtain⟨hb,hbx⟩:=hpre rfl;have Nu:=seen.at_ ⟨13,.data⟩ (by simp) rfl (by decide) (ak (by decide));obtain⟨a1,a2,a3,a4,a5,a6,_,h1,h2,h3,_⟩:=Nu;exact aD rfl rfl (kQ a.eval _ (ah 21) 0 rfl (c:=#[nS (eP b (iJ b (t1,t2)) (⟨(t1,t2),(x1,x2),p,f,aF⟩:En)).1.me a1 a2 a3 a4 a5,dH a6]) h1 rfl x) (hK _ x ⟨a1,a2,a3,a4,a5,rfl,h2,h3⟩ (aC _ _))
  ·cases ho;have Nu:=seen.at_ ⟨13,.data⟩ (by simp) rfl (by decide) (ak (by decide));obtain⟨a1,a2,a3,a4,a5,a6,lx,h1,_,_,h4⟩:=Nu;exact aD rfl rfl (kQ a.eval _ (ah 21) 1 rfl (c:=#[nS (eP b (iJ b (t1,t2)) (⟨(t1,t2),(x1,x2),p,f,aF⟩:En)).1.me a1 a2 a3 a4 a5,dH a6]) h1 rfl x) (hK _ x ⟨a6,lx,rfl,h4⟩ (aC _ _))
  ·cases ho;have QO:=seen.at_ ⟨15,.data⟩ (by simp) rfl (by decide) (ak (by decide));exact aD rfl rfl (bQ a.eval _ (ah 23) rfl x) (hK _ x QO (aC _ _))
 ·intro o ho a x v hb hbx hC Ls hbase K hK;clear HQ;cases ho;have eB:a.eval (ah 6)=Z (O ⟨bb,0,Y⟩):=hbase 6 _ rfl UJ;obtain⟨⟨m1,m2,m3⟩,⟨m4,m5,m6⟩,⟨m7,m8,m9⟩,⟨m10,m11,m12⟩,⟨m13,m14,m15⟩,hv1,hv2,hv3⟩:=Ls;subst hv1;have iN:=aj x bb (U X (eP b (iJ b (t1,t2)) (⟨(t1,t2),(x1,x2),p,f,aF⟩:En)).1.me) (J m1 m2 m3) (J m4 m5 m6) (J m7 m8 m9) (J m10 m11 m12) (J m13 m14 m15);refine bL 30 (ah 6) (ah 22) rfl rfl rfl rfl eB hC (w':=iy x bb (U X (eP b (iJ b (t1,t2)) (⟨(t1,t2),(x1,x2),p,f,aF⟩:En)).1.me) (J m1 m2 m3) (J m4 m5 m6) (J m7 m8 m9) (J m10 m11 m12) (J m13 m14 m15)) (qo hbx _ _ _ _ _ _ _ _ _ _ _ _ _ _ _ _) (hK _ iN (fun B w hB h=>dz h hB _ _ _ _ _ _) (dK hbx _ _ _ _ _ _) ?_);exact fun j u hj UK hl h=>by
   rcases (by omega:j=0\/j=1\/j=2\/j=3\/j=4\/j=5\/j=6\/j=7\/j=8\/j=9\/j=10\/j=11\/j=12\/j=13\/j=14\/j=15\/j=17) with rfl|rfl|rfl|rfl|rfl|rfl|rfl|rfl|rfl|rfl|rfl|rfl|rfl|rfl|rfl|rfl|rfl
   ·have h2:u=nS b.me (s1,s2,s3) (s4,s5,s6) (s7,s8,s9) (s10,s11,s12) (s13,s14,s15):=h; exact h2
   ·have h2:u=nS b.me (s1,s2,s3) (s4,s5,s6) (s7,s8,s9) (s10,s11,s12) (s13,s14,s15):=h; exact h2
   ·have h2:u=Z (O ⟨b5,1,Y⟩):=h; exact h2
   ·have h2:u=aH #[U X t1,U X t2]:=h; exact h2
   ·have h2:u=U X (iJ b (t1,t2)):=h; exact h2
   ·have h2:u=Z (O ⟨b5,1,Y⟩):=h; exact h2
   ·have h2:u=aH #[U X t1,U X t2]:=h; exact h2
   ·have h2:u=Z (O ⟨b5,3,Y⟩):=h; exact h2
   ·have h2:u=aH #[U X x1,U X x2]:=h; exact h2
   ·have h2:u=Z (O ⟨b5,5,Y⟩):=h; exact h2
   ·have h2:u=J po pn pc:=h; exact h2
   ·have h2:u=U X f:=h; exact h2
   ·have h2:u=aH #[U X t1,U X t2,U X x1,U X x2,J po pn pc,U X f,aR aF]:=h; exact h2
   ·obtain⟨a1,a2,a3,a4,a5,a6,lx,h1,h2,h3,h4⟩:=h; exact⟨a1,a2,a3,a4,a5,a6,lx,h1,h2.keep (s1:=(Y,0,0)) (s2:=(Y,0,0)) (s3:=(Y,0,0)) (s4:=(Y,0,0)) (s5:=(Y,0,0)) (me:=0) hbx iN,fun q=>(h3 q).lI iN hbx (by decide) (by decide) (by decide) (by decide) (by decide) (by decide),h4.but iN hbx (by decide) (by decide)⟩
   ·obtain⟨a1,a2,a3,a4,a5,h1,h2,h3⟩:=h; exact⟨a1,a2,a3,a4,a5,h1,h2.keep (s1:=(Y,0,0)) (s2:=(Y,0,0)) (s3:=(Y,0,0)) (s4:=(Y,0,0)) (s5:=(Y,0,0)) (me:=0) hbx iN,fun q=>(h3 q).lI iN hbx (by decide) (by decide) (by decide) (by decide) (by decide) (by decide)⟩
   ·obtain⟨s,lx,h1,h2⟩:=h; exact⟨s,lx,h1,h2.but iN hbx (by decide) (by decide)⟩
   ·obtain⟨s,lx,h1,h2⟩:=h; exact⟨s,lx,h1,h2.but iN hbx (by decide) (by decide)⟩
 ·intro a x v df sz kp gC hbx Ls Q7 ⟨vs,hv⟩;obtain⟨⟨m1,m2,m3⟩,⟨m4,m5,m6⟩,⟨m7,m8,m9⟩,⟨m10,m11,m12⟩,⟨m13,m14,m15⟩,hv1,hv2,hv3⟩:=Ls;subst hv1;obtain⟨⟨o1,o2,o3⟩,lx,ho1,ho2⟩:=(hv 17 (by decide) (by decide)).2 (by decide);have g7:a.tmps[7]?=O (dH (o1,o2,o3)):=by
   rw [<- ho1];exact (hv 17 (by decide) (by decide)).1
  have uY:∀ j,(j<7\/24<=j)->a.tmps[j]?=(u0::U X f::u2::Z (O ⟨b3,0,Y⟩)::u4::Z (O ⟨b5,0,Y⟩)::Z (O ⟨bb,0,Y⟩)::u7::u8::u9::u10::u11::u12::u13::u14::u15::u16::u17::u18::u19::u20::u21::u22::u23::[])[j]?:=fun j hj=>(kp j (fun i hi h=>by have:=(by decide:∀ i,i<18->7<=[8,9,10,11,12,13,14,15,16,17,18,19,20,21,22,23,22,7].getD i 0/\[8,9,10,11,12,13,14,15,16,17,18,19,20,21,22,23,22,7].getD i 0<24) i hi; omega)).trans au;obtain⟨mid,hmid,rfl⟩:=Rg.gL 7 17 df (by rw [sz]; rfl) (by simp) uY
  match mid,hmid with
  | [v7,v8,v9,v10,v11,v12,v13,v14,v15,v16,v17,v18,v19,v20,v21,v22,v23],_ =>
   obtain rfl:v7=dH (o1,o2,o3):=aW g7;exact HQ.out x _ _ _ _ _ _ _ _ _ _ _ _ _ _ _ _ m1 m2 m3 m4 m5 m6 m7 m8 m9 m10 m11 m12 m13 m14 m15 o1 o2 o3 lx hbx hv2 hv3 ho2 Q7
theorem CY (b:Br) (s1:Option ay) (s2 s3:Nat) (s4:Option ay) (s5 s6:Nat) (s7:Option ay) (s8 s9:Nat) (s10:Option ay) (s11 s12:Nat) (s13:Option ay) (s14 s15:Nat) (f kd t1 t2 x1 x2:Int) (po:Option ay) (pn pc:Nat) (p:List C5) (w:aG) (h:ru w b (s1,s2,s3) (s4,s5,s6) (s7,s8,s9) (s10,s11,s12) (s13,s14,s15)) (hf:yw b) (hfp:mG b) (hok:iH b) (pe:∀ e∈b.ent,eD e.p) (hp:fI w (J po pn pc) p) (pp:eD p) :
  bM aL 11 #[aH #[U X b.me,J s1 s2 s3,J s4 s5 s6,J s7 s8 s9,J s10 s11 s12,J s13 s14 s15],U X f,aH #[U X kd,U X t1,U X t2,U X x1,U X x2,J po pn pc,J Y 0 0]] w (Nw w (iD w b (s1,s2,s3) (s4,s5,s6) (s7,s8,s9) (s10,s11,s12) (s13,s14,s15)) (vP b f (t1,t2) (x1,x2) p)):=by
 rw [xJ hok];obtain⟨h0,h1,h2,h3⟩:=iA w #[U X b.me,J s1 s2 s3,J s4 s5 s6,J s7 s8 s9,J s10 s11 s12,J s13 s14 s15] #[U X kd,U X t1,U X t2,U X x1,U X x2,J po pn pc,J Y 0 0] #[U X 0,J Y 0 0,J Y 0 0,J Y 0 0,J Y 0 0,J Y 0 0] 30 43 30;obtain⟨P,hP⟩:∃ P:Prop,P=iD w b (s1,s2,s3) (s4,s5,s6) (s7,s8,s9) (s10,s11,s12) (s13,s14,s15):=⟨_,rfl⟩;have HP:=L hP;have GB:=L h0;have RG:=L (fun (Q:Exit->Act->aG->Prop) (W:aG)=>os1 Q W w.heap.size (w.heap.size+1) (w.heap.size+1+1) P b s1 s2 s3 s4 s5 s6 s7 s8 s9 s10 s11 s12 s13 s14 s15 f kd t1 t2 x1 x2 po pn pc p);have A3:=L h3;have A1:=L h1;have A2:=L h2;have A4:=L (h.on h0);have A5:=L (show P->_ from fun q=>(cast hP q:iD w b (s1,s2,s3) (s4,s5,s6) (s7,s8,s9) (s10,s11,s12) (s13,s14,s15)).on h0);have A6:=L hf;have A7:=L hfp;have A8:=L (show gU b.ent from hok.ent);have A9:=L pe;have SC:=L (hp.on h0);have SE:=L pp;clear h h0 h1 h2 h3 hf hfp hok pe hP hp pp;go_enter Tryz.func11,Tryz.ntmps11;go_upto_region 1 with fail;refine RG.out _ _ _ _ _ _ _ _ _ _ _ _ _ _ _ _ _ _ _ _ _ _ A3.out A1.out A2.out A4.out A5.out A6.out A7.out A8.out A9.out SC.out SE.out ?_;intro x VH VI UM UO UQ UR UU UW UY UZ U0 U2 U5 U6 U7 U8 m1 m2 m3 m4 m5 m6 m7 m8 m9 m10 m11 m12 m13 m14 m15 o1 o2 o3 lx hbx hbn hbc hou hst;have BL:=L (GB.out.trans (hst.2 w.heap.size (by omega)));have HB:=L hbn;have HC:=L hbc;have HO:=L (hou.le GB.out.size);obtain⟨v0,v1,v2,v3,v4,v5⟩:=hbx.fQ;clear hbx hbn hbc hou hst RG A1 A2 A3 A4 A5 A6 A7 A8 A9 SC SE;go_wp2_with fail;refine bodyPost_ret (v:=.tuple #[aH #[U X (eP b (iJ b (t1,t2)) (⟨(t1,t2),(x1,x2),p,f,aF⟩:En)).1.me,J m1 m2 m3,J m4 m5 m6,J m7 m8 m9,J m10 m11 m12,J m13 m14 m15],J o1 o2 o3]) (by simp [results,Tryz.results11,go_sem,v0,v1,v2,v3,v4,v5]) rfl ?_;exact⟨⟨(m1,m2,m3),(m4,m5,m6),(m7,m8,m9),(m10,m11,m12),(m13,m14,m15),(o1,o2,o3),lx,rfl,HB.out,fun q=>HC.out (cast HP.out.symm q),HO.out⟩,BL.out⟩
end Rt
end Go.Proofs.YtghlpefopidlaaaGreat
