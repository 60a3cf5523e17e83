/-
  place of package rou. Conditions as told.
-/
import Derived.Test.YtghlpefopidlaaaGreatDQ018
set_option maxRecDepth 100000
set_option maxHeartbeats 64000000
open _root_.Bool renaming true->aW,false->bD,and_eq_true->cu
open _root_.Go renaming cell_regrown->aA,World->aG,Value->aJ,below_regrown->aV,Calls->cB,redrawn->cZ,TypeId->dh,maxLen->dn,Addr->dx
open Go.DataW renaming trod->aM,trod_int->aP,trod_struct->bg
open Go.Ending renaming returned->aQ
open Go.IntKind renaming i64->O
open Go.Obj renaming cells->bG
open Go.Operand renaming tmp->aI
open Go.Proofs.Tryz renaming prog->au,underlying3->aO,underlying48->bV,underlying50->bY,func14->cO,func111->dB
open Go.Proofs.YtghlpefopidlaaaGreat.Rg renaming dI->aS,dW->cK,dY->dw,gK->dH
open Go.Proofs.YtghlpefopidlaaaGreat.Wi renaming within->aC
open Go.Region renaming binds->aZ
open Go.RowKit.Below renaming refl->aB
open Go.Value renaming int->U,slice->Z,pointer->ah,agg->aR,bool->bR
open _root_.List renaming getElem?_eq_getElem->ay,getElem?_toArray->aD,getElem?_cons_zero->aF,getElem?_cons_succ->aH,getElem?_eq_some_iff->aK,length_append->aL,length_drop->aT,length_take->aU,drop_succ_cons->aX,take_succ_cons->aY,map_toArray->bF,mem_of_getElem?->bJ,drop_zero->bL,take_zero->bN,takeWhile_cons->bQ,map_cons->bS,map_nil->bU,all_eq_true->bZ
open _root_.Nat renaming lt_of_lt_of_le->bf,le_trans->bH,zero_le->bK,le_of_lt->dD,le_refl->dG
open _root_.Option renaming none->aj,some->ak
open Option.some renaming inj->J
open _root_.Or renaming inr->aN
open Go.Proofs.YtghlpefopidlaaaGreat renaming hq->A
namespace Go.Proofs.YtghlpefopidlaaaGreat
namespace Rt
open Go.RowKit Go.Sort Rw YtghlpefopidlaaaGreat.Nm Pr Bk Av Sb
theorem Xd {α:Type} (key:α->fB) (l:List α) (x:fB) (q:Nat) (y:α) (u:q<fG key l x) (r:l[q]?=ak y):eT (key y) x=aW:=by
 have j:(l.takeWhile fun a=>eT (key a) x)[q]?=ak y:=by
  obtain⟨t,j⟩:=List.takeWhile_prefix (fun a=>eT (key a) x) (l:=l);rw [<- j,List.getElem?_append_left u] at r;exact r
 exact bZ.1 List.all_takeWhile y (bJ j)
theorem J6 {α:Type} (key:α->fB) (x:fB):∀ (m:List α) (y:α),m[fG key m x]?=ak y->eT (key y) x=bD
 | [],_,h=>by simp [fG] at h
 | a::m,y,h=>by
  unfold fG at h;cases j:eT (key a) x with
  | true =>
   simp only [bQ,j,if_true,List.length_cons,aH] at h;exact J6 key x m y h
  | false =>
   simp only [bQ,j,Bool.false_eq_true,if_false,List.length_nil,aF] at h;rw [<- J h];exact j
theorem Bw {α:Type} (key:α->fB) (l:List α) (x:fB):fG key l x<=l.length:=(List.takeWhile_sublist _).length_le
theorem Xe {α:Type} {key:α->fB} {l:List α} (H:kL key l) (x:fB) {i:Nat} {e:α} (I:fG key l x<=i) (j:l[i]?=ak e):eT (key e) x=bD:=by
 have M:=(aK.1 j).1;obtain⟨z,r⟩:∃ z,l[fG key l x]?=ak z:=⟨_,ay (by omega)⟩;have q:=J6 key x l z r;rcases Nat.lt_or_ge (fG key l x) i with h|h
 ·have F:=kM H h r j;cases G:eT (key e) x with
  | false=>rfl
  | true=>rw [ji F G] at q; cases q
 ·have u:i=fG key l x:=by omega
  rw [u,r] at j;rw [<- J j];exact q
theorem abo {W j:aG} {v:aJ} {l:List mP} {q:OA} {n c k:Nat} {x:mP} (h:Ij W v l) (I:v=Z q n c) (H:l.length=n) (G:l[k]?=ak x) (F:Below W.heap.size W j) :
  ∃ p:dx,(∀ w,(Instr.indexAt 28 (Z q n c) (U O k)).run au w=.ok (ah (ak p)) w) /\
   (∀ d os,(grow (cZ j d) os).cell? p=ak (U O x.1))/\(∀ d os,(grow (cZ j d) os).cell? ⟨p.block,p.off+1,aj⟩=ak (U O x.2.1)) /\
   (∀ d os,(grow (cZ j d) os).cell? ⟨p.block,p.off+2,aj⟩=ak (eu x.2.2)):=by
 obtain⟨p,r,u⟩:=elW h I H G;obtain⟨c0,c1,c2⟩:=u _ F;exact⟨p,r,aA c0,aA c1,aA c2⟩
theorem abp (args:Array aJ) (w:aG):(callFunc 111 args).run au w=.ok (.enter 111 args) w:=gB dB rfl rfl args w
theorem abq (i:Nat) (G H:Nat) (F:OA) (n u:Nat) (l:List mP) (t:fB) (y:mP) (r:Bool) (w:aG) (T:Ij w (Z F n u) l) (N:l.length=n) (a1:l[i]?=ak y) (S:(!eT (y.1,y.2.1) t)=r)
  (M:dN w G #[Z F n u] 28) (j:dN w H #[U O t.1,U O t.2] 23) :
  cB au 111 #[U O i,ah (ak ⟨G,0,aj⟩),ah (ak ⟨H,0,aj⟩)] w fun e w'=>e=aQ (bR r)/\Below w.heap.size w w':=by
 obtain⟨p,b4,aE,b1,a6⟩:=abo T rfl N a1 (aB _ _);have a0:=aA (M.cell 0);have b0:=aA (j.cell 0);have a8:=aA (j.cell 1);have C:∀ k os,cB au 31 #[nP (y.1,y.2.1),nP t] (grow (cZ w k) os) fun e b2=>e=aQ (bR (eT (y.1,y.2.1) t))/\∃ p:Regrown,b2=grow (cZ w p.d) p.os:=fun k os=>Calls.regrown_of (wZ (y.1,y.2.1) t _);generalize eT (y.1,y.2.1) t=q at *;have R:=A S;have a7:=A (fun I a2=>aV w I a2);obtain⟨b5,b6,⟨b9,b8,b7⟩⟩:=y;obtain⟨c,d⟩:=t;simp only at aE b1 a6 b0 a8 C;clear T N a1 S M j a6;go_enter dB,Tryz.ntmps111;go_wp2;refine ko ?_
 repeat (go_big_quiet_step (first | (with_reducible exact C _ _) | exact Wj _ _))
 refine kr fun I a2=>?_;go_wp2;go_ret;exact⟨congrArg (fun b=>aQ (bR b)) R.o,a7.o _ _⟩
theorem Bz {W:aG} {l:List mP} {m:List Ow} (h:eY (xQ W) l m) {i:Nat} {y:mP} (q:l[i]?=ak y):∃ e,m[i]?=ak e/\(y.1,y.2.1)=e.id:=by
 have u:=(aK.1 q).1;obtain⟨e,j⟩:∃ e,m[i]?=ak e:=⟨_,ay (by rw [<- h.len]; exact u)⟩;obtain⟨G,r,F⟩:=h.at i e j;rw [q] at r;obtain rfl:=J r;exact⟨e,j,F.1⟩
theorem GQ (v:Sl) (l:List mP) (m:List Ow) (t:fB) (w:aG) (b6:Ij w (eu v) l) (b2:eY (xQ w) l m) (bP:kL Ow.id m) (cC:l.length<=1000) :
  cB au 42 #[eu v,nP t] w fun e w'=>e=aQ (.tuple #[U O (fG Ow.id m t),bR (gZ Ow.id m t)])/\Below w.heap.size w w':=by
 obtain⟨G,n,sc⟩:=v;have a6:l.length=n:=lT b6;obtain⟨c,d⟩:=t;obtain⟨k,F⟩:∃ k,fG Ow.id m (c,d)=k:=⟨_,rfl⟩;obtain⟨b9,b5⟩:∃ k,gZ Ow.id m (c,d)=k:=⟨_,rfl⟩;have cA:k<=n:=by rw [<- F,<- a6,b2.len]; exact Bw _ _ _
 rw [F,b5];obtain⟨a1,X,Y⟩:=gX w #[Z G n sc] #[U O c,U O d] 28 23;have M:=A a1;have bM:=A (b6.on a1);have N:=A (b2.mono fun _ _ q=>q.on a1);have bO:=A X;have a8:=A Y;have bW:=X.cell 0;simp only [aD,aF] at bW;have bB:=A (show ∀ i,i<n->∀ W,Below ((w.alloc (bG #[Z G n sc] 28)).alloc (bG #[U O c,U O d] 23)).heap.size ((w.alloc (bG #[Z G n sc] 28)).alloc (bG #[U O c,U O d] 23)) W ->
   cB au 111 (#[U O i]++#[ah (ak ⟨w.heap.size,0,aj⟩),ah (ak ⟨w.heap.size+1,0,aj⟩)]) W fun e w'=>e=aQ (bR ((fun i=>match l[i]? with | some y=>!eT (y.1,y.2.1) (c,d) | none=>aW) i))/\Below W.heap.size W w' from fun i a2 W j=>by
  obtain⟨y,u⟩:∃ y,l[i]?=ak y:=⟨_,ay (by omega)⟩;refine abq i _ _ G n sc l (c,d) y _ W (bM.o.on j) a6 u ?_ (bO.o.on j) (a8.o.on j);simp only [u])
 have bI:=A (show ∀ i,i<k->(fun i=>match l[i]? with | some y=>!eT (y.1,y.2.1) (c,d) | none=>aW) i=bD from fun i a2=>by
  obtain⟨y,u⟩:∃ y,l[i]?=ak y:=⟨_,ay (by omega)⟩;obtain⟨e,H,I⟩:=Bz N.o u;have b1:=Xd Ow.id m (c,d) i e (by rw [F]; exact a2) H;simp only [u,I,b1]
  rfl)
 have bC:=A (show ∀ i,k<=i->i<n->(fun i=>match l[i]? with | some y=>!eT (y.1,y.2.1) (c,d) | none=>aW) i=aW from fun i a2 cH=>by
  obtain⟨y,u⟩:∃ y,l[i]?=ak y:=⟨_,ay (by omega)⟩;obtain⟨e,H,I⟩:=Bz N.o u;have b1:=Xe bP (c,d) (by rw [F]; exact a2) H;simp only [u,I,b1]
  rfl)
 have bE:=A F;have S:=A b5;have a7:=A a6;have ln:n<=1000:=by omega
 clear b6 b2 a1 X Y F b5 cC a6 bP;go_enter Tryz.func42,Tryz.ntmps42;go_wp2_with fail;generalize (w.alloc (bG #[Z G n sc] 28)).alloc (bG #[U O c,U O d] 23)=W at *;refine (yV 111 #[ah (ak ⟨w.heap.size,0,aj⟩),ah (ak ⟨w.heap.size+1,0,aj⟩)] abp n k _ W (by omega) bB.o cA bI.o bC.o).mono ?_;rintro c7 w1 ⟨rfl,j⟩;have bA:=A (fun aE b7=>(M.o.trans (j.mono M.o.size)).trans ((aV w1 aE b7).mono (M.o.trans (j.mono M.o.size)).size));have a0:=aA (show w1.cell? ⟨w.heap.size,0,aj⟩=ak (Z G n sc) from (bO.o.on j).cell 0);have b0:=aA (show w1.cell? ⟨w.heap.size+1,0,aj⟩=ak (U O c) from (a8.o.on j).cell 0);have cG:=aA (show w1.cell? ⟨w.heap.size+1,1,aj⟩=ak (U O d) from (a8.o.on j).cell 1);clear bW bB bI bC;by_cases c9:k<n
 ·obtain⟨y,u⟩:∃ y,l[k]?=ak y:=⟨_,ay (by rw [a7.o]; exact c9)⟩;obtain⟨p,cI,cD,cF,bT⟩:=abo bM.o rfl a7.o u j;have T:=A (show b9=decide ((y.1,y.2.1)=(c,d)) from by
   obtain⟨e,H,I⟩:=Bz N.o u;rw [<- S.o,gZ,bE.o,H,I])
  have c8:decide ((k:Int)<(n:Int))=aW:=by simp; omega
  obtain⟨bX,c6,⟨cM,cL,cJ⟩⟩:=y;simp only at cD cF bT;clear bT j u;obtain⟨b8,b4⟩:∃ r,(bX == c && c6 == d)=r:=⟨_,rfl⟩;have c7:=uL bX c6 c d b8 b4;have R:=A (show b9=b8 from by
   rw [T.o,<- b4,Bool.eq_iff_iff];simp only [decide_eq_true_eq,cu,beq_iff_eq,Prod.mk.injEq])
  clear b4 T S;cases b8
  all_goals
   go_wp2;refine ko ?_
   repeat (go_big_quiet_step (fail))
   refine kr fun aE b7=>?_;go_wp2
   go_ret2
   exact⟨by rw [R.o]; rfl,bA.o _ _⟩
 ·have T:=A (show b9=bD from by
   rw [<- S.o,gZ,bE.o,List.getElem?_eq_none (by rw [<- N.o.len,a7.o]; omega)])
  have c8:decide ((k:Int)<(n:Int))=bD:=by simp; omega
  clear j S;go_wp2;refine ko ?_
  repeat (go_big_quiet_step (fail))
  refine kr fun aE b7=>?_;go_wp2
  go_ret2
  exact⟨by rw [T.o]; rfl,bA.o _ _⟩
end Rt
namespace Fl
open Go.RowKit Go.Sort Rw YtghlpefopidlaaaGreat.Nm Pr Bk Av
def OuO (W:aG) (B:Nat) (x:nu) (o:Ou):Prop:=x.1=o.jw/\x.2.1=o.kind/\(x.2.2.1,x.2.2.2.1)=o.tree/\(x.2.2.2.2.1,x.2.2.2.2.2.1)=o.id/\iH W B (eu x.2.2.2.2.2.2.1) o.p/\x.2.2.2.2.2.2.2=(aj,0,0)
theorem OuO.ou {W:aG} {B:Nat} {x:nu} {o:Ou} (h:OuO W B x o):tZ W x o:=⟨h.1,h.2.1,h.2.2.1,h.2.2.2.1,Row.dL h.2.2.2.2.1,h.2.2.2.2.2⟩
theorem OuO.le {W:aG} {B B':Nat} {x:nu} {o:Ou} (h:OuO W B x o) (hB:B'<=B):OuO W B' x o:=⟨h.1,h.2.1,h.2.2.1,h.2.2.2.1,dO h.2.2.2.2.1 hB,h.2.2.2.2.2⟩
structure sP (W:aG) (B:Nat) (v:aJ) (lx:List nu) (l:List Ou):Prop where
 row:kF W B v lx
 all:eY (OuO W B) lx l
theorem sP.on {W q:aG} {B:Nat} {v:aJ} {u:List nu} {l:List Ou} (h:sP W B v u l) (r:Below W.heap.size W q):sP q B v u l:=⟨Bk.dK h.row r,h.all.mono fun _ _ j=>⟨j.1,j.2.1,j.2.2.1,j.2.2.2.1,Bk.dK j.2.2.2.2.1 r,j.2.2.2.2.2⟩⟩
theorem sP.le {W:aG} {B B':Nat} {v:aJ} {j:List nu} {l:List Ou} (h:sP W B v j l) (hB:B'<=B):sP W B' v j l:=⟨dO h.row hB,h.all.mono fun _ _ q=>q.le hB⟩
theorem sP.nil (W:aG) (B:Nat):sP W B (Z aj 0 0) [] []:=⟨iR _ _,.nil⟩
theorem sP.but {W q:aG} {B g:Nat} {v:aJ} {F:List nu} {l:List Ou} {cs:Array aJ} {t:dh} (h:sP W B v F l) (u:But g W q) (r:dN W g cs t) (G:(46 == t)=bD) (H:(91 == t)=bD):sP q B v F l:=⟨u.own h.row r G,h.all.mono fun _ _ j=>⟨j.1,j.2.1,j.2.2.1,j.2.2.2.1,u.own j.2.2.2.2.1 r H,j.2.2.2.2.2⟩⟩
theorem sP.outs {W:aG} {B:Nat} {s:Sl} {j:List nu} {l:List Ou} (h:sP W B (eu s) j l):lZ W s l:=⟨j,Row.dL h.row,h.all.mono fun _ _ q=>q.ou⟩
theorem sP.len {W:aG} {B:Nat} {v:aJ} {j:List nu} {l:List Ou} (h:sP W B v j l):j.length=l.length:=h.all.len
theorem sP.more {W q:aG} {B:Nat} {v G:aJ} {r u:List nu} {l m:List Ou} (h:sP W B v r l) (F:W.grownBy q v.ownBlock) (H:kF q B G (r++u)) (I:eY (OuO W B) u m):sP q B G (r++u) (l++m) :=
 ⟨H,eY.append (h.all.mono fun _ _ j=>⟨j.1,j.2.1,j.2.2.1,j.2.2.2.1,LJ h.row F j.2.2.2.2.1 (by decide),j.2.2.2.2.2⟩) (I.mono fun _ _ j=>⟨j.1,j.2.1,j.2.2.1,j.2.2.2.1,LJ h.row F j.2.2.2.2.1 (by decide),j.2.2.2.2.2⟩)⟩
end Fl
namespace Av
open Go.RowKit Go.Sort Rw YtghlpefopidlaaaGreat.Nm Pr Bk
theorem oW {P:Program} (j:Operand->aJ) (o:Oper) (y:Operand) (k:Nat) (q:o.op=.extract y k) {c:Array aJ} {v:aJ} (u:j y=.tuple c) (r:c[k]?=ak v) (w:aG):(execOp j o).run P w=.ok (.value v) w:=by
 simp [execOp,q,u,r,go_sem]
def alE (_:Nat) (j:Nat) (_ _ _ z3 z4:Int) (_:OA) (_ _:Nat) (_:OA) (_ _:Nat) (i:Nat) (v:aJ) (_:aG):Prop :=
 match i with
 | 0=>v=ah (ak ⟨j,3,aj⟩)
 | 1=>v=U O z3
 | 2=>v=U O (aC z3 0 4)
 | 3=>v=ah (ak ⟨j,4,aj⟩)
 | 4=>v=U O z4
 | 5=>v=U O (aC z4 0 2)
 | 6=>v=aR #[U O (aC z3 0 4),U O (aC z4 0 2)]
 | 7=>True
 | 8=>True
 | _=>True
noncomputable def afK:Code:=((Tryz.f13.body.bind (eX 12)).getD .skip)
theorem ape (Q:Exit->Act->aG->Prop) (W:aG) (I:Nat) (z0 hG hH z3 z4:Int) (T:OA) (F gI:Nat) (gA:OA) (gC gE:Nat) {cN cP u2 u3 dZ e0 u7 h7 u9 a2 u11 a6 u13 a7 a8 aE b1 b2 b4 b5 b6 b7 b8 b9 bA bB bC bE bI bM bO bP bT bW bX c6 c7 c8 c9 cA cC cD cF cG cH h0 h1 h2 h3 h4 h5 h6 e1 e2 e3 e4 e5 e6 e7 e8 e9 eA eB eC eE eI eJ eK eL eM eN eQ eR eS eV eW f0 f1 f2 f3 f4 f5 f6 f7 f8 f9 fL fN fR fS fV fW fX fY g0 g1 g2 g3 g4 cQ cR cS cT cU cV cW cX cY d0 d1 d2 d3 d4 d5 d6 d7 d8 d9 dA dC dE dS dT:aJ}
  (q:dN W I #[U O z0,U O hG,U O hH,U O z3,U O z4,Z T F gI,Z gA gC gE] 63) (g8:-9223372036854775808<=z3/\z3<=9223372036854775807) (g9:-9223372036854775808<=z4/\z4<=9223372036854775807)
  (gO:∀ (x:aG) (G:Nat) {v46 h8 h9 hA hC v51 hD:aJ},W.heap.size<=G->dN x G #[U O (aC z3 0 4),U O (aC z4 0 2)] 23->Below W.heap.size W x->Q .normal ⟨(cN::cP::u2::u3::dZ::e0::ah (ak ⟨I,0,aj⟩)::u7::ah (ak ⟨G,0,aj⟩)::u9::a2::u11::a6::u13::a7::a8::aE::b1::b2::b4::b5::b6::b7::b8::b9::bA::bB::bC::bE::bI::bM::bO::bP::bT::bW::bX::c6::c7::c8::c9::cA::cC::cD::cF::cG::cH::v46::h8::h9::hA::hC::v51::hD::e1::e2::e3::e4::e5::e6::e7::e8::e9::eA::eB::eC::eE::eI::eJ::eK::eL::eM::eN::eQ::eR::eS::eV::eW::f0::f1::f2::f3::f4::f5::f6::f7::f8::f9::fL::fN::fR::fS::fV::fW::fX::fY::g0::g1::g2::g3::g4::cQ::cR::cS::cT::cU::cV::cW::cX::cY::d0::d1::d2::d3::d4::d5::d6::d7::d8::d9::dA::dC::dE::dS::dT::[]).toArray,[]⟩ x) :
  Code.wp au afK Q ⟨(cN::cP::u2::u3::dZ::e0::ah (ak ⟨I,0,aj⟩)::u7::h7::u9::a2::u11::a6::u13::a7::a8::aE::b1::b2::b4::b5::b6::b7::b8::b9::bA::bB::bC::bE::bI::bM::bO::bP::bT::bW::bX::c6::c7::c8::c9::cA::cC::cD::cF::cG::cH::h0::h1::h2::h3::h4::h5::h6::e1::e2::e3::e4::e5::e6::e7::e8::e9::eA::eB::eC::eE::eI::eJ::eK::eL::eM::eN::eQ::eR::eS::eV::eW::f0::f1::f2::f3::f4::f5::f6::f7::f8::f9::fL::fN::fR::fS::fV::fW::fX::fY::g0::g1::g2::g3::g4::cQ::cR::cS::cT::cU::cV::cW::cX::cY::d0::d1::d2::d3::d4::d5::d6::d7::d8::d9::dA::dC::dE::dS::dT::[]).toArray,[]⟩ W:=by
 have cJ:=A gO;have g7:=A q;have g5:=A g8;have g6:=A g9;clear gO q g8 g9;unfold afK
 conv=>arg 2; whnf
 have gS:∀ i,i<9->[46,47,48,49,50,51,52,8,8].getD i 0≠6:=by decide
 refine Rg.xq 9 7 8 6 (fun i=>[46,47,48,49,50,51,52,8,8].getD i 0) (fun i=>9) (alE W.heap.size I z0 hG hH z3 z4 T F gI gA gC gE) 23 #[U O 0,U O 0] (fun v=>match v with | aR c=>c | _=>#[]) (by kernel_rfl) (by kernel_rfl) rfl (by decide) (by decide) (by decide) (by decide) (by decide) (by decide) (by decide) (fun i j r cM T F h=>(by decide:∀ i,i<9->∀ j,j<9->i≠8->j≠8->[46,47,48,49,50,51,52,8,8].getD i 0=[46,47,48,49,50,51,52,8,8].getD j 0->i=j) i r j cM T F h) (fun i r=>(by decide:∀ i,i<9->[46,47,48,49,50,51,52,8,8].getD i 0<124) i r) ?_ ?_ ?_ ?_ ?_ ?_
 ·intro i v x l6 r h N;rcases (by omega:i=0\/i=1\/i=2\/i=3\/i=4\/i=5\/i=6\/i=7\/i=8) with rfl|rfl|rfl|rfl|rfl|rfl|rfl|rfl|rfl
  ·exact h
  ·exact h
  ·exact h
  ·exact h
  ·exact h
  ·exact h
  ·exact h
  ·exact h
  ·exact h
 ·intro o H;cases H;exact⟨⟨⟨7,.data⟩,by simp,rfl,rfl⟩,⟨⟨6,.data⟩,by simp,rfl,rfl⟩⟩
 ·intro i o r l0 kB H a x N seen K M;clear cJ;rcases (by omega:i=0\/i=1\/i=2\/i=3\/i=4\/i=5\/i=6) with rfl|rfl|rfl|rfl|rfl|rfl|rfl
  ·cases H;have cL:a.eval (aI 6)=ah (ak ⟨I,0,aj⟩):=seen.kp 6 _ gS rfl;exact aS rfl rfl (dw a.eval _ 63 (aI 6) 3 rfl (by rw [cL]; simp [go_sem])) (M _ x rfl (aB _ _))
  ·cases H;have hJ:a.eval (aI 46)=ah (ak ⟨I,3,aj⟩):=seen.at_ ⟨0,.data⟩ (by simp) rfl (by decide) (by decide) (aN (by decide));have hE:=(g7.o.on N).cell 3;simp only [aD,aF,aH] at hE;exact aS rfl rfl (cK a.eval _ 3 (aI 46) rfl (by rw [hJ]; simp [go_sem,hE])) (M _ x rfl (aB _ _))
  ·cases H;have hK:a.eval (aI 47)=U O z3:=seen.at_ ⟨1,.data⟩ (by simp) rfl (by decide) (by decide) (aN (by decide));exact dH rfl rfl (Rg.Es a.eval _ (aI 47) (.const (U O 0)) (.const (U O 4)) 3 14 rfl hK rfl rfl rfl _ (gB cO rfl rfl _ _)) (Wi.iM z3 0 4 x (by omega) (by omega) (by omega) g5.o.1 g5.o.2) fun e w1 h=>by
    obtain⟨rfl,rfl⟩:=h;exact⟨_,rfl,M _ _ rfl (aB _ _)⟩
  ·cases H;have cL:a.eval (aI 6)=ah (ak ⟨I,0,aj⟩):=seen.kp 6 _ gS rfl;exact aS rfl rfl (dw a.eval _ 63 (aI 6) 4 rfl (by rw [cL]; simp [go_sem])) (M _ x rfl (aB _ _))
  ·cases H;have hM:a.eval (aI 49)=ah (ak ⟨I,4,aj⟩):=seen.at_ ⟨3,.data⟩ (by simp) rfl (by decide) (by decide) (aN (by decide));have hF:=(g7.o.on N).cell 4;simp only [aD,aF,aH] at hF;exact aS rfl rfl (cK a.eval _ 3 (aI 49) rfl (by rw [hM]; simp [go_sem,hF])) (M _ x rfl (aB _ _))
  ·cases H;have hN:a.eval (aI 50)=U O z4:=seen.at_ ⟨4,.data⟩ (by simp) rfl (by decide) (by decide) (aN (by decide));exact dH rfl rfl (Rg.Es a.eval _ (aI 50) (.const (U O 0)) (.const (U O 2)) 3 14 rfl hN rfl rfl rfl _ (gB cO rfl rfl _ _)) (Wi.iM z4 0 2 x (by omega) (by omega) (by omega) g6.o.1 g6.o.2) fun e w1 h=>by
    obtain⟨rfl,rfl⟩:=h;exact⟨_,rfl,M _ _ rfl (aB _ _)⟩
  ·cases H;have hL:a.eval (aI 48)=U O (aC z3 0 4):=seen.at_ ⟨2,.data⟩ (by simp) rfl (by decide) (by decide) (aN (by decide));have hO:a.eval (aI 51)=U O (aC z4 0 2):=seen.at_ ⟨5,.data⟩ (by simp) rfl (by decide) (by decide) (aN (by decide));exact aS rfl rfl (Rg.jd a.eval _ 23 #[(0,aI 48),(1,aI 51)] rfl (ps:=#[(0,U O (aC z3 0 4)),(1,U O (aC z4 0 2))]) (by simp only [bF,bS,bU,hL,hO]) (by simp [go_sem])) (M _ x rfl (aB _ _))
 ·intro o H a x K M;cases H;exact aS rfl rfl (Rg.zA a.eval _ 23 rfl (by simp [go_sem])) M
 ·intro o H a x G v D kO kK N hT hU cI a1 S K M;clear cJ;cases H;have gR:v=aR #[U O (aC z3 0 4),U O (aC z4 0 2)]:=cI;subst gR;obtain⟨k9,kA⟩:=S.cs2;obtain⟨hP,hQ⟩:=S.fs2;have hX:(Instr.storeAt 23 (ah (ak ⟨G,0,aj⟩)) (aR #[U O (aC z3 0 4),U O (aC z4 0 2)])).run au x=.ok () ((x.setCell ⟨G,0,aj⟩ (U O (aC z3 0 4))).setCell ⟨G,1,aj⟩ (U O (aC z4 0 2))):=by simp [go_sem,k9,kA,hP,hQ]
  have hI:=eD (k:=1) (eD (k:=0) S (U O (aC z3 0 4))) (U O (aC z4 0 2));refine Rg.gq 23 (aI 8) (aI 52) rfl rfl rfl rfl hT hU hX (M _ ((N.setCell (p:=⟨G,0,aj⟩) a1 _).setCell (p:=⟨G,1,aj⟩) a1 _) (by simpa using hI) ?_);exact fun j u cM l1 l2 kQ l4 l3 h=>by
   rcases (by omega:j=0\/j=1\/j=2\/j=3\/j=4\/j=5\/j=6) with rfl|rfl|rfl|rfl|rfl|rfl|rfl
   ·have F:u=ah (ak ⟨I,3,aj⟩):=h; exact F
   ·have F:u=U O z3:=h; exact F
   ·have F:u=U O (aC z3 0 4):=h; exact F
   ·have F:u=ah (ak ⟨I,4,aj⟩):=h; exact F
   ·have F:u=U O z4:=h; exact F
   ·have F:u=U O (aC z4 0 2):=h; exact F
   ·have F:u=aR #[U O (aC z3 0 4),U O (aC z4 0 2)]:=h; exact F
 ·intro a x G v df sz kp hS kE a1 S cI hV ⟨l5,gR⟩;have hY:v=aR #[U O (aC z3 0 4),U O (aC z4 0 2)]:=cI;subst hY;have hR:a.tmps[8]?=ak (ah (ak ⟨G,0,aj⟩)):=hS;have i0:∀ j,(j<8\/53<=j)->a.tmps[j]?=(cN::cP::u2::u3::dZ::e0::ah (ak ⟨I,0,aj⟩)::u7::h7::u9::a2::u11::a6::u13::a7::a8::aE::b1::b2::b4::b5::b6::b7::b8::b9::bA::bB::bC::bE::bI::bM::bO::bP::bT::bW::bX::c6::c7::c8::c9::cA::cC::cD::cF::cG::cH::h0::h1::h2::h3::h4::h5::h6::e1::e2::e3::e4::e5::e6::e7::e8::e9::eA::eB::eC::eE::eI::eJ::eK::eL::eM::eN::eQ::eR::eS::eV::eW::f0::f1::f2::f3::f4::f5::f6::f7::f8::f9::fL::fN::fR::fS::fV::fW::fX::fY::g0::g1::g2::g3::g4::cQ::cR::cS::cT::cU::cV::cW::cX::cY::d0::d1::d2::d3::d4::d5::d6::d7::d8::d9::dA::dC::dE::dS::dT::[])[j]?:=fun j cM=>(kp j (fun i r h=>by have:=(by decide:∀ i,i<9->8<=[46,47,48,49,50,51,52,8,8].getD i 0/\[46,47,48,49,50,51,52,8,8].getD i 0<53) i r; omega)).trans aD;obtain⟨hZ,hW,rfl⟩:=Rg.gG 8 45 df sz (by simp) i0
  match hZ,hW with
  | k8::v9::i1::i2::i4::i5::i6::i7::i8::i9::iG::iS::j0::j1::v22::j2::j3::j4::j5::j6::v28::j7::j8::j9::jB::jD::jI::jV::jY::k0::k1::k2::v40::k3::k4::k5::k6::k7::v46::h8::h9::hA::hC::v51::hD::[],_ =>
   obtain rfl:k8=ah (ak ⟨G,0,aj⟩):=J hR;obtain rfl:v9=u9:=J (kp 9 (fun i r h=>(by decide:∀ i,i<9->[46,47,48,49,50,51,52,8,8].getD i 0≠9) i r h));obtain rfl:i1=a2:=J (kp 10 (fun i r h=>(by decide:∀ i,i<9->[46,47,48,49,50,51,52,8,8].getD i 0≠10) i r h));obtain rfl:i2=u11:=J (kp 11 (fun i r h=>(by decide:∀ i,i<9->[46,47,48,49,50,51,52,8,8].getD i 0≠11) i r h));obtain rfl:i4=a6:=J (kp 12 (fun i r h=>(by decide:∀ i,i<9->[46,47,48,49,50,51,52,8,8].getD i 0≠12) i r h));obtain rfl:i5=u13:=J (kp 13 (fun i r h=>(by decide:∀ i,i<9->[46,47,48,49,50,51,52,8,8].getD i 0≠13) i r h));obtain rfl:i6=a7:=J (kp 14 (fun i r h=>(by decide:∀ i,i<9->[46,47,48,49,50,51,52,8,8].getD i 0≠14) i r h));obtain rfl:i7=a8:=J (kp 15 (fun i r h=>(by decide:∀ i,i<9->[46,47,48,49,50,51,52,8,8].getD i 0≠15) i r h));obtain rfl:i8=aE:=J (kp 16 (fun i r h=>(by decide:∀ i,i<9->[46,47,48,49,50,51,52,8,8].getD i 0≠16) i r h));obtain rfl:i9=b1:=J (kp 17 (fun i r h=>(by decide:∀ i,i<9->[46,47,48,49,50,51,52,8,8].getD i 0≠17) i r h));obtain rfl:iG=b2:=J (kp 18 (fun i r h=>(by decide:∀ i,i<9->[46,47,48,49,50,51,52,8,8].getD i 0≠18) i r h));obtain rfl:iS=b4:=J (kp 19 (fun i r h=>(by decide:∀ i,i<9->[46,47,48,49,50,51,52,8,8].getD i 0≠19) i r h));obtain rfl:j0=b5:=J (kp 20 (fun i r h=>(by decide:∀ i,i<9->[46,47,48,49,50,51,52,8,8].getD i 0≠20) i r h));obtain rfl:j1=b6:=J (kp 21 (fun i r h=>(by decide:∀ i,i<9->[46,47,48,49,50,51,52,8,8].getD i 0≠21) i r h));obtain rfl:v22=b7:=J (kp 22 (fun i r h=>(by decide:∀ i,i<9->[46,47,48,49,50,51,52,8,8].getD i 0≠22) i r h));obtain rfl:j2=b8:=J (kp 23 (fun i r h=>(by decide:∀ i,i<9->[46,47,48,49,50,51,52,8,8].getD i 0≠23) i r h));obtain rfl:j3=b9:=J (kp 24 (fun i r h=>(by decide:∀ i,i<9->[46,47,48,49,50,51,52,8,8].getD i 0≠24) i r h));obtain rfl:j4=bA:=J (kp 25 (fun i r h=>(by decide:∀ i,i<9->[46,47,48,49,50,51,52,8,8].getD i 0≠25) i r h));obtain rfl:j5=bB:=J (kp 26 (fun i r h=>(by decide:∀ i,i<9->[46,47,48,49,50,51,52,8,8].getD i 0≠26) i r h));obtain rfl:j6=bC:=J (kp 27 (fun i r h=>(by decide:∀ i,i<9->[46,47,48,49,50,51,52,8,8].getD i 0≠27) i r h));obtain rfl:v28=bE:=J (kp 28 (fun i r h=>(by decide:∀ i,i<9->[46,47,48,49,50,51,52,8,8].getD i 0≠28) i r h));obtain rfl:j7=bI:=J (kp 29 (fun i r h=>(by decide:∀ i,i<9->[46,47,48,49,50,51,52,8,8].getD i 0≠29) i r h));obtain rfl:j8=bM:=J (kp 30 (fun i r h=>(by decide:∀ i,i<9->[46,47,48,49,50,51,52,8,8].getD i 0≠30) i r h));obtain rfl:j9=bO:=J (kp 31 (fun i r h=>(by decide:∀ i,i<9->[46,47,48,49,50,51,52,8,8].getD i 0≠31) i r h));obtain rfl:jB=bP:=J (kp 32 (fun i r h=>(by decide:∀ i,i<9->[46,47,48,49,50,51,52,8,8].getD i 0≠32) i r h));obtain rfl:jD=bT:=J (kp 33 (fun i r h=>(by decide:∀ i,i<9->[46,47,48,49,50,51,52,8,8].getD i 0≠33) i r h));obtain rfl:jI=bW:=J (kp 34 (fun i r h=>(by decide:∀ i,i<9->[46,47,48,49,50,51,52,8,8].getD i 0≠34) i r h));obtain rfl:jV=bX:=J (kp 35 (fun i r h=>(by decide:∀ i,i<9->[46,47,48,49,50,51,52,8,8].getD i 0≠35) i r h));obtain rfl:jY=c6:=J (kp 36 (fun i r h=>(by decide:∀ i,i<9->[46,47,48,49,50,51,52,8,8].getD i 0≠36) i r h));obtain rfl:k0=c7:=J (kp 37 (fun i r h=>(by decide:∀ i,i<9->[46,47,48,49,50,51,52,8,8].getD i 0≠37) i r h));obtain rfl:k1=c8:=J (kp 38 (fun i r h=>(by decide:∀ i,i<9->[46,47,48,49,50,51,52,8,8].getD i 0≠38) i r h));obtain rfl:k2=c9:=J (kp 39 (fun i r h=>(by decide:∀ i,i<9->[46,47,48,49,50,51,52,8,8].getD i 0≠39) i r h));obtain rfl:v40=cA:=J (kp 40 (fun i r h=>(by decide:∀ i,i<9->[46,47,48,49,50,51,52,8,8].getD i 0≠40) i r h));obtain rfl:k3=cC:=J (kp 41 (fun i r h=>(by decide:∀ i,i<9->[46,47,48,49,50,51,52,8,8].getD i 0≠41) i r h));obtain rfl:k4=cD:=J (kp 42 (fun i r h=>(by decide:∀ i,i<9->[46,47,48,49,50,51,52,8,8].getD i 0≠42) i r h));obtain rfl:k5=cF:=J (kp 43 (fun i r h=>(by decide:∀ i,i<9->[46,47,48,49,50,51,52,8,8].getD i 0≠43) i r h));obtain rfl:k6=cG:=J (kp 44 (fun i r h=>(by decide:∀ i,i<9->[46,47,48,49,50,51,52,8,8].getD i 0≠44) i r h));obtain rfl:k7=cH:=J (kp 45 (fun i r h=>(by decide:∀ i,i<9->[46,47,48,49,50,51,52,8,8].getD i 0≠45) i r h));exact cJ.o x G a1 S hV
def alG (B:Nat) (j _ _:Nat) (z0 _ _ _ _ t1 t2 q r:Int) (I:OA) (M N:Nat) (F:OA) (G H:Nat) (has u:List Int) (i:Nat) (v:aJ) (x:aG):Prop :=
 match i with
 | 0=>v=ah (ak ⟨j,0,aj⟩)
 | 1=>v=U O z0
 | 2=>v=U O (aC z0 1 7)
 | 3=>v=aR #[U O t1,U O t2]
 | 4=>v=aR #[U O q,U O r]
 | 5=>v=ah (ak ⟨j,5,aj⟩)
 | 6=>v=aR #[Z I M N,Z F G H]
 | 7=>∃ s:Sl,v=eu s/\iH x B (eu s) ((om has u 7).map r5)
 | 8=>∃ s:Sl,v=aR #[U O (aC z0 1 7),U O t1,U O t2,U O q,U O r,eu s,Z aj 0 0]/\iH x B (eu s) ((om has u 7).map r5)
 | 9=>True
 | 10=>True
 | _=>True
noncomputable def afL:Code:=((Tryz.f13.body.bind (eX 14)).getD .skip)
theorem apg (Q:Exit->Act->aG->Prop) (W:aG) (S aE b1:Nat) (z0 i2 i4 z3 z4 t1 t2 T a1:Int) (I:OA) (G b6:Nat) (b2:OA) (b4 b5:Nat) (has b9:List Int) {e0 e1 u2 u3 f1 f2 u9 hF u11 bB u13 bC bE bI bM bO bP bT bW bX c6 c7 c8 c9 cA cC cD cF cG cH cI cJ cL cM cN cP cQ cR cS cT cU cV cW cX cY d0 d1 d2 d3 d4 d5 d6 d7 d8 hG hH hI hJ hK hL hM hN hO f3 f4 f5 f6 f7 f8 f9 fL fN fR fS fV fW fX fY g0 g1 g2 g3 g4 g5 g6 g7 g8 g9 gA gC gE gI gO gR gS h0 h1 e2 e3 e4 e5 e6 e7 e8 e9 eA eB eC eE eI eJ eK eL eM eN eQ eR eS eV eW f0:aJ}
  (q:dN W S #[U O z0,U O i2,U O i4,U O z3,U O z4,Z I G b6,Z b2 b4 b5] 63) (h4:-9223372036854775808<=z0/\z0<=9223372036854775807) (hY:dN W aE #[U O t1,U O t2] 23) (hZ:dN W b1 #[U O T,U O a1] 23) (h8:In.lY W (Z I G b6) has) (h9:In.lY W (Z b2 b4 b5) b9) (hA:has.length<=dn) (hC:b9.length<=dn)
  (h5:∀ (x:aG) (F:Nat) {hP hQ hR hS hT hU hV hW hX:aJ} (a6:OA) (a7 a8:Nat),W.heap.size<=F->dN x F #[U O (aC z0 1 7),U O t1,U O t2,U O T,U O a1,Z a6 a7 a8,Z aj 0 0] 43->iH x W.heap.size (Z a6 a7 a8) ((om has b9 7).map r5)->Below W.heap.size W x->Q .normal ⟨(e0::e1::u2::u3::f1::f2::ah (ak ⟨S,0,aj⟩)::ah (ak ⟨aE,0,aj⟩)::ah (ak ⟨b1,0,aj⟩)::u9::ah (ak ⟨F,0,aj⟩)::u11::bB::u13::bC::bE::bI::bM::bO::bP::bT::bW::bX::c6::c7::c8::c9::cA::cC::cD::cF::cG::cH::cI::cJ::cL::cM::cN::cP::cQ::cR::cS::cT::cU::cV::cW::cX::cY::d0::d1::d2::d3::d4::d5::d6::d7::d8::hP::hQ::hR::hS::hT::hU::hV::hW::hX::f3::f4::f5::f6::f7::f8::f9::fL::fN::fR::fS::fV::fW::fX::fY::g0::g1::g2::g3::g4::g5::g6::g7::g8::g9::gA::gC::gE::gI::gO::gR::gS::h0::h1::e2::e3::e4::e5::e6::e7::e8::e9::eA::eB::eC::eE::eI::eJ::eK::eL::eM::eN::eQ::eR::eS::eV::eW::f0::[]).toArray,[]⟩ x) :
  Code.wp au afL Q ⟨(e0::e1::u2::u3::f1::f2::ah (ak ⟨S,0,aj⟩)::ah (ak ⟨aE,0,aj⟩)::ah (ak ⟨b1,0,aj⟩)::u9::hF::u11::bB::u13::bC::bE::bI::bM::bO::bP::bT::bW::bX::c6::c7::c8::c9::cA::cC::cD::cF::cG::cH::cI::cJ::cL::cM::cN::cP::cQ::cR::cS::cT::cU::cV::cW::cX::cY::d0::d1::d2::d3::d4::d5::d6::d7::d8::hG::hH::hI::hJ::hK::hL::hM::hN::hO::f3::f4::f5::f6::f7::f8::f9::fL::fN::fR::fS::fV::fW::fX::fY::g0::g1::g2::g3::g4::g5::g6::g7::g8::g9::gA::gC::gE::gI::gO::gR::gS::h0::h1::e2::e3::e4::e5::e6::e7::e8::e9::eA::eB::eC::eE::eI::eJ::eK::eL::eM::eN::eQ::eR::eS::eV::eW::f0::[]).toArray,[]⟩ W:=by
 have dA:=A h5;have dC:=A q;have h3:=A h4;have i6:=A hY;have i7:=A hZ;have i8:=A h8;have i9:=A h9;have iG:=A hA;have iS:=A hC;clear h5 q h4 hY hZ h8 h9 hA hC;unfold afL
 conv=>arg 2; whnf
 have hD:∀ i,i<11->[57,58,59,60,61,62,63,64,65,10,10].getD i 0≠6:=by decide
 have kQ:∀ i,i<11->[57,58,59,60,61,62,63,64,65,10,10].getD i 0≠7:=by decide
 have l0:∀ i,i<11->[57,58,59,60,61,62,63,64,65,10,10].getD i 0≠8:=by decide
 refine Rg.xq 11 9 10 8 (fun i=>[57,58,59,60,61,62,63,64,65,10,10].getD i 0) (fun i=>if i=7 then 8 else 11) (alG W.heap.size S aE b1 z0 i2 i4 z3 z4 t1 t2 T a1 I G b6 b2 b4 b5 has b9) 43 #[U O 0,U O 0,U O 0,U O 0,U O 0,Z aj 0 0,Z aj 0 0] (fun v=>match v with | aR c=>c | _=>#[]) (by kernel_rfl) (by kernel_rfl) rfl (by decide) (by decide) (by decide) (by decide) (by decide) (by decide) (by decide) (fun i j r dS I G h=>(by decide:∀ i,i<11->∀ j,j<11->i≠10->j≠10->[57,58,59,60,61,62,63,64,65,10,10].getD i 0=[57,58,59,60,61,62,63,64,65,10,10].getD j 0->i=j) i r j dS I G h) (fun i r=>(by decide:∀ i,i<11->[57,58,59,60,61,62,63,64,65,10,10].getD i 0<124) i r) ?_ ?_ ?_ ?_ ?_ ?_
 ·intro i v x nF r h N;rcases (by omega:i=0\/i=1\/i=2\/i=3\/i=4\/i=5\/i=6\/i=7\/i=8\/i=9\/i=10) with rfl|rfl|rfl|rfl|rfl|rfl|rfl|rfl|rfl|rfl|rfl
  ·exact h
  ·exact h
  ·exact h
  ·exact h
  ·exact h
  ·exact h
  ·exact h
  ·obtain⟨s,I,G⟩:=h; exact⟨s,I,Bk.dK G N⟩
  ·obtain⟨s,I,G⟩:=h; exact⟨s,I,Bk.dK G N⟩
  ·exact h
  ·exact h
 ·intro o H;cases H;exact⟨⟨⟨9,.data⟩,by simp,rfl,rfl⟩,⟨⟨8,.data⟩,by simp,rfl,rfl⟩⟩
 ·intro i o r n6 n2 H a x N seen K M;clear dA;rcases (by omega:i=0\/i=1\/i=2\/i=3\/i=4\/i=5\/i=6\/i=7\/i=8) with rfl|rfl|rfl|rfl|rfl|rfl|rfl|rfl|rfl
  ·cases H;have dE:a.eval (aI 6)=ah (ak ⟨S,0,aj⟩):=seen.kp 6 _ hD rfl;exact aS rfl rfl (dw a.eval _ 63 (aI 6) 0 rfl (by rw [dE]; simp [go_sem])) (M _ x rfl (aB _ _))
  ·cases H;have j3:a.eval (aI 57)=ah (ak ⟨S,0,aj⟩):=seen.at_ ⟨0,.data⟩ (by simp) rfl (by decide) (by decide) (aN (by decide));have b8:=(dC.o.on N).cell 0;simp only [aD,aF] at b8;exact aS rfl rfl (cK a.eval _ 3 (aI 57) rfl (by rw [j3]; simp [go_sem,b8])) (M _ x rfl (aB _ _))
  ·cases H;have j4:a.eval (aI 58)=U O z0:=seen.at_ ⟨1,.data⟩ (by simp) rfl (by decide) (by decide) (aN (by decide));exact dH rfl rfl (Rg.Es a.eval _ (aI 58) (.const (U O 1)) (.const (U O 7)) 3 14 rfl j4 rfl rfl rfl _ (gB cO rfl rfl _ _)) (Wi.iM z0 1 7 x (by omega) (by omega) (by omega) h3.o.1 h3.o.2) fun e w1 h=>by
    obtain⟨rfl,rfl⟩:=h;exact⟨_,rfl,M _ _ rfl (aB _ _)⟩
  ·cases H;have jB:a.eval (aI 7)=ah (ak ⟨aE,0,aj⟩):=seen.kp 7 _ kQ rfl;obtain⟨b8,h2⟩:=(i6.o.on N).cs2;exact aS rfl rfl (cK a.eval _ 23 (aI 7) rfl (by rw [jB]; simp [go_sem,b8,h2])) (M _ x rfl (aB _ _))
  ·cases H;have jD:a.eval (aI 8)=ah (ak ⟨b1,0,aj⟩):=seen.kp 8 _ l0 rfl;obtain⟨b8,h2⟩:=(i7.o.on N).cs2;exact aS rfl rfl (cK a.eval _ 23 (aI 8) rfl (by rw [jD]; simp [go_sem,b8,h2])) (M _ x rfl (aB _ _))
  ·cases H;have dE:a.eval (aI 6)=ah (ak ⟨S,0,aj⟩):=seen.kp 6 _ hD rfl;exact aS rfl rfl (dw a.eval _ 63 (aI 6) 5 rfl (by rw [dE]; simp [go_sem])) (M _ x rfl (aB _ _))
  ·cases H;have j8:a.eval (aI 62)=ah (ak ⟨S,5,aj⟩):=seen.at_ ⟨5,.data⟩ (by simp) rfl (by decide) (by decide) (aN (by decide));have i0:=(dC.o.on N).cell 5;have i1:=(dC.o.on N).cell 6;simp only [aD,aF,aH] at i0 i1;exact aS rfl rfl (cK a.eval _ 52 (aI 62) rfl (by rw [j8]; simp [go_sem,i0,i1])) (M _ x rfl (aB _ _))
  ·cases H;have j9:a.eval (aI 63)=aR #[Z I G b6,Z b2 b4 b5]:=seen.at_ ⟨6,.data⟩ (by simp) rfl (by decide) (by decide) (aN (by decide));exact dH rfl rfl (Rw.jq a.eval _ (aI 63) 52 15 rfl j9 rfl _ (gB Tryz.func15 rfl rfl _ _)) (Nw (Z I G b6) (Z b2 b4 b5) has b9 x (i8.o.on N) (i9.o.on N) iG.o iS.o) fun e w1 h=>by
    obtain⟨v,rfl,bA,l1⟩:=h;obtain⟨j0,j1,h7⟩:=(Row.dL bA).len;have hE:=dO bA N.size;rw [h7] at hE;exact⟨_,rfl,M _ _ ⟨(j0,_,j1),h7,hE⟩ l1⟩
  ·cases H;have j5:a.eval (aI 59)=U O (aC z0 1 7):=seen.at_ ⟨2,.data⟩ (by simp) rfl (by decide) (by decide) (aN (by decide));have j6:a.eval (aI 60)=aR #[U O t1,U O t2]:=seen.at_ ⟨3,.data⟩ (by simp) rfl (by decide) (by decide) (aN (by decide));have j7:a.eval (aI 61)=aR #[U O T,U O a1]:=seen.at_ ⟨4,.data⟩ (by simp) rfl (by decide) (by decide) (aN (by decide));have i5:=seen.at_ ⟨7,.data⟩ (by simp) rfl (by decide) (by decide) (Or.inl rfl);obtain⟨s,dZ,bA⟩:=i5;have dZ:a.eval (aI 64)=eu s:=dZ;exact aS rfl rfl (Rg.jd a.eval _ 43 #[(0,aI 59),(1,aI 60),(2,aI 61),(3,aI 64)] rfl (ps:=#[(0,U O (aC z0 1 7)),(1,aR #[U O t1,U O t2]),(2,aR #[U O T,U O a1]),(3,eu s)]) (by simp only [bF,bS,bU,j5,j6,j7,dZ]) (by simp [go_sem])) (M _ x ⟨s,rfl,bA⟩ (aB _ _))
 ·intro o H a x K M;cases H;exact aS rfl rfl (Rg.zA a.eval _ 43 rfl (by simp [go_sem])) M
 ·intro o H a x F v D n4 k8 N k6 k7 d9 a2 b7 K M;clear dA;cases H;obtain⟨⟨a6,a7,a8⟩,dT,h6⟩:=d9;subst dT;obtain⟨mV,mW,mX,mY,mZ,n0,n1⟩:=b7.oz;obtain⟨jI,jV,jY,k0,k1,k2,k3⟩:=b7.fs7;have kE:(Instr.storeAt 43 (ah (ak ⟨F,0,aj⟩)) (aR #[U O (aC z0 1 7),U O t1,U O t2,U O T,U O a1,Z a6 a7 a8,Z aj 0 0])).run au x=.ok () (((((((x.setCell ⟨F,0,aj⟩ (U O (aC z0 1 7))).setCell ⟨F,1,aj⟩ (U O t1)).setCell ⟨F,2,aj⟩ (U O t2)).setCell ⟨F,3,aj⟩ (U O T)).setCell ⟨F,4,aj⟩ (U O a1)).setCell ⟨F,5,aj⟩ (Z a6 a7 a8)).setCell ⟨F,6,aj⟩ (Z aj 0 0)):=by simp [go_sem,mV,mW,mX,mY,mZ,n0,n1,jI,jV,jY,k0,k1,k2,k3]
  have j2:=eD (k:=6) (eD (k:=5) (eD (k:=4) (eD (k:=3) (eD (k:=2) (eD (k:=1) (eD (k:=0) b7 (U O (aC z0 1 7))) (U O t1)) (U O t2)) (U O T)) (U O a1)) (Z a6 a7 a8)) (Z aj 0 0);have kK:But F x (((((((x.setCell ⟨F,0,aj⟩ (U O (aC z0 1 7))).setCell ⟨F,1,aj⟩ (U O t1)).setCell ⟨F,2,aj⟩ (U O t2)).setCell ⟨F,3,aj⟩ (U O T)).setCell ⟨F,4,aj⟩ (U O a1)).setCell ⟨F,5,aj⟩ (Z a6 a7 a8)).setCell ⟨F,6,aj⟩ (Z aj 0 0)):=(((((((eH _ F _ _).trans (eH _ F _ _)).trans (eH _ F _ _)).trans (eH _ F _ _)).trans (eH _ F _ _)).trans (eH _ F _ _)).trans (eH _ F _ _));refine Rg.gq 43 (aI 10) (aI 65) rfl rfl rfl rfl k6 k7 kE (M _ (((((((N.setCell (p:=⟨F,0,aj⟩) a2 _).setCell (p:=⟨F,1,aj⟩) a2 _).setCell (p:=⟨F,2,aj⟩) a2 _).setCell (p:=⟨F,3,aj⟩) a2 _).setCell (p:=⟨F,4,aj⟩) a2 _).setCell (p:=⟨F,5,aj⟩) a2 _).setCell (p:=⟨F,6,aj⟩) a2 _) (by simpa using j2) ?_);exact fun j u dS n7 n8 n5 kB n9 h=>by
   rcases (by omega:j=0\/j=1\/j=2\/j=3\/j=4\/j=5\/j=6\/j=7\/j=8) with rfl|rfl|rfl|rfl|rfl|rfl|rfl|rfl|rfl
   ·have G:u=ah (ak ⟨S,0,aj⟩):=h; exact G
   ·have G:u=U O z0:=h; exact G
   ·have G:u=U O (aC z0 1 7):=h; exact G
   ·have G:u=aR #[U O t1,U O t2]:=h; exact G
   ·have G:u=aR #[U O T,U O a1]:=h; exact G
   ·have G:u=ah (ak ⟨S,5,aj⟩):=h; exact G
   ·have G:u=aR #[Z I G b6,Z b2 b4 b5]:=h; exact G
   ·exact absurd (k8 ⟨8,.data⟩ (by simp) rfl) kB
   ·obtain⟨s,I,G⟩:=h; exact⟨s,I,kK.own G b7 (by decide)⟩
 ·intro a x F v df sz kp k5 n3 a2 b7 d9 k9 ⟨nB,nA⟩;obtain⟨⟨a6,a7,a8⟩,dT,h6⟩:=d9;subst dT;have k4:a.tmps[10]?=ak (ah (ak ⟨F,0,aj⟩)):=k5;have l2:∀ j,(j<10\/66<=j)->a.tmps[j]?=(e0::e1::u2::u3::f1::f2::ah (ak ⟨S,0,aj⟩)::ah (ak ⟨aE,0,aj⟩)::ah (ak ⟨b1,0,aj⟩)::u9::hF::u11::bB::u13::bC::bE::bI::bM::bO::bP::bT::bW::bX::c6::c7::c8::c9::cA::cC::cD::cF::cG::cH::cI::cJ::cL::cM::cN::cP::cQ::cR::cS::cT::cU::cV::cW::cX::cY::d0::d1::d2::d3::d4::d5::d6::d7::d8::hG::hH::hI::hJ::hK::hL::hM::hN::hO::f3::f4::f5::f6::f7::f8::f9::fL::fN::fR::fS::fV::fW::fX::fY::g0::g1::g2::g3::g4::g5::g6::g7::g8::g9::gA::gC::gE::gI::gO::gR::gS::h0::h1::e2::e3::e4::e5::e6::e7::e8::e9::eA::eB::eC::eE::eI::eJ::eK::eL::eM::eN::eQ::eR::eS::eV::eW::f0::[])[j]?:=fun j dS=>(kp j (fun i r h=>by have:=(by decide:∀ i,i<11->10<=[57,58,59,60,61,62,63,64,65,10,10].getD i 0/\[57,58,59,60,61,62,63,64,65,10,10].getD i 0<66) i r; omega)).trans aD;obtain⟨kO,kA,rfl⟩:=Rg.gG 10 56 df sz (by simp) l2
  match kO,kA with
  | l3::l4::l5::l6::l7::l8::l9::lA::lB::lD::lE::lJ::v22::lK::lL::lO::lP::lR::v28::lX::m0::m1::m2::m3::m4::m5::m6::m7::m8::m9::v40::mA::mB::mC::mD::mH::v46::mI::mK::mL::mM::v51::mN::v53::mS::mT::mU::hP::hQ::hR::hS::hT::hU::hV::hW::hX::[],_ =>
   obtain rfl:l3=ah (ak ⟨F,0,aj⟩):=J k4;obtain rfl:l4=u11:=J (kp 11 (fun i r h=>(by decide:∀ i,i<11->[57,58,59,60,61,62,63,64,65,10,10].getD i 0≠11) i r h));obtain rfl:l5=bB:=J (kp 12 (fun i r h=>(by decide:∀ i,i<11->[57,58,59,60,61,62,63,64,65,10,10].getD i 0≠12) i r h));obtain rfl:l6=u13:=J (kp 13 (fun i r h=>(by decide:∀ i,i<11->[57,58,59,60,61,62,63,64,65,10,10].getD i 0≠13) i r h));obtain rfl:l7=bC:=J (kp 14 (fun i r h=>(by decide:∀ i,i<11->[57,58,59,60,61,62,63,64,65,10,10].getD i 0≠14) i r h));obtain rfl:l8=bE:=J (kp 15 (fun i r h=>(by decide:∀ i,i<11->[57,58,59,60,61,62,63,64,65,10,10].getD i 0≠15) i r h));obtain rfl:l9=bI:=J (kp 16 (fun i r h=>(by decide:∀ i,i<11->[57,58,59,60,61,62,63,64,65,10,10].getD i 0≠16) i r h));obtain rfl:lA=bM:=J (kp 17 (fun i r h=>(by decide:∀ i,i<11->[57,58,59,60,61,62,63,64,65,10,10].getD i 0≠17) i r h));obtain rfl:lB=bO:=J (kp 18 (fun i r h=>(by decide:∀ i,i<11->[57,58,59,60,61,62,63,64,65,10,10].getD i 0≠18) i r h));obtain rfl:lD=bP:=J (kp 19 (fun i r h=>(by decide:∀ i,i<11->[57,58,59,60,61,62,63,64,65,10,10].getD i 0≠19) i r h));obtain rfl:lE=bT:=J (kp 20 (fun i r h=>(by decide:∀ i,i<11->[57,58,59,60,61,62,63,64,65,10,10].getD i 0≠20) i r h));obtain rfl:lJ=bW:=J (kp 21 (fun i r h=>(by decide:∀ i,i<11->[57,58,59,60,61,62,63,64,65,10,10].getD i 0≠21) i r h));obtain rfl:v22=bX:=J (kp 22 (fun i r h=>(by decide:∀ i,i<11->[57,58,59,60,61,62,63,64,65,10,10].getD i 0≠22) i r h));obtain rfl:lK=c6:=J (kp 23 (fun i r h=>(by decide:∀ i,i<11->[57,58,59,60,61,62,63,64,65,10,10].getD i 0≠23) i r h));obtain rfl:lL=c7:=J (kp 24 (fun i r h=>(by decide:∀ i,i<11->[57,58,59,60,61,62,63,64,65,10,10].getD i 0≠24) i r h));obtain rfl:lO=c8:=J (kp 25 (fun i r h=>(by decide:∀ i,i<11->[57,58,59,60,61,62,63,64,65,10,10].getD i 0≠25) i r h));obtain rfl:lP=c9:=J (kp 26 (fun i r h=>(by decide:∀ i,i<11->[57,58,59,60,61,62,63,64,65,10,10].getD i 0≠26) i r h));obtain rfl:lR=cA:=J (kp 27 (fun i r h=>(by decide:∀ i,i<11->[57,58,59,60,61,62,63,64,65,10,10].getD i 0≠27) i r h));obtain rfl:v28=cC:=J (kp 28 (fun i r h=>(by decide:∀ i,i<11->[57,58,59,60,61,62,63,64,65,10,10].getD i 0≠28) i r h));obtain rfl:lX=cD:=J (kp 29 (fun i r h=>(by decide:∀ i,i<11->[57,58,59,60,61,62,63,64,65,10,10].getD i 0≠29) i r h));obtain rfl:m0=cF:=J (kp 30 (fun i r h=>(by decide:∀ i,i<11->[57,58,59,60,61,62,63,64,65,10,10].getD i 0≠30) i r h));obtain rfl:m1=cG:=J (kp 31 (fun i r h=>(by decide:∀ i,i<11->[57,58,59,60,61,62,63,64,65,10,10].getD i 0≠31) i r h));obtain rfl:m2=cH:=J (kp 32 (fun i r h=>(by decide:∀ i,i<11->[57,58,59,60,61,62,63,64,65,10,10].getD i 0≠32) i r h));obtain rfl:m3=cI:=J (kp 33 (fun i r h=>(by decide:∀ i,i<11->[57,58,59,60,61,62,63,64,65,10,10].getD i 0≠33) i r h));obtain rfl:m4=cJ:=J (kp 34 (fun i r h=>(by decide:∀ i,i<11->[57,58,59,60,61,62,63,64,65,10,10].getD i 0≠34) i r h));obtain rfl:m5=cL:=J (kp 35 (fun i r h=>(by decide:∀ i,i<11->[57,58,59,60,61,62,63,64,65,10,10].getD i 0≠35) i r h));obtain rfl:m6=cM:=J (kp 36 (fun i r h=>(by decide:∀ i,i<11->[57,58,59,60,61,62,63,64,65,10,10].getD i 0≠36) i r h));obtain rfl:m7=cN:=J (kp 37 (fun i r h=>(by decide:∀ i,i<11->[57,58,59,60,61,62,63,64,65,10,10].getD i 0≠37) i r h));obtain rfl:m8=cP:=J (kp 38 (fun i r h=>(by decide:∀ i,i<11->[57,58,59,60,61,62,63,64,65,10,10].getD i 0≠38) i r h));obtain rfl:m9=cQ:=J (kp 39 (fun i r h=>(by decide:∀ i,i<11->[57,58,59,60,61,62,63,64,65,10,10].getD i 0≠39) i r h));obtain rfl:v40=cR:=J (kp 40 (fun i r h=>(by decide:∀ i,i<11->[57,58,59,60,61,62,63,64,65,10,10].getD i 0≠40) i r h));obtain rfl:mA=cS:=J (kp 41 (fun i r h=>(by decide:∀ i,i<11->[57,58,59,60,61,62,63,64,65,10,10].getD i 0≠41) i r h));obtain rfl:mB=cT:=J (kp 42 (fun i r h=>(by decide:∀ i,i<11->[57,58,59,60,61,62,63,64,65,10,10].getD i 0≠42) i r h));obtain rfl:mC=cU:=J (kp 43 (fun i r h=>(by decide:∀ i,i<11->[57,58,59,60,61,62,63,64,65,10,10].getD i 0≠43) i r h));obtain rfl:mD=cV:=J (kp 44 (fun i r h=>(by decide:∀ i,i<11->[57,58,59,60,61,62,63,64,65,10,10].getD i 0≠44) i r h));obtain rfl:mH=cW:=J (kp 45 (fun i r h=>(by decide:∀ i,i<11->[57,58,59,60,61,62,63,64,65,10,10].getD i 0≠45) i r h));obtain rfl:v46=cX:=J (kp 46 (fun i r h=>(by decide:∀ i,i<11->[57,58,59,60,61,62,63,64,65,10,10].getD i 0≠46) i r h));obtain rfl:mI=cY:=J (kp 47 (fun i r h=>(by decide:∀ i,i<11->[57,58,59,60,61,62,63,64,65,10,10].getD i 0≠47) i r h));obtain rfl:mK=d0:=J (kp 48 (fun i r h=>(by decide:∀ i,i<11->[57,58,59,60,61,62,63,64,65,10,10].getD i 0≠48) i r h));obtain rfl:mL=d1:=J (kp 49 (fun i r h=>(by decide:∀ i,i<11->[57,58,59,60,61,62,63,64,65,10,10].getD i 0≠49) i r h));obtain rfl:mM=d2:=J (kp 50 (fun i r h=>(by decide:∀ i,i<11->[57,58,59,60,61,62,63,64,65,10,10].getD i 0≠50) i r h));obtain rfl:v51=d3:=J (kp 51 (fun i r h=>(by decide:∀ i,i<11->[57,58,59,60,61,62,63,64,65,10,10].getD i 0≠51) i r h));obtain rfl:mN=d4:=J (kp 52 (fun i r h=>(by decide:∀ i,i<11->[57,58,59,60,61,62,63,64,65,10,10].getD i 0≠52) i r h));obtain rfl:v53=d5:=J (kp 53 (fun i r h=>(by decide:∀ i,i<11->[57,58,59,60,61,62,63,64,65,10,10].getD i 0≠53) i r h));obtain rfl:mS=d6:=J (kp 54 (fun i r h=>(by decide:∀ i,i<11->[57,58,59,60,61,62,63,64,65,10,10].getD i 0≠54) i r h));obtain rfl:mT=d7:=J (kp 55 (fun i r h=>(by decide:∀ i,i<11->[57,58,59,60,61,62,63,64,65,10,10].getD i 0≠55) i r h));obtain rfl:mU=d8:=J (kp 56 (fun i r h=>(by decide:∀ i,i<11->[57,58,59,60,61,62,63,64,65,10,10].getD i 0≠56) i r h));exact dA.o x F a6 a7 a8 a2 b7 h6 k9
end Av
namespace Av
open Go.RowKit Go.ChangeShapes Go.WideShapes Bk
theorem aek:Tryz.prog.cellsOf 63=7:=by kernel_rfl
theorem ael (a:dx) (m len cap:Nat) (h:m<len) (w:aG):(Instr.indexAt 48 (Z (ak a) len cap) (U O m)).run au w=.ok (ah (ak (a.add (m * 7)))) w:=by
 have j:(m:Int)<len:=by omega
 simp [go_sem,bV,j]
structure RD (W:aG) (v:aJ) (n:Nat):Prop where
 shape:∃ ao cap,v=Z ao n cap
 at_:∀ i:Nat,i<n->∃ (p:dx) (z0 z1 z2 z3 z4:Int) (h1:OA) (h2 h3:Nat) (g1:OA) (g2 g3:Nat) (has vals:List Int),p.block<W.heap.size/\(∀ w,(Instr.indexAt 48 v (U O i)).run au w=.ok (ah (ak p)) w)/\(∀ j u,([U O z0,U O z1,U O z2,U O z3,U O z4,Z h1 h2 h3,Z g1 g2 g3]:List aJ)[j]?=ak u->W.cell? (p.add j)=ak u)/\((-9223372036854775808<=z0/\z0<=9223372036854775807)/\(-9223372036854775808<=z1/\z1<=9223372036854775807)/\(-9223372036854775808<=z2/\z2<=9223372036854775807)/\(-9223372036854775808<=z3/\z3<=9223372036854775807)/\(-9223372036854775808<=z4/\z4<=9223372036854775807))/\In.lY W (Z h1 h2 h3) has/\In.lY W (Z g1 g2 g3) vals/\has.length<=dn/\vals.length<=dn
theorem RD.on {W q:aG} {v:aJ} {n:Nat} (h:RD W v n) (j:Below W.heap.size W q):RD q v n :=
 ⟨h.shape,fun i N=>by
  obtain⟨p,z0,b2,b4,z3,z4,a2,a6,a7,a8,aE,b1,has,a1,r,u,F,G,H,I,M⟩:=h.at_ i N;exact⟨p,z0,b2,b4,z3,z4,a2,a6,a7,a8,aE,b1,has,a1,bf r j.size,u,fun S T hu=>by rw [j.cell (by rw [zB]; exact r)]; exact F S T hu,G,H.on j,I.on j,M⟩⟩
end Av
namespace Fl
open Go.RowKit Go.Sort Rw YtghlpefopidlaaaGreat.Nm Pr Bk Av
theorem Un {W:aG} {b:Nat} {z0 b5 b6 z3 z4 z5 b7:aJ} (h:dN W b #[z0,b5,b6,z3,z4,z5,b7] 43) (a0 j q a3 a4:Int) (G:OA) (u c5:Nat) (H:OA) (F r:Nat) :
  (Instr.storeAt 43 (ah (ak ⟨b,0,aj⟩)) (aR #[U O a0,U O j,U O q,U O a3,U O a4,Z G u c5,Z H F r])).run au W=.ok () (I8 W b (U O a0) (U O j) (U O q) (U O a3) (U O a4) (Z G u c5) (Z H F r)):=by
 obtain⟨a6,a7,a8,aE,b1,b2,b4⟩:=h.oz;obtain⟨I,M,N,S,T,a1,a2⟩:=h.fs7;simp [go_sem,a6,a7,a8,aE,b1,b2,b4,I,M,N,S,T,a1,a2]
theorem Pt (w:aG) (b:Nat) (a0 j q a3 a4 a5 r:aJ):But b w (I8 w b a0 j q a3 a4 a5 r) :=
 (((eH _ b _ _).trans (eH _ b _ _)).trans ((eH _ b _ _).trans (eH _ b _ _))).trans (((eH _ b _ _).trans (eH _ b _ _)).trans (eH _ b _ _))
theorem CX {w W:aG} {B b:Nat} (h:Below B w W) (j:B<=b) (a0 q r a3 a4 a5 u:aJ):Below B w (I8 W b a0 q r a3 a4 a5 u) :=
 ((((((h.setCell (p:=⟨b,0,aj⟩) j a0).setCell (p:=⟨b,1,aj⟩) j q).setCell (p:=⟨b,2,aj⟩) j r).setCell (p:=⟨b,3,aj⟩) j a3).setCell (p:=⟨b,4,aj⟩) j a4).setCell (p:=⟨b,5,aj⟩) j a5).setCell (p:=⟨b,6,aj⟩) j u
def Uo (B:Nat) (j _:Nat) (q r u F:Int) (po:OA) (H G:Nat) (_:Int) (_:Bool) (p:List C5) (i:Nat) (v:aJ) (x:aG):Prop :=
 match i with
 | 0=>v=ah (ak ⟨j,0,aj⟩)
 | 1=>v=aR #[U O q,U O r]
 | 2=>v=ah (ak ⟨j,2,aj⟩)
 | 3=>v=aR #[U O u,U O F]
 | 4=>v=ah (ak ⟨j,4,aj⟩)
 | 5=>v=Z po H G
 | 6=>∃ s:Sl,v=eu s/\iH x B (eu s) p
 | 7=>∃ s:Sl,v=aR #[U O 3,U O q,U O r,U O u,U O F,eu s,Z aj 0 0]/\iH x B (eu s) p
 | _=>True
noncomputable def afM:Code:=((Tryz.f115.body.bind (eX 1)).getD .skip)
theorem abj (B:Nat) (r u:Nat) (M N S T:Int) (po:OA) (H G:Nat) (a1:Int) (a2:Bool) (p:List C5) (i:Nat) (v:aJ) (x I:aG) (h:Uo B r u M N S T po H G a1 a2 p i v x) (F:Below x.heap.size x I):Uo B r u M N S T po H G a1 a2 p i v I:=by
 by_cases a6:i<8
 ·rcases (by omega:i=0\/i=1\/i=2\/i=3\/i=4\/i=5\/i=6\/i=7) with rfl|rfl|rfl|rfl|rfl|rfl|rfl|rfl
  ·exact h
  ·exact h
  ·exact h
  ·exact h
  ·exact h
  ·exact h
  ·obtain⟨s,j,q⟩:=h; exact⟨s,j,Bk.dK q F⟩
  ·obtain⟨s,j,q⟩:=h; exact⟨s,j,Bk.dK q F⟩
 ·unfold Uo
  split <;> first | omega | trivial
theorem aph (Q:Exit->Act->aG->Prop) (W:aG) (H I:Nat) (q r F G:Int) (po:OA) (a7 a6:Nat) (b6:Int) (b7:Bool) (p:List C5) {b5 u3 bT bW u6 u7 bX u9 bP:aJ}
  (b1:dN W H #[U O q,U O r,U O F,U O G,Z po a7 a6,U O b6,bR b7] 67) (b2:dN W I #[U O 0,U O 0,U O 0,U O 0,U O 0,Z aj 0 0,Z aj 0 0] 43) (r5:fO W (Z po a7 a6) p) (bO:p.length<=900)
  (bC:∀ (x:aG) {v3 v4 v5 c7 c8 c9 v9 c6:aJ} (S:OA) (a1 a2:Nat),dN x I #[U O 3,U O q,U O r,U O F,U O G,Z S a1 a2,Z aj 0 0] 43->iH x W.heap.size (Z S a1 a2) p->(∀ B,B<=I->Below B W x)->Q .normal ⟨(b5::ah (ak ⟨H,0,aj⟩)::ah (ak ⟨I,0,aj⟩)::v3::v4::v5::c7::c8::c9::v9::c6::[]).toArray,[]⟩ x) :
  Code.wp au afM Q ⟨(b5::ah (ak ⟨H,0,aj⟩)::ah (ak ⟨I,0,aj⟩)::u3::bT::bW::u6::u7::bX::u9::bP::[]).toArray,[]⟩ W:=by
 have b9:=A bC;have a8:=A b1;have b8:=A b2;have cF:=A r5;have cD:=A bO;clear bC b1 b2 r5 bO;have cW:=abj W.heap.size H I q r F G po a7 a6 b6 b7 p;unfold afM
 conv=>arg 2; whnf
 have nd:∀ j,(j<3\/11<=j)->∀ i,i<8->(fun i=>3+i) i≠j:=by
  intro j bI i bE h;simp only at h;omega
 refine Rg.gN 9 8 (fun i=>3+i) (fun _=>8) (Uo W.heap.size H I q r F G po a7 a6 b6 b7 p) (by kernel_rfl) (by kernel_rfl) rfl (by decide) (fun i j _ _ h=>by have b2:3+i=3+j:=h; omega) (fun i bE=>by show 3+i<11; omega) ?_ (fun _=>Rg.kJ 14 (by kernel_rfl)) ?_ ?_
 ·intro i o bE N a x D d3 d2 d1 M seen K T;clear b9;rcases (by omega:i=0\/i=1\/i=2\/i=3\/i=4\/i=5\/i=6\/i=7) with rfl|rfl|rfl|rfl|rfl|rfl|rfl|rfl
  ·cases N;have aE:a.eval (aI 1)=ah (ak ⟨H,0,aj⟩):=seen.kp 1 _ (nd 1 (by omega)) rfl;exact aS rfl rfl (dw a.eval _ 67 (aI 1) 0 rfl (by rw [aE]; simp [go_sem])) (T _ _ rfl (aB _ _) fun _ _ _ _ _ _ _ h=>h)
  ·cases N;have cG:a.eval (aI 3)=ah (ak ⟨H,0,aj⟩):=seen.at_ ⟨0,.data⟩ (by simp) rfl (aN (by decide));have q:=(a8.o.on M).cell 1;have cA:=(a8.o.on M).cell 0;simp only [aD,aF,aH] at cA q;exact aS rfl rfl (cK a.eval _ 23 (aI 3) rfl (by rw [cG]; simp [go_sem,cA,q])) (T _ _ rfl (aB _ _) fun _ _ _ _ _ _ _ h=>h)
  ·cases N;have aE:a.eval (aI 1)=ah (ak ⟨H,0,aj⟩):=seen.kp 1 _ (nd 1 (by omega)) rfl;exact aS rfl rfl (dw a.eval _ 67 (aI 1) 1 rfl (by rw [aE]; simp [go_sem])) (T _ _ rfl (aB _ _) fun _ _ _ _ _ _ _ h=>h)
  ·cases N;have cI:a.eval (aI 5)=ah (ak ⟨H,2,aj⟩):=seen.at_ ⟨2,.data⟩ (by simp) rfl (aN (by decide));have r:=(a8.o.on M).cell 2;have F:=(a8.o.on M).cell 3;simp only [aD,aF,aH] at r F;exact aS rfl rfl (cK a.eval _ 23 (aI 5) rfl (by rw [cI]; simp [go_sem,r,F])) (T _ _ rfl (aB _ _) fun _ _ _ _ _ _ _ h=>h)
  ·cases N;have aE:a.eval (aI 1)=ah (ak ⟨H,0,aj⟩):=seen.kp 1 _ (nd 1 (by omega)) rfl;exact aS rfl rfl (dw a.eval _ 67 (aI 1) 2 rfl (by rw [aE]; simp [go_sem])) (T _ _ rfl (aB _ _) fun _ _ _ _ _ _ _ h=>h)
  ·cases N;have cL:a.eval (aI 7)=ah (ak ⟨H,4,aj⟩):=seen.at_ ⟨4,.data⟩ (by simp) rfl (aN (by decide));have G:=(a8.o.on M).cell 4;simp only [aD,aF,aH] at G;exact aS rfl rfl (cK a.eval _ 34 (aI 7) rfl (by rw [cL]; simp [go_sem,G])) (T _ _ rfl (aB _ _) fun _ _ _ _ _ _ _ h=>h)
  ·cases N;have cM:a.eval (aI 8)=Z po a7 a6:=seen.at_ ⟨5,.data⟩ (by simp) rfl (aN (by decide));exact dH rfl rfl (Rw.jq a.eval _ (aI 8) 34 44 rfl cM rfl _ (gB Tryz.func44 rfl rfl _ _)) (oJ (po,a7,a6) p x (cF.o.on M) cD.o) fun e w1 h=>by
    obtain⟨⟨s,rfl,b1⟩,bA⟩:=h;exact⟨_,rfl,T _ _ ⟨s,rfl,dO b1 M.size⟩ (bA.mono M.size) fun j u bI _ _ _ d4 h=>cW j u _ _ h bA⟩
  ·cases N;have cH:a.eval (aI 4)=aR #[U O q,U O r]:=seen.at_ ⟨1,.data⟩ (by simp) rfl (aN (by decide));have cJ:a.eval (aI 6)=aR #[U O F,U O G]:=seen.at_ ⟨3,.data⟩ (by simp) rfl (aN (by decide));have cC:=seen.at_ ⟨6,.data⟩ (by simp) rfl (aN (by decide));obtain⟨s,b4,S⟩:=cC;have b4:a.eval (aI 9)=eu s:=b4;exact aS rfl rfl (Rg.jd a.eval _ 43 #[(0,.const (U O 3)),(1,aI 4),(2,aI 6),(3,aI 9)] rfl (by simp only [bF,bS,bU,cH,cJ,b4]; rfl) (v:=aR #[U O 3,U O q,U O r,U O F,U O G,eu s,Z aj 0 0]) (by simp [go_sem])) (T _ _ ⟨s,rfl,S⟩ (aB _ _) fun _ _ _ _ _ _ _ h=>h)
 ·intro d5 o b1 b2 N;omega
 ·intro a w' df sz kp ⟨d6,bM⟩ M;have d0:a.tmps.size=11:=sz;have cP:a.tmps[2]?=ak (ah (ak ⟨I,0,aj⟩)):=(kp 2 (nd 2 (by omega))).trans rfl;obtain⟨⟨S,a1,a2⟩,cV,N⟩:=(bM 7 (by omega)).2 (by decide);have cN:a.tmps[10]?=ak (aR #[U O 3,U O q,U O r,U O F,U O G,Z S a1 a2,Z aj 0 0]):=((bM 7 (by omega)).1).trans (congrArg ak cV);have hB:=b8.o.on M;have cT:=b8.o.lt;show Rg.fU _ _ _ 1 8 a w';simp only [Rg.fU];refine Rg.gq 43 (aI 2) (aI 10) rfl rfl rfl rfl (Rg.dU cP) (Rg.dU cN) (w':=I8 w' I (U O 3) (U O q) (U O r) (U O F) (U O G) (Z S a1 a2) (Z aj 0 0)) (Un hB _ _ _ _ _ _ _ _ _ _ _) ?_;have cR:=Az hB (U O 3) (U O q) (U O r) (U O F) (U O G) (Z S a1 a2) (Z aj 0 0);have cQ:=Pt w' I (U O 3) (U O q) (U O r) (U O F) (U O G) (Z S a1 a2) (Z aj 0 0);have cY:∀ j,(j<3\/11<=j)->(a).tmps[j]?=(b5::ah (ak ⟨H,0,aj⟩)::ah (ak ⟨I,0,aj⟩)::u3::bT::bW::u6::u7::bX::u9::bP::[])[j]?:=fun j bI=>(kp j (nd j (by omega))).trans aD;obtain⟨cX,cU,cS⟩:=Rg.gG (a:=a) 3 8 df (by simp [d0]) (by simp) cY;show Q .normal (a) _;rw [cS]
  match cX,cU with
  | [v3,v4,v5,c7,c8,c9,v9,c6],_ =>
   exact b9.o _ S a1 a2 cR (cQ.own N hB (by decide)) (fun B bB=>CX (M.mono (dD (Nat.lt_of_le_of_lt bB cT))) bB _ _ _ _ _ _ _)
theorem J4 (z:iY) (p:List C5) (w:aG) (b1:fO w (eu z.2.2.2.2.1) p) (bA:p.length<=900) :
  cB au 115 #[qd z] w fun e w'=>(∃ s:Sl,e=aQ (aR #[U O 3,U O z.1,U O z.2.1,U O z.2.2.1,U O z.2.2.2.1,eu s,Z aj 0 0])/\iH w' w.heap.size (eu s) p)/\Below w.heap.size w w':=by
 obtain⟨j,q,r,u,⟨po,G,F⟩,H,I⟩:=z;obtain⟨N,a2,a6⟩:=gX w #[U O j,U O q,U O r,U O u,Z po G F,U O H,bR I] #[U O 0,U O 0,U O 0,U O 0,U O 0,Z aj 0 0,Z aj 0 0] 67 43;have M:=A N;have T:=A a2;have a1:=A a6;have S:=A (b1.on N);clear N a2 a6 b1;show cB au 115 #[aR #[U O j,U O q,U O r,U O u,Z po G F,U O H,bR I]] w _;go_enter Tryz.func115,Tryz.ntmps115;go_upto_region 1 with fail;generalize (w.alloc (bG #[U O j,U O q,U O r,U O u,Z po G F,U O H,bR I] 67)).alloc (bG #[U O 0,U O 0,U O 0,U O 0,U O 0,Z aj 0 0,Z aj 0 0] 43)=W at *;refine aph _ W w.heap.size (w.heap.size+1) j q r u po G F H I p T.o a1.o S.o bA ?_;intro x v3 v4 v5 b6 bI bM v9 bE b2 b4 b5 a8 aE a7;have b7:=A a8;have b9:=A (dO aE M.o.size);have b8:=A (M.o.trans (a7 w.heap.size (by omega)));clear a8 aE a7 M T a1 S;go_wp2_with fail;obtain⟨v0,bB,bC,v3,v4,v5,b6⟩:=b7.o.oz;refine bodyPost_ret (v:=aR #[U O 3,U O j,U O q,U O r,U O u,Z b2 b4 b5,Z aj 0 0]) (by simp [results,Tryz.results115,go_sem,v0,bB,bC,v3,v4,v5,b6]) rfl ?_;exact⟨⟨(b2,b4,b5),rfl,b9.o⟩,b8.o⟩
theorem mq.app {W r:aG} {B:Nat} {v:aJ} {l:List nu} {b:Br} {F av H u G:Sl} (N:kF W B v l) (j:W.grownBy r v.ownBlock) (h:mq W b F av H u G):mq r b F av H u G:=by
 rcases gD N with⟨q,_⟩|⟨g,c,cur,q,_,I,_⟩
 ·rw [q] at j;exact h.on ((aB _ _).grown j (dG _) (fun S M=>by cases M))
 ·rw [q] at j;exact h.uO (Bq (b:=g) j) I (by decide) (by decide) (by decide) (by decide) (by decide) (by decide)
end Fl
namespace Rg
open Go.RowKit Rw Av
structure afN (i N S:Nat) (d last:Nat->Nat) (V:Nat->aJ->aG->Prop) (base:Act) (o:Oper) (a:Act) (x:aG):Prop where
 kp:∀ j u,(∀ i,i<N->d i≠j)->base.tmps[j]?=ak u->a.eval (aI j)=u
 at_:∀ e∈o.after,aZ .any e=aW->e.on≠S->(last e.on=i\/N<=last e.on)->V e.on (a.eval (aI (d e.on))) x
def Sto (b:Nat) (W x:aG):Prop:=But b W x/\∀ B,B<=b->Below B W x
theorem Sto.grow {b:Nat} {W x r:aG} (h:Sto b W x) (u:b<W.heap.size) (j:Below x.heap.size x r):Sto b W r :=
 ⟨⟨fun k q F=>(j.block k (bf q h.1.2)).trans (h.1.1 k q F),bH h.1.2 j.size⟩,fun B hB=>(h.2 B hB).trans (j.mono (bH (bH hB (dD u)) h.1.2))⟩
structure InY (l:List Oper) (N S C:Nat) (d last:Nat->Nat) (V:Nat->aJ->aG->Prop) (t:dh) (bb:Nat) (old:Array aJ) (XH:aJ->Array aJ) (base:Act) (W:aG) (L:Array Bool) (a:Act) (x:aG):Prop where
 cl:∀ i o,done L i->l[i]?=ak o->∀ e∈o.after,aZ .any e=aW->done L e.on
 no:∀ i,N<=i->¬ done L i
 df:a.defers=base.defers
 sz:a.tmps.size=base.tmps.size
 kp:∀ j,(∀ i,i<N->d i≠j)->a.tmps[j]?=base.tmps[j]?
 sto:Sto bb W x
 val:∃ vs:Nat->aJ,∀ i,i<N->i≠S->done L i->a.tmps[d i]?=ak (vs i)/\(¬ done L (last i)->V i (vs i) x)
 box:¬ done L S->Below W.heap.size W x/\dN x bb old t
 fin:done L S->∃ v,a.tmps[d C]?=ak v/\dN x bb (XH v) t/\V C v x
theorem J5 {P:Program} {Q:Exit->Act->aG->Prop} {id:Nat} {base:Act} {W:aG} {l:List Oper} (N S C:Nat) (d T:Nat->Nat) (V:Nat->aJ->aG->Prop) (bB:Nat->Bool) (t:dh) (a1:Nat) (c8:Array aJ) (cA:aJ->Array aJ)
  (e0:P.follows .mixedOrders=aW) (cN:Qq l.toArray=aW) (eQ:l.length=N) (eR:S<N) (b5:C<N) (bI:C≠S) (cP:N<=T C) (cS:dN W a1 c8 t)
  (dS:∀ i j,i<N->j<N->i≠S->j≠S->d i=d j->i=j) (e9:∀ i,i<N->i≠S->d i<base.tmps.size)
  (cL:∀ i v x G,i<N->V i v x->Below x.heap.size x G->V i v G)
  (bX:∀ o,l[S]?=ak o->∀ i,i<N->i≠S->bB i=bD->∃ e∈o.after,aZ .any e=aW/\e.on=i) (cH:bB C=bD)
  (e7:∀ i o,i<N->i≠S->l[i]?=ak o->∀ a x,(bB i=bD->Below W.heap.size W x/\dN x a1 c8 t)->afN i N S d T V base o a x->∀ K:Act->aG->Prop,(∀ v G,V i v G->Below x.heap.size x G->K (a.put (ak (d i)) v) G)->wpOp P l.toArray Q i K a x)
  (e5:∀ o,l[S]?=ak o->∀ a x v,Below W.heap.size W x->dN x a1 c8 t->a.eval (aI (d C))=v->V C v x->(∀ j u,base.tmps[j]?=ak u->(∀ i,i<N->d i≠j)->a.eval (aI j)=u)->∀ K:Act->aG->Prop,(∀ G,But a1 x G->(∀ B w,B<=a1->Below B w x->Below B w G)->dN G a1 (cA v) t->(∀ j u,j<N->j≠S->N<=T j->V j u x->V j u G)->K a G)->wpOp P l.toArray Q S K a x)
  (dZ:∀ j,j<N->j≠S->N<=T j\/(T j<N/\T j≠S/\bB (T j)=bD))
  (dA:∀ a x v,a.defers=base.defers->a.tmps.size=base.tmps.size->(∀ j,(∀ i,i<N->d i≠j)->a.tmps[j]?=base.tmps[j]?)->a.tmps[d C]?=ak v->dN x a1 (cA v) t->V C v x->Sto a1 W x->(∃ a6:Nat->aJ,∀ i,i<N->i≠S->a.tmps[d i]?=ak (a6 i)/\(N<=T i->V i (a6 i) x))->Q .normal a x):(Code.region id l.toArray aW).wp P Q base W:=by
 have d8:a1<W.heap.size:=cS.lt;refine qX (fun L a x=>InY l N S C d T V t a1 c8 cA base W L a x) e0 cN ?_ ?_ ?_
 ·exact⟨fun i o h=>absurd h (gQ _ _),fun i _=>gQ _ _,rfl,rfl,fun _ _=>rfl,⟨⟨fun _ _ _=>rfl,dG _⟩,fun B hB=>(aB _ _).drew⟩,⟨fun _=>.bool aW,fun i _ _ h=>absurd h (gQ _ _)⟩,fun _=>⟨(aB _ _).drew,cS⟩,fun h=>absurd h (gQ _ _)⟩
 ·intro L a x i o eS I a8 c6 c7;have cG:i<l.length:=(aK.1 a8).1;have bM:i<N:=by omega
  have c9:i<L.size:=by omega
  obtain⟨a6,b7⟩:=I.val;obtain⟨b8,bO⟩:∃ b8,l[S]?=ak b8:=⟨_,ay (by omega)⟩;have e6:∀ e∈o.after,aZ .any e=aW->e.on<i:=fun e b1 F=>by
   have bT:=bZ.1 cN i (List.mem_range.2 (by simpa using cG));have e4:(l.toArray)[i]?=ak o:=by simpa using a8
   rw [e4] at bT;have bW:=Array.all_eq_true'.1 bT e b1;rw [F] at bW;simpa using bW
  have b9:∀ {k},k≠i->done (L.setIfInBounds i aW) k->done L k:=fun {k} h a2=>((iJ c9 k).1 a2).resolve_left h;have bA:∀ {k},done L k->done (L.setIfInBounds i aW) k:=fun {k} h=>(iJ c9 k).2 (aN h);have cI:∀ k q,done (L.setIfInBounds i aW) k->l[k]?=ak q->∀ e∈q.after,aZ .any e=aW->done (L.setIfInBounds i aW) e.on:=fun k q r cR e b1 F=>by
   by_cases cJ:k=i
   ·subst cJ;rw [cR] at a8;cases a8;exact bA (c7 e b1 F)
   ·exact bA (I.cl k q (b9 cJ r) cR e b1 F)
  have cT:∀ k,N<=k->¬ done (L.setIfInBounds i aW) k:=fun k r h=>I.no k r (b9 (by omega) h);have d1:∀ k,k<N->k≠S->bB k=bD->¬ done L k->¬ done L S:=fun k r M dE e2 d9=>by
   obtain⟨e,aE,H,bC⟩:=bX b8 bO k r M dE;exact e2 (bC ▸ I.cl S b8 d9 bO e aE H)
  by_cases a7:i=S
  ·subst a7;have bP:done L C:=by
    obtain⟨e,aE,H,bC⟩:=bX o a8 C b5 bI cH;exact bC ▸ c7 e aE H
   obtain⟨cW,eM⟩:=b7 C b5 bI bP;have cX:=eM (I.no _ cP);obtain⟨b4,cC⟩:=I.box c6;refine e5 o a8 a x (a6 C) b4 cC (dU cW) cX (fun j u hu b6=>dU (by rw [I.kp j b6]; exact hu)) _ (fun G cU eJ eK cV=>⟨cI,cT,I.df,I.sz,I.kp,⟨⟨fun k r cQ=>(cU.1 k (bf r b4.size) cQ).trans (I.sto.1.1 k r cQ),bH b4.size cU.2⟩,fun B hB=>eJ B W hB (I.sto.2 B hB)⟩,⟨a6,fun k r M cF=>?_⟩,fun e1=>absurd ((iJ c9 _).2 (Or.inl rfl)) e1,fun _=>⟨a6 C,cW,eK,?_⟩⟩)
   ·obtain⟨w1,eN⟩:=b7 k r M (b9 M cF);refine⟨w1,fun e3=>?_⟩;rcases dZ k r M with a2|⟨a2,bE,bT⟩
    ·exact cV k _ r M a2 (eN (I.no _ a2))
    ·exfalso;obtain⟨e,d3,d4,d5⟩:=bX o a8 (T k) a2 bE bT;exact e3 (bA (d5 ▸ c7 e d3 d4))
   ·exact cV C _ b5 bI cP cX
  ·have seen:afN i N S d T V base o a x:=⟨fun j u b6 hu=>dU (by rw [I.kp j b6]; exact hu),fun e b1 F d7 b2=>by
    obtain⟨aE,H⟩:=b7 e.on (by have:=e6 e b1 F; omega) d7 (c7 e b1 F);rw [dU aE];refine H ?_;rcases b2 with b2|b2
    ·rw [b2]; exact c6
    ·exact I.no _ b2⟩
   refine e7 i o bM a7 a8 a x (fun dC=>I.box (d1 i bM a7 dC c6)) seen _ (fun v G e8 F=>?_);have eL:(a.put (ak (d i)) v).tmps[d i]?=ak v:=by
    have a2:d i<a.tmps.size:=by rw [I.sz]; exact e9 i bM a7
    simp [Act.put,a2]
   have keep:∀ k,k<N->k≠S->k≠i->(a.put (ak (d i)) v).tmps[d k]?=a.tmps[d k]?:=fun k r M dT=>get_put _ _ _ _ (fun e=>dT (dS _ _ r bM M a7 e));refine⟨cI,cT,I.df,by rw [size_put]; exact I.sz,fun j b6=>?_,I.sto.grow d8 F,⟨fun k=>if k=i then v else a6 k,fun k r M cF=>?_⟩,fun H=>?_,fun aE=>?_⟩
   ·rw [get_put _ _ _ _ (fun e=>b6 i bM e.symm)];exact I.kp j b6
   ·by_cases e:k=i
    ·subst e;simp only [if_true];exact⟨eL,fun _=>e8⟩
    ·simp only [if_neg e];obtain⟨bC,cD⟩:=b7 k r M (b9 e cF);exact⟨by rw [keep k r M e]; exact bC,fun bE=>cL k _ _ _ r (cD (fun h=>bE (bA h))) F⟩
   ·obtain⟨b4,cC⟩:=I.box (fun h=>H (bA h));exact⟨b4.trans (F.mono b4.size),cC.on F⟩
   ·have H:=b9 (Ne.symm a7) aE;obtain⟨u,bE,bW,d6⟩:=I.fin H;obtain⟨d2,eC,eE,eI⟩:=bX b8 bO C b5 bI cH;have bP:=I.cl S b8 H bO d2 eC eE;rw [eI] at bP;have d0:C≠i:=fun e=>c6 (e ▸ bP);exact⟨u,by rw [keep C b5 bI d0]; exact bE,bW.on F,cL C _ _ _ b5 d6 F⟩
 ·intro L a x I cM;have cY:=cM S (by omega);obtain⟨v,H,cD,a2⟩:=I.fin cY;obtain⟨a6,b7⟩:=I.val;exact dA a x v I.df I.sz I.kp H cD a2 I.sto ⟨a6,fun i cG a7=>by
   obtain⟨eA,eB⟩:=b7 i cG a7 (cM i (by omega));exact⟨eA,fun b2=>eB (I.no _ b2)⟩⟩
end Rg
namespace Rt
open Go.RowKit Go.Sort Rw YtghlpefopidlaaaGreat.Nm Pr Bk Av Sb
theorem RI {w:aG} {B g n cap k:Nat} {l:List mP} (a6:nO w B (Z (ak ⟨g,0,aj⟩) n cap) l) (bB:k<n) (a8:dh) :
  ∃ w',(Builtin.append_ #[28,28] a8 #[Z (ak ⟨g,0,aj⟩) k cap,Z (ak (if cap=k+1 then ⟨g,0,aj⟩ else ⟨g,(k+1) * 3,aj⟩)) (n-(k+1)) (cap-(k+1))]).run au w=.ok (Z (ak ⟨g,0,aj⟩) (n-1) cap) w' /\
   nO w' B (Z (ak ⟨g,0,aj⟩) n cap) (cutAt l k++l.drop (n-1))/\But g w w'/\(∀ B' W,B'<=g->Below B' W w->Below B' W w'):=by
 have F:l.length=n:=gP a6;rcases gD a6 with⟨I,_⟩|⟨b1,aE,cur,I,b2,M,T,b4,N,u⟩
 ·cases I
 ·obtain⟨rfl,_,rfl⟩:g=b1/\n=l.length/\cap=aE:=by simpa using I
  obtain⟨i,bA,bC,i3,bE⟩:=okW.info;have j:EW.n=3:=rfl;have G:i.size=3:=i3;rw [F] at T u;rw [j] at N u;have a1:(l.drop (k+1)).length=n-(k+1):=by rw [aT,F]
  have q:(flat EW (l.drop (k+1))).length=(n-(k+1)) * 3:=by rw [eO okW,a1,j]
  have b9:cur.toList.length=cap * 3:=by rw [Array.length_toList]; exact N
  have b6:∀ r H,(flat EW (l.drop (k+1)))[r]?=ak H->w.cell? ((if cap=k+1 then (⟨g,0,aj⟩:dx) else ⟨g,(k+1) * 3,aj⟩).add r)=ak H:=fun r H a2=>by
   have b7:=(aK.1 a2).1;rw [q] at b7;rw [if_neg (by omega)];exact zm okW M (by rw [F,j]; exact u) (k+1) r H a2
  have a7:=run_append_room (P:=au) w 28 a8 88 i okW.hu bA g k cap cur M _ (n-(k+1)) (cap-(k+1)) (flat EW (l.drop (k+1))) (by rw [q,G]) b6 (oH okW _) (by omega) (by rw [q,G,N]; omega);rw [show k+(n-(k+1))=n-1 by omega] at a7;refine⟨_,a7,pF okW ?_ b2 (dN.set M _) T b4 ?_ ?_,⟨fun r _ b8=>setRow_other w g r _ b8,by simp⟩,fun B' W hB b5=>Rw.below_setRow b5 hB _⟩
  ·rw [aL,aT];unfold cutAt;rw [aL,aU,a1,F];omega
  ·rw [List.size_toArray,aL,aL,aU,aT,q,b9,G,j];omega
  ·have t1:cur.toList.take (k * 3)=flat EW (l.take k):=by
    rw [<- qK okW,<- u,List.take_take,j,Nat.min_eq_left (by omega)]
   have t2:(cur.toList.drop ((n-1) * 3)).take 3=flat EW (l.drop (n-1)):=by
    rw [<- Au okW,<- u,j,List.drop_take,show n * 3-(n-1) * 3=3 by omega]
   rw [G,j,q,show k * 3+(n-(k+1)) * 3=(n-1) * 3 by omega,t1];have S:(flat EW (l.take k)++flat EW (l.drop (k+1))).length=(n-1) * 3:=by
    rw [aL,q,eO okW,aU,j,F];omega
   rw [List.take_append,S,List.take_of_length_le (by rw [S]; omega),show n * 3-(n-1) * 3=3 by omega,t2];unfold cutAt;rw [gM,gM]
theorem Xf {l:List mP} {n k:Nat} (j:l.length=n) (q:k<n):(cutAt l k++l.drop (n-1)).take (n-1)=cutAt l k:=by
 have h:(cutAt l k).length=n-1:=by
  unfold cutAt;rw [aL,aU,aT,j];omega
 rw [<- h,List.take_left]
theorem aeo (a:dx) (f e len cap:Nat) (h:f<=e) (G:e<=len) (q:len<=cap) (w:aG):(Instr.sliceAt 28 (Z (ak a) len cap) (ak (U O f)) (ak (U O e)) (ak (U O len))).run au w=.ok (Z (ak (if len=f then a else a.add (f * 3))) (e-f) (len-f)) w:=by
 obtain⟨i,H,I,i3,M⟩:=okW.info;have F:Tryz.prog.info? 88=ak i:=H;have u:Tryz.prog.underlying 28=ak (.slice 88):=okW.hu;have j:i.size=3:=i3;by_cases r:len=f
 ·subst r;obtain rfl:e=len:=by omega
  simp [go_sem,u,sizeOf,typeInfo,F,j,q]
 ·simp [go_sem,u,sizeOf,typeInfo,F,j,r,h,G,q]
theorem abr (B g n cap k:Nat) (l:List mP) (w:aG) (j:nO w B (Z (ak ⟨g,0,aj⟩) n cap) l) (S:k<n) (bC:n<=1000) :
  cB au 47 #[Z (ak ⟨g,0,aj⟩) n cap,U O k,U O ((k:Int)+1)] w fun e w'=>e=aQ (Z (ak ⟨g,0,aj⟩) (n-1) cap) /\
   nO w' B (Z (ak ⟨g,0,aj⟩) (n-1) cap) (cutAt l k)/\But g w w'/\(∀ B' W,B'<=g->Below B' W w->Below B' W w'):=by
 have F:l.length=n:=gP j;have b9:n<=cap:=by
  rcases gD j with⟨u,_⟩|⟨b6,b5,cur,u,_,_,N,_⟩
  ·cases u
  ·obtain⟨_,_,rfl⟩:g=b6/\n=l.length/\cap=b5:=by simpa using u
   rw [F] at N;exact N
 have s3:=fun w=>aeo ⟨g,0,aj⟩ k (k+1) n cap (by omega) (by omega) b9 w;rw [show (((k+1:Nat):Int))=(k:Int)+1 by omega] at s3;have s1:∀ w,(Instr.sliceAt 28 (Z (ak ⟨g,0,aj⟩) n cap) aj (ak (U O k)) aj).run au w=.ok (Z (ak ⟨g,0,aj⟩) k cap) w:=fun w=>kI okW ⟨g,0,aj⟩ k n cap (by omega) w;have s2:∀ w,(Instr.sliceAt 28 (Z (ak ⟨g,0,aj⟩) n cap) (ak (U O ((k:Int)+1))) aj aj).run au w=.ok (Z (ak (if cap=k+1 then ⟨g,0,aj⟩ else ⟨g,(k+1) * 3,aj⟩)) (n-(k+1)) (cap-(k+1))) w:=fun w=>by
  have h:=zi okW ⟨g,0,aj⟩ (k+1) n cap (by omega) w;rw [show (((k+1:Nat):Int))=(k:Int)+1 by omega,mO] at h;exact h
 have bE:((k:Int) == (k:Int)+1)=bD:=by simp; omega
 obtain⟨w1,r,a7,I,a2⟩:=RI (Bk.dK j (aB _ _).drew) S 28;obtain⟨p,T⟩:∃ p:dx,(if cap=k+1 then (⟨g,0,aj⟩:dx) else ⟨g,(k+1) * 3,aj⟩)=p:=⟨_,rfl⟩;obtain⟨q,a1⟩:∃ p:dx,(if n=k then (⟨g,0,aj⟩:dx) else (⟨g,0,aj⟩:dx).add (k * 3))=p:=⟨_,rfl⟩;rw [T] at s2 r;rw [a1] at s3;obtain⟨m,b8⟩:∃ m,n=m+1:=⟨n-1,by omega⟩;obtain⟨H,aE,G,M,a6⟩:=Jw okW (by decide) a7 (show n-1<n by omega) 0;rw [Xf F S] at G;have b4:=A G;have b1:=A (show But g w H from ((But.of_below (aB w.heap.size w).drew).trans I).trans M);have b2:=A (show ∀ B' W,B'<=g->Below B' W w->Below B' W H from fun B' W hB b7=>a6 B' W hB (a2 B' W hB b7.drew));have a8:(Builtin.clear_ #[28] 0 #[Z (ak ⟨g,(n-1) * 3,aj⟩) (n-(n-1)) (cap-(n-1))]).run au w1=.ok (.tuple #[]) H:=aE;clear T a1 a7 I a2 G M a6 j F;generalize n-(k+1)=bA at s2 r;generalize cap-(k+1)=bB at s2 r;generalize k+1-k=bI at s3;generalize n-k=bM at s3;rw [show n-(n-1)=1 by omega] at a8;clear aE;subst b8;rw [Nat.add_sub_cancel] at *;go_enter Tryz.func47,Tryz.ntmps47;go_wp2
 go_region_law (refine fC rfl (aI 22) (aI 25) 28 rfl (v:=Z (ak ⟨g,0,aj⟩) k cap) (xv:=Z (ak p) bA bB) rfl rfl r ?_)
 all_goals simp only [Exit.then]
 all_goals apply_assumption
 all_goals
  go_wp2_with (first | (at_builtin; refine Bl rfl _ _ rfl rfl a8 ?_) | fail);go_ret;exact⟨rfl,b4.o,b1.o,b2.o⟩
end Rt
namespace Fl
open Go.RowKit Go.Sort Rw YtghlpefopidlaaaGreat.Nm Pr Bk
theorem Pv (W:aG):At.U0 W (Z aj 0 0) []:=Or.inl ⟨rfl,rfl⟩
theorem abt (k c d g h:Int) (po:OA) (u r:Nat) (H:OA) (G F:Nat) (p:List C5) (w:aG) (b1:fO w (Z po u r) p) (b2:fO w (Z H G F) p) (b7:p.length<=1000) :
  cB au 65 #[aR #[U O k,U O c,U O d,U O g,U O h,Z po u r,Z aj 0 0],aR #[U O k,U O c,U O d,U O g,U O h,Z H G F,Z aj 0 0]] w fun e w'=>e=aQ (bR aW)/\Below w.heap.size w w':=by
 obtain⟨q,a1,a2⟩:=gX w #[U O k,U O c,U O d,U O g,U O h,Z po u r,Z aj 0 0] #[U O k,U O c,U O d,U O g,U O h,Z H G F,Z aj 0 0] 43 43;have I:=A q;have N:=A a1;have S:=A a2;have c7:=uL c d c d aW (by simp);have c8:=uL g h g h aW (by simp);have a7:=A (fun w' (j:Below _ _ w')=>xg _ _ p p w' ((b1.on q).on j) ((b2.on q).on j) (by omega) (by omega));have b5:=A (show kC p p=aW from (tF p p).2 rfl);clear q a1 a2 b1 b2 b7;go_enter Tryz.func65,Tryz.ntmps65;go_upto_region 1 with fail;generalize (w.alloc (bG #[U O k,U O c,U O d,U O g,U O h,Z po u r,Z aj 0 0] 43)).alloc (bG #[U O k,U O c,U O d,U O g,U O h,Z H G F,Z aj 0 0] 43)=W at *;obtain⟨b8,b9,bA,bB,bC,bE,bI⟩:=N.o.oz;obtain⟨bM,bO,bP,bT,bW,bX,c6⟩:=S.o.oz;go_wp2_with fail;refine (a7.o _ (aB _ _)).mono ?_;rw [b5.o];rintro c9 T ⟨rfl,j⟩;have M:=A (I.o.trans (j.mono I.o.size));have a8:=N.o.on j;have aE:=S.o.on j;have c4:=a8.cell 6;have b6:=aE.cell 6;simp at c4 b6;have a6:=A (At.Vd _ _ [] [] T (Pv T) (Pv T) (bK _) (bK _));clear j a7 N S a8 aE I b8 b9 bA bB bC bE bI bM bO bP bT bW bX c6;go_wp2_with fail;refine a6.o.mono ?_;rintro cA cC ⟨rfl,j⟩;have b4:=A (M.o.trans (j.mono M.o.size));clear j a6 M;go_wp2_with fail;go_ret;exact⟨rfl,b4.o⟩
theorem abu (bO aE:aJ) (l m:List nu) (L:List Ou) (w:aG) (I:Nf w bO l) (M:Nf w aE m) (G:eY (tZ w) l L) (a6:eY (tZ w) m L) (bW:∀ o∈L,o.p.length<=1000) (bE:L.length<=1000000) :
  cB au 23 #[bO,aE] w fun e w'=>e=aQ (bR aW)/\Below w.heap.size w w':=by
 have c8:=A G;have c9:=A a6;have c7:=A bW;have a7:=A I;have H:=A M;obtain⟨e1,e0,rfl⟩:=I.len;obtain⟨e3,e2,rfl⟩:=M.len;have N:m.length=l.length:=by rw [G.len,a6.len]
 rw [N] at H ⊢;have a8:=A N;have cC:l.length<=1000000:=by rw [G.len]; exact bE
 obtain⟨n,S⟩:∃ n,n=l.length:=⟨_,rfl⟩;simp only [<- S] at a7 H cC ⊢;have F:=A S.symm;clear G a6 bW I M N S bE;go_enter Tryz.func23,Tryz.ntmps23;go_wp2
 go_loopw [13] (fun i wr=>∃ k:Nat,k<=n/\i=U O k/\Below w.heap.size w wr) (fun i _=>n-(intOf i).toNat)
 case atStart=>exact⟨0,bK _,rfl,aB _ _⟩
 case round =>
  obtain⟨k,e4,rfl,bC⟩:=hrel;have j:=A bC;clear bC;by_cases bI:k<n
  ·obtain⟨x,a1⟩:∃ x,l[k]?=ak x:=⟨_,ay (by rw [F.o]; exact bI)⟩;obtain⟨y,a2⟩:∃ y,m[k]?=ak y:=⟨_,ay (by rw [a8.o,F.o]; exact bI)⟩;obtain⟨p,cF,r⟩:=elU a7.o rfl F.o a1;obtain⟨q,cH,u⟩:=elU H.o rfl (a8.o.trans F.o) a2;obtain⟨d4,T,cG⟩:=o8 c8.o k x a1;obtain⟨e9,bM,cI⟩:=o8 c9.o k y a2;rw [T] at bM;obtain rfl:=J bM;obtain⟨eA,eB,eC,eE,eI,eJ,⟨d7,d6,d5⟩,eK⟩:=x;obtain⟨bX,d8,d9,dA,dC,dE,⟨dZ,dT,dS⟩,eL⟩:=y;obtain⟨jw,e8,⟨t1,t2⟩,⟨e6,e7⟩,d3⟩:=d4;obtain⟨b7,b8,b9,bA,bP,bB⟩:=cG;obtain⟨b1,b2,b4,b5,bT,b6⟩:=cI;simp only [Prod.mk.injEq] at b7 b8 b9 bA bB b1 b2 b4 b5 b6;obtain⟨rfl,rfl⟩:=b9;obtain⟨rfl,rfl⟩:=bA;obtain⟨rfl,rfl⟩:=b4;obtain⟨rfl,rfl⟩:=b5;subst b7 b8 bB b1 b2 b6;simp only at r u;have cL:=aA (r _ j.o).1;have cM:=aA (r _ j.o).2.1;have cN:=aA (r _ j.o).2.2.1;have cP:=aA (r _ j.o).2.2.2.1;have cQ:=aA (r _ j.o).2.2.2.2.1;have cR:=aA (r _ j.o).2.2.2.2.2.1;have cS:=aA (r _ j.o).2.2.2.2.2.2.1;have cT:=aA (r _ j.o).2.2.2.2.2.2.2;have cU:=aA (u _ j.o).1;have cV:=aA (u _ j.o).2.1;have cW:=aA (u _ j.o).2.2.1;have cX:=aA (u _ j.o).2.2.2.1;have cY:=aA (u _ j.o).2.2.2.2.1;have d0:=aA (u _ j.o).2.2.2.2.2.1;have d1:=aA (u _ j.o).2.2.2.2.2.2.1;have d2:=aA (u _ j.o).2.2.2.2.2.2.2;have c6:=A (fun d os=>Calls.regrown_of (d:=d) (os:=os) (abt d8 d9 dA dC dE d7 d6 d5 dZ dT dS d3 _ ((bP.on j.o).on (aV wr d os)) ((bT.on j.o).on (aV wr d os)) (c7.o _ (bJ T))));have cD:(bX != bX)=bD:=by simp
   have e5:IntKind.i64.wrap ((k:Int)+1)=(k:Int)+1:=IntWalk.i64_in _ (by omega);clear r u a1 a2 T bP bT;go_wp2;refine ko ?_
   repeat (go_big_quiet_step (first | (with_reducible exact c6.o _ _)))
   refine kr fun cA cJ=>?_;clear cF cH cL cU cM cV cN cW cP cX cQ cY cR d0 cS d1 cT d2 cD;go_wp2
   go_roundw
   case rel=>exact⟨k+1,by omega,by go_num,j.o.trans ((aV wr cA cJ).mono j.o.size)⟩
   case measure=>simp [intOf]; omega
  ·obtain rfl:k=n:=by omega
   go_wp2;go_ret;exact⟨rfl,j.o⟩
end Fl
namespace Av
open Go.RowKit Go.ChangeShapes Go.WideShapes Bk
theorem ajr {H:Type} {enc:dh×aJ->H} {W:aG} {r:Nat->Bool} {q:Bool} {bW:Nat} {N:aJ} {x:DataW H×List MemPlace}
  (c6:aM enc au W 0 r q bW 48 [N]=ak x):∃ n:Nat,n<=dn/\RD W N n:=by
 rcases Deep.open_slice bV c6 with⟨a8,_⟩|⟨a,len,cap,m,n,D,cV,a8,_,cY,d0,bX,_,c8⟩
 ·have e:N=Z aj 0 0:=by simpa using a8
  exact⟨0,bK _,⟨aj,0,e⟩,fun i bA=>by omega⟩
 ·have e:N=Z (ak a) len cap:=by simpa using a8
  rw [e];have d1:len<=m:=by rw [bX]; split <;> omega
  refine⟨len,by omega,⟨ak a,cap,rfl⟩,fun i bA=>?_⟩;obtain⟨bT,bM,cC⟩:=c8 i (by omega);obtain⟨G,M,_,_,b9,c9,I⟩:=bg Tryz.underlying63 cC;rw [aek] at b9 bM
  match bT,b9 with
  | [c0,c1,c2,c3,c4,c5,F],_ =>
   have S:aM enc au W 0 r q M 3 (([c0,c1,c2,c3,c4,c5,F].drop 0).take (Tryz.prog.cellsOf 3))=G[0]?:=I 0 _ rfl;have T:aM enc au W 0 r q M 3 (([c0,c1,c2,c3,c4,c5,F].drop 1).take (Tryz.prog.cellsOf 3))=G[1]?:=I 1 _ rfl;have a1:aM enc au W 0 r q M 3 (([c0,c1,c2,c3,c4,c5,F].drop 2).take (Tryz.prog.cellsOf 3))=G[2]?:=I 2 _ rfl;have a2:aM enc au W 0 r q M 3 (([c0,c1,c2,c3,c4,c5,F].drop 3).take (Tryz.prog.cellsOf 3))=G[3]?:=I 3 _ rfl;have a6:aM enc au W 0 r q M 3 (([c0,c1,c2,c3,c4,c5,F].drop 4).take (Tryz.prog.cellsOf 3))=G[4]?:=I 4 _ rfl;have a7:aM enc au W 0 r q M 52 (([c0,c1,c2,c3,c4,c5,F].drop 5).take (Tryz.prog.cellsOf 52))=G[5]?:=I 5 _ rfl;have cW:G.length=5+1:=c9;simp only [In.Qs,Pr.YJ,bL,aX,aY,bN] at S T a1 a2 a6 a7;rw [ay (by omega)] at S T a1 a2 a6 a7;obtain⟨cG,b4,_,w0⟩:=aP aO S;obtain⟨cH,b5,_,w1⟩:=aP aO T;obtain⟨cI,b6,_,cN⟩:=aP aO a1;obtain⟨cJ,b7,_,cP⟩:=aP aO a2;obtain⟨cL,b8,_,cQ⟩:=aP aO a6;simp only [List.cons.injEq,and_true] at b4 b5 b6 b7 b8;subst b4 b5 b6 b7 b8;obtain⟨b2,bP,_,_,_,cA,bB⟩:=bg Tryz.underlying52 a7;have cX:b2.length=2:=cA;have aE:aM enc au W 0 r q bP 24 (([c5,F].drop 0).take (Tryz.prog.cellsOf 24))=b2[0]?:=bB 0 _ rfl;have b1:aM enc au W 0 r q bP 24 (([c5,F].drop 1).take (Tryz.prog.cellsOf 24))=b2[1]?:=bB 1 _ rfl;simp only [Pr.SY,bL,aX,aY,bN] at aE b1;rw [ay (by omega)] at aE b1;obtain⟨has,cD,bC⟩:=In.D8 aE;obtain⟨cM,cF,bE⟩:=In.D8 b1;obtain⟨cR,cT,rfl⟩:=bC.shape;obtain⟨cS,cU,rfl⟩:=bE.shape;obtain⟨_,_,bO⟩:=World.cells?_some bM;have bI:=bO 0 (by decide);rw [Rw.add_zero] at bI;refine⟨a.add (i * 7),cG,cH,cI,cJ,cL,cR,_,cT,cS,_,cU,has,cM,World.block_lt_of_cell? W _ bI,fun w=>ael a i len cap bA w,fun j u hu=>?_,⟨In.wU w0,In.wU w1,In.wU cN,In.wU cP,In.wU cQ⟩,bC,bE,cD,cF⟩;have c7:j<7:=(aK.1 hu).1;rw [<- hu];exact bO j c7
theorem abk:Tryz.prog.cellsOf 50=2:=by kernel_rfl
theorem abl:Tryz.prog.cellsOf 48=1:=by kernel_rfl
theorem abm {n:Int} (h:(Lit.int O n).wf=aW):-9223372036854775808<=n/\n<=9223372036854775807:=by
 have j:(decide (IntKind.i64.min<=n) && decide (n<=IntKind.i64.max))=aW:=h;rw [cu,decide_eq_true_eq,decide_eq_true_eq,show IntKind.i64.min=-9223372036854775808 by decide,show IntKind.i64.max=9223372036854775807 by decide] at j;exact j
theorem abn {H:Type} {enc:dh×aJ->H} {W:aG} {r:Reach} {b0:Nat} {G:Nat->Bool} {F:Bool} {v:aJ} {d:DataW H} {ps:List MemPlace}
  (a8:Value.okWide au W r b0 50 v) (a6:DataW.Trod enc au W 0 G F 50 v d ps) :
  ∃ (M:Int) (u:aJ) (n:Nat),v=aR #[U O M,u]/\-9223372036854775808<=M/\M<=9223372036854775807/\n<=dn/\RD W u n:=by
 obtain⟨cs,rfl,S⟩:=okWide_struct bY a8;obtain⟨b4,a7⟩:=a6;obtain⟨I,n,_,_,_,aE,T⟩:=bg bY a7;rw [abk] at S;obtain⟨l⟩:=cs
 match l,S with
 | [c0,c1],_ =>
  have j:aM enc au W 0 G F n 3 (([c0,c1].drop 0).take (Tryz.prog.cellsOf 3))=I[0]?:=T 0 _ rfl;have q:aM enc au W 0 G F n 48 (([c0,c1].drop 1).take (Tryz.prog.cellsOf 48))=I[1]?:=T 1 _ rfl;have b2:I.length=2:=aE;simp only [In.Qs,abl,bL,aX,aY,bN] at j q;rw [ay (by omega)] at j q;obtain⟨b1,N,_,w0⟩:=aP aO j;simp only [List.cons.injEq,and_true] at N;subst N;obtain⟨k,a1,a2⟩:=ajr q;exact⟨b1,c1,k,rfl,(abm w0).1,(abm w0).2,a1,a2⟩
end Av
end Go.Proofs.YtghlpefopidlaaaGreat
