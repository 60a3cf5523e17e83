/-
  Covered of broadside. Conditions as told.
-/
import Derived.Test.YtkcfgbddlpomgaaGreatOQ010
import Derived.Test.YtkcfgbddlpomgaaGreatOQ011
import Derived.Test.YtkcfgbddlpomgaaGreatOQ014
set_option maxRecDepth 100000
set_option maxHeartbeats 64000000
open _root_.Bool renaming and_eq_true->aY,eq_iff_iff->aZ,false->bF,true->bL
open _root_.Go renaming Value->aD,World->aI,cell_regrown->aK,Addr->aN,below_regrown->aT,redrawn->bQ,Calls->cB,wpOp->cZ,Code->dn,Exit->dw
open Go.ByteArray renaming toList_eq->aV
open Go.IntKind renaming i64->aB
open Go.IntWalk renaming i64_in->aM
open Go.Lib renaming hid->L
open Go.Obj renaming cells->bf
open Go.Operand renaming tmp->aj
open Go.Proofs.Tryz renaming prog->aL,func66->cu
open Go.Proofs.YtkcfgbddlpomgaaGreat.Rg renaming dD->aF,get_put->aP,dX->aR,dK->aS,dZ->aX,fF->bK,gH->bR,fP->bS,size_put->bW,fQ->bY,pq->bZ,fM->cK,jq->cO,gF->dh
open Go.RowKit.Below renaming refl->ah,heap_setCell->aH
open Go.Value renaming slice->J,pointer->O,int->aA,bool->bV
open _root_.List renaming getElem?_toArray->U,getElem?_cons_zero->V,getElem?_cons_succ->X,getElem?_eq_getElem->ak,getElem?_eq_some_iff->au,take_of_length_le->aG,mem_of_getElem?->aJ,getElem?_map->aQ,getElem_of_mem->bg,takeWhile_cons->bA,find?_eq_none->bI,any_eq_false->bJ,any_eq_true->bM,mem_append->bO
open _root_.Nat renaming lt_or_ge->aO,zero_le->aU,le_refl->aW,lt_of_le_of_lt->bH,le_of_lt->bU
open _root_.Option renaming some->Y,none->Z
open Option.some renaming inj->aC
open _root_.Or renaming inr->ay,inl->bN
namespace Go.Proofs.YtkcfgbddlpomgaaGreat
namespace Bk
open Go.RowKit Rw YtkcfgbddlpomgaaGreat.Nm Pr Rl
def YG (c:C5):Cn:=(c.1,if c.2.1=1 then .rg c.2.2.1 c.2.2.2.1 else if c.2.1=2 then .tx c.2.2.2.2 else .pr c.2.2.2.2)
theorem ado (c:Cn):YG (r5 c)=c:=by
 obtain⟨n,k⟩:=c;cases k <;> simp [YG,r5,kN,jN,jO,kT]
theorem qy (a:List Cn):(a.map r5).map YG=a:=by
 rw [List.map_map];have h:YG∘r5=id:=funext ado;rw [h,List.map_id]
def dW (p:List C5):Prop:=∃ a:List Cn,NF a/\p=a.map r5
def nM (p q:List C5):Bool:=qw (p.map YG) (q.map YG)
theorem Ui (Dq bv:aD) (p q:List C5) (w:aI) (ha:gu w Dq p) (hb:gu w bv q) (hp:dW p) (hq:dW q) :
  cB aL 110 #[Dq,bv] w fun e w'=>e=.returned (bV (nM p q))/\Below w.heap.size w w':=by
 obtain⟨a,na,rfl⟩:=hp;obtain⟨b,nb,rfl⟩:=hq;unfold nM;rw [qy,qy];exact Ih Dq bv a b w ha hb (by have:=na.five; omega) (by have:=nb.five; omega)
def Iw (t:Id) (p:List C5) (e:En):Bool:=decide (e.tree=t) && (e.up && nM e.p p)
def eY (m:List En) (t:Id) (p:List C5):Bool:=m.any (Iw t p)
theorem wK (me:Int) (nv av sv ov:aD) (ev:Sl) (l:List iH) (m:List En) (x:Id) (pv:aD) (p':List C5) (w:aI) (hs:kM w (dU ev) l) (hu:eH (jd w) l m) (hp:gu w pv p') (hok:∀ e∈m,dW e.p) (hop:dW p') :
  cB aL 92 #[.agg #[aA aB me,nv,av,sv,dU ev,ov],mY x,pv] w fun e w'=>e=.returned (bV (eY m x p'))/\Below w.heap.size w w':=by
 have HU:=L hu;have HP:=L hp;have OK:=L hok;have OP:=L hop;obtain⟨pa,pc,rfl⟩:=hp.len;obtain⟨pn,hpn⟩:∃ n,n=p'.length:=⟨_,rfl⟩;rw [<- hpn] at HP ⊢;clear hu hp hok hop hpn;obtain⟨c,d⟩:=x;obtain⟨so,sn,sc⟩:=ev;obtain⟨ao,ac,hv⟩:=hs.len;have hv:J so sn sc=J ao l.length ac:=hv;obtain⟨rfl,rfl,rfl⟩:so=ao/\sn=l.length/\sc=ac:=by simpa using hv
 obtain⟨h0,h1,h2⟩:=iE w #[aA aB me,nv,av,sv,J so l.length sc,ov] #[aA aB c,aA aB d] 33 38;have B:=L h0;have HS:=L (hs.on h0);have X2:=L h1;have X3:=L h2;have lm:=hs.most;unfold maxLen at lm;obtain⟨n,hn⟩:∃ n,n=l.length:=⟨_,rfl⟩;have q3:=h1.cell 4;simp only [U,V,X] at q3;rw [<- hn] at HS X2 lm q3 B X3 ⊢;have HN:=L hn.symm;clear h0 h1 h2 hs hv hn;go_enter Tryz.func92,Tryz.ntmps92;go_upto_region 1 with fail;generalize (w.alloc (bf #[aA aB me,nv,av,sv,J so n sc,ov] 33)).alloc (bf #[aA aB c,aA aB d] 38)=W at *;go_wp2
 go_loopw [12] (fun i wr=>∃ k:Nat,k<=n/\i=aA aB k/\Below W.heap.size W wr/\∀ (j:Nat) (y:En),j<k->m[j]?=Y y->Iw (c,d) p' y=bF) (fun i _=>n-(intOf i).toNat)
 case atStart=>exact⟨0,aU _,rfl,ah _ _,fun j y h=>by omega⟩
 case round =>
  obtain⟨k,hk,rfl,hbe,hall⟩:=hrel;have BE:=L hbe;have AL:=L hall;clear hbe hall;by_cases hlt:k<n
  ·obtain⟨y,hy⟩:∃ y,l[k]?=Y y:=⟨_,ak (by rw [HN.out]; exact hlt)⟩;obtain⟨p,ix,px⟩:=Pv HS.out rfl HN.out hy;obtain⟨p0,p1,p2,p3,p4,p5,p6⟩:=px wr BE.out;obtain⟨y1,y2,y3,y4,⟨yo,yn,yc⟩,y6,y7⟩:=y;simp only at p0 p1 p2 p3 p4 p5 p6;have NB:=L (fI wr (bf #[aA aB y1,aA aB y2,aA aB y3,aA aB y4,J yo yn yc,aA aB y6,bV y7] 68));obtain⟨x0,x1⟩:=((X3.out.on BE.out).on NB.out).cs2;have hw3:IntKind.i64.wrap ((k:Int)+1)=(k:Int)+1:=aM _ (by omega);obtain⟨me_,hm,hin⟩:=M7 HU.out k _ hy;obtain⟨r,hr⟩:∃ r,(y1 == c && y2 == d)=r:=⟨_,rfl⟩;obtain⟨t,ht⟩:∃ r,nM me_.p p'=r:=⟨_,rfl⟩;have he:=wC y1 y2 c d r hr;have HV:=L (show Iw (c,d) p' me_=(r && (y7 && t)) by
    rw [<- hr,<- ht];unfold Iw;rw [<- hin.1,<- hin.2.2.2.1];by_cases g1:y1=c <;> by_cases g2:y2=d <;> simp [g1,g2])
   have HM:=L hm;have CV:=L (fun W' (hb':Below w.heap.size w W')=>(Ui (J yo yn yc) (J pa pn pc) me_.p p' W' (hin.2.2.2.2.on hb') (HP.out.on hb') (OK.out _ (aJ hm)) OP.out));rw [ht] at CV;clear px hy hr ht hm hin;cases r
   ·go_wp2
    go_roundw
    case rel=>exact⟨k+1,by omega,by go_num,BE.out.trans (NB.out.mono BE.out.size),fun j y' hj h1=>by
     rcases aO j k with h3|h3
     ·exact AL.out j y' h3 h1
     ·obtain rfl:j=k:=by omega
      have e1:=HM.out;rw [h1] at e1;rw [aC e1];exact HV.out.trans (by simp)⟩
    case measure=>simp [intOf]; omega
   ·cases y7
    ·go_wp2
     go_roundw
     case rel=>exact⟨k+1,by omega,by go_num,BE.out.trans (NB.out.mono BE.out.size),fun j y' hj h1=>by
     rcases aO j k with h3|h3
     ·exact AL.out j y' h3 h1
     ·obtain rfl:j=k:=by omega
      have e1:=HM.out;rw [h1] at e1;rw [aC e1];exact HV.out.trans (by simp)⟩
     case measure=>simp [intOf]; omega
    ·have BF:=L (BE.out.trans (NB.out.mono BE.out.size));have CW:=L (CV.out _ (B.out.trans (BF.out.mono B.out.size)));clear CV;go_wp2_with fail;refine CW.out.mono ?_;rintro e3 w3 ⟨rfl,hb⟩;have BG:=L (BF.out.trans (hb.mono BF.out.size));clear CW hb x0 x1 p0 p1 p2 p3 p4 p5 p6 ix he;cases t
     ·go_wp2
      go_roundw
      case rel=>exact⟨k+1,by omega,by go_num,BG.out,fun j y' hj h1=>by
     rcases aO j k with h3|h3
     ·exact AL.out j y' h3 h1
     ·obtain rfl:j=k:=by omega
      have e1:=HM.out;rw [h1] at e1;rw [aC e1];exact HV.out.trans (by simp)⟩
      case measure=>simp [intOf]; omega
     ·go_wp2;go_ret;have hd:eY m (c,d) p'=bL:=by
       unfold eY;rw [bM];exact⟨me_,aJ HM.out,HV.out.trans (by simp)⟩
      exact⟨by rw [hd]; rfl,B.out.trans (BG.out.mono B.out.size)⟩
  ·obtain rfl:k=n:=by omega
   go_wp2;go_ret;have hd:eY m (c,d) p'=bF:=by
    unfold eY;rw [bJ];intro e he;obtain⟨j,hj,hje⟩:=bg he;have h9:=AL.out j e (by rw [<- HN.out,HU.out.len]; exact hj) (by rw [ak hj,hje]);simpa using h9
   exact⟨by rw [hd]; rfl,B.out.trans (BE.out.mono B.out.size)⟩
def iJ {κ:Type} [DecidableEq κ]:List κ->κ->Int
 | [],_=>-1
 | a::l,x=>if a=x then 0 else if iJ l x=-1 then -1 else iJ l x+1
theorem vQ {κ:Type} [DecidableEq κ] (l:List κ) (x:κ) (h:∀ (j:Nat) (y:κ),l[j]?=Y y->y≠x):iJ l x=-1:=by
 induction l with
 | nil=>rfl
 | cons a l ih=>rw [iJ,if_neg (h 0 a rfl),ih fun j y hj=>h (j+1) y (by simpa using hj),if_pos rfl]
theorem Iy {κ:Type} [DecidableEq κ] (l:List κ) (k:Nat) (x:κ) (h:l[k]?=Y x) (hall:∀ (j:Nat) (z:κ),j<k->l[j]?=Y z->z≠x):iJ l x=k:=by
 induction l generalizing k with
 | nil=>simp at h
 | cons a l ih =>
  cases k with
  | zero =>
   obtain rfl:a=x:=by simpa using h
   rw [iJ,if_pos rfl]
   rfl
  | succ k =>
   have h2:=ih k (by simpa using h) fun j z hj hz=>hall (j+1) z (by omega) (by simpa using hz);rw [iJ,if_neg (hall 0 a (by omega) rfl),h2,if_neg (by omega)];omega
theorem lG {κ:Type} [DecidableEq κ] (l:List κ) (x:κ):iJ l x=-1\/∃ k:Nat,iJ l x=k/\l[k]?=Y x:=by
 induction l with
 | nil=>exact bN rfl
 | cons a l ih =>
  rw [iJ];by_cases h:a=x
  ·rw [if_pos h];exact ay ⟨0,rfl,by rw [h]; rfl⟩
  ·rw [if_neg h];rcases ih with h2|⟨k,h2,h3⟩
   ·rw [if_pos h2];exact bN rfl
   ·rw [if_neg (by omega),h2];exact ay ⟨k+1,by omega,by simpa using h3⟩
abbrev jc (e:iH):Id×Id:=((e.1,e.2.1),(e.2.2.1,e.2.2.2.1))
theorem Am (me:Int) (nv av sv ov:aD) (ev:Sl) (l:List iH) (x z:Id) (w:aI) (hs:kM w (dU ev) l) :
  cB aL 91 #[.agg #[aA aB me,nv,av,sv,dU ev,ov],mY x,mY z] w fun e w'=>e=.returned (aA aB (iJ (l.map jc) (x,z)))/\Below w.heap.size w w':=by
 obtain⟨c,d⟩:=x;obtain⟨g,h⟩:=z;obtain⟨so,sn,sc⟩:=ev;obtain⟨ao,ac,hv⟩:=hs.len;have hv:J so sn sc=J ao l.length ac:=hv;obtain⟨rfl,rfl,rfl⟩:so=ao/\sn=l.length/\sc=ac:=by simpa using hv
 obtain⟨h0,h1,h2,h3⟩:=gX w #[aA aB me,nv,av,sv,J so l.length sc,ov] #[aA aB c,aA aB d] #[aA aB g,aA aB h] 33 38 38;have B:=L h0;have HS:=L (hs.on h0);have X2:=L h1;have X3:=L h2;have X4:=L h3;have lm:=hs.most;unfold maxLen at lm;obtain⟨n,hn⟩:∃ n,n=l.length:=⟨_,rfl⟩;have q3:=h1.cell 4;simp only [U,V,X] at q3;rw [<- hn] at HS X2 lm q3 B X3 X4 ⊢;have HN:=L hn.symm;clear h0 h1 h2 h3 hs hv hn;go_enter Tryz.func91,Tryz.ntmps91;go_upto_region 1 with fail;generalize ((w.alloc (bf #[aA aB me,nv,av,sv,J so n sc,ov] 33)).alloc (bf #[aA aB c,aA aB d] 38)).alloc (bf #[aA aB g,aA aB h] 38)=W at *;go_wp2
 go_loopw [12] (fun i wr=>∃ k:Nat,k<=n/\i=aA aB k/\Below W.heap.size W wr/\∀ (j:Nat) (y:iH),j<k->l[j]?=Y y->jc y≠((c,d),(g,h))) (fun i _=>n-(intOf i).toNat)
 case atStart=>exact⟨0,aU _,rfl,ah _ _,fun j y h=>by omega⟩
 case round =>
  obtain⟨k,hk,rfl,hbe,hall⟩:=hrel;have BE:=L hbe;have AL:=L hall;clear hbe hall;by_cases hlt:k<n
  ·obtain⟨y,hy⟩:∃ y,l[k]?=Y y:=⟨_,ak (by rw [HN.out]; exact hlt)⟩;obtain⟨p,ix,px⟩:=Pv HS.out rfl HN.out hy;obtain⟨p0,p1,p2,p3,p4,p5,p6⟩:=px wr BE.out;obtain⟨y1,y2,y3,y4,⟨yo,yn,yc⟩,y6,y7⟩:=y;simp only at p0 p1 p2 p3 p4 p5 p6;have NB:=L (fI wr (bf #[aA aB y1,aA aB y2,aA aB y3,aA aB y4,J yo yn yc,aA aB y6,bV y7] 68));obtain⟨x0,x1⟩:=((X3.out.on BE.out).on NB.out).cs2;obtain⟨z0,z1⟩:=((X4.out.on BE.out).on NB.out).cs2;have hw3:IntKind.i64.wrap ((k:Int)+1)=(k:Int)+1:=aM _ (by omega);obtain⟨r,hr⟩:∃ r,(y1 == c && y2 == d)=r:=⟨_,rfl⟩;obtain⟨t,ht⟩:∃ r,(y3 == g && y4 == h)=r:=⟨_,rfl⟩;have he:=wC y1 y2 c d r hr;have hf:=wC y3 y4 g h t ht;have HY:=L hy;have HR:=L hr;have HT:=L ht;clear px hy hr ht;cases r
   ·go_wp2
    go_roundw
    case rel=>exact⟨k+1,by omega,by go_num,BE.out.trans (NB.out.mono BE.out.size),fun j y' hj h1=>by
     rcases aO j k with h3|h3
     ·exact AL.out j y' h3 h1
     ·obtain rfl:j=k:=by omega
      have e1:=HY.out;rw [h1] at e1;rw [aC e1];intro e;obtain⟨⟨rfl,rfl⟩,_⟩:(y1=c/\y2=d)/\(y3=g/\y4=h):=by simpa [jc] using e
      have:=HR.out;simp at this⟩
    case measure=>simp [intOf]; omega
   ·cases t
    ·go_wp2
     go_roundw
     case rel=>exact⟨k+1,by omega,by go_num,BE.out.trans (NB.out.mono BE.out.size),fun j y' hj h1=>by
      rcases aO j k with h3|h3
      ·exact AL.out j y' h3 h1
      ·obtain rfl:j=k:=by omega
       have e1:=HY.out;rw [h1] at e1;rw [aC e1];intro e;obtain⟨_,rfl,rfl⟩:(y1=c/\y2=d)/\(y3=g/\y4=h):=by simpa [jc] using e
       have:=HT.out;simp at this⟩
     case measure=>simp [intOf]; omega
    ·go_wp2;go_ret;have h8:=HR.out;have h9:=HT.out;obtain⟨rfl,rfl⟩:y1=c/\y2=d:=by simpa using h8
     obtain⟨rfl,rfl⟩:y3=g/\y4=h:=by simpa using h9
     exact⟨by rw [Iy (l.map jc) k ((y1,y2),(y3,y4)) (by rw [aQ,HY.out]; rfl) (fun j z hj hz=>by
      rw [aQ] at hz;cases hl:l[j]? with
      | none=>rw [hl] at hz; cases hz
      | some q =>
       rw [hl] at hz;have hz:jc q=z:=aC hz;rw [<- hz];exact AL.out j q hj hl)]; rfl,B.out.trans ((BE.out.trans (NB.out.mono BE.out.size)).mono B.out.size)⟩
  ·obtain rfl:k=n:=by omega
   go_wp2;go_ret;have hd:iJ (l.map jc) ((c,d),(g,h))=-1:=vQ _ _ fun j z hz=>by
    rw [aQ] at hz;cases hl:l[j]? with
    | none=>rw [hl] at hz; cases hz
    | some q =>
     rw [hl] at hz;have hz:jc q=z:=aC hz;rw [<- hz];exact AL.out j q (by rw [<- HN.out]; exact (au.1 hl).1) hl
   exact⟨by rw [hd]; rfl,B.out.trans (BE.out.mono B.out.size)⟩
end Bk
namespace Bk
open Go.RowKit Go.Sort Rw YtkcfgbddlpomgaaGreat.Nm Pr
theorem yt {κ:Type} (f:κ->Bool) (l:List κ) (k:Nat) (hall:∀ (j:Nat) (y:κ),j<k->l[j]?=Y y->f y=bL) (hend:k=l.length\/∃ y,l[k]?=Y y/\f y=bF):(l.takeWhile f).length=k:=by
 induction l generalizing k with
 | nil =>
  rcases hend with h|⟨y,h,_⟩
  ·rw [h]; rfl
  ·simp at h
 | cons a l ih =>
  cases k with
  | zero =>
   rcases hend with h|⟨y,h,h2⟩
   ·simp at h
   ·obtain rfl:a=y:=by simpa using h
    rw [bA,h2]
    rfl
  | succ k =>
   have h0:=hall 0 a (by omega) rfl;rw [bA,h0];simp only [if_true,List.length_cons];rw [ih k (fun j y hj hy=>hall (j+1) y (by omega) (by simpa using hy)) (by
    rcases hend with h|⟨y,h,h2⟩
    ·exact bN (by simpa using h)
    ·exact ay ⟨y,by simpa using h,h2⟩)]
def jC (a b:Id×Id):Bool:=eO a.1 b.1 || (eqI a.1 b.1 && eO a.2 b.2)
def eu (l:List (Id×Id)) (x:Id×Id):Nat:=(l.takeWhile fun a=>jC a x).length
noncomputable def ae4:dn:=((Tryz.f57.body.bind (jr 0)).getD .skip)
theorem yu (Q:dw->Act->aI->Prop) (W:aI) (b2 b3:Nat) (me c d g h:Int) (y1_ y2_ y3_ y5_ p3' p4' p5':aD) (so:Option aN) (n sc:Nat) (l:List iH) (u0 u1 u4 u5 u6 u8 u9 u10 u11 u12 u13 u14 u15 u16 u17 u18 u19 u20 u21 u22 u23 u24 u25 u26 u27 u28 u29 u30 u31 u32 u33 u34 u35 u36 u37 u38 u39 u40 u41 u42 u43 u44 u45 u46 u47 u48 u49 u50 u51 u52 u53 u54 u55 u56 u57 u58 u59 u60 u61 u62 u63 u64 u65 u66 u67 u68 u69 u70 u71 u72 u73 u74 u75 u76 u77 u78 u79 u80 u81 u82 u83 u84 u85 u86 u87 u88 u89 u90 u91 u92 u93 u94 u95 u96 u97 u98 u99 u100 u101 u102 u103 u104 u105 u106 u107 u108 u109 u110 u111 u112 u113 u114:aD)
  (h2:dN W b2 #[aA aB me,y1_,y2_,y3_,J so n sc,y5_] 33) (h3:dN W b3 #[aA aB c,aA aB d,aA aB g,aA aB h,p3',p4',p5'] 68) (hs:kM W (J so n sc) l) (hn:n=l.length) (hm:n<=1000000)
  (hQ:∀ (wr:aI) (v57 v58 v59 v60 v61 v62 v63 v64 v65 v66 v67 v68 v69 v70 v71 v72 v73 v74 v75 v76 v77 v78 v79 v80 v81 v82 v83 v84 v85 v86 v87 v88 v89 v90 v91 v92 v93 v94 v95 v96:aD),Below W.heap.size W wr->Q .normal ⟨(u0::u1::O (Y ⟨b2,0,Z⟩)::O (Y ⟨b3,0,Z⟩)::u4::u5::u6::aA aB (eu (l.map jc) ((c,d),(g,h)):Nat)::u8::u9::u10::u11::u12::u13::u14::u15::u16::u17::u18::u19::u20::u21::u22::u23::u24::u25::u26::u27::u28::u29::u30::u31::u32::u33::u34::u35::u36::u37::u38::u39::u40::u41::u42::u43::u44::u45::u46::u47::u48::u49::u50::u51::u52::u53::u54::u55::u56::v57::v58::v59::v60::v61::v62::v63::v64::v65::v66::v67::v68::v69::v70::v71::v72::v73::v74::v75::v76::v77::v78::v79::v80::v81::v82::v83::v84::v85::v86::v87::v88::v89::v90::v91::v92::v93::v94::v95::v96::u97::u98::u99::u100::u101::u102::u103::u104::u105::u106::u107::u108::u109::u110::u111::u112::u113::u114::[]).toArray,[]⟩ wr) :
  Code.wp aL ae4 Q ⟨(u0::u1::O (Y ⟨b2,0,Z⟩)::O (Y ⟨b3,0,Z⟩)::u4::u5::u6::aA aB 0::u8::u9::u10::u11::u12::u13::u14::u15::u16::u17::u18::u19::u20::u21::u22::u23::u24::u25::u26::u27::u28::u29::u30::u31::u32::u33::u34::u35::u36::u37::u38::u39::u40::u41::u42::u43::u44::u45::u46::u47::u48::u49::u50::u51::u52::u53::u54::u55::u56::u57::u58::u59::u60::u61::u62::u63::u64::u65::u66::u67::u68::u69::u70::u71::u72::u73::u74::u75::u76::u77::u78::u79::u80::u81::u82::u83::u84::u85::u86::u87::u88::u89::u90::u91::u92::u93::u94::u95::u96::u97::u98::u99::u100::u101::u102::u103::u104::u105::u106::u107::u108::u109::u110::u111::u112::u113::u114::[]).toArray,[]⟩ W:=by
 have HQ:=L hQ;have H2:=L h2;have H3:=L h3;have HS:=L hs;have HN:=L hn;clear hQ h2 h3 hs hn
 conv=>arg 2; whnf
 go_wp2
 go_loopw [7] (fun i wr=>∃ k:Nat,k<=n/\i=aA aB k/\Below W.heap.size W wr/\∀ (j:Nat) (y:Id×Id),j<k->(l.map jc)[j]?=Y y->jC y ((c,d),(g,h))=bL) (fun i _=>n-(intOf i).toNat)
 case atStart=>exact⟨0,aU _,rfl,ah _ _,fun j y h=>by omega⟩
 case round =>
  obtain⟨k,hk,rfl,hbe,hall⟩:=hrel;have BE:=L hbe;have AL:=L hall;clear hbe hall;have q0:=aK (show wr.cell? ⟨b2,4,Z⟩=Y (J so n sc) from (H2.out.on BE.out).cell 4);have r0:=aK (show wr.cell? ⟨b3,0,Z⟩=Y (aA aB c) from (H3.out.on BE.out).cell 0);have r1:=aK (show wr.cell? ⟨b3,1,Z⟩=Y (aA aB d) from (H3.out.on BE.out).cell 1);have r2:=aK (show wr.cell? ⟨b3,2,Z⟩=Y (aA aB g) from (H3.out.on BE.out).cell 2);have r3:=aK (show wr.cell? ⟨b3,3,Z⟩=Y (aA aB h) from (H3.out.on BE.out).cell 3);have hw3:IntKind.i64.wrap ((k:Int)+1)=(k:Int)+1:=aM _ (by omega);by_cases hlt:k<n
  ·obtain⟨y,hy⟩:∃ y,l[k]?=Y y:=⟨_,ak (by rw [<- HN.out]; exact hlt)⟩;obtain⟨p,ix,px⟩:=Pv HS.out rfl HN.out.symm hy;have zk:=px wr BE.out;obtain⟨y1,y2,y3,y4,⟨yo,yn,yc⟩,y6,y7⟩:=y;simp only at zk;have p0:=aK zk.1;have p1:=aK zk.2.1;have p2:=aK zk.2.2.1;have p3:=aK zk.2.2.2.1;have yT:decide ((k:Int)<(n:Int))=bL:=decide_eq_true (by omega);have CG:decide (k<n)=bL:=decide_eq_true hlt;obtain⟨r,hr⟩:∃ r,eO (y1,y2) (c,d)=r:=⟨_,rfl⟩;obtain⟨t,ht⟩:∃ r,(y1 == c && y2 == d)=r:=⟨_,rfl⟩;obtain⟨s,hs⟩:∃ r,eO (y3,y4) (g,h)=r:=⟨_,rfl⟩;have he:=wC y1 y2 c d t ht;have LS:=L (fun d' os=>Calls.regrown_of (d:=d') (os:=os) ((tO (y1,y2) (c,d) (grow (bQ wr d') os)).mono fun _ _ h=>⟨by rw [h.1,hr],h.2⟩));have LT:=L (fun d' os=>Calls.regrown_of (d:=d') (os:=os) ((tO (y3,y4) (g,h) (grow (bQ wr d') os)).mono fun _ _ h=>⟨by rw [h.1,hs],h.2⟩));have HY:=L (show (l.map jc)[k]?=Y ((y1,y2),(y3,y4)) by rw [aQ,hy]; rfl);have HV:=L (show jC ((y1,y2),(y3,y4)) ((c,d),(g,h))=(r || (t && s)) by rw [<- hr,<- ht,<- hs]; rfl);clear px zk hy hr ht hs;cases r
   ·cases t
    ·have HR:=L (HV.out.trans (show _=bF by simp));go_wp2_with fail;refine wp_region_quiet_below (by kernel_rfl) (by kernel_rfl) ?_
     repeat (go_big_quiet_step (first | (with_reducible exact LS.out _ _) | (with_reducible exact LT.out _ _)))
     refine wpQuiet_nil ?_;intro _ hw';obtain⟨⟨dq,osq⟩,hw''⟩:=hw';subst hw'';have Z6:=aT wr dq osq;have HF:=L (fun v57 v58 v59 v60 v61 v62 v63 v64 v65 v66 v67 v68 v69 v70 v71 v72 v73 v74 v75 v76 v77 v78 v79 v80 v81 v82 v83 v84 v85 v86 v87 v88 v89 v90 v91 v92 v93 v94 v95 v96=>HQ.out (grow (bQ wr dq) osq) v57 v58 v59 v60 v61 v62 v63 v64 v65 v66 v67 v68 v69 v70 v71 v72 v73 v74 v75 v76 v77 v78 v79 v80 v81 v82 v83 v84 v85 v86 v87 v88 v89 v90 v91 v92 v93 v94 v95 v96 (BE.out.trans (Z6.mono BE.out.size)));rw [show eu (l.map jc) ((c,d),(g,h))=k from yt _ _ k AL.out (ay ⟨_,HY.out,HR.out⟩)] at HF;clear ix HQ q0 r0 r1 r2 r3 LS LT yT CG p0 p1 p2 p3 he;go_wp2;exact HF.out _ _ _ _ _ _ _ _ _ _ _ _ _ _ _ _ _ _ _ _ _ _ _ _ _ _ _ _ _ _ _ _ _ _ _ _ _ _ _ _
    ·cases s
     ·have HR:=L (HV.out.trans (show _=bF by simp));go_wp2_with fail;refine wp_region_quiet_below (by kernel_rfl) (by kernel_rfl) ?_
      repeat (go_big_quiet_step (first | (with_reducible exact LS.out _ _) | (with_reducible exact LT.out _ _)))
      refine wpQuiet_nil ?_;intro _ hw';obtain⟨⟨dq,osq⟩,hw''⟩:=hw';subst hw'';have Z6:=aT wr dq osq;have HF:=L (fun v57 v58 v59 v60 v61 v62 v63 v64 v65 v66 v67 v68 v69 v70 v71 v72 v73 v74 v75 v76 v77 v78 v79 v80 v81 v82 v83 v84 v85 v86 v87 v88 v89 v90 v91 v92 v93 v94 v95 v96=>HQ.out (grow (bQ wr dq) osq) v57 v58 v59 v60 v61 v62 v63 v64 v65 v66 v67 v68 v69 v70 v71 v72 v73 v74 v75 v76 v77 v78 v79 v80 v81 v82 v83 v84 v85 v86 v87 v88 v89 v90 v91 v92 v93 v94 v95 v96 (BE.out.trans (Z6.mono BE.out.size)));rw [show eu (l.map jc) ((c,d),(g,h))=k from yt _ _ k AL.out (ay ⟨_,HY.out,HR.out⟩)] at HF;clear ix HQ q0 r0 r1 r2 r3 LS LT yT CG p0 p1 p2 p3 he;go_wp2;exact HF.out _ _ _ _ _ _ _ _ _ _ _ _ _ _ _ _ _ _ _ _ _ _ _ _ _ _ _ _ _ _ _ _ _ _ _ _ _ _ _ _
     ·have HR:=L (HV.out.trans (show _=bL by simp));go_wp2_with fail;refine wp_region_quiet_below (by kernel_rfl) (by kernel_rfl) ?_
      repeat (go_big_quiet_step (first | (with_reducible exact LS.out _ _) | (with_reducible exact LT.out _ _)))
      refine wpQuiet_nil ?_;intro _ hw';obtain⟨⟨dq,osq⟩,hw''⟩:=hw';subst hw'';have Z6:=L (aT wr dq osq);clear ix q0 r0 r1 r2 r3 LS LT yT CG p0 p1 p2 p3 he;go_wp2
      go_roundw
      case rel=>exact⟨k+1,by omega,by go_num,BE.out.trans (Z6.out.mono BE.out.size),fun j y' hj h1=>by
       rcases aO j k with h3|h3
       ·exact AL.out j y' h3 h1
       ·obtain rfl:j=k:=by omega
        have e1:=HY.out;rw [h1] at e1;rw [aC e1];exact HR.out⟩
      case measure=>simp [intOf]; omega
   ·have HR:=L (HV.out.trans (show _=bL by simp));go_wp2_with fail;refine wp_region_quiet_below (by kernel_rfl) (by kernel_rfl) ?_
    repeat (go_big_quiet_step (first | (with_reducible exact LS.out _ _) | (with_reducible exact LT.out _ _)))
    refine wpQuiet_nil ?_;intro _ hw';obtain⟨⟨dq,osq⟩,hw''⟩:=hw';subst hw'';have Z6:=L (aT wr dq osq);clear ix q0 r0 r1 r2 r3 LS LT yT CG p0 p1 p2 p3 he;go_wp2
    go_roundw
    case rel=>exact⟨k+1,by omega,by go_num,BE.out.trans (Z6.out.mono BE.out.size),fun j y' hj h1=>by
     rcases aO j k with h3|h3
     ·exact AL.out j y' h3 h1
     ·obtain rfl:j=k:=by omega
      have e1:=HY.out;rw [h1] at e1;rw [aC e1];exact HR.out⟩
    case measure=>simp [intOf]; omega
  ·obtain rfl:n=k:=by omega
   have yT:decide ((n:Int)<(n:Int))=bF:=by simp
   have CG:decide (n<n)=bF:=by simp
   go_wp2_with fail;refine wp_region_quiet_below (by kernel_rfl) (by kernel_rfl) ?_
   repeat (go_big_quiet_step (fail))
   refine wpQuiet_nil ?_;intro _ hw';obtain⟨⟨dq,osq⟩,hw''⟩:=hw';subst hw'';have Z6:=aT wr dq osq;have HF:=L (fun v57 v58 v59 v60 v61 v62 v63 v64 v65 v66 v67 v68 v69 v70 v71 v72 v73 v74 v75 v76 v77 v78 v79 v80 v81 v82 v83 v84 v85 v86 v87 v88 v89 v90 v91 v92 v93 v94 v95 v96=>HQ.out (grow (bQ wr dq) osq) v57 v58 v59 v60 v61 v62 v63 v64 v65 v66 v67 v68 v69 v70 v71 v72 v73 v74 v75 v76 v77 v78 v79 v80 v81 v82 v83 v84 v85 v86 v87 v88 v89 v90 v91 v92 v93 v94 v95 v96 (BE.out.trans (Z6.mono BE.out.size)));rw [show eu (l.map jc) ((c,d),(g,h))=n from yt _ _ n AL.out (bN (by simpa using HN.out))] at HF;clear HQ q0 r0 r1 r2 r3 yT CG;go_wp2;exact HF.out _ _ _ _ _ _ _ _ _ _ _ _ _ _ _ _ _ _ _ _ _ _ _ _ _ _ _ _ _ _ _ _ _ _ _ _ _ _ _ _
end Bk
namespace Av
open Go.RowKit Go.Sort Rw YtkcfgbddlpomgaaGreat.Nm Pr Bk
def YH (B:Nat) (b1:Nat) (_me:Int) (_z2 _z4 _z5:aD) (o1:Option aN) (n1 c1:Nat) (nl:List Int) (o3:Option aN) (n3 c3:Nat) (sl:List eT) (i:Nat) (v:aD) (x:aI):Prop :=
 match i with
 | 0=>v=O (Y ⟨b1,1,Z⟩)
 | 1=>v=J o1 n1 c1
 | 2=>∃ s:Sl,v=dU s/\kS x B v nl
 | 3=>v=O (Y ⟨b1,3,Z⟩)
 | 4=>v=J o3 n3 c3
 | 5=>∃ s:Sl,v=dU s/\qY x B v sl
 | 6=>v=O (Y ⟨b1,1,Z⟩)
 | _=>True
noncomputable def ae5:dn:=((Tryz.f50.body.bind (eP 1)).getD .skip)
theorem YI (B:Nat) (b1:Nat) (me:Int) (z2 z4 z5:aD) (o1:Option aN) (n1 c1:Nat) (nl:List Int) (o3:Option aN) (n3 c3:Nat) (sl:List eT) (i:Nat) (v:aD) (x x':aI) (h:YH B b1 me z2 z4 z5 o1 n1 c1 nl o3 n3 c3 sl i v x) (hb:Below x.heap.size x x'):YH B b1 me z2 z4 z5 o1 n1 c1 nl o3 n3 c3 sl i v x':=by
 by_cases hi:i<7
 ·rcases (by omega:i=0\/i=1\/i=2\/i=3\/i=4\/i=5\/i=6) with rfl|rfl|rfl|rfl|rfl|rfl|rfl
  ·exact h
  ·exact h
  ·obtain⟨s,h1,h2⟩:=h; exact⟨s,h1,Bk.dG h2 hb⟩
  ·exact h
  ·exact h
  ·obtain⟨s,h1,h2⟩:=h; exact⟨s,h1,Bk.dG h2 hb⟩
  ·exact h
 ·unfold YH
  split <;> first | omega | trivial
theorem cp1 (Q:dw->Act->aI->Prop) (W:aI) (b1:Nat) (me:Int) (z2 z4 z5:aD) (o1:Option aN) (n1 c1:Nat) (nl:List Int) (o3:Option aN) (n3 c3:Nat) (sl:List eT) (u0 u2 u3 u4 u5 u6 u7 u8 u9 u10 u11 u12 u13 u14 u15 u16 u17 u18 u19 u20 u21 u22 u23 u24 u25 u26 u27 u28 u29 u30 u31 u32 u33 u34 u35 u36 u37 u38 u39 u40 u41 u42 u43 u44 u45 u46 u47 u48 u49 u50 u51 u52 u53 u54 u55 u56 u57 u58 u59 u60 u61 u62 u63 u64 u65 u66 u67 u68 u69 u70 u71 u72 u73 u74 u75 u76 u77 u78 u79 u80 u81:aD)
  (h1:dN W b1 #[aA aB me,J o1 n1 c1,z2,J o3 n3 c3,z4,z5] 33) (r1:qI W (J o1 n1 c1) nl) (r3:xP W (J o3 n3 c3) sl) (l1:nl.length<=900) (l3:sl.length<=900)
  (hQ:∀ (x:aI) (v6 v7 v8 v9 v10 v11 v12 v13:aD) (p1:Option aN) (q1 s1:Nat) (p3:Option aN) (q3 s3:Nat),dN x b1 #[aA aB me,J p1 q1 s1,z2,J p3 q3 s3,z4,z5] 33->kS x W.heap.size (J p1 q1 s1) nl->qY x W.heap.size (J p3 q3 s3) sl->(∀ B,B<=b1->Below B W x)->(∀ k,k<W.heap.size->k≠b1->x.heap[k]?=W.heap[k]?)->Q .normal ⟨(u0::O (Y ⟨b1,0,Z⟩)::u2::u3::u4::u5::v6::v7::v8::v9::v10::v11::v12::v13::u14::u15::u16::u17::u18::u19::u20::u21::u22::u23::u24::u25::u26::u27::u28::u29::u30::u31::u32::u33::u34::u35::u36::u37::u38::u39::u40::u41::u42::u43::u44::u45::u46::u47::u48::u49::u50::u51::u52::u53::u54::u55::u56::u57::u58::u59::u60::u61::u62::u63::u64::u65::u66::u67::u68::u69::u70::u71::u72::u73::u74::u75::u76::u77::u78::u79::u80::u81::[]).toArray,[]⟩ x) :
  Code.wp aL ae5 Q ⟨(u0::O (Y ⟨b1,0,Z⟩)::u2::u3::u4::u5::u6::u7::u8::u9::u10::u11::u12::u13::u14::u15::u16::u17::u18::u19::u20::u21::u22::u23::u24::u25::u26::u27::u28::u29::u30::u31::u32::u33::u34::u35::u36::u37::u38::u39::u40::u41::u42::u43::u44::u45::u46::u47::u48::u49::u50::u51::u52::u53::u54::u55::u56::u57::u58::u59::u60::u61::u62::u63::u64::u65::u66::u67::u68::u69::u70::u71::u72::u73::u74::u75::u76::u77::u78::u79::u80::u81::[]).toArray,[]⟩ W:=by
 have HQ:=L hQ;have H1:=L h1;have R1:=L r1;have R3:=L r3;have L1:=L l1;have L3:=L l3;clear hQ h1 r1 r3 l1 l3;have iN:=YI W.heap.size b1 me z2 z4 z5 o1 n1 c1 nl o3 n3 c3 sl;unfold ae5
 conv=>arg 2; whnf
 have nd:∀ j,(j<6\/13<=j)->∀ i,i<7->(fun i=>6+i) i≠j:=by
  intro j hj i hi h;simp only at h;omega
 refine cK 10 7 (fun i=>6+i) (fun _=>7) (YH W.heap.size b1 me z2 z4 z5 o1 n1 c1 nl o3 n3 c3 sl) (by kernel_rfl) (by kernel_rfl) rfl (by decide) (fun i j _ _ h=>by have h2:6+i=6+j:=h; omega) (fun i hi=>by show 6+i<82; omega) ?_ (fun _=>cO 14 (by kernel_rfl)) ?_ ?_
 ·intro i o hi ho a x D hnd hc hD hb seen K hK;clear HQ;rcases (by omega:i=0\/i=1\/i=2\/i=3\/i=4\/i=5\/i=6) with rfl|rfl|rfl|rfl|rfl|rfl|rfl
  ·cases ho;have e1:a.eval (aj 1)=O (Y ⟨b1,0,Z⟩):=seen.kp 1 _ (nd 1 (by omega)) rfl;exact aF rfl rfl (aR a.eval _ 33 (aj 1) 1 rfl (by rw [e1]; simp [go_sem])) (hK _ _ rfl (ah _ _) fun _ _ _ _ _ _ _ h=>h)
  ·cases ho;have e6:a.eval (aj 6)=O (Y ⟨b1,1,Z⟩):=seen.at_ ⟨0,.data⟩ (by simp) rfl (ay (by decide));have y1:=(H1.out.on hb).cell 1;simp only [U,V,X] at y1;exact aF rfl rfl (aX a.eval _ 25 (aj 6) rfl (by rw [e6]; simp [go_sem,y1])) (hK _ _ rfl (ah _ _) fun _ _ _ _ _ _ _ h=>h)
  ·cases ho;have e7:a.eval (aj 7)=J o1 n1 c1:=seen.at_ ⟨1,.data⟩ (by simp) rfl (ay (by decide));exact bR rfl rfl (Rw.iG a.eval _ (aj 7) 25 74 rfl e7 rfl _ (fT Tryz.func74 rfl rfl _ _)) (Aa (o1,n1,c1) nl x (R1.out.on hb) L1.out) fun e w1 h=>by
    obtain⟨⟨s,rfl,h1⟩,h3⟩:=h;exact⟨_,rfl,hK _ _ ⟨s,rfl,dJ h1 hb.size⟩ (h3.mono hb.size) fun j u hj _ _ _ hne h=>iN j u _ _ h h3⟩
  ·cases ho;have e1:a.eval (aj 1)=O (Y ⟨b1,0,Z⟩):=seen.kp 1 _ (nd 1 (by omega)) rfl;exact aF rfl rfl (aR a.eval _ 33 (aj 1) 3 rfl (by rw [e1]; simp [go_sem])) (hK _ _ rfl (ah _ _) fun _ _ _ _ _ _ _ h=>h)
  ·cases ho;have e9:a.eval (aj 9)=O (Y ⟨b1,3,Z⟩):=seen.at_ ⟨3,.data⟩ (by simp) rfl (ay (by decide));have y3:=(H1.out.on hb).cell 3;simp only [U,V,X] at y3;exact aF rfl rfl (aX a.eval _ 29 (aj 9) rfl (by rw [e9]; simp [go_sem,y3])) (hK _ _ rfl (ah _ _) fun _ _ _ _ _ _ _ h=>h)
  ·cases ho;have e10:a.eval (aj 10)=J o3 n3 c3:=seen.at_ ⟨4,.data⟩ (by simp) rfl (ay (by decide));exact bR rfl rfl (Rw.iG a.eval _ (aj 10) 29 84 rfl e10 rfl _ (fT Tryz.func84 rfl rfl _ _)) (KG (o3,n3,c3) sl x (R3.out.on hb) L3.out) fun e w1 h=>by
    obtain⟨⟨s,rfl,h1⟩,h3⟩:=h;exact⟨_,rfl,hK _ _ ⟨s,rfl,dJ h1 hb.size⟩ (h3.mono hb.size) fun j u hj _ _ _ hne h=>iN j u _ _ h h3⟩
  ·cases ho;have e1:a.eval (aj 1)=O (Y ⟨b1,0,Z⟩):=seen.kp 1 _ (nd 1 (by omega)) rfl;exact aF rfl rfl (aR a.eval _ 33 (aj 1) 1 rfl (by rw [e1]; simp [go_sem])) (hK _ _ rfl (ah _ _) fun _ _ _ _ _ _ _ h=>h)
 ·intro kk o h1 h2 ho;rcases (by omega:kk=8\/kk=9) with rfl|rfl
  ·cases ho;exact⟨⟨7,.phase⟩,by simp,rfl,rfl⟩
  ·cases ho;exact⟨⟨8,.data⟩,by simp,rfl,rfl⟩
 ·intro a w' df sz kp ⟨vs,hv⟩ hb;have sz':a.tmps.size=82:=sz;have g1:a.tmps[1]?=Y (O (Y ⟨b1,0,Z⟩)):=(kp 1 (nd 1 (by omega))).trans rfl;have g12:a.tmps[12]?=Y (O (Y ⟨b1,1,Z⟩)):=by
   have h:vs 6=O (Y ⟨b1,1,Z⟩):=(hv 6 (by omega)).2 (by decide);rw [<- h];exact (hv 6 (by omega)).1
  obtain⟨⟨p1,q1,s1⟩,hs1,ho1⟩:=(hv 2 (by omega)).2 (by decide);have g8:a.tmps[8]?=Y (J p1 q1 s1):=((hv 2 (by omega)).1).trans (congrArg Y hs1);rw [hs1] at ho1;obtain⟨⟨p3,q3,s3⟩,hs3,ho3⟩:=(hv 5 (by omega)).2 (by decide);have g11:a.tmps[11]?=Y (J p3 q3 s3):=((hv 5 (by omega)).1).trans (congrArg Y hs3);rw [hs3] at ho3;have hB:=H1.out.on hb;have hlt:=H1.out.lt;show bK _ _ _ 3 7 a w';simp only [bK];have c1x:=hB.cell 1;have f1x:=hB.fr 1;simp only [U,V,X] at c1x;refine bS 25 (aj 12) (aj 8) rfl rfl rfl rfl (aS g12) (aS g8) (w':=(w').setCell ⟨b1,1,Z⟩ (J p1 q1 s1)) (by simp [go_sem,c1x,f1x]) ?_;have hB1:dN ((w').setCell ⟨b1,1,Z⟩ (J p1 q1 s1)) b1 #[aA aB me,J p1 q1 s1,z2,J o3 n3 c3,z4,z5] 33:=by simpa using dR (k:=1) hB (J p1 q1 s1)
  refine aF rfl rfl (aR _ _ 33 (aj 1) 3 rfl (v:=O (Y ⟨b1,3,Z⟩)) (by rw [aS g1]; simp [go_sem])) ?_;have ah3:((a).put (Y 13) (O (Y ⟨b1,3,Z⟩))).tmps[13]?=Y (O (Y ⟨b1,3,Z⟩)):=by simp [Act.put,sz']
  show cZ _ _ _ 9 _ ((a).put (Y 13) (O (Y ⟨b1,3,Z⟩))) _;have c3x:=hB1.cell 3;have f3x:=hB1.fr 3;simp only [U,V,X] at c3x;refine bS 29 (aj 13) (aj 11) rfl rfl rfl rfl (aS ah3) (aS ((aP _ 13 _ 11 (by decide)).trans g11)) (w':=((w').setCell ⟨b1,1,Z⟩ (J p1 q1 s1)).setCell ⟨b1,3,Z⟩ (J p3 q3 s3)) (by simp [go_sem,c3x,f3x]) ?_;have hB3:dN (((w').setCell ⟨b1,1,Z⟩ (J p1 q1 s1)).setCell ⟨b1,3,Z⟩ (J p3 q3 s3)) b1 #[aA aB me,J p1 q1 s1,z2,J p3 q3 s3,z4,z5] 33:=by simpa using dR (k:=3) hB1 (J p3 q3 s3)
  have sI:∀ j,(j<6\/14<=j)->((a).put (Y 13) (O (Y ⟨b1,3,Z⟩))).tmps[j]?=(u0::O (Y ⟨b1,0,Z⟩)::u2::u3::u4::u5::u6::u7::u8::u9::u10::u11::u12::u13::u14::u15::u16::u17::u18::u19::u20::u21::u22::u23::u24::u25::u26::u27::u28::u29::u30::u31::u32::u33::u34::u35::u36::u37::u38::u39::u40::u41::u42::u43::u44::u45::u46::u47::u48::u49::u50::u51::u52::u53::u54::u55::u56::u57::u58::u59::u60::u61::u62::u63::u64::u65::u66::u67::u68::u69::u70::u71::u72::u73::u74::u75::u76::u77::u78::u79::u80::u81::[])[j]?:=fun j hj=>(aP _ 13 _ j (by omega)).trans ((kp j (nd j (by omega))).trans U);obtain⟨mid,hmid,hfr⟩:=dh (a:=(a).put (Y 13) (O (Y ⟨b1,3,Z⟩))) 6 8 df (by simp [bW,sz']) (by simp) sI;show Q .normal ((a).put (Y 13) (O (Y ⟨b1,3,Z⟩))) _;rw [hfr]
  match mid,hmid with
  | [v6,v7,v8,v9,v10,v11,v12,v13],_ =>
   exact HQ.out _ _ _ _ _ _ _ _ _ p1 q1 s1 p3 q3 s3 hB3 (dP (dP ho1 b1 1 (J p1 q1 s1) hlt) b1 3 (J p3 q3 s3) hlt) (dP (dP ho3 b1 1 (J p1 q1 s1) hlt) b1 3 (J p3 q3 s3) hlt) (fun B hBl=>(((hb.mono (bU (bH hBl hlt))).setCell (p:=⟨b1,1,Z⟩) hBl (J p1 q1 s1)).setCell (p:=⟨b1,3,Z⟩) hBl (J p3 q3 s3))) (fun k hk hne=>((aH ((w').setCell ⟨b1,1,Z⟩ (J p1 q1 s1)) ⟨b1,3,Z⟩ (J p3 q3 s3) k hne).trans ((aH (w') ⟨b1,1,Z⟩ (J p1 q1 s1) k hne).trans (hb.block k hk))))
def YJ (B:Nat) (b1:Nat) (_me:Int) (_z1 _z3:aD) (o2:Option aN) (n2 c2:Nat) (al:List kr) (o4:Option aN) (n4 c4:Nat) (el:List iH) (o5:Option aN) (n5 c5:Nat) (ol:List pK) (i:Nat) (v:aD) (x:aI):Prop :=
 match i with
 | 0=>v=O (Y ⟨b1,2,Z⟩)
 | 1=>v=J o2 n2 c2
 | 2=>∃ s:Sl,v=dU s/\lD x B v al
 | 3=>v=O (Y ⟨b1,4,Z⟩)
 | 4=>v=J o4 n4 c4
 | 5=>∃ s:Sl,v=dU s/\iU x B v el
 | 6=>v=O (Y ⟨b1,5,Z⟩)
 | 7=>v=J o5 n5 c5
 | 8=>∃ s:Sl,v=dU s/\og x B v ol
 | 9=>v=O (Y ⟨b1,2,Z⟩)
 | _=>True
noncomputable def ae6:dn:=((Tryz.f50.body.bind (eP 2)).getD .skip)
theorem YK (B:Nat) (b1:Nat) (me:Int) (z1 z3:aD) (o2:Option aN) (n2 c2:Nat) (al:List kr) (o4:Option aN) (n4 c4:Nat) (el:List iH) (o5:Option aN) (n5 c5:Nat) (ol:List pK) (i:Nat) (v:aD) (x x':aI) (h:YJ B b1 me z1 z3 o2 n2 c2 al o4 n4 c4 el o5 n5 c5 ol i v x) (hb:Below x.heap.size x x'):YJ B b1 me z1 z3 o2 n2 c2 al o4 n4 c4 el o5 n5 c5 ol i v x':=by
 by_cases hi:i<10
 ·rcases (by omega:i=0\/i=1\/i=2\/i=3\/i=4\/i=5\/i=6\/i=7\/i=8\/i=9) with rfl|rfl|rfl|rfl|rfl|rfl|rfl|rfl|rfl|rfl
  ·exact h
  ·exact h
  ·obtain⟨s,h1,h2⟩:=h; exact⟨s,h1,Bk.dG h2 hb⟩
  ·exact h
  ·exact h
  ·obtain⟨s,h1,h2⟩:=h; exact⟨s,h1,Bk.dG h2 hb⟩
  ·exact h
  ·exact h
  ·obtain⟨s,h1,h2⟩:=h; exact⟨s,h1,Bk.dG h2 hb⟩
  ·exact h
 ·unfold YJ
  split <;> first | omega | trivial
theorem cp2 (Q:dw->Act->aI->Prop) (W:aI) (b1:Nat) (me:Int) (z1 z3:aD) (o2:Option aN) (n2 c2:Nat) (al:List kr) (o4:Option aN) (n4 c4:Nat) (el:List iH) (o5:Option aN) (n5 c5:Nat) (ol:List pK) (u0 u2 u3 u4 u5 u6 u7 u8 u9 u10 u11 u12 u13 u14 u15 u16 u17 u18 u19 u20 u21 u22 u23 u24 u25 u26 u27 u28 u29 u30 u31 u32 u33 u34 u35 u36 u37 u38 u39 u40 u41 u42 u43 u44 u45 u46 u47 u48 u49 u50 u51 u52 u53 u54 u55 u56 u57 u58 u59 u60 u61 u62 u63 u64 u65 u66 u67 u68 u69 u70 u71 u72 u73 u74 u75 u76 u77 u78 u79 u80 u81:aD)
  (h1:dN W b1 #[aA aB me,z1,J o2 n2 c2,z3,J o4 n4 c4,J o5 n5 c5] 33) (r2:wB W (J o2 n2 c2) al) (r4:kM W (J o4 n4 c4) el) (r5:Ko W (J o5 n5 c5) ol) (l2:al.length<=900) (l4:el.length<=900) (l5:ol.length<=900)
  (hQ:∀ (x:aI) (v14 v15 v16 v17 v18 v19 v20 v21 v22 v23 v24 v25:aD) (p2:Option aN) (q2 s2:Nat) (p4:Option aN) (q4 s4:Nat) (p5:Option aN) (q5 s5:Nat),dN x b1 #[aA aB me,z1,J p2 q2 s2,z3,J p4 q4 s4,J p5 q5 s5] 33->lD x W.heap.size (J p2 q2 s2) al->iU x W.heap.size (J p4 q4 s4) el->og x W.heap.size (J p5 q5 s5) ol->(∀ B,B<=b1->Below B W x)->(∀ k,k<W.heap.size->k≠b1->x.heap[k]?=W.heap[k]?)->Q .normal ⟨(u0::O (Y ⟨b1,0,Z⟩)::u2::u3::u4::u5::u6::u7::u8::u9::u10::u11::u12::u13::v14::v15::v16::v17::v18::v19::v20::v21::v22::v23::v24::v25::u26::u27::u28::u29::u30::u31::u32::u33::u34::u35::u36::u37::u38::u39::u40::u41::u42::u43::u44::u45::u46::u47::u48::u49::u50::u51::u52::u53::u54::u55::u56::u57::u58::u59::u60::u61::u62::u63::u64::u65::u66::u67::u68::u69::u70::u71::u72::u73::u74::u75::u76::u77::u78::u79::u80::u81::[]).toArray,[]⟩ x) :
  Code.wp aL ae6 Q ⟨(u0::O (Y ⟨b1,0,Z⟩)::u2::u3::u4::u5::u6::u7::u8::u9::u10::u11::u12::u13::u14::u15::u16::u17::u18::u19::u20::u21::u22::u23::u24::u25::u26::u27::u28::u29::u30::u31::u32::u33::u34::u35::u36::u37::u38::u39::u40::u41::u42::u43::u44::u45::u46::u47::u48::u49::u50::u51::u52::u53::u54::u55::u56::u57::u58::u59::u60::u61::u62::u63::u64::u65::u66::u67::u68::u69::u70::u71::u72::u73::u74::u75::u76::u77::u78::u79::u80::u81::[]).toArray,[]⟩ W:=by
 have HQ:=L hQ;have H1:=L h1;have R2:=L r2;have R4:=L r4;have R5:=L r5;have L2:=L l2;have L4:=L l4;have L5:=L l5;clear hQ h1 r2 r4 r5 l2 l4 l5;have iN:=YK W.heap.size b1 me z1 z3 o2 n2 c2 al o4 n4 c4 el o5 n5 c5 ol;unfold ae6
 conv=>arg 2; whnf
 have nd:∀ j,(j<14\/24<=j)->∀ i,i<10->(fun i=>14+i) i≠j:=by
  intro j hj i hi h;simp only at h;omega
 refine cK 15 10 (fun i=>14+i) (fun _=>10) (YJ W.heap.size b1 me z1 z3 o2 n2 c2 al o4 n4 c4 el o5 n5 c5 ol) (by kernel_rfl) (by kernel_rfl) rfl (by decide) (fun i j _ _ h=>by have h2:14+i=14+j:=h; omega) (fun i hi=>by show 14+i<82; omega) ?_ (fun _=>cO 14 (by kernel_rfl)) ?_ ?_
 ·intro i o hi ho a x D hnd hc hD hb seen K hK;clear HQ;rcases (by omega:i=0\/i=1\/i=2\/i=3\/i=4\/i=5\/i=6\/i=7\/i=8\/i=9) with rfl|rfl|rfl|rfl|rfl|rfl|rfl|rfl|rfl|rfl
  ·cases ho;have e1:a.eval (aj 1)=O (Y ⟨b1,0,Z⟩):=seen.kp 1 _ (nd 1 (by omega)) rfl;exact aF rfl rfl (aR a.eval _ 33 (aj 1) 2 rfl (by rw [e1]; simp [go_sem])) (hK _ _ rfl (ah _ _) fun _ _ _ _ _ _ _ h=>h)
  ·cases ho;have e14:a.eval (aj 14)=O (Y ⟨b1,2,Z⟩):=seen.at_ ⟨0,.data⟩ (by simp) rfl (ay (by decide));have y2:=(H1.out.on hb).cell 2;simp only [U,V,X] at y2;exact aF rfl rfl (aX a.eval _ 28 (aj 14) rfl (by rw [e14]; simp [go_sem,y2])) (hK _ _ rfl (ah _ _) fun _ _ _ _ _ _ _ h=>h)
  ·cases ho;have e15:a.eval (aj 15)=J o2 n2 c2:=seen.at_ ⟨1,.data⟩ (by simp) rfl (ay (by decide));exact bR rfl rfl (Rw.iG a.eval _ (aj 15) 28 85 rfl e15 rfl _ (fT Tryz.func85 rfl rfl _ _)) (KJ (o2,n2,c2) al x (R2.out.on hb) L2.out) fun e w1 h=>by
    obtain⟨⟨s,rfl,h1⟩,h3⟩:=h;exact⟨_,rfl,hK _ _ ⟨s,rfl,dJ h1 hb.size⟩ (h3.mono hb.size) fun j u hj _ _ _ hne h=>iN j u _ _ h h3⟩
  ·cases ho;have e1:a.eval (aj 1)=O (Y ⟨b1,0,Z⟩):=seen.kp 1 _ (nd 1 (by omega)) rfl;exact aF rfl rfl (aR a.eval _ 33 (aj 1) 4 rfl (by rw [e1]; simp [go_sem])) (hK _ _ rfl (ah _ _) fun _ _ _ _ _ _ _ h=>h)
  ·cases ho;have e17:a.eval (aj 17)=O (Y ⟨b1,4,Z⟩):=seen.at_ ⟨3,.data⟩ (by simp) rfl (ay (by decide));have y4:=(H1.out.on hb).cell 4;simp only [U,V,X] at y4;exact aF rfl rfl (aX a.eval _ 30 (aj 17) rfl (by rw [e17]; simp [go_sem,y4])) (hK _ _ rfl (ah _ _) fun _ _ _ _ _ _ _ h=>h)
  ·cases ho;have e18:a.eval (aj 18)=J o4 n4 c4:=seen.at_ ⟨4,.data⟩ (by simp) rfl (ay (by decide));exact bR rfl rfl (Rw.iG a.eval _ (aj 18) 30 86 rfl e18 rfl _ (fT Tryz.func86 rfl rfl _ _)) (KP (o4,n4,c4) el x (R4.out.on hb) L4.out) fun e w1 h=>by
    obtain⟨⟨s,rfl,h1⟩,h3⟩:=h;exact⟨_,rfl,hK _ _ ⟨s,rfl,dJ h1 hb.size⟩ (h3.mono hb.size) fun j u hj _ _ _ hne h=>iN j u _ _ h h3⟩
  ·cases ho;have e1:a.eval (aj 1)=O (Y ⟨b1,0,Z⟩):=seen.kp 1 _ (nd 1 (by omega)) rfl;exact aF rfl rfl (aR a.eval _ 33 (aj 1) 5 rfl (by rw [e1]; simp [go_sem])) (hK _ _ rfl (ah _ _) fun _ _ _ _ _ _ _ h=>h)
  ·cases ho;have e20:a.eval (aj 20)=O (Y ⟨b1,5,Z⟩):=seen.at_ ⟨6,.data⟩ (by simp) rfl (ay (by decide));have y5:=(H1.out.on hb).cell 5;simp only [U,V,X] at y5;exact aF rfl rfl (aX a.eval _ 31 (aj 20) rfl (by rw [e20]; simp [go_sem,y5])) (hK _ _ rfl (ah _ _) fun _ _ _ _ _ _ _ h=>h)
  ·cases ho;have e21:a.eval (aj 21)=J o5 n5 c5:=seen.at_ ⟨7,.data⟩ (by simp) rfl (ay (by decide));exact bR rfl rfl (Rw.iG a.eval _ (aj 21) 31 87 rfl e21 rfl _ (fT Tryz.func87 rfl rfl _ _)) (KR (o5,n5,c5) ol x (R5.out.on hb) L5.out) fun e w1 h=>by
    obtain⟨⟨s,rfl,h1⟩,h3⟩:=h;exact⟨_,rfl,hK _ _ ⟨s,rfl,dJ h1 hb.size⟩ (h3.mono hb.size) fun j u hj _ _ _ hne h=>iN j u _ _ h h3⟩
  ·cases ho;have e1:a.eval (aj 1)=O (Y ⟨b1,0,Z⟩):=seen.kp 1 _ (nd 1 (by omega)) rfl;exact aF rfl rfl (aR a.eval _ 33 (aj 1) 2 rfl (by rw [e1]; simp [go_sem])) (hK _ _ rfl (ah _ _) fun _ _ _ _ _ _ _ h=>h)
 ·intro kk o h1 h2 ho;rcases (by omega:kk=11\/kk=12\/kk=13\/kk=14) with rfl|rfl|rfl|rfl
  ·cases ho;exact⟨⟨10,.phase⟩,by simp,rfl,rfl⟩
  ·cases ho;exact⟨⟨11,.data⟩,by simp,rfl,rfl⟩
  ·cases ho;exact⟨⟨12,.phase⟩,by simp,rfl,rfl⟩
  ·cases ho;exact⟨⟨13,.data⟩,by simp,rfl,rfl⟩
 ·intro a w' df sz kp ⟨vs,hv⟩ hb;have sz':a.tmps.size=82:=sz;have g1:a.tmps[1]?=Y (O (Y ⟨b1,0,Z⟩)):=(kp 1 (nd 1 (by omega))).trans rfl;have g23:a.tmps[23]?=Y (O (Y ⟨b1,2,Z⟩)):=by
   have h:vs 9=O (Y ⟨b1,2,Z⟩):=(hv 9 (by omega)).2 (by decide);rw [<- h];exact (hv 9 (by omega)).1
  obtain⟨⟨p2,q2,s2⟩,hs2,ho2⟩:=(hv 2 (by omega)).2 (by decide);have g16:a.tmps[16]?=Y (J p2 q2 s2):=((hv 2 (by omega)).1).trans (congrArg Y hs2);rw [hs2] at ho2;obtain⟨⟨p4,q4,s4⟩,hs4,ho4⟩:=(hv 5 (by omega)).2 (by decide);have g19:a.tmps[19]?=Y (J p4 q4 s4):=((hv 5 (by omega)).1).trans (congrArg Y hs4);rw [hs4] at ho4;obtain⟨⟨p5,q5,s5⟩,hs5,ho5⟩:=(hv 8 (by omega)).2 (by decide);have g22:a.tmps[22]?=Y (J p5 q5 s5):=((hv 8 (by omega)).1).trans (congrArg Y hs5);rw [hs5] at ho5;have hB:=H1.out.on hb;have hlt:=H1.out.lt;show bK _ _ _ 5 10 a w';simp only [bK];have c2x:=hB.cell 2;have f2x:=hB.fr 2;simp only [U,V,X] at c2x;refine bS 28 (aj 23) (aj 16) rfl rfl rfl rfl (aS g23) (aS g16) (w':=(w').setCell ⟨b1,2,Z⟩ (J p2 q2 s2)) (by simp [go_sem,c2x,f2x]) ?_;have hB2:dN ((w').setCell ⟨b1,2,Z⟩ (J p2 q2 s2)) b1 #[aA aB me,z1,J p2 q2 s2,z3,J o4 n4 c4,J o5 n5 c5] 33:=by simpa using dR (k:=2) hB (J p2 q2 s2)
  refine aF rfl rfl (aR _ _ 33 (aj 1) 4 rfl (v:=O (Y ⟨b1,4,Z⟩)) (by rw [aS g1]; simp [go_sem])) ?_;have ah4:((a).put (Y 24) (O (Y ⟨b1,4,Z⟩))).tmps[24]?=Y (O (Y ⟨b1,4,Z⟩)):=by simp [Act.put,sz']
  show cZ _ _ _ 12 _ ((a).put (Y 24) (O (Y ⟨b1,4,Z⟩))) _;have c4x:=hB2.cell 4;have f4x:=hB2.fr 4;simp only [U,V,X] at c4x;refine bS 30 (aj 24) (aj 19) rfl rfl rfl rfl (aS ah4) (aS ((aP _ 24 _ 19 (by decide)).trans g19)) (w':=((w').setCell ⟨b1,2,Z⟩ (J p2 q2 s2)).setCell ⟨b1,4,Z⟩ (J p4 q4 s4)) (by simp [go_sem,c4x,f4x]) ?_;have hB4:dN (((w').setCell ⟨b1,2,Z⟩ (J p2 q2 s2)).setCell ⟨b1,4,Z⟩ (J p4 q4 s4)) b1 #[aA aB me,z1,J p2 q2 s2,z3,J p4 q4 s4,J o5 n5 c5] 33:=by simpa using dR (k:=4) hB2 (J p4 q4 s4)
  refine aF rfl rfl (aR _ _ 33 (aj 1) 5 rfl (v:=O (Y ⟨b1,5,Z⟩)) (by rw [aS ((aP _ 24 _ 1 (by decide)).trans g1)]; simp [go_sem])) ?_;have ah5:(((a).put (Y 24) (O (Y ⟨b1,4,Z⟩))).put (Y 25) (O (Y ⟨b1,5,Z⟩))).tmps[25]?=Y (O (Y ⟨b1,5,Z⟩)):=by simp [Act.put,sz']
  show cZ _ _ _ 14 _ (((a).put (Y 24) (O (Y ⟨b1,4,Z⟩))).put (Y 25) (O (Y ⟨b1,5,Z⟩))) _;have c5x:=hB4.cell 5;have f5x:=hB4.fr 5;simp only [U,V,X] at c5x;refine bS 31 (aj 25) (aj 22) rfl rfl rfl rfl (aS ah5) (aS ((aP _ 25 _ 22 (by decide)).trans ((aP _ 24 _ 22 (by decide)).trans g22))) (w':=(((w').setCell ⟨b1,2,Z⟩ (J p2 q2 s2)).setCell ⟨b1,4,Z⟩ (J p4 q4 s4)).setCell ⟨b1,5,Z⟩ (J p5 q5 s5)) (by simp [go_sem,c5x,f5x]) ?_;have hB5:dN ((((w').setCell ⟨b1,2,Z⟩ (J p2 q2 s2)).setCell ⟨b1,4,Z⟩ (J p4 q4 s4)).setCell ⟨b1,5,Z⟩ (J p5 q5 s5)) b1 #[aA aB me,z1,J p2 q2 s2,z3,J p4 q4 s4,J p5 q5 s5] 33:=by simpa using dR (k:=5) hB4 (J p5 q5 s5)
  have sI:∀ j,(j<14\/26<=j)->(((a).put (Y 24) (O (Y ⟨b1,4,Z⟩))).put (Y 25) (O (Y ⟨b1,5,Z⟩))).tmps[j]?=(u0::O (Y ⟨b1,0,Z⟩)::u2::u3::u4::u5::u6::u7::u8::u9::u10::u11::u12::u13::u14::u15::u16::u17::u18::u19::u20::u21::u22::u23::u24::u25::u26::u27::u28::u29::u30::u31::u32::u33::u34::u35::u36::u37::u38::u39::u40::u41::u42::u43::u44::u45::u46::u47::u48::u49::u50::u51::u52::u53::u54::u55::u56::u57::u58::u59::u60::u61::u62::u63::u64::u65::u66::u67::u68::u69::u70::u71::u72::u73::u74::u75::u76::u77::u78::u79::u80::u81::[])[j]?:=fun j hj=>(aP _ 25 _ j (by omega)).trans ((aP _ 24 _ j (by omega)).trans ((kp j (nd j (by omega))).trans U));obtain⟨mid,hmid,hfr⟩:=dh (a:=((a).put (Y 24) (O (Y ⟨b1,4,Z⟩))).put (Y 25) (O (Y ⟨b1,5,Z⟩))) 14 12 df (by simp [bW,sz']) (by simp) sI;show Q .normal (((a).put (Y 24) (O (Y ⟨b1,4,Z⟩))).put (Y 25) (O (Y ⟨b1,5,Z⟩))) _;rw [hfr]
  match mid,hmid with
  | [v14,v15,v16,v17,v18,v19,v20,v21,v22,v23,v24,v25],_ =>
   exact HQ.out _ _ _ _ _ _ _ _ _ _ _ _ _ p2 q2 s2 p4 q4 s4 p5 q5 s5 hB5 (dP (dP (dP ho2 b1 2 (J p2 q2 s2) hlt) b1 4 (J p4 q4 s4) hlt) b1 5 (J p5 q5 s5) hlt) (dP (dP (dP ho4 b1 2 (J p2 q2 s2) hlt) b1 4 (J p4 q4 s4) hlt) b1 5 (J p5 q5 s5) hlt) (dP (dP (dP ho5 b1 2 (J p2 q2 s2) hlt) b1 4 (J p4 q4 s4) hlt) b1 5 (J p5 q5 s5) hlt) (fun B hBl=>((((hb.mono (bU (bH hBl hlt))).setCell (p:=⟨b1,2,Z⟩) hBl (J p2 q2 s2)).setCell (p:=⟨b1,4,Z⟩) hBl (J p4 q4 s4)).setCell (p:=⟨b1,5,Z⟩) hBl (J p5 q5 s5))) (fun k hk hne=>((aH (((w').setCell ⟨b1,2,Z⟩ (J p2 q2 s2)).setCell ⟨b1,4,Z⟩ (J p4 q4 s4)) ⟨b1,5,Z⟩ (J p5 q5 s5) k hne).trans ((aH ((w').setCell ⟨b1,2,Z⟩ (J p2 q2 s2)) ⟨b1,4,Z⟩ (J p4 q4 s4) k hne).trans ((aH (w') ⟨b1,2,Z⟩ (J p2 q2 s2) k hne).trans (hb.block k hk)))))
def YL (B:Nat) (b1:Nat) (_me:Int) (_z1 _z3 _z4 _z5:aD) (g n cap k:Nat) (y1 y2:Int) (yo:Option aN) (yn yc:Nat) (y4:Int) (p:List C5) (i:Nat) (v:aD) (x:aI):Prop :=
 match i with
 | 0=>v=O (Y ⟨b1,2,Z⟩)
 | 1=>v=J (Y ⟨g,0,Z⟩) n cap
 | 2=>v=aA aB (k:Int)
 | 3=>v=O (Y ⟨b1,2,Z⟩)
 | 4=>v=J (Y ⟨g,0,Z⟩) n cap
 | 5=>v=aA aB (k:Int)
 | 6=>v=O (Y ⟨g,k * 4,Z⟩)
 | 7=>v=nR (y1,y2,(yo,yn,yc),y4)
 | 8=>∃ s:Sl,v=nR (y1,y2,s,y4)/\jP x B (dU s) p
 | 9=>v=O (Y ⟨g,k * 4,Z⟩)
 | _=>True
noncomputable def ae9:dn:=((Tryz.f50.body.bind (eP 6)).getD .skip)
theorem YM (B:Nat) (b1:Nat) (me:Int) (z1 z3 z4 z5:aD) (g n cap k:Nat) (y1 y2:Int) (yo:Option aN) (yn yc:Nat) (y4:Int) (p:List C5) (i:Nat) (v:aD) (x x':aI) (h:YL B b1 me z1 z3 z4 z5 g n cap k y1 y2 yo yn yc y4 p i v x) (hb:Below x.heap.size x x'):YL B b1 me z1 z3 z4 z5 g n cap k y1 y2 yo yn yc y4 p i v x':=by
 by_cases hi:i<10
 ·rcases (by omega:i=0\/i=1\/i=2\/i=3\/i=4\/i=5\/i=6\/i=7\/i=8\/i=9) with rfl|rfl|rfl|rfl|rfl|rfl|rfl|rfl|rfl|rfl
  ·exact h
  ·exact h
  ·exact h
  ·exact h
  ·exact h
  ·exact h
  ·exact h
  ·exact h
  ·obtain⟨s,h1,h2⟩:=h; exact⟨s,h1,Bk.dG h2 hb⟩
  ·exact h
 ·unfold YL
  split <;> first | omega | trivial
theorem cp6 (Q:dw->Act->aI->Prop) (W:aI) (B0:Nat) (l:List kr) (b1:Nat) (me:Int) (z1 z3 z4 z5:aD) (g n cap k:Nat) (y1 y2:Int) (yo:Option aN) (yn yc:Nat) (y4:Int) (p:List C5) (u0 u2 u4 u5 u6 u7 u8 u9 u10 u11 u12 u13 u14 u15 u16 u17 u18 u19 u20 u21 u22 u23 u24 u25 u26 u27 u28 u29 u30 u31 u32 u33 u34 u35 u36 u37 u38 u39 u40 u41 u42 u43 u44 u45 u46 u47 u48 u49 u50 u51 u52 u53 u54 u55 u56 u57 u58 u59 u60 u61 u62 u63 u64 u65 u66 u67 u68 u69 u70 u71 u72 u73 u74 u75 u76 u77 u78 u79 u80 u81:aD)
  (h1:dN W b1 #[aA aB me,z1,J (Y ⟨g,0,Z⟩) n cap,z3,z4,z5] 33) (ho:lD W B0 (J (Y ⟨g,0,Z⟩) n cap) l) (hy:l[k]?=Y (y1,y2,(yo,yn,yc),y4)) (hp:gu W (J yo yn yc) p) (lp:p.length<=900)
  (hQ:∀ (x:aI) (v32 v33 v34 v35 v36 v37 v38 v39 v40 v41:aD) (s1:Option aN) (s2 s3:Nat),jP x W.heap.size (J s1 s2 s3) p->lD x B0 (J (Y ⟨g,0,Z⟩) n cap) (l.set k (y1,y2,(s1,s2,s3),y4))->But g W x->(∀ B1,B1<=g->B1<=W.heap.size->Below B1 W x)->Q .normal ⟨(u0::O (Y ⟨b1,0,Z⟩)::u2::aA aB (k:Int)::u4::u5::u6::u7::u8::u9::u10::u11::u12::u13::u14::u15::u16::u17::u18::u19::u20::u21::u22::u23::u24::u25::u26::u27::u28::u29::u30::u31::v32::v33::v34::v35::v36::v37::v38::v39::v40::v41::u42::u43::u44::u45::u46::u47::u48::u49::u50::u51::u52::u53::u54::u55::u56::u57::u58::u59::u60::u61::u62::u63::u64::u65::u66::u67::u68::u69::u70::u71::u72::u73::u74::u75::u76::u77::u78::u79::u80::u81::[]).toArray,[]⟩ x) :
  Code.wp aL ae9 Q ⟨(u0::O (Y ⟨b1,0,Z⟩)::u2::aA aB (k:Int)::u4::u5::u6::u7::u8::u9::u10::u11::u12::u13::u14::u15::u16::u17::u18::u19::u20::u21::u22::u23::u24::u25::u26::u27::u28::u29::u30::u31::u32::u33::u34::u35::u36::u37::u38::u39::u40::u41::u42::u43::u44::u45::u46::u47::u48::u49::u50::u51::u52::u53::u54::u55::u56::u57::u58::u59::u60::u61::u62::u63::u64::u65::u66::u67::u68::u69::u70::u71::u72::u73::u74::u75::u76::u77::u78::u79::u80::u81::[]).toArray,[]⟩ W:=by
 have HQ:=L hQ;have H1:=L h1;have HO:=L ho;have HY:=L hy;have HP:=L hp;have LP:=L lp;have IX:=L (oW okD g k n cap (by obtain⟨_,_,hv⟩:=(Row.dH ho).len; have h:=(au.1 hy).1; simp at hv; omega));have EL:=L (jG okD ho hy);clear hQ h1 ho hy hp lp;have iN:=YM W.heap.size b1 me z1 z3 z4 z5 g n cap k y1 y2 yo yn yc y4 p;unfold ae9
 conv=>arg 2; whnf
 have nd:∀ j,(j<32\/42<=j)->∀ i,i<10->(fun i=>32+i) i≠j:=by
  intro j hj i hi h;simp only at h;omega
 refine cK 11 10 (fun i=>32+i) (fun _=>10) (YL W.heap.size b1 me z1 z3 z4 z5 g n cap k y1 y2 yo yn yc y4 p) (by kernel_rfl) (by kernel_rfl) rfl (by decide) (fun i j _ _ h=>by have h2:32+i=32+j:=h; omega) (fun i hi=>by show 32+i<82; omega) ?_ (fun _=>cO 14 (by kernel_rfl)) ?_ ?_
 ·intro i o hi ho a x D hnd hc hD hb seen K hK;clear HQ;rcases (by omega:i=0\/i=1\/i=2\/i=3\/i=4\/i=5\/i=6\/i=7\/i=8\/i=9) with rfl|rfl|rfl|rfl|rfl|rfl|rfl|rfl|rfl|rfl
  ·cases ho;have e1:a.eval (aj 1)=O (Y ⟨b1,0,Z⟩):=seen.kp 1 _ (nd 1 (by omega)) rfl;exact aF rfl rfl (aR a.eval _ 33 (aj 1) 2 rfl (by rw [e1]; simp [go_sem])) (hK _ _ rfl (ah _ _) fun _ _ _ _ _ _ _ h=>h)
  ·cases ho;have e32:a.eval (aj 32)=O (Y ⟨b1,2,Z⟩):=seen.at_ ⟨0,.data⟩ (by simp) rfl (ay (by decide));have y2:=(H1.out.on hb).cell 2;simp only [U,V,X] at y2;exact aF rfl rfl (aX a.eval _ 28 (aj 32) rfl (by rw [e32]; simp [go_sem,y2])) (hK _ _ rfl (ah _ _) fun _ _ _ _ _ _ _ h=>h)
  ·cases ho;have e3:a.eval (aj 3)=aA aB (k:Int):=seen.kp 3 _ (nd 3 (by omega)) rfl;exact aF rfl rfl (bY a.eval _ (aj 3) rfl x) (hK _ _ e3 (ah _ _) fun _ _ _ _ _ _ _ h=>h)
  ·cases ho;have e1:a.eval (aj 1)=O (Y ⟨b1,0,Z⟩):=seen.kp 1 _ (nd 1 (by omega)) rfl;exact aF rfl rfl (aR a.eval _ 33 (aj 1) 2 rfl (by rw [e1]; simp [go_sem])) (hK _ _ rfl (ah _ _) fun _ _ _ _ _ _ _ h=>h)
  ·cases ho;have e35:a.eval (aj 35)=O (Y ⟨b1,2,Z⟩):=seen.at_ ⟨3,.data⟩ (by simp) rfl (ay (by decide));have y2:=(H1.out.on hb).cell 2;simp only [U,V,X] at y2;exact aF rfl rfl (aX a.eval _ 28 (aj 35) rfl (by rw [e35]; simp [go_sem,y2])) (hK _ _ rfl (ah _ _) fun _ _ _ _ _ _ _ h=>h)
  ·cases ho;have e3:a.eval (aj 3)=aA aB (k:Int):=seen.kp 3 _ (nd 3 (by omega)) rfl;exact aF rfl rfl (bY a.eval _ (aj 3) rfl x) (hK _ _ e3 (ah _ _) fun _ _ _ _ _ _ _ h=>h)
  ·cases ho;have e36:a.eval (aj 36)=J (Y ⟨g,0,Z⟩) n cap:=seen.at_ ⟨4,.data⟩ (by simp) rfl (ay (by decide));have e37:a.eval (aj 37)=aA aB (k:Int):=seen.at_ ⟨5,.data⟩ (by simp) rfl (ay (by decide));exact aF rfl rfl (bZ a.eval _ 28 (aj 36) (aj 37) rfl (by rw [e36,e37]; exact IX.out x)) (hK _ _ rfl (ah _ _) fun _ _ _ _ _ _ _ h=>h)
  ·cases ho;have e38:a.eval (aj 38)=O (Y ⟨g,k * 4,Z⟩):=seen.at_ ⟨6,.data⟩ (by simp) rfl (ay (by decide));exact aF rfl rfl (aX a.eval _ 53 (aj 38) rfl (by rw [e38]; exact SG x _ (y1,y2,(yo,yn,yc),y4) (EL.out x hb))) (hK _ _ rfl (ah _ _) fun _ _ _ _ _ _ _ h=>h)
  ·cases ho;have e39:a.eval (aj 39)=nR (y1,y2,(yo,yn,yc),y4):=seen.at_ ⟨7,.data⟩ (by simp) rfl (ay (by decide));exact bR rfl rfl (Rw.iG a.eval _ (aj 39) 53 42 rfl e39 rfl _ (fT Tryz.func42 rfl rfl _ _)) (Ac (y1,y2,(yo,yn,yc),y4) p x (HP.out.on hb) LP.out) fun e w1 h=>by
    obtain⟨⟨s,rfl,h1⟩,h3⟩:=h;exact⟨_,rfl,hK _ _ ⟨s,rfl,dJ h1 hb.size⟩ (h3.mono hb.size) fun j u hj _ _ _ hne h=>iN j u _ _ h h3⟩
  ·cases ho;have e33:a.eval (aj 33)=J (Y ⟨g,0,Z⟩) n cap:=seen.at_ ⟨1,.data⟩ (by simp) rfl (ay (by decide));have e34:a.eval (aj 34)=aA aB (k:Int):=seen.at_ ⟨2,.data⟩ (by simp) rfl (ay (by decide));exact aF rfl rfl (bZ a.eval _ 28 (aj 33) (aj 34) rfl (by rw [e33,e34]; exact IX.out x)) (hK _ _ rfl (ah _ _) fun _ _ _ _ _ _ _ h=>h)
 ·intro kk o h1 h2 ho;omega
 ·intro a w' df sz kp ⟨vs,hv⟩ hb;have sz':a.tmps.size=82:=sz;have g41:a.tmps[41]?=Y (O (Y ⟨g,k * 4,Z⟩)):=by
   have h:vs 9=O (Y ⟨g,k * 4,Z⟩):=(hv 9 (by omega)).2 (by decide);rw [<- h];exact (hv 9 (by omega)).1
  obtain⟨⟨s1,s2,s3⟩,hs,hc⟩:=(hv 8 (by omega)).2 (by decide);have g40:a.tmps[40]?=Y (nR (y1,y2,(s1,s2,s3),y4)):=((hv 8 (by omega)).1).trans (congrArg Y hs);obtain⟨w2,hr,st1,st2,st3⟩:=adi (k:=k) (y1,y2,(s1,s2,s3),y4) (Bk.dG HO.out hb) (au.1 HY.out).1;obtain⟨cur,hg⟩:=jf (Bk.dG HO.out hb);show bK _ _ _ 1 10 a w';simp only [bK];refine bS 53 (aj 41) (aj 40) rfl rfl rfl rfl (aS g41) (aS g40) (w':=w2) hr ?_;have sI:∀ j,(j<32\/42<=j)->(a).tmps[j]?=(u0::O (Y ⟨b1,0,Z⟩)::u2::aA aB (k:Int)::u4::u5::u6::u7::u8::u9::u10::u11::u12::u13::u14::u15::u16::u17::u18::u19::u20::u21::u22::u23::u24::u25::u26::u27::u28::u29::u30::u31::u32::u33::u34::u35::u36::u37::u38::u39::u40::u41::u42::u43::u44::u45::u46::u47::u48::u49::u50::u51::u52::u53::u54::u55::u56::u57::u58::u59::u60::u61::u62::u63::u64::u65::u66::u67::u68::u69::u70::u71::u72::u73::u74::u75::u76::u77::u78::u79::u80::u81::[])[j]?:=fun j hj=>(kp j (nd j (by omega))).trans U;obtain⟨mid,hmid,hfr⟩:=dh (a:=a) 32 10 df (by simp [sz']) (by simp) sI;show Q .normal (a) _;rw [hfr]
  match mid,hmid with
  | [v32,v33,v34,v35,v36,v37,v38,v39,v40,v41],_ =>
   exact HQ.out _ _ _ _ _ _ _ _ _ _ _ s1 s2 s3 (st2.own hc hg (by decide)) st1 ((But.of_below hb).trans st2) fun B1 hB hl=>st3 B1 W hB (hb.mono hl)
def Ni (B:Nat) (b1:Nat) (_me:Int) (_z1 _z2 _z3 _z5:aD) (g n cap k:Nat) (_y1 _y2 _y3 _y4:Int) (yo:Option aN) (yn yc:Nat) (_y6:Int) (_y7:Bool) (p:List C5) (i:Nat) (v:aD) (x:aI):Prop :=
 match i with
 | 0=>v=O (Y ⟨b1,4,Z⟩)
 | 1=>v=J (Y ⟨g,0,Z⟩) n cap
 | 2=>v=aA aB (k:Int)
 | 3=>v=O (Y ⟨b1,4,Z⟩)
 | 4=>v=J (Y ⟨g,0,Z⟩) n cap
 | 5=>v=aA aB (k:Int)
 | 6=>v=O (Y ⟨g,k * 7,Z⟩)
 | 7=>v=O (Y ⟨g,k * 7+4,Z⟩)
 | 8=>v=J yo yn yc
 | 9=>∃ s:Sl,v=dU s/\jP x B v p
 | 10=>v=O (Y ⟨g,k * 7,Z⟩)
 | 11=>v=O (Y ⟨g,k * 7+4,Z⟩)
 | _=>True
noncomputable def aan:dn:=((Tryz.f50.body.bind (eP 11)).getD .skip)
theorem Uj (B:Nat) (b1:Nat) (me:Int) (z1 z2 z3 z5:aD) (g n cap k:Nat) (y1 y2 y3 y4:Int) (yo:Option aN) (yn yc:Nat) (y6:Int) (y7:Bool) (p:List C5) (i:Nat) (v:aD) (x x':aI) (h:Ni B b1 me z1 z2 z3 z5 g n cap k y1 y2 y3 y4 yo yn yc y6 y7 p i v x) (hb:Below x.heap.size x x'):Ni B b1 me z1 z2 z3 z5 g n cap k y1 y2 y3 y4 yo yn yc y6 y7 p i v x':=by
 by_cases hi:i<12
 ·rcases (by omega:i=0\/i=1\/i=2\/i=3\/i=4\/i=5\/i=6\/i=7\/i=8\/i=9\/i=10\/i=11) with rfl|rfl|rfl|rfl|rfl|rfl|rfl|rfl|rfl|rfl|rfl|rfl
  ·exact h
  ·exact h
  ·exact h
  ·exact h
  ·exact h
  ·exact h
  ·exact h
  ·exact h
  ·exact h
  ·obtain⟨s,h1,h2⟩:=h; exact⟨s,h1,Bk.dG h2 hb⟩
  ·exact h
  ·exact h
 ·unfold Ni
  split <;> first | omega | trivial
theorem ah7 (Q:dw->Act->aI->Prop) (W:aI) (B0:Nat) (l:List iH) (b1:Nat) (me:Int) (z1 z2 z3 z5:aD) (g n cap k:Nat) (y1 y2 y3 y4:Int) (yo:Option aN) (yn yc:Nat) (y6:Int) (y7:Bool) (p:List C5) (u0 u2 u3 u5 u6 u7 u8 u9 u10 u11 u12 u13 u14 u15 u16 u17 u18 u19 u20 u21 u22 u23 u24 u25 u26 u27 u28 u29 u30 u31 u32 u33 u34 u35 u36 u37 u38 u39 u40 u41 u42 u43 u44 u45 u46 u47 u48 u49 u50 u51 u52 u53 u54 u55 u56 u57 u58 u59 u60 u61 u62 u63 u64 u65 u66 u67 u68 u69 u70 u71 u72 u73 u74 u75 u76 u77 u78 u79 u80 u81:aD)
  (h1:dN W b1 #[aA aB me,z1,z2,z3,J (Y ⟨g,0,Z⟩) n cap,z5] 33) (ho:iU W B0 (J (Y ⟨g,0,Z⟩) n cap) l) (hy:l[k]?=Y (y1,y2,y3,y4,(yo,yn,yc),y6,y7)) (hp:gu W (J yo yn yc) p) (lp:p.length<=900)
  (hQ:∀ (x:aI) (v49 v50 v51 v52 v53 v54 v55 v56 v57 v58 v59 v60:aD) (s1:Option aN) (s2 s3:Nat),jP x W.heap.size (J s1 s2 s3) p->iU x B0 (J (Y ⟨g,0,Z⟩) n cap) (l.set k (y1,y2,y3,y4,(s1,s2,s3),y6,y7))->But g W x->(∀ B1,B1<=g->B1<=W.heap.size->Below B1 W x)->Q .normal ⟨(u0::O (Y ⟨b1,0,Z⟩)::u2::u3::aA aB (k:Int)::u5::u6::u7::u8::u9::u10::u11::u12::u13::u14::u15::u16::u17::u18::u19::u20::u21::u22::u23::u24::u25::u26::u27::u28::u29::u30::u31::u32::u33::u34::u35::u36::u37::u38::u39::u40::u41::u42::u43::u44::u45::u46::u47::u48::v49::v50::v51::v52::v53::v54::v55::v56::v57::v58::v59::v60::u61::u62::u63::u64::u65::u66::u67::u68::u69::u70::u71::u72::u73::u74::u75::u76::u77::u78::u79::u80::u81::[]).toArray,[]⟩ x) :
  Code.wp aL aan Q ⟨(u0::O (Y ⟨b1,0,Z⟩)::u2::u3::aA aB (k:Int)::u5::u6::u7::u8::u9::u10::u11::u12::u13::u14::u15::u16::u17::u18::u19::u20::u21::u22::u23::u24::u25::u26::u27::u28::u29::u30::u31::u32::u33::u34::u35::u36::u37::u38::u39::u40::u41::u42::u43::u44::u45::u46::u47::u48::u49::u50::u51::u52::u53::u54::u55::u56::u57::u58::u59::u60::u61::u62::u63::u64::u65::u66::u67::u68::u69::u70::u71::u72::u73::u74::u75::u76::u77::u78::u79::u80::u81::[]).toArray,[]⟩ W:=by
 have HQ:=L hQ;have H1:=L h1;have HO:=L ho;have HY:=L hy;have HP:=L hp;have LP:=L lp;have IX:=L (oW lF g k n cap (by obtain⟨_,_,hv⟩:=(Row.dH ho).len; have h:=(au.1 hy).1; simp at hv; omega));have EL:=L (jG lF ho hy);clear hQ h1 ho hy hp lp;have iN:=Uj W.heap.size b1 me z1 z2 z3 z5 g n cap k y1 y2 y3 y4 yo yn yc y6 y7 p;unfold aan
 conv=>arg 2; whnf
 have nd:∀ j,(j<49\/61<=j)->∀ i,i<12->(fun i=>49+i) i≠j:=by
  intro j hj i hi h;simp only at h;omega
 refine cK 13 12 (fun i=>49+i) (fun _=>12) (Ni W.heap.size b1 me z1 z2 z3 z5 g n cap k y1 y2 y3 y4 yo yn yc y6 y7 p) (by kernel_rfl) (by kernel_rfl) rfl (by decide) (fun i j _ _ h=>by have h2:49+i=49+j:=h; omega) (fun i hi=>by show 49+i<82; omega) ?_ (fun _=>cO 14 (by kernel_rfl)) ?_ ?_
 ·intro i o hi ho a x D hnd hc hD hb seen K hK;clear HQ;rcases (by omega:i=0\/i=1\/i=2\/i=3\/i=4\/i=5\/i=6\/i=7\/i=8\/i=9\/i=10\/i=11) with rfl|rfl|rfl|rfl|rfl|rfl|rfl|rfl|rfl|rfl|rfl|rfl
  ·cases ho;have e1:a.eval (aj 1)=O (Y ⟨b1,0,Z⟩):=seen.kp 1 _ (nd 1 (by omega)) rfl;exact aF rfl rfl (aR a.eval _ 33 (aj 1) 4 rfl (by rw [e1]; simp [go_sem])) (hK _ _ rfl (ah _ _) fun _ _ _ _ _ _ _ h=>h)
  ·cases ho;have e49:a.eval (aj 49)=O (Y ⟨b1,4,Z⟩):=seen.at_ ⟨0,.data⟩ (by simp) rfl (ay (by decide));have y4:=(H1.out.on hb).cell 4;simp only [U,V,X] at y4;exact aF rfl rfl (aX a.eval _ 30 (aj 49) rfl (by rw [e49]; simp [go_sem,y4])) (hK _ _ rfl (ah _ _) fun _ _ _ _ _ _ _ h=>h)
  ·cases ho;have e4:a.eval (aj 4)=aA aB (k:Int):=seen.kp 4 _ (nd 4 (by omega)) rfl;exact aF rfl rfl (bY a.eval _ (aj 4) rfl x) (hK _ _ e4 (ah _ _) fun _ _ _ _ _ _ _ h=>h)
  ·cases ho;have e1:a.eval (aj 1)=O (Y ⟨b1,0,Z⟩):=seen.kp 1 _ (nd 1 (by omega)) rfl;exact aF rfl rfl (aR a.eval _ 33 (aj 1) 4 rfl (by rw [e1]; simp [go_sem])) (hK _ _ rfl (ah _ _) fun _ _ _ _ _ _ _ h=>h)
  ·cases ho;have e52:a.eval (aj 52)=O (Y ⟨b1,4,Z⟩):=seen.at_ ⟨3,.data⟩ (by simp) rfl (ay (by decide));have y4:=(H1.out.on hb).cell 4;simp only [U,V,X] at y4;exact aF rfl rfl (aX a.eval _ 30 (aj 52) rfl (by rw [e52]; simp [go_sem,y4])) (hK _ _ rfl (ah _ _) fun _ _ _ _ _ _ _ h=>h)
  ·cases ho;have e4:a.eval (aj 4)=aA aB (k:Int):=seen.kp 4 _ (nd 4 (by omega)) rfl;exact aF rfl rfl (bY a.eval _ (aj 4) rfl x) (hK _ _ e4 (ah _ _) fun _ _ _ _ _ _ _ h=>h)
  ·cases ho;have e53:a.eval (aj 53)=J (Y ⟨g,0,Z⟩) n cap:=seen.at_ ⟨4,.data⟩ (by simp) rfl (ay (by decide));have e54:a.eval (aj 54)=aA aB (k:Int):=seen.at_ ⟨5,.data⟩ (by simp) rfl (ay (by decide));exact aF rfl rfl (bZ a.eval _ 30 (aj 53) (aj 54) rfl (by rw [e53,e54]; exact IX.out x)) (hK _ _ rfl (ah _ _) fun _ _ _ _ _ _ _ h=>h)
  ·cases ho;have e55:a.eval (aj 55)=O (Y ⟨g,k * 7,Z⟩):=seen.at_ ⟨6,.data⟩ (by simp) rfl (ay (by decide));exact aF rfl rfl (aR a.eval _ 68 (aj 55) 2 rfl (by rw [e55]; simp [go_sem])) (hK _ _ rfl (ah _ _) fun _ _ _ _ _ _ _ h=>h)
  ·cases ho;have e56:a.eval (aj 56)=O (Y ⟨g,k * 7+4,Z⟩):=seen.at_ ⟨7,.data⟩ (by simp) rfl (ay (by decide));have y:=EL.out x hb 4 _ rfl;simp [Addr.add,EN] at y;exact aF rfl rfl (aX a.eval _ 41 (aj 56) rfl (by rw [e56]; simp [go_sem,y])) (hK _ _ rfl (ah _ _) fun _ _ _ _ _ _ _ h=>h)
  ·cases ho;have e57:a.eval (aj 57)=J yo yn yc:=seen.at_ ⟨8,.data⟩ (by simp) rfl (ay (by decide));exact bR rfl rfl (Rw.iG a.eval _ (aj 57) 41 66 rfl e57 rfl _ (fT cu rfl rfl _ _)) (sJ (yo,yn,yc) p x (HP.out.on hb) LP.out) fun e w1 h=>by
    obtain⟨⟨s,rfl,h1⟩,h3⟩:=h;exact⟨_,rfl,hK _ _ ⟨s,rfl,dJ h1 hb.size⟩ (h3.mono hb.size) fun j u hj _ _ _ hne h=>iN j u _ _ h h3⟩
  ·cases ho;have e50:a.eval (aj 50)=J (Y ⟨g,0,Z⟩) n cap:=seen.at_ ⟨1,.data⟩ (by simp) rfl (ay (by decide));have e51:a.eval (aj 51)=aA aB (k:Int):=seen.at_ ⟨2,.data⟩ (by simp) rfl (ay (by decide));exact aF rfl rfl (bZ a.eval _ 30 (aj 50) (aj 51) rfl (by rw [e50,e51]; exact IX.out x)) (hK _ _ rfl (ah _ _) fun _ _ _ _ _ _ _ h=>h)
  ·cases ho;have e59:a.eval (aj 59)=O (Y ⟨g,k * 7,Z⟩):=seen.at_ ⟨10,.data⟩ (by simp) rfl (ay (by decide));exact aF rfl rfl (aR a.eval _ 68 (aj 59) 2 rfl (by rw [e59]; simp [go_sem])) (hK _ _ rfl (ah _ _) fun _ _ _ _ _ _ _ h=>h)
 ·intro kk o h1 h2 ho;omega
 ·intro a w' df sz kp ⟨vs,hv⟩ hb;have sz':a.tmps.size=82:=sz;have g60:a.tmps[60]?=Y (O (Y ⟨g,k * 7+4,Z⟩)):=by
   have h:vs 11=O (Y ⟨g,k * 7+4,Z⟩):=(hv 11 (by omega)).2 (by decide);rw [<- h];exact (hv 11 (by omega)).1
  obtain⟨⟨s1,s2,s3⟩,hs,hc⟩:=(hv 9 (by omega)).2 (by decide);have g58:a.tmps[58]?=Y (J s1 s2 s3):=((hv 9 (by omega)).1).trans (congrArg Y hs);rw [hs] at hc;obtain⟨w2,hr,st1,st2,st3⟩:=adj (k:=k) s1 s2 s3 (Bk.dG HO.out hb) HY.out;obtain⟨cur,hg⟩:=jf (Bk.dG HO.out hb);show bK _ _ _ 1 12 a w';simp only [bK];refine bS 41 (aj 60) (aj 58) rfl rfl rfl rfl (aS g60) (aS g58) (w':=w2) hr ?_;have sI:∀ j,(j<49\/61<=j)->(a).tmps[j]?=(u0::O (Y ⟨b1,0,Z⟩)::u2::u3::aA aB (k:Int)::u5::u6::u7::u8::u9::u10::u11::u12::u13::u14::u15::u16::u17::u18::u19::u20::u21::u22::u23::u24::u25::u26::u27::u28::u29::u30::u31::u32::u33::u34::u35::u36::u37::u38::u39::u40::u41::u42::u43::u44::u45::u46::u47::u48::u49::u50::u51::u52::u53::u54::u55::u56::u57::u58::u59::u60::u61::u62::u63::u64::u65::u66::u67::u68::u69::u70::u71::u72::u73::u74::u75::u76::u77::u78::u79::u80::u81::[])[j]?:=fun j hj=>(kp j (nd j (by omega))).trans U;obtain⟨mid,hmid,hfr⟩:=dh (a:=a) 49 12 df (by simp [sz']) (by simp) sI;show Q .normal (a) _;rw [hfr]
  match mid,hmid with
  | [v49,v50,v51,v52,v53,v54,v55,v56,v57,v58,v59,v60],_ =>
   exact HQ.out _ _ _ _ _ _ _ _ _ _ _ _ _ s1 s2 s3 (st2.own hc hg (by decide)) st1 ((But.of_below hb).trans st2) fun B1 hB hl=>st3 B1 W hB (hb.mono hl)
def Nj (B:Nat) (b1:Nat) (_me:Int) (_z1 _z2 _z3 _z4:aD) (g n cap k:Nat) (_y1 _y2:Int) (yo:Option aN) (yn yc:Nat) (p:List C5) (i:Nat) (v:aD) (x:aI):Prop :=
 match i with
 | 0=>v=O (Y ⟨b1,5,Z⟩)
 | 1=>v=J (Y ⟨g,0,Z⟩) n cap
 | 2=>v=aA aB (k:Int)
 | 3=>v=O (Y ⟨b1,5,Z⟩)
 | 4=>v=J (Y ⟨g,0,Z⟩) n cap
 | 5=>v=aA aB (k:Int)
 | 6=>v=O (Y ⟨g,k * 3,Z⟩)
 | 7=>v=O (Y ⟨g,k * 3+2,Z⟩)
 | 8=>v=J yo yn yc
 | 9=>∃ s:Sl,v=dU s/\jP x B v p
 | 10=>v=O (Y ⟨g,k * 3,Z⟩)
 | 11=>v=O (Y ⟨g,k * 3+2,Z⟩)
 | _=>True
noncomputable def aao:dn:=((Tryz.f50.body.bind (eP 16)).getD .skip)
theorem Uk (B:Nat) (b1:Nat) (me:Int) (z1 z2 z3 z4:aD) (g n cap k:Nat) (y1 y2:Int) (yo:Option aN) (yn yc:Nat) (p:List C5) (i:Nat) (v:aD) (x x':aI) (h:Nj B b1 me z1 z2 z3 z4 g n cap k y1 y2 yo yn yc p i v x) (hb:Below x.heap.size x x'):Nj B b1 me z1 z2 z3 z4 g n cap k y1 y2 yo yn yc p i v x':=by
 by_cases hi:i<12
 ·rcases (by omega:i=0\/i=1\/i=2\/i=3\/i=4\/i=5\/i=6\/i=7\/i=8\/i=9\/i=10\/i=11) with rfl|rfl|rfl|rfl|rfl|rfl|rfl|rfl|rfl|rfl|rfl|rfl
  ·exact h
  ·exact h
  ·exact h
  ·exact h
  ·exact h
  ·exact h
  ·exact h
  ·exact h
  ·exact h
  ·obtain⟨s,h1,h2⟩:=h; exact⟨s,h1,Bk.dG h2 hb⟩
  ·exact h
  ·exact h
 ·unfold Nj
  split <;> first | omega | trivial
theorem ah8 (Q:dw->Act->aI->Prop) (W:aI) (B0:Nat) (l:List pK) (b1:Nat) (me:Int) (z1 z2 z3 z4:aD) (g n cap k:Nat) (y1 y2:Int) (yo:Option aN) (yn yc:Nat) (p:List C5) (u0 u2 u3 u4 u6 u7 u8 u9 u10 u11 u12 u13 u14 u15 u16 u17 u18 u19 u20 u21 u22 u23 u24 u25 u26 u27 u28 u29 u30 u31 u32 u33 u34 u35 u36 u37 u38 u39 u40 u41 u42 u43 u44 u45 u46 u47 u48 u49 u50 u51 u52 u53 u54 u55 u56 u57 u58 u59 u60 u61 u62 u63 u64 u65 u66 u67 u68 u69 u70 u71 u72 u73 u74 u75 u76 u77 u78 u79 u80 u81:aD)
  (h1:dN W b1 #[aA aB me,z1,z2,z3,z4,J (Y ⟨g,0,Z⟩) n cap] 33) (ho:og W B0 (J (Y ⟨g,0,Z⟩) n cap) l) (hy:l[k]?=Y (y1,y2,(yo,yn,yc))) (hp:gu W (J yo yn yc) p) (lp:p.length<=900)
  (hQ:∀ (x:aI) (v68 v69 v70 v71 v72 v73 v74 v75 v76 v77 v78 v79:aD) (s1:Option aN) (s2 s3:Nat),jP x W.heap.size (J s1 s2 s3) p->og x B0 (J (Y ⟨g,0,Z⟩) n cap) (l.set k (y1,y2,(s1,s2,s3)))->But g W x->(∀ B1,B1<=g->B1<=W.heap.size->Below B1 W x)->Q .normal ⟨(u0::O (Y ⟨b1,0,Z⟩)::u2::u3::u4::aA aB (k:Int)::u6::u7::u8::u9::u10::u11::u12::u13::u14::u15::u16::u17::u18::u19::u20::u21::u22::u23::u24::u25::u26::u27::u28::u29::u30::u31::u32::u33::u34::u35::u36::u37::u38::u39::u40::u41::u42::u43::u44::u45::u46::u47::u48::u49::u50::u51::u52::u53::u54::u55::u56::u57::u58::u59::u60::u61::u62::u63::u64::u65::u66::u67::v68::v69::v70::v71::v72::v73::v74::v75::v76::v77::v78::v79::u80::u81::[]).toArray,[]⟩ x) :
  Code.wp aL aao Q ⟨(u0::O (Y ⟨b1,0,Z⟩)::u2::u3::u4::aA aB (k:Int)::u6::u7::u8::u9::u10::u11::u12::u13::u14::u15::u16::u17::u18::u19::u20::u21::u22::u23::u24::u25::u26::u27::u28::u29::u30::u31::u32::u33::u34::u35::u36::u37::u38::u39::u40::u41::u42::u43::u44::u45::u46::u47::u48::u49::u50::u51::u52::u53::u54::u55::u56::u57::u58::u59::u60::u61::u62::u63::u64::u65::u66::u67::u68::u69::u70::u71::u72::u73::u74::u75::u76::u77::u78::u79::u80::u81::[]).toArray,[]⟩ W:=by
 have HQ:=L hQ;have H1:=L h1;have HO:=L ho;have HY:=L hy;have HP:=L hp;have LP:=L lp;have IX:=L (oW okW g k n cap (by obtain⟨_,_,hv⟩:=(Row.dH ho).len; have h:=(au.1 hy).1; simp at hv; omega));have EL:=L (jG okW ho hy);clear hQ h1 ho hy hp lp;have iN:=Uk W.heap.size b1 me z1 z2 z3 z4 g n cap k y1 y2 yo yn yc p;unfold aao
 conv=>arg 2; whnf
 have nd:∀ j,(j<68\/80<=j)->∀ i,i<12->(fun i=>68+i) i≠j:=by
  intro j hj i hi h;simp only at h;omega
 refine cK 13 12 (fun i=>68+i) (fun _=>12) (Nj W.heap.size b1 me z1 z2 z3 z4 g n cap k y1 y2 yo yn yc p) (by kernel_rfl) (by kernel_rfl) rfl (by decide) (fun i j _ _ h=>by have h2:68+i=68+j:=h; omega) (fun i hi=>by show 68+i<82; omega) ?_ (fun _=>cO 14 (by kernel_rfl)) ?_ ?_
 ·intro i o hi ho a x D hnd hc hD hb seen K hK;clear HQ;rcases (by omega:i=0\/i=1\/i=2\/i=3\/i=4\/i=5\/i=6\/i=7\/i=8\/i=9\/i=10\/i=11) with rfl|rfl|rfl|rfl|rfl|rfl|rfl|rfl|rfl|rfl|rfl|rfl
  ·cases ho;have e1:a.eval (aj 1)=O (Y ⟨b1,0,Z⟩):=seen.kp 1 _ (nd 1 (by omega)) rfl;exact aF rfl rfl (aR a.eval _ 33 (aj 1) 5 rfl (by rw [e1]; simp [go_sem])) (hK _ _ rfl (ah _ _) fun _ _ _ _ _ _ _ h=>h)
  ·cases ho;have e68:a.eval (aj 68)=O (Y ⟨b1,5,Z⟩):=seen.at_ ⟨0,.data⟩ (by simp) rfl (ay (by decide));have y5:=(H1.out.on hb).cell 5;simp only [U,V,X] at y5;exact aF rfl rfl (aX a.eval _ 31 (aj 68) rfl (by rw [e68]; simp [go_sem,y5])) (hK _ _ rfl (ah _ _) fun _ _ _ _ _ _ _ h=>h)
  ·cases ho;have e5:a.eval (aj 5)=aA aB (k:Int):=seen.kp 5 _ (nd 5 (by omega)) rfl;exact aF rfl rfl (bY a.eval _ (aj 5) rfl x) (hK _ _ e5 (ah _ _) fun _ _ _ _ _ _ _ h=>h)
  ·cases ho;have e1:a.eval (aj 1)=O (Y ⟨b1,0,Z⟩):=seen.kp 1 _ (nd 1 (by omega)) rfl;exact aF rfl rfl (aR a.eval _ 33 (aj 1) 5 rfl (by rw [e1]; simp [go_sem])) (hK _ _ rfl (ah _ _) fun _ _ _ _ _ _ _ h=>h)
  ·cases ho;have e71:a.eval (aj 71)=O (Y ⟨b1,5,Z⟩):=seen.at_ ⟨3,.data⟩ (by simp) rfl (ay (by decide));have y5:=(H1.out.on hb).cell 5;simp only [U,V,X] at y5;exact aF rfl rfl (aX a.eval _ 31 (aj 71) rfl (by rw [e71]; simp [go_sem,y5])) (hK _ _ rfl (ah _ _) fun _ _ _ _ _ _ _ h=>h)
  ·cases ho;have e5:a.eval (aj 5)=aA aB (k:Int):=seen.kp 5 _ (nd 5 (by omega)) rfl;exact aF rfl rfl (bY a.eval _ (aj 5) rfl x) (hK _ _ e5 (ah _ _) fun _ _ _ _ _ _ _ h=>h)
  ·cases ho;have e72:a.eval (aj 72)=J (Y ⟨g,0,Z⟩) n cap:=seen.at_ ⟨4,.data⟩ (by simp) rfl (ay (by decide));have e73:a.eval (aj 73)=aA aB (k:Int):=seen.at_ ⟨5,.data⟩ (by simp) rfl (ay (by decide));exact aF rfl rfl (bZ a.eval _ 31 (aj 72) (aj 73) rfl (by rw [e72,e73]; exact IX.out x)) (hK _ _ rfl (ah _ _) fun _ _ _ _ _ _ _ h=>h)
  ·cases ho;have e74:a.eval (aj 74)=O (Y ⟨g,k * 3,Z⟩):=seen.at_ ⟨6,.data⟩ (by simp) rfl (ay (by decide));exact aF rfl rfl (aR a.eval _ 61 (aj 74) 1 rfl (by rw [e74]; simp [go_sem])) (hK _ _ rfl (ah _ _) fun _ _ _ _ _ _ _ h=>h)
  ·cases ho;have e75:a.eval (aj 75)=O (Y ⟨g,k * 3+2,Z⟩):=seen.at_ ⟨7,.data⟩ (by simp) rfl (ay (by decide));have y:=EL.out x hb 2 _ rfl;simp [Addr.add,EW] at y;exact aF rfl rfl (aX a.eval _ 41 (aj 75) rfl (by rw [e75]; simp [go_sem,y])) (hK _ _ rfl (ah _ _) fun _ _ _ _ _ _ _ h=>h)
  ·cases ho;have e76:a.eval (aj 76)=J yo yn yc:=seen.at_ ⟨8,.data⟩ (by simp) rfl (ay (by decide));exact bR rfl rfl (Rw.iG a.eval _ (aj 76) 41 66 rfl e76 rfl _ (fT cu rfl rfl _ _)) (sJ (yo,yn,yc) p x (HP.out.on hb) LP.out) fun e w1 h=>by
    obtain⟨⟨s,rfl,h1⟩,h3⟩:=h;exact⟨_,rfl,hK _ _ ⟨s,rfl,dJ h1 hb.size⟩ (h3.mono hb.size) fun j u hj _ _ _ hne h=>iN j u _ _ h h3⟩
  ·cases ho;have e69:a.eval (aj 69)=J (Y ⟨g,0,Z⟩) n cap:=seen.at_ ⟨1,.data⟩ (by simp) rfl (ay (by decide));have e70:a.eval (aj 70)=aA aB (k:Int):=seen.at_ ⟨2,.data⟩ (by simp) rfl (ay (by decide));exact aF rfl rfl (bZ a.eval _ 31 (aj 69) (aj 70) rfl (by rw [e69,e70]; exact IX.out x)) (hK _ _ rfl (ah _ _) fun _ _ _ _ _ _ _ h=>h)
  ·cases ho;have e78:a.eval (aj 78)=O (Y ⟨g,k * 3,Z⟩):=seen.at_ ⟨10,.data⟩ (by simp) rfl (ay (by decide));exact aF rfl rfl (aR a.eval _ 61 (aj 78) 1 rfl (by rw [e78]; simp [go_sem])) (hK _ _ rfl (ah _ _) fun _ _ _ _ _ _ _ h=>h)
 ·intro kk o h1 h2 ho;omega
 ·intro a w' df sz kp ⟨vs,hv⟩ hb;have sz':a.tmps.size=82:=sz;have g79:a.tmps[79]?=Y (O (Y ⟨g,k * 3+2,Z⟩)):=by
   have h:vs 11=O (Y ⟨g,k * 3+2,Z⟩):=(hv 11 (by omega)).2 (by decide);rw [<- h];exact (hv 11 (by omega)).1
  obtain⟨⟨s1,s2,s3⟩,hs,hc⟩:=(hv 9 (by omega)).2 (by decide);have g77:a.tmps[77]?=Y (J s1 s2 s3):=((hv 9 (by omega)).1).trans (congrArg Y hs);rw [hs] at hc;obtain⟨w2,hr,st1,st2,st3⟩:=adk (k:=k) s1 s2 s3 (Bk.dG HO.out hb) HY.out;obtain⟨cur,hg⟩:=jf (Bk.dG HO.out hb);show bK _ _ _ 1 12 a w';simp only [bK];refine bS 41 (aj 79) (aj 77) rfl rfl rfl rfl (aS g79) (aS g77) (w':=w2) hr ?_;have sI:∀ j,(j<68\/80<=j)->(a).tmps[j]?=(u0::O (Y ⟨b1,0,Z⟩)::u2::u3::u4::aA aB (k:Int)::u6::u7::u8::u9::u10::u11::u12::u13::u14::u15::u16::u17::u18::u19::u20::u21::u22::u23::u24::u25::u26::u27::u28::u29::u30::u31::u32::u33::u34::u35::u36::u37::u38::u39::u40::u41::u42::u43::u44::u45::u46::u47::u48::u49::u50::u51::u52::u53::u54::u55::u56::u57::u58::u59::u60::u61::u62::u63::u64::u65::u66::u67::u68::u69::u70::u71::u72::u73::u74::u75::u76::u77::u78::u79::u80::u81::[])[j]?:=fun j hj=>(kp j (nd j (by omega))).trans U;obtain⟨mid,hmid,hfr⟩:=dh (a:=a) 68 12 df (by simp [sz']) (by simp) sI;show Q .normal (a) _;rw [hfr]
  match mid,hmid with
  | [v68,v69,v70,v71,v72,v73,v74,v75,v76,v77,v78,v79],_ =>
   exact HQ.out _ _ _ _ _ _ _ _ _ _ _ _ _ s1 s2 s3 (st2.own hc hg (by decide)) st1 ((But.of_below hb).trans st2) fun B1 hB hl=>st3 B1 W hB (hb.mono hl)
structure wL (b:Br):Prop where
 dQ:∀ a∈b.dQ,a.p.length<=900
 ent:∀ a∈b.ent,a.p.length<=900
 own:∀ a∈b.own,a.p.length<=900
theorem gJ {α:Type} {E:Ek α} {W:aI} {B n cap:Nat} {o:Option aN} {l:List α} (h:Own E W B (J o n cap) l):l.length=n:=by
 obtain⟨_,_,hv⟩:=(Row.dH h).len;have:n=l.length:=by simpa using congrArg (fun v=>match v with | Value.slice _ n _=>n | _=>0) hv
 exact this.symm
theorem wM {α:Type} {E:Ek α} {W:aI} {B n cap:Nat} {o:Option aN} {l:List α} (h:Own E W B (J o n cap) l) (hn:0<n):∃ g,o=Y ⟨g,0,Z⟩/\B<=g:=by
 have hl:=gJ h;rcases gQ h with⟨_,h2⟩|⟨g,c',cur,h1,h2,_⟩
 ·rw [h2] at hl; simp at hl; omega
 ·exact⟨g,by simp at h1; exact h1.1,h2⟩
theorem fZ (w:aI) (b:Nat) (a0 a1 a2 a3 a4 a5:aD):But b w (gY w b a0 a1 a2 a3 a4 a5) :=
 (((dY _ b _ _).trans (dY _ b _ _)).trans ((dY _ b _ _).trans (dY _ b _ _))).trans ((dY _ b _ _).trans (dY _ b _ _))
theorem Cs.done {w0 w wr:aI} {b:Br} {nv sv:Sl} {p2 p4 p5:Option aN} {q2 s2 q4 s4 q5 s5:Nat} (h:Cs w0 w wr b q2 q4 q5 nv (p2,q2,s2) sv (p4,q4,s4) (p5,q5,s5)) (a0 a1 a2 a3 a4 a5:aD):Cp (vw w0) w.heap.size (gY wr (w.heap.size+1) a0 a1 a2 a3 a4 a5) b nv (p2,q2,s2) sv (p4,q4,s4) (p5,q5,s5)/\Below w.heap.size w (gY wr (w.heap.size+1) a0 a1 a2 a3 a4 a5):=by
 obtain⟨l1,d1,d2,d3⟩:=h.dQ;obtain⟨l2,e1,e2,e3⟩:=h.ent;obtain⟨l3,f1,f2,f3⟩:=h.own;have n1:l1.length=q2:=gJ d1;have n2:l2.length=q4:=gJ e1;have n3:l3.length=q5:=gJ f1;rw [aG (by omega),aG (by have:=d2.len; omega)] at d3;rw [aG (by omega),aG (by have:=e2.len; omega)] at e3;rw [aG (by omega),aG (by have:=f2.len; omega)] at f3;exact⟨Cp.but ⟨h.near,h.seen,⟨l1,d1,d3⟩,⟨l2,e1,e3⟩,⟨l3,f1,f3⟩⟩ (fZ wr (w.heap.size+1) a0 a1 a2 a3 a4 a5) h.bz,dI h.uZ (by omega) a0 a1 a2 a3 a4 a5⟩
theorem uK (b:Br) (nv av sv ev ov:Sl) (w0 w:aI) (hw0:Below w0.heap.size w0 w) (h:iI w0 b nv av sv ev ov) (hf:Kw b) (hp:wL b) :
  cB aL 50 #[mJ b.me nv av sv ev ov] w fun e w'=>(∃ nv' zx He ev' Ul:Sl,e=.returned (mJ b.me nv' zx He ev' Ul)/\Cp (vw w0) w.heap.size w' b nv' zx He ev' Ul)/\Below w.heap.size w w':=by
 obtain⟨no,nn,nc⟩:=nv;obtain⟨ao,an,ac⟩:=av;obtain⟨so,sn,sc⟩:=sv;obtain⟨eo,en,ec⟩:=ev;obtain⟨oo,eB,oc⟩:=ov;obtain⟨la,ha1,ha2⟩:=h.dQ;obtain⟨le,he1,he2⟩:=h.ent;obtain⟨FR,ho1,ho2⟩:=h.own;have HA:=L ha2;have HE:=L he2;have HO:=L ho2;have R0:=L (h.near.on hw0);have R1:=L (ha1.on hw0);have R2:=L (h.seen.on hw0);have R3:=L (he1.on hw0);have R4:=L (ho1.on hw0);have W0:=L hw0;have HP:=L hp;have LL0:=L hf.near;have LL1:=L (show la.length<=900 by rw [ha2.len]; exact hf.dQ);have LL2:=L hf.seen;have LL3:=L (show le.length<=900 by rw [he2.len]; exact hf.ent);have LL4:=L (show FR.length<=900 by rw [ho2.len]; exact hf.own);obtain⟨h0,h1,h2⟩:=iE w #[aA aB b.me,J no nn nc,J ao an ac,J so sn sc,J eo en ec,J oo eB oc] #[aA aB 0,J Z 0 0,J Z 0 0,J Z 0 0,J Z 0 0,J Z 0 0] 33 33;have B0:=L h0;have XB:=L h1;have ZB:=L h2;clear h0 h1 h2 h hf hp hw0 ha1 ha2 he1 he2 ho1 ho2;go_enter Tryz.func50,Tryz.ntmps50;go_upto_region 1 with fail;generalize (w.alloc (bf #[aA aB b.me,J no nn nc,J ao an ac,J so sn sc,J eo en ec,J oo eB oc] 33)).alloc (bf #[aA aB 0,J Z 0 0,J Z 0 0,J Z 0 0,J Z 0 0,J Z 0 0] 33)=W at *;refine cp1 _ W w.heap.size b.me (J ao an ac) (J eo en ec) (J oo eB oc) no nn nc b.near so sn sc b.seen _ _ _ _ _ _ _ _ _ _ _ _ _ _ _ _ _ _ _ _ _ _ _ _ _ _ _ _ _ _ _ _ _ _ _ _ _ _ _ _ _ _ _ _ _ _ _ _ _ _ _ _ _ _ _ _ _ _ _ _ _ _ _ _ _ _ _ _ _ _ _ _ _ _ _ _ _ _ _ _ _ XB.out (R0.out.on B0.out) (R2.out.on B0.out) LL0.out LL2.out ?_;intro x1 v6 v7 v8 v9 v10 v11 v12 v13 p1 q1 s1 p3 q3 s3 hb1 hn1 hs1 Um Un;have B1:=L (B0.out.trans (Um _ (aW _)));have S1:=L (show W.heap.size<=x1.heap.size from (Um _ (aW _)).size);have ZB1:=L (show dN x1 (w.heap.size+1) _ _ from (Un _ ZB.out.lt (by omega)).trans ZB.out);have YN:=L hb1;have N1:=L (dJ hn1 B0.out.size);have J1:=L (dJ hs1 B0.out.size);clear hb1 hn1 hs1 Um Un XB ZB;go_upto_region 2 with fail;refine cp2 _ x1 w.heap.size b.me (J p1 q1 s1) (J p3 q3 s3) ao an ac la eo en ec le oo eB oc FR _ _ _ _ _ _ _ _ _ _ _ _ _ _ _ _ _ _ _ _ _ _ _ _ _ _ _ _ _ _ _ _ _ _ _ _ _ _ _ _ _ _ _ _ _ _ _ _ _ _ _ _ _ _ _ _ _ _ _ _ _ _ _ _ _ _ _ _ _ _ _ _ _ _ _ _ _ _ _ _ _ YN.out (R1.out.on B1.out) (R3.out.on B1.out) (R4.out.on B1.out) LL1.out LL3.out LL4.out ?_;intro x2 v14 v15 v16 v17 v18 v19 v20 v21 v22 v23 v24 v25 p2 q2 s2 p4 q4 s4 p5 q5 s5 hb2 ha2 he2 ho2 Nk FY;have CS:=L (show Cs w0 w x2 b 0 0 0 (p1,q1,s1) (p2,q2,s2) (p3,q3,s3) (p4,q4,s4) (p5,q5,s5) from {
  uZ:=B1.out.trans (Nk _ (aW _))
  bx:=hb2
  bz:=(FY _ ZB1.out.lt (by omega)).trans ZB1.out
  near:=But.own ⟨FY,(Nk _ (aW _)).size⟩ N1.out YN.out (by decide)
  seen:=But.own ⟨FY,(Nk _ (aW _)).size⟩ J1.out YN.out (by decide)
  dQ:=⟨la,dJ ha2 B1.out.size,HA.out.mono fun _ _ q=>⟨q.1,q.2.1,bN q.2.2⟩,.nil⟩
  ent:=⟨le,dJ he2 B1.out.size,HE.out.mono fun _ _ q=>⟨q.1,q.2.1,q.2.2.1,q.2.2.2.1,bN q.2.2.2.2⟩,.nil⟩
  own:=⟨FR,dJ ho2 B1.out.size,HO.out.mono fun _ _ q=>⟨q.1,bN q.2⟩,.nil⟩ })
 have Q2:=L (show q2<=900 from by rw [<- gJ ha2]; exact LL1.out);have Q4:=L (show q4<=900 from by rw [<- gJ he2]; exact LL3.out);have Q5:=L (show q5<=900 from by rw [<- gJ ho2]; exact LL4.out);clear hb2 ha2 he2 ho2 Nk FY YN ZB1 N1 J1 B1 S1 R0 R1 R2 R3 R4 HA HE HO LL0 LL1 LL2 LL3 LL4 B0;have cf2:=CS.out.bx.cell 2;simp only [U,V,X] at cf2;go_wp2
 go_loopw [29] (fun i wr=>∃ k:Nat,k<=q2/\i=aA aB k/\Cs w0 w wr b k 0 0 (p1,q1,s1) (p2,q2,s2) (p3,q3,s3) (p4,q4,s4) (p5,q5,s5)) (fun i _=>q2-(intOf i).toNat)
 case atStart=>exact⟨0,aU _,rfl,CS.out⟩
 case round =>
  obtain⟨k,hk,rfl,hcs⟩:=hrel;have CS:=L hcs;have hq:=Q2.out;clear hcs;by_cases hlt:k<q2
  ·obtain⟨l,hl,hA,hV⟩:=CS.out.dQ;have hln:l.length=q2:=gJ hl;obtain⟨g,rfl,hBg⟩:∃ g,p2=Y ⟨g,0,Z⟩/\w.heap.size<=g:=wM hl (show 0<q2 by omega);obtain⟨y,hy⟩:∃ y,l[k]?=Y y:=⟨_,ak (by omega)⟩;obtain⟨a,ha⟩:∃ a,b.dQ[k]?=Y a:=⟨_,ak (by have h:=hA.len; have h2:l.length=q2:=hln; omega)⟩;obtain⟨y',hy',hym⟩:=hA.at k a ha;rw [hy] at hy';obtain rfl:=aC hy';obtain⟨y1,y2,⟨yo,yn,yc⟩,y4⟩:=y;have HW:=L hl;have HAA:=L hA;have HVV:=L hV;have Cu:=L hym;have Uo:=L hy;have Nl:=L ha;have HBG:=L hBg;have hw3:IntKind.i64.wrap ((k:Int)+1)=(k:Int)+1:=aM _ (by omega);clear hl hA hV hln hy ha hy' hym hBg cf2;go_upto_region 6 with fail;refine cp6 _ wr w.heap.size l w.heap.size b.me (J p1 q1 s1) (J p3 q3 s3) (J p4 q4 s4) (J p5 q5 s5) g q2 s2 k y1 y2 yo yn yc y4 a.p _ _ _ _ _ _ _ _ _ _ _ _ _ _ _ _ _ _ _ _ _ _ _ _ _ _ _ _ _ _ _ _ _ _ _ _ _ _ _ _ _ _ _ _ _ _ _ _ _ _ _ _ _ _ _ _ _ _ _ _ _ _ _ _ _ _ _ _ _ _ _ _ _ _ _ _ _ _ _ _ CS.out.bx HW.out Uo.out (Cu.out.2.2.row (W0.out.trans (CS.out.uZ.mono W0.out.size))) (HP.out.dQ a (aJ Nl.out)) ?_;intro x v32 v33 v34 v35 v36 v37 v38 v39 v40 v41 t1 t2 t3 hC hO wN hBel;have CS2:=L (show Cs w0 w x b (k+1) 0 0 (p1,q1,s1) (Y ⟨g,0,Z⟩,q2,s2) (p3,q3,s3) (p4,q4,s4) (p5,q5,s5) from by
    obtain⟨cur,hg⟩:=jf HW.out;exact CS.out.TJ HW.out hO wN (CS.out.uZ.trans (hBel _ HBG.out CS.out.uZ.size)) (eH.set k _ a (HAA.out.mono fun _ _ q=>q.but wN hg (by decide)) Nl.out ⟨Cu.out.1,Cu.out.2.1,ay (dJ hC CS.out.uZ.size)⟩) (xZ (HVV.out.mono fun _ _ q=>q.but wN hg (by decide)) (au.1 Uo.out).1 Nl.out ⟨Cu.out.1,Cu.out.2.1,ay (dJ hC CS.out.uZ.size)⟩))
   clear hC hO wN hBel CS HW HAA HVV Cu Uo Nl HBG;go_wp2
   go_roundw
   case rel=>exact⟨k+1,by omega,by go_num,CS2.out⟩
   case measure=>simp [intOf]; omega
  ·obtain rfl:q2=k:=by omega
   have cf4:=CS.out.bx.cell 4;simp only [U,V,X] at cf4;clear hlt;go_wp2
   go_loopw [46] (fun i wr=>∃ k:Nat,k<=q4/\i=aA aB k/\Cs w0 w wr b q2 k 0 (p1,q1,s1) (p2,q2,s2) (p3,q3,s3) (p4,q4,s4) (p5,q5,s5)) (fun i _=>q4-(intOf i).toNat)
   case atStart=>exact⟨0,aU _,rfl,CS.out⟩
   case round =>
    obtain⟨k,hk,rfl,hcs⟩:=hrel;have CS:=L hcs;have hq:=Q4.out;clear hcs;by_cases hlt:k<q4
    ·obtain⟨l,hl,hA,hV⟩:=CS.out.ent;have hln:l.length=q4:=gJ hl;obtain⟨g,rfl,hBg⟩:∃ g,p4=Y ⟨g,0,Z⟩/\w.heap.size<=g:=wM hl (show 0<q4 by omega);obtain⟨y,hy⟩:∃ y,l[k]?=Y y:=⟨_,ak (by omega)⟩;obtain⟨a,ha⟩:∃ a,b.ent[k]?=Y a:=⟨_,ak (by have h:=hA.len; have h2:l.length=q4:=hln; omega)⟩;obtain⟨y',hy',hym⟩:=hA.at k a ha;rw [hy] at hy';obtain rfl:=aC hy';obtain⟨y1,y2,y3,y4,⟨yo,yn,yc⟩,y6,y7⟩:=y;have HW:=L hl;have HAA:=L hA;have HVV:=L hV;have Cu:=L hym;have Uo:=L hy;have Nl:=L ha;have HBG:=L hBg;have hw3:IntKind.i64.wrap ((k:Int)+1)=(k:Int)+1:=aM _ (by omega);clear hl hA hV hln hy ha hy' hym hBg cf4;go_upto_region 11 with fail;refine ah7 _ wr w.heap.size l w.heap.size b.me (J p1 q1 s1) (J p2 q2 s2) (J p3 q3 s3) (J p5 q5 s5) g q4 s4 k y1 y2 y3 y4 yo yn yc y6 y7 a.p _ _ _ _ _ _ _ _ _ _ _ _ _ _ _ _ _ _ _ _ _ _ _ _ _ _ _ _ _ _ _ _ _ _ _ _ _ _ _ _ _ _ _ _ _ _ _ _ _ _ _ _ _ _ _ _ _ _ _ _ _ _ _ _ _ _ _ _ _ _ _ _ _ _ _ _ _ _ _ _ CS.out.bx HW.out Uo.out (Cu.out.2.2.2.2.row (W0.out.trans (CS.out.uZ.mono W0.out.size))) (HP.out.ent a (aJ Nl.out)) ?_;intro x v49 v50 v51 v52 v53 v54 v55 v56 v57 v58 v59 v60 t1 t2 t3 hC hO wN hBel;have CS2:=L (show Cs w0 w x b q2 (k+1) 0 (p1,q1,s1) (p2,q2,s2) (p3,q3,s3) (Y ⟨g,0,Z⟩,q4,s4) (p5,q5,s5) from by
      obtain⟨cur,hg⟩:=jf HW.out;exact CS.out.ahZ HW.out hO wN (CS.out.uZ.trans (hBel _ HBG.out CS.out.uZ.size)) (eH.set k _ a (HAA.out.mono fun _ _ q=>q.but wN hg (by decide)) Nl.out ⟨Cu.out.1,Cu.out.2.1,Cu.out.2.2.1,Cu.out.2.2.2.1,ay (dJ hC CS.out.uZ.size)⟩) (xZ (HVV.out.mono fun _ _ q=>q.but wN hg (by decide)) (au.1 Uo.out).1 Nl.out ⟨Cu.out.1,Cu.out.2.1,Cu.out.2.2.1,Cu.out.2.2.2.1,ay (dJ hC CS.out.uZ.size)⟩))
     clear hC hO wN hBel CS HW HAA HVV Cu Uo Nl HBG;go_wp2
     go_roundw
     case rel=>exact⟨k+1,by omega,by go_num,CS2.out⟩
     case measure=>simp [intOf]; omega
    ·obtain rfl:q4=k:=by omega
     have cf5:=CS.out.bx.cell 5;simp only [U,V,X] at cf5;clear hlt;go_wp2
     go_loopw [65] (fun i wr=>∃ k:Nat,k<=q5/\i=aA aB k/\Cs w0 w wr b q2 q4 k (p1,q1,s1) (p2,q2,s2) (p3,q3,s3) (p4,q4,s4) (p5,q5,s5)) (fun i _=>q5-(intOf i).toNat)
     case atStart=>exact⟨0,aU _,rfl,CS.out⟩
     case round =>
      obtain⟨k,hk,rfl,hcs⟩:=hrel;have CS:=L hcs;have hq:=Q5.out;clear hcs;by_cases hlt:k<q5
      ·obtain⟨l,hl,hA,hV⟩:=CS.out.own;have hln:l.length=q5:=gJ hl;obtain⟨g,rfl,hBg⟩:∃ g,p5=Y ⟨g,0,Z⟩/\w.heap.size<=g:=wM hl (show 0<q5 by omega);obtain⟨y,hy⟩:∃ y,l[k]?=Y y:=⟨_,ak (by omega)⟩;obtain⟨a,ha⟩:∃ a,b.own[k]?=Y a:=⟨_,ak (by have h:=hA.len; have h2:l.length=q5:=hln; omega)⟩;obtain⟨y',hy',hym⟩:=hA.at k a ha;rw [hy] at hy';obtain rfl:=aC hy';obtain⟨y1,y2,⟨yo,yn,yc⟩⟩:=y;have HW:=L hl;have HAA:=L hA;have HVV:=L hV;have Cu:=L hym;have Uo:=L hy;have Nl:=L ha;have HBG:=L hBg;have hw3:IntKind.i64.wrap ((k:Int)+1)=(k:Int)+1:=aM _ (by omega);clear hl hA hV hln hy ha hy' hym hBg cf5;go_upto_region 16 with fail;refine ah8 _ wr w.heap.size l w.heap.size b.me (J p1 q1 s1) (J p2 q2 s2) (J p3 q3 s3) (J p4 q4 s4) g q5 s5 k y1 y2 yo yn yc a.p _ _ _ _ _ _ _ _ _ _ _ _ _ _ _ _ _ _ _ _ _ _ _ _ _ _ _ _ _ _ _ _ _ _ _ _ _ _ _ _ _ _ _ _ _ _ _ _ _ _ _ _ _ _ _ _ _ _ _ _ _ _ _ _ _ _ _ _ _ _ _ _ _ _ _ _ _ _ _ _ CS.out.bx HW.out Uo.out (Cu.out.2.row (W0.out.trans (CS.out.uZ.mono W0.out.size))) (HP.out.own a (aJ Nl.out)) ?_;intro x v68 v69 v70 v71 v72 v73 v74 v75 v76 v77 v78 v79 t1 t2 t3 hC hO wN hBel;have CS2:=L (show Cs w0 w x b q2 q4 (k+1) (p1,q1,s1) (p2,q2,s2) (p3,q3,s3) (p4,q4,s4) (Y ⟨g,0,Z⟩,q5,s5) from by
        obtain⟨cur,hg⟩:=jf HW.out;exact CS.out.setW HW.out hO wN (CS.out.uZ.trans (hBel _ HBG.out CS.out.uZ.size)) (eH.set k _ a (HAA.out.mono fun _ _ q=>q.but wN hg (by decide)) Nl.out ⟨Cu.out.1,ay (dJ hC CS.out.uZ.size)⟩) (xZ (HVV.out.mono fun _ _ q=>q.but wN hg (by decide)) (au.1 Uo.out).1 Nl.out ⟨Cu.out.1,ay (dJ hC CS.out.uZ.size)⟩))
       clear hC hO wN hBel CS HW HAA HVV Cu Uo Nl HBG;go_wp2
       go_roundw
       case rel=>exact⟨k+1,by omega,by go_num,CS2.out⟩
       case measure=>simp [intOf]; omega
      ·obtain rfl:q5=k:=by omega
       have X1:=CS.out.bx;have Z1:=CS.out.bz;obtain⟨x0,x1,x2,x3,x4,x5⟩:=X1.fB;obtain⟨r0,r1,r2,r3,r4,r5⟩:=Z1.fB;obtain⟨t0,t1,t2,t3,t4,t5⟩:=Z1.kJ;have zz:=Z1.lt;have FB:=L (dM Z1 (aA aB b.me) (J p1 q1 s1) (J p2 q2 s2) (J p3 q3 s3) (J p4 q4 s4) (J p5 q5 s5));have FD:=L (CS.out.done (aA aB b.me) (J p1 q1 s1) (J p2 q2 s2) (J p3 q3 s3) (J p4 q4 s4) (J p5 q5 s5));clear X1 Z1 CS;go_wp2_with fail;obtain⟨v0,v1,v2,v3,v4,v5⟩:=FB.out.fB;refine bodyPost_ret (v:=.agg #[aA aB b.me,J p1 q1 s1,J p2 q2 s2,J p3 q3 s3,J p4 q4 s4,J p5 q5 s5]) (by simp [results,Tryz.results50,go_sem,v0,v1,v2,v3,v4,v5]) rfl ?_;exact⟨⟨(p1,q1,s1),(p2,q2,s2),(p3,q3,s3),(p4,q4,s4),(p5,q5,s5),rfl,FD.out.1⟩,FD.out.2⟩
end Av
namespace Rl
open Go.RowKit Pu Pr
def Yi (p:List Cn) (n:ByteArray):Option Cn:=p.find? fun c=>decide (c.1=n)
theorem Uq {p:List Cn} {n:ByteArray} {y:Cn} (h:Yi p n=Y y):y∈p/\y.1=n:=⟨List.mem_of_find?_eq_some h,by simpa using List.find?_some h⟩
theorem afg {p:List Cn} {n:ByteArray} {k:Nat} {y:Cn} (hk:p[k]?=Y y) (he:y.1=n) (hn:∀ (j:Nat) (z:Cn),j<k->p[j]?=Y z->z.1≠n):Yi p n=Y y:=by
 unfold Yi;rw [List.find?_eq_some_iff_getElem];obtain⟨hlt,hy⟩:=au.1 hk;refine⟨by simpa using he,k,hlt,hy,fun j hj=>?_⟩;have:=hn j p[j] hj (ak (by omega));simpa using this
theorem YO {p:List Cn} {n:ByteArray} (hn:∀ (j:Nat) (z:Cn),j<p.length->p[j]?=Y z->z.1≠n):Yi p n=Z:=by
 unfold Yi;rw [bI];intro x hx;obtain⟨j,hj,e⟩:=bg hx;have:=hn j x hj (by rw [ak hj,e]);simpa using this
def K7 (b:List Cn) (x:Cn):Bool:=match Yi b x.1 with
 | some y=>eX y.2 x.2
 | none=>bF
theorem Qk {a b:List Cn} (hb:oz b):qw a b=a.all (K7 b):=by
 unfold qw
 congr 1
 funext x
 unfold K7;cases hf:Yi b x.1 with
 | none =>
  rw [bJ];intro y hy;have:=bI.1 hf y hy;simp only [decide_eq_true_eq] at this;simp [this]
 | some y =>
  obtain⟨h1,h2⟩:=Uq hf;rw [aZ,bM];constructor
  ·rintro⟨z,hz,h3⟩;simp only [aY,decide_eq_true_eq] at h3;rw [aeY hb h1 hz (h2.trans h3.1.symm)];exact h3.2
  ·intro h3;exact⟨y,h1,by simp [h2,h3]⟩
theorem La {n:ByteArray} {c d k:Kd} (hc:jy c=bL) (hd:jy d=bL) (h:fE c d=Y k):SA (r5 (n,k)) (r5 (n,d))=eX d c:=by
 obtain⟨k1,k2⟩:=Pp c d k hc hd h;rw [aZ,SE];constructor
 ·intro e;have e2:=acY e;obtain rfl:k=d:=congrArg Prod.snd e2;exact CF k c hd fun v hv=>by rw [k2,aY] at hv; exact hv.1
 ·intro hi;have:k=d:=Kl k d k1 hd fun v=>by
   rw [k2,aZ,aY];exact⟨fun h=>h.2,fun h=>⟨vg d c hi v h,h⟩⟩
  rw [this]
theorem Lb {c d:Kd} (hd:jy d=bL) (h:fE c d=Z):eX d c=bF:=by
 rw [Bool.eq_false_iff];intro hi;obtain⟨v,hv⟩:=Kk d hd;have:=Pq c d h v;rw [hv,vg d c hi v hv] at this;cases this
/-! ### samples -/
/-! ### both together -/
end Rl
namespace At
open Go.RowKit Va
abbrev V3:=Bool×Int×ByteArray
theorem pG {a b:ByteArray} (h:a.toList=b.toList):a=b:=by
 rw [aV,aV] at h;exact WideShapes.bytes_inj h
def yw:List A4->ByteArray->Option V3
 | [],_=>Z
 | x::r,n=>if x.1=n then Y x.2 else yw r n
def afh (l:List A4):Prop:=l.Pairwise fun x y=>Op.bytesLess x.1.toList y.1.toList=bL
theorem get_none:∀ (l:List A4) (n:ByteArray),(∀ x∈l,x.1≠n)->yw l n=Z
 | [],_,_=>rfl
 | x::r,n,h=>by
  simp only [yw];rw [if_neg (h x (List.mem_cons_self ..)),get_none r n (fun y hy=>h y (List.mem_cons_of_mem _ hy))]
/-! ### the publications that numbers make -/
theorem Nn (i:Nat):(nm i).toList=[UInt8.ofNat (97+i)]:=by rw [aV]; rfl
theorem Fw (i j:Nat) (h:i<j) (hj:j<7):Op.bytesLess (nm i).toList (nm j).toList=bL:=by
 rw [Nn,Nn,VaP.zw];left;simp only [UInt8.toNat_ofNat'];omega
theorem uL (has vals:List Int):∀ k,∀ x∈tT has vals k,∃ i,i<k/\x.1=nm i
 | 0,x,h=>by simp [tT] at h
 | k+1,x,h=>by
  simp only [tT] at h
  split at h
  ·rcases bO.1 h with h|h
   ·obtain⟨i,h1,h2⟩:=uL has vals k x h;exact⟨i,by omega,h2⟩
   ·simp at h;exact⟨k,by omega,by rw [h]⟩
  ·obtain⟨i,h1,h2⟩:=uL has vals k x h;exact⟨i,by omega,h2⟩
theorem Ao (has vals:List Int):∀ k,k<=7->afh (tT has vals k)
 | 0,_=>List.Pairwise.nil
 | k+1,hk=>by
  simp only [tT]
  split
  ·unfold afh;rw [List.pairwise_append];refine⟨Ao has vals k (by omega),by simp,fun x hx y hy=>?_⟩;obtain⟨i,h1,h2⟩:=uL has vals k x hx;simp at hy;rw [h2,hy];exact Fw i k h1 (by omega)
  ·exact Ao has vals k (by omega)
theorem yx (has vals:List Int):∀ k,∀ x∈tT has vals k,Fh x.2.1 x.2.2.1 x.2.2.2=bL/\x.2.2.2.size<=3
 | 0,x,h=>by simp [tT] at h
 | k+1,x,h=>by
  simp only [tT] at h
  split at h
  ·rcases bO.1 h with h|h
   ·exact yx has vals k x h
   ·simp at h;rw [h];exact⟨Sz _,Hr _⟩
  ·exact yx has vals k x h
theorem Iz (has vals:List Int):∀ k,(tT has vals k).length<=5
 | 0=>by simp [tT]
 | k+1=>by
  have:=Iz has vals k;simp only [tT]
  split
  ·rename_i h
   simp; omega
  ·exact this
theorem Fx (i:Nat):(nm i).size=1:=rfl
end At
namespace At
open Go.RowKit Go.Sort Va In
def Lc:Option V3->aD
 | some v=>.tuple #[vl v.1 v.2.1 v.2.2,bV bL]
 | none=>.tuple #[vl bF 0 ⟨#[]⟩,bV bF]
def afi:Prop:=∀ (lv:aD) (l:List A4) (n:ByteArray) (w:aI),zm w lv l->l.length<=100->n.size<=maxLen ->
 cB aL 44 #[lv,.string n] w fun e w'=>e=.returned (Lc (yw l n))/\Below w.heap.size w w'
end At
end Go.Proofs.YtkcfgbddlpomgaaGreat
