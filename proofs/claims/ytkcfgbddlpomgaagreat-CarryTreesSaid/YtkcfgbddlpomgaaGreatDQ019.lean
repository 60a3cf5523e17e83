/-
  Covered of broadside. Conditions as told.
-/
import Derived.Test.YtkcfgbddlpomgaaGreatDQ015
import Derived.Test.YtkcfgbddlpomgaaGreatDQ018
import Derived.Deep.LoopGhost
import Derived.Test.YtkcfgbddlpomgaaGreatDQ016
set_option maxRecDepth 100000
set_option maxHeartbeats 64000000
open _root_.Bool renaming and_eq_true->aA,eq_iff_iff->aB,false->aO,true->aR
open _root_.Go renaming cell_regrown->U,below_regrown->ah,Value->aD,World->aL,redrawn->aQ
open Go.IntKind renaming i64->L
open Go.Lib renaming hid->D
open Go.Proofs.Tryz renaming prog->ak
open Go.Value renaming int->K,slice->V,pointer->aG,bool->aT,agg->aU
open _root_.List renaming getElem?_eq_getElem->J,getElem?_map->Z,getElem?_eq_some_iff->aj,getElem?_cons_zero->au,getElem?_cons_succ->ay,getElem?_toArray->aC,mem_of_getElem?->aF,getElem_of_mem->aH,takeWhile_cons->aI,find?_eq_none->aK,any_eq_false->aM,any_eq_true->aN
open _root_.Nat renaming lt_or_ge->Y,zero_le->aP
open _root_.Option renaming some->X,none->aJ
open Option.some renaming inj->O,injEq->aS
namespace Go.Proofs.YtkcfgbddlpomgaaGreat
namespace Bk
open Go.RowKit Rw YtkcfgbddlpomgaaGreat.Nm Pr Rl
def WA (c:C5):Cn:=(c.1,if c.2.1=1 then .rg c.2.2.1 c.2.2.2.1 else if c.2.1=2 then .tx c.2.2.2.2 else .pr c.2.2.2.2)
theorem aa1 (c:Cn):WA (r5 c)=c:=by
 obtain⟨n,k⟩:=c;cases k <;> simp [WA,r5,kN,jk,jl,kT]
theorem qE (a:List Cn):(a.map r5).map WA=a:=by
 rw [List.map_map];have h:WA∘r5=id:=funext aa1;rw [h,List.map_id]
def dW (p:List C5):Prop:=∃ a:List Cn,NF a/\p=a.map r5
def mF (p q:List C5):Bool:=oz (p.map WA) (q.map WA)
theorem QZ (qZ bv:aD) (p q:List C5) (w:aL) (ha:fK w qZ p) (hb:fK w bv q) (hp:dW p) (hq:dW q) :
  Calls ak 110 #[qZ,bv] w fun e w'=>e=.returned (aT (mF p q))/\Below w.heap.size w w':=by
 obtain⟨a,na,rfl⟩:=hp;obtain⟨b,nb,rfl⟩:=hq;unfold mF;rw [qE,qE];exact Gf qZ bv a b w ha hb (by have:=na.five; omega) (by have:=nb.five; omega)
def Q0 (t:Id) (p:List C5) (e:En):Bool:=decide (e.tree=t) && (e.up && mF e.p p)
def eX (m:List En) (t:Id) (p:List C5):Bool:=m.any (Q0 t p)
theorem uQ (me:Int) (nv av sv ov:aD) (ev:Sl) (l:List iA) (m:List En) (x:Id) (pv:aD) (p':List C5) (w:aL) (hs:jZ w (dR ev) l) (hu:eB (iW w) l m) (hp:fK w pv p') (hok:∀ e∈m,dW e.p) (hop:dW p') :
  Calls ak 92 #[aU #[K L me,nv,av,sv,dR ev,ov],mD x,pv] w fun e w'=>e=.returned (aT (eX m x p'))/\Below w.heap.size w w':=by
 have HU:=D hu;have HP:=D hp;have OK:=D hok;have OP:=D hop;obtain⟨pa,pc,rfl⟩:=hp.len;obtain⟨pn,hpn⟩:∃ n,n=p'.length:=⟨_,rfl⟩;rw [<- hpn] at HP ⊢;clear hu hp hok hop hpn;obtain⟨c,d⟩:=x;obtain⟨so,sn,sc⟩:=ev;obtain⟨ao,ac,hv⟩:=hs.len;have hv:V so sn sc=V ao l.length ac:=hv;obtain⟨rfl,rfl,rfl⟩:so=ao/\sn=l.length/\sc=ac:=by simpa using hv
 obtain⟨h0,h1,h2⟩:=gK w #[K L me,nv,av,sv,V so l.length sc,ov] #[K L c,K L d] 33 38;have B:=D h0;have HS:=D (hs.on h0);have X2:=D h1;have X3:=D h2;have lm:=hs.most;unfold maxLen at lm;obtain⟨n,hn⟩:∃ n,n=l.length:=⟨_,rfl⟩;have q3:=h1.cell 4;simp only [aC,au,ay] at q3;rw [<- hn] at HS X2 lm q3 B X3 ⊢;have HN:=D hn.symm;clear h0 h1 h2 hs hv hn;go_enter Tryz.func92,Tryz.ntmps92;go_upto_region 1 with fail;generalize (w.alloc (.cells #[K L me,nv,av,sv,V so n sc,ov] 33)).alloc (.cells #[K L c,K L d] 38)=W at *;go_wp2
 go_loopw [12] (fun i wr=>∃ k:Nat,k<=n/\i=K L k/\Below W.heap.size W wr/\∀ (j:Nat) (y:En),j<k->m[j]?=X y->Q0 (c,d) p' y=aO) (fun i _=>n-(intOf i).toNat)
 case atStart=>exact⟨0,aP _,rfl,Below.refl _ _,fun j y h=>by omega⟩
 case round =>
  obtain⟨k,hk,rfl,hbe,hall⟩:=hrel;have BE:=D hbe;have AL:=D hall;clear hbe hall;by_cases hlt:k<n
  ·obtain⟨y,hy⟩:∃ y,l[k]?=X y:=⟨_,J (by rw [HN.out]; exact hlt)⟩;obtain⟨p,ix,px⟩:=P7 HS.out rfl HN.out hy;obtain⟨p0,p1,p2,p3,p4,p5,p6⟩:=px wr BE.out;obtain⟨y1,y2,y3,y4,⟨yo,yn,yc⟩,y6,y7⟩:=y;simp only at p0 p1 p2 p3 p4 p5 p6;have NB:=D (fE wr (.cells #[K L y1,K L y2,K L y3,K L y4,V yo yn yc,K L y6,aT y7] 68));obtain⟨x0,x1⟩:=((X3.out.on BE.out).on NB.out).cs2;have hw3:IntKind.i64.wrap ((k:Int)+1)=(k:Int)+1:=IntWalk.i64_in _ (by omega);obtain⟨me_,hm,hin⟩:=sF HU.out k _ hy;obtain⟨r,hr⟩:∃ r,(y1 == c && y2 == d)=r:=⟨_,rfl⟩;obtain⟨t,ht⟩:∃ r,mF me_.p p'=r:=⟨_,rfl⟩;have he:=rz y1 y2 c d r hr;have HV:=D (show Q0 (c,d) p' me_=(r && (y7 && t)) by
    rw [<- hr,<- ht];unfold Q0;rw [<- hin.1,<- hin.2.2.2.1];by_cases g1:y1=c <;> by_cases g2:y2=d <;> simp [g1,g2])
   have HM:=D hm;have CV:=D (fun W' (hb':Below w.heap.size w W')=>(QZ (V yo yn yc) (V pa pn pc) me_.p p' W' (hin.2.2.2.2.on hb') (HP.out.on hb') (OK.out _ (aF hm)) OP.out));rw [ht] at CV;clear px hy hr ht hm hin;cases r
   ·go_wp2
    go_roundw
    case rel=>exact⟨k+1,by omega,by go_num,BE.out.trans (NB.out.mono BE.out.size),fun j y' hj h1=>by
     rcases Y j k with h3|h3
     ·exact AL.out j y' h3 h1
     ·obtain rfl:j=k:=by omega
      have e1:=HM.out;rw [h1] at e1;rw [O e1];exact HV.out.trans (by simp)⟩
    case measure=>simp [intOf]; omega
   ·cases y7
    ·go_wp2
     go_roundw
     case rel=>exact⟨k+1,by omega,by go_num,BE.out.trans (NB.out.mono BE.out.size),fun j y' hj h1=>by
     rcases Y j k with h3|h3
     ·exact AL.out j y' h3 h1
     ·obtain rfl:j=k:=by omega
      have e1:=HM.out;rw [h1] at e1;rw [O e1];exact HV.out.trans (by simp)⟩
     case measure=>simp [intOf]; omega
    ·have BF:=D (BE.out.trans (NB.out.mono BE.out.size));have CW:=D (CV.out _ (B.out.trans (BF.out.mono B.out.size)));clear CV;go_wp2_with fail;refine CW.out.mono ?_;rintro e3 w3 ⟨rfl,hb⟩;have BG:=D (BF.out.trans (hb.mono BF.out.size));clear CW hb x0 x1 p0 p1 p2 p3 p4 p5 p6 ix he;cases t
     ·go_wp2
      go_roundw
      case rel=>exact⟨k+1,by omega,by go_num,BG.out,fun j y' hj h1=>by
     rcases Y j k with h3|h3
     ·exact AL.out j y' h3 h1
     ·obtain rfl:j=k:=by omega
      have e1:=HM.out;rw [h1] at e1;rw [O e1];exact HV.out.trans (by simp)⟩
      case measure=>simp [intOf]; omega
     ·go_wp2;go_ret;have hd:eX m (c,d) p'=aR:=by
       unfold eX;rw [aN];exact⟨me_,aF HM.out,HV.out.trans (by simp)⟩
      exact⟨by rw [hd]; rfl,B.out.trans (BG.out.mono B.out.size)⟩
  ·obtain rfl:k=n:=by omega
   go_wp2;go_ret;have hd:eX m (c,d) p'=aO:=by
    unfold eX;rw [aM];intro e he;obtain⟨j,hj,hje⟩:=aH he;have h9:=AL.out j e (by rw [<- HN.out,HU.out.len]; exact hj) (by rw [J hj,hje]);simpa using h9
   exact⟨by rw [hd]; rfl,B.out.trans (BE.out.mono B.out.size)⟩
end Bk
namespace Bk
open Go.RowKit Go.Sort Rw YtkcfgbddlpomgaaGreat.Nm Pr Rl
abbrev xM:=Int×Int×Int×Sl
abbrev wG (x:xM):List aD:=[K L x.1,K L x.2.1,K L x.2.2.1,dR x.2.2.2]
abbrev aa2 (x:xM):aD:=aU #[K L x.1,K L x.2.1,K L x.2.2.1,dR x.2.2.2]
def EG:Ek xM:=⟨65,45,4,48,aU #[K L 0,K L 0,K L 0,V aJ 0 0],aa2,wG⟩
theorem acY:(Tryz.prog.info? 65).map (fun i=>(i.zero,i.size,i.bytes))=X (X (aU #[K L 0,K L 0,K L 0,V aJ 0 0]),4,48):=by kernel_rfl
theorem acZ (w:aL) (p:Addr) (x:xM) (h:∀ j u,(wG x)[j]?=X u->w.cell? (p.add j)=X u):(Instr.loadAt 65 (aG (X p))).run ak w=.ok (aa2 x) w:=by
 have h0:=h 0 _ rfl;have h1:=h 1 _ rfl;have h2:=h 2 _ rfl;have h3:=h 3 _ rfl;simp [Addr.add] at h0 h1 h2 h3;simp [go_sem,h0,h1,h2,h3]
theorem okG:EG.Ok where
 hu:=Tryz.underlying45
 info:=by
  have h:=acY;cases hi:Tryz.prog.info? 65 with
  | none=>rw [hi] at h; cases h
  | some i =>
   rw [hi] at h;simp only [Option.map_some,aS,Prod.mk.injEq] at h;exact⟨i,hi,h.1,h.2.1,h.2.2⟩
 zs:=rfl
 len:=fun _=>rfl
 one:=fun x u hu=>by
  simp only [EG,wG,List.mem_cons,List.not_mem_nil,or_false] at hu;rcases hu with rfl|rfl|rfl|rfl <;> rfl
 pos:=by decide
 few:=by decide
 load:=fun w p x h=>acZ w p x h
abbrev NM (W:aL) (v:aD) (l:List xM):Prop:=Row EG W v l
abbrev Gn (W:aL) (B:Nat) (v:aD) (l:List xM):Prop:=Own EG W B v l
theorem elG {W:aL} {v:aD} {l:List xM} {ao:Option Addr} {n c k:Nat} {x:xM} (h:NM W v l) (hv:v=V ao n c) (hn:l.length=n) (hk:l[k]?=X x) :
  ∃ p:Addr,(∀ w,(Instr.indexAt 45 (V ao n c) (K L k)).run ak w=.ok (aG (X p)) w)/\∀ w,Below W.heap.size W w->w.cell? p=X (K L x.1)/\w.cell? ⟨p.block,p.off+1,aJ⟩=X (K L x.2.1)/\w.cell? ⟨p.block,p.off+2,aJ⟩=X (K L x.2.2.1)/\w.cell? ⟨p.block,p.off+3,aJ⟩=X (dR x.2.2.2):=by
 obtain⟨p,h1,_,h2⟩:=mR okG h hv hn hk;exact⟨p,h1,fun w hw=>⟨by simpa [Addr.add] using h2 w hw 0 _ rfl,by simpa [Addr.add] using h2 w hw 1 _ rfl,by simpa [Addr.add] using h2 w hw 2 _ rfl,by simpa [Addr.add] using h2 w hw 3 _ rfl⟩⟩
def uR (p:List C5) (l:List An):Bool:=vW (p.map WA) l
def WE (t:Id) (l:List An) (n:Int) (e:En):Bool:=decide (e.tree=t) && (decide (e.from_=n) && uR e.p l)
def aa3 (l:List An) (c:Int) (o:Ow):Bool:=decide (o.id.1=c) && uR o.p l
def toB (b:Br) (t:Id) (l:List An):List Int:=b.near.filter fun n=>b.ent.any (WE t l n)
def NP:List Int:=(List.range 32).map fun (c:Nat)=>(c:Int)
def xO (b:Br) (l:List An):List Int:=NP.filter fun c=>b.own.any (aa3 l c)
def iH (b:Br) (f:Int) (t:Id) (l:List An):List Int×List Int :=
 match b.dO.find? fun a=>decide (a.id=t) with
 | some a=>if a.par=f then (toB b t l,xO b l) else ([],[])
 | none=>([],[])
def iL {κ:Type} [DecidableEq κ]:List κ->κ->Int
 | [],_=>-1
 | a::l,x=>if a=x then 0 else if iL l x=-1 then -1 else iL l x+1
theorem uh {κ:Type} [DecidableEq κ] (l:List κ) (x:κ) (h:∀ (j:Nat) (y:κ),l[j]?=X y->y≠x):iL l x=-1:=by
 induction l with
 | nil=>rfl
 | cons a l ih=>rw [iL,if_neg (h 0 a rfl),ih fun j y hj=>h (j+1) y (by simpa using hj),if_pos rfl]
theorem Gp {κ:Type} [DecidableEq κ] (l:List κ) (k:Nat) (x:κ) (h:l[k]?=X x) (hall:∀ (j:Nat) (z:κ),j<k->l[j]?=X z->z≠x):iL l x=k:=by
 induction l generalizing k with
 | nil=>simp at h
 | cons a l ih =>
  cases k with
  | zero =>
   obtain rfl:a=x:=by simpa using h
   rw [iL,if_pos rfl]
   rfl
  | succ k =>
   have h2:=ih k (by simpa using h) fun j z hj hz=>hall (j+1) z (by omega) (by simpa using hz);rw [iL,if_neg (hall 0 a (by omega) rfl),h2,if_neg (by omega)];omega
theorem mI {κ:Type} [DecidableEq κ] (l:List κ) (x:κ):iL l x=-1\/∃ k:Nat,iL l x=k/\l[k]?=X x:=by
 induction l with
 | nil=>exact Or.inl rfl
 | cons a l ih =>
  rw [iL];by_cases h:a=x
  ·rw [if_pos h];exact Or.inr ⟨0,rfl,by rw [h]; rfl⟩
  ·rw [if_neg h];rcases ih with h2|⟨k,h2,h3⟩
   ·rw [if_pos h2];exact Or.inl rfl
   ·rw [if_neg (by omega),h2];exact Or.inr ⟨k+1,by omega,by simpa using h3⟩
abbrev iI (e:iA):Id×Id:=((e.1,e.2.1),(e.2.2.1,e.2.2.2.1))
theorem yY (me:Int) (nv av sv ov:aD) (ev:Sl) (l:List iA) (x z:Id) (w:aL) (hs:jZ w (dR ev) l) :
  Calls ak 91 #[aU #[K L me,nv,av,sv,dR ev,ov],mD x,mD z] w fun e w'=>e=.returned (K L (iL (l.map iI) (x,z)))/\Below w.heap.size w w':=by
 obtain⟨c,d⟩:=x;obtain⟨g,h⟩:=z;obtain⟨so,sn,sc⟩:=ev;obtain⟨ao,ac,hv⟩:=hs.len;have hv:V so sn sc=V ao l.length ac:=hv;obtain⟨rfl,rfl,rfl⟩:so=ao/\sn=l.length/\sc=ac:=by simpa using hv
 obtain⟨h0,h1,h2,h3⟩:=gN w #[K L me,nv,av,sv,V so l.length sc,ov] #[K L c,K L d] #[K L g,K L h] 33 38 38;have B:=D h0;have HS:=D (hs.on h0);have X2:=D h1;have X3:=D h2;have X4:=D h3;have lm:=hs.most;unfold maxLen at lm;obtain⟨n,hn⟩:∃ n,n=l.length:=⟨_,rfl⟩;have q3:=h1.cell 4;simp only [aC,au,ay] at q3;rw [<- hn] at HS X2 lm q3 B X3 X4 ⊢;have HN:=D hn.symm;clear h0 h1 h2 h3 hs hv hn;go_enter Tryz.func91,Tryz.ntmps91;go_upto_region 1 with fail;generalize ((w.alloc (.cells #[K L me,nv,av,sv,V so n sc,ov] 33)).alloc (.cells #[K L c,K L d] 38)).alloc (.cells #[K L g,K L h] 38)=W at *;go_wp2
 go_loopw [12] (fun i wr=>∃ k:Nat,k<=n/\i=K L k/\Below W.heap.size W wr/\∀ (j:Nat) (y:iA),j<k->l[j]?=X y->iI y≠((c,d),(g,h))) (fun i _=>n-(intOf i).toNat)
 case atStart=>exact⟨0,aP _,rfl,Below.refl _ _,fun j y h=>by omega⟩
 case round =>
  obtain⟨k,hk,rfl,hbe,hall⟩:=hrel;have BE:=D hbe;have AL:=D hall;clear hbe hall;by_cases hlt:k<n
  ·obtain⟨y,hy⟩:∃ y,l[k]?=X y:=⟨_,J (by rw [HN.out]; exact hlt)⟩;obtain⟨p,ix,px⟩:=P7 HS.out rfl HN.out hy;obtain⟨p0,p1,p2,p3,p4,p5,p6⟩:=px wr BE.out;obtain⟨y1,y2,y3,y4,⟨yo,yn,yc⟩,y6,y7⟩:=y;simp only at p0 p1 p2 p3 p4 p5 p6;have NB:=D (fE wr (.cells #[K L y1,K L y2,K L y3,K L y4,V yo yn yc,K L y6,aT y7] 68));obtain⟨x0,x1⟩:=((X3.out.on BE.out).on NB.out).cs2;obtain⟨z0,z1⟩:=((X4.out.on BE.out).on NB.out).cs2;have hw3:IntKind.i64.wrap ((k:Int)+1)=(k:Int)+1:=IntWalk.i64_in _ (by omega);obtain⟨r,hr⟩:∃ r,(y1 == c && y2 == d)=r:=⟨_,rfl⟩;obtain⟨t,ht⟩:∃ r,(y3 == g && y4 == h)=r:=⟨_,rfl⟩;have he:=rz y1 y2 c d r hr;have hf:=rz y3 y4 g h t ht;have HY:=D hy;have HR:=D hr;have HT:=D ht;clear px hy hr ht;cases r
   ·go_wp2
    go_roundw
    case rel=>exact⟨k+1,by omega,by go_num,BE.out.trans (NB.out.mono BE.out.size),fun j y' hj h1=>by
     rcases Y j k with h3|h3
     ·exact AL.out j y' h3 h1
     ·obtain rfl:j=k:=by omega
      have e1:=HY.out;rw [h1] at e1;rw [O e1];intro e;obtain⟨⟨rfl,rfl⟩,_⟩:(y1=c/\y2=d)/\(y3=g/\y4=h):=by simpa [iI] using e
      have:=HR.out;simp at this⟩
    case measure=>simp [intOf]; omega
   ·cases t
    ·go_wp2
     go_roundw
     case rel=>exact⟨k+1,by omega,by go_num,BE.out.trans (NB.out.mono BE.out.size),fun j y' hj h1=>by
      rcases Y j k with h3|h3
      ·exact AL.out j y' h3 h1
      ·obtain rfl:j=k:=by omega
       have e1:=HY.out;rw [h1] at e1;rw [O e1];intro e;obtain⟨_,rfl,rfl⟩:(y1=c/\y2=d)/\(y3=g/\y4=h):=by simpa [iI] using e
       have:=HT.out;simp at this⟩
     case measure=>simp [intOf]; omega
    ·go_wp2;go_ret;have h8:=HR.out;have h9:=HT.out;obtain⟨rfl,rfl⟩:y1=c/\y2=d:=by simpa using h8
     obtain⟨rfl,rfl⟩:y3=g/\y4=h:=by simpa using h9
     exact⟨by rw [Gp (l.map iI) k ((y1,y2),(y3,y4)) (by rw [Z,HY.out]; rfl) (fun j z hj hz=>by
      rw [Z] at hz;cases hl:l[j]? with
      | none=>rw [hl] at hz; cases hz
      | some q =>
       rw [hl] at hz;have hz:iI q=z:=O hz;rw [<- hz];exact AL.out j q hj hl)]; rfl,B.out.trans ((BE.out.trans (NB.out.mono BE.out.size)).mono B.out.size)⟩
  ·obtain rfl:k=n:=by omega
   go_wp2;go_ret;have hd:iL (l.map iI) ((c,d),(g,h))=-1:=uh _ _ fun j z hz=>by
    rw [Z] at hz;cases hl:l[j]? with
    | none=>rw [hl] at hz; cases hz
    | some q =>
     rw [hl] at hz;have hz:iI q=z:=O hz;rw [<- hz];exact AL.out j q (by rw [<- HN.out]; exact (aj.1 hl).1) hl
   exact⟨by rw [hd]; rfl,B.out.trans (BE.out.mono B.out.size)⟩
theorem wH {κ:Type} (f:κ->Bool) (l:List κ) (k:Nat) (hall:∀ (j:Nat) (y:κ),j<k->l[j]?=X y->f y=aR) (hend:k=l.length\/∃ y,l[k]?=X y/\f y=aO):(l.takeWhile f).length=k:=by
 induction l generalizing k with
 | nil =>
  rcases hend with h|⟨y,h,_⟩
  ·rw [h]; rfl
  ·simp at h
 | cons a l ih =>
  cases k with
  | zero =>
   rcases hend with h|⟨y,h,h2⟩
   ·simp at h
   ·obtain rfl:a=y:=by simpa using h
    rw [aI,h2]
    rfl
  | succ k =>
   have h0:=hall 0 a (by omega) rfl;rw [aI,h0];simp only [if_true,List.length_cons];rw [ih k (fun j y hj hy=>hall (j+1) y (by omega) (by simpa using hy)) (by
    rcases hend with h|⟨y,h,h2⟩
    ·exact Or.inl (by simpa using h)
    ·exact Or.inr ⟨y,by simpa using h,h2⟩)]
def je (a b:Id×Id):Bool:=eu a.1 b.1 || (eqI a.1 b.1 && eu a.2 b.2)
def eP (l:List (Id×Id)) (x:Id×Id):Nat:=(l.takeWhile fun a=>je a x).length
noncomputable def ac0:Code:=((Tryz.f57.body.bind (iY 0)).getD .skip)
theorem wI (Q:Exit->Act->aL->Prop) (W:aL) (b2 b3:Nat) (me c d g h:Int) (y1_ y2_ y3_ y5_ p3' p4' p5':aD) (so:Option Addr) (n sc:Nat) (l:List iA) (u0 u1 u4 u5 u6 u8 u9 u10 u11 u12 u13 u14 u15 u16 u17 u18 u19 u20 u21 u22 u23 u24 u25 u26 u27 u28 u29 u30 u31 u32 u33 u34 u35 u36 u37 u38 u39 u40 u41 u42 u43 u44 u45 u46 u47 u48 u49 u50 u51 u52 u53 u54 u55 u56 u57 u58 u59 u60 u61 u62 u63 u64 u65 u66 u67 u68 u69 u70 u71 u72 u73 u74 u75 u76 u77 u78 u79 u80 u81 u82 u83 u84 u85 u86 u87 u88 u89 u90 u91 u92 u93 u94 u95 u96 u97 u98 u99 u100 u101 u102 u103 u104 u105 u106 u107 u108 u109 u110 u111 u112 u113 u114:aD)
  (h2:dJ W b2 #[K L me,y1_,y2_,y3_,V so n sc,y5_] 33) (h3:dJ W b3 #[K L c,K L d,K L g,K L h,p3',p4',p5'] 68) (hs:jZ W (V so n sc) l) (hn:n=l.length) (hm:n<=1000000)
  (hQ:∀ (wr:aL) (v57 v58 v59 v60 v61 v62 v63 v64 v65 v66 v67 v68 v69 v70 v71 v72 v73 v74 v75 v76 v77 v78 v79 v80 v81 v82 v83 v84 v85 v86 v87 v88 v89 v90 v91 v92 v93 v94 v95 v96:aD),Below W.heap.size W wr->Q .normal ⟨(u0::u1::aG (X ⟨b2,0,aJ⟩)::aG (X ⟨b3,0,aJ⟩)::u4::u5::u6::K L (eP (l.map iI) ((c,d),(g,h)):Nat)::u8::u9::u10::u11::u12::u13::u14::u15::u16::u17::u18::u19::u20::u21::u22::u23::u24::u25::u26::u27::u28::u29::u30::u31::u32::u33::u34::u35::u36::u37::u38::u39::u40::u41::u42::u43::u44::u45::u46::u47::u48::u49::u50::u51::u52::u53::u54::u55::u56::v57::v58::v59::v60::v61::v62::v63::v64::v65::v66::v67::v68::v69::v70::v71::v72::v73::v74::v75::v76::v77::v78::v79::v80::v81::v82::v83::v84::v85::v86::v87::v88::v89::v90::v91::v92::v93::v94::v95::v96::u97::u98::u99::u100::u101::u102::u103::u104::u105::u106::u107::u108::u109::u110::u111::u112::u113::u114::[]).toArray,[]⟩ wr) :
  Code.wp ak ac0 Q ⟨(u0::u1::aG (X ⟨b2,0,aJ⟩)::aG (X ⟨b3,0,aJ⟩)::u4::u5::u6::K L 0::u8::u9::u10::u11::u12::u13::u14::u15::u16::u17::u18::u19::u20::u21::u22::u23::u24::u25::u26::u27::u28::u29::u30::u31::u32::u33::u34::u35::u36::u37::u38::u39::u40::u41::u42::u43::u44::u45::u46::u47::u48::u49::u50::u51::u52::u53::u54::u55::u56::u57::u58::u59::u60::u61::u62::u63::u64::u65::u66::u67::u68::u69::u70::u71::u72::u73::u74::u75::u76::u77::u78::u79::u80::u81::u82::u83::u84::u85::u86::u87::u88::u89::u90::u91::u92::u93::u94::u95::u96::u97::u98::u99::u100::u101::u102::u103::u104::u105::u106::u107::u108::u109::u110::u111::u112::u113::u114::[]).toArray,[]⟩ W:=by
 have HQ:=D hQ;have H2:=D h2;have H3:=D h3;have HS:=D hs;have HN:=D hn;clear hQ h2 h3 hs hn
 conv=>arg 2; whnf
 go_wp2
 go_loopw [7] (fun i wr=>∃ k:Nat,k<=n/\i=K L k/\Below W.heap.size W wr/\∀ (j:Nat) (y:Id×Id),j<k->(l.map iI)[j]?=X y->je y ((c,d),(g,h))=aR) (fun i _=>n-(intOf i).toNat)
 case atStart=>exact⟨0,aP _,rfl,Below.refl _ _,fun j y h=>by omega⟩
 case round =>
  obtain⟨k,hk,rfl,hbe,hall⟩:=hrel;have BE:=D hbe;have AL:=D hall;clear hbe hall;have q0:=U (show wr.cell? ⟨b2,4,aJ⟩=X (V so n sc) from (H2.out.on BE.out).cell 4);have r0:=U (show wr.cell? ⟨b3,0,aJ⟩=X (K L c) from (H3.out.on BE.out).cell 0);have r1:=U (show wr.cell? ⟨b3,1,aJ⟩=X (K L d) from (H3.out.on BE.out).cell 1);have r2:=U (show wr.cell? ⟨b3,2,aJ⟩=X (K L g) from (H3.out.on BE.out).cell 2);have r3:=U (show wr.cell? ⟨b3,3,aJ⟩=X (K L h) from (H3.out.on BE.out).cell 3);have hw3:IntKind.i64.wrap ((k:Int)+1)=(k:Int)+1:=IntWalk.i64_in _ (by omega);by_cases hlt:k<n
  ·obtain⟨y,hy⟩:∃ y,l[k]?=X y:=⟨_,J (by rw [<- HN.out]; exact hlt)⟩;obtain⟨p,ix,px⟩:=P7 HS.out rfl HN.out.symm hy;have xL:=px wr BE.out;obtain⟨y1,y2,y3,y4,⟨yo,yn,yc⟩,y6,y7⟩:=y;simp only at xL;have p0:=U xL.1;have p1:=U xL.2.1;have p2:=U xL.2.2.1;have p3:=U xL.2.2.2.1;have xg:decide ((k:Int)<(n:Int))=aR:=decide_eq_true (by omega);have AQ:decide (k<n)=aR:=decide_eq_true hlt;obtain⟨r,hr⟩:∃ r,eu (y1,y2) (c,d)=r:=⟨_,rfl⟩;obtain⟨t,ht⟩:∃ r,(y1 == c && y2 == d)=r:=⟨_,rfl⟩;obtain⟨s,hs⟩:∃ r,eu (y3,y4) (g,h)=r:=⟨_,rfl⟩;have he:=rz y1 y2 c d t ht;have LS:=D (fun d' os=>Calls.regrown_of (d:=d') (os:=os) ((rA (y1,y2) (c,d) (grow (aQ wr d') os)).mono fun _ _ h=>⟨by rw [h.1,hr],h.2⟩));have LT:=D (fun d' os=>Calls.regrown_of (d:=d') (os:=os) ((rA (y3,y4) (g,h) (grow (aQ wr d') os)).mono fun _ _ h=>⟨by rw [h.1,hs],h.2⟩));have HY:=D (show (l.map iI)[k]?=X ((y1,y2),(y3,y4)) by rw [Z,hy]; rfl);have HV:=D (show je ((y1,y2),(y3,y4)) ((c,d),(g,h))=(r || (t && s)) by rw [<- hr,<- ht,<- hs]; rfl);clear px xL hy hr ht hs;cases r
   ·cases t
    ·have HR:=D (HV.out.trans (show _=aO by simp));go_wp2_with fail;refine wp_region_quiet_below (by kernel_rfl) (by kernel_rfl) ?_
     repeat (go_big_quiet_step (first | (with_reducible exact LS.out _ _) | (with_reducible exact LT.out _ _)))
     refine wpQuiet_nil ?_;intro _ hw';obtain⟨⟨dq,osq⟩,hw''⟩:=hw';subst hw'';have Z6:=ah wr dq osq;have HF:=D (fun v57 v58 v59 v60 v61 v62 v63 v64 v65 v66 v67 v68 v69 v70 v71 v72 v73 v74 v75 v76 v77 v78 v79 v80 v81 v82 v83 v84 v85 v86 v87 v88 v89 v90 v91 v92 v93 v94 v95 v96=>HQ.out (grow (aQ wr dq) osq) v57 v58 v59 v60 v61 v62 v63 v64 v65 v66 v67 v68 v69 v70 v71 v72 v73 v74 v75 v76 v77 v78 v79 v80 v81 v82 v83 v84 v85 v86 v87 v88 v89 v90 v91 v92 v93 v94 v95 v96 (BE.out.trans (Z6.mono BE.out.size)));rw [show eP (l.map iI) ((c,d),(g,h))=k from wH _ _ k AL.out (Or.inr ⟨_,HY.out,HR.out⟩)] at HF;clear ix HQ q0 r0 r1 r2 r3 LS LT xg AQ p0 p1 p2 p3 he;go_wp2;exact HF.out _ _ _ _ _ _ _ _ _ _ _ _ _ _ _ _ _ _ _ _ _ _ _ _ _ _ _ _ _ _ _ _ _ _ _ _ _ _ _ _
    ·cases s
     ·have HR:=D (HV.out.trans (show _=aO by simp));go_wp2_with fail;refine wp_region_quiet_below (by kernel_rfl) (by kernel_rfl) ?_
      repeat (go_big_quiet_step (first | (with_reducible exact LS.out _ _) | (with_reducible exact LT.out _ _)))
      refine wpQuiet_nil ?_;intro _ hw';obtain⟨⟨dq,osq⟩,hw''⟩:=hw';subst hw'';have Z6:=ah wr dq osq;have HF:=D (fun v57 v58 v59 v60 v61 v62 v63 v64 v65 v66 v67 v68 v69 v70 v71 v72 v73 v74 v75 v76 v77 v78 v79 v80 v81 v82 v83 v84 v85 v86 v87 v88 v89 v90 v91 v92 v93 v94 v95 v96=>HQ.out (grow (aQ wr dq) osq) v57 v58 v59 v60 v61 v62 v63 v64 v65 v66 v67 v68 v69 v70 v71 v72 v73 v74 v75 v76 v77 v78 v79 v80 v81 v82 v83 v84 v85 v86 v87 v88 v89 v90 v91 v92 v93 v94 v95 v96 (BE.out.trans (Z6.mono BE.out.size)));rw [show eP (l.map iI) ((c,d),(g,h))=k from wH _ _ k AL.out (Or.inr ⟨_,HY.out,HR.out⟩)] at HF;clear ix HQ q0 r0 r1 r2 r3 LS LT xg AQ p0 p1 p2 p3 he;go_wp2;exact HF.out _ _ _ _ _ _ _ _ _ _ _ _ _ _ _ _ _ _ _ _ _ _ _ _ _ _ _ _ _ _ _ _ _ _ _ _ _ _ _ _
     ·have HR:=D (HV.out.trans (show _=aR by simp));go_wp2_with fail;refine wp_region_quiet_below (by kernel_rfl) (by kernel_rfl) ?_
      repeat (go_big_quiet_step (first | (with_reducible exact LS.out _ _) | (with_reducible exact LT.out _ _)))
      refine wpQuiet_nil ?_;intro _ hw';obtain⟨⟨dq,osq⟩,hw''⟩:=hw';subst hw'';have Z6:=D (ah wr dq osq);clear ix q0 r0 r1 r2 r3 LS LT xg AQ p0 p1 p2 p3 he;go_wp2
      go_roundw
      case rel=>exact⟨k+1,by omega,by go_num,BE.out.trans (Z6.out.mono BE.out.size),fun j y' hj h1=>by
       rcases Y j k with h3|h3
       ·exact AL.out j y' h3 h1
       ·obtain rfl:j=k:=by omega
        have e1:=HY.out;rw [h1] at e1;rw [O e1];exact HR.out⟩
      case measure=>simp [intOf]; omega
   ·have HR:=D (HV.out.trans (show _=aR by simp));go_wp2_with fail;refine wp_region_quiet_below (by kernel_rfl) (by kernel_rfl) ?_
    repeat (go_big_quiet_step (first | (with_reducible exact LS.out _ _) | (with_reducible exact LT.out _ _)))
    refine wpQuiet_nil ?_;intro _ hw';obtain⟨⟨dq,osq⟩,hw''⟩:=hw';subst hw'';have Z6:=D (ah wr dq osq);clear ix q0 r0 r1 r2 r3 LS LT xg AQ p0 p1 p2 p3 he;go_wp2
    go_roundw
    case rel=>exact⟨k+1,by omega,by go_num,BE.out.trans (Z6.out.mono BE.out.size),fun j y' hj h1=>by
     rcases Y j k with h3|h3
     ·exact AL.out j y' h3 h1
     ·obtain rfl:j=k:=by omega
      have e1:=HY.out;rw [h1] at e1;rw [O e1];exact HR.out⟩
    case measure=>simp [intOf]; omega
  ·obtain rfl:n=k:=by omega
   have xg:decide ((n:Int)<(n:Int))=aO:=by simp
   have AQ:decide (n<n)=aO:=by simp
   go_wp2_with fail;refine wp_region_quiet_below (by kernel_rfl) (by kernel_rfl) ?_
   repeat (go_big_quiet_step (fail))
   refine wpQuiet_nil ?_;intro _ hw';obtain⟨⟨dq,osq⟩,hw''⟩:=hw';subst hw'';have Z6:=ah wr dq osq;have HF:=D (fun v57 v58 v59 v60 v61 v62 v63 v64 v65 v66 v67 v68 v69 v70 v71 v72 v73 v74 v75 v76 v77 v78 v79 v80 v81 v82 v83 v84 v85 v86 v87 v88 v89 v90 v91 v92 v93 v94 v95 v96=>HQ.out (grow (aQ wr dq) osq) v57 v58 v59 v60 v61 v62 v63 v64 v65 v66 v67 v68 v69 v70 v71 v72 v73 v74 v75 v76 v77 v78 v79 v80 v81 v82 v83 v84 v85 v86 v87 v88 v89 v90 v91 v92 v93 v94 v95 v96 (BE.out.trans (Z6.mono BE.out.size)));rw [show eP (l.map iI) ((c,d),(g,h))=n from wH _ _ n AL.out (Or.inl (by simpa using HN.out))] at HF;clear HQ q0 r0 r1 r2 r3 xg AQ;go_wp2;exact HF.out _ _ _ _ _ _ _ _ _ _ _ _ _ _ _ _ _ _ _ _ _ _ _ _ _ _ _ _ _ _ _ _ _ _ _ _ _ _ _ _
end Bk
namespace Av
open Go.RowKit Go.Sort Rw YtkcfgbddlpomgaaGreat.Nm Pr Bk
def jR (near:List Int) (f:Int):Bool:=decide (f∈near) || f == -1
end Av
namespace Rl
open Go.RowKit Pu Pr
def VT (p:List Cn) (n:ByteArray):Option Cn:=p.find? fun c=>decide (c.1=n)
theorem Q6 {p:List Cn} {n:ByteArray} {y:Cn} (h:VT p n=X y):y∈p/\y.1=n:=⟨List.mem_of_find?_eq_some h,by simpa using List.find?_some h⟩
theorem ac1 {p:List Cn} {n:ByteArray} {k:Nat} {y:Cn} (hk:p[k]?=X y) (he:y.1=n) (hn:∀ (j:Nat) (z:Cn),j<k->p[j]?=X z->z.1≠n):VT p n=X y:=by
 unfold VT;rw [List.find?_eq_some_iff_getElem];obtain⟨hlt,hy⟩:=aj.1 hk;refine⟨by simpa using he,k,hlt,hy,fun j hj=>?_⟩;have:=hn j p[j] hj (J (by omega));simpa using this
theorem WH {p:List Cn} {n:ByteArray} (hn:∀ (j:Nat) (z:Cn),j<p.length->p[j]?=X z->z.1≠n):VT p n=aJ:=by
 unfold VT;rw [aK];intro x hx;obtain⟨j,hj,e⟩:=aH hx;have:=hn j x hj (by rw [J hj,e]);simpa using this
def JB (b:List Cn) (x:Cn):Bool:=match VT b x.1 with
 | some y=>eF y.2 x.2
 | none=>aO
theorem NQ {a b:List Cn} (hb:mX b):oz a b=a.all (JB b):=by
 unfold oz
 congr 1
 funext x
 unfold JB;cases hf:VT b x.1 with
 | none =>
  rw [aM];intro y hy;have:=aK.1 hf y hy;simp only [decide_eq_true_eq] at this;simp [this]
 | some y =>
  obtain⟨h1,h2⟩:=Q6 hf;rw [aB,aN];constructor
  ·rintro⟨z,hz,h3⟩;simp only [aA,decide_eq_true_eq] at h3;rw [acR hb h1 hz (h2.trans h3.1.symm)];exact h3.2
  ·intro h3;exact⟨y,h1,by simp [h2,h3]⟩
theorem JC {n:ByteArray} {c d k:Kd} (hc:iZ c=aR) (hd:iZ d=aR) (h:fu c d=X k):xK (r5 (n,k)) (r5 (n,d))=eF d c:=by
 obtain⟨k1,k2⟩:=Na c d k hc hd h;rw [aB,FY];constructor
 ·intro e;have e2:=aaR e;obtain rfl:k=d:=congrArg Prod.snd e2;exact AP k c hd fun v hv=>by rw [k2,aA] at hv; exact hv.1
 ·intro hi;have:k=d:=Jj k d k1 hd fun v=>by
   rw [k2,aB,aA];exact⟨fun h=>h.2,fun h=>⟨tF d c hi v h,h⟩⟩
  rw [this]
theorem JD {c d:Kd} (hd:iZ d=aR) (h:fu c d=aJ):eF d c=aO:=by
 rw [Bool.eq_false_iff];intro hi;obtain⟨v,hv⟩:=Ji d hd;have:=Nb c d h v;rw [hv,tF d c hi v hv] at this;cases this
/-! ### samples -/
/-! ### both together -/
end Rl
end Go.Proofs.YtkcfgbddlpomgaaGreat
