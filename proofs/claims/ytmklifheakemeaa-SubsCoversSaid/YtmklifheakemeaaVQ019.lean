/-
  Find of package adve. Conditions as told.
-/
import Derived.Test.YtmklifheakemeaaVQ015
import Derived.Test.YtmklifheakemeaaVQ013
set_option maxRecDepth 100000
set_option maxHeartbeats 64000000
open _root_.Go renaming World->ah,Calls->aD
open Go.IntKind renaming i64->L
open Go.Lib renaming hid->D
open Go.Obj renaming cells->J
open Go.Proofs.Try renaming results65->Z,prog->ay,results28->aA,ntmps65->aB,func65->aC
open Go.Value renaming int->K,slice->Q,string->ak,bool->au
open _root_.List renaming getElem?_eq_getElem->Y
open _root_.Option renaming none->V,some->aj
open Option.some renaming inj->U
namespace Go.Proofs.Ytmklifheakemeaa
namespace Av
open Go.RowKit Go.Sort Rw Ytmklifheakemeaa.Nm Pr Bk
def fT (l:List Ad) (x:eu):Option Ad:=l.find? fun a=>decide (a.id=x)
theorem sH {l:List Ad} {x:eu} (h:∀ (j:Nat) (a:Ad),l[j]?=aj a->a.id≠x):fT l x=V:=by
 unfold fT;rw [List.find?_eq_none];intro a ha;obtain⟨j,hj⟩:=List.mem_iff_getElem?.1 ha;simpa using h j a hj
theorem pQ:∀ {l:List Ad} {x:eu} {k:Nat} {a:Ad},l[k]?=aj a->a.id=x->(∀ (j:Nat) (z:Ad),j<k->l[j]?=aj z->z.id≠x)->fT l x=aj a
 | [],_,_,_,h,_,_=>by simp at h
 | b::l,x,0,a,h,hx,_=>by
  obtain rfl:b=a:=by simpa using h
  simp [fT,hx]
 | b::l,x,k+1,a,h,hx,hall=>by
  have hb:=hall 0 b (by omega) rfl;have ih:=pQ (l:=l) (x:=x) (k:=k) (a:=a) (by simpa using h) hx fun j z hj hz=>hall (j+1) z (by omega) (by simpa using hz);unfold fT at *;rw [List.find?_cons_of_neg (by simpa using hb)];exact ih
def MK (W:ah) (o:Option Ad) (w:ah) (e:Ending) (w':ah):Prop:=(match o with
 | none=>e=.returned (.tuple #[kL (0,0,(V,0,0),0),au false])
 | some a=>∃ r:jr,e=.returned (.tuple #[kL r,au true])/\uO w' r a)/\Below W.heap.size w w'
theorem FJ (me:Int) (nv sv ev ov:Value) (av:Sl) (l:List jr) (al:List Ad) (x:eu) (w:ah) (hs:Af w (dR av) l) (hA:eF (uO w) l al) (hf:∀ a∈al,a.p.length<=900) :
  aD ay 28 #[.agg #[K L me,nv,dR av,sv,ev,ov],pG x] w (MK w (fT al x) w):=by
 obtain⟨c,d⟩:=x;obtain⟨so,sn,sc⟩:=av;obtain⟨ao,ac,hv⟩:=hs.len;have hv:Q so sn sc=Q ao l.length ac:=hv;obtain⟨rfl,rfl,rfl⟩:so=ao/\sn=l.length/\sc=ac:=by simpa using hv
 obtain⟨h0,h1,h2⟩:=iT w #[K L me,nv,Q so l.length sc,sv,ev,ov] #[K L c,K L d] 31 25;have h3:=iG ((w.alloc (J #[K L me,nv,Q so l.length sc,sv,ev,ov] 31)).alloc (J #[K L c,K L d] 25)) (J #[K L 0,K L 0,Q V 0 0,K L 0] 37);have h4:=dO ((w.alloc (J #[K L me,nv,Q so l.length sc,sv,ev,ov] 31)).alloc (J #[K L c,K L d] 25)) #[K L 0,K L 0,Q V 0 0,K L 0] 37;have hsz:((w.alloc (J #[K L me,nv,Q so l.length sc,sv,ev,ov] 31)).alloc (J #[K L c,K L d] 25)).heap.size=w.heap.size+1+1:=by simp
 rw [hsz] at h4;have B:=D (h0.trans (h3.mono h0.size));have HS:=D (hs.on B.out);have HA:=D (hA.mono fun _ _ h=>h.on B.out);have X2:=D (h1.on h3);have X3:=D (h2.on h3);have X4:=D h4;have HF:=D hf;have lm:=hs.most;unfold maxLen at lm;obtain⟨n,hn⟩:∃ n,n=l.length:=⟨_,rfl⟩;have q3:=X2.out.cell 2;simp only [List.getElem?_toArray,List.getElem?_cons_zero,List.getElem?_cons_succ] at q3;rw [<- hn] at HS X2 X3 X4 HA lm q3 B ⊢;have HN:=D hn.symm;obtain⟨fo,hfo⟩:∃ o,o=fT al (c,d):=⟨_,rfl⟩;rw [<- hfo];have FO:=D hfo;clear h0 h1 h2 h3 h4 hs hv hn hA hf hsz hfo;go_enter Try.func28,Try.ntmps28;go_upto_region 1 with fail;generalize ((w.alloc (J #[K L me,nv,Q so n sc,sv,ev,ov] 31)).alloc (J #[K L c,K L d] 25)).alloc (J #[K L 0,K L 0,Q V 0 0,K L 0] 37)=W at *;go_wp2
 go_loopw [11] (fun i wr=>∃ k:Nat,k<=n/\i=K L k/\Below W.heap.size W wr/\∀ (j:Nat) (y:jr),j<k->l[j]?=aj y->(y.1,y.2.1)≠(c,d)) (fun i _=>n-(intOf i).toNat)
 case atStart=>exact⟨0,Nat.zero_le _,rfl,Below.refl _ _,fun j y h=>by omega⟩
 case round =>
  obtain⟨k,hk,rfl,hbe,hall⟩:=hrel;have BE:=D hbe;have AL:=D hall;clear hbe hall;by_cases hlt:k<n
  ·obtain⟨y,hy⟩:∃ y,l[k]?=aj y:=⟨_,Y (by rw [HN.out]; exact hlt)⟩;obtain⟨p,ix,px⟩:=Pb HS.out rfl HN.out hy;obtain⟨p0,p1,p2,p3⟩:=px wr BE.out;obtain⟨y1,y2,⟨yo,yn,yc⟩,y4⟩:=y;simp only at p0 p1 p2 p3;have NB:=D (iG wr (J #[K L y1,K L y2,Q yo yn yc,K L y4] 37));obtain⟨x0,x1⟩:=((X3.out.on BE.out).on NB.out).cs2;have hw3:IntKind.i64.wrap ((k:Int)+1)=(k:Int)+1:=IntWalk.i64_in _ (by omega);obtain⟨r,hr⟩:∃ r,(y1 == c && y2 == d)=r:=⟨_,rfl⟩;have he:=Ag y1 y2 c d r hr;have HY:=D hy;have HR:=D hr;clear px hy hr;cases r
   ·go_wp2
    go_roundw
    case rel=>exact⟨k+1,by omega,by go_num,BE.out.trans (NB.out.mono BE.out.size),fun j y' hj h1=>by
     rcases Nat.lt_or_ge j k with h3|h3
     ·exact AL.out j y' h3 h1
     ·obtain rfl:j=k:=by omega
      have e1:=HY.out;rw [h1] at e1;rw [U e1];intro e;obtain⟨rfl,rfl⟩:y1=c/\y2=d:=by simpa using e
      have:=HR.out;simp at this⟩
    case measure=>simp [intOf]; omega
   ·obtain⟨a,ha⟩:∃ a,al[k]?=aj a:=⟨_,Y (by rw [<- HA.out.len,HN.out]; exact hlt)⟩;obtain⟨z,hz1,hz2⟩:=HA.out.at k a ha;rw [HY.out] at hz1;obtain rfl:=U hz1;have BA:=D (BE.out.trans (NB.out.mono BE.out.size));have C:=D (rX (y1,y2,(yo,yn,yc),y4) a.p _ (hz2.2.2.on BA.out) (HF.out a (List.mem_of_getElem? ha)));have HZ:=D hz2;have h8:=HR.out;obtain⟨rfl,rfl⟩:y1=c/\y2=d:=by simpa using h8
    have FA:=D (show fo=aj a by
     rw [FO.out];refine pQ ha hz2.1.symm fun j z hj hzz=>?_;obtain⟨u,hu1,hu2⟩:=HA.out.at j z hzz;rw [<- hu2.1];exact AL.out j u hj hu1)
    have Pv:=(X4.out.on BE.out).on NB.out;clear hz1 hz2 ha h8;go_wp2_with fail;refine C.out.mono ?_;rintro e w1 ⟨⟨⟨u1,u2,u3⟩,rfl,ho⟩,hb⟩;have Y1:=Pv.on hb;have B1:=D (BA.out.trans (hb.mono BA.out.size));obtain⟨r0,r1,r2,r3⟩:=Y1.Ew;obtain⟨t0,t1,t2,t3⟩:=Y1.O8;have zz:=Y1.lt;have hs2:w.heap.size+1+1<(wr.alloc (J #[K L y1,K L y2,Q yo yn yc,K L y4] 37)).heap.size:=Pv.lt;have FB:=D (rW Y1 (K L y1) (K L y2) (Q u1 u2 u3) (K L y4));have BL:=D (oM (b:=w.heap.size+1+1) (B.out.trans (B1.out.mono B.out.size)) (by omega) (K L y1) (K L y2) (Q u1 u2 u3) (K L y4));have FW:=D (xO ho (w.heap.size+1+1) hs2 (K L y1) (K L y2) (Q u1 u2 u3) (K L y4));clear Y1 ho hb hs2 Pv;go_wp2_with fail;obtain⟨v0,v1,v2,v3⟩:=FB.out.Ew;refine bodyPost_ret (v:=.tuple #[.agg #[K L y1,K L y2,Q u1 u2 u3,K L y4],au true]) (by simp [results,aA,go_sem,v0,v1,v2,v3]) rfl ?_;rw [FA.out];exact⟨⟨(y1,y2,(u1,u2,u3),y4),rfl,HZ.out.1,HZ.out.2.1,Row.dM FW.out⟩,BL.out⟩
  ·obtain rfl:k=n:=by omega
   have FA:=D (show fo=V by
    rw [FO.out];refine sH fun j z hzz=>?_;obtain⟨u,hu1,hu2⟩:=HA.out.at j z hzz;rw [<- hu2.1];exact AL.out j u (by rw [<- HN.out]; exact (List.getElem?_eq_some_iff.1 hu1).1) hu1)
   have Y1:=X4.out.on BE.out;obtain⟨r0,r1,r2,r3⟩:=Y1.Ew;obtain⟨t0,t1,t2,t3⟩:=Y1.O8;have zz:=Y1.lt;have FB:=D (rW Y1 (K L 0) (K L 0) (Q V 0 0) (K L 0));have BL:=D (oM (b:=w.heap.size+1+1) (B.out.trans (BE.out.mono B.out.size)) (by omega) (K L 0) (K L 0) (Q V 0 0) (K L 0));clear Y1;go_wp2_with fail;obtain⟨v0,v1,v2,v3⟩:=FB.out.Ew;refine bodyPost_ret (v:=.tuple #[.agg #[K L 0,K L 0,Q V 0 0,K L 0],au false]) (by simp [results,aA,go_sem,v0,v1,v2,v3]) rfl ?_;rw [FA.out];exact⟨rfl,BL.out⟩
end Av
namespace Pr
open Go.RowKit Go.Sort Pu Rw Va
theorem MN (w:ah) (c d z:C5):dH (((w.alloc (J (cells5 c).toArray 56)).alloc (J (cells5 d).toArray 56)).alloc (J (cells5 z).toArray 56)) w.heap.size (cells5 c).toArray 56/\dH (((w.alloc (J (cells5 c).toArray 56)).alloc (J (cells5 d).toArray 56)).alloc (J (cells5 z).toArray 56)) (w.heap.size+1) (cells5 d).toArray 56/\dH (((w.alloc (J (cells5 c).toArray 56)).alloc (J (cells5 d).toArray 56)).alloc (J (cells5 z).toArray 56)) (w.heap.size+1+1) (cells5 z).toArray 56/\Below w.heap.size w (((w.alloc (J (cells5 c).toArray 56)).alloc (J (cells5 d).toArray 56)).alloc (J (cells5 z).toArray 56)):=by
 obtain⟨h1,h2,h3⟩:=FK w c d;refine⟨h1.more _,h2.more _,?_,h3.alloc h3.size _⟩;have h:=dO ((w.alloc (J (cells5 c).toArray 56)).alloc (J (cells5 d).toArray 56)) (cells5 z).toArray 56
 rwa [show ((w.alloc (J (cells5 c).toArray 56)).alloc (J (cells5 d).toArray 56)).heap.size=w.heap.size+1+1 by simp] at h
theorem gH {W:ah} {b:Nat} {c:C5} (h:dH W b (cells5 c).toArray 56):W.cell? ⟨b,0,V⟩=aj (ak c.1)/\W.cell? ⟨b,1,V⟩=aj (K L c.2.1)/\W.cell? ⟨b,2,V⟩=aj (K L c.2.2.1)/\W.cell? ⟨b,3,V⟩=aj (K L c.2.2.2.1)/\W.cell? ⟨b,4,V⟩=aj (ak c.2.2.2.2):=⟨h.cell 0,h.cell 1,h.cell 2,h.cell 3,h.cell 4⟩
theorem iX {B:Nat} {W w:ah} (h:Below B W w) (g:Nat) (hB:B<=g) (v0 v1 v2 v3 v4:Value):Below B W (((((w.setCell ⟨g,0,V⟩ v0).setCell ⟨g,1,V⟩ v1).setCell ⟨g,2,V⟩ v2).setCell ⟨g,3,V⟩ v3).setCell ⟨g,4,V⟩ v4) :=
 ((((h.setCell hB _).setCell hB _).setCell hB _).setCell hB _).setCell hB _
theorem I6 (na nb:ByteArray) (a b c d:Int) (w:ah):aD ay 65 #[cv (r5 (na,.rg a b)),cv (r5 (nb,.rg c d))] w (BI na (gD (.rg a b) (.rg c d)) w):=by
 obtain⟨ba,bb,bz,hb⟩:=MN w (r5 (na,.rg a b)) (r5 (nb,.rg c d)) (⟨#[]⟩,0,0,0,⟨#[]⟩);have B:=D hb;have BA:=D ba;have BB:=D bb;have BZ:=D bz;have O:=D (xY na nb a b c d (((w.alloc (J (cells5 (r5 (na,.rg a b))).toArray 56)).alloc (J (cells5 (r5 (nb,.rg c d))).toArray 56)).alloc (J (cells5 (⟨#[]⟩,0,0,0,⟨#[]⟩)).toArray 56)));generalize gD (.rg a b) (.rg c d)=r at *;clear ba bb bz hb;simp only [r5,kN,mE,mF,kT];go_enter aC,aB;go_wp2_with fail;refine O.out.mono ?_;rintro e W2 ⟨⟨x,rfl,hx⟩,hb2⟩;have B2:=D (B.out.trans (hb2.mono B.out.size));have Z2:=D (BZ.out.on hb2);have X:=D hx;obtain⟨z0,z1,z2,z3,z4⟩:=gH Z2.out;have fz:=fun k=>Z2.out.fr k;simp only at z0 z1 z2 z3 z4;clear hx hb2 O B BA BB BZ;go_wp2;refine bodyPost_ret (v:=.tuple #[cv x,au r.isSome]) (by simp [results,Z,go_sem,z0,z1,z2,z3,z4]) rfl ?_;exact⟨⟨x,rfl,X.out⟩,iX B2.out (w.heap.size+1+1) (by omega) _ _ _ _ _⟩
theorem lV (na nb:ByteArray) (ka kb:Kd) (w:ah) (hno:(kN ka=1/\kN kb≠1)\/kN ka≠1) (hn:na=nb) (r:Option Kd) (hr:r=if fU ka kb then aj ka else if fU kb ka then aj kb else V):aD ay 65 #[cv (r5 (na,ka)),cv (r5 (nb,kb))] w (BI na r w):=by
 obtain⟨ba,bb,bz,hb⟩:=MN w (r5 (na,ka)) (r5 (nb,kb)) (⟨#[]⟩,0,0,0,⟨#[]⟩);have B:=D hb;have BA:=D ba;have BB:=D bb;have BZ:=D bz;have I1:=D (sI (na,ka) (nb,kb) (((w.alloc (J (cells5 (r5 (na,ka))).toArray 56)).alloc (J (cells5 (r5 (nb,kb))).toArray 56)).alloc (J (cells5 (⟨#[]⟩,0,0,0,⟨#[]⟩)).toArray 56)));have I2:=D (fun W=>sI (nb,kb) (na,ka) W);obtain⟨i1,e1⟩:∃ i,fU ka kb=i:=⟨_,rfl⟩;obtain⟨i2,e2⟩:∃ i,fU kb ka=i:=⟨_,rfl⟩;simp only [e1] at I1;simp only [e2] at I2;rw [e1,e2] at hr;have HR:=D hr;have NE:=D hn;obtain⟨j1,g1⟩:∃ j,(kN ka == (1:Int))=j:=⟨_,rfl⟩;have g2:j1=true->(kN kb == (1:Int))=false:=fun e=>by
  subst e;rcases hno with⟨_,h⟩|h
  ·exact beq_eq_false_iff_ne.2 h
  ·exact absurd (beq_iff_eq.1 g1) h
 have G2:=D g2;clear ba bb bz hb e1 e2 hn hno g2 hr;simp only [r5] at I1 I2 ⊢;cases j1
 all_goals try have g3:=G2.out rfl
 all_goals
  clear G2;go_enter aC,aB;go_wp2_with fail;refine I1.out.mono ?_;rintro e W2 ⟨rfl,hb2⟩;have B2:=D (B.out.trans (hb2.mono B.out.size));have Z2:=D (BZ.out.on hb2);have A2:=D (BA.out.on hb2);have D2:=D (BB.out.on hb2);obtain⟨a0,a1,a2,a3,a4⟩:=gH A2.out;obtain⟨d0,d1,d2,d3,d4⟩:=gH D2.out;obtain⟨z0,z1,z2,z3,z4⟩:=gH Z2.out;have fz:=fun k=>Z2.out.fr k;simp only [r5] at a0 a1 a2 a3 a4 d0 d1 d2 d3 d4;simp only at z0 z1 z2 z3 z4;clear hb2 B BA BB BZ I1;rcases Bool.eq_false_or_eq_true i1 with rfl|rfl
  ·go_wp2;refine bodyPost_ret (v:=.tuple #[cv (r5 (na,ka)),au true]) (by simp [results,Z,go_sem,z0,z1,z2,z3,z4,r5]) rfl ?_;exact⟨⟨r5 (na,ka),by rw [HR.out]; rfl,fun k hk=>by rw [HR.out] at hk; rw [<- U hk]⟩,iX B2.out (w.heap.size+1+1) (by omega) _ _ _ _ _⟩
  ·clear a0 a1 a2 a3 a4 d0 d1 d2 d3 d4;obtain⟨a0,a1,a2,a3,a4⟩:=gH A2.out;obtain⟨d0,d1,d2,d3,d4⟩:=gH D2.out;simp only [r5] at a0 a1 a2 a3 a4 d0 d1 d2 d3 d4;go_wp2_with fail;refine (I2.out _).mono ?_;rintro e W3 ⟨rfl,hb3⟩;have B3:=D (B2.out.trans (hb3.mono B2.out.size));have Z3:=D (Z2.out.on hb3);have D3:=D (D2.out.on hb3);clear a0 a1 a2 a3 a4 d0 d1 d2 d3 d4 z0 z1 z2 z3 z4 fz;obtain⟨d0,d1,d2,d3,d4⟩:=gH D3.out;obtain⟨z0,z1,z2,z3,z4⟩:=gH Z3.out;have fz:=fun k=>Z3.out.fr k;simp only [r5] at d0 d1 d2 d3 d4;simp only at z0 z1 z2 z3 z4;clear hb3 B2 I2 A2 D2 Z2;rcases Bool.eq_false_or_eq_true i2 with rfl|rfl
   ·go_wp2;refine bodyPost_ret (v:=.tuple #[cv (r5 (nb,kb)),au true]) (by simp [results,Z,go_sem,z0,z1,z2,z3,z4,r5]) rfl ?_;exact⟨⟨r5 (nb,kb),by rw [HR.out]; rfl,fun k hk=>by rw [HR.out] at hk; rw [NE.out,<- U hk]⟩,iX B3.out (w.heap.size+1+1) (by omega) _ _ _ _ _⟩
   ·go_wp2;refine bodyPost_ret (v:=.tuple #[cv ((⟨#[]⟩,0,0,0,⟨#[]⟩)),au false]) (by simp [results,Z,go_sem,z0,z1,z2,z3,z4]) rfl ?_;exact⟨⟨(⟨#[]⟩,0,0,0,⟨#[]⟩),by rw [HR.out]; rfl,fun k hk=>by rw [HR.out] at hk; cases hk⟩,iX B3.out (w.heap.size+1+1) (by omega) _ _ _ _ _⟩
theorem FZ (a b:Cn) (w:ah) (hn:a.1=b.1):aD ay 65 #[cv (r5 a),cv (r5 b)] w (BI a.1 (gD a.2 b.2) w):=by
 obtain⟨na,ka⟩:=a;obtain⟨nb,kb⟩:=b;cases ka with
 | rg p q =>
  cases kb with
  | rg r t=>exact I6 na nb p q r t w
  | tx t=>exact lV na nb _ _ w (Or.inl ⟨rfl,by simp [kN]⟩) hn _ (rE _ _)
  | pr t=>exact lV na nb _ _ w (Or.inl ⟨rfl,by simp [kN]⟩) hn _ (rE _ _)
 | tx s=>exact lV na nb _ _ w (Or.inr (by simp [kN])) hn _ (rE _ _)
 | pr s=>exact lV na nb _ _ w (Or.inr (by simp [kN])) hn _ (rE _ _)
theorem vK {W:ah} {b:Nat} {z:C5} (h:dH W b (cells5 z).toArray 56) (x:C5):dH (((((W.setCell ⟨b,0,V⟩ (ak x.1)).setCell ⟨b,1,V⟩ (K L x.2.1)).setCell ⟨b,2,V⟩ (K L x.2.2.1)).setCell ⟨b,3,V⟩ (K L x.2.2.2.1)).setCell ⟨b,4,V⟩ (ak x.2.2.2.2)) b (cells5 x).toArray 56:=by
 have h1:=heap_setCell_same W b 0 _ 56 (ak x.1) h;have h2:=heap_setCell_same _ b 1 _ 56 (K L x.2.1) h1;have h3:=heap_setCell_same _ b 2 _ 56 (K L x.2.2.1) h2;have h4:=heap_setCell_same _ b 3 _ 56 (K L x.2.2.2.1) h3;have h5:=heap_setCell_same _ b 4 _ 56 (ak x.2.2.2.2) h4;unfold dH;rw [h5];simp [cells5]
end Pr
end Go.Proofs.Ytmklifheakemeaa
