/-
  Find of package adve. Conditions as told.
-/
import Derived.Test.YtkcfgbddlpomgaaGreatLQ015
import Derived.Maps.OwnSet
import Derived.DeepKeys4
import Derived.KernelRfl
import Derived.Test.YtkcfgbddlpomgaaGreatLQ013
import Derived.Deep.LoopGhost
import Derived.Deep.RegionWith
set_option maxRecDepth 100000
set_option maxHeartbeats 64000000
open _root_.Go renaming cell_regrown->Q,bodyPost_ret->ah,redrawn->ay,World->aA,Value->aH,Calls->aI
open Go.IntKind renaming i64->K
open Go.Lib renaming hid->D
open Go.Obj renaming cells->L
open Go.Proofs.Tryz renaming results139->au,prog->aB,results16->aD,ntmps139->aF,func139->aG
open Go.Value renaming int->J,slice->U,string->Z,bool->aC
open Go.World.ownsRow renaming stored->Y
open _root_.Option renaming none->V,some->aj
open Option.some renaming inj->ak
namespace Go.Proofs.YtkcfgbddlpomgaaGreat
namespace Av
open Go.RowKit Go.Sort Rw YtkcfgbddlpomgaaGreat.Nm Pr Bk
def fP (l:List Ad) (x:eG):Option Ad:=l.find? fun a=>decide (a.id=x)
theorem uh {l:List Ad} {x:eG} (h:∀ (j:Nat) (a:Ad),l[j]?=aj a->a.id≠x):fP l x=V:=by
 unfold fP;rw [List.find?_eq_none];intro a ha;obtain⟨j,hj⟩:=List.mem_iff_getElem?.1 ha;simpa using h j a hj
theorem rQ:∀ {l:List Ad} {x:eG} {k:Nat} {a:Ad},l[k]?=aj a->a.id=x->(∀ (j:Nat) (z:Ad),j<k->l[j]?=aj z->z.id≠x)->fP l x=aj a
 | [],_,_,_,h,_,_=>by simp at h
 | b::l,x,0,a,h,hx,_=>by
  obtain rfl:b=a:=by simpa using h
  simp [fP,hx]
 | b::l,x,k+1,a,h,hx,hall=>by
  have hb:=hall 0 b (by omega) rfl;have ih:=rQ (l:=l) (x:=x) (k:=k) (a:=a) (by simpa using h) hx fun j z hj hz=>hall (j+1) z (by omega) (by simpa using hz);unfold fP at *;rw [List.find?_cons_of_neg (by simpa using hb)];exact ih
def Yd (W:aA) (o:Option Ad) (w:aA) (e:Ending) (w':aA):Prop:=(match o with
 | none=>e=.returned (.tuple #[lU (0,0,(V,0,0),0),aC false])
 | some a=>∃ r:jC,e=.returned (.tuple #[lU r,aC true])/\vN w' r a)/\Below W.heap.size w w'
theorem y9 (me:Int) (nv sv ev ov:aH) (av:Sl) (l:List jC) (al:List Ad) (x:eG) (w:aA) (hs:uE w (dP av) l) (hA:eu (vN w) l al) (hf:∀ a∈al,a.p.length<=900) :
  aI aB 16 #[.agg #[J K me,nv,dP av,sv,ev,ov],lV x] w (Yd w (fP al x) w):=by
 obtain⟨c,d⟩:=x;obtain⟨so,sn,sc⟩:=av;obtain⟨ao,ac,hv⟩:=hs.len;have hv:U so sn sc=U ao l.length ac:=hv;obtain⟨rfl,rfl,rfl⟩:so=ao/\sn=l.length/\sc=ac:=by simpa using hv
 obtain⟨h0,h1,h2⟩:=gQ w #[J K me,nv,U so l.length sc,sv,ev,ov] #[J K c,J K d] 33 38;have h3:=fO ((w.alloc (L #[J K me,nv,U so l.length sc,sv,ev,ov] 33)).alloc (L #[J K c,J K d] 38)) (L #[J K 0,J K 0,U V 0 0,J K 0] 53);have h4:=dK ((w.alloc (L #[J K me,nv,U so l.length sc,sv,ev,ov] 33)).alloc (L #[J K c,J K d] 38)) #[J K 0,J K 0,U V 0 0,J K 0] 53;have hsz:((w.alloc (L #[J K me,nv,U so l.length sc,sv,ev,ov] 33)).alloc (L #[J K c,J K d] 38)).heap.size=w.heap.size+1+1:=by simp
 rw [hsz] at h4;have B:=D (h0.trans (h3.mono h0.size));have HS:=D (hs.on B.out);have HA:=D (hA.mono fun _ _ h=>h.on B.out);have X2:=D (h1.on h3);have X3:=D (h2.on h3);have X4:=D h4;have HF:=D hf;have lm:=hs.most;unfold maxLen at lm;obtain⟨n,hn⟩:∃ n,n=l.length:=⟨_,rfl⟩;have q3:=X2.out.cell 2;simp only [List.getElem?_toArray,List.getElem?_cons_zero,List.getElem?_cons_succ] at q3;rw [<- hn] at HS X2 X3 X4 HA lm q3 B ⊢;have HN:=D hn.symm;obtain⟨fo,hfo⟩:∃ o,o=fP al (c,d):=⟨_,rfl⟩;rw [<- hfo];have FO:=D hfo;clear h0 h1 h2 h3 h4 hs hv hn hA hf hsz hfo;go_enter Tryz.func16,Tryz.ntmps16;go_upto_region 1 with fail;generalize ((w.alloc (L #[J K me,nv,U so n sc,sv,ev,ov] 33)).alloc (L #[J K c,J K d] 38)).alloc (L #[J K 0,J K 0,U V 0 0,J K 0] 53)=W at *;go_wp2
 go_loopw [11] (fun i wr=>∃ k:Nat,k<=n/\i=J K k/\Below W.heap.size W wr/\∀ (j:Nat) (y:jC),j<k->l[j]?=aj y->(y.1,y.2.1)≠(c,d)) (fun i _=>n-(intOf i).toNat)
 case atStart=>exact⟨0,Nat.zero_le _,rfl,Below.refl _ _,fun j y h=>by omega⟩
 case round =>
  obtain⟨k,hk,rfl,hbe,hall⟩:=hrel;have BE:=D hbe;have AL:=D hall;clear hbe hall;by_cases hlt:k<n
  ·obtain⟨y,hy⟩:∃ y,l[k]?=aj y:=⟨_,List.getElem?_eq_getElem (by rw [HN.out]; exact hlt)⟩;obtain⟨p,ix,px⟩:=Vu HS.out rfl HN.out hy;obtain⟨p0,p1,p2,p3⟩:=px wr BE.out;obtain⟨y1,y2,⟨yo,yn,yc⟩,y4⟩:=y;simp only at p0 p1 p2 p3;have NB:=D (fO wr (L #[J K y1,J K y2,U yo yn yc,J K y4] 53));obtain⟨x0,x1⟩:=((X3.out.on BE.out).on NB.out).cs2;have hw3:IntKind.i64.wrap ((k:Int)+1)=(k:Int)+1:=IntWalk.i64_in _ (by omega);obtain⟨r,hr⟩:∃ r,(y1 == c && y2 == d)=r:=⟨_,rfl⟩;have he:=uF y1 y2 c d r hr;have HY:=D hy;have HR:=D hr;clear px hy hr;cases r
   ·go_wp2
    go_roundw
    case rel=>exact⟨k+1,by omega,by go_num,BE.out.trans (NB.out.mono BE.out.size),fun j y' hj h1=>by
     rcases Nat.lt_or_ge j k with h3|h3
     ·exact AL.out j y' h3 h1
     ·obtain rfl:j=k:=by omega
      have e1:=HY.out;rw [h1] at e1;rw [ak e1];intro e;obtain⟨rfl,rfl⟩:y1=c/\y2=d:=by simpa using e
      have:=HR.out;simp at this⟩
    case measure=>simp [intOf]; omega
   ·obtain⟨a,ha⟩:∃ a,al[k]?=aj a:=⟨_,List.getElem?_eq_getElem (by rw [<- HA.out.len,HN.out]; exact hlt)⟩;obtain⟨z,hz1,hz2⟩:=HA.out.at k a ha;rw [HY.out] at hz1;obtain rfl:=ak hz1;have BA:=D (BE.out.trans (NB.out.mono BE.out.size));have C:=D (yR (y1,y2,(yo,yn,yc),y4) a.p _ (hz2.2.2.on BA.out) (HF.out a (List.mem_of_getElem? ha)));have HZ:=D hz2;have h8:=HR.out;obtain⟨rfl,rfl⟩:y1=c/\y2=d:=by simpa using h8
    have FA:=D (show fo=aj a by
     rw [FO.out];refine rQ ha hz2.1.symm fun j z hj hzz=>?_;obtain⟨u,hu1,hu2⟩:=HA.out.at j z hzz;rw [<- hu2.1];exact AL.out j u hj hu1)
    have VJ:=(X4.out.on BE.out).on NB.out;clear hz1 hz2 ha h8;go_wp2_with fail;refine C.out.mono ?_;rintro e w1 ⟨⟨⟨u1,u2,u3⟩,rfl,ho⟩,hb⟩;have Y1:=VJ.on hb;have B1:=D (BA.out.trans (hb.mono BA.out.size));obtain⟨r0,r1,r2,r3⟩:=Y1.IK;obtain⟨t0,t1,t2,t3⟩:=Y1.fs4;have zz:=Y1.lt;have hs2:w.heap.size+1+1<(wr.alloc (L #[J K y1,J K y2,U yo yn yc,J K y4] 53)).heap.size:=VJ.lt;have FB:=D (yQ Y1 (J K y1) (J K y2) (U u1 u2 u3) (J K y4));have BL:=D (tY (b:=w.heap.size+1+1) (B.out.trans (B1.out.mono B.out.size)) (by omega) (J K y1) (J K y2) (U u1 u2 u3) (J K y4));have FW:=D (FP ho (w.heap.size+1+1) hs2 (J K y1) (J K y2) (U u1 u2 u3) (J K y4));clear Y1 ho hb hs2 VJ;go_wp2_with fail;obtain⟨v0,v1,v2,v3⟩:=FB.out.IK;refine ah (v:=.tuple #[.agg #[J K y1,J K y2,U u1 u2 u3,J K y4],aC true]) (by simp [results,aD,go_sem,v0,v1,v2,v3]) rfl ?_;rw [FA.out];exact⟨⟨(y1,y2,(u1,u2,u3),y4),rfl,HZ.out.1,HZ.out.2.1,Row.dw FW.out⟩,BL.out⟩
  ·obtain rfl:k=n:=by omega
   have FA:=D (show fo=V by
    rw [FO.out];refine uh fun j z hzz=>?_;obtain⟨u,hu1,hu2⟩:=HA.out.at j z hzz;rw [<- hu2.1];exact AL.out j u (by rw [<- HN.out]; exact (List.getElem?_eq_some_iff.1 hu1).1) hu1)
   have Y1:=X4.out.on BE.out;obtain⟨r0,r1,r2,r3⟩:=Y1.IK;obtain⟨t0,t1,t2,t3⟩:=Y1.fs4;have zz:=Y1.lt;have FB:=D (yQ Y1 (J K 0) (J K 0) (U V 0 0) (J K 0));have BL:=D (tY (b:=w.heap.size+1+1) (B.out.trans (BE.out.mono B.out.size)) (by omega) (J K 0) (J K 0) (U V 0 0) (J K 0));clear Y1;go_wp2_with fail;obtain⟨v0,v1,v2,v3⟩:=FB.out.IK;refine ah (v:=.tuple #[.agg #[J K 0,J K 0,U V 0 0,J K 0],aC false]) (by simp [results,aD,go_sem,v0,v1,v2,v3]) rfl ?_;rw [FA.out];exact⟨rfl,BL.out⟩
end Av
namespace Av
open Go.RowKit Rw Bk Go.Maps Go.ChangeMaps
noncomputable def kl (l:eG):Lit:=(keyOf aB 38 (lV l)).getD (Lit.bool false)
end Av
namespace Pr
open Go.RowKit Go.Sort Pu Rw Va
theorem Gj (w:aA) (c d z:C5):dI (((w.alloc (L (cells5 c).toArray 106)).alloc (L (cells5 d).toArray 106)).alloc (L (cells5 z).toArray 106)) w.heap.size (cells5 c).toArray 106/\dI (((w.alloc (L (cells5 c).toArray 106)).alloc (L (cells5 d).toArray 106)).alloc (L (cells5 z).toArray 106)) (w.heap.size+1) (cells5 d).toArray 106/\dI (((w.alloc (L (cells5 c).toArray 106)).alloc (L (cells5 d).toArray 106)).alloc (L (cells5 z).toArray 106)) (w.heap.size+1+1) (cells5 z).toArray 106/\Below w.heap.size w (((w.alloc (L (cells5 c).toArray 106)).alloc (L (cells5 d).toArray 106)).alloc (L (cells5 z).toArray 106)):=by
 obtain⟨h1,h2,h3⟩:=QC w c d;refine⟨h1.more _,h2.more _,?_,h3.alloc h3.size _⟩;have h:=dK ((w.alloc (L (cells5 c).toArray 106)).alloc (L (cells5 d).toArray 106)) (cells5 z).toArray 106
 rwa [show ((w.alloc (L (cells5 c).toArray 106)).alloc (L (cells5 d).toArray 106)).heap.size=w.heap.size+1+1 by simp] at h
theorem eO {W:aA} {b:Nat} {c:C5} (h:dI W b (cells5 c).toArray 106):W.cell? ⟨b,0,V⟩=aj (Z c.1)/\W.cell? ⟨b,1,V⟩=aj (J K c.2.1)/\W.cell? ⟨b,2,V⟩=aj (J K c.2.2.1)/\W.cell? ⟨b,3,V⟩=aj (J K c.2.2.2.1)/\W.cell? ⟨b,4,V⟩=aj (Z c.2.2.2.2):=⟨h.cell 0,h.cell 1,h.cell 2,h.cell 3,h.cell 4⟩
theorem gX {B:Nat} {W w:aA} (h:Below B W w) (g:Nat) (hB:B<=g) (v0 v1 v2 v3 v4:aH):Below B W (((((w.setCell ⟨g,0,V⟩ v0).setCell ⟨g,1,V⟩ v1).setCell ⟨g,2,V⟩ v2).setCell ⟨g,3,V⟩ v3).setCell ⟨g,4,V⟩ v4) :=
 ((((h.setCell hB _).setCell hB _).setCell hB _).setCell hB _).setCell hB _
theorem Wq (na nb:ByteArray) (a b c d:Int) (w:aA):aI aB 139 #[cv (r5 (na,.rg a b)),cv (r5 (nb,.rg c d))] w (Ko na (eY (.rg a b) (.rg c d)) w):=by
 obtain⟨ba,bb,bz,hb⟩:=Gj w (r5 (na,.rg a b)) (r5 (nb,.rg c d)) (⟨#[]⟩,0,0,0,⟨#[]⟩);have B:=D hb;have BA:=D ba;have BB:=D bb;have BZ:=D bz;have O:=D (FJ na nb a b c d (((w.alloc (L (cells5 (r5 (na,.rg a b))).toArray 106)).alloc (L (cells5 (r5 (nb,.rg c d))).toArray 106)).alloc (L (cells5 (⟨#[]⟩,0,0,0,⟨#[]⟩)).toArray 106)));generalize eY (.rg a b) (.rg c d)=r at *;clear ba bb bz hb;simp only [r5,kN,jh,ji,kT];go_enter aG,aF;go_wp2_with fail;refine O.out.mono ?_;rintro e W2 ⟨⟨x,rfl,hx⟩,hb2⟩;have B2:=D (B.out.trans (hb2.mono B.out.size));have Z2:=D (BZ.out.on hb2);have X:=D hx;obtain⟨z0,z1,z2,z3,z4⟩:=eO Z2.out;have fz:=fun k=>Z2.out.fr k;simp only at z0 z1 z2 z3 z4;clear hx hb2 O B BA BB BZ;go_wp2;refine ah (v:=.tuple #[cv x,aC r.isSome]) (by simp [results,au,go_sem,z0,z1,z2,z3,z4]) rfl ?_;exact⟨⟨x,rfl,X.out⟩,gX B2.out (w.heap.size+1+1) (by omega) _ _ _ _ _⟩
theorem qP (na nb:ByteArray) (ka kb:Kd) (w:aA) (hno:(kN ka=1/\kN kb≠1)\/kN ka≠1) (hn:na=nb) (r:Option Kd) (hr:r=if iD ka kb then aj ka else if iD kb ka then aj kb else V):aI aB 139 #[cv (r5 (na,ka)),cv (r5 (nb,kb))] w (Ko na r w):=by
 obtain⟨ba,bb,bz,hb⟩:=Gj w (r5 (na,ka)) (r5 (nb,kb)) (⟨#[]⟩,0,0,0,⟨#[]⟩);have B:=D hb;have BA:=D ba;have BB:=D bb;have BZ:=D bz;have I1:=D (yN (na,ka) (nb,kb) (((w.alloc (L (cells5 (r5 (na,ka))).toArray 106)).alloc (L (cells5 (r5 (nb,kb))).toArray 106)).alloc (L (cells5 (⟨#[]⟩,0,0,0,⟨#[]⟩)).toArray 106)));have I2:=D (fun W=>yN (nb,kb) (na,ka) W);obtain⟨i1,e1⟩:∃ i,iD ka kb=i:=⟨_,rfl⟩;obtain⟨i2,e2⟩:∃ i,iD kb ka=i:=⟨_,rfl⟩;simp only [e1] at I1;simp only [e2] at I2;rw [e1,e2] at hr;have HR:=D hr;have NE:=D hn;obtain⟨j1,g1⟩:∃ j,(kN ka == (1:Int))=j:=⟨_,rfl⟩;have g2:j1=true->(kN kb == (1:Int))=false:=fun e=>by
  subst e;rcases hno with⟨_,h⟩|h
  ·exact beq_eq_false_iff_ne.2 h
  ·exact absurd (beq_iff_eq.1 g1) h
 have G2:=D g2;clear ba bb bz hb e1 e2 hn hno g2 hr;simp only [r5] at I1 I2 ⊢;cases j1
 all_goals try have g3:=G2.out rfl
 all_goals
  clear G2;go_enter aG,aF;go_wp2_with fail;refine I1.out.mono ?_;rintro e W2 ⟨rfl,hb2⟩;have B2:=D (B.out.trans (hb2.mono B.out.size));have Z2:=D (BZ.out.on hb2);have A2:=D (BA.out.on hb2);have D2:=D (BB.out.on hb2);obtain⟨a0,a1,a2,a3,a4⟩:=eO A2.out;obtain⟨d0,d1,d2,d3,d4⟩:=eO D2.out;obtain⟨z0,z1,z2,z3,z4⟩:=eO Z2.out;have fz:=fun k=>Z2.out.fr k;simp only [r5] at a0 a1 a2 a3 a4 d0 d1 d2 d3 d4;simp only at z0 z1 z2 z3 z4;clear hb2 B BA BB BZ I1;rcases Bool.eq_false_or_eq_true i1 with rfl|rfl
  ·go_wp2;refine ah (v:=.tuple #[cv (r5 (na,ka)),aC true]) (by simp [results,au,go_sem,z0,z1,z2,z3,z4,r5]) rfl ?_;exact⟨⟨r5 (na,ka),by rw [HR.out]; rfl,fun k hk=>by rw [HR.out] at hk; rw [<- ak hk]⟩,gX B2.out (w.heap.size+1+1) (by omega) _ _ _ _ _⟩
  ·clear a0 a1 a2 a3 a4 d0 d1 d2 d3 d4;obtain⟨a0,a1,a2,a3,a4⟩:=eO A2.out;obtain⟨d0,d1,d2,d3,d4⟩:=eO D2.out;simp only [r5] at a0 a1 a2 a3 a4 d0 d1 d2 d3 d4;go_wp2_with fail;refine (I2.out _).mono ?_;rintro e W3 ⟨rfl,hb3⟩;have B3:=D (B2.out.trans (hb3.mono B2.out.size));have Z3:=D (Z2.out.on hb3);have D3:=D (D2.out.on hb3);clear a0 a1 a2 a3 a4 d0 d1 d2 d3 d4 z0 z1 z2 z3 z4 fz;obtain⟨d0,d1,d2,d3,d4⟩:=eO D3.out;obtain⟨z0,z1,z2,z3,z4⟩:=eO Z3.out;have fz:=fun k=>Z3.out.fr k;simp only [r5] at d0 d1 d2 d3 d4;simp only at z0 z1 z2 z3 z4;clear hb3 B2 I2 A2 D2 Z2;rcases Bool.eq_false_or_eq_true i2 with rfl|rfl
   ·go_wp2;refine ah (v:=.tuple #[cv (r5 (nb,kb)),aC true]) (by simp [results,au,go_sem,z0,z1,z2,z3,z4,r5]) rfl ?_;exact⟨⟨r5 (nb,kb),by rw [HR.out]; rfl,fun k hk=>by rw [HR.out] at hk; rw [NE.out,<- ak hk]⟩,gX B3.out (w.heap.size+1+1) (by omega) _ _ _ _ _⟩
   ·go_wp2;refine ah (v:=.tuple #[cv ((⟨#[]⟩,0,0,0,⟨#[]⟩)),aC false]) (by simp [results,au,go_sem,z0,z1,z2,z3,z4]) rfl ?_;exact⟨⟨(⟨#[]⟩,0,0,0,⟨#[]⟩),by rw [HR.out]; rfl,fun k hk=>by rw [HR.out] at hk; cases hk⟩,gX B3.out (w.heap.size+1+1) (by omega) _ _ _ _ _⟩
theorem Rs (a b:Cn) (w:aA) (hn:a.1=b.1):aI aB 139 #[cv (r5 a),cv (r5 b)] w (Ko a.1 (eY a.2 b.2) w):=by
 obtain⟨na,ka⟩:=a;obtain⟨nb,kb⟩:=b;cases ka with
 | rg p q =>
  cases kb with
  | rg r t=>exact Wq na nb p q r t w
  | tx t=>exact qP na nb _ _ w (Or.inl ⟨rfl,by simp [kN]⟩) hn _ (xV _ _)
  | pr t=>exact qP na nb _ _ w (Or.inl ⟨rfl,by simp [kN]⟩) hn _ (xV _ _)
 | tx s=>exact qP na nb _ _ w (Or.inr (by simp [kN])) hn _ (xV _ _)
 | pr s=>exact qP na nb _ _ w (Or.inr (by simp [kN])) hn _ (xV _ _)
theorem qQ {W W1:aA} {v:aH} {l:List C5} {ao:Option Addr} {n c k:Nat} {x:C5} (h:fK W v l) (hv:v=U ao n c) (hn:l.length=n) (hk:l[k]?=aj x) (hb:Below W.heap.size W W1) :
  ∃ p:Addr,(∀ w,(Instr.indexAt 41 (U ao n c) (J K k)).run aB w=.ok (.pointer (aj p)) w) /\
   (∀ d os,(grow (ay W1 d) os).cell? p=aj (Z x.1))/\(∀ d os,(grow (ay W1 d) os).cell? ⟨p.block,p.off+1,V⟩=aj (J K x.2.1))/\(∀ d os,(grow (ay W1 d) os).cell? ⟨p.block,p.off+2,V⟩=aj (J K x.2.2.1))/\(∀ d os,(grow (ay W1 d) os).cell? ⟨p.block,p.off+3,V⟩=aj (J K x.2.2.2.1))/\(∀ d os,(grow (ay W1 d) os).cell? ⟨p.block,p.off+4,V⟩=aj (Z x.2.2.2.2)):=by
 obtain⟨p,h1,h2⟩:=elC h hv hn hk;obtain⟨c0,c1,c2,c3,c4⟩:=h2 _ hb;exact⟨p,h1,Q c0,Q c1,Q c2,Q c3,Q c4⟩
theorem rR {W:aA} {b:Nat} {c:C5} (h:dI W b (cells5 c).toArray 106):(∀ d os,(grow (ay W d) os).cell? ⟨b,0,V⟩=aj (Z c.1))/\(∀ d os,(grow (ay W d) os).cell? ⟨b,1,V⟩=aj (J K c.2.1))/\(∀ d os,(grow (ay W d) os).cell? ⟨b,2,V⟩=aj (J K c.2.2.1))/\(∀ d os,(grow (ay W d) os).cell? ⟨b,3,V⟩=aj (J K c.2.2.2.1))/\(∀ d os,(grow (ay W d) os).cell? ⟨b,4,V⟩=aj (Z c.2.2.2.2)) :=
 ⟨Q (h.cell 0),Q (h.cell 1),Q (h.cell 2),Q (h.cell 3),Q (h.cell 4)⟩
theorem Cr:∀ (l:List C5) (k:Nat) (x:C5),k<l.length->flat EC (l.set k x)=((((( flat EC l).set (k * 5) (Z x.1)).set (k * 5+1) (J K x.2.1)).set (k * 5+2) (J K x.2.2.1)).set (k * 5+3) (J K x.2.2.2.1)).set (k * 5+4) (Z x.2.2.2.2)
 | [],k,x,h=>by simp at h
 | y::r,0,x,_=>by simp [flat,EC,cells5]
 | y::r,k+1,x,h=>by
  have h2:=Cr r k x (by simpa using h);have e:∀ j u (zs:List aH),(cells5 y++zs).set (5+j) u=cells5 y++zs.set j u:=fun j u zs=>by simp [cells5,Nat.add_comm 5 j]
  simp only [List.set_cons_succ,flat,h2];show cells5 y++_=_;rw [show (k+1) * 5=5+k * 5 by omega,show 5+k * 5+1=5+(k * 5+1) by omega,show 5+k * 5+2=5+(k * 5+2) by omega,show 5+k * 5+3=5+(k * 5+3) by omega,show 5+k * 5+4=5+(k * 5+4) by omega];show _=((((( cells5 y++flat EC r).set _ _).set _ _).set _ _).set _ _).set _ _;rw [e,e,e,e,e]
theorem NV {W:aA} {B g n cap k:Nat} {l:List C5} {x:C5} (h:jO W B (U (aj ⟨g,0,V⟩) n cap) l) (hn:n=l.length) (hk:k<n) :
  jO (((((W.setCell ⟨g,k * 5,V⟩ (Z x.1)).setCell ⟨g,k * 5+1,V⟩ (J K x.2.1)).setCell ⟨g,k * 5+2,V⟩ (J K x.2.2.1)).setCell ⟨g,k * 5+3,V⟩ (J K x.2.2.2.1)).setCell ⟨g,k * 5+4,V⟩ (Z x.2.2.2.2)) B (U (aj ⟨g,0,V⟩) n cap) (l.set k x):=by
 subst hn;have o1:=(Y h (k * 5) (Z x.1)).1;have o2:=(Y o1 (k * 5+1) (J K x.2.1)).1;have o3:=(Y o2 (k * 5+2) (J K x.2.2.1)).1;have o4:=(Y o3 (k * 5+3) (J K x.2.2.2.1)).1;have o5:=(Y o4 (k * 5+4) (Z x.2.2.2.2)).1;rw [<- Cr l k x hk] at o5;show World.ownsRow _ _ _ _ _ (l.set k x).length _;rw [List.length_set];exact o5
theorem DY {B:Nat} {W w:aA} (h:Below B W w) (g:Nat) (hB:B<=g) (o:Nat) (v0 v1 v2 v3 v4:aH):Below B W (((((w.setCell ⟨g,o,V⟩ v0).setCell ⟨g,o+1,V⟩ v1).setCell ⟨g,o+2,V⟩ v2).setCell ⟨g,o+3,V⟩ v3).setCell ⟨g,o+4,V⟩ v4) :=
 ((((h.setCell hB _).setCell hB _).setCell hB _).setCell hB _).setCell hB _
theorem wE {W:aA} {b:Nat} {z:C5} (h:dI W b (cells5 z).toArray 106) (x:C5):dI (((((W.setCell ⟨b,0,V⟩ (Z x.1)).setCell ⟨b,1,V⟩ (J K x.2.1)).setCell ⟨b,2,V⟩ (J K x.2.2.1)).setCell ⟨b,3,V⟩ (J K x.2.2.2.1)).setCell ⟨b,4,V⟩ (Z x.2.2.2.2)) b (cells5 x).toArray 106:=by
 have h1:=heap_setCell_same W b 0 _ 106 (Z x.1) h;have h2:=heap_setCell_same _ b 1 _ 106 (J K x.2.1) h1;have h3:=heap_setCell_same _ b 2 _ 106 (J K x.2.2.1) h2;have h4:=heap_setCell_same _ b 3 _ 106 (J K x.2.2.2.1) h3;have h5:=heap_setCell_same _ b 4 _ 106 (Z x.2.2.2.2) h4;unfold dI;rw [h5];simp [cells5]
end Pr
end Go.Proofs.YtkcfgbddlpomgaaGreat
