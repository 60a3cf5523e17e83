/-
  Find of package adve. Conditions as told.
-/
import Derived.Test.YtkcfgbddlpomgaaGreatOQ011
import Derived.Maps.OwnSet
import Derived.DeepKeys4
import Derived.KernelRfl
import Derived.Test.YtkcfgbddlpomgaaGreatOQ014
import Derived.Test.YtkcfgbddlpomgaaGreatOQ012
import Derived.Deep.LoopGhost
import Derived.Test.YtkcfgbddlpomgaaGreatOQ010
set_option maxRecDepth 100000
set_option maxHeartbeats 64000000
open _root_.Go renaming cell_regrown->aB,World->aI,bodyPost_ret->aJ,Value->aM,redrawn->aP,maxLen->aX,Addr->aZ,Calls->bf
open Go.IntKind renaming i64->Z
open Go.Lib renaming hid->J
open Go.Obj renaming cells->ah
open Go.Operand renaming tmp->aA
open Go.Proofs.Tryz renaming prog->ay,results139->aN,underlying27->aR,results16->aU,ntmps139->aW,func139->aY
open Go.RowKit.Below renaming refl->aj,heap_setCell->aQ
open Go.Value renaming slice->L,int->V,pointer->au,string->aH,bool->aT,agg->bg
open Go.World.ownsRow renaming stored->aD
open _root_.List renaming getElem?_toArray->aC,getElem?_cons_zero->aF,getElem?_cons_succ->aG,getElem?_eq_getElem->aK,length_take->aS
open _root_.Option renaming none->U,some->ak
open Option.some renaming inj->aL
open _root_.Or renaming inr->aO,inl->aV
namespace Go.Proofs.YtkcfgbddlpomgaaGreat
namespace Av
open Go.RowKit Go.Sort Rw YtkcfgbddlpomgaaGreat.Nm Pr Bk
def gD (l:List Ad) (x:eT):Option Ad:=l.find? fun a=>decide (a.id=x)
theorem vT {l:List Ad} {x:eT} (h:∀ (j:Nat) (a:Ad),l[j]?=ak a->a.id≠x):gD l x=U:=by
 unfold gD;rw [List.find?_eq_none];intro a ha;obtain⟨j,hj⟩:=List.mem_iff_getElem?.1 ha;simpa using h j a hj
theorem tZ:∀ {l:List Ad} {x:eT} {k:Nat} {a:Ad},l[k]?=ak a->a.id=x->(∀ (j:Nat) (z:Ad),j<k->l[j]?=ak z->z.id≠x)->gD l x=ak a
 | [],_,_,_,h,_,_=>by simp at h
 | b::l,x,0,a,h,hx,_=>by
  obtain rfl:b=a:=by simpa using h
  simp [gD,hx]
 | b::l,x,k+1,a,h,hx,hall=>by
  have hb:=hall 0 b (by omega) rfl;have ih:=tZ (l:=l) (x:=x) (k:=k) (a:=a) (by simpa using h) hx fun j z hj hz=>hall (j+1) z (by omega) (by simpa using hz);unfold gD at *;rw [List.find?_cons_of_neg (by simpa using hb)];exact ih
def afu (W:aI) (o:Option Ad) (w:aI) (e:Ending) (w':aI):Prop:=(match o with
 | none=>e=.returned (.tuple #[nR (0,0,(U,0,0),0),aT false])
 | some a=>∃ r:kr,e=.returned (.tuple #[nR r,aT true])/\vM w' r a)/\Below W.heap.size w w'
theorem IZ (me:Int) (nv sv ev ov:aM) (av:Sl) (l:List kr) (al:List Ad) (x:eT) (w:aI) (hs:wB w (dU av) l) (hA:eH (vM w) l al) (hf:∀ a∈al,a.p.length<=900) :
  bf ay 16 #[bg #[V Z me,nv,dU av,sv,ev,ov],mY x] w (afu w (gD al x) w):=by
 obtain⟨c,d⟩:=x;obtain⟨so,sn,sc⟩:=av;obtain⟨ao,ac,hv⟩:=hs.len;have hv:L so sn sc=L ao l.length ac:=hv;obtain⟨rfl,rfl,rfl⟩:so=ao/\sn=l.length/\sc=ac:=by simpa using hv
 obtain⟨h0,h1,h2⟩:=iE w #[V Z me,nv,L so l.length sc,sv,ev,ov] #[V Z c,V Z d] 33 38;have h3:=fI ((w.alloc (ah #[V Z me,nv,L so l.length sc,sv,ev,ov] 33)).alloc (ah #[V Z c,V Z d] 38)) (ah #[V Z 0,V Z 0,L U 0 0,V Z 0] 53);have h4:=dO ((w.alloc (ah #[V Z me,nv,L so l.length sc,sv,ev,ov] 33)).alloc (ah #[V Z c,V Z d] 38)) #[V Z 0,V Z 0,L U 0 0,V Z 0] 53;have hsz:((w.alloc (ah #[V Z me,nv,L so l.length sc,sv,ev,ov] 33)).alloc (ah #[V Z c,V Z d] 38)).heap.size=w.heap.size+1+1:=by simp
 rw [hsz] at h4;have B:=J (h0.trans (h3.mono h0.size));have HS:=J (hs.on B.out);have HA:=J (hA.mono fun _ _ h=>h.on B.out);have X2:=J (h1.on h3);have X3:=J (h2.on h3);have X4:=J h4;have HF:=J hf;have lm:=hs.most;unfold aX at lm;obtain⟨n,hn⟩:∃ n,n=l.length:=⟨_,rfl⟩;have q3:=X2.out.cell 2;simp only [aC,aF,aG] at q3;rw [<- hn] at HS X2 X3 X4 HA lm q3 B ⊢;have HN:=J hn.symm;obtain⟨fo,hfo⟩:∃ o,o=gD al (c,d):=⟨_,rfl⟩;rw [<- hfo];have FO:=J hfo;clear h0 h1 h2 h3 h4 hs hv hn hA hf hsz hfo;go_enter Tryz.func16,Tryz.ntmps16;go_upto_region 1 with fail;generalize ((w.alloc (ah #[V Z me,nv,L so n sc,sv,ev,ov] 33)).alloc (ah #[V Z c,V Z d] 38)).alloc (ah #[V Z 0,V Z 0,L U 0 0,V Z 0] 53)=W at *;go_wp2
 go_loopw [11] (fun i wr=>∃ k:Nat,k<=n/\i=V Z k/\Below W.heap.size W wr/\∀ (j:Nat) (y:kr),j<k->l[j]?=ak y->(y.1,y.2.1)≠(c,d)) (fun i _=>n-(intOf i).toNat)
 case atStart=>exact⟨0,Nat.zero_le _,rfl,aj _ _,fun j y h=>by omega⟩
 case round =>
  obtain⟨k,hk,rfl,hbe,hall⟩:=hrel;have BE:=J hbe;have AL:=J hall;clear hbe hall;by_cases hlt:k<n
  ·obtain⟨y,hy⟩:∃ y,l[k]?=ak y:=⟨_,aK (by rw [HN.out]; exact hlt)⟩;obtain⟨p,ix,px⟩:=Yh HS.out rfl HN.out hy;obtain⟨p0,p1,p2,p3⟩:=px wr BE.out;obtain⟨y1,y2,⟨yo,yn,yc⟩,y4⟩:=y;simp only at p0 p1 p2 p3;have NB:=J (fI wr (ah #[V Z y1,V Z y2,L yo yn yc,V Z y4] 53));obtain⟨x0,x1⟩:=((X3.out.on BE.out).on NB.out).cs2;have hw3:IntKind.i64.wrap ((k:Int)+1)=(k:Int)+1:=IntWalk.i64_in _ (by omega);obtain⟨r,hr⟩:∃ r,(y1 == c && y2 == d)=r:=⟨_,rfl⟩;have he:=wC y1 y2 c d r hr;have HY:=J hy;have HR:=J hr;clear px hy hr;cases r
   ·go_wp2
    go_roundw
    case rel=>exact⟨k+1,by omega,by go_num,BE.out.trans (NB.out.mono BE.out.size),fun j y' hj h1=>by
     rcases Nat.lt_or_ge j k with h3|h3
     ·exact AL.out j y' h3 h1
     ·obtain rfl:j=k:=by omega
      have e1:=HY.out;rw [h1] at e1;rw [aL e1];intro e;obtain⟨rfl,rfl⟩:y1=c/\y2=d:=by simpa using e
      have:=HR.out;simp at this⟩
    case measure=>simp [intOf]; omega
   ·obtain⟨a,ha⟩:∃ a,al[k]?=ak a:=⟨_,aK (by rw [<- HA.out.len,HN.out]; exact hlt)⟩;obtain⟨z,hz1,hz2⟩:=HA.out.at k a ha;rw [HY.out] at hz1;obtain rfl:=aL hz1;have BA:=J (BE.out.trans (NB.out.mono BE.out.size));have C:=J (Ac (y1,y2,(yo,yn,yc),y4) a.p _ (hz2.2.2.on BA.out) (HF.out a (List.mem_of_getElem? ha)));have HZ:=J hz2;have h8:=HR.out;obtain⟨rfl,rfl⟩:y1=c/\y2=d:=by simpa using h8
    have FA:=J (show fo=ak a by
     rw [FO.out];refine tZ ha hz2.1.symm fun j z hj hzz=>?_;obtain⟨u,hu1,hu2⟩:=HA.out.at j z hzz;rw [<- hu2.1];exact AL.out j u hj hu1)
    have Kv:=(X4.out.on BE.out).on NB.out;clear hz1 hz2 ha h8;go_wp2_with fail;refine C.out.mono ?_;rintro e w1 ⟨⟨⟨u1,u2,u3⟩,rfl,ho⟩,hb⟩;have Y1:=Kv.on hb;have B1:=J (BA.out.trans (hb.mono BA.out.size));obtain⟨r0,r1,r2,r3⟩:=Y1.Ke;obtain⟨t0,t1,t2,t3⟩:=Y1.fs4;have zz:=Y1.lt;have hs2:w.heap.size+1+1<(wr.alloc (ah #[V Z y1,V Z y2,L yo yn yc,V Z y4] 53)).heap.size:=Kv.lt;have FB:=J (Ab Y1 (V Z y1) (V Z y2) (L u1 u2 u3) (V Z y4));have BL:=J (vO (b:=w.heap.size+1+1) (B.out.trans (B1.out.mono B.out.size)) (by omega) (V Z y1) (V Z y2) (L u1 u2 u3) (V Z y4));have FW:=J (Ii ho (w.heap.size+1+1) hs2 (V Z y1) (V Z y2) (L u1 u2 u3) (V Z y4));clear Y1 ho hb hs2 Kv;go_wp2_with fail;obtain⟨v0,v1,v2,v3⟩:=FB.out.Ke;refine aJ (v:=.tuple #[bg #[V Z y1,V Z y2,L u1 u2 u3,V Z y4],aT true]) (by simp [results,aU,go_sem,v0,v1,v2,v3]) rfl ?_;rw [FA.out];exact⟨⟨(y1,y2,(u1,u2,u3),y4),rfl,HZ.out.1,HZ.out.2.1,Row.dH FW.out⟩,BL.out⟩
  ·obtain rfl:k=n:=by omega
   have FA:=J (show fo=U by
    rw [FO.out];refine vT fun j z hzz=>?_;obtain⟨u,hu1,hu2⟩:=HA.out.at j z hzz;rw [<- hu2.1];exact AL.out j u (by rw [<- HN.out]; exact (List.getElem?_eq_some_iff.1 hu1).1) hu1)
   have Y1:=X4.out.on BE.out;obtain⟨r0,r1,r2,r3⟩:=Y1.Ke;obtain⟨t0,t1,t2,t3⟩:=Y1.fs4;have zz:=Y1.lt;have FB:=J (Ab Y1 (V Z 0) (V Z 0) (L U 0 0) (V Z 0));have BL:=J (vO (b:=w.heap.size+1+1) (B.out.trans (BE.out.mono B.out.size)) (by omega) (V Z 0) (V Z 0) (L U 0 0) (V Z 0));clear Y1;go_wp2_with fail;obtain⟨v0,v1,v2,v3⟩:=FB.out.Ke;refine aJ (v:=.tuple #[bg #[V Z 0,V Z 0,L U 0 0,V Z 0],aT false]) (by simp [results,aU,go_sem,v0,v1,v2,v3]) rfl ?_;rw [FA.out];exact⟨rfl,BL.out⟩
end Av
namespace Av
open Go.RowKit Rw Bk Go.Maps Go.ChangeMaps
end Av
namespace Av
open Go.RowKit Rw YtkcfgbddlpomgaaGreat.Nm Pr Bk Go.Sort
abbrev D7 (me:Int) (near:List Int):Br:=⟨me,near,[],[],[],[]⟩
theorem UW (me:Int) (v:Sl) (l:List Int) (w:aI) (hv:qI w (dU v) l) (hl:l.length<=900) :
  bf ay 41 #[V Z me,dU v] w fun e w'=>(∃ (l':List Int) (nv:Sl),e=.returned (mJ me nv (U,0,0) (U,0,0) (U,0,0) (U,0,0))/\iI w' (D7 me l') nv (U,0,0) (U,0,0) (U,0,0) (U,0,0)/\(∃ B,kS w' B (dU nv) l')/\l'.Pairwise (·<·)/\∀ x,x∈l'↔x∈l)/\Below w.heap.size w w':=by
 have n0:=fI w (ah #[V Z 0,L U 0 0,L U 0 0,L U 0 0,L U 0 0,L U 0 0] 33);have X:=J (dO w #[V Z 0,L U 0 0,L U 0 0,L U 0 0,L U 0 0,L U 0 0] 33);have C:=J (Aa v l _ (hv.on n0) hl);have B0:=J n0;have HL:=J hl;obtain⟨vo,vn,vc⟩:=v;clear hv hl n0;go_enter Tryz.func41,Tryz.ntmps41;go_wp2_with fail;generalize w.alloc (ah #[V Z 0,L U 0 0,L U 0 0,L U 0 0,L U 0 0,L U 0 0] 33)=W at *;refine C.out.mono ?_;rintro e1 w1 ⟨⟨⟨p1,p2,p3⟩,rfl,ho⟩,hb⟩;have B1:=J (B0.out.trans (hb.mono B0.out.size));have X1:=J (X.out.on hb);have hlt:w.heap.size<W.heap.size:=X.out.lt;have C2:=J (DC w1 W.heap.size _ l ho HL.out);have OT:=J (fun g hg=>(ho.lt g hg).1);have HW:=J hlt;clear hb ho C X;go_wp2_with fail;refine C2.out.mono ?_;rintro e2 w2 ⟨rfl,l2,ho2,hp2,hs2,hg2⟩;have B2:=J (B1.out.grown hg2 B1.out.size (fun j hj=>Nat.le_trans (Nat.le_of_lt HW.out) (OT.out j hj)));have X2:=J (show dN w2 w.heap.size _ _ from (hg2.block _ X1.out.lt (fun e=>by have:=OT.out _ e.symm; have:=HW.out; omega)).trans X1.out);have C3:=J (Iu w2 W.heap.size (p1,p2,p3) l2 ho2 hs2 (by rw [hp2.length_eq]; exact HL.out));have PM:=J hp2;have OT2:=J (fun g hg=>(ho2.lt g hg).1);clear ho2 hp2 hs2 hg2 C2 OT X1;go_wp2_with fail;refine C3.out.mono ?_;rintro e3 w3 ⟨⟨⟨t1,t2,t3⟩,rfl,l3,ho3,hs3,hm3⟩,hg3⟩;have B3:=J (B2.out.grown hg3 B2.out.size (fun j hj=>Nat.le_trans (Nat.le_of_lt HW.out) (OT2.out j hj)));have Y:=show dN w3 w.heap.size _ _ from (hg3.block _ X2.out.lt (fun e=>by have:=OT2.out _ e.symm; have:=HW.out; omega)).trans X2.out;obtain⟨y0,y1,y2,y3,y4,y5⟩:=Y.fB;obtain⟨f0,f1,f2,f3,f4,f5⟩:=Y.kJ;have zz:=Y.lt;have FB:=J (dM Y (V Z me) (L t1 t2 t3) (L U 0 0) (L U 0 0) (L U 0 0) (L U 0 0));have FL:=J (dI (b:=w.heap.size) B3.out (Nat.le_refl _) (V Z me) (L t1 t2 t3) (L U 0 0) (L U 0 0) (L U 0 0) (L U 0 0));have FO:=J (fC ho3 w.heap.size HW.out (V Z me) (L t1 t2 t3) (L U 0 0) (L U 0 0) (L U 0 0) (L U 0 0));have Q:=J (show l3.Pairwise (·<·)/\∀ x,x∈l3↔x∈l from ⟨hs3,fun x=>(hm3 x).trans PM.out.mem_iff⟩);clear ho3 hs3 hm3 hg3 Y X2 C3 B2 B1 B0;go_wp2_with fail;obtain⟨v0,v1,v2,v3,v4,v5⟩:=FB.out.fB;refine aJ (v:=bg #[V Z me,L t1 t2 t3,L U 0 0,L U 0 0,L U 0 0,L U 0 0]) (by simp [results,Tryz.results41,go_sem,v0,v1,v2,v3,v4,v5]) rfl ?_;exact⟨⟨l3,(t1,t2,t3),rfl,⟨Row.dH FO.out,⟨[],je _,.nil⟩,je _,⟨[],je _,.nil⟩,⟨[],je _,.nil⟩⟩,⟨_,FO.out⟩,Q.out.1,Q.out.2⟩,FL.out⟩
end Av
namespace Pr
open Go.RowKit Go.Sort Pu Rw Va
theorem I4 (w:aI) (c d z:C5):dN (((w.alloc (ah (cells5 c).toArray 106)).alloc (ah (cells5 d).toArray 106)).alloc (ah (cells5 z).toArray 106)) w.heap.size (cells5 c).toArray 106/\dN (((w.alloc (ah (cells5 c).toArray 106)).alloc (ah (cells5 d).toArray 106)).alloc (ah (cells5 z).toArray 106)) (w.heap.size+1) (cells5 d).toArray 106/\dN (((w.alloc (ah (cells5 c).toArray 106)).alloc (ah (cells5 d).toArray 106)).alloc (ah (cells5 z).toArray 106)) (w.heap.size+1+1) (cells5 z).toArray 106/\Below w.heap.size w (((w.alloc (ah (cells5 c).toArray 106)).alloc (ah (cells5 d).toArray 106)).alloc (ah (cells5 z).toArray 106)):=by
 obtain⟨h1,h2,h3⟩:=Ua w c d;refine⟨h1.more _,h2.more _,?_,h3.alloc h3.size _⟩;have h:=dO ((w.alloc (ah (cells5 c).toArray 106)).alloc (ah (cells5 d).toArray 106)) (cells5 z).toArray 106
 rwa [show ((w.alloc (ah (cells5 c).toArray 106)).alloc (ah (cells5 d).toArray 106)).heap.size=w.heap.size+1+1 by simp] at h
theorem eZ {W:aI} {b:Nat} {c:C5} (h:dN W b (cells5 c).toArray 106):W.cell? ⟨b,0,U⟩=ak (aH c.1)/\W.cell? ⟨b,1,U⟩=ak (V Z c.2.1)/\W.cell? ⟨b,2,U⟩=ak (V Z c.2.2.1)/\W.cell? ⟨b,3,U⟩=ak (V Z c.2.2.2.1)/\W.cell? ⟨b,4,U⟩=ak (aH c.2.2.2.2):=⟨h.cell 0,h.cell 1,h.cell 2,h.cell 3,h.cell 4⟩
theorem iO {B:Nat} {W w:aI} (h:Below B W w) (g:Nat) (hB:B<=g) (v0 v1 v2 v3 v4:aM):Below B W (((((w.setCell ⟨g,0,U⟩ v0).setCell ⟨g,1,U⟩ v1).setCell ⟨g,2,U⟩ v2).setCell ⟨g,3,U⟩ v3).setCell ⟨g,4,U⟩ v4) :=
 ((((h.setCell hB _).setCell hB _).setCell hB _).setCell hB _).setCell hB _
theorem YX (na nb:ByteArray) (a b c d:Int) (w:aI):bf ay 139 #[cv (r5 (na,.rg a b)),cv (r5 (nb,.rg c d))] w (Ng na (fE (.rg a b) (.rg c d)) w):=by
 obtain⟨ba,bb,bz,hb⟩:=I4 w (r5 (na,.rg a b)) (r5 (nb,.rg c d)) (⟨#[]⟩,0,0,0,⟨#[]⟩);have B:=J hb;have BA:=J ba;have BB:=J bb;have BZ:=J bz;have O:=J (Ik na nb a b c d (((w.alloc (ah (cells5 (r5 (na,.rg a b))).toArray 106)).alloc (ah (cells5 (r5 (nb,.rg c d))).toArray 106)).alloc (ah (cells5 (⟨#[]⟩,0,0,0,⟨#[]⟩)).toArray 106)));generalize fE (.rg a b) (.rg c d)=r at *;clear ba bb bz hb;simp only [r5,kN,jN,jO,kT];go_enter aY,aW;go_wp2_with fail;refine O.out.mono ?_;rintro e W2 ⟨⟨x,rfl,hx⟩,hb2⟩;have B2:=J (B.out.trans (hb2.mono B.out.size));have Z2:=J (BZ.out.on hb2);have X:=J hx;obtain⟨z0,z1,z2,z3,z4⟩:=eZ Z2.out;have fz:=fun k=>Z2.out.fr k;simp only at z0 z1 z2 z3 z4;clear hx hb2 O B BA BB BZ;go_wp2;refine aJ (v:=.tuple #[cv x,aT r.isSome]) (by simp [results,aN,go_sem,z0,z1,z2,z3,z4]) rfl ?_;exact⟨⟨x,rfl,X.out⟩,iO B2.out (w.heap.size+1+1) (by omega) _ _ _ _ _⟩
theorem sO (na nb:ByteArray) (ka kb:Kd) (w:aI) (hno:(kN ka=1/\kN kb≠1)\/kN ka≠1) (hn:na=nb) (r:Option Kd) (hr:r=if iY ka kb then ak ka else if iY kb ka then ak kb else U):bf ay 139 #[cv (r5 (na,ka)),cv (r5 (nb,kb))] w (Ng na r w):=by
 obtain⟨ba,bb,bz,hb⟩:=I4 w (r5 (na,ka)) (r5 (nb,kb)) (⟨#[]⟩,0,0,0,⟨#[]⟩);have B:=J hb;have BA:=J ba;have BB:=J bb;have BZ:=J bz;have I1:=J (Af (na,ka) (nb,kb) (((w.alloc (ah (cells5 (r5 (na,ka))).toArray 106)).alloc (ah (cells5 (r5 (nb,kb))).toArray 106)).alloc (ah (cells5 (⟨#[]⟩,0,0,0,⟨#[]⟩)).toArray 106)));have I2:=J (fun W=>Af (nb,kb) (na,ka) W);obtain⟨i1,e1⟩:∃ i,iY ka kb=i:=⟨_,rfl⟩;obtain⟨i2,e2⟩:∃ i,iY kb ka=i:=⟨_,rfl⟩;simp only [e1] at I1;simp only [e2] at I2;rw [e1,e2] at hr;have HR:=J hr;have NE:=J hn;obtain⟨j1,g1⟩:∃ j,(kN ka == (1:Int))=j:=⟨_,rfl⟩;have g2:j1=true->(kN kb == (1:Int))=false:=fun e=>by
  subst e;rcases hno with⟨_,h⟩|h
  ·exact beq_eq_false_iff_ne.2 h
  ·exact absurd (beq_iff_eq.1 g1) h
 have G2:=J g2;clear ba bb bz hb e1 e2 hn hno g2 hr;simp only [r5] at I1 I2 ⊢;cases j1
 all_goals try have g3:=G2.out rfl
 all_goals
  clear G2;go_enter aY,aW;go_wp2_with fail;refine I1.out.mono ?_;rintro e W2 ⟨rfl,hb2⟩;have B2:=J (B.out.trans (hb2.mono B.out.size));have Z2:=J (BZ.out.on hb2);have A2:=J (BA.out.on hb2);have D2:=J (BB.out.on hb2);obtain⟨a0,a1,a2,a3,a4⟩:=eZ A2.out;obtain⟨d0,d1,d2,d3,d4⟩:=eZ D2.out;obtain⟨z0,z1,z2,z3,z4⟩:=eZ Z2.out;have fz:=fun k=>Z2.out.fr k;simp only [r5] at a0 a1 a2 a3 a4 d0 d1 d2 d3 d4;simp only at z0 z1 z2 z3 z4;clear hb2 B BA BB BZ I1;rcases Bool.eq_false_or_eq_true i1 with rfl|rfl
  ·go_wp2;refine aJ (v:=.tuple #[cv (r5 (na,ka)),aT true]) (by simp [results,aN,go_sem,z0,z1,z2,z3,z4,r5]) rfl ?_;exact⟨⟨r5 (na,ka),by rw [HR.out]; rfl,fun k hk=>by rw [HR.out] at hk; rw [<- aL hk]⟩,iO B2.out (w.heap.size+1+1) (by omega) _ _ _ _ _⟩
  ·clear a0 a1 a2 a3 a4 d0 d1 d2 d3 d4;obtain⟨a0,a1,a2,a3,a4⟩:=eZ A2.out;obtain⟨d0,d1,d2,d3,d4⟩:=eZ D2.out;simp only [r5] at a0 a1 a2 a3 a4 d0 d1 d2 d3 d4;go_wp2_with fail;refine (I2.out _).mono ?_;rintro e W3 ⟨rfl,hb3⟩;have B3:=J (B2.out.trans (hb3.mono B2.out.size));have Z3:=J (Z2.out.on hb3);have D3:=J (D2.out.on hb3);clear a0 a1 a2 a3 a4 d0 d1 d2 d3 d4 z0 z1 z2 z3 z4 fz;obtain⟨d0,d1,d2,d3,d4⟩:=eZ D3.out;obtain⟨z0,z1,z2,z3,z4⟩:=eZ Z3.out;have fz:=fun k=>Z3.out.fr k;simp only [r5] at d0 d1 d2 d3 d4;simp only at z0 z1 z2 z3 z4;clear hb3 B2 I2 A2 D2 Z2;rcases Bool.eq_false_or_eq_true i2 with rfl|rfl
   ·go_wp2;refine aJ (v:=.tuple #[cv (r5 (nb,kb)),aT true]) (by simp [results,aN,go_sem,z0,z1,z2,z3,z4,r5]) rfl ?_;exact⟨⟨r5 (nb,kb),by rw [HR.out]; rfl,fun k hk=>by rw [HR.out] at hk; rw [NE.out,<- aL hk]⟩,iO B3.out (w.heap.size+1+1) (by omega) _ _ _ _ _⟩
   ·go_wp2;refine aJ (v:=.tuple #[cv ((⟨#[]⟩,0,0,0,⟨#[]⟩)),aT false]) (by simp [results,aN,go_sem,z0,z1,z2,z3,z4]) rfl ?_;exact⟨⟨(⟨#[]⟩,0,0,0,⟨#[]⟩),by rw [HR.out]; rfl,fun k hk=>by rw [HR.out] at hk; cases hk⟩,iO B3.out (w.heap.size+1+1) (by omega) _ _ _ _ _⟩
theorem UY (a b:Cn) (w:aI) (hn:a.1=b.1):bf ay 139 #[cv (r5 a),cv (r5 b)] w (Ng a.1 (fE a.2 b.2) w):=by
 obtain⟨na,ka⟩:=a;obtain⟨nb,kb⟩:=b;cases ka with
 | rg p q =>
  cases kb with
  | rg r t=>exact YX na nb p q r t w
  | tx t=>exact sO na nb _ _ w (aV ⟨rfl,by simp [kN]⟩) hn _ (zC _ _)
  | pr t=>exact sO na nb _ _ w (aV ⟨rfl,by simp [kN]⟩) hn _ (zC _ _)
 | tx s=>exact sO na nb _ _ w (aO (by simp [kN])) hn _ (zC _ _)
 | pr s=>exact sO na nb _ _ w (aO (by simp [kN])) hn _ (zC _ _)
theorem sP {W W1:aI} {v:aM} {l:List C5} {ao:Option aZ} {n c k:Nat} {x:C5} (h:gu W v l) (hv:v=L ao n c) (hn:l.length=n) (hk:l[k]?=ak x) (hb:Below W.heap.size W W1) :
  ∃ p:aZ,(∀ w,(Instr.indexAt 41 (L ao n c) (V Z k)).run ay w=.ok (au (ak p)) w) /\
   (∀ d os,(grow (aP W1 d) os).cell? p=ak (aH x.1))/\(∀ d os,(grow (aP W1 d) os).cell? ⟨p.block,p.off+1,U⟩=ak (V Z x.2.1))/\(∀ d os,(grow (aP W1 d) os).cell? ⟨p.block,p.off+2,U⟩=ak (V Z x.2.2.1))/\(∀ d os,(grow (aP W1 d) os).cell? ⟨p.block,p.off+3,U⟩=ak (V Z x.2.2.2.1))/\(∀ d os,(grow (aP W1 d) os).cell? ⟨p.block,p.off+4,U⟩=ak (aH x.2.2.2.2)):=by
 obtain⟨p,h1,h2⟩:=elC h hv hn hk;obtain⟨c0,c1,c2,c3,c4⟩:=h2 _ hb;exact⟨p,h1,aB c0,aB c1,aB c2,aB c3,aB c4⟩
theorem uf {W:aI} {b:Nat} {c:C5} (h:dN W b (cells5 c).toArray 106):(∀ d os,(grow (aP W d) os).cell? ⟨b,0,U⟩=ak (aH c.1))/\(∀ d os,(grow (aP W d) os).cell? ⟨b,1,U⟩=ak (V Z c.2.1))/\(∀ d os,(grow (aP W d) os).cell? ⟨b,2,U⟩=ak (V Z c.2.2.1))/\(∀ d os,(grow (aP W d) os).cell? ⟨b,3,U⟩=ak (V Z c.2.2.2.1))/\(∀ d os,(grow (aP W d) os).cell? ⟨b,4,U⟩=ak (aH c.2.2.2.2)) :=
 ⟨aB (h.cell 0),aB (h.cell 1),aB (h.cell 2),aB (h.cell 3),aB (h.cell 4)⟩
theorem D8:∀ (l:List C5) (k:Nat) (x:C5),k<l.length->flat EC (l.set k x)=((((( flat EC l).set (k * 5) (aH x.1)).set (k * 5+1) (V Z x.2.1)).set (k * 5+2) (V Z x.2.2.1)).set (k * 5+3) (V Z x.2.2.2.1)).set (k * 5+4) (aH x.2.2.2.2)
 | [],k,x,h=>by simp at h
 | y::r,0,x,_=>by simp [flat,EC,cells5]
 | y::r,k+1,x,h=>by
  have h2:=D8 r k x (by simpa using h);have e:∀ j u (zs:List aM),(cells5 y++zs).set (5+j) u=cells5 y++zs.set j u:=fun j u zs=>by simp [cells5,Nat.add_comm 5 j]
  simp only [List.set_cons_succ,flat,h2];show cells5 y++_=_;rw [show (k+1) * 5=5+k * 5 by omega,show 5+k * 5+1=5+(k * 5+1) by omega,show 5+k * 5+2=5+(k * 5+2) by omega,show 5+k * 5+3=5+(k * 5+3) by omega,show 5+k * 5+4=5+(k * 5+4) by omega];show _=((((( cells5 y++flat EC r).set _ _).set _ _).set _ _).set _ _).set _ _;rw [e,e,e,e,e]
theorem Qr {W:aI} {B g n cap k:Nat} {l:List C5} {x:C5} (h:jP W B (L (ak ⟨g,0,U⟩) n cap) l) (hn:n=l.length) (hk:k<n) :
  jP (((((W.setCell ⟨g,k * 5,U⟩ (aH x.1)).setCell ⟨g,k * 5+1,U⟩ (V Z x.2.1)).setCell ⟨g,k * 5+2,U⟩ (V Z x.2.2.1)).setCell ⟨g,k * 5+3,U⟩ (V Z x.2.2.2.1)).setCell ⟨g,k * 5+4,U⟩ (aH x.2.2.2.2)) B (L (ak ⟨g,0,U⟩) n cap) (l.set k x):=by
 subst hn;have o1:=(aD h (k * 5) (aH x.1)).1;have o2:=(aD o1 (k * 5+1) (V Z x.2.1)).1;have o3:=(aD o2 (k * 5+2) (V Z x.2.2.1)).1;have o4:=(aD o3 (k * 5+3) (V Z x.2.2.2.1)).1;have o5:=(aD o4 (k * 5+4) (aH x.2.2.2.2)).1;rw [<- D8 l k x hk] at o5;show World.ownsRow _ _ _ _ _ (l.set k x).length _;rw [List.length_set];exact o5
theorem Gg {B:Nat} {W w:aI} (h:Below B W w) (g:Nat) (hB:B<=g) (o:Nat) (v0 v1 v2 v3 v4:aM):Below B W (((((w.setCell ⟨g,o,U⟩ v0).setCell ⟨g,o+1,U⟩ v1).setCell ⟨g,o+2,U⟩ v2).setCell ⟨g,o+3,U⟩ v3).setCell ⟨g,o+4,U⟩ v4) :=
 ((((h.setCell hB _).setCell hB _).setCell hB _).setCell hB _).setCell hB _
theorem yH {W:aI} {b:Nat} {z:C5} (h:dN W b (cells5 z).toArray 106) (x:C5):dN (((((W.setCell ⟨b,0,U⟩ (aH x.1)).setCell ⟨b,1,U⟩ (V Z x.2.1)).setCell ⟨b,2,U⟩ (V Z x.2.2.1)).setCell ⟨b,3,U⟩ (V Z x.2.2.2.1)).setCell ⟨b,4,U⟩ (aH x.2.2.2.2)) b (cells5 x).toArray 106:=by
 have h1:=heap_setCell_same W b 0 _ 106 (aH x.1) h;have h2:=heap_setCell_same _ b 1 _ 106 (V Z x.2.1) h1;have h3:=heap_setCell_same _ b 2 _ 106 (V Z x.2.2.1) h2;have h4:=heap_setCell_same _ b 3 _ 106 (V Z x.2.2.2.1) h3;have h5:=heap_setCell_same _ b 4 _ 106 (aH x.2.2.2.2) h4;unfold dN;rw [h5];simp [cells5]
end Pr
namespace Bk
open Go.RowKit Rw YtkcfgbddlpomgaaGreat.Nm Pr
def Gh (B b2 _:Nat) (so:Option aZ) (sn sc at_:Nat) (lo hiv:aM) (z:pK) (lt ld:List pK) (i:Nat) (v:aM) (x:aI):Prop :=
 match i with
 | 0=>∃ g,v=L (ak ⟨g,0,U⟩) 0 0/\B<=g/\dN x g #[] 61
 | 1=>v=au (ak ⟨b2,5,U⟩)
 | 2=>v=L so sn sc
 | 3=>v=V Z (at_:Int)
 | 4=>v=lo
 | 5=>og x B v lt
 | 6=>v=mY (z.1,z.2.1)
 | 7=>v=dU z.2.2
 | 8=>v=Kn z
 | 9=>og x B v [z]
 | 10=>og x B v (lt++[z])
 | 11=>v=au (ak ⟨b2,5,U⟩)
 | 12=>v=L so sn sc
 | 13=>v=V Z (at_:Int)
 | 14=>v=hiv
 | 15=>og x B v (lt++[z]++ld)
 | 16=>v=au (ak ⟨b2,5,U⟩)
 | _=>True
noncomputable def UZ:Code:=((Tryz.f27.body.bind (eP 6)).getD .skip)
theorem Qs (B b2 b3:Nat) (so:Option aZ) (sn sc at_:Nat) (lo hiv:aM) (z:pK) (lt ld:List pK) (i:Nat) (v:aM) (x x':aI) (h:Gh B b2 b3 so sn sc at_ lo hiv z lt ld i v x) (hb:Below x.heap.size x x'):Gh B b2 b3 so sn sc at_ lo hiv z lt ld i v x':=by
 by_cases hi:i<17
 ·rcases (by omega:i=0\/i=1\/i=2\/i=3\/i=4\/i=5\/i=6\/i=7\/i=8\/i=9\/i=10\/i=11\/i=12\/i=13\/i=14\/i=15\/i=16) with rfl|rfl|rfl|rfl|rfl|rfl|rfl|rfl|rfl|rfl|rfl|rfl|rfl|rfl|rfl|rfl|rfl
  ·obtain⟨g,h1,h2,h3⟩:=h;exact⟨g,h1,h2,h3.on hb⟩
  ·exact h
  ·exact h
  ·exact h
  ·exact h
  ·exact dG h hb
  ·exact h
  ·exact h
  ·exact h
  ·exact dG h hb
  ·exact dG h hb
  ·exact h
  ·exact h
  ·exact h
  ·exact h
  ·exact dG h hb
  ·exact h
 ·unfold Gh
  split <;> first | omega | trivial
theorem aaJ (Q:Exit->Act->aI->Prop) (W:aI) (b2 b3:Nat) (me:Int) (y1 y2 y3 y4:aM) (so:Option aZ) (sn sc at_:Nat) (l:List pK) (z:pK) (u0 u1 u5 u6 u7 u9 u10 u11 u12 u13 u14 u15 u16 u17 u18 u19 u20 u21 u22 u23 u24 u25 u26 u27 u28 u29 u30 u31 u32 u33 u34 u35 u36 u37 u38 u39 u40 u41 u42 u43 u44 u45 u46 u47 u48 u49 u50 u51 u52 u53 u54 u55 u56 u57 u58 u59 u60 u61 u62 u63 u64 u65 u66 u67 u68 u69 u70 u71 u72 u73 u74 u75 u76 u77 u78 u79 u80 u81 u82 u83 u84 u85 u86 u87 u88 u89 u90 u91 u92 u93 u94 u95 u96 u97 u98:aM)
  (h2:dN W b2 #[V Z me,y1,y2,y3,y4,L so sn sc] 33) (hx:∀ x,Below W.heap.size W x->∀ j u,(jQ (z.1,z.2.1))[j]?=ak u->x.cell? ((⟨b3,0,U⟩:aZ).add j)=ak u) (hs:Ko W (L so sn sc) l) (hat:at_<=l.length) (hlen:l.length<=900)
  (hQ:∀ (x:aI) (v47 v48 v49 v50 v51 v52 v53 v54 v55 v56 v57 v58 v59 v60 v61 v62 v63:aM),dN x b2 #[V Z me,y1,y2,y3,y4,v62] 33->og x W.heap.size v62 (l.take at_++[z]++l.drop at_)->(∀ B,B<=b2->Below B W x)->(∀ c cs t,c≠b2->dN W c cs t->dN x c cs t)->(∀ k,k<W.heap.size->k≠b2->x.heap[k]?=W.heap[k]?)->Q .normal ⟨(u0::u1::dU z.2.2::au (ak ⟨b2,0,U⟩)::au (ak ⟨b3,0,U⟩)::u5::u6::u7::V Z (at_:Int)::u9::u10::u11::u12::u13::u14::u15::u16::u17::u18::u19::u20::u21::u22::u23::u24::u25::u26::u27::u28::u29::u30::u31::u32::u33::u34::u35::u36::u37::u38::u39::u40::u41::u42::u43::u44::u45::u46::v47::v48::v49::v50::v51::v52::v53::v54::v55::v56::v57::v58::v59::v60::v61::v62::v63::u64::u65::u66::u67::u68::u69::u70::u71::u72::u73::u74::u75::u76::u77::u78::u79::u80::u81::u82::u83::u84::u85::u86::u87::u88::u89::u90::u91::u92::u93::u94::u95::u96::u97::u98::[]).toArray,[]⟩ x) :
  Code.wp ay UZ Q ⟨(u0::u1::dU z.2.2::au (ak ⟨b2,0,U⟩)::au (ak ⟨b3,0,U⟩)::u5::u6::u7::V Z (at_:Int)::u9::u10::u11::u12::u13::u14::u15::u16::u17::u18::u19::u20::u21::u22::u23::u24::u25::u26::u27::u28::u29::u30::u31::u32::u33::u34::u35::u36::u37::u38::u39::u40::u41::u42::u43::u44::u45::u46::u47::u48::u49::u50::u51::u52::u53::u54::u55::u56::u57::u58::u59::u60::u61::u62::u63::u64::u65::u66::u67::u68::u69::u70::u71::u72::u73::u74::u75::u76::u77::u78::u79::u80::u81::u82::u83::u84::u85::u86::u87::u88::u89::u90::u91::u92::u93::u94::u95::u96::u97::u98::[]).toArray,[]⟩ W:=by
 have HQ:=J hQ;have H2:=J h2;have LX:=J hx;obtain⟨lo,Cy,wm⟩:=vL okW hs at_ (by omega);obtain⟨hiv,Cz,xQ⟩:=qH okW hs (at_) hat;have LT:=J (show (l.take at_).length<=1000 by rw [aS]; omega);have SK:=J (show (l.take at_).length<=900 by rw [aS]; omega);have LD:=J (show (l.drop (at_)).length<=1000 by rw [List.length_drop]; omega);generalize l.take at_=lt at *;generalize l.drop (at_)=ld at *;have SL:=J Cy;have SH:=J Cz;have RL:=J wm;have RH:=J xQ;clear hQ h2 hx hs Cy Cz wm xQ hat hlen;have iN:=Qs W.heap.size b2 b3 so sn sc at_ lo hiv z lt ld;unfold UZ
 conv=>arg 2; whnf
 have nd:∀ j,(j<47\/64<=j)->∀ i,i<17->(fun i=>47+i) i≠j:=by
  intro j hj i hi h;simp only at h;omega
 refine Rg.fM 18 17 (fun i=>47+i) (fun i=>if i=0 then 5 else if i=5 then 10 else if i=9 then 10 else if i=10 then 15 else 17) (Gh W.heap.size b2 b3 so sn sc at_ lo hiv z lt ld) (by kernel_rfl) (by kernel_rfl) rfl (by decide) (fun i j _ _ h=>by have h2:47+i=47+j:=h; omega) (fun i hi=>by show 47+i<99; omega) ?_ (fun _=>Rg.jq 1 (by kernel_rfl)) (fun kk o h1 h2=>by omega) ?_
 ·intro i o hi ho a x D hnd hc hD hb seen K hK;clear HQ;rcases (by omega:i=0\/i=1\/i=2\/i=3\/i=4\/i=5\/i=6\/i=7\/i=8\/i=9\/i=10\/i=11\/i=12\/i=13\/i=14\/i=15\/i=16) with rfl|rfl|rfl|rfl|rfl|rfl|rfl|rfl|rfl|rfl|rfl|rfl|rfl|rfl|rfl|rfl|rfl
  ·cases ho;exact Rg.dD rfl rfl (Rg.iQ a.eval _ 31 0 #[] rfl rfl (by simp [go_sem])) (hK (L (ak ⟨x.heap.size,0,U⟩) 0 0) (x.alloc (ah #[] 61)) ⟨x.heap.size,rfl,hb.size,dO x #[] 61⟩ ((aj _ _).alloc hb.size _) fun j u _ _ _ _ _ h=>iN j u _ _ h ((aj _ _).alloc (Nat.le_refl _) _))
  ·cases ho;have e3:a.eval (aA 3)=au (ak ⟨b2,0,U⟩):=seen.kp 3 _ (nd 3 (by omega)) rfl;exact Rg.dD rfl rfl (Rg.dX a.eval _ 33 (aA 3) 5 rfl (by rw [e3]; simp [go_sem])) (hK _ _ rfl (aj _ _) fun _ _ _ _ _ _ _ h=>h)
  ·cases ho;have e48:a.eval (aA 48)=au (ak ⟨b2,5,U⟩):=seen.at_ ⟨1,.data⟩ (by simp) rfl (aO (by decide));have y:=(H2.out.on hb).cell 5;simp only [aC,aF,aG] at y;exact Rg.dD rfl rfl (Rg.dZ a.eval _ 31 (aA 48) rfl (by rw [e48]; simp [go_sem,y])) (hK _ _ rfl (aj _ _) fun _ _ _ _ _ _ _ h=>h)
  ·cases ho;have e8:a.eval (aA 8)=V Z (at_:Int):=seen.kp 8 _ (nd 8 (by omega)) rfl;exact Rg.dD rfl rfl (Rg.fQ a.eval _ (aA 8) rfl x) (hK _ _ e8 (aj _ _) fun _ _ _ _ _ _ _ h=>h)
  ·cases ho;have e49:a.eval (aA 49)=L so sn sc:=seen.at_ ⟨2,.data⟩ (by simp) rfl (aO (by decide));have e50:a.eval (aA 50)=V Z (at_:Int):=seen.at_ ⟨3,.data⟩ (by simp) rfl (aO (by decide));exact Rg.dD rfl rfl (Rg.kD a.eval _ 31 (aA 49) U (ak (aA 50)) U rfl (by show (Instr.sliceAt 31 (a.eval (aA 49)) U (ak (a.eval (aA 50))) U).run ay x=.ok lo x; rw [e49,e50]; exact SL.out x)) (hK _ _ rfl (aj _ _) fun _ _ _ _ _ _ _ h=>h)
  ·cases ho;obtain⟨g,q0,hBg,hbx⟩:=seen.at_ ⟨0,.data⟩ (by simp) rfl (aV rfl);have q0:a.eval (aA 47)=L (ak ⟨g,0,U⟩) 0 0:=q0;have e51:a.eval (aA 51)=lo:=seen.at_ ⟨4,.data⟩ (by simp) rfl (aO (by decide));obtain⟨v',x',r,o',gr⟩:=gK okW W.heap.size hbx hBg (RL.out.on hb) LT.out 31;exact Rg.dD rfl rfl (Rg.gq a.eval _ (aA 47) (aA 51) 31 rfl q0 e51 r) (hK v' x' o' (gr.mono hb.size) fun j u _ _ _ _ _ h=>iN j u _ _ h gr)
  ·cases ho;have e4:a.eval (aA 4)=au (ak ⟨b3,0,U⟩):=seen.kp 4 _ (nd 4 (by omega)) rfl;exact Rg.dD rfl rfl (Rg.dZ a.eval _ 38 (aA 4) rfl (by rw [e4]; exact Dl x _ (z.1,z.2.1) (LX.out x hb))) (hK _ _ rfl (aj _ _) fun _ _ _ _ _ _ _ h=>h)
  ·cases ho;have e2:a.eval (aA 2)=dU z.2.2:=seen.kp 2 _ (nd 2 (by omega)) rfl;exact Rg.dD rfl rfl (Rg.fQ a.eval _ (aA 2) rfl x) (hK _ _ e2 (aj _ _) fun _ _ _ _ _ _ _ h=>h)
  ·cases ho;have e53:a.eval (aA 53)=mY (z.1,z.2.1):=seen.at_ ⟨6,.data⟩ (by simp) rfl (aO (by decide));have e54:a.eval (aA 54)=dU z.2.2:=seen.at_ ⟨7,.data⟩ (by simp) rfl (aO (by decide));exact Rg.dD rfl rfl (Rg.iW a.eval _ 61 #[(0,aA 53),(1,aA 54)] rfl (ps:=#[(0,mY (z.1,z.2.1)),(1,dU z.2.2)]) (by simp only [List.map_toArray,List.map_cons,List.map_nil,e53,e54]) (by simp [go_sem])) (hK _ _ rfl (aj _ _) fun _ _ _ _ _ _ _ h=>h)
  ·cases ho;have e55:a.eval (aA 55)=Kn z:=seen.at_ ⟨8,.data⟩ (by simp) rfl (aO (by decide));have hl:=iD okW x [z] 1 rfl (by simp) (qK z).toArray (by simp [flat,EW]);have hl:og (x.alloc (ah (qK z).toArray 61)) x.heap.size (L (ak ⟨x.heap.size,0,U⟩) 1 1) [z]:=hl;exact Rg.dD rfl rfl (Rg.iQ a.eval _ 31 1 #[(0,aA 55)] rfl (ps:=#[(0,Kn z)]) (by simp [e55]) (by simp [go_sem])) (hK (L (ak ⟨x.heap.size,0,U⟩) 1 1) (x.alloc (ah (qK z).toArray 61)) (dJ hl hb.size) ((aj _ _).alloc hb.size _) fun j u _ _ _ _ _ h=>iN j u _ _ h ((aj _ _).alloc (Nat.le_refl _) _))
  ·cases ho;have o52:og x W.heap.size (a.eval (aA 52)) (lt):=seen.at_ ⟨5,.data⟩ (by simp) rfl (aV rfl);have o56:og x W.heap.size (a.eval (aA 56)) ([z]):=seen.at_ ⟨9,.data⟩ (by simp) rfl (aV rfl);have ox:=Row.dH o56;obtain⟨v',x',r,o',gr⟩:=gG okW W.heap.size o52 ox (by have:=LT.out; omega) (by simp) hb.size 31;exact Rg.dD rfl rfl (Rg.gq a.eval _ (aA 52) (aA 56) 31 rfl rfl rfl r) (hK v' x' o' ((aj _ x).grown gr hb.size fun j hj=>(o52.lt j hj).1) fun j u hj dj nl nx ni h=>by
    rcases (by omega:j=0\/j=1\/j=2\/j=3\/j=4\/j=5\/j=6\/j=7\/j=8\/j=9\/j=10\/j=11\/j=12\/j=13\/j=14\/j=15\/j=16) with rfl|rfl|rfl|rfl|rfl|rfl|rfl|rfl|rfl|rfl|rfl|rfl|rfl|rfl|rfl|rfl|rfl
    ·exact absurd rfl (fun _:(0:Nat)=0=>nl (hc 5 _ (hD ⟨5,.data⟩ (by simp) rfl) rfl ⟨0,.data⟩ (by simp) rfl |> fun _=>hD ⟨5,.data⟩ (by simp) rfl))
    ·exact h
    ·exact h
    ·exact h
    ·exact h
    ·exact absurd rfl (fun _:(0:Nat)=0=>nx rfl)
    ·exact h
    ·exact h
    ·exact h
    ·exact absurd rfl (fun _:(0:Nat)=0=>nx rfl)
    ·exact absurd rfl (fun _:(0:Nat)=0=>ni rfl)
    ·exact h
    ·exact h
    ·exact h
    ·exact h
    ·exact absurd rfl (fun _:(0:Nat)=0=>hnd (hc 15 _ dj rfl ⟨10,.data⟩ (by simp) rfl))
    ·exact h)
  ·cases ho;have e3:a.eval (aA 3)=au (ak ⟨b2,0,U⟩):=seen.kp 3 _ (nd 3 (by omega)) rfl;exact Rg.dD rfl rfl (Rg.dX a.eval _ 33 (aA 3) 5 rfl (by rw [e3]; simp [go_sem])) (hK _ _ rfl (aj _ _) fun _ _ _ _ _ _ _ h=>h)
  ·cases ho;have e58:a.eval (aA 58)=au (ak ⟨b2,5,U⟩):=seen.at_ ⟨11,.data⟩ (by simp) rfl (aO (by decide));have y:=(H2.out.on hb).cell 5;simp only [aC,aF,aG] at y;exact Rg.dD rfl rfl (Rg.dZ a.eval _ 31 (aA 58) rfl (by rw [e58]; simp [go_sem,y])) (hK _ _ rfl (aj _ _) fun _ _ _ _ _ _ _ h=>h)
  ·cases ho;have e8:a.eval (aA 8)=V Z (at_:Int):=seen.kp 8 _ (nd 8 (by omega)) rfl;exact Rg.dD rfl rfl (Rg.fQ a.eval _ (aA 8) rfl x) (hK _ _ e8 (aj _ _) fun _ _ _ _ _ _ _ h=>h)
  ·cases ho;have e59:a.eval (aA 59)=L so sn sc:=seen.at_ ⟨12,.data⟩ (by simp) rfl (aO (by decide));have e60:a.eval (aA 60)=V Z (at_:Int):=seen.at_ ⟨13,.data⟩ (by simp) rfl (aO (by decide));exact Rg.dD rfl rfl (Rg.kD a.eval _ 31 (aA 59) (ak (aA 60)) U U rfl (by show (Instr.sliceAt 31 (a.eval (aA 59)) (ak (a.eval (aA 60))) U U).run ay x=.ok hiv x; rw [e59,e60]; exact SH.out x)) (hK _ _ rfl (aj _ _) fun _ _ _ _ _ _ _ h=>h)
  ·cases ho;have o57:og x W.heap.size (a.eval (aA 57)) ((lt++[z])):=seen.at_ ⟨10,.data⟩ (by simp) rfl (aV rfl);have e61:a.eval (aA 61)=hiv:=seen.at_ ⟨14,.data⟩ (by simp) rfl (aO (by decide));have ox:Ko x (a.eval (aA 61)) ld:=by rw [e61]; exact RH.out.on hb
   obtain⟨v',x',r,o',gr⟩:=gG okW W.heap.size o57 ox (by have:=SK.out; rw [List.length_append,List.length_singleton]; omega) LD.out hb.size 31;exact Rg.dD rfl rfl (Rg.gq a.eval _ (aA 57) (aA 61) 31 rfl rfl rfl r) (hK v' x' o' ((aj _ x).grown gr hb.size fun j hj=>(o57.lt j hj).1) fun j u hj dj nl nx ni h=>by
    rcases (by omega:j=0\/j=1\/j=2\/j=3\/j=4\/j=5\/j=6\/j=7\/j=8\/j=9\/j=10\/j=11\/j=12\/j=13\/j=14\/j=15\/j=16) with rfl|rfl|rfl|rfl|rfl|rfl|rfl|rfl|rfl|rfl|rfl|rfl|rfl|rfl|rfl|rfl|rfl
    ·exact absurd rfl (fun _:(0:Nat)=0=>nl (hc 10 _ (hD ⟨10,.data⟩ (by simp) rfl) rfl ⟨5,.data⟩ (by simp) rfl))
    ·exact h
    ·exact h
    ·exact h
    ·exact h
    ·exact absurd rfl (fun _:(0:Nat)=0=>nl (hD ⟨10,.data⟩ (by simp) rfl))
    ·exact h
    ·exact h
    ·exact h
    ·exact absurd rfl (fun _:(0:Nat)=0=>nl (hD ⟨10,.data⟩ (by simp) rfl))
    ·exact absurd rfl (fun _:(0:Nat)=0=>nx rfl)
    ·exact h
    ·exact h
    ·exact h
    ·exact h
    ·exact absurd rfl (fun _:(0:Nat)=0=>ni rfl)
    ·exact h)
  ·cases ho;have e3:a.eval (aA 3)=au (ak ⟨b2,0,U⟩):=seen.kp 3 _ (nd 3 (by omega)) rfl;exact Rg.dD rfl rfl (Rg.dX a.eval _ 33 (aA 3) 5 rfl (by rw [e3]; simp [go_sem])) (hK _ _ rfl (aj _ _) fun _ _ _ _ _ _ _ h=>h)
 ·intro a w' df sz kp ⟨vs,hv⟩ hb;have gr:a.tmps[62]?=ak (vs 15):=(hv 15 (by omega)).1;have gp:a.tmps[63]?=ak (au (ak ⟨b2,5,U⟩)):=by
   have h:vs 16=au (ak ⟨b2,5,U⟩):=(hv 16 (by omega)).2 (by decide);rw [<- h];exact (hv 16 (by omega)).1
  have oR:og w' W.heap.size (vs 15) (lt++[z]++ld):=(hv 15 (by omega)).2 (by decide);generalize vs 15=xR at *;obtain⟨ca,cp,eR⟩:=(Row.dH oR).len;have hbx:=H2.out.on hb;have hblt:=H2.out.lt;have c5:=hbx.cell 5;have f5:=hbx.fr 5;simp only [aC,aF,aG] at c5;have hb1:=dR (k:=5) hbx xR;show Rg.fF _ _ _ 1 17 a w';simp only [Rg.fF];refine Rg.fP 31 (aA 63) (aA 62) rfl rfl rfl rfl (Rg.dK gp) (Rg.dK gr) (w':=w'.setCell ⟨b2,5,U⟩ xR) (by rw [eR]; simp [go_sem,c5,f5]) ?_;have sI:∀ j,(j<47\/64<=j)->a.tmps[j]?=(u0::u1::dU z.2.2::au (ak ⟨b2,0,U⟩)::au (ak ⟨b3,0,U⟩)::u5::u6::u7::V Z (at_:Int)::u9::u10::u11::u12::u13::u14::u15::u16::u17::u18::u19::u20::u21::u22::u23::u24::u25::u26::u27::u28::u29::u30::u31::u32::u33::u34::u35::u36::u37::u38::u39::u40::u41::u42::u43::u44::u45::u46::u47::u48::u49::u50::u51::u52::u53::u54::u55::u56::u57::u58::u59::u60::u61::u62::u63::u64::u65::u66::u67::u68::u69::u70::u71::u72::u73::u74::u75::u76::u77::u78::u79::u80::u81::u82::u83::u84::u85::u86::u87::u88::u89::u90::u91::u92::u93::u94::u95::u96::u97::u98::[])[j]?:=fun j hj=>(kp j (nd j hj)).trans aC;obtain⟨mid,hmid,rfl⟩:=Rg.gF 47 17 df sz (by simp) sI
  match mid,hmid with
  | [v47,v48,v49,v50,v51,v52,v53,v54,v55,v56,v57,v58,v59,v60,v61,v62,v63],_ =>
   have e1:ak v62=ak xR:=gr;obtain rfl:=aL e1;refine HQ.out _ v47 v48 v49 v50 v51 v52 v53 v54 v55 v56 v57 v58 v59 v60 v61 v62 v63 ?_ ?_ ?_ ?_ ?_
   ·simpa using hb1
   ·exact dP oR b2 5 _ hblt
   ·exact fun B hB=>(hb.mono (Nat.le_of_lt (Nat.lt_of_le_of_lt hB hblt))).setCell hB _
   ·intro c cs t hc hbc;exact (aQ _ _ _ _ hc).trans (hbc.on hb)
   ·intro k hk hne;exact (aQ _ _ _ _ hne).trans (hb.block k hk)
end Bk
namespace Av
open Go.RowKit Go.ChangeShapes Go.WideShapes Bk
theorem YZ:Tryz.prog.cellsOf 83=7:=by kernel_rfl
theorem Y0 (a:aZ) (m len cap:Nat) (h:m<len) (w:aI):(Instr.indexAt 22 (L (ak a) len cap) (V Z m)).run ay w=.ok (au (ak (a.add (m * 7)))) w:=by
 have h1:(m:Int)<len:=by omega
 simp [go_sem,Tryz.underlying22,h1]
structure Ll (W:aI) (v:aM) (n:Nat):Prop where
 shape:∃ ao cap,v=L ao n cap
 at_:∀ i:Nat,i<n->∃ (p:aZ) (z0 z1 z2 z3 z4:Int) (h1:Option aZ) (h2 h3:Nat) (g1:Option aZ) (g2 g3:Nat) (has vals:List Int),p.block<W.heap.size/\(∀ w,(Instr.indexAt 22 v (V Z i)).run ay w=.ok (au (ak p)) w)/\(∀ j u,([V Z z0,V Z z1,V Z z2,V Z z3,V Z z4,L h1 h2 h3,L g1 g2 g3]:List aM)[j]?=ak u->W.cell? (p.add j)=ak u)/\((-9223372036854775808<=z0/\z0<=9223372036854775807)/\(-9223372036854775808<=z1/\z1<=9223372036854775807)/\(-9223372036854775808<=z2/\z2<=9223372036854775807)/\(-9223372036854775808<=z3/\z3<=9223372036854775807)/\(-9223372036854775808<=z4/\z4<=9223372036854775807))/\In.iC W (L h1 h2 h3) has/\In.iC W (L g1 g2 g3) vals/\has.length<=aX/\vals.length<=aX
theorem Ll.on {W W':aI} {v:aM} {n:Nat} (h:Ll W v n) (hb:Below W.heap.size W W'):Ll W' v n :=
 ⟨h.shape,fun i hi=>by
  obtain⟨p,z0,z1,z2,z3,z4,x1,x2,x3,y1,y2,y3,has,vals,h1,h2,h3,h4,h5,h6,h7⟩:=h.at_ i hi;exact⟨p,z0,z1,z2,z3,z4,x1,x2,x3,y1,y2,y3,has,vals,Nat.lt_of_lt_of_le h1 hb.size,h2,fun j u hu=>by rw [hb.cell (by rw [wJ]; exact h1)]; exact h3 j u hu,h4,h5.on hb,h6.on hb,h7⟩⟩
end Av
namespace Rl
open Go.RowKit Pu Rw Pr
end Rl
namespace At
open Go.RowKit Go.ChangeShapes Go.WideShapes In
theorem adC:Tryz.prog.cellsOf 27=2:=by kernel_rfl
theorem zB:Tryz.prog.cellsOf 25=1:=by kernel_rfl
theorem Kc {H:Type} {enc:TypeId×aM->H} {W:aI} {r:Reach} {b0:Nat} {sp:Nat->Bool} {held:Bool} {v:aM} {d:DataW H} {ps:List MemPlace}
  (hval:Value.okWide ay W r b0 27 v) (hd:DataW.Trod enc ay W 0 sp held 27 v d ps) :
  ∃ (hv vv:aM) (has vals:List Int),v=bg #[hv,vv]/\has.length<=aX/\vals.length<=aX/\iC W hv has/\iC W vv vals:=by
 obtain⟨cs,rfl,hsz⟩:=okWide_struct aR hval;obtain⟨fuel,hf⟩:=hd;obtain⟨xs,n,_,_,_,hxl,hx⟩:=DataW.trod_struct aR hf;rw [adC] at hsz;obtain⟨l⟩:=cs
 match l,hsz with
 | [c0,c1],_ =>
  have f0:DataW.trod enc ay W 0 sp held n 25 (([c0,c1].drop 0).take (Tryz.prog.cellsOf 25))=xs[0]?:=hx 0 _ rfl;have f1:DataW.trod enc ay W 0 sp held n 25 (([c0,c1].drop 1).take (Tryz.prog.cellsOf 25))=xs[1]?:=hx 1 _ rfl;have ac4:xs.length=2:=hxl;simp only [zB,List.drop_zero,List.drop_succ_cons,List.take_succ_cons,List.take_zero] at f0 f1;rw [aK (by omega)] at f0 f1;obtain⟨has,h1,h2⟩:=uH f0;obtain⟨vals,h3,h4⟩:=uH f1;exact⟨c0,c1,has,vals,rfl,h1,h3,h2,h4⟩
end At
end Go.Proofs.YtkcfgbddlpomgaaGreat
