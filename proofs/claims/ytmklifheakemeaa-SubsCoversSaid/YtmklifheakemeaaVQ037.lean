/-
  Covered, Find and Ti. Conditions as told.
-/
import Derived.Test.YtmklifheakemeaaVQ036
set_option maxRecDepth 100000
set_option maxHeartbeats 64000000
open Go.IntKind renaming i64->K
open Go.Lib renaming hid->D
open Go.Value renaming int->J,slice->U,bool->ah
open _root_.List renaming getElem?_cons_zero->L,getElem?_cons_succ->O,getElem?_toArray->Q
namespace Go.Proofs.Ytmklifheakemeaa.Sb
open Go.RowKit Go.Sort Rw Ytmklifheakemeaa.Nm Pr Bk Av Rl
theorem AX {W:World} {v:Sl} {l:List gM} {m:List En} (hv:jR W (dR v) l) (hA:eF (iC W) l m) (t:eu):jR W (dR (cutV v (fJ m t) (jv m t).length)) ((l.drop (fJ m t)).take (jv m t).length)/\eF (iC W) ((l.drop (fJ m t)).take (jv m t).length) (jv m t):=by
 refine⟨(wV hv _ _ (by rw [hA.len]; exact oh m t)).2,?_⟩;have h:=(hA.drop (fJ m t)).take (jv m t).length;have e:(m.drop (fJ m t)).take (jv m t).length=jv m t:=by
  unfold jv
  conv=>lhs; arg 2; rw [<- List.takeWhile_append_dropWhile (p:=fun e:En=>decide (e.tree=t)) (l:=m.drop (fJ m t))]
  rw [List.take_left]
 rw [e] at h;exact h
theorem AY (m:List En) (t:eu):∀ e∈jv m t,e∈m:=fun _ he=>List.mem_of_mem_drop ((List.takeWhile_sublist _).subset he)
theorem sZ (me:Int) (nv av sv ov:Value) (ev:Sl) (l:List gM) (m:List En) (t:eu) (pv:Value) (p':List C5) (w:World) (hs:jR w (dR ev) l) (hu:eF (iC w) l m) (hr:fC m) (hl:l.length<=1000) (hp:iy w pv p') (hok:∀ e∈m,eO e.p) (hop:eO p') :
  Calls Try.prog 9 #[.agg #[J K me,nv,av,sv,dR ev,ov],pG t,pv] w fun e w'=>e=.returned (ah (dJ m t p'))/\Below w.heap.size w w':=by
 obtain⟨pa,pc,rfl⟩:=hp.len;obtain⟨so,n,sc⟩:=ev;obtain⟨c,d⟩:=t;obtain⟨h0,X,Y⟩:=iT w #[J K me,nv,av,sv,U so n sc,ov] #[J K c,J K d] 31 25;have B:=D h0;have x4:=X.cell 4;obtain⟨y0,y1⟩:=Y.cs2;simp only [Q,L,O] at x4;have BR:=D (lZ (so,n,sc) l m (c,d) _ (hs.on h0) (hu.mono fun _ _ q=>q.on h0) hr hl);obtain⟨q1,q2⟩:=AX (hs.on h0) (hu.mono fun _ _ q=>q.on h0) (c,d);have Q1:=D q1;have Q2:=D q2;have HP:=D (hp.on h0);have OK:=D (fun e he=>hok e (AY m (c,d) e he));have CB:=D (AQ hr (c,d) p');generalize p'.length=pn at *;generalize dJ m (c,d) p'=r at *;generalize cutV (so,n,sc) (fJ m (c,d)) (jv m (c,d)).length=z at *;obtain⟨z1,z2,z3⟩:=z;clear h0 X Y hs hu hr hl hp hok q1 q2;go_enter Try.func9,Try.ntmps9;go_wp2_with fail;generalize (w.alloc (.cells #[J K me,nv,av,sv,U so n sc,ov] 31)).alloc (.cells #[J K c,J K d] 25)=W at *;refine BR.out.mono ?_;rintro e1 w1 ⟨rfl,hb⟩;have HB:=D hb;have CV:=D (mZ (z1,z2,z3) (U pa pn pc) _ (jv m (c,d)) p' w1 (Q1.out.on hb) (Q2.out.mono fun _ _ q=>q.on hb) (HP.out.on hb) OK.out hop);clear x4 y0 y1 hb BR;go_wp2_with fail;refine CV.out.mono ?_;rintro e2 w2 ⟨rfl,hb2⟩;go_wp2;go_ret;exact⟨by rw [<- CB.out]; rfl,B.out.trans ((HB.out.trans (hb2.mono HB.out.size)).mono B.out.size)⟩
def kU (m:List En) (t s:eu):Option En:=match m[dN (m.map dI) (t,s)]? with
 | none=>none
 | some e=>if dI e=(t,s) then some e else none
def Td (w:World) (o:Option En) (e:Ending) (w':World):Prop:=(match o with
 | none=>e=.returned (.tuple #[kX (0,0,0,0,(none,0,0),0,false),ah false])
 | some a=>∃ r:gM,e=.returned (.tuple #[kX r,ah true])/\iC w' r a)/\Below w.heap.size w w'
theorem jN {m:List En} {t s:eu} (h:gy m t s=true):∃ e,m[dN (m.map dI) (t,s)]?=some e/\dI e=(t,s)/\kU m t s=some e:=by
 unfold gy at h;cases hm:m[dN (m.map dI) (t,s)]? with
 | none=>rw [hm] at h; cases h
 | some e =>
  rw [hm] at h;have hk:=of_decide_eq_true h;exact⟨e,rfl,hk,by unfold kU; rw [hm]; simp only; rw [if_pos hk]⟩
theorem tq {m:List En} {t s:eu} (h:gy m t s=false):kU m t s=none:=by
 unfold gy at h;unfold kU;cases hm:m[dN (m.map dI) (t,s)]? with
 | none=>rfl
 | some e =>
  rw [hm] at h;simp only;rw [if_neg (of_decide_eq_false h)]
theorem qQ (me:Int) (nv av sv ov:Value) (ev:Sl) (l:List gM) (m:List En) (t s:eu) (w:World) (hs:jR w (dR ev) l) (hu:eF (iC w) l m) (hr:fC m) (hl:l.length<=1000) (hf:∀ e∈m,e.p.length<=900) :
  Calls Try.prog 12 #[.agg #[J K me,nv,av,sv,dR ev,ov],pG t,pG s] w (Td w (kU m t s)):=by
 obtain⟨so,n,sc⟩:=ev;obtain⟨c,d⟩:=t;obtain⟨g,h⟩:=s;obtain⟨h0,X,Y,Z,V⟩:=yg w #[J K me,nv,av,sv,U so n sc,ov] #[J K c,J K d] #[J K g,J K h] #[J K 0,J K 0,J K 0,J K 0,U none 0 0,J K 0,ah false] 31 25 25 43;have B:=D h0;have x4:=X.cell 4;obtain⟨y0,y1⟩:=Y.cs2;obtain⟨z0,z1⟩:=Z.cs2;simp only [Q,L,O] at x4;have HS:=D (hs.on h0);have HU:=D (hu.mono fun _ _ q=>q.on h0);have PL:=D (qP (so,n,sc) l m (c,d) (g,h) _ HS.out HU.out hr hl);have X1:=D X;have V1:=D V;have HF:=D hf;have hn:=gX hs;have HN:=D hn;obtain⟨th,hth⟩:∃ k,gy m (c,d) (g,h)=k:=⟨_,rfl⟩;rw [hth] at PL;obtain⟨k,hk⟩:∃ k,dN (m.map dI) ((c,d),(g,h))=k:=⟨_,rfl⟩;rw [hk] at PL;have HK:=D hk;obtain⟨fo,hfo⟩:∃ o,kU m (c,d) (g,h)=o:=⟨_,rfl⟩;rw [hfo];have FO:=D hfo;have SV:=D V.lt;clear h0 X Y Z V hs hu hr hl hf hn hk hfo;go_enter Try.func12,Try.ntmps12;go_wp2_with fail;generalize (((w.alloc (.cells #[J K me,nv,av,sv,U so n sc,ov] 31)).alloc (.cells #[J K c,J K d] 25)).alloc (.cells #[J K g,J K h] 25)).alloc (.cells #[J K 0,J K 0,J K 0,J K 0,U none 0 0,J K 0,ah false] 43)=W at *;refine PL.out.mono ?_;rintro e1 w1 ⟨rfl,hb⟩;have HB:=D hb;have X2:=D (X1.out.on hb);have V2:=V1.out.on hb;have BB:=D (B.out.trans (hb.mono B.out.size));clear x4 y0 y1 z0 z1 PL hb;have x4:=X2.out.cell 4;simp only [Q,L,O] at x4;cases th
 ·have FN:=D (show fo=none by rw [<- FO.out]; exact tq hth);obtain⟨v0,v1,v2,v3,v4,v5,v6⟩:=V2.qo;obtain⟨f0,f1,f2,f3,f4,f5,f6⟩:=V2.LC;have zz:=V2.lt;have FB:=D (mW V2 (J K 0) (J K 0) (J K 0) (J K 0) (U none 0 0) (J K 0) (ah false));have BL:=D (jT (b:=w.heap.size+1+1+1) BB.out (by omega) (J K 0) (J K 0) (J K 0) (J K 0) (U none 0 0) (J K 0) (ah false));clear V2 hth;go_wp2_with fail;clear v0 v1 v2 v3 v4 v5 v6;obtain⟨v0,v1,v2,v3,v4,v5,v6⟩:=FB.out.qo;refine bodyPost_ret (v:=.tuple #[.agg #[J K 0,J K 0,J K 0,J K 0,U none 0 0,J K 0,ah false],ah false]) (by simp [results,Try.results12,go_sem,v0,v1,v2,v3,v4,v5,v6]) rfl ?_;rw [FN.out];exact⟨rfl,BL.out⟩
 ·obtain⟨e,he,hke,hfe⟩:=jN hth;have FE:=D (show fo=some e by rw [<- FO.out]; exact hfe);rw [HK.out] at he;have hkm:=(List.getElem?_eq_some_iff.1 he).1;have hkn:k<n:=by rw [<- HN.out,HU.out.len]; exact hkm
  obtain⟨y,hy,hx⟩:=HU.out.at k e he;obtain⟨p,ix,px⟩:=Iw HS.out rfl HN.out hy;obtain⟨p0,p1,p2,p3,p4,p5,p6⟩:=px w1 HB.out;obtain⟨y1,y2,y3,y4,⟨yo,yn,yc⟩,y6,y7⟩:=y;simp only at p0 p1 p2 p3 p4 p5 p6;have CP:=D (pR (y1,y2,y3,y4,(yo,yn,yc),y6,y7) e.p w1 (hx.2.2.2.2.on HB.out) (HF.out e (List.mem_of_getElem? he)));have HX:=D hx;have V3:=D V2;clear px hy hx he hke hfe hth V2 hkm;go_wp2_with fail;refine CP.out.mono ?_;rintro e2 w2 ⟨⟨⟨u1,u2,u3⟩,rfl,ho⟩,hb⟩;have Y1:=V3.out.on hb;have SZ:=D (show w.heap.size+1+1+1<w1.heap.size from V3.out.lt);have B2:=D (BB.out.trans (hb.mono BB.out.size));clear CP hb p0 p1 p2 p3 p4 p5 p6 ix x4;obtain⟨v0,v1,v2,v3,v4,v5,v6⟩:=Y1.qo;obtain⟨f0,f1,f2,f3,f4,f5,f6⟩:=Y1.LC;have zz:=Y1.lt;have FB:=D (mW Y1 (J K y1) (J K y2) (J K y3) (J K y4) (U u1 u2 u3) (J K y6) (ah y7));have BL:=D (jT (b:=w.heap.size+1+1+1) B2.out (by omega) (J K y1) (J K y2) (J K y3) (J K y4) (U u1 u2 u3) (J K y6) (ah y7));have FW:=D (yj ho (w.heap.size+1+1+1) SZ.out (J K y1) (J K y2) (J K y3) (J K y4) (U u1 u2 u3) (J K y6) (ah y7));clear Y1 ho;go_wp2_with fail;clear v0 v1 v2 v3 v4 v5 v6;obtain⟨v0,v1,v2,v3,v4,v5,v6⟩:=FB.out.qo;refine bodyPost_ret (v:=.tuple #[.agg #[J K y1,J K y2,J K y3,J K y4,U u1 u2 u3,J K y6,ah y7],ah true]) (by simp [results,Try.results12,go_sem,v0,v1,v2,v3,v4,v5,v6]) rfl ?_;rw [FE.out];exact⟨⟨(y1,y2,y3,y4,(u1,u2,u3),y6,y7),rfl,HX.out.1,HX.out.2.1,HX.out.2.2.1,HX.out.2.2.2.1,Row.dM FW.out⟩,BL.out⟩
end Go.Proofs.Ytmklifheakemeaa.Sb
