/-
  The last region of A. Conditions as told.
-/
import Derived.Test.YtkcfgbddlpomgaaGreatDQ020
import Derived.Test.YtkcfgbddlpomgaaGreatDQ019
import Derived.Test.YtkcfgbddlpomgaaGreatDQ021
set_option maxRecDepth 100000
set_option maxHeartbeats 64000000
open _root_.Bool renaming false->aA,true->aU
open _root_.Go renaming cell_regrown->ak,bodyPost_ret->aH,World->aO,Value->aV,below_regrown->aX
open Go.Builtin renaming append_->bD
open Go.Ending renaming returned->bI
open Go.IntKind renaming i64->V
open Go.IntWalk renaming i64_in->bO
open Go.Lib renaming hid->O,compact->aK,compactUpTo->aZ
open Go.Obj renaming cells->ah
open Go.Operand renaming tmp->aR
open Go.Proofs.Tryz renaming prog->aJ,results57->aT,results93->bN
open Go.Proofs.YtkcfgbddlpomgaaGreat.Rg renaming get_put->aL,dw->bF,done->bS,size_put->bZ
open Go.Proofs.YtkcfgbddlpomgaaGreat.Rw renaming wpList_append_run->aM
open Go.Proofs.YtkcfgbddlpomgaaGreat.Rw.Row renaming dx->aQ
open Go.RowKit.Below renaming heap_setCell->Y,refl->aI
open Go.Sort renaming ahead->aY
open Go.Value renaming slice->J,int->U,bool->aj,pointer->au,agg->bf
open _root_.Int renaming toNat_natCast->bG
open _root_.List renaming getElem?_eq_getElem->ay,getElem?_cons_zero->aC,getElem?_cons_succ->aD,getElem?_toArray->aF,length_map->aN,length_append->aS,mem_of_getElem?->aW,getElem?_eq_some_iff->bg,mem_append->bn,mem_singleton->bE,getElem?_map->bH,length_take->bJ,set_cons_succ->bL,setIfInBounds_toArray->bP,replicate->bQ,mem_or_eq_of_mem_set->bR,map_cons->bV,take_of_length_le->bW,length_filter_le->bY,mem_of_mem_take->cu,mem_of_mem_drop->cB,set_cons_zero->cZ,getElem?_take->dh
open _root_.Nat renaming le_trans->aB,le_refl->aG,zero_le->cK,mul_le_mul_right->cO,lt_of_le_of_lt->dn
open _root_.Option renaming none->X,some->Z
open Option.some renaming inj->bK
open _root_.Or renaming inr->aP,inl->bU
namespace Go.Proofs.YtkcfgbddlpomgaaGreat
namespace Bk
open Go.RowKit Rw YtkcfgbddlpomgaaGreat.Nm Pr
noncomputable def Yh:Code:=((Tryz.f57.body.bind (eG 9)).getD .skip)
structure P9 (base:Act) (v0 v2:aV) (p:aV) (W W':aO) (L:Array Bool) (a:Act) (x:aO):Prop where
 df:a.defers=base.defers
 sz:a.tmps.size=base.tmps.size
 kp:∀ j,j≠112->j≠113->j≠114->j≠5->a.tmps[j]?=base.tmps[j]?
 t0:bS L 0->a.tmps[112]?=Z v0
 t1:bS L 1->a.tmps[113]?=Z p
 t2:bS L 2->a.tmps[114]?=Z v2
 t4:bS L 4->a.tmps[5]?=Z v2
 w0:¬ bS L 3->x=W.drew
 w1:bS L 3->x=W'
 c3:bS L 3->bS L 0
theorem wK (Q:Exit->Act->aO->Prop) (W:aO) (b2 b3 b4:Nat) (me:Int) (o1 o2 o3 o4 o5:Option Addr) (n1 c1 n2 c2 n3 c3 n4 c4 n5 c5:Nat) (e0 e1 e2 e3 e4 e5 z0 z1 z2 z3 z4 z5:aV) (up:Bool) (u0 u1 u5 u6 u7 u8 u9 u10 u11 u12 u13 u14 u15 u16 u17 u18 u19 u20 u21 u22 u23 u24 u25 u26 u27 u28 u29 u30 u31 u32 u33 u34 u35 u36 u37 u38 u39 u40 u41 u42 u43 u44 u45 u46 u47 u48 u49 u50 u51 u52 u53 u54 u55 u56 u57 u58 u59 u60 u61 u62 u63 u64 u65 u66 u67 u68 u69 u70 u71 u72 u73 u74 u75 u76 u77 u78 u79 u80 u81 u82 u83 u84 u85 u86 u87 u88 u89 u90 u91 u92 u93 u94 u95 u96 u97 u98 u99 u100 u101 u102 u103 u104 u105 u106 u107 u108 u109 u110 u111 u112 u113 u114:aV)
  (h2:dJ W b2 #[U V me,J o1 n1 c1,J o2 n2 c2,J o3 n3 c3,J o4 n4 c4,J o5 n5 c5] 33) (h3:dJ W b3 #[e0,e1,e2,e3,e4,e5,aj up] 68) (h4:dJ W b4 #[z0,z1,z2,z3,z4,z5] 33) (hne:b3≠b4)
  (hQ:∀ (a:Act) (x:aO),a.defers=[]->a.tmps[4]?=Z (au (Z ⟨b4,0,X⟩))->a.tmps[5]?=Z (aj up)->x=gP W.drew b4 (U V me) (J o1 n1 c1) (J o2 n2 c2) (J o3 n3 c3) (J o4 n4 c4) (J o5 n5 c5)->Q .normal a x) :
  Code.wp aJ Yh Q ⟨(u0::u1::au (Z ⟨b2,0,X⟩)::au (Z ⟨b3,0,X⟩)::au (Z ⟨b4,0,X⟩)::u5::u6::u7::u8::u9::u10::u11::u12::u13::u14::u15::u16::u17::u18::u19::u20::u21::u22::u23::u24::u25::u26::u27::u28::u29::u30::u31::u32::u33::u34::u35::u36::u37::u38::u39::u40::u41::u42::u43::u44::u45::u46::u47::u48::u49::u50::u51::u52::u53::u54::u55::u56::u57::u58::u59::u60::u61::u62::u63::u64::u65::u66::u67::u68::u69::u70::u71::u72::u73::u74::u75::u76::u77::u78::u79::u80::u81::u82::u83::u84::u85::u86::u87::u88::u89::u90::u91::u92::u93::u94::u95::u96::u97::u98::u99::u100::u101::u102::u103::u104::u105::u106::u107::u108::u109::u110::u111::u112::u113::u114::[]).toArray,[]⟩ W:=by
 have HQ:=O hQ;have H2:=O h2.drew;have H3:=O h3.drew;have H4:=O h4.drew;have X3:=O (show dJ (gP W.drew b4 (U V me) (J o1 n1 c1) (J o2 n2 c2) (J o3 n3 c3) (J o4 n4 c4) (J o5 n5 c5)) b3 #[e0,e1,e2,e3,e4,e5,aj up] 68 from (dH W.drew b4 (U V me) (J o1 n1 c1) (J o2 n2 c2) (J o3 n3 c3) (J o4 n4 c4) (J o5 n5 c5) b3 hne).trans h3.drew);clear hQ h2 h3 h4 hne;unfold Yh
 conv=>arg 2; whnf
 obtain⟨base,hbase⟩:∃ b:Act,b=⟨(u0::u1::au (Z ⟨b2,0,X⟩)::au (Z ⟨b3,0,X⟩)::au (Z ⟨b4,0,X⟩)::u5::u6::u7::u8::u9::u10::u11::u12::u13::u14::u15::u16::u17::u18::u19::u20::u21::u22::u23::u24::u25::u26::u27::u28::u29::u30::u31::u32::u33::u34::u35::u36::u37::u38::u39::u40::u41::u42::u43::u44::u45::u46::u47::u48::u49::u50::u51::u52::u53::u54::u55::u56::u57::u58::u59::u60::u61::u62::u63::u64::u65::u66::u67::u68::u69::u70::u71::u72::u73::u74::u75::u76::u77::u78::u79::u80::u81::u82::u83::u84::u85::u86::u87::u88::u89::u90::u91::u92::u93::u94::u95::u96::u97::u98::u99::u100::u101::u102::u103::u104::u105::u106::u107::u108::u109::u110::u111::u112::u113::u114::[]).toArray,[]⟩:=⟨_,rfl⟩;have b2t:base.tmps[2]?=Z (au (Z ⟨b2,0,X⟩)):=by rw [hbase]; rfl
 have b3t:base.tmps[3]?=Z (au (Z ⟨b3,0,X⟩)):=by rw [hbase]; rfl
 have b4t:base.tmps[4]?=Z (au (Z ⟨b4,0,X⟩)):=by rw [hbase]; rfl
 have bsz:base.tmps.size=115:=by rw [hbase]; rfl
 have bdf:base.defers=[]:=by rw [hbase]
 rw [<- hbase];clear hbase;generalize hW':gP W.drew b4 (U V me) (J o1 n1 c1) (J o2 n2 c2) (J o3 n3 c3) (J o4 n4 c4) (J o5 n5 c5)=W' at *;refine Rg.qz (fun L a x=>P9 base (bf #[U V me,J o1 n1 c1,J o2 n2 c2,J o3 n3 c3,J o4 n4 c4,J o5 n5 c5]) (aj up) (au (Z ⟨b3,6,X⟩)) W W' L a x) (by kernel_rfl) (by kernel_rfl) ?_ ?_ ?_
 ·exact⟨rfl,rfl,fun _ _ _ _ _=>rfl,fun h=>absurd h (Rg.gG _ _),fun h=>absurd h (Rg.gG _ _),fun h=>absurd h (Rg.gG _ _),fun h=>absurd h (Rg.gG _ _),fun _=>rfl,fun h=>absurd h (Rg.gG _ _),fun h=>absurd h (Rg.gG _ _)⟩
 ·intro L a x i o hsz I ho hnd nO;have hi:i<5:=(bg.1 ho).1;have hL:L.size=5:=hsz;have AJ:i<L.size:=by omega
  have k2:a.eval (aR 2)=au (Z ⟨b2,0,X⟩):=Rg.dI ((I.kp 2 (by decide) (by decide) (by decide) (by decide)).trans b2t);have k3:a.eval (aR 3)=au (Z ⟨b3,0,X⟩):=Rg.dI ((I.kp 3 (by decide) (by decide) (by decide) (by decide)).trans b3t);have k4:a.eval (aR 4)=au (Z ⟨b4,0,X⟩):=Rg.dI ((I.kp 4 (by decide) (by decide) (by decide) (by decide)).trans b4t);have asz:a.tmps.size=115:=I.sz.trans bsz;have self:∀ (d:Nat) (v:aV),d<115->(a.put (Z d) v).tmps[d]?=Z v:=fun d v hd=>by
   have:d<a.tmps.size:=by omega
   simp [Act.put,this]
  have ds:=fun j=>Rg.gU AJ j;rcases (by omega:i=0\/i=1\/i=2\/i=3\/i=4) with rfl|rfl|rfl|rfl|rfl
  ·cases ho;have hx:x=W.drew:=I.w0 fun h=>hnd (I.c3 h);exact bF rfl rfl (Rg.dY a.eval _ 33 (aR 2) rfl (by rw [k2,hx]; exact wm H2.out)) ⟨I.df,(bZ a _ _).trans I.sz,fun j j1 j2 j3 j4=>(aL _ _ _ j (by omega)).trans (I.kp j j1 j2 j3 j4),fun _=>self 112 _ (by decide),fun h=>(aL _ _ _ 113 (by decide)).trans (I.t1 (((ds 1).1 h).resolve_left (by decide))),fun h=>(aL _ _ _ 114 (by decide)).trans (I.t2 (((ds 2).1 h).resolve_left (by decide))),fun h=>(aL _ _ _ 5 (by decide)).trans (I.t4 (((ds 4).1 h).resolve_left (by decide))),fun h=>I.w0 fun h3=>h ((ds 3).2 (aP h3)),fun h=>I.w1 (((ds 3).1 h).resolve_left (by decide)),fun h=>(ds 0).2 (bU rfl)⟩
  ·cases ho;exact bF rfl rfl (Rg.dP a.eval _ 68 (aR 3) 4 rfl (by rw [k3]; simp [go_sem])) ⟨I.df,(bZ a _ _).trans I.sz,fun j j1 j2 j3 j4=>(aL _ _ _ j (by omega)).trans (I.kp j j1 j2 j3 j4),fun h=>(aL _ _ _ 112 (by decide)).trans (I.t0 (((ds 0).1 h).resolve_left (by decide))),fun _=>self 113 _ (by decide),fun h=>(aL _ _ _ 114 (by decide)).trans (I.t2 (((ds 2).1 h).resolve_left (by decide))),fun h=>(aL _ _ _ 5 (by decide)).trans (I.t4 (((ds 4).1 h).resolve_left (by decide))),fun h=>I.w0 fun h3=>h ((ds 3).2 (aP h3)),fun h=>I.w1 (((ds 3).1 h).resolve_left (by decide)),fun h=>(ds 0).2 (aP (I.c3 (((ds 3).1 h).resolve_left (by decide))))⟩
  ·cases ho;have k113:a.eval (aR 113)=au (Z ⟨b3,6,X⟩):=Rg.dI (I.t1 (nO ⟨1,.data⟩ (by simp) rfl));have hc:x.cell? ⟨b3,6,X⟩=Z (aj up):=by
    by_cases h3:bS L 3
    ·rw [I.w1 h3]; exact X3.out.cell 6
    ·rw [I.w0 h3]; exact H3.out.cell 6
   exact bF rfl rfl (Rg.dY a.eval _ 4 (aR 113) rfl (by rw [k113]; simp [go_sem,hc])) ⟨I.df,(bZ a _ _).trans I.sz,fun j j1 j2 j3 j4=>(aL _ _ _ j (by omega)).trans (I.kp j j1 j2 j3 j4),fun h=>(aL _ _ _ 112 (by decide)).trans (I.t0 (((ds 0).1 h).resolve_left (by decide))),fun h=>(aL _ _ _ 113 (by decide)).trans (I.t1 (((ds 1).1 h).resolve_left (by decide))),fun _=>self 114 _ (by decide),fun h=>(aL _ _ _ 5 (by decide)).trans (I.t4 (((ds 4).1 h).resolve_left (by decide))),fun h=>I.w0 fun h3=>h ((ds 3).2 (aP h3)),fun h=>I.w1 (((ds 3).1 h).resolve_left (by decide)),fun h=>(ds 0).2 (aP (I.c3 (((ds 3).1 h).resolve_left (by decide))))⟩
  ·cases ho;have hx:x=W.drew:=I.w0 hnd;refine Rg.fM 33 (aR 4) (aR 112) rfl rfl rfl rfl k4 (Rg.dI (I.t0 (nO ⟨0,.data⟩ (by simp) rfl))) (w':=W') (by rw [hx,<- hW']; exact sI H4.out me _ _ _ _ _ _ _ _ _ _ _ _ _ _ _) ?_;exact⟨I.df,I.sz,I.kp,fun h=>I.t0 (((ds 0).1 h).resolve_left (by decide)),fun h=>I.t1 (((ds 1).1 h).resolve_left (by decide)),fun h=>I.t2 (((ds 2).1 h).resolve_left (by decide)),fun h=>I.t4 (((ds 4).1 h).resolve_left (by decide)),fun h=>absurd ((ds 3).2 (bU rfl)) h,fun _=>rfl,fun _=>(ds 0).2 (aP (nO ⟨0,.data⟩ (by simp) rfl))⟩
  ·cases ho;have k114:a.eval (aR 114)=aj up:=Rg.dI (I.t2 (nO ⟨2,.data⟩ (by simp) rfl));exact bF rfl rfl (Rg.kU a.eval _ (aR 114) rfl x) (by rw [k114]; exact⟨I.df,(bZ a _ _).trans I.sz,fun j j1 j2 j3 j4=>(aL _ _ _ j (by omega)).trans (I.kp j j1 j2 j3 j4),fun h=>(aL _ _ _ 112 (by decide)).trans (I.t0 (((ds 0).1 h).resolve_left (by decide))),fun h=>(aL _ _ _ 113 (by decide)).trans (I.t1 (((ds 1).1 h).resolve_left (by decide))),fun h=>(aL _ _ _ 114 (by decide)).trans (I.t2 (((ds 2).1 h).resolve_left (by decide))),fun _=>self 5 _ (by decide),fun h=>I.w0 fun h3=>h ((ds 3).2 (aP h3)),fun h=>I.w1 (((ds 3).1 h).resolve_left (by decide)),fun h=>(ds 0).2 (aP (I.c3 (((ds 3).1 h).resolve_left (by decide))))⟩)
 ·intro L a x I hd;exact HQ.out a x (I.df.trans bdf) ((I.kp 4 (by decide) (by decide) (by decide) (by decide)).trans b4t) (I.t4 (hd 4 (by decide))) ((I.w1 (hd 3 (by decide))))
end Bk
namespace Bk
open Go.RowKit Go.Sort Rw YtkcfgbddlpomgaaGreat.Nm Pr
abbrev fB (e:En):Id×Id:=(e.tree,e.sub)
theorem keys_eq {W:aO} {l:List iA} {m:List En} (h:eB (iW W) l m):l.map iI=m.map fB:=by
 induction h with
 | nil=>rfl
 | cons x t ih=>rw [bV,bV,ih,show iI _=fB _ from Prod.ext x.1 x.2.1]
def gQ (b:Br) (e:En):Br×Bool:=match b.dO[(fG (b.dO.map Ad.id) e.tree).toNat]? with
 | none=>(b,aA)
 | some a=>if fG (b.dO.map Ad.id) e.tree=-1 then (b,aA) else if iL (b.ent.map fB) (fB e)≠-1 then (b,aA) else if e.from_≠-1/\e.from_=a.par then (b,aA) else
  ({ b with ent:=fP b.ent (eP (b.ent.map fB) (fB e)) { e with up:=decide (a.par≠-1) && !eX b.ent e.tree e.p } },decide (a.par≠-1) && !eX b.ent e.tree e.p)
theorem nJ (l:List (Id×Id)) (x:Id×Id):eP l x<=l.length:=by
 unfold eP;exact (List.takeWhile_sublist _).length_le
theorem lY {W:aO} {b:Nat} {c d g h f:Int} {p:Sl} {u:Bool} (hb:dJ W b #[U V c,U V d,U V g,U V h,dR p,U V f,aj u] 68):∀ x,Below W.heap.size W x->∀ j v,(iG (c,d,g,h,p,f,u))[j]?=Z v->x.cell? ((⟨b,0,X⟩:Addr).add j)=Z v:=by
 intro x hx j v hj;rw [nu,(hb.on hx).cell]
 match j with
 | 0=>exact hj
 | 1=>exact hj
 | 2=>exact hj
 | 3=>exact hj
 | 4=>exact hj
 | 5=>exact hj
 | 6=>exact hj
 | j+7=>simp at hj
theorem sK (b:Br) (nv av sv ev ov:Sl) (z:iA) (e:En) (w:aO) (es:List iA) (R:iA->En->Prop) (h_:gZ w b nv av sv ev ov) (he1:jZ w (dR ev) es) (he2:eB (iW w) es b.ent) (hr2:eB R es b.ent) (hrz:∀ u,R (z.1,z.2.1,z.2.2.1,z.2.2.2.1,z.2.2.2.2.1,z.2.2.2.2.2.1,u) { e with up:=u }) (hz:iW w z e) (l2:b.dO.length<=900) (l3:b.ent.length<=900) (hok:∀ e∈b.ent,dW e.p) (hop:dW e.p) :
  Calls aJ 57 #[ny b.me nv av sv ev ov,qR z] w fun e' w'=>(∃ (ev':Sl) (xs:List iA),e'=bI (.tuple #[ny b.me nv av sv ev' ov,aj (gQ b e).2])/\((ev'=ev/\xs=es/\(gQ b e).1=b)\/jg w' w.heap.size (dR ev') xs)/\eB R xs (gQ b e).1.ent)/\Below w.heap.size w w':=by
 obtain⟨no,nn,nc⟩:=nv;obtain⟨ao,an,ac⟩:=av;obtain⟨so,sn,sc⟩:=sv;obtain⟨eo,en,ec⟩:=ev;obtain⟨oo,dU,oc⟩:=ov;obtain⟨c,d,g,h,⟨po,pn,pc⟩,fr,Yi⟩:=z;obtain⟨⟨tc,td⟩,⟨sg,sh⟩,p',fr',up'⟩:=e;obtain⟨hz1,hz2,hz3,hz4,hz5⟩:=hz;obtain⟨rfl,rfl⟩:c=tc/\d=td:=by simpa using hz1
 obtain⟨rfl,rfl⟩:g=sg/\h=sh:=by simpa using hz2
 obtain rfl:fr=fr':=hz3;obtain rfl:Yi=up':=hz4;have HP:=O hz5;have HR2:=O hr2;have HRZ:=O hrz;clear hr2 hrz;obtain⟨xs,hx1,hx2⟩:=h_.dO;have IDS:=O (yI hx2);have VU:=O (keys_eq he2);have XL:=O (show xs.length<=900 by rw [hx2.len]; exact l2);have EL:=O (show es.length<=900 by rw [he2.len]; exact l3);have HA2:=O hx2;have HE2:=O he2;have OK:=O hok;have OP:=O hop;obtain⟨q1,q2,hq⟩:=hx1.len;obtain⟨rfl,rfl,rfl⟩:ao=q1/\an=xs.length/\ac=q2:=by
  have:J ao an ac=J q1 xs.length q2:=hq;simpa using this
 clear hq;obtain⟨q1,q2,hq⟩:=he1.len;obtain⟨rfl,rfl,rfl⟩:eo=q1/\en=es.length/\ec=q2:=by
  have:J eo en ec=J q1 es.length q2:=hq;simpa using this
 clear hq;have FD:=sw b.me (J no nn nc) (J eo es.length ec) (J so sn sc) (J oo dU oc) (ao,xs.length,ac) xs (c,d);have EN:=yY b.me (J no nn nc) (J ao xs.length ac) (J so sn sc) (J oo dU oc) (eo,es.length,ec) es (c,d) (g,h);have CV:=fun W hb'=>uQ b.me (J no nn nc) (J ao xs.length ac) (J so sn sc) (J oo dU oc) (eo,es.length,ec) es b.ent (c,d) (J po pn pc) p' W (he1.on (show Below w.heap.size w W from hb')) (he2.mono fun _ _ h=>h.on hb') (hz5.on hb') hok hop;have HH:=O h_;obtain⟨h0,h1,h2,h3⟩:=gN w #[U V b.me,J no nn nc,J ao xs.length ac,J so sn sc,J eo es.length ec,J oo dU oc] #[U V c,U V d,U V g,U V h,J po pn pc,U V fr,aj Yi] #[U V 0,J X 0 0,J X 0 0,J X 0 0,J X 0 0,J X 0 0] 33 68 33;obtain⟨n2,hn2⟩:∃ n,n=xs.length:=⟨_,rfl⟩;obtain⟨n3,Qv⟩:∃ n,n=es.length:=⟨_,rfl⟩;simp only [<- hn2,<- Qv] at h0 h1 h2 h3 hx1 he1 HH FD EN CV ⊢;have B0:=O h0;have X2:=O h1;have X3:=O h2;have X5:=O h3;have HS:=O hx1;have HE:=O he1;have N2:=O hn2;have N3:=O Qv;obtain⟨me,hme⟩:∃ me,me=b.me:=⟨_,rfl⟩;simp only [<- hme] at X2 B0 X3 X5 FD EN CV ⊢;have EN:=O EN;have CV:=O CV;clear h0 h1 h2 h3 hx1 he1 hx2 he2 h_ hn2 Qv l2 l3 hme hz1 hz2 hz5 hok hop;show Calls aJ 57 #[bf #[U V me,J no nn nc,J ao n2 ac,J so sn sc,J eo n3 ec,J oo dU oc],bf #[U V c,U V d,U V g,U V h,J po pn pc,U V fr,aj Yi]] w _;go_enter Tryz.func57,Tryz.ntmps57;go_upto_region 1 with fail;generalize (((w.alloc (ah #[U V me,J no nn nc,J ao n2 ac,J so sn sc,J eo n3 ec,J oo dU oc] 33)).alloc (ah #[U V c,U V d,U V g,U V h,J po pn pc,U V fr,aj Yi] 68)).alloc (ah #[U V 0,J X 0 0,J X 0 0,J X 0 0,J X 0 0,J X 0 0] 33))=W at *;have SW:=O (FD W (HS.out.on B0.out));clear FD;have x_:=X2.out;have y_:=X3.out;obtain⟨x0,x1,x2,x3,x4,x5⟩:=x_.fA;obtain⟨y0,y1,y2,y3,y4,y5,y6⟩:=y_.mU;clear x_ y_;go_wp2_with fail;refine SW.out.mono ?_;rintro e1 w1 ⟨rfl,hb⟩;have B1:=O (B0.out.trans (hb.mono B0.out.size));have Y2:=O (X2.out.on hb);have Y3:=O (X3.out.on hb);have Y5:=O (X5.out.on hb);clear SW hb X2 X3 X5 x0 x1 x2 x3 x4 x5 y0 y1 y2 y3 y4 y5 y6;have a0:=ak (show w1.cell? ⟨w.heap.size,0,X⟩=Z (U V me) from Y2.out.cell 0);have a1:=ak (show w1.cell? ⟨w.heap.size,1,X⟩=Z (J no nn nc) from Y2.out.cell 1);have a2:=ak (show w1.cell? ⟨w.heap.size,2,X⟩=Z (J ao n2 ac) from Y2.out.cell 2);have a3:=ak (show w1.cell? ⟨w.heap.size,3,X⟩=Z (J so sn sc) from Y2.out.cell 3);have a4:=ak (show w1.cell? ⟨w.heap.size,4,X⟩=Z (J eo n3 ec) from Y2.out.cell 4);have a5:=ak (show w1.cell? ⟨w.heap.size,5,X⟩=Z (J oo dU oc) from Y2.out.cell 5);have b0:=ak (show w1.cell? ⟨w.heap.size+1,0,X⟩=Z (U V c) from Y3.out.cell 0);have b1:=ak (show w1.cell? ⟨w.heap.size+1,1,X⟩=Z (U V d) from Y3.out.cell 1);have b2:=ak (show w1.cell? ⟨w.heap.size+1,2,X⟩=Z (U V g) from Y3.out.cell 2);have b3:=ak (show w1.cell? ⟨w.heap.size+1,3,X⟩=Z (U V h) from Y3.out.cell 3);have b4:=ak (show w1.cell? ⟨w.heap.size+1,4,X⟩=Z (J po pn pc) from Y3.out.cell 4);have b5:=ak (show w1.cell? ⟨w.heap.size+1,5,X⟩=Z (U V fr) from Y3.out.cell 5);have b6:=ak (show w1.cell? ⟨w.heap.size+1,6,X⟩=Z (aj Yi) from Y3.out.cell 6);have CE:=O (fun d os=>Calls.regrown_of (d:=d) (os:=os) (EN.out _ ((HE.out.on B1.out).on (aX w1 d os))));clear EN;rcases Ku xs (c,d) with hf|⟨k,y,hf,hy⟩
 ·have LB:=O (show gQ b ⟨(c,d),(g,h),p',fr,Yi⟩=(b,aA) by
   have hf':=hf;rw [IDS.out] at hf';unfold gQ;simp only;rw [hf']
   split
   ·rfl
   ·rw [if_pos rfl])
  rw [hf];clear hf;go_upto_region 2 with fail;refine wp_region_quiet_below (by kernel_rfl) (by kernel_rfl) ?_
  repeat (go_big_quiet_step (fail))
  refine wpQuiet_nil ?_;intro _ hw';obtain⟨⟨dq,osq⟩,hw''⟩:=hw';subst hw'';have Z6:=aX w1 dq osq;have B2:=O (B1.out.trans (Z6.mono B1.out.size));have Z2:=O (Y2.out.on Z6);have Z3:=O (Y3.out.on Z6);have Z5:=O (Y5.out.on Z6);clear Z6 B1 Y2 Y3 Y5 a0 a1 a2 a3 a4 a5 b0 b1 b2 b3 b4 b5 b6;generalize grow (redrawn w1 dq) osq=w2 at *;have FB:=O (dK Z5.out (U V me) (J no nn nc) (J ao n2 ac) (J so sn sc) (J eo n3 ec) (J oo dU oc));have BL:=O (dD (b:=w.heap.size+1+1) B2.out (by omega) (U V me) (J no nn nc) (J ao n2 ac) (J so sn sc) (J eo n3 ec) (J oo dU oc));have sW:=Z2.out;have oO:=Z5.out;obtain⟨x0,x1,x2,x3,x4,x5⟩:=sW.fA;obtain⟨r0,r1,r2,r3,r4,r5⟩:=oO.fA;obtain⟨t0,t1,t2,t3,t4,t5⟩:=oO.kg;have zz:=oO.lt;clear sW oO;go_wp2_with fail;obtain⟨v0,v1,v2,v3,v4,v5⟩:=FB.out.fA;refine aH (v:=.tuple #[bf #[U V me,J no nn nc,J ao n2 ac,J so sn sc,J eo n3 ec,J oo dU oc],aj aA]) (by simp [results,aT,go_sem,v0,v1,v2,v3,v4,v5]) rfl ?_;rw [LB.out];exact⟨⟨(eo,n3,ec),es,rfl,bU ⟨rfl,rfl,rfl⟩,HR2.out⟩,BL.out⟩
 ·have HF:=O hf;have HY:=O hy;have hk:=(bg.1 hy).1;have XL2:=XL.out;have hkn:k<n2:=by rw [N2.out]; exact hk
  obtain⟨p,ix,px⟩:=VQ HS.out rfl N2.out.symm hy;obtain⟨z1,z2,⟨zo,zn,zc⟩,par⟩:=y;have PX:=O px;have pr:=ak (show w1.cell? ⟨p.block,p.off+3,X⟩=Z (U V par) from (px w1 B1.out).2.2.2);obtain⟨a,hak⟩:∃ a,b.dO[k]?=Z a:=⟨_,ay (by rw [<- HA2.out.len]; exact hk)⟩;have hap:a.par=par:=by
   obtain⟨z,hz1,hz2⟩:=HA2.out.at k a hak;rw [HY.out] at hz1;obtain rfl:=bK hz1;exact hz2.2.1.symm
  have LA:=O (show ∀ i,iL (es.map iI) ((c,d),(g,h))=i->gQ b ⟨(c,d),(g,h),p',fr,Yi⟩=if i≠-1 then (b,aA) else if fr≠-1/\fr=par then (b,aA) else ({ b with ent:=fP b.ent (eP (b.ent.map fB) ((c,d),(g,h))) ⟨(c,d),(g,h),p',fr,decide (par≠-1) && !eX b.ent (c,d) p'⟩ },decide (par≠-1) && !eX b.ent (c,d) p') from fun i hi=>by
   have hf':=HF.out;rw [IDS.out] at hf';rw [VU.out] at hi;unfold gQ;simp only;rw [hf',bG,hak];simp only;rw [if_neg (by omega),hap,hi])
  have hik:decide ((k:Int)<0)=aA:=decide_eq_false (by omega);rw [hf];clear hf hy px hak hap HF HY;rcases mI (es.map iI) ((c,d),(g,h)) with he|⟨j,he,_⟩
  ·have LC:=LA.out _ he;rw [if_neg (by simp)] at LC;rw [he] at CE;clear LA he;obtain⟨f1,hf1⟩:∃ r,(fr != -1)=r:=⟨_,rfl⟩;obtain⟨f2,hf2⟩:∃ r,(fr == par)=r:=⟨_,rfl⟩;have F1:=O hf1;have F2_:=O hf2;cases f1
   ·have LD:=LC;rw [if_neg (by exact fun q=>q.1 (by simpa using hf1))] at LD;clear LC;go_upto_region 2 with fail;refine wp_region_quiet_below (by kernel_rfl) (by kernel_rfl) ?_
    repeat (go_big_quiet_step (first | (with_reducible exact CE.out _ _)))
    refine wpQuiet_nil ?_;intro _ hw';obtain⟨⟨dq,osq⟩,hw''⟩:=hw';subst hw'';have Z6:=aX w1 dq osq;have B2:=O (B1.out.trans (Z6.mono B1.out.size));have Z2:=O (Y2.out.on Z6);have Z3:=O (Y3.out.on Z6);have Z5:=O (Y5.out.on Z6);clear Z6 B1 Y2 Y3 Y5 a0 a1 a2 a3 a4 a5 b0 b1 b2 b3 b4 b5 b6;generalize grow (redrawn w1 dq) osq=w2 at *;have p3b:=(PX.out w2 B2.out).2.2.2;have x_:=Z2.out;have y_:=Z3.out;obtain⟨x0,x1,x2,x3,x4,x5⟩:=x_.fA;obtain⟨y0,y1,y2,y3,y4,y5,y6⟩:=y_.mU;clear x_ y_;obtain⟨g1,hg1⟩:∃ r,(par != -1)=r:=⟨_,rfl⟩;have GP:=O (show decide (par≠-1)=g1 by rw [<- hg1]; by_cases q:par=-1 <;> simp [q]);rw [GP.out] at LD;cases g1
    ·have LB:=O LD;clear LD CV;have B3:=O B2.out;have F2:=O Z2.out;have F3:=O Z3.out;have F5:=O Z5.out;clear B2 Z2 Z3 Z5;have f3:=F3.out;obtain⟨k0,k1,k2,k3,k4,k5,k6⟩:=f3.mU;have f36:=f3.fr 6;have Rk:=f3.lt;clear f3;go_upto_region 5 with fail;clear k0 k1 k2 k3 k4 k5 k6 f36 Rk;have G3:=O (show dJ _ _ #[U V c,U V d,U V g,U V h,J po pn pc,U V fr,aj aA] _ from by simpa using dN (k:=6) F3.out (aj aA));have G2:=O (show dJ _ _ _ _ from (Y w2 ⟨w.heap.size+1,6,X⟩ (aj aA) _ (show w.heap.size≠w.heap.size+1 by omega)).trans F2.out);have G5:=O (show dJ _ _ _ _ from (Y w2 ⟨w.heap.size+1,6,X⟩ (aj aA) _ (show w.heap.size+1+1≠w.heap.size+1 by omega)).trans F5.out);have B4:=O (B3.out.setCell (p:=⟨w.heap.size+1,6,X⟩) (by show w.heap.size<=w.heap.size+1; omega) (aj aA));clear B3 F2 F3 F5;generalize w2.setCell ⟨w.heap.size+1,6,X⟩ (aj aA)=w4 at *;have R4:=O (HE.out.on B4.out)
     go_upto_block 0 with (fail)
     refine wI _ w4 w.heap.size (w.heap.size+1) me c d g h _ _ _ _ _ _ _ eo n3 ec es _ _ _ _ _ _ _ _ _ _ _ _ _ _ _ _ _ _ _ _ _ _ _ _ _ _ _ _ _ _ _ _ _ _ _ _ _ _ _ _ _ _ _ _ _ _ _ _ _ _ _ _ _ _ _ _ _ _ _ _ _ _ _ _ _ _ _ _ _ _ _ _ _ _ _ _ _ _ _ _ _ _ _ _ _ _ _ _ _ _ _ _ _ _ _ _ _ _ _ _ _ _ _ _ _ _ _ _ _ _ _ _ G2.out G3.out R4.out N3.out (by have:=EL.out; have:=N3.out; omega) ?_;intro wr v57 v58 v59 v60 v61 v62 v63 v64 v65 v66 v67 v68 v69 v70 v71 v72 v73 v74 v75 v76 v77 v78 v79 v80 v81 v82 v83 v84 v85 v86 v87 v88 v89 v90 v91 v92 v93 v94 v95 v96 hb;have B5:=O (B4.out.trans (hb.mono B4.out.size));have K2:=O (G2.out.on hb);have K3:=O (G3.out.on hb);have K5:=O (G5.out.on hb);have R5:=O (R4.out.on hb);clear hb B4 G2 G3 G5 R4;go_upto_region 8 with fail;refine NS _ wr w.heap.size (w.heap.size+1) me _ _ _ _ eo n3 ec (eP (es.map iI) ((c,d),(g,h))) es (c,d,g,h,(po,pn,pc),fr,aA) _ _ _ _ _ _ _ _ _ _ _ _ _ _ _ _ _ _ _ _ _ _ _ _ _ _ _ _ _ _ _ _ _ _ _ _ _ _ _ _ _ _ _ _ _ _ _ _ _ _ _ _ _ _ _ _ _ _ _ _ _ _ _ _ _ _ _ _ _ _ _ _ _ _ _ _ _ _ _ _ _ _ _ _ _ _ _ _ _ _ _ _ _ _ _ _ _ _ _ _ _ _ _ _ _ _ _ _ _ _ _ _ K2.out (lY (p:=(po,pn,pc)) K3.out) R5.out (by have:=nJ (es.map iI) ((c,d),(g,h)); rw [aN] at this; exact this) EL.out ?_;intro xw v97 v98 v99 v100 v101 v102 v103 v104 v105 v106 v107 v108 v109 v110 v111 hbx ho hbl hoth hblk;obtain⟨lW,lX,yJ⟩:=(aQ ho).len;obtain⟨tl,htl⟩:∃ n,n=(es.take (eP (es.map iI) ((c,d),(g,h)))++[(c,d,g,h,(po,pn,pc),fr,aA)]++es.drop (eP (es.map iI) ((c,d),(g,h)))).length:=⟨_,rfl⟩;rw [<- htl] at yJ;subst yJ;have B6:=O (B5.out.trans (hbl _ (aG _)));have M2:=hbx;have M3:=hoth _ _ _ (by omega) K3.out;have M5:=hoth _ _ _ (by omega) K5.out;have OE:=O (dG ho (show w.heap.size+3<=wr.heap.size by have:=K5.out.lt; omega));clear ho hbl hoth hblk htl hbx B5 K2 K3 K5 R5;go_upto_region 9 with fail;refine wK _ xw w.heap.size (w.heap.size+1) (w.heap.size+1+1) me no ao so lW oo nn nc n2 ac sn sc tl lX dU oc _ _ _ _ _ _ _ _ _ _ _ _ aA _ _ _ _ _ _ _ _ _ _ _ _ _ _ _ _ _ _ _ _ _ _ _ _ _ _ _ _ _ _ _ _ _ _ _ _ _ _ _ _ _ _ _ _ _ _ _ _ _ _ _ _ _ _ _ _ _ _ _ _ _ _ _ _ _ _ _ _ _ _ _ _ _ _ _ _ _ _ _ _ _ _ _ _ _ _ _ _ _ _ _ _ _ _ _ _ _ _ _ _ _ _ _ _ _ _ _ _ _ _ _ _ M2 M3 M5 (by omega) ?_;intro a9 x9 Gs h49 h59 Rm;subst Rm;have FB:=O (dK M5.drew (U V me) (J no nn nc) (J ao n2 ac) (J so sn sc) (J lW tl lX) (J oo dU oc));have BL:=O (dD (b:=w.heap.size+1+1) B6.out.drew (by omega) (U V me) (J no nn nc) (J ao n2 ac) (J so sn sc) (J lW tl lX) (J oo dU oc));have FE:=O (eY (dB OE.out ((aI xw.heap.size xw).drew)) (w.heap.size+1+1) (by omega) (U V me) (J no nn nc) (J ao n2 ac) (J so sn sc) (J lW tl lX) (J oo dU oc));clear OE M2 M3 M5 B6;simp only [Exit.then]
     apply_assumption
     go_wp2_with fail;obtain⟨v0,v1,v2,v3,v4,v5⟩:=FB.out.fA;refine aH (v:=.tuple #[bf #[U V me,J no nn nc,J ao n2 ac,J so sn sc,J lW tl lX,J oo dU oc],aj aA]) (by simp [results,aT,go_sem,h49,h59,v0,v1,v2,v3,v4,v5]) Gs ?_;rw [LB.out];refine⟨⟨(lW,tl,lX),_,rfl,aP (dG FE.out (show w.heap.size<=w.heap.size+3 by omega)),?_⟩,BL.out⟩;rw [<- VU.out];exact ((HR2.out.take _).append (.cons (HRZ.out _) .nil)).append (HR2.out.drop _)
    ·have CW:=O (CV.out w2 B2.out);obtain⟨cv,hcv⟩:∃ r,eX b.ent (c,d) p'=r:=⟨_,rfl⟩;rw [hcv] at CW LD;clear CV hcv;go_wp2_with fail;refine CW.out.mono ?_;rintro e3 w3 ⟨rfl,hb⟩;have B3:=O (B2.out.trans (hb.mono B2.out.size));have F2:=O (Z2.out.on hb);have F3:=O (Z3.out.on hb);have F5:=O (Z5.out.on hb);clear hb CW B2 Z2 Z3 Z5 x0 x1 x2 x3 x4 x5 y0 y1 y2 y3 y4 y5 y6 p3b;cases cv
     ·have LB:=O LD;clear LD;have f3:=F3.out;obtain⟨k0,k1,k2,k3,k4,k5,k6⟩:=f3.mU;have f36:=f3.fr 6;have Rk:=f3.lt;clear f3;go_upto_region 5 with fail;clear k0 k1 k2 k3 k4 k5 k6 f36 Rk;have G3:=O (show dJ _ _ #[U V c,U V d,U V g,U V h,J po pn pc,U V fr,aj aU] _ from by simpa using dN (k:=6) F3.out (aj aU));have G2:=O (show dJ _ _ _ _ from (Y w3 ⟨w.heap.size+1,6,X⟩ (aj aU) _ (show w.heap.size≠w.heap.size+1 by omega)).trans F2.out);have G5:=O (show dJ _ _ _ _ from (Y w3 ⟨w.heap.size+1,6,X⟩ (aj aU) _ (show w.heap.size+1+1≠w.heap.size+1 by omega)).trans F5.out);have B4:=O (B3.out.setCell (p:=⟨w.heap.size+1,6,X⟩) (by show w.heap.size<=w.heap.size+1; omega) (aj aU));clear B3 F2 F3 F5;generalize w3.setCell ⟨w.heap.size+1,6,X⟩ (aj aU)=w4 at *;have R4:=O (HE.out.on B4.out)
      go_upto_block 0 with (fail)
      refine wI _ w4 w.heap.size (w.heap.size+1) me c d g h _ _ _ _ _ _ _ eo n3 ec es _ _ _ _ _ _ _ _ _ _ _ _ _ _ _ _ _ _ _ _ _ _ _ _ _ _ _ _ _ _ _ _ _ _ _ _ _ _ _ _ _ _ _ _ _ _ _ _ _ _ _ _ _ _ _ _ _ _ _ _ _ _ _ _ _ _ _ _ _ _ _ _ _ _ _ _ _ _ _ _ _ _ _ _ _ _ _ _ _ _ _ _ _ _ _ _ _ _ _ _ _ _ _ _ _ _ _ _ _ _ _ _ G2.out G3.out R4.out N3.out (by have:=EL.out; have:=N3.out; omega) ?_;intro wr v57 v58 v59 v60 v61 v62 v63 v64 v65 v66 v67 v68 v69 v70 v71 v72 v73 v74 v75 v76 v77 v78 v79 v80 v81 v82 v83 v84 v85 v86 v87 v88 v89 v90 v91 v92 v93 v94 v95 v96 hb;have B5:=O (B4.out.trans (hb.mono B4.out.size));have K2:=O (G2.out.on hb);have K3:=O (G3.out.on hb);have K5:=O (G5.out.on hb);have R5:=O (R4.out.on hb);clear hb B4 G2 G3 G5 R4;go_upto_region 8 with fail;refine NS _ wr w.heap.size (w.heap.size+1) me _ _ _ _ eo n3 ec (eP (es.map iI) ((c,d),(g,h))) es (c,d,g,h,(po,pn,pc),fr,aU) _ _ _ _ _ _ _ _ _ _ _ _ _ _ _ _ _ _ _ _ _ _ _ _ _ _ _ _ _ _ _ _ _ _ _ _ _ _ _ _ _ _ _ _ _ _ _ _ _ _ _ _ _ _ _ _ _ _ _ _ _ _ _ _ _ _ _ _ _ _ _ _ _ _ _ _ _ _ _ _ _ _ _ _ _ _ _ _ _ _ _ _ _ _ _ _ _ _ _ _ _ _ _ _ _ _ _ _ _ _ _ _ K2.out (lY (p:=(po,pn,pc)) K3.out) R5.out (by have:=nJ (es.map iI) ((c,d),(g,h)); rw [aN] at this; exact this) EL.out ?_;intro xw v97 v98 v99 v100 v101 v102 v103 v104 v105 v106 v107 v108 v109 v110 v111 hbx ho hbl hoth hblk;obtain⟨lW,lX,yJ⟩:=(aQ ho).len;obtain⟨tl,htl⟩:∃ n,n=(es.take (eP (es.map iI) ((c,d),(g,h)))++[(c,d,g,h,(po,pn,pc),fr,aU)]++es.drop (eP (es.map iI) ((c,d),(g,h)))).length:=⟨_,rfl⟩;rw [<- htl] at yJ;subst yJ;have B6:=O (B5.out.trans (hbl _ (aG _)));have M2:=hbx;have M3:=hoth _ _ _ (by omega) K3.out;have M5:=hoth _ _ _ (by omega) K5.out;have OE:=O (dG ho (show w.heap.size+3<=wr.heap.size by have:=K5.out.lt; omega));clear ho hbl hoth hblk htl hbx B5 K2 K3 K5 R5;go_upto_region 9 with fail;refine wK _ xw w.heap.size (w.heap.size+1) (w.heap.size+1+1) me no ao so lW oo nn nc n2 ac sn sc tl lX dU oc _ _ _ _ _ _ _ _ _ _ _ _ aU _ _ _ _ _ _ _ _ _ _ _ _ _ _ _ _ _ _ _ _ _ _ _ _ _ _ _ _ _ _ _ _ _ _ _ _ _ _ _ _ _ _ _ _ _ _ _ _ _ _ _ _ _ _ _ _ _ _ _ _ _ _ _ _ _ _ _ _ _ _ _ _ _ _ _ _ _ _ _ _ _ _ _ _ _ _ _ _ _ _ _ _ _ _ _ _ _ _ _ _ _ _ _ _ _ _ _ _ _ _ _ _ M2 M3 M5 (by omega) ?_;intro a9 x9 Gs h49 h59 Rm;subst Rm;have FB:=O (dK M5.drew (U V me) (J no nn nc) (J ao n2 ac) (J so sn sc) (J lW tl lX) (J oo dU oc));have BL:=O (dD (b:=w.heap.size+1+1) B6.out.drew (by omega) (U V me) (J no nn nc) (J ao n2 ac) (J so sn sc) (J lW tl lX) (J oo dU oc));have FE:=O (eY (dB OE.out ((aI xw.heap.size xw).drew)) (w.heap.size+1+1) (by omega) (U V me) (J no nn nc) (J ao n2 ac) (J so sn sc) (J lW tl lX) (J oo dU oc));clear OE M2 M3 M5 B6;simp only [Exit.then]
      apply_assumption
      go_wp2_with fail;obtain⟨v0,v1,v2,v3,v4,v5⟩:=FB.out.fA;refine aH (v:=.tuple #[bf #[U V me,J no nn nc,J ao n2 ac,J so sn sc,J lW tl lX,J oo dU oc],aj aU]) (by simp [results,aT,go_sem,h49,h59,v0,v1,v2,v3,v4,v5]) Gs ?_;rw [LB.out];refine⟨⟨(lW,tl,lX),_,rfl,aP (dG FE.out (show w.heap.size<=w.heap.size+3 by omega)),?_⟩,BL.out⟩;rw [<- VU.out];exact ((HR2.out.take _).append (.cons (HRZ.out _) .nil)).append (HR2.out.drop _)
     ·have LB:=O LD;clear LD;have f3:=F3.out;obtain⟨k0,k1,k2,k3,k4,k5,k6⟩:=f3.mU;have f36:=f3.fr 6;have Rk:=f3.lt;clear f3;go_upto_region 5 with fail;clear k0 k1 k2 k3 k4 k5 k6 f36 Rk;have G3:=O (show dJ _ _ #[U V c,U V d,U V g,U V h,J po pn pc,U V fr,aj aA] _ from by simpa using dN (k:=6) F3.out (aj aA));have G2:=O (show dJ _ _ _ _ from (Y w3 ⟨w.heap.size+1,6,X⟩ (aj aA) _ (show w.heap.size≠w.heap.size+1 by omega)).trans F2.out);have G5:=O (show dJ _ _ _ _ from (Y w3 ⟨w.heap.size+1,6,X⟩ (aj aA) _ (show w.heap.size+1+1≠w.heap.size+1 by omega)).trans F5.out);have B4:=O (B3.out.setCell (p:=⟨w.heap.size+1,6,X⟩) (by show w.heap.size<=w.heap.size+1; omega) (aj aA));clear B3 F2 F3 F5;generalize w3.setCell ⟨w.heap.size+1,6,X⟩ (aj aA)=w4 at *;have R4:=O (HE.out.on B4.out)
      go_upto_block 0 with (fail)
      refine wI _ w4 w.heap.size (w.heap.size+1) me c d g h _ _ _ _ _ _ _ eo n3 ec es _ _ _ _ _ _ _ _ _ _ _ _ _ _ _ _ _ _ _ _ _ _ _ _ _ _ _ _ _ _ _ _ _ _ _ _ _ _ _ _ _ _ _ _ _ _ _ _ _ _ _ _ _ _ _ _ _ _ _ _ _ _ _ _ _ _ _ _ _ _ _ _ _ _ _ _ _ _ _ _ _ _ _ _ _ _ _ _ _ _ _ _ _ _ _ _ _ _ _ _ _ _ _ _ _ _ _ _ _ _ _ _ G2.out G3.out R4.out N3.out (by have:=EL.out; have:=N3.out; omega) ?_;intro wr v57 v58 v59 v60 v61 v62 v63 v64 v65 v66 v67 v68 v69 v70 v71 v72 v73 v74 v75 v76 v77 v78 v79 v80 v81 v82 v83 v84 v85 v86 v87 v88 v89 v90 v91 v92 v93 v94 v95 v96 hb;have B5:=O (B4.out.trans (hb.mono B4.out.size));have K2:=O (G2.out.on hb);have K3:=O (G3.out.on hb);have K5:=O (G5.out.on hb);have R5:=O (R4.out.on hb);clear hb B4 G2 G3 G5 R4;go_upto_region 8 with fail;refine NS _ wr w.heap.size (w.heap.size+1) me _ _ _ _ eo n3 ec (eP (es.map iI) ((c,d),(g,h))) es (c,d,g,h,(po,pn,pc),fr,aA) _ _ _ _ _ _ _ _ _ _ _ _ _ _ _ _ _ _ _ _ _ _ _ _ _ _ _ _ _ _ _ _ _ _ _ _ _ _ _ _ _ _ _ _ _ _ _ _ _ _ _ _ _ _ _ _ _ _ _ _ _ _ _ _ _ _ _ _ _ _ _ _ _ _ _ _ _ _ _ _ _ _ _ _ _ _ _ _ _ _ _ _ _ _ _ _ _ _ _ _ _ _ _ _ _ _ _ _ _ _ _ _ K2.out (lY (p:=(po,pn,pc)) K3.out) R5.out (by have:=nJ (es.map iI) ((c,d),(g,h)); rw [aN] at this; exact this) EL.out ?_;intro xw v97 v98 v99 v100 v101 v102 v103 v104 v105 v106 v107 v108 v109 v110 v111 hbx ho hbl hoth hblk;obtain⟨lW,lX,yJ⟩:=(aQ ho).len;obtain⟨tl,htl⟩:∃ n,n=(es.take (eP (es.map iI) ((c,d),(g,h)))++[(c,d,g,h,(po,pn,pc),fr,aA)]++es.drop (eP (es.map iI) ((c,d),(g,h)))).length:=⟨_,rfl⟩;rw [<- htl] at yJ;subst yJ;have B6:=O (B5.out.trans (hbl _ (aG _)));have M2:=hbx;have M3:=hoth _ _ _ (by omega) K3.out;have M5:=hoth _ _ _ (by omega) K5.out;have OE:=O (dG ho (show w.heap.size+3<=wr.heap.size by have:=K5.out.lt; omega));clear ho hbl hoth hblk htl hbx B5 K2 K3 K5 R5;go_upto_region 9 with fail;refine wK _ xw w.heap.size (w.heap.size+1) (w.heap.size+1+1) me no ao so lW oo nn nc n2 ac sn sc tl lX dU oc _ _ _ _ _ _ _ _ _ _ _ _ aA _ _ _ _ _ _ _ _ _ _ _ _ _ _ _ _ _ _ _ _ _ _ _ _ _ _ _ _ _ _ _ _ _ _ _ _ _ _ _ _ _ _ _ _ _ _ _ _ _ _ _ _ _ _ _ _ _ _ _ _ _ _ _ _ _ _ _ _ _ _ _ _ _ _ _ _ _ _ _ _ _ _ _ _ _ _ _ _ _ _ _ _ _ _ _ _ _ _ _ _ _ _ _ _ _ _ _ _ _ _ _ _ M2 M3 M5 (by omega) ?_;intro a9 x9 Gs h49 h59 Rm;subst Rm;have FB:=O (dK M5.drew (U V me) (J no nn nc) (J ao n2 ac) (J so sn sc) (J lW tl lX) (J oo dU oc));have BL:=O (dD (b:=w.heap.size+1+1) B6.out.drew (by omega) (U V me) (J no nn nc) (J ao n2 ac) (J so sn sc) (J lW tl lX) (J oo dU oc));have FE:=O (eY (dB OE.out ((aI xw.heap.size xw).drew)) (w.heap.size+1+1) (by omega) (U V me) (J no nn nc) (J ao n2 ac) (J so sn sc) (J lW tl lX) (J oo dU oc));clear OE M2 M3 M5 B6;simp only [Exit.then]
      apply_assumption
      go_wp2_with fail;obtain⟨v0,v1,v2,v3,v4,v5⟩:=FB.out.fA;refine aH (v:=.tuple #[bf #[U V me,J no nn nc,J ao n2 ac,J so sn sc,J lW tl lX,J oo dU oc],aj aA]) (by simp [results,aT,go_sem,h49,h59,v0,v1,v2,v3,v4,v5]) Gs ?_;rw [LB.out];refine⟨⟨(lW,tl,lX),_,rfl,aP (dG FE.out (show w.heap.size<=w.heap.size+3 by omega)),?_⟩,BL.out⟩;rw [<- VU.out];exact ((HR2.out.take _).append (.cons (HRZ.out _) .nil)).append (HR2.out.drop _)
   ·cases f2
    ·have LD:=LC;rw [if_neg (by intro q; simp [q.2] at hf2)] at LD;clear LC;go_upto_region 2 with fail;refine wp_region_quiet_below (by kernel_rfl) (by kernel_rfl) ?_
     repeat (go_big_quiet_step (first | (with_reducible exact CE.out _ _)))
     refine wpQuiet_nil ?_;intro _ hw';obtain⟨⟨dq,osq⟩,hw''⟩:=hw';subst hw'';have Z6:=aX w1 dq osq;have B2:=O (B1.out.trans (Z6.mono B1.out.size));have Z2:=O (Y2.out.on Z6);have Z3:=O (Y3.out.on Z6);have Z5:=O (Y5.out.on Z6);clear Z6 B1 Y2 Y3 Y5 a0 a1 a2 a3 a4 a5 b0 b1 b2 b3 b4 b5 b6;generalize grow (redrawn w1 dq) osq=w2 at *;have p3b:=(PX.out w2 B2.out).2.2.2;have x_:=Z2.out;have y_:=Z3.out;obtain⟨x0,x1,x2,x3,x4,x5⟩:=x_.fA;obtain⟨y0,y1,y2,y3,y4,y5,y6⟩:=y_.mU;clear x_ y_;obtain⟨g1,hg1⟩:∃ r,(par != -1)=r:=⟨_,rfl⟩;have GP:=O (show decide (par≠-1)=g1 by rw [<- hg1]; by_cases q:par=-1 <;> simp [q]);rw [GP.out] at LD;cases g1
     ·have LB:=O LD;clear LD CV;have B3:=O B2.out;have F2:=O Z2.out;have F3:=O Z3.out;have F5:=O Z5.out;clear B2 Z2 Z3 Z5;have f3:=F3.out;obtain⟨k0,k1,k2,k3,k4,k5,k6⟩:=f3.mU;have f36:=f3.fr 6;have Rk:=f3.lt;clear f3;go_upto_region 5 with fail;clear k0 k1 k2 k3 k4 k5 k6 f36 Rk;have G3:=O (show dJ _ _ #[U V c,U V d,U V g,U V h,J po pn pc,U V fr,aj aA] _ from by simpa using dN (k:=6) F3.out (aj aA));have G2:=O (show dJ _ _ _ _ from (Y w2 ⟨w.heap.size+1,6,X⟩ (aj aA) _ (show w.heap.size≠w.heap.size+1 by omega)).trans F2.out);have G5:=O (show dJ _ _ _ _ from (Y w2 ⟨w.heap.size+1,6,X⟩ (aj aA) _ (show w.heap.size+1+1≠w.heap.size+1 by omega)).trans F5.out);have B4:=O (B3.out.setCell (p:=⟨w.heap.size+1,6,X⟩) (by show w.heap.size<=w.heap.size+1; omega) (aj aA));clear B3 F2 F3 F5;generalize w2.setCell ⟨w.heap.size+1,6,X⟩ (aj aA)=w4 at *;have R4:=O (HE.out.on B4.out)
      go_upto_block 0 with (fail)
      refine wI _ w4 w.heap.size (w.heap.size+1) me c d g h _ _ _ _ _ _ _ eo n3 ec es _ _ _ _ _ _ _ _ _ _ _ _ _ _ _ _ _ _ _ _ _ _ _ _ _ _ _ _ _ _ _ _ _ _ _ _ _ _ _ _ _ _ _ _ _ _ _ _ _ _ _ _ _ _ _ _ _ _ _ _ _ _ _ _ _ _ _ _ _ _ _ _ _ _ _ _ _ _ _ _ _ _ _ _ _ _ _ _ _ _ _ _ _ _ _ _ _ _ _ _ _ _ _ _ _ _ _ _ _ _ _ _ G2.out G3.out R4.out N3.out (by have:=EL.out; have:=N3.out; omega) ?_;intro wr v57 v58 v59 v60 v61 v62 v63 v64 v65 v66 v67 v68 v69 v70 v71 v72 v73 v74 v75 v76 v77 v78 v79 v80 v81 v82 v83 v84 v85 v86 v87 v88 v89 v90 v91 v92 v93 v94 v95 v96 hb;have B5:=O (B4.out.trans (hb.mono B4.out.size));have K2:=O (G2.out.on hb);have K3:=O (G3.out.on hb);have K5:=O (G5.out.on hb);have R5:=O (R4.out.on hb);clear hb B4 G2 G3 G5 R4;go_upto_region 8 with fail;refine NS _ wr w.heap.size (w.heap.size+1) me _ _ _ _ eo n3 ec (eP (es.map iI) ((c,d),(g,h))) es (c,d,g,h,(po,pn,pc),fr,aA) _ _ _ _ _ _ _ _ _ _ _ _ _ _ _ _ _ _ _ _ _ _ _ _ _ _ _ _ _ _ _ _ _ _ _ _ _ _ _ _ _ _ _ _ _ _ _ _ _ _ _ _ _ _ _ _ _ _ _ _ _ _ _ _ _ _ _ _ _ _ _ _ _ _ _ _ _ _ _ _ _ _ _ _ _ _ _ _ _ _ _ _ _ _ _ _ _ _ _ _ _ _ _ _ _ _ _ _ _ _ _ _ K2.out (lY (p:=(po,pn,pc)) K3.out) R5.out (by have:=nJ (es.map iI) ((c,d),(g,h)); rw [aN] at this; exact this) EL.out ?_;intro xw v97 v98 v99 v100 v101 v102 v103 v104 v105 v106 v107 v108 v109 v110 v111 hbx ho hbl hoth hblk;obtain⟨lW,lX,yJ⟩:=(aQ ho).len;obtain⟨tl,htl⟩:∃ n,n=(es.take (eP (es.map iI) ((c,d),(g,h)))++[(c,d,g,h,(po,pn,pc),fr,aA)]++es.drop (eP (es.map iI) ((c,d),(g,h)))).length:=⟨_,rfl⟩;rw [<- htl] at yJ;subst yJ;have B6:=O (B5.out.trans (hbl _ (aG _)));have M2:=hbx;have M3:=hoth _ _ _ (by omega) K3.out;have M5:=hoth _ _ _ (by omega) K5.out;have OE:=O (dG ho (show w.heap.size+3<=wr.heap.size by have:=K5.out.lt; omega));clear ho hbl hoth hblk htl hbx B5 K2 K3 K5 R5;go_upto_region 9 with fail;refine wK _ xw w.heap.size (w.heap.size+1) (w.heap.size+1+1) me no ao so lW oo nn nc n2 ac sn sc tl lX dU oc _ _ _ _ _ _ _ _ _ _ _ _ aA _ _ _ _ _ _ _ _ _ _ _ _ _ _ _ _ _ _ _ _ _ _ _ _ _ _ _ _ _ _ _ _ _ _ _ _ _ _ _ _ _ _ _ _ _ _ _ _ _ _ _ _ _ _ _ _ _ _ _ _ _ _ _ _ _ _ _ _ _ _ _ _ _ _ _ _ _ _ _ _ _ _ _ _ _ _ _ _ _ _ _ _ _ _ _ _ _ _ _ _ _ _ _ _ _ _ _ _ _ _ _ _ M2 M3 M5 (by omega) ?_;intro a9 x9 Gs h49 h59 Rm;subst Rm;have FB:=O (dK M5.drew (U V me) (J no nn nc) (J ao n2 ac) (J so sn sc) (J lW tl lX) (J oo dU oc));have BL:=O (dD (b:=w.heap.size+1+1) B6.out.drew (by omega) (U V me) (J no nn nc) (J ao n2 ac) (J so sn sc) (J lW tl lX) (J oo dU oc));have FE:=O (eY (dB OE.out ((aI xw.heap.size xw).drew)) (w.heap.size+1+1) (by omega) (U V me) (J no nn nc) (J ao n2 ac) (J so sn sc) (J lW tl lX) (J oo dU oc));clear OE M2 M3 M5 B6;simp only [Exit.then]
      apply_assumption
      go_wp2_with fail;obtain⟨v0,v1,v2,v3,v4,v5⟩:=FB.out.fA;refine aH (v:=.tuple #[bf #[U V me,J no nn nc,J ao n2 ac,J so sn sc,J lW tl lX,J oo dU oc],aj aA]) (by simp [results,aT,go_sem,h49,h59,v0,v1,v2,v3,v4,v5]) Gs ?_;rw [LB.out];refine⟨⟨(lW,tl,lX),_,rfl,aP (dG FE.out (show w.heap.size<=w.heap.size+3 by omega)),?_⟩,BL.out⟩;rw [<- VU.out];exact ((HR2.out.take _).append (.cons (HRZ.out _) .nil)).append (HR2.out.drop _)
     ·have CW:=O (CV.out w2 B2.out);obtain⟨cv,hcv⟩:∃ r,eX b.ent (c,d) p'=r:=⟨_,rfl⟩;rw [hcv] at CW LD;clear CV hcv;go_wp2_with fail;refine CW.out.mono ?_;rintro e3 w3 ⟨rfl,hb⟩;have B3:=O (B2.out.trans (hb.mono B2.out.size));have F2:=O (Z2.out.on hb);have F3:=O (Z3.out.on hb);have F5:=O (Z5.out.on hb);clear hb CW B2 Z2 Z3 Z5 x0 x1 x2 x3 x4 x5 y0 y1 y2 y3 y4 y5 y6 p3b;cases cv
      ·have LB:=O LD;clear LD;have f3:=F3.out;obtain⟨k0,k1,k2,k3,k4,k5,k6⟩:=f3.mU;have f36:=f3.fr 6;have Rk:=f3.lt;clear f3;go_upto_region 5 with fail;clear k0 k1 k2 k3 k4 k5 k6 f36 Rk;have G3:=O (show dJ _ _ #[U V c,U V d,U V g,U V h,J po pn pc,U V fr,aj aU] _ from by simpa using dN (k:=6) F3.out (aj aU));have G2:=O (show dJ _ _ _ _ from (Y w3 ⟨w.heap.size+1,6,X⟩ (aj aU) _ (show w.heap.size≠w.heap.size+1 by omega)).trans F2.out);have G5:=O (show dJ _ _ _ _ from (Y w3 ⟨w.heap.size+1,6,X⟩ (aj aU) _ (show w.heap.size+1+1≠w.heap.size+1 by omega)).trans F5.out);have B4:=O (B3.out.setCell (p:=⟨w.heap.size+1,6,X⟩) (by show w.heap.size<=w.heap.size+1; omega) (aj aU));clear B3 F2 F3 F5;generalize w3.setCell ⟨w.heap.size+1,6,X⟩ (aj aU)=w4 at *;have R4:=O (HE.out.on B4.out)
       go_upto_block 0 with (fail)
       refine wI _ w4 w.heap.size (w.heap.size+1) me c d g h _ _ _ _ _ _ _ eo n3 ec es _ _ _ _ _ _ _ _ _ _ _ _ _ _ _ _ _ _ _ _ _ _ _ _ _ _ _ _ _ _ _ _ _ _ _ _ _ _ _ _ _ _ _ _ _ _ _ _ _ _ _ _ _ _ _ _ _ _ _ _ _ _ _ _ _ _ _ _ _ _ _ _ _ _ _ _ _ _ _ _ _ _ _ _ _ _ _ _ _ _ _ _ _ _ _ _ _ _ _ _ _ _ _ _ _ _ _ _ _ _ _ _ G2.out G3.out R4.out N3.out (by have:=EL.out; have:=N3.out; omega) ?_;intro wr v57 v58 v59 v60 v61 v62 v63 v64 v65 v66 v67 v68 v69 v70 v71 v72 v73 v74 v75 v76 v77 v78 v79 v80 v81 v82 v83 v84 v85 v86 v87 v88 v89 v90 v91 v92 v93 v94 v95 v96 hb;have B5:=O (B4.out.trans (hb.mono B4.out.size));have K2:=O (G2.out.on hb);have K3:=O (G3.out.on hb);have K5:=O (G5.out.on hb);have R5:=O (R4.out.on hb);clear hb B4 G2 G3 G5 R4;go_upto_region 8 with fail;refine NS _ wr w.heap.size (w.heap.size+1) me _ _ _ _ eo n3 ec (eP (es.map iI) ((c,d),(g,h))) es (c,d,g,h,(po,pn,pc),fr,aU) _ _ _ _ _ _ _ _ _ _ _ _ _ _ _ _ _ _ _ _ _ _ _ _ _ _ _ _ _ _ _ _ _ _ _ _ _ _ _ _ _ _ _ _ _ _ _ _ _ _ _ _ _ _ _ _ _ _ _ _ _ _ _ _ _ _ _ _ _ _ _ _ _ _ _ _ _ _ _ _ _ _ _ _ _ _ _ _ _ _ _ _ _ _ _ _ _ _ _ _ _ _ _ _ _ _ _ _ _ _ _ _ K2.out (lY (p:=(po,pn,pc)) K3.out) R5.out (by have:=nJ (es.map iI) ((c,d),(g,h)); rw [aN] at this; exact this) EL.out ?_;intro xw v97 v98 v99 v100 v101 v102 v103 v104 v105 v106 v107 v108 v109 v110 v111 hbx ho hbl hoth hblk;obtain⟨lW,lX,yJ⟩:=(aQ ho).len;obtain⟨tl,htl⟩:∃ n,n=(es.take (eP (es.map iI) ((c,d),(g,h)))++[(c,d,g,h,(po,pn,pc),fr,aU)]++es.drop (eP (es.map iI) ((c,d),(g,h)))).length:=⟨_,rfl⟩;rw [<- htl] at yJ;subst yJ;have B6:=O (B5.out.trans (hbl _ (aG _)));have M2:=hbx;have M3:=hoth _ _ _ (by omega) K3.out;have M5:=hoth _ _ _ (by omega) K5.out;have OE:=O (dG ho (show w.heap.size+3<=wr.heap.size by have:=K5.out.lt; omega));clear ho hbl hoth hblk htl hbx B5 K2 K3 K5 R5;go_upto_region 9 with fail;refine wK _ xw w.heap.size (w.heap.size+1) (w.heap.size+1+1) me no ao so lW oo nn nc n2 ac sn sc tl lX dU oc _ _ _ _ _ _ _ _ _ _ _ _ aU _ _ _ _ _ _ _ _ _ _ _ _ _ _ _ _ _ _ _ _ _ _ _ _ _ _ _ _ _ _ _ _ _ _ _ _ _ _ _ _ _ _ _ _ _ _ _ _ _ _ _ _ _ _ _ _ _ _ _ _ _ _ _ _ _ _ _ _ _ _ _ _ _ _ _ _ _ _ _ _ _ _ _ _ _ _ _ _ _ _ _ _ _ _ _ _ _ _ _ _ _ _ _ _ _ _ _ _ _ _ _ _ M2 M3 M5 (by omega) ?_;intro a9 x9 Gs h49 h59 Rm;subst Rm;have FB:=O (dK M5.drew (U V me) (J no nn nc) (J ao n2 ac) (J so sn sc) (J lW tl lX) (J oo dU oc));have BL:=O (dD (b:=w.heap.size+1+1) B6.out.drew (by omega) (U V me) (J no nn nc) (J ao n2 ac) (J so sn sc) (J lW tl lX) (J oo dU oc));have FE:=O (eY (dB OE.out ((aI xw.heap.size xw).drew)) (w.heap.size+1+1) (by omega) (U V me) (J no nn nc) (J ao n2 ac) (J so sn sc) (J lW tl lX) (J oo dU oc));clear OE M2 M3 M5 B6;simp only [Exit.then]
       apply_assumption
       go_wp2_with fail;obtain⟨v0,v1,v2,v3,v4,v5⟩:=FB.out.fA;refine aH (v:=.tuple #[bf #[U V me,J no nn nc,J ao n2 ac,J so sn sc,J lW tl lX,J oo dU oc],aj aU]) (by simp [results,aT,go_sem,h49,h59,v0,v1,v2,v3,v4,v5]) Gs ?_;rw [LB.out];refine⟨⟨(lW,tl,lX),_,rfl,aP (dG FE.out (show w.heap.size<=w.heap.size+3 by omega)),?_⟩,BL.out⟩;rw [<- VU.out];exact ((HR2.out.take _).append (.cons (HRZ.out _) .nil)).append (HR2.out.drop _)
      ·have LB:=O LD;clear LD;have f3:=F3.out;obtain⟨k0,k1,k2,k3,k4,k5,k6⟩:=f3.mU;have f36:=f3.fr 6;have Rk:=f3.lt;clear f3;go_upto_region 5 with fail;clear k0 k1 k2 k3 k4 k5 k6 f36 Rk;have G3:=O (show dJ _ _ #[U V c,U V d,U V g,U V h,J po pn pc,U V fr,aj aA] _ from by simpa using dN (k:=6) F3.out (aj aA));have G2:=O (show dJ _ _ _ _ from (Y w3 ⟨w.heap.size+1,6,X⟩ (aj aA) _ (show w.heap.size≠w.heap.size+1 by omega)).trans F2.out);have G5:=O (show dJ _ _ _ _ from (Y w3 ⟨w.heap.size+1,6,X⟩ (aj aA) _ (show w.heap.size+1+1≠w.heap.size+1 by omega)).trans F5.out);have B4:=O (B3.out.setCell (p:=⟨w.heap.size+1,6,X⟩) (by show w.heap.size<=w.heap.size+1; omega) (aj aA));clear B3 F2 F3 F5;generalize w3.setCell ⟨w.heap.size+1,6,X⟩ (aj aA)=w4 at *;have R4:=O (HE.out.on B4.out)
       go_upto_block 0 with (fail)
       refine wI _ w4 w.heap.size (w.heap.size+1) me c d g h _ _ _ _ _ _ _ eo n3 ec es _ _ _ _ _ _ _ _ _ _ _ _ _ _ _ _ _ _ _ _ _ _ _ _ _ _ _ _ _ _ _ _ _ _ _ _ _ _ _ _ _ _ _ _ _ _ _ _ _ _ _ _ _ _ _ _ _ _ _ _ _ _ _ _ _ _ _ _ _ _ _ _ _ _ _ _ _ _ _ _ _ _ _ _ _ _ _ _ _ _ _ _ _ _ _ _ _ _ _ _ _ _ _ _ _ _ _ _ _ _ _ _ G2.out G3.out R4.out N3.out (by have:=EL.out; have:=N3.out; omega) ?_;intro wr v57 v58 v59 v60 v61 v62 v63 v64 v65 v66 v67 v68 v69 v70 v71 v72 v73 v74 v75 v76 v77 v78 v79 v80 v81 v82 v83 v84 v85 v86 v87 v88 v89 v90 v91 v92 v93 v94 v95 v96 hb;have B5:=O (B4.out.trans (hb.mono B4.out.size));have K2:=O (G2.out.on hb);have K3:=O (G3.out.on hb);have K5:=O (G5.out.on hb);have R5:=O (R4.out.on hb);clear hb B4 G2 G3 G5 R4;go_upto_region 8 with fail;refine NS _ wr w.heap.size (w.heap.size+1) me _ _ _ _ eo n3 ec (eP (es.map iI) ((c,d),(g,h))) es (c,d,g,h,(po,pn,pc),fr,aA) _ _ _ _ _ _ _ _ _ _ _ _ _ _ _ _ _ _ _ _ _ _ _ _ _ _ _ _ _ _ _ _ _ _ _ _ _ _ _ _ _ _ _ _ _ _ _ _ _ _ _ _ _ _ _ _ _ _ _ _ _ _ _ _ _ _ _ _ _ _ _ _ _ _ _ _ _ _ _ _ _ _ _ _ _ _ _ _ _ _ _ _ _ _ _ _ _ _ _ _ _ _ _ _ _ _ _ _ _ _ _ _ K2.out (lY (p:=(po,pn,pc)) K3.out) R5.out (by have:=nJ (es.map iI) ((c,d),(g,h)); rw [aN] at this; exact this) EL.out ?_;intro xw v97 v98 v99 v100 v101 v102 v103 v104 v105 v106 v107 v108 v109 v110 v111 hbx ho hbl hoth hblk;obtain⟨lW,lX,yJ⟩:=(aQ ho).len;obtain⟨tl,htl⟩:∃ n,n=(es.take (eP (es.map iI) ((c,d),(g,h)))++[(c,d,g,h,(po,pn,pc),fr,aA)]++es.drop (eP (es.map iI) ((c,d),(g,h)))).length:=⟨_,rfl⟩;rw [<- htl] at yJ;subst yJ;have B6:=O (B5.out.trans (hbl _ (aG _)));have M2:=hbx;have M3:=hoth _ _ _ (by omega) K3.out;have M5:=hoth _ _ _ (by omega) K5.out;have OE:=O (dG ho (show w.heap.size+3<=wr.heap.size by have:=K5.out.lt; omega));clear ho hbl hoth hblk htl hbx B5 K2 K3 K5 R5;go_upto_region 9 with fail;refine wK _ xw w.heap.size (w.heap.size+1) (w.heap.size+1+1) me no ao so lW oo nn nc n2 ac sn sc tl lX dU oc _ _ _ _ _ _ _ _ _ _ _ _ aA _ _ _ _ _ _ _ _ _ _ _ _ _ _ _ _ _ _ _ _ _ _ _ _ _ _ _ _ _ _ _ _ _ _ _ _ _ _ _ _ _ _ _ _ _ _ _ _ _ _ _ _ _ _ _ _ _ _ _ _ _ _ _ _ _ _ _ _ _ _ _ _ _ _ _ _ _ _ _ _ _ _ _ _ _ _ _ _ _ _ _ _ _ _ _ _ _ _ _ _ _ _ _ _ _ _ _ _ _ _ _ _ M2 M3 M5 (by omega) ?_;intro a9 x9 Gs h49 h59 Rm;subst Rm;have FB:=O (dK M5.drew (U V me) (J no nn nc) (J ao n2 ac) (J so sn sc) (J lW tl lX) (J oo dU oc));have BL:=O (dD (b:=w.heap.size+1+1) B6.out.drew (by omega) (U V me) (J no nn nc) (J ao n2 ac) (J so sn sc) (J lW tl lX) (J oo dU oc));have FE:=O (eY (dB OE.out ((aI xw.heap.size xw).drew)) (w.heap.size+1+1) (by omega) (U V me) (J no nn nc) (J ao n2 ac) (J so sn sc) (J lW tl lX) (J oo dU oc));clear OE M2 M3 M5 B6;simp only [Exit.then]
       apply_assumption
       go_wp2_with fail;obtain⟨v0,v1,v2,v3,v4,v5⟩:=FB.out.fA;refine aH (v:=.tuple #[bf #[U V me,J no nn nc,J ao n2 ac,J so sn sc,J lW tl lX,J oo dU oc],aj aA]) (by simp [results,aT,go_sem,h49,h59,v0,v1,v2,v3,v4,v5]) Gs ?_;rw [LB.out];refine⟨⟨(lW,tl,lX),_,rfl,aP (dG FE.out (show w.heap.size<=w.heap.size+3 by omega)),?_⟩,BL.out⟩;rw [<- VU.out];exact ((HR2.out.take _).append (.cons (HRZ.out _) .nil)).append (HR2.out.drop _)
    ·have LB:=O (LC.trans (if_pos (by simpa using And.intro hf1 hf2)));clear LC;go_upto_region 2 with fail;refine wp_region_quiet_below (by kernel_rfl) (by kernel_rfl) ?_
     repeat (go_big_quiet_step (first | (with_reducible exact CE.out _ _)))
     refine wpQuiet_nil ?_;intro _ hw';obtain⟨⟨dq,osq⟩,hw''⟩:=hw';subst hw'';have Z6:=aX w1 dq osq;have B2:=O (B1.out.trans (Z6.mono B1.out.size));have Z2:=O (Y2.out.on Z6);have Z3:=O (Y3.out.on Z6);have Z5:=O (Y5.out.on Z6);clear Z6 B1 Y2 Y3 Y5 a0 a1 a2 a3 a4 a5 b0 b1 b2 b3 b4 b5 b6;generalize grow (redrawn w1 dq) osq=w2 at *;have FB:=O (dK Z5.out (U V me) (J no nn nc) (J ao n2 ac) (J so sn sc) (J eo n3 ec) (J oo dU oc));have BL:=O (dD (b:=w.heap.size+1+1) B2.out (by omega) (U V me) (J no nn nc) (J ao n2 ac) (J so sn sc) (J eo n3 ec) (J oo dU oc));have sW:=Z2.out;have oO:=Z5.out;obtain⟨x0,x1,x2,x3,x4,x5⟩:=sW.fA;obtain⟨r0,r1,r2,r3,r4,r5⟩:=oO.fA;obtain⟨t0,t1,t2,t3,t4,t5⟩:=oO.kg;have zz:=oO.lt;clear sW oO;go_wp2_with fail;obtain⟨v0,v1,v2,v3,v4,v5⟩:=FB.out.fA;refine aH (v:=.tuple #[bf #[U V me,J no nn nc,J ao n2 ac,J so sn sc,J eo n3 ec,J oo dU oc],aj aA]) (by simp [results,aT,go_sem,v0,v1,v2,v3,v4,v5]) rfl ?_;rw [LB.out];exact⟨⟨(eo,n3,ec),es,rfl,bU ⟨rfl,rfl,rfl⟩,HR2.out⟩,BL.out⟩
  ·have LB:=O (show gQ b ⟨(c,d),(g,h),p',fr,Yi⟩=(b,aA) from (LA.out _ he).trans (if_pos (by omega)));have hge:decide ((0:Int)<=(j:Int))=aU:=decide_eq_true (by omega);rw [he] at CE;clear LA he;go_upto_region 2 with fail;refine wp_region_quiet_below (by kernel_rfl) (by kernel_rfl) ?_
   repeat (go_big_quiet_step (first | (with_reducible exact CE.out _ _)))
   refine wpQuiet_nil ?_;intro _ hw';obtain⟨⟨dq,osq⟩,hw''⟩:=hw';subst hw'';have Z6:=aX w1 dq osq;have B2:=O (B1.out.trans (Z6.mono B1.out.size));have Z2:=O (Y2.out.on Z6);have Z3:=O (Y3.out.on Z6);have Z5:=O (Y5.out.on Z6);clear Z6 B1 Y2 Y3 Y5 a0 a1 a2 a3 a4 a5 b0 b1 b2 b3 b4 b5 b6;generalize grow (redrawn w1 dq) osq=w2 at *;have FB:=O (dK Z5.out (U V me) (J no nn nc) (J ao n2 ac) (J so sn sc) (J eo n3 ec) (J oo dU oc));have BL:=O (dD (b:=w.heap.size+1+1) B2.out (by omega) (U V me) (J no nn nc) (J ao n2 ac) (J so sn sc) (J eo n3 ec) (J oo dU oc));have sW:=Z2.out;have oO:=Z5.out;obtain⟨x0,x1,x2,x3,x4,x5⟩:=sW.fA;obtain⟨r0,r1,r2,r3,r4,r5⟩:=oO.fA;obtain⟨t0,t1,t2,t3,t4,t5⟩:=oO.kg;have zz:=oO.lt;clear sW oO;go_wp2_with fail;obtain⟨v0,v1,v2,v3,v4,v5⟩:=FB.out.fA;refine aH (v:=.tuple #[bf #[U V me,J no nn nc,J ao n2 ac,J so sn sc,J eo n3 ec,J oo dU oc],aj aA]) (by simp [results,aT,go_sem,v0,v1,v2,v3,v4,v5]) rfl ?_;rw [LB.out];exact⟨⟨(eo,n3,ec),es,rfl,bU ⟨rfl,rfl,rfl⟩,HR2.out⟩,BL.out⟩
theorem jr (b:Br) (e:En):(gQ b e).1.me=b.me/\(gQ b e).1.near=b.near/\(gQ b e).1.dO=b.dO/\(gQ b e).1.seen=b.seen/\(gQ b e).1.own=b.own:=by
 unfold gQ
 split
 ·exact⟨rfl,rfl,rfl,rfl,rfl⟩
 ·split
  ·exact⟨rfl,rfl,rfl,rfl,rfl⟩
  ·split
   ·exact⟨rfl,rfl,rfl,rfl,rfl⟩
   ·split <;> exact⟨rfl,rfl,rfl,rfl,rfl⟩
theorem Rn (b:Br) (nv av sv ev ov:Sl) (z:iA) (e:En) (w:aO) (h_:gZ w b nv av sv ev ov) (hz:iW w z e) (l2:b.dO.length<=900) (l3:b.ent.length<=900) (hok:∀ e∈b.ent,dW e.p) (hop:dW e.p) :
  Calls aJ 57 #[ny b.me nv av sv ev ov,qR z] w fun e' w'=>(∃ ev':Sl,e'=bI (.tuple #[ny b.me nv av sv ev' ov,aj (gQ b e).2])/\gZ w' (gQ b e).1 nv av sv ev' ov)/\Below w.heap.size w w':=by
 obtain⟨es,he1,he2⟩:=h_.ent;refine (sK b nv av sv ev ov z e w es (iW w) h_ he1 he2 he2 (fun u=>⟨hz.1,hz.2.1,hz.2.2.1,rfl,hz.2.2.2.2⟩) hz l2 l3 hok hop).mono ?_;rintro e1 w1 ⟨⟨ev',xs,rfl,hr,hx⟩,hb⟩;refine⟨⟨ev',rfl,?_⟩,hb⟩;have hI:=h_.on hb;obtain⟨_,a2,a3,a4,a5⟩:=jr b e;refine⟨by rw [a2]; exact hI.near,by rw [a3]; exact hI.dO,by rw [a4]; exact hI.seen,⟨xs,?_,hx.mono fun _ _ h=>h.on hb⟩,by rw [a5]; exact hI.own⟩;rcases hr with⟨h1,h2,_⟩|hr
 ·rw [h1,h2];exact he1.on hb
 ·exact aQ hr
end Bk
namespace Bk
open Go.RowKit Go.Sort Rw YtkcfgbddlpomgaaGreat.Nm Pr
open Av
def VW (e:En):En:={ e with up:=aU }
def iC (t:Id) (s:List En×List En) (k:Nat):List En×List En:=match s.1[k]? with
 | none=>s
 | some e=>if e.tree=t/\e.up=aA/\eX s.1 t e.p=aA then (s.1.set k (VW e),s.2++[VW e]) else s
def iM (t:Id) (m:List En) (k:Nat):List En×List En:=(List.range k).foldl (iC t) (m,[])
def takeB (b:Br) (t s:Id) (f:Int):Br×List En×Bool:=match b.ent[(iL (b.ent.map fB) (t,s)).toNat]? with
 | none=>(b,[],aA)
 | some e=>if iL (b.ent.map fB) (t,s)=-1 then (b,[],aA) else if e.from_≠f then (b,[],aA) else
  if e.up=aA then ({ b with ent:=cutAt b.ent (iL (b.ent.map fB) (t,s)).toNat },[],aA) else
  ({ b with ent:=(iM t (cutAt b.ent (iL (b.ent.map fB) (t,s)).toNat) (cutAt b.ent (iL (b.ent.map fB) (t,s)).toNat).length).1 },(iM t (cutAt b.ent (iL (b.ent.map fB) (t,s)).toNat) (cutAt b.ent (iL (b.ent.map fB) (t,s)).toNat).length).2,aU)
theorem lZ (t:Id) (m:List En) (k:Nat):iM t m (k+1)=iC t (iM t m k) k:=by
 simp [iM,List.range_succ]
theorem Er (t:Id) (s:List En×List En) (k:Nat):(iC t s k).1.length=s.1.length/\(iC t s k).2.length<=s.2.length+1:=by
 unfold iC
 split
 ·exact⟨rfl,Nat.le_succ _⟩
 ·split
  ·simp
  ·exact⟨rfl,Nat.le_succ _⟩
theorem nK (t:Id) (m:List En):∀ k,(iM t m k).1.length=m.length/\(iM t m k).2.length<=k
 | 0=>⟨rfl,aG _⟩
 | k+1=>by
  rw [lZ];have h1:=nK t m k;have h2:=Er t (iM t m k) k;omega
theorem Gt {t:Id} {m:List En} (P:List C5->Prop) (h:∀ e∈m,P e.p):∀ k,(∀ e∈(iM t m k).1,P e.p)/\∀ e∈(iM t m k).2,P e.p
 | 0=>⟨h,fun e he=>by simp [iM] at he⟩
 | k+1=>by
  have ih:=Gt (t:=t) P h k;rw [lZ];unfold iC
  split
  ·exact ih
  ·rename_i e he
   split
   ·refine⟨fun x hx=>?_,fun x hx=>?_⟩
    ·rcases bR hx with h1|h1
     ·exact ih.1 x h1
     ·rw [h1];exact ih.1 e (aW he)
    ·rcases bn.1 hx with h1|h1
     ·exact ih.2 x h1
     ·rw [bE.1 h1];exact ih.1 e (aW he)
   ·exact ih
theorem Gu:∀ (l:List iA) (k:Nat) (x:iA),l[k]?=Z x->flat EN (l.set k (x.1,x.2.1,x.2.2.1,x.2.2.2.1,x.2.2.2.2.1,x.2.2.2.2.2.1,aU))=(flat EN l).set (k * 7+6) (aj aU)
 | [],k,x,h=>by simp at h
 | y::r,0,x,h=>by
  obtain rfl:y=x:=by simpa using h
  rfl
 | y::r,k+1,x,h=>by
  have ih:=Gu r k x (by simpa using h);rw [show (k+1) * 7+6=(k * 7+6)+1+1+1+1+1+1+1 by omega];simp only [bL,flat,EN,iG,List.cons_append,List.nil_append] at ih ⊢;rw [ih]
theorem WR {w:aO} {B g n cap k:Nat} {l:List iA} {x:iA} (h:jg w B (J (Z ⟨g,0,X⟩) n cap) l) (hk:l[k]?=Z x) :
  jg (w.setCell ⟨g,k * 7+6,X⟩ (aj aU)) B (J (Z ⟨g,0,X⟩) n cap) (l.set k (x.1,x.2.1,x.2.2.1,x.2.2.2.1,x.2.2.2.2.1,x.2.2.2.2.2.1,aU))/\w.cell? ⟨g,k * 7+6,X⟩=Z (aj x.2.2.2.2.2.2)/\w.frozen? ⟨g,k * 7+6,X⟩=aA:=by
 have c:=jW mY h hk w (aI _ _);have c6:=c 6 _ rfl;simp [Addr.add,EN] at c6;obtain⟨cur,hb⟩:=jS h;obtain⟨ao,c',hv⟩:=(aQ h).len;obtain⟨_,rfl,_⟩:Z ⟨g,0,X⟩=ao/\n=l.length/\cap=c':=by simpa using hv
 have h:w.ownsRow B 68 7 (J (Z ⟨g,0,X⟩) l.length cap) l.length (flat EN l):=h;have t1:=(h.stored (k * 7+6) (aj aU)).1;refine⟨?_,c6,hb.fr _⟩;have e:=Gu l k x hk;show World.ownsRow _ B 68 7 _ (List.length _) (flat EN _);rw [e,List.length_set];exact t1
theorem eB.set2 {α β:Type} {R:α->β->Prop}:∀ {l:List α} {m:List β} (k:Nat) {a:α} {b:β},eB R l m->R a b->eB R (l.set k a) (m.set k b)
 | _,_,_,_,_,.nil,_=>.nil
 | _,_,0,_,_,.cons _ t,hr=>.cons hr t
 | _,_,k+1,_,_,.cons x t,hr=>.cons x (eB.set2 k t hr)
theorem Gv (w:aO) (c d e f:Array aV) (r s t u:TypeId):Below w.heap.size w ((((w.alloc (ah c r)).alloc (ah d s)).alloc (ah e t)).alloc (ah f u))/\dJ ((((w.alloc (ah c r)).alloc (ah d s)).alloc (ah e t)).alloc (ah f u)) w.heap.size c r/\dJ ((((w.alloc (ah c r)).alloc (ah d s)).alloc (ah e t)).alloc (ah f u)) (w.heap.size+1) d s/\dJ ((((w.alloc (ah c r)).alloc (ah d s)).alloc (ah e t)).alloc (ah f u)) (w.heap.size+1+1) e t/\dJ ((((w.alloc (ah c r)).alloc (ah d s)).alloc (ah e t)).alloc (ah f u)) (w.heap.size+1+1+1) f u:=by
 obtain⟨h0,h1,h2,h3⟩:=gN w c d e r s t;refine⟨h0.alloc h0.size _,h1.more _,h2.more _,h3.more _,?_⟩;have h:=dL (((w.alloc (ah c r)).alloc (ah d s)).alloc (ah e t)) f u;have e2:(((w.alloc (ah c r)).alloc (ah d s)).alloc (ah e t)).heap.size=w.heap.size+1+1+1:=by simp
 rw [e2] at h;exact h
theorem Cw (l:List Id) (x:Id) (h:x∈l):∃ k:Nat,fG l x=k/\l[k]?=Z x:=by
 induction l with
 | nil=>simp at h
 | cons a r ih =>
  by_cases e:a=x
  ·subst e;exact⟨0,by simp [fG],rfl⟩
  ·have hr:x∈r:=by
    rcases List.mem_cons.1 h with h1|h1
    ·exact absurd h1.symm e
    ·exact h1
   obtain⟨k,h1,h2⟩:=ih hr;refine⟨k+1,?_,by simpa using h2⟩;rw [fG,if_neg e,h1,if_neg (by omega)];omega
theorem wL {t:Id} {m:List En} (R:En->Prop) (hR:∀ e,e.tree=t->R e->R (VW e)) (h:∀ e∈m,R e):∀ k,(∀ e∈(iM t m k).1,R e)/\∀ e∈(iM t m k).2,R e
 | 0=>⟨h,fun e he=>by simp [iM] at he⟩
 | k+1=>by
  have ih:=wL (t:=t) R hR h k;rw [lZ];unfold iC
  split
  ·exact ih
  ·rename_i e he
   split
   ·rename_i hcond
    have hu:=hR e hcond.1 (ih.1 e (aW he));refine⟨fun x hx=>?_,fun x hx=>?_⟩
    ·rcases bR hx with h1|h1
     ·exact ih.1 x h1
     ·rw [h1];exact hu
    ·rcases bn.1 hx with h1|h1
     ·exact ih.2 x h1
     ·rw [bE.1 h1];exact hu
   ·exact ih
theorem qG {α:Type} {l:List α} {k:Nat} {x:α} (h:x∈cutAt l k):x∈l:=by
 rcases bn.1 h with h|h
 ·exact cu h
 ·exact cB h
theorem NW (b:Br) (nv av sv ev ov:Sl) (x s:Id) (f:Int) (w:aO) (h:gZ w b nv av sv ev ov) (l3:b.ent.length<=900) (hok:∀ e∈b.ent,dW e.p) :
  Calls aJ 93 #[ny b.me nv av sv ev ov,mD x,mD s,U V f] w fun e w'=>(∃ ev' lo:Sl,e=bI (.tuple #[ny b.me nv av sv ev' ov,dR lo,aj (takeB b x s f).2.2])/\gZ w' (takeB b x s f).1 nv av sv ev' ov/\∃ xs,jZ w' (dR lo) xs/\eB (iW w') xs (takeB b x s f).2.1)/\Below w.heap.size w w':=by
 obtain⟨no,nn,nc⟩:=nv;obtain⟨ao,an,ac⟩:=av;obtain⟨so,sn,sc⟩:=sv;obtain⟨eo,en,ec⟩:=ev;obtain⟨oo,dU,oc⟩:=ov;obtain⟨c,d⟩:=x;obtain⟨c2,d2⟩:=s;obtain⟨es,he1,he2⟩:=h.ent;have VU:=O (keys_eq he2);have EL:=O (show es.length<=900 by rw [he2.len]; exact l3);have HE2:=O he2;have OK:=O hok;obtain⟨q1,q2,hq⟩:=he1.len;obtain⟨rfl,rfl,rfl⟩:eo=q1/\en=es.length/\ec=q2:=by
  have:J eo en ec=J q1 es.length q2:=hq;simpa using this
 have EY:=yY b.me (J no nn nc) (J ao an ac) (J so sn sc) (J oo dU oc) (eo,es.length,ec) es (c,d) (c2,d2);have HH:=O h;obtain⟨h0,h1,h2,h3,h4⟩:=Gv w #[U V b.me,J no nn nc,J ao an ac,J so sn sc,J eo es.length ec,J oo dU oc] #[U V c,U V d] #[U V c2,U V d2] #[U V 0,J X 0 0,J X 0 0,J X 0 0,J X 0 0,J X 0 0] 33 38 38 33;obtain⟨n3,Qv⟩:∃ n,n=es.length:=⟨_,rfl⟩;simp only [<- Qv] at h0 h1 h2 h3 h4 he1 HH EY ⊢;obtain⟨me,hme⟩:∃ me,me=b.me:=⟨_,rfl⟩;simp only [<- hme] at h0 h1 h2 h3 h4 EY ⊢;have N3:=O Qv;have gH:=O (h0);have tq:=O (h1);have kR:=O (h2);have lC:=O (h3);have AZ:=O (h4);have NY:=O (he1.on h0);have HEW:=O he1;clear h0 h1 h2 h3 h4 he1 he2 h hq Qv l3 hme hok;go_enter Tryz.func93,Tryz.ntmps93;go_upto_region 1 with fail;generalize ((((w.alloc (ah #[U V me,J no nn nc,J ao an ac,J so sn sc,J eo n3 ec,J oo dU oc] 33)).alloc (ah #[U V c,U V d] 38)).alloc (ah #[U V c2,U V d2] 38)).alloc (ah #[U V 0,J X 0 0,J X 0 0,J X 0 0,J X 0 0,J X 0 0] 33))=W at *;have SW:=O (EY W NY.out);clear EY;obtain⟨x0,x1,x2,x3,x4,x5⟩:=tq.out.fA;obtain⟨y0,y1⟩:=kR.out.cs2;obtain⟨z0,z1⟩:=lC.out.cs2;rcases mI (es.map iI) ((c,d),(c2,d2)) with hf|⟨k,hf,hkk⟩
 ·have LB:=O (show takeB b (c,d) (c2,d2) f=(b,[],aA) by
   have hf2:=hf;rw [VU.out] at hf2;unfold takeB;rw [hf2]
   split
   ·rfl
   ·rw [if_pos rfl])
  rw [hf] at SW;clear hf;go_wp2_with fail;refine SW.out.mono ?_;rintro e1 w1 ⟨rfl,hb⟩;clear SW;clear x0 x1 x2 x3 x4 x5 y0 y1 z0 z1;have lD:=O (gH.out.trans (hb.mono gH.out.size));have mg:=O (tq.out.on hb);have A8:=O (kR.out.on hb);have qV:=O (lC.out.on hb);have qW:=O (AZ.out.on hb);have aa6:=O (NY.out.on hb);clear gH tq kR lC AZ NY;clear hb;obtain⟨x0,x1,x2,x3,x4,x5⟩:=mg.out.fA;obtain⟨r0,r1,r2,r3,r4,r5⟩:=qW.out.fA;obtain⟨Cx,Cy,Cz,CF,CG,CJ⟩:=qW.out.kg;have zz:=qW.out.lt;have FB:=O (dK qW.out (U V me) (J no nn nc) (J ao an ac) (J so sn sc) (J eo n3 ec) (J oo dU oc));have BL:=O (dD (b:=w.heap.size+1+1+1) lD.out (by omega) (U V me) (J no nn nc) (J ao an ac) (J so sn sc) (J eo n3 ec) (J oo dU oc));go_wp2_with fail;obtain⟨v0,v1,v2,v3,v4,v5⟩:=FB.out.fA;refine aH (v:=.tuple #[bf #[U V me,J no nn nc,J ao an ac,J so sn sc,J eo n3 ec,J oo dU oc],J X 0 0,aj aA]) (by simp [results,bN,go_sem,v0,v1,v2,v3,v4,v5]) rfl ?_;rw [LB.out];exact⟨⟨(eo,n3,ec),(X,0,0),rfl,HH.out.on BL.out,[],ji _,.nil⟩,BL.out⟩
 ·rw [hf] at SW;have hk:k<es.length:=by have:=(bg.1 hkk).1; simpa using this
  obtain⟨y,hy⟩:∃ y,es[k]?=Z y:=⟨_,ay hk⟩;obtain⟨e0,he0⟩:∃ e,b.ent[k]?=Z e:=⟨_,ay (by rw [<- HE2.out.len]; exact hk)⟩;obtain⟨y_,hy_,hye⟩:=HE2.out.at k e0 he0;obtain rfl:y=y_:=bK (hy.symm.trans hy_);have hkn:k<n3:=by rw [N3.out]; exact hk
  have LB:=O (show takeB b (c,d) (c2,d2) f=if e0.from_≠f then (b,[],aA) else if e0.up=aA then ({ b with ent:=cutAt b.ent k },[],aA) else ({ b with ent:=(iM (c,d) (cutAt b.ent k) (cutAt b.ent k).length).1 },(iM (c,d) (cutAt b.ent k) (cutAt b.ent k).length).2,aU) by
   have hf2:=hf;rw [VU.out] at hf2;unfold takeB;rw [hf2,bG,he0];simp only;rw [if_neg (by omega)])
  obtain⟨p,ix,px⟩:=P7 NY.out rfl N3.out.symm hy;obtain⟨t1,t2,t3,t4,⟨po,pn,pc⟩,fr,up⟩:=y;obtain⟨hl1,hl2,hfr,hup,hl5⟩:=hye;simp only at hfr hup;rw [<- hfr,<- hup] at LB;clear hfr hup hl1 hl2 hl5 hy_ he0 e0;have hik:decide ((k:Int)<0)=aA:=decide_eq_false (by omega);have XL:=EL.out;go_wp2_with fail;refine SW.out.mono ?_;rintro e1 w1 ⟨rfl,hb⟩;have xL:=px w1 hb;obtain⟨p0,p1,p2,p3,p4,p5,p6⟩:=xL;clear SW px;clear x0 x1 x2 x3 x4 x5 y0 y1 z0 z1;have lD:=O (gH.out.trans (hb.mono gH.out.size));have mg:=O (tq.out.on hb);have A8:=O (kR.out.on hb);have qV:=O (lC.out.on hb);have qW:=O (AZ.out.on hb);have aa6:=O (NY.out.on hb);clear gH tq kR lC AZ NY;clear hb hf;by_cases hpf:fr=f
  ·rw [if_neg (by simp [hpf])] at LB;have hne:(fr != f)=aA:=by simp [hpf]
   obtain⟨x0,x1,x2,x3,x4,x5⟩:=mg.out.fA;obtain⟨r0,r1,r2,r3,r4,r5⟩:=qW.out.fA;obtain⟨Cx,Cy,Cz,CF,CG,CJ⟩:=qW.out.kg;have zz:=qW.out.lt;go_upto_region 5 with fail;clear zz hne hik ix p0 p1 p2 p3 p4 p5 p6;clear x0 x1 x2 x3 x4 x5 r0 r1 r2 r3 r4 r5 Cx Cy Cz CF CG CJ;refine afP _ w1 w.heap.size (w.heap.size+1) me _ _ _ _ eo n3 ec k es _ _ _ _ _ _ _ _ _ _ _ _ _ _ _ _ _ _ _ _ _ _ _ _ _ _ _ _ _ _ _ _ _ _ _ _ _ _ _ _ _ _ _ _ _ _ _ _ _ _ _ _ _ _ _ _ _ _ _ _ _ _ _ _ _ _ _ _ _ _ _ _ _ _ _ _ _ _ _ _ _ _ _ _ _ _ _ _ _ _ _ _ _ _ _ _ _ _ _ _ _ mg.out aa6.out (by omega) XL ?_;intro xw v39 v40 v41 v42 v43 v44 v45 v46 v47 v48 v49 v50 v51 hbx ho hbl hoth hblk;have CE:=O (show eB (iW w) (es.take k++es.drop (k+1)) (cutAt b.ent k) from (HE2.out.take k).append (HE2.out.drop (k+1)));have OK2:=O (show ∀ e∈cutAt b.ent k,dW e.p from fun e he=>by
    rcases bn.1 he with h|h
    ·exact OK.out e (cu h)
    ·exact OK.out e (cB h))
   have CL:=O (show (es.take k++es.drop (k+1)).length<=900 from by rw [aS,bJ,List.length_drop]; omega);generalize es.take k++es.drop (k+1)=cs at *;obtain⟨ea,Fy,hev⟩:=(aQ ho).len;obtain⟨n,hn⟩:∃ n,n=cs.length:=⟨_,rfl⟩;rw [<- hn] at hev;subst hev;have N:=O hn;clear hn;have CN:=O (show (cutAt b.ent k).length=n from by rw [N.out,CE.out.len]);have hcl:=CN.out;simp only [hcl] at LB;generalize cutAt b.ent k=cb at *;clear hcl;have lM:=O (lD.out.trans (hbl _ (aG _)));have WT:=O (hbx);have xB:=O (hoth _ _ _ (by omega) A8.out);have lQ:=O (hoth _ _ _ (by omega) qV.out);have oD:=O (hoth _ _ _ (by omega) qW.out);have Ro:=O (dG ho (show w.heap.size+4<=w1.heap.size by have:=qW.out.lt; omega));have WF:=O (show w.heap.size+4<=xw.heap.size from by have:=oD.out.lt; omega);clear hbx ho hbl hoth hblk lD mg A8 qV qW aa6;cases up
   ·rw [if_pos rfl] at LB;obtain⟨x0,x1,x2,x3,x4,x5⟩:=WT.out.fA;obtain⟨r0,r1,r2,r3,r4,r5⟩:=oD.out.fA;obtain⟨Cx,Cy,Cz,CF,CG,CJ⟩:=oD.out.kg;have zz:=oD.out.lt;have FB:=O (dK oD.out (U V me) (J no nn nc) (J ao an ac) (J so sn sc) (J ea n Fy) (J oo dU oc));have BL:=O (dD (b:=w.heap.size+1+1+1) lM.out (by omega) (U V me) (J no nn nc) (J ao an ac) (J so sn sc) (J ea n Fy) (J oo dU oc));have Nn:=O (eY Ro.out (w.heap.size+1+1+1) (by omega) (U V me) (J no nn nc) (J ao an ac) (J so sn sc) (J ea n Fy) (J oo dU oc));go_wp2_with fail;obtain⟨v0,v1,v2,v3,v4,v5⟩:=FB.out.fA;refine aH (v:=.tuple #[bf #[U V me,J no nn nc,J ao an ac,J so sn sc,J ea n Fy,J oo dU oc],J X 0 0,aj aA]) (by simp [results,bN,go_sem,v0,v1,v2,v3,v4,v5]) rfl ?_;rw [LB.out];have hI:=HH.out.on BL.out;exact⟨⟨(ea,n,Fy),(X,0,0),rfl,⟨hI.near,hI.dO,hI.seen,⟨cs,aQ Nn.out,CE.out.mono fun _ _ h=>h.on BL.out⟩,hI.own⟩,[],ji _,.nil⟩,BL.out⟩
   ·rw [if_neg (by simp)] at LB;have L4:=CL.out;rw [<- N.out] at L4;obtain⟨x0,x1,x2,x3,x4,x5⟩:=WT.out.fA;go_wp2_with fail;clear x0 x1 x2 x3 x4 x5
    go_loopw [13,58] (fun v i wr=>∃ (k:Nat) (xs ls:List iA) (a:Option Addr) (c_:Nat),k<=n/\i=U V k/\Below w.heap.size w wr/\w.heap.size+4<=wr.heap.size/\dJ wr w.heap.size #[U V me,J no nn nc,J ao an ac,J so sn sc,J a n c_,J oo dU oc] 33/\dJ wr (w.heap.size+1) #[U V c,U V d] 38/\dJ wr (w.heap.size+1+1+1) #[U V 0,J X 0 0,J X 0 0,J X 0 0,J X 0 0,J X 0 0] 33/\jg wr (w.heap.size+4) (J a n c_) xs/\eB (iW w) xs (iM (c,d) cb k).1/\jg wr (w.heap.size+4) v ls/\eB (iW w) ls (iM (c,d) cb k).2) (fun _ i _=>n-(intOf i).toNat)
    case atStart=>exact⟨0,cs,[],ea,Fy,cK _,rfl,lM.out,WF.out,WT.out,xB.out,oD.out,Ro.out,CE.out,fZ _ _,.nil⟩
    case round =>
     clear WF lM WT xB lQ oD Ro;obtain⟨k,xs,ls,ea,Fy,hk,rfl,hgb,hwf,hx4,hx5,Rp,hoe,hen,hol,hln⟩:=hrel;have KZ:=O (hgb);have tK:=O (hx4);have Yj:=O (hx5);have CK:=O (Rp);have mJ:=O (hoe);have K6:=O (hol);have WF:=O hwf;have EN:=O hen;have LN:=O hln;clear hgb hwf hx4 hx5 Rp hoe hen hol hln;have XN:=O (show xs.length=n from by rw [EN.out.len,(nK _ _ _).1,CN.out]);have LN9:=O (show ls.length<=900 from by rw [LN.out.len]; exact aB (nK _ _ _).2 (by omega));by_cases hlt:k<n
     ·have hlt':(k:Int)<(n:Int):=by omega
      have hw:IntKind.i64.wrap ((k:Int)+1)=(k:Int)+1:=bO _ (by omega);obtain⟨y,hy⟩:∃ y,xs[k]?=Z y:=⟨_,ay (by rw [XN.out]; exact hlt)⟩;obtain⟨e,he⟩:∃ e,(iM (c,d) cb k).1[k]?=Z e:=⟨_,ay (by rw [<- EN.out.len,XN.out]; exact hlt)⟩;obtain⟨y_,hy_,hye⟩:=EN.out.at k e he;obtain rfl:y=y_:=bK (hy.symm.trans hy_);have TK:=O (show iM (c,d) cb (k+1)=if e.tree=(c,d)/\e.up=aA/\eX (iM (c,d) cb k).1 (c,d) e.p=aA then ((iM (c,d) cb k).1.set k (VW e),(iM (c,d) cb k).2++[VW e]) else iM (c,d) cb k from by rw [lZ]; unfold iC; rw [he]);have OKK:=O ((Gt (t:=(c,d)) dW OK2.out k).1);have Rq:=O hye;have HY:=O hy;have OKE:=O (OKK.out e (aW he));clear hy_ hye he;generalize iM (c,d) cb k=mk at *;obtain⟨p,ix,px⟩:=P7 (aQ mJ.out) rfl XN.out hy;obtain⟨p0,p1,p2,p3,p4,p5,p6⟩:=px wr (aI _ _);obtain⟨y1,y2,y3,y4,⟨yo,yn,yc⟩,y6,y7⟩:=y;simp only at p0 p1 p2 p3 p4 p5 p6;clear px hy;obtain⟨x0,x1,x2,x3,x4,x5⟩:=tK.out.fA;go_upto_region 13 with fail;clear x0 x1 x2 x3 x4 x5;clear p0 p1 p2 p3 p4 p5 p6 ix;have NN:=fE wr (ah #[U V y1,U V y2,U V y3,U V y4,J yo yn yc,U V y6,aj y7] 68);have WG:=O NN.size;have mZ:=O (KZ.out.trans (NN.mono KZ.out.size));have uS:=O (tK.out.on NN);have Gw:=O (Yj.out.on NN);have xC:=O (CK.out.on NN);have uT:=O (Bk.dB mJ.out NN);have K8:=O (Bk.dB K6.out NN);clear KZ tK Yj CK mJ K6;clear NN;have Rs:=O (dL wr #[U V y1,U V y2,U V y3,U V y4,J yo yn yc,U V y6,aj y7] 68);generalize wr.alloc (ah #[U V y1,U V y2,U V y3,U V y4,J yo yn yc,U V y6,aj y7] 68)=wa at *;obtain⟨x0,x1,x2,x3,x4,x5⟩:=uS.out.fA;obtain⟨Es,y_1⟩:=Gw.out.cs2;obtain⟨z0,z1,z2,z3,z4,z5,z6⟩:=Rs.out.mU;have TE:=O (show e.tree=(y1,y2) from Rq.out.1.symm);have UE:=O (show e.up=y7 from Rq.out.2.2.2.1.symm);obtain⟨r1,hr1⟩:∃ r,(y1 == c && y2 == d)=r:=⟨_,rfl⟩;have heq:=rz y1 y2 c d r1 hr1;have R1:=O hr1;clear hr1;cases r1
      ·go_wp2_with fail
       go_roundw
       case rel=>exact⟨k+1,xs,ls,ea,Fy,by omega,by go_num,mZ.out,by have:=WG.out; have:=WF.out; omega,uS.out,Gw.out,xC.out,uT.out,by rw [TK.out,if_neg (by intro hh; have h1:=hh.1; rw [TE.out] at h1; have h2:=R1.out; simp at h1; simp [h1] at h2)]; exact EN.out,K8.out,by rw [TK.out,if_neg (by intro hh; have h1:=hh.1; rw [TE.out] at h1; have h2:=R1.out; simp at h1; simp [h1] at h2)]; exact LN.out⟩
       case measure=>simp [intOf]; omega
      ·cases y7
       ·obtain⟨cv,hcv⟩:∃ r,eX mk.1 (c,d) e.p=r:=⟨_,rfl⟩;have CO:=uQ me (J no nn nc) (J ao an ac) (J so sn sc) (J oo dU oc) (ea,n,Fy) xs mk.1 (c,d) (J yo yn yc) e.p wa (aQ uT.out) (EN.out.mono fun _ _ h=>h.on mZ.out) (Rq.out.2.2.2.2.on mZ.out) OKK.out OKE.out;rw [hcv] at CO;rw [hcv] at TK;clear hcv;go_wp2_with fail;refine CO.mono ?_;rintro e2 wb ⟨rfl,hb⟩;clear CO;clear x0 x1 x2 x3 x4 x5 Es y_1 z0 z1 z2 z3 z4 z5 z6;have kV:=O (mZ.out.trans (hb.mono mZ.out.size));have tL:=O (uS.out.on hb);have Rt:=O (Gw.out.on hb);have Ru:=O (xC.out.on hb);have tN:=O (Bk.dB uT.out hb);have K9:=O (Bk.dB K8.out hb);have CQ:=O (Rs.out.on hb);clear mZ uS Gw xC uT K8 Rs;have WGb:=O (aB WG.out hb.size);clear hb WG;have WG:=O WGb.out;cases cv
        ·rw [if_pos ⟨by rw [TE.out]; have h:=R1.out; simp at h; rw [h.1,h.2],UE.out,rfl⟩] at TK;have NB:=fE wb (ah #[] 68);obtain⟨va,x1,q1,oa,ga⟩:=gy mY (w:=wb.alloc (ah #[] 68)) wb.heap.size (dL wb #[] 68) (aG _) (aQ (dB tN.out NB)) (by rw [XN.out]; omega) 30;have G1:=O (NB.trans (ga.mono NB.size));have m4:=(tL.out.on NB).cell 4;simp only [aF,aC,aD] at m4;rcases iT oa with⟨_,h0⟩|⟨g,cg,_,rfl,hBg,_,_⟩
         ·rw [h0] at XN;have:=XN.out;simp at this;omega
         rw [XN.out] at q1 oa;have q1:(bD #[30,30] 30 #[J (Z ⟨wb.heap.size,0,X⟩) 0 0,J ea n Fy]).run aJ (wb.alloc (ah #[] 68))=.ok (J (Z ⟨g,0,X⟩) n cg) x1:=q1;have OA:=O (dG oa (show w.heap.size+4<=wb.heap.size from by have:=WG.out; have:=WF.out; omega));have GL:=O (aB hBg (aG g));clear oa ga NB;have OLB:=O (K9.out);have Gx:=O (kV.out.trans (G1.out.mono kV.out.size));have qN:=O (tL.out.on G1.out);have Yk:=O (Rt.out.on G1.out);have Gy:=O (Ru.out.on G1.out);have La:=O (Bk.dB tN.out G1.out);have Yl:=O (Bk.dB K9.out G1.out);have pE:=O (CQ.out.on G1.out);clear kV tL Rt Ru tN K9 CQ;have WG1:=O (aB WG.out G1.out.size);obtain⟨x0,x1,x2,x3,x4,x5⟩:=qN.out.fA;obtain⟨xf0,xf1,WU,WV,NZ,WW⟩:=qN.out.kg;have hl4:=qN.out.lt;go_upto_region 15 with (first | (at_builtin; refine aM rfl _ _ 30 rfl rfl rfl q1 ?_) | fail)
         clear x0 x1 x2 x3 x4 x5 xf0 xf1 WU WV NZ WW;clear hl4 q1 m4;have X4b:=dN (k:=4) qN.out (J (Z ⟨g,0,X⟩) n cg);simp only [bP,cZ,bL] at X4b;have BK:=dQ x1 w.heap.size 4 (J (Z ⟨g,0,X⟩) n cg);have GB2:=O (Gx.out.setCell (p:=⟨w.heap.size,4,X⟩) (aG _) (J (Z ⟨g,0,X⟩) n cg));have Y4:=O X4b;have Y5:=O (BK.box Yk.out (by omega));have Y8:=O (BK.box Gy.out (by omega));have OA2:=O (dM OA.out w.heap.size 4 (J (Z ⟨g,0,X⟩) n cg) (by omega));have OL2:=O (dM Yl.out w.heap.size 4 (J (Z ⟨g,0,X⟩) n cg) (by omega));have WG2:=O (show wr.heap.size<=(x1.setCell ⟨w.heap.size,4,X⟩ (J (Z ⟨g,0,X⟩) n cg)).heap.size from by have:=WG1.out; simpa using this);clear X4b BK OA WG1 Gx qN Yk Gy La Yl pE;generalize x1.setCell ⟨w.heap.size,4,X⟩ (J (Z ⟨g,0,X⟩) n cg)=x2 at *;have UP:=WR OA2.out HY.out;obtain⟨u1,u2,u3⟩:=UP;simp only at u1 u2;have ix:=nI mY g k n cg hlt;have ix:∀ w,(Instr.indexAt 30 (J (Z ⟨g,0,X⟩) n cg) (U V (k:Int))).run aJ w=.ok (au (Z ⟨g,k * 7,X⟩)) w:=ix;have x4:=Y4.out.cell 4;simp only [aF,aC,aD] at x4;have OU:=O u1;clear u1;have gl:g<x2.heap.size:=by obtain⟨cur,hb⟩:=jS OA2.out; exact hb.lt
         go_upto_region 16 with fail;clear u2 u3 x4 gl;have BG:=dQ x2 g (k * 7+6) (aj aU);have GG:=O (show w.heap.size+4<=g from by have:=WG.out; have:=WF.out; have:=GL.out; omega);have GB3:=O (GB2.out.setCell (p:=⟨g,k * 7+6,X⟩) (by have:=GG.out; show w.heap.size<=g; omega) (aj aU));have Z4:=O (BG.box Y4.out (by have:=GG.out; omega));have Z5:=O (BG.box Y5.out (by have:=GG.out; omega));have Z8:=O (BG.box Y8.out (by have:=GG.out; omega));have LG:=O (show u13.ownBlock=X\/u13.ownBlock≠Z g from by
          cases hob:u13.ownBlock with
          | none=>exact bU rfl
          | some j =>
           refine aP fun e=>?_;injection e with e
           have h1:=(OLB.out.lt j hob).2;have h2:=GL.out;omega)
         have OL3:=O (OL2.out.kept (w':=x2.setCell ⟨g,k * 7+6,X⟩ (aj aU)) (row:=Z g) ⟨rfl,rfl,rfl,by simp [World.setCell],fun j _ hne=>Y _ _ _ _ (fun e=>hne (by rw [e]))⟩ LG.out);have WG3:=O (show wr.heap.size<=(x2.setCell ⟨g,k * 7+6,X⟩ (aj aU)).heap.size from by have:=WG2.out; simpa using this);clear BG GB2 Y4 Y5 Y8 OA2 OL2 WG2;generalize x2.setCell ⟨g,k * 7+6,X⟩ (aj aU)=x3 at *;have OU2:=OU.out;have hset:(xs.set k (y1,y2,y3,y4,(yo,yn,yc),y6,aU))[k]?=Z (y1,y2,y3,y4,(yo,yn,yc),y6,aU):=List.getElem?_set_self (by rw [XN.out]; exact hlt);have ce:∀ j u,(iG (y1,y2,y3,y4,(yo,yn,yc),y6,aU))[j]?=Z u->x3.cell? ((⟨g,k * 7,X⟩:Addr).add j)=Z u:=jW mY OU2 hset x3 (aI _ _);have c0_:=ce 0 _ rfl;have c1_:=ce 1 _ rfl;have c2_:=ce 2 _ rfl;have c3_:=ce 3 _ rfl;have c4_:=ce 4 _ rfl;have c5_:=ce 5 _ rfl;have c6_:=ce 6 _ rfl;simp [Addr.add] at c0_ c1_ c2_ c3_ c4_ c5_ c6_;have x4:=Z4.out.cell 4;simp only [aF,aC,aD] at x4;have hlit:=gT mY x3 [(y1,y2,y3,y4,(yo,yn,yc),y6,aU)] 1 rfl (by simp) #[U V y1,U V y2,U V y3,U V y4,J yo yn yc,U V y6,aj aU] rfl;have NB:=fE x3 (ah #[U V y1,U V y2,U V y3,U V y4,J yo yn yc,U V y6,aj aU] 68);have hB:w.heap.size+4<=(x3.alloc (ah #[U V y1,U V y2,U V y3,U V y4,J yo yn yc,U V y6,aj aU] 68)).heap.size:=aB (aB WF.out WG3.out) NB.size;obtain⟨v',x5,q2,o2,g2⟩:=fT mY (w.heap.size+4) (dB OL3.out NB) (aQ hlit) (by have:=LN9.out; omega) (by simp) hB 30;have q2:(bD #[30,30] 30 #[u13,J (Z ⟨x3.heap.size,0,X⟩) 1 1]).run aJ (x3.alloc (ah #[U V y1,U V y2,U V y3,U V y4,J yo yn yc,U V y6,aj aU] 68))=.ok v' x5:=q2;have GF:=O (show Below w.heap.size w x5 from ((GB3.out.trans (NB.mono GB3.out.size)).grown g2 (by omega) fun j hj=>by have:=((dB OL3.out NB).lt j hj).1; omega));have BO:=O (show ∀ j,j<x3.heap.size->Z j≠u13.ownBlock->x5.heap[j]?=x3.heap[j]? from fun j hj hne=>(g2.block j (Nat.lt_of_lt_of_le hj NB.size) hne).trans (NB.block j hj));have ZX:=fun (bb:Nat) (cs:Array aV) (tt:TypeId) (hbb:bb<w.heap.size+4) (hbx:dJ x3 bb cs tt)=>show dJ x5 bb cs tt from (BO.out bb hbx.lt (fun e=>by have:=(OL3.out.lt bb e.symm).1; omega)).trans hbx;have V4:=O (ZX _ _ _ (by omega) Z4.out);have V5:=O (ZX _ _ _ (by omega) Z5.out);have V8:=O (ZX _ _ _ (by omega) Z8.out);have OU5:=O (show jg x5 (w.heap.size+4) (J (Z ⟨g,0,X⟩) n cg) (xs.set k (y1,y2,y3,y4,(yo,yn,yc),y6,aU)) from by
          have h1:=Bk.dB OU.out NB;exact h1.kept g2 (by
           cases hob:u13.ownBlock with
           | none=>exact aP (by simp [Value.ownBlock])
           | some j =>
            refine aP fun e=>?_;have h2:=LG.out;rw [hob] at h2;rcases h2 with h2|h2
            ·cases h2
            ·exact h2 (by rw [<- e]; rfl)))
         have O2:=O o2;have W5:=O (aB WG3.out (aB NB.size g2.size));clear hlit hB o2 g2 ZX BO OU2 NB hset ce;go_wp2_with (first | (at_builtin; refine aM rfl _ _ 30 rfl rfl rfl q2 ?_) | fail)
         go_roundw
         case rel=>exact⟨k+1,_,_,Z ⟨g,0,X⟩,cg,by omega,by go_num,GF.out,by have:=WF.out; have:=W5.out; omega,V4.out,V5.out,V8.out,OU5.out,by
          rw [TK.out];exact EN.out.set2 k ⟨Rq.out.1,Rq.out.2.1,Rq.out.2.2.1,rfl,Rq.out.2.2.2.2⟩,O2.out,by
          rw [TK.out];exact LN.out.append (.cons ⟨Rq.out.1,Rq.out.2.1,Rq.out.2.2.1,rfl,Rq.out.2.2.2.2⟩ .nil)⟩
         case measure=>simp [intOf]; omega
        ·go_wp2_with fail
         go_roundw
         case rel=>exact⟨k+1,xs,ls,ea,Fy,by omega,by go_num,kV.out,by have:=WG.out; have:=WF.out; omega,tL.out,Rt.out,Ru.out,tN.out,by rw [TK.out,if_neg (by simp)]; exact EN.out,K9.out,by rw [TK.out,if_neg (by simp)]; exact LN.out⟩
         case measure=>simp [intOf]; omega
       ·go_wp2_with fail
        go_roundw
        case rel=>exact⟨k+1,xs,ls,ea,Fy,by omega,by go_num,mZ.out,by have:=WG.out; have:=WF.out; omega,uS.out,Gw.out,xC.out,uT.out,by rw [TK.out,if_neg (by intro hh; have h1:=hh.2.1; rw [UE.out] at h1; cases h1)]; exact EN.out,K8.out,by rw [TK.out,if_neg (by intro hh; have h1:=hh.2.1; rw [UE.out] at h1; cases h1)]; exact LN.out⟩
        case measure=>simp [intOf]; omega
     ·obtain rfl:k=n:=by omega
      obtain⟨x0,x1,x2,x3,x4,x5⟩:=tK.out.fA;obtain⟨la,lc,hlv⟩:=(aQ K6.out).len;obtain⟨ln,hln⟩:∃ n,n=ls.length:=⟨_,rfl⟩;rw [<- hln] at hlv;subst hlv;clear hln;obtain⟨r0,r1,r2,r3,r4,r5⟩:=CK.out.fA;obtain⟨Cx,Cy,Cz,CF,CG,CJ⟩:=CK.out.kg;have zz:=CK.out.lt;have FB:=O (dK CK.out (U V me) (J no nn nc) (J ao an ac) (J so sn sc) (J ea k Fy) (J oo dU oc));have BL:=O (dD (b:=w.heap.size+1+1+1) KZ.out (by omega) (U V me) (J no nn nc) (J ao an ac) (J so sn sc) (J ea k Fy) (J oo dU oc));have Nn:=O (eY mJ.out (w.heap.size+1+1+1) (by omega) (U V me) (J no nn nc) (J ao an ac) (J so sn sc) (J ea k Fy) (J oo dU oc));have OL2:=O (eY K6.out (w.heap.size+1+1+1) (by omega) (U V me) (J no nn nc) (J ao an ac) (J so sn sc) (J ea k Fy) (J oo dU oc));go_wp2_with fail;obtain⟨v0,v1,v2,v3,v4,v5⟩:=FB.out.fA;refine aH (v:=.tuple #[bf #[U V me,J no nn nc,J ao an ac,J so sn sc,J ea k Fy,J oo dU oc],J la ln lc,aj aU]) (by simp [results,bN,go_sem,v0,v1,v2,v3,v4,v5]) rfl ?_;rw [LB.out];have hI:=HH.out.on BL.out;exact⟨⟨(ea,k,Fy),(la,ln,lc),rfl,⟨hI.near,hI.dO,hI.seen,⟨xs,aQ Nn.out,EN.out.mono fun _ _ h=>h.on BL.out⟩,hI.own⟩,ls,aQ OL2.out,LN.out.mono fun _ _ h=>h.on BL.out⟩,BL.out⟩
  ·rw [if_pos hpf] at LB;have hne:(fr != f)=aU:=by simp [hpf]
   obtain⟨x0,x1,x2,x3,x4,x5⟩:=mg.out.fA;obtain⟨r0,r1,r2,r3,r4,r5⟩:=qW.out.fA;obtain⟨Cx,Cy,Cz,CF,CG,CJ⟩:=qW.out.kg;have zz:=qW.out.lt;have FB:=O (dK qW.out (U V me) (J no nn nc) (J ao an ac) (J so sn sc) (J eo n3 ec) (J oo dU oc));have BL:=O (dD (b:=w.heap.size+1+1+1) lD.out (by omega) (U V me) (J no nn nc) (J ao an ac) (J so sn sc) (J eo n3 ec) (J oo dU oc));go_wp2_with fail;obtain⟨v0,v1,v2,v3,v4,v5⟩:=FB.out.fA;refine aH (v:=.tuple #[bf #[U V me,J no nn nc,J ao an ac,J so sn sc,J eo n3 ec,J oo dU oc],J X 0 0,aj aA]) (by simp [results,bN,go_sem,v0,v1,v2,v3,v4,v5]) rfl ?_;rw [LB.out];exact⟨⟨(eo,n3,ec),(X,0,0),rfl,HH.out.on BL.out,[],ji _,.nil⟩,BL.out⟩
structure Ou where
 gV:Int
 kind:Int
 tree:Id
 id:Id
 p:List C5
def rJ (W:aO) (x:nC) (o:Ou):Prop:=x.1=o.gV/\x.2.1=o.kind/\(x.2.2.1,x.2.2.2.1)=o.tree/\(x.2.2.2.2.1,x.2.2.2.2.2.1)=o.id/\fK W (dR x.2.2.2.2.2.2.1) o.p/\x.2.2.2.2.2.2.2=(X,0,0)
theorem rJ.on {W W':aO} {x:nC} {o:Ou} (h:rJ W x o) (hb:Below W.heap.size W W'):rJ W' x o:=⟨h.1,h.2.1,h.2.2.1,h.2.2.2.1,h.2.2.2.2.1.on hb,h.2.2.2.2.2⟩
def kS (W:aO) (s:Sl) (l:List Ou):Prop:=∃ xs,AX W (dR s) xs/\eB (rJ W) xs l
theorem kS.on {W W':aO} {s:Sl} {l:List Ou} (h:kS W s l) (hb:Below W.heap.size W W'):kS W' s l:=by
 obtain⟨xs,h1,h2⟩:=h;exact⟨xs,h1.on hb,h2.mono fun _ _ h=>h.on hb⟩
theorem pF (W:aO):kS W (X,0,0) []:=⟨[],ji _,.nil⟩
def A9 (gV:Int) (e:En):Ou:=⟨gV,3,e.tree,e.sub,e.p⟩
abbrev JF (gV:Int) (x:iA):nC:=(gV,3,x.1,x.2.1,x.2.2.1,x.2.2.2.1,x.2.2.2.2.1,(X,0,0))
theorem aa8 {W:aO} {x:iA} {e:En} (h:iW W x e) (t:Int):rJ W (JF t x) (A9 t e):=⟨rfl,rfl,h.1,h.2.1,h.2.2.2.2,rfl⟩
def jM (b:Br) (t x:Id) (f:Int):Br×List Ou:=if (takeB b t x f).2.2=aA then ((takeB b t x f).1,[]) else
 match b.dO[(fG (b.dO.map Ad.id) t).toNat]? with
 | none=>((takeB b t x f).1,[])
 | some a=>((takeB b t x f).1,(takeB b t x f).2.1.map (A9 a.par)++[⟨a.par,4,t,x,[]⟩])
theorem jv (b:Br) (t x:Id) (f:Int):(takeB b t x f).1.dO=b.dO/\(takeB b t x f).1.near=b.near/\(takeB b t x f).1.me=b.me/\(takeB b t x f).1.seen=b.seen/\(takeB b t x f).1.own=b.own:=by
 unfold takeB
 split
 ·exact⟨rfl,rfl,rfl,rfl,rfl⟩
 ·split
  ·exact⟨rfl,rfl,rfl,rfl,rfl⟩
  ·split
   ·exact⟨rfl,rfl,rfl,rfl,rfl⟩
   ·split <;> exact⟨rfl,rfl,rfl,rfl,rfl⟩
theorem JG {b:Br} {t x:Id} {f:Int} (h:(takeB b t x f).2.2=aU):∃ e∈b.ent,e.tree=t:=by
 unfold takeB at h
 split at h
 ·cases h
 ·rename_i e he
  split at h
  ·cases h
  ·rename_i h1
   rcases mI (b.ent.map fB) (t,x) with h2|⟨k,h2,h3⟩
   ·exact absurd h2 h1
   ·rw [h2,bG] at he;refine⟨e,aW he,?_⟩;rw [bH,he] at h3;exact congrArg Prod.fst (bK h3)
theorem sM (b:Br) (t x:Id) (f:Int):(takeB b t x f).1.ent.length<=b.ent.length/\(takeB b t x f).2.1.length<=b.ent.length:=by
 unfold takeB
 split
 ·simp
 ·split
  ·simp
  ·split
   ·simp
   ·have hc:(cutAt b.ent (iL (b.ent.map fB) (t,x)).toNat).length<=b.ent.length:=by
     unfold cutAt;rw [aS,bJ,List.length_drop];omega
    split
    ·exact⟨hc,by simp⟩
    ·have h1:=nK t (cutAt b.ent (iL (b.ent.map fB) (t,x)).toNat) (cutAt b.ent (iL (b.ent.map fB) (t,x)).toNat).length;exact⟨by rw [show ((iM t _ _).1.length)=_ from h1.1]; exact hc,aB h1.2 hc⟩
theorem uU {W x:aO} {b F0:Nat} {cs:Array aV} {t:TypeId} (h:dJ W b cs t) (hb:Below F0 W x) (hl:b<F0):dJ x b cs t:=(hb.block b hl).trans h
end Bk
namespace Av
open Go.RowKit Rw YtkcfgbddlpomgaaGreat.Nm Pr Bk Go.Sort
theorem Rv {α:Type} [Inhabited α] (enc:α->aV) (d:Array α) (cur:Array aV) (h:d.size<=cur.size):(putCells enc 0 d cur).toList.take d.size=d.toList.map enc:=by
 apply List.ext_getElem?;intro j;rw [dh];by_cases hj:j<d.size
 ·have hc:j<cur.size:=by omega
  simp [putCells,hj,hc]
 ·simp [hj]
theorem za {α β:Type} [Inhabited β] {E:Ek α} (K:E.Ok) {w:aO} {B g cap:Nat} {l l':List α} (h:Own E w B (J (Z ⟨g,0,X⟩) l.length cap) l) (enc:β->aV) (d:Array β) (hd:d.toList.map enc=flat E l') (hl:l'.length=l.length) (n:Nat) (os:Array Obj) :
  Own E (grow (putRow enc (aY w n) g 0 d) os) B (J (Z ⟨g,0,X⟩) l.length cap) l'/\w.grownBy (grow (putRow enc (aY w n) g 0 d) os) (Z g):=by
 have hds:d.size=l.length * E.n:=by
  rw [<- hl,<- dZ K l',<- hd];simp
 rcases iT h with⟨e,_⟩|⟨g',cap',cur,e,h1,h2,h3,h4,h5,h6⟩
 ·cases e
 obtain⟨rfl,rfl⟩:g=g'/\cap=cap':=by simpa using e
 have hlt:=lt_of_heap h2;have hb:(grow (putRow enc (aY w n) g 0 d) os).heap[g]?=Z (ah (putCells enc 0 d cur) E.t (0,0)):=by
  rw [heap_grow_old _ _ (by simp [putRow,mapBlock,aY]; exact hlt)];unfold dJ at h2;simp only [putRow,mapBlock,aY,Array.getElem?_modify,if_true,h2]
  rfl
 have hfit:d.size<=cur.size:=by
  rw [hds,h5];exact cO _ h3
 refine⟨⟨by rw [dZ K],aP ⟨g,cap,_,by rw [hl],h1,hb,by rw [hl]; exact h3,h4,by simp [putCells]; exact h5,?_⟩⟩,⟨rfl,rfl,rfl,by simp [putRow,mapBlock,aY],fun k hk hne=>?_⟩⟩
 ·rw [hl,<- hds,Rv enc d cur hfit,hd]
 ·rw [heap_grow_old _ _ (by simp [putRow,mapBlock,aY]; exact hk)];have hkg:g≠k:=fun e=>hne (by rw [e]);simp [putRow,mapBlock,aY,Array.getElem?_modify,hkg]
theorem CX {α:Type} {E:Ek α} {w:aO} {B g cap:Nat} {l:List α} (K:E.Ok) {β:Type} [Inhabited β] (enc:β->aV) (d:Array β) (hd:d.toList.map enc=flat E l) (h:Own E w B (J (Z ⟨g,0,X⟩) l.length cap) l):Holds enc w g 0 d/\g<w.heap.size:=by
 rcases iT h with⟨e,_⟩|⟨g',cap',cur,e,h1,h2,h3,h4,h5,h6⟩
 ·cases e
 obtain⟨rfl,rfl⟩:g=g'/\cap=cap':=by simpa using e
 refine⟨fun j hj=>?_,h2.lt⟩;rw [Nat.zero_add];refine⟨?_,h2.fr j⟩;rw [h2.cell j];have hsz:d.size=l.length * E.n:=by
  rw [<- dZ K l,<- hd];simp
 have h7:(cur.toList.take (l.length * E.n))[j]?=(d.toList.map enc)[j]?:=by rw [h6,hd]
 rw [dh,if_pos (by omega)] at h7;rw [Array.getElem?_toList] at h7;rw [h7,bH,Array.getElem?_toList,getElem!_pos d j hj,Array.getElem?_eq_getElem hj]
 rfl
theorem CY (w:aO) (B:Nat) (v:aV) (l:List Int) (h:lU w B v l) (hlen:l.length<=900):Calls aJ 75 #[v] w fun e w'=>e=bI (.tuple #[])/\∃ l':List Int,lU w' B v l'/\l'.Perm l/\l'.Pairwise (·<=·)/\w.grownBy w' v.ownBlock:=by
 rcases iT h with⟨rfl,rfl⟩|⟨g,cap,cur,rfl,h1,h2,h3,h4,h5,h6⟩
 ·have hc:=Any.slices_Sort_int_none Tryz.sortI X 0 w;refine Calls.mono hc ?_;rintro e w' ⟨rfl,rfl⟩;exact⟨rfl,[],h,List.Perm.refl _,List.Pairwise.nil,Rw.qy _ _⟩
 ·obtain⟨hh,hlt⟩:=CX Nm.Jd (U V) l.toArray (by rw [FM]) h;have hc:=Any.slices_Sort_int Tryz.sortI g 0 cap l w hh hlt (by omega);refine Calls.mono hc ?_;rintro e w' ⟨rfl,n,os,rfl⟩;have hs:=za Nm.Jd (l':=l.mergeSort fun x y=>decide (x<=y)) h (U V) (l.mergeSort fun x y=>decide (x<=y)).toArray (by rw [FM]) (List.length_mergeSort l) n os;refine⟨rfl,_,hs.1,List.mergeSort_perm _ _,?_,hs.2⟩;have hp:=List.pairwise_mergeSort (le:=fun x y:Int=>decide (x<=y)) (fun a b c h1 h2=>by simp at h1 h2 ⊢; omega) (fun a b=>by simp; omega) l;exact hp.imp (fun {a b} hab=>by simpa using hab)
theorem Gz (d:Array Int) (n:Nat) (hs:∀ i j,i<=j->j<n->d[i]!<=d[j]!):∀ m,m<=n->(∀ x∈aZ d m,∃ j,j<m/\d[j]! = x)/\(∀ j,j<m->d[j]!∈aZ d m)/\(aZ d m).Pairwise (·<·)
 | 0,_=>⟨fun x h=>by simp [aZ] at h,fun j h=>by omega,by simp [aZ]⟩
 | m+1,hm=>by
  obtain⟨h1,h2,h3⟩:=Gz d n hs m (by omega);rw [Lib.compactUpTo_succ];cases hk:Lib.keeps d m with
  | false =>
   simp only [Bool.false_eq_true,if_false,List.append_nil];have hk':m≠0/\d[m]! = d[m-1]!:=by
    have h:=of_decide_eq_false hk;rw [not_or] at h;exact⟨h.1,Classical.not_not.1 h.2⟩
   refine⟨fun x hx=>?_,fun j hj=>?_,h3⟩
   ·obtain⟨j,hj,e⟩:=h1 x hx;exact⟨j,by omega,e⟩
   ·rcases Nat.lt_or_ge j m with h|h
    ·exact h2 j h
    ·obtain rfl:j=m:=by omega
     rw [hk'.2];exact h2 _ (by omega)
  | true =>
   simp only [if_true];have hk':m=0\/d[m]!≠d[m-1]!:=of_decide_eq_true hk;refine⟨fun x hx=>?_,fun j hj=>?_,?_⟩
   ·rcases bn.1 hx with h|h
    ·obtain⟨j,hj,e⟩:=h1 x h;exact⟨j,by omega,e⟩
    ·exact⟨m,by omega,(bE.1 h).symm⟩
   ·rcases Nat.lt_or_ge j m with h|h
    ·exact List.mem_append_left _ (h2 j h)
    ·obtain rfl:j=m:=by omega
     exact List.mem_append_right _ (by simp)
   ·rw [List.pairwise_append];refine⟨h3,List.pairwise_singleton _ _,fun a ha b hb=>?_⟩;obtain⟨j,hj,rfl⟩:=h1 a ha;rw [bE.1 hb];have a1:=hs j (m-1) (by omega) (by omega);have a2:=hs (m-1) m (by omega) (by omega);rcases hk' with h|h
    ·omega
    ·omega
theorem JH (l:List Int) (hs:l.Pairwise (·<=·)):(aK l).Pairwise (·<·)/\(∀ x,x∈aK l↔x∈l)/\(aK l).length<=l.length:=by
 have hd:∀ i j,i<=j->j<l.length->l.toArray[i]!<=l.toArray[j]!:=by
  intro i j hij hj;rw [getElem!_pos l.toArray i (by simp; omega),getElem!_pos l.toArray j (by simpa using hj)];rcases Nat.lt_or_ge i j with h|h
  ·have:=List.pairwise_iff_getElem.1 hs i j (by omega) hj h;simpa using this
  ·obtain rfl:i=j:=by omega
   exact Int.le_refl _
 obtain⟨h1,h2,h3⟩:=Gz l.toArray l.length hd l.length (aG _);refine⟨h3,fun x=>⟨fun hx=>?_,fun hx=>?_⟩,?_⟩
 ·obtain⟨j,hj,rfl⟩:=h1 x hx;rw [getElem!_pos l.toArray j (by simpa using hj)];simp
 ·obtain⟨j,hj,rfl⟩:=List.mem_iff_getElem.1 hx;have:=h2 j hj;rw [getElem!_pos l.toArray j (by simpa using hj)] at this;simpa [aK] using this
 ·unfold aK aZ;rw [aN];exact aB (bY _ _) (by simp)
theorem GD (w:aO) (B:Nat) (v:Sl) (l:List Int) (h:lU w B (dR v) l) (hs:l.Pairwise (·<=·)) (hlen:l.length<=900):Calls aJ 76 #[dR v] w fun e w'=>(∃ v':Sl,e=bI (dR v')/\∃ l':List Int,lU w' B (dR v') l'/\l'.Pairwise (·<·)/\∀ x,x∈l'↔x∈l)/\w.grownBy w' (dR v).ownBlock:=by
 obtain⟨vo,vn,vc⟩:=v;rcases iT h with⟨h0,rfl⟩|⟨g,cap,cur,h0,h1,h2,h3,h4,h5,h6⟩
 ·obtain⟨rfl,rfl,rfl⟩:vo=X/\vn=0/\vc=0:=by simpa using h0
  have hc:=Any.slices_Compact_int_empty Tryz.cptI X 0 w;refine Calls.mono hc ?_;rintro e w' ⟨rfl,rfl⟩;exact⟨⟨(X,0,0),rfl,[],h,List.Pairwise.nil,fun _=>Iff.rfl⟩,Rw.qy _ _⟩
 ·obtain⟨rfl,rfl,rfl⟩:vo=Z ⟨g,0,X⟩/\vn=l.length/\vc=cap:=by simpa using h0
  obtain⟨hh,hlt⟩:=CX Nm.Jd (U V) l.toArray (by rw [FM]) h;have hc:=Any.slices_Compact_int Tryz.cptI g 0 vc l w hh (by omega) h3;obtain⟨c1,c2,c3⟩:=JH l hs;refine Calls.mono hc ?_;rintro e w' ⟨rfl,n,rfl⟩;have ht:=za Nm.Jd (l':=aK l++bQ (l.length-(aK l).length) 0) h (U V) (aK l++bQ (l.length-(aK l).length) 0).toArray (by rw [FM]) (by rw [aS,List.length_replicate]; omega) n #[];have hg:grow (putRow (U V) (aY w n) g 0 (aK l++bQ (l.length-(aK l).length) 0).toArray) #[]=putRow (U V) (aY w n) g 0 (aK l++bQ (l.length-(aK l).length) 0).toArray:=grow_empty _;rw [hg] at ht;refine⟨⟨(Z ⟨g,0,X⟩,(aK l).length,vc),rfl,aK l,?_,c1,c2⟩,ht.2⟩;rcases iT ht.1 with⟨e,_⟩|⟨g',cap',cur',e,k1,k2,k3,k4,k5,k6⟩
  ·cases e
  ·obtain⟨rfl,_,rfl⟩:g=g'/\l.length=_/\vc=cap':=by simpa using e
   refine uF Nm.Jd rfl k1 k2 (aB c3 h3) k4 k5 ?_;have k7:=congrArg (List.take ((aK l).length * EI.n)) k6;rw [List.take_take,vS Nm.Jd,Nat.min_eq_left (cO _ (by rw [aS]; omega)),List.take_left'] at k7
   ·exact k7
   ·rfl
end Av
namespace Bk
open Go.RowKit Go.Sort Rw YtkcfgbddlpomgaaGreat.Nm Pr
def dV (W F0:Nat) (bv rv:aV) (gV c d c2 d2:Int) (lo:List nC) (i:Nat) (v:aV) (x:aO):Prop :=
 match i with
 | 0=>v=bv
 | 1=>v=rv
 | 2=>v=U V gV
 | 3=>v=mD (c,d)
 | 4=>v=mD (c2,d2)
 | 5=>v=bf #[U V 4,U V c,U V d,U V c2,U V d2,J X 0 0,J X 0 0]
 | 6=>v=yS (gV,4,c,d,c2,d2,(X,0,0),(X,0,0))
 | 7=>jd x W v [(gV,4,c,d,c2,d2,(X,0,0),(X,0,0))]
 | 8=>∃ sl:Sl,v=dR sl/\jd x F0 v (lo++[(gV,4,c,d,c2,d2,(X,0,0),(X,0,0))])
 | 10=>∃ sl:Sl,v=dR sl/\jd x F0 v (lo++[(gV,4,c,d,c2,d2,(X,0,0),(X,0,0))])
 | _=>True
def dF (W:aO) (F0 b4 b5 b6 b8:Nat) (bc:Array aV) (c d c2 d2:Int) (D:Nat->Prop) (x:aO):Prop :=
 (dJ x b4 bc 33/\dJ x b5 #[U V c,U V d] 38/\dJ x b6 #[U V c2,U V d2] 38)/\(¬ D 8->Below W.heap.size W x)/\(¬ D 9->Below F0 W x)/\(D 9->dJ x b8 bc 33/\(∀ j,j<F0->j≠b8->x.heap[j]?=W.heap[j]?)/\∀ B,B<=b8->Below B W x)
noncomputable def Lb:Code:=((Tryz.f59.body.bind (eG 11)).getD .skip)
theorem Rx (Q:Exit->Act->aO->Prop) (W:aO) (F0 b4 b5 b6 b8:Nat) (me gV c d c2 d2:Int) (o1 o2 o3 o4 o5:Option Addr) (n1 k1 n2 k2 n3 k3 n4 k4 n5 k5:Nat) (rv:aV) (lo:List nC) (z0 z1 z2 z3 z4 z5:aV) (u0 u1 u2 u3 u7 u9 u10 u11 u14 u15 u16 u17 u18 u19 u20 u21 u22 u23 u24 u25 u26 u27 u28 u29 u30 u31 u32 u33 u34 u35 u36 u37 u38 u39 u40 u41 u42 u43 u44 u45 u46 u47 u48 u49 u50 u51 u52 u53 u54 u55 u56 u57 u58:aV)
  (h4:dJ W b4 #[U V me,J o1 n1 k1,J o2 n2 k2,J o3 n3 k3,J o4 n4 k4,J o5 n5 k5] 33) (h5:dJ W b5 #[U V c,U V d] 38) (h6:dJ W b6 #[U V c2,U V d2] 38) (h8:dJ W b8 #[z0,z1,z2,z3,z4,z5] 33) (l4:b4<F0) (l5:b5<F0) (l6:b6<F0) (l8:b8<F0) (n4_:b4≠b8) (n5_:b5≠b8) (n6_:b6≠b8) (fw:F0<=W.heap.size) (hown:jd W F0 rv lo) (hlen:lo.length<=1000)
  (hQ:∀ (a:Act) (x:aO) (sl:Sl),a.defers=[]->a.tmps[8]?=Z (au (Z ⟨b8,0,X⟩))->a.tmps[9]?=Z (dR sl)->dJ x b8 #[U V me,J o1 n1 k1,J o2 n2 k2,J o3 n3 k3,J o4 n4 k4,J o5 n5 k5] 33->jd x F0 (dR sl) (lo++[(gV,4,c,d,c2,d2,(X,0,0),(X,0,0))])->(∀ k,k<F0->k≠b8->x.heap[k]?=W.heap[k]?)->(∀ B,B<=b8->Below B W x)->Q .normal a x) :
  Code.wp aJ Lb Q ⟨(u0::u1::u2::u3::au (Z ⟨b4,0,X⟩)::au (Z ⟨b5,0,X⟩)::au (Z ⟨b6,0,X⟩)::u7::au (Z ⟨b8,0,X⟩)::u9::u10::u11::U V gV::rv::u14::u15::u16::u17::u18::u19::u20::u21::u22::u23::u24::u25::u26::u27::u28::u29::u30::u31::u32::u33::u34::u35::u36::u37::u38::u39::u40::u41::u42::u43::u44::u45::u46::u47::u48::u49::u50::u51::u52::u53::u54::u55::u56::u57::u58::[]).toArray,[]⟩ W:=by
 have HQ:=O hQ;have H4:=O h4;have H5:=O h5;have H6:=O h6;have H8:=O h8;have L4:=O l4;have L5:=O l5;have L6:=O l6;have L8:=O l8;have N4:=O n4_;have N5:=O n5_;have N6:=O n6_;have FW:=O fw;have HO:=O hown;have HL:=O hlen;clear hQ h4 h5 h6 h8 l4 l5 l6 l8 n4_ n5_ n6_ fw hown hlen;unfold Lb
 conv=>arg 2; whnf
 have nd:∀ j,(∀ i,i<11->[Z 50,Z 51,Z 52,Z 53,Z 54,Z 55,Z 56,Z 57,Z 58,X,Z 9].getD i X≠Z j)->∀ i,i<11->(fun i=>[Z 50,Z 51,Z 52,Z 53,Z 54,Z 55,Z 56,Z 57,Z 58,X,Z 9].getD i X) i≠Z j:=fun j h=>h;refine Rg.xq 11 (fun i=>[Z 50,Z 51,Z 52,Z 53,Z 54,Z 55,Z 56,Z 57,Z 58,X,Z 9].getD i X) (fun i=>if i=7 then 8 else 11) (dV W.heap.size F0 (bf #[U V me,J o1 n1 k1,J o2 n2 k2,J o3 n3 k3,J o4 n4 k4,J o5 n5 k5]) rv gV c d c2 d2 lo) (dF W F0 b4 b5 b6 b8 #[U V me,J o1 n1 k1,J o2 n2 k2,J o3 n3 k3,J o4 n4 k4,J o5 n5 k5] c d c2 d2) (by kernel_rfl) (by kernel_rfl) rfl (fun i j e hi hj h1 h2=>(by decide:∀ i,i<11->∀ j,j<11->([Z 50,Z 51,Z 52,Z 53,Z 54,Z 55,Z 56,Z 57,Z 58,X,Z 9].getD i X).isSome=aU->[Z 50,Z 51,Z 52,Z 53,Z 54,Z 55,Z 56,Z 57,Z 58,X,Z 9].getD i X=[Z 50,Z 51,Z 52,Z 53,Z 54,Z 55,Z 56,Z 57,Z 58,X,Z 9].getD j X->i=j) i hi j hj (by have h1:[Z 50,Z 51,Z 52,Z 53,Z 54,Z 55,Z 56,Z 57,Z 58,X,Z 9].getD i X=Z e:=h1; rw [h1]; rfl) (h1.trans h2.symm)) (fun i e hi h=>(by decide:∀ i,i<11->∀ q∈[Z 50,Z 51,Z 52,Z 53,Z 54,Z 55,Z 56,Z 57,Z 58,X,Z 9].getD i X,q<59) i hi e h) ⟨⟨H4.out,H5.out,H6.out⟩,fun _=>(aI _ _).drew,fun _=>(aI _ _).drew,False.elim⟩ ?_ ?_
 ·intro i o hi ho a x D hnd hc hD hF seen K hK;clear HQ;have still:∀ i,i≠8->i≠9->dF W F0 b4 b5 b6 b8 #[U V me,J o1 n1 k1,J o2 n2 k2,J o3 n3 k3,J o4 n4 k4,J o5 n5 k5] c d c2 d2 (fun j=>j=i\/D j) x:=fun i h8 h9=>⟨hF.1,fun h=>hF.2.1 fun h2=>h (aP h2),fun h=>hF.2.2.1 fun h2=>h (aP h2),fun h=>hF.2.2.2 (h.resolve_left (Ne.symm h9))⟩;rcases (by omega:i=0\/i=1\/i=2\/i=3\/i=4\/i=5\/i=6\/i=7\/i=8\/i=9\/i=10) with rfl|rfl|rfl|rfl|rfl|rfl|rfl|rfl|rfl|rfl|rfl
  ·cases ho;have e4:a.eval (aR 4)=au (Z ⟨b4,0,X⟩):=seen.kp 4 _ (nd 4 (by decide)) rfl;exact bF rfl rfl (Rg.dY a.eval _ 33 (aR 4) rfl (by rw [e4]; exact wm hF.1.1)) (hK _ _ rfl (still 0 (by decide) (by decide)) fun _ _ _ _ _ _ _ h=>h)
  ·cases ho;have e13:a.eval (aR 13)=rv:=seen.kp 13 _ (nd 13 (by decide)) rfl;exact bF rfl rfl (Rg.fU a.eval _ (aR 13) rfl x) (hK _ _ e13 (still 1 (by decide) (by decide)) fun _ _ _ _ _ _ _ h=>h)
  ·cases ho;have e12:a.eval (aR 12)=U V gV:=seen.kp 12 _ (nd 12 (by decide)) rfl;exact bF rfl rfl (Rg.fU a.eval _ (aR 12) rfl x) (hK _ _ e12 (still 2 (by decide) (by decide)) fun _ _ _ _ _ _ _ h=>h)
  ·cases ho;have e5:a.eval (aR 5)=au (Z ⟨b5,0,X⟩):=seen.kp 5 _ (nd 5 (by decide)) rfl;exact bF rfl rfl (Rg.dY a.eval _ 38 (aR 5) rfl (by rw [e5]; exact Bz x _ (c,d) (Ky hF.1.2.1))) (hK _ _ rfl (still 3 (by decide) (by decide)) fun _ _ _ _ _ _ _ h=>h)
  ·cases ho;have e6:a.eval (aR 6)=au (Z ⟨b6,0,X⟩):=seen.kp 6 _ (nd 6 (by decide)) rfl;exact bF rfl rfl (Rg.dY a.eval _ 38 (aR 6) rfl (by rw [e6]; exact Bz x _ (c2,d2) (Ky hF.1.2.2))) (hK _ _ rfl (still 4 (by decide) (by decide)) fun _ _ _ _ _ _ _ h=>h)
  ·cases ho;have e53:a.eval (aR 53)=mD (c,d):=seen.at_ ⟨3,.data⟩ (by simp) rfl (aP (by decide)) _ rfl;have e54:a.eval (aR 54)=mD (c2,d2):=seen.at_ ⟨4,.data⟩ (by simp) rfl (aP (by decide)) _ rfl;exact bF rfl rfl (Rg.jO a.eval _ 43 #[(0,.const (U V 4)),(1,aR 53),(2,aR 54)] rfl (ps:=#[(0,U V 4),(1,mD (c,d)),(2,mD (c2,d2))]) (by simp only [List.map_toArray,bV,List.map_nil,e53,e54]; rfl) (by simp [go_sem])) (hK _ _ rfl (still 5 (by decide) (by decide)) fun _ _ _ _ _ _ _ h=>h)
  ·cases ho;have e52:a.eval (aR 52)=U V gV:=seen.at_ ⟨2,.data⟩ (by simp) rfl (aP (by decide)) _ rfl;have e55:a.eval (aR 55)=bf #[U V 4,U V c,U V d,U V c2,U V d2,J X 0 0,J X 0 0]:=seen.at_ ⟨5,.data⟩ (by simp) rfl (aP (by decide)) _ rfl;exact bF rfl rfl (Rg.jO a.eval _ 58 #[(0,aR 52),(1,aR 55)] rfl (ps:=#[(0,U V gV),(1,bf #[U V 4,U V c,U V d,U V c2,U V d2,J X 0 0,J X 0 0])]) (by simp only [List.map_toArray,bV,List.map_nil,e52,e55]) (by simp [go_sem])) (hK _ _ rfl (still 6 (by decide) (by decide)) fun _ _ _ _ _ _ _ h=>h)
  ·cases ho;have e56:a.eval (aR 56)=yS (gV,4,c,d,c2,d2,(X,0,0),(X,0,0)):=seen.at_ ⟨6,.data⟩ (by simp) rfl (aP (by decide)) _ rfl;have n8:¬ D 8:=fun h=>hnd (hc 8 _ h rfl ⟨7,.data⟩ (by simp) rfl);have n9:¬ D 9:=fun h=>n8 (hc 9 _ h rfl ⟨8,.chain⟩ (by simp) rfl);have hb:=hF.2.1 n8;have hl:=gT Fx x [((gV,4,c,d,c2,d2,(X,0,0),(X,0,0)):nC)] 1 rfl (by simp) (jQ (gV,4,c,d,c2,d2,(X,0,0),(X,0,0))).toArray (by simp [flat,EU]);have nb:=fE x (ah (jQ (gV,4,c,d,c2,d2,(X,0,0),(X,0,0))).toArray 58);exact bF rfl rfl (Rg.iJ a.eval _ 44 1 #[(0,aR 56)] rfl (ps:=#[(0,yS (gV,4,c,d,c2,d2,(X,0,0),(X,0,0)))]) (by simp [e56]) (by simp [go_sem])) (hK (J (Z ⟨x.heap.size,0,X⟩) 1 1) (x.alloc (ah (jQ (gV,4,c,d,c2,d2,(X,0,0),(X,0,0))).toArray 58)) (dG hl hb.size) ⟨⟨hF.1.1.on nb,hF.1.2.1.on nb,hF.1.2.2.on nb⟩,fun _=>hb.trans (nb.mono hb.size),fun _=>(hb.trans (nb.mono hb.size)).mono FW.out,fun h=>absurd (h.resolve_left (by decide)) n9⟩ fun j u hj dj nl nx ni h=>by
    rcases (by omega:j=0\/j=1\/j=2\/j=3\/j=4\/j=5\/j=6\/j=7\/j=8\/j=9\/j=10) with rfl|rfl|rfl|rfl|rfl|rfl|rfl|rfl|rfl|rfl|rfl
    ·exact h
    ·exact h
    ·exact h
    ·exact h
    ·exact h
    ·exact h
    ·exact h
    ·exact absurd rfl ni
    ·exact absurd dj n8
    ·exact h
    ·exact absurd (hc 10 _ dj rfl ⟨8,.data⟩ (by simp) rfl) n8)
  ·cases ho;have e51:a.eval (aR 51)=rv:=seen.at_ ⟨1,.data⟩ (by simp) rfl (aP (by decide)) _ rfl;have o57:jd x W.heap.size (a.eval (aR 57)) [(gV,4,c,d,c2,d2,(X,0,0),(X,0,0))]:=seen.at_ ⟨7,.data⟩ (by simp) rfl (bU rfl) _ rfl;have hb:=hF.2.1 hnd;have n9:¬ D 9:=fun h=>hnd (hc 9 _ h rfl ⟨8,.chain⟩ (by simp) rfl);have n10:¬ D 10:=fun h=>hnd (hc 10 _ h rfl ⟨8,.data⟩ (by simp) rfl);obtain⟨v',x',r,o',gr⟩:=fT Fx F0 (Bk.dB HO.out hb) (aQ o57) HL.out (by simp) (aB FW.out hb.size) 44;obtain⟨sa,sc,hsv⟩:=(aQ o').len;have hb2:Below F0 W x':=(hb.mono FW.out).grown gr (aB FW.out hb.size) fun j hj=>((Bk.dB HO.out hb).lt j hj).1;have vv:dV W.heap.size F0 (bf #[U V me,J o1 n1 k1,J o2 n2 k2,J o3 n3 k3,J o4 n4 k4,J o5 n5 k5]) rv gV c d c2 d2 lo 8 v' x':=⟨(sa,(lo++[(gV,4,c,d,c2,d2,(X,0,0),(X,0,0))]).length,sc),hsv,o'⟩;have ff:dF W F0 b4 b5 b6 b8 #[U V me,J o1 n1 k1,J o2 n2 k2,J o3 n3 k3,J o4 n4 k4,J o5 n5 k5] c d c2 d2 (fun j=>j=8\/D j) x':=⟨⟨uU H4.out hb2 L4.out,uU H5.out hb2 L5.out,uU H6.out hb2 L6.out⟩,fun h=>absurd (bU rfl) h,fun _=>hb2,fun h=>absurd (h.resolve_left (by decide)) n9⟩;have st:∀ j u,j<11->D j->(fun i=>if i=7 then 8 else 11) j≠8->j≠8->dV W.heap.size F0 (bf #[U V me,J o1 n1 k1,J o2 n2 k2,J o3 n3 k3,J o4 n4 k4,J o5 n5 k5]) rv gV c d c2 d2 lo j u x->dV W.heap.size F0 (bf #[U V me,J o1 n1 k1,J o2 n2 k2,J o3 n3 k3,J o4 n4 k4,J o5 n5 k5]) rv gV c d c2 d2 lo j u x':=fun j u hj dj nx ni h=>by
    rcases (by omega:j=0\/j=1\/j=2\/j=3\/j=4\/j=5\/j=6\/j=7\/j=8\/j=9\/j=10) with rfl|rfl|rfl|rfl|rfl|rfl|rfl|rfl|rfl|rfl|rfl
    ·exact h
    ·exact h
    ·exact h
    ·exact h
    ·exact h
    ·exact h
    ·exact h
    ·exact absurd rfl nx
    ·exact absurd rfl ni
    ·exact h
    ·exact absurd dj n10
   have q:=hK v' x' vv ff fun j u hj dj _ nx ni h=>st j u hj dj nx ni h;exact bF rfl rfl (Rg.fO a.eval _ (aR 51) (aR 57) 44 rfl e51 rfl r) q
  ·cases ho;have e50:a.eval (aR 50)=bf #[U V me,J o1 n1 k1,J o2 n2 k2,J o3 n3 k3,J o4 n4 k4,J o5 n5 k5]:=seen.at_ ⟨0,.data⟩ (by simp) rfl (aP (by decide)) _ rfl;have e8:a.eval (aR 8)=au (Z ⟨b8,0,X⟩):=seen.kp 8 _ (nd 8 (by decide)) rfl;obtain⟨sl,h58,o58⟩:∃ sl:Sl,a.eval (aR 58)=dR sl/\jd x F0 (a.eval (aR 58)) (lo++[(gV,4,c,d,c2,d2,(X,0,0),(X,0,0))]):=seen.at_ ⟨8,.chain⟩ (by simp) rfl (aP (by decide)) _ rfl;have hb:=hF.2.2.1 hnd;have H8x:=uU H8.out hb L8.out;have s4:=dH x b8 (U V me) (J o1 n1 k1) (J o2 n2 k2) (J o3 n3 k3) (J o4 n4 k4) (J o5 n5 k5);have d8:D 8:=hD ⟨8,.chain⟩ (by simp) rfl;have n10:¬ D 10:=fun h=>hnd (hc 10 _ h rfl ⟨9,.chain⟩ (by simp) rfl);have hx:=dK H8x (U V me) (J o1 n1 k1) (J o2 n2 k2) (J o3 n3 k3) (J o4 n4 k4) (J o5 n5 k5);have hy:∀ B,B<=b8->Below B W (gP x b8 (U V me) (J o1 n1 k1) (J o2 n2 k2) (J o3 n3 k3) (J o4 n4 k4) (J o5 n5 k5)):=fun B hB=>dD (hb.mono (Nat.le_of_lt (dn hB L8.out))) hB _ _ _ _ _ _;have hs:=sI H8x me o1 o2 o3 o4 o5 n1 k1 n2 k2 n3 k3 n4 k4 n5 k5;have so:∀ v l,jd x F0 v l->jd (gP x b8 (U V me) (J o1 n1 k1) (J o2 n2 k2) (J o3 n3 k3) (J o4 n4 k4) (J o5 n5 k5)) F0 v l:=fun v l h=>eY h b8 L8.out _ _ _ _ _ _;generalize gP x b8 (U V me) (J o1 n1 k1) (J o2 n2 k2) (J o3 n3 k3) (J o4 n4 k4) (J o5 n5 k5)=x2 at *;have ff:dF W F0 b4 b5 b6 b8 #[U V me,J o1 n1 k1,J o2 n2 k2,J o3 n3 k3,J o4 n4 k4,J o5 n5 k5] c d c2 d2 (fun j=>j=9\/D j) x2:=⟨⟨(s4 b4 N4.out).trans hF.1.1,(s4 b5 N5.out).trans hF.1.2.1,(s4 b6 N6.out).trans hF.1.2.2⟩,fun h=>absurd (aP d8) h,fun h=>absurd (bU rfl) h,fun _=>⟨hx,fun j hj hne=>(s4 j hne).trans (hb.block j hj),hy⟩⟩;have st:∀ j u,j<11->D j->¬ D ((fun i=>if i=7 then 8 else 11) j)->j≠9->dV W.heap.size F0 (bf #[U V me,J o1 n1 k1,J o2 n2 k2,J o3 n3 k3,J o4 n4 k4,J o5 n5 k5]) rv gV c d c2 d2 lo j u x->dV W.heap.size F0 (bf #[U V me,J o1 n1 k1,J o2 n2 k2,J o3 n3 k3,J o4 n4 k4,J o5 n5 k5]) rv gV c d c2 d2 lo j u x2:=fun j u hj dj nl ni h=>by
    rcases (by omega:j=0\/j=1\/j=2\/j=3\/j=4\/j=5\/j=6\/j=7\/j=8\/j=9\/j=10) with rfl|rfl|rfl|rfl|rfl|rfl|rfl|rfl|rfl|rfl|rfl
    ·exact h
    ·exact h
    ·exact h
    ·exact h
    ·exact h
    ·exact h
    ·exact h
    ·exact absurd d8 nl
    ·obtain⟨s,h1,h2⟩:=h;exact⟨s,h1,so _ _ h2⟩
    ·exact h
    ·exact absurd dj n10
   have q:=hK (aj aU) x2 trivial ff fun j u hj dj nl _ ni h=>st j u hj dj nl ni h;have q2:K a x2:=q;exact Rg.fM 33 (aR 8) (aR 50) rfl rfl rfl rfl e8 e50 hs q2
  ·cases ho;obtain⟨sl,h58,o58⟩:∃ sl:Sl,a.eval (aR 58)=dR sl/\jd x F0 (a.eval (aR 58)) (lo++[(gV,4,c,d,c2,d2,(X,0,0),(X,0,0))]):=seen.at_ ⟨8,.data⟩ (by simp) rfl (aP (by decide)) _ rfl;exact bF rfl rfl (Rg.kU a.eval _ (aR 58) rfl x) (hK _ _ ⟨sl,h58,o58⟩ (still 10 (by decide) (by decide)) fun _ _ _ _ _ _ _ h=>h)
 ·intro a x df sz kp ⟨vs,hv⟩ ⟨D,hall,hF⟩;obtain⟨sl,h1,h2⟩:=(hv 10 (by omega)).2 (by decide);have g9:a.tmps[9]?=Z (dR sl):=by
   rw [<- h1];exact (hv 10 (by omega)).1 9 rfl
  obtain⟨e1,e2,e3⟩:=hF.2.2.2 (hall 9 (by omega));rw [h1] at h2;exact HQ.out a x sl df ((kp 8 (nd 8 (by decide))).trans rfl) g9 e1 h2 e2 e3
theorem CZ {W W':aO} {k:Nat} {me:Int} {s1 s2 s3 s4 s5:Sl} {v:aV} {l:List iA} {m:List En} (h1:jZ W v l) (h2:eB (iW W) l m) (hb:dJ W k (iw me s1 s2 s3 s4 s5) 33) (hk:∀ j,j<W.heap.size->j≠k->W'.heap[j]?=W.heap[j]?):jZ W' v l/\eB (iW W') l m :=
 ⟨fQ mY h1 hk (jq hb (fun _=>⟨_,_,rfl,rfl⟩) (j5 me s1 s2 s3 s4 s5)),h2.mono fun _ _ hx=>⟨hx.1,hx.2.1,hx.2.2.1,hx.2.2.2.1,fQ AO hx.2.2.2.2 hk (mE hb (kK me s1 s2 s3 s4 s5))⟩⟩
theorem iQ {W W':aO} {k:Nat} {me:Int} {s1 s2 s3 s4 s5:Sl} {s:Sl} {m:List Ou} (h:kS W s m) (hb:dJ W k (iw me s1 s2 s3 s4 s5) 33) (hk:∀ j,j<W.heap.size->j≠k->W'.heap[j]?=W.heap[j]?):kS W' s m:=by
 obtain⟨xs,h1,h2⟩:=h;exact⟨xs,fQ Fx h1 hk (jq hb (fun c=>⟨_,_,rfl,rfl⟩) (j5 me s1 s2 s3 s4 s5)),h2.mono fun x a hx=>⟨hx.1,hx.2.1,hx.2.2.1,hx.2.2.2.1,fQ AO hx.2.2.2.2.1 hk (mE hb (kK me s1 s2 s3 s4 s5)),hx.2.2.2.2.2⟩⟩
theorem iU (b:Br) (t x:Id) (f:Int):(jM b t x f).1=(takeB b t x f).1:=by
 unfold jM
 split
 ·rfl
 ·split <;> rfl
theorem WX {W:aO} {l:List iA} {m:List En} (t:Int) (h:eB (iW W) l m):eB (rJ W) (l.map (JF t)) (m.map (A9 t)):=by
 induction h with
 | nil=>exact .nil
 | cons x _ ih=>exact .cons (aa8 x t) ih
theorem C8 (b:Br) (nv av sv ev ov:Sl) (x s:Id) (f:Int) (w:aO) (h:gZ w b nv av sv ev ov) (l2:b.dO.length<=900) (l3:b.ent.length<=900) (hok:∀ e∈b.ent,dW e.p) (hkn:∀ e∈b.ent,e.tree∈b.dO.map Ad.id) :
  Calls aJ 59 #[ny b.me nv av sv ev ov,mD x,mD s,U V f] w fun e w'=>(∃ ev' lo:Sl,e=bI (.tuple #[ny b.me nv av sv ev' ov,dR lo])/\gZ w' (jM b x s f).1 nv av sv ev' ov/\kS w' lo (jM b x s f).2)/\Below w.heap.size w w':=by
 obtain⟨no,nn,nc⟩:=nv;obtain⟨ao,an,ac⟩:=av;obtain⟨so,sn,sc⟩:=sv;obtain⟨eo,en,ec⟩:=ev;obtain⟨oo,dU,oc⟩:=ov;obtain⟨c,d⟩:=x;obtain⟨c2,d2⟩:=s;have TK:=O (fun W hb'=>NW b (no,nn,nc) (ao,an,ac) (so,sn,sc) (eo,en,ec) (oo,dU,oc) (c,d) (c2,d2) f W (h.on (show Below w.heap.size w W from hb')) l3 hok);have vO:=O h.near;have L2:=O l2;have L3:=O l3;have KN:=O hkn;obtain⟨h0,h1,h2,h3,h4⟩:=Gv w #[U V b.me,J no nn nc,J ao an ac,J so sn sc,J eo en ec,J oo dU oc] #[U V c,U V d] #[U V c2,U V d2] #[U V 0,J X 0 0,J X 0 0,J X 0 0,J X 0 0,J X 0 0] 33 38 38 33;obtain⟨me,hme⟩:∃ me,me=b.me:=⟨_,rfl⟩;simp only [<- hme] at h0 h1 h2 h3 h4 TK ⊢;have gH:=O (h0);have tq:=O (h1);have kR:=O (h2);have lC:=O (h3);have AZ:=O (h4);clear h0 h1 h2 h3 h4 h l2 l3 hme hok hkn;go_enter Tryz.func59,Tryz.ntmps59;go_upto_region 1 with fail;generalize ((((w.alloc (ah #[U V me,J no nn nc,J ao an ac,J so sn sc,J eo en ec,J oo dU oc] 33)).alloc (ah #[U V c,U V d] 38)).alloc (ah #[U V c2,U V d2] 38)).alloc (ah #[U V 0,J X 0 0,J X 0 0,J X 0 0,J X 0 0,J X 0 0] 33))=W at *;have SW:=O (TK.out W gH.out);clear TK;obtain⟨x0,x1,x2,x3,x4,x5⟩:=tq.out.fA;obtain⟨y0,y1⟩:=kR.out.cs2;obtain⟨z0,z1⟩:=lC.out.cs2;go_wp2_with fail;refine SW.out.mono ?_;rintro e1 w1 ⟨⟨⟨ea,gW,gX⟩,⟨la,ln,lc⟩,rfl,hbr,xs,hrow,hall⟩,hb⟩;clear SW;clear x0 x1 x2 x3 x4 x5 y0 y1 z0 z1;obtain⟨fb,JI⟩:∃ r,(takeB b (c,d) (c2,d2) f).2.2=r:=⟨_,rfl⟩;have LB:=O JI;rw [JI];obtain⟨qa,qc,hq⟩:=hrow.len;obtain rfl:ln=xs.length:=by simpa using congrArg (fun v=>match v with|Value.slice _ n _=>n|_=>0) hq
 obtain⟨ln,hln⟩:∃ n,n=xs.length:=⟨_,rfl⟩;simp only [<- hln] at hrow ⊢;have LN:=O hln.symm;clear hln hq;have iR:=O (gH.out.trans (hb.mono gH.out.size));have nD:=O (tq.out.on hb);have Ry:=O (kR.out.on hb);have Et:=O (lC.out.on hb);have N7:=O (AZ.out.on hb);clear gH tq kR lC AZ;obtain⟨k0,k1,k2,k3,k4,k5⟩:=nD.out.fA;obtain⟨pG,pI,pJ,pK,pO,pQ⟩:=nD.out.kg;have zz:=nD.out.lt;have FB:=O (dK nD.out (U V me) (J no nn nc) (J ao an ac) (J so sn sc) (J ea gW gX) (J oo dU oc));have B2:=O (dD (b:=w.heap.size) iR.out (aG _) (U V me) (J no nn nc) (J ao an ac) (J so sn sc) (J ea gW gX) (J oo dU oc));have F5:=O (show dJ _ _ _ _ from (dH w1 w.heap.size (U V me) (J no nn nc) (J ao an ac) (J so sn sc) (J ea gW gX) (J oo dU oc) (w.heap.size+1) (by omega)).trans Ry.out);have F6:=O (show dJ _ _ _ _ from (dH w1 w.heap.size (U V me) (J no nn nc) (J ao an ac) (J so sn sc) (J ea gW gX) (J oo dU oc) (w.heap.size+1+1) (by omega)).trans Et.out);have F8:=O (show dJ _ _ _ _ from (dH w1 w.heap.size (U V me) (J no nn nc) (J ao an ac) (J so sn sc) (J ea gW gX) (J oo dU oc) (w.heap.size+1+1+1) (by omega)).trans N7.out);have HB:=O (eZ (s1:=(no,nn,nc)) (s2:=(ao,an,ac)) (s3:=(so,sn,sc)) (s4:=(eo,en,ec)) (s5:=(oo,dU,oc)) hbr nD.out (fun j _ hj=>dH w1 w.heap.size (U V me) (J no nn nc) (J ao an ac) (J so sn sc) (J ea gW gX) (J oo dU oc) j hj) (by rw [(jv b (c,d) (c2,d2) f).2.1]; exact vO.out.on B2.out));have HX:=O (CZ (s1:=(no,nn,nc)) (s2:=(ao,an,ac)) (s3:=(so,sn,sc)) (s4:=(eo,en,ec)) (s5:=(oo,dU,oc)) hrow hall nD.out (fun j _ hj=>dH w1 w.heap.size (U V me) (J no nn nc) (J ao an ac) (J so sn sc) (J ea gW gX) (J oo dU oc) j hj));clear JI hbr hb hrow hall iR nD Ry Et N7;go_upto_region 2 with fail;clear zz k0 k1 k2 k3 k4 k5 pG pI pJ pK pO pQ;unfold gP at FB B2 F5 F6 F8 HB HX;generalize ((((((w1.setCell ⟨w.heap.size,0,X⟩ (U V me)).setCell ⟨w.heap.size,1,X⟩ (J no nn nc)).setCell ⟨w.heap.size,2,X⟩ (J ao an ac)).setCell ⟨w.heap.size,3,X⟩ (J so sn sc)).setCell ⟨w.heap.size,4,X⟩ (J ea gW gX)).setCell ⟨w.heap.size,5,X⟩ (J oo dU oc))=w2 at *;have lD:=O (B2.out);have uj:=O (FB.out);have WY:=O (F5.out);have GH:=O (F6.out);have ze:=O (F8.out);clear B2 FB F5 F6 F8;cases fb
 ·have x0:=uj.out.cell 0;have x1:=uj.out.cell 1;have x2:=uj.out.cell 2;have x3:=uj.out.cell 3;have x4:=uj.out.cell 4;have x5:=uj.out.cell 5;simp only [aF,aC,aD] at x0 x1 x2 x3 x4 x5;obtain⟨r0,r1,r2,r3,r4,r5⟩:=ze.out.fA;obtain⟨Cx,Cy,Cz,CF,CG,CJ⟩:=ze.out.kg;have zz:=ze.out.lt;have GG:=O (dK ze.out (U V me) (J no nn nc) (J ao an ac) (J so sn sc) (J ea gW gX) (J oo dU oc));have BL:=O (dD (b:=w.heap.size+1+1+1) lD.out (by omega) (U V me) (J no nn nc) (J ao an ac) (J so sn sc) (J ea gW gX) (J oo dU oc));have HC:=O (eZ (s1:=(X,0,0)) (s2:=(X,0,0)) (s3:=(X,0,0)) (s4:=(X,0,0)) (s5:=(X,0,0)) HB.out ze.out (fun j _ hj=>dH w2 (w.heap.size+1+1+1) (U V me) (J no nn nc) (J ao an ac) (J so sn sc) (J ea gW gX) (J oo dU oc) j hj) (by rw [(jv b (c,d) (c2,d2) f).2.1]; exact vO.out.on BL.out));clear HB HX;go_wp2_with fail;obtain⟨v0,v1,v2,v3,v4,v5⟩:=GG.out.fA;refine aH (v:=.tuple #[bf #[U V me,J no nn nc,J ao an ac,J so sn sc,J ea gW gX,J oo dU oc],J X 0 0]) (by simp [results,Tryz.results59,go_sem,v0,v1,v2,v3,v4,v5]) rfl ?_;have hd:jM b (c,d) (c2,d2) f=((takeB b (c,d) (c2,d2) f).1,[]):=by unfold jM; rw [if_pos LB.out]
  rw [hd];exact⟨⟨(ea,gW,gX),(X,0,0),rfl,HC.out,pF _⟩,BL.out⟩
 ·obtain⟨e0,he0,ht0⟩:=JG LB.out;have hmem:(c,d)∈b.dO.map Ad.id:=ht0 ▸ KN.out e0 he0;obtain⟨k,hk1,hk2⟩:=Cw _ _ hmem;rw [bH] at hk2;obtain⟨a,hak⟩:∃ a,b.dO[k]?=Z a:=by
   cases h:b.dO[k]? with
   | none=>rw [h] at hk2; cases hk2
   | some a=>exact⟨a,rfl⟩
  have DB:=O (show jM b (c,d) (c2,d2) f=((takeB b (c,d) (c2,d2) f).1,(takeB b (c,d) (c2,d2) f).2.1.map (A9 a.par)++[⟨a.par,4,(c,d),(c2,d2),[]⟩]) from by
   unfold jM;rw [if_neg (by rw [LB.out]; simp),hk1,bG,hak])
  clear hk2 hmem he0 ht0 e0;obtain⟨ad,xP,uW⟩:=HB.out.dO;rw [(jv b (c,d) (c2,d2) f).1] at uW;obtain⟨z,hz1,hz2⟩:=uW.at k a hak;have FD:=sw me (J no nn nc) (J ea gW gX) (J so sn sc) (J oo dU oc) (ao,an,ac) ad (c,d);rw [yI uW,hk1] at FD;obtain⟨q1,q2,hq⟩:=xP.len;obtain⟨rfl,rfl,rfl⟩:ao=q1/\an=ad.length/\ac=q2:=by
   have:J ao an ac=J q1 ad.length q2:=hq;simpa using this
  obtain⟨p,ix,px⟩:=VQ xP rfl rfl hz1;obtain⟨p0,p1,p2,p3⟩:=px w2 (aI _ _);obtain⟨z1,z2,⟨z3,z4,z5⟩,z6⟩:=z;simp only at p0 p1 p2 p3;obtain rfl:z6=a.par:=hz2.2.1;have CE:=O (fun d os=>Calls.regrown_of (d:=d) (os:=os) (FD _ (xP.on (aX w2 d os))));obtain⟨an,han⟩:∃ n,n=ad.length:=⟨_,rfl⟩;clear FD hq px p0 p1 p2;have q3:=ak p3;simp only [<- han] at ix CE uj HB;have HAN:=O han;clear han hz2 hak hk1 uW xP hz1 p3;have a0:=ak (show w2.cell? ⟨w.heap.size,0,X⟩=Z (U V me) from uj.out.cell 0);have a1:=ak (show w2.cell? ⟨w.heap.size,1,X⟩=Z (J no nn nc) from uj.out.cell 1);have a2:=ak (show w2.cell? ⟨w.heap.size,2,X⟩=Z (J ao an ac) from uj.out.cell 2);have a3:=ak (show w2.cell? ⟨w.heap.size,3,X⟩=Z (J so sn sc) from uj.out.cell 3);have a4:=ak (show w2.cell? ⟨w.heap.size,4,X⟩=Z (J ea gW gX) from uj.out.cell 4);have a5:=ak (show w2.cell? ⟨w.heap.size,5,X⟩=Z (J oo dU oc) from uj.out.cell 5);have b0:=ak (show w2.cell? ⟨w.heap.size+1,0,X⟩=Z (U V c) from WY.out.cell 0);have b1:=ak (show w2.cell? ⟨w.heap.size+1,1,X⟩=Z (U V d) from WY.out.cell 1);go_upto_region 4 with fail;refine wp_region_quiet_below (by kernel_rfl) (by kernel_rfl) ?_
  repeat (go_big_quiet_step (first | (with_reducible exact CE.out _ _)))
  refine wpQuiet_nil ?_;intro _ hw';obtain⟨⟨dq,osq⟩,hw''⟩:=hw';subst hw'';have Z6:=aX w2 dq osq;have HB2:=O (HB.out.on Z6);have HX2:=O (show jZ _ _ _/\eB (iW _) _ _ from ⟨HX.out.1.on Z6,HX.out.2.mono fun _ _ h=>h.on Z6⟩);have C9:=O (lD.out.trans (Z6.mono lD.out.size));have Ym:=O (uj.out.on Z6);have Yn:=O (WY.out.on Z6);have Yo:=O (GH.out.on Z6);have oD:=O (ze.out.on Z6);clear lD uj WY GH ze;clear Z6 HB HX CE ix q3 a0 a1 a2 a3 a4 a5 b0 b1;generalize grow (redrawn w2 dq) osq=w3 at *;generalize a.par=gV at *;go_wp2_with fail
  go_loopw [13,38] (fun v i wr=>∃ k:Nat,k<=ln/\i=U V k/\Below w3.heap.size w3 wr/\jd wr w3.heap.size v ((xs.take k).map (JF gV))) (fun _ i _=>ln-(intOf i).toNat)
  case atStart=>exact⟨0,cK _,rfl,aI _ _,fZ _ _⟩
  case round =>
   obtain⟨k,hk,rfl,hbe,hown⟩:=hrel;have BE:=O hbe;have OE:=O hown;clear hbe hown;have L9:=O (show ln<=900 from by have h1:=HX2.out.2.len; rw [LN.out] at h1; rw [h1]; exact aB (sM b (c,d) (c2,d2) f).2 L3.out);have l9:=L9.out;by_cases hlt:k<ln
   ·have hlt':(k:Int)<(ln:Int):=by omega
    have hw:IntKind.i64.wrap ((k:Int)+1)=(k:Int)+1:=bO _ (by omega);obtain⟨y,hy⟩:∃ y,xs[k]?=Z y:=⟨_,ay (by rw [LN.out]; exact hlt)⟩;obtain⟨p,ix,px⟩:=P7 HX2.out.1 rfl LN.out hy;obtain⟨p0,p1,p2,p3,p4,p5,p6⟩:=px wr BE.out;have TKY:=O (show (xs.take (k+1)).map (JF gV)=(xs.take k).map (JF gV)++[JF gV y] from by rw [List.take_add_one,hy]; simp);obtain⟨y1,y2,y3,y4,⟨yo,yn,yc⟩,y6,y7⟩:=y;simp only at p0 p1 p2 p3 p4 p5 p6;clear px hy;go_upto_region 9 with fail;clear p0 p1 p2 p3 p4 p5 p6 ix;have NN:=fE wr (ah #[U V y1,U V y2,U V y3,U V y4,J yo yn yc,U V y6,aj y7] 68);have XE:=dL wr #[U V y1,U V y2,U V y3,U V y4,J yo yn yc,U V y6,aj y7] 68;have Rz:=O (BE.out.trans (NN.mono BE.out.size));have Nn:=O (Bk.dB OE.out NN);clear BE OE NN;generalize wr.alloc (ah #[U V y1,U V y2,U V y3,U V y4,J yo yn yc,U V y6,aj y7] 68)=wa at *;obtain⟨c0_,c1_,c2_,c3_,c4_,c5_,c6_⟩:=XE.mU;have SB:=xZ (y1,y2,y3,y4,(yo,yn,yc),y6,y7) wa;go_wp2_with fail;refine SB.mono ?_;rintro e3 wb ⟨rfl,hb⟩;clear SB XE c0_ c1_ c2_ c3_ c4_ c5_ c6_;have BE3:=O (Rz.out.trans (hb.mono Rz.out.size));have OE3:=O (Bk.dB Nn.out hb);clear hb Rz Nn;have hl:=gT Fx wb [((gV,3,y1,y2,y3,y4,(yo,yn,yc),(X,0,0)):nC)] 1 rfl (by simp) #[U V gV,U V 3,U V y1,U V y2,U V y3,U V y4,J yo yn yc,J X 0 0] (by rfl);have NB:=fE wb (ah #[U V gV,U V 3,U V y1,U V y2,U V y3,U V y4,J yo yn yc,J X 0 0] 58);obtain⟨v',x5,q2,o2,g2⟩:=fT Fx w3.heap.size (Bk.dB OE3.out NB) (aQ hl) (by rw [aN,bJ]; omega) (by simp) (aB BE3.out.size NB.size) 44;have q2:(bD #[44,44] 44 #[u13,J (Z ⟨wb.heap.size,0,X⟩) 1 1]).run aJ (wb.alloc (ah #[U V gV,U V 3,U V y1,U V y2,U V y3,U V y4,J yo yn yc,J X 0 0] 58))=.ok v' x5:=q2;have BX:=O ((BE3.out.trans (NB.mono BE3.out.size)).grown g2 (aB BE3.out.size NB.size) (fun j hj=>((Bk.dB OE3.out NB).lt j hj).1));have O2:=O o2;clear hl NB o2 g2;go_wp2_with (first | (at_builtin; refine aM rfl _ _ 44 rfl rfl rfl q2 ?_) | fail)
    go_roundw
    case rel=>exact⟨k+1,hlt,by go_num,BX.out,by rw [TKY.out]; exact O2.out⟩
    case measure=>simp [intOf]; omega
   ·obtain rfl:k=ln:=by omega
    have ht:xs.take k=xs:=bW (by rw [LN.out]; exact aG _);rw [ht] at OE;clear ht;go_upto_region 11 with fail;refine Rx _ wr w3.heap.size w.heap.size (w.heap.size+1) (w.heap.size+1+1) (w.heap.size+1+1+1) me gV c d c2 d2 no ao so ea oo nn nc an ac sn sc gW gX dU oc u13 (xs.map (JF gV)) _ _ _ _ _ _ _ _ _ _ _ _ _ _ _ _ _ _ _ _ _ _ _ _ _ _ _ _ _ _ _ _ _ _ _ _ _ _ _ _ _ _ _ _ _ _ _ _ _ _ _ _ _ _ _ _ _ _ _ (Ym.out.on BE.out) (Yn.out.on BE.out) (Yo.out.on BE.out) (oD.out.on BE.out) Ym.out.lt Yn.out.lt Yo.out.lt oD.out.lt (by omega) (by omega) (by omega) BE.out.size OE.out (by rw [aN,LN.out]; omega) ?_;intro a9 x9 sl Gs h69 h79 hbx ho hblk hbl;have BL:=O (show Below w.heap.size w x9 from (C9.out.trans (BE.out.mono C9.out.size)).trans (hbl w.heap.size (by omega)));have HK:=O (show ∀ j,j<w3.heap.size->j≠w.heap.size+1+1+1->x9.heap[j]?=w3.heap[j]? from fun j hj hne=>(hblk j hj hne).trans (BE.out.block j hj));have HC:=O (eZ (s1:=(X,0,0)) (s2:=(X,0,0)) (s3:=(X,0,0)) (s4:=(X,0,0)) (s5:=(X,0,0)) HB2.out oD.out HK.out (by rw [(jv b (c,d) (c2,d2) f).2.1]; exact vO.out.on BL.out));have HX3:=O (CZ (s1:=(X,0,0)) (s2:=(X,0,0)) (s3:=(X,0,0)) (s4:=(X,0,0)) (s5:=(X,0,0)) HX2.out.1 HX2.out.2 oD.out HK.out);have HU:=O (aQ ho);obtain⟨v0,v1,v2,v3,v4,v5⟩:=hbx.fA;clear hbx ho hblk hbl HB2 HX2 BE OE;simp only [Exit.then]
    apply_assumption
    go_wp2_with fail;refine aH (v:=.tuple #[bf #[U V me,J no nn nc,J ao an ac,J so sn sc,J ea gW gX,J oo dU oc],dR sl]) (by simp [results,Tryz.results59,go_sem,h69,h79,v0,v1,v2,v3,v4,v5]) Gs ?_;have h9:=HAN.out;subst h9;rw [DB.out];exact⟨⟨(ea,gW,gX),sl,rfl,HC.out,_,HU.out,(WX gV HX3.out.2).append (.cons ⟨rfl,rfl,rfl,rfl,ji _,rfl⟩ .nil)⟩,BL.out⟩
theorem uX {α:Type} {E:Ek α} (K:E.Ok) {w:aO} (B:Nat) {v x:aV} {l m:List α} (hown:Own E w B v l) (hx:Row E w x m) (hn:l.length<=1000000) (hm:m.length<=1000000) (hB:B<=w.heap.size) (ty:TypeId) :
  ∃ v' w',(bD #[E.ts,E.ts] ty #[v,x]).run aJ w=.ok v' w'/\Own E w' B v' (l++m)/\w.grownBy w' v.ownBlock:=by
 obtain⟨i,i1,i2,i3,i4⟩:=K.info;rcases hx with⟨rfl,rfl⟩|⟨ad,c,rfl,h2,h3,h4⟩
 ·exact⟨v,w,run_append_owned_none (P:=aJ) (w:=w) B E.ts ty E.t i E.n K.hu i1 v _ _ hown,by simpa using hown,qy _ _⟩
 ·have hf:=K.few;obtain⟨v',w',r1,r2,r3,_⟩:=run_append_own (P:=aJ) w B E.ts ty E.t i E.z E.n E.bytes K.hu i1 i2 i3 i4 K.zs K.pos v _ _ hown ad m.length c (flat E m) (dZ K m) h4 (o9 K m) (by unfold maxLen; omega)
   (aB (Nat.mul_le_mul (show l.length+m.length<=2000000 by omega) hf) (by decide)) hB
  exact⟨v',w',r1,by rw [Own,aS,gJ]; exact r2,r3⟩
def Eu (B:Nat) (_ _:Nat) (me:Int) (o1 o2 o3 o4 o5:Option Addr) (n1 k1 n2 k2 n3 k3 n4 k4 n5 k5:Nat) (so gV:Option Addr) (sn sc tn tc:Nat) (lo ls:List nC) (_ _ _ _ _ _:aV) (i:Nat) (v:aV) (x:aO):Prop :=
 match i with
 | 0=>v=bf #[U V me,J o1 n1 k1,J o2 n2 k2,J o3 n3 k3,J o4 n4 k4,J o5 n5 k5]
 | 1=>jd x B v []
 | 2=>v=J so sn sc
 | 3=>jd x B v lo
 | 4=>v=J gV tn tc
 | 5=>jd x B v (lo++ls)
 | _=>True
noncomputable def RA:Code:=((Tryz.f28.body.bind (eG 16)).getD .skip)
theorem N9 (B:Nat) (b2 b12:Nat) (me:Int) (o1 o2 o3 o4 o5:Option Addr) (n1 k1 n2 k2 n3 k3 n4 k4 n5 k5:Nat) (so gV:Option Addr) (sn sc tn tc:Nat) (lo ls:List nC) (z0 z1 z2 z3 z4 z5:aV) (i:Nat) (v:aV) (x x':aO) (h:Eu B b2 b12 me o1 o2 o3 o4 o5 n1 k1 n2 k2 n3 k3 n4 k4 n5 k5 so gV sn sc tn tc lo ls z0 z1 z2 z3 z4 z5 i v x) (hb:Below x.heap.size x x'):Eu B b2 b12 me o1 o2 o3 o4 o5 n1 k1 n2 k2 n3 k3 n4 k4 n5 k5 so gV sn sc tn tc lo ls z0 z1 z2 z3 z4 z5 i v x':=by
 by_cases hi:i<6
 ·rcases (by omega:i=0\/i=1\/i=2\/i=3\/i=4\/i=5) with rfl|rfl|rfl|rfl|rfl|rfl
  ·exact h
  ·exact dB h hb
  ·exact h
  ·exact dB h hb
  ·exact h
  ·exact dB h hb
 ·unfold Eu
  split <;> first | omega | trivial
theorem ade (Q:Exit->Act->aO->Prop) (W:aO) (b2 b12:Nat) (me:Int) (o1 o2 o3 o4 o5:Option Addr) (n1 k1 n2 k2 n3 k3 n4 k4 n5 k5:Nat) (so gV:Option Addr) (sn sc tn tc:Nat) (lo ls:List nC) (z0 z1 z2 z3 z4 z5:aV) (u0 u1 u3 u4 u5 u6 u7 u8 u10 u11 u14 u15 u16 u17 u18 u19 u20 u21 u22 u23 u24 u25 u26 u27 u28 u29 u30 u31 u32 u33 u34 u35 u36 u37 u38 u39 u40 u41 u42 u43 u44 u45 u46 u47 u48 u49 u50 u51 u52 u53 u54 u55 u56 u57 u58 u59 u60 u61 u62:aV)
  (h2:dJ W b2 #[z0,z1,z2,z3,z4,z5] 33) (h12:dJ W b12 #[U V me,J o1 n1 k1,J o2 n2 k2,J o3 n3 k3,J o4 n4 k4,J o5 n5 k5] 33) (uE:AX W (J so sn sc) lo) (rls:AX W (J gV tn tc) ls) (l9:lo.length<=1000000) (s9:ls.length<=1000000)
  (hQ:∀ (x:aO) (w9:aV) (v54 v55 v56 v57 v58 v59:aV),dJ x b2 #[U V me,J o1 n1 k1,J o2 n2 k2,J o3 n3 k3,J o4 n4 k4,J o5 n5 k5] 33->jd x W.heap.size w9 (lo++ls)->(∀ j,j<W.heap.size->j≠b2->x.heap[j]?=W.heap[j]?)->(∀ B,B<=b2->Below B W x)->Q .normal ⟨(u0::u1::au (Z ⟨b2,0,X⟩)::u3::u4::u5::u6::u7::u8::w9::u10::u11::au (Z ⟨b12,0,X⟩)::J gV tn tc::u14::u15::u16::u17::u18::u19::u20::u21::u22::u23::u24::u25::u26::u27::u28::u29::u30::u31::u32::u33::u34::u35::u36::u37::u38::u39::u40::u41::u42::u43::u44::u45::u46::u47::u48::u49::u50::u51::u52::u53::v54::v55::v56::v57::v58::v59::u60::u61::u62::[]).toArray,[]⟩ x) :
  Code.wp aJ RA Q ⟨(u0::u1::au (Z ⟨b2,0,X⟩)::u3::u4::u5::u6::u7::u8::J so sn sc::u10::u11::au (Z ⟨b12,0,X⟩)::J gV tn tc::u14::u15::u16::u17::u18::u19::u20::u21::u22::u23::u24::u25::u26::u27::u28::u29::u30::u31::u32::u33::u34::u35::u36::u37::u38::u39::u40::u41::u42::u43::u44::u45::u46::u47::u48::u49::u50::u51::u52::u53::u54::u55::u56::u57::u58::u59::u60::u61::u62::[]).toArray,[]⟩ W:=by
 have HQ:=O hQ;have H2:=O h2;have H12:=O h12;have RLO:=O uE;have RLS:=O rls;have LO:=O l9;have LS:=O s9;clear hQ h2 h12 uE rls l9 s9;have iN:=N9 W.heap.size b2 b12 me o1 o2 o3 o4 o5 n1 k1 n2 k2 n3 k3 n4 k4 n5 k5 so gV sn sc tn tc lo ls z0 z1 z2 z3 z4 z5;unfold RA
 conv=>arg 2; whnf
 have nd:∀ j,(∀ i,i<6->[54,55,56,57,58,59].getD i 0≠j)->∀ i,i<6->(fun i=>[54,55,56,57,58,59].getD i 0) i≠j:=fun j h=>h;refine Rg.fJ 8 6 (fun i=>[54,55,56,57,58,59].getD i 0) (fun i=>if i=1 then 3 else if i=3 then 5 else 6) (Eu W.heap.size b2 b12 me o1 o2 o3 o4 o5 n1 k1 n2 k2 n3 k3 n4 k4 n5 k5 so gV sn sc tn tc lo ls z0 z1 z2 z3 z4 z5) (by kernel_rfl) (by kernel_rfl) rfl (by decide) (fun i j hi hj h=>(by decide:∀ i,i<6->∀ j,j<6->[54,55,56,57,58,59].getD i 0=[54,55,56,57,58,59].getD j 0->i=j) i hi j hj h) (fun i hi=>(by decide:∀ i,i<6->[54,55,56,57,58,59].getD i 0<63) i hi) ?_ (fun _=>Rg.jc 14 (by kernel_rfl)) ?_ ?_
 ·intro i o hi ho a x D hnd hc hD hb seen K hK;clear HQ;rcases (by omega:i=0\/i=1\/i=2\/i=3\/i=4\/i=5) with rfl|rfl|rfl|rfl|rfl|rfl
  ·cases ho;have e12:a.eval (aR 12)=au (Z ⟨b12,0,X⟩):=seen.kp 12 _ (nd 12 (by decide)) rfl;obtain⟨y0,y1,y2,y3,y4,y5⟩:=(H12.out.on hb).fA;exact bF rfl rfl (Rg.dY a.eval _ 33 (aR 12) rfl (by rw [e12]; simp [go_sem,y0,y1,y2,y3,y4,y5])) (hK _ _ rfl (aI _ _) fun _ _ _ _ _ _ _ h=>h)
  ·cases ho;have nb:=fE x (ah #[] 58);have hl:=mH (B':=W.heap.size) hb.size (FJ (E:=EU) x);exact bF rfl rfl (Rg.iJ a.eval _ 44 0 #[] rfl rfl (by simp [go_sem])) (hK (J (Z ⟨x.heap.size,0,X⟩) 0 0) (x.alloc (ah #[] 58)) hl (nb.mono hb.size) fun j u _ _ _ _ _ h=>iN j u _ _ h nb)
  ·cases ho;have e9:a.eval (aR 9)=J so sn sc:=seen.kp 9 _ (nd 9 (by decide)) rfl;exact bF rfl rfl (Rg.fU a.eval _ (aR 9) rfl x) (hK _ _ e9 (aI _ _) fun _ _ _ _ _ _ _ h=>h)
  ·cases ho;have E55:=seen.at_ ⟨1,.data⟩ (by simp) rfl (bU rfl);have e56:a.eval (aR 56)=J so sn sc:=seen.at_ ⟨2,.data⟩ (by simp) rfl (aP (by decide));have o55:jd x W.heap.size (a.eval (aR 55)) []:=E55;obtain⟨v',x',r,o',gr⟩:=uX Fx W.heap.size o55 (RLO.out.on hb) (by simp) LO.out hb.size 44;have o'':jd x' W.heap.size v' lo:=by simpa using o'
   exact bF rfl rfl (Rg.fO a.eval _ (aR 55) (aR 56) 44 rfl rfl e56 r) (hK v' x' o'' ((aI _ x).grown gr hb.size fun j hj=>(o55.lt j hj).1) fun j u hj dj nl nx ni h=>by
    rcases (by omega:j=0\/j=1\/j=2\/j=3\/j=4\/j=5) with rfl|rfl|rfl|rfl|rfl|rfl
    ·exact h
    ·exact absurd rfl nx
    ·exact h
    ·exact absurd rfl ni
    ·exact h
    ·exact absurd (hc 5 _ dj rfl ⟨3,.data⟩ (by simp) rfl) hnd)
  ·cases ho;have e13:a.eval (aR 13)=J gV tn tc:=seen.kp 13 _ (nd 13 (by decide)) rfl;exact bF rfl rfl (Rg.fU a.eval _ (aR 13) rfl x) (hK _ _ e13 (aI _ _) fun _ _ _ _ _ _ _ h=>h)
  ·cases ho;have E57:=seen.at_ ⟨3,.data⟩ (by simp) rfl (bU rfl);have e58:a.eval (aR 58)=J gV tn tc:=seen.at_ ⟨4,.data⟩ (by simp) rfl (aP (by decide));have o57:jd x W.heap.size (a.eval (aR 57)) lo:=E57;obtain⟨v',x',r,o',gr⟩:=uX Fx W.heap.size o57 (RLS.out.on hb) LO.out LS.out hb.size 44;have d3:D 3:=hD ⟨3,.data⟩ (by simp) rfl;exact bF rfl rfl (Rg.fO a.eval _ (aR 57) (aR 58) 44 rfl rfl e58 r) (hK v' x' o' ((aI _ x).grown gr hb.size fun j hj=>(o57.lt j hj).1) fun j u hj dj nl nx ni h=>by
    rcases (by omega:j=0\/j=1\/j=2\/j=3\/j=4\/j=5) with rfl|rfl|rfl|rfl|rfl|rfl
    ·exact h
    ·exact absurd d3 nl
    ·exact h
    ·exact absurd rfl nx
    ·exact h
    ·exact absurd rfl ni)
 ·intro kk o h1 h2 ho;rcases (by omega:kk=7) with rfl
  ·cases ho;exact⟨⟨6,.chain⟩,by simp,rfl,rfl⟩
 ·intro a w' df sz kp ⟨vs,hv⟩ hb;have sz':a.tmps.size=63:=sz;have g2:a.tmps[2]?=Z (au (Z ⟨b2,0,X⟩)):=(kp 2 (nd 2 (by decide))).trans rfl;have g54:a.tmps[54]?=Z (bf #[U V me,J o1 n1 k1,J o2 n2 k2,J o3 n3 k3,J o4 n4 k4,J o5 n5 k5]):=by
   have h:vs 0=bf #[U V me,J o1 n1 k1,J o2 n2 k2,J o3 n3 k3,J o4 n4 k4,J o5 n5 k5]:=(hv 0 (by omega)).2 (by decide);rw [<- h];exact (hv 0 (by omega)).1
  have g59:a.tmps[59]?=Z (vs 5):=(hv 5 (by omega)).1;have G59:=(hv 5 (by omega)).2 (by decide);have o59:jd w' W.heap.size (vs 5) (lo++ls):=G59;generalize vs 5=v' at *;have H2x:=H2.out.on hb;have lt2:=H2.out.lt;show Rg.fC _ _ _ 2 6 a w';simp only [Rg.fC];refine Rg.fM 33 (aR 2) (aR 54) rfl rfl rfl rfl (Rg.dI g2) (Rg.dI g54) (w':=gP w' b2 (U V me) (J o1 n1 k1) (J o2 n2 k2) (J o3 n3 k3) (J o4 n4 k4) (J o5 n5 k5)) (sI H2x me _ _ _ _ _ _ _ _ _ _ _ _ _ _ _) ?_;refine bF rfl rfl (Rg.kU a.eval _ (aR 59) rfl _) ?_;show Q .normal (a.put (Z 9) (a.eval (aR 59))) _;rw [Rg.dI g59];have hx:=dK H2x (U V me) (J o1 n1 k1) (J o2 n2 k2) (J o3 n3 k3) (J o4 n4 k4) (J o5 n5 k5);have ho:=eY o59 b2 lt2 (U V me) (J o1 n1 k1) (J o2 n2 k2) (J o3 n3 k3) (J o4 n4 k4) (J o5 n5 k5);have hk:∀ j,j<W.heap.size->j≠b2->(gP w' b2 (U V me) (J o1 n1 k1) (J o2 n2 k2) (J o3 n3 k3) (J o4 n4 k4) (J o5 n5 k5)).heap[j]?=W.heap[j]?:=fun j hj hne=>(dH w' b2 (U V me) (J o1 n1 k1) (J o2 n2 k2) (J o3 n3 k3) (J o4 n4 k4) (J o5 n5 k5) j hne).trans (hb.block j hj);have hbl:∀ B,B<=b2->Below B W (gP w' b2 (U V me) (J o1 n1 k1) (J o2 n2 k2) (J o3 n3 k3) (J o4 n4 k4) (J o5 n5 k5)):=fun B hB=>dD (hb.mono (Nat.le_of_lt (dn hB lt2))) hB _ _ _ _ _ _;obtain⟨sa,iD,hsv⟩:=(aQ ho).len;generalize gP w' b2 (U V me) (J o1 n1 k1) (J o2 n2 k2) (J o3 n3 k3) (J o4 n4 k4) (J o5 n5 k5)=x2 at *;have ka:∀ j,j≠9->(a.put (Z 9) v').tmps[j]?=a.tmps[j]?:=fun j h1=>by rw [aL _ _ _ _ (by omega)]
  have kt:(a.put (Z 9) v').tmps[9]?=Z (v'):=by simp [Act.put,sz']
  have qU:∀ j,(j<54\/60<=j)->(a.put (Z 9) v').tmps[j]?=(u0::u1::au (Z ⟨b2,0,X⟩)::u3::u4::u5::u6::u7::u8::v'::u10::u11::au (Z ⟨b12,0,X⟩)::J gV tn tc::u14::u15::u16::u17::u18::u19::u20::u21::u22::u23::u24::u25::u26::u27::u28::u29::u30::u31::u32::u33::u34::u35::u36::u37::u38::u39::u40::u41::u42::u43::u44::u45::u46::u47::u48::u49::u50::u51::u52::u53::u54::u55::u56::u57::u58::u59::u60::u61::u62::[])[j]?:=fun j hj=>by
   by_cases hj2:j=9
   ·subst hj2;exact kt
   ·have hs:(u0::u1::au (Z ⟨b2,0,X⟩)::u3::u4::u5::u6::u7::u8::v'::u10::u11::au (Z ⟨b12,0,X⟩)::J gV tn tc::u14::u15::u16::u17::u18::u19::u20::u21::u22::u23::u24::u25::u26::u27::u28::u29::u30::u31::u32::u33::u34::u35::u36::u37::u38::u39::u40::u41::u42::u43::u44::u45::u46::u47::u48::u49::u50::u51::u52::u53::u54::u55::u56::u57::u58::u59::u60::u61::u62::[]:List aV)=(u0::u1::au (Z ⟨b2,0,X⟩)::u3::u4::u5::u6::u7::u8::J so sn sc::u10::u11::au (Z ⟨b12,0,X⟩)::J gV tn tc::u14::u15::u16::u17::u18::u19::u20::u21::u22::u23::u24::u25::u26::u27::u28::u29::u30::u31::u32::u33::u34::u35::u36::u37::u38::u39::u40::u41::u42::u43::u44::u45::u46::u47::u48::u49::u50::u51::u52::u53::u54::u55::u56::u57::u58::u59::u60::u61::u62::[]).set 9 (v'):=rfl;rw [hs,List.getElem?_set_ne (Ne.symm hj2)];exact (ka j hj2).trans ((kp j (nd j fun i hi h=>by have:=(by decide:∀ i,i<6->54<=[54,55,56,57,58,59].getD i 0/\[54,55,56,57,58,59].getD i 0<60) i hi; omega)).trans aF)
  obtain⟨mid,hmid,hfr⟩:=Rg.gq (a:=a.put (Z 9) v') 54 6 (by simp [Act.put,df]) (by simp [Act.put,sz']) (by simp) qU;rw [hfr]
  match mid,hmid with
  | [v54,v55,v56,v57,v58,v59],_ =>
   exact HQ.out x2 _ _ _ _ _ _ _ hx ho hk hbl
theorem Da {b:Br} (t x:Id) (f:Int) (R:En->Prop) (hR:∀ e,e.tree=t->R e->R (VW e)) (h:∀ e∈b.ent,R e):(∀ e∈(takeB b t x f).1.ent,R e)/\∀ e∈(takeB b t x f).2.1,R e:=by
 unfold takeB
 split
 ·exact⟨h,fun e he=>by simp at he⟩
 ·split
  ·exact⟨h,fun e he=>by simp at he⟩
  ·split
   ·exact⟨h,fun e he=>by simp at he⟩
   ·split
    ·exact⟨fun e he=>h e (qG he),fun e he=>by simp at he⟩
    ·exact wL R hR (fun e he=>h e (qG he)) _
theorem Db (b:Br) (t x:Id) (f:Int):(jM b t x f).2.length<=b.ent.length+1:=by
 unfold jM;have h:=(sM b t x f).2
 split
 ·simp
 ·split
  ·simp
  ·rw [aS,aN];simp;omega
def Dc (x:Id) (s:Br×List Ou) (t:Id):Br×List Ou:=((jM s.1 t x (-1)).1,s.2++(jM s.1 t x (-1)).2)
def um (b:Br) (x:Id):List Ow:=b.own.filter fun o=>decide (o.id≠x)
def jw (b:Br) (x:Id) (k:Nat):Br×List Ou:=((b.dO.map Ad.id).take k).foldl (Dc x) ({ b with own:=um b x },[])
def iF (b:Br) (x:Id):Br×List Ou:=if (um b x).length=b.own.length then (b,[]) else jw b x b.dO.length
theorem kW (b:Br) (x:Id) {k:Nat} {a:Ad} (h:b.dO[k]?=Z a):jw b x (k+1)=Dc x (jw b x k) a.id:=by
 unfold jw;rw [List.take_add_one,bH,h,List.foldl_append]
 rfl
structure UnI (b0 b:Br) (o:List Ow):Prop where
 me:b.me=b0.me
 near:b.near=b0.near
 dO:b.dO=b0.dO
 seen:b.seen=b0.seen
 own:b.own=o
 len:b.ent.length<=b0.ent.length
theorem UnI.drop {b0 b:Br} {o:List Ow} (h:UnI b0 b o) (t x:Id) (f:Int):UnI b0 (jM b t x f).1 o:=by
 rw [iU];obtain⟨h1,h2,h3,h4,h5⟩:=jv b t x f;exact⟨h3.trans h.me,h2.trans h.near,h1.trans h.dO,h4.trans h.seen,h5.trans h.own,aB (sM b t x f).1 h.len⟩
theorem pR (b:Br) (x:Id):∀ k,k<=b.dO.length->UnI b (jw b x k).1 (um b x)/\(jw b x k).2.length<=k * (b.ent.length+1)
 | 0,_=>⟨⟨rfl,rfl,rfl,rfl,rfl,aG _⟩,by simp [jw]⟩
 | k+1,hk=>by
  obtain⟨a,ha⟩:∃ a,b.dO[k]?=Z a:=⟨_,ay hk⟩;obtain⟨h1,h2⟩:=pR b x k (by omega);rw [kW b x ha];refine⟨h1.drop _ _ _,?_⟩;show ((jw b x k).2++(jM (jw b x k).1 a.id x (-1)).2).length<=_;have h3:=Db (jw b x k).1 a.id x (-1);have h4:=h1.len;rw [aS,Nat.add_mul];omega
theorem qH (b:Br) (x:Id) (R:En->Prop) (hR:∀ e,R e->R (VW e)) (h:∀ e∈b.ent,R e):∀ k,k<=b.dO.length->∀ e∈(jw b x k).1.ent,R e
 | 0,_=>h
 | k+1,hk=>by
  obtain⟨a,ha⟩:∃ a,b.dO[k]?=Z a:=⟨_,ay hk⟩;rw [kW b x ha];show ∀ e∈(jM _ _ _ _).1.ent,R e;rw [iU];exact (Da _ _ _ R (fun e _=>hR e) (qH b x R hR h k (by omega))).1
theorem zh {W W':aO} {k:Nat} {me:Int} {s1 s2 s3 s4 s5:Sl} {l:List nC} {m:List Ou} (h:eB (rJ W) l m) (hb:dJ W k (iw me s1 s2 s3 s4 s5) 33) (hk:∀ j,j<W.heap.size->j≠k->W'.heap[j]?=W.heap[j]?):eB (rJ W') l m :=
 h.mono fun _ _ hx=>⟨hx.1,hx.2.1,hx.2.2.1,hx.2.2.2.1,fQ AO hx.2.2.2.2.1 hk (mE hb (kK me s1 s2 s3 s4 s5)),hx.2.2.2.2.2⟩
def keepW (x:Id) (o:qM):Bool:=decide ((o.1,o.2.1)≠x)
theorem GI (b:Br) (nv av sv ev ov:Sl) (x:Id) (w:aO) (h:gZ w b nv av sv ev ov) (l2:b.dO.length<=900) (l3:b.ent.length<=900) (l4:b.own.length<=900) (hok:∀ e∈b.ent,dW e.p) (hkn:∀ e∈b.ent,e.tree∈b.dO.map Ad.id) :
  Calls aJ 28 #[ny b.me nv av sv ev ov,mD x] w fun e w'=>(∃ ev' RD lo:Sl,e=bI (.tuple #[ny b.me nv av sv ev' RD,dR lo])/\gZ w' (iF b x).1 nv av sv ev' RD/\kS w' lo (iF b x).2)/\Below w.heap.size w w':=by
 obtain⟨no,nn,nc⟩:=nv;obtain⟨ao,an,ac⟩:=av;obtain⟨so,sn,sc⟩:=sv;obtain⟨eo,en,ec⟩:=ev;obtain⟨oo,dU,oc⟩:=ov;obtain⟨c,d⟩:=x;obtain⟨ws,hw1,hw2⟩:=h.own;obtain⟨q1,q2,hq⟩:=hw1.len;obtain⟨rfl,rfl,rfl⟩:oo=q1/\dU=ws.length/\oc=q2:=by
  have:J oo dU oc=J q1 ws.length q2:=hq;simpa using this
 have HH:=O h;have L2:=O l2;have L3:=O l3;have WL:=O (show ws.length<=900 from by rw [hw2.len]; exact l4);have HW2:=O hw2;have OK:=O hok;have KN:=O hkn;obtain⟨dU,hon⟩:∃ n,n=ws.length:=⟨_,rfl⟩;simp only [<- hon] at HH hw1 ⊢;have N5:=O hon;obtain⟨h0,h1,h2,h3⟩:=gN w #[U V b.me,J no nn nc,J ao an ac,J so sn sc,J eo en ec,J oo dU oc] #[U V c,U V d] #[U V 0,J X 0 0,J X 0 0,J X 0 0,J X 0 0,J X 0 0] 33 38 33;obtain⟨me,hme⟩:∃ me,me=b.me:=⟨_,rfl⟩;simp only [<- hme] at h0 h1 h2 h3 ⊢;have gH:=O (h0);have aa9:=O (h1);have WZ:=O (h2);have abb:=O (h3);have JJ:=O (hw1.on h0);have ME:=O hme;clear h0 h1 h2 h3 h l2 l3 l4 hme hok hkn hw1 hw2 hq hon;show Calls aJ 28 #[bf #[U V me,J no nn nc,J ao an ac,J so sn sc,J eo en ec,J oo dU oc],bf #[U V c,U V d]] w _;go_enter Tryz.func28,Tryz.ntmps28;go_upto_region 1 with fail;generalize (((w.alloc (ah #[U V me,J no nn nc,J ao an ac,J so sn sc,J eo en ec,J oo dU oc] 33)).alloc (ah #[U V c,U V d] 38)).alloc (ah #[U V 0,J X 0 0,J X 0 0,J X 0 0,J X 0 0,J X 0 0] 33))=W at *;have W4:=O (show w.heap.size+3<=W.heap.size from by have:=abb.out.lt; omega);obtain⟨x0,x1,x2,x3,x4,x5⟩:=aa9.out.fA;go_wp2_with fail;clear x0 x1 x2 x3 x4 x5
 go_loopw [6,17] (fun v i wr=>∃ q:Nat,q<=dU/\i=U V q/\Below W.heap.size W wr/\oN wr W.heap.size v ((ws.take q).filter (keepW (c,d)))) (fun _ i _=>dU-(intOf i).toNat)
 case atStart=>exact⟨0,cK _,rfl,aI _ _,fZ _ _⟩
 case round =>
  obtain⟨q,hq,rfl,hbe,hown⟩:=hrel;have BE:=O hbe;have OE:=O hown;clear hbe hown;have l9:dU<=900:=by rw [N5.out]; exact WL.out
  by_cases hlt:q<dU
  ·have hlt':(q:Int)<(dU:Int):=by omega
   have hw:IntKind.i64.wrap ((q:Int)+1)=(q:Int)+1:=bO _ (by omega);obtain⟨z,hz⟩:∃ z,ws[q]?=Z z:=⟨_,ay (by rw [<- N5.out]; exact hlt)⟩;obtain⟨p,ix,px⟩:=elW JJ.out rfl N5.out.symm hz;obtain⟨p0,p1,p2⟩:=px wr BE.out;have FS:=O (uM ws q z (keepW (c,d)) hz);obtain⟨y1,y2,⟨yo,yn,yc⟩⟩:=z;simp only at p0 p1 p2;clear px hz;go_upto_region 5 with fail;clear p0 p1 p2 ix;have NN:=fE wr (ah #[U V y1,U V y2,J yo yn yc] 61);have XE:=O (dL wr #[U V y1,U V y2,J yo yn yc] 61);have Rz:=O (BE.out.trans (NN.mono BE.out.size));have Nn:=O (dB OE.out NN);clear BE OE NN;generalize wr.alloc (ah #[U V y1,U V y2,J yo yn yc] 61)=wa at *;obtain⟨e0_,e1_,e2_⟩:=XE.out.cs3;have y0:=(WZ.out.on Rz.out).cell 0;have y1_:=(WZ.out.on Rz.out).cell 1;simp only [aF,aC,aD] at y0 y1_;obtain⟨r,hr⟩:∃ r,(!(y1 == c && y2 == d))=r:=⟨_,rfl⟩;have he:=Ws y1 y2 c d r hr;have KW:=O (show keepW (c,d) (y1,y2,(yo,yn,yc))=r by
    rw [<- hr];unfold keepW;by_cases h1:y1=c <;> by_cases h2:y2=d <;> simp [h1,h2])
   clear hr;cases r
   ·go_wp2_with fail
    go_roundw
    case rel=>exact⟨q+1,hlt,by go_num,Rz.out,by rw [FS.out,KW.out]; simpa using Nn.out⟩
    case measure=>simp [intOf]; omega
   ·have hl:=gT okW wa [((y1,y2,(yo,yn,yc)):qM)] 1 rfl (by simp) #[U V y1,U V y2,J yo yn yc] (by rfl);have NB:=fE wa (ah #[U V y1,U V y2,J yo yn yc] 61);obtain⟨v',x5,q2,o2,g2⟩:=fT okW W.heap.size (dB Nn.out NB) (aQ hl) (by have h1:=bY (keepW (c,d)) (ws.take q); rw [bJ] at h1; omega) (by simp) (aB Rz.out.size NB.size) 31;have q2:(bD #[31,31] 31 #[u6,J (Z ⟨wa.heap.size,0,X⟩) 1 1]).run aJ (wa.alloc (ah #[U V y1,U V y2,J yo yn yc] 61))=.ok v' x5:=q2;have BX:=O ((Rz.out.trans (NB.mono Rz.out.size)).grown g2 (aB Rz.out.size NB.size) (fun j hj=>((dB Nn.out NB).lt j hj).1));have O2:=O o2;clear hl NB o2 g2;go_wp2_with (first | (at_builtin; refine aM rfl _ _ 31 rfl rfl rfl q2 ?_) | fail)
    go_roundw
    case rel=>exact⟨q+1,hlt,by go_num,BX.out,by rw [FS.out,KW.out]; simpa using O2.out⟩
    case measure=>simp [intOf]; omega
  ·obtain rfl:dU=q:=by omega
   have et:ws.take dU=ws:=bW (by have:=N5.out; omega);rw [et] at OE;clear et;have FI:=O (show eB (D8 w) (ws.filter (keepW (c,d))) (um b (c,d)) from HW2.out.fil _ _ fun a b h=>by unfold keepW; rw [h.1]);generalize ws.filter (keepW (c,d))=ls at *;obtain⟨la,lc,hlv⟩:=(aQ OE.out).len;obtain⟨ln,hln⟩:∃ n,n=ls.length:=⟨_,rfl⟩;rw [<- hln] at hlv;subst hlv;have LN:=O hln;clear hln;have LE:=O (show (um b (c,d)).length=ln from by rw [LN.out,FI.out.len]);have LO:=O (show b.own.length=dU from by rw [<- HW2.out.len,N5.out]);have iR:=O (gH.out.trans (BE.out.mono gH.out.size));have RF:=O (aa9.out.on BE.out);have qX:=O (WZ.out.on BE.out);have nD:=O (abb.out.on BE.out);have Ev:=O (JJ.out.on BE.out);clear gH aa9 WZ abb JJ;obtain⟨x0,x1,x2,x3,x4,x5⟩:=RF.out.fA;by_cases hll:ln=dU
   ·have hq1:((ln:Int) == (dU:Int))=aU:=by simp [hll]
    have HI:=O (HH.out.on iR.out);obtain⟨r0,r1,r2,r3,r4,r5⟩:=nD.out.fA;obtain⟨Cx,Cy,Cz,CF,CG,CJ⟩:=nD.out.kg;have zz:=nD.out.lt;have GG:=O (dK nD.out (U V me) (J no nn nc) (J ao an ac) (J so sn sc) (J eo en ec) (J oo dU oc));have BL:=O (dD (b:=w.heap.size+1+1) iR.out (by omega) (U V me) (J no nn nc) (J ao an ac) (J so sn sc) (J eo en ec) (J oo dU oc));have HK:=O (fun j (_:j<wr.heap.size) (hj:j≠w.heap.size+1+1)=>dH wr (w.heap.size+1+1) (U V me) (J no nn nc) (J ao an ac) (J so sn sc) (J eo en ec) (J oo dU oc) j hj);have HC:=O (eZ (s1:=(X,0,0)) (s2:=(X,0,0)) (s3:=(X,0,0)) (s4:=(X,0,0)) (s5:=(X,0,0)) HI.out nD.out HK.out (HH.out.near.on BL.out));go_wp2_with fail;obtain⟨v0,v1,v2,v3,v4,v5⟩:=GG.out.fA;refine aH (v:=.tuple #[bf #[U V me,J no nn nc,J ao an ac,J so sn sc,J eo en ec,J oo dU oc],J X 0 0]) (by simp [results,Tryz.results28,go_sem,v0,v1,v2,v3,v4,v5]) rfl ?_;have hd:iF b (c,d)=(b,[]):=by unfold iF; rw [if_pos (by rw [LE.out,LO.out]; exact hll)]
    rw [hd];exact⟨⟨(eo,en,ec),(oo,dU,oc),(X,0,0),rfl,HC.out,pF _⟩,BL.out⟩
   ·have hq1:((ln:Int) == (dU:Int))=aA:=by simp; omega
    have DB:=O (show iF b (c,d)=jw b (c,d) b.dO.length from by unfold iF; rw [if_neg (by rw [LE.out,LO.out]; exact hll)]);have f5:=RF.out.fr 5;have zz:=RF.out.lt;go_upto_region 11 with fail;clear x0 x1 x2 x3 x4 x5;have B2:=O (iR.out.setCell (p:=⟨w.heap.size,5,X⟩) (aG _) (J la ln lc));have X2b:=dN (k:=5) RF.out (J la ln lc);simp only [bP,cZ,bL] at X2b;have X3b:dJ _ _ _ _:=(Y wr ⟨w.heap.size,5,X⟩ (J la ln lc) _ (show w.heap.size+1≠w.heap.size by omega)).trans qX.out;have X4b:dJ _ _ _ _:=(Y wr ⟨w.heap.size,5,X⟩ (J la ln lc) _ (show w.heap.size+1+1≠w.heap.size by omega)).trans nD.out;have OL:=O (dM OE.out w.heap.size 5 (J la ln lc) (by have:=W4.out; omega));have BS:=O (show gZ _ { b with own:=um b (c,d) } (no,nn,nc) (ao,an,ac) (so,sn,sc) (eo,en,ec) (la,ln,lc) from ⟨HH.out.near.on B2.out,(HH.out.on B2.out).dO,(HH.out.on B2.out).seen,(HH.out.on B2.out).ent,⟨ls,aQ OL.out,FI.out.mono fun _ _ h=>h.on B2.out⟩⟩);clear zz f5 OL OE BE iR RF qX nD Ev;generalize wr.setCell ⟨w.heap.size,5,X⟩ (J la ln lc)=w2 at *;have lD:=O (B2.out);have abd:=O (X2b);have om:=O (X3b);have oG:=O (X4b);clear B2 X2b X3b X4b;obtain⟨ad0,ha1,ha2⟩:=BS.out.dO;obtain⟨q1,q2,hqv⟩:=ha1.len;obtain rfl:an=b.dO.length:=by have h1:(J ao an ac)=J q1 ad0.length q2:=hqv; have h2:an=ad0.length:=(by simpa using congrArg (fun v=>match v with|Value.slice _ n _=>n|_=>0) h1); rw [h2,ha2.len]
    clear hqv ha1 ha2;obtain⟨an,han⟩:∃ n,n=b.dO.length:=⟨_,rfl⟩;have AN:=O (show b.dO.length<=900 from L2.out);obtain⟨x0,x1,x2,x3,x4,x5⟩:=abd.out.fA;go_wp2_with fail;clear x0 x1 x2 x3 x4 x5
    go_loopw [9,42] (fun v i wr=>∃ (k:Nat) (ea:Option Addr) (gW gX:Nat) (ta:Option Addr) (tn tc:Nat),k<=b.dO.length/\i=U V k/\v=J ta tn tc/\Below w.heap.size w wr/\dJ wr w.heap.size #[U V me,J no nn nc,J ao b.dO.length ac,J so sn sc,J ea gW gX,J la ln lc] 33/\dJ wr (w.heap.size+1) #[U V c,U V d] 38/\dJ wr (w.heap.size+1+1) #[U V 0,J X 0 0,J X 0 0,J X 0 0,J X 0 0,J X 0 0] 33/\gZ wr (jw b (c,d) k).1 (no,nn,nc) (ao,b.dO.length,ac) (so,sn,sc) (ea,gW,gX) (la,ln,lc)/\kS wr (ta,tn,tc) (jw b (c,d) k).2) (fun _ i _=>b.dO.length-(intOf i).toNat)
    case atStart=>exact⟨0,eo,en,ec,X,0,0,cK _,rfl,rfl,lD.out,abd.out,om.out,oG.out,BS.out,pF _⟩
    case round =>
     clear BS lD abd om oG;obtain⟨k,ea,gW,gX,ta,tn,tc,hk,rfl,rfl,hgb,hx2,hx3,hx4,hbr,hou⟩:=hrel;have Lc:=O (hgb);have RG:=O (hx2);have Yp:=O (hx3);have xD:=O (hx4);have Ld:=O (hbr);have RI:=O (hou);clear hgb hx2 hx3 hx4 hbr hou;have UK:=O (pR b (c,d) k hk);have l9:=AN.out;by_cases hlt:k<b.dO.length
     ·have hlt':(k:Int)<(b.dO.length:Int):=by omega
      have hw:IntKind.i64.wrap ((k:Int)+1)=(k:Int)+1:=bO _ (by omega);obtain⟨a,hak⟩:∃ a,b.dO[k]?=Z a:=⟨_,ay hlt⟩;have US:=O (kW b (c,d) hak);have PK:=O (qH b (c,d) (fun e=>dW e.p) (fun _ h=>h) OK.out k hk);have TKN:=O (qH b (c,d) (fun e=>e.tree∈b.dO.map Ad.id) (fun _ h=>h) KN.out k hk);obtain⟨ad,xP,uW⟩:=Ld.out.dO;rw [UK.out.1.dO] at uW;obtain⟨z,hz1,hz2⟩:=uW.at k a hak;obtain⟨p,ix,px⟩:=VQ xP rfl (by rw [uW.len]) hz1;obtain⟨p0,p1,p2,p3⟩:=px wr (aI _ _);obtain⟨z1,z2,⟨z3,z4,z5⟩,z6⟩:=z;simp only at p0 p1 p2 p3;have ZI:=O (show a.id=(z1,z2) from hz2.1.symm);clear px hz1 hz2 xP uW hak;go_upto_region 15 with fail;clear p0 p1 p2 p3 ix;have NN:=fE wr (ah #[U V z1,U V z2,J z3 z4 z5,U V z6] 53);have RJ:=O (Lc.out.trans (NN.mono Lc.out.size));have RN:=O (RG.out.on NN);have RO:=O (Yp.out.on NN);have Yq:=O (xD.out.on NN);have RQ:=O (Ld.out.on NN);have Yr:=O (RI.out.on NN);clear Lc RG Yp xD Ld RI;clear NN;have JK:=O (dL wr #[U V z1,U V z2,J z3 z4 z5,U V z6] 53);generalize wr.alloc (ah #[U V z1,U V z2,J z3 z4 z5,U V z6] 53)=wa at *;have DP:=O (C8 (jw b (c,d) k).1 (no,nn,nc) (ao,b.dO.length,ac) (so,sn,sc) (ea,gW,gX) (la,ln,lc) (z1,z2) (c,d) (-1) wa RQ.out (by rw [UK.out.1.dO]; exact AN.out) (aB UK.out.1.len L3.out) PK.out (by rw [UK.out.1.dO]; exact TKN.out));rw [UK.out.1.me,<- ME.out] at DP;obtain⟨x0,x1,x2,x3,x4,x5⟩:=RN.out.fA;obtain⟨y0,y1⟩:=RO.out.cs2;obtain⟨zc0,zc1,zc2,zc3⟩:=JK.out.I8;rw [ZI.out] at US;have UK2:=O (pR b (c,d) (k+1) hlt);rw [US.out] at UK2;go_wp2_with fail;refine DP.out.mono ?_;rintro e1 w1 ⟨⟨⟨mV,qp,qw⟩,⟨ta2,tn2,tc2⟩,rfl,hbr,hou⟩,hb⟩;clear DP;clear x0 x1 x2 x3 x4 x5 y0 y1 zc0 zc1 zc2 zc3;have RS:=O (RJ.out.trans (hb.mono RJ.out.size));have Yt:=O (RN.out.on hb);have Yu:=O (RO.out.on hb);have Yv:=O (Yq.out.on hb);have adf:=O (RQ.out.on hb);have Yw:=O (Yr.out.on hb);have abe:=O (JK.out.on hb);clear RJ RN RO Yq RQ Yr JK;have BR2:=O hbr;have OU2:=O hou;clear hb hbr hou adf abe;go_upto_region 16 with fail;have BR3:=O (BR2.out.on (fE w1 (ah #[U V me,J no nn nc,J ao b.dO.length ac,J so sn sc,J mV qp qw,J la ln lc] 33)));have OU3:=O (OU2.out.on (fE w1 (ah #[U V me,J no nn nc,J ao b.dO.length ac,J so sn sc,J mV qp qw,J la ln lc] 33)));clear BR2 OU2;have NN:=fE w1 (ah #[U V me,J no nn nc,J ao b.dO.length ac,J so sn sc,J mV qp qw,J la ln lc] 33);have adg:=O (RS.out.trans (NN.mono RS.out.size));have Le:=O (Yt.out.on NN);have Yx:=O (Yu.out.on NN);have Yy:=O (Yv.out.on NN);have adh:=O (Yw.out.on NN);clear RS Yt Yu Yv Yw;clear NN;have abf:=O (dL w1 #[U V me,J no nn nc,J ao b.dO.length ac,J so sn sc,J mV qp qw,J la ln lc] 33);generalize w1.alloc (ah #[U V me,J no nn nc,J ao b.dO.length ac,J so sn sc,J mV qp qw,J la ln lc] 33)=wb at *;obtain⟨lo,hlo1,hlo2⟩:=adh.out;obtain⟨ls2,adi,abg⟩:=OU3.out;have LL:=UK.out.2;have LD:=Db (jw b (c,d) k).1 (z1,z2) (c,d) (-1);have LU:=UK.out.1.len;have l3:=L3.out;have LM:k * (b.ent.length+1)<=900 * 901:=Nat.mul_le_mul (by omega) (by omega);refine ade _ wb w.heap.size w1.heap.size me no ao so mV la nn nc b.dO.length ac sn sc qp qw ln lc ta ta2 tn tc tn2 tc2 lo ls2 _ _ _ _ _ _ _ _ _ _ _ _ _ _ _ _ _ _ _ _ _ _ _ _ _ _ _ _ _ _ _ _ _ _ _ _ _ _ _ _ _ _ _ _ _ _ _ _ _ _ _ _ _ _ _ _ _ _ _ _ _ _ _ _ _ Le.out abf.out hlo1 adi (by rw [hlo2.len]; omega) (by rw [abg.len]; omega) ?_;intro x w9 v54 v55 v56 v57 v58 v59 hbx hown hblk hbl;have GX:=O (adg.out.trans (hbl _ (aG _)));have Y2:=O hbx;have Y3:=O (show dJ _ _ _ _ from (hblk _ Yx.out.lt (by omega)).trans Yx.out);have Y4:=O (show dJ _ _ _ _ from (hblk _ Yy.out.lt (by omega)).trans Yy.out);have BRX:=O (eZ (s1:=(no,nn,nc)) (s2:=(ao,b.dO.length,ac)) (s3:=(so,sn,sc)) (s4:=(ea,gW,gX)) (s5:=(la,ln,lc)) BR3.out Le.out hblk (by rw [show (jM (jw b (c,d) k).1 (z1,z2) (c,d) (-1)).1.near=b.near from UK2.out.1.near]; exact HH.out.near.on GX.out));have OA:=O ((zh (s1:=(no,nn,nc)) (s2:=(ao,b.dO.length,ac)) (s3:=(so,sn,sc)) (s4:=(ea,gW,gX)) (s5:=(la,ln,lc)) hlo2 Le.out hblk).append (zh (s1:=(no,nn,nc)) (s2:=(ao,b.dO.length,ac)) (s3:=(so,sn,sc)) (s4:=(ea,gW,gX)) (s5:=(la,ln,lc)) abg Le.out hblk));obtain⟨ra,rc,hrv⟩:=(aQ hown).len;have RR:=O (aQ hown);rw [hrv] at RR;rw [hrv];clear hbx hown hblk hbl hlo1 hlo2 adi abg hrv BR3 OU3;go_wp2_with fail
      go_roundw
      case rel=>exact⟨k+1,mV,qp,qw,ra,_,rc,hlt,by go_num,rfl,GX.out,Y2.out,Y3.out,Y4.out,by rw [US.out]; exact BRX.out,by rw [US.out]; exact⟨_,RR.out,OA.out⟩⟩
      case measure=>simp [intOf]; omega
     ·obtain rfl:k=b.dO.length:=by omega
      obtain⟨x0,x1,x2,x3,x4,x5⟩:=RG.out.fA;obtain⟨r0,r1,r2,r3,r4,r5⟩:=xD.out.fA;obtain⟨Cx,Cy,Cz,CF,CG,CJ⟩:=xD.out.kg;have zz:=xD.out.lt;have GG:=O (dK xD.out (U V me) (J no nn nc) (J ao b.dO.length ac) (J so sn sc) (J ea gW gX) (J la ln lc));have BL:=O (dD (b:=w.heap.size+1+1) Lc.out (by omega) (U V me) (J no nn nc) (J ao b.dO.length ac) (J so sn sc) (J ea gW gX) (J la ln lc));have HK:=O (fun j (_:j<wr.heap.size) (hj:j≠w.heap.size+1+1)=>dH wr (w.heap.size+1+1) (U V me) (J no nn nc) (J ao b.dO.length ac) (J so sn sc) (J ea gW gX) (J la ln lc) j hj);have HC:=O (eZ (s1:=(X,0,0)) (s2:=(X,0,0)) (s3:=(X,0,0)) (s4:=(X,0,0)) (s5:=(X,0,0)) Ld.out xD.out HK.out (by rw [UK.out.1.near]; exact HH.out.near.on BL.out));have HO:=O (iQ (s1:=(X,0,0)) (s2:=(X,0,0)) (s3:=(X,0,0)) (s4:=(X,0,0)) (s5:=(X,0,0)) RI.out xD.out HK.out);go_wp2_with fail;obtain⟨v0,v1,v2,v3,v4,v5⟩:=GG.out.fA;refine aH (v:=.tuple #[bf #[U V me,J no nn nc,J ao b.dO.length ac,J so sn sc,J ea gW gX,J la ln lc],J ta tn tc]) (by simp [results,Tryz.results28,go_sem,v0,v1,v2,v3,v4,v5]) rfl ?_;rw [DB.out];exact⟨⟨(ea,gW,gX),(la,ln,lc),(ta,tn,tc),rfl,HC.out,HO.out⟩,BL.out⟩
structure RV (w W:aO) (B:Nat) (b:Br) (nv av sv ev ov:Sl):Prop where
 near:lU W B (dR nv) b.near
 dO:∃ l,kQ W B (dR av) l/\eB (uJ w) l b.dO
 seen:qB W B (dR sv) b.seen
 ent:∃ l,jg W B (dR ev) l/\eB (iW w) l b.ent
 own:∃ l,oN W B (dR ov) l/\eB (D8 w) l b.own
theorem Oa (b:Br) (nv av sv ev ov:Sl) (w:aO) (h:gZ w b nv av sv ev ov) (hf:Np b) :
  Calls aJ 21 #[ny b.me nv av sv ev ov] w fun e w'=>(∃ nv' xX Fw ev' RD:Sl,e=bI (ny b.me nv' xX Fw ev' RD)/\RV w w' w.heap.size b nv' xX Fw ev' RD)/\Below w.heap.size w w':=by
 obtain⟨no,nn,nc⟩:=nv;obtain⟨ao,an,ac⟩:=av;obtain⟨so,sn,sc⟩:=sv;obtain⟨eo,en,ec⟩:=ev;obtain⟨oo,dU,oc⟩:=ov;obtain⟨la,ha1,ha2⟩:=h.dO;obtain⟨le,he1,he2⟩:=h.ent;obtain⟨Eh,ho1,ho2⟩:=h.own;have HA:=O ha2;have HE:=O he2;have HO:=O ho2;have R0:=O h.near;have R1:=O ha1;have R2:=O h.seen;have R3:=O he1;have R4:=O ho1;have LL0:=O hf.near;have LL1:=O (show la.length<=900 by rw [ha2.len]; exact hf.dO);have LL2:=O hf.seen;have LL3:=O (show le.length<=900 by rw [he2.len]; exact hf.ent);have LL4:=O (show Eh.length<=900 by rw [ho2.len]; exact hf.own);obtain⟨h0,h1,h2⟩:=gK w #[U V b.me,J no nn nc,J ao an ac,J so sn sc,J eo en ec,J oo dU oc] #[U V 0,J X 0 0,J X 0 0,J X 0 0,J X 0 0,J X 0 0] 33 33;obtain⟨me,hme⟩:∃ me,me=b.me:=⟨_,rfl⟩;simp only [<- hme] at h0 h1 h2 ⊢;have B0:=O h0;have XB0:=O h1;have ZB0:=O h2;clear h0 h1 h2 h hf ha1 ha2 he1 he2 ho1 ho2 hme;go_enter Tryz.func21,Tryz.ntmps21;go_upto_region 1 with fail;generalize (w.alloc (ah #[U V me,J no nn nc,J ao an ac,J so sn sc,J eo en ec,J oo dU oc] 33)).alloc (ah #[U V 0,J X 0 0,J X 0 0,J X 0 0,J X 0 0,J X 0 0] 33)=W at *;obtain⟨q0,w0,r0,o0,g0⟩:=gy Nm.Jd (w.heap.size+2) (dL W #[] 3) (by have:=XB0.out.lt; have:=ZB0.out.lt; omega) ((R0.out.on B0.out).on (fE W (ah #[] 3))) (by have:=LL0.out; omega) 25;obtain⟨a0,c0,hv0⟩:=(aQ o0).len;obtain⟨l0,hl0⟩:∃ n,n=(b.near).length:=⟨_,rfl⟩;rw [<- hl0] at hv0;subst hv0;have G0:=(fE W (ah #[] 3)).trans (g0.mono (fE W (ah #[] 3)).size);have X0a:=XB0.out.on G0;have x0:=(XB0.out.on (fE W (ah #[] 3))).cell 1;have y0:=X0a.cell 1;have f0:=X0a.fr 1;have z0:=X0a.lt;simp only [aF,aC,aD] at x0 y0;have Xa:=O (show dJ _ _ #[U V me,J a0 l0 c0,J ao an ac,J so sn sc,J eo en ec,J oo dU oc] _ from by simpa using dN (k:=1) X0a (J a0 l0 c0));have ZB1:=O (show dJ _ _ _ _ from (Y w0 ⟨w.heap.size,1,X⟩ (J a0 l0 c0) _ (show w.heap.size+1≠w.heap.size by omega)).trans (ZB0.out.on G0));have B1:=O (((B0.out.trans (G0.mono B0.out.size)).setCell (p:=⟨w.heap.size,1,X⟩) (aG _) (J a0 l0 c0)));have adp:=O (dM o0 w.heap.size 1 (J a0 l0 c0) (by omega));clear X0a G0 o0 g0 hl0 XB0 ZB0 ;go_upto_region 2 with (first | (at_builtin; refine aM rfl _ _ 25 rfl rfl rfl r0 ?_) | fail)
 clear r0 x0 y0 f0 z0;generalize w0.setCell ⟨w.heap.size,1,X⟩ (J a0 l0 c0)=W1 at *;obtain⟨q1,w1,r1,o1,g1⟩:=gy okD (w.heap.size+2) (dL W1 #[] 53) (by have:=Xa.out.lt; have:=ZB1.out.lt; omega) ((R1.out.on B1.out).on (fE W1 (ah #[] 53))) (by have:=LL1.out; omega) 28;obtain⟨a1,c1,hv1⟩:=(aQ o1).len;obtain⟨l1,hl1⟩:∃ n,n=(la).length:=⟨_,rfl⟩;rw [<- hl1] at hv1;subst hv1;have G1:=(fE W1 (ah #[] 53)).trans (g1.mono (fE W1 (ah #[] 53)).size);have X1a:=Xa.out.on G1;have x1:=(Xa.out.on (fE W1 (ah #[] 53))).cell 2;have y1:=X1a.cell 2;have f1:=X1a.fr 2;have z1:=X1a.lt;simp only [aF,aC,aD] at x1 y1;have XB2:=O (show dJ _ _ #[U V me,J a0 l0 c0,J a1 l1 c1,J so sn sc,J eo en ec,J oo dU oc] _ from by simpa using dN (k:=2) X1a (J a1 l1 c1));have ZB2:=O (show dJ _ _ _ _ from (Y w1 ⟨w.heap.size,2,X⟩ (J a1 l1 c1) _ (show w.heap.size+1≠w.heap.size by omega)).trans (ZB1.out.on G1));have B2:=O (((B1.out.trans (G1.mono B1.out.size)).setCell (p:=⟨w.heap.size,2,X⟩) (aG _) (J a1 l1 c1)));have adr:=O (dM (dB adp.out G1) w.heap.size 2 (J a1 l1 c1) (by omega));have ads:=O (dM o1 w.heap.size 2 (J a1 l1 c1) (by omega));clear X1a G1 o1 g1 hl1 Xa ZB1 adp;go_upto_region 3 with (first | (at_builtin; refine aM rfl _ _ 28 rfl rfl rfl r1 ?_) | fail)
 clear r1 x1 y1 f1 z1;generalize w1.setCell ⟨w.heap.size,2,X⟩ (J a1 l1 c1)=W2 at *;obtain⟨q2,w2,r2,o2,g2⟩:=gy yD (w.heap.size+2) (dL W2 #[] 38) (by have:=XB2.out.lt; have:=ZB2.out.lt; omega) ((R2.out.on B2.out).on (fE W2 (ah #[] 38))) (by have:=LL2.out; omega) 29;obtain⟨a2,c2,hv2⟩:=(aQ o2).len;obtain⟨l2,hl2⟩:∃ n,n=(b.seen).length:=⟨_,rfl⟩;rw [<- hl2] at hv2;subst hv2;have G2:=(fE W2 (ah #[] 38)).trans (g2.mono (fE W2 (ah #[] 38)).size);have sW:=XB2.out.on G2;have x2:=(XB2.out.on (fE W2 (ah #[] 38))).cell 3;have y2:=sW.cell 3;have f2:=sW.fr 3;have z2:=sW.lt;simp only [aF,aC,aD] at x2 y2;have XB3:=O (show dJ _ _ #[U V me,J a0 l0 c0,J a1 l1 c1,J a2 l2 c2,J eo en ec,J oo dU oc] _ from by simpa using dN (k:=3) sW (J a2 l2 c2));have ZB3:=O (show dJ _ _ _ _ from (Y w2 ⟨w.heap.size,3,X⟩ (J a2 l2 c2) _ (show w.heap.size+1≠w.heap.size by omega)).trans (ZB2.out.on G2));have B3:=O (((B2.out.trans (G2.mono B2.out.size)).setCell (p:=⟨w.heap.size,3,X⟩) (aG _) (J a2 l2 c2)));have adt:=O (dM (dB adr.out G2) w.heap.size 3 (J a2 l2 c2) (by omega));have adu:=O (dM (dB ads.out G2) w.heap.size 3 (J a2 l2 c2) (by omega));have adw:=O (dM o2 w.heap.size 3 (J a2 l2 c2) (by omega));clear sW G2 o2 g2 hl2 XB2 ZB2 adr ads;go_upto_region 4 with (first | (at_builtin; refine aM rfl _ _ 29 rfl rfl rfl r2 ?_) | fail)
 clear r2 x2 y2 f2 z2;generalize w2.setCell ⟨w.heap.size,3,X⟩ (J a2 l2 c2)=W3 at *;obtain⟨q3,w3,r3,o3,g3⟩:=gy mY (w.heap.size+2) (dL W3 #[] 68) (by have:=XB3.out.lt; have:=ZB3.out.lt; omega) ((R3.out.on B3.out).on (fE W3 (ah #[] 68))) (by have:=LL3.out; omega) 30;obtain⟨a3,c3,hv3⟩:=(aQ o3).len;obtain⟨l3,hl3⟩:∃ n,n=(le).length:=⟨_,rfl⟩;rw [<- hl3] at hv3;subst hv3;have G3:=(fE W3 (ah #[] 68)).trans (g3.mono (fE W3 (ah #[] 68)).size);have Wt:=XB3.out.on G3;have x3:=(XB3.out.on (fE W3 (ah #[] 68))).cell 4;have y3:=Wt.cell 4;have f3:=Wt.fr 4;have z3:=Wt.lt;simp only [aF,aC,aD] at x3 y3;have XB4:=O (show dJ _ _ #[U V me,J a0 l0 c0,J a1 l1 c1,J a2 l2 c2,J a3 l3 c3,J oo dU oc] _ from by simpa using dN (k:=4) Wt (J a3 l3 c3));have ZB4:=O (show dJ _ _ _ _ from (Y w3 ⟨w.heap.size,4,X⟩ (J a3 l3 c3) _ (show w.heap.size+1≠w.heap.size by omega)).trans (ZB3.out.on G3));have B4:=O (((B3.out.trans (G3.mono B3.out.size)).setCell (p:=⟨w.heap.size,4,X⟩) (aG _) (J a3 l3 c3)));have adx:=O (dM (dB adt.out G3) w.heap.size 4 (J a3 l3 c3) (by omega));have ady:=O (dM (dB adu.out G3) w.heap.size 4 (J a3 l3 c3) (by omega));have adz:=O (dM (dB adw.out G3) w.heap.size 4 (J a3 l3 c3) (by omega));have adA:=O (dM o3 w.heap.size 4 (J a3 l3 c3) (by omega));clear Wt G3 o3 g3 hl3 XB3 ZB3 adt adu adw;go_upto_region 5 with (first | (at_builtin; refine aM rfl _ _ 30 rfl rfl rfl r3 ?_) | fail)
 clear r3 x3 y3 f3 z3;generalize w3.setCell ⟨w.heap.size,4,X⟩ (J a3 l3 c3)=W4 at *;obtain⟨q4,w4,r4,o4,g4⟩:=gy okW (w.heap.size+2) (dL W4 #[] 61) (by have:=XB4.out.lt; have:=ZB4.out.lt; omega) ((R4.out.on B4.out).on (fE W4 (ah #[] 61))) (by have:=LL4.out; omega) 31;obtain⟨a4,c4,hv4⟩:=(aQ o4).len;obtain⟨l4,hl4⟩:∃ n,n=(Eh).length:=⟨_,rfl⟩;rw [<- hl4] at hv4;subst hv4;have G4:=(fE W4 (ah #[] 61)).trans (g4.mono (fE W4 (ah #[] 61)).size);have Jr:=XB4.out.on G4;have x4:=(XB4.out.on (fE W4 (ah #[] 61))).cell 5;have y4:=Jr.cell 5;have f4:=Jr.fr 5;have z4:=Jr.lt;simp only [aF,aC,aD] at x4 y4;have XB5:=O (show dJ _ _ #[U V me,J a0 l0 c0,J a1 l1 c1,J a2 l2 c2,J a3 l3 c3,J a4 l4 c4] _ from by simpa using dN (k:=5) Jr (J a4 l4 c4));have ZB5:=O (show dJ _ _ _ _ from (Y w4 ⟨w.heap.size,5,X⟩ (J a4 l4 c4) _ (show w.heap.size+1≠w.heap.size by omega)).trans (ZB4.out.on G4));have B5:=O (((B4.out.trans (G4.mono B4.out.size)).setCell (p:=⟨w.heap.size,5,X⟩) (aG _) (J a4 l4 c4)));have af5:=O (dM (dB adx.out G4) w.heap.size 5 (J a4 l4 c4) (by omega));have af6:=O (dM (dB ady.out G4) w.heap.size 5 (J a4 l4 c4) (by omega));have af7:=O (dM (dB adz.out G4) w.heap.size 5 (J a4 l4 c4) (by omega));have af8:=O (dM (dB adA.out G4) w.heap.size 5 (J a4 l4 c4) (by omega));have af9:=O (dM o4 w.heap.size 5 (J a4 l4 c4) (by omega));clear Jr G4 o4 g4 hl4 XB4 ZB4 adx ady adz adA;go_upto_region 6 with (first | (at_builtin; refine aM rfl _ _ 31 rfl rfl rfl r4 ?_) | fail)
 clear r4 x4 y4 f4 z4;generalize w4.setCell ⟨w.heap.size,5,X⟩ (J a4 l4 c4)=W5 at *;have sW:=XB5.out;have oO:=ZB5.out;obtain⟨x0,x1,x2,x3,x4,x5⟩:=sW.fA;obtain⟨r0,r1,r2,r3,r4,r5⟩:=oO.fA;obtain⟨t0,t1,t2,t3,t4,t5⟩:=oO.kg;have zz:=oO.lt;have FB:=O (dK oO (U V me) (J a0 l0 c0) (J a1 l1 c1) (J a2 l2 c2) (J a3 l3 c3) (J a4 l4 c4));have BL:=O (dD (b:=w.heap.size+1) B5.out (by omega) (U V me) (J a0 l0 c0) (J a1 l1 c1) (J a2 l2 c2) (J a3 l3 c3) (J a4 l4 c4));have F0:=O (eY af5.out (w.heap.size+1) (by omega) (U V me) (J a0 l0 c0) (J a1 l1 c1) (J a2 l2 c2) (J a3 l3 c3) (J a4 l4 c4));have F1:=O (eY af6.out (w.heap.size+1) (by omega) (U V me) (J a0 l0 c0) (J a1 l1 c1) (J a2 l2 c2) (J a3 l3 c3) (J a4 l4 c4));have F2:=O (eY af7.out (w.heap.size+1) (by omega) (U V me) (J a0 l0 c0) (J a1 l1 c1) (J a2 l2 c2) (J a3 l3 c3) (J a4 l4 c4));have F3:=O (eY af8.out (w.heap.size+1) (by omega) (U V me) (J a0 l0 c0) (J a1 l1 c1) (J a2 l2 c2) (J a3 l3 c3) (J a4 l4 c4));have F4:=O (eY af9.out (w.heap.size+1) (by omega) (U V me) (J a0 l0 c0) (J a1 l1 c1) (J a2 l2 c2) (J a3 l3 c3) (J a4 l4 c4));clear sW oO;go_wp2_with fail;obtain⟨v0,v1,v2,v3,v4,v5⟩:=FB.out.fA;refine aH (v:=bf #[U V me,J a0 l0 c0,J a1 l1 c1,J a2 l2 c2,J a3 l3 c3,J a4 l4 c4]) (by simp [results,Tryz.results21,go_sem,v0,v1,v2,v3,v4,v5]) rfl ?_;exact⟨⟨(a0,l0,c0),(a1,l1,c1),(a2,l2,c2),(a3,l3,c3),(a4,l4,c4),rfl,dG F0.out (by omega),⟨la,dG F1.out (by omega),HA.out⟩,dG F2.out (by omega),⟨le,dG F3.out (by omega),HE.out⟩,⟨Eh,dG F4.out (by omega),HO.out⟩⟩,BL.out⟩
end Bk
end Go.Proofs.YtkcfgbddlpomgaaGreat
