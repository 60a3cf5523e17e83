/-
  Clients of package c. Conditions as told.
-/
import Derived.Test.YtkcfgbddlpomgaaGreatOQ036
set_option maxRecDepth 100000
set_option maxHeartbeats 64000000
open Go.Lib renaming hid->J
open Go.Proofs.Tryz renaming prog->Y
open Go.Value renaming slice->D,int->ay
open _root_.List renaming length_append->K,getElem?_cons_zero->L,getElem?_toArray->V,length_drop->Z,length_take->ah,getElem?_eq_getElem->aj,getElem?_cons_succ->ak,take_of_length_le->au
open _root_.Option renaming none->O,some->U
namespace Go.Proofs.YtkcfgbddlpomgaaGreat
namespace Ca
open Go.RowKit Go.Sort Rw YtkcfgbddlpomgaaGreat.Nm Pr Bk Av Rl Sb Fl
theorem Gy (b:Br) (nv av sv ev ov:Sl) (lv:Sl) (l:List An) (w:World) (h:iI w b nv av sv ev ov) (hc:qU b) (hl:wH w (dU lv) l) (hn:NL l) :
  Calls Y 19 #[mJ b.me nv av sv ev ov,dU lv] w fun e w'=>(∃ o:Sl,e=.returned (dU o)/\kS w' w.heap.size (dU o) (q8 b l))/\Below w.heap.size w w':=by
 obtain⟨no,nn,nc⟩:=nv;obtain⟨ao,an,ac⟩:=av;obtain⟨so,sn,sc⟩:=sv;obtain⟨eo,en,ec⟩:=ev;obtain⟨oo,z2,oc⟩:=ov;obtain⟨lo,ln,lc⟩:=lv;obtain⟨lb,he1,he2⟩:=h.own;have h0:=fI w (.cells #[ay .i64 b.me,D no nn nc,D ao an ac,D so sn sc,D eo en ec,D oo z2 oc] 33);have X:=dO w #[ay .i64 b.me,D no nn nc,D ao an ac,D so sn sc,D eo en ec,D oo z2 oc] 33;have B1:=J h0;have x5:=X.cell 5;simp only [V,L,ak] at x5;have R1:=J (he1.on h0);have R2:=J (he2.mono fun _ _ q=>q.on h0);have LL:=J (hl.on h0);have NLL:=J hn;have HM:=J (show b.own.length<=900 from hc.few.own);have OK:=J (show ∀ e∈b.own,dW e.p from hc.po);have TI:=J (fun (r:List Int) (h1:r.Pairwise (·<·)) (h2:∀ x,x∈r↔x∈qb b.own l)=>ags hc (l:=l) h1 h2);have hnl:lb.length=z2:=ou he1;have HN:=J hnl;have hz:z2<=900:=by have:=he2.len; have:=HM.out; omega
 generalize q8 b l=res at *;generalize b.own=mb at *;clear X h hc hl hn h0 he1 he2 hnl;go_enter Tryz.func19,Tryz.ntmps19;go_upto_region 1 with fail;generalize w.alloc (.cells #[ay .i64 b.me,D no nn nc,D ao an ac,D so sn sc,D eo en ec,D oo z2 oc] 33)=w1 at *;go_wp2
 go_loopw [5,11] (fun v i wr=>∃ k:Nat,k<=z2/\i=ay .i64 k/\Below w1.heap.size w1 wr/\kS wr w1.heap.size v (qb (mb.take k) l)) (fun _ i _=>z2-(intOf i).toNat)
 case atStart=>exact⟨0,Nat.zero_le _,rfl,Below.refl _ _,gB _ _⟩
 case round =>
  obtain⟨k,hk,rfl,hbe,hown⟩:=hrel;have BE:=J hbe;have OE:=J hown;clear hbe hown x5;by_cases hlt:k<z2
  ·obtain⟨y,hy⟩:∃ y,lb[k]?=U y:=⟨_,aj (by rw [HN.out]; exact hlt)⟩;obtain⟨q,ix,px⟩:=elW R1.out rfl HN.out hy;obtain⟨p0,p1,p2⟩:=px wr BE.out;obtain⟨e,he⟩:∃ e,mb[k]?=U e:=⟨_,aj (by rw [<- R2.out.len,HN.out]; exact hlt)⟩;obtain⟨y',hy',hin⟩:=R2.out.at k e he;rw [hy] at hy';obtain rfl:=Option.some.inj hy';obtain⟨y1,y2,⟨yo,yn,yc⟩⟩:=y;simp only at p0 p1 p2;have NB:=J (fI wr (.cells #[ay .i64 y1,ay .i64 y2,D yo yn yc] 61));have BF:=J (BE.out.trans (NB.out.mono BE.out.size));have hx:=dO wr #[ay .i64 y1,ay .i64 y2,D yo yn yc] 61;have hw3:IntKind.i64.wrap ((k:Int)+1)=(k:Int)+1:=IntWalk.i64_in _ (by omega);have HF:=J (show y1=e.id.1 from congrArg Prod.fst hin.1);have HE:=J he;have OB:=J (Bk.dG OE.out NB.out);have MA:=J (OH (D yo yn yc) (D lo ln lc) e.p l _ (hin.2.on BF.out) (LL.out.on BF.out) (OK.out e (List.mem_of_getElem? he)) NLL.out);have BX:=J hx;have v2:=hx.cell 2;simp only [V,L,ak] at v2;obtain⟨g,hg⟩:∃ g,pR e.p l=g:=⟨_,rfl⟩;rw [hg] at MA;have HG:=J hg;clear px hy he hin hx hg;go_wp2_with fail;refine MA.out.mono ?_;rintro e3 w3 ⟨rfl,hb⟩;have BG:=J (BF.out.trans (hb.mono BF.out.size));have OC:=J (Bk.dG OB.out hb);have u0:=(BX.out.on hb).cell 0;simp only [V,L] at u0;clear hb MA v2 BF OB NB p0 p1 p2 ix;cases g
   ·have E2:=J (WW (l:=l) HE.out HG.out);go_wp2
    go_roundw
    case rel=>exact⟨k+1,by omega,by go_num,BG.out,by rw [E2.out]; exact OC.out⟩
    case measure=>simp [intOf]; omega
   ·have E2:=J (Ru (l:=l) HE.out HG.out);have hl9:(qb (mb.take k) l).length<=900:=Nat.le_trans (EH _ _) (Nat.le_trans (List.length_take_le _ _) (by omega));obtain⟨v',w',r',o',bl⟩:=OJ y1 OC.out (by omega) BG.out.size BG.out;have O2:=J o';have B2:=J bl;clear hl9 o' bl BX;go_wp2_with (first | (at_builtin; refine wpList_append_run rfl _ _ 25 rfl rfl rfl r' ?_) | fail)
    go_roundw
    case rel=>exact⟨k+1,by omega,by go_num,B2.out,by rw [E2.out,<- HF.out]; exact O2.out⟩
    case measure=>simp [intOf]; omega
  ·obtain rfl:z2=k:=by omega
   have e:mb.take z2=mb:=au (by have:=HN.out; have:=R2.out.len; omega);rw [e] at OE;obtain⟨xU,xV,hv⟩:=(Row.dH OE.out).len;subst hv;have CR:=J (Ey wr w1.heap.size (xU,_,xV) _ OE.out (Nat.le_trans (EH _ _) HM.out) BE.out.size);clear e;generalize (qb mb l).length=nn9 at *;go_wp2_with fail;refine CR.out.mono ?_;rintro e4 w4 ⟨⟨⟨r1,r2,r3⟩,lr,rfl,ho,hs,hm⟩,hb⟩;have Q:=J (show (∃ o:Sl,Ending.returned (D r1 r2 r3)=.returned (dU o)/\kS w4 w.heap.size (dU o) res)/\Below w.heap.size w w4 from ⟨⟨(r1,r2,r3),rfl,by rw [<- TI.out lr hs hm]; exact dJ ho B1.out.size⟩,B1.out.trans ((BE.out.trans hb).mono B1.out.size)⟩);clear ho hs hm hb CR TI;go_wp2;go_ret;exact Q.out
end Ca
namespace Sb
open Go.RowKit Go.Sort Rw YtkcfgbddlpomgaaGreat.Nm Pr Bk Av
theorem Ry {w:World} {B g n cap k:Nat} {l:List iH} (ho:iU w B (D (U ⟨g,0,O⟩) n cap) l) (hk:k<n) (ty:TypeId) :
  ∃ w',(Builtin.append_ #[30,30] ty #[D (U ⟨g,0,O⟩) k cap,D (U (if cap=k+1 then ⟨g,0,O⟩ else ⟨g,(k+1) * 7,O⟩)) (n-(k+1)) (cap-(k+1))]).run Y w=.ok (D (U ⟨g,0,O⟩) (n-1) cap) w' /\
   iU w' B (D (U ⟨g,0,O⟩) n cap) (cutAt l k++l.drop (n-1))/\But g w w'/\(∀ B' W,B'<=g->Below B' W w->Below B' W w'):=by
 have hl:l.length=n:=gJ ho;rcases gQ ho with⟨h1,_⟩|⟨g',cap',cur,h1,h2,h3,h4,h5,h6,h7⟩
 ·cases h1
 ·obtain⟨rfl,_,rfl⟩:g=g'/\n=l.length/\cap=cap':=by simpa using h1
  obtain⟨i,i1,i2,i3,i4⟩:=lF.info;have hE:EN.n=7:=rfl;have Yl:i.size=7:=i3;rw [hl] at h4 h7;rw [hE] at h6 h7;have hd:(l.drop (k+1)).length=n-(k+1):=by rw [Z,hl]
  have hfd:(flat EN (l.drop (k+1))).length=(n-(k+1)) * 7:=by rw [eF lF,hd,hE]
  have hsz:cur.toList.length=cap * 7:=by rw [Array.length_toList]; exact h6
  have hcell:∀ j u,(flat EN (l.drop (k+1)))[j]?=U u->w.cell? ((if cap=k+1 then (⟨g,0,O⟩:Addr) else ⟨g,(k+1) * 7,O⟩).add j)=U u:=fun j u hj=>by
   have hlt:=(List.getElem?_eq_some_iff.1 hj).1;rw [hfd] at hlt;rw [if_neg (by omega)];exact zJ lF h3 (by rw [hl,hE]; exact h7) (k+1) j u hj
  have hr:=run_append_room (P:=Y) w 30 ty 68 i lF.hu i1 g k cap cur h3 _ (n-(k+1)) (cap-(k+1)) (flat EN (l.drop (k+1))) (by rw [hfd,Yl]) hcell (oU lF _) (by omega) (by rw [hfd,Yl,h6]; omega);rw [show k+(n-(k+1))=n-1 by omega] at hr;refine⟨_,hr,qW lF ?_ h2 (dN.set h3 _) h4 h5 ?_ ?_,⟨fun j _ hne=>setRow_other w g j _ hne,by simp⟩,fun B' W hB hb=>Rw.below_setRow hb hB _⟩
  ·rw [K,Z];unfold cutAt;rw [K,ah,hd,hl];omega
  ·rw [List.size_toArray,K,K,ah,Z,hfd,hsz,Yl,hE];omega
  ·have t1:cur.toList.take (k * 7)=flat EN (l.take k):=by
    rw [<- qX lF,<- h7,List.take_take,hE,Nat.min_eq_left (by omega)]
   have t2:(cur.toList.drop ((n-1) * 7)).take 7=flat EN (l.drop (n-1)):=by
    rw [<- Df lF,<- h7,hE,List.drop_take,show n * 7-(n-1) * 7=7 by omega]
   rw [Yl,hE,hfd,show k * 7+(n-(k+1)) * 7=(n-1) * 7 by omega,t1];have e1:(flat EN (l.take k)++flat EN (l.drop (k+1))).length=(n-1) * 7:=by
    rw [K,hfd,eF lF,ah,hE,hl];omega
   rw [List.take_append,e1,au (by rw [e1]; omega),show n * 7-(n-1) * 7=7 by omega,t2];unfold cutAt;rw [gI,gI]
theorem Xa {l:List iH} {n k:Nat} (hl:l.length=n) (hk:k<n):(cutAt l k++l.drop (n-1)).take (n-1)=cutAt l k:=by
 have h:(cutAt l k).length=n-1:=by
  unfold cutAt;rw [K,ah,Z,hl];omega
 rw [<- h,List.take_left]
theorem slice3 (a:Addr) (f e len cap:Nat) (h:f<=e) (h2:e<=len) (h3:len<=cap) (w:World):(Instr.sliceAt 30 (D (U a) len cap) (U (ay .i64 f)) (U (ay .i64 e)) (U (ay .i64 len))).run Y w=.ok (D (U (if len=f then a else a.add (f * 7))) (e-f) (len-f)) w:=by
 obtain⟨i,i1,i2,i3,i4⟩:=lF.info;have i1':Tryz.prog.info? 68=U i:=i1;have hu':Tryz.prog.underlying 30=U (.slice 68):=lF.hu;have Yl:i.size=7:=i3;by_cases he:len=f
 ·subst he;obtain rfl:e=len:=by omega
  simp [go_sem,hu',sizeOf,typeInfo,i1',Yl,h3]
 ·simp [go_sem,hu',sizeOf,typeInfo,i1',Yl,he,h,h2,h3]
theorem Zz (B g n cap k:Nat) (l:List iH) (w:World) (ho:iU w B (D (U ⟨g,0,O⟩) n cap) l) (hk:k<n) (hn:n<=1000) :
  Calls Y 53 #[D (U ⟨g,0,O⟩) n cap,ay .i64 k,ay .i64 ((k:Int)+1)] w fun e w'=>e=.returned (D (U ⟨g,0,O⟩) (n-1) cap) /\
   iU w' B (D (U ⟨g,0,O⟩) (n-1) cap) (cutAt l k)/\But g w w'/\(∀ B' W,B'<=g->Below B' W w->Below B' W w'):=by
 have hl:l.length=n:=gJ ho;have hnc:n<=cap:=by
  rcases gQ ho with⟨h1,_⟩|⟨g',cap',cur,h1,_,_,h4,_⟩
  ·cases h1
  ·obtain⟨_,_,rfl⟩:g=g'/\n=l.length/\cap=cap':=by simpa using h1
   rw [hl] at h4;exact h4
 have s3:=fun w=>slice3 ⟨g,0,O⟩ k (k+1) n cap (by omega) (by omega) hnc w;rw [show (((k+1:Nat):Int))=(k:Int)+1 by omega] at s3;have s1:∀ w,(Instr.sliceAt 30 (D (U ⟨g,0,O⟩) n cap) O (U (ay .i64 k)) O).run Y w=.ok (D (U ⟨g,0,O⟩) k cap) w:=fun w=>nQ lF ⟨g,0,O⟩ k n cap (by omega) w;have s2:∀ w,(Instr.sliceAt 30 (D (U ⟨g,0,O⟩) n cap) (U (ay .i64 ((k:Int)+1))) O O).run Y w=.ok (D (U (if cap=k+1 then ⟨g,0,O⟩ else ⟨g,(k+1) * 7,O⟩)) (n-(k+1)) (cap-(k+1))) w:=fun w=>by
  have h:=zI lF ⟨g,0,O⟩ (k+1) n cap (by omega) w;rw [show (((k+1:Nat):Int))=(k:Int)+1 by omega,lS] at h;exact h
 have hne:((k:Int) == (k:Int)+1)=false:=by simp; omega
 obtain⟨w1,r1,o1,b1,l1⟩:=Ry (Bk.dG ho (Below.refl _ _).drew) hk 30;obtain⟨p,hp⟩:∃ p:Addr,(if cap=k+1 then (⟨g,0,O⟩:Addr) else ⟨g,(k+1) * 7,O⟩)=p:=⟨_,rfl⟩;obtain⟨q,hq⟩:∃ p:Addr,(if n=k then (⟨g,0,O⟩:Addr) else (⟨g,0,O⟩:Addr).add (k * 7))=p:=⟨_,rfl⟩;rw [hp] at s2 r1;rw [hq] at s3;obtain⟨m,hm⟩:∃ m,n=m+1:=⟨n-1,by omega⟩;obtain⟨w2,r2_,o2,b2,l2⟩:=Qw lF (by decide) o1 (show n-1<n by omega) 0;rw [Xa hl hk] at o2;have O2:=J o2;have B2:=J (show But g w w2 from ((But.of_below (Below.refl w.heap.size w).drew).trans b1).trans b2);have L2:=J (show ∀ B' W,B'<=g->Below B' W w->Below B' W w2 from fun B' W hB hb=>l2 B' W hB (l1 B' W hB hb.drew));have r2:(Builtin.clear_ #[30] 0 #[D (U ⟨g,(n-1) * 7,O⟩) (n-(n-1)) (cap-(n-1))]).run Y w1=.ok (.tuple #[]) w2:=r2_;clear hp hq o1 b1 l1 o2 b2 l2 ho hl;generalize n-(k+1)=x1 at s2 r1;generalize cap-(k+1)=x2 at s2 r1;generalize k+1-k=x3 at s3;generalize n-k=x4 at s3;rw [show n-(n-1)=1 by omega] at r2;clear r2_;subst hm;rw [Nat.add_sub_cancel] at *;go_enter Tryz.func53,Tryz.ntmps53;go_wp2
 go_region_law (refine eU rfl (.tmp 22) (.tmp 25) 30 rfl (v:=D (U ⟨g,0,O⟩) k cap) (xv:=D (U p) x1 x2) rfl rfl r1 ?_)
 all_goals simp only [Exit.then]
 all_goals apply_assumption
 all_goals
  go_wp2_with (first | (at_builtin; refine Rz rfl _ _ rfl rfl r2 ?_) | fail);go_ret;exact⟨rfl,O2.out,B2.out,L2.out⟩
end Sb
namespace Fl
open Go.RowKit Go.Sort Rw YtkcfgbddlpomgaaGreat.Nm Pr Bk Av
end Fl
end Go.Proofs.YtkcfgbddlpomgaaGreat
