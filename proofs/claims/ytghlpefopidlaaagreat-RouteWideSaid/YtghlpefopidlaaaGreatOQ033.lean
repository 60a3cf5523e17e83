/-
  slices.Delete of one. Conditions as told.
-/
import Derived.Test.YtghlpefopidlaaaGreatOQ030
set_option maxRecDepth 100000
set_option maxHeartbeats 64000000
open Go.Proofs.Tryz renaming prog->U
open Go.Value renaming slice->J,int->V
open _root_.List renaming length_append->D,length_drop->L,length_take->O
open _root_.Option renaming none->K,some->Q
namespace Go.Proofs.YtghlpefopidlaaaGreat.Sb
open Go.RowKit Go.Sort Rw YtghlpefopidlaaaGreat.Nm Pr Bk Av
theorem II {w:World} {B g n cap k:Nat} {l:List iT} (ho:jy w B (J (Q ⟨g,0,K⟩) n cap) l) (hk:k<n) (ty:TypeId) :
  ∃ w',(Builtin.append_ #[27,27] ty #[J (Q ⟨g,0,K⟩) k cap,J (Q (if cap=k+1 then ⟨g,0,K⟩ else ⟨g,(k+1) * 7,K⟩)) (n-(k+1)) (cap-(k+1))]).run U w=.ok (J (Q ⟨g,0,K⟩) (n-1) cap) w' /\
   jy w' B (J (Q ⟨g,0,K⟩) n cap) (cutAt l k++l.drop (n-1))/\But g w w'/\(∀ B' W,B'<=g->Below B' W w->Below B' W w'):=by
 have hl:l.length=n:=eU ho;rcases eT ho with⟨h1,_⟩|⟨g',cap',cur,h1,h2,h3,h4,h5,h6,h7⟩
 ·cases h1
 ·obtain⟨rfl,_,rfl⟩:g=g'/\n=l.length/\cap=cap':=by simpa using h1
  obtain⟨i,i1,i2,i3,i4⟩:=lF.info;have hE:EN.n=7:=rfl;have zS:i.size=7:=i3;rw [hl] at h4 h7;rw [hE] at h6 h7;have hd:(l.drop (k+1)).length=n-(k+1):=by rw [L,hl]
  have IJ:(flat EN (l.drop (k+1))).length=(n-(k+1)) * 7:=by rw [dz lF,hd,hE]
  have hsz:cur.toList.length=cap * 7:=by rw [Array.length_toList]; exact h6
  have hcell:∀ j u,(flat EN (l.drop (k+1)))[j]?=Q u->w.cell? ((if cap=k+1 then (⟨g,0,K⟩:Addr) else ⟨g,(k+1) * 7,K⟩).add j)=Q u:=fun j u hj=>by
   have hlt:=(List.getElem?_eq_some_iff.1 hj).1;rw [IJ] at hlt;rw [if_neg (by omega)];exact qp lF h3 (by rw [hl,hE]; exact h7) (k+1) j u hj
  have hr:=run_append_room (P:=U) w 27 ty 67 i lF.hu i1 g k cap cur h3 _ (n-(k+1)) (cap-(k+1)) (flat EN (l.drop (k+1))) (by rw [IJ,zS]) hcell (jG lF _) (by omega) (by rw [IJ,zS,h6]; omega);rw [show k+(n-(k+1))=n-1 by omega] at hr;refine⟨_,hr,jR lF ?_ h2 (dx.set h3 _) h4 h5 ?_ ?_,⟨fun j _ hne=>setRow_other w g j _ hne,by simp⟩,fun B' W hB hb=>Rw.below_setRow hb hB _⟩
  ·rw [D,L];unfold cutAt;rw [D,O,hd,hl];omega
  ·rw [List.size_toArray,D,D,O,L,IJ,hsz,zS,hE];omega
  ·have t1:cur.toList.take (k * 7)=flat EN (l.take k):=by
    rw [<- kF lF,<- h7,List.take_take,hE,Nat.min_eq_left (by omega)]
   have t2:(cur.toList.drop ((n-1) * 7)).take 7=flat EN (l.drop (n-1)):=by
    rw [<- rC lF,<- h7,hE,List.drop_take,show n * 7-(n-1) * 7=7 by omega]
   rw [zS,hE,IJ,show k * 7+(n-(k+1)) * 7=(n-1) * 7 by omega,t1];have e1:(flat EN (l.take k)++flat EN (l.drop (k+1))).length=(n-1) * 7:=by
    rw [D,IJ,dz lF,O,hE,hl];omega
   rw [List.take_append,e1,List.take_of_length_le (by rw [e1]; omega),show n * 7-(n-1) * 7=7 by omega,t2];unfold cutAt;rw [eY,eY]
theorem Lg {l:List iT} {n k:Nat} (hl:l.length=n) (hk:k<n):(cutAt l k++l.drop (n-1)).take (n-1)=cutAt l k:=by
 have h:(cutAt l k).length=n-1:=by
  unfold cutAt;rw [D,O,L,hl];omega
 rw [<- h,List.take_left]
theorem slice3 (a:Addr) (f e len cap:Nat) (h:f<=e) (h2:e<=len) (h3:len<=cap) (w:World):(Instr.sliceAt 27 (J (Q a) len cap) (Q (V .i64 f)) (Q (V .i64 e)) (Q (V .i64 len))).run U w=.ok (J (Q (if len=f then a else a.add (f * 7))) (e-f) (len-f)) w:=by
 obtain⟨i,i1,i2,i3,i4⟩:=lF.info;have Nb:Tryz.prog.info? 67=Q i:=i1;have hu':Tryz.prog.underlying 27=Q (.slice 67):=lF.hu;have zS:i.size=7:=i3;by_cases he:len=f
 ·subst he;obtain rfl:e=len:=by omega
  simp [go_sem,hu',sizeOf,typeInfo,Nb,zS,h3]
 ·simp [go_sem,hu',sizeOf,typeInfo,Nb,zS,he,h,h2,h3]
theorem Om (B g n cap k:Nat) (l:List iT) (w:World) (ho:jy w B (J (Q ⟨g,0,K⟩) n cap) l) (hk:k<n) (hn:n<=1000) :
  Calls U 158 #[J (Q ⟨g,0,K⟩) n cap,V .i64 k,V .i64 ((k:Int)+1)] w fun e w'=>e=.returned (J (Q ⟨g,0,K⟩) (n-1) cap) /\
   jy w' B (J (Q ⟨g,0,K⟩) (n-1) cap) (cutAt l k)/\But g w w'/\(∀ B' W,B'<=g->Below B' W w->Below B' W w'):=by
 have hl:l.length=n:=eU ho;have hnc:n<=cap:=by
  rcases eT ho with⟨h1,_⟩|⟨g',cap',cur,h1,_,_,h4,_⟩
  ·cases h1
  ·obtain⟨_,_,rfl⟩:g=g'/\n=l.length/\cap=cap':=by simpa using h1
   rw [hl] at h4;exact h4
 have s3:=fun w=>slice3 ⟨g,0,K⟩ k (k+1) n cap (by omega) (by omega) hnc w;rw [show (((k+1:Nat):Int))=(k:Int)+1 by omega] at s3;have s1:∀ w,(Instr.sliceAt 27 (J (Q ⟨g,0,K⟩) n cap) K (Q (V .i64 k)) K).run U w=.ok (J (Q ⟨g,0,K⟩) k cap) w:=fun w=>iB lF ⟨g,0,K⟩ k n cap (by omega) w;have s2:∀ w,(Instr.sliceAt 27 (J (Q ⟨g,0,K⟩) n cap) (Q (V .i64 ((k:Int)+1))) K K).run U w=.ok (J (Q (if cap=k+1 then ⟨g,0,K⟩ else ⟨g,(k+1) * 7,K⟩)) (n-(k+1)) (cap-(k+1))) w:=fun w=>by
  have h:=ql lF ⟨g,0,K⟩ (k+1) n cap (by omega) w;rw [show (((k+1:Nat):Int))=(k:Int)+1 by omega,lM] at h;exact h
 have hne:((k:Int) == (k:Int)+1)=false:=by simp; omega
 obtain⟨w1,r1,o1,b1,l1⟩:=II (Bk.dI ho (Below.refl _ _).drew) hk 27;obtain⟨p,hp⟩:∃ p:Addr,(if cap=k+1 then (⟨g,0,K⟩:Addr) else ⟨g,(k+1) * 7,K⟩)=p:=⟨_,rfl⟩;obtain⟨q,hq⟩:∃ p:Addr,(if n=k then (⟨g,0,K⟩:Addr) else (⟨g,0,K⟩:Addr).add (k * 7))=p:=⟨_,rfl⟩;rw [hp] at s2 r1;rw [hq] at s3;obtain⟨m,hm⟩:∃ m,n=m+1:=⟨n-1,by omega⟩;obtain⟨w2,r2_,o2,b2,l2⟩:=xP lF (by decide) o1 (show n-1<n by omega) 0;rw [Lg hl hk] at o2;have O2:=Lib.hid o2;have B2:=Lib.hid (show But g w w2 from ((But.of_below (Below.refl w.heap.size w).drew).trans b1).trans b2);have L2:=Lib.hid (show ∀ B' W,B'<=g->Below B' W w->Below B' W w2 from fun B' W hB hb=>l2 B' W hB (l1 B' W hB hb.drew));have r2:(Builtin.clear_ #[27] 0 #[J (Q ⟨g,(n-1) * 7,K⟩) (n-(n-1)) (cap-(n-1))]).run U w1=.ok (.tuple #[]) w2:=r2_;clear hp hq o1 b1 l1 o2 b2 l2 ho hl;generalize n-(k+1)=x1 at s2 r1;generalize cap-(k+1)=x2 at s2 r1;generalize k+1-k=x3 at s3;generalize n-k=x4 at s3;rw [show n-(n-1)=1 by omega] at r2;clear r2_;subst hm;rw [Nat.add_sub_cancel] at *;go_enter Tryz.func158,Tryz.ntmps158;go_wp2
 go_region_law (refine nN rfl (.tmp 22) (.tmp 25) 27 rfl (v:=J (Q ⟨g,0,K⟩) k cap) (xv:=J (Q p) x1 x2) rfl rfl r1 ?_)
 all_goals simp only [Exit.then]
 all_goals apply_assumption
 all_goals
  go_wp2_with (first | (at_builtin; refine su rfl _ _ rfl rfl r2 ?_) | fail);go_ret;exact⟨rfl,O2.out,B2.out,L2.out⟩
end Go.Proofs.YtghlpefopidlaaaGreat.Sb
