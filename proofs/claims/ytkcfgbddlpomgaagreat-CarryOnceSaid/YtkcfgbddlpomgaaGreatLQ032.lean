/-
  Predicates of number. Conditions as told.
-/
import Derived.Test.YtkcfgbddlpomgaaGreatLQ031
import Derived.Test.YtkcfgbddlpomgaaGreatLQ023
import Derived.Test.YtkcfgbddlpomgaaGreatLQ021
set_option maxRecDepth 100000
set_option maxHeartbeats 64000000
open _root_.Bool renaming and_eq_true->ay,true->aJ,false->aK
open Go.DataW renaming trod->Q,trod_int->V,trod_struct->ak
open Go.IntKind renaming i64->Y
open Go.Lib renaming hid->J
open Go.Obj renaming cells->aA
open Go.Proofs.Tryz renaming prog->L,underlying3->U,underlying24->aI
open Go.Value renaming string->O,int->Z,bool->aL
open _root_.List renaming getElem?_eq_getElem->K,length_map->X,drop_succ_cons->ah,take_succ_cons->aj,mem_cons->au,mem_cons_of_mem->aB,mem_of_getElem?->aC,drop_zero->aD,take_zero->aF,pairwise_cons->aG,getElem?_map->aH
namespace Go.Proofs.YtkcfgbddlpomgaaGreat
namespace Av
open Go.RowKit Rw YtkcfgbddlpomgaaGreat.Nm Pr Wr
theorem aa1 (c:Cn) (h:A8 c=aJ):NK (r5 c)=aJ:=by
 obtain⟨n,k⟩:=c;unfold A8 at h;rw [ay] at h;obtain⟨h1,h2⟩:=h;have h1':At.Fb n=aJ:=h1;cases k with
 | rg lo hi =>
  have h3:lo<=hi:=by simpa [iW] using h2
  have h0:(⟨#[]⟩:ByteArray).size=0:=rfl;simp [r5,NK,kN,jh,ji,kT,h1',h3,h0]
 | tx t =>
  have h3:t.size<=12:=by simpa [iW] using h2
  simp [r5,NK,kN,jh,ji,kT,h1',h3]
 | pr t =>
  have h3:t.size<12:=by simpa [iW] using h2
  have h4:t.size<=11:=by omega
  simp [r5,NK,kN,jh,ji,kT,h1',h4]
theorem Gu (l:List C5) (h1:l.Pairwise fun x y=>Op.bytesLess x.1.toList y.1.toList=aJ) (h2:l.length<=5) (h3:∀ c∈l,NK c=aJ):iV l=aJ:=by
 rw [Jr l fun j hj=>?_]
 ·simpa using h2
 unfold Q8;rw [K hj];simp only [ay];refine⟨h3 _ (List.getElem_mem hj),?_⟩;cases j with
 | zero=>rfl
 | succ j =>
  rw [Bool.or_eq_true];right;rw [Nat.add_sub_cancel,K (by omega)];exact List.pairwise_iff_getElem.1 h1 j (j+1) (by omega) hj (by omega)
theorem JG (has vals:List Int):iV ((pE has vals 7).map r5)=aJ:=by
 have h:=Qv has vals;refine Gu _ ?_ (by rw [X]; exact h.five) fun c hc=>?_
 ·rw [List.pairwise_map];exact h.rise
 ·obtain⟨x,hx,rfl⟩:=List.mem_map.1 hc;exact aa1 x (h.good x hx)
end Av
namespace Av
open Go.RowKit Go.Sort Rw YtkcfgbddlpomgaaGreat.Nm Pr Bk
structure xD (W:World) (b:Br) (nv av sv ev ov:Sl):Prop where
 br:iA W b nv av sv ev ov
 no:kK W nv b.near
theorem xD.on {W W':World} {b:Br} {nv av sv ev ov:Sl} (h:xD W b nv av sv ev ov) (hb:Below W.heap.size W W'):xD W' b nv av sv ev ov:=⟨h.br.on hb,h.no.on hb⟩
theorem xD.keep {W W':World} {k:Nat} {me:Int} {s1 s2 s3 s4 s5:Sl} {b:Br} {nv av sv ev ov:Sl} (h:xD W b nv av sv ev ov) (hb:dI W k (iX me s1 s2 s3 s4 s5) 33) (hk:But k W W'):xD W' b nv av sv ev ov:=by
 obtain⟨B,hn⟩:=h.no;have hn2:mI W' B (dP nv) b.near:=hk.own hn hb (by decide);exact⟨eX h.br hb hk.1 (Row.dw hn2),B,hn2⟩
theorem R8 (W:World) (me:Int) {near:List Int} {nv:Sl} (h:qH W (dP nv) near):iA W ⟨me,near,[],[],[],[]⟩ nv (none,0,0) (none,0,0) (none,0,0) (none,0,0):=⟨h,⟨[],jg _,.nil⟩,jg _,⟨[],jg _,.nil⟩,⟨[],jg _,.nil⟩⟩
theorem sM:∀ {l m:List Int},l.Pairwise (·<·)->m.Pairwise (·<·)->(∀ x,x∈l↔x∈m)->l=m
 | [],[],_,_,_=>rfl
 | [],y::m,_,_,h=>by have:=(h y).2 (by simp); simp at this
 | x::l,[],_,_,h=>by have:=(h x).1 (by simp); simp at this
 | x::l,y::m,hl,hm,h=>by
  have hl':=aG.1 hl;have hm':=aG.1 hm;have h1:x=y:=by
   rcases au.1 ((h x).1 (by simp)) with e|e
   ·exact e
   ·rcases au.1 ((h y).2 (by simp)) with e2|e2
    ·exact e2.symm
    ·have a1:=hm'.1 x e;have a2:=hl'.1 y e2;omega
  subst h1;rw [sM hl'.2 hm'.2 fun z=>⟨fun hz=>?_,fun hz=>?_⟩]
  ·rcases au.1 ((h z).1 (aB _ hz)) with e|e
   ·have:=hl'.1 z hz;omega
   ·exact e
  ·rcases au.1 ((h z).2 (aB _ hz)) with e|e
   ·have:=hm'.1 z hz;omega
   ·exact e
theorem Oc {W W':World} {b:Nat} (h:W.grownBy W' (some b)):But b W W':=⟨fun k hk hne=>h.block k hk (by simpa using hne),h.size⟩
end Av
namespace Rl
open Go.RowKit Pu Rw Pr In
theorem aa2 (has vals:List Int):NL (At.rH has vals 7) :=
 ⟨At.ze has vals 7 (Nat.le_refl _),At.Gn has vals 7,fun x hx=>by
  obtain⟨i,h1,h2⟩:=At.sJ has vals 7 x hx;have h3:=(At.wG has vals 7 x hx).2;exact⟨by rw [h2,At.Dz]; decide,by omega⟩⟩
end Rl
namespace Rl
open Go.RowKit Go.Sort Pu Rw Pr Va
def JH (l:List An) (c:Cn):Bool:=match At.wF l c.1 with
 | some v=>dU c.2 v
 | none=>aK
theorem Gv:∀ (l:List An) (n:ByteArray),At.wF l n=(l.find? fun a=>decide (a.1=n)).map (·.2)
 | [],n=>rfl
 | x::r,n=>by
  simp only [At.wF,List.find?_cons];by_cases h:x.1=n
  ·simp [h]
  ·simp [h,Gv r n]
theorem Od {p:List Cn} {l:List An} (h:NL l):vQ p l=p.all (JH l):=by
 rw [Nu h.nodup]
 congr 1
 funext c
 unfold JH;rw [Gv];cases l.find? fun a=>decide (a.1=c.1) <;> rfl
theorem Lc {α:Type} (f:α->Bool) (l:List α) (m:Nat) (h:l.length=m):(l.take m).all f=l.all f:=by rw [<- h,List.take_length]
theorem CF (pv lv:Value) (p:List Cn) (l:List An) (w:World) (hp:fK w pv (p.map r5)) (hl:tX w lv l) (np:NF p) (nl:NL l) :
  Calls L 18 #[pv,lv] w fun e w'=>e=.returned (aL (vQ p l))/\Below w.heap.size w w':=by
 have CO:=J (Od (p:=p) nl);have HP:=J hp;have HL:=J (aax.2 hl);have h5:l.length<=100:=by have:=nl.five; omega
 have SM:=J np.small;have m5:p.length<=5:=np.five;obtain⟨ao,ac,rfl⟩:=hp.len;rw [X] at HP ⊢;generalize hm:p.length=m at *;have HM:=J hm;generalize vQ p l=r at *;clear hp hl hm np nl;go_enter Tryz.func18,Tryz.ntmps18;go_wp2
 go_loopw [11] (fun i wr=>∃ k:Nat,k<=m/\i=Z Y k/\Below w.heap.size w wr/\(p.take k).all (JH l)=aJ) (fun i _=>m-(intOf i).toNat)
 case atStart=>exact⟨0,Nat.zero_le _,rfl,Below.refl _ _,rfl⟩
 case round =>
  obtain⟨k,hk,rfl,hb,hall⟩:=hrel;have HB:=J hb;have AL:=J hall;clear hb hall;by_cases hlt:k<m
  ·obtain⟨⟨xn,xk⟩,hx⟩:∃ x,p[k]?=some x:=⟨_,K (by rw [HM.out]; exact hlt)⟩;obtain⟨q,ix,px⟩:=elC (x:=r5 (xn,xk)) HP.out rfl (by rw [X]; exact HM.out) (by rw [aH,hx]; rfl);obtain⟨p0,p1,p2,p3,p4⟩:=px _ HB.out;have MO:=J (yF (JH l) p k (xn,xk) hx);have NO:=J (fun h=>Dx (JH l) p k (xn,xk) hx h);have SX:=J (SM.out _ (aC hx));have BX:=J (show dI (wr.alloc (aA #[O xn,Z Y (kN xk),Z Y (jh xk),Z Y (ji xk),O (kT xk)] 106)) wr.heap.size (cells5 (xn,kN xk,jh xk,ji xk,kT xk)).toArray 106 from dK wr _ _);have B1:=J (HB.out.alloc HB.out.size (aA #[O xn,Z Y (kN xk),Z Y (jh xk),Z Y (ji xk),O (kT xk)] 106));have G:=J (At.acT lv l xn (wr.alloc (aA #[O xn,Z Y (kN xk),Z Y (jh xk),Z Y (ji xk),O (kT xk)] 106)) (HL.out.on B1.out) h5 (by have:xn.size<=100:=SX.out.1; unfold maxLen; omega));have GC:=J (show JH l (xn,xk)=match At.wF l xn with
    | some v=>dU xk v
    | none=>aK from rfl)
   have HO:=J (fun t n s W=>Bf (xn,xk) t n s W);obtain⟨gg,hgg⟩:∃ g,JH l (xn,xk)=g:=⟨_,rfl⟩;rw [hgg] at GC MO NO;simp only [r5] at p0 p1 p2 p3 p4 HO;clear hx px hgg;go_wp2_with fail;refine G.out.mono ?_;rintro e2 w2 ⟨he2,hb2⟩;have B2:=J (B1.out.trans (hb2.mono B1.out.size));obtain⟨x0,x1,x2,x3,x4⟩:=eO (BX.out.on hb2);simp only at x0 x1 x2 x3 x4;have hwl:wr.heap.size<w2.heap.size:=by have:=hb2.size; simp at this; omega
   rcases hg:At.wF l xn with _|⟨t,n,s⟩
   ·rw [hg] at he2 GC;subst he2;have R:=J (show r=aK by rw [CO.out]; exact NO.out GC.out);clear hb2 G B1 BX ix p0 p1 p2 p3 p4 hg;unfold At.JC;go_wp2;go_ret;exact⟨eP R.out.symm,B2.out.alloc B2.out.size _⟩
   ·rw [hg] at he2 GC;subst he2;clear hb2 G B1 BX ix p0 p1 p2 p3 p4 hg;unfold At.JC;go_wp2_with fail;refine (HO.out _ _ _ _).mono ?_;rintro e3 w3 ⟨rfl,hb3⟩;have B3:=J ((B2.out.alloc B2.out.size (aA #[aL t,Z Y n,O s] 93)).trans (hb3.mono (B2.out.alloc B2.out.size (aA #[aL t,Z Y n,O s] 93)).size));rw [<- GC.out];clear hb3 B2 x0 x1 x2 x3 x4 hwl;cases gg
    ·have R:=J (show r=aK by rw [CO.out]; exact NO.out rfl);go_wp2;go_ret;exact⟨eP R.out.symm,B3.out⟩
    ·go_wp2
     go_roundw
     case rel=>exact⟨k+1,by omega,by go_num,B3.out,by rw [MO.out,AL.out]; rfl⟩
     case measure=>simp [intOf]; omega
  ·obtain rfl:k=m:=by omega
   have R:=J (show r=aJ by rw [CO.out,<- Lc _ p _ HM.out]; exact AL.out);go_wp2;go_ret;exact⟨eP R.out.symm,HB.out⟩
theorem JI (pv qv:Value) (p b:List Cn) (w:World) (hp:fK w pv (p.map r5)) (hl:fK w qv (b.map r5)) (np:NF p) (nb:NF b) :
  Calls L 107 #[pv,qv] w fun e w'=>e=.returned (aL (oG p b))/\Below w.heap.size w w':=by
 have CO:=J (NM (a:=p) nb.rise);have HP:=J hp;have HL:=J hl;have h5:b.length<=100:=by have:=nb.five; omega
 have GP:=J np.iW;have GB:=J nb.iW;have m5:p.length<=5:=np.five;obtain⟨ao,ac,rfl⟩:=hp.len;rw [X] at HP ⊢;generalize hm:p.length=m at *;have HM:=J hm;generalize oG p b=r at *;clear hp hl hm np nb;go_enter Tryz.func107,Tryz.ntmps107;go_wp2
 go_loopw [11] (fun i wr=>∃ k:Nat,k<=m/\i=Z Y k/\Below w.heap.size w wr/\(p.take k).all (Js b)=aJ) (fun i _=>m-(intOf i).toNat)
 case atStart=>exact⟨0,Nat.zero_le _,rfl,Below.refl _ _,rfl⟩
 case round =>
  obtain⟨k,hk,rfl,hb,hall⟩:=hrel;have HB:=J hb;have AL:=J hall;clear hb hall;by_cases hlt:k<m
  ·obtain⟨⟨xn,xk⟩,hx⟩:∃ x,p[k]?=some x:=⟨_,K (by rw [HM.out]; exact hlt)⟩;obtain⟨q,ix,px⟩:=elC (x:=r5 (xn,xk)) HP.out rfl (by rw [X]; exact HM.out) (by rw [aH,hx]; rfl);obtain⟨p0,p1,p2,p3,p4⟩:=px _ HB.out;have MO:=J (yF (Js b) p k (xn,xk) hx);have NO:=J (fun h=>Dx (Js b) p k (xn,xk) hx h);have GX:=J (GP.out _ (aC hx));have BX:=J (show dI (wr.alloc (aA #[O xn,Z Y (kN xk),Z Y (jh xk),Z Y (ji xk),O (kT xk)] 106)) wr.heap.size (cells5 (xn,kN xk,jh xk,ji xk,kT xk)).toArray 106 from dK wr _ _);have B1:=J (HB.out.alloc HB.out.size (aA #[O xn,Z Y (kN xk),Z Y (jh xk),Z Y (ji xk),O (kT xk)] 106));have G:=J (D5 qv b xn (wr.alloc (aA #[O xn,Z Y (kN xk),Z Y (jh xk),Z Y (ji xk),O (kT xk)] 106)) (HL.out.on B1.out) h5);have GC:=J (show Js b (xn,xk)=match Vx b xn with
    | some y=>eB y.2 xk
    | none=>aK from rfl)
   obtain⟨gg,hgg⟩:∃ g,Js b (xn,xk)=g:=⟨_,rfl⟩;rw [hgg] at GC MO NO;simp only [r5] at p0 p1 p2 p3 p4;clear hx px hgg;go_wp2_with fail;refine G.out.mono ?_;rintro e2 w2 ⟨he2,hb2⟩;have B2:=J (B1.out.trans (hb2.mono B1.out.size));obtain⟨x0,x1,x2,x3,x4⟩:=eO (BX.out.on hb2);simp only at x0 x1 x2 x3 x4;have hwl:wr.heap.size<w2.heap.size:=by have:=hb2.size; simp at this; omega
   rcases hg:Vx b xn with _|⟨yn,yk⟩
   ·rw [hg] at he2 GC;subst he2;have R:=J (show r=aK by rw [CO.out]; exact NO.out GC.out);clear hb2 G B1 BX ix p0 p1 p2 p3 p4 hg;unfold ofV;go_wp2;go_ret;exact⟨eP R.out.symm,B2.out.alloc B2.out.size _⟩
   ·obtain⟨hm1,hm2⟩:=Ra hg;obtain rfl:yn=xn:=hm2;rw [hg] at he2 GC;subst he2;have WC:=J (fun W=>NW yn xk yk W GX.out (GB.out _ hm1));simp only [r5] at WC;clear hb2 G B1 BX ix p0 p1 p2 p3 p4 hg hm1;unfold ofV;simp only [r5];go_wp2_with fail;refine (WC.out _).mono ?_;rintro e3 w3 ⟨rfl,hb3⟩;have B3:=J ((B2.out.alloc B2.out.size (aA #[O yn,Z Y (kN yk),Z Y (jh yk),Z Y (ji yk),O (kT yk)] 106)).trans (hb3.mono (B2.out.alloc B2.out.size (aA #[O yn,Z Y (kN yk),Z Y (jh yk),Z Y (ji yk),O (kT yk)] 106)).size));rw [<- GC.out];clear hb3 B2 x0 x1 x2 x3 x4 hwl WC;cases gg
    ·have R:=J (show r=aK by rw [CO.out]; exact NO.out rfl);go_wp2;go_ret;exact⟨eP R.out.symm,B3.out⟩
    ·go_wp2
     go_roundw
     case rel=>exact⟨k+1,by omega,by go_num,B3.out,by rw [MO.out,AL.out]; rfl⟩
     case measure=>simp [intOf]; omega
  ·obtain rfl:k=m:=by omega
   have R:=J (show r=aJ by rw [CO.out,<- Lc _ p _ HM.out]; exact AL.out);go_wp2;go_ret;exact⟨eP R.out.symm,HB.out⟩
end Rl
namespace Rg
open Go.RowKit
end Rg
namespace Fl
open Go.RowKit Go.Sort Rw YtkcfgbddlpomgaaGreat.Nm Pr Bk
end Fl
namespace Pr
open Go.RowKit Go.Sort Pu Rw Va
end Pr
namespace Av
open Go.RowKit Go.ChangeShapes Go.WideShapes Bk
theorem aa3 {H:Type} {enc:TypeId×Value->H} {W:World} {sp:Nat->Bool} {held:Bool} {fuel:Nat} {g1:Value} {x:DataW H×List MemPlace}
  (hf:Q enc L W 0 sp held fuel 22 [g1]=some x):∃ n:Nat,n<=maxLen/\JD W g1 n:=by
 rcases Deep.open_slice Tryz.underlying22 hf with⟨h1,_⟩|⟨a,len,cap,m,n,D,Pl,h1,_,h3,h4,h5,_,hx⟩
 ·have e:g1=.slice none 0 0:=by simpa using h1
  exact⟨0,Nat.zero_le _,⟨none,0,e⟩,fun i hi=>by omega⟩
 ·have e:g1=.slice (some a) len cap:=by simpa using h1
  rw [e];have hle:len<=m:=by rw [h5]; split <;> omega
  refine⟨len,by omega,⟨some a,cap,rfl⟩,fun i hi=>?_⟩;obtain⟨cs',k1,k2⟩:=hx i (by omega);obtain⟨xs,n',_,_,hcl,hxl,hy⟩:=ak Tryz.underlying83 k2;rw [Wx] at hcl k1
  match cs',hcl with
  | [c0,c1,c2,c3,c4,c5,d1],_ =>
   have f0:Q enc L W 0 sp held n' 3 (([c0,c1,c2,c3,c4,c5,d1].drop 0).take (Tryz.prog.cellsOf 3))=xs[0]?:=hy 0 _ rfl;have f1:Q enc L W 0 sp held n' 3 (([c0,c1,c2,c3,c4,c5,d1].drop 1).take (Tryz.prog.cellsOf 3))=xs[1]?:=hy 1 _ rfl;have f2:Q enc L W 0 sp held n' 3 (([c0,c1,c2,c3,c4,c5,d1].drop 2).take (Tryz.prog.cellsOf 3))=xs[2]?:=hy 2 _ rfl;have f3:Q enc L W 0 sp held n' 3 (([c0,c1,c2,c3,c4,c5,d1].drop 3).take (Tryz.prog.cellsOf 3))=xs[3]?:=hy 3 _ rfl;have f4:Q enc L W 0 sp held n' 3 (([c0,c1,c2,c3,c4,c5,d1].drop 4).take (Tryz.prog.cellsOf 3))=xs[4]?:=hy 4 _ rfl;have fp:Q enc L W 0 sp held n' 72 (([c0,c1,c2,c3,c4,c5,d1].drop 5).take (Tryz.prog.cellsOf 72))=xs[5]?:=hy 5 _ rfl;have acU:xs.length=5+1:=hxl;simp only [In.Jb,Pr.aaA,aD,ah,aj,aF] at f0 f1 f2 f3 f4 fp;rw [K (by omega)] at f0 f1 f2 f3 f4 fp;obtain⟨m0,e0,_,w0⟩:=V U f0;obtain⟨m1,e1,_,w1⟩:=V U f1;obtain⟨m2,e2,_,w2⟩:=V U f2;obtain⟨m3,e3,_,w3⟩:=V U f3;obtain⟨m4,e4,_,w4⟩:=V U f4;simp only [List.cons.injEq,and_true] at e0 e1 e2 e3 e4;subst e0 e1 e2 e3 e4;obtain⟨ys,n2,_,_,_,hyl,hp⟩:=ak Tryz.underlying72 fp;have aip:ys.length=2:=hyl;have q0:Q enc L W 0 sp held n2 25 (([c5,d1].drop 0).take (Tryz.prog.cellsOf 25))=ys[0]?:=hp 0 _ rfl;have q1:Q enc L W 0 sp held n2 25 (([c5,d1].drop 1).take (Tryz.prog.cellsOf 25))=ys[1]?:=hp 1 _ rfl;simp only [Pr.DJ,aD,ah,aj,aF] at q0 q1;rw [K (by omega)] at q0 q1;obtain⟨has,l1,i1⟩:=In.xP q0;obtain⟨vals,l2,i2⟩:=In.xP q1;obtain⟨x1,y1,rfl⟩:=i1.shape;obtain⟨x2,y2,rfl⟩:=i2.shape;obtain⟨_,_,k3⟩:=World.cells?_some k1;have k0:=k3 0 (by decide);rw [Rw.add_zero] at k0;refine⟨a.add (i * 7),m0,m1,m2,m3,m4,x1,_,y1,x2,_,y2,has,vals,World.block_lt_of_cell? W _ k0,fun w=>Wy a i len cap hi w,fun j u hu=>?_,⟨In.sw w0,In.sw w1,In.sw w2,In.sw w3,In.sw w4⟩,i1,i2,l1,l2⟩;have hj:j<7:=(List.getElem?_eq_some_iff.1 hu).1;rw [<- hu];exact k3 j hj
theorem R9:Tryz.prog.cellsOf 24=2:=by kernel_rfl
theorem Sc:Tryz.prog.cellsOf 22=1:=by kernel_rfl
theorem Sd {n:Int} (h:(Lit.int Y n).wf=aJ):-9223372036854775808<=n/\n<=9223372036854775807:=by
 have h2:(decide (IntKind.i64.min<=n) && decide (n<=IntKind.i64.max))=aJ:=h;rw [ay,decide_eq_true_eq,decide_eq_true_eq,show IntKind.i64.min=-9223372036854775808 by decide,show IntKind.i64.max=9223372036854775807 by decide] at h2;exact h2
theorem PG {H:Type} {enc:TypeId×Value->H} {W:World} {r:Reach} {b0:Nat} {sp:Nat->Bool} {held:Bool} {v:Value} {d:DataW H} {ps:List MemPlace}
  (hval:Value.okWide L W r b0 24 v) (hd:DataW.Trod enc L W 0 sp held 24 v d ps) :
  ∃ (zn:Int) (u:Value) (n:Nat),v=.agg #[Z Y zn,u]/\-9223372036854775808<=zn/\zn<=9223372036854775807/\n<=maxLen/\JD W u n:=by
 obtain⟨cs,rfl,hsz⟩:=okWide_struct aI hval;obtain⟨fuel,hf⟩:=hd;obtain⟨xs,n,_,_,_,hxl,hx⟩:=ak aI hf;rw [R9] at hsz;obtain⟨l⟩:=cs
 match l,hsz with
 | [c0,c1],_ =>
  have f0:Q enc L W 0 sp held n 3 (([c0,c1].drop 0).take (Tryz.prog.cellsOf 3))=xs[0]?:=hx 0 _ rfl;have f1:Q enc L W 0 sp held n 22 (([c0,c1].drop 1).take (Tryz.prog.cellsOf 22))=xs[1]?:=hx 1 _ rfl;have acU:xs.length=2:=hxl;simp only [In.Jb,Sc,aD,ah,aj,aF] at f0 f1;rw [K (by omega)] at f0 f1;obtain⟨m0,e0,_,w0⟩:=V U f0;simp only [List.cons.injEq,and_true] at e0;subst e0;obtain⟨k,h1,h2⟩:=aa3 f1;exact⟨m0,c1,k,rfl,(Sd w0).1,(Sd w0).2,h1,h2⟩
end Av
end Go.Proofs.YtkcfgbddlpomgaaGreat
