/-
  Predicates of number. Conditions as told.
-/
import Derived.Test.YtkcfgbddlpomgaaGreatOQ026
import Derived.Test.YtkcfgbddlpomgaaGreatOQ027
set_option maxRecDepth 100000
set_option maxHeartbeats 64000000
open _root_.Bool renaming and_eq_true->aj,true->aC
open _root_.Go renaming Value->Z,World->aB
open Go.DataW renaming trod->L,trod_int->U,trod_struct->ah
open Go.Proofs.Tryz renaming prog->K,underlying3->O,underlying24->aA
open _root_.List renaming getElem?_eq_getElem->J,mem_cons_of_mem->Q,mem_cons->V,drop_succ_cons->X,take_succ_cons->Y,drop_zero->ak,take_zero->au,pairwise_cons->ay
namespace Go.Proofs.YtkcfgbddlpomgaaGreat
namespace Av
open Go.RowKit Rw YtkcfgbddlpomgaaGreat.Nm Pr Wr
theorem adJ (c:Cn) (h:Di c=aC):Qi (r5 c)=aC:=by
 obtain⟨n,k⟩:=c;unfold Di at h;rw [aj] at h;obtain⟨h1,h2⟩:=h;have h1':At.Hw n=aC:=h1;cases k with
 | rg lo hi =>
  have h3:lo<=hi:=by simpa [jy] using h2
  have h0:(⟨#[]⟩:ByteArray).size=0:=rfl;simp [r5,Qi,kN,jN,jO,kT,h1',h3,h0]
 | tx t =>
  have h3:t.size<=12:=by simpa [jy] using h2
  simp [r5,Qi,kN,jN,jO,kT,h1',h3]
 | pr t =>
  have h3:t.size<12:=by simpa [jy] using h2
  have h4:t.size<=11:=by omega
  simp [r5,Qi,kN,jN,jO,kT,h1',h4]
theorem Jh (l:List C5) (h1:l.Pairwise fun x y=>Op.bytesLess x.1.toList y.1.toList=aC) (h2:l.length<=5) (h3:∀ c∈l,Qi c=aC):jg l=aC:=by
 rw [KZ l fun j hj=>?_]
 ·simpa using h2
 unfold Ub;rw [J hj];simp only [aj];refine⟨h3 _ (List.getElem_mem hj),?_⟩;cases j with
 | zero=>rfl
 | succ j =>
  rw [Bool.or_eq_true];right;rw [Nat.add_sub_cancel,J (by omega)];exact List.pairwise_iff_getElem.1 h1 j (j+1) (by omega) hj (by omega)
theorem AZ (has vals:List Int):jg ((jJ has vals 7).map r5)=aC:=by
 have h:=Tn has vals;refine Jh _ ?_ (by rw [List.length_map]; exact h.five) fun c hc=>?_
 ·rw [List.pairwise_map];exact h.rise
 ·obtain⟨x,hx,rfl⟩:=List.mem_map.1 hc;exact adJ x (h.good x hx)
end Av
namespace Av
open Go.RowKit Go.Sort Rw YtkcfgbddlpomgaaGreat.Nm Pr Bk
structure vY (W:aB) (b:Br) (nv av sv ev ov:Sl):Prop where
 br:iI W b nv av sv ev ov
 no:kI W nv b.near
theorem vY.on {W W':aB} {b:Br} {nv av sv ev ov:Sl} (h:vY W b nv av sv ev ov) (hb:Below W.heap.size W W'):vY W' b nv av sv ev ov:=⟨h.br.on hb,h.no.on hb⟩
theorem vY.keep {W W':aB} {k:Nat} {me:Int} {s1 s2 s3 s4 s5:Sl} {b:Br} {nv av sv ev ov:Sl} (h:vY W b nv av sv ev ov) (hb:dN W k (jA me s1 s2 s3 s4 s5) 33) (hk:But k W W'):vY W' b nv av sv ev ov:=by
 obtain⟨B,hn⟩:=h.no;have hn2:kS W' B (dU nv) b.near:=hk.own hn hb (by decide);exact⟨fD h.br hb hk.1 (Row.dH hn2),B,hn2⟩
theorem Ve (W:aB) (me:Int) {near:List Int} {nv:Sl} (h:qI W (dU nv) near):iI W ⟨me,near,[],[],[],[]⟩ nv (none,0,0) (none,0,0) (none,0,0) (none,0,0):=⟨h,⟨[],je _,.nil⟩,je _,⟨[],je _,.nil⟩,⟨[],je _,.nil⟩⟩
theorem uP:∀ {l m:List Int},l.Pairwise (·<·)->m.Pairwise (·<·)->(∀ x,x∈l↔x∈m)->l=m
 | [],[],_,_,_=>rfl
 | [],y::m,_,_,h=>by have:=(h y).2 (by simp); simp at this
 | x::l,[],_,_,h=>by have:=(h x).1 (by simp); simp at this
 | x::l,y::m,hl,hm,h=>by
  have hl':=ay.1 hl;have hm':=ay.1 hm;have h1:x=y:=by
   rcases V.1 ((h x).1 (by simp)) with e|e
   ·exact e
   ·rcases V.1 ((h y).2 (by simp)) with e2|e2
    ·exact e2.symm
    ·have a1:=hm'.1 x e;have a2:=hl'.1 y e2;omega
  subst h1;rw [uP hl'.2 hm'.2 fun z=>⟨fun hz=>?_,fun hz=>?_⟩]
  ·rcases V.1 ((h z).1 (Q _ hz)) with e|e
   ·have:=hl'.1 z hz;omega
   ·exact e
  ·rcases V.1 ((h z).2 (Q _ hz)) with e|e
   ·have:=hm'.1 z hz;omega
   ·exact e
theorem QH {W W':aB} {b:Nat} (h:W.grownBy W' (some b)):But b W W':=⟨fun k hk hne=>h.block k hk (by simpa using hne),h.size⟩
end Av
namespace Rl
open Go.RowKit Pu Rw Pr In
theorem adK (has vals:List Int):NL (At.tT has vals 7) :=
 ⟨At.Ao has vals 7 (Nat.le_refl _),At.Iz has vals 7,fun x hx=>by
  obtain⟨i,h1,h2⟩:=At.uL has vals 7 x hx;have h3:=(At.yx has vals 7 x hx).2;exact⟨by rw [h2,At.Fx]; decide,by omega⟩⟩
end Rl
namespace Rg
open Go.RowKit
def yN (bl:List Z):List Nat->List Z->List Z
 | d::D,v::vs=>(yN bl D vs).set d v
 | _,_=>bl
theorem A8 (bl:List Z):∀ (D:List Nat) (vs:List Z),(yN bl D vs).length=bl.length
 | [],_=>rfl
 | _::_,[]=>rfl
 | d::D,v::vs=>by
  show ((yN bl D vs).set d v).length=_;rw [List.length_set];exact A8 bl D vs
def Ats (a:Act):List Nat->List Z->Prop
 | d::D,v::vs=>a.tmps[d]?=some v/\Ats a D vs
 | _,_=>True
theorem Em (bl:List Z) (a:Act) (j:Nat):∀ (D:List Nat) (vs:List Z),vs.length=D.length->Ats a D vs->(∀ d∈D,d<bl.length)->(yN bl D vs)[j]?=if j∈D then a.tmps[j]? else bl[j]?
 | [],_,_,_,_=>by rw [if_neg (by simp)]; rfl
 | _::_,[],h,_,_=>by simp at h
 | d::D,v::vs,hl,ha,h=>by
  have ih:=Em bl a j D vs (by simpa using hl) ha.2 fun x hx=>h x (Q _ hx);show ((yN bl D vs).set d v)[j]?=_;by_cases e:d=j
  ·subst e;rw [List.getElem?_set_self (by rw [A8]; exact h d (by simp)),if_pos (by simp)];exact ha.1.symm
  ·rw [List.getElem?_set_ne e,ih];by_cases hj:j∈D
   ·rw [if_pos hj,if_pos (Q _ hj)]
   ·rw [if_neg hj,if_neg fun q=>(V.1 q).elim (fun q=>e q.symm) hj]
theorem Ji {a:Act} {bl:List Z} (D:List Nat) (vs:List Z) (df:a.defers=[]) (sz:a.tmps.size=bl.length) (hD:∀ d∈D,d<bl.length) (kp:∀ j,j ∉ D->a.tmps[j]?=bl[j]?) (hl:vs.length=D.length) (ha:Ats a D vs) :
  a=⟨(yN bl D vs).toArray,[]⟩:=by
 have hk:=fun j=>Em bl a j D vs hl ha hD;obtain⟨tmps,defers⟩:=a;have hd:defers=[]:=df;subst hd;refine congrArg (fun x=>(⟨x,[]⟩:Act)) (Array.ext_getElem? fun j=>?_)
 conv=>rhs; rw [List.getElem?_toArray]
 rw [hk j];by_cases hj:j∈D
 ·rw [if_pos hj]
 ·rw [if_neg hj];exact kp j hj
theorem jU {a:Act} {n:Nat} (sz:a.tmps.size=n) (d:Nat) (h:d<n):∃ v,a.tmps[d]?=some v:=⟨_,Array.getElem?_eq_getElem (by rw [sz]; exact h)⟩
end Rg
namespace Pr
open Go.RowKit Go.Sort Pu Rw Va
end Pr
namespace Av
open Go.RowKit Go.ChangeShapes Go.WideShapes Bk
theorem adL {H:Type} {enc:TypeId×Z->H} {W:aB} {sp:Nat->Bool} {held:Bool} {fuel:Nat} {g1:Z} {x:DataW H×List MemPlace}
  (hf:L enc K W 0 sp held fuel 22 [g1]=some x):∃ n:Nat,n<=maxLen/\Ll W g1 n:=by
 rcases Deep.open_slice Tryz.underlying22 hf with⟨h1,_⟩|⟨a,len,cap,m,n,D,Pl,h1,_,h3,h4,h5,_,hx⟩
 ·have e:g1=.slice none 0 0:=by simpa using h1
  exact⟨0,Nat.zero_le _,⟨none,0,e⟩,fun i hi=>by omega⟩
 ·have e:g1=.slice (some a) len cap:=by simpa using h1
  rw [e];have hle:len<=m:=by rw [h5]; split <;> omega
  refine⟨len,by omega,⟨some a,cap,rfl⟩,fun i hi=>?_⟩;obtain⟨cs',k1,k2⟩:=hx i (by omega);obtain⟨xs,n',_,_,hcl,hxl,hy⟩:=ah Tryz.underlying83 k2;rw [YZ] at hcl k1
  match cs',hcl with
  | [c0,c1,c2,c3,c4,c5,d1],_ =>
   have f0:L enc K W 0 sp held n' 3 (([c0,c1,c2,c3,c4,c5,d1].drop 0).take (Tryz.prog.cellsOf 3))=xs[0]?:=hy 0 _ rfl;have f1:L enc K W 0 sp held n' 3 (([c0,c1,c2,c3,c4,c5,d1].drop 1).take (Tryz.prog.cellsOf 3))=xs[1]?:=hy 1 _ rfl;have f2:L enc K W 0 sp held n' 3 (([c0,c1,c2,c3,c4,c5,d1].drop 2).take (Tryz.prog.cellsOf 3))=xs[2]?:=hy 2 _ rfl;have f3:L enc K W 0 sp held n' 3 (([c0,c1,c2,c3,c4,c5,d1].drop 3).take (Tryz.prog.cellsOf 3))=xs[3]?:=hy 3 _ rfl;have f4:L enc K W 0 sp held n' 3 (([c0,c1,c2,c3,c4,c5,d1].drop 4).take (Tryz.prog.cellsOf 3))=xs[4]?:=hy 4 _ rfl;have fp:L enc K W 0 sp held n' 72 (([c0,c1,c2,c3,c4,c5,d1].drop 5).take (Tryz.prog.cellsOf 72))=xs[5]?:=hy 5 _ rfl;have ac4:xs.length=5+1:=hxl;simp only [In.Kr,Pr.Tt,ak,X,Y,au] at f0 f1 f2 f3 f4 fp;rw [J (by omega)] at f0 f1 f2 f3 f4 fp;obtain⟨m0,e0,_,w0⟩:=U O f0;obtain⟨m1,e1,_,w1⟩:=U O f1;obtain⟨m2,e2,_,w2⟩:=U O f2;obtain⟨m3,e3,_,w3⟩:=U O f3;obtain⟨m4,e4,_,w4⟩:=U O f4;simp only [List.cons.injEq,and_true] at e0 e1 e2 e3 e4;subst e0 e1 e2 e3 e4;obtain⟨ys,n2,_,_,_,hyl,hp⟩:=ah Tryz.underlying72 fp;have alT:ys.length=2:=hyl;have q0:L enc K W 0 sp held n2 25 (([c5,d1].drop 0).take (Tryz.prog.cellsOf 25))=ys[0]?:=hp 0 _ rfl;have q1:L enc K W 0 sp held n2 25 (([c5,d1].drop 1).take (Tryz.prog.cellsOf 25))=ys[1]?:=hp 1 _ rfl;simp only [Pr.zB,ak,X,Y,au] at q0 q1;rw [J (by omega)] at q0 q1;obtain⟨has,l1,i1⟩:=In.uH q0;obtain⟨vals,l2,i2⟩:=In.uH q1;obtain⟨x1,y1,rfl⟩:=i1.shape;obtain⟨x2,y2,rfl⟩:=i2.shape;obtain⟨_,_,k3⟩:=World.cells?_some k1;have k0:=k3 0 (by decide);rw [Rw.add_zero] at k0;refine⟨a.add (i * 7),m0,m1,m2,m3,m4,x1,_,y1,x2,_,y2,has,vals,World.block_lt_of_cell? W _ k0,fun w=>Y0 a i len cap hi w,fun j u hu=>?_,⟨In.uG w0,In.uG w1,In.uG w2,In.uG w3,In.uG w4⟩,i1,i2,l1,l2⟩;have hj:j<7:=(List.getElem?_eq_some_iff.1 hu).1;rw [<- hu];exact k3 j hj
theorem Vf:Tryz.prog.cellsOf 24=2:=by kernel_rfl
theorem Vg:Tryz.prog.cellsOf 22=1:=by kernel_rfl
theorem Vh {n:Int} (h:(Lit.int .i64 n).wf=aC):-9223372036854775808<=n/\n<=9223372036854775807:=by
 have h2:(decide (IntKind.i64.min<=n) && decide (n<=IntKind.i64.max))=aC:=h;rw [aj,decide_eq_true_eq,decide_eq_true_eq,show IntKind.i64.min=-9223372036854775808 by decide,show IntKind.i64.max=9223372036854775807 by decide] at h2;exact h2
theorem Sn {H:Type} {enc:TypeId×Z->H} {W:aB} {r:Reach} {b0:Nat} {sp:Nat->Bool} {held:Bool} {v:Z} {d:DataW H} {ps:List MemPlace}
  (hval:Value.okWide K W r b0 24 v) (hd:DataW.Trod enc K W 0 sp held 24 v d ps) :
  ∃ (zn:Int) (u:Z) (n:Nat),v=.agg #[.int .i64 zn,u]/\-9223372036854775808<=zn/\zn<=9223372036854775807/\n<=maxLen/\Ll W u n:=by
 obtain⟨cs,rfl,hsz⟩:=okWide_struct aA hval;obtain⟨fuel,hf⟩:=hd;obtain⟨xs,n,_,_,_,hxl,hx⟩:=ah aA hf;rw [Vf] at hsz;obtain⟨l⟩:=cs
 match l,hsz with
 | [c0,c1],_ =>
  have f0:L enc K W 0 sp held n 3 (([c0,c1].drop 0).take (Tryz.prog.cellsOf 3))=xs[0]?:=hx 0 _ rfl;have f1:L enc K W 0 sp held n 22 (([c0,c1].drop 1).take (Tryz.prog.cellsOf 22))=xs[1]?:=hx 1 _ rfl;have ac4:xs.length=2:=hxl;simp only [In.Kr,Vg,ak,X,Y,au] at f0 f1;rw [J (by omega)] at f0 f1;obtain⟨m0,e0,_,w0⟩:=U O f0;simp only [List.cons.injEq,and_true] at e0;subst e0;obtain⟨k,h1,h2⟩:=adL f1;exact⟨m0,c1,k,rfl,(Vh w0).1,(Vh w0).2,h1,h2⟩
end Av
end Go.Proofs.YtkcfgbddlpomgaaGreat
