/-
  A broker's rows lie . Conditions as told.
-/
import Derived.Test.YtmklifheakemeaaGreatBQ011
import Derived.Test.YtmklifheakemeaaGreatBQ013
set_option maxRecDepth 100000
set_option maxHeartbeats 64000000
open _root_.Bool renaming and_eq_true->aI,eq_iff_iff->aT,true->bf,false->bS
open _root_.Go renaming World->aD,Value->aG,Addr->aX,TypeId->bN,Calls->bQ
open Go.Addr renaming add->aK
open Go.IntKind renaming i64->U
open Go.Lib renaming hid->O
open Go.Obj renaming cells->aJ
open Go.Operand renaming tmp->au
open Go.Proofs.Tryz renaming prog->aA
open Go.Proofs.YtmklifheakemeaaGreat.Rg renaming get_put->aj,dD->aL,done->aP,size_put->aV,dM->bH,gN->bM,dW->bR,dU->bU,fZ->bV
open Go.RowKit renaming Below->aR
open Go.RowKit.Below renaming refl->Z,heap_setCell->aN
open Go.Value renaming slice->J,int->V,pointer->Y,string->aW,bool->bG,agg->bJ
open Go.World renaming cell?_alloc_at->aM,cell?_alloc_lt->aU,cell?->bK
open _root_.List renaming getElem?_toArray->ak,getElem?_eq_getElem->ay,getElem?_cons_zero->aB,getElem?_cons_succ->aC,getElem?_eq_some_iff->aF,length_take->aQ,mem_append->aS,find?_eq_none->aY,map_append->bg,length_map->bF,mem_cons->bI
open _root_.Nat renaming le_refl->aO,zero_le->bL
open _root_.Option renaming some->X,none->ah
open _root_.Or renaming inr->aH,inl->aZ
namespace Go.Proofs.YtmklifheakemeaaGreat
namespace Bk
open Go.RowKit Rw YtmklifheakemeaaGreat.Nm Pr
theorem zP {W:aD} {b:Nat} {cs:Array aG} {t:bN} (hb:dJ W b cs t) {a:aX} {v:aG} (h:W.cell? a=X v) (e:a.block=b):cs[a.off]?=X v:=by
 unfold bK at h;unfold dJ at hb;rw [e,hb] at h;have h2:a.spot=ah/\cs[a.off]?=X v:=by simpa using h
 exact h2.2
theorem P7 {W W':aD} {b:Nat} (hk:∀ j,j<W.heap.size->j≠b->W'.heap[j]?=W.heap[j]?) {a:aX} {v:aG} (h:W.cell? a=X v) (e:a.block≠b):W'.cell? a=X v:=by
 have hlt:=World.block_lt_of_cell? W _ h;unfold bK at h ⊢;rw [hk _ hlt e];exact h
theorem vV (a:aX) (j:Nat):(a.add j).block=a.block:=by unfold aK; split <;> rfl
theorem iJ {α:Type} {E:Ek α} (_K:E.Ok) {W W':aD} {b:Nat} {v:aG} {l:List α} (h:Row E W v l) (hk:∀ j,j<W.heap.size->j≠b->W'.heap[j]?=W.heap[j]?) (hno:∀ (a:aX) (c:α),(∀ j u,(E.cells c)[j]?=X u->W.cell? (a.add j)=X u)->a.block≠b):Row E W' v l:=by
 rcases h with h|⟨a,cap,h1,h2,h3,h4⟩
 ·exact aZ h
 ·refine aH ⟨a,cap,h1,h2,h3,fun j u hj=>?_⟩;cases l with
  | nil=>simp [flat] at hj
  | cons c r =>
   have hne:a.block≠b:=hno a c fun j u hj=>h4 j u (by
    rw [flat,List.getElem?_append_left (by exact (aF.1 hj).1)];exact hj)
   exact P7 hk (h4 j u hj) (by rw [vV]; exact hne)
theorem kS {α:Type} {E:Ek α} {W:aD} {b:Nat} {cs:Array aG} {t:bN} (hb:dJ W b cs t) (hE:∀ c:α,∃ i j:Int,(E.cells c)[0]?=X (V U i)/\(E.cells c)[1]?=X (V U j)) (hcs:∀ (k:Nat) (i j:Int),cs[k]?=X (V U i)->cs[k+1]?=X (V U j)->False) (a:aX) (c:α) (h:∀ j u,(E.cells c)[j]?=X u->W.cell? (a.add j)=X u):a.block≠b:=fun e=>by
 obtain⟨i,j,h0,h1⟩:=hE c;have c0:=zP hb (h 0 _ h0) (by rw [vV]; exact e);have c1:=zP hb (h 1 _ h1) (by rw [vV]; exact e);have o0:(a.add 0).off=a.off:=by rw [Addr.add_zero']
 have o1:(a.add 1).off=a.off+1:=by rw [add_pos _ _ (by decide)]
 rw [o0] at c0;rw [o1] at c1;exact hcs a.off i j c0 c1
theorem rD {W:aD} {b:Nat} {cs:Array aG} {t:bN} (hb:dJ W b cs t) (hcs:∀ (k:Nat) (s:ByteArray),cs[k]?≠X (aW s)) (a:aX) (c:C5) (h:∀ j u,(EC.cells c)[j]?=X u->W.cell? (a.add j)=X u):a.block≠b:=fun e=>by
 have c0:=zP hb (h 0 _ rfl) (by rw [vV]; exact e);exact hcs _ _ c0
theorem lT (me:Int) (s1 s2 s3 s4 s5:Sl):∀ (k:Nat) (i j:Int),(jr me s1 s2 s3 s4 s5)[k]?=X (V U i)->(jr me s1 s2 s3 s4 s5)[k+1]?=X (V U j)->False:=by
 intro k i j h1 h2
 match k with
 | 0=>simp at h2
 | 1=>simp at h1
 | 2=>simp at h1
 | 3=>simp at h1
 | 4=>simp at h1
 | 5=>simp at h1
 | k+6=>simp at h1
theorem rE (me:Int) (s1 s2 s3 s4 s5:Sl):∀ (k:Nat) (s:ByteArray),(jr me s1 s2 s3 s4 s5)[k]?≠X (aW s):=by
 intro k s h
 match k with
 | 0=>simp at h
 | 1=>simp at h
 | 2=>simp at h
 | 3=>simp at h
 | 4=>simp at h
 | 5=>simp at h
 | k+6=>simp at h
theorem fF {W W':aD} {k:Nat} {me:Int} {s1 s2 s3 s4 s5:Sl} {b:Br} {nv av sv ev ov:Sl} (h:iZ W b nv av sv ev ov) (hb:dJ W k (jr me s1 s2 s3 s4 s5) 28) (hk:∀ j,j<W.heap.size->j≠k->W'.heap[j]?=W.heap[j]?) (hn:qA W' (dX nv) b.near):iZ W' b nv av sv ev ov where
 near:=hn
 dQ:=by
  obtain⟨l,h1,h2⟩:=h.dQ;exact⟨l,iJ okD h1 hk (kS hb (fun c=>⟨_,_,rfl,rfl⟩) (lT me s1 s2 s3 s4 s5)),h2.mono fun x a hx=>⟨hx.1,hx.2.1,iJ uq hx.2.2 hk (rD hb (rE me s1 s2 s3 s4 s5))⟩⟩
 seen:=iJ Ca h.seen hk (kS hb (fun c=>⟨_,_,rfl,rfl⟩) (lT me s1 s2 s3 s4 s5))
 ent:=by
  obtain⟨l,h1,h2⟩:=h.ent;exact⟨l,iJ nN h1 hk (kS hb (fun c=>⟨_,_,rfl,rfl⟩) (lT me s1 s2 s3 s4 s5)),h2.mono fun x a hx=>⟨hx.1,hx.2.1,hx.2.2.1,hx.2.2.2.1,iJ uq hx.2.2.2.2 hk (rD hb (rE me s1 s2 s3 s4 s5))⟩⟩
 own:=by
  obtain⟨l,h1,h2⟩:=h.own;exact⟨l,iJ okW h1 hk (kS hb (fun c=>⟨_,_,rfl,rfl⟩) (lT me s1 s2 s3 s4 s5)),h2.mono fun x a hx=>⟨hx.1,iJ uq hx.2 hk (rD hb (rE me s1 s2 s3 s4 s5))⟩⟩
end Bk
namespace Bk
open Go.RowKit Go.Sort Rw YtmklifheakemeaaGreat.Nm Pr
theorem pG {W:aD} {b:Nat} {z0 z1 z2 z3 z4 z5:aG} (h:dJ W b #[z0,z1,z2,z3,z4,z5] 28) (me:Int) (o1 o2 o3 o4 o5:Option aX) (n1 c1 n2 c2 n3 c3 n4 c4 n5 c5:Nat) :
  (Instr.storeAt 28 (Y (X ⟨b,0,ah⟩)) (bJ #[V U me,J o1 n1 c1,J o2 n2 c2,J o3 n3 c3,J o4 n4 c4,J o5 n5 c5])).run aA W=.ok () (gF W b (V U me) (J o1 n1 c1) (J o2 n2 c2) (J o3 n3 c3) (J o4 n4 c4) (J o5 n5 c5)):=by
 obtain⟨x0,x1,x2,x3,x4,x5⟩:=h.fu;obtain⟨f0,f1,f2,f3,f4,f5⟩:=h.kD;simp [go_sem,x0,x1,x2,x3,x4,x5,f0,f1,f2,f3,f4,f5]
theorem vk {W:aD} {b:Nat} {z0 z1 z2 z3 z4 z5:aG} (h:dJ W b #[z0,z1,z2,z3,z4,z5] 28):(Instr.loadAt 28 (Y (X ⟨b,0,ah⟩))).run aA W=.ok (bJ #[z0,z1,z2,z3,z4,z5]) W:=by
 obtain⟨x0,x1,x2,x3,x4,x5⟩:=h.fu;simp [go_sem,x0,x1,x2,x3,x4,x5]
theorem xE {P:Program} (ρ:Operand->aG) (o:Oper) (x y z:Operand) (t s r:bN) (f:FuncId) (ho:o.op=.call { callee:=.value (.func f),args:=#[x,y,z],argTypes:=#[t,s,r] }) {v u q:aG} (hx:ρ x=v) (hy:ρ y=u) (hz:ρ z=q) (hf:ρ (.func f)=.func (.func f) #[] #[]) (w:aD)
  (hc:(callFunc f #[v,u,q]).run P w=.ok (.enter f #[v,u,q]) w):(execOp ρ o).run P w=.ok (.enter f #[v,u,q]) w:=by
 simp [execOp,ho,resolve,invoke,hx,hy,hz,hf,Deferred.ofValue,hc]
theorem Mv {W:aD} {b:Nat} {c d:Int} (h:dJ W b #[V U c,V U d] 31):∀ j u,(jO (c,d))[j]?=X u->W.cell? ((⟨b,0,ah⟩:aX).add j)=X u:=by
 intro j u hj;rw [nR,h.cell]
 match j with
 | 0=>exact hj
 | 1=>exact hj
 | j+2=>simp at hj
abbrev mh:=Int×Int×Int×Int×Int×Int×Sl×Sl
abbrev kU (x:mh):List aG:=[V U x.1,V U x.2.1,V U x.2.2.1,V U x.2.2.2.1,V U x.2.2.2.2.1,V U x.2.2.2.2.2.1,dX x.2.2.2.2.2.2.1,dX x.2.2.2.2.2.2.2]
abbrev vW (x:mh):aG:=bJ #[V U x.1,V U x.2.1,V U x.2.2.1,V U x.2.2.2.1,V U x.2.2.2.2.1,V U x.2.2.2.2.2.1,dX x.2.2.2.2.2.2.1,dX x.2.2.2.2.2.2.2]
def EU:Ek mh:=⟨43,35,8,96,bJ #[V U 0,V U 0,V U 0,V U 0,V U 0,V U 0,J ah 0 0,J ah 0 0],vW,kU⟩
theorem ael:(Tryz.prog.info? 43).map (fun i=>(i.zero,i.size,i.bytes))=X (X (bJ #[V U 0,V U 0,V U 0,V U 0,V U 0,V U 0,J ah 0 0,J ah 0 0]),8,96):=by kernel_rfl
theorem aem (w:aD) (p:aX) (x:mh) (h:∀ j u,(kU x)[j]?=X u->w.cell? (p.add j)=X u):(Instr.loadAt 43 (Y (X p))).run aA w=.ok (vW x) w:=by
 have h0:=h 0 _ rfl;have h1:=h 1 _ rfl;have h2:=h 2 _ rfl;have h3:=h 3 _ rfl;have h4:=h 4 _ rfl;have h5:=h 5 _ rfl;have h6:=h 6 _ rfl;have h7:=h 7 _ rfl;simp [aK] at h0 h1 h2 h3 h4 h5 h6 h7;simp [go_sem,h0,h1,h2,h3,h4,h5,h6,h7]
theorem Dk:EU.Ok where
 hu:=Tryz.underlying35
 info:=by
  have h:=ael;cases hi:Tryz.prog.info? 43 with
  | none=>rw [hi] at h; cases h
  | some i =>
   rw [hi] at h;simp only [Option.map_some,Option.some.injEq,Prod.mk.injEq] at h;exact⟨i,hi,h.1,h.2.1,h.2.2⟩
 zs:=rfl
 len:=fun _=>rfl
 one:=fun x u hu=>by
  simp only [EU,kU,bI,List.not_mem_nil,or_false] at hu;rcases hu with rfl|rfl|rfl|rfl|rfl|rfl|rfl|rfl <;> rfl
 pos:=by decide
 few:=by decide
 load:=fun w p x h=>aem w p x h
abbrev P8 (W:aD) (v:aG) (l:List mh):Prop:=Row EU W v l
abbrev jK (W:aD) (B:Nat) (v:aG) (l:List mh):Prop:=Own EU W B v l
theorem elU {W:aD} {v:aG} {l:List mh} {ao:Option aX} {n c k:Nat} {x:mh} (h:P8 W v l) (hv:v=J ao n c) (hn:l.length=n) (hk:l[k]?=X x) :
  ∃ p:aX,(∀ w,(Instr.indexAt 35 (J ao n c) (V U k)).run aA w=.ok (Y (X p)) w)/\∀ w,Below W.heap.size W w->w.cell? p=X (V U x.1)/\w.cell? ⟨p.block,p.off+1,ah⟩=X (V U x.2.1)/\w.cell? ⟨p.block,p.off+2,ah⟩=X (V U x.2.2.1)/\w.cell? ⟨p.block,p.off+3,ah⟩=X (V U x.2.2.2.1)/\w.cell? ⟨p.block,p.off+4,ah⟩=X (V U x.2.2.2.2.1)/\w.cell? ⟨p.block,p.off+5,ah⟩=X (V U x.2.2.2.2.2.1)/\w.cell? ⟨p.block,p.off+6,ah⟩=X (dX x.2.2.2.2.2.2.1)/\w.cell? ⟨p.block,p.off+7,ah⟩=X (dX x.2.2.2.2.2.2.2):=by
 obtain⟨p,h1,_,h2⟩:=mH Dk h hv hn hk;exact⟨p,h1,fun w hw=>⟨by simpa [aK] using h2 w hw 0 _ rfl,by simpa [aK] using h2 w hw 1 _ rfl,by simpa [aK] using h2 w hw 2 _ rfl,by simpa [aK] using h2 w hw 3 _ rfl,by simpa [aK] using h2 w hw 4 _ rfl,by simpa [aK] using h2 w hw 5 _ rfl,by simpa [aK] using h2 w hw 6 _ rfl,by simpa [aK] using h2 w hw 7 _ rfl⟩⟩
def lU (near:List Int) (but:Int) (f:Int->mh):List mh:=(near.filter fun n=>n != but).map f
theorem zQ (me but k tc ts ic is:Int) (nv:Sl) (av sv ev ov:aG) (pv lv:Sl) (l:List Int) (w:aD) (hs:qA w (dX nv) l) (hlen:l.length<=900) :
  bQ aA 41 #[bJ #[V U me,dX nv,av,sv,ev,ov],V U but,bJ #[V U k,V U tc,V U ts,V U ic,V U is,dX pv,dX lv]] w fun e w'=>(∃ v:Sl,e=.returned (dX v)/\jK w' w.heap.size (dX v) (lU l but fun n=>(n,k,tc,ts,ic,is,pv,lv)))/\Below w.heap.size w w':=by
 obtain⟨no,nn,nc⟩:=nv;obtain⟨po,pn,pc⟩:=pv;obtain⟨Kq,ln,lc⟩:=lv;obtain⟨q1,q2,hq⟩:=hs.len;obtain⟨rfl,hnn,rfl⟩:no=q1/\nn=l.length/\nc=q2:=by
  have h:J no nn nc=J q1 l.length q2:=hq;simpa using h
 clear hq;obtain⟨h0,h1,h2⟩:=gY w #[V U me,J no nn nc,av,sv,ev,ov] #[V U k,V U tc,V U ts,V U ic,V U is,J po pn pc,J Kq ln lc] 28 41;have B0:=O h0;have X5:=O h2;have HS:=O (hs.on h0);have HN:=O hnn;have c1:=h1.cell 1;simp only [ak,aB,aC] at c1;have nb:nn<=900:=by omega
 have W2:=O h2.lt;clear h0 h1 h2 hs hlen hnn;go_enter Tryz.func41,Tryz.ntmps41;go_upto_region 1 with fail;generalize (w.alloc (aJ #[V U me,J no nn nc,av,sv,ev,ov] 28)).alloc (aJ #[V U k,V U tc,V U ts,V U ic,V U is,J po pn pc,J Kq ln lc] 41)=W at *;go_wp2
 go_loopw [7,13] (fun v i wr=>∃ q:Nat,q<=nn/\i=V U q/\Below W.heap.size W wr/\jK wr W.heap.size v (lU (l.take q) but fun n=>(n,k,tc,ts,ic,is,(po,pn,pc),(Kq,ln,lc)))) (fun _ i _=>nn-(intOf i).toNat)
 case atStart=>exact⟨0,bL _,rfl,Z _ _,iM _ _⟩
 case round =>
  obtain⟨q,hq,rfl,hbe,hown⟩:=hrel;have BE:=O hbe;have OE:=O hown;clear hbe hown;by_cases hlt:q<nn
  ·obtain⟨y,hy⟩:∃ y,l[q]?=X y:=⟨_,ay (by rw [<- HN.out]; exact hlt)⟩;obtain⟨p,ix,_,px⟩:=mH Nm.JR HS.out rfl HN.out.symm hy;have p0:wr.cell? p=X (V U y):=by simpa [aK] using px wr BE.out 0 _ rfl
   have ix:∀ w,(Instr.indexAt 22 (J no nn nc) (V U q)).run aA w=.ok (Y (X p)) w:=ix;have FS:=O (show lU (l.take (q+1)) but (fun n=>((n,k,tc,ts,ic,is,(po,pn,pc),(Kq,ln,lc)):mh))=lU (l.take q) but (fun n=>(n,k,tc,ts,ic,is,(po,pn,pc),(Kq,ln,lc)))++(if (y != but)=bf then [(y,k,tc,ts,ic,is,(po,pn,pc),(Kq,ln,lc))] else []) by
    unfold lU;rw [zK l q y _ hy,bg];cases y != but <;> rfl)
   have hw3:IntKind.i64.wrap ((q:Int)+1)=(q:Int)+1:=IntWalk.i64_in _ (by omega);obtain⟨r,hr⟩:∃ r,(y != but)=r:=⟨_,rfl⟩;rw [hr] at FS;clear px hy;cases r
   ·go_wp2
    go_roundw
    case rel=>exact⟨q+1,by omega,by go_num,BE.out,by
     rw [FS.out];simpa using OE.out⟩
    case measure=>simp [intOf]; omega
   ·have x_:=X5.out.on BE.out;obtain⟨x0,x1,x2,x3,x4,x5,x6⟩:=x_.oJ;have NB:=O (gu wr (aJ #[V U y,V U k,V U tc,V U ts,V U ic,V U is,J po pn pc,J Kq ln lc] 43));have hlit:=iN Dk wr [(y,k,tc,ts,ic,is,(po,pn,pc),(Kq,ln,lc))] 1 rfl (by simp) #[V U y,V U k,V U tc,V U ts,V U ic,V U is,J po pn pc,J Kq ln lc] rfl;have o2:=dI OE.out NB.out;have hB:W.heap.size<=(wr.alloc (aJ #[V U y,V U k,V U tc,V U ts,V U ic,V U is,J po pn pc,J Kq ln lc] 43)).heap.size:=by have h1:=BE.out.size; simp; omega
    obtain⟨v',w',r',o',gr⟩:=gI Dk W.heap.size o2 (Row.dH hlit) (by
     unfold lU;rw [bF];have h1:=List.length_filter_le (fun n=>n != but) (l.take q);rw [aQ] at h1;omega) (by simp) hB 35
    have r':(Builtin.append_ #[35,35] 35 #[u7,J (X ⟨wr.heap.size,0,ah⟩) 1 1]).run aA (wr.alloc (aJ #[V U y,V U k,V U tc,V U ts,V U ic,V U is,J po pn pc,J Kq ln lc] 43))=.ok v' w':=by
     simpa [EU] using r'
    have BG:=O ((BE.out.trans (NB.out.mono BE.out.size)).grown gr hB fun j hj=>(o2.lt j hj).1);have OG:=O o';clear hlit o2 hB o' gr OE x_;go_wp2_with (first | (at_builtin; refine wpList_append_run rfl _ _ 35 rfl rfl rfl r' ?_) | fail)
    go_roundw
    case rel=>exact⟨q+1,by omega,by go_num,BG.out,by
     rw [FS.out];simpa using OG.out⟩
    case measure=>simp [intOf]; omega
  ·obtain rfl:nn=q:=by omega
   have e:l.take nn=l:=List.take_of_length_le (by have:=HN.out; omega);rw [e] at OE;obtain⟨FU,FV,hv⟩:=(Row.dH OE.out).len;subst hv;clear e;go_wp2;go_ret;exact⟨⟨(FU,_,FV),rfl,dN OE.out (by have:=W2.out; omega)⟩,B0.out.trans (BE.out.mono B0.out.size)⟩
end Bk
namespace Av
open Go.RowKit Rw YtmklifheakemeaaGreat.Nm Pr Bk
theorem vB (l:List fD) (x:fD) (h:∀ (j:Nat) (y:fD),l[j]?=X y->y≠x):fI l x=-1:=by
 induction l with
 | nil=>rfl
 | cons a l ih =>
  rw [fI,if_neg (h 0 a rfl),ih fun j y hj=>h (j+1) y (by simpa using hj),if_pos rfl]
theorem zR (l:List fD) (k:Nat) (x:fD) (h:l[k]?=X x) (hall:∀ (j:Nat) (z:fD),j<k->l[j]?=X z->z≠x):fI l x=k:=by
 induction l generalizing k with
 | nil=>simp at h
 | cons a l ih =>
  cases k with
  | zero =>
   obtain rfl:a=x:=by simpa using h
   rw [fI,if_pos rfl]
   rfl
  | succ k =>
   have h2:=ih k (by simpa using h) fun j z hj hz=>hall (j+1) z (by omega) (by simpa using hz);rw [fI,if_neg (hall 0 a (by omega) rfl),h2,if_neg (by omega)];omega
theorem Gz (l:List fD) (x:fD):decide ((0:Int)<=fI l x)=decide (x∈l):=by
 induction l with
 | nil=>simp [fI]
 | cons a l ih =>
  have hb:=ng l x;rw [fI];by_cases h:a=x
  ·rw [if_pos h]; simp [h]
  ·rw [if_neg h];have h':¬ x=a:=fun e=>h e.symm;simp only [bI,h',false_or];rw [<- ih];by_cases h2:fI l x=-1
   ·rw [if_pos h2,h2]
   ·rw [if_neg h2];have h3:0<=fI l x:=by omega
    have h4:0<=fI l x+1:=by omega
    simp [h3,h4]
theorem Qa (sv:Sl) (l:List fD) (x:fD) (w:aD) (hs:uY w (dX sv) l) :
  bQ aA 128 #[dX sv,mZ x] w fun e w'=>e=.returned (V U (fI l x))/\aR w.heap.size w w':=by
 obtain⟨c,d⟩:=x;obtain⟨so,sn,sc⟩:=sv;obtain⟨ao,ac,hv⟩:=hs.len;have hv:J so sn sc=J ao l.length ac:=hv;obtain⟨rfl,rfl,rfl⟩:so=ao/\sn=l.length/\sc=ac:=by simpa using hv
 have h0:=gu w (aJ #[V U c,V U d] 31);have h2:=dO w #[V U c,V U d] 31;have B:=O h0;have HS:=O (hs.on h0);have X3:=O h2;have lm:=hs.most;unfold maxLen at lm;obtain⟨n,hn⟩:∃ n,n=l.length:=⟨_,rfl⟩;rw [<- hn] at HS lm ⊢;have HN:=O hn.symm;clear h0 h2 hs hv hn;go_enter Tryz.func128,Tryz.ntmps128;go_upto_region 1 with fail;generalize w.alloc (aJ #[V U c,V U d] 31)=W at *;go_wp2
 go_loopw [8] (fun i wr=>∃ k:Nat,k<=n/\i=V U k/\aR W.heap.size W wr/\∀ (j:Nat) (y:fD),j<k->l[j]?=X y->y≠(c,d)) (fun i _=>n-(intOf i).toNat)
 case atStart=>exact⟨0,bL _,rfl,Z _ _,fun j y h=>by omega⟩
 case round =>
  obtain⟨k,hk,rfl,hbe,hall⟩:=hrel;have BE:=O hbe;have AL:=O hall;clear hbe hall;by_cases hlt:k<n
  ·obtain⟨y,hy⟩:∃ y,l[k]?=X y:=⟨_,ay (by rw [HN.out]; exact hlt)⟩;obtain⟨p,ix,px⟩:=elJ HS.out rfl HN.out hy;have DD:aR W.heap.size W wr.drew:=BE.out.drew;obtain⟨p0,p1⟩:=px wr BE.out;obtain⟨y1,y2⟩:=y;simp only at p0 p1;obtain⟨x0,x1⟩:=(X3.out.on BE.out).cs2;have hw3:IntKind.i64.wrap ((k:Int)+1)=(k:Int)+1:=IntWalk.i64_in _ (by omega);obtain⟨r,hr⟩:∃ r,(c == y1 && d == y2)=r:=⟨_,rfl⟩;have he:=uw c d y1 y2 r hr;have DB:=O DD;have HY:=O hy;have HR:=O hr;clear px hy hr DD;cases r
   ·go_wp2_with fail
    go_quiet (fail)
    go_wp2
    go_roundw
    case rel=>exact⟨k+1,by omega,by go_num,⟨BE.out.os,BE.out.tape,BE.out.output,BE.out.size,BE.out.block⟩,fun j y' hj h1=>by
     rcases Nat.lt_or_ge j k with h3|h3
     ·exact AL.out j y' h3 h1
     ·obtain rfl:j=k:=by omega
      have e1:=HY.out;rw [h1] at e1;rw [Option.some.inj e1];intro e;obtain⟨rfl,rfl⟩:y1=c/\y2=d:=by simpa using e
      have:=HR.out;simp at this⟩
    case measure=>simp [intOf]; omega
   ·go_wp2_with fail
    go_quiet (fail)
    go_wp2;go_ret;have h8:=HR.out;obtain⟨rfl,rfl⟩:c=y1/\d=y2:=by simpa using h8
    exact⟨by rw [zR l k (c,d) HY.out AL.out]; rfl,B.out.trans (Below.mono ⟨BE.out.os,BE.out.tape,BE.out.output,BE.out.size,BE.out.block⟩ B.out.size)⟩
  ·obtain rfl:k=n:=by omega
   go_wp2;go_ret;have hd:fI l (c,d)=-1:=vB l (c,d) fun j y hj=>AL.out j y (by rw [<- HN.out]; exact (aF.1 hj).1) hj;exact⟨by rw [hd]; rfl,B.out.trans (BE.out.mono B.out.size)⟩
theorem EH (sv:Sl) (l:List fD) (x:fD) (w:aD) (hs:uY w (dX sv) l) :
  bQ aA 88 #[dX sv,mZ x] w fun e w'=>e=.returned (bG (decide (x∈l)))/\aR w.heap.size w w':=by
 have h0:=gu w (aJ #[V U x.1,V U x.2] 31);have h2:=dO w #[V U x.1,V U x.2] 31;have C:=Qa sv l x _ (hs.on h0);have R:=O (Gz l x);obtain⟨c,d⟩:=x;obtain⟨so,sn,sc⟩:=sv;have B:=O h0;obtain⟨x0,x1⟩:=h2.cs2;generalize fI l (c,d)=r at *;generalize decide ((c,d)∈l)=s at *;clear h0 h2 hs;go_enter Tryz.func88,Tryz.ntmps88;go_wp2_with fail;refine C.mono ?_;rintro e w1 ⟨rfl,hb⟩;go_wp2;go_ret;exact⟨by have h:=R.out; subst h; rfl,B.out.trans (hb.mono B.out.size)⟩
theorem Qb (me:Int) (nv av ev ov:aG) (sv:Sl) (l:List fD) (x:fD) (w:aD) (hs:uY w (dX sv) l) :
  bQ aA 31 #[bJ #[V U me,nv,av,dX sv,ev,ov],mZ x] w fun e w'=>e=.returned (bG (decide (x∈l)))/\aR w.heap.size w w':=by
 obtain⟨h0,h1,h2⟩:=gY w #[V U me,nv,av,dX sv,ev,ov] #[V U x.1,V U x.2] 28 31;have C:=EH sv l x _ (hs.on h0);obtain⟨c,d⟩:=x;obtain⟨so,sn,sc⟩:=sv;have B:=O h0;have b3:=h1.cell 3;obtain⟨x0,x1⟩:=h2.cs2;simp only [ak,aB,aC] at b3;generalize decide ((c,d)∈l)=s at *;clear h0 h1 h2 hs;go_enter Tryz.func31,Tryz.ntmps31;go_wp2_with fail;refine C.mono ?_;rintro e w1 ⟨rfl,hb⟩;go_wp2;go_ret;exact⟨rfl,B.out.trans (hb.mono B.out.size)⟩
end Av
namespace Pr
open Go.RowKit Pu Rw Va Kp In
def lG (has vals:List Int):Nat->List Cn
 | 0=>[]
 | i+1=>if i<has.length/\odd (has.getD i 0)=bf/\(lG has vals i).length<5 then lG has vals i++[(nm i,sH (sw vals i))] else lG has vals i
theorem Mw (has vals:List Int):∀ k,(lG has vals k).length<=k
 | 0=>aO _
 | k+1=>by
  have h:=Mw has vals k;simp only [lG]
  split
  ·simp; omega
  ·omega
theorem GH (has vals:List Int):∀ k,(lG has vals k).length<=5
 | 0=>by simp [lG]
 | k+1=>by
  have h:=GH has vals k;simp only [lG]
  split
  ·rename_i hc; simp; omega
  ·exact h
theorem tQ (has vals:List Int):∀ k,∀ x∈lG has vals k,∃ i,i<k/\x.1=nm i
 | 0,x,h=>by simp [lG] at h
 | k+1,x,h=>by
  simp only [lG] at h
  split at h
  ·rcases aS.1 h with h|h
   ·obtain⟨i,h1,h2⟩:=tQ has vals k x h;exact⟨i,by omega,h2⟩
   ·simp at h;exact⟨k,by omega,by rw [h]⟩
  ·obtain⟨i,h1,h2⟩:=tQ has vals k x h;exact⟨i,by omega,h2⟩
theorem zS (has vals:List Int):∀ k,∀ x∈lG has vals k,iO x.2=bf
 | 0,x,h=>by simp [lG] at h
 | k+1,x,h=>by
  simp only [lG] at h
  split at h
  ·rcases aS.1 h with h|h
   ·exact zS has vals k x h
   ·simp at h;rw [h]; exact P6 _
  ·exact zS has vals k x h
theorem XZ (i j:Nat) (h:i<j) (hj:j<7):Op.bytesLess (nm i).toList (nm j).toList=bf:=by
 rw [ByteArray.toList_eq,ByteArray.toList_eq];have:∀ j:Fin 7,∀ i:Fin 7,i.val<j.val->Op.bytesLess (nm i.val).data.toList (nm j.val).data.toList=bf:=by decide
 exact this ⟨j,hj⟩ ⟨i,by omega⟩ h
theorem GI (has vals:List Int):∀ k,k<=7->jN (lG has vals k)
 | 0,_=>by simp [lG,jN]
 | k+1,hk=>by
  have h:=GI has vals k (by omega);simp only [lG]
  split
  ·refine List.pairwise_append.2 ⟨h,List.pairwise_singleton _ _,fun x hx y hy=>?_⟩;obtain⟨i,h1,h2⟩:=tQ has vals k x hx;simp at hy;rw [hy,h2];exact XZ i k h1 (by omega)
  ·exact h
theorem vX (w:aD) (c:C5):fH (w.alloc (aJ #[aW c.1,V U c.2.1,V U c.2.2.1,V U c.2.2.2.1,aW c.2.2.2.2] 70)) (J (X ⟨w.heap.size,0,ah⟩) 1 1) [c] :=
 Row.dH (iN uq w [c] 1 rfl (by simp) _ rfl)
theorem GJ (hv vv:aG) (has vals:List Int) (w:aD) (hh:kK w hv has) (hw:kK w vv vals) (lh:has.length<=maxLen) (lv:vals.length<=maxLen) :
  bQ aA 16 #[bJ #[hv,vv]] w fun e w'=>∃ v,e=.returned v/\gP w' w.heap.size v ((lG has vals 7).map r5)/\aR w.heap.size w w':=by
 have HH:=O hh;have HW:=O hw;have LH:=O lh;have LV:=O lv;clear hh hw lh lv;go_enter Tryz.func16,Tryz.ntmps16;go_wp2_with fail;refine (Ph _).mono ?_;rintro e1 w1 ⟨rfl,rfl⟩;go_wp2
 go_loopw [3,8] (fun lv i wr=>∃ k:Nat,k<=7/\i=V U k/\gP wr (w.heap.size+2) lv ((lG has vals k).map r5) /\
  aR (w.heap.size+2) ((w.alloc (aJ #[hv,vv] 49)).alloc (aJ vP 9)) wr) (fun _ i _=>7-(intOf i).toNat)
 case atStart=>exact⟨0,by omega,rfl,iM _ _,Z _ _⟩
 case round =>
  obtain⟨k,hk,rfl,hown,hb⟩:=hrel;have HO:=O hown;have HB:=O hb;have T0:aR w.heap.size w ((w.alloc (aJ #[hv,vv] 49)).alloc (aJ vP 9)):=((Z _ _).alloc (aO _) _).alloc (by simp) _;have BW:=O (T0.trans (hb.mono (by omega)));have hsz:w.heap.size+2<=wr.heap.size:=by have:=hb.size; simp at this; omega
  clear T0;obtain⟨ro,akp,hrl⟩:=(Row.dH hown).len;rw [bF] at hrl;have hl5:=Mw has vals k;by_cases h7:k<7
  ·have n0:wr.cell? ⟨w.heap.size+1,k,ah⟩=X (aW (nm k)):=by
    rw [hb.cell (p:=⟨w.heap.size+1,k,ah⟩) (by simp),aM _ _ _ _ (by simp)]; exact ad6 k h7
   have b0:wr.cell? ⟨w.heap.size,0,ah⟩=X hv:=by
    rw [hb.cell (p:=⟨w.heap.size,0,ah⟩) (by simp),aU _ _ _ (by simp),aM _ _ _ _ rfl]; rfl
   have b1:wr.cell? ⟨w.heap.size,1,ah⟩=X vv:=by
    rw [hb.cell (p:=⟨w.heap.size,1,ah⟩) (by simp),aU _ _ _ (by simp),aM _ _ _ _ rfl]; rfl
   have IH:=O (HH.out.on BW.out);obtain⟨ao,akq,hsh⟩:=HH.out.shape;clear hb hown;subst hsh;subst hrl;have hkk:(k:Int)<7:=by omega
   by_cases h1:k<has.length
   ·obtain⟨y,hy⟩:∃ y,has[k]?=X y:=⟨_,ay h1⟩;have hg:has.getD k 0=y:=by rw [List.getD_eq_getElem?_getD,hy]; rfl
    obtain⟨_,p,_,hix,hpc⟩:=IH.out.at_ k y hy;cases ho:odd y
    ·have T:=O (show lG has vals (k+1)=lG has vals k by simp only [lG]; rw [if_neg]; rintro⟨_,h2,_⟩; rw [hg,ho] at h2; cases h2);have hodd:(bits BinOp.and U y 1 == 1)=bS:=ho;clear ho hy hg;go_wp2
     go_roundw
     case rel=>exact⟨k+1,by omega,by go_num,by rw [T.out]; exact HO.out,HB.out⟩
     case measure=>simp [intOf]; omega
    ·have hodd:(bits BinOp.and U y 1 == 1)=bf:=ho;by_cases h5:(lG has vals k).length<5
     ·have T:=O (show (lG has vals (k+1)).map r5=(lG has vals k).map r5++[r5 (nm k,sH (sw vals k))] by simp only [lG]; rw [if_pos ⟨h1,by rw [hg,ho],h5⟩,bg]; rfl);have PK:=O (fun (W:aD) (hW:aR w.heap.size w W)=>Rk vv vals k W (HW.out.on hW) LV.out (by omega));have bd:=Rm HW.out k;have KV:=O (fun W=>zO (nm k) (sw vals k) W bd.1 bd.2);clear ho hy hg bd;go_wp2_with fail;refine (PK.out _ BW.out).mono ?_;rintro e1 w1 ⟨rfl,rfl⟩;go_wp2_with fail;refine (KV.out _).mono ?_;rintro e2 w2 ⟨rfl,hb2⟩;have B2:=O hb2;have O2:=O (dI HO.out hb2);have hs2:=hb2.size;clear hb2;generalize r5 (nm k,sH (sw vals k))=c at T ⊢;have O3a:=O (O2.out.alloc (aJ #[aW c.1,V U c.2.1,V U c.2.2.1,V U c.2.2.2.1,aW c.2.2.2.2] 70));obtain⟨v3,w3,r3,o3,g3⟩:=gI uq (w.heap.size+2) O3a.out (vX w2 c) (by simp; omega) (by simp) (by simp; omega) 32;have O3:=O o3;have hbel:aR (w.heap.size+2) wr w3:=((B2.out.mono hsz).alloc (by omega) _).grown g3 (by simp; omega) (fun j hj=>(O3a.out.lt j hj).1);have B3:=O (HB.out.trans hbel);clear o3 g3 hbel;go_wp2_with (first | (at_builtin; refine wpList_append_run rfl _ _ 32 rfl rfl rfl r3 ?_) | fail);clear r3;go_wp2
      go_roundw
      case rel=>exact⟨k+1,by omega,by go_num,by rw [T.out]; exact O3.out,B3.out⟩
      case measure=>simp [intOf]; omega
     ·have T:=O (show lG has vals (k+1)=lG has vals k by simp only [lG]; rw [if_neg]; rintro⟨_,_,h2⟩; exact h5 h2);clear ho hy hg;go_wp2
      go_roundw
      case rel=>exact⟨k+1,by omega,by go_num,by rw [T.out]; exact HO.out,HB.out⟩
      case measure=>simp [intOf]; omega
   ·have T:=O (show lG has vals (k+1)=lG has vals k by simp only [lG]; rw [if_neg]; rintro⟨h2,_⟩; exact h1 h2);go_wp2
    go_roundw
    case rel=>exact⟨k+1,by omega,by go_num,by rw [T.out]; exact HO.out,HB.out⟩
    case measure=>simp [intOf]; omega
  ·obtain rfl:k=7:=by omega
   clear hb hown;go_wp2;go_ret;exact⟨_,rfl,qy (by omega) HO.out,BW.out⟩
def Kr (c:Cn):Prop:=c.1.size<=100/\(kT c.2).size<=100/\(-9223372036854775808<=jG c.2/\jG c.2<=9223372036854775807)/\(-9223372036854775808<=jH c.2/\jH c.2<=9223372036854775807)
def Sy (l:List Cn):Prop:=l.length<=100/\∀ c∈l,Kr c
structure NF (l:List Cn):Prop where
 rise:jN l
 five:l.length<=5
 good:∀ c∈l,uF c=bf
 small:∀ c∈l,Kr c
theorem NF.iO {l:List Cn} (h:NF l):∀ c∈l,Pr.iO c.2=bf:=fun c hc=>by
 have:=h.good c hc;simp only [uF,aI] at this;exact this.2
theorem Sz (i:Nat) (h:i<7):nM (nm i)=bf:=by
 match i,h with
 | 0,_=>decide
 | 1,_=>decide
 | 2,_=>decide
 | 3,_=>decide
 | 4,_=>decide
 | 5,_=>decide
 | 6,_=>decide
theorem X6 (i:Nat):(nm i).size=1:=rfl
theorem SA (n:Int):(kT (sH n)).size<=100/\(-9223372036854775808<=jG (sH n)/\jG (sH n)<=9223372036854775807)/\(-9223372036854775808<=jH (sH n)/\jH (sH n)<=9223372036854775807):=by
 have h1:=Wi.jo (n.tdiv 4) 0 9 (by omega);have h2:=Wi.jo (n.tdiv 40) 0 9 (by omega);have ht:(tx6 n).size<=3:=Gf _;unfold sH lo9
 split
 ·refine⟨by show (0:Nat)<=100; omega,?_,?_⟩ <;> simp only [jG,jH] <;> omega
 ·split
  ·refine⟨by show (tx6 n).size<=100; omega,?_,?_⟩ <;> simp only [jG,jH] <;> omega
  ·refine⟨by show (tx6 n).size<=100; omega,?_,?_⟩ <;> simp only [jG,jH] <;> omega
theorem xG (has vals:List Int):∀ k,∀ x∈lG has vals k,Kr x
 | 0,x,h=>by simp [lG] at h
 | k+1,x,h=>by
  simp only [lG] at h
  split at h
  ·rcases aS.1 h with h|h
   ·exact xG has vals k x h
   ·simp at h;rw [h];exact⟨by show (nm k).size<=100; rw [X6]; omega,SA _⟩
  ·exact xG has vals k x h
theorem SE (has vals:List Int):NF (lG has vals 7) :=
 ⟨GI has vals 7 (aO _),GH has vals 7,fun c hc=>by
  obtain⟨i,h1,h2⟩:=tQ has vals 7 c hc;simp only [uF,aI];exact⟨by rw [h2]; exact Sz i h1,zS has vals 7 c hc⟩,xG has vals 7⟩
theorem ab0 {a b:Cn} (h:r5 a=r5 b):a=b:=by
 obtain⟨n,a⟩:=a;obtain⟨m,b⟩:=b;simp only [r5,Prod.mk.injEq] at h;obtain⟨rfl,h1,h2,h3,h4⟩:=h;cases a <;> cases b <;> simp [kN,jG,jH,kT] at h1 h2 h3 h4 <;> simp [*]
end Pr
namespace Bk
open Go.RowKit Rw YtmklifheakemeaaGreat.Nm Pr
def Mx (B b2 _:Nat) (so:Option aX) (sn sc at_:Nat) (lo hiv:aG) (z:iL) (lt ld:List iL) (i:Nat) (v:aG) (x:aD):Prop :=
 match i with
 | 0=>∃ g,v=J (X ⟨g,0,ah⟩) 0 0/\B<=g/\dJ x g #[] 66
 | 1=>v=Y (X ⟨b2,4,ah⟩)
 | 2=>v=J so sn sc
 | 3=>v=V U (at_:Int)
 | 4=>v=lo
 | 5=>kQ x B v lt
 | 6=>v=rV z
 | 7=>kQ x B v [z]
 | 8=>kQ x B v (lt++[z])
 | 9=>v=Y (X ⟨b2,4,ah⟩)
 | 10=>v=J so sn sc
 | 11=>v=V U (at_:Int)
 | 12=>v=hiv
 | 13=>kQ x B v (lt++[z]++ld)
 | 14=>v=Y (X ⟨b2,4,ah⟩)
 | _=>True
noncomputable def Zo:Code:=((Tryz.f47.body.bind (eT 8)).getD .skip)
theorem SF (B b2 b3:Nat) (so:Option aX) (sn sc at_:Nat) (lo hiv:aG) (z:iL) (lt ld:List iL) (i:Nat) (v:aG) (x x':aD) (h:Mx B b2 b3 so sn sc at_ lo hiv z lt ld i v x) (hb:aR x.heap.size x x'):Mx B b2 b3 so sn sc at_ lo hiv z lt ld i v x':=by
 by_cases hi:i<15
 ·rcases (by omega:i=0\/i=1\/i=2\/i=3\/i=4\/i=5\/i=6\/i=7\/i=8\/i=9\/i=10\/i=11\/i=12\/i=13\/i=14) with rfl|rfl|rfl|rfl|rfl|rfl|rfl|rfl|rfl|rfl|rfl|rfl|rfl|rfl|rfl
  ·obtain⟨g,h1,h2,h3⟩:=h;exact⟨g,h1,h2,h3.on hb⟩
  ·exact h
  ·exact h
  ·exact h
  ·exact h
  ·exact dI h hb
  ·exact h
  ·exact dI h hb
  ·exact dI h hb
  ·exact h
  ·exact h
  ·exact h
  ·exact h
  ·exact dI h hb
  ·exact h
 ·unfold Mx
  split <;> first | omega | trivial
theorem Qc (Q:Exit->Act->aD->Prop) (W:aD) (b2 b3:Nat) (me:Int) (y1 y2 y3 y5:aG) (so:Option aX) (sn sc at_:Nat) (l:List iL) (z:iL) (u0 u1 u4 u5 u6 u8 u9 u10 u11 u12 u13 u14 u15 u16 u17 u18 u19 u20 u21 u22 u23 u24 u25 u26 u27 u28 u29 u30 u31 u32 u33 u34 u35 u36 u37 u38 u39 u40 u41 u42 u43 u44 u45 u46 u47 u48 u49 u50 u51 u52 u53 u54 u55 u56 u57 u58 u59 u60 u61 u62 u63 u64 u65 u66 u67 u68 u69 u70 u71 u72 u73 u74 u75 u76 u77 u78 u79 u80 u81 u82 u83 u84 u85 u86 u87 u88 u89 u90 u91 u92 u93 u94 u95 u96 u97 u98 u99 u100 u101 u102 u103 u104 u105 u106 u107 u108 u109 u110 u111 u112 u113 u114:aG)
  (h2:dJ W b2 #[V U me,y1,y2,y3,J so sn sc,y5] 28) (hx:∀ x,aR W.heap.size W x->∀ j u,(jA z)[j]?=X u->x.cell? ((⟨b3,0,ah⟩:aX).add j)=X u) (hs:lF W (J so sn sc) l) (hat:at_<=l.length) (hlen:l.length<=900)
  (hQ:∀ (x:aD) (v97 v98 v99 v100 v101 v102 v103 v104 v105 v106 v107 v108 v109 v110 v111:aG),dJ x b2 #[V U me,y1,y2,y3,v110,y5] 28->kQ x W.heap.size v110 (l.take at_++[z]++l.drop at_)->(∀ B,B<=b2->aR B W x)->(∀ c cs t,c≠b2->dJ W c cs t->dJ x c cs t)->(∀ k,k<W.heap.size->k≠b2->x.heap[k]?=W.heap[k]?)->Q .normal ⟨(u0::u1::Y (X ⟨b2,0,ah⟩)::Y (X ⟨b3,0,ah⟩)::u4::u5::u6::V U (at_:Int)::u8::u9::u10::u11::u12::u13::u14::u15::u16::u17::u18::u19::u20::u21::u22::u23::u24::u25::u26::u27::u28::u29::u30::u31::u32::u33::u34::u35::u36::u37::u38::u39::u40::u41::u42::u43::u44::u45::u46::u47::u48::u49::u50::u51::u52::u53::u54::u55::u56::u57::u58::u59::u60::u61::u62::u63::u64::u65::u66::u67::u68::u69::u70::u71::u72::u73::u74::u75::u76::u77::u78::u79::u80::u81::u82::u83::u84::u85::u86::u87::u88::u89::u90::u91::u92::u93::u94::u95::u96::v97::v98::v99::v100::v101::v102::v103::v104::v105::v106::v107::v108::v109::v110::v111::u112::u113::u114::[]).toArray,[]⟩ x) :
  Code.wp aA Zo Q ⟨(u0::u1::Y (X ⟨b2,0,ah⟩)::Y (X ⟨b3,0,ah⟩)::u4::u5::u6::V U (at_:Int)::u8::u9::u10::u11::u12::u13::u14::u15::u16::u17::u18::u19::u20::u21::u22::u23::u24::u25::u26::u27::u28::u29::u30::u31::u32::u33::u34::u35::u36::u37::u38::u39::u40::u41::u42::u43::u44::u45::u46::u47::u48::u49::u50::u51::u52::u53::u54::u55::u56::u57::u58::u59::u60::u61::u62::u63::u64::u65::u66::u67::u68::u69::u70::u71::u72::u73::u74::u75::u76::u77::u78::u79::u80::u81::u82::u83::u84::u85::u86::u87::u88::u89::u90::u91::u92::u93::u94::u95::u96::u97::u98::u99::u100::u101::u102::u103::u104::u105::u106::u107::u108::u109::u110::u111::u112::u113::u114::[]).toArray,[]⟩ W:=by
 have HQ:=O hQ;have H2:=O h2;have LX:=O hx;obtain⟨lo,Cj,vN⟩:=uX nN hs at_ (by omega);obtain⟨hiv,Ck,xg⟩:=p9 nN hs (at_) hat;have LT:=O (show (l.take at_).length<=1000 by rw [aQ]; omega);have RS:=O (show (l.take at_).length<=900 by rw [aQ]; omega);have LD:=O (show (l.drop (at_)).length<=1000 by rw [List.length_drop]; omega);generalize l.take at_=lt at *;generalize l.drop (at_)=ld at *;have SL:=O Cj;have SH:=O Ck;have RL:=O vN;have RH:=O xg;clear hQ h2 hx hs Cj Ck vN xg hat hlen;have iT:=SF W.heap.size b2 b3 so sn sc at_ lo hiv z lt ld;unfold Zo
 conv=>arg 2; whnf
 have nd:∀ j,(j<97\/112<=j)->∀ i,i<15->(fun i=>97+i) i≠j:=by
  intro j hj i hi h;simp only at h;omega
 refine Rg.fT 16 15 (fun i=>97+i) (fun i=>if i=0 then 5 else if i=5 then 8 else if i=7 then 8 else if i=8 then 13 else 15) (Mx W.heap.size b2 b3 so sn sc at_ lo hiv z lt ld) (by kernel_rfl) (by kernel_rfl) rfl (by decide) (fun i j _ _ h=>by have h2:97+i=97+j:=h; omega) (fun i hi=>by show 97+i<115; omega) ?_ (fun _=>Rg.jk 1 (by kernel_rfl)) (fun kk o h1 h2=>by omega) ?_
 ·intro i o hi ho a x D hnd hc hD hb seen K hK;clear HQ;rcases (by omega:i=0\/i=1\/i=2\/i=3\/i=4\/i=5\/i=6\/i=7\/i=8\/i=9\/i=10\/i=11\/i=12\/i=13\/i=14) with rfl|rfl|rfl|rfl|rfl|rfl|rfl|rfl|rfl|rfl|rfl|rfl|rfl|rfl|rfl
  ·cases ho;exact aL rfl rfl (Rg.jd a.eval _ 25 0 #[] rfl rfl (by simp [go_sem])) (hK (J (X ⟨x.heap.size,0,ah⟩) 0 0) (x.alloc (aJ #[] 66)) ⟨x.heap.size,rfl,hb.size,dO x #[] 66⟩ ((Z _ _).alloc hb.size _) fun j u _ _ _ _ _ h=>iT j u _ _ h ((Z _ _).alloc (aO _) _))
  ·cases ho;have e2:a.eval (au 2)=Y (X ⟨b2,0,ah⟩):=seen.kp 2 _ (nd 2 (by omega)) rfl;exact aL rfl rfl (bU a.eval _ 28 (au 2) 4 rfl (by rw [e2]; simp [go_sem])) (hK _ _ rfl (Z _ _) fun _ _ _ _ _ _ _ h=>h)
  ·cases ho;have e98:a.eval (au 98)=Y (X ⟨b2,4,ah⟩):=seen.at_ ⟨1,.data⟩ (by simp) rfl (aH (by decide));have y:=(H2.out.on hb).cell 4;simp only [ak,aB,aC] at y;exact aL rfl rfl (bR a.eval _ 25 (au 98) rfl (by rw [e98]; simp [go_sem,y])) (hK _ _ rfl (Z _ _) fun _ _ _ _ _ _ _ h=>h)
  ·cases ho;have e7:a.eval (au 7)=V U (at_:Int):=seen.kp 7 _ (nd 7 (by omega)) rfl;exact aL rfl rfl (Rg.gq a.eval _ (au 7) rfl x) (hK _ _ e7 (Z _ _) fun _ _ _ _ _ _ _ h=>h)
  ·cases ho;have e99:a.eval (au 99)=J so sn sc:=seen.at_ ⟨2,.data⟩ (by simp) rfl (aH (by decide));have e100:a.eval (au 100)=V U (at_:Int):=seen.at_ ⟨3,.data⟩ (by simp) rfl (aH (by decide));exact aL rfl rfl (Rg.kG a.eval _ 25 (au 99) ah (X (au 100)) ah rfl (by show (Instr.sliceAt 25 (a.eval (au 99)) ah (X (a.eval (au 100))) ah).run aA x=.ok lo x; rw [e99,e100]; exact SL.out x)) (hK _ _ rfl (Z _ _) fun _ _ _ _ _ _ _ h=>h)
  ·cases ho;obtain⟨g,q0,hBg,hbx⟩:=seen.at_ ⟨0,.data⟩ (by simp) rfl (aZ rfl);have q0:a.eval (au 97)=J (X ⟨g,0,ah⟩) 0 0:=q0;have e101:a.eval (au 101)=lo:=seen.at_ ⟨4,.data⟩ (by simp) rfl (aH (by decide));obtain⟨v',x',r,o',gr⟩:=jc nN W.heap.size hbx hBg (RL.out.on hb) LT.out 25;exact aL rfl rfl (bV a.eval _ (au 97) (au 101) 25 rfl q0 e101 r) (hK v' x' o' (gr.mono hb.size) fun j u _ _ _ _ _ h=>iT j u _ _ h gr)
  ·cases ho;have e3:a.eval (au 3)=Y (X ⟨b3,0,ah⟩):=seen.kp 3 _ (nd 3 (by omega)) rfl;exact aL rfl rfl (bR a.eval _ 66 (au 3) rfl (by rw [e3]; exact Zg x _ z (LX.out x hb))) (hK _ _ rfl (Z _ _) fun _ _ _ _ _ _ _ h=>h)
  ·cases ho;have e103:a.eval (au 103)=rV z:=seen.at_ ⟨6,.data⟩ (by simp) rfl (aH (by decide));have hl:=iN nN x [z] 1 rfl (by simp) (jA z).toArray (by simp [flat,EN]);have hl:kQ (x.alloc (aJ (jA z).toArray 66)) x.heap.size (J (X ⟨x.heap.size,0,ah⟩) 1 1) [z]:=hl;exact aL rfl rfl (Rg.jd a.eval _ 25 1 #[(0,au 103)] rfl (ps:=#[(0,rV z)]) (by simp [e103]) (by simp [go_sem])) (hK (J (X ⟨x.heap.size,0,ah⟩) 1 1) (x.alloc (aJ (jA z).toArray 66)) (dN hl hb.size) ((Z _ _).alloc hb.size _) fun j u _ _ _ _ _ h=>iT j u _ _ h ((Z _ _).alloc (aO _) _))
  ·cases ho;have o102:kQ x W.heap.size (a.eval (au 102)) (lt):=seen.at_ ⟨5,.data⟩ (by simp) rfl (aZ rfl);have o104:kQ x W.heap.size (a.eval (au 104)) ([z]):=seen.at_ ⟨7,.data⟩ (by simp) rfl (aZ rfl);have ox:=Row.dH o104;obtain⟨v',x',r,o',gr⟩:=gI nN W.heap.size o102 ox (by have:=LT.out; omega) (by simp) hb.size 25;exact aL rfl rfl (bV a.eval _ (au 102) (au 104) 25 rfl rfl rfl r) (hK v' x' o' ((Z _ x).grown gr hb.size fun j hj=>(o102.lt j hj).1) fun j u hj dj nl nx ni h=>by
    rcases (by omega:j=0\/j=1\/j=2\/j=3\/j=4\/j=5\/j=6\/j=7\/j=8\/j=9\/j=10\/j=11\/j=12\/j=13\/j=14) with rfl|rfl|rfl|rfl|rfl|rfl|rfl|rfl|rfl|rfl|rfl|rfl|rfl|rfl|rfl
    ·exact absurd rfl (fun _:(0:Nat)=0=>nl (hc 5 _ (hD ⟨5,.data⟩ (by simp) rfl) rfl ⟨0,.data⟩ (by simp) rfl |> fun _=>hD ⟨5,.data⟩ (by simp) rfl))
    ·exact h
    ·exact h
    ·exact h
    ·exact h
    ·exact absurd rfl (fun _:(0:Nat)=0=>nx rfl)
    ·exact h
    ·exact absurd rfl (fun _:(0:Nat)=0=>nx rfl)
    ·exact absurd rfl (fun _:(0:Nat)=0=>ni rfl)
    ·exact h
    ·exact h
    ·exact h
    ·exact h
    ·exact absurd rfl (fun _:(0:Nat)=0=>hnd (hc 13 _ dj rfl ⟨8,.data⟩ (by simp) rfl))
    ·exact h)
  ·cases ho;have e2:a.eval (au 2)=Y (X ⟨b2,0,ah⟩):=seen.kp 2 _ (nd 2 (by omega)) rfl;exact aL rfl rfl (bU a.eval _ 28 (au 2) 4 rfl (by rw [e2]; simp [go_sem])) (hK _ _ rfl (Z _ _) fun _ _ _ _ _ _ _ h=>h)
  ·cases ho;have e106:a.eval (au 106)=Y (X ⟨b2,4,ah⟩):=seen.at_ ⟨9,.data⟩ (by simp) rfl (aH (by decide));have y:=(H2.out.on hb).cell 4;simp only [ak,aB,aC] at y;exact aL rfl rfl (bR a.eval _ 25 (au 106) rfl (by rw [e106]; simp [go_sem,y])) (hK _ _ rfl (Z _ _) fun _ _ _ _ _ _ _ h=>h)
  ·cases ho;have e7:a.eval (au 7)=V U (at_:Int):=seen.kp 7 _ (nd 7 (by omega)) rfl;exact aL rfl rfl (Rg.gq a.eval _ (au 7) rfl x) (hK _ _ e7 (Z _ _) fun _ _ _ _ _ _ _ h=>h)
  ·cases ho;have e107:a.eval (au 107)=J so sn sc:=seen.at_ ⟨10,.data⟩ (by simp) rfl (aH (by decide));have e108:a.eval (au 108)=V U (at_:Int):=seen.at_ ⟨11,.data⟩ (by simp) rfl (aH (by decide));exact aL rfl rfl (Rg.kG a.eval _ 25 (au 107) (X (au 108)) ah ah rfl (by show (Instr.sliceAt 25 (a.eval (au 107)) (X (a.eval (au 108))) ah ah).run aA x=.ok hiv x; rw [e107,e108]; exact SH.out x)) (hK _ _ rfl (Z _ _) fun _ _ _ _ _ _ _ h=>h)
  ·cases ho;have o105:kQ x W.heap.size (a.eval (au 105)) ((lt++[z])):=seen.at_ ⟨8,.data⟩ (by simp) rfl (aZ rfl);have e109:a.eval (au 109)=hiv:=seen.at_ ⟨12,.data⟩ (by simp) rfl (aH (by decide));have ox:lF x (a.eval (au 109)) ld:=by rw [e109]; exact RH.out.on hb
   obtain⟨v',x',r,o',gr⟩:=gI nN W.heap.size o105 ox (by have:=RS.out; rw [List.length_append,List.length_singleton]; omega) LD.out hb.size 25;exact aL rfl rfl (bV a.eval _ (au 105) (au 109) 25 rfl rfl rfl r) (hK v' x' o' ((Z _ x).grown gr hb.size fun j hj=>(o105.lt j hj).1) fun j u hj dj nl nx ni h=>by
    rcases (by omega:j=0\/j=1\/j=2\/j=3\/j=4\/j=5\/j=6\/j=7\/j=8\/j=9\/j=10\/j=11\/j=12\/j=13\/j=14) with rfl|rfl|rfl|rfl|rfl|rfl|rfl|rfl|rfl|rfl|rfl|rfl|rfl|rfl|rfl
    ·exact absurd rfl (fun _:(0:Nat)=0=>nl (hc 8 _ (hD ⟨8,.data⟩ (by simp) rfl) rfl ⟨5,.data⟩ (by simp) rfl))
    ·exact h
    ·exact h
    ·exact h
    ·exact h
    ·exact absurd rfl (fun _:(0:Nat)=0=>nl (hD ⟨8,.data⟩ (by simp) rfl))
    ·exact h
    ·exact absurd rfl (fun _:(0:Nat)=0=>nl (hD ⟨8,.data⟩ (by simp) rfl))
    ·exact absurd rfl (fun _:(0:Nat)=0=>nx rfl)
    ·exact h
    ·exact h
    ·exact h
    ·exact h
    ·exact absurd rfl (fun _:(0:Nat)=0=>ni rfl)
    ·exact h)
  ·cases ho;have e2:a.eval (au 2)=Y (X ⟨b2,0,ah⟩):=seen.kp 2 _ (nd 2 (by omega)) rfl;exact aL rfl rfl (bU a.eval _ 28 (au 2) 4 rfl (by rw [e2]; simp [go_sem])) (hK _ _ rfl (Z _ _) fun _ _ _ _ _ _ _ h=>h)
 ·intro a w' df sz kp ⟨vs,hv⟩ hb;have gr:a.tmps[110]?=X (vs 13):=(hv 13 (by omega)).1;have gp:a.tmps[111]?=X (Y (X ⟨b2,4,ah⟩)):=by
   have h:vs 14=Y (X ⟨b2,4,ah⟩):=(hv 14 (by omega)).2 (by decide);rw [<- h];exact (hv 14 (by omega)).1
  have oR:kQ w' W.heap.size (vs 13) (lt++[z]++ld):=(hv 13 (by omega)).2 (by decide);generalize vs 13=xR at *;obtain⟨ca,cp,eR⟩:=(Row.dH oR).len;have hbx:=H2.out.on hb;have hblt:=H2.out.lt;have c5:=hbx.cell 4;have f5:=hbx.fr 4;simp only [ak,aB,aC] at c5;have hb1:=dR (k:=4) hbx xR;show Rg.fG _ _ _ 1 15 a w';simp only [Rg.fG];refine Rg.fQ 25 (au 111) (au 110) rfl rfl rfl rfl (bH gp) (bH gr) (w':=w'.setCell ⟨b2,4,ah⟩ xR) (by rw [eR]; simp [go_sem,c5,f5]) ?_;have rA:∀ j,(j<97\/112<=j)->a.tmps[j]?=(u0::u1::Y (X ⟨b2,0,ah⟩)::Y (X ⟨b3,0,ah⟩)::u4::u5::u6::V U (at_:Int)::u8::u9::u10::u11::u12::u13::u14::u15::u16::u17::u18::u19::u20::u21::u22::u23::u24::u25::u26::u27::u28::u29::u30::u31::u32::u33::u34::u35::u36::u37::u38::u39::u40::u41::u42::u43::u44::u45::u46::u47::u48::u49::u50::u51::u52::u53::u54::u55::u56::u57::u58::u59::u60::u61::u62::u63::u64::u65::u66::u67::u68::u69::u70::u71::u72::u73::u74::u75::u76::u77::u78::u79::u80::u81::u82::u83::u84::u85::u86::u87::u88::u89::u90::u91::u92::u93::u94::u95::u96::u97::u98::u99::u100::u101::u102::u103::u104::u105::u106::u107::u108::u109::u110::u111::u112::u113::u114::[])[j]?:=fun j hj=>(kp j (nd j hj)).trans ak;obtain⟨mid,hmid,rfl⟩:=Rg.gG 97 15 df sz (by simp) rA
  match mid,hmid with
  | [v97,v98,v99,v100,v101,v102,v103,v104,v105,v106,v107,v108,v109,v110,v111],_ =>
   have e1:X v110=X xR:=gr;obtain rfl:=Option.some.inj e1;refine HQ.out _ v97 v98 v99 v100 v101 v102 v103 v104 v105 v106 v107 v108 v109 v110 v111 ?_ ?_ ?_ ?_ ?_
   ·simpa using hb1
   ·exact eO oR b2 4 _ hblt
   ·exact fun B hB=>(hb.mono (Nat.le_of_lt (Nat.lt_of_le_of_lt hB hblt))).setCell hB _
   ·intro c cs t hc hbc;exact (aN _ _ _ _ hc).trans (hbc.on hb)
   ·intro k hk hne;exact (aN _ _ _ _ hne).trans (hb.block k hk)
noncomputable def Zp:Code:=((Tryz.f47.body.bind (eT 9)).getD .skip)
structure P9 (base:Act) (v0 v2:aG) (p:aG) (W W':aD) (L:Array Bool) (a:Act) (x:aD):Prop where
 df:a.defers=base.defers
 sz:a.tmps.size=base.tmps.size
 kp:∀ j,j≠112->j≠113->j≠114->j≠5->a.tmps[j]?=base.tmps[j]?
 t0:aP L 0->a.tmps[112]?=X v0
 t1:aP L 1->a.tmps[113]?=X p
 t2:aP L 2->a.tmps[114]?=X v2
 t4:aP L 4->a.tmps[5]?=X v2
 w0:¬ aP L 3->x=W.drew
 w1:aP L 3->x=W'
 c3:aP L 3->aP L 0
theorem xH (Q:Exit->Act->aD->Prop) (W:aD) (b2 b3 b4:Nat) (me:Int) (o1 o2 o3 o4 o5:Option aX) (n1 c1 n2 c2 n3 c3 n4 c4 n5 c5:Nat) (e0 e1 e2 e3 e4 e5 z0 z1 z2 z3 z4 z5:aG) (up:Bool) (u0 u1 u5 u6 u7 u8 u9 u10 u11 u12 u13 u14 u15 u16 u17 u18 u19 u20 u21 u22 u23 u24 u25 u26 u27 u28 u29 u30 u31 u32 u33 u34 u35 u36 u37 u38 u39 u40 u41 u42 u43 u44 u45 u46 u47 u48 u49 u50 u51 u52 u53 u54 u55 u56 u57 u58 u59 u60 u61 u62 u63 u64 u65 u66 u67 u68 u69 u70 u71 u72 u73 u74 u75 u76 u77 u78 u79 u80 u81 u82 u83 u84 u85 u86 u87 u88 u89 u90 u91 u92 u93 u94 u95 u96 u97 u98 u99 u100 u101 u102 u103 u104 u105 u106 u107 u108 u109 u110 u111 u112 u113 u114:aG)
  (h2:dJ W b2 #[V U me,J o1 n1 c1,J o2 n2 c2,J o3 n3 c3,J o4 n4 c4,J o5 n5 c5] 28) (h3:dJ W b3 #[e0,e1,e2,e3,e4,e5,bG up] 66) (h4:dJ W b4 #[z0,z1,z2,z3,z4,z5] 28) (hne:b3≠b4)
  (hQ:∀ (a:Act) (x:aD),a.defers=[]->a.tmps[4]?=X (Y (X ⟨b4,0,ah⟩))->a.tmps[5]?=X (bG up)->x=gF W.drew b4 (V U me) (J o1 n1 c1) (J o2 n2 c2) (J o3 n3 c3) (J o4 n4 c4) (J o5 n5 c5)->Q .normal a x) :
  Code.wp aA Zp Q ⟨(u0::u1::Y (X ⟨b2,0,ah⟩)::Y (X ⟨b3,0,ah⟩)::Y (X ⟨b4,0,ah⟩)::u5::u6::u7::u8::u9::u10::u11::u12::u13::u14::u15::u16::u17::u18::u19::u20::u21::u22::u23::u24::u25::u26::u27::u28::u29::u30::u31::u32::u33::u34::u35::u36::u37::u38::u39::u40::u41::u42::u43::u44::u45::u46::u47::u48::u49::u50::u51::u52::u53::u54::u55::u56::u57::u58::u59::u60::u61::u62::u63::u64::u65::u66::u67::u68::u69::u70::u71::u72::u73::u74::u75::u76::u77::u78::u79::u80::u81::u82::u83::u84::u85::u86::u87::u88::u89::u90::u91::u92::u93::u94::u95::u96::u97::u98::u99::u100::u101::u102::u103::u104::u105::u106::u107::u108::u109::u110::u111::u112::u113::u114::[]).toArray,[]⟩ W:=by
 have HQ:=O hQ;have H2:=O h2.drew;have H3:=O h3.drew;have H4:=O h4.drew;have X3:=O (show dJ (gF W.drew b4 (V U me) (J o1 n1 c1) (J o2 n2 c2) (J o3 n3 c3) (J o4 n4 c4) (J o5 n5 c5)) b3 #[e0,e1,e2,e3,e4,e5,bG up] 66 from (dK W.drew b4 (V U me) (J o1 n1 c1) (J o2 n2 c2) (J o3 n3 c3) (J o4 n4 c4) (J o5 n5 c5) b3 hne).trans h3.drew);clear hQ h2 h3 h4 hne;unfold Zp
 conv=>arg 2; whnf
 obtain⟨base,hbase⟩:∃ b:Act,b=⟨(u0::u1::Y (X ⟨b2,0,ah⟩)::Y (X ⟨b3,0,ah⟩)::Y (X ⟨b4,0,ah⟩)::u5::u6::u7::u8::u9::u10::u11::u12::u13::u14::u15::u16::u17::u18::u19::u20::u21::u22::u23::u24::u25::u26::u27::u28::u29::u30::u31::u32::u33::u34::u35::u36::u37::u38::u39::u40::u41::u42::u43::u44::u45::u46::u47::u48::u49::u50::u51::u52::u53::u54::u55::u56::u57::u58::u59::u60::u61::u62::u63::u64::u65::u66::u67::u68::u69::u70::u71::u72::u73::u74::u75::u76::u77::u78::u79::u80::u81::u82::u83::u84::u85::u86::u87::u88::u89::u90::u91::u92::u93::u94::u95::u96::u97::u98::u99::u100::u101::u102::u103::u104::u105::u106::u107::u108::u109::u110::u111::u112::u113::u114::[]).toArray,[]⟩:=⟨_,rfl⟩;have b2t:base.tmps[2]?=X (Y (X ⟨b2,0,ah⟩)):=by rw [hbase]; rfl
 have b3t:base.tmps[3]?=X (Y (X ⟨b3,0,ah⟩)):=by rw [hbase]; rfl
 have b4t:base.tmps[4]?=X (Y (X ⟨b4,0,ah⟩)):=by rw [hbase]; rfl
 have bsz:base.tmps.size=115:=by rw [hbase]; rfl
 have bdf:base.defers=[]:=by rw [hbase]
 rw [<- hbase];clear hbase;generalize hW':gF W.drew b4 (V U me) (J o1 n1 c1) (J o2 n2 c2) (J o3 n3 c3) (J o4 n4 c4) (J o5 n5 c5)=W' at *;refine Rg.ru (fun L a x=>P9 base (bJ #[V U me,J o1 n1 c1,J o2 n2 c2,J o3 n3 c3,J o4 n4 c4,J o5 n5 c5]) (bG up) (Y (X ⟨b3,6,ah⟩)) W W' L a x) (by kernel_rfl) (by kernel_rfl) ?_ ?_ ?_
 ·exact⟨rfl,rfl,fun _ _ _ _ _=>rfl,fun h=>absurd h (bM _ _),fun h=>absurd h (bM _ _),fun h=>absurd h (bM _ _),fun h=>absurd h (bM _ _),fun _=>rfl,fun h=>absurd h (bM _ _),fun h=>absurd h (bM _ _)⟩
 ·intro L a x i o hsz I ho hnd om;have hi:i<5:=(aF.1 ho).1;have hL:L.size=5:=hsz;have Ch:i<L.size:=by omega
  have k2:a.eval (au 2)=Y (X ⟨b2,0,ah⟩):=bH ((I.kp 2 (by decide) (by decide) (by decide) (by decide)).trans b2t);have k3:a.eval (au 3)=Y (X ⟨b3,0,ah⟩):=bH ((I.kp 3 (by decide) (by decide) (by decide) (by decide)).trans b3t);have k4:a.eval (au 4)=Y (X ⟨b4,0,ah⟩):=bH ((I.kp 4 (by decide) (by decide) (by decide) (by decide)).trans b4t);have asz:a.tmps.size=115:=I.sz.trans bsz;have self:∀ (d:Nat) (v:aG),d<115->(a.put (X d) v).tmps[d]?=X v:=fun d v hd=>by
   have:d<a.tmps.size:=by omega
   simp [Act.put,this]
  have ds:=fun j=>Rg.iC Ch j;rcases (by omega:i=0\/i=1\/i=2\/i=3\/i=4) with rfl|rfl|rfl|rfl|rfl
  ·cases ho;have hx:x=W.drew:=I.w0 fun h=>hnd (I.c3 h);exact aL rfl rfl (bR a.eval _ 28 (au 2) rfl (by rw [k2,hx]; exact vk H2.out)) ⟨I.df,(aV a _ _).trans I.sz,fun j j1 j2 j3 j4=>(aj _ _ _ j (by omega)).trans (I.kp j j1 j2 j3 j4),fun _=>self 112 _ (by decide),fun h=>(aj _ _ _ 113 (by decide)).trans (I.t1 (((ds 1).1 h).resolve_left (by decide))),fun h=>(aj _ _ _ 114 (by decide)).trans (I.t2 (((ds 2).1 h).resolve_left (by decide))),fun h=>(aj _ _ _ 5 (by decide)).trans (I.t4 (((ds 4).1 h).resolve_left (by decide))),fun h=>I.w0 fun h3=>h ((ds 3).2 (aH h3)),fun h=>I.w1 (((ds 3).1 h).resolve_left (by decide)),fun h=>(ds 0).2 (aZ rfl)⟩
  ·cases ho;exact aL rfl rfl (bU a.eval _ 66 (au 3) 4 rfl (by rw [k3]; simp [go_sem])) ⟨I.df,(aV a _ _).trans I.sz,fun j j1 j2 j3 j4=>(aj _ _ _ j (by omega)).trans (I.kp j j1 j2 j3 j4),fun h=>(aj _ _ _ 112 (by decide)).trans (I.t0 (((ds 0).1 h).resolve_left (by decide))),fun _=>self 113 _ (by decide),fun h=>(aj _ _ _ 114 (by decide)).trans (I.t2 (((ds 2).1 h).resolve_left (by decide))),fun h=>(aj _ _ _ 5 (by decide)).trans (I.t4 (((ds 4).1 h).resolve_left (by decide))),fun h=>I.w0 fun h3=>h ((ds 3).2 (aH h3)),fun h=>I.w1 (((ds 3).1 h).resolve_left (by decide)),fun h=>(ds 0).2 (aH (I.c3 (((ds 3).1 h).resolve_left (by decide))))⟩
  ·cases ho;have k113:a.eval (au 113)=Y (X ⟨b3,6,ah⟩):=bH (I.t1 (om ⟨1,.data⟩ (by simp) rfl));have hc:x.cell? ⟨b3,6,ah⟩=X (bG up):=by
    by_cases h3:aP L 3
    ·rw [I.w1 h3]; exact X3.out.cell 6
    ·rw [I.w0 h3]; exact H3.out.cell 6
   exact aL rfl rfl (bR a.eval _ 4 (au 113) rfl (by rw [k113]; simp [go_sem,hc])) ⟨I.df,(aV a _ _).trans I.sz,fun j j1 j2 j3 j4=>(aj _ _ _ j (by omega)).trans (I.kp j j1 j2 j3 j4),fun h=>(aj _ _ _ 112 (by decide)).trans (I.t0 (((ds 0).1 h).resolve_left (by decide))),fun h=>(aj _ _ _ 113 (by decide)).trans (I.t1 (((ds 1).1 h).resolve_left (by decide))),fun _=>self 114 _ (by decide),fun h=>(aj _ _ _ 5 (by decide)).trans (I.t4 (((ds 4).1 h).resolve_left (by decide))),fun h=>I.w0 fun h3=>h ((ds 3).2 (aH h3)),fun h=>I.w1 (((ds 3).1 h).resolve_left (by decide)),fun h=>(ds 0).2 (aH (I.c3 (((ds 3).1 h).resolve_left (by decide))))⟩
  ·cases ho;have hx:x=W.drew:=I.w0 hnd;refine Rg.fQ 28 (au 4) (au 112) rfl rfl rfl rfl k4 (bH (I.t0 (om ⟨0,.data⟩ (by simp) rfl))) (w':=W') (by rw [hx,<- hW']; exact pG H4.out me _ _ _ _ _ _ _ _ _ _ _ _ _ _ _) ?_;exact⟨I.df,I.sz,I.kp,fun h=>I.t0 (((ds 0).1 h).resolve_left (by decide)),fun h=>I.t1 (((ds 1).1 h).resolve_left (by decide)),fun h=>I.t2 (((ds 2).1 h).resolve_left (by decide)),fun h=>I.t4 (((ds 4).1 h).resolve_left (by decide)),fun h=>absurd ((ds 3).2 (aZ rfl)) h,fun _=>rfl,fun _=>(ds 0).2 (aH (om ⟨0,.data⟩ (by simp) rfl))⟩
  ·cases ho;have k114:a.eval (au 114)=bG up:=bH (I.t2 (om ⟨2,.data⟩ (by simp) rfl));exact aL rfl rfl (Rg.kI a.eval _ (au 114) rfl x) (by rw [k114]; exact⟨I.df,(aV a _ _).trans I.sz,fun j j1 j2 j3 j4=>(aj _ _ _ j (by omega)).trans (I.kp j j1 j2 j3 j4),fun h=>(aj _ _ _ 112 (by decide)).trans (I.t0 (((ds 0).1 h).resolve_left (by decide))),fun h=>(aj _ _ _ 113 (by decide)).trans (I.t1 (((ds 1).1 h).resolve_left (by decide))),fun h=>(aj _ _ _ 114 (by decide)).trans (I.t2 (((ds 2).1 h).resolve_left (by decide))),fun _=>self 5 _ (by decide),fun h=>I.w0 fun h3=>h ((ds 3).2 (aH h3)),fun h=>I.w1 (((ds 3).1 h).resolve_left (by decide)),fun h=>(ds 0).2 (aH (I.c3 (((ds 3).1 h).resolve_left (by decide))))⟩)
 ·intro L a x I hd;exact HQ.out a x (I.df.trans bdf) ((I.kp 4 (by decide) (by decide) (by decide) (by decide)).trans b4t) (I.t4 (hd 4 (by decide))) ((I.w1 (hd 3 (by decide))))
end Bk
namespace Rl
open Go.RowKit Pu Pr
def Xw (p:List Cn) (n:ByteArray):Option Cn:=p.find? fun c=>decide (c.1=n)
theorem SG {p:List Cn} {n:ByteArray} {y:Cn} (h:Xw p n=X y):y∈p/\y.1=n:=⟨List.mem_of_find?_eq_some h,by simpa using List.find?_some h⟩
theorem aen {p:List Cn} {n:ByteArray} {k:Nat} {y:Cn} (hk:p[k]?=X y) (he:y.1=n) (hn:∀ (j:Nat) (z:Cn),j<k->p[j]?=X z->z.1≠n):Xw p n=X y:=by
 unfold Xw;rw [List.find?_eq_some_iff_getElem];obtain⟨hlt,hy⟩:=aF.1 hk;refine⟨by simpa using he,k,hlt,hy,fun j hj=>?_⟩;have:=hn j p[j] hj (ay (by omega));simpa using this
theorem X7 {p:List Cn} {n:ByteArray} (hn:∀ (j:Nat) (z:Cn),j<p.length->p[j]?=X z->z.1≠n):Xw p n=ah:=by
 unfold Xw;rw [aY];intro x hx;obtain⟨j,hj,e⟩:=List.getElem_of_mem hx;have:=hn j x hj (by rw [ay hj,e]);simpa using this
def Kt (b:List Cn) (x:Cn):Bool:=match Xw b x.1 with
 | some y=>eU y.2 x.2
 | none=>bS
theorem Qd {a b:List Cn} (hb:jN b):o8 a b=a.all (Kt b):=by
 unfold o8
 congr 1
 funext x
 unfold Kt;cases hf:Xw b x.1 with
 | none =>
  rw [List.any_eq_false];intro y hy;have:=aY.1 hf y hy;simp only [decide_eq_true_eq] at this;simp [this]
 | some y =>
  obtain⟨h1,h2⟩:=SG hf;rw [aT,List.any_eq_true];constructor
  ·rintro⟨z,hz,h3⟩;simp only [aI,decide_eq_true_eq] at h3;rw [ad8 hb h1 hz (h2.trans h3.1.symm)];exact h3.2
  ·intro h3;exact⟨y,h1,by simp [h2,h3]⟩
theorem Ku {n:ByteArray} {c d k:Kd} (hc:iO c=bf) (hd:iO d=bf) (h:fE c d=X k):yN (r5 (n,k)) (r5 (n,d))=eU d c:=by
 obtain⟨k1,k2⟩:=O8 c d k hc hd h;rw [aT,Gl];constructor
 ·intro e;have e2:=ab0 e;obtain rfl:k=d:=congrArg Prod.snd e2;exact Cg k c hd fun v hv=>by rw [k2,aI] at hv; exact hv.1
 ·intro hi;have:k=d:=JX k d k1 hd fun v=>by
   rw [k2,aT,aI];exact⟨fun h=>h.2,fun h=>⟨uH d c hi v h,h⟩⟩
  rw [this]
theorem Kv {c d:Kd} (hd:iO d=bf) (h:fE c d=ah):eU d c=bS:=by
 rw [Bool.eq_false_iff];intro hi;obtain⟨v,hv⟩:=JW d hd;have:=O9 c d h v;rw [hv,uH d c hi v hv] at this;cases this
/-! ### samples -/
def zT:Kd->V3
 | .rg lo _=>(bS,lo,⟨#[]⟩)
 | .tx t=>(bf,0,t)
 | .pr t=>(bf,0,t)
/-! ### both together -/
end Rl
end Go.Proofs.YtmklifheakemeaaGreat
