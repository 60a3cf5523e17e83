/-
  A broker's rows lie . Conditions as told.
-/
import Derived.Test.YtmklifheakemeaaGreatCQ011
import Derived.Test.YtmklifheakemeaaGreatCQ007
import Derived.Test.YtmklifheakemeaaGreatCQ014
set_option maxRecDepth 100000
set_option maxHeartbeats 64000000
open _root_.Go renaming World->ah,Value->au,Addr->aR,Calls->aT,TypeId->aY
open Go.Addr renaming add->ay
open Go.Ending renaming returned->aI
open Go.IntKind renaming i64->K
open Go.Lib renaming hid->O
open Go.Obj renaming cells->aH
open Go.Proofs.Tryz renaming prog->Y,ntmps116->aj,func116->ak
open Go.Proofs.YtmklifheakemeaaGreat.Rg renaming get_put->V,done->aK,size_put->aO,gH->aW,dL->aX,dD->bf
open Go.Value renaming slice->D,int->J,pointer->X,string->aP,bool->aQ,agg->aV
open _root_.List renaming getElem?_eq_some_iff->Z,getElem?_eq_getElem->aA,getElem?_cons_zero->aD,getElem?_cons_succ->aF,getElem?_toArray->aG,getElem?_map->aJ,mem_cons->aS
open _root_.Nat renaming lt_or_ge->aM,zero_le->aN
open _root_.Option renaming some->U,none->aC
open Option.some renaming inj->aB,injEq->aZ
open _root_.Or renaming inr->aL,inl->aU
namespace Go.Proofs.YtmklifheakemeaaGreat
namespace Bk
open Go.RowKit Rw YtmklifheakemeaaGreat.Nm Pr
theorem Bw {W:ah} {b:Nat} {cs:Array au} {t:aY} (hb:dJ W b cs t) {a:aR} {v:au} (h:W.cell? a=U v) (e:a.block=b):cs[a.off]?=U v:=by
 unfold World.cell? at h;unfold dJ at hb;rw [e,hb] at h;have h2:a.spot=aC/\cs[a.off]?=U v:=by simpa using h
 exact h2.2
theorem Rh {W W':ah} {b:Nat} (hk:∀ j,j<W.heap.size->j≠b->W'.heap[j]?=W.heap[j]?) {a:aR} {v:au} (h:W.cell? a=U v) (e:a.block≠b):W'.cell? a=U v:=by
 have hlt:=World.block_lt_of_cell? W _ h;unfold World.cell? at h ⊢;rw [hk _ hlt e];exact h
theorem xu (a:aR) (j:Nat):(a.add j).block=a.block:=by unfold ay; split <;> rfl
theorem iT {α:Type} {E:Ek α} (_K:E.Ok) {W W':ah} {b:Nat} {v:au} {l:List α} (h:Row E W v l) (hk:∀ j,j<W.heap.size->j≠b->W'.heap[j]?=W.heap[j]?) (hno:∀ (a:aR) (c:α),(∀ j u,(E.cells c)[j]?=U u->W.cell? (a.add j)=U u)->a.block≠b):Row E W' v l:=by
 rcases h with h|⟨a,cap,h1,h2,h3,h4⟩
 ·exact aU h
 ·refine aL ⟨a,cap,h1,h2,h3,fun j u hj=>?_⟩;cases l with
  | nil=>simp [flat] at hj
  | cons c r =>
   have hne:a.block≠b:=hno a c fun j u hj=>h4 j u (by
    rw [flat,List.getElem?_append_left (by exact (Z.1 hj).1)];exact hj)
   exact Rh hk (h4 j u hj) (by rw [xu]; exact hne)
theorem lG {α:Type} {E:Ek α} {W:ah} {b:Nat} {cs:Array au} {t:aY} (hb:dJ W b cs t) (hE:∀ c:α,∃ i j:Int,(E.cells c)[0]?=U (J K i)/\(E.cells c)[1]?=U (J K j)) (hcs:∀ (k:Nat) (i j:Int),cs[k]?=U (J K i)->cs[k+1]?=U (J K j)->False) (a:aR) (c:α) (h:∀ j u,(E.cells c)[j]?=U u->W.cell? (a.add j)=U u):a.block≠b:=fun e=>by
 obtain⟨i,j,h0,h1⟩:=hE c;have c0:=Bw hb (h 0 _ h0) (by rw [xu]; exact e);have c1:=Bw hb (h 1 _ h1) (by rw [xu]; exact e);have o0:(a.add 0).off=a.off:=by rw [Addr.add_zero']
 have o1:(a.add 1).off=a.off+1:=by rw [add_pos _ _ (by decide)]
 rw [o0] at c0;rw [o1] at c1;exact hcs a.off i j c0 c1
theorem sG {W:ah} {b:Nat} {cs:Array au} {t:aY} (hb:dJ W b cs t) (hcs:∀ (k:Nat) (s:ByteArray),cs[k]?≠U (aP s)) (a:aR) (c:C5) (h:∀ j u,(EC.cells c)[j]?=U u->W.cell? (a.add j)=U u):a.block≠b:=fun e=>by
 have c0:=Bw hb (h 0 _ rfl) (by rw [xu]; exact e);exact hcs _ _ c0
theorem mD (me:Int) (s1 s2 s3 s4 s5:Sl):∀ (k:Nat) (i j:Int),(jo me s1 s2 s3 s4 s5)[k]?=U (J K i)->(jo me s1 s2 s3 s4 s5)[k+1]?=U (J K j)->False:=by
 intro k i j h1 h2
 match k with
 | 0=>simp at h2
 | 1=>simp at h1
 | 2=>simp at h1
 | 3=>simp at h1
 | 4=>simp at h1
 | 5=>simp at h1
 | k+6=>simp at h1
theorem sH (me:Int) (s1 s2 s3 s4 s5:Sl):∀ (k:Nat) (s:ByteArray),(jo me s1 s2 s3 s4 s5)[k]?≠U (aP s):=by
 intro k s h
 match k with
 | 0=>simp at h
 | 1=>simp at h
 | 2=>simp at h
 | 3=>simp at h
 | 4=>simp at h
 | 5=>simp at h
 | k+6=>simp at h
theorem fJ {W W':ah} {k:Nat} {me:Int} {s1 s2 s3 s4 s5:Sl} {b:Br} {nv av sv ev ov:Sl} (h:iN W b nv av sv ev ov) (hb:dJ W k (jo me s1 s2 s3 s4 s5) 28) (hk:∀ j,j<W.heap.size->j≠k->W'.heap[j]?=W.heap[j]?) (hn:qF W' (dY nv) b.near):iN W' b nv av sv ev ov where
 near:=hn
 dP:=by
  obtain⟨l,h1,h2⟩:=h.dP;exact⟨l,iT okD h1 hk (lG hb (fun c=>⟨_,_,rfl,rfl⟩) (mD me s1 s2 s3 s4 s5)),h2.mono fun x a hx=>⟨hx.1,hx.2.1,iT vI hx.2.2 hk (sG hb (sH me s1 s2 s3 s4 s5))⟩⟩
 seen:=iT Ba h.seen hk (lG hb (fun c=>⟨_,_,rfl,rfl⟩) (mD me s1 s2 s3 s4 s5))
 ent:=by
  obtain⟨l,h1,h2⟩:=h.ent;exact⟨l,iT nX h1 hk (lG hb (fun c=>⟨_,_,rfl,rfl⟩) (mD me s1 s2 s3 s4 s5)),h2.mono fun x a hx=>⟨hx.1,hx.2.1,hx.2.2.1,hx.2.2.2.1,iT vI hx.2.2.2.2 hk (sG hb (sH me s1 s2 s3 s4 s5))⟩⟩
 own:=by
  obtain⟨l,h1,h2⟩:=h.own;exact⟨l,iT okW h1 hk (lG hb (fun c=>⟨_,_,rfl,rfl⟩) (mD me s1 s2 s3 s4 s5)),h2.mono fun x a hx=>⟨hx.1,iT vI hx.2 hk (sG hb (sH me s1 s2 s3 s4 s5))⟩⟩
end Bk
namespace Bk
open Go.RowKit Go.Sort Rw YtmklifheakemeaaGreat.Nm Pr
theorem oC {W:ah} {b:Nat} {z0 z1 z2 z3 z4 z5:au} (h:dJ W b #[z0,z1,z2,z3,z4,z5] 28) (me:Int) (o1 o2 o3 o4 o5:Option aR) (n1 c1 n2 c2 n3 c3 n4 c4 n5 c5:Nat) :
  (Instr.storeAt 28 (X (U ⟨b,0,aC⟩)) (aV #[J K me,D o1 n1 c1,D o2 n2 c2,D o3 n3 c3,D o4 n4 c4,D o5 n5 c5])).run Y W=.ok () (gN W b (J K me) (D o1 n1 c1) (D o2 n2 c2) (D o3 n3 c3) (D o4 n4 c4) (D o5 n5 c5)):=by
 obtain⟨x0,x1,x2,x3,x4,x5⟩:=h.eX;obtain⟨f0,f1,f2,f3,f4,f5⟩:=h.kI;simp [go_sem,x0,x1,x2,x3,x4,x5,f0,f1,f2,f3,f4,f5]
theorem tY {W:ah} {b:Nat} {z0 z1 z2 z3 z4 z5:au} (h:dJ W b #[z0,z1,z2,z3,z4,z5] 28):(Instr.loadAt 28 (X (U ⟨b,0,aC⟩))).run Y W=.ok (aV #[z0,z1,z2,z3,z4,z5]) W:=by
 obtain⟨x0,x1,x2,x3,x4,x5⟩:=h.eX;simp [go_sem,x0,x1,x2,x3,x4,x5]
theorem yQ {P:Program} (ρ:Operand->au) (o:Oper) (x y z:Operand) (t s r:aY) (f:FuncId) (ho:o.op=.call { callee:=.value (.func f),args:=#[x,y,z],argTypes:=#[t,s,r] }) {v u q:au} (hx:ρ x=v) (hy:ρ y=u) (hz:ρ z=q) (hf:ρ (.func f)=.func (.func f) #[] #[]) (w:ah)
  (hc:(callFunc f #[v,u,q]).run P w=.ok (.enter f #[v,u,q]) w):(execOp ρ o).run P w=.ok (.enter f #[v,u,q]) w:=by
 simp [execOp,ho,resolve,invoke,hx,hy,hz,hf,Deferred.ofValue,hc]
theorem OM {W:ah} {b:Nat} {c d:Int} (h:dJ W b #[J K c,J K d] 31):∀ j u,(jY (c,d))[j]?=U u->W.cell? ((⟨b,0,aC⟩:aR).add j)=U u:=by
 intro j u hj;rw [om,h.cell]
 match j with
 | 0=>exact hj
 | 1=>exact hj
 | j+2=>simp at hj
abbrev mE:=Int×Int×Int×Int×Int×Int×Sl×Sl
abbrev lH (x:mE):List au:=[J K x.1,J K x.2.1,J K x.2.2.1,J K x.2.2.2.1,J K x.2.2.2.2.1,J K x.2.2.2.2.2.1,dY x.2.2.2.2.2.2.1,dY x.2.2.2.2.2.2.2]
abbrev xA (x:mE):au:=aV #[J K x.1,J K x.2.1,J K x.2.2.1,J K x.2.2.2.1,J K x.2.2.2.2.1,J K x.2.2.2.2.2.1,dY x.2.2.2.2.2.2.1,dY x.2.2.2.2.2.2.2]
def EU:Ek mE:=⟨43,35,8,96,aV #[J K 0,J K 0,J K 0,J K 0,J K 0,J K 0,D aC 0 0,D aC 0 0],xA,lH⟩
theorem ahL:(Tryz.prog.info? 43).map (fun i=>(i.zero,i.size,i.bytes))=U (U (aV #[J K 0,J K 0,J K 0,J K 0,J K 0,J K 0,D aC 0 0,D aC 0 0]),8,96):=by kernel_rfl
theorem ahM (w:ah) (p:aR) (x:mE) (h:∀ j u,(lH x)[j]?=U u->w.cell? (p.add j)=U u):(Instr.loadAt 43 (X (U p))).run Y w=.ok (xA x) w:=by
 have h0:=h 0 _ rfl;have h1:=h 1 _ rfl;have h2:=h 2 _ rfl;have h3:=h 3 _ rfl;have h4:=h 4 _ rfl;have h5:=h 5 _ rfl;have h6:=h 6 _ rfl;have h7:=h 7 _ rfl;simp [ay] at h0 h1 h2 h3 h4 h5 h6 h7;simp [go_sem,h0,h1,h2,h3,h4,h5,h6,h7]
theorem EK:EU.Ok where
 hu:=Tryz.underlying35
 info:=by
  have h:=ahL;cases hi:Tryz.prog.info? 43 with
  | none=>rw [hi] at h; cases h
  | some i =>
   rw [hi] at h;simp only [Option.map_some,aZ,Prod.mk.injEq] at h;exact⟨i,hi,h.1,h.2.1,h.2.2⟩
 zs:=rfl
 len:=fun _=>rfl
 one:=fun x u hu=>by
  simp only [EU,lH,aS,List.not_mem_nil,or_false] at hu;rcases hu with rfl|rfl|rfl|rfl|rfl|rfl|rfl|rfl <;> rfl
 pos:=by decide
 few:=by decide
 load:=fun w p x h=>ahM w p x h
abbrev Ju (W:ah) (v:au) (l:List mE):Prop:=Row EU W v l
abbrev jT (W:ah) (B:Nat) (v:au) (l:List mE):Prop:=Own EU W B v l
theorem elU {W:ah} {v:au} {l:List mE} {ao:Option aR} {n c k:Nat} {x:mE} (h:Ju W v l) (hv:v=D ao n c) (hn:l.length=n) (hk:l[k]?=U x) :
  ∃ p:aR,(∀ w,(Instr.indexAt 35 (D ao n c) (J K k)).run Y w=.ok (X (U p)) w)/\∀ w,Below W.heap.size W w->w.cell? p=U (J K x.1)/\w.cell? ⟨p.block,p.off+1,aC⟩=U (J K x.2.1)/\w.cell? ⟨p.block,p.off+2,aC⟩=U (J K x.2.2.1)/\w.cell? ⟨p.block,p.off+3,aC⟩=U (J K x.2.2.2.1)/\w.cell? ⟨p.block,p.off+4,aC⟩=U (J K x.2.2.2.2.1)/\w.cell? ⟨p.block,p.off+5,aC⟩=U (J K x.2.2.2.2.2.1)/\w.cell? ⟨p.block,p.off+6,aC⟩=U (dY x.2.2.2.2.2.2.1)/\w.cell? ⟨p.block,p.off+7,aC⟩=U (dY x.2.2.2.2.2.2.2):=by
 obtain⟨p,h1,_,h2⟩:=nV EK h hv hn hk;exact⟨p,h1,fun w hw=>⟨by simpa [ay] using h2 w hw 0 _ rfl,by simpa [ay] using h2 w hw 1 _ rfl,by simpa [ay] using h2 w hw 2 _ rfl,by simpa [ay] using h2 w hw 3 _ rfl,by simpa [ay] using h2 w hw 4 _ rfl,by simpa [ay] using h2 w hw 5 _ rfl,by simpa [ay] using h2 w hw 6 _ rfl,by simpa [ay] using h2 w hw 7 _ rfl⟩⟩
def mF (near:List Int) (but:Int) (f:Int->mE):List mE:=(near.filter fun n=>n != but).map f
theorem Bz (me but k tc ts ic is:Int) (nv:Sl) (av sv ev ov:au) (pv lv:Sl) (l:List Int) (w:ah) (hs:qF w (dY nv) l) (hlen:l.length<=900) :
  aT Y 41 #[aV #[J K me,dY nv,av,sv,ev,ov],J K but,aV #[J K k,J K tc,J K ts,J K ic,J K is,dY pv,dY lv]] w fun e w'=>(∃ v:Sl,e=aI (dY v)/\jT w' w.heap.size (dY v) (mF l but fun n=>(n,k,tc,ts,ic,is,pv,lv)))/\Below w.heap.size w w':=by
 obtain⟨no,nn,nc⟩:=nv;obtain⟨po,pn,pc⟩:=pv;obtain⟨Ht,ln,lc⟩:=lv;obtain⟨q1,q2,hq⟩:=hs.len;obtain⟨rfl,hnn,rfl⟩:no=q1/\nn=l.length/\nc=q2:=by
  have h:D no nn nc=D q1 l.length q2:=hq;simpa using h
 clear hq;obtain⟨h0,h1,h2⟩:=gM w #[J K me,D no nn nc,av,sv,ev,ov] #[J K k,J K tc,J K ts,J K ic,J K is,D po pn pc,D Ht ln lc] 28 41;have B0:=O h0;have X5:=O h2;have HS:=O (hs.on h0);have HN:=O hnn;have c1:=h1.cell 1;simp only [aG,aD,aF] at c1;have nb:nn<=900:=by omega
 have W2:=O h2.lt;clear h0 h1 h2 hs hlen hnn;go_enter Tryz.func41,Tryz.ntmps41;go_upto_region 1 with fail;generalize (w.alloc (aH #[J K me,D no nn nc,av,sv,ev,ov] 28)).alloc (aH #[J K k,J K tc,J K ts,J K ic,J K is,D po pn pc,D Ht ln lc] 41)=W at *;go_wp2
 go_loopw [7,13] (fun v i wr=>∃ q:Nat,q<=nn/\i=J K q/\Below W.heap.size W wr/\jT wr W.heap.size v (mF (l.take q) but fun n=>(n,k,tc,ts,ic,is,(po,pn,pc),(Ht,ln,lc)))) (fun _ i _=>nn-(intOf i).toNat)
 case atStart=>exact⟨0,aN _,rfl,Below.refl _ _,jl _ _⟩
 case round =>
  obtain⟨q,hq,rfl,hbe,hown⟩:=hrel;have BE:=O hbe;have OE:=O hown;clear hbe hown;by_cases hlt:q<nn
  ·obtain⟨y,hy⟩:∃ y,l[q]?=U y:=⟨_,aA (by rw [<- HN.out]; exact hlt)⟩;obtain⟨p,ix,_,px⟩:=nV Nm.Oi HS.out rfl HN.out.symm hy;have p0:wr.cell? p=U (J K y):=by simpa [ay] using px wr BE.out 0 _ rfl
   have ix:∀ w,(Instr.indexAt 22 (D no nn nc) (J K q)).run Y w=.ok (X (U p)) w:=ix;have FS:=O (show mF (l.take (q+1)) but (fun n=>((n,k,tc,ts,ic,is,(po,pn,pc),(Ht,ln,lc)):mE))=mF (l.take q) but (fun n=>(n,k,tc,ts,ic,is,(po,pn,pc),(Ht,ln,lc)))++(if (y != but)=true then [(y,k,tc,ts,ic,is,(po,pn,pc),(Ht,ln,lc))] else []) by
    unfold mF;rw [Bn l q y _ hy,List.map_append];cases y != but <;> rfl)
   have hw3:IntKind.i64.wrap ((q:Int)+1)=(q:Int)+1:=IntWalk.i64_in _ (by omega);obtain⟨r,hr⟩:∃ r,(y != but)=r:=⟨_,rfl⟩;rw [hr] at FS;clear px hy;cases r
   ·go_wp2
    go_roundw
    case rel=>exact⟨q+1,by omega,by go_num,BE.out,by
     rw [FS.out];simpa using OE.out⟩
    case measure=>simp [intOf]; omega
   ·have x_:=X5.out.on BE.out;obtain⟨x0,x1,x2,x3,x4,x5,x6⟩:=x_.nJ;have NB:=O (fF wr (aH #[J K y,J K k,J K tc,J K ts,J K ic,J K is,D po pn pc,D Ht ln lc] 43));have hlit:=jm EK wr [(y,k,tc,ts,ic,is,(po,pn,pc),(Ht,ln,lc))] 1 rfl (by simp) #[J K y,J K k,J K tc,J K ts,J K ic,J K is,D po pn pc,D Ht ln lc] rfl;have o2:=dI OE.out NB.out;have hB:W.heap.size<=(wr.alloc (aH #[J K y,J K k,J K tc,J K ts,J K ic,J K is,D po pn pc,D Ht ln lc] 43)).heap.size:=by have h1:=BE.out.size; simp; omega
    obtain⟨v',w',r',o',gr⟩:=gY EK W.heap.size o2 (Row.dH hlit) (by
     unfold mF;rw [List.length_map];have h1:=List.length_filter_le (fun n=>n != but) (l.take q);rw [List.length_take] at h1;omega) (by simp) hB 35
    have r':(Builtin.append_ #[35,35] 35 #[u7,D (U ⟨wr.heap.size,0,aC⟩) 1 1]).run Y (wr.alloc (aH #[J K y,J K k,J K tc,J K ts,J K ic,J K is,D po pn pc,D Ht ln lc] 43))=.ok v' w':=by
     simpa [EU] using r'
    have BG:=O ((BE.out.trans (NB.out.mono BE.out.size)).grown gr hB fun j hj=>(o2.lt j hj).1);have OG:=O o';clear hlit o2 hB o' gr OE x_;go_wp2_with (first | (at_builtin; refine wpList_append_run rfl _ _ 35 rfl rfl rfl r' ?_) | fail)
    go_roundw
    case rel=>exact⟨q+1,by omega,by go_num,BG.out,by
     rw [FS.out];simpa using OG.out⟩
    case measure=>simp [intOf]; omega
  ·obtain rfl:nn=q:=by omega
   have e:l.take nn=l:=List.take_of_length_le (by have:=HN.out; omega);rw [e] at OE;obtain⟨LW,LZ,hv⟩:=(Row.dH OE.out).len;subst hv;clear e;go_wp2;go_ret;exact⟨⟨(LW,_,LZ),rfl,dM OE.out (by have:=W2.out; omega)⟩,B0.out.trans (BE.out.mono B0.out.size)⟩
end Bk
namespace Pr
open Go.RowKit Go.Sort Pu Rw Va
theorem EM (s:ByteArray) (w:ah) (hs:s.size<=maxLen) :
  aT Y 155 #[aP s] w fun e w'=>e=aI (aQ (kQ s))/\w=w':=by
 unfold maxLen at hs;go_enter Tryz.func155,Tryz.ntmps155;go_wp2
 go_loop [6] (fun i=>∃ k:Nat,k<=s.size/\i=J K k/\∀ (j:Nat) (hj:j<s.size),j<k->zZ s[j]=true) (fun i=>s.size-(intOf i).toNat)
 case atStart=>exact⟨0,aN _,rfl,fun j hj h=>by omega⟩
 case round =>
  obtain⟨k,hk,rfl,hall⟩:=hrel;have AL:=O hall;clear hall;by_cases hlt:k<s.size
  ·have hcl:(s[k].toNat:Int)<256:=by have:=s[k].toNat_lt; omega
   by_cases h1:97<=s[k].toNat
   ·by_cases h2:s[k].toNat<=122
    ·have L:=O (show zZ s[k]=true by simp [zZ,h1,h2]);have d1:decide ((s[k].toNat:Int)<97)=false:=by simp; omega
     have d2:decide ((122:Int)<(s[k].toNat:Int))=false:=by simp; omega
     clear h1 h2;go_wp2
     go_round
     case rel=>exact⟨k+1,by omega,by go_num,fun j hj h=>by
      rcases aM j k with h3|h3
      ·exact AL.out j hj h3
      ·obtain rfl:j=k:=by omega
       exact L.out⟩
     case measure=>simp [intOf]; omega
    ·have R:=O (show kQ s=false from Ed s k hlt (by simp [zZ,h2]));have d1:decide ((s[k].toNat:Int)<97)=false:=by simp; omega
     have d2:decide ((122:Int)<(s[k].toNat:Int))=true:=by simp; omega
     clear h1 h2;go_wp2;go_ret;exact⟨eu R.out.symm,rfl⟩
   ·have R:=O (show kQ s=false from Ed s k hlt (by simp [zZ,h1]));have d1:decide ((s[k].toNat:Int)<97)=true:=by simp; omega
    clear h1;go_wp2;go_ret;exact⟨eu R.out.symm,rfl⟩
  ·obtain rfl:k=s.size:=by omega
   have R:=O (QA s (fun j hj=>AL.out j hj hj));by_cases h1:1<=s.size
   ·have R2:=O (show kQ s=decide ((s.size:Int)<=12) by rw [R.out]; simp [h1]; omega);go_wp2;go_ret;exact⟨eu R2.out.symm,rfl⟩
   ·have R2:=O (show kQ s=false by rw [R.out]; simp [h1]);have d1:decide ((1:Int)<=(s.size:Int))=false:=by simp; omega
    go_wp2;go_ret;exact⟨eu R2.out.symm,rfl⟩
theorem oB (w:ah) (nm:ByteArray) (k lo hi:Int) (u:ByteArray):Below w.heap.size w (w.alloc (aH #[aP nm,J K k,J K lo,J K hi,aP u] 70)) :=
 (Below.refl w.heap.size w).alloc (Nat.le_refl _) _
theorem aay (c:Cn) (w:ah) (hs:c.1.size<=maxLen):aT Y 116 #[cv (r5 c)] w fun e w'=>e=aI (aQ (vM c))/\Below w.heap.size w w':=by
 obtain⟨nm,k⟩:=c;have NA:=O (EM nm (w.alloc (aH #[aP nm,J K (kN k),J K (jQ k),J K (jR k),aP (kT k)] 70)) hs);have B:=O (oB w nm (kN k) (jQ k) (jR k) (kT k));have R:=O (show vM (nm,k)=(kQ nm && iY k) from rfl);clear hs;generalize vM (nm,k)=r at *;obtain⟨q,hq⟩:∃ q,kQ nm=q:=⟨_,rfl⟩;rw [hq] at NA R;clear hq;cases k with
 | rg lo hi =>
  simp only [r5,kN,jQ,jR,kT] at *;cases q
  ·go_enter ak,aj;go_wp2_with fail;refine NA.out.mono ?_;rintro e w' ⟨rfl,rfl⟩;go_wp2;go_ret;exact⟨eu (by rw [R.out]; simp),B.out⟩
  ·by_cases h1:lo<=hi <;> have H1:=O h1
   all_goals
    go_enter ak,aj;go_wp2_with fail;refine NA.out.mono ?_;rintro e w' ⟨rfl,rfl⟩;go_wp2;go_ret;exact⟨eu (by rw [R.out]; have h:=H1.out; simp [iY,h] <;> omega),B.out⟩
 | tx u =>
  simp only [r5,kN,jQ,jR,kT] at *;cases q
  ·go_enter ak,aj;go_wp2_with fail;refine NA.out.mono ?_;rintro e w' ⟨rfl,rfl⟩;go_wp2;go_ret;exact⟨eu (by rw [R.out]; simp),B.out⟩
  ·go_enter ak,aj;go_wp2_with fail;refine NA.out.mono ?_;rintro e w' ⟨rfl,rfl⟩;go_wp2;go_ret;exact⟨eu (by rw [R.out]; simp [iY]; omega),B.out⟩
 | pr u =>
  simp only [r5,kN,jQ,jR,kT] at *;cases q
  ·go_enter ak,aj;go_wp2_with fail;refine NA.out.mono ?_;rintro e w' ⟨rfl,rfl⟩;go_wp2;go_ret;exact⟨eu (by rw [R.out]; simp),B.out⟩
  ·by_cases h1:u.size<12
   ·have e1:decide ((12:Int)<=(u.size:Int))=false:=by simp; omega
    have e2:decide ((u.size:Int)<=12)=true:=by simp; omega
    have H1:=O h1;clear h1;go_enter ak,aj;go_wp2_with fail;refine NA.out.mono ?_;rintro e w' ⟨rfl,rfl⟩;go_wp2;go_ret;exact⟨eu (by rw [R.out]; have h:=H1.out; simp [iY,h]),B.out⟩
   ·have e1:decide ((12:Int)<=(u.size:Int))=true:=by simp; omega
    have H1:=O h1;clear h1;go_enter ak,aj;go_wp2_with fail;refine NA.out.mono ?_;rintro e w' ⟨rfl,rfl⟩;go_wp2;go_ret;exact⟨eu (by rw [R.out]; have h:=H1.out; simp [iY]; omega),B.out⟩
end Pr
namespace Av
open Go.RowKit Rw YtmklifheakemeaaGreat.Nm Pr Bk
theorem wE (l:List fD) (x:fD) (h:∀ (j:Nat) (y:fD),l[j]?=U y->y≠x):fM l x=-1:=by
 induction l with
 | nil=>rfl
 | cons a l ih =>
  rw [fM,if_neg (h 0 a rfl),ih fun j y hj=>h (j+1) y (by simpa using hj),if_pos rfl]
theorem BP (l:List fD) (k:Nat) (x:fD) (h:l[k]?=U x) (hall:∀ (j:Nat) (z:fD),j<k->l[j]?=U z->z≠x):fM l x=k:=by
 induction l generalizing k with
 | nil=>simp at h
 | cons a l ih =>
  cases k with
  | zero =>
   obtain rfl:a=x:=by simpa using h
   rw [fM,if_pos rfl]
   rfl
  | succ k =>
   have h2:=ih k (by simpa using h) fun j z hj hz=>hall (j+1) z (by omega) (by simpa using hz);rw [fM,if_neg (hall 0 a (by omega) rfl),h2,if_neg (by omega)];omega
theorem Jv (l:List fD) (x:fD):decide ((0:Int)<=fM l x)=decide (x∈l):=by
 induction l with
 | nil=>simp [fM]
 | cons a l ih =>
  have hb:=nK l x;rw [fM];by_cases h:a=x
  ·rw [if_pos h]; simp [h]
  ·rw [if_neg h];have h':¬ x=a:=fun e=>h e.symm;simp only [aS,h',false_or];rw [<- ih];by_cases h2:fM l x=-1
   ·rw [if_pos h2,h2]
   ·rw [if_neg h2];have h3:0<=fM l x:=by omega
    have h4:0<=fM l x+1:=by omega
    simp [h3,h4]
theorem Ri (sv:Sl) (l:List fD) (x:fD) (w:ah) (hs:wB w (dY sv) l) :
  aT Y 128 #[dY sv,mW x] w fun e w'=>e=aI (J K (fM l x))/\Below w.heap.size w w':=by
 obtain⟨c,d⟩:=x;obtain⟨so,sn,sc⟩:=sv;obtain⟨ao,ac,hv⟩:=hs.len;have hv:D so sn sc=D ao l.length ac:=hv;obtain⟨rfl,rfl,rfl⟩:so=ao/\sn=l.length/\sc=ac:=by simpa using hv
 have h0:=fF w (aH #[J K c,J K d] 31);have h2:=dO w #[J K c,J K d] 31;have B:=O h0;have HS:=O (hs.on h0);have X3:=O h2;have lm:=hs.most;unfold maxLen at lm;obtain⟨n,hn⟩:∃ n,n=l.length:=⟨_,rfl⟩;rw [<- hn] at HS lm ⊢;have HN:=O hn.symm;clear h0 h2 hs hv hn;go_enter Tryz.func128,Tryz.ntmps128;go_upto_region 1 with fail;generalize w.alloc (aH #[J K c,J K d] 31)=W at *;go_wp2
 go_loopw [8] (fun i wr=>∃ k:Nat,k<=n/\i=J K k/\Below W.heap.size W wr/\∀ (j:Nat) (y:fD),j<k->l[j]?=U y->y≠(c,d)) (fun i _=>n-(intOf i).toNat)
 case atStart=>exact⟨0,aN _,rfl,Below.refl _ _,fun j y h=>by omega⟩
 case round =>
  obtain⟨k,hk,rfl,hbe,hall⟩:=hrel;have BE:=O hbe;have AL:=O hall;clear hbe hall;by_cases hlt:k<n
  ·obtain⟨y,hy⟩:∃ y,l[k]?=U y:=⟨_,aA (by rw [HN.out]; exact hlt)⟩;obtain⟨p,ix,px⟩:=elJ HS.out rfl HN.out hy;have DD:Below W.heap.size W wr.drew:=BE.out.drew;obtain⟨p0,p1⟩:=px wr BE.out;obtain⟨y1,y2⟩:=y;simp only at p0 p1;obtain⟨x0,x1⟩:=(X3.out.on BE.out).cs2;have hw3:IntKind.i64.wrap ((k:Int)+1)=(k:Int)+1:=IntWalk.i64_in _ (by omega);obtain⟨r,hr⟩:∃ r,(c == y1 && d == y2)=r:=⟨_,rfl⟩;have he:=tF c d y1 y2 r hr;have DB:=O DD;have HY:=O hy;have HR:=O hr;clear px hy hr DD;cases r
   ·go_wp2_with fail
    go_quiet (fail)
    go_wp2
    go_roundw
    case rel=>exact⟨k+1,by omega,by go_num,⟨BE.out.os,BE.out.tape,BE.out.output,BE.out.size,BE.out.block⟩,fun j y' hj h1=>by
     rcases aM j k with h3|h3
     ·exact AL.out j y' h3 h1
     ·obtain rfl:j=k:=by omega
      have e1:=HY.out;rw [h1] at e1;rw [aB e1];intro e;obtain⟨rfl,rfl⟩:y1=c/\y2=d:=by simpa using e
      have:=HR.out;simp at this⟩
    case measure=>simp [intOf]; omega
   ·go_wp2_with fail
    go_quiet (fail)
    go_wp2;go_ret;have h8:=HR.out;obtain⟨rfl,rfl⟩:c=y1/\d=y2:=by simpa using h8
    exact⟨by rw [BP l k (c,d) HY.out AL.out]; rfl,B.out.trans (Below.mono ⟨BE.out.os,BE.out.tape,BE.out.output,BE.out.size,BE.out.block⟩ B.out.size)⟩
  ·obtain rfl:k=n:=by omega
   go_wp2;go_ret;have hd:fM l (c,d)=-1:=wE l (c,d) fun j y hj=>AL.out j y (by rw [<- HN.out]; exact (Z.1 hj).1) hj;exact⟨by rw [hd]; rfl,B.out.trans (BE.out.mono B.out.size)⟩
theorem Hu (sv:Sl) (l:List fD) (x:fD) (w:ah) (hs:wB w (dY sv) l) :
  aT Y 88 #[dY sv,mW x] w fun e w'=>e=aI (aQ (decide (x∈l)))/\Below w.heap.size w w':=by
 have h0:=fF w (aH #[J K x.1,J K x.2] 31);have h2:=dO w #[J K x.1,J K x.2] 31;have C:=Ri sv l x _ (hs.on h0);have R:=O (Jv l x);obtain⟨c,d⟩:=x;obtain⟨so,sn,sc⟩:=sv;have B:=O h0;obtain⟨x0,x1⟩:=h2.cs2;generalize fM l (c,d)=r at *;generalize decide ((c,d)∈l)=s at *;clear h0 h2 hs;go_enter Tryz.func88,Tryz.ntmps88;go_wp2_with fail;refine C.mono ?_;rintro e w1 ⟨rfl,hb⟩;go_wp2;go_ret;exact⟨by have h:=R.out; subst h; rfl,B.out.trans (hb.mono B.out.size)⟩
theorem Rj (me:Int) (nv av ev ov:au) (sv:Sl) (l:List fD) (x:fD) (w:ah) (hs:wB w (dY sv) l) :
  aT Y 31 #[aV #[J K me,nv,av,dY sv,ev,ov],mW x] w fun e w'=>e=aI (aQ (decide (x∈l)))/\Below w.heap.size w w':=by
 obtain⟨h0,h1,h2⟩:=gM w #[J K me,nv,av,dY sv,ev,ov] #[J K x.1,J K x.2] 28 31;have C:=Hu sv l x _ (hs.on h0);obtain⟨c,d⟩:=x;obtain⟨so,sn,sc⟩:=sv;have B:=O h0;have b3:=h1.cell 3;obtain⟨x0,x1⟩:=h2.cs2;simp only [aG,aD,aF] at b3;generalize decide ((c,d)∈l)=s at *;clear h0 h1 h2 hs;go_enter Tryz.func31,Tryz.ntmps31;go_wp2_with fail;refine C.mono ?_;rintro e w1 ⟨rfl,hb⟩;go_wp2;go_ret;exact⟨rfl,B.out.trans (hb.mono B.out.size)⟩
end Av
namespace Bk
open Go.RowKit Rw YtmklifheakemeaaGreat.Nm Pr
def jh {κ:Type} [DecidableEq κ]:List κ->κ->Int
 | [],_=>-1
 | a::l,x=>if a=x then 0 else if jh l x=-1 then -1 else jh l x+1
theorem wF {κ:Type} [DecidableEq κ] (l:List κ) (x:κ) (h:∀ (j:Nat) (y:κ),l[j]?=U y->y≠x):jh l x=-1:=by
 induction l with
 | nil=>rfl
 | cons a l ih=>rw [jh,if_neg (h 0 a rfl),ih fun j y hj=>h (j+1) y (by simpa using hj),if_pos rfl]
theorem Jw {κ:Type} [DecidableEq κ] (l:List κ) (k:Nat) (x:κ) (h:l[k]?=U x) (hall:∀ (j:Nat) (z:κ),j<k->l[j]?=U z->z≠x):jh l x=k:=by
 induction l generalizing k with
 | nil=>simp at h
 | cons a l ih =>
  cases k with
  | zero =>
   obtain rfl:a=x:=by simpa using h
   rw [jh,if_pos rfl]
   rfl
  | succ k =>
   have h2:=ih k (by simpa using h) fun j z hj hz=>hall (j+1) z (by omega) (by simpa using hz);rw [jh,if_neg (hall 0 a (by omega) rfl),h2,if_neg (by omega)];omega
theorem nN {κ:Type} [DecidableEq κ] (l:List κ) (x:κ):jh l x=-1\/∃ k:Nat,jh l x=k/\l[k]?=U x:=by
 induction l with
 | nil=>exact aU rfl
 | cons a l ih =>
  rw [jh];by_cases h:a=x
  ·rw [if_pos h];exact aL ⟨0,rfl,by rw [h]; rfl⟩
  ·rw [if_neg h];rcases ih with h2|⟨k,h2,h3⟩
   ·rw [if_pos h2];exact aU rfl
   ·rw [if_neg (by omega),h2];exact aL ⟨k+1,by omega,by simpa using h3⟩
abbrev jf (e:iH):Id×Id:=((e.1,e.2.1),(e.2.2.1,e.2.2.2.1))
theorem Ca (me:Int) (nv av sv ov:au) (ev:Sl) (l:List iH) (x z:Id) (w:ah) (hs:lS w (dY ev) l) :
  aT Y 108 #[aV #[J K me,nv,av,sv,dY ev,ov],mW x,mW z] w fun e w'=>e=aI (J K (jh (l.map jf) (x,z)))/\Below w.heap.size w w':=by
 obtain⟨c,d⟩:=x;obtain⟨g,h⟩:=z;obtain⟨so,sn,sc⟩:=ev;obtain⟨ao,ac,hv⟩:=hs.len;have hv:D so sn sc=D ao l.length ac:=hv;obtain⟨rfl,rfl,rfl⟩:so=ao/\sn=l.length/\sc=ac:=by simpa using hv
 obtain⟨h0,h1,h2,h3⟩:=gV w #[J K me,nv,av,sv,D so l.length sc,ov] #[J K c,J K d] #[J K g,J K h] 28 31 31;have B:=O h0;have HS:=O (hs.on h0);have X2:=O h1;have X3:=O h2;have X4:=O h3;have lm:=hs.most;unfold maxLen at lm;obtain⟨n,hn⟩:∃ n,n=l.length:=⟨_,rfl⟩;have q3:=h1.cell 4;simp only [aG,aD,aF] at q3;rw [<- hn] at HS X2 lm q3 B X3 X4 ⊢;have HN:=O hn.symm;clear h0 h1 h2 h3 hs hv hn;go_enter Tryz.func108,Tryz.ntmps108;go_upto_region 1 with fail;generalize ((w.alloc (aH #[J K me,nv,av,sv,D so n sc,ov] 28)).alloc (aH #[J K c,J K d] 31)).alloc (aH #[J K g,J K h] 31)=W at *;go_wp2
 go_loopw [12] (fun i wr=>∃ k:Nat,k<=n/\i=J K k/\Below W.heap.size W wr/\∀ (j:Nat) (y:iH),j<k->l[j]?=U y->jf y≠((c,d),(g,h))) (fun i _=>n-(intOf i).toNat)
 case atStart=>exact⟨0,aN _,rfl,Below.refl _ _,fun j y h=>by omega⟩
 case round =>
  obtain⟨k,hk,rfl,hbe,hall⟩:=hrel;have BE:=O hbe;have AL:=O hall;clear hbe hall;by_cases hlt:k<n
  ·obtain⟨y,hy⟩:∃ y,l[k]?=U y:=⟨_,aA (by rw [HN.out]; exact hlt)⟩;obtain⟨p,ix,px⟩:=LK HS.out rfl HN.out hy;obtain⟨p0,p1,p2,p3,p4,p5,p6⟩:=px wr BE.out;obtain⟨y1,y2,y3,y4,⟨yo,yn,yc⟩,y6,y7⟩:=y;simp only at p0 p1 p2 p3 p4 p5 p6;have NB:=O (fF wr (aH #[J K y1,J K y2,J K y3,J K y4,D yo yn yc,J K y6,aQ y7] 66));obtain⟨x0,x1⟩:=((X3.out.on BE.out).on NB.out).cs2;obtain⟨z0,z1⟩:=((X4.out.on BE.out).on NB.out).cs2;have hw3:IntKind.i64.wrap ((k:Int)+1)=(k:Int)+1:=IntWalk.i64_in _ (by omega);obtain⟨r,hr⟩:∃ r,(y1 == c && y2 == d)=r:=⟨_,rfl⟩;obtain⟨t,ht⟩:∃ r,(y3 == g && y4 == h)=r:=⟨_,rfl⟩;have he:=tF y1 y2 c d r hr;have hf:=tF y3 y4 g h t ht;have HY:=O hy;have HR:=O hr;have HT:=O ht;clear px hy hr ht;cases r
   ·go_wp2
    go_roundw
    case rel=>exact⟨k+1,by omega,by go_num,BE.out.trans (NB.out.mono BE.out.size),fun j y' hj h1=>by
     rcases aM j k with h3|h3
     ·exact AL.out j y' h3 h1
     ·obtain rfl:j=k:=by omega
      have e1:=HY.out;rw [h1] at e1;rw [aB e1];intro e;obtain⟨⟨rfl,rfl⟩,_⟩:(y1=c/\y2=d)/\(y3=g/\y4=h):=by simpa [jf] using e
      have:=HR.out;simp at this⟩
    case measure=>simp [intOf]; omega
   ·cases t
    ·go_wp2
     go_roundw
     case rel=>exact⟨k+1,by omega,by go_num,BE.out.trans (NB.out.mono BE.out.size),fun j y' hj h1=>by
      rcases aM j k with h3|h3
      ·exact AL.out j y' h3 h1
      ·obtain rfl:j=k:=by omega
       have e1:=HY.out;rw [h1] at e1;rw [aB e1];intro e;obtain⟨_,rfl,rfl⟩:(y1=c/\y2=d)/\(y3=g/\y4=h):=by simpa [jf] using e
       have:=HT.out;simp at this⟩
     case measure=>simp [intOf]; omega
    ·go_wp2;go_ret;have h8:=HR.out;have h9:=HT.out;obtain⟨rfl,rfl⟩:y1=c/\y2=d:=by simpa using h8
     obtain⟨rfl,rfl⟩:y3=g/\y4=h:=by simpa using h9
     exact⟨by rw [Jw (l.map jf) k ((y1,y2),(y3,y4)) (by rw [aJ,HY.out]; rfl) (fun j z hj hz=>by
      rw [aJ] at hz;cases hl:l[j]? with
      | none=>rw [hl] at hz; cases hz
      | some q =>
       rw [hl] at hz;have hz:jf q=z:=aB hz;rw [<- hz];exact AL.out j q hj hl)]; rfl,B.out.trans ((BE.out.trans (NB.out.mono BE.out.size)).mono B.out.size)⟩
  ·obtain rfl:k=n:=by omega
   go_wp2;go_ret;have hd:jh (l.map jf) ((c,d),(g,h))=-1:=wF _ _ fun j z hz=>by
    rw [aJ] at hz;cases hl:l[j]? with
    | none=>rw [hl] at hz; cases hz
    | some q =>
     rw [hl] at hz;have hz:jf q=z:=aB hz;rw [<- hz];exact AL.out j q (by rw [<- HN.out]; exact (Z.1 hl).1) hl
   exact⟨by rw [hd]; rfl,B.out.trans (BE.out.mono B.out.size)⟩
noncomputable def abD:Code:=((Tryz.f47.body.bind (eO 9)).getD .skip)
structure P9 (base:Act) (v0 v2:au) (p:au) (W W':ah) (L:Array Bool) (a:Act) (x:ah):Prop where
 df:a.defers=base.defers
 sz:a.tmps.size=base.tmps.size
 kp:∀ j,j≠112->j≠113->j≠114->j≠5->a.tmps[j]?=base.tmps[j]?
 t0:aK L 0->a.tmps[112]?=U v0
 t1:aK L 1->a.tmps[113]?=U p
 t2:aK L 2->a.tmps[114]?=U v2
 t4:aK L 4->a.tmps[5]?=U v2
 w0:¬ aK L 3->x=W.drew
 w1:aK L 3->x=W'
 c3:aK L 3->aK L 0
theorem yR (Q:Exit->Act->ah->Prop) (W:ah) (b2 b3 b4:Nat) (me:Int) (o1 o2 o3 o4 o5:Option aR) (n1 c1 n2 c2 n3 c3 n4 c4 n5 c5:Nat) (e0 e1 e2 e3 e4 e5 z0 z1 z2 z3 z4 z5:au) (up:Bool) (u0 u1 u5 u6 u7 u8 u9 u10 u11 u12 u13 u14 u15 u16 u17 u18 u19 u20 u21 u22 u23 u24 u25 u26 u27 u28 u29 u30 u31 u32 u33 u34 u35 u36 u37 u38 u39 u40 u41 u42 u43 u44 u45 u46 u47 u48 u49 u50 u51 u52 u53 u54 u55 u56 u57 u58 u59 u60 u61 u62 u63 u64 u65 u66 u67 u68 u69 u70 u71 u72 u73 u74 u75 u76 u77 u78 u79 u80 u81 u82 u83 u84 u85 u86 u87 u88 u89 u90 u91 u92 u93 u94 u95 u96 u97 u98 u99 u100 u101 u102 u103 u104 u105 u106 u107 u108 u109 u110 u111 u112 u113 u114:au)
  (h2:dJ W b2 #[J K me,D o1 n1 c1,D o2 n2 c2,D o3 n3 c3,D o4 n4 c4,D o5 n5 c5] 28) (h3:dJ W b3 #[e0,e1,e2,e3,e4,e5,aQ up] 66) (h4:dJ W b4 #[z0,z1,z2,z3,z4,z5] 28) (hne:b3≠b4)
  (hQ:∀ (a:Act) (x:ah),a.defers=[]->a.tmps[4]?=U (X (U ⟨b4,0,aC⟩))->a.tmps[5]?=U (aQ up)->x=gN W.drew b4 (J K me) (D o1 n1 c1) (D o2 n2 c2) (D o3 n3 c3) (D o4 n4 c4) (D o5 n5 c5)->Q .normal a x) :
  Code.wp Y abD Q ⟨(u0::u1::X (U ⟨b2,0,aC⟩)::X (U ⟨b3,0,aC⟩)::X (U ⟨b4,0,aC⟩)::u5::u6::u7::u8::u9::u10::u11::u12::u13::u14::u15::u16::u17::u18::u19::u20::u21::u22::u23::u24::u25::u26::u27::u28::u29::u30::u31::u32::u33::u34::u35::u36::u37::u38::u39::u40::u41::u42::u43::u44::u45::u46::u47::u48::u49::u50::u51::u52::u53::u54::u55::u56::u57::u58::u59::u60::u61::u62::u63::u64::u65::u66::u67::u68::u69::u70::u71::u72::u73::u74::u75::u76::u77::u78::u79::u80::u81::u82::u83::u84::u85::u86::u87::u88::u89::u90::u91::u92::u93::u94::u95::u96::u97::u98::u99::u100::u101::u102::u103::u104::u105::u106::u107::u108::u109::u110::u111::u112::u113::u114::[]).toArray,[]⟩ W:=by
 have HQ:=O hQ;have H2:=O h2.drew;have H3:=O h3.drew;have H4:=O h4.drew;have X3:=O (show dJ (gN W.drew b4 (J K me) (D o1 n1 c1) (D o2 n2 c2) (D o3 n3 c3) (D o4 n4 c4) (D o5 n5 c5)) b3 #[e0,e1,e2,e3,e4,e5,aQ up] 66 from (dN W.drew b4 (J K me) (D o1 n1 c1) (D o2 n2 c2) (D o3 n3 c3) (D o4 n4 c4) (D o5 n5 c5) b3 hne).trans h3.drew);clear hQ h2 h3 h4 hne;unfold abD
 conv=>arg 2; whnf
 obtain⟨base,hbase⟩:∃ b:Act,b=⟨(u0::u1::X (U ⟨b2,0,aC⟩)::X (U ⟨b3,0,aC⟩)::X (U ⟨b4,0,aC⟩)::u5::u6::u7::u8::u9::u10::u11::u12::u13::u14::u15::u16::u17::u18::u19::u20::u21::u22::u23::u24::u25::u26::u27::u28::u29::u30::u31::u32::u33::u34::u35::u36::u37::u38::u39::u40::u41::u42::u43::u44::u45::u46::u47::u48::u49::u50::u51::u52::u53::u54::u55::u56::u57::u58::u59::u60::u61::u62::u63::u64::u65::u66::u67::u68::u69::u70::u71::u72::u73::u74::u75::u76::u77::u78::u79::u80::u81::u82::u83::u84::u85::u86::u87::u88::u89::u90::u91::u92::u93::u94::u95::u96::u97::u98::u99::u100::u101::u102::u103::u104::u105::u106::u107::u108::u109::u110::u111::u112::u113::u114::[]).toArray,[]⟩:=⟨_,rfl⟩;have b2t:base.tmps[2]?=U (X (U ⟨b2,0,aC⟩)):=by rw [hbase]; rfl
 have b3t:base.tmps[3]?=U (X (U ⟨b3,0,aC⟩)):=by rw [hbase]; rfl
 have b4t:base.tmps[4]?=U (X (U ⟨b4,0,aC⟩)):=by rw [hbase]; rfl
 have bsz:base.tmps.size=115:=by rw [hbase]; rfl
 have bdf:base.defers=[]:=by rw [hbase]
 rw [<- hbase];clear hbase;generalize hW':gN W.drew b4 (J K me) (D o1 n1 c1) (D o2 n2 c2) (D o3 n3 c3) (D o4 n4 c4) (D o5 n5 c5)=W' at *;refine Rg.o9 (fun L a x=>P9 base (aV #[J K me,D o1 n1 c1,D o2 n2 c2,D o3 n3 c3,D o4 n4 c4,D o5 n5 c5]) (aQ up) (X (U ⟨b3,6,aC⟩)) W W' L a x) (by kernel_rfl) (by kernel_rfl) ?_ ?_ ?_
 ·exact⟨rfl,rfl,fun _ _ _ _ _=>rfl,fun h=>absurd h (aW _ _),fun h=>absurd h (aW _ _),fun h=>absurd h (aW _ _),fun h=>absurd h (aW _ _),fun _=>rfl,fun h=>absurd h (aW _ _),fun h=>absurd h (aW _ _)⟩
 ·intro L a x i o hsz I ho hnd mO;have hi:i<5:=(Z.1 ho).1;have hL:L.size=5:=hsz;have Aa:i<L.size:=by omega
  have k2:a.eval (.tmp 2)=X (U ⟨b2,0,aC⟩):=aX ((I.kp 2 (by decide) (by decide) (by decide) (by decide)).trans b2t);have k3:a.eval (.tmp 3)=X (U ⟨b3,0,aC⟩):=aX ((I.kp 3 (by decide) (by decide) (by decide) (by decide)).trans b3t);have k4:a.eval (.tmp 4)=X (U ⟨b4,0,aC⟩):=aX ((I.kp 4 (by decide) (by decide) (by decide) (by decide)).trans b4t);have asz:a.tmps.size=115:=I.sz.trans bsz;have self:∀ (d:Nat) (v:au),d<115->(a.put (U d) v).tmps[d]?=U v:=fun d v hd=>by
   have:d<a.tmps.size:=by omega
   simp [Act.put,this]
  have ds:=fun j=>Rg.ig Aa j;rcases (by omega:i=0\/i=1\/i=2\/i=3\/i=4) with rfl|rfl|rfl|rfl|rfl
  ·cases ho;have hx:x=W.drew:=I.w0 fun h=>hnd (I.c3 h);exact bf rfl rfl (Rg.dR a.eval _ 28 (.tmp 2) rfl (by rw [k2,hx]; exact tY H2.out)) ⟨I.df,(aO a _ _).trans I.sz,fun j j1 j2 j3 j4=>(V _ _ _ j (by omega)).trans (I.kp j j1 j2 j3 j4),fun _=>self 112 _ (by decide),fun h=>(V _ _ _ 113 (by decide)).trans (I.t1 (((ds 1).1 h).resolve_left (by decide))),fun h=>(V _ _ _ 114 (by decide)).trans (I.t2 (((ds 2).1 h).resolve_left (by decide))),fun h=>(V _ _ _ 5 (by decide)).trans (I.t4 (((ds 4).1 h).resolve_left (by decide))),fun h=>I.w0 fun h3=>h ((ds 3).2 (aL h3)),fun h=>I.w1 (((ds 3).1 h).resolve_left (by decide)),fun h=>(ds 0).2 (aU rfl)⟩
  ·cases ho;exact bf rfl rfl (Rg.dW a.eval _ 66 (.tmp 3) 4 rfl (by rw [k3]; simp [go_sem])) ⟨I.df,(aO a _ _).trans I.sz,fun j j1 j2 j3 j4=>(V _ _ _ j (by omega)).trans (I.kp j j1 j2 j3 j4),fun h=>(V _ _ _ 112 (by decide)).trans (I.t0 (((ds 0).1 h).resolve_left (by decide))),fun _=>self 113 _ (by decide),fun h=>(V _ _ _ 114 (by decide)).trans (I.t2 (((ds 2).1 h).resolve_left (by decide))),fun h=>(V _ _ _ 5 (by decide)).trans (I.t4 (((ds 4).1 h).resolve_left (by decide))),fun h=>I.w0 fun h3=>h ((ds 3).2 (aL h3)),fun h=>I.w1 (((ds 3).1 h).resolve_left (by decide)),fun h=>(ds 0).2 (aL (I.c3 (((ds 3).1 h).resolve_left (by decide))))⟩
  ·cases ho;have k113:a.eval (.tmp 113)=X (U ⟨b3,6,aC⟩):=aX (I.t1 (mO ⟨1,.data⟩ (by simp) rfl));have hc:x.cell? ⟨b3,6,aC⟩=U (aQ up):=by
    by_cases h3:aK L 3
    ·rw [I.w1 h3]; exact X3.out.cell 6
    ·rw [I.w0 h3]; exact H3.out.cell 6
   exact bf rfl rfl (Rg.dR a.eval _ 4 (.tmp 113) rfl (by rw [k113]; simp [go_sem,hc])) ⟨I.df,(aO a _ _).trans I.sz,fun j j1 j2 j3 j4=>(V _ _ _ j (by omega)).trans (I.kp j j1 j2 j3 j4),fun h=>(V _ _ _ 112 (by decide)).trans (I.t0 (((ds 0).1 h).resolve_left (by decide))),fun h=>(V _ _ _ 113 (by decide)).trans (I.t1 (((ds 1).1 h).resolve_left (by decide))),fun _=>self 114 _ (by decide),fun h=>(V _ _ _ 5 (by decide)).trans (I.t4 (((ds 4).1 h).resolve_left (by decide))),fun h=>I.w0 fun h3=>h ((ds 3).2 (aL h3)),fun h=>I.w1 (((ds 3).1 h).resolve_left (by decide)),fun h=>(ds 0).2 (aL (I.c3 (((ds 3).1 h).resolve_left (by decide))))⟩
  ·cases ho;have hx:x=W.drew:=I.w0 hnd;refine Rg.fT 28 (.tmp 4) (.tmp 112) rfl rfl rfl rfl k4 (aX (I.t0 (mO ⟨0,.data⟩ (by simp) rfl))) (w':=W') (by rw [hx,<- hW']; exact oC H4.out me _ _ _ _ _ _ _ _ _ _ _ _ _ _ _) ?_;exact⟨I.df,I.sz,I.kp,fun h=>I.t0 (((ds 0).1 h).resolve_left (by decide)),fun h=>I.t1 (((ds 1).1 h).resolve_left (by decide)),fun h=>I.t2 (((ds 2).1 h).resolve_left (by decide)),fun h=>I.t4 (((ds 4).1 h).resolve_left (by decide)),fun h=>absurd ((ds 3).2 (aU rfl)) h,fun _=>rfl,fun _=>(ds 0).2 (aL (mO ⟨0,.data⟩ (by simp) rfl))⟩
  ·cases ho;have k114:a.eval (.tmp 114)=aQ up:=aX (I.t2 (mO ⟨2,.data⟩ (by simp) rfl));exact bf rfl rfl (Rg.jJ a.eval _ (.tmp 114) rfl x) (by rw [k114]; exact⟨I.df,(aO a _ _).trans I.sz,fun j j1 j2 j3 j4=>(V _ _ _ j (by omega)).trans (I.kp j j1 j2 j3 j4),fun h=>(V _ _ _ 112 (by decide)).trans (I.t0 (((ds 0).1 h).resolve_left (by decide))),fun h=>(V _ _ _ 113 (by decide)).trans (I.t1 (((ds 1).1 h).resolve_left (by decide))),fun h=>(V _ _ _ 114 (by decide)).trans (I.t2 (((ds 2).1 h).resolve_left (by decide))),fun _=>self 5 _ (by decide),fun h=>I.w0 fun h3=>h ((ds 3).2 (aL h3)),fun h=>I.w1 (((ds 3).1 h).resolve_left (by decide)),fun h=>(ds 0).2 (aL (I.c3 (((ds 3).1 h).resolve_left (by decide))))⟩)
 ·intro L a x I hd;exact HQ.out a x (I.df.trans bdf) ((I.kp 4 (by decide) (by decide) (by decide) (by decide)).trans b4t) (I.t4 (hd 4 (by decide))) ((I.w1 (hd 3 (by decide))))
end Bk
end Go.Proofs.YtmklifheakemeaaGreat
