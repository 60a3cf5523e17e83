/-
  Rows of IDs, of adve. Conditions as told.
-/
import Derived.Test.YtmklifheakemeaaOQ002
import Derived.Lib.Hide
set_option maxRecDepth 100000
set_option maxHeartbeats 64000000
open _root_.Go renaming World->O,Value->Q,Addr->aD
open Go.Addr renaming add->K
open Go.Instr renaming loadAt->au,indexAt->ay
open Go.IntKind renaming i64->J
open Go.Proofs.Try renaming prog->Z
open Go.Value renaming int->D,slice->X,pointer->ak,agg->aA,bool->aF
open _root_.List renaming not_mem_nil->V,mem_cons->aj,length_cons->aC
open _root_.Option renaming some->L,map_some->Y,none->aB
open Option.some renaming injEq->U
open Prod.mk renaming injEq->ah
namespace Go.Proofs.Ytmklifheakemeaa.Bk
open Go.RowKit Rw Ytmklifheakemeaa.Nm Pr
abbrev Sl:=Option aD×Nat×Nat
abbrev dO (s:Sl):Q:=X s.1 s.2.1 s.2.2
abbrev Id:=Int×Int
abbrev dW:=Id
abbrev iX (x:dW):List Q:=[D J x.1,D J x.2]
abbrev Kq (x:dW):Q:=aA #[D J x.1,D J x.2]
def EJ:Ek dW:=⟨25,27,2,16,aA #[D J 0,D J 0],Kq,iX⟩
theorem Kr:(Try.prog.info? 25).map (fun i=>(i.zero,i.size,i.bytes))=L (L (aA #[D J 0,D J 0]),2,16):=by kernel_rfl
theorem Kt (w:O) (p:aD) (x:dW) (h:∀ j u,(iX x)[j]?=L u->w.cell? (p.add j)=L u):(au 25 (ak (L p))).run Z w=.ok (Kq x) w:=by
 have h0:=h 0 _ rfl;have h1:=h 1 _ rfl;simp [K] at h0 h1;simp [go_sem,h0,h1]
theorem vM:EJ.Ok where
 hu:=Try.underlying27
 info:=by
  have h:=Kr;cases hi:Try.prog.info? 25 with
  | none=>rw [hi] at h; cases h
  | some i =>
   rw [hi] at h;simp only [Y,U,ah] at h;exact⟨i,hi,h.1,h.2.1,h.2.2⟩
 zs:=rfl
 len:=fun _=>rfl
 one:=fun x u hu=>by
  simp only [EJ,iX,aj,V,or_false] at hu;rcases hu with rfl|rfl <;> rfl
 pos:=by decide
 few:=by decide
 load:=fun w p x h=>Kt w p x h
abbrev sM (W:O) (v:Q) (l:List dW):Prop:=Row EJ W v l
abbrev uf (W:O) (B:Nat) (v:Q) (l:List dW):Prop:=Own EJ W B v l
theorem Pv {W:O} {v:Q} {l:List dW} {ao:Option aD} {n c k:Nat} {x:dW} (h:sM W v l) (hv:v=X ao n c) (hn:l.length=n) (hk:l[k]?=L x) :
  ∃ p:aD,(∀ w,(ay 27 (X ao n c) (D J k)).run Z w=.ok (ak (L p)) w)/\∀ w,Below W.heap.size W w->w.cell? p=L (D J x.1)/\w.cell? ⟨p.block,p.off+1,aB⟩=L (D J x.2):=by
 obtain⟨p,h1,_,h2⟩:=kD vM h hv hn hk;exact⟨p,h1,fun w hw=>⟨by simpa [K] using h2 w hw 0 _ rfl,by simpa [K] using h2 w hw 1 _ rfl⟩⟩
abbrev iN:=Int×Int×Sl×Int
abbrev cellsD (x:iN):List Q:=[D J x.1,D J x.2.1,dO x.2.2.1,D J x.2.2.2]
abbrev jv (x:iN):Q:=aA #[D J x.1,D J x.2.1,dO x.2.2.1,D J x.2.2.2]
def ED:Ek iN:=⟨37,26,4,48,aA #[D J 0,D J 0,X aB 0 0,D J 0],jv,cellsD⟩
theorem Ku:(Try.prog.info? 37).map (fun i=>(i.zero,i.size,i.bytes))=L (L (aA #[D J 0,D J 0,X aB 0 0,D J 0]),4,48):=by kernel_rfl
theorem Gt (w:O) (p:aD) (x:iN) (h:∀ j u,(cellsD x)[j]?=L u->w.cell? (p.add j)=L u):(au 37 (ak (L p))).run Z w=.ok (jv x) w:=by
 have h0:=h 0 _ rfl;have h1:=h 1 _ rfl;have h2:=h 2 _ rfl;have h3:=h 3 _ rfl;simp [K] at h0 h1 h2 h3;simp [go_sem,h0,h1,h2,h3]
theorem okD:ED.Ok where
 hu:=Try.underlying26
 info:=by
  have h:=Ku;cases hi:Try.prog.info? 37 with
  | none=>rw [hi] at h; cases h
  | some i =>
   rw [hi] at h;simp only [Y,U,ah] at h;exact⟨i,hi,h.1,h.2.1,h.2.2⟩
 zs:=rfl
 len:=fun _=>rfl
 one:=fun x u hu=>by
  simp only [ED,cellsD,aj,V,or_false] at hu;rcases hu with rfl|rfl|rfl|rfl <;> rfl
 pos:=by decide
 few:=by decide
 load:=fun w p x h=>Gt w p x h
abbrev vR (W:O) (v:Q) (l:List iN):Prop:=Row ED W v l
abbrev mo (W:O) (B:Nat) (v:Q) (l:List iN):Prop:=Own ED W B v l
theorem NA {W:O} {v:Q} {l:List iN} {ao:Option aD} {n c k:Nat} {x:iN} (h:vR W v l) (hv:v=X ao n c) (hn:l.length=n) (hk:l[k]?=L x) :
  ∃ p:aD,(∀ w,(ay 26 (X ao n c) (D J k)).run Z w=.ok (ak (L p)) w)/\∀ w,Below W.heap.size W w->w.cell? p=L (D J x.1)/\w.cell? ⟨p.block,p.off+1,aB⟩=L (D J x.2.1)/\w.cell? ⟨p.block,p.off+2,aB⟩=L (dO x.2.2.1)/\w.cell? ⟨p.block,p.off+3,aB⟩=L (D J x.2.2.2):=by
 obtain⟨p,h1,_,h2⟩:=kD okD h hv hn hk;exact⟨p,h1,fun w hw=>⟨by simpa [K] using h2 w hw 0 _ rfl,by simpa [K] using h2 w hw 1 _ rfl,by simpa [K] using h2 w hw 2 _ rfl,by simpa [K] using h2 w hw 3 _ rfl⟩⟩
abbrev fE:=Int×Int×Int×Int×Sl×Int×Bool
abbrev eY (x:fE):List Q:=[D J x.1,D J x.2.1,D J x.2.2.1,D J x.2.2.2.1,dO x.2.2.2.2.1,D J x.2.2.2.2.2.1,aF x.2.2.2.2.2.2]
abbrev iY (x:fE):Q:=aA #[D J x.1,D J x.2.1,D J x.2.2.1,D J x.2.2.2.1,dO x.2.2.2.2.1,D J x.2.2.2.2.2.1,aF x.2.2.2.2.2.2]
def EN:Ek fE:=⟨43,28,7,72,aA #[D J 0,D J 0,D J 0,D J 0,X aB 0 0,D J 0,aF false],iY,eY⟩
theorem Kv:(Try.prog.info? 43).map (fun i=>(i.zero,i.size,i.bytes))=L (L (aA #[D J 0,D J 0,D J 0,D J 0,X aB 0 0,D J 0,aF false]),7,72):=by kernel_rfl
theorem xA (w:O) (p:aD) (x:fE) (h:∀ j u,(eY x)[j]?=L u->w.cell? (p.add j)=L u):(au 43 (ak (L p))).run Z w=.ok (iY x) w:=by
 have h0:=h 0 _ rfl;have h1:=h 1 _ rfl;have h2:=h 2 _ rfl;have h3:=h 3 _ rfl;have h4:=h 4 _ rfl;have h5:=h 5 _ rfl;have h6:=h 6 _ rfl;simp [K] at h0 h1 h2 h3 h4 h5 h6;simp [go_sem,h0,h1,h2,h3,h4,h5,h6]
theorem iO:EN.Ok where
 hu:=Try.underlying28
 info:=by
  have h:=Kv;cases hi:Try.prog.info? 43 with
  | none=>rw [hi] at h; cases h
  | some i =>
   rw [hi] at h;simp only [Y,U,ah] at h;exact⟨i,hi,h.1,h.2.1,h.2.2⟩
 zs:=rfl
 len:=fun _=>rfl
 one:=fun x u hu=>by
  simp only [EN,eY,aj,V,or_false] at hu;rcases hu with rfl|rfl|rfl|rfl|rfl|rfl|rfl <;> rfl
 pos:=by decide
 few:=by decide
 load:=fun w p x h=>xA w p x h
abbrev iZ (W:O) (v:Q) (l:List fE):Prop:=Row EN W v l
abbrev gF (W:O) (B:Nat) (v:Q) (l:List fE):Prop:=Own EN W B v l
theorem EM {W:O} {v:Q} {l:List fE} {ao:Option aD} {n c k:Nat} {x:fE} (h:iZ W v l) (hv:v=X ao n c) (hn:l.length=n) (hk:l[k]?=L x) :
  ∃ p:aD,(∀ w,(ay 28 (X ao n c) (D J k)).run Z w=.ok (ak (L p)) w)/\∀ w,Below W.heap.size W w->w.cell? p=L (D J x.1)/\w.cell? ⟨p.block,p.off+1,aB⟩=L (D J x.2.1)/\w.cell? ⟨p.block,p.off+2,aB⟩=L (D J x.2.2.1)/\w.cell? ⟨p.block,p.off+3,aB⟩=L (D J x.2.2.2.1)/\w.cell? ⟨p.block,p.off+4,aB⟩=L (dO x.2.2.2.2.1)/\w.cell? ⟨p.block,p.off+5,aB⟩=L (D J x.2.2.2.2.2.1)/\w.cell? ⟨p.block,p.off+6,aB⟩=L (aF x.2.2.2.2.2.2):=by
 obtain⟨p,h1,_,h2⟩:=kD iO h hv hn hk;exact⟨p,h1,fun w hw=>⟨by simpa [K] using h2 w hw 0 _ rfl,by simpa [K] using h2 w hw 1 _ rfl,by simpa [K] using h2 w hw 2 _ rfl,by simpa [K] using h2 w hw 3 _ rfl,by simpa [K] using h2 w hw 4 _ rfl,by simpa [K] using h2 w hw 5 _ rfl,by simpa [K] using h2 w hw 6 _ rfl⟩⟩
abbrev qp:=Int×Int×Sl
abbrev sN (x:qp):List Q:=[D J x.1,D J x.2.1,dO x.2.2]
abbrev Kw (x:qp):Q:=aA #[D J x.1,D J x.2.1,dO x.2.2]
def EW:Ek qp:=⟨90,29,3,40,aA #[D J 0,D J 0,X aB 0 0],Kw,sN⟩
theorem Ky:(Try.prog.info? 90).map (fun i=>(i.zero,i.size,i.bytes))=L (L (aA #[D J 0,D J 0,X aB 0 0]),3,40):=by kernel_rfl
theorem Kz (w:O) (p:aD) (x:qp) (h:∀ j u,(sN x)[j]?=L u->w.cell? (p.add j)=L u):(au 90 (ak (L p))).run Z w=.ok (Kw x) w:=by
 have h0:=h 0 _ rfl;have h1:=h 1 _ rfl;have h2:=h 2 _ rfl;simp [K] at h0 h1 h2;simp [go_sem,h0,h1,h2]
theorem okW:EW.Ok where
 hu:=Try.underlying29
 info:=by
  have h:=Ky;cases hi:Try.prog.info? 90 with
  | none=>rw [hi] at h; cases h
  | some i =>
   rw [hi] at h;simp only [Y,U,ah] at h;exact⟨i,hi,h.1,h.2.1,h.2.2⟩
 zs:=rfl
 len:=fun _=>rfl
 one:=fun x u hu=>by
  simp only [EW,sN,aj,V,or_false] at hu;rcases hu with rfl|rfl|rfl <;> rfl
 pos:=by decide
 few:=by decide
 load:=fun w p x h=>Kz w p x h
abbrev KA (W:O) (v:Q) (l:List qp):Prop:=Row EW W v l
abbrev sO (W:O) (B:Nat) (v:Q) (l:List qp):Prop:=Own EW W B v l
structure Ad where
 id:Id
 p:List C5
 par:Int
structure En where
 tree:Id
 sub:Id
 p:List C5
 from_:Int
 up:Bool
structure Ow where
 id:Id
 p:List C5
structure Br where
 me:Int
 near:List Int
 fB:List Ad
 seen:List Id
 ent:List En
 own:List Ow
def oQ (W:O) (x:iN) (a:Ad):Prop:=(x.1,x.2.1)=a.id/\x.2.2.2=a.par/\ig W (dO x.2.2.1) a.p
def iE (W:O) (x:fE) (a:En):Prop:=(x.1,x.2.1)=a.tree/\(x.2.2.1,x.2.2.2.1)=a.sub/\x.2.2.2.2.2.1=a.from_/\x.2.2.2.2.2.2=a.up/\ig W (dO x.2.2.2.2.1) a.p
def EP (W:O) (x:qp) (a:Ow):Prop:=(x.1,x.2.1)=a.id/\ig W (dO x.2.2) a.p
theorem oQ.on {W W':O} {x:iN} {a:Ad} (h:oQ W x a) (hb:Below W.heap.size W W'):oQ W' x a:=⟨h.1,h.2.1,h.2.2.on hb⟩
theorem iE.on {W W':O} {x:fE} {a:En} (h:iE W x a) (hb:Below W.heap.size W W'):iE W' x a:=⟨h.1,h.2.1,h.2.2.1,h.2.2.2.1,h.2.2.2.2.on hb⟩
theorem EP.on {W W':O} {x:qp} {a:Ow} (h:EP W x a) (hb:Below W.heap.size W W'):EP W' x a:=⟨h.1,h.2.on hb⟩
inductive dV {α β:Type} (R:α->β->Prop):List α->List β->Prop
 | nil:dV R [] []
 | cons {a b l m} (h:R a b) (t:dV R l m):dV R (a::l) (b::m)
theorem dV.mono {α β:Type} {R S:α->β->Prop} (h:∀ a b,R a b->S a b):∀ {l m},dV R l m->dV S l m
 | _,_,.nil=>.nil
 | _,_,.cons x t=>.cons (h _ _ x) (t.mono h)
theorem dV.len {α β:Type} {R:α->β->Prop}:∀ {l m},dV R l m->l.length=m.length
 | _,_,.nil=>rfl
 | _,_,.cons _ t=>by rw [aC,aC,t.len]
theorem dV.at {α β:Type} {R:α->β->Prop}:∀ {l m} (_:dV R l m) (k:Nat) (b:β),m[k]?=L b->∃ a,l[k]?=L a/\R a b
 | _,_,.nil,k,b,h=>by simp at h
 | _,_,.cons x t,0,b,h=>by
  simp at h;subst h;exact⟨_,rfl,x⟩
 | _,_,.cons x t,k+1,b,h=>by
  obtain⟨a,h1,h2⟩:=t.at k b (by simpa using h);exact⟨a,by simpa using h1,h2⟩
theorem dV.append {α β:Type} {R:α->β->Prop}:∀ {l m l' m'},dV R l m->dV R l' m'->dV R (l++l') (m++m')
 | _,_,_,_,.nil,h=>h
 | _,_,_,_,.cons x t,h=>.cons x (t.append h)
theorem dV.take {α β:Type} {R:α->β->Prop}:∀ {l m} (k:Nat),dV R l m->dV R (l.take k) (m.take k)
 | _,_,0,_=>by simp only [List.take_zero]; exact .nil
 | _,_,k+1,.nil=>by simp only [List.take_nil]; exact .nil
 | _,_,k+1,.cons x t=>.cons x (t.take k)
theorem dV.drop {α β:Type} {R:α->β->Prop}:∀ {l m} (k:Nat),dV R l m->dV R (l.drop k) (m.drop k)
 | _,_,0,h=>h
 | _,_,_k+1,.nil=>.nil
 | _,_,k+1,.cons _ t=>t.drop k
structure jK (W:O) (b:Br) (nv av sv ev ov:Sl):Prop where
 near:qz W (dO nv) b.near
 fB:∃ l,vR W (dO av) l/\dV (oQ W) l b.fB
 seen:sM W (dO sv) b.seen
 ent:∃ l,iZ W (dO ev) l/\dV (iE W) l b.ent
 own:∃ l,KA W (dO ov) l/\dV (EP W) l b.own
theorem jK.on {W W':O} {b:Br} {nv av sv ev ov:Sl} (h:jK W b nv av sv ev ov) (hb:Below W.heap.size W W'):jK W' b nv av sv ev ov where
 near:=h.near.on hb
 fB:=by obtain⟨l,h1,h2⟩:=h.fB; exact⟨l,h1.on hb,h2.mono fun _ _ h=>h.on hb⟩
 seen:=h.seen.on hb
 ent:=by obtain⟨l,h1,h2⟩:=h.ent; exact⟨l,h1.on hb,h2.mono fun _ _ h=>h.on hb⟩
 own:=by obtain⟨l,h1,h2⟩:=h.own; exact⟨l,h1.on hb,h2.mono fun _ _ h=>h.on hb⟩
abbrev iJ (me:Int) (nv av sv ev ov:Sl):Q:=aA #[D J me,dO nv,dO av,dO sv,dO ev,dO ov]
abbrev mM (me:Int) (nv av sv ev ov:Sl):Array Q:=#[D J me,dO nv,dO av,dO sv,dO ev,dO ov]
def dP (a b:Id):Bool:=decide (a.1<b.1) || (a.1 == b.1 && decide (a.2<b.2))
def fC:List Id->Id->Int
 | [],_=>-1
 | a::l,x=>if a=x then 0 else if fC l x=-1 then -1 else fC l x+1
def iL (l:List Id) (x:Id):Nat:=(l.takeWhile fun a=>dP a x).length
abbrev mO (x:Id):Q:=aA #[D J x.1,D J x.2]
theorem xB:Try.prog.stoodInHeld 25=false:=by kernel_rfl
theorem vS (a b c d:Int) (r:Bool) (h:(a == c && b == d)=r) (w:O):(binOp .eql 25 (aA #[D J a,D J b]) (aA #[D J c,D J d])).run Z w=.ok (aF r) w:=by
 have st:=xB;subst h;by_cases h1:a=c <;> by_cases h2:b=d <;> simp [go_sem,Try.underlying25,Try.underlying3,st,h1,h2]
theorem gK (w:O) (o:Obj):Below w.heap.size w (w.alloc o):=(Below.refl _ _).alloc (Nat.le_refl _) _
theorem iC (w:O) (c d:Array Q) (s t:TypeId):Below w.heap.size w ((w.alloc (.cells c s)).alloc (.cells d t))/\dz ((w.alloc (.cells c s)).alloc (.cells d t)) w.heap.size c s/\dz ((w.alloc (.cells c s)).alloc (.cells d t)) (w.heap.size+1) d t:=by
 refine⟨((Below.refl _ _).alloc (Nat.le_refl _) _).alloc (by simp) _,(dI w c s).more _,?_⟩;have h:=dI (w.alloc (.cells c s)) d t;simpa using h
theorem mP:∀ (l:List Id) (x:Id),-1<=fC l x
 | [],_=>by simp [fC]
 | a::l,x=>by
  unfold fC;have:=mP l x
  split
  ·omega
  ·split <;> omega
end Go.Proofs.Ytmklifheakemeaa.Bk
