/-
  Rows of IDs, of adve. Conditions as told.
-/
import Derived.Test.YtghlpefopidlaaaGreatLQ003
import Derived.Test.YtghlpefopidlaaaGreatLQ006
import Derived.Test.YtghlpefopidlaaaGreatLQ007
import Derived.Maps.AppendAt
import Derived.Lib.QuietBelow
import Derived.BigQuiet
set_option maxRecDepth 100000
set_option maxHeartbeats 64000000
open _root_.Bool renaming and_eq_true->aM,true->bf,false->bg
open _root_.Go renaming Value->U,World->V,Addr->aV,TypeId->aY,Operand->bI
open Go.Addr renaming add->X
open Go.Instr renaming indexAt->aJ,loadAt->aN
open Go.IntKind renaming i64->J
open Go.Lib renaming hid->ah
open Go.Obj renaming cells->aB
open Go.Proofs.Tryz renaming prog->Y
open Go.Region renaming binds->aD
open Go.RowKit renaming Below->aC
open Go.RowKit.Below renaming refl->aG,heap_setCell->aZ
open Go.Value renaming int->L,slice->Z,pointer->aF,agg->aP,string->aR,bool->aX
open _root_.List renaming getElem?_eq_getElem->aj,not_mem_nil->au,mem_cons->aI,getElem?_cons_zero->aK,getElem?_cons_succ->aL,getElem?_toArray->aO,map_cons->aS,length_cons->aT
open _root_.Nat renaming le_refl->aQ,zero_le->aU,zero_add->bF,le_trans->bG,lt_or_ge->bH
open _root_.Option renaming some->O,none->ay,map_some->aA
open Option.some renaming injEq->ak,inj->aW
open Prod.mk renaming injEq->aH
namespace Go.Proofs.YtghlpefopidlaaaGreat
namespace Bk
open Go.RowKit Rw YtghlpefopidlaaaGreat.Nm Pr
abbrev Sl:=Option aV×Nat×Nat
abbrev dX (s:Sl):U:=Z s.1 s.2.1 s.2.2
abbrev Id:=Int×Int
abbrev eU:=Id
abbrev kR (x:eU):List U:=[L J x.1,L J x.2]
abbrev Wu (x:eU):U:=aP #[L J x.1,L J x.2]
def EJ:Ek eU:=⟨23,26,2,16,aP #[L J 0,L J 0],Wu,kR⟩
theorem ajB:(Tryz.prog.info? 23).map (fun i=>(i.zero,i.size,i.bytes))=O (O (aP #[L J 0,L J 0]),2,16):=by kernel_rfl
theorem Gc (w:V) (p:aV) (x:eU) (h:∀ j u,(kR x)[j]?=O u->w.cell? (p.add j)=O u):(aN 23 (aF (O p))).run Y w=.ok (Wu x) w:=by
 have h0:=h 0 _ rfl;have h1:=h 1 _ rfl;simp [X] at h0 h1;simp [go_sem,h0,h1]
theorem Ev:EJ.Ok where
 hu:=Tryz.underlying26
 info:=by
  have h:=ajB;cases hi:Tryz.prog.info? 23 with
  | none=>rw [hi] at h; cases h
  | some i =>
   rw [hi] at h;simp only [aA,ak,aH] at h;exact⟨i,hi,h.1,h.2.1,h.2.2⟩
 zs:=rfl
 len:=fun _=>rfl
 one:=fun x u hu=>by
  simp only [EJ,kR,aI,au,or_false] at hu;rcases hu with rfl|rfl <;> rfl
 pos:=by decide
 few:=by decide
 load:=fun w p x h=>Gc w p x h
abbrev wY (W:V) (v:U) (l:List eU):Prop:=Row EJ W v l
abbrev uE (W:V) (B:Nat) (v:U) (l:List eU):Prop:=Own EJ W B v l
theorem elJ {W:V} {v:U} {l:List eU} {ao:Option aV} {n c k:Nat} {x:eU} (h:wY W v l) (hv:v=Z ao n c) (hn:l.length=n) (hk:l[k]?=O x) :
  ∃ p:aV,(∀ w,(aJ 26 (Z ao n c) (L J k)).run Y w=.ok (aF (O p)) w)/\∀ w,aC W.heap.size W w->w.cell? p=O (L J x.1)/\w.cell? ⟨p.block,p.off+1,ay⟩=O (L J x.2):=by
 obtain⟨p,h1,_,h2⟩:=qA Ev h hv hn hk;exact⟨p,h1,fun w hw=>⟨by simpa [X] using h2 w hw 0 _ rfl,by simpa [X] using h2 w hw 1 _ rfl⟩⟩
abbrev kY:=Int×Int×Sl×Int
abbrev cellsD (x:kY):List U:=[L J x.1,L J x.2.1,dX x.2.2.1,L J x.2.2.2]
abbrev nD (x:kY):U:=aP #[L J x.1,L J x.2.1,dX x.2.2.1,L J x.2.2.2]
def ED:Ek kY:=⟨36,25,4,48,aP #[L J 0,L J 0,Z ay 0 0,L J 0],nD,cellsD⟩
theorem ajC:(Tryz.prog.info? 36).map (fun i=>(i.zero,i.size,i.bytes))=O (O (aP #[L J 0,L J 0,Z ay 0 0,L J 0]),4,48):=by kernel_rfl
theorem Wv (w:V) (p:aV) (x:kY) (h:∀ j u,(cellsD x)[j]?=O u->w.cell? (p.add j)=O u):(aN 36 (aF (O p))).run Y w=.ok (nD x) w:=by
 have h0:=h 0 _ rfl;have h1:=h 1 _ rfl;have h2:=h 2 _ rfl;have h3:=h 3 _ rfl;simp [X] at h0 h1 h2 h3;simp [go_sem,h0,h1,h2,h3]
theorem okD:ED.Ok where
 hu:=Tryz.underlying25
 info:=by
  have h:=ajC;cases hi:Tryz.prog.info? 36 with
  | none=>rw [hi] at h; cases h
  | some i =>
   rw [hi] at h;simp only [aA,ak,aH] at h;exact⟨i,hi,h.1,h.2.1,h.2.2⟩
 zs:=rfl
 len:=fun _=>rfl
 one:=fun x u hu=>by
  simp only [ED,cellsD,aI,au,or_false] at hu;rcases hu with rfl|rfl|rfl|rfl <;> rfl
 pos:=by decide
 few:=by decide
 load:=fun w p x h=>Wv w p x h
abbrev xQ (W:V) (v:U) (l:List kY):Prop:=Row ED W v l
abbrev nk (W:V) (B:Nat) (v:U) (l:List kY):Prop:=Own ED W B v l
theorem NK {W:V} {v:U} {l:List kY} {ao:Option aV} {n c k:Nat} {x:kY} (h:xQ W v l) (hv:v=Z ao n c) (hn:l.length=n) (hk:l[k]?=O x) :
  ∃ p:aV,(∀ w,(aJ 25 (Z ao n c) (L J k)).run Y w=.ok (aF (O p)) w)/\∀ w,aC W.heap.size W w->w.cell? p=O (L J x.1)/\w.cell? ⟨p.block,p.off+1,ay⟩=O (L J x.2.1)/\w.cell? ⟨p.block,p.off+2,ay⟩=O (dX x.2.2.1)/\w.cell? ⟨p.block,p.off+3,ay⟩=O (L J x.2.2.2):=by
 obtain⟨p,h1,_,h2⟩:=qA okD h hv hn hk;exact⟨p,h1,fun w hw=>⟨by simpa [X] using h2 w hw 0 _ rfl,by simpa [X] using h2 w hw 1 _ rfl,by simpa [X] using h2 w hw 2 _ rfl,by simpa [X] using h2 w hw 3 _ rfl⟩⟩
abbrev jk:=Int×Int×Int×Int×Sl×Int×Bool
abbrev jr (x:jk):List U:=[L J x.1,L J x.2.1,L J x.2.2.1,L J x.2.2.2.1,dX x.2.2.2.2.1,L J x.2.2.2.2.2.1,aX x.2.2.2.2.2.2]
abbrev qO (x:jk):U:=aP #[L J x.1,L J x.2.1,L J x.2.2.1,L J x.2.2.2.1,dX x.2.2.2.2.1,L J x.2.2.2.2.2.1,aX x.2.2.2.2.2.2]
def EN:Ek jk:=⟨67,27,7,72,aP #[L J 0,L J 0,L J 0,L J 0,Z ay 0 0,L J 0,aX bg],qO,jr⟩
theorem ajD:(Tryz.prog.info? 67).map (fun i=>(i.zero,i.size,i.bytes))=O (O (aP #[L J 0,L J 0,L J 0,L J 0,Z ay 0 0,L J 0,aX bg]),7,72):=by kernel_rfl
theorem adB (w:V) (p:aV) (x:jk) (h:∀ j u,(jr x)[j]?=O u->w.cell? (p.add j)=O u):(aN 67 (aF (O p))).run Y w=.ok (qO x) w:=by
 have h0:=h 0 _ rfl;have h1:=h 1 _ rfl;have h2:=h 2 _ rfl;have h3:=h 3 _ rfl;have h4:=h 4 _ rfl;have h5:=h 5 _ rfl;have h6:=h 6 _ rfl;simp [X] at h0 h1 h2 h3 h4 h5 h6;simp [go_sem,h0,h1,h2,h3,h4,h5,h6]
theorem mM:EN.Ok where
 hu:=Tryz.underlying27
 info:=by
  have h:=ajD;cases hi:Tryz.prog.info? 67 with
  | none=>rw [hi] at h; cases h
  | some i =>
   rw [hi] at h;simp only [aA,ak,aH] at h;exact⟨i,hi,h.1,h.2.1,h.2.2⟩
 zs:=rfl
 len:=fun _=>rfl
 one:=fun x u hu=>by
  simp only [EN,jr,aI,au,or_false] at hu;rcases hu with rfl|rfl|rfl|rfl|rfl|rfl|rfl <;> rfl
 pos:=by decide
 few:=by decide
 load:=fun w p x h=>adB w p x h
abbrev mh (W:V) (v:U) (l:List jk):Prop:=Row EN W v l
abbrev jH (W:V) (B:Nat) (v:U) (l:List jk):Prop:=Own EN W B v l
theorem P8 {W:V} {v:U} {l:List jk} {ao:Option aV} {n c k:Nat} {x:jk} (h:mh W v l) (hv:v=Z ao n c) (hn:l.length=n) (hk:l[k]?=O x) :
  ∃ p:aV,(∀ w,(aJ 27 (Z ao n c) (L J k)).run Y w=.ok (aF (O p)) w)/\∀ w,aC W.heap.size W w->w.cell? p=O (L J x.1)/\w.cell? ⟨p.block,p.off+1,ay⟩=O (L J x.2.1)/\w.cell? ⟨p.block,p.off+2,ay⟩=O (L J x.2.2.1)/\w.cell? ⟨p.block,p.off+3,ay⟩=O (L J x.2.2.2.1)/\w.cell? ⟨p.block,p.off+4,ay⟩=O (dX x.2.2.2.2.1)/\w.cell? ⟨p.block,p.off+5,ay⟩=O (L J x.2.2.2.2.2.1)/\w.cell? ⟨p.block,p.off+6,ay⟩=O (aX x.2.2.2.2.2.2):=by
 obtain⟨p,h1,_,h2⟩:=qA mM h hv hn hk;exact⟨p,h1,fun w hw=>⟨by simpa [X] using h2 w hw 0 _ rfl,by simpa [X] using h2 w hw 1 _ rfl,by simpa [X] using h2 w hw 2 _ rfl,by simpa [X] using h2 w hw 3 _ rfl,by simpa [X] using h2 w hw 4 _ rfl,by simpa [X] using h2 w hw 5 _ rfl,by simpa [X] using h2 w hw 6 _ rfl⟩⟩
abbrev ny:=Int×Int×Sl
abbrev lH (x:ny):List U:=[L J x.1,L J x.2.1,dX x.2.2]
abbrev EM (x:ny):U:=aP #[L J x.1,L J x.2.1,dX x.2.2]
def EW:Ek ny:=⟨88,28,3,40,aP #[L J 0,L J 0,Z ay 0 0],EM,lH⟩
theorem ajE:(Tryz.prog.info? 88).map (fun i=>(i.zero,i.size,i.bytes))=O (O (aP #[L J 0,L J 0,Z ay 0 0]),3,40):=by kernel_rfl
theorem ajF (w:V) (p:aV) (x:ny) (h:∀ j u,(lH x)[j]?=O u->w.cell? (p.add j)=O u):(aN 88 (aF (O p))).run Y w=.ok (EM x) w:=by
 have h0:=h 0 _ rfl;have h1:=h 1 _ rfl;have h2:=h 2 _ rfl;simp [X] at h0 h1 h2;simp [go_sem,h0,h1,h2]
theorem okW:EW.Ok where
 hu:=Tryz.underlying28
 info:=by
  have h:=ajE;cases hi:Tryz.prog.info? 88 with
  | none=>rw [hi] at h; cases h
  | some i =>
   rw [hi] at h;simp only [aA,ak,aH] at h;exact⟨i,hi,h.1,h.2.1,h.2.2⟩
 zs:=rfl
 len:=fun _=>rfl
 one:=fun x u hu=>by
  simp only [EW,lH,aI,au,or_false] at hu;rcases hu with rfl|rfl|rfl <;> rfl
 pos:=by decide
 few:=by decide
 load:=fun w p x h=>ajF w p x h
abbrev EP (W:V) (v:U) (l:List ny):Prop:=Row EW W v l
abbrev nM (W:V) (B:Nat) (v:U) (l:List ny):Prop:=Own EW W B v l
theorem elW {W:V} {v:U} {l:List ny} {ao:Option aV} {n c k:Nat} {x:ny} (h:EP W v l) (hv:v=Z ao n c) (hn:l.length=n) (hk:l[k]?=O x) :
  ∃ p:aV,(∀ w,(aJ 28 (Z ao n c) (L J k)).run Y w=.ok (aF (O p)) w)/\∀ w,aC W.heap.size W w->w.cell? p=O (L J x.1)/\w.cell? ⟨p.block,p.off+1,ay⟩=O (L J x.2.1)/\w.cell? ⟨p.block,p.off+2,ay⟩=O (dX x.2.2):=by
 obtain⟨p,h1,_,h2⟩:=qA okW h hv hn hk;exact⟨p,h1,fun w hw=>⟨by simpa [X] using h2 w hw 0 _ rfl,by simpa [X] using h2 w hw 1 _ rfl,by simpa [X] using h2 w hw 2 _ rfl⟩⟩
structure Ad where
 id:Id
 p:List C5
 par:Int
structure En where
 tree:Id
 sub:Id
 p:List C5
 from_:Int
 up:Bool
structure Ow where
 id:Id
 p:List C5
structure Br where
 me:Int
 near:List Int
 dO:List Ad
 seen:List Id
 ent:List En
 own:List Ow
def uU (W:V) (x:kY) (a:Ad):Prop:=(x.1,x.2.1)=a.id/\x.2.2.2=a.par/\fI W (dX x.2.2.1) a.p
def jJ (W:V) (x:jk) (a:En):Prop:=(x.1,x.2.1)=a.tree/\(x.2.2.1,x.2.2.2.1)=a.sub/\x.2.2.2.2.2.1=a.from_/\x.2.2.2.2.2.2=a.up/\fI W (dX x.2.2.2.2.1) a.p
def xS (W:V) (x:ny) (a:Ow):Prop:=(x.1,x.2.1)=a.id/\fI W (dX x.2.2) a.p
theorem uU.on {W W':V} {x:kY} {a:Ad} (h:uU W x a) (hb:aC W.heap.size W W'):uU W' x a:=⟨h.1,h.2.1,h.2.2.on hb⟩
theorem jJ.on {W W':V} {x:jk} {a:En} (h:jJ W x a) (hb:aC W.heap.size W W'):jJ W' x a:=⟨h.1,h.2.1,h.2.2.1,h.2.2.2.1,h.2.2.2.2.on hb⟩
theorem xS.on {W W':V} {x:ny} {a:Ow} (h:xS W x a) (hb:aC W.heap.size W W'):xS W' x a:=⟨h.1,h.2.on hb⟩
inductive eY {α β:Type} (R:α->β->Prop):List α->List β->Prop
 | nil:eY R [] []
 | cons {a b l m} (h:R a b) (t:eY R l m):eY R (a::l) (b::m)
theorem eY.mono {α β:Type} {R S:α->β->Prop} (h:∀ a b,R a b->S a b):∀ {l m},eY R l m->eY S l m
 | _,_,.nil=>.nil
 | _,_,.cons x t=>.cons (h _ _ x) (t.mono h)
theorem eY.len {α β:Type} {R:α->β->Prop}:∀ {l m},eY R l m->l.length=m.length
 | _,_,.nil=>rfl
 | _,_,.cons _ t=>by rw [aT,aT,t.len]
theorem eY.at {α β:Type} {R:α->β->Prop}:∀ {l m} (_:eY R l m) (k:Nat) (b:β),m[k]?=O b->∃ a,l[k]?=O a/\R a b
 | _,_,.nil,k,b,h=>by simp at h
 | _,_,.cons x t,0,b,h=>by
  simp at h;subst h;exact⟨_,rfl,x⟩
 | _,_,.cons x t,k+1,b,h=>by
  obtain⟨a,h1,h2⟩:=t.at k b (by simpa using h);exact⟨a,by simpa using h1,h2⟩
theorem eY.append {α β:Type} {R:α->β->Prop}:∀ {l m l' m'},eY R l m->eY R l' m'->eY R (l++l') (m++m')
 | _,_,_,_,.nil,h=>h
 | _,_,_,_,.cons x t,h=>.cons x (t.append h)
theorem eY.take {α β:Type} {R:α->β->Prop}:∀ {l m} (k:Nat),eY R l m->eY R (l.take k) (m.take k)
 | _,_,0,_=>by simp only [List.take_zero]; exact .nil
 | _,_,k+1,.nil=>by simp only [List.take_nil]; exact .nil
 | _,_,k+1,.cons x t=>.cons x (t.take k)
theorem eY.drop {α β:Type} {R:α->β->Prop}:∀ {l m} (k:Nat),eY R l m->eY R (l.drop k) (m.drop k)
 | _,_,0,h=>h
 | _,_,_k+1,.nil=>.nil
 | _,_,k+1,.cons _ t=>t.drop k
structure jq (W:V) (b:Br) (nv av sv ev ov:Sl):Prop where
 near:uR W (dX nv) b.near
 dO:∃ l,xQ W (dX av) l/\eY (uU W) l b.dO
 seen:wY W (dX sv) b.seen
 ent:∃ l,mh W (dX ev) l/\eY (jJ W) l b.ent
 own:∃ l,EP W (dX ov) l/\eY (xS W) l b.own
theorem jq.on {W W':V} {b:Br} {nv av sv ev ov:Sl} (h:jq W b nv av sv ev ov) (hb:aC W.heap.size W W'):jq W' b nv av sv ev ov where
 near:=h.near.on hb
 dO:=by obtain⟨l,h1,h2⟩:=h.dO; exact⟨l,h1.on hb,h2.mono fun _ _ h=>h.on hb⟩
 seen:=h.seen.on hb
 ent:=by obtain⟨l,h1,h2⟩:=h.ent; exact⟨l,h1.on hb,h2.mono fun _ _ h=>h.on hb⟩
 own:=by obtain⟨l,h1,h2⟩:=h.own; exact⟨l,h1.on hb,h2.mono fun _ _ h=>h.on hb⟩
abbrev mG (me:Int) (nv av sv ev ov:Sl):U:=aP #[L J me,dX nv,dX av,dX sv,dX ev,dX ov]
abbrev ko (me:Int) (nv av sv ev ov:Sl):Array U:=#[L J me,dX nv,dX av,dX sv,dX ev,dX ov]
def eH (a b:Id):Bool:=decide (a.1<b.1) || (a.1 == b.1 && decide (a.2<b.2))
def fO:List Id->Id->Int
 | [],_=>-1
 | a::l,x=>if a=x then 0 else if fO l x=-1 then -1 else fO l x+1
def fC (l:List Id) (x:Id):Nat:=(l.takeWhile fun a=>eH a x).length
end Bk
namespace Rg
open Go.RowKit
theorem gu {P:Program} {ops:Array Oper} {Q:Exit->Act->V->Prop} {K:Act->V->Prop} {a:Act} {w w':V} {i:Nat} {o:Oper} (t:aY) (x y:bI) {p v:U}
  (ho:ops[i]?=O o) (hg:o.guard=ay) (hop:o.op=.store t x y) (hd:o.dst=ay) (hx:a.eval x=p) (hy:a.eval y=v) (hr:(Instr.storeAt t p v).run P w=.ok () w') (h:K a w'):wpOp P ops Q i K a w:=by
 refine abJ ho hg (Ws a.eval o t x y hop (by rw [hx,hy]; exact hr)) ?_;rw [hd];exact h
def I5 (l:List Oper) (i:Nat):List Nat:=match l[i]? with
 | some o=>(o.after.toList.filter fun e=>aD .any e).map fun e=>e.on
 | none=>[]
def NM (l:List Oper):Nat->List Nat->List Nat
 | 0,s=>s
 | n+1,s=>NM l n (s++s.flatMap (I5 l))
theorem Qa {l:List Oper} {D:Nat->Prop} {i:Nat} (h:∀ o,l[i]?=O o->∀ e∈o.after,aD .any e=bf->D e.on):∀ j∈I5 l i,D j:=by
 intro j hj;unfold I5 at hj;cases ho:l[i]? with
 | none=>rw [ho] at hj; cases hj
 | some o =>
  rw [ho] at hj;obtain⟨e,he,rfl⟩:=List.mem_map.1 hj;obtain⟨h1,h2⟩:=List.mem_filter.1 he;exact h o ho e (Array.mem_toList_iff.1 h1) h2
theorem J4 {l:List Oper} {D:Nat->Prop} (hc:∀ j o,D j->l[j]?=O o->∀ e∈o.after,aD .any e=bf->D e.on):∀ n s,(∀ j∈s,D j)->∀ j∈NM l n s,D j
 | 0,_,hs=>hs
 | n+1,s,hs=>J4 hc n _ fun j hj=>by
  rcases List.mem_append.1 hj with h|h
  ·exact hs j h
  ·obtain⟨i,hi,hd⟩:=List.mem_flatMap.1 h;exact Qa (fun o ho=>hc i o (hs i hi) ho) j hd
theorem kL {l:List Oper} {M:Nat} (n:Nat) (h:(List.range M).all (fun i=>(NM l n (I5 l M)).contains i)=bf) (D:Nat->Prop) (hc:∀ j o,D j->l[j]?=O o->∀ e∈o.after,aD .any e=bf->D e.on) (hm:∀ o,l[M]?=O o->∀ e∈o.after,aD .any e=bf->D e.on):∀ i,i<M->D i:=by
 intro i hi;have h2:=List.all_eq_true.1 h i (List.mem_range.2 hi);exact J4 hc n _ (Qa hm) i (List.contains_iff_mem.1 h2)
theorem xU {P:Program} (ρ:bI->U) (o:Oper) (t:aY) (ho:o.op=.alloc t) {v:U} {w w':V} (hr:(Instr.alloc t bf (.tuple #[])).run P w=.ok v w'):(execOp ρ o).run P w=.ok (.value v) w':=by
 simp [execOp,ho,hr,Result.andThen]
end Rg
namespace Rw
open Go.RowKit
theorem jN {α:Type} {E:Ek α} (K:E.Ok) {w:V} (B:Nat) {g:Nat} {x:U} {m:List α} (ku:dK w g #[] E.t) (hBg:B<=g) (hx:Row E w x m) (hm:m.length<=1000) (ty:aY) :
  ∃ v' w',(Builtin.append_ #[E.ts,E.ts] ty #[Z (O ⟨g,0,ay⟩) 0 0,x]).run Y w=.ok v' w'/\Own E w' B v' m/\aC w.heap.size w w':=by
 have ho:Own E w B (Z (O ⟨g,0,ay⟩) 0 0) ([]:List α):=oI K rfl hBg ku (aQ _) (aU _) (by simp) (by simp [flat]);have hl:=ku.lt;obtain⟨v',w',r,o',gr⟩:=gZ K B ho hx (by simp) hm (by omega) ty;refine⟨v',w',r,by simpa using o',?_⟩;obtain⟨i,i1,i2,i3,i4⟩:=K.info;rcases hx with⟨rfl,rfl⟩|⟨ad,c,rfl,h2,h3,h4⟩
 ·have r2:=run_append_owned_none (P:=Y) (w:=w) B E.ts ty E.t i E.n K.hu i1 _ _ _ ho;rw [r2] at r;injection r with _ e
  rw [<- e];exact aG _ _
 ·rcases Nat.eq_zero_or_pos m.length with h0|h0
  ·have r2:=run_append_room (P:=Y) (w:=w) E.ts ty E.t i K.hu i1 g 0 0 #[] ku ad m.length c (flat E m) (by rw [eD K,i3]) h4 (nR K m) (by omega) (by rw [eD K,h0]; simp);rw [r2] at r;injection r with _ e
   rw [<- e];have hf:flat E m=[]:=List.eq_nil_of_length_eq_zero (by rw [eD K,h0]; simp);have hs:=dK.set ku ((#[]:Array U).toList.take (0 * i.size)++flat E m++(#[]:Array U).toList.drop (0 * i.size+(flat E m).length)).toArray;refine⟨rfl,rfl,rfl,by simp [World.setRow],fun k hk=>?_⟩;by_cases hkg:k=g
   ·subst hkg;refine hs.trans ?_;rw [hf];simpa using ku.symm
   ·exact setRow_other w g k _ hkg
  ·have r2:=run_append_grow (P:=Y) (w:=w) E.ts ty E.t i E.z K.hu i1 i2 ⟨g,0,ay⟩ 0 0 [] (by simp) (fun j v h=>by simp at h) ad m.length c (flat E m) (by rw [eD K,i3]) h4 (by omega) (by omega) (by
    rw [bF,nextslicecap_zero h0,i4];exact bG (Nat.mul_le_mul hm K.few) (by decide))
   rw [r2] at r;injection r with _ e
   rw [<- e];exact (aG _ _).drew.alloc (aQ _) _
end Rw
namespace Bk
open Go.RowKit Rw
theorem dM {α:Type} {E:Ek α} {W:V} {B C:Nat} {v:U} {l:List α} (h:Own E W B v l) (hc:C<=B):Own E W C v l:=by
 refine⟨h.1,?_⟩;rcases h.2 with h2|⟨g,cap,cur,h1,h2,h3⟩
 ·exact Or.inl h2
 ·exact Or.inr ⟨g,cap,cur,h1,bG hc h2,h3⟩
theorem dI {α:Type} {E:Ek α} {W W':V} {B:Nat} {v:U} {l:List α} (h:Own E W B v l) (hb:aC W.heap.size W W'):Own E W' B v l :=
 h.kept (w':=W') (row:=ay) ⟨hb.os,hb.tape,hb.output,hb.size,fun k hk _=>hb.block k hk⟩ (by cases v.ownBlock <;> simp)
theorem eZ {α:Type} {E:Ek α} {W:V} {B:Nat} {v:U} {l:List α} (h:Own E W B v l) (b k:Nat) (x:U) (hb:b<B):Own E (W.setCell ⟨b,k,ay⟩ x) B v l :=
 h.kept (w':=W.setCell ⟨b,k,ay⟩ x) (row:=O b) ⟨rfl,rfl,rfl,by simp [World.setCell],fun j _ hne=>aZ _ _ _ _ (fun e=>hne (by rw [e]))⟩ (by
  cases hv:v.ownBlock with
  | none=>exact Or.inl rfl
  | some j =>
   refine Or.inr fun e=>?_;injection e with e
   have h1:=(h.lt j hv).1;omega)
theorem add_one (x y:bI) (t:aY) (w:V) (k:Nat) (hk:k<=900):(do eqGuard .add t x y (L J k) (L J 1); binOp .add t (L J k) (L J 1):Sem U).run Y w=.ok (L J ((k:Int)+1)) w:=by
 have h:IntKind.i64.wrap ((k:Int)+1)=(k:Int)+1:=IntWalk.i64_in _ (by omega);simp [eqGuard,binOp,Op.intArith,go_sem,h]
theorem eu {W:V} {rb k:Nat} {cs:Array U} {t:aY} (h:dK W rb cs t) (x:U):dK (W.setCell ⟨rb,k,ay⟩ x) rb (cs.setIfInBounds k x) t:=heap_setCell_same W rb k cs t x h
end Bk
namespace Bk
open Go.RowKit Rw YtghlpefopidlaaaGreat.Nm Pr
abbrev nC (x:Id):U:=aP #[L J x.1,L J x.2]
theorem Qb:Tryz.prog.stoodInHeld 23=bg:=by kernel_rfl
theorem rH (a b c d:Int) (r:Bool) (h:(a == c && b == d)=r) (w:V):(binOp .eql 23 (aP #[L J a,L J b]) (aP #[L J c,L J d])).run Y w=.ok (aX r) w:=by
 have st:=Qb;subst h;by_cases h1:a=c <;> by_cases h2:b=d <;> simp [go_sem,Tryz.underlying23,Tryz.underlying3,st,h1,h2]
theorem gN (w:V) (o:Obj):aC w.heap.size w (w.alloc o):=(aG _ _).alloc (aQ _) _
theorem iI (w:V) (c d:Array U) (s t:aY):aC w.heap.size w ((w.alloc (aB c s)).alloc (aB d t))/\dK ((w.alloc (aB c s)).alloc (aB d t)) w.heap.size c s/\dK ((w.alloc (aB c s)).alloc (aB d t)) (w.heap.size+1) d t:=by
 refine⟨((aG _ _).alloc (aQ _) _).alloc (by simp) _,(dQ w c s).more _,?_⟩;have h:=dQ (w.alloc (aB c s)) d t;simpa using h
theorem uW (x y:Id) (w:V):Calls Y 55 #[nC x,nC y] w fun e w'=>e=.returned (aX (eH x y))/\aC w.heap.size w w':=by
 obtain⟨a,b⟩:=x;obtain⟨c,d⟩:=y;obtain⟨h0,h1,h2⟩:=iI w #[L J a,L J b] #[L J c,L J d] 23 23;have B:=ah h0;obtain⟨a0,a1⟩:=h1.cs2;obtain⟨b0,b1⟩:=h2.cs2;have R:=ah (show eH (a,b) (c,d)=(decide (a<c) || (a == c && decide (b<d))) from rfl);generalize eH (a,b) (c,d)=r at *;obtain⟨r1,e1⟩:∃ r,decide (a<c)=r:=⟨_,rfl⟩;obtain⟨r2,e2⟩:∃ r,(a == c)=r:=⟨_,rfl⟩;obtain⟨r3,e3⟩:∃ r,decide (b<d)=r:=⟨_,rfl⟩;rw [e1,e2,e3] at R;clear h0 h1 h2;go_enter Tryz.func55,Tryz.ntmps55;cases r1 <;> cases r2
 all_goals
  go_wp2;go_ret;exact⟨by rw [R.out]; simp,B.out⟩
theorem Tx (me:Int) (nv av ev ov:U) (sv:Sl) (l:List Id) (x:Id) (w:V) (hs:wY w (dX sv) l) :
  Calls Y 160 #[aP #[L J me,nv,av,dX sv,ev,ov],nC x] w fun e w'=>e=.returned (aX (decide (x∈l)))/\aC w.heap.size w w':=by
 obtain⟨c,d⟩:=x;obtain⟨so,sn,sc⟩:=sv;obtain⟨ao,ac,hv⟩:=hs.len;have hv:Z so sn sc=Z ao l.length ac:=hv;obtain⟨rfl,rfl,rfl⟩:so=ao/\sn=l.length/\sc=ac:=by simpa using hv
 obtain⟨h0,h1,h2⟩:=iI w #[L J me,nv,av,Z so l.length sc,ev,ov] #[L J c,L J d] 30 23;have B:=ah h0;have HS:=ah (hs.on h0);have X2:=ah h1;have X3:=ah h2;have lm:=hs.most;unfold maxLen at lm;obtain⟨n,hn⟩:∃ n,n=l.length:=⟨_,rfl⟩;have q3:=h1.cell 3;simp only [aO,aK,aL] at q3;rw [<- hn] at HS X2 lm q3 B X3 ⊢;have HN:=ah hn.symm;clear h0 h1 h2 hs hv hn;go_enter Tryz.func160,Tryz.ntmps160;go_upto_region 1 with fail;generalize (w.alloc (aB #[L J me,nv,av,Z so n sc,ev,ov] 30)).alloc (aB #[L J c,L J d] 23)=W at *;go_wp2
 go_loopw [10] (fun i wr=>∃ k:Nat,k<=n/\i=L J k/\aC W.heap.size W wr/\∀ (j:Nat) (y:Id),j<k->l[j]?=O y->y≠(c,d)) (fun i _=>n-(intOf i).toNat)
 case atStart=>exact⟨0,aU _,rfl,aG _ _,fun j y h=>by omega⟩
 case round =>
  obtain⟨k,hk,rfl,hbe,hall⟩:=hrel;have BE:=ah hbe;have AL:=ah hall;clear hbe hall;by_cases hlt:k<n
  ·obtain⟨y,hy⟩:∃ y,l[k]?=O y:=⟨_,aj (by rw [HN.out]; exact hlt)⟩;obtain⟨p,ix,px⟩:=elJ HS.out rfl HN.out hy;obtain⟨p0,p1⟩:=px wr BE.out;obtain⟨y1,y2⟩:=y;simp only at p0 p1;have NB:=ah (gN wr (aB #[L J y1,L J y2] 23));obtain⟨x0,x1⟩:=((X3.out.on BE.out).on NB.out).cs2;have hw3:IntKind.i64.wrap ((k:Int)+1)=(k:Int)+1:=IntWalk.i64_in _ (by omega);obtain⟨r,hr⟩:∃ r,(y1 == c && y2 == d)=r:=⟨_,rfl⟩;have he:=rH y1 y2 c d r hr;have HY:=ah hy;have HR:=ah hr;clear px hy hr;cases r
   ·go_wp2
    go_roundw
    case rel=>exact⟨k+1,by omega,by go_num,BE.out.trans (NB.out.mono BE.out.size),fun j y' hj h1=>by
     rcases bH j k with h3|h3
     ·exact AL.out j y' h3 h1
     ·obtain rfl:j=k:=by omega
      have e1:=HY.out;rw [h1] at e1;rw [aW e1];intro e;obtain⟨rfl,rfl⟩:y1=c/\y2=d:=by simpa using e
      have:=HR.out;simp at this⟩
    case measure=>simp [intOf]; omega
   ·go_wp2;go_ret;have h8:=HR.out;obtain⟨rfl,rfl⟩:y1=c/\y2=d:=by simpa using h8
    exact⟨by rw [decide_eq_true (List.mem_of_getElem? HY.out)]; rfl,B.out.trans ((BE.out.trans (NB.out.mono BE.out.size)).mono B.out.size)⟩
  ·obtain rfl:k=n:=by omega
   go_wp2;go_ret;have hd:decide ((c,d)∈l)=bg:=decide_eq_false fun hm=>by
    obtain⟨j,hj,hje⟩:=List.getElem_of_mem hm;exact AL.out j (c,d) (by rw [<- HN.out]; exact hj) (by rw [aj hj,hje]) rfl
   exact⟨by rw [hd]; rfl,B.out.trans (BE.out.mono B.out.size)⟩
theorem rX:∀ (l:List Id) (x:Id),-1<=fO l x
 | [],_=>by simp [fO]
 | a::l,x=>by
  unfold fO;have:=rX l x
  split
  ·omega
  ·split <;> omega
theorem Tz (l:List kY) (x:Id) (h:∀ (j:Nat) (y:kY),l[j]?=O y->(y.1,y.2.1)≠x):fO (l.map fun y=>(y.1,y.2.1)) x=-1:=by
 induction l with
 | nil=>rfl
 | cons a l ih =>
  rw [aS,fO,if_neg (h 0 a rfl),ih fun j y hj=>h (j+1) y (by simpa using hj),if_pos rfl]
theorem abO (l:List kY) (k:Nat) (x:Id) (y:kY) (h:l[k]?=O y) (hx:(y.1,y.2.1)=x) (hall:∀ (j:Nat) (z:kY),j<k->l[j]?=O z->(z.1,z.2.1)≠x):fO (l.map fun y=>(y.1,y.2.1)) x=k:=by
 induction l generalizing k with
 | nil=>simp at h
 | cons a l ih =>
  cases k with
  | zero =>
   obtain rfl:a=y:=by simpa using h
   rw [aS,fO,if_pos hx]
   rfl
  | succ k =>
   have h2:=ih k (by simpa using h) fun j z hj hz=>hall (j+1) z (by omega) (by simpa using hz);rw [aS,fO,if_neg (hall 0 a (by omega) rfl),h2,if_neg (by omega)];omega
theorem vV (me:Int) (nv ev sv ov:U) (av:Sl) (l:List kY) (x:Id) (w:V) (hs:xQ w (dX av) l) :
  Calls Y 60 #[aP #[L J me,nv,dX av,sv,ev,ov],nC x] w fun e w'=>e=.returned (L J (fO (l.map fun y=>(y.1,y.2.1)) x))/\aC w.heap.size w w':=by
 obtain⟨c,d⟩:=x;obtain⟨so,sn,sc⟩:=av;obtain⟨ao,ac,hv⟩:=hs.len;have hv:Z so sn sc=Z ao l.length ac:=hv;obtain⟨rfl,rfl,rfl⟩:so=ao/\sn=l.length/\sc=ac:=by simpa using hv
 obtain⟨h0,h1,h2⟩:=iI w #[L J me,nv,Z so l.length sc,sv,ev,ov] #[L J c,L J d] 30 23;have B:=ah h0;have HS:=ah (hs.on h0);have X2:=ah h1;have X3:=ah h2;have lm:=hs.most;unfold maxLen at lm;obtain⟨n,hn⟩:∃ n,n=l.length:=⟨_,rfl⟩;have q3:=h1.cell 2;simp only [aO,aK,aL] at q3;rw [<- hn] at HS X2 lm q3 B X3 ⊢;have HN:=ah hn.symm;clear h0 h1 h2 hs hv hn;go_enter Tryz.func60,Tryz.ntmps60;go_upto_region 1 with fail;generalize (w.alloc (aB #[L J me,nv,Z so n sc,sv,ev,ov] 30)).alloc (aB #[L J c,L J d] 23)=W at *;go_wp2
 go_loopw [10] (fun i wr=>∃ k:Nat,k<=n/\i=L J k/\aC W.heap.size W wr/\∀ (j:Nat) (y:kY),j<k->l[j]?=O y->(y.1,y.2.1)≠(c,d)) (fun i _=>n-(intOf i).toNat)
 case atStart=>exact⟨0,aU _,rfl,aG _ _,fun j y h=>by omega⟩
 case round =>
  obtain⟨k,hk,rfl,hbe,hall⟩:=hrel;have BE:=ah hbe;have AL:=ah hall;clear hbe hall;by_cases hlt:k<n
  ·obtain⟨y,hy⟩:∃ y,l[k]?=O y:=⟨_,aj (by rw [HN.out]; exact hlt)⟩;obtain⟨p,ix,px⟩:=NK HS.out rfl HN.out hy;obtain⟨p0,p1,p2,p3⟩:=px wr BE.out;obtain⟨y1,y2,⟨yo,yn,yc⟩,y4⟩:=y;simp only at p0 p1 p2 p3;have NB:=ah (gN wr (aB #[L J y1,L J y2,Z yo yn yc,L J y4] 36));obtain⟨x0,x1⟩:=((X3.out.on BE.out).on NB.out).cs2;have hw3:IntKind.i64.wrap ((k:Int)+1)=(k:Int)+1:=IntWalk.i64_in _ (by omega);obtain⟨r,hr⟩:∃ r,(y1 == c && y2 == d)=r:=⟨_,rfl⟩;have he:=rH y1 y2 c d r hr;have HY:=ah hy;have HR:=ah hr;clear px hy hr;cases r
   ·go_wp2
    go_roundw
    case rel=>exact⟨k+1,by omega,by go_num,BE.out.trans (NB.out.mono BE.out.size),fun j y' hj h1=>by
     rcases bH j k with h3|h3
     ·exact AL.out j y' h3 h1
     ·obtain rfl:j=k:=by omega
      have e1:=HY.out;rw [h1] at e1;rw [aW e1];intro e;obtain⟨rfl,rfl⟩:y1=c/\y2=d:=by simpa using e
      have:=HR.out;simp at this⟩
    case measure=>simp [intOf]; omega
   ·go_wp2;go_ret;have h8:=HR.out;obtain⟨rfl,rfl⟩:y1=c/\y2=d:=by simpa using h8
    exact⟨by rw [abO l k (y1,y2) _ HY.out rfl AL.out]; rfl,B.out.trans ((BE.out.trans (NB.out.mono BE.out.size)).mono B.out.size)⟩
  ·obtain rfl:k=n:=by omega
   go_wp2;go_ret;have hd:fO (l.map fun y=>(y.1,y.2.1)) (c,d)=-1:=Tz l (c,d) fun j y hj=>AL.out j y (by rw [<- HN.out]; exact (List.getElem?_eq_some_iff.1 hj).1) hj;exact⟨by rw [hd]; rfl,B.out.trans (BE.out.mono B.out.size)⟩
end Bk
namespace At
open Go.RowKit Va In
def nm (i:Nat):ByteArray:=⟨#[UInt8.ofNat (97+i)]⟩
def xP:Array U:=#[aR ⟨#[97]⟩,aR ⟨#[98]⟩,aR ⟨#[99]⟩,aR ⟨#[100]⟩,aR ⟨#[101]⟩,aR ⟨#[102]⟩,aR ⟨#[103]⟩]
def uT (zs:List Int) (i:Nat):Int:=if zs=[] then 0 else zs.getD (i % zs.length) 0
def odd (z:Int):Bool:=bits BinOp.and J z 1 == 1
end At
namespace Pr
open Go.RowKit Go.Sort Pu Rw Va
def jU:List C5->List C5->Bool
 | [],[]=>bf
 | x::l,y::m=>Az x y && jU l m
 | _,_=>bg
theorem Gd:∀ l m,jU l m=bf->l.length=m.length
 | [],[],_=>rfl
 | x::l,y::m,h=>by
  simp only [jU,aM] at h;simp [Gd l m h.2]
 | [],y::m,h=>by simp [jU] at h
 | x::l,[],h=>by simp [jU] at h
theorem Gf:∀ l m,l.length=m.length->(∀ (k:Nat) (x y:C5),l[k]?=O x->m[k]?=O y->Az x y=bf)->jU l m=bf
 | [],[],_,_=>rfl
 | x::l,y::m,hl,h=>by
  simp only [jU,aM];exact⟨h 0 x y rfl rfl,Gf l m (by simpa using hl) (fun k a b ha hb=>h (k+1) a b (by simpa using ha) (by simpa using hb))⟩
 | [],y::m,hl,_=>by simp at hl
 | x::l,[],hl,_=>by simp at hl
theorem Gg:∀ (l m:List C5) (k:Nat) (x y:C5),l[k]?=O x->m[k]?=O y->Az x y=bg->jU l m=bg
 | [],_,k,x,y,h,_,_=>by simp at h
 | _::_,[],k,x,y,_,h,_=>by simp at h
 | a::l,b::m,0,x,y,h1,h2,h3=>by
  simp at h1 h2;subst h1 h2;simp [jU,h3]
 | a::l,b::m,k+1,x,y,h1,h2,h3=>by
  simp only [jU,Gg l m k x y (by simpa using h1) (by simpa using h2) h3,Bool.and_false]
theorem vW:∀ l m:List C5,jU l m=bf↔l=m
 | [],[]=>by simp [jU]
 | x::l,y::m=>by
  simp only [jU,aM,JY,vW l m,List.cons.injEq]
 | [],y::m=>by simp [jU]
 | x::l,[]=>by simp [jU]
end Pr
namespace Rl
open Go.RowKit Pu Pr
theorem TD {a b:List Cn} (ha:iU a) (h5:a.length<=5):Bz (a++b)=jT a.length a b:=by
 have e:=Ti a ha h5;rw [Bz] at e;rw [Bz,zT a b [] a 0 e,bF]
end Rl
end Go.Proofs.YtghlpefopidlaaaGreat
