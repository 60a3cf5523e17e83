/-
  Rows of IDs, of adve. Conditions as told.
-/
import Derived.Test.YtghlpefopidlaaaGreatCQ001
import Derived.Test.YtghlpefopidlaaaGreatCQ002
import Derived.Test.YtghlpefopidlaaaGreatCQ006
set_option maxRecDepth 100000
set_option maxHeartbeats 64000000
open _root_.Bool renaming true->aJ,false->aU
open _root_.Go renaming World->X,Value->Y,Addr->aN,TypeId->aP,Act->aT
open Go.Addr renaming add->Z
open Go.Instr renaming indexAt->aG,loadAt->aH
open Go.IntKind renaming i64->O
open Go.Proofs.Tryz renaming prog->aj
open Go.Region renaming binds->ah
open Go.Value renaming int->J,slice->ak,pointer->aC,agg->aK,bool->aS
open _root_.List renaming not_mem_nil->ay,mem_cons->aF,length_cons->aL,all_eq_true->aM,mem_range->aO
open _root_.Nat renaming le_refl->aI,zero_add->aQ,le_trans->aR
open _root_.Option renaming some->U,none->aA,map_some->aB
open Option.some renaming injEq->au
open Prod.mk renaming injEq->aD
namespace Go.Proofs.YtghlpefopidlaaaGreat
namespace Bk
open Go.RowKit Rw YtghlpefopidlaaaGreat.Nm Pr
abbrev Sl:=Option aN×Nat×Nat
abbrev dH (s:Sl):Y:=ak s.1 s.2.1 s.2.2
abbrev Id:=Int×Int
abbrev dQ:=Id
abbrev jl (x:dQ):List Y:=[J O x.1,J O x.2]
abbrev Ms (x:dQ):Y:=aK #[J O x.1,J O x.2]
def EJ:Ek dQ:=⟨23,26,2,16,aK #[J O 0,J O 0],Ms,jl⟩
theorem Mt:(Tryz.prog.info? 23).map (fun i=>(i.zero,i.size,i.bytes))=U (U (aK #[J O 0,J O 0]),2,16):=by kernel_rfl
theorem Mv (w:X) (p:aN) (x:dQ) (h:∀ j u,(jl x)[j]?=U u->w.cell? (p.add j)=U u):(aH 23 (aC (U p))).run aj w=.ok (Ms x) w:=by
 have h0:=h 0 _ rfl;have h1:=h 1 _ rfl;simp [Z] at h0 h1;simp [go_sem,h0,h1]
theorem xX:EJ.Ok where
 hu:=Tryz.underlying26
 info:=by
  have h:=Mt;cases hi:Tryz.prog.info? 23 with
  | none=>rw [hi] at h; cases h
  | some i =>
   rw [hi] at h;simp only [aB,au,aD] at h;exact⟨i,hi,h.1,h.2.1,h.2.2⟩
 zs:=rfl
 len:=fun _=>rfl
 one:=fun x u hu=>by
  simp only [EJ,jl,aF,ay,or_false] at hu;rcases hu with rfl|rfl <;> rfl
 pos:=by decide
 few:=by decide
 load:=fun w p x h=>Mv w p x h
abbrev uP (W:X) (v:Y) (l:List dQ):Prop:=Row EJ W v l
abbrev wm (W:X) (B:Nat) (v:Y) (l:List dQ):Prop:=Own EJ W B v l
theorem Rm {W:X} {v:Y} {l:List dQ} {ao:Option aN} {n c k:Nat} {x:dQ} (h:uP W v l) (hv:v=ak ao n c) (hn:l.length=n) (hk:l[k]?=U x) :
  ∃ p:aN,(∀ w,(aG 26 (ak ao n c) (J O k)).run aj w=.ok (aC (U p)) w)/\∀ w,Below W.heap.size W w->w.cell? p=U (J O x.1)/\w.cell? ⟨p.block,p.off+1,aA⟩=U (J O x.2):=by
 obtain⟨p,h1,_,h2⟩:=mR xX h hv hn hk;exact⟨p,h1,fun w hw=>⟨by simpa [Z] using h2 w hw 0 _ rfl,by simpa [Z] using h2 w hw 1 _ rfl⟩⟩
abbrev iQ:=Int×Int×Sl×Int
abbrev cellsD (x:iQ):List Y:=[J O x.1,J O x.2.1,dH x.2.2.1,J O x.2.2.2]
abbrev jD (x:iQ):Y:=aK #[J O x.1,J O x.2.1,dH x.2.2.1,J O x.2.2.2]
def ED:Ek iQ:=⟨36,25,4,48,aK #[J O 0,J O 0,ak aA 0 0,J O 0],jD,cellsD⟩
theorem Mw:(Tryz.prog.info? 36).map (fun i=>(i.zero,i.size,i.bytes))=U (U (aK #[J O 0,J O 0,ak aA 0 0,J O 0]),4,48):=by kernel_rfl
theorem Ji (w:X) (p:aN) (x:iQ) (h:∀ j u,(cellsD x)[j]?=U u->w.cell? (p.add j)=U u):(aH 36 (aC (U p))).run aj w=.ok (jD x) w:=by
 have h0:=h 0 _ rfl;have h1:=h 1 _ rfl;have h2:=h 2 _ rfl;have h3:=h 3 _ rfl;simp [Z] at h0 h1 h2 h3;simp [go_sem,h0,h1,h2,h3]
theorem okD:ED.Ok where
 hu:=Tryz.underlying25
 info:=by
  have h:=Mw;cases hi:Tryz.prog.info? 36 with
  | none=>rw [hi] at h; cases h
  | some i =>
   rw [hi] at h;simp only [aB,au,aD] at h;exact⟨i,hi,h.1,h.2.1,h.2.2⟩
 zs:=rfl
 len:=fun _=>rfl
 one:=fun x u hu=>by
  simp only [ED,cellsD,aF,ay,or_false] at hu;rcases hu with rfl|rfl|rfl|rfl <;> rfl
 pos:=by decide
 few:=by decide
 load:=fun w p x h=>Ji w p x h
abbrev yj (W:X) (v:Y) (l:List iQ):Prop:=Row ED W v l
abbrev mV (W:X) (B:Nat) (v:Y) (l:List iQ):Prop:=Own ED W B v l
theorem Pf {W:X} {v:Y} {l:List iQ} {ao:Option aN} {n c k:Nat} {x:iQ} (h:yj W v l) (hv:v=ak ao n c) (hn:l.length=n) (hk:l[k]?=U x) :
  ∃ p:aN,(∀ w,(aG 25 (ak ao n c) (J O k)).run aj w=.ok (aC (U p)) w)/\∀ w,Below W.heap.size W w->w.cell? p=U (J O x.1)/\w.cell? ⟨p.block,p.off+1,aA⟩=U (J O x.2.1)/\w.cell? ⟨p.block,p.off+2,aA⟩=U (dH x.2.2.1)/\w.cell? ⟨p.block,p.off+3,aA⟩=U (J O x.2.2.2):=by
 obtain⟨p,h1,_,h2⟩:=mR okD h hv hn hk;exact⟨p,h1,fun w hw=>⟨by simpa [Z] using h2 w hw 0 _ rfl,by simpa [Z] using h2 w hw 1 _ rfl,by simpa [Z] using h2 w hw 2 _ rfl,by simpa [Z] using h2 w hw 3 _ rfl⟩⟩
abbrev iw:=Int×Int×Int×Int×Sl×Int×Bool
abbrev gu (x:iw):List Y:=[J O x.1,J O x.2.1,J O x.2.2.1,J O x.2.2.2.1,dH x.2.2.2.2.1,J O x.2.2.2.2.2.1,aS x.2.2.2.2.2.2]
abbrev rV (x:iw):Y:=aK #[J O x.1,J O x.2.1,J O x.2.2.1,J O x.2.2.2.1,dH x.2.2.2.2.1,J O x.2.2.2.2.2.1,aS x.2.2.2.2.2.2]
def EN:Ek iw:=⟨67,27,7,72,aK #[J O 0,J O 0,J O 0,J O 0,ak aA 0 0,J O 0,aS aU],rV,gu⟩
theorem Mx:(Tryz.prog.info? 67).map (fun i=>(i.zero,i.size,i.bytes))=U (U (aK #[J O 0,J O 0,J O 0,J O 0,ak aA 0 0,J O 0,aS aU]),7,72):=by kernel_rfl
theorem MF (w:X) (p:aN) (x:iw) (h:∀ j u,(gu x)[j]?=U u->w.cell? (p.add j)=U u):(aH 67 (aC (U p))).run aj w=.ok (rV x) w:=by
 have h0:=h 0 _ rfl;have h1:=h 1 _ rfl;have h2:=h 2 _ rfl;have h3:=h 3 _ rfl;have h4:=h 4 _ rfl;have h5:=h 5 _ rfl;have h6:=h 6 _ rfl;simp [Z] at h0 h1 h2 h3 h4 h5 h6;simp [go_sem,h0,h1,h2,h3,h4,h5,h6]
theorem jI:EN.Ok where
 hu:=Tryz.underlying27
 info:=by
  have h:=Mx;cases hi:Tryz.prog.info? 67 with
  | none=>rw [hi] at h; cases h
  | some i =>
   rw [hi] at h;simp only [aB,au,aD] at h;exact⟨i,hi,h.1,h.2.1,h.2.2⟩
 zs:=rfl
 len:=fun _=>rfl
 one:=fun x u hu=>by
  simp only [EN,gu,aF,ay,or_false] at hu;rcases hu with rfl|rfl|rfl|rfl|rfl|rfl|rfl <;> rfl
 pos:=by decide
 few:=by decide
 load:=fun w p x h=>MF w p x h
abbrev lC (W:X) (v:Y) (l:List iw):Prop:=Row EN W v l
abbrev iO (W:X) (B:Nat) (v:Y) (l:List iw):Prop:=Own EN W B v l
theorem Pg {W:X} {v:Y} {l:List iw} {ao:Option aN} {n c k:Nat} {x:iw} (h:lC W v l) (hv:v=ak ao n c) (hn:l.length=n) (hk:l[k]?=U x) :
  ∃ p:aN,(∀ w,(aG 27 (ak ao n c) (J O k)).run aj w=.ok (aC (U p)) w)/\∀ w,Below W.heap.size W w->w.cell? p=U (J O x.1)/\w.cell? ⟨p.block,p.off+1,aA⟩=U (J O x.2.1)/\w.cell? ⟨p.block,p.off+2,aA⟩=U (J O x.2.2.1)/\w.cell? ⟨p.block,p.off+3,aA⟩=U (J O x.2.2.2.1)/\w.cell? ⟨p.block,p.off+4,aA⟩=U (dH x.2.2.2.2.1)/\w.cell? ⟨p.block,p.off+5,aA⟩=U (J O x.2.2.2.2.2.1)/\w.cell? ⟨p.block,p.off+6,aA⟩=U (aS x.2.2.2.2.2.2):=by
 obtain⟨p,h1,_,h2⟩:=mR jI h hv hn hk;exact⟨p,h1,fun w hw=>⟨by simpa [Z] using h2 w hw 0 _ rfl,by simpa [Z] using h2 w hw 1 _ rfl,by simpa [Z] using h2 w hw 2 _ rfl,by simpa [Z] using h2 w hw 3 _ rfl,by simpa [Z] using h2 w hw 4 _ rfl,by simpa [Z] using h2 w hw 5 _ rfl,by simpa [Z] using h2 w hw 6 _ rfl⟩⟩
abbrev jJ:=Int×Int×Sl
abbrev iC (x:jJ):List Y:=[J O x.1,J O x.2.1,dH x.2.2]
abbrev Dy (x:jJ):Y:=aK #[J O x.1,J O x.2.1,dH x.2.2]
def EW:Ek jJ:=⟨88,28,3,40,aK #[J O 0,J O 0,ak aA 0 0],Dy,iC⟩
theorem MG:(Tryz.prog.info? 88).map (fun i=>(i.zero,i.size,i.bytes))=U (U (aK #[J O 0,J O 0,ak aA 0 0]),3,40):=by kernel_rfl
theorem MH (w:X) (p:aN) (x:jJ) (h:∀ j u,(iC x)[j]?=U u->w.cell? (p.add j)=U u):(aH 88 (aC (U p))).run aj w=.ok (Dy x) w:=by
 have h0:=h 0 _ rfl;have h1:=h 1 _ rfl;have h2:=h 2 _ rfl;simp [Z] at h0 h1 h2;simp [go_sem,h0,h1,h2]
theorem okW:EW.Ok where
 hu:=Tryz.underlying28
 info:=by
  have h:=MG;cases hi:Tryz.prog.info? 88 with
  | none=>rw [hi] at h; cases h
  | some i =>
   rw [hi] at h;simp only [aB,au,aD] at h;exact⟨i,hi,h.1,h.2.1,h.2.2⟩
 zs:=rfl
 len:=fun _=>rfl
 one:=fun x u hu=>by
  simp only [EW,iC,aF,ay,or_false] at hu;rcases hu with rfl|rfl|rfl <;> rfl
 pos:=by decide
 few:=by decide
 load:=fun w p x h=>MH w p x h
abbrev yt (W:X) (v:Y) (l:List jJ):Prop:=Row EW W v l
abbrev lD (W:X) (B:Nat) (v:Y) (l:List jJ):Prop:=Own EW W B v l
theorem SY {W:X} {v:Y} {l:List jJ} {ao:Option aN} {n c k:Nat} {x:jJ} (h:yt W v l) (hv:v=ak ao n c) (hn:l.length=n) (hk:l[k]?=U x) :
  ∃ p:aN,(∀ w,(aG 28 (ak ao n c) (J O k)).run aj w=.ok (aC (U p)) w)/\∀ w,Below W.heap.size W w->w.cell? p=U (J O x.1)/\w.cell? ⟨p.block,p.off+1,aA⟩=U (J O x.2.1)/\w.cell? ⟨p.block,p.off+2,aA⟩=U (dH x.2.2):=by
 obtain⟨p,h1,_,h2⟩:=mR okW h hv hn hk;exact⟨p,h1,fun w hw=>⟨by simpa [Z] using h2 w hw 0 _ rfl,by simpa [Z] using h2 w hw 1 _ rfl,by simpa [Z] using h2 w hw 2 _ rfl⟩⟩
structure Ad where
 id:Id
 p:List C5
 par:Int
structure En where
 tree:Id
 sub:Id
 p:List C5
 from_:Int
 up:Bool
structure Ow where
 id:Id
 p:List C5
structure Br where
 me:Int
 near:List Int
 dP:List Ad
 seen:List Id
 ent:List En
 own:List Ow
def uQ (W:X) (x:iQ) (a:Ad):Prop:=(x.1,x.2.1)=a.id/\x.2.2.2=a.par/\fI W (dH x.2.2.1) a.p
def kJ (W:X) (x:iw) (a:En):Prop:=(x.1,x.2.1)=a.tree/\(x.2.2.1,x.2.2.2.1)=a.sub/\x.2.2.2.2.2.1=a.from_/\x.2.2.2.2.2.2=a.up/\fI W (dH x.2.2.2.2.1) a.p
def AJ (W:X) (x:jJ) (a:Ow):Prop:=(x.1,x.2.1)=a.id/\fI W (dH x.2.2) a.p
theorem uQ.on {W W':X} {x:iQ} {a:Ad} (h:uQ W x a) (hb:Below W.heap.size W W'):uQ W' x a:=⟨h.1,h.2.1,h.2.2.on hb⟩
theorem kJ.on {W W':X} {x:iw} {a:En} (h:kJ W x a) (hb:Below W.heap.size W W'):kJ W' x a:=⟨h.1,h.2.1,h.2.2.1,h.2.2.2.1,h.2.2.2.2.on hb⟩
theorem AJ.on {W W':X} {x:jJ} {a:Ow} (h:AJ W x a) (hb:Below W.heap.size W W'):AJ W' x a:=⟨h.1,h.2.on hb⟩
inductive dV {α β:Type} (R:α->β->Prop):List α->List β->Prop
 | nil:dV R [] []
 | cons {a b l m} (h:R a b) (t:dV R l m):dV R (a::l) (b::m)
theorem dV.mono {α β:Type} {R S:α->β->Prop} (h:∀ a b,R a b->S a b):∀ {l m},dV R l m->dV S l m
 | _,_,.nil=>.nil
 | _,_,.cons x t=>.cons (h _ _ x) (t.mono h)
theorem dV.len {α β:Type} {R:α->β->Prop}:∀ {l m},dV R l m->l.length=m.length
 | _,_,.nil=>rfl
 | _,_,.cons _ t=>by rw [aL,aL,t.len]
theorem dV.at {α β:Type} {R:α->β->Prop}:∀ {l m} (_:dV R l m) (k:Nat) (b:β),m[k]?=U b->∃ a,l[k]?=U a/\R a b
 | _,_,.nil,k,b,h=>by simp at h
 | _,_,.cons x t,0,b,h=>by
  simp at h;subst h;exact⟨_,rfl,x⟩
 | _,_,.cons x t,k+1,b,h=>by
  obtain⟨a,h1,h2⟩:=t.at k b (by simpa using h);exact⟨a,by simpa using h1,h2⟩
theorem dV.append {α β:Type} {R:α->β->Prop}:∀ {l m l' m'},dV R l m->dV R l' m'->dV R (l++l') (m++m')
 | _,_,_,_,.nil,h=>h
 | _,_,_,_,.cons x t,h=>.cons x (t.append h)
theorem dV.take {α β:Type} {R:α->β->Prop}:∀ {l m} (k:Nat),dV R l m->dV R (l.take k) (m.take k)
 | _,_,0,_=>by simp only [List.take_zero]; exact .nil
 | _,_,k+1,.nil=>by simp only [List.take_nil]; exact .nil
 | _,_,k+1,.cons x t=>.cons x (t.take k)
theorem dV.drop {α β:Type} {R:α->β->Prop}:∀ {l m} (k:Nat),dV R l m->dV R (l.drop k) (m.drop k)
 | _,_,0,h=>h
 | _,_,_k+1,.nil=>.nil
 | _,_,k+1,.cons _ t=>t.drop k
structure ko (W:X) (b:Br) (nv av sv ev ov:Sl):Prop where
 near:Ao W (dH nv) b.near
 dP:∃ l,yj W (dH av) l/\dV (uQ W) l b.dP
 seen:uP W (dH sv) b.seen
 ent:∃ l,lC W (dH ev) l/\dV (kJ W) l b.ent
 own:∃ l,yt W (dH ov) l/\dV (AJ W) l b.own
theorem ko.on {W W':X} {b:Br} {nv av sv ev ov:Sl} (h:ko W b nv av sv ev ov) (hb:Below W.heap.size W W'):ko W' b nv av sv ev ov where
 near:=h.near.on hb
 dP:=by obtain⟨l,h1,h2⟩:=h.dP; exact⟨l,h1.on hb,h2.mono fun _ _ h=>h.on hb⟩
 seen:=h.seen.on hb
 ent:=by obtain⟨l,h1,h2⟩:=h.ent; exact⟨l,h1.on hb,h2.mono fun _ _ h=>h.on hb⟩
 own:=by obtain⟨l,h1,h2⟩:=h.own; exact⟨l,h1.on hb,h2.mono fun _ _ h=>h.on hb⟩
abbrev nS (me:Int) (nv av sv ev ov:Sl):Y:=aK #[J O me,dH nv,dH av,dH sv,dH ev,dH ov]
abbrev nT (me:Int) (nv av sv ev ov:Sl):Array Y:=#[J O me,dH nv,dH av,dH sv,dH ev,dH ov]
def dB (a b:Id):Bool:=decide (a.1<b.1) || (a.1 == b.1 && decide (a.2<b.2))
def eU:List Id->Id->Int
 | [],_=>-1
 | a::l,x=>if a=x then 0 else if eU l x=-1 then -1 else eU l x+1
def gy (l:List Id) (x:Id):Nat:=(l.takeWhile fun a=>dB a x).length
abbrev oJ (x:Id):Y:=aK #[J O x.1,J O x.2]
theorem zI:Tryz.prog.stoodInHeld 23=aU:=by kernel_rfl
theorem uR (a b c d:Int) (r:Bool) (h:(a == c && b == d)=r) (w:X):(binOp .eql 23 (aK #[J O a,J O b]) (aK #[J O c,J O d])).run aj w=.ok (aS r) w:=by
 have st:=zI;subst h;by_cases h1:a=c <;> by_cases h2:b=d <;> simp [go_sem,Tryz.underlying23,Tryz.underlying3,st,h1,h2]
theorem iM (w:X) (o:Obj):Below w.heap.size w (w.alloc o):=(Below.refl _ _).alloc (aI _) _
theorem gP (w:X) (c d:Array Y) (s t:aP):Below w.heap.size w ((w.alloc (.cells c s)).alloc (.cells d t))/\cZ ((w.alloc (.cells c s)).alloc (.cells d t)) w.heap.size c s/\cZ ((w.alloc (.cells c s)).alloc (.cells d t)) (w.heap.size+1) d t:=by
 refine⟨((Below.refl _ _).alloc (aI _) _).alloc (by simp) _,(dG w c s).more _,?_⟩;have h:=dG (w.alloc (.cells c s)) d t;simpa using h
theorem nU:∀ (l:List Id) (x:Id),-1<=eU l x
 | [],_=>by simp [eU]
 | a::l,x=>by
  unfold eU;have:=nU l x
  split
  ·omega
  ·split <;> omega
end Bk
namespace Rg
open Go.RowKit
theorem fM {P:Program} {ops:Array Oper} {Q:Exit->aT->X->Prop} {K:aT->X->Prop} {a:aT} {w w':X} {i:Nat} {o:Oper} (t:aP) (x y:Operand) {p v:Y}
  (ho:ops[i]?=U o) (hg:o.guard=aA) (hop:o.op=.store t x y) (hd:o.dst=aA) (hx:a.eval x=p) (hy:a.eval y=v) (hr:(Instr.storeAt t p v).run P w=.ok () w') (h:K a w'):wpOp P ops Q i K a w:=by
 refine Hg ho hg (Dx a.eval o t x y hop (by rw [hx,hy]; exact hr)) ?_;rw [hd];exact h
def uS (l:List Oper) (i:Nat):List Nat:=match l[i]? with
 | some o=>(o.after.toList.filter fun e=>ah .any e).map fun e=>e.on
 | none=>[]
def yu (l:List Oper):Nat->List Nat->List Nat
 | 0,s=>s
 | n+1,s=>yu l n (s++s.flatMap (uS l))
theorem zJ {l:List Oper} {D:Nat->Prop} {i:Nat} (h:∀ o,l[i]?=U o->∀ e∈o.after,ah .any e=aJ->D e.on):∀ j∈uS l i,D j:=by
 intro j hj;unfold uS at hj;cases ho:l[i]? with
 | none=>rw [ho] at hj; cases hj
 | some o =>
  rw [ho] at hj;obtain⟨e,he,rfl⟩:=List.mem_map.1 hj;obtain⟨h1,h2⟩:=List.mem_filter.1 he;exact h o ho e (Array.mem_toList_iff.1 h1) h2
theorem wo {l:List Oper} {D:Nat->Prop} (hc:∀ j o,D j->l[j]?=U o->∀ e∈o.after,ah .any e=aJ->D e.on):∀ n s,(∀ j∈s,D j)->∀ j∈yu l n s,D j
 | 0,_,hs=>hs
 | n+1,s,hs=>wo hc n _ fun j hj=>by
  rcases List.mem_append.1 hj with h|h
  ·exact hs j h
  ·obtain⟨i,hi,hd⟩:=List.mem_flatMap.1 h;exact zJ (fun o ho=>hc i o (hs i hi) ho) j hd
theorem kK {l:List Oper} {M:Nat} (n:Nat) (h:(List.range M).all (fun i=>(yu l n (uS l M)).contains i)=aJ) (D:Nat->Prop) (hc:∀ j o,D j->l[j]?=U o->∀ e∈o.after,ah .any e=aJ->D e.on) (hm:∀ o,l[M]?=U o->∀ e∈o.after,ah .any e=aJ->D e.on):∀ i,i<M->D i:=by
 intro i hi;have h2:=aM.1 h i (aO.2 hi);exact wo hc n _ (zJ hm) i (List.contains_iff_mem.1 h2)
theorem Dz {P:Program} (ρ:Operand->Y) (o:Oper) (t:aP) (ho:o.op=.alloc t) {v:Y} {w w':X} (hr:(Instr.alloc t aJ (.tuple #[])).run P w=.ok v w'):(execOp ρ o).run P w=.ok (.value v) w':=by
 simp [execOp,ho,hr,Result.andThen]
end Rg
namespace Rw
open Go.RowKit
theorem jA {α:Type} {E:Ek α} (K:E.Ok) {w:X} (B:Nat) {g:Nat} {x:Y} {m:List α} (jS:cZ w g #[] E.t) (hBg:B<=g) (hx:Row E w x m) (hm:m.length<=1000) (ty:aP) :
  ∃ v' w',(Builtin.append_ #[E.ts,E.ts] ty #[ak (U ⟨g,0,aA⟩) 0 0,x]).run aj w=.ok v' w'/\Own E w' B v' m/\Below w.heap.size w w':=by
 have ho:Own E w B (ak (U ⟨g,0,aA⟩) 0 0) ([]:List α):=jf K rfl hBg jS (aI _) (Nat.zero_le _) (by simp) (by simp [flat]);have hl:=jS.lt;obtain⟨v',w',r,o',gr⟩:=jq K B ho hx (by simp) hm (by omega) ty;refine⟨v',w',r,by simpa using o',?_⟩;obtain⟨i,i1,i2,i3,i4⟩:=K.info;rcases hx with⟨rfl,rfl⟩|⟨ad,c,rfl,h2,h3,h4⟩
 ·have r2:=run_append_owned_none (P:=aj) (w:=w) B E.ts ty E.t i E.n K.hu i1 _ _ _ ho;rw [r2] at r;injection r with _ e
  rw [<- e];exact Below.refl _ _
 ·rcases Nat.eq_zero_or_pos m.length with h0|h0
  ·have r2:=run_append_room (P:=aj) (w:=w) E.ts ty E.t i K.hu i1 g 0 0 #[] jS ad m.length c (flat E m) (by rw [dh K,i3]) h4 (iT K m) (by omega) (by rw [dh K,h0]; simp);rw [r2] at r;injection r with _ e
   rw [<- e];have hf:flat E m=[]:=List.eq_nil_of_length_eq_zero (by rw [dh K,h0]; simp);have hs:=cZ.set jS ((#[]:Array Y).toList.take (0 * i.size)++flat E m++(#[]:Array Y).toList.drop (0 * i.size+(flat E m).length)).toArray;refine⟨rfl,rfl,rfl,by simp [World.setRow],fun k hk=>?_⟩;by_cases hkg:k=g
   ·subst hkg;refine hs.trans ?_;rw [hf];simpa using jS.symm
   ·exact setRow_other w g k _ hkg
  ·have r2:=run_append_grow (P:=aj) (w:=w) E.ts ty E.t i E.z K.hu i1 i2 ⟨g,0,aA⟩ 0 0 [] (by simp) (fun j v h=>by simp at h) ad m.length c (flat E m) (by rw [dh K,i3]) h4 (by omega) (by omega) (by
    rw [aQ,nextslicecap_zero h0,i4];exact aR (Nat.mul_le_mul hm K.few) (by decide))
   rw [r2] at r;injection r with _ e
   rw [<- e];exact (Below.refl _ _).drew.alloc (aI _) _
end Rw
namespace Bk
open Go.RowKit Rw
theorem dn {α:Type} {E:Ek α} {W:X} {B C:Nat} {v:Y} {l:List α} (h:Own E W B v l) (hc:C<=B):Own E W C v l:=by
 refine⟨h.1,?_⟩;rcases h.2 with h2|⟨g,cap,cur,h1,h2,h3⟩
 ·exact Or.inl h2
 ·exact Or.inr ⟨g,cap,cur,h1,aR hc h2,h3⟩
theorem dw {α:Type} {E:Ek α} {W W':X} {B:Nat} {v:Y} {l:List α} (h:Own E W B v l) (hb:Below W.heap.size W W'):Own E W' B v l :=
 h.kept (w':=W') (row:=aA) ⟨hb.os,hb.tape,hb.output,hb.size,fun k hk _=>hb.block k hk⟩ (by cases v.ownBlock <;> simp)
theorem dN {α:Type} {E:Ek α} {W:X} {B:Nat} {v:Y} {l:List α} (h:Own E W B v l) (b k:Nat) (x:Y) (hb:b<B):Own E (W.setCell ⟨b,k,aA⟩ x) B v l :=
 h.kept (w':=W.setCell ⟨b,k,aA⟩ x) (row:=U b) ⟨rfl,rfl,rfl,by simp [World.setCell],fun j _ hne=>RowKit.Below.heap_setCell _ _ _ _ (fun e=>hne (by rw [e]))⟩ (by
  cases hv:v.ownBlock with
  | none=>exact Or.inl rfl
  | some j =>
   refine Or.inr fun e=>?_;injection e with e
   have h1:=(h.lt j hv).1;omega)
theorem dL {W:X} {rb k:Nat} {cs:Array Y} {t:aP} (h:cZ W rb cs t) (x:Y):cZ (W.setCell ⟨rb,k,aA⟩ x) rb (cs.setIfInBounds k x) t:=heap_setCell_same W rb k cs t x h
end Bk
namespace Rl
open Go.RowKit Pu Pr
theorem AO {a b:List Cn} (ha:je a) (h5:a.length<=5):qA (a++b)=iG a.length a b:=by
 have e:=Am a ha h5;rw [qA] at e;rw [qA,pQ a b [] a 0 e,aQ]
end Rl
namespace Rl
open Go.RowKit Pu Rw Pr
end Rl
namespace Rg
open Go.RowKit
structure Jj (i N:Nat) (dst:Nat->Option Nat) (last:Nat->Nat) (V:Nat->Y->X->Prop) (base:aT) (o:Oper) (a:aT) (w:X):Prop where
 kp:∀ j u,(∀ k,k<N->dst k≠U j)->base.tmps[j]?=U u->a.eval (.tmp j)=u
 at_:∀ e∈o.after,ah .any e=aJ->(last e.on=i\/N<=last e.on)->∀ d,dst e.on=U d->V e.on (a.eval (.tmp d)) w
 st:∀ e∈o.after,ah .any e=aJ->(last e.on=i\/N<=last e.on)->∃ v,V e.on v w
theorem sN (a:aT) (d:Option Nat) (v:Y) (j:Nat) (hj:d≠U j):(a.put d v).tmps[j]?=a.tmps[j]?:=by
 cases d with
 | none=>rfl
 | some d=>exact get_put _ _ _ _ (fun e=>hj (by rw [e]))
theorem DC (a:aT) (d:Option Nat) (v:Y):(a.put d v).tmps.size=a.tmps.size:=by
 cases d with
 | none=>rfl
 | some d=>exact size_put _ _ _
theorem put_defers (a:aT) (d:Option Nat) (v:Y):(a.put d v).defers=a.defers:=by
 cases d <;> rfl
structure S9 (l:List Oper) (N:Nat) (dst:Nat->Option Nat) (last:Nat->Nat) (V:Nat->Y->X->Prop) (F:(Nat->Prop)->X->Prop) (base:aT) (L:Array Bool) (a:aT) (x:X):Prop where
 cl:∀ i o,done L i->l[i]?=U o->∀ e∈o.after,ah .any e=aJ->done L e.on
 df:a.defers=base.defers
 sz:a.tmps.size=base.tmps.size
 kp:∀ j,(∀ i,i<N->dst i≠U j)->a.tmps[j]?=base.tmps[j]?
 fr:F (done L) x
 no:∀ i,N<=i->¬ done L i
 val:∃ vs:Nat->Y,∀ i,i<N->done L i->(∀ d,dst i=U d->a.tmps[d]?=U (vs i))/\(¬ done L (last i)->V i (vs i) x)
theorem lF {P:Program} {Q:Exit->aT->X->Prop} {id:Nat} {base:aT} {w:X} {l:List Oper} (N:Nat) (dst:Nat->Option Nat) (last:Nat->Nat) (V:Nat->Y->X->Prop) (F:(Nat->Prop)->X->Prop)
  (hm:P.follows .mixedOrders=aJ) (hf:yg l.toArray=aJ) (hN:l.length=N) (hinj:∀ i j d,i<N->j<N->dst i=U d->dst j=U d->i=j) (hs:∀ i d,i<N->dst i=U d->d<base.tmps.size) (h0:F (fun _=>False) w.drew)
  (hop:∀ i o,i<N->l[i]?=U o->∀ a w' (D:Nat->Prop),¬ D i->(∀ j oj,D j->l[j]?=U oj->∀ e∈oj.after,ah .any e=aJ->D e.on)->(∀ e∈o.after,ah .any e=aJ->D e.on)->F D w'->Jj i N dst last V base o a w'->∀ K:aT->X->Prop,(∀ v w'',V i v w''->F (fun j=>j=i\/D j) w''->(∀ j u,j<N->D j->¬ D (last j)->last j≠i->j≠i->V j u w'->V j u w'')->K (a.put (dst i) v) w'')->wpOp P l.toArray Q i K a w')
  (hend:∀ a w',a.defers=base.defers->a.tmps.size=base.tmps.size->(∀ j,(∀ i,i<N->dst i≠U j)->a.tmps[j]?=base.tmps[j]?)->(∃ vs:Nat->Y,∀ i,i<N->(∀ d,dst i=U d->a.tmps[d]?=U (vs i))/\(N<=last i->V i (vs i) w'))->(∃ D:Nat->Prop,(∀ i,i<N->D i)/\F D w')->Q .normal a w'):(Code.region id l.toArray aJ).wp P Q base w:=by
 refine kI (fun L a x=>S9 l N dst last V F base L a x) hm hf ?_ ?_ ?_
 ·exact⟨fun i o h=>absurd h (fA _ _),rfl,rfl,fun _ _=>rfl,by rw [show done (Array.replicate l.length aU)=fun _=>False from funext fun i=>propext ⟨fun h=>fA _ _ h,False.elim⟩]; exact h0,fun i _=>fA _ _,fun _=>.bool aJ,fun i _ h=>absurd h (fA _ _)⟩
 ·intro L a x i o hsz I ho hnd jC;have hi:i<l.length:=(List.getElem?_eq_some_iff.1 ho).1;have qD:i<L.size:=by omega
  have hiM:i<N:=by omega
  obtain⟨vs,q1⟩:=I.val;have hon:∀ e∈o.after,ah .any e=aJ->e.on<N:=fun e he hb=>by
   have h7:=aM.1 hf i (aO.2 (by simpa using hi));have ho':(l.toArray)[i]?=U o:=by simpa using ho
   rw [ho'] at h7;have h8:=Array.all_eq_true'.1 h7 e he;rw [hb] at h8;have:e.on<i:=by simpa using h8
   omega
  have lv:∀ e∈o.after,ah .any e=aJ->(last e.on=i\/N<=last e.on)->V e.on (vs e.on) x:=fun e he hbd hl=>by
   refine (q1 e.on (hon e he hbd) (jC e he hbd)).2 ?_;rcases hl with hl|hl
   ·rw [hl]; exact hnd
   ·exact I.no _ hl
  have seen:Jj i N dst last V base o a x:=⟨fun j u hj hu=>dD (by rw [I.kp j hj]; exact hu),fun e he hbd hl d hd=>by
   rw [dD ((q1 e.on (hon e he hbd) (jC e he hbd)).1 d hd)];exact lv e he hbd hl,fun e he hbd hl=>⟨_,lv e he hbd hl⟩⟩
  refine hop i o hiM ho a x (done L) hnd I.cl jC I.fr seen _ fun v w'' hvw hfw hpr=>?_;refine⟨fun k q hk hq e he hb=>?_,by rw [put_defers]; exact I.df,by rw [DC]; exact I.sz,fun j hj=>?_,by rw [show done (L.setIfInBounds i aJ)=fun j=>j=i\/done L j from funext fun j=>propext (eT qD j)]; exact hfw,fun k hk hd=>?_,fun k=>if k=i then v else vs k,fun k Hl hk=>?_⟩
  ·rw [eT qD] at hk ⊢;rcases hk with rfl|hk
   ·rw [hq] at ho;cases ho;exact Or.inr (jC e he hb)
   ·exact Or.inr (I.cl k q hk hq e he hb)
  ·rw [sN _ _ _ _ (hj i hiM)];exact I.kp j hj
  ·rcases (eT qD k).1 hd with h9|h9
   ·omega
   ·exact I.no k hk h9
  ·by_cases e:k=i
   ·subst e;simp only [if_true];refine⟨fun d hd=>?_,fun _=>hvw⟩;have h9:d<a.tmps.size:=by rw [I.sz]; exact hs k d Hl hd
    rw [hd];simp [Act.put,h9]
   ·simp only [if_neg e];rcases (eT qD k).1 hk with h9|h9
    ·exact absurd h9 e
    ·obtain⟨p1,p2⟩:=q1 k Hl h9;refine⟨fun d hd=>?_,fun hn=>?_⟩
     ·rw [sN _ _ _ _ (fun h=>e (hinj k i d Hl hiM hd h))];exact p1 d hd
     ·have n1:last k≠i:=fun e3=>hn ((eT qD _).2 (Or.inl e3));have n2:¬ done L (last k):=fun e3=>hn ((eT qD _).2 (Or.inr e3));exact hpr k _ Hl h9 n2 n1 e (p2 n2)
 ·intro L a x I hd;obtain⟨vs,q1⟩:=I.val;exact hend a x I.df I.sz I.kp ⟨vs,fun k hk=>⟨(q1 k hk (hd k (by omega))).1,fun hl=>(q1 k hk (hd k (by omega))).2 (I.no _ hl)⟩⟩ ⟨done L,fun i hi=>hd i (by omega),I.fr⟩
end Rg
end Go.Proofs.YtghlpefopidlaaaGreat
