/-
  Rows of IDs, of adve. Conditions as told.
-/
import Derived.Test.YtghlpefopidlaaaGreatBQ001
import Derived.Test.YtghlpefopidlaaaGreatBQ002
import Derived.Lib.QuietBelow
import Derived.BigQuiet
set_option maxRecDepth 100000
set_option maxHeartbeats 64000000
open _root_.Go renaming Value->O,World->Q,Addr->aD
open Go.Addr renaming add->K
open Go.Instr renaming indexAt->au,loadAt->aA
open Go.IntKind renaming i64->J
open Go.Proofs.Tryz renaming prog->U
open Go.Value renaming int->D,slice->V,pointer->ah,agg->aB,bool->aF
open _root_.List renaming not_mem_nil->Y,mem_cons->ak,length_cons->aC
open _root_.Option renaming some->L,map_some->Z,none->ay
open Option.some renaming injEq->X
open Prod.mk renaming injEq->aj
namespace Go.Proofs.YtghlpefopidlaaaGreat
namespace Bk
open Go.RowKit Rw YtghlpefopidlaaaGreat.Nm Pr
abbrev Sl:=Option aD×Nat×Nat
abbrev dQ (s:Sl):O:=V s.1 s.2.1 s.2.2
abbrev Id:=Int×Int
abbrev dV:=Id
abbrev kM (x:dV):List O:=[D J x.1,D J x.2]
abbrev VX (x:dV):O:=aB #[D J x.1,D J x.2]
def EJ:Ek dV:=⟨23,26,2,16,aB #[D J 0,D J 0],VX,kM⟩
theorem VY:(Tryz.prog.info? 23).map (fun i=>(i.zero,i.size,i.bytes))=L (L (aB #[D J 0,D J 0]),2,16):=by kernel_rfl
theorem VZ (w:Q) (p:aD) (x:dV) (h:∀ j u,(kM x)[j]?=L u->w.cell? (p.add j)=L u):(aA 23 (ah (L p))).run U w=.ok (VX x) w:=by
 have h0:=h 0 _ rfl;have h1:=h 1 _ rfl;simp [K] at h0 h1;simp [go_sem,h0,h1]
theorem BU:EJ.Ok where
 hu:=Tryz.underlying26
 info:=by
  have h:=VY;cases hi:Tryz.prog.info? 23 with
  | none=>rw [hi] at h; cases h
  | some i =>
   rw [hi] at h;simp only [Z,X,aj] at h;exact⟨i,hi,h.1,h.2.1,h.2.2⟩
 zs:=rfl
 len:=fun _=>rfl
 one:=fun x u hu=>by
  simp only [EJ,kM,ak,Y,or_false] at hu;rcases hu with rfl|rfl <;> rfl
 pos:=by decide
 few:=by decide
 load:=fun w p x h=>VZ w p x h
abbrev Ac (W:Q) (v:O) (l:List dV):Prop:=Row EJ W v l
abbrev Ca (W:Q) (B:Nat) (v:O) (l:List dV):Prop:=Own EJ W B v l
theorem elJ {W:Q} {v:O} {l:List dV} {ao:Option aD} {n c k:Nat} {x:dV} (h:Ac W v l) (hv:v=V ao n c) (hn:l.length=n) (hk:l[k]?=L x) :
  ∃ p:aD,(∀ w,(au 26 (V ao n c) (D J k)).run U w=.ok (ah (L p)) w)/\∀ w,Below W.heap.size W w->w.cell? p=L (D J x.1)/\w.cell? ⟨p.block,p.off+1,ay⟩=L (D J x.2):=by
 obtain⟨p,h1,_,h2⟩:=qH BU h hv hn hk;exact⟨p,h1,fun w hw=>⟨by simpa [K] using h2 w hw 0 _ rfl,by simpa [K] using h2 w hw 1 _ rfl⟩⟩
abbrev jS:=Int×Int×Sl×Int
abbrev cellsD (x:jS):List O:=[D J x.1,D J x.2.1,dQ x.2.2.1,D J x.2.2.2]
abbrev lJ (x:jS):O:=aB #[D J x.1,D J x.2.1,dQ x.2.2.1,D J x.2.2.2]
def ED:Ek jS:=⟨36,25,4,48,aB #[D J 0,D J 0,V ay 0 0,D J 0],lJ,cellsD⟩
theorem V5:(Tryz.prog.info? 36).map (fun i=>(i.zero,i.size,i.bytes))=L (L (aB #[D J 0,D J 0,V ay 0 0,D J 0]),4,48):=by kernel_rfl
theorem Rn (w:Q) (p:aD) (x:jS) (h:∀ j u,(cellsD x)[j]?=L u->w.cell? (p.add j)=L u):(aA 36 (ah (L p))).run U w=.ok (lJ x) w:=by
 have h0:=h 0 _ rfl;have h1:=h 1 _ rfl;have h2:=h 2 _ rfl;have h3:=h 3 _ rfl;simp [K] at h0 h1 h2 h3;simp [go_sem,h0,h1,h2,h3]
theorem okD:ED.Ok where
 hu:=Tryz.underlying25
 info:=by
  have h:=V5;cases hi:Tryz.prog.info? 36 with
  | none=>rw [hi] at h; cases h
  | some i =>
   rw [hi] at h;simp only [Z,X,aj] at h;exact⟨i,hi,h.1,h.2.1,h.2.2⟩
 zs:=rfl
 len:=fun _=>rfl
 one:=fun x u hu=>by
  simp only [ED,cellsD,ak,Y,or_false] at hu;rcases hu with rfl|rfl|rfl|rfl <;> rfl
 pos:=by decide
 few:=by decide
 load:=fun w p x h=>Rn w p x h
abbrev Er (W:Q) (v:O) (l:List jS):Prop:=Row ED W v l
abbrev qJ (W:Q) (B:Nat) (v:O) (l:List jS):Prop:=Own ED W B v l
theorem Zi {W:Q} {v:O} {l:List jS} {ao:Option aD} {n c k:Nat} {x:jS} (h:Er W v l) (hv:v=V ao n c) (hn:l.length=n) (hk:l[k]?=L x) :
  ∃ p:aD,(∀ w,(au 25 (V ao n c) (D J k)).run U w=.ok (ah (L p)) w)/\∀ w,Below W.heap.size W w->w.cell? p=L (D J x.1)/\w.cell? ⟨p.block,p.off+1,ay⟩=L (D J x.2.1)/\w.cell? ⟨p.block,p.off+2,ay⟩=L (dQ x.2.2.1)/\w.cell? ⟨p.block,p.off+3,ay⟩=L (D J x.2.2.2):=by
 obtain⟨p,h1,_,h2⟩:=qH okD h hv hn hk;exact⟨p,h1,fun w hw=>⟨by simpa [K] using h2 w hw 0 _ rfl,by simpa [K] using h2 w hw 1 _ rfl,by simpa [K] using h2 w hw 2 _ rfl,by simpa [K] using h2 w hw 3 _ rfl⟩⟩
abbrev jl:=Int×Int×Int×Int×Sl×Int×Bool
abbrev iU (x:jl):List O:=[D J x.1,D J x.2.1,D J x.2.2.1,D J x.2.2.2.1,dQ x.2.2.2.2.1,D J x.2.2.2.2.2.1,aF x.2.2.2.2.2.2]
abbrev xP (x:jl):O:=aB #[D J x.1,D J x.2.1,D J x.2.2.1,D J x.2.2.2.1,dQ x.2.2.2.2.1,D J x.2.2.2.2.2.1,aF x.2.2.2.2.2.2]
def EN:Ek jl:=⟨67,27,7,72,aB #[D J 0,D J 0,D J 0,D J 0,V ay 0 0,D J 0,aF false],xP,iU⟩
theorem V6:(Tryz.prog.info? 67).map (fun i=>(i.zero,i.size,i.bytes))=L (L (aB #[D J 0,D J 0,D J 0,D J 0,V ay 0 0,D J 0,aF false]),7,72):=by kernel_rfl
theorem V7 (w:Q) (p:aD) (x:jl) (h:∀ j u,(iU x)[j]?=L u->w.cell? (p.add j)=L u):(aA 67 (ah (L p))).run U w=.ok (xP x) w:=by
 have h0:=h 0 _ rfl;have h1:=h 1 _ rfl;have h2:=h 2 _ rfl;have h3:=h 3 _ rfl;have h4:=h 4 _ rfl;have h5:=h 5 _ rfl;have h6:=h 6 _ rfl;simp [K] at h0 h1 h2 h3 h4 h5 h6;simp [go_sem,h0,h1,h2,h3,h4,h5,h6]
theorem lY:EN.Ok where
 hu:=Tryz.underlying27
 info:=by
  have h:=V6;cases hi:Tryz.prog.info? 67 with
  | none=>rw [hi] at h; cases h
  | some i =>
   rw [hi] at h;simp only [Z,X,aj] at h;exact⟨i,hi,h.1,h.2.1,h.2.2⟩
 zs:=rfl
 len:=fun _=>rfl
 one:=fun x u hu=>by
  simp only [EN,iU,ak,Y,or_false] at hu;rcases hu with rfl|rfl|rfl|rfl|rfl|rfl|rfl <;> rfl
 pos:=by decide
 few:=by decide
 load:=fun w p x h=>V7 w p x h
abbrev mP (W:Q) (v:O) (l:List jl):Prop:=Row EN W v l
abbrev jM (W:Q) (B:Nat) (v:O) (l:List jl):Prop:=Own EN W B v l
theorem TT {W:Q} {v:O} {l:List jl} {ao:Option aD} {n c k:Nat} {x:jl} (h:mP W v l) (hv:v=V ao n c) (hn:l.length=n) (hk:l[k]?=L x) :
  ∃ p:aD,(∀ w,(au 27 (V ao n c) (D J k)).run U w=.ok (ah (L p)) w)/\∀ w,Below W.heap.size W w->w.cell? p=L (D J x.1)/\w.cell? ⟨p.block,p.off+1,ay⟩=L (D J x.2.1)/\w.cell? ⟨p.block,p.off+2,ay⟩=L (D J x.2.2.1)/\w.cell? ⟨p.block,p.off+3,ay⟩=L (D J x.2.2.2.1)/\w.cell? ⟨p.block,p.off+4,ay⟩=L (dQ x.2.2.2.2.1)/\w.cell? ⟨p.block,p.off+5,ay⟩=L (D J x.2.2.2.2.2.1)/\w.cell? ⟨p.block,p.off+6,ay⟩=L (aF x.2.2.2.2.2.2):=by
 obtain⟨p,h1,_,h2⟩:=qH lY h hv hn hk;exact⟨p,h1,fun w hw=>⟨by simpa [K] using h2 w hw 0 _ rfl,by simpa [K] using h2 w hw 1 _ rfl,by simpa [K] using h2 w hw 2 _ rfl,by simpa [K] using h2 w hw 3 _ rfl,by simpa [K] using h2 w hw 4 _ rfl,by simpa [K] using h2 w hw 5 _ rfl,by simpa [K] using h2 w hw 6 _ rfl⟩⟩
abbrev lZ:=Int×Int×Sl
abbrev jF (x:lZ):List O:=[D J x.1,D J x.2.1,dQ x.2.2]
abbrev KS (x:lZ):O:=aB #[D J x.1,D J x.2.1,dQ x.2.2]
def EW:Ek lZ:=⟨88,28,3,40,aB #[D J 0,D J 0,V ay 0 0],KS,jF⟩
theorem V8:(Tryz.prog.info? 88).map (fun i=>(i.zero,i.size,i.bytes))=L (L (aB #[D J 0,D J 0,V ay 0 0]),3,40):=by kernel_rfl
theorem Wd (w:Q) (p:aD) (x:lZ) (h:∀ j u,(jF x)[j]?=L u->w.cell? (p.add j)=L u):(aA 88 (ah (L p))).run U w=.ok (KS x) w:=by
 have h0:=h 0 _ rfl;have h1:=h 1 _ rfl;have h2:=h 2 _ rfl;simp [K] at h0 h1 h2;simp [go_sem,h0,h1,h2]
theorem okW:EW.Ok where
 hu:=Tryz.underlying28
 info:=by
  have h:=V8;cases hi:Tryz.prog.info? 88 with
  | none=>rw [hi] at h; cases h
  | some i =>
   rw [hi] at h;simp only [Z,X,aj] at h;exact⟨i,hi,h.1,h.2.1,h.2.2⟩
 zs:=rfl
 len:=fun _=>rfl
 one:=fun x u hu=>by
  simp only [EW,jF,ak,Y,or_false] at hu;rcases hu with rfl|rfl|rfl <;> rfl
 pos:=by decide
 few:=by decide
 load:=fun w p x h=>Wd w p x h
abbrev Es (W:Q) (v:O) (l:List lZ):Prop:=Row EW W v l
abbrev oP (W:Q) (B:Nat) (v:O) (l:List lZ):Prop:=Own EW W B v l
theorem elW {W:Q} {v:O} {l:List lZ} {ao:Option aD} {n c k:Nat} {x:lZ} (h:Es W v l) (hv:v=V ao n c) (hn:l.length=n) (hk:l[k]?=L x) :
  ∃ p:aD,(∀ w,(au 28 (V ao n c) (D J k)).run U w=.ok (ah (L p)) w)/\∀ w,Below W.heap.size W w->w.cell? p=L (D J x.1)/\w.cell? ⟨p.block,p.off+1,ay⟩=L (D J x.2.1)/\w.cell? ⟨p.block,p.off+2,ay⟩=L (dQ x.2.2):=by
 obtain⟨p,h1,_,h2⟩:=qH okW h hv hn hk;exact⟨p,h1,fun w hw=>⟨by simpa [K] using h2 w hw 0 _ rfl,by simpa [K] using h2 w hw 1 _ rfl,by simpa [K] using h2 w hw 2 _ rfl⟩⟩
structure Ad where
 id:Id
 p:List C5
 par:Int
structure En where
 tree:Id
 sub:Id
 p:List C5
 from_:Int
 up:Bool
structure Ow where
 id:Id
 p:List C5
structure Br where
 me:Int
 near:List Int
 dW:List Ad
 seen:List Id
 ent:List En
 own:List Ow
def xQ (W:Q) (x:jS) (a:Ad):Prop:=(x.1,x.2.1)=a.id/\x.2.2.2=a.par/\fF W (dQ x.2.2.1) a.p
def kP (W:Q) (x:jl) (a:En):Prop:=(x.1,x.2.1)=a.tree/\(x.2.2.1,x.2.2.2.1)=a.sub/\x.2.2.2.2.2.1=a.from_/\x.2.2.2.2.2.2=a.up/\fF W (dQ x.2.2.2.2.1) a.p
def II (W:Q) (x:lZ) (a:Ow):Prop:=(x.1,x.2.1)=a.id/\fF W (dQ x.2.2) a.p
theorem xQ.on {W W':Q} {x:jS} {a:Ad} (h:xQ W x a) (hb:Below W.heap.size W W'):xQ W' x a:=⟨h.1,h.2.1,h.2.2.on hb⟩
theorem kP.on {W W':Q} {x:jl} {a:En} (h:kP W x a) (hb:Below W.heap.size W W'):kP W' x a:=⟨h.1,h.2.1,h.2.2.1,h.2.2.2.1,h.2.2.2.2.on hb⟩
theorem II.on {W W':Q} {x:lZ} {a:Ow} (h:II W x a) (hb:Below W.heap.size W W'):II W' x a:=⟨h.1,h.2.on hb⟩
inductive eT {α β:Type} (R:α->β->Prop):List α->List β->Prop
 | nil:eT R [] []
 | cons {a b l m} (h:R a b) (t:eT R l m):eT R (a::l) (b::m)
theorem eT.mono {α β:Type} {R S:α->β->Prop} (h:∀ a b,R a b->S a b):∀ {l m},eT R l m->eT S l m
 | _,_,.nil=>.nil
 | _,_,.cons x t=>.cons (h _ _ x) (t.mono h)
theorem eT.len {α β:Type} {R:α->β->Prop}:∀ {l m},eT R l m->l.length=m.length
 | _,_,.nil=>rfl
 | _,_,.cons _ t=>by rw [aC,aC,t.len]
theorem eT.at {α β:Type} {R:α->β->Prop}:∀ {l m} (_:eT R l m) (k:Nat) (b:β),m[k]?=L b->∃ a,l[k]?=L a/\R a b
 | _,_,.nil,k,b,h=>by simp at h
 | _,_,.cons x t,0,b,h=>by
  simp at h;subst h;exact⟨_,rfl,x⟩
 | _,_,.cons x t,k+1,b,h=>by
  obtain⟨a,h1,h2⟩:=t.at k b (by simpa using h);exact⟨a,by simpa using h1,h2⟩
theorem eT.append {α β:Type} {R:α->β->Prop}:∀ {l m l' m'},eT R l m->eT R l' m'->eT R (l++l') (m++m')
 | _,_,_,_,.nil,h=>h
 | _,_,_,_,.cons x t,h=>.cons x (t.append h)
theorem eT.take {α β:Type} {R:α->β->Prop}:∀ {l m} (k:Nat),eT R l m->eT R (l.take k) (m.take k)
 | _,_,0,_=>by simp only [List.take_zero]; exact .nil
 | _,_,k+1,.nil=>by simp only [List.take_nil]; exact .nil
 | _,_,k+1,.cons x t=>.cons x (t.take k)
theorem eT.drop {α β:Type} {R:α->β->Prop}:∀ {l m} (k:Nat),eT R l m->eT R (l.drop k) (m.drop k)
 | _,_,0,h=>h
 | _,_,_k+1,.nil=>.nil
 | _,_,k+1,.cons _ t=>t.drop k
structure ny (W:Q) (b:Br) (nv av sv ev ov:Sl):Prop where
 near:Bw W (dQ nv) b.near
 dW:∃ l,Er W (dQ av) l/\eT (xQ W) l b.dW
 seen:Ac W (dQ sv) b.seen
 ent:∃ l,mP W (dQ ev) l/\eT (kP W) l b.ent
 own:∃ l,Es W (dQ ov) l/\eT (II W) l b.own
theorem ny.on {W W':Q} {b:Br} {nv av sv ev ov:Sl} (h:ny W b nv av sv ev ov) (hb:Below W.heap.size W W'):ny W' b nv av sv ev ov where
 near:=h.near.on hb
 dW:=by obtain⟨l,h1,h2⟩:=h.dW; exact⟨l,h1.on hb,h2.mono fun _ _ h=>h.on hb⟩
 seen:=h.seen.on hb
 ent:=by obtain⟨l,h1,h2⟩:=h.ent; exact⟨l,h1.on hb,h2.mono fun _ _ h=>h.on hb⟩
 own:=by obtain⟨l,h1,h2⟩:=h.own; exact⟨l,h1.on hb,h2.mono fun _ _ h=>h.on hb⟩
abbrev mg (me:Int) (nv av sv ev ov:Sl):O:=aB #[D J me,dQ nv,dQ av,dQ sv,dQ ev,dQ ov]
abbrev nV (me:Int) (nv av sv ev ov:Sl):Array O:=#[D J me,dQ nv,dQ av,dQ sv,dQ ev,dQ ov]
def dP (a b:Id):Bool:=decide (a.1<b.1) || (a.1 == b.1 && decide (a.2<b.2))
def fH:List Id->Id->Int
 | [],_=>-1
 | a::l,x=>if a=x then 0 else if fH l x=-1 then -1 else fH l x+1
def gQ (l:List Id) (x:Id):Nat:=(l.takeWhile fun a=>dP a x).length
abbrev oK (x:Id):O:=aB #[D J x.1,D J x.2]
theorem Gx:Tryz.prog.stoodInHeld 23=false:=by kernel_rfl
theorem Ae (a b c d:Int) (r:Bool) (h:(a == c && b == d)=r) (w:Q):(binOp .eql 23 (aB #[D J a,D J b]) (aB #[D J c,D J d])).run U w=.ok (aF r) w:=by
 have st:=Gx;subst h;by_cases h1:a=c <;> by_cases h2:b=d <;> simp [go_sem,Tryz.underlying23,Tryz.underlying3,st,h1,h2]
theorem jk (w:Q) (o:Obj):Below w.heap.size w (w.alloc o):=(Below.refl _ _).alloc (Nat.le_refl _) _
theorem jd (w:Q) (c d:Array O) (s t:TypeId):Below w.heap.size w ((w.alloc (.cells c s)).alloc (.cells d t))/\dG ((w.alloc (.cells c s)).alloc (.cells d t)) w.heap.size c s/\dG ((w.alloc (.cells c s)).alloc (.cells d t)) (w.heap.size+1) d t:=by
 refine⟨((Below.refl _ _).alloc (Nat.le_refl _) _).alloc (by simp) _,(dO w c s).more _,?_⟩;have h:=dO (w.alloc (.cells c s)) d t;simpa using h
theorem ru:∀ (l:List Id) (x:Id),-1<=fH l x
 | [],_=>by simp [fH]
 | a::l,x=>by
  unfold fH;have:=ru l x
  split
  ·omega
  ·split <;> omega
theorem dK {α:Type} {E:Ek α} {W:Q} {B C:Nat} {v:O} {l:List α} (h:Own E W B v l) (hc:C<=B):Own E W C v l:=by
 refine⟨h.1,?_⟩;rcases h.2 with h2|⟨g,cap,cur,h1,h2,h3⟩
 ·exact Or.inl h2
 ·exact Or.inr ⟨g,cap,cur,h1,Nat.le_trans hc h2,h3⟩
theorem dL {α:Type} {E:Ek α} {W W':Q} {B:Nat} {v:O} {l:List α} (h:Own E W B v l) (hb:Below W.heap.size W W'):Own E W' B v l :=
 h.kept (w':=W') (row:=ay) ⟨hb.os,hb.tape,hb.output,hb.size,fun k hk _=>hb.block k hk⟩ (by cases v.ownBlock <;> simp)
theorem eO {α:Type} {E:Ek α} {W:Q} {B:Nat} {v:O} {l:List α} (h:Own E W B v l) (b k:Nat) (x:O) (hb:b<B):Own E (W.setCell ⟨b,k,ay⟩ x) B v l :=
 h.kept (w':=W.setCell ⟨b,k,ay⟩ x) (row:=L b) ⟨rfl,rfl,rfl,by simp [World.setCell],fun j _ hne=>RowKit.Below.heap_setCell _ _ _ _ (fun e=>hne (by rw [e]))⟩ (by
  cases hv:v.ownBlock with
  | none=>exact Or.inl rfl
  | some j =>
   refine Or.inr fun e=>?_;injection e with e
   have h1:=(h.lt j hv).1;omega)
theorem eu {W:Q} {rb k:Nat} {cs:Array O} {t:TypeId} (h:dG W rb cs t) (x:O):dG (W.setCell ⟨rb,k,ay⟩ x) rb (cs.setIfInBounds k x) t:=heap_setCell_same W rb k cs t x h
end Bk
namespace Pr
open Go.RowKit Go.Sort Pu Rw Va
end Pr
end Go.Proofs.YtghlpefopidlaaaGreat
