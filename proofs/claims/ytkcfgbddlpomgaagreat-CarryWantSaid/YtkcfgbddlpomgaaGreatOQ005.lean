/-
  Rows of IDs, of adve. Conditions as told.
-/
import Derived.Test.YtkcfgbddlpomgaaGreatOQ001
import Derived.Test.YtkcfgbddlpomgaaGreatOQ004
set_option maxRecDepth 100000
set_option maxHeartbeats 64000000
open _root_.Go renaming World->U,Value->X,Addr->aM
open Go.Addr renaming add->K
open Go.Instr renaming indexAt->aC,loadAt->aG
open Go.IntKind renaming i64->J
open Go.Lib renaming hid->L
open Go.Obj renaming cells->ak
open Go.Proofs.Tryz renaming prog->V
open Go.RowKit renaming Below->ay
open Go.Value renaming int->D,slice->O,pointer->au,agg->aI,bool->aO
open _root_.List renaming getElem?_eq_getElem->Y,not_mem_nil->ah,mem_cons->aB,getElem?_cons_zero->aD,getElem?_cons_succ->aF,getElem?_toArray->aH,map_cons->aK,length_cons->aL
open _root_.Option renaming some->Q,map_some->aj,none->aJ
open Option.some renaming injEq->Z,inj->aN
open Prod.mk renaming injEq->aA
namespace Go.Proofs.YtkcfgbddlpomgaaGreat.Bk
open Go.RowKit Rw YtkcfgbddlpomgaaGreat.Nm Pr
abbrev Sl:=Option aM×Nat×Nat
abbrev dU (s:Sl):X:=O s.1 s.2.1 s.2.2
abbrev Id:=Int×Int
abbrev eT:=Id
abbrev jQ (x:eT):List X:=[D J x.1,D J x.2]
abbrev SF (x:eT):X:=aI #[D J x.1,D J x.2]
def EJ:Ek eT:=⟨38,29,2,16,aI #[D J 0,D J 0],SF,jQ⟩
theorem aeQ:(Tryz.prog.info? 38).map (fun i=>(i.zero,i.size,i.bytes))=Q (Q (aI #[D J 0,D J 0]),2,16):=by kernel_rfl
theorem Dl (w:U) (p:aM) (x:eT) (h:∀ j u,(jQ x)[j]?=Q u->w.cell? (p.add j)=Q u):(aG 38 (au (Q p))).run V w=.ok (SF x) w:=by
 have h0:=h 0 _ rfl;have h1:=h 1 _ rfl;simp [K] at h0 h1;simp [go_sem,h0,h1]
theorem zP:EJ.Ok where
 hu:=Tryz.underlying29
 info:=by
  have h:=aeQ;cases hi:Tryz.prog.info? 38 with
  | none=>rw [hi] at h; cases h
  | some i =>
   rw [hi] at h;simp only [aj,Z,aA] at h;exact⟨i,hi,h.1,h.2.1,h.2.2⟩
 zs:=rfl
 len:=fun _=>rfl
 one:=fun x u hu=>by
  simp only [EJ,jQ,aB,ah,or_false] at hu;rcases hu with rfl|rfl <;> rfl
 pos:=by decide
 few:=by decide
 load:=fun w p x h=>Dl w p x h
abbrev xP (W:U) (v:X) (l:List eT):Prop:=Row EJ W v l
abbrev qY (W:U) (B:Nat) (v:X) (l:List eT):Prop:=Own EJ W B v l
theorem elJ {W:U} {v:X} {l:List eT} {ao:Option aM} {n c k:Nat} {x:eT} (h:xP W v l) (hv:v=O ao n c) (hn:l.length=n) (hk:l[k]?=Q x) :
  ∃ p:aM,(∀ w,(aC 29 (O ao n c) (D J k)).run V w=.ok (au (Q p)) w)/\∀ w,ay W.heap.size W w->w.cell? p=Q (D J x.1)/\w.cell? ⟨p.block,p.off+1,aJ⟩=Q (D J x.2):=by
 obtain⟨p,h1,_,h2⟩:=nC zP h hv hn hk;exact⟨p,h1,fun w hw=>⟨by simpa [K] using h2 w hw 0 _ rfl,by simpa [K] using h2 w hw 1 _ rfl⟩⟩
abbrev kr:=Int×Int×Sl×Int
abbrev cellsD (x:kr):List X:=[D J x.1,D J x.2.1,dU x.2.2.1,D J x.2.2.2]
abbrev nR (x:kr):X:=aI #[D J x.1,D J x.2.1,dU x.2.2.1,D J x.2.2.2]
def ED:Ek kr:=⟨53,28,4,48,aI #[D J 0,D J 0,O aJ 0 0,D J 0],nR,cellsD⟩
theorem aeR:(Tryz.prog.info? 53).map (fun i=>(i.zero,i.size,i.bytes))=Q (Q (aI #[D J 0,D J 0,O aJ 0 0,D J 0]),4,48):=by kernel_rfl
theorem SG (w:U) (p:aM) (x:kr) (h:∀ j u,(cellsD x)[j]?=Q u->w.cell? (p.add j)=Q u):(aG 53 (au (Q p))).run V w=.ok (nR x) w:=by
 have h0:=h 0 _ rfl;have h1:=h 1 _ rfl;have h2:=h 2 _ rfl;have h3:=h 3 _ rfl;simp [K] at h0 h1 h2 h3;simp [go_sem,h0,h1,h2,h3]
theorem okD:ED.Ok where
 hu:=Tryz.underlying28
 info:=by
  have h:=aeR;cases hi:Tryz.prog.info? 53 with
  | none=>rw [hi] at h; cases h
  | some i =>
   rw [hi] at h;simp only [aj,Z,aA] at h;exact⟨i,hi,h.1,h.2.1,h.2.2⟩
 zs:=rfl
 len:=fun _=>rfl
 one:=fun x u hu=>by
  simp only [ED,cellsD,aB,ah,or_false] at hu;rcases hu with rfl|rfl|rfl|rfl <;> rfl
 pos:=by decide
 few:=by decide
 load:=fun w p x h=>SG w p x h
abbrev wB (W:U) (v:X) (l:List kr):Prop:=Row ED W v l
abbrev lD (W:U) (B:Nat) (v:X) (l:List kr):Prop:=Own ED W B v l
theorem Yh {W:U} {v:X} {l:List kr} {ao:Option aM} {n c k:Nat} {x:kr} (h:wB W v l) (hv:v=O ao n c) (hn:l.length=n) (hk:l[k]?=Q x) :
  ∃ p:aM,(∀ w,(aC 28 (O ao n c) (D J k)).run V w=.ok (au (Q p)) w)/\∀ w,ay W.heap.size W w->w.cell? p=Q (D J x.1)/\w.cell? ⟨p.block,p.off+1,aJ⟩=Q (D J x.2.1)/\w.cell? ⟨p.block,p.off+2,aJ⟩=Q (dU x.2.2.1)/\w.cell? ⟨p.block,p.off+3,aJ⟩=Q (D J x.2.2.2):=by
 obtain⟨p,h1,_,h2⟩:=nC okD h hv hn hk;exact⟨p,h1,fun w hw=>⟨by simpa [K] using h2 w hw 0 _ rfl,by simpa [K] using h2 w hw 1 _ rfl,by simpa [K] using h2 w hw 2 _ rfl,by simpa [K] using h2 w hw 3 _ rfl⟩⟩
abbrev iH:=Int×Int×Int×Int×Sl×Int×Bool
abbrev iR (x:iH):List X:=[D J x.1,D J x.2.1,D J x.2.2.1,D J x.2.2.2.1,dU x.2.2.2.2.1,D J x.2.2.2.2.2.1,aO x.2.2.2.2.2.2]
abbrev qg (x:iH):X:=aI #[D J x.1,D J x.2.1,D J x.2.2.1,D J x.2.2.2.1,dU x.2.2.2.2.1,D J x.2.2.2.2.2.1,aO x.2.2.2.2.2.2]
def EN:Ek iH:=⟨68,30,7,72,aI #[D J 0,D J 0,D J 0,D J 0,O aJ 0 0,D J 0,aO false],qg,iR⟩
theorem aeS:(Tryz.prog.info? 68).map (fun i=>(i.zero,i.size,i.bytes))=Q (Q (aI #[D J 0,D J 0,D J 0,D J 0,O aJ 0 0,D J 0,aO false]),7,72):=by kernel_rfl
theorem aaf (w:U) (p:aM) (x:iH) (h:∀ j u,(iR x)[j]?=Q u->w.cell? (p.add j)=Q u):(aG 68 (au (Q p))).run V w=.ok (qg x) w:=by
 have h0:=h 0 _ rfl;have h1:=h 1 _ rfl;have h2:=h 2 _ rfl;have h3:=h 3 _ rfl;have h4:=h 4 _ rfl;have h5:=h 5 _ rfl;have h6:=h 6 _ rfl;simp [K] at h0 h1 h2 h3 h4 h5 h6;simp [go_sem,h0,h1,h2,h3,h4,h5,h6]
theorem lF:EN.Ok where
 hu:=Tryz.underlying30
 info:=by
  have h:=aeS;cases hi:Tryz.prog.info? 68 with
  | none=>rw [hi] at h; cases h
  | some i =>
   rw [hi] at h;simp only [aj,Z,aA] at h;exact⟨i,hi,h.1,h.2.1,h.2.2⟩
 zs:=rfl
 len:=fun _=>rfl
 one:=fun x u hu=>by
  simp only [EN,iR,aB,ah,or_false] at hu;rcases hu with rfl|rfl|rfl|rfl|rfl|rfl|rfl <;> rfl
 pos:=by decide
 few:=by decide
 load:=fun w p x h=>aaf w p x h
abbrev kM (W:U) (v:X) (l:List iH):Prop:=Row EN W v l
abbrev iU (W:U) (B:Nat) (v:X) (l:List iH):Prop:=Own EN W B v l
theorem Pv {W:U} {v:X} {l:List iH} {ao:Option aM} {n c k:Nat} {x:iH} (h:kM W v l) (hv:v=O ao n c) (hn:l.length=n) (hk:l[k]?=Q x) :
  ∃ p:aM,(∀ w,(aC 30 (O ao n c) (D J k)).run V w=.ok (au (Q p)) w)/\∀ w,ay W.heap.size W w->w.cell? p=Q (D J x.1)/\w.cell? ⟨p.block,p.off+1,aJ⟩=Q (D J x.2.1)/\w.cell? ⟨p.block,p.off+2,aJ⟩=Q (D J x.2.2.1)/\w.cell? ⟨p.block,p.off+3,aJ⟩=Q (D J x.2.2.2.1)/\w.cell? ⟨p.block,p.off+4,aJ⟩=Q (dU x.2.2.2.2.1)/\w.cell? ⟨p.block,p.off+5,aJ⟩=Q (D J x.2.2.2.2.2.1)/\w.cell? ⟨p.block,p.off+6,aJ⟩=Q (aO x.2.2.2.2.2.2):=by
 obtain⟨p,h1,_,h2⟩:=nC lF h hv hn hk;exact⟨p,h1,fun w hw=>⟨by simpa [K] using h2 w hw 0 _ rfl,by simpa [K] using h2 w hw 1 _ rfl,by simpa [K] using h2 w hw 2 _ rfl,by simpa [K] using h2 w hw 3 _ rfl,by simpa [K] using h2 w hw 4 _ rfl,by simpa [K] using h2 w hw 5 _ rfl,by simpa [K] using h2 w hw 6 _ rfl⟩⟩
abbrev pK:=Int×Int×Sl
abbrev qK (x:pK):List X:=[D J x.1,D J x.2.1,dU x.2.2]
abbrev Kn (x:pK):X:=aI #[D J x.1,D J x.2.1,dU x.2.2]
def EW:Ek pK:=⟨61,31,3,40,aI #[D J 0,D J 0,O aJ 0 0],Kn,qK⟩
theorem aeT:(Tryz.prog.info? 61).map (fun i=>(i.zero,i.size,i.bytes))=Q (Q (aI #[D J 0,D J 0,O aJ 0 0]),3,40):=by kernel_rfl
theorem aeU (w:U) (p:aM) (x:pK) (h:∀ j u,(qK x)[j]?=Q u->w.cell? (p.add j)=Q u):(aG 61 (au (Q p))).run V w=.ok (Kn x) w:=by
 have h0:=h 0 _ rfl;have h1:=h 1 _ rfl;have h2:=h 2 _ rfl;simp [K] at h0 h1 h2;simp [go_sem,h0,h1,h2]
theorem okW:EW.Ok where
 hu:=Tryz.underlying31
 info:=by
  have h:=aeT;cases hi:Tryz.prog.info? 61 with
  | none=>rw [hi] at h; cases h
  | some i =>
   rw [hi] at h;simp only [aj,Z,aA] at h;exact⟨i,hi,h.1,h.2.1,h.2.2⟩
 zs:=rfl
 len:=fun _=>rfl
 one:=fun x u hu=>by
  simp only [EW,qK,aB,ah,or_false] at hu;rcases hu with rfl|rfl|rfl <;> rfl
 pos:=by decide
 few:=by decide
 load:=fun w p x h=>aeU w p x h
abbrev Ko (W:U) (v:X) (l:List pK):Prop:=Row EW W v l
abbrev og (W:U) (B:Nat) (v:X) (l:List pK):Prop:=Own EW W B v l
theorem elW {W:U} {v:X} {l:List pK} {ao:Option aM} {n c k:Nat} {x:pK} (h:Ko W v l) (hv:v=O ao n c) (hn:l.length=n) (hk:l[k]?=Q x) :
  ∃ p:aM,(∀ w,(aC 31 (O ao n c) (D J k)).run V w=.ok (au (Q p)) w)/\∀ w,ay W.heap.size W w->w.cell? p=Q (D J x.1)/\w.cell? ⟨p.block,p.off+1,aJ⟩=Q (D J x.2.1)/\w.cell? ⟨p.block,p.off+2,aJ⟩=Q (dU x.2.2):=by
 obtain⟨p,h1,_,h2⟩:=nC okW h hv hn hk;exact⟨p,h1,fun w hw=>⟨by simpa [K] using h2 w hw 0 _ rfl,by simpa [K] using h2 w hw 1 _ rfl,by simpa [K] using h2 w hw 2 _ rfl⟩⟩
structure Ad where
 id:Id
 p:List C5
 par:Int
structure En where
 tree:Id
 sub:Id
 p:List C5
 from_:Int
 up:Bool
structure Ow where
 id:Id
 p:List C5
structure Br where
 me:Int
 near:List Int
 dQ:List Ad
 seen:List Id
 ent:List En
 own:List Ow
def vM (W:U) (x:kr) (a:Ad):Prop:=(x.1,x.2.1)=a.id/\x.2.2.2=a.par/\gu W (dU x.2.2.1) a.p
def jd (W:U) (x:iH) (a:En):Prop:=(x.1,x.2.1)=a.tree/\(x.2.2.1,x.2.2.2.1)=a.sub/\x.2.2.2.2.2.1=a.from_/\x.2.2.2.2.2.2=a.up/\gu W (dU x.2.2.2.2.1) a.p
def Cx (W:U) (x:pK) (a:Ow):Prop:=(x.1,x.2.1)=a.id/\gu W (dU x.2.2) a.p
theorem vM.on {W W':U} {x:kr} {a:Ad} (h:vM W x a) (hb:ay W.heap.size W W'):vM W' x a:=⟨h.1,h.2.1,h.2.2.on hb⟩
theorem jd.on {W W':U} {x:iH} {a:En} (h:jd W x a) (hb:ay W.heap.size W W'):jd W' x a:=⟨h.1,h.2.1,h.2.2.1,h.2.2.2.1,h.2.2.2.2.on hb⟩
theorem Cx.on {W W':U} {x:pK} {a:Ow} (h:Cx W x a) (hb:ay W.heap.size W W'):Cx W' x a:=⟨h.1,h.2.on hb⟩
inductive eH {α β:Type} (R:α->β->Prop):List α->List β->Prop
 | nil:eH R [] []
 | cons {a b l m} (h:R a b) (t:eH R l m):eH R (a::l) (b::m)
theorem eH.mono {α β:Type} {R S:α->β->Prop} (h:∀ a b,R a b->S a b):∀ {l m},eH R l m->eH S l m
 | _,_,.nil=>.nil
 | _,_,.cons x t=>.cons (h _ _ x) (t.mono h)
theorem eH.len {α β:Type} {R:α->β->Prop}:∀ {l m},eH R l m->l.length=m.length
 | _,_,.nil=>rfl
 | _,_,.cons _ t=>by rw [aL,aL,t.len]
theorem eH.at {α β:Type} {R:α->β->Prop}:∀ {l m} (_:eH R l m) (k:Nat) (b:β),m[k]?=Q b->∃ a,l[k]?=Q a/\R a b
 | _,_,.nil,k,b,h=>by simp at h
 | _,_,.cons x t,0,b,h=>by
  simp at h;subst h;exact⟨_,rfl,x⟩
 | _,_,.cons x t,k+1,b,h=>by
  obtain⟨a,h1,h2⟩:=t.at k b (by simpa using h);exact⟨a,by simpa using h1,h2⟩
theorem eH.append {α β:Type} {R:α->β->Prop}:∀ {l m l' m'},eH R l m->eH R l' m'->eH R (l++l') (m++m')
 | _,_,_,_,.nil,h=>h
 | _,_,_,_,.cons x t,h=>.cons x (t.append h)
theorem eH.take {α β:Type} {R:α->β->Prop}:∀ {l m} (k:Nat),eH R l m->eH R (l.take k) (m.take k)
 | _,_,0,_=>by simp only [List.take_zero]; exact .nil
 | _,_,k+1,.nil=>by simp only [List.take_nil]; exact .nil
 | _,_,k+1,.cons x t=>.cons x (t.take k)
theorem eH.drop {α β:Type} {R:α->β->Prop}:∀ {l m} (k:Nat),eH R l m->eH R (l.drop k) (m.drop k)
 | _,_,0,h=>h
 | _,_,_k+1,.nil=>.nil
 | _,_,k+1,.cons _ t=>t.drop k
structure iI (W:U) (b:Br) (nv av sv ev ov:Sl):Prop where
 near:qI W (dU nv) b.near
 dQ:∃ l,wB W (dU av) l/\eH (vM W) l b.dQ
 seen:xP W (dU sv) b.seen
 ent:∃ l,kM W (dU ev) l/\eH (jd W) l b.ent
 own:∃ l,Ko W (dU ov) l/\eH (Cx W) l b.own
theorem iI.on {W W':U} {b:Br} {nv av sv ev ov:Sl} (h:iI W b nv av sv ev ov) (hb:ay W.heap.size W W'):iI W' b nv av sv ev ov where
 near:=h.near.on hb
 dQ:=by obtain⟨l,h1,h2⟩:=h.dQ; exact⟨l,h1.on hb,h2.mono fun _ _ h=>h.on hb⟩
 seen:=h.seen.on hb
 ent:=by obtain⟨l,h1,h2⟩:=h.ent; exact⟨l,h1.on hb,h2.mono fun _ _ h=>h.on hb⟩
 own:=by obtain⟨l,h1,h2⟩:=h.own; exact⟨l,h1.on hb,h2.mono fun _ _ h=>h.on hb⟩
abbrev mJ (me:Int) (nv av sv ev ov:Sl):X:=aI #[D J me,dU nv,dU av,dU sv,dU ev,dU ov]
abbrev jA (me:Int) (nv av sv ev ov:Sl):Array X:=#[D J me,dU nv,dU av,dU sv,dU ev,dU ov]
def eO (a b:Id):Bool:=decide (a.1<b.1) || (a.1 == b.1 && decide (a.2<b.2))
def fK:List Id->Id->Int
 | [],_=>-1
 | a::l,x=>if a=x then 0 else if fK l x=-1 then -1 else fK l x+1
def fO (l:List Id) (x:Id):Nat:=(l.takeWhile fun a=>eO a x).length
abbrev mY (x:Id):X:=aI #[D J x.1,D J x.2]
theorem MQ:Tryz.prog.stoodInHeld 38=false:=by kernel_rfl
theorem wC (a b c d:Int) (r:Bool) (h:(a == c && b == d)=r) (w:U):(binOp .eql 38 (aI #[D J a,D J b]) (aI #[D J c,D J d])).run V w=.ok (aO r) w:=by
 have st:=MQ;subst h;by_cases h1:a=c <;> by_cases h2:b=d <;> simp [go_sem,Tryz.underlying38,Tryz.underlying3,st,h1,h2]
theorem fI (w:U) (o:Obj):ay w.heap.size w (w.alloc o):=(Below.refl _ _).alloc (Nat.le_refl _) _
theorem iE (w:U) (c d:Array X) (s t:TypeId):ay w.heap.size w ((w.alloc (ak c s)).alloc (ak d t))/\dN ((w.alloc (ak c s)).alloc (ak d t)) w.heap.size c s/\dN ((w.alloc (ak c s)).alloc (ak d t)) (w.heap.size+1) d t:=by
 refine⟨((Below.refl _ _).alloc (Nat.le_refl _) _).alloc (by simp) _,(dO w c s).more _,?_⟩;have h:=dO (w.alloc (ak c s)) d t;simpa using h
theorem tO (x y:Id) (w:U):Calls V 55 #[mY x,mY y] w fun e w'=>e=.returned (aO (eO x y))/\ay w.heap.size w w':=by
 obtain⟨a,b⟩:=x;obtain⟨c,d⟩:=y;obtain⟨h0,h1,h2⟩:=iE w #[D J a,D J b] #[D J c,D J d] 38 38;have B:=L h0;obtain⟨a0,a1⟩:=h1.cs2;obtain⟨b0,b1⟩:=h2.cs2;have R:=L (show eO (a,b) (c,d)=(decide (a<c) || (a == c && decide (b<d))) from rfl);generalize eO (a,b) (c,d)=r at *;obtain⟨r1,e1⟩:∃ r,decide (a<c)=r:=⟨_,rfl⟩;obtain⟨r2,e2⟩:∃ r,(a == c)=r:=⟨_,rfl⟩;obtain⟨r3,e3⟩:∃ r,decide (b<d)=r:=⟨_,rfl⟩;rw [e1,e2,e3] at R;clear h0 h1 h2;go_enter Tryz.func55,Tryz.ntmps55;cases r1 <;> cases r2
 all_goals
  go_wp2;go_ret;exact⟨by rw [R.out]; simp,B.out⟩
theorem Pw (me:Int) (nv av ev ov:X) (sv:Sl) (l:List Id) (x:Id) (w:U) (hs:xP w (dU sv) l) :
  Calls V 94 #[aI #[D J me,nv,av,dU sv,ev,ov],mY x] w fun e w'=>e=.returned (aO (decide (x∈l)))/\ay w.heap.size w w':=by
 obtain⟨c,d⟩:=x;obtain⟨so,sn,sc⟩:=sv;obtain⟨ao,ac,hv⟩:=hs.len;have hv:O so sn sc=O ao l.length ac:=hv;obtain⟨rfl,rfl,rfl⟩:so=ao/\sn=l.length/\sc=ac:=by simpa using hv
 obtain⟨h0,h1,h2⟩:=iE w #[D J me,nv,av,O so l.length sc,ev,ov] #[D J c,D J d] 33 38;have B:=L h0;have HS:=L (hs.on h0);have X2:=L h1;have X3:=L h2;have lm:=hs.most;unfold maxLen at lm;obtain⟨n,hn⟩:∃ n,n=l.length:=⟨_,rfl⟩;have q3:=h1.cell 3;simp only [aH,aD,aF] at q3;rw [<- hn] at HS X2 lm q3 B X3 ⊢;have HN:=L hn.symm;clear h0 h1 h2 hs hv hn;go_enter Tryz.func94,Tryz.ntmps94;go_upto_region 1 with fail;generalize (w.alloc (ak #[D J me,nv,av,O so n sc,ev,ov] 33)).alloc (ak #[D J c,D J d] 38)=W at *;go_wp2
 go_loopw [10] (fun i wr=>∃ k:Nat,k<=n/\i=D J k/\ay W.heap.size W wr/\∀ (j:Nat) (y:Id),j<k->l[j]?=Q y->y≠(c,d)) (fun i _=>n-(intOf i).toNat)
 case atStart=>exact⟨0,Nat.zero_le _,rfl,Below.refl _ _,fun j y h=>by omega⟩
 case round =>
  obtain⟨k,hk,rfl,hbe,hall⟩:=hrel;have BE:=L hbe;have AL:=L hall;clear hbe hall;by_cases hlt:k<n
  ·obtain⟨y,hy⟩:∃ y,l[k]?=Q y:=⟨_,Y (by rw [HN.out]; exact hlt)⟩;obtain⟨p,ix,px⟩:=elJ HS.out rfl HN.out hy;obtain⟨p0,p1⟩:=px wr BE.out;obtain⟨y1,y2⟩:=y;simp only at p0 p1;have NB:=L (fI wr (ak #[D J y1,D J y2] 38));obtain⟨x0,x1⟩:=((X3.out.on BE.out).on NB.out).cs2;have hw3:IntKind.i64.wrap ((k:Int)+1)=(k:Int)+1:=IntWalk.i64_in _ (by omega);obtain⟨r,hr⟩:∃ r,(y1 == c && y2 == d)=r:=⟨_,rfl⟩;have he:=wC y1 y2 c d r hr;have HY:=L hy;have HR:=L hr;clear px hy hr;cases r
   ·go_wp2
    go_roundw
    case rel=>exact⟨k+1,by omega,by go_num,BE.out.trans (NB.out.mono BE.out.size),fun j y' hj h1=>by
     rcases Nat.lt_or_ge j k with h3|h3
     ·exact AL.out j y' h3 h1
     ·obtain rfl:j=k:=by omega
      have e1:=HY.out;rw [h1] at e1;rw [aN e1];intro e;obtain⟨rfl,rfl⟩:y1=c/\y2=d:=by simpa using e
      have:=HR.out;simp at this⟩
    case measure=>simp [intOf]; omega
   ·go_wp2;go_ret;have h8:=HR.out;obtain⟨rfl,rfl⟩:y1=c/\y2=d:=by simpa using h8
    exact⟨by rw [decide_eq_true (List.mem_of_getElem? HY.out)]; rfl,B.out.trans ((BE.out.trans (NB.out.mono BE.out.size)).mono B.out.size)⟩
  ·obtain rfl:k=n:=by omega
   go_wp2;go_ret;have hd:decide ((c,d)∈l)=false:=decide_eq_false fun hm=>by
    obtain⟨j,hj,hje⟩:=List.getElem_of_mem hm;exact AL.out j (c,d) (by rw [<- HN.out]; exact hj) (by rw [Y hj,hje]) rfl
   exact⟨by rw [hd]; rfl,B.out.trans (BE.out.mono B.out.size)⟩
theorem qZ:∀ (l:List Id) (x:Id),-1<=fK l x
 | [],_=>by simp [fK]
 | a::l,x=>by
  unfold fK;have:=qZ l x
  split
  ·omega
  ·split <;> omega
theorem Px (l:List kr) (x:Id) (h:∀ (j:Nat) (y:kr),l[j]?=Q y->(y.1,y.2.1)≠x):fK (l.map fun y=>(y.1,y.2.1)) x=-1:=by
 induction l with
 | nil=>rfl
 | cons a l ih =>
  rw [aK,fK,if_neg (h 0 a rfl),ih fun j y hj=>h (j+1) y (by simpa using hj),if_pos rfl]
theorem Yr (l:List kr) (k:Nat) (x:Id) (y:kr) (h:l[k]?=Q y) (hx:(y.1,y.2.1)=x) (hall:∀ (j:Nat) (z:kr),j<k->l[j]?=Q z->(z.1,z.2.1)≠x):fK (l.map fun y=>(y.1,y.2.1)) x=k:=by
 induction l generalizing k with
 | nil=>simp at h
 | cons a l ih =>
  cases k with
  | zero =>
   obtain rfl:a=y:=by simpa using h
   rw [aK,fK,if_pos hx]
   rfl
  | succ k =>
   have h2:=ih k (by simpa using h) fun j z hj hz=>hall (j+1) z (by omega) (by simpa using hz);rw [aK,fK,if_neg (hall 0 a (by omega) rfl),h2,if_neg (by omega)];omega
theorem uF (me:Int) (nv ev sv ov:X) (av:Sl) (l:List kr) (x:Id) (w:U) (hs:wB w (dU av) l) :
  Calls V 36 #[aI #[D J me,nv,dU av,sv,ev,ov],mY x] w fun e w'=>e=.returned (D J (fK (l.map fun y=>(y.1,y.2.1)) x))/\ay w.heap.size w w':=by
 obtain⟨c,d⟩:=x;obtain⟨so,sn,sc⟩:=av;obtain⟨ao,ac,hv⟩:=hs.len;have hv:O so sn sc=O ao l.length ac:=hv;obtain⟨rfl,rfl,rfl⟩:so=ao/\sn=l.length/\sc=ac:=by simpa using hv
 obtain⟨h0,h1,h2⟩:=iE w #[D J me,nv,O so l.length sc,sv,ev,ov] #[D J c,D J d] 33 38;have B:=L h0;have HS:=L (hs.on h0);have X2:=L h1;have X3:=L h2;have lm:=hs.most;unfold maxLen at lm;obtain⟨n,hn⟩:∃ n,n=l.length:=⟨_,rfl⟩;have q3:=h1.cell 2;simp only [aH,aD,aF] at q3;rw [<- hn] at HS X2 lm q3 B X3 ⊢;have HN:=L hn.symm;clear h0 h1 h2 hs hv hn;go_enter Tryz.func36,Tryz.ntmps36;go_upto_region 1 with fail;generalize (w.alloc (ak #[D J me,nv,O so n sc,sv,ev,ov] 33)).alloc (ak #[D J c,D J d] 38)=W at *;go_wp2
 go_loopw [10] (fun i wr=>∃ k:Nat,k<=n/\i=D J k/\ay W.heap.size W wr/\∀ (j:Nat) (y:kr),j<k->l[j]?=Q y->(y.1,y.2.1)≠(c,d)) (fun i _=>n-(intOf i).toNat)
 case atStart=>exact⟨0,Nat.zero_le _,rfl,Below.refl _ _,fun j y h=>by omega⟩
 case round =>
  obtain⟨k,hk,rfl,hbe,hall⟩:=hrel;have BE:=L hbe;have AL:=L hall;clear hbe hall;by_cases hlt:k<n
  ·obtain⟨y,hy⟩:∃ y,l[k]?=Q y:=⟨_,Y (by rw [HN.out]; exact hlt)⟩;obtain⟨p,ix,px⟩:=Yh HS.out rfl HN.out hy;obtain⟨p0,p1,p2,p3⟩:=px wr BE.out;obtain⟨y1,y2,⟨yo,yn,yc⟩,y4⟩:=y;simp only at p0 p1 p2 p3;have NB:=L (fI wr (ak #[D J y1,D J y2,O yo yn yc,D J y4] 53));obtain⟨x0,x1⟩:=((X3.out.on BE.out).on NB.out).cs2;have hw3:IntKind.i64.wrap ((k:Int)+1)=(k:Int)+1:=IntWalk.i64_in _ (by omega);obtain⟨r,hr⟩:∃ r,(y1 == c && y2 == d)=r:=⟨_,rfl⟩;have he:=wC y1 y2 c d r hr;have HY:=L hy;have HR:=L hr;clear px hy hr;cases r
   ·go_wp2
    go_roundw
    case rel=>exact⟨k+1,by omega,by go_num,BE.out.trans (NB.out.mono BE.out.size),fun j y' hj h1=>by
     rcases Nat.lt_or_ge j k with h3|h3
     ·exact AL.out j y' h3 h1
     ·obtain rfl:j=k:=by omega
      have e1:=HY.out;rw [h1] at e1;rw [aN e1];intro e;obtain⟨rfl,rfl⟩:y1=c/\y2=d:=by simpa using e
      have:=HR.out;simp at this⟩
    case measure=>simp [intOf]; omega
   ·go_wp2;go_ret;have h8:=HR.out;obtain⟨rfl,rfl⟩:y1=c/\y2=d:=by simpa using h8
    exact⟨by rw [Yr l k (y1,y2) _ HY.out rfl AL.out]; rfl,B.out.trans ((BE.out.trans (NB.out.mono BE.out.size)).mono B.out.size)⟩
  ·obtain rfl:k=n:=by omega
   go_wp2;go_ret;have hd:fK (l.map fun y=>(y.1,y.2.1)) (c,d)=-1:=Px l (c,d) fun j y hj=>AL.out j y (by rw [<- HN.out]; exact (List.getElem?_eq_some_iff.1 hj).1) hj;exact⟨by rw [hd]; rfl,B.out.trans (BE.out.mono B.out.size)⟩
end Go.Proofs.YtkcfgbddlpomgaaGreat.Bk
