/-
  What taking an adver. Conditions as told.
-/
import Derived.Test.YtmklifheakemeaaGreatBQ044
set_option maxRecDepth 100000
set_option maxHeartbeats 64000000
open Go.Lib renaming hid->aj
open Go.Proofs.YtmklifheakemeaaGreat.Sb renaming iF->L
open _root_.List renaming mem_of_getElem?->D,filter_append->J,filter_eq_self->K,getElem?_eq_getElem->O,mem_append->Q,filter_cons->V,mem_map->X,mem_singleton->Y,getElem?_eq_some_iff->Z,length_filter_le->ak,length_append->au,take_add_one->ay,length_take->aA,length_cons->aB,filter_nil->aC,mem_filter->aD
open _root_.Nat renaming le_trans->U,le_refl->ah,zero_le->aF
namespace Go.Proofs.YtmklifheakemeaaGreat.Fl
open Go.RowKit Go.Sort Rw YtmklifheakemeaaGreat.Nm Pr Bk Av Rl Sb
def Jv (b:Br) (t:fD):Br:={ b with dQ:=b.dQ.filter fun e=>decide (e.id≠t),ent:=b.ent.filter fun e=>decide (e.tree≠t) }
theorem ac7 {b:Br} (h:jl b) {t:fD} {f:Int} {a:Ad} (hf:gL b.dQ t=some a) (hp:a.par=f):nL b f t=(Jv b t,eB b.near f 2 t (0,0) []):=by
 have e:gW b t f=(Jv b t,true):=by
  unfold gW;rw [hf]; exact if_pos hp
 unfold nL;rw [<- rH h.dQ,e]
 rfl
structure Cut (b c:Br) (t:fD) (f:Int):Prop where
 dQ:uU c f []
 none_:gL c.dQ t=none
 un:nL c f t=(c,[])
 anew:gy c f t []=(c,[])
 len:c.dQ.length+1=b.dQ.length
 br:yS c.ent t=[]
 seen:t∈c.seen
 mem:∀ e∈b.ent,e.tree≠t->e∈c.ent
structure Za (b:Br):Prop where
 few:PW b
 uE:yP b
 ok:jl b
 pe:∀ e∈b.ent,dZ e.p
theorem Za.shr {b:Br} (h:Za b):Shr b:=⟨fun _ a q=>U (h.uE.dQ a (D q)) (by decide),fun _ a q=>U (h.uE.ent a (D q)) (by decide),fun _ a q=>U (h.uE.own a (D q)) (by decide)⟩
theorem KI.nice {b:Br} (h:KI 12 b):Za b:=⟨h.few,h.uE,h.ok,h.pe⟩
theorem Jw {b:Br} {f:Int} {p:List C5} (h:uU b f p) (x:fD):Za (gy b f x p).1:=by
 have hl:=Ef (x:=x) h;have hok:=sN h.ok ⟨x,p,f⟩ h.co h.rp;obtain⟨m1,m2,m3,m4⟩:=iH b ⟨x,p,f⟩;have hpe:∀ e∈(eF b ⟨x,p,f⟩).1.ent,dZ e.p:=by rw [m3]; exact h.pe
 have hpo:∀ o∈(eF b ⟨x,p,f⟩).1.own,dZ o.p:=by rw [m4]; exact h.po
 rw [Ee]
 split
 ·exact⟨hl.1,hl.2,hok,hpe⟩
 ·have hj:=(Bd hok hpe hpo f x p [] _ (ah _)).1;exact⟨hj.few hl.1 (by rw [m3,m4]; exact h.lo) (ah _),hj.uE hl.2,hj.ok,hj.pe⟩
theorem Jy {b:Br} {f:Int} {p:List C5} (h:uU b f p) (x:fD):(gy b f x p).2.length<=1000000/\∀ o∈(gy b f x p).2,o.p.length<=1000:=by
 have hok:=sN h.ok ⟨x,p,f⟩ h.co h.rp;obtain⟨m1,m2,m3,m4⟩:=iH b ⟨x,p,f⟩;have hpe:∀ e∈(eF b ⟨x,p,f⟩).1.ent,dZ e.p:=by rw [m3]; exact h.pe
 have hpo:∀ o∈(eF b ⟨x,p,f⟩).1.own,dZ o.p:=by rw [m4]; exact h.po
 have key:∀ k,k<=(eF b ⟨x,p,f⟩).1.own.length->∀ o∈(eu (eF b ⟨x,p,f⟩).1.own (iG f x p) ((eF b ⟨x,p,f⟩).1,eB b.near f 1 x (0,0) p) k).2,o.p.length<=1000:=by
  intro k
  induction k with
  | zero =>
   intro _ o ho;obtain⟨n,_,rfl⟩:=X.1 (show o∈eB b.near f 1 x (0,0) p from ho);exact U (L h.pp) (by decide)
  | succ k ih =>
   intro hk o ho;obtain⟨a,ha⟩:∃ a,(eF b ⟨x,p,f⟩).1.own[k]?=some a:=⟨_,O hk⟩;rw [jF _ _ ha] at ho;have hih:=ih (by omega);revert ho;show o∈(fO _ _ _ _).2->_;unfold fO
   split
   ·exact fun ho=>hih o ho
   ·dsimp only
    split
    ·intro ho;rcases Q.1 ho with ho|ho
     ·exact hih o ho
     ·rw [Y.1 ho];exact U (L (hpo a (D ha))) (by decide)
    ·exact fun ho=>hih o ho
 unfold gy
 split
 ·exact⟨aF _,fun o ho=>by simp at ho⟩
 ·refine⟨?_,key _ (ah _)⟩;have h1:=(Bd hok hpe hpo f x p (eB b.near f 1 x (0,0) p) _ (ah _)).2;have h2:=yg b.near f 1 x (0,0) p;have h3:=h.few.near;have h4:=h.few.own;have h5:(eF b ⟨x,p,f⟩).1.own.length=b.own.length:=by rw [m4]
  omega
theorem vM (near:List Int) (n:Int):jD near (wE near n)=true:=by
 unfold wE jD;cases h:near[(Wi.within n 0 near.length).toNat]? with
 | none=>simp
 | some y=>simp [D h]
theorem Bl {α:Type} (q:α->Bool) (l:List α) (k:Nat) (a:α) (h:q a=false):(fU l k a).filter q=l.filter q:=by
 unfold fU;rw [J,J];have e:[a].filter q=[]:=by simp [h]
 rw [e,List.append_nil,<- J,List.take_append_drop]
theorem LZ (b:Br) (e:En):(gQ b e).1.ent.filter (fun z=>decide (z.tree≠e.tree))=b.ent.filter (fun z=>decide (z.tree≠e.tree)):=by
 unfold gQ
 split
 ·rfl
 ·split
  ·rfl
  ·split
   ·rfl
   ·split
    ·rfl
    ·exact Bl _ _ _ _ (by simp)
theorem add_same (b:Br) (e:En):(gQ b e).1.dQ=b.dQ/\(gQ b e).1.own=b.own/\(gQ b e).1.near=b.near/\(gQ b e).1.me=b.me:=by
 unfold gQ
 split
 ·exact⟨rfl,rfl,rfl,rfl⟩
 ·split
  ·exact⟨rfl,rfl,rfl,rfl⟩
  ·split
   ·exact⟨rfl,rfl,rfl,rfl⟩
   ·split <;> exact⟨rfl,rfl,rfl,rfl⟩
structure BkI (b1:Br) (oo:List Ou) (f:Int) (x:fD) (s:Br×List Ou):Prop where
 dQ:s.1.dQ=b1.dQ
 own:s.1.own=b1.own
 near:s.1.near=b1.near
 me:s.1.me=b1.me
 ent:s.1.ent.filter (fun z=>decide (z.tree≠x))=b1.ent.filter (fun z=>decide (z.tree≠x))
 out:∃ u,s.2=oo++u/\∀ o∈u,o.iq=f/\o.kind=3/\o.tree=x
theorem Od (b1:Br) (oo:List Ou) (f:Int) (x:fD) (p:List C5) (l:List Ow):∀ k,k<=l.length->BkI b1 oo f x (eu l (iG f x p) (b1,oo) k)
 | 0,_=>⟨rfl,rfl,rfl,rfl,rfl,[],by simp [eu],by simp⟩
 | k+1,hk=>by
  obtain⟨a,ha⟩:∃ a,l[k]?=some a:=⟨_,O hk⟩;have ih:=Od b1 oo f x p l k (by omega);rw [jF _ _ ha];generalize eu l (iG f x p) (b1,oo) k=s at ih ⊢;show BkI b1 oo f x (fO s (jh a.p p) (mD x a) f);unfold fO
  split
  ·exact ih
  ·obtain⟨e1,e2,e3,e4⟩:=add_same s.1 (mD x a);have e5:=LZ s.1 (mD x a);obtain⟨u,h1,h2⟩:=ih.out;refine⟨e1.trans ih.dQ,e2.trans ih.own,e3.trans ih.near,e4.trans ih.me,e5.trans ih.ent,?_⟩;dsimp only
   split
   ·refine⟨u++[vG f (mD x a)],by rw [h1,List.append_assoc],fun o ho=>?_⟩;rcases Q.1 ho with h|h
    ·exact h2 o h
    ·rw [Y.1 h]; exact⟨rfl,rfl,rfl⟩
   ·exact⟨u,h1,h2⟩
def zT (l:List Ou) (k:Nat):Nat:=((l.take k).filter fun o=>o.kind == 1).length
theorem Q8 {l:List Ou} {k:Nat} {o:Ou} (h:l[k]?=some o):zT l (k+1)=zT l k+(if (o.kind == 1)=true then 1 else 0):=by
 unfold zT;rw [ay,h,J,au];simp only [Option.toList_some,V,aC]
 split <;> simp
theorem Zb (l:List Ou) (k:Nat):zT l k<=k:=U (ak _ _) (by rw [aA]; omega)
structure ah6 (b:Br) (f:Int) (x:fD) (p:List C5):Prop where
 un:nL (gy b f x p).1 f x=(Jv (gy b f x p).1 x,eB b.near f 2 x (0,0) [])
 same:{ Jv (gy b f x p).1 x with seen:=b.seen }=b
 msgs:∀ o∈(gy b f x p).2,(o.iq≠f/\o.kind=1\/o.iq=f/\o.kind=3)/\o.tree=x
 cnt:zT (gy b f x p).2 (gy b f x p).2.length=(b.near.filter fun n=>n != f).length
 near:(gy b f x p).1.near=b.near
 me:(gy b f x p).1.me=b.me
theorem Zc {b:Br} {f:Int} {p:List C5} {x:fD} (h:uU b f p) (hx:¬ x∈b.seen) (hk:∀ e∈b.ent,e.tree≠x):ah6 b f x p:=by
 have hL:eF b ⟨x,p,f⟩=({ b with seen:=fU b.seen (fM b.seen x) x,dQ:=fU b.dQ (fM (b.dQ.map Ad.id) x) ⟨x,p,f⟩ },true):=rF hx;have hn:=Jw h x;have hA:gy b f x p=eu b.own (iG f x p) ((eF b ⟨x,p,f⟩).1,eB b.near f 1 x (0,0) p) b.own.length:=by
  unfold gy;rw [hL];exact if_neg (by simp)
 have key:=Od (eF b ⟨x,p,f⟩).1 (eB b.near f 1 x (0,0) p) f x p b.own _ (ah _);rw [<- hA,hL] at key;have ac8:(gy b f x p).1.dQ=fU b.dQ (fM (b.dQ.map Ad.id) x) ⟨x,p,f⟩:=key.dQ;have ac9:∀ a∈b.dQ,a.id≠x:=fun a ha e=>hx (e ▸ (h.ok.oks a ha).1);have hfind:∃ a,gL (gy b f x p).1.dQ x=some a/\a.par=f:=by
  have hm:(⟨x,p,f⟩:Ad)∈(gy b f x p).1.dQ:=by rw [ac8]; unfold fU; simp
  cases hf:gL (gy b f x p).1.dQ x with
  | none =>
   unfold gL at hf;have:=List.find?_eq_none.1 hf _ hm;simp at this
  | some a =>
   obtain⟨h1,h2⟩:=mO hf;refine⟨a,rfl,?_⟩;rw [ac8] at h1;unfold fU at h1;rcases Q.1 h1 with h3|h3
   ·rcases Q.1 h3 with h4|h4
    ·exact absurd h2 (ac9 a (List.mem_of_mem_take h4))
    ·rw [Y.1 h4]
   ·exact absurd h2 (ac9 a (List.mem_of_mem_drop h3))
 obtain⟨a,hf,hp⟩:=hfind;have afJ:(gy b f x p).1.dQ.filter (fun e=>decide (e.id≠x))=b.dQ:=by
  rw [ac8,Bl _ _ _ _ (by simp)];exact K.2 fun a ha=>by simpa using ac9 a ha
 have afK:(gy b f x p).1.ent.filter (fun e=>decide (e.tree≠x))=b.ent:=by
  refine key.ent.trans ?_;exact K.2 fun e he=>by simpa using hk e he
 have hme:(gy b f x p).1.me=b.me:=key.me;have WA:(gy b f x p).1.near=b.near:=key.near;have hown:(gy b f x p).1.own=b.own:=key.own;obtain⟨u,hu1,hu2⟩:=key.out;refine⟨?_,?_,?_,?_,WA,hme⟩
 ·rw [ac7 hn.ok hf hp,WA]
 ·unfold Jv;rw [afJ,afK,hme,WA,hown]
 ·intro o ho;rw [hu1] at ho;rcases Q.1 ho with h1|h1
  ·obtain⟨n,hn1,rfl⟩:=X.1 (show o∈(b.near.filter fun n=>n != f).map fun n=>(⟨n,1,x,(0,0),p⟩:Ou) from h1);exact⟨Or.inl ⟨by simpa using (aD.1 hn1).2,rfl⟩,rfl⟩
  ·obtain⟨h2,h3,h4⟩:=hu2 o h1;exact⟨Or.inr ⟨h2,h3⟩,h4⟩
 ·unfold zT;rw [List.take_length,hu1,J,au];have e1:(eB b.near f 1 x (0,0) p).filter (fun o=>o.kind == 1)=eB b.near f 1 x (0,0) p:=by
   refine K.2 fun o ho=>?_;obtain⟨n,_,rfl⟩:=X.1 (show o∈(b.near.filter fun n=>n != f).map fun n=>(⟨n,1,x,(0,0),p⟩:Ou) from ho)
   rfl
  have e2:u.filter (fun o=>o.kind == 1)=[]:=by
   refine List.filter_eq_nil_iff.2 fun o ho=>?_;rw [(hu2 o ho).2.1];simp
  rw [e1,e2];unfold eB;rw [List.length_map]
  rfl
theorem WE {k:Nat} {f:Int} (hc:jD (nQ k) f=true):if f=-1 then ((nQ k).filter fun n=>n != f).length=k else ((nQ k).filter fun n=>n != f).length+1=k:=by
 split
 ·rename_i e
  subst e;rw [K.2 fun n hn=>by
   obtain⟨j,_,rfl⟩:=X.1 hn;have:(j:Int)+1≠-1:=by omega
   simpa using this]
  exact mU k
 ·rename_i e
  have hm:f∈nQ k:=by
   unfold jD at hc;simpa [e] using hc
  have hr:=rQ k;have:∀ l:List Int,l.Pairwise (·<·)->f∈l->(l.filter fun n=>n != f).length+1=l.length:=by
   intro l
   induction l with
   | nil=>intro _ h; simp at h
   | cons a r ih =>
    intro hp hq;obtain⟨h1,h2⟩:=List.pairwise_cons.1 hp;by_cases e2:a=f
    ·subst e2;rw [V,if_neg (by simp),K.2 fun n hn=>by
      have:=h1 n hn;have h3:n≠a:=by omega
      simpa using h3]
     rfl
    ·have h3:f∈r:=by
      rcases List.mem_cons.1 hq with h4|h4
      ·exact absurd h4.symm e2
      ·exact h4
     rw [V,if_pos (by simpa using e2),aB,aB,ih h2 h3]
  rw [this _ hr hm,mU]
theorem ada {near:List Int} {f:Int} {x:fD} {k:Nat} {o:Ou} (h:(eB near f 2 x (0,0) [])[k]?=some o):o.iq≠f/\o.kind=2:=by
 obtain⟨n,hn,rfl⟩:=X.1 (show o∈(near.filter fun n=>n != f).map fun n=>(⟨n,2,x,(0,0),[]⟩:Ou) from D h);exact⟨by simpa using (aD.1 hn).2,rfl⟩
theorem WH {near:List Int} {f:Int} {x:fD} (hr:near.Pairwise (·<·)) {j k:Nat} (hjk:j<k) {o q:Ou} (h:(eB near f 2 x (0,0) [])[j]?=some o) (h2:(eB near f 2 x (0,0) [])[k]?=some q):o.iq<q.iq:=by
 have hp:(eB near f 2 x (0,0) []).Pairwise (fun a b=>a.iq<b.iq):=by
  unfold eB;exact List.pairwise_map.2 ((hr.filter _).imp fun h=>h)
 have h3:=List.pairwise_iff_getElem.1 hp;obtain⟨a1,a2⟩:=Z.1 h;obtain⟨c1,c2⟩:=Z.1 h2;have:=h3 j k a1 c1 hjk;rw [a2,c2] at this;exact this
def FR (l:List Int) (x:Int):List Int:=l.filter fun n=>n != x
theorem Q9 {l:List Int} {x:Int} {q:Nat} {y:Int} (h:l[q]?=some y):FR (l.take (q+1)) x=FR (l.take q) x++(if (y != x)=true then [y] else []):=by
 unfold FR;rw [ay,h,J]
 congr 1
 simp only [Option.toList_some,V,aC]
theorem Oe (l:List Int) (x:Int):(FR l x).length<=l.length:=ak _ _
theorem Og (but:Int) (nv:Sl) (l:List Int) (w:World) (hs:qA w (dX nv) l) (hlen:l.length<=900) :
  Calls Tryz.prog 22 #[dX nv,.int .i64 but] w fun e w'=>(∃ (v:Sl),e=.returned (dX v)/\vO w' w.heap.size (dX v) (FR l but))/\Below w.heap.size w w':=by
 obtain⟨no,nn,nc⟩:=nv;obtain⟨q1,q2,hq⟩:=hs.len;obtain⟨rfl,hnn,rfl⟩:no=q1/\nn=l.length/\nc=q2:=by
  have h:Value.slice no nn nc=.slice q1 l.length q2:=hq;simpa using h
 clear hq;have HS:=aj hs;have HN:=aj hnn;have nb:nn<=900:=by omega
 clear hs hlen hnn;show Calls Tryz.prog 22 #[.slice no nn nc,.int .i64 but] w _;go_enter Tryz.func22,Tryz.ntmps22;go_wp2
 go_loopw [5,10] (fun v i wr=>∃ (q:Nat),q<=nn/\i=.int .i64 q/\Below w.heap.size w wr/\vO wr w.heap.size v (FR (l.take q) but)) (fun _ i _=>nn-(intOf i).toNat)
 case atStart=>exact⟨0,aF _,rfl,Below.refl _ _,iM _ _⟩
 case round =>
  obtain⟨q,hq,rfl,hbe,hown⟩:=hrel;have BE:=aj hbe;have OE:=aj hown;clear hbe hown;by_cases hlt:q<nn
  ·obtain⟨y,hy⟩:∃ y,l[q]?=some y:=⟨_,O (by rw [<- HN.out]; exact hlt)⟩;obtain⟨g,ix,_,px⟩:=mH Nm.JR HS.out rfl HN.out.symm hy;have p0:wr.cell? g=some (.int .i64 y):=by simpa [Addr.add] using px wr BE.out 0 _ rfl
   have ix:∀ w,(Instr.indexAt 22 (.slice no nn nc) (.int .i64 q)).run Tryz.prog w=.ok (.pointer (some g)) w:=ix;have FS:=aj (Q9 (x:=but) hy);have hw3:IntKind.i64.wrap ((q:Int)+1)=(q:Int)+1:=IntWalk.i64_in _ (by omega);obtain⟨r,hr⟩:∃ r,(y != but)=r:=⟨_,rfl⟩;rw [hr] at FS;clear px hy;cases r
   ·go_wp2
    go_roundw
    case rel=>exact⟨q+1,by omega,by go_num,BE.out,by
     rw [FS.out];simpa using OE.out⟩
    case measure=>simp [intOf]; omega
   ·have NB:=aj (gu wr (.cells #[.int .i64 y] 3));have hlit:=iN Nm.JR wr [y] 1 rfl (by simp) #[.int .i64 y] rfl;have o2:=Bk.dI OE.out NB.out;have hB:w.heap.size<=(wr.alloc (.cells #[.int .i64 y] 3)).heap.size:=by have h1:=BE.out.size; simp; omega
    obtain⟨v',w',r',o',gr⟩:=gI Nm.JR w.heap.size o2 (Row.dH hlit) (by
     have h1:=Oe (l.take q) but;rw [aA] at h1;omega) (by simp) hB 22
    have r':(Builtin.append_ #[22,22] 22 #[u5,.slice (some ⟨wr.heap.size,0,none⟩) 1 1]).run Tryz.prog (wr.alloc (.cells #[.int .i64 y] 3))=.ok v' w':=by
     simpa [Nm.EI] using r'
    have BG:=aj ((BE.out.trans (NB.out.mono BE.out.size)).grown gr hB fun j hj=>(o2.lt j hj).1);have OG:=aj o';clear hlit o2 hB o' gr OE;go_wp2_with (first | (at_builtin; refine wpList_append_run rfl _ _ 22 rfl rfl rfl r' ?_) | fail)
    go_roundw
    case rel=>exact⟨q+1,by omega,by go_num,BG.out,by
     rw [FS.out];simpa using OG.out⟩
    case measure=>simp [intOf]; omega
  ·obtain rfl:nn=q:=by omega
   have e:l.take nn=l:=List.take_of_length_le (by have:=HN.out; omega);rw [e] at OE;obtain⟨FU,FV,hv⟩:=(Row.dH OE.out).len;subst hv;clear e;go_wp2;go_ret;exact⟨⟨(FU,_,FV),rfl,OE.out⟩,BE.out⟩
end Go.Proofs.YtmklifheakemeaaGreat.Fl
