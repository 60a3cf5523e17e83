/-
  What taking an adver. Conditions as told.
-/
import Derived.Test.YtmklifheakemeaaGreatCQ044
set_option maxRecDepth 100000
set_option maxHeartbeats 64000000
open Go.Proofs.YtmklifheakemeaaGreat.Sb renaming iQ->L
open _root_.List renaming mem_of_getElem?->D,mem_filter->K,length_filter_le->O,mem_map->V
open _root_.Nat renaming le_trans->J,le_refl->Q,zero_le->U
namespace Go.Proofs.YtmklifheakemeaaGreat.Fl
open Go.RowKit Go.Sort Rw YtmklifheakemeaaGreat.Nm Pr Bk Av Rl Sb
theorem abq:eD []:=⟨[],⟨List.Pairwise.nil,by simp,by simp,by simp⟩,rfl⟩
def Ea (b:Br) (t:fD):Br:={ b with dP:=b.dP.filter fun e=>decide (e.id≠t),ent:=b.ent.filter fun e=>decide (e.tree≠t) }
theorem Yx {b:Br} (h:ji b) {t:fD} {f:Int} (hn:gG b.dP t=none\/∃ a,gG b.dP t=some a/\a.par≠f):iG b f t=(b,[]):=by
 have e:gW b t f=(b,false):=by
  unfold gW;rcases hn with hn|⟨a,hn,hp⟩
  ·rw [hn]
  ·rw [hn]; exact if_neg hp
 unfold iG;rw [<- nu h.dP,e]
 rfl
theorem agQ {b:Br} (h:ji b) {t:fD} {f:Int} {a:Ad} (hf:gG b.dP t=some a) (hp:a.par=f):iG b f t=(Ea b t,fC b.near f 2 t (0,0) []):=by
 have e:gW b t f=(Ea b t,true):=by
  unfold gW;rw [hf]; exact if_pos hp
 unfold iG;rw [<- nu h.dP,e]
 rfl
theorem Yy {b:Br} (h:ji b) (t:fD) (f:Int):(gG b.dP t=none/\iG b f t=(b,[]))\/(∃ a,gG b.dP t=some a/\(a.par != f)=true/\iG b f t=(b,[]))\/(∃ a,gG b.dP t=some a/\a.par=f/\iG b f t=(Ea b t,fC b.near f 2 t (0,0) [])):=by
 cases hf:gG b.dP t with
 | none=>exact Or.inl ⟨rfl,Yx h (Or.inl hf)⟩
 | some a =>
  by_cases hp:a.par=f
  ·exact Or.inr (Or.inr ⟨a,rfl,hp,agQ h hf hp⟩)
  ·exact Or.inr (Or.inl ⟨a,rfl,by simpa using hp,Yx h (Or.inr ⟨a,hf,hp⟩)⟩)
structure Cut (b c:Br) (t:fD) (f:Int):Prop where
 dP:wo c f []
 none_:gG c.dP t=none
 un:iG c f t=(c,[])
 anew:gy c f t []=(c,[])
 len:c.dP.length+1=b.dP.length
 br:wQ c.ent t=[]
 seen:t∈c.seen
 mem:∀ e∈b.ent,e.tree≠t->e∈c.ent
theorem agR {b:Br} (h:KI 12 b) {t:fD} {f:Int} {a:Ad} (hf:gG b.dP t=some a) (hp:a.par=f):Cut b (Ea b t) t f:=by
 obtain⟨ha,hid⟩:=ny hf;have ajy:=h.ok.oks a ha;have hfo:ji (Ea b t):=by
  have q:=Fx h.ok t f;unfold gW at q;rw [hf] at q;simp only at q;rw [if_pos hp] at q;exact q
 have hnone:gG (Ea b t).dP t=none:=pR fun j z hj e=>by
  have:=D hj;have:=(K.1 this).2;simp [e] at this
 have adg:t∈b.seen:=by rw [<- hid]; exact ajy.1
 have al6:(Ea b t).dP.length<=b.dP.length:=O _ _;have al7:(Ea b t).ent.length<=b.ent.length:=O _ _;refine⟨⟨⟨h.few.near,J al6 h.few.dP,h.few.seen,J al7 h.few.ent,h.few.own⟩,⟨fun x hx=>h.rZ.dP x (K.1 hx).1,fun x hx=>h.rZ.ent x (K.1 hx).1,h.rZ.own⟩,hfo,?_,?_,?_,fun e he=>h.pe e (K.1 he).1,h.po,abq,?_,rfl⟩,hnone,Yx hfo (Or.inl hnone),?_,?_,?_,adg,fun e he hne=>K.2 ⟨he,by simpa using hne⟩⟩
 ·have:=h.ls; show b.seen.length<=899; omega
 ·have:=h.la; omega
 ·have h1:=h.le;have h2:=h.lo;show (Ea b t).ent.length+b.own.length<=900;omega
 ·show iL b.near f=true;rw [<- hp]; exact ajy.2.1
 ·unfold gy;rw [uY (show (⟨t,[],f⟩:Ad).id∈(Ea b t).seen from adg),if_pos rfl]
 ·obtain⟨k,hk⟩:=List.mem_iff_getElem?.1 ha;have e:=Cm h.ok.dP hk hid;show (b.dP.filter _).length+1=_;rw [e];unfold cutAt;have:=(List.getElem?_eq_some_iff.1 hk).1;rw [List.length_append,List.length_take,List.length_drop];omega
 ·rw [zl hfo.ent];refine List.filter_eq_nil_iff.2 fun e he=>?_;have:=(K.1 he).2;simpa using this
structure IG (b:Br):Prop where
 few:Hq b
 rZ:Af b
 ok:ji b
 pe:∀ e∈b.ent,eD e.p
theorem IG.ajz {b:Br} (h:IG b):abQ b:=⟨fun a q=>wM (h.ok.oks a q).2.2,fun e q=>wM (Oa (h.ok.R6 e q)),fun o q=>wM (h.ok.Z9 o q)⟩
theorem IG.shr {b:Br} (h:IG b):Shr b:=⟨fun _ a q=>J (h.rZ.dP a (D q)) (by decide),fun _ a q=>J (h.rZ.ent a (D q)) (by decide),fun _ a q=>J (h.rZ.own a (D q)) (by decide)⟩
theorem IG.right {b:Br} (h:IG b):RZ b=true:=(VH b).2 h.ok
theorem KI.nice {b:Br} (h:KI 12 b):IG b:=⟨h.few,h.rZ,h.ok,h.pe⟩
theorem Yz {b:Br} {f:Int} {p:List C5} (h:wo b f p) (x:fD):IG (gy b f x p).1:=by
 have hl:=Gv (x:=x) h;have hok:=uh h.ok ⟨x,p,f⟩ h.co h.rp;obtain⟨m1,m2,m3,m4⟩:=iP b ⟨x,p,f⟩;have hpe:∀ e∈(eP b ⟨x,p,f⟩).1.ent,eD e.p:=by rw [m3]; exact h.pe
 have hpo:∀ o∈(eP b ⟨x,p,f⟩).1.own,eD o.p:=by rw [m4]; exact h.po
 rw [Gu]
 split
 ·exact⟨hl.1,hl.2,hok,hpe⟩
 ·have hj:=(Dq hok hpe hpo f x p [] _ (Q _)).1;exact⟨hj.few hl.1 (by rw [m3,m4]; exact h.lo) (Q _),hj.rZ hl.2,hj.ok,hj.pe⟩
theorem abr {b:Br} (h:KI 12 b) (t:fD) (f:Int):IG (iG b f t).1:=by
 rcases Yy h.ok t f with⟨_,e⟩|⟨_,_,_,e⟩|⟨a,hf,hp,e⟩
 ·rw [e]; exact KI.nice h
 ·rw [e]; exact KI.nice h
 ·rw [e];have c:=(agR h hf hp).dP;exact⟨c.few,c.rZ,c.ok,c.pe⟩
theorem YA {b:Br} (h:KI 12 b) (ht:iw b) (t:fD) (f:Int):iw (iG b f t).1:=by
 show iw (iD b t f).1;rw [<- nu h.ok.dP];exact xZ t f ht
theorem Lu {b:Br} {f:Int} {p:List C5} (h:wo b f p) (x:fD):(gy b f x p).2.length<=1000000/\∀ o∈(gy b f x p).2,o.p.length<=1000:=by
 have hok:=uh h.ok ⟨x,p,f⟩ h.co h.rp;obtain⟨m1,m2,m3,m4⟩:=iP b ⟨x,p,f⟩;have hpe:∀ e∈(eP b ⟨x,p,f⟩).1.ent,eD e.p:=by rw [m3]; exact h.pe
 have hpo:∀ o∈(eP b ⟨x,p,f⟩).1.own,eD o.p:=by rw [m4]; exact h.po
 have key:∀ k,k<=(eP b ⟨x,p,f⟩).1.own.length->∀ o∈(eF (eP b ⟨x,p,f⟩).1.own (iX f x p) ((eP b ⟨x,p,f⟩).1,fC b.near f 1 x (0,0) p) k).2,o.p.length<=1000:=by
  intro k
  induction k with
  | zero =>
   intro _ o ho;obtain⟨n,_,rfl⟩:=V.1 (show o∈fC b.near f 1 x (0,0) p from ho);exact J (L h.pp) (by decide)
  | succ k ih =>
   intro hk o ho;obtain⟨a,ha⟩:∃ a,(eP b ⟨x,p,f⟩).1.own[k]?=some a:=⟨_,List.getElem?_eq_getElem hk⟩;rw [kM _ _ ha] at ho;have hih:=ih (by omega);revert ho;show o∈(fZ _ _ _ _).2->_;unfold fZ
   split
   ·exact fun ho=>hih o ho
   ·dsimp only
    split
    ·intro ho;rcases List.mem_append.1 ho with ho|ho
     ·exact hih o ho
     ·rw [List.mem_singleton.1 ho];exact J (L (hpo a (D ha))) (by decide)
    ·exact fun ho=>hih o ho
 unfold gy
 split
 ·exact⟨U _,fun o ho=>by simp at ho⟩
 ·refine⟨?_,key _ (Q _)⟩;have h1:=(Dq hok hpe hpo f x p (fC b.near f 1 x (0,0) p) _ (Q _)).2;have h2:=vH b.near f 1 x (0,0) p;have h3:=h.few.near;have h4:=h.few.own;have h5:(eP b ⟨x,p,f⟩).1.own.length=b.own.length:=by rw [m4]
  omega
theorem Od {b:Br} (h:KI 12 b) (t:fD) (f:Int):(iG b f t).2.length<=1000000/\∀ o∈(iG b f t).2,o.p.length<=1000:=by
 unfold iG
 split
 ·refine⟨J (vH _ _ _ _ _ _) (J h.few.near (by decide)),fun o ho=>?_⟩;obtain⟨n,_,rfl⟩:=V.1 (show o∈fC b.near f 2 t (0,0) [] from ho);exact U _
 ·exact⟨U _,fun o ho=>by simp at ho⟩
theorem YC {w W:World} {B:Nat} {b:Br} {nv av sv ev ov:Sl} (h:U9 w W B b nv av sv ev ov) (hb:Below w.heap.size w W):tH W b nv av sv ev ov:=by
 refine⟨⟨Row.dH h.near,?_,Row.dH h.seen,?_,?_⟩,B,h.near⟩
 ·obtain⟨l,h1,h2⟩:=h.dP; exact⟨l,Row.dH h1,h2.mono fun _ _ q=>q.on hb⟩
 ·obtain⟨l,h1,h2⟩:=h.ent; exact⟨l,Row.dH h1,h2.mono fun _ _ q=>q.on hb⟩
 ·obtain⟨l,h1,h2⟩:=h.own; exact⟨l,Row.dH h1,h2.mono fun _ _ q=>q.on hb⟩
theorem wT (near:List Int) (n:Int):iL near (xK near n)=true:=by
 unfold xK iL;cases h:near[(Wi.within n 0 near.length).toNat]? with
 | none=>simp
 | some y=>simp [D h]
end Go.Proofs.YtmklifheakemeaaGreat.Fl
