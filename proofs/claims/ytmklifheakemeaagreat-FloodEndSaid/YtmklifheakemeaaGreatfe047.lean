/-
  What taking an adver. Conditions as told.
-/
import Derived.Test.YtmklifheakemeaaGreatfe045
import Derived.Test.YtmklifheakemeaaGreatfe046
set_option maxRecDepth 100000
set_option maxHeartbeats 64000000
open _root_.List renaming mem_filter->D,length_filter_le->J,length_append->K,length_take->L
namespace Go.Proofs.YtmklifheakemeaaGreat.Fl
open Go.RowKit Go.Sort Rw YtmklifheakemeaaGreat.Nm Pr Bk Av Rl Sb
theorem Zz:dZ []:=⟨[],⟨List.Pairwise.nil,by simp,by simp,by simp⟩,rfl⟩
def mK (b:Br) (t:fC):Br:={ b with dQ:=b.dQ.filter fun e=>decide (e.id≠t),ent:=b.ent.filter fun e=>decide (e.tree≠t) }
theorem WZ {b:Br} (h:jc b) {t:fC} {f:Int} (hn:gD b.dQ t=none\/∃ a,gD b.dQ t=some a/\a.par≠f):lN b f t=(b,[]):=by
 have e:gL b t f=(b,false):=by
  unfold gL;rcases hn with hn|⟨a,hn,hp⟩
  ·rw [hn]
  ·rw [hn]; exact if_neg hp
 unfold lN;rw [<- oU h.dQ,e]
 rfl
theorem adA {b:Br} (h:jc b) {t:fC} {f:Int} {a:Ad} (hf:gD b.dQ t=some a) (hp:a.par=f):lN b f t=(mK b t,fG b.near f 2 t (0,0) []):=by
 have e:gL b t f=(mK b t,true):=by
  unfold gL;rw [hf]; exact if_pos hp
 unfold lN;rw [<- oU h.dQ,e]
 rfl
theorem Xa {b:Br} (h:jc b) (t:fC) (f:Int):(gD b.dQ t=none/\lN b f t=(b,[]))\/(∃ a,gD b.dQ t=some a/\(a.par != f)=true/\lN b f t=(b,[]))\/(∃ a,gD b.dQ t=some a/\a.par=f/\lN b f t=(mK b t,fG b.near f 2 t (0,0) [])):=by
 cases hf:gD b.dQ t with
 | none=>exact Or.inl ⟨rfl,WZ h (Or.inl hf)⟩
 | some a =>
  by_cases hp:a.par=f
  ·exact Or.inr (Or.inr ⟨a,rfl,hp,adA h hf hp⟩)
  ·exact Or.inr (Or.inl ⟨a,rfl,by simpa using hp,WZ h (Or.inr ⟨a,hf,hp⟩)⟩)
structure Cut (b c:Br) (t:fC) (f:Int):Prop where
 dQ:JY c f []
 none_:gD c.dQ t=none
 un:lN c f t=(c,[])
 anew:kK c f t []=(c,[])
 len:c.dQ.length+1=b.dQ.length
 br:wC c.ent t=[]
 seen:t∈c.seen
 mem:∀ e∈b.ent,e.tree≠t->e∈c.ent
theorem adB {b:Br} (h:KI 12 b) {t:fC} {f:Int} {a:Ad} (hf:gD b.dQ t=some a) (hp:a.par=f):Cut b (mK b t) t f:=by
 obtain⟨ha,hid⟩:=ny hf;have afL:=h.ok.oks a ha;have hfo:jc (mK b t):=by
  have q:=El h.ok t f;unfold gL at q;rw [hf] at q;simp only at q;rw [if_pos hp] at q;exact q
 have hnone:gD (mK b t).dQ t=none:=rY fun j z hj e=>by
  have:=List.mem_of_getElem? hj;have:=(D.1 this).2;simp [e] at this
 have aby:t∈b.seen:=by rw [<- hid]; exact afL.1
 have ah2:(mK b t).dQ.length<=b.dQ.length:=J _ _;have ah3:(mK b t).ent.length<=b.ent.length:=J _ _;refine⟨⟨⟨h.few.near,Nat.le_trans ah2 h.few.dQ,h.few.seen,Nat.le_trans ah3 h.few.ent,h.few.own⟩,⟨fun x hx=>h.pV.dQ x (D.1 hx).1,fun x hx=>h.pV.ent x (D.1 hx).1,h.pV.own⟩,hfo,?_,?_,?_,fun e he=>h.pe e (D.1 he).1,h.po,Zz,?_,rfl⟩,hnone,WZ hfo (Or.inl hnone),?_,?_,?_,aby,fun e he hne=>D.2 ⟨he,by simpa using hne⟩⟩
 ·have:=h.ls; show b.seen.length<=899; omega
 ·have:=h.la; omega
 ·have h1:=h.le;have h2:=h.lo;show (mK b t).ent.length+b.own.length<=900;omega
 ·show kW b.near f=true;rw [<- hp]; exact afL.2.1
 ·unfold kK;rw [uO (show (⟨t,[],f⟩:Ad).id∈(mK b t).seen from aby),if_pos rfl]
 ·obtain⟨k,hk⟩:=List.mem_iff_getElem?.1 ha;have e:=Bg h.ok.dQ hk hid;show (b.dQ.filter _).length+1=_;rw [e];unfold cutAt;have:=(List.getElem?_eq_some_iff.1 hk).1;rw [K,L,List.length_drop];omega
 ·rw [Eo hfo.ent];refine List.filter_eq_nil_iff.2 fun e he=>?_;have:=(D.1 he).2;simpa using this
def Dn (l:List En) (t:fC) (k:Nat):Nat:=((l.take k).filter fun e=>decide (e.tree≠t)).length
theorem Ri {l:List En} {t:fC} {k:Nat} {e:En} (h:l[k]?=some e):Dn l t (k+1)=Dn l t k+(if e.tree=t then 0 else 1):=by
 unfold Dn;rw [List.take_add_one,h,List.filter_append,K];simp only [Option.toList_some,List.filter_cons,List.filter_nil];by_cases q:e.tree=t <;> simp [q]
theorem ZA (l:List En) (t:fC) (k:Nat):Dn l t k<=l.length:=Nat.le_trans (J _ _) (by rw [L]; omega)
theorem Xb (b:Br) (t:fC):Dn b.ent t b.ent.length=(mK b t).ent.length:=by
 unfold Dn mK;rw [List.take_length]
end Go.Proofs.YtmklifheakemeaaGreat.Fl
