/- Part 1 of 25 of a proof: DiskWorld, DiskRows, RefData, RefWorld, Mem, KeysWalks, Disk1, Disk2 -/
import Derived.Test.YtcoengihaobddaaGreatDoorRows
import Derived.WalkKit
import Derived.ProofKit
import Derived.Deep.MidRow
import Derived.Laws.AppendOwn
import Derived.Deep.AppendLies
import Derived.OpenShut
import Derived.ShutString
import Derived.Laws.MakeOwn
set_option maxHeartbeats 8000000
set_option linter.unusedVariables false
set_option linter.unusedSimpArgs false
set_option maxRecDepth 8000
namespace Go.Proofs.YtcoengihaobddaaGreatDoor
theorem cR {w:World}{b i:Nat}{cs:Array Value}{t:TypeId}{f:Nat×Nat}{v:Value}(h:w.heap[b]? =some (.cells cs t f))(e:cs[i]? =some v):w.cell? ⟨b,i,none⟩=some v:=by rw [cell_of_row w b i _ _ _ h];exact e
theorem iL {α:Type}{p q:α→Prop}:∀i,p i→p i∨q i:=fun _ h=>.inl h
theorem nF {α:Type}{p:α→Prop}:∀i,p i→¬False:=fun _ _ h=>h
theorem fE {α:Type}{p:α→Prop}:∀i,False→p i:=fun _ h=>h.elim
theorem lT {α:Type}{a:Array α}{i:Nat}{v:α}(h:a[i]? =some v):i<a.size:=(Array.getElem?_eq_some_iff.1 h).1
theorem XG {p:Prop}(h:p):Go.RowKit.Hid p:=h
namespace disk
open Go.RowKit
structure za (S:Nat→Prop) (w w':World):Prop where
 os:w'.os=w.os
 tape:w'.tape=w.tape
 output:w'.output=w.output
 size:w.heap.size≤w'.heap.size
 block:∀k,k<w.heap.size→¬S k→w'.heap[k]? =w.heap[k]?
theorem kD {S:Nat→Prop}{w w':World}(a:w'.os=w.os:=by rfl)(b:w'.tape=w.tape:=by rfl)(c:w'.output=w.output:=by rfl)(d:w.heap.size≤w'.heap.size:=by exact Nat.le_refl _)(e:∀k,k<w.heap.size→¬S k→w'.heap[k]? =w.heap[k]?:=by intros;rfl):za S w w':=⟨a,b,c,d,e⟩
theorem za.refl(S:Nat→Prop)(w:World):za S w w:=kD
theorem za.trans{S S':Nat→Prop}{a b c:World}(h:za S a b)(k:za S' b c)(hs:∀i,S' i→S i∨a.heap.size≤i):za S a c:=
 ⟨k.os.trans h.os,k.tape.trans h.tape,k.output.trans h.output,Nat.le_trans h.size k.size,fun i hi hn=>
  (k.block i (Nat.lt_of_lt_of_le hi h.size) (fun hc=>by rcases hs i hc with h1|h1;exact hn h1;omega)).trans (h.block i hi hn)⟩
theorem za.mono{S S':Nat→Prop}{a b:World}(h:za S a b)(hs:∀i,S i→S' i):za S' a b:=
 ⟨h.os,h.tape,h.output,h.size,fun i hi hn=>h.block i hi (fun hc=>hn (hs i hc))⟩
theorem za.alloc(S:Nat→Prop)(w:World)(o:Obj):za S w (w.alloc o):=⟨rfl,rfl,rfl,by simp,fun k hk _=>Below.heap_alloc w o k hk⟩
theorem za.drew(S:Nat→Prop)(w:World):za S w w.drew:=kD
theorem za.setCell{S:Nat→Prop}(w:World)(a:Addr)(v:Value)(h:S a.block):za S w (w.setCell a v):=
 ⟨rfl,rfl,rfl,by simp,fun k _ hn=>heap_setCell_other w a k v (fun e=>hn (by rw [e];exact h))⟩
theorem za.setCells{S:Nat→Prop}(b:Nat)(h:S b):∀(vs:List Value) (o:Nat) (w:World),za S w (w.setCells b o vs)
 |[],_,w=>za.refl S w
 |v::r,o,w=>(za.setCell w ⟨b,o,none⟩ v h).trans (za.setCells b h r (o+1) _) (fun _ hi=>.inl hi)
theorem za.grown{S:Nat→Prop}{w w':World}{row:Option Nat}(hg:w.grownBy w' row)(h:∀k,row=some k→S k):za S w w':=
 ⟨hg.os,hg.tape,hg.output,hg.size,fun k hk hn=>hg.block k hk (fun e=>hn (h k e.symm))⟩
theorem za.below{S:Nat→Prop}{w w':World}{B:Nat}(h:za S w w')(hs:∀k,S k→B≤k)(hB:B≤w.heap.size):Below B w w':=
 ⟨h.os,h.tape,h.output,h.size,fun k hk=>h.block k (by omega) (fun hc=>by have:=hs k hc;omega)⟩
theorem za.cell{S:Nat→Prop}{w w':World}(h:za S w w'){a:Addr}(ha:a.block<w.heap.size)(hn:¬S a.block):w'.cell? a=w.cell? a:=
 World.cell?_of_block (h.block a.block ha hn)
theorem za.owns{S:Nat→Prop}{w w':World}(h:za S w w'){base:Nat}{e:TypeId}{size:Nat}{v:Value}{n:Nat}{xs:List Value}(ho:w.ownsRow base e size v n xs)
 (hn:∀k,v.ownBlock=some k→¬S k):w'.ownsRow base e size v n xs:=by
 refine⟨ho.1,?_⟩
 rcases ho.2 with h0|⟨g,cap,cur,rfl,hb,hgg,rest⟩
 ·exact .inl h0
 ·refine .inr ⟨g,cap,cur,rfl,hb,?_,rest⟩
  rw [h.block g (lT hgg) (hn g rfl)]
  exact hgg
def zv(b:List Value):Prop:=b.length=128∧∀v∈b,v.oneCell'=true
def qt(p:Nat×List Value):List Value:=.int .i64 (p.1:Int)::p.2
structure Dk where
 bs:List (List Value)
 ps:List (Nat×List Value)
 fuse:Int
 reads:Int
structure Dk.Ok (D:Dk):Prop where
 bs:∀b∈D.bs,zv b
 ps:∀p∈D.ps,p.1<D.bs.length∧zv p.2
 few:D.bs.length≤1000
structure zh (w:World) (bd:Nat) (S:Nat→Prop) (D:Dk) (ba pa:Option Addr) (bc pc:Nat):Prop where
 ok:D.Ok
 head:w.heap[bd]? =some (.cells #[.slice ba D.bs.length bc,.slice pa D.ps.length pc,.int .i64 D.fuse,.int .i64 D.reads] 118 (0,0))
 rows:w.ownsRow 0 131 128 (.slice ba D.bs.length bc) D.bs.length D.bs.flatten
 pend:w.ownsRow 0 133 129 (.slice pa D.ps.length pc) D.ps.length (D.ps.map qt).flatten
 own:∀k,S k↔(k=bd∨(Value.slice ba D.bs.length bc).ownBlock=some k∨(Value.slice pa D.ps.length pc).ownBlock=some k)
 ap1:(Value.slice ba D.bs.length bc).ownBlock≠some bd
 ap2:(Value.slice pa D.ps.length pc).ownBlock≠some bd
 ap3:∀k,(Value.slice ba D.bs.length bc).ownBlock=some k→(Value.slice pa D.ps.length pc).ownBlock≠some k
def zj(w:World)(bd:Nat)(S:Nat→Prop)(D:Dk):Prop:=∃ba pa bc pc,zh w bd S D ba pa bc pc
theorem zh.lt{w:World}{bd:Nat}{S:Nat→Prop}{D:Dk}{ba pa:Option Addr}{bc pc:Nat}(h:zh w bd S D ba pa bc pc):∀k,S k→k<w.heap.size:=fun k hk=>by
 rcases (h.own k).1 hk with rfl|h1|h1
 ·exact(lT h.head)
 ·exact(h.rows.lt k h1).2
 ·exact(h.pend.lt k h1).2
theorem zj.lt{w:World}{bd:Nat}{S:Nat→Prop}{D:Dk}(h:zj w bd S D):∀k,S k→k<w.heap.size:=by
 obtain⟨ba,pa,bc,pc,h⟩:=h;exact h.lt
theorem zh.bdS{w:World}{bd:Nat}{S:Nat→Prop}{D:Dk}{ba pa:Option Addr}{bc pc:Nat}(h:zh w bd S D ba pa bc pc):S bd:=(h.own bd).2 (.inl rfl)
theorem zj.bdS{w:World}{bd:Nat}{S:Nat→Prop}{D:Dk}(h:zj w bd S D):S bd:=by
 obtain⟨ba,pa,bc,pc,h⟩:=h;exact h.bdS
theorem zj.ok{w:World}{bd:Nat}{S:Nat→Prop}{D:Dk}(h:zj w bd S D):D.Ok:=by
 obtain⟨ba,pa,bc,pc,h⟩:=h;exact h.ok
theorem zh.kept{w w':World}{bd:Nat}{S T:Nat→Prop}{D:Dk}{ba pa:Option Addr}{bc pc:Nat}(h:zh w bd S D ba pa bc pc)(k:za T w w')(hn:∀i,S i→¬T i):zh w' bd S D ba pa bc pc:=by
 refine⟨h.ok,?_,k.owns h.rows (fun i hi=>hn i ((h.own i).2 (.inr (.inl hi)))),k.owns h.pend (fun i hi=>hn i ((h.own i).2 (.inr (.inr hi)))),h.own,h.ap1,h.ap2,h.ap3⟩
 rw [k.block bd (h.lt bd h.bdS) (hn bd h.bdS)];exact h.head
theorem zj.kept{w w':World}{bd:Nat}{S T:Nat→Prop}{D:Dk}(h:zj w bd S D)(k:za T w w')(hn:∀i,S i→¬T i):zj w' bd S D:=by
 obtain⟨ba,pa,bc,pc,h⟩:=h;exact⟨ba,pa,bc,pc,h.kept k hn⟩
theorem zh.c0{w:World}{bd:Nat}{S:Nat→Prop}{D:Dk}{ba pa:Option Addr}{bc pc:Nat}(h:zh w bd S D ba pa bc pc):w.cell? ⟨bd,0,none⟩=some (.slice ba D.bs.length bc):=cR h.head rfl
theorem zh.c1{w:World}{bd:Nat}{S:Nat→Prop}{D:Dk}{ba pa:Option Addr}{bc pc:Nat}(h:zh w bd S D ba pa bc pc):w.cell? ⟨bd,1,none⟩=some (.slice pa D.ps.length pc):=cR h.head rfl
theorem zh.c2{w:World}{bd:Nat}{S:Nat→Prop}{D:Dk}{ba pa:Option Addr}{bc pc:Nat}(h:zh w bd S D ba pa bc pc):w.cell? ⟨bd,2,none⟩=some (.int .i64 D.fuse):=cR h.head rfl
theorem zh.c3{w:World}{bd:Nat}{S:Nat→Prop}{D:Dk}{ba pa:Option Addr}{bc pc:Nat}(h:zh w bd S D ba pa bc pc):w.cell? ⟨bd,3,none⟩=some (.int .i64 D.reads):=cR h.head rfl
theorem zh.fz{w:World}{bd:Nat}{S:Nat→Prop}{D:Dk}{ba pa:Option Addr}{bc pc:Nat}(h:zh w bd S D ba pa bc pc)(i:Nat):w.frozen? ⟨bd,i,none⟩=false:=frozen_of_row w bd i _ _ h.head
theorem gJ{α:Type}(c:Nat):∀(l:List (List α)),(∀b∈l,b.length=c)→l.flatten.length=l.length*c
 |[],_=>by simp
 |b::l,h=>by
  rw [List.flatten_cons,List.length_append,gJ c l (fun x hx=>h x (List.mem_cons_of_mem _ hx)),h b (List.mem_cons_self ..),List.length_cons,Nat.add_mul];omega
theorem jX{α:Type}(c:Nat):∀(l:List (List α)),(∀b∈l,b.length=c)→∀i,i≤l.length→l.flatten.drop (i*c)=(l.drop i).flatten
 |_,_,0,_=>by simp
 |[],_,i+1,hi=>by simp at hi
 |b::l,h,i+1,hi=>by
  have hb:=h b (List.mem_cons_self ..)
  rw [List.flatten_cons,List.drop_succ_cons,Nat.add_mul,Nat.one_mul,←hb,Nat.add_comm,←List.drop_drop,List.drop_left,hb]
  exact jX c l (fun x hx=>h x (List.mem_cons_of_mem _ hx)) i (by simpa using hi)
theorem uC{α:Type}(c:Nat):∀(l:List (List α)),(∀b∈l,b.length=c)→∀i,i≤l.length→l.flatten.take (i*c)=(l.take i).flatten
 |_,_,0,_=>by simp
 |[],_,i+1,hi=>by simp at hi
 |b::l,h,i+1,hi=>by
  have hb:=h b (List.mem_cons_self ..)
  rw [List.flatten_cons,List.take_succ_cons,List.flatten_cons,Nat.add_mul,Nat.one_mul,←hb,Nat.add_comm,List.take_length_add_append,hb]
  rw [uC c l (fun x hx=>h x (List.mem_cons_of_mem _ hx)) i (by simpa using hi)]
theorem bE{α:Type}(c:Nat)(l:List (List α))(h:∀b∈l,b.length=c)(i:Nat)(hi:i<l.length):(l.flatten.drop (i*c)).take c=l[i]:=by
 rw [jX c l h i (Nat.le_of_lt hi),List.drop_eq_getElem_cons hi,List.flatten_cons]
 have hb:=h l[i] (List.getElem_mem hi)
 conv=>lhs;rw [←hb]
 exact List.take_left ..
theorem ZB{α:Type}(c:Nat)(l:List (List α))(h:∀b∈l,b.length=c)(i:Nat)(hi:i<l.length)(v:List α):
 l.flatten.take (i*c)++v++l.flatten.drop (i*c+c)=(l.set i v).flatten:=by
 rw [uC c l h i (Nat.le_of_lt hi),show i*c+c=(i+1)*c from by rw [Nat.add_mul,Nat.one_mul],jX c l h (i+1) hi,List.set_eq_take_append_cons_drop,if_pos hi]
 simp
theorem qU(b k:Nat)(h:k≠b):∀(vs:List Value) (o:Nat) (w:World),(w.setCells b o vs).heap[k]? =w.heap[k]?
 |[],_,_=>rfl
 |v::r,o,w=>by rw [World.setCells,qU b k h r (o+1)];exact heap_setCell_other w ⟨b,o,none⟩ k v h
theorem bG(A B:List Value)(v:Value)(o k:Nat)(h:A.length=o):(A++v::B).take (o+1)=A++[v]∧(A++v::B).drop (o+1+k)=B.drop k:=by
 subst h
 refine⟨by rw [List.take_length_add_append];rfl,?_⟩
 rw [Nat.add_assoc,←List.drop_drop,List.drop_left,Nat.add_comm,List.drop_succ_cons]
theorem zU(b:Nat)(t:TypeId):∀(vs:List Value) (o:Nat) (w:World) (cur:Array Value),w.heap[b]? =some (.cells cur t (0,0))→o+vs.length≤cur.size→
 (w.setCells b o vs).heap[b]? =some (.cells (cur.toList.take o++vs++cur.toList.drop (o+vs.length)).toArray t (0,0))
 |[],o,w,cur,h,_=>by rw [World.setCells,h];simp
 |v::r,o,w,cur,h,hl=>by
  simp only [List.length_cons] at hl
  have ho:o<cur.size:=by omega
  rw [World.setCells,zU b t r (o+1) _ (cur.setIfInBounds o v) (by rw [heap_setCell_same w b o cur t v h]) (by simp;omega)]
  congr 2
  apply Array.ext'
  simp only [Array.toList_setIfInBounds,List.length_cons]
  rw [List.set_eq_take_append_cons_drop,if_pos (by simpa using ho)]
  obtain⟨k1,k2⟩:=bG (cur.toList.take o) (cur.toList.drop (o+1)) v o r.length (by simp;omega)
  rw [k1,k2,List.drop_drop,show o+1+r.length=o+(r.length+1) from by omega]
  simp
theorem q5{w:World}{e:TypeId}{c:Nat}{g cap:Nat}{l:List (List Value)}(h:w.ownsRow 0 e c (.slice (some ⟨g,0,none⟩) l.length cap) l.length l.flatten)
 (hl:∀b∈l,b.length=c) (i:Nat) (hi:i<l.length):w.rangeAt g (i*c) l[i]:=by
 intro j v hv
 have hj:j<c:=by have:=(List.getElem?_eq_some_iff.1 hv).1;rw [hl l[i] (List.getElem_mem hi)] at this;exact this
 have hx:=h.cells (g:=g) rfl (i*c+j) v (by
  rw [←bE c l hl i hi,List.getElem?_take,if_pos hj,List.getElem?_drop] at hv
  exact hv)
 rw [Addr.add_mid] at hx
 simpa using hx
theorem vp{w:World}{e:TypeId}{c:Nat}{g cap:Nat}{l:List (List Value)}(h:w.ownsRow 0 e c (.slice (some ⟨g,0,none⟩) l.length cap) l.length l.flatten)
 (hl:∀b∈l,b.length=c) (i:Nat) (hi:i<l.length):w.there g (i*c) c:=by
 intro j hj
 refine⟨?_,?_⟩
 ·have:=(q5 h hl i hi).isSome j (by rw [hl l[i] (List.getElem_mem hi)];exact hj)
  exact this
 ·rcases h.2 with⟨h0,_⟩|⟨g',cap',cur,hv,_,hg,_⟩
  ·cases h0
  ·cases hv
   exact frozen_of_row w g _ _ _ hg
theorem gK{w:World}{e:TypeId}{c:Nat}{g cap:Nat}{l:List (List Value)}(h:w.ownsRow 0 e c (.slice (some ⟨g,0,none⟩) l.length cap) l.length l.flatten)
 (hl:∀b∈l,b.length=c) (i:Nat) (hi:i<l.length) (v:List Value) (hv:v.length=c):
 (w.setCells g (i*c) v).ownsRow 0 e c (.slice (some ⟨g,0,none⟩) l.length cap) l.length (l.set i v).flatten:=by
 have hl':∀b∈l.set i v,b.length=c:=fun b hb=>by
  rcases List.mem_or_eq_of_mem_set hb with hb|rfl
  ·exact hl b hb
  ·exact hv
 refine⟨by rw [gJ c _ hl',List.length_set],?_⟩
 rcases h.2 with⟨h0,_⟩|⟨g',cap',cur,hv',hb,hg,hnc,hcm,hcs,htake⟩
 ·cases h0
 ·cases hv'
  have hfit:i*c+v.length≤l.length*c:=by
   rw [hv];have:=Nat.mul_le_mul_right c (show i+1≤l.length from hi);rw [Nat.add_mul,Nat.one_mul] at this;exact this
  have hfit2:l.length*c≤cur.size:=by rw [hcs];exact Nat.mul_le_mul_right c hnc
  refine .inr ⟨g,cap,_,rfl,hb,zU g e v (i*c) w cur hg (by omega),hnc,hcm,?_,?_⟩
  ·simp only [List.size_toArray,List.length_append,List.length_take,List.length_drop,Array.length_toList];omega
  ·rw [List.toList_toArray,←ZB c l hl i hi v,←htake]
   have e1:(cur.toList.take (i*c)).length=i*c:=by simp;omega
   rw [List.take_take,Nat.min_eq_left (by omega),List.append_assoc,List.append_assoc,List.take_append,e1,List.take_of_length_le (by rw [e1];omega),List.take_append,
    List.take_of_length_le (show v.length≤l.length*c-i*c by omega),hv,List.drop_take]
   congr 3
   omega
end disk
namespace ref
structure zM where
 key:ByteArray
 num:Int
 mark:Bool
 body:List UInt8
def zQ:List UInt8→List UInt8→Bool
 |[],[]=>false
 |[],_::_=>true
 |_::_,[]=>false
 |a::l,b::r=>if a=b then zQ l r else decide (a<b)
def zR(a b:ByteArray):Bool:=zQ a.data.toList b.data.toList
theorem xj:∀l,zQ l l=false
 |[]=>rfl
 |a::l=>by simp [zQ,xj l]
theorem xA:∀a b c,zQ a b=true→zQ b c=true→zQ a c=true
 |[],[],c,h,_=>by simp [zQ] at h
 |[],b::l,[],_,h=>by simp [zQ] at h
 |[],b::l,c::r,_,_=>rfl
 |a::l,[],c,h,_=>by simp [zQ] at h
 |a::l,b::r,[],_,h=>by simp [zQ] at h
 |a::l,b::r,c::t,h1,h2=>by
  unfold zQ at h1 h2 ⊢
  by_cases e1:a=b
  ·subst e1
   rw [if_pos rfl] at h1
   by_cases e2:a=c
   ·rw [if_pos e2] at h2 ⊢;exact xA l r t h1 h2
   ·rw [if_neg e2] at h2 ⊢;exact h2
  ·rw [if_neg e1] at h1
   by_cases e2:b=c
   ·subst e2;rw [if_neg e1];exact h1
   ·rw [if_neg e2] at h2
    have h3:a<c:=UInt8.lt_trans (of_decide_eq_true h1) (of_decide_eq_true h2)
    have e3:a≠c:=UInt8.ne_of_lt h3
    rw [if_neg e3];exact decide_eq_true h3
theorem kI:∀a b,a≠b→zQ a b=false→zQ b a=true
 |[],[],h,_=>absurd rfl h
 |[],b::l,_,h=>by simp [zQ] at h
 |a::l,[],_,_=>rfl
 |a::l,b::r,h,h1=>by
  unfold zQ at h1 ⊢
  by_cases e:a=b
  ·subst e
   rw [if_pos rfl] at h1 ⊢
   exact kI l r (fun e=>h (by rw [e])) h1
  ·rw [if_neg e] at h1
   rw [if_neg (Ne.symm e)]
   have h2:¬a<b:=of_decide_eq_false h1
   refine decide_eq_true ?_
   have h3:a.toNat≠b.toNat:=fun h=>e (UInt8.toNat_inj.1 h)
   rw [UInt8.lt_iff_toNat_lt] at h2 ⊢
   omega
theorem gL(a b:List UInt8)(h:zQ a b=true):zQ b a=false:=by
 cases h2:zQ b a with
 |false=>rfl
 |true=>have:=xA a b a h h2;rw [xj] at this;cases this
theorem xT{a b:ByteArray}(h:a.data.toList=b.data.toList):a=b:=by
 cases a;cases b;congr 1;exact Array.ext' h
theorem ya(a:ByteArray):zR a a=false:=xj _
theorem yK{a b c:ByteArray}(h:zR a b=true)(k:zR b c=true):zR a c=true:=xA _ _ _ h k
theorem qM{a b:ByteArray}(h:a≠b)(k:zR a b=false):zR b a=true:=kI _ _ (fun e=>h (xT e)) k
theorem kJ{a b:ByteArray}(h:zR a b=true):zR b a=false:=gL _ _ h
def zM.ahead(a b:zM):Bool:=zR a.key b.key||(decide (a.key=b.key)&&decide (b.num<a.num))
theorem zM.ahead_iff(a b:zM):a.ahead b=true↔zR a.key b.key=true∨(a.key=b.key∧b.num<a.num):=by
 simp [zM.ahead]
theorem zM.ahead_irrefl(a:zM):¬a.ahead a=true:=by
 rw [zM.ahead_iff,ya];simp
theorem zM.ahead_trans{a b c:zM}(h:a.ahead b=true)(k:b.ahead c=true):a.ahead c=true:=by
 rw [zM.ahead_iff] at*
 rcases h with h|⟨h,h'⟩<;>rcases k with k|⟨k,k'⟩
 ·exact .inl (yK h k)
 ·exact .inl (by rw [←k];exact h)
 ·exact .inl (by rw [h];exact k)
 ·exact .inr ⟨h.trans k,by omega⟩
theorem zM.ahead_total{a b:zM}(h:¬(a.key=b.key∧a.num=b.num))(k:¬a.ahead b=true):b.ahead a=true:=by
 rw [zM.ahead_iff] at*
 by_cases e:a.key=b.key
 ·right
  refine⟨e.symm,?_⟩
  by_cases h2:b.num<a.num
  ·exact absurd (.inr ⟨e,h2⟩) k
  ·have:a.num≠b.num:=fun e2=>h ⟨e,e2⟩
   omega
 ·left
  cases h2:zR a.key b.key with
  |true=>exact absurd (.inl h2) k
  |false=>exact qM e h2
theorem zM.ahead_asymm{a b:zM}(h:a.ahead b=true):¬b.ahead a=true:=fun k=>zM.ahead_irrefl a (zM.ahead_trans h k)
def vq(vs:List zM):Prop:=vs.Pairwise fun a b=>¬(a.key=b.key∧a.num=b.num)
theorem vq.sub{vs us:List zM}(h:vq vs)(p:us.Sublist vs):vq us:=List.Pairwise.sublist p h
def YN(k:ByteArray)(b:Option zM)(v:zM):Option zM:=
 match b with
 |none=>if v.key=k then some v else none
 |some u=>if v.key=k∧u.num<v.num then some v else some u
def yw(vs:List zM)(k:ByteArray):Option zM:=vs.foldl (YN k) none
def ZC(vs:List zM)(k:ByteArray)(n:Int):Option zM:=vs.find? fun v=>decide (v.key=k)&&decide (v.num=n)
def Q1(vs:List zM)(k:ByteArray)(n:Int):List zM:=vs.filter fun v=> !(decide (v.key=k)&&decide (v.num=n))
def qm(n:Nat):Nat:=1+(n+99)/100
def weight(vs:List zM):Nat:=(vs.map fun v=>qm v.body.length).sum
theorem gM{vs us:List zM}(h:vs.Perm us):weight vs=weight us:=by
 unfold weight;exact(h.map _).sum_nat
def qy(v:zM)(p k:ByteArray)(n:Int):Bool:=
 p.data.toList.isPrefixOf v.key.data.toList&&(decide (k=ByteArray.empty)||zR k v.key||(decide (v.key=k)&&decide (v.num<n)))
structure qe (vs:List zM) (p k:ByteArray) (n:Int) (L:List zM):Prop where
 sorted:L.Pairwise fun a b=>a.ahead b=true
 perm:L.Perm (vs.filter fun v=>qy v p k n)
theorem jf:∀(a b:List zM),a.Pairwise (fun x y=>x.ahead y=true)→b.Pairwise (fun x y=>x.ahead y=true)→a.Perm b→a=b
 |[],b,_,_,p=>(List.perm_nil.1 p.symm).symm
 |x::a,[],_,_,p=>(List.perm_nil.1 p)
 |x::a,y::b,ha,hb,p=>by
  rw [List.pairwise_cons] at ha hb
  have e:x=y:=by
   have hx:x∈y::b:=p.subset (List.mem_cons_self ..)
   have hy:y∈x::a:=p.symm.subset (List.mem_cons_self ..)
   rcases List.mem_cons.1 hx with e|hx
   ·exact e
   ·rcases List.mem_cons.1 hy with e|hy
    ·exact e.symm
    ·exact absurd (ha.1 y hy) (zM.ahead_asymm (hb.1 x hx))
  subst e
  rw [jf a b ha.2 hb.2 ((List.perm_cons x).1 p)]
theorem qe.unique{vs us:List zM}{p k:ByteArray}{n:Int}{L M:List zM}(h:qe vs p k n L)(g:qe us p k n M)(e:vs.Perm us):L=M:=
 jf L M h.sorted g.sorted (h.perm.trans ((e.filter _).trans g.perm.symm))
def dl(v:zM):List zM→List zM
 |[]=>[v]
 |u::l=>if v.ahead u then v::u::l else u::dl v l
theorem jY(v:zM):∀l,(dl v l).Perm (v::l)
 |[]=>List.Perm.refl _
 |u::l=>by
  unfold dl
  split
  ·exact List.Perm.refl _
  ·exact((jY v l).cons u).trans (List.Perm.swap v u l)
theorem kK(v:zM):∀l:List zM,l.Pairwise (fun x y=>x.ahead y=true)→(∀u∈l,¬(v.key=u.key∧v.num=u.num))→(dl v l).Pairwise fun x y=>x.ahead y=true
 |[],_,_=>by simp [dl]
 |u::l,h,hn=>by
  rw [List.pairwise_cons] at h
  unfold dl
  split
  next hv=>
   rw [List.pairwise_cons]
   refine⟨fun x hx=>?_,List.pairwise_cons.2 h⟩
   rcases List.mem_cons.1 hx with rfl|hx
   ·exact hv
   ·exact zM.ahead_trans hv (h.1 x hx)
  next hv=>
   rw [List.pairwise_cons]
   refine⟨fun x hx=>?_,kK v l h.2 (fun y hy=>hn y (List.mem_cons_of_mem _ hy))⟩
   rcases List.mem_cons.1 ((jY v l).subset hx) with rfl|hx
   ·exact zM.ahead_total (hn u (List.mem_cons_self ..)) hv
   ·exact h.1 x hx
def ZD(l:List zM):List zM:=l.foldr dl []
theorem ji:∀l,(ZD l).Perm l
 |[]=>List.Perm.refl _
 |v::l=>(jY v _).trans ((ji l).cons v)
theorem jx:∀l,vq l→(ZD l).Pairwise fun x y=>x.ahead y=true
 |[],_=>List.Pairwise.nil
 |v::l,h=>by
  unfold vq at h
  rw [List.pairwise_cons] at h
  exact kK v _ (jx l h.2) (fun u hu=>h.1 u ((ji l).subset hu))
theorem gN(vs:List zM)(h:vq vs)(p k:ByteArray)(n:Int):qe vs p k n (ZD (vs.filter fun v=>qy v p k n)):=
 ⟨jx _ (h.sub List.filter_sublist),ji _⟩
end ref
namespace ref
open Go.RowKit disk
def zy(w:World)(P:Nat→Prop)(a:Option Addr)(l:List UInt8):Prop:=
 l=[]∨∃b o,a=some ⟨b,o,none⟩∧P b∧b<w.heap.size∧∀j (h:j<l.length),w.cell? ⟨b,o+j,none⟩=some (.int .u8 (l[j].toNat:Int))
theorem zy.kept{w w':World}{P T:Nat→Prop}{a:Option Addr}{l:List UInt8}(h:zy w P a l)(k:za T w w')(hn:∀i,P i→¬T i):zy w' P a l:=by
 rcases h with h|⟨b,o,h1,h2,h3,h4⟩
 ·exact .inl h
 ·exact .inr ⟨b,o,h1,h2,Nat.lt_of_lt_of_le h3 k.size,fun j hj=>(k.cell (a:=⟨b,o+j,none⟩) h3 (hn b h2)).trans (h4 j hj)⟩
theorem zy.mono{w:World}{P Q:Nat→Prop}{a:Option Addr}{l:List UInt8}(h:zy w P a l)(hs:∀i,P i→i<w.heap.size→Q i):zy w Q a l:=by
 rcases h with h|⟨b,o,h1,h2,h3,h4⟩
 ·exact .inl h
 ·exact .inr ⟨b,o,h1,hs b h2 h3,h3,h4⟩
structure YO (w:World) (P:Nat→Prop) (cs:List Value) (v:zM):Prop where
 at_:∃a cap,cs=[.string v.key,.int .i64 v.num,.bool v.mark,.slice a v.body.length cap]∧zy w P a v.body
structure Yt (w:World) (P:Nat→Prop) (cs:List (List Value)) (vs:List zM):Prop where
 len:cs.length=vs.length
 each:∀i (h:i<cs.length) (h':i<vs.length),YO w P cs[i] vs[i]
structure gO (w:World) (F G:Nat→Prop) (b:Nat) (vs:List zM) (last:Int) (a:Option Addr) (cap:Nat) (cs:List (List Value)):Prop where
 head:w.heap[b]? =some (.cells #[.slice a vs.length cap,.int .i64 last] 164 (0,0))
 row:w.ownsRow 0 123 4 (.slice a vs.length cap) vs.length cs.flatten
 tells:Yt w G cs vs
 foot:F b
 foot2:∀k,(Value.slice a vs.length cap).ownBlock=some k→F k
 apart:(Value.slice a vs.length cap).ownBlock≠some b
def qg(w:World)(F G:Nat→Prop)(b:Nat)(vs:List zM)(last:Int):Prop:=∃a cap cs,gO w F G b vs last a cap cs
def z4(b:UInt8):Value:=.int .u8 (b.toNat:Int)
theorem xU(l:List UInt8):∀u∈l.map z4,u.oneCell'=true:=fun u hu=>by
 obtain⟨b,_,rfl⟩:=List.mem_map.1 hu;rfl
theorem zy.of_own{w:World}{base:Nat}{a:Option Addr}{n cap:Nat}{l:List UInt8}(e:TypeId)(h:w.ownsRow base e 1 (.slice a n cap) n (l.map z4))(hn:n=l.length)(P:Nat→Prop)(hP:∀k,(Value.slice a n cap).ownBlock=some k→P k):zy w P a l:=by
 subst hn
 rcases h.2 with⟨h0,h1⟩|⟨g,cap',cur,hv,hb,hg,_⟩
 ·exact .inl (List.eq_nil_of_length_eq_zero h1)
 ·cases hv
  refine .inr ⟨g,0,rfl,hP g rfl,(lT hg),fun j hj=>?_⟩
  have:=h.cells (g:=g) rfl j (z4 l[j]) (by simp [hj])
  rw [Addr.add_mid] at this
  simpa [z4] using this
theorem vr{P:Program}(w:World)(Q:Nat→Prop)(t ty e:TypeId)(i:TypeInfo)(z:Value)(ht:P.underlying t=some (.slice e))(hi:P.info? e=some i)(hz:i.zero=some z)
 (hsize:i.size=1) (hby:i.bytes=1) (hzs:z.cells.size=1) (a:Option Addr) (cap:Nat) (l:List UInt8) (hb:zy w Q a l) (hlen:l.length≤140737488355328):
 ∃a' c' w',(Builtin.append_ #[t,t] ty #[.slice none 0 0,.slice a l.length cap]).run P w=.ok (.slice a' l.length c') w'∧w'.ownsRow 0 e 1 (.slice a' l.length c') l.length (l.map z4)∧w.grownBy w' none∧
  ((Value.slice a' l.length c').ownBlock=none∨(Value.slice a' l.length c').ownBlock=some w.heap.size):=by
 have h63:l.length≤maxLen:=by unfold maxLen;omega
 rcases hb with rfl|⟨b,o,rfl,_,_,hc⟩
 ·refine⟨none,0,w,?_,World.ownsRow_nil w 0 e 1,⟨rfl,rfl,rfl,Nat.le_refl _,fun _ _ _=>rfl⟩,.inl rfl⟩
  cases a with
  |none=>simp [Builtin.append_,run_underlying ht,sizeOf,typeInfo,hi,Builtin.lenOf,Builtin.firstCells]
  |some ad=>simp [Builtin.append_,run_underlying ht,sizeOf,typeInfo,hi,Builtin.lenOf,Builtin.firstCells,loadCells,loadCellsFrom]
 ·obtain⟨v',w',hr,h2,h3,_,h5⟩:=run_append_own_at (P:=P) w 0 t ty e i z 1 1 ht hi hz hsize hby hzs (by omega) (.slice none 0 0) 0 [] (World.ownsRow_nil w 0 e 1) ⟨b,o,none⟩ l.length cap (l.map z4) (by simp) (fun j u hu=>by
   obtain⟨hj,rfl⟩:=List.getElem?_eq_some_iff.1 hu
   simp only [List.length_map] at hj
   rw [Addr.add_mid];simpa [z4] using hc j hj) (xU l) (by simpa using h63) (by simpa using hlen) (Nat.zero_le _)
  simp only [Nat.zero_add,List.nil_append] at h2
  have h5':v'.ownBlock=none∨v'.ownBlock=some w.heap.size:=h5
  rcases h2.2 with⟨e1,e2⟩|⟨g',cap',cur',e1,_⟩
  ·subst e1
   have e3:l=[]:=List.eq_nil_of_length_eq_zero e2
   subst e3
   exact⟨none,0,w',hr,h2,h3,h5'⟩
  ·subst e1;exact⟨_,cap',w',hr,h2,h3,h5'⟩
theorem uj{P:Program}{w:World}(R:Nat→Prop){o:Oper}{a:Act}{K:Act→World→Prop}{Q:Exit→Act→World→Prop}(s x:Operand)(t:TypeId)
 (ho:o.op=.call {callee:=.builtin .append,args:=#[s,x],argTypes:=#[t,t] })
 (e:TypeId) (i:TypeInfo) (z:Value) (ht:P.underlying t=some (.slice e)) (hi:P.info? e=some i) (hz:i.zero=some z) (hsize:i.size=1) (hby:i.bytes=1) (hzs:z.cells.size=1)
 (ad:Option Addr) (cap:Nat) (l:List UInt8) (hs:a.eval s=.slice none 0 0) (hx:a.eval x=.slice ad l.length cap) (hb:zy w R ad l) (hlen:l.length≤140737488355328)
 (h:∀a' c' w',w'.ownsRow 0 e 1 (.slice a' l.length c') l.length (l.map z4)→w.grownBy w' none→((Value.slice a' l.length c').ownBlock=none∨(Value.slice a' l.length c').ownBlock=some w.heap.size)→K (a.put o.dst (.slice a' l.length c')) w'):o.wp P a w K Q:=by
 obtain⟨a',c',w',hr,h2,h3,h4⟩:=vr (P:=P) w R t o.type e i z ht hi hz hsize hby hzs ad cap l hb hlen
 unfold Oper.wp execOp
 simp only [ho,resolve,invoke,builtin,Sem.run_bind,Sem.run_pure,Result.andThen_ok,List.map_toArray,List.map_cons,List.map_nil,hs,hx,hr]
 exact h a' c' w' h2 h3 h4
theorem qK{P:Program}{w:World}(R:Nat→Prop){ops:Array Oper}{rest:List Oper}{o:Oper}{a:Act}{Q:Exit→Act→World→Prop}(hgd:o.guard=none)(s x:Operand)(t:TypeId)
 (ho:o.op=.call {callee:=.builtin .append,args:=#[s,x],argTypes:=#[t,t] })
 (e:TypeId) (i:TypeInfo) (z:Value) (ht:P.underlying t=some (.slice e)) (hi:P.info? e=some i) (hz:i.zero=some z) (hsize:i.size=1) (hby:i.bytes=1) (hzs:z.cells.size=1)
 (ad:Option Addr) (cap:Nat) (l:List UInt8) (hs:a.eval s=.slice none 0 0) (hx:a.eval x=.slice ad l.length cap) (hb:zy w R ad l) (hlen:l.length≤140737488355328)
 (h:∀a' c' w',w'.ownsRow 0 e 1 (.slice a' l.length c') l.length (l.map z4)→w.grownBy w' none→((Value.slice a' l.length c').ownBlock=none∨(Value.slice a' l.length c').ownBlock=some w.heap.size)→wpList P ops Q rest (a.put o.dst (.slice a' l.length c')) w'):wpList P ops Q (o::rest) a w:=
 wpList_plain hgd fun _ hK=>uj R s x t ho e i z ht hi hz hsize hby hzs ad cap l hs hx hb hlen fun a' c' w' h2 h3 h4=>hK _ _ (h a' c' w' h2 h3 h4)
theorem yx{P:Program}{t:TypeId}{z:Value}{s b:Nat}(h:(P.info? t).map (fun i=>(i.zero,i.size,i.bytes))=some (some z,s,b)):∃i,P.info? t=some i∧i.zero=some z∧i.size=s∧i.bytes=b:=by
 cases hi:P.info? t with
 |none=>rw [hi] at h;cases h
 |some i=>rw [hi] at h;simp only [Option.map_some,Option.some.injEq,Prod.mk.injEq] at h;exact⟨i,rfl,h.1,h.2.1,h.2.2⟩
theorem Tryz.infoU8:(Tryz.prog.info? 5).map (fun i=>(i.zero,i.size,i.bytes))=some (some (.int .u8 0),1,1):=by kernel_rfl
theorem Tryz.infoKept:(Tryz.prog.info? 123).map (fun i=>(i.zero,i.size,i.bytes))=some (some (.agg #[.string ByteArray.empty,.int .i64 0,.bool false,.slice none 0 0]),4,56):=by kernel_rfl
end ref
namespace keys
open Go.ChangeShapes Go.WideShapes Go.ChangeAt Go.RowKit
open Go.ChangeMaps (open_string shut_string)
def xB(c:Int):Bool:=(decide (97≤c)&&decide (c≤122))||(decide (48≤c)&&decide (c≤57))||(c==45)||(c==47)
def xk(l:List UInt8):Bool:=l.all fun c=>xB (c.toNat:Int)
def zu(l:List UInt8):Bool:=decide (1≤l.length)&&decide (l.length≤8)&&xk l
theorem cl(s:ByteArray)(k:Nat)(h:k<s.size):s.data.toList.take (k+1)=s.data.toList.take k++[s[k]]:=by
 rw [List.take_succ_eq_append_getElem (by simpa using h)];rfl
theorem vt(s:ByteArray)(k:Nat)(h:k<s.size):xk (s.data.toList.take (k+1))=(xk (s.data.toList.take k)&&xB (s[k].toNat:Int)):=by
 rw [cl s k h];simp [xk]
theorem ZE(s:ByteArray)(k:Nat)(h:k<s.size)(hb:xB (s[k].toNat:Int)=false):xk s.data.toList=false:=by
 have e:s.data.toList=s.data.toList.take (k+1)++s.data.toList.drop (k+1):=(List.take_append_drop _ _).symm
 rw [e]
 have h2:=vt s k h
 rw [hb,Bool.and_false] at h2
 unfold xk at h2 ⊢
 rw [List.all_append,h2,Bool.false_and]
theorem zg{k:IntKind}{a b:Int}(h:a=b):Ending.returned (.int k a)=.returned (.int k b):=by rw [h]
theorem zc{a b:Bool}(h:a=b):Ending.returned (.bool a)=.returned (.bool b):=by rw [h]
theorem xC(c:Int)(h:(97≤c∧c≤122)∨(48≤c∧c≤57)∨c=45∨c=47):true=xB c:=by
 unfold xB;simp only [Bool.true_eq,Bool.or_eq_true,Bool.and_eq_true,decide_eq_true_eq,beq_iff_eq];omega
theorem vi(c:Int)(h1:c<97∨122<c)(h2:c<48∨57<c)(h3:¬c=45)(h4:¬c=47):false=xB c:=by
 symm;rw [Bool.eq_false_iff];unfold xB;simp only [ne_eq,Bool.or_eq_true,Bool.and_eq_true,decide_eq_true_eq,beq_iff_eq];omega
theorem zr{a b:Int}(h:(a==b)=false):¬a=b:=by simpa using h
theorem zm{a b:Int}(h:(a==b)=true):a=b:=by simpa using h
theorem gQ(c:Int)(w:World)(h0:0≤c)(h1:c≤255):
 Calls Tryz.prog 71 #[.int .u8 c] w fun e w'=>e=.returned (.bool (xB c))∧w'=w:=by
 go_enter Tryz.func71,Tryz.ntmps71
 go_wp2
 ·go_ret;exact⟨zc (xC c (by omega)),rfl⟩
 ·go_ret;exact⟨zc (vi c (by omega) (by omega) (zr ‹_›) (zr ‹_›)),rfl⟩
 ·go_ret;exact⟨zc (xC c (by omega)),rfl⟩
 ·go_ret;exact⟨zc (vi c (by omega) (by omega) (zr ‹_›) (zr ‹_›)),rfl⟩
 ·go_ret;exact⟨zc (xC c (.inr (.inr (.inl (zm ‹_›))))),rfl⟩
 ·go_ret;exact⟨zc (xC c (.inr (.inr (.inr (zm ‹_›))))),rfl⟩
 ·go_ret;exact⟨zc (vi c (by omega) (by omega) (zr ‹_›) (zr ‹_›)),rfl⟩
theorem yj(s:ByteArray)(w:World)(hs:s.size≤maxLen):
 Calls Tryz.prog 49 #[.string s] w fun e w'=>e=.returned (.bool (zu s.data.toList))∧w'=w:=by
 unfold maxLen at hs
 by_cases hlo:s.size<1
 ·go_enter Tryz.func49,Tryz.ntmps49
  go_wp2
  go_ret
  refine⟨zc ?_,rfl⟩
  have:¬1≤s.data.toList.length:=by simpa using hlo
  simp only [zu,this,decide_false,Bool.false_and]
 ·by_cases hhi:8<s.size
  ·go_enter Tryz.func49,Tryz.ntmps49
   go_wp2
   go_ret
   refine⟨zc ?_,rfl⟩
   have:¬s.data.toList.length≤8:=by simpa using hhi
   simp only [zu,this,decide_false,Bool.false_and,Bool.and_false]
  ·have hkey:zu s.data.toList=xk s.data.toList:=by
    have h1:1≤s.data.toList.length:=by simp;omega
    have h2:s.data.toList.length≤8:=by simp;omega
    simp only [zu,h1,h2,decide_true,Bool.true_and]
   have HK:Hid (zu s.data.toList=xk s.data.toList):=hkey
   clear hkey
   go_enter Tryz.func49,Tryz.ntmps49
   go_wp2
   go_loop [14] (fun i=>∃k:Nat,k≤s.size∧i=.int .i64 k∧xk (s.data.toList.take k)=true) (fun i=>s.size-(intOf i).toNat)
   case atStart=>exact⟨0,Nat.zero_le _,rfl,rfl⟩
   case round=>
    obtain⟨k,hk,rfl,hall⟩:=hrel
    have HA:Hid (xk (s.data.toList.take k)=true):=hall
    clear hall
    by_cases hlt:k<s.size
    ·cases hb:xB (s[k].toNat:Int)
     ·go_wp2_with (go_at_call 71;refine(gQ _ _ (by omega) (by have:=s[k].toNat_lt;omega)).mono ?_;rintro e w' ⟨rfl,rfl⟩)
      go_ret
      exact⟨zc (by rw [HK.out,ZE s k hlt hb]),rfl⟩
     ·have HB:Hid (xk (s.data.toList.take (k+1))=true):=by
       show xk (s.data.toList.take (k+1))=true
       rw [vt s k hlt,HA.out,hb];rfl
      go_wp2_with (go_at_call 71;refine(gQ _ _ (by omega) (by have:=s[k].toNat_lt;omega)).mono ?_;rintro e w' ⟨rfl,rfl⟩)
      go_round
      case rel=>exact⟨k+1,by omega,by go_num,HB.out⟩
      case measure=>simp [intOf];omega
    ·go_wp2
     go_ret
     refine⟨zc ?_,rfl⟩
     rw [HK.out]
     have h:=HA.out
     rw [List.take_of_length_le (by simp;omega)] at h
     exact h.symm
def jy:Bool→Int
 |true=>0
 |false=>2
theorem cn(s:ByteArray)(w:World)(hs:s.size≤maxLen):
 Calls Tryz.prog 89 #[.string s] w fun e w'=>e=.returned (.int .i64 (jy (zu s.data.toList)))∧w'=w:=by
 cases hk:zu s.data.toList
 all_goals
  go_enter Tryz.func89,Tryz.ntmps89
  go_wp2_with (go_at_call 49;refine(yj _ _ hs).mono ?_;rintro e w' ⟨rfl,rfl⟩)
  go_ret
  exact⟨rfl,rfl⟩
theorem vj(s:ByteArray)(w:World)(hs:s.size≤maxLen):
 Calls Tryz.prog 90 #[.string s] w fun e w'=>e=.returned (.int .i64 (jy (zu s.data.toList)))∧w'=w:=by
 unfold maxLen at hs
 by_cases hlo:s.size<1
 ·go_enter Tryz.func90,Tryz.ntmps90
  go_wp2
  go_ret
  refine⟨zg ?_,rfl⟩
  have:¬1≤s.data.toList.length:=by simpa using hlo
  simp only [zu,this,decide_false,Bool.false_and];rfl
 ·by_cases hhi:8<s.size
  ·go_enter Tryz.func90,Tryz.ntmps90
   go_wp2
   go_ret
   refine⟨zg ?_,rfl⟩
   have:¬s.data.toList.length≤8:=by simpa using hhi
   simp only [zu,this,decide_false,Bool.false_and,Bool.and_false];rfl
  ·have hkey:zu s.data.toList=xk s.data.toList:=by
    have h1:1≤s.data.toList.length:=by simp;omega
    have h2:s.data.toList.length≤8:=by simp;omega
    simp only [zu,h1,h2,decide_true,Bool.true_and]
   have HK:Hid (zu s.data.toList=xk s.data.toList):=hkey
   clear hkey
   go_enter Tryz.func90,Tryz.ntmps90
   go_wp2
   go_loop [3] (fun i=>∃k:Nat,k≤s.size∧i=.int .i64 k∧xk (s.data.toList.take k)=true) (fun i=>s.size-(intOf i).toNat)
   case atStart=>exact⟨0,Nat.zero_le _,rfl,rfl⟩
   case round=>
    obtain⟨k,hk,rfl,hall⟩:=hrel
    have HA:Hid (xk (s.data.toList.take k)=true):=hall
    clear hall
    by_cases hlt:k<s.size
    ·have HB:Hid (true=xB (s[k].toNat:Int)→xk (s.data.toList.take (k+1))=true):=by
      intro hb
      show xk (s.data.toList.take (k+1))=true
      rw [vt s k hlt,HA.out,←hb];rfl
     have HN:Hid (false=xB (s[k].toNat:Int)→(2:Int)=jy (zu s.data.toList)):=by
      intro hb
      rw [HK.out,ZE s k hlt hb.symm];rfl
     have hr1:(0:Int)≤s[k].toNat:=by omega
     go_wp2
     all_goals
      first
       |(go_round
         case rel=>
          simp only [bne_eq_false_iff_eq] at*
          exact⟨k+1,by omega,by go_num,HB.out (xC _ (by omega))⟩
         case measure=>simp [intOf];omega)
       |(go_ret
         simp only [bne_iff_ne,ne_eq] at*
         exact⟨zg (HN.out (vi _ (by omega) (by omega) (by omega) (by omega))),trivial⟩)
    ·go_wp2
     go_ret
     refine⟨zg ?_,rfl⟩
     have h:=HA.out
     rw [List.take_of_length_le (by simp;omega)] at h
     rw [HK.out,h];rfl
theorem walk(a0:ByteArray)(w0:a0.size≤maxLen)(w:World):
 Calls Tryz.prog 57 #[.string a0] w fun e w'=>e=.returned (.bool true)∧Grown w w':=by
 go_enter Tryz.func57,Tryz.ntmps57
 go_wp2_with (first
  |(go_at_call 89;refine(cn _ _ w0).mono ?_;rintro e w' ⟨rfl,rfl⟩)
  |(go_at_call 90;refine(vj _ _ w0).mono ?_;rintro e w' ⟨rfl,rfl⟩))
 go_ret
 exact⟨by simp,Grown.refl _⟩
end keys
namespace disk
open Go.ChangeShapes Go.WideShapes Go.ChangeAt Go.RowKit
theorem zh.set_fuse{w:World}{bd:Nat}{S:Nat→Prop}{D:Dk}{ba pa:Option Addr}{bc pc:Nat}(h:zh w bd S D ba pa bc pc)(n:Int):
 zh (w.setCell ⟨bd,2,none⟩ (.int .i64 n)) bd S {D with fuse:=n} ba pa bc pc:=by
 refine⟨⟨h.ok.bs,h.ok.ps,h.ok.few⟩,?_,?_,?_,h.own,h.ap1,h.ap2,h.ap3⟩
 ·rw [heap_setCell_same w bd 2 _ _ _ h.head];rfl
 ·exact(za.setCell (S:=fun k=>k=bd) w ⟨bd,2,none⟩ _ rfl).owns h.rows (fun k hk e=>h.ap1 (by rw [hk,e]))
 ·exact(za.setCell (S:=fun k=>k=bd) w ⟨bd,2,none⟩ _ rfl).owns h.pend (fun k hk e=>h.ap2 (by rw [hk,e]))
theorem zh.set_reads{w:World}{bd:Nat}{S:Nat→Prop}{D:Dk}{ba pa:Option Addr}{bc pc:Nat}(h:zh w bd S D ba pa bc pc)(n:Int):
 zh (w.setCell ⟨bd,3,none⟩ (.int .i64 n)) bd S {D with reads:=n} ba pa bc pc:=by
 refine⟨⟨h.ok.bs,h.ok.ps,h.ok.few⟩,?_,?_,?_,h.own,h.ap1,h.ap2,h.ap3⟩
 ·rw [heap_setCell_same w bd 3 _ _ _ h.head];rfl
 ·exact(za.setCell (S:=fun k=>k=bd) w ⟨bd,3,none⟩ _ rfl).owns h.rows (fun k hk e=>h.ap1 (by rw [hk,e]))
 ·exact(za.setCell (S:=fun k=>k=bd) w ⟨bd,3,none⟩ _ rfl).owns h.pend (fun k hk e=>h.ap2 (by rw [hk,e]))
def qR(n:Int):Int:=if 0<n then n-1 else n
def zt(n:Int):Prop:= -9223372036854775808≤n∧n≤9223372036854775807
theorem ZF{n:Int}(h:0<n):qR n=n-1:=if_pos h
theorem cq{n:Int}(h:¬0<n):qR n=n:=if_neg h
theorem zh.at_fuse{w:World}{bd:Nat}{S:Nat→Prop}{D:Dk}{ba pa:Option Addr}{bc pc:Nat}(h:zh w bd S D ba pa bc pc){n:Int}(e:D.fuse=n):zh w bd S {D with fuse:=n} ba pa bc pc:=by
 subst e;exact h
theorem jz(w:World)(bd:Nat)(S:Nat→Prop)(D:Dk)(ba pa:Option Addr)(bc pc:Nat)(h:zh w bd S D ba pa bc pc)(hi:zt D.fuse):
 Calls Tryz.prog 65 #[.pointer (some ⟨bd,0,none⟩)] w fun e w'=>
  e=.returned (.bool (!(D.fuse==0)))∧zh w' bd S {D with fuse:=qR D.fuse} ba pa bc pc∧za (fun k=>k=bd) w w':=by
 have hc:=h.c2
 have hf:=h.fz 2
 obtain⟨hi1,hi2⟩:=hi
 have hs:=h.set_fuse (D.fuse-1)
 have HS:Hid (zh (w.setCell ⟨bd,2,none⟩ (.int .i64 (D.fuse-1))) bd S {D with fuse:=D.fuse-1} ba pa bc pc):=hs
 have HH:Hid (zh w bd S D ba pa bc pc):=h
 clear hs h
 generalize hfu:D.fuse=n at*
 have HF:Hid (D.fuse=n):=hfu
 clear hfu
 by_cases h0:n=0
 ·subst h0
  go_enter Tryz.func65,Tryz.ntmps65
  go_wp2
  go_ret
  exact⟨rfl,HH.out.at_fuse HF.out,za.refl _ _⟩
 ·by_cases h1:0<n
  ·have HB:Hid (qR n=n-1):=ZF h1
   go_enter Tryz.func65,Tryz.ntmps65
   go_wp2
   go_ret
   exact⟨by simp [h0],by rw [HB.out];exact HS.out,za.setCell _ _ _ rfl⟩
  ·have HB:Hid (qR n=n):=cq h1
   go_enter Tryz.func65,Tryz.ntmps65
   go_wp2
   go_ret
   exact⟨by simp,by rw [HB.out];exact HH.out.at_fuse HF.out,za.refl _ _⟩
theorem jj(w:World)(bd:Nat)(S:Nat→Prop)(D:Dk)(ba pa:Option Addr)(bc pc:Nat)(h:zh w bd S D ba pa bc pc):
 Calls Tryz.prog 54 #[.pointer (some ⟨bd,0,none⟩)] w fun e w'=>e=.returned (.int .i64 D.bs.length)∧w'=w:=by
 have hc:=h.c0
 clear h
 go_enter Tryz.func54,Tryz.ntmps54
 go_wp2
 go_ret
 exact⟨rfl,rfl⟩
theorem jZ(w:World)(bd:Nat)(S:Nat→Prop)(D:Dk)(ba pa:Option Addr)(bc pc:Nat)(h:zh w bd S D ba pa bc pc):
 Calls Tryz.prog 86 #[.pointer (some ⟨bd,0,none⟩)] w fun e w'=>e=.returned (.int .i64 D.reads)∧w'=w:=by
 have hc:=h.c3
 clear h
 go_enter Tryz.func86,Tryz.ntmps86
 go_wp2
 go_ret
 exact⟨rfl,rfl⟩
def zD:List Value:=List.replicate 128 (.int .u8 0)
theorem Tryz.infoBlock:(Tryz.prog.info? 131).map (fun i=>(i.zero,i.size,i.bytes))=some (some (.agg zD.toArray),128,128):=by kernel_rfl
theorem zC:zv zD:=⟨by simp [zD],fun v hv=>by rw [List.eq_of_mem_replicate hv];rfl⟩
theorem jk:∀n,(List.replicate n zD).flatten=List.replicate (n*128) (Value.int .u8 0)
 |0=>by simp
 |n+1=>by rw [List.replicate_succ,List.flatten_cons,jk n,Nat.add_mul,Nat.one_mul,Nat.add_comm,←List.replicate_append_replicate];rfl
theorem dm(z:Array Value)(v:Value)(hz:0<z.size)(h:∀i (hi:i<z.size),z[i]=v)(n:Nat):(madeCells z n).toList=List.replicate n v:=by
 apply List.ext_getElem
 ·simp [madeCells]
 ·intro i h1 h2
  have hm:i%z.size<z.size:=Nat.mod_lt _ hz
  simp only [madeCells,Array.toList_map,List.getElem_map,Array.getElem_toList,Array.getElem_range,List.getElem_replicate]
  rw [getElem!_pos z _ hm]
  exact h _ hm
theorem dn(n:Nat):(madeCells (Value.agg zD.toArray).cells n).toList=List.replicate n (Value.int .u8 0):=by
 have e:(Value.agg zD.toArray).cells=zD.toArray:=rfl
 have hs:zD.toArray.size=128:=by rw [List.size_toArray];exact zC.1
 rw [e]
 refine dm _ _ (by omega) (fun i hi=>?_) n
 rw [List.getElem_toArray]
 exact List.eq_of_mem_replicate (List.getElem_mem _)
def Dk.fresh(n:Nat):Dk:={bs:=List.replicate n zD,ps:=[],fuse:= -1,reads:=0}
def y6(n:Int):Nat:=if n<0∨1000<n then 0 else n.toNat
theorem vu(w:World)(n:Nat)(hn:n≤1000):
 zh ((w.alloc (.cells (madeCells (Value.agg zD.toArray).cells (n*128)) 131)).alloc
  (.cells #[.slice (some ⟨w.heap.size,0,none⟩) n n,.slice none 0 0,.int .i64 (-1),.int .i64 0] 118)) (w.heap.size+1) (fun k=>k=w.heap.size+1∨k=w.heap.size) (Dk.fresh n) (some ⟨w.heap.size,0,none⟩) none n 0:=by
 have hl:(List.replicate n zD).length=n:=by simp
 refine⟨⟨fun b hb=>by rw [List.eq_of_mem_replicate hb];exact zC,fun p hp=>(by cases hp),by simpa [Dk.fresh] using hn⟩,?_,?_,World.ownsRow_nil _ _ _ _,?_,?_,?_,?_⟩
 ·simp only [Dk.fresh,hl,List.length_nil]
  exact heap_alloc2_new w _ _
 ·simp only [Dk.fresh,hl]
  refine World.ownsRow.alloc ⟨?_,.inr ⟨w.heap.size,n,_,rfl,Nat.zero_le _,heap_alloc_new w _,Nat.le_refl _,by unfold maxLen;omega,by rw [size_madeCells],?_⟩⟩ _
  ·rw [jk];simp
  ·rw [dn,jk,List.take_of_length_le (by simp)]
 ·intro k;simp [Value.ownBlock,eq_comm]
 ·simp [Value.ownBlock]
 ·simp [Value.ownBlock]
 ·intro k _;simp [Value.ownBlock]
theorem yL(w:World)(n:Int)(hi:zt n):
 Calls Tryz.prog 39 #[.int .i64 n] w fun e w'=>
  e=.returned (.pointer (some ⟨w.heap.size+1,0,none⟩))∧zj w' (w.heap.size+1) (fun k=>k=w.heap.size+1∨k=w.heap.size) (Dk.fresh (y6 n))∧za (fun _=>False) w w':=by
 obtain⟨i0,hi0,hz0,hz1,hz2⟩:=info_parts Tryz.infoBlock
 obtain⟨hi1,hi2⟩:=hi
 have HN:Hid (∀m:Nat,m≤1000→∀W:World,(Instr.makeSlice 115 (.int .i64 m) (.int .i64 m)).run Tryz.prog W=
  .ok (.slice (some ⟨W.heap.size,0,none⟩) m m) (W.alloc (.cells (madeCells (Value.agg zD.toArray).cells (m*128)) 131))):=fun m hm W=>by
  have:=run_make (P:=Tryz.prog) W 115 131 i0 _ Tryz.underlying115 hi0 hz0 .i64 .i64 m m (by omega) (by omega) (by rw [hz2];omega) (by omega)
  rw [hz1] at this
  simpa using this
 clear hi0 hz0 hz1 hz2
 by_cases hn:n<0∨1000<n
 ·have HZ:Hid (y6 n=0):=if_pos hn
  have hmk:∀W:World,(Instr.makeSlice 115 (.int .i64 0) (.int .i64 0)).run Tryz.prog W=.ok (.slice (some ⟨W.heap.size,0,none⟩) 0 0) (W.alloc (.cells (madeCells (Value.agg zD.toArray).cells (0*128)) 131)):=HN.out 0 (by omega)
  generalize hZ:madeCells (Value.agg zD.toArray).cells (0*128)=Z at hmk
  have HZZ:Hid (madeCells (Value.agg zD.toArray).cells (0*128)=Z):=hZ
  clear hZ HN
  by_cases hlo:n<0
  ·clear hn
   go_enter Tryz.func39,Tryz.ntmps39
   go_wp2
   go_ret
   refine⟨rfl,?_,(za.alloc _ _ _).trans (za.alloc _ _ _) iL⟩
   rw [HZ.out,←HZZ.out]
   exact⟨_,_,_,_,vu w 0 (by omega)⟩
  ·have hhi:1000<n:=by omega
   clear hn
   go_enter Tryz.func39,Tryz.ntmps39
   go_wp2
   go_ret
   refine⟨rfl,?_,(za.alloc _ _ _).trans (za.alloc _ _ _) iL⟩
   rw [HZ.out,←HZZ.out]
   exact⟨_,_,_,_,vu w 0 (by omega)⟩
 ·obtain⟨m,rfl⟩:∃m:Nat,n=m:=⟨n.toNat,by omega⟩
  have hlo:¬(m:Int)<0:=by omega
  have hm:m≤1000:=by omega
  have HZ:Hid (y6 (m:Int)=m):=by show y6 (m:Int)=m;unfold y6;rw [if_neg hn];simp
  have hmk:=HN.out m hm
  generalize hZ:madeCells (Value.agg zD.toArray).cells (m*128)=Z at hmk
  have HZZ:Hid (madeCells (Value.agg zD.toArray).cells (m*128)=Z):=hZ
  clear hZ HN hn
  go_enter Tryz.func39,Tryz.ntmps39
  go_wp2
  go_ret
  refine⟨rfl,?_,(za.alloc _ _ _).trans (za.alloc _ _ _) iL⟩
  rw [HZ.out,←HZZ.out]
  exact⟨_,_,_,_,vu w m hm⟩
end disk
end Go.Proofs.YtcoengihaobddaaGreatDoor
