/- Part 1 of 34 of a proof: DiskWorld, DiskRows, RefData, RefWorld, Mem, KeysWalks, Disk1, Disk2 -/
import Derived.Test.YtcoengihaobddaaGreatDoorRows
import Derived.WalkKit
import Derived.ProofKit
import Derived.Deep.MidRow
import Derived.Laws.AppendOwn
import Derived.Deep.AppendLies
import Derived.OpenShut
import Derived.ShutString
import Derived.Laws.MakeOwn
set_option maxHeartbeats 8000000
set_option linter.unusedVariables false
set_option linter.unusedSimpArgs false
set_option maxRecDepth 8000
namespace Go.Proofs.YtcoengihaobddaaGreatDoor
theorem cR {w:World}{b i:Nat}{cs:Array Value}{t:TypeId}{f:Nat×Nat}{v:Value}(h:w.heap[b]? =some (.cells cs t f))(e:cs[i]? =some v):w.cell? ⟨b,i,none⟩=some v:=by rw [cell_of_row w b i _ _ _ h];exact e
theorem iL {α:Type}{p q:α→Prop}:∀i,p i→p i∨q i:=fun _ h=>.inl h
theorem nF {α:Type}{p:α→Prop}:∀i,p i→¬False:=fun _ _ h=>h
theorem fE {α:Type}{p:α→Prop}:∀i,False→p i:=fun _ h=>h.elim
theorem lT {α:Type}{a:Array α}{i:Nat}{v:α}(h:a[i]? =some v):i<a.size:=(Array.getElem?_eq_some_iff.1 h).1
theorem VS {p:Prop}(h:p):Go.RowKit.Hid p:=h
namespace disk
open Go.RowKit
structure Kept (S:Nat→Prop) (w w':World):Prop where
 os:w'.os=w.os
 tape:w'.tape=w.tape
 output:w'.output=w.output
 size:w.heap.size≤w'.heap.size
 block:∀k,k<w.heap.size→¬S k→w'.heap[k]? =w.heap[k]?
theorem kD {S:Nat→Prop}{w w':World}(a:w'.os=w.os:=by rfl)(b:w'.tape=w.tape:=by rfl)(c:w'.output=w.output:=by rfl)(d:w.heap.size≤w'.heap.size:=by exact Nat.le_refl _)(e:∀k,k<w.heap.size→¬S k→w'.heap[k]? =w.heap[k]?:=by intros;rfl):Kept S w w':=⟨a,b,c,d,e⟩
theorem Kept.refl(S:Nat→Prop)(w:World):Kept S w w:=kD
theorem Kept.trans{S S':Nat→Prop}{a b c:World}(h:Kept S a b)(k:Kept S' b c)(hs:∀i,S' i→S i∨a.heap.size≤i):Kept S a c:=
 ⟨k.os.trans h.os,k.tape.trans h.tape,k.output.trans h.output,Nat.le_trans h.size k.size,fun i hi hn=>
  (k.block i (Nat.lt_of_lt_of_le hi h.size) (fun hc=>by rcases hs i hc with h1|h1;exact hn h1;omega)).trans (h.block i hi hn)⟩
theorem Kept.mono{S S':Nat→Prop}{a b:World}(h:Kept S a b)(hs:∀i,S i→S' i):Kept S' a b:=
 ⟨h.os,h.tape,h.output,h.size,fun i hi hn=>h.block i hi (fun hc=>hn (hs i hc))⟩
theorem Kept.alloc(S:Nat→Prop)(w:World)(o:Obj):Kept S w (w.alloc o):=⟨rfl,rfl,rfl,by simp,fun k hk _=>Below.heap_alloc w o k hk⟩
theorem Kept.drew(S:Nat→Prop)(w:World):Kept S w w.drew:=kD
theorem Kept.setCell{S:Nat→Prop}(w:World)(a:Addr)(v:Value)(h:S a.block):Kept S w (w.setCell a v):=
 ⟨rfl,rfl,rfl,by simp,fun k _ hn=>heap_setCell_other w a k v (fun e=>hn (by rw [e];exact h))⟩
theorem Kept.setCells{S:Nat→Prop}(b:Nat)(h:S b):∀(vs:List Value) (o:Nat) (w:World),Kept S w (w.setCells b o vs)
 |[],_,w=>Kept.refl S w
 |v::r,o,w=>(Kept.setCell w ⟨b,o,none⟩ v h).trans (Kept.setCells b h r (o+1) _) (fun _ hi=>.inl hi)
theorem Kept.grown{S:Nat→Prop}{w w':World}{row:Option Nat}(hg:w.grownBy w' row)(h:∀k,row=some k→S k):Kept S w w':=
 ⟨hg.os,hg.tape,hg.output,hg.size,fun k hk hn=>hg.block k hk (fun e=>hn (h k e.symm))⟩
theorem Kept.below{S:Nat→Prop}{w w':World}{B:Nat}(h:Kept S w w')(hs:∀k,S k→B≤k)(hB:B≤w.heap.size):Below B w w':=
 ⟨h.os,h.tape,h.output,h.size,fun k hk=>h.block k (by omega) (fun hc=>by have:=hs k hc;omega)⟩
theorem Kept.cell{S:Nat→Prop}{w w':World}(h:Kept S w w'){a:Addr}(ha:a.block<w.heap.size)(hn:¬S a.block):w'.cell? a=w.cell? a:=
 World.cell?_of_block (h.block a.block ha hn)
theorem Kept.owns{S:Nat→Prop}{w w':World}(h:Kept S w w'){base:Nat}{e:TypeId}{size:Nat}{v:Value}{n:Nat}{xs:List Value}(ho:w.ownsRow base e size v n xs)
 (hn:∀k,v.ownBlock=some k→¬S k):w'.ownsRow base e size v n xs:=by
 refine⟨ho.1,?_⟩
 rcases ho.2 with h0|⟨g,cap,cur,rfl,hb,hgg,rest⟩
 ·exact .inl h0
 ·refine .inr ⟨g,cap,cur,rfl,hb,?_,rest⟩
  rw [h.block g (lT hgg) (hn g rfl)]
  exact hgg
def zy(b:List Value):Prop:=b.length=128∧∀v∈b,v.oneCell'=true
def zM(p:Nat×List Value):List Value:=.int .i64 (p.1:Int)::p.2
structure Dk where
 bs:List (List Value)
 ps:List (Nat×List Value)
 fuse:Int
 reads:Int
structure Dk.Ok (D:Dk):Prop where
 bs:∀b∈D.bs,zy b
 ps:∀p∈D.ps,p.1<D.bs.length∧zy p.2
 few:D.bs.length≤1000
structure zi (w:World) (bd:Nat) (S:Nat→Prop) (D:Dk) (ba pa:Option Addr) (bc pc:Nat):Prop where
 ok:D.Ok
 head:w.heap[bd]? =some (.cells #[.slice ba D.bs.length bc,.slice pa D.ps.length pc,.int .i64 D.fuse,.int .i64 D.reads] 118 (0,0))
 rows:w.ownsRow 0 131 128 (.slice ba D.bs.length bc) D.bs.length D.bs.flatten
 pend:w.ownsRow 0 133 129 (.slice pa D.ps.length pc) D.ps.length (D.ps.map zM).flatten
 own:∀k,S k↔(k=bd∨(Value.slice ba D.bs.length bc).ownBlock=some k∨(Value.slice pa D.ps.length pc).ownBlock=some k)
 ap1:(Value.slice ba D.bs.length bc).ownBlock≠some bd
 ap2:(Value.slice pa D.ps.length pc).ownBlock≠some bd
 ap3:∀k,(Value.slice ba D.bs.length bc).ownBlock=some k→(Value.slice pa D.ps.length pc).ownBlock≠some k
def zh(w:World)(bd:Nat)(S:Nat→Prop)(D:Dk):Prop:=∃ba pa bc pc,zi w bd S D ba pa bc pc
theorem zi.lt{w:World}{bd:Nat}{S:Nat→Prop}{D:Dk}{ba pa:Option Addr}{bc pc:Nat}(h:zi w bd S D ba pa bc pc):∀k,S k→k<w.heap.size:=fun k hk=>by
 rcases (h.own k).1 hk with rfl|h1|h1
 ·exact(lT h.head)
 ·exact(h.rows.lt k h1).2
 ·exact(h.pend.lt k h1).2
theorem zh.lt{w:World}{bd:Nat}{S:Nat→Prop}{D:Dk}(h:zh w bd S D):∀k,S k→k<w.heap.size:=by
 obtain⟨ba,pa,bc,pc,h⟩:=h;exact h.lt
theorem zi.bdS{w:World}{bd:Nat}{S:Nat→Prop}{D:Dk}{ba pa:Option Addr}{bc pc:Nat}(h:zi w bd S D ba pa bc pc):S bd:=(h.own bd).2 (.inl rfl)
theorem zh.bdS{w:World}{bd:Nat}{S:Nat→Prop}{D:Dk}(h:zh w bd S D):S bd:=by
 obtain⟨ba,pa,bc,pc,h⟩:=h;exact h.bdS
theorem zh.ok{w:World}{bd:Nat}{S:Nat→Prop}{D:Dk}(h:zh w bd S D):D.Ok:=by
 obtain⟨ba,pa,bc,pc,h⟩:=h;exact h.ok
theorem zi.kept{w w':World}{bd:Nat}{S T:Nat→Prop}{D:Dk}{ba pa:Option Addr}{bc pc:Nat}(h:zi w bd S D ba pa bc pc)(k:Kept T w w')(hn:∀i,S i→¬T i):zi w' bd S D ba pa bc pc:=by
 refine⟨h.ok,?_,k.owns h.rows (fun i hi=>hn i ((h.own i).2 (.inr (.inl hi)))),k.owns h.pend (fun i hi=>hn i ((h.own i).2 (.inr (.inr hi)))),h.own,h.ap1,h.ap2,h.ap3⟩
 rw [k.block bd (h.lt bd h.bdS) (hn bd h.bdS)];exact h.head
theorem zh.kept{w w':World}{bd:Nat}{S T:Nat→Prop}{D:Dk}(h:zh w bd S D)(k:Kept T w w')(hn:∀i,S i→¬T i):zh w' bd S D:=by
 obtain⟨ba,pa,bc,pc,h⟩:=h;exact⟨ba,pa,bc,pc,h.kept k hn⟩
theorem zi.c0{w:World}{bd:Nat}{S:Nat→Prop}{D:Dk}{ba pa:Option Addr}{bc pc:Nat}(h:zi w bd S D ba pa bc pc):w.cell? ⟨bd,0,none⟩=some (.slice ba D.bs.length bc):=cR h.head rfl
theorem zi.c1{w:World}{bd:Nat}{S:Nat→Prop}{D:Dk}{ba pa:Option Addr}{bc pc:Nat}(h:zi w bd S D ba pa bc pc):w.cell? ⟨bd,1,none⟩=some (.slice pa D.ps.length pc):=cR h.head rfl
theorem zi.c2{w:World}{bd:Nat}{S:Nat→Prop}{D:Dk}{ba pa:Option Addr}{bc pc:Nat}(h:zi w bd S D ba pa bc pc):w.cell? ⟨bd,2,none⟩=some (.int .i64 D.fuse):=cR h.head rfl
theorem zi.c3{w:World}{bd:Nat}{S:Nat→Prop}{D:Dk}{ba pa:Option Addr}{bc pc:Nat}(h:zi w bd S D ba pa bc pc):w.cell? ⟨bd,3,none⟩=some (.int .i64 D.reads):=cR h.head rfl
theorem zi.fz{w:World}{bd:Nat}{S:Nat→Prop}{D:Dk}{ba pa:Option Addr}{bc pc:Nat}(h:zi w bd S D ba pa bc pc)(i:Nat):w.frozen? ⟨bd,i,none⟩=false:=frozen_of_row w bd i _ _ h.head
theorem ck{α:Type}(c:Nat):∀(l:List (List α)),(∀b∈l,b.length=c)→l.flatten.length=l.length*c
 |[],_=>by simp
 |b::l,h=>by
  rw [List.flatten_cons,List.length_append,ck c l (fun x hx=>h x (List.mem_cons_of_mem _ hx)),h b (List.mem_cons_self ..),List.length_cons,Nat.add_mul];omega
theorem vY{α:Type}(c:Nat):∀(l:List (List α)),(∀b∈l,b.length=c)→∀i,i≤l.length→l.flatten.drop (i*c)=(l.drop i).flatten
 |_,_,0,_=>by simp
 |[],_,i+1,hi=>by simp at hi
 |b::l,h,i+1,hi=>by
  have hb:=h b (List.mem_cons_self ..)
  rw [List.flatten_cons,List.drop_succ_cons,Nat.add_mul,Nat.one_mul,←hb,Nat.add_comm,←List.drop_drop,List.drop_left,hb]
  exact vY c l (fun x hx=>h x (List.mem_cons_of_mem _ hx)) i (by simpa using hi)
theorem dj{α:Type}(c:Nat):∀(l:List (List α)),(∀b∈l,b.length=c)→∀i,i≤l.length→l.flatten.take (i*c)=(l.take i).flatten
 |_,_,0,_=>by simp
 |[],_,i+1,hi=>by simp at hi
 |b::l,h,i+1,hi=>by
  have hb:=h b (List.mem_cons_self ..)
  rw [List.flatten_cons,List.take_succ_cons,List.flatten_cons,Nat.add_mul,Nat.one_mul,←hb,Nat.add_comm,List.take_length_add_append,hb]
  rw [dj c l (fun x hx=>h x (List.mem_cons_of_mem _ hx)) i (by simpa using hi)]
theorem Yo{α:Type}(c:Nat)(l:List (List α))(h:∀b∈l,b.length=c)(i:Nat)(hi:i<l.length):(l.flatten.drop (i*c)).take c=l[i]:=by
 rw [vY c l h i (Nat.le_of_lt hi),List.drop_eq_getElem_cons hi,List.flatten_cons]
 have hb:=h l[i] (List.getElem_mem hi)
 conv=>lhs;rw [←hb]
 exact List.take_left ..
theorem XP{α:Type}(c:Nat)(l:List (List α))(h:∀b∈l,b.length=c)(i:Nat)(hi:i<l.length)(v:List α):
 l.flatten.take (i*c)++v++l.flatten.drop (i*c+c)=(l.set i v).flatten:=by
 rw [dj c l h i (Nat.le_of_lt hi),show i*c+c=(i+1)*c from by rw [Nat.add_mul,Nat.one_mul],vY c l h (i+1) hi,List.set_eq_take_append_cons_drop,if_pos hi]
 simp
theorem yG(b k:Nat)(h:k≠b):∀(vs:List Value) (o:Nat) (w:World),(w.setCells b o vs).heap[k]? =w.heap[k]?
 |[],_,_=>rfl
 |v::r,o,w=>by rw [World.setCells,yG b k h r (o+1)];exact heap_setCell_other w ⟨b,o,none⟩ k v h
theorem Yp(A B:List Value)(v:Value)(o k:Nat)(h:A.length=o):(A++v::B).take (o+1)=A++[v]∧(A++v::B).drop (o+1+k)=B.drop k:=by
 subst h
 refine⟨by rw [List.take_length_add_append];rfl,?_⟩
 rw [Nat.add_assoc,←List.drop_drop,List.drop_left,Nat.add_comm,List.drop_succ_cons]
theorem zY(b:Nat)(t:TypeId):∀(vs:List Value) (o:Nat) (w:World) (cur:Array Value),w.heap[b]? =some (.cells cur t (0,0))→o+vs.length≤cur.size→
 (w.setCells b o vs).heap[b]? =some (.cells (cur.toList.take o++vs++cur.toList.drop (o+vs.length)).toArray t (0,0))
 |[],o,w,cur,h,_=>by rw [World.setCells,h];simp
 |v::r,o,w,cur,h,hl=>by
  simp only [List.length_cons] at hl
  have ho:o<cur.size:=by omega
  rw [World.setCells,zY b t r (o+1) _ (cur.setIfInBounds o v) (by rw [heap_setCell_same w b o cur t v h]) (by simp;omega)]
  congr 2
  apply Array.ext'
  simp only [Array.toList_setIfInBounds,List.length_cons]
  rw [List.set_eq_take_append_cons_drop,if_pos (by simpa using ho)]
  obtain⟨k1,k2⟩:=Yp (cur.toList.take o) (cur.toList.drop (o+1)) v o r.length (by simp;omega)
  rw [k1,k2,List.drop_drop,show o+1+r.length=o+(r.length+1) from by omega]
  simp
theorem qI{w:World}{e:TypeId}{c:Nat}{g cap:Nat}{l:List (List Value)}(h:w.ownsRow 0 e c (.slice (some ⟨g,0,none⟩) l.length cap) l.length l.flatten)
 (hl:∀b∈l,b.length=c) (i:Nat) (hi:i<l.length):w.rangeAt g (i*c) l[i]:=by
 intro j v hv
 have hj:j<c:=by have:=(List.getElem?_eq_some_iff.1 hv).1;rw [hl l[i] (List.getElem_mem hi)] at this;exact this
 have hx:=h.cells (g:=g) rfl (i*c+j) v (by
  rw [←Yo c l hl i hi,List.getElem?_take,if_pos hj,List.getElem?_drop] at hv
  exact hv)
 rw [Addr.add_mid] at hx
 simpa using hx
theorem gp{w:World}{e:TypeId}{c:Nat}{g cap:Nat}{l:List (List Value)}(h:w.ownsRow 0 e c (.slice (some ⟨g,0,none⟩) l.length cap) l.length l.flatten)
 (hl:∀b∈l,b.length=c) (i:Nat) (hi:i<l.length):w.there g (i*c) c:=by
 intro j hj
 refine⟨?_,?_⟩
 ·have:=(qI h hl i hi).isSome j (by rw [hl l[i] (List.getElem_mem hi)];exact hj)
  exact this
 ·rcases h.2 with⟨h0,_⟩|⟨g',cap',cur,hv,_,hg,_⟩
  ·cases h0
  ·cases hv
   exact frozen_of_row w g _ _ _ hg
theorem gr{w:World}{e:TypeId}{c:Nat}{g cap:Nat}{l:List (List Value)}(h:w.ownsRow 0 e c (.slice (some ⟨g,0,none⟩) l.length cap) l.length l.flatten)
 (hl:∀b∈l,b.length=c) (i:Nat) (hi:i<l.length) (v:List Value) (hv:v.length=c):
 (w.setCells g (i*c) v).ownsRow 0 e c (.slice (some ⟨g,0,none⟩) l.length cap) l.length (l.set i v).flatten:=by
 have hl':∀b∈l.set i v,b.length=c:=fun b hb=>by
  rcases List.mem_or_eq_of_mem_set hb with hb|rfl
  ·exact hl b hb
  ·exact hv
 refine⟨by rw [ck c _ hl',List.length_set],?_⟩
 rcases h.2 with⟨h0,_⟩|⟨g',cap',cur,hv',hb,hg,hnc,hcm,hcs,htake⟩
 ·cases h0
 ·cases hv'
  have hfit:i*c+v.length≤l.length*c:=by
   rw [hv];have:=Nat.mul_le_mul_right c (show i+1≤l.length from hi);rw [Nat.add_mul,Nat.one_mul] at this;exact this
  have hfit2:l.length*c≤cur.size:=by rw [hcs];exact Nat.mul_le_mul_right c hnc
  refine .inr ⟨g,cap,_,rfl,hb,zY g e v (i*c) w cur hg (by omega),hnc,hcm,?_,?_⟩
  ·simp only [List.size_toArray,List.length_append,List.length_take,List.length_drop,Array.length_toList];omega
  ·rw [List.toList_toArray,←XP c l hl i hi v,←htake]
   have e1:(cur.toList.take (i*c)).length=i*c:=by simp;omega
   rw [List.take_take,Nat.min_eq_left (by omega),List.append_assoc,List.append_assoc,List.take_append,e1,List.take_of_length_le (by rw [e1];omega),List.take_append,
    List.take_of_length_le (show v.length≤l.length*c-i*c by omega),hv,List.drop_take]
   congr 3
   omega
end disk
namespace ref
structure qa where
 key:ByteArray
 num:Int
 mark:Bool
 body:List UInt8
def yv:List UInt8→List UInt8→Bool
 |[],[]=>false
 |[],_::_=>true
 |_::_,[]=>false
 |a::l,b::r=>if a=b then yv l r else decide (a<b)
def y6(a b:ByteArray):Bool:=yv a.data.toList b.data.toList
theorem vj:∀l,yv l l=false
 |[]=>rfl
 |a::l=>by simp [yv,vj l]
theorem uC:∀a b c,yv a b=true→yv b c=true→yv a c=true
 |[],[],c,h,_=>by simp [yv] at h
 |[],b::l,[],_,h=>by simp [yv] at h
 |[],b::l,c::r,_,_=>rfl
 |a::l,[],c,h,_=>by simp [yv] at h
 |a::l,b::r,[],_,h=>by simp [yv] at h
 |a::l,b::r,c::t,h1,h2=>by
  unfold yv at h1 h2 ⊢
  by_cases e1:a=b
  ·subst e1
   rw [if_pos rfl] at h1
   by_cases e2:a=c
   ·rw [if_pos e2] at h2 ⊢;exact uC l r t h1 h2
   ·rw [if_neg e2] at h2 ⊢;exact h2
  ·rw [if_neg e1] at h1
   by_cases e2:b=c
   ·subst e2;rw [if_neg e1];exact h1
   ·rw [if_neg e2] at h2
    have h3:a<c:=UInt8.lt_trans (of_decide_eq_true h1) (of_decide_eq_true h2)
    have e3:a≠c:=UInt8.ne_of_lt h3
    rw [if_neg e3];exact decide_eq_true h3
theorem uD:∀a b,a≠b→yv a b=false→yv b a=true
 |[],[],h,_=>absurd rfl h
 |[],b::l,_,h=>by simp [yv] at h
 |a::l,[],_,_=>rfl
 |a::l,b::r,h,h1=>by
  unfold yv at h1 ⊢
  by_cases e:a=b
  ·subst e
   rw [if_pos rfl] at h1 ⊢
   exact uD l r (fun e=>h (by rw [e])) h1
  ·rw [if_neg e] at h1
   rw [if_neg (Ne.symm e)]
   have h2:¬a<b:=of_decide_eq_false h1
   refine decide_eq_true ?_
   have h3:a.toNat≠b.toNat:=fun h=>e (UInt8.toNat_inj.1 h)
   rw [UInt8.lt_iff_toNat_lt] at h2 ⊢
   omega
theorem jY{a b:ByteArray}(h:a.data.toList=b.data.toList):a=b:=by
 cases a;cases b;congr 1;exact Array.ext' h
theorem vk(a:ByteArray):y6 a a=false:=vj _
theorem cn{a b c:ByteArray}(h:y6 a b=true)(k:y6 b c=true):y6 a c=true:=uC _ _ _ h k
theorem uE{a b:ByteArray}(h:a≠b)(k:y6 a b=false):y6 b a=true:=uD _ _ (fun e=>h (jY e)) k
def qa.ahead(a b:qa):Bool:=y6 a.key b.key||(decide (a.key=b.key)&&decide (b.num<a.num))
def xx(vs:List qa):Prop:=vs.Pairwise fun a b=>¬(a.key=b.key∧a.num=b.num)
theorem xx.perm{vs us:List qa}(h:xx vs)(p:vs.Perm us):xx us:=
 p.pairwise h (fun h k=>h ⟨k.1.symm,k.2.symm⟩)
theorem xx.sub{vs us:List qa}(h:xx vs)(p:us.Sublist vs):xx us:=List.Pairwise.sublist p h
def Vi(k:ByteArray)(b:Option qa)(v:qa):Option qa:=
 match b with
 |none=>if v.key=k then some v else none
 |some u=>if v.key=k∧u.num<v.num then some v else some u
def yJ(vs:List qa)(k:ByteArray):Option qa:=vs.foldl (Vi k) none
def qX(vs:List qa)(k:ByteArray)(n:Int):Option qa:=vs.find? fun v=>decide (v.key=k)&&decide (v.num=n)
theorem jc{vs:List qa}{k:ByteArray}{n:Int}{v:qa}(h:qX vs k n=some v):v.key=k∧v.num=n∧v∈vs:=by
 have h1:=List.find?_some h
 simp only [Bool.and_eq_true,decide_eq_true_eq] at h1
 exact⟨h1.1,h1.2,List.mem_of_find?_eq_some h⟩
theorem jd{vs:List qa}{k:ByteArray}{n:Int}(h:qX vs k n=none):∀u∈vs,¬(u.key=k∧u.num=n):=by
 intro u hu ⟨h1,h2⟩
 have:=List.find?_eq_none.1 h u hu
 simp [h1,h2] at this
def jt(vs:List qa)(k:ByteArray)(n:Int):List qa:=vs.filter fun v=> !(decide (v.key=k)&&decide (v.num=n))
def qr(n:Nat):Nat:=1+(n+99)/100
def weight(vs:List qa):Nat:=(vs.map fun v=>qr v.body.length).sum
theorem cq{vs us:List qa}(h:vs.Perm us):weight vs=weight us:=by
 unfold weight;exact(h.map _).sum_nat
def dV(v:qa)(p k:ByteArray)(n:Int):Bool:=
 p.data.toList.isPrefixOf v.key.data.toList&&(decide (k=ByteArray.empty)||y6 k v.key||(decide (v.key=k)&&decide (v.num<n)))
structure Qc (vs:List qa) (p k:ByteArray) (n:Int) (L:List qa):Prop where
 sorted:L.Pairwise fun a b=>a.ahead b=true
 perm:L.Perm (vs.filter fun v=>dV v p k n)
def Vj(v:qa):List qa→List qa
 |[]=>[v]
 |u::l=>if v.ahead u then v::u::l else u::Vj v l
def VT(l:List qa):List qa:=l.foldr Vj []
end ref
namespace ref
open Go.RowKit disk
def zv(w:World)(P:Nat→Prop)(a:Option Addr)(l:List UInt8):Prop:=
 l=[]∨∃b o,a=some ⟨b,o,none⟩∧P b∧b<w.heap.size∧∀j (h:j<l.length),w.cell? ⟨b,o+j,none⟩=some (.int .u8 (l[j].toNat:Int))
theorem zv.kept{w w':World}{P T:Nat→Prop}{a:Option Addr}{l:List UInt8}(h:zv w P a l)(k:Kept T w w')(hn:∀i,P i→¬T i):zv w' P a l:=by
 rcases h with h|⟨b,o,h1,h2,h3,h4⟩
 ·exact .inl h
 ·exact .inr ⟨b,o,h1,h2,Nat.lt_of_lt_of_le h3 k.size,fun j hj=>(k.cell (a:=⟨b,o+j,none⟩) h3 (hn b h2)).trans (h4 j hj)⟩
theorem zv.mono{w:World}{P Q:Nat→Prop}{a:Option Addr}{l:List UInt8}(h:zv w P a l)(hs:∀i,P i→i<w.heap.size→Q i):zv w Q a l:=by
 rcases h with h|⟨b,o,h1,h2,h3,h4⟩
 ·exact .inl h
 ·exact .inr ⟨b,o,h1,hs b h2 h3,h3,h4⟩
structure kH (w:World) (P:Nat→Prop) (cs:List Value) (v:qa):Prop where
 at_:∃a cap,cs=[.string v.key,.int .i64 v.num,.bool v.mark,.slice a v.body.length cap]∧zv w P a v.body
theorem kH.kept{w w':World}{P T:Nat→Prop}{cs:List Value}{v:qa}(h:kH w P cs v)(k:Kept T w w')(hn:∀i,P i→¬T i):kH w' P cs v:=by
 obtain⟨a,cap,h1,h2⟩:=h.at_
 exact⟨a,cap,h1,h2.kept k hn⟩
theorem kH.mono{w:World}{P Q:Nat→Prop}{cs:List Value}{v:qa}(h:kH w P cs v)(hs:∀i,P i→i<w.heap.size→Q i):kH w Q cs v:=by
 obtain⟨a,cap,h1,h2⟩:=h.at_
 exact⟨a,cap,h1,h2.mono hs⟩
theorem kH.len{w:World}{P:Nat→Prop}{cs:List Value}{v:qa}(h:kH w P cs v):cs.length=4:=by
 obtain⟨a,cap,rfl,_⟩:=h.at_;rfl
structure xl (w:World) (P:Nat→Prop) (cs:List (List Value)) (vs:List qa):Prop where
 len:cs.length=vs.length
 each:∀i (h:i<cs.length) (h':i<vs.length),kH w P cs[i] vs[i]
theorem xl.kept{w w':World}{P T:Nat→Prop}{cs:List (List Value)}{vs:List qa}(h:xl w P cs vs)(k:Kept T w w')(hn:∀i,P i→¬T i):xl w' P cs vs:=
 ⟨h.len,fun i h1 h2=>(h.each i h1 h2).kept k hn⟩
theorem xl.mono{w:World}{P Q:Nat→Prop}{cs:List (List Value)}{vs:List qa}(h:xl w P cs vs)(hs:∀i,P i→i<w.heap.size→Q i):xl w Q cs vs:=
 ⟨h.len,fun i h1 h2=>(h.each i h1 h2).mono hs⟩
theorem xl.four{w:World}{P:Nat→Prop}{cs:List (List Value)}{vs:List qa}(h:xl w P cs vs):∀c∈cs,c.length=4:=fun c hc=>by
 obtain⟨i,hi,rfl⟩:=List.getElem_of_mem hc
 exact(h.each i hi (by rw [←h.len];exact hi)).len
theorem xl.snoc{w:World}{P:Nat→Prop}{cs:List (List Value)}{vs:List qa}(h:xl w P cs vs){c:List Value}{v:qa}(hv:kH w P c v):xl w P (cs++[c]) (vs++[v]):=by
 refine⟨by simp [h.len],fun i h1 h2=>?_⟩
 by_cases hi:i<cs.length
 ·rw [List.getElem_append_left hi,List.getElem_append_left (by rw [←h.len];exact hi)]
  exact h.each i hi _
 ·have hl:=h.len
  have e:i=cs.length:=by simp at h1;omega
  subst e
  rw [List.getElem_append_right (by omega),List.getElem_append_right (by omega)]
  simpa [hl] using hv
structure qT (w:World) (F G:Nat→Prop) (b:Nat) (vs:List qa) (last:Int) (a:Option Addr) (cap:Nat) (cs:List (List Value)):Prop where
 head:w.heap[b]? =some (.cells #[.slice a vs.length cap,.int .i64 last] 164 (0,0))
 row:w.ownsRow 0 123 4 (.slice a vs.length cap) vs.length cs.flatten
 tells:xl w G cs vs
 foot:F b
 foot2:∀k,(Value.slice a vs.length cap).ownBlock=some k→F k
 apart:(Value.slice a vs.length cap).ownBlock≠some b
def qy(w:World)(F G:Nat→Prop)(b:Nat)(vs:List qa)(last:Int):Prop:=∃a cap cs,qT w F G b vs last a cap cs
theorem qT.lt{w:World}{F G:Nat→Prop}{b:Nat}{vs:List qa}{last:Int}{a:Option Addr}{cap:Nat}{cs:List (List Value)}(h:qT w F G b vs last a cap cs):b<w.heap.size:=(lT h.head)
theorem qT.kept{w w':World}{F G T:Nat→Prop}{b:Nat}{vs:List qa}{last:Int}{a:Option Addr}{cap:Nat}{cs:List (List Value)}(h:qT w F G b vs last a cap cs)(k:Kept T w w')(hn:∀i,F i→¬T i)(hm:∀i,G i→¬T i):qT w' F G b vs last a cap cs:=
 ⟨(k.block b h.lt (hn b h.foot)).trans h.head,k.owns h.row (fun i hi=>hn i (h.foot2 i hi)),h.tells.kept k hm,h.foot,h.foot2,h.apart⟩
theorem qy.kept{w w':World}{F G T:Nat→Prop}{b:Nat}{vs:List qa}{last:Int}(h:qy w F G b vs last)(k:Kept T w w')(hn:∀i,F i→¬T i)(hm:∀i,G i→¬T i):qy w' F G b vs last:=by
 obtain⟨a,cap,cs,h⟩:=h;exact⟨a,cap,cs,h.kept k hn hm⟩
theorem qy.mono{w:World}{F G F' G':Nat→Prop}{b:Nat}{vs:List qa}{last:Int}(h:qy w F G b vs last)(hf:∀i,F i→i<w.heap.size→F' i)(hg:∀i,G i→i<w.heap.size→G' i):qy w F' G' b vs last:=by
 obtain⟨a,cap,cs,h⟩:=h
 exact⟨a,cap,cs,h.head,h.row,h.tells.mono hg,hf b h.foot h.lt,fun k hk=>hf k (h.foot2 k hk) (h.row.lt k hk).2,h.apart⟩
theorem qT.c0{w:World}{F G:Nat→Prop}{b:Nat}{vs:List qa}{last:Int}{a:Option Addr}{cap:Nat}{cs:List (List Value)}(h:qT w F G b vs last a cap cs):w.cell? ⟨b,0,none⟩=some (.slice a vs.length cap):=cR h.head rfl
theorem qT.c1{w:World}{F G:Nat→Prop}{b:Nat}{vs:List qa}{last:Int}{a:Option Addr}{cap:Nat}{cs:List (List Value)}(h:qT w F G b vs last a cap cs):w.cell? ⟨b,1,none⟩=some (.int .i64 last):=cR h.head rfl
theorem qT.fz{w:World}{F G:Nat→Prop}{b:Nat}{vs:List qa}{last:Int}{a:Option Addr}{cap:Nat}{cs:List (List Value)}(h:qT w F G b vs last a cap cs)(i:Nat):w.frozen? ⟨b,i,none⟩=false:=frozen_of_row w b i _ _ h.head
theorem qT.rowAt{w:World}{F G:Nat→Prop}{b:Nat}{vs:List qa}{last:Int}{a:Option Addr}{cap:Nat}{cs:List (List Value)}(h:qT w F G b vs last a cap cs)(hn:0<vs.length):∃g,a=some ⟨g,0,none⟩:=by
 rcases h.row.2 with⟨h0,h1⟩|⟨g,cap',cur,hv,_⟩
 ·simp at h0;omega
 ·cases hv;exact⟨g,rfl⟩
theorem qT.range{w:World}{F G:Nat→Prop}{b:Nat}{vs:List qa}{last:Int}{g cap:Nat}{cs:List (List Value)}(h:qT w F G b vs last (some ⟨g,0,none⟩) cap cs)(i:Nat)(hi:i<vs.length):
 ∃a' cap',w.rangeAt g (i*4) [.string vs[i].key,.int .i64 vs[i].num,.bool vs[i].mark,.slice a' vs[i].body.length cap']∧zv w G a' vs[i].body:=by
 have hl:=h.tells.len
 have hr:=h.row
 rw [←hl] at hr
 have hx:=qI hr h.tells.four i (by rw [hl];exact hi)
 obtain⟨a',cap',e,hb⟩:=(h.tells.each i (by rw [hl];exact hi) hi).at_
 rw [e] at hx
 exact⟨a',cap',hx,hb⟩
theorem qT.cells{w:World}{F G:Nat→Prop}{b:Nat}{vs:List qa}{last:Int}{g cap:Nat}{cs:List (List Value)}(h:qT w F G b vs last (some ⟨g,0,none⟩) cap cs)(i:Nat)(hi:i<vs.length):
 w.cell? ⟨g,i*4,none⟩=some (.string vs[i].key)∧w.cell? ⟨g,i*4+1,none⟩=some (.int .i64 vs[i].num)∧w.cell? ⟨g,i*4+2,none⟩=some (.bool vs[i].mark)∧
  ∃a' cap',w.cell? ⟨g,i*4+3,none⟩=some (.slice a' vs[i].body.length cap')∧zv w G a' vs[i].body:=by
 obtain⟨a',cap',hx,hb⟩:=h.range i hi
 exact⟨hx 0 _ rfl,hx 1 _ rfl,hx 2 _ rfl,a',cap',hx 3 _ rfl,hb⟩
def qc(b:UInt8):Value:=.int .u8 (b.toNat:Int)
theorem jZ(l:List UInt8):∀u∈l.map qc,u.oneCell'=true:=fun u hu=>by
 obtain⟨b,_,rfl⟩:=List.mem_map.1 hu;rfl
theorem zv.of_own{w:World}{base:Nat}{a:Option Addr}{n cap:Nat}{l:List UInt8}(e:TypeId)(h:w.ownsRow base e 1 (.slice a n cap) n (l.map qc))(hn:n=l.length)(P:Nat→Prop)(hP:∀k,(Value.slice a n cap).ownBlock=some k→P k):zv w P a l:=by
 subst hn
 rcases h.2 with⟨h0,h1⟩|⟨g,cap',cur,hv,hb,hg,_⟩
 ·exact .inl (List.eq_nil_of_length_eq_zero h1)
 ·cases hv
  refine .inr ⟨g,0,rfl,hP g rfl,(lT hg),fun j hj=>?_⟩
  have:=h.cells (g:=g) rfl j (qc l[j]) (by simp [hj])
  rw [Addr.add_mid] at this
  simpa [qc] using this
theorem gt{P:Program}(w:World)(Q:Nat→Prop)(t ty e:TypeId)(i:TypeInfo)(z:Value)(ht:P.underlying t=some (.slice e))(hi:P.info? e=some i)(hz:i.zero=some z)
 (hsize:i.size=1) (hby:i.bytes=1) (hzs:z.cells.size=1) (a:Option Addr) (cap:Nat) (l:List UInt8) (hb:zv w Q a l) (hlen:l.length≤140737488355328):
 ∃a' c' w',(Builtin.append_ #[t,t] ty #[.slice none 0 0,.slice a l.length cap]).run P w=.ok (.slice a' l.length c') w'∧w'.ownsRow 0 e 1 (.slice a' l.length c') l.length (l.map qc)∧w.grownBy w' none∧
  ((Value.slice a' l.length c').ownBlock=none∨(Value.slice a' l.length c').ownBlock=some w.heap.size):=by
 have h63:l.length≤maxLen:=by unfold maxLen;omega
 rcases hb with rfl|⟨b,o,rfl,_,_,hc⟩
 ·refine⟨none,0,w,?_,World.ownsRow_nil w 0 e 1,⟨rfl,rfl,rfl,Nat.le_refl _,fun _ _ _=>rfl⟩,.inl rfl⟩
  cases a with
  |none=>simp [Builtin.append_,run_underlying ht,sizeOf,typeInfo,hi,Builtin.lenOf,Builtin.firstCells]
  |some ad=>simp [Builtin.append_,run_underlying ht,sizeOf,typeInfo,hi,Builtin.lenOf,Builtin.firstCells,loadCells,loadCellsFrom]
 ·obtain⟨v',w',hr,h2,h3,_,h5⟩:=run_append_own_at (P:=P) w 0 t ty e i z 1 1 ht hi hz hsize hby hzs (by omega) (.slice none 0 0) 0 [] (World.ownsRow_nil w 0 e 1) ⟨b,o,none⟩ l.length cap (l.map qc) (by simp) (fun j u hu=>by
   obtain⟨hj,rfl⟩:=List.getElem?_eq_some_iff.1 hu
   simp only [List.length_map] at hj
   rw [Addr.add_mid];simpa [qc] using hc j hj) (jZ l) (by simpa using h63) (by simpa using hlen) (Nat.zero_le _)
  simp only [Nat.zero_add,List.nil_append] at h2
  have h5':v'.ownBlock=none∨v'.ownBlock=some w.heap.size:=h5
  rcases h2.2 with⟨e1,e2⟩|⟨g',cap',cur',e1,_⟩
  ·subst e1
   have e3:l=[]:=List.eq_nil_of_length_eq_zero e2
   subst e3
   exact⟨none,0,w',hr,h2,h3,h5'⟩
  ·subst e1;exact⟨_,cap',w',hr,h2,h3,h5'⟩
theorem fT{P:Program}{w:World}(R:Nat→Prop){o:Oper}{a:Act}{K:Act→World→Prop}{Q:Exit→Act→World→Prop}(s x:Operand)(t:TypeId)
 (ho:o.op=.call {callee:=.builtin .append,args:=#[s,x],argTypes:=#[t,t] })
 (e:TypeId) (i:TypeInfo) (z:Value) (ht:P.underlying t=some (.slice e)) (hi:P.info? e=some i) (hz:i.zero=some z) (hsize:i.size=1) (hby:i.bytes=1) (hzs:z.cells.size=1)
 (ad:Option Addr) (cap:Nat) (l:List UInt8) (hs:a.eval s=.slice none 0 0) (hx:a.eval x=.slice ad l.length cap) (hb:zv w R ad l) (hlen:l.length≤140737488355328)
 (h:∀a' c' w',w'.ownsRow 0 e 1 (.slice a' l.length c') l.length (l.map qc)→w.grownBy w' none→((Value.slice a' l.length c').ownBlock=none∨(Value.slice a' l.length c').ownBlock=some w.heap.size)→K (a.put o.dst (.slice a' l.length c')) w'):o.wp P a w K Q:=by
 obtain⟨a',c',w',hr,h2,h3,h4⟩:=gt (P:=P) w R t o.type e i z ht hi hz hsize hby hzs ad cap l hb hlen
 unfold Oper.wp execOp
 simp only [ho,resolve,invoke,builtin,Sem.run_bind,Sem.run_pure,Result.andThen_ok,List.map_toArray,List.map_cons,List.map_nil,hs,hx,hr]
 exact h a' c' w' h2 h3 h4
theorem yw{P:Program}{w:World}(R:Nat→Prop){ops:Array Oper}{rest:List Oper}{o:Oper}{a:Act}{Q:Exit→Act→World→Prop}(hgd:o.guard=none)(s x:Operand)(t:TypeId)
 (ho:o.op=.call {callee:=.builtin .append,args:=#[s,x],argTypes:=#[t,t] })
 (e:TypeId) (i:TypeInfo) (z:Value) (ht:P.underlying t=some (.slice e)) (hi:P.info? e=some i) (hz:i.zero=some z) (hsize:i.size=1) (hby:i.bytes=1) (hzs:z.cells.size=1)
 (ad:Option Addr) (cap:Nat) (l:List UInt8) (hs:a.eval s=.slice none 0 0) (hx:a.eval x=.slice ad l.length cap) (hb:zv w R ad l) (hlen:l.length≤140737488355328)
 (h:∀a' c' w',w'.ownsRow 0 e 1 (.slice a' l.length c') l.length (l.map qc)→w.grownBy w' none→((Value.slice a' l.length c').ownBlock=none∨(Value.slice a' l.length c').ownBlock=some w.heap.size)→wpList P ops Q rest (a.put o.dst (.slice a' l.length c')) w'):wpList P ops Q (o::rest) a w:=
 wpList_plain hgd fun _ hK=>fT R s x t ho e i z ht hi hz hsize hby hzs ad cap l hs hx hb hlen fun a' c' w' h2 h3 h4=>hK _ _ (h a' c' w' h2 h3 h4)
theorem y5{P:Program}{t:TypeId}{z:Value}{s b:Nat}(h:(P.info? t).map (fun i=>(i.zero,i.size,i.bytes))=some (some z,s,b)):∃i,P.info? t=some i∧i.zero=some z∧i.size=s∧i.bytes=b:=by
 cases hi:P.info? t with
 |none=>rw [hi] at h;cases h
 |some i=>rw [hi] at h;simp only [Option.map_some,Option.some.injEq,Prod.mk.injEq] at h;exact⟨i,rfl,h.1,h.2.1,h.2.2⟩
theorem Tryz.infoU8:(Tryz.prog.info? 5).map (fun i=>(i.zero,i.size,i.bytes))=some (some (.int .u8 0),1,1):=by kernel_rfl
theorem Tryz.infoKept:(Tryz.prog.info? 123).map (fun i=>(i.zero,i.size,i.bytes))=some (some (.agg #[.string ByteArray.empty,.int .i64 0,.bool false,.slice none 0 0]),4,56):=by kernel_rfl
end ref
namespace keys
open Go.ChangeShapes Go.WideShapes Go.ChangeAt Go.RowKit
open Go.ChangeMaps (open_string shut_string)
def jE(c:Int):Bool:=(decide (97≤c)&&decide (c≤122))||(decide (48≤c)&&decide (c≤57))||(c==45)||(c==47)
def ju(l:List UInt8):Bool:=l.all fun c=>jE (c.toNat:Int)
def zu(l:List UInt8):Bool:=decide (1≤l.length)&&decide (l.length≤8)&&ju l
theorem YW(s:ByteArray)(k:Nat)(h:k<s.size):s.data.toList.take (k+1)=s.data.toList.take k++[s[k]]:=by
 rw [List.take_succ_eq_append_getElem (by simpa using h)];rfl
theorem gw(s:ByteArray)(k:Nat)(h:k<s.size):ju (s.data.toList.take (k+1))=(ju (s.data.toList.take k)&&jE (s[k].toNat:Int)):=by
 rw [YW s k h];simp [ju]
theorem XQ(s:ByteArray)(k:Nat)(h:k<s.size)(hb:jE (s[k].toNat:Int)=false):ju s.data.toList=false:=by
 have e:s.data.toList=s.data.toList.take (k+1)++s.data.toList.drop (k+1):=(List.take_append_drop _ _).symm
 rw [e]
 have h2:=gw s k h
 rw [hb,Bool.and_false] at h2
 unfold ju at h2 ⊢
 rw [List.all_append,h2,Bool.false_and]
theorem ze{k:IntKind}{a b:Int}(h:a=b):Ending.returned (.int k a)=.returned (.int k b):=by rw [h]
theorem zd{a b:Bool}(h:a=b):Ending.returned (.bool a)=.returned (.bool b):=by rw [h]
theorem jF(c:Int)(h:(97≤c∧c≤122)∨(48≤c∧c≤57)∨c=45∨c=47):true=jE c:=by
 unfold jE;simp only [Bool.true_eq,Bool.or_eq_true,Bool.and_eq_true,decide_eq_true_eq,beq_iff_eq];omega
theorem gg(c:Int)(h1:c<97∨122<c)(h2:c<48∨57<c)(h3:¬c=45)(h4:¬c=47):false=jE c:=by
 symm;rw [Bool.eq_false_iff];unfold jE;simp only [ne_eq,Bool.or_eq_true,Bool.and_eq_true,decide_eq_true_eq,beq_iff_eq];omega
theorem zr{a b:Int}(h:(a==b)=false):¬a=b:=by simpa using h
theorem zn{a b:Int}(h:(a==b)=true):a=b:=by simpa using h
theorem ct(c:Int)(w:World)(h0:0≤c)(h1:c≤255):
 Calls Tryz.prog 71 #[.int .u8 c] w fun e w'=>e=.returned (.bool (jE c))∧w'=w:=by
 go_enter Tryz.func71,Tryz.ntmps71
 go_wp2
 ·go_ret;exact⟨zd (jF c (by omega)),rfl⟩
 ·go_ret;exact⟨zd (gg c (by omega) (by omega) (zr ‹_›) (zr ‹_›)),rfl⟩
 ·go_ret;exact⟨zd (jF c (by omega)),rfl⟩
 ·go_ret;exact⟨zd (gg c (by omega) (by omega) (zr ‹_›) (zr ‹_›)),rfl⟩
 ·go_ret;exact⟨zd (jF c (.inr (.inr (.inl (zn ‹_›))))),rfl⟩
 ·go_ret;exact⟨zd (jF c (.inr (.inr (.inr (zn ‹_›))))),rfl⟩
 ·go_ret;exact⟨zd (gg c (by omega) (by omega) (zr ‹_›) (zr ‹_›)),rfl⟩
theorem qW(s:ByteArray)(w:World)(hs:s.size≤maxLen):
 Calls Tryz.prog 49 #[.string s] w fun e w'=>e=.returned (.bool (zu s.data.toList))∧w'=w:=by
 unfold maxLen at hs
 by_cases hlo:s.size<1
 ·go_enter Tryz.func49,Tryz.ntmps49
  go_wp2
  go_ret
  refine⟨zd ?_,rfl⟩
  have:¬1≤s.data.toList.length:=by simpa using hlo
  simp only [zu,this,decide_false,Bool.false_and]
 ·by_cases hhi:8<s.size
  ·go_enter Tryz.func49,Tryz.ntmps49
   go_wp2
   go_ret
   refine⟨zd ?_,rfl⟩
   have:¬s.data.toList.length≤8:=by simpa using hhi
   simp only [zu,this,decide_false,Bool.false_and,Bool.and_false]
  ·have hkey:zu s.data.toList=ju s.data.toList:=by
    have h1:1≤s.data.toList.length:=by simp;omega
    have h2:s.data.toList.length≤8:=by simp;omega
    simp only [zu,h1,h2,decide_true,Bool.true_and]
   have HK:Hid (zu s.data.toList=ju s.data.toList):=hkey
   clear hkey
   go_enter Tryz.func49,Tryz.ntmps49
   go_wp2
   go_loop [14] (fun i=>∃k:Nat,k≤s.size∧i=.int .i64 k∧ju (s.data.toList.take k)=true) (fun i=>s.size-(intOf i).toNat)
   case atStart=>exact⟨0,Nat.zero_le _,rfl,rfl⟩
   case round=>
    obtain⟨k,hk,rfl,hall⟩:=hrel
    have HA:Hid (ju (s.data.toList.take k)=true):=hall
    clear hall
    by_cases hlt:k<s.size
    ·cases hb:jE (s[k].toNat:Int)
     ·go_wp2_with (go_at_call 71;refine(ct _ _ (by omega) (by have:=s[k].toNat_lt;omega)).mono ?_;rintro e w' ⟨rfl,rfl⟩)
      go_ret
      exact⟨zd (by rw [HK.out,XQ s k hlt hb]),rfl⟩
     ·have HB:Hid (ju (s.data.toList.take (k+1))=true):=by
       show ju (s.data.toList.take (k+1))=true
       rw [gw s k hlt,HA.out,hb];rfl
      go_wp2_with (go_at_call 71;refine(ct _ _ (by omega) (by have:=s[k].toNat_lt;omega)).mono ?_;rintro e w' ⟨rfl,rfl⟩)
      go_round
      case rel=>exact⟨k+1,by omega,by go_num,HB.out⟩
      case measure=>simp [intOf];omega
    ·go_wp2
     go_ret
     refine⟨zd ?_,rfl⟩
     rw [HK.out]
     have h:=HA.out
     rw [List.take_of_length_le (by simp;omega)] at h
     exact h.symm
def vl:Bool→Int
 |true=>0
 |false=>2
theorem YX(s:ByteArray)(w:World)(hs:s.size≤maxLen):
 Calls Tryz.prog 89 #[.string s] w fun e w'=>e=.returned (.int .i64 (vl (zu s.data.toList)))∧w'=w:=by
 cases hk:zu s.data.toList
 all_goals
  go_enter Tryz.func89,Tryz.ntmps89
  go_wp2_with (go_at_call 49;refine(qW _ _ hs).mono ?_;rintro e w' ⟨rfl,rfl⟩)
  go_ret
  exact⟨rfl,rfl⟩
theorem gh(s:ByteArray)(w:World)(hs:s.size≤maxLen):
 Calls Tryz.prog 90 #[.string s] w fun e w'=>e=.returned (.int .i64 (vl (zu s.data.toList)))∧w'=w:=by
 unfold maxLen at hs
 by_cases hlo:s.size<1
 ·go_enter Tryz.func90,Tryz.ntmps90
  go_wp2
  go_ret
  refine⟨ze ?_,rfl⟩
  have:¬1≤s.data.toList.length:=by simpa using hlo
  simp only [zu,this,decide_false,Bool.false_and];rfl
 ·by_cases hhi:8<s.size
  ·go_enter Tryz.func90,Tryz.ntmps90
   go_wp2
   go_ret
   refine⟨ze ?_,rfl⟩
   have:¬s.data.toList.length≤8:=by simpa using hhi
   simp only [zu,this,decide_false,Bool.false_and,Bool.and_false];rfl
  ·have hkey:zu s.data.toList=ju s.data.toList:=by
    have h1:1≤s.data.toList.length:=by simp;omega
    have h2:s.data.toList.length≤8:=by simp;omega
    simp only [zu,h1,h2,decide_true,Bool.true_and]
   have HK:Hid (zu s.data.toList=ju s.data.toList):=hkey
   clear hkey
   go_enter Tryz.func90,Tryz.ntmps90
   go_wp2
   go_loop [3] (fun i=>∃k:Nat,k≤s.size∧i=.int .i64 k∧ju (s.data.toList.take k)=true) (fun i=>s.size-(intOf i).toNat)
   case atStart=>exact⟨0,Nat.zero_le _,rfl,rfl⟩
   case round=>
    obtain⟨k,hk,rfl,hall⟩:=hrel
    have HA:Hid (ju (s.data.toList.take k)=true):=hall
    clear hall
    by_cases hlt:k<s.size
    ·have HB:Hid (true=jE (s[k].toNat:Int)→ju (s.data.toList.take (k+1))=true):=by
      intro hb
      show ju (s.data.toList.take (k+1))=true
      rw [gw s k hlt,HA.out,←hb];rfl
     have HN:Hid (false=jE (s[k].toNat:Int)→(2:Int)=vl (zu s.data.toList)):=by
      intro hb
      rw [HK.out,XQ s k hlt hb.symm];rfl
     have hr1:(0:Int)≤s[k].toNat:=by omega
     go_wp2
     all_goals
      first
       |(go_round
         case rel=>
          simp only [bne_eq_false_iff_eq] at*
          exact⟨k+1,by omega,by go_num,HB.out (jF _ (by omega))⟩
         case measure=>simp [intOf];omega)
       |(go_ret
         simp only [bne_iff_ne,ne_eq] at*
         exact⟨ze (HN.out (gg _ (by omega) (by omega) (by omega) (by omega))),trivial⟩)
    ·go_wp2
     go_ret
     refine⟨ze ?_,rfl⟩
     have h:=HA.out
     rw [List.take_of_length_le (by simp;omega)] at h
     rw [HK.out,h];rfl
theorem walk(a0:ByteArray)(w0:a0.size≤maxLen)(w:World):
 Calls Tryz.prog 57 #[.string a0] w fun e w'=>e=.returned (.bool true)∧Grown w w':=by
 go_enter Tryz.func57,Tryz.ntmps57
 go_wp2_with (first
  |(go_at_call 89;refine(YX _ _ w0).mono ?_;rintro e w' ⟨rfl,rfl⟩)
  |(go_at_call 90;refine(gh _ _ w0).mono ?_;rintro e w' ⟨rfl,rfl⟩))
 go_ret
 exact⟨by simp,Grown.refl _⟩
end keys
namespace disk
open Go.ChangeShapes Go.WideShapes Go.ChangeAt Go.RowKit
theorem zi.set_fuse{w:World}{bd:Nat}{S:Nat→Prop}{D:Dk}{ba pa:Option Addr}{bc pc:Nat}(h:zi w bd S D ba pa bc pc)(n:Int):
 zi (w.setCell ⟨bd,2,none⟩ (.int .i64 n)) bd S {D with fuse:=n} ba pa bc pc:=by
 refine⟨⟨h.ok.bs,h.ok.ps,h.ok.few⟩,?_,?_,?_,h.own,h.ap1,h.ap2,h.ap3⟩
 ·rw [heap_setCell_same w bd 2 _ _ _ h.head];rfl
 ·exact(Kept.setCell (S:=fun k=>k=bd) w ⟨bd,2,none⟩ _ rfl).owns h.rows (fun k hk e=>h.ap1 (by rw [hk,e]))
 ·exact(Kept.setCell (S:=fun k=>k=bd) w ⟨bd,2,none⟩ _ rfl).owns h.pend (fun k hk e=>h.ap2 (by rw [hk,e]))
theorem zi.set_reads{w:World}{bd:Nat}{S:Nat→Prop}{D:Dk}{ba pa:Option Addr}{bc pc:Nat}(h:zi w bd S D ba pa bc pc)(n:Int):
 zi (w.setCell ⟨bd,3,none⟩ (.int .i64 n)) bd S {D with reads:=n} ba pa bc pc:=by
 refine⟨⟨h.ok.bs,h.ok.ps,h.ok.few⟩,?_,?_,?_,h.own,h.ap1,h.ap2,h.ap3⟩
 ·rw [heap_setCell_same w bd 3 _ _ _ h.head];rfl
 ·exact(Kept.setCell (S:=fun k=>k=bd) w ⟨bd,3,none⟩ _ rfl).owns h.rows (fun k hk e=>h.ap1 (by rw [hk,e]))
 ·exact(Kept.setCell (S:=fun k=>k=bd) w ⟨bd,3,none⟩ _ rfl).owns h.pend (fun k hk e=>h.ap2 (by rw [hk,e]))
def qj(n:Int):Int:=if 0<n then n-1 else n
def zD(n:Int):Prop:= -9223372036854775808≤n∧n≤9223372036854775807
theorem XR{n:Int}(h:0<n):qj n=n-1:=if_pos h
theorem YY{n:Int}(h:¬0<n):qj n=n:=if_neg h
theorem zi.at_fuse{w:World}{bd:Nat}{S:Nat→Prop}{D:Dk}{ba pa:Option Addr}{bc pc:Nat}(h:zi w bd S D ba pa bc pc){n:Int}(e:D.fuse=n):zi w bd S {D with fuse:=n} ba pa bc pc:=by
 subst e;exact h
theorem vm(w:World)(bd:Nat)(S:Nat→Prop)(D:Dk)(ba pa:Option Addr)(bc pc:Nat)(h:zi w bd S D ba pa bc pc)(hi:zD D.fuse):
 Calls Tryz.prog 65 #[.pointer (some ⟨bd,0,none⟩)] w fun e w'=>
  e=.returned (.bool (!(D.fuse==0)))∧zi w' bd S {D with fuse:=qj D.fuse} ba pa bc pc∧Kept (fun k=>k=bd) w w':=by
 have hc:=h.c2
 have hf:=h.fz 2
 obtain⟨hi1,hi2⟩:=hi
 have hs:=h.set_fuse (D.fuse-1)
 have HS:Hid (zi (w.setCell ⟨bd,2,none⟩ (.int .i64 (D.fuse-1))) bd S {D with fuse:=D.fuse-1} ba pa bc pc):=hs
 have HH:Hid (zi w bd S D ba pa bc pc):=h
 clear hs h
 generalize hfu:D.fuse=n at*
 have HF:Hid (D.fuse=n):=hfu
 clear hfu
 by_cases h0:n=0
 ·subst h0
  go_enter Tryz.func65,Tryz.ntmps65
  go_wp2
  go_ret
  exact⟨rfl,HH.out.at_fuse HF.out,Kept.refl _ _⟩
 ·by_cases h1:0<n
  ·have HB:Hid (qj n=n-1):=XR h1
   go_enter Tryz.func65,Tryz.ntmps65
   go_wp2
   go_ret
   exact⟨by simp [h0],by rw [HB.out];exact HS.out,Kept.setCell _ _ _ rfl⟩
  ·have HB:Hid (qj n=n):=YY h1
   go_enter Tryz.func65,Tryz.ntmps65
   go_wp2
   go_ret
   exact⟨by simp,by rw [HB.out];exact HH.out.at_fuse HF.out,Kept.refl _ _⟩
theorem kK(w:World)(bd:Nat)(S:Nat→Prop)(D:Dk)(ba pa:Option Addr)(bc pc:Nat)(h:zi w bd S D ba pa bc pc):
 Calls Tryz.prog 54 #[.pointer (some ⟨bd,0,none⟩)] w fun e w'=>e=.returned (.int .i64 D.bs.length)∧w'=w:=by
 have hc:=h.c0
 clear h
 go_enter Tryz.func54,Tryz.ntmps54
 go_wp2
 go_ret
 exact⟨rfl,rfl⟩
theorem vZ(w:World)(bd:Nat)(S:Nat→Prop)(D:Dk)(ba pa:Option Addr)(bc pc:Nat)(h:zi w bd S D ba pa bc pc):
 Calls Tryz.prog 86 #[.pointer (some ⟨bd,0,none⟩)] w fun e w'=>e=.returned (.int .i64 D.reads)∧w'=w:=by
 have hc:=h.c3
 clear h
 go_enter Tryz.func86,Tryz.ntmps86
 go_wp2
 go_ret
 exact⟨rfl,rfl⟩
theorem XS(w:World)(bd:Nat)(S:Nat→Prop)(D:Dk)(ba pa:Option Addr)(bc pc:Nat)(h:zi w bd S D ba pa bc pc)(n:Int):
 Calls Tryz.prog 43 #[.pointer (some ⟨bd,0,none⟩),.int .i64 n] w fun e w'=>e=.returned (.tuple #[])∧zi w' bd S {D with fuse:=n} ba pa bc pc∧Kept (fun k=>k=bd) w w':=by
 have hc:=h.c2
 have hf:=h.fz 2
 have HS:Hid (zi (w.setCell ⟨bd,2,none⟩ (.int .i64 n)) bd S {D with fuse:=n} ba pa bc pc):=h.set_fuse n
 clear h
 go_enter Tryz.func43,Tryz.ntmps43
 go_wp2
 go_end0
 exact⟨rfl,HS.out,Kept.setCell _ _ _ rfl⟩
def zT:List Value:=List.replicate 128 (.int .u8 0)
theorem Tryz.infoBlock:(Tryz.prog.info? 131).map (fun i=>(i.zero,i.size,i.bytes))=some (some (.agg zT.toArray),128,128):=by kernel_rfl
theorem zF:zy zT:=⟨by simp [zT],fun v hv=>by rw [List.eq_of_mem_replicate hv];rfl⟩
theorem kM:∀n,(List.replicate n zT).flatten=List.replicate (n*128) (Value.int .u8 0)
 |0=>by simp
 |n+1=>by rw [List.replicate_succ,List.flatten_cons,kM n,Nat.add_mul,Nat.one_mul,Nat.add_comm,←List.replicate_append_replicate];rfl
theorem Qd(z:Array Value)(v:Value)(hz:0<z.size)(h:∀i (hi:i<z.size),z[i]=v)(n:Nat):(madeCells z n).toList=List.replicate n v:=by
 apply List.ext_getElem
 ·simp [madeCells]
 ·intro i h1 h2
  have hm:i%z.size<z.size:=Nat.mod_lt _ hz
  simp only [madeCells,Array.toList_map,List.getElem_map,Array.getElem_toList,Array.getElem_range,List.getElem_replicate]
  rw [getElem!_pos z _ hm]
  exact h _ hm
theorem Qe(n:Nat):(madeCells (Value.agg zT.toArray).cells n).toList=List.replicate n (Value.int .u8 0):=by
 have e:(Value.agg zT.toArray).cells=zT.toArray:=rfl
 have hs:zT.toArray.size=128:=by rw [List.size_toArray];exact zF.1
 rw [e]
 refine Qd _ _ (by omega) (fun i hi=>?_) n
 rw [List.getElem_toArray]
 exact List.eq_of_mem_replicate (List.getElem_mem _)
def Dk.fresh(n:Nat):Dk:={bs:=List.replicate n zT,ps:=[],fuse:= -1,reads:=0}
def je(n:Int):Nat:=if n<0∨1000<n then 0 else n.toNat
theorem gx(w:World)(n:Nat)(hn:n≤1000):
 zi ((w.alloc (.cells (madeCells (Value.agg zT.toArray).cells (n*128)) 131)).alloc
  (.cells #[.slice (some ⟨w.heap.size,0,none⟩) n n,.slice none 0 0,.int .i64 (-1),.int .i64 0] 118)) (w.heap.size+1) (fun k=>k=w.heap.size+1∨k=w.heap.size) (Dk.fresh n) (some ⟨w.heap.size,0,none⟩) none n 0:=by
 have hl:(List.replicate n zT).length=n:=by simp
 refine⟨⟨fun b hb=>by rw [List.eq_of_mem_replicate hb];exact zF,fun p hp=>(by cases hp),by simpa [Dk.fresh] using hn⟩,?_,?_,World.ownsRow_nil _ _ _ _,?_,?_,?_,?_⟩
 ·simp only [Dk.fresh,hl,List.length_nil]
  exact heap_alloc2_new w _ _
 ·simp only [Dk.fresh,hl]
  refine World.ownsRow.alloc ⟨?_,.inr ⟨w.heap.size,n,_,rfl,Nat.zero_le _,heap_alloc_new w _,Nat.le_refl _,by unfold maxLen;omega,by rw [size_madeCells],?_⟩⟩ _
  ·rw [kM];simp
  ·rw [Qe,kM,List.take_of_length_le (by simp)]
 ·intro k;simp [Value.ownBlock,eq_comm]
 ·simp [Value.ownBlock]
 ·simp [Value.ownBlock]
 ·intro k _;simp [Value.ownBlock]
theorem xQ(w:World)(n:Int)(hi:zD n):
 Calls Tryz.prog 39 #[.int .i64 n] w fun e w'=>
  e=.returned (.pointer (some ⟨w.heap.size+1,0,none⟩))∧zh w' (w.heap.size+1) (fun k=>k=w.heap.size+1∨k=w.heap.size) (Dk.fresh (je n))∧Kept (fun _=>False) w w':=by
 obtain⟨i0,hi0,hz0,hz1,hz2⟩:=info_parts Tryz.infoBlock
 obtain⟨hi1,hi2⟩:=hi
 have HN:Hid (∀m:Nat,m≤1000→∀W:World,(Instr.makeSlice 115 (.int .i64 m) (.int .i64 m)).run Tryz.prog W=
  .ok (.slice (some ⟨W.heap.size,0,none⟩) m m) (W.alloc (.cells (madeCells (Value.agg zT.toArray).cells (m*128)) 131))):=fun m hm W=>by
  have:=run_make (P:=Tryz.prog) W 115 131 i0 _ Tryz.underlying115 hi0 hz0 .i64 .i64 m m (by omega) (by omega) (by rw [hz2];omega) (by omega)
  rw [hz1] at this
  simpa using this
 clear hi0 hz0 hz1 hz2
 by_cases hn:n<0∨1000<n
 ·have HZ:Hid (je n=0):=if_pos hn
  have hmk:∀W:World,(Instr.makeSlice 115 (.int .i64 0) (.int .i64 0)).run Tryz.prog W=.ok (.slice (some ⟨W.heap.size,0,none⟩) 0 0) (W.alloc (.cells (madeCells (Value.agg zT.toArray).cells (0*128)) 131)):=HN.out 0 (by omega)
  generalize hZ:madeCells (Value.agg zT.toArray).cells (0*128)=Z at hmk
  have HZZ:Hid (madeCells (Value.agg zT.toArray).cells (0*128)=Z):=hZ
  clear hZ HN
  by_cases hlo:n<0
  ·clear hn
   go_enter Tryz.func39,Tryz.ntmps39
   go_wp2
   go_ret
   refine⟨rfl,?_,(Kept.alloc _ _ _).trans (Kept.alloc _ _ _) iL⟩
   rw [HZ.out,←HZZ.out]
   exact⟨_,_,_,_,gx w 0 (by omega)⟩
  ·have hhi:1000<n:=by omega
   clear hn
   go_enter Tryz.func39,Tryz.ntmps39
   go_wp2
   go_ret
   refine⟨rfl,?_,(Kept.alloc _ _ _).trans (Kept.alloc _ _ _) iL⟩
   rw [HZ.out,←HZZ.out]
   exact⟨_,_,_,_,gx w 0 (by omega)⟩
 ·obtain⟨m,rfl⟩:∃m:Nat,n=m:=⟨n.toNat,by omega⟩
  have hlo:¬(m:Int)<0:=by omega
  have hm:m≤1000:=by omega
  have HZ:Hid (je (m:Int)=m):=by show je (m:Int)=m;unfold je;rw [if_neg hn];simp
  have hmk:=HN.out m hm
  generalize hZ:madeCells (Value.agg zT.toArray).cells (m*128)=Z at hmk
  have HZZ:Hid (madeCells (Value.agg zT.toArray).cells (m*128)=Z):=hZ
  clear hZ HN hn
  go_enter Tryz.func39,Tryz.ntmps39
  go_wp2
  go_ret
  refine⟨rfl,?_,(Kept.alloc _ _ _).trans (Kept.alloc _ _ _) iL⟩
  rw [HZ.out,←HZZ.out]
  exact⟨_,_,_,_,gx w m hm⟩
end disk
end Go.Proofs.YtcoengihaobddaaGreatDoor
