/- Part 1 of 50 of a proof: DiskWorld, DiskRows, RefData, RefWorld, Mem, Pg1, Pg2, KeysWalks, Disk1 -/
import Derived.Test.YtcoengihaobddaaGreatDoorRows
import Derived.WalkKit
import Derived.ProofKit
import Derived.Deep.MidRow
import Derived.Laws.AppendOwn
import Derived.Deep.AppendLies
import Derived.OpenShut
import Derived.ShutString
set_option maxHeartbeats 8000000
set_option linter.unusedVariables false
set_option linter.unusedSimpArgs false
set_option maxRecDepth 8000
namespace Go.Proofs.YtcoengihaobddaaGreatDoor
abbrev aa:=@Go.frozen_of_row
abbrev ac:=@List.mem_append_left
abbrev ae:=@List.length_cons
abbrev af:=@List.mem_append_right
abbrev ag:=@List.getElem_mem
abbrev ah:=@List.length_append
abbrev ai:=@Nat.zero_le
abbrev aj:=@List.mem_append
abbrev ak:=@Go.cell_of_row
abbrev al:=@List.mem_cons_of_mem
abbrev am:=@List.mem_cons_self
abbrev an:=@List.append_assoc
abbrev ao:=@List.take_of_length_le
abbrev aq:=@List.mem_cons
abbrev ar:=@List.take_succ_eq_append_getElem
abbrev au:=@Nat.lt_of_lt_of_le
abbrev av:=@List.mem_map
abbrev aw:=@List.size_toArray
abbrev ay:=@List.length_take
abbrev az:=@if_neg
abbrev aA:=@List.take_append_drop
abbrev aB:=@if_pos
abbrev aC:=@Nat.le_refl
abbrev aD:=@List.mem_singleton
abbrev aE:=@List.getD_eq_getElem?_getD
abbrev aF:=@Nat.le_trans
abbrev aG:=@decide_eq_true
abbrev aH:=@List.nil_append
abbrev aI:=@List.getElem?_eq_getElem
abbrev aJ:=@List.mem_of_mem_take
abbrev aK:=@Option.some.inj
abbrev aL:=@List.drop_eq_getElem_cons
abbrev aM:=@List.append_nil
abbrev aN:=@of_decide_eq_true
abbrev aO:=@decide_eq_true_eq
abbrev aP:=@Go.World.ownsRow_nil
abbrev aQ:=@List.all_eq_true
abbrev aR:=@List.pairwise_cons
abbrev aS:=@Bool.and_eq_true
abbrev aT:=@List.map_cons
abbrev aU:=@List.length_drop
abbrev aV:=@Nat.zero_add
abbrev aW:=@List.getElem?_eq_some_iff
abbrev aX:=@List.nodup_append
abbrev aY:=@List.flatten_append
abbrev aZ:=@List.forall_mem_cons
abbrev a9:=@List.cons_append
abbrev eb:=@List.drop_of_length_le
abbrev ed:=@List.eq_nil_of_length_eq_zero
abbrev ee:=@List.cons.injEq
abbrev eh:=@List.map_append
abbrev ei:=@List.getElem_of_mem
abbrev eo:=@List.flatten_cons
abbrev ep:=@List.pairwise_append
abbrev et:=@congrArg
abbrev eA:=@List.mem_filter
abbrev eB:=@List.pairwise_iff_getElem
abbrev eC:=@List.take_append_of_le_length
abbrev eD:=@Int.le_refl
abbrev eE:=@Nat.min_eq_left
abbrev eF:=@List.length_map
abbrev eG:=@Int.add_assoc
abbrev eH:=@Nat.mul_le_mul_right
abbrev eI:=@List.drop_drop
abbrev eJ:=@List.mem_of_mem_drop
abbrev eK:=@Prod.mk.injEq
abbrev eM:=@Go.Result.andThen_ok
abbrev eN:=@List.Perm.refl
abbrev eO:=@Go.Addr.add_mid
abbrev eQ:=@List.length_set
abbrev eR:=@trivial
abbrev eS:=@Nat.add_mul
abbrev eT:=@List.filter_eq_self
abbrev eU:=@Go.ByteArray.toList_eq
abbrev eV:=@Nat.le_of_eq
abbrev eW:=@List.getElem?_append_left
abbrev eX:=@List.take_length
abbrev eY:=@List.not_mem_nil
abbrev eZ:=@List.perm_append_comm
abbrev hE:=@List.filter_cons
abbrev ia:=@List.getElem?_append_right
abbrev ic:=@List.findIdx?_eq_some_iff_getElem
abbrev ie:=@List.getElem_append_left
abbrev ig:=@List.getElem_map
abbrev ii:=@List.mem_flatten
abbrev ij:=@Bool.not_eq_true'
abbrev ik:=@Go.World.cell?_of_block
abbrev il:=@Go.Sem.run_bind
abbrev im:=@List.map_nil
abbrev io:=@Option.map_eq_some_iff
abbrev ip:=@List.getElem_append_right
abbrev iq:=@List.drop_append_of_le_length
abbrev ir:=@List.length_filter_le
abbrev iu:=@Array.mem_of_getElem?
abbrev iw:=@List.set_eq_take_append_cons_drop
abbrev ix:=@List.length_nil
abbrev iy:=@Nat.add_sub_cancel_left
abbrev iz:=@Go.run_underlying
abbrev iA:=@Option.some.injEq
abbrev iB:=@List.take_succ_cons
abbrev iC:=@Array.length_toList
abbrev iD:=@List.mem_or_eq_of_mem_set
abbrev iE:=@List.findIdx?_eq_none_iff
abbrev iF:=@List.length_replicate
abbrev iG:=@List.length_singleton
abbrev iH:=@Go.heap_setCell_other
abbrev iI:=@Go.Sem.run_pure
abbrev iJ:=@List.take_take
abbrev iK:=@Ne.symm
abbrev iM:=@Bool.eq_false_iff
abbrev iN:=@List.drop_succ_cons
abbrev iO:=@List.filter_eq_nil_iff
abbrev iP:=@List.length_eraseIdx_of_lt
abbrev iQ:=@List.map_toArray
abbrev iR:=@List.take_left
abbrev iS:=@of_decide_eq_false
abbrev iT:=@List.mem_take_iff_getElem
abbrev iU:=@Nat.add_comm
abbrev iV:=@List.getElem?_set_ne
abbrev iW:=@List.nodup_cons
abbrev iX:=@Array.replicate_succ
abbrev iY:=@Array.replicate_zero
abbrev iZ:=@Nat.lt_or_ge
abbrev i3:=@List.length_range
abbrev i4:=@List.map_take
abbrev i5:=@Nat.le_mul_of_pos_right
abbrev i6:=@List.toList_toArray
abbrev i7:=@List.append_toArray
abbrev i8:=@List.drop_left
abbrev i9:=@Option.getD_some
abbrev lf:=@Nat.one_mul
abbrev lg:=@List.append_eq_nil_iff
abbrev lh:=@List.drop_length_add_append
abbrev li:=@List.append_of_mem
abbrev lj:=@Bool.or_eq_true
abbrev lm:=@Array.getElem?_toList
abbrev ln:=@List.Perm.append_left
abbrev lp:=@List.push_toArray
abbrev lq:=@List.Pairwise.filter
abbrev lr:=@Nat.pow_le_pow_right
abbrev lw:=@Bool.or_eq_false_iff
abbrev lx:=@Array.getElem?_eq_getElem
abbrev ly:=@Nat.le_of_lt
abbrev lz:=@List.eq_of_mem_replicate
abbrev lA:=@List.drop_length
abbrev lB:=@List.map_map
abbrev lC:=@List.replicate_append_replicate
abbrev lD:=@List.eraseIdx_eq_take_drop_succ
abbrev lE:=@Int.eq_ofNat_of_zero_le
abbrev lF:=@Nat.add_assoc
abbrev lG:=@List.find?_eq_none
abbrev lH:=@List.all_append
abbrev lI:=@Bool.false_eq_true
abbrev lJ:=@List.sum_append
abbrev lK:=@List.filter_append
abbrev lM:=@List.getElem?_set_self
abbrev lN:=@List.foldl_append
abbrev lO:=@List.getElem_take
abbrev lP:=@List.getElem_drop
abbrev lQ:=@UInt8.lt_iff_toNat_lt
abbrev lS:=@Nat.add_zero
abbrev lU:=@Int.le_trans
abbrev lV:=@List.take_length_add_append
abbrev lW:=@Array.ext'
abbrev lX:=@List.flatten_nil
abbrev lY:=@Bool.true_and
abbrev lZ:=@Int.tmod_eq_emod_of_nonneg
abbrev l0:=@List.perm_iff_count
abbrev l4:=@UInt8.toNat_inj
abbrev l5:=@List.foldl_cons
abbrev l9:=@List.mem_drop_iff_getElem
abbrev ma:=@List.getElem?_take
abbrev mc:=@List.getElem?_drop
abbrev md:=@Go.wpList_plain
abbrev me:=@Nat.pow_succ
abbrev mf:=@List.map_set
abbrev mg:=@List.getElem_range
abbrev mh:=@List.drop_zero
abbrev mi:=@Bool.false_and
abbrev mj:=@List.take_zero
abbrev ml:=@List.pairwise_singleton
abbrev mn:=@Go.run_append_own_at
abbrev mo:=@Nat.lt_trichotomy
abbrev mp:=@List.getElem?_map
abbrev mq:=@List.filter_congr
abbrev mr:=@List.count_append
abbrev ms:=@List.getElem_cons_zero
abbrev mu:=@List.getElem_cons_succ
abbrev mw:=@Nat.div_div_eq_div_mul
abbrev mx:=@List.length_pos_of_mem
abbrev my:=@List.map_drop
abbrev mz:=@List.sum_cons
abbrev mA:=@List.all_cons
abbrev mB:=@Go.RowKit.Below.heap_alloc
abbrev mC:=@Nat.mul_sub_one
abbrev mD:=@List.mem_of_getElem?
abbrev mE:=@List.filter_sublist
abbrev mF:=@List.replicate_succ
abbrev mG:=@List.map_congr_left
abbrev mH:=@Int.toNat_of_nonneg
abbrev mI:=@List.takeWhile_cons
abbrev mJ:=@List.drop_take
abbrev mK:=@List.mem_range
abbrev mL:=@Nat.eq_zero_or_pos
abbrev mM:=@Nat.lt_of_le_of_lt
abbrev mN:=@List.filter_filter
abbrev mO:=@Int.toNat_natCast
abbrev mP:=@beq_iff_eq
abbrev mQ:=@Nat.mod_lt
abbrev mR:=@List.take_append
abbrev mS:=@decide_false
abbrev mT:=@List.ext_getElem
abbrev mU:=@Array.toList_map
abbrev mV:=@Nat.le_of_not_lt
abbrev mW:=@Nat.mod_eq_of_lt
abbrev mX:=@List.take_prefix
abbrev mY:=@List.getElem_set
abbrev mZ:=@Nat.and_le_left
abbrev m8:=@Nat.testBit_and
abbrev nd:=@List.filter_nil
abbrev ne:=@List.count_cons
abbrev nf:=@Int.emod_nonneg
abbrev ng:=@decide_true
abbrev nh:=@Nat.pow_pos
theorem cR {w:World}{b i:Nat}{cs:Array Value}{t:TypeId}{f:Nat×Nat}{v:Value}(h:w.heap[b]? =some (.cells cs t f))(e:cs[i]? =some v):w.cell? ⟨b,i,none⟩=some v:=by rw [ak w b i _ _ _ h];exact e
theorem iL {α:Type}{p q:α->Prop}:∀i,p i->p i\/q i:=λ_ h=>.inl h
theorem nF {α:Type}{p:α->Prop}:∀i,p i->¬False:=λ_ _ h=>h
theorem fE {α:Type}{p:α->Prop}:∀i,False->p i:=λ_ h=>h.elim
theorem lT {α:Type}{a:Array α}{i:Nat}{v:α}(h:a[i]? =some v):i<a.size:=(Array.getElem?_eq_some_iff.1 h).1
theorem B9 {p:Prop}(h:p):Go.RowKit.Hid p:=h
namespace disk
open Go.RowKit
variable {S:Nat->Prop}{w w':World}{c bd bc pc g cap:Nat}{e:TypeId}{ba pa:Option Addr}{α:Type}{l:List (List Value)}
structure Kept (S:Nat->Prop) (w w':World):Prop where
 os:w'.os=w.os
 tape:w'.tape=w.tape
 output:w'.output=w.output
 size:w.heap.size<=w'.heap.size
 block:∀k,k<w.heap.size->¬S k->w'.heap[k]? =w.heap[k]?
theorem kD (a:w'.os=w.os:=by rfl)(b:w'.tape=w.tape:=by rfl)(c:w'.output=w.output:=by rfl)(d:w.heap.size<=w'.heap.size:=by exact Nat.le_refl _)(e:∀k,k<w.heap.size->¬S k->w'.heap[k]? =w.heap[k]?:=by intros;rfl):Kept S w w':=⟨a,b,c,d,e⟩
theorem Kept.refl(S:Nat->Prop)(w:World):Kept S w w:=kD
theorem Kept.trans{S':Nat->Prop}{a b c:World}(h:Kept S a b)(k:Kept S' b c)(g:∀i,S' i->S i\/a.heap.size<=i):Kept S a c:=
 ⟨k.os.trans h.os,k.tape.trans h.tape,k.output.trans h.output,aF h.size k.size,λi e f=>
  (k.block i (au e h.size) (λj=>by rcases g i j with d|d;exact f d;omega)).trans (h.block i e f)⟩
theorem Kept.mono{S':Nat->Prop}{a b:World}(h:Kept S a b)(c:∀i,S i->S' i):Kept S' a b:=
 ⟨h.os,h.tape,h.output,h.size,λi e f=>h.block i e (λd=>f (c i d))⟩
theorem Kept.alloc(S:Nat->Prop)(w:World)(b:Obj):Kept S w (w.alloc b):=⟨rfl,rfl,rfl,by simp,λk a _=>mB w b k a⟩
theorem Kept.drew(S:Nat->Prop)(w:World):Kept S w w.drew:=kD
theorem Kept.setCell(w:World)(a:Addr)(v:Value)(h:S a.block):Kept S w (w.setCell a v):=
 ⟨rfl,rfl,rfl,by simp,λk _ b=>iH w a k v (λe=>b (by rw [e];exact h))⟩
theorem Kept.setCells(b:Nat)(h:S b):∀(vs:List Value) (a:Nat) (w:World),Kept S w (w.setCells b a vs)
 |[],_,w=>Kept.refl S w
 |v::r,a,w=>(Kept.setCell w ⟨b,a,none⟩ v h).trans (Kept.setCells b h r (a+1) _) (λ_ c=>.inl c)
theorem Kept.grown{b:Option Nat}(a:w.grownBy w' b)(h:∀k,b=some k->S k):Kept S w w':=
 ⟨a.os,a.tape,a.output,a.size,λk c d=>a.block k c (λe=>d (h k e.symm))⟩
theorem Kept.below{B:Nat}(h:Kept S w w')(a:∀k,S k->B<=k)(d:B<=w.heap.size):Below B w w':=
 ⟨h.os,h.tape,h.output,h.size,λk c=>h.block k (by omega) (λb=>by have:=a k b;omega)⟩
theorem Kept.cell(h:Kept S w w'){a:Addr}(b:a.block<w.heap.size)(c:¬S a.block):w'.cell? a=w.cell? a:=
 ik (h.block a.block b c)
theorem Kept.frozen(h:Kept S w w'){a:Addr}(b:a.block<w.heap.size)(c:¬S a.block):w'.frozen? a=w.frozen? a:=
 World.frozen?_of_block (h.block a.block b c)
theorem Kept.owns(h:Kept S w w'){a:Nat}{b:Nat}{v:Value}{n:Nat}{i:List Value}(f:w.ownsRow a e b v n i)
 (m:∀k,v.ownBlock=some k->¬S k):w'.ownsRow a e b v n i:=by
 refine⟨f.1,?_⟩;rcases f.2 with j|⟨g,cap,d,rfl,l,c,rest⟩;.exact .inl j
 .refine .inr ⟨g,cap,d,rfl,l,?_,rest⟩;rw [h.block g (lT c) (m g rfl)];exact c
def zW(b:List Value):Prop:=b.length=128/\∀v∈b,v.oneCell'=true
def zR(p:Nat×List Value):List Value:=.int .i64 (p.1:Int)::p.2
structure Dk where
 bs:List (List Value)
 ps:List (Nat×List Value)
 fuse:Int
 reads:Int
structure Dk.Ok (D:Dk):Prop where
 bs:∀b∈D.bs,zW b
 ps:∀p∈D.ps,p.1<D.bs.length/\zW p.2
 few:D.bs.length<=1000
structure zn (w:World) (bd:Nat) (S:Nat->Prop) (D:Dk) (ba pa:Option Addr) (bc pc:Nat):Prop where
 ok:D.Ok
 head:w.heap[bd]? =some (.cells #[.slice ba D.bs.length bc,.slice pa D.ps.length pc,.int .i64 D.fuse,.int .i64 D.reads] 118 (0,0))
 rows:w.ownsRow 0 131 128 (.slice ba D.bs.length bc) D.bs.length D.bs.flatten
 pend:w.ownsRow 0 133 129 (.slice pa D.ps.length pc) D.ps.length (D.ps.map zR).flatten
 own:∀k,S k↔(k=bd\/(Value.slice ba D.bs.length bc).ownBlock=some k\/(Value.slice pa D.ps.length pc).ownBlock=some k)
 ap1:(Value.slice ba D.bs.length bc).ownBlock≠some bd
 ap2:(Value.slice pa D.ps.length pc).ownBlock≠some bd
 ap3:∀k,(Value.slice ba D.bs.length bc).ownBlock=some k->(Value.slice pa D.ps.length pc).ownBlock≠some k
def ze(w:World)(bd:Nat)(S:Nat->Prop)(D:Dk):Prop:=∃ba pa bc pc,zn w bd S D ba pa bc pc
theorem zn.lt{D:Dk}(h:zn w bd S D ba pa bc pc):∀k,S k->k<w.heap.size:=λk b=>by
 rcases (h.own k).1 b with rfl|a|a;.exact(lT h.head)
 .exact(h.rows.lt k a).2
 .exact(h.pend.lt k a).2
theorem ze.lt{D:Dk}(h:ze w bd S D):∀k,S k->k<w.heap.size:=by
 obtain⟨ba,pa,bc,pc,h⟩:=h;exact h.lt
theorem zn.bdS{D:Dk}(h:zn w bd S D ba pa bc pc):S bd:=(h.own bd).2 (.inl rfl)
theorem ze.bdS{D:Dk}(h:ze w bd S D):S bd:=by
 obtain⟨ba,pa,bc,pc,h⟩:=h;exact h.bdS
theorem ze.ok{D:Dk}(h:ze w bd S D):D.Ok:=by
 obtain⟨ba,pa,bc,pc,h⟩:=h;exact h.ok
theorem zn.kept{T:Nat->Prop}{D:Dk}(h:zn w bd S D ba pa bc pc)(k:Kept T w w')(a:∀i,S i->¬T i):zn w' bd S D ba pa bc pc:=by
 refine⟨h.ok,?_,k.owns h.rows (λi b=>a i ((h.own i).2 (.inr (.inl b)))),k.owns h.pend (λi b=>a i ((h.own i).2 (.inr (.inr b)))),h.own,h.ap1,h.ap2,h.ap3⟩;rw [k.block bd (h.lt bd h.bdS) (a bd h.bdS)];exact h.head
theorem ze.kept{T:Nat->Prop}{D:Dk}(h:ze w bd S D)(k:Kept T w w')(a:∀i,S i->¬T i):ze w' bd S D:=by
 obtain⟨ba,pa,bc,pc,h⟩:=h;exact⟨ba,pa,bc,pc,h.kept k a⟩
theorem zn.c0{D:Dk}(h:zn w bd S D ba pa bc pc):w.cell? ⟨bd,0,none⟩=some (.slice ba D.bs.length bc):=cR h.head rfl
theorem zn.c1{D:Dk}(h:zn w bd S D ba pa bc pc):w.cell? ⟨bd,1,none⟩=some (.slice pa D.ps.length pc):=cR h.head rfl
theorem zn.c2{D:Dk}(h:zn w bd S D ba pa bc pc):w.cell? ⟨bd,2,none⟩=some (.int .i64 D.fuse):=cR h.head rfl
theorem zn.c3{D:Dk}(h:zn w bd S D ba pa bc pc):w.cell? ⟨bd,3,none⟩=some (.int .i64 D.reads):=cR h.head rfl
theorem zn.fz{D:Dk}(h:zn w bd S D ba pa bc pc)(i:Nat):w.frozen? ⟨bd,i,none⟩=false:=aa w bd i _ _ h.head
theorem YL(c:Nat):∀(l:List (List α)),(∀b∈l,b.length=c)->l.flatten.length=l.length*c
 |[],_=>by simp
 |b::l,h=>by rw [eo,ah,YL c l (λd a=>h d (al _ a)),h b (am ..),ae,eS];omega
theorem fT(c:Nat):∀(l:List (List α)),(∀b∈l,b.length=c)->∀i,i<=l.length->l.flatten.drop (i*c)=(l.drop i).flatten
 |_,_,0,_=>by simp
 |[],_,i+1,hi=>by simp at hi
 |b::l,h,i+1,hi=>by have a:=h b (am ..);rw [eo,iN,eS,lf,<-a,iU,<-eI,i8,a];exact fT c l (λe d=>h e (al _ d)) i (by simpa using hi)
theorem Qb(c:Nat):∀(l:List (List α)),(∀b∈l,b.length=c)->∀i,i<=l.length->l.flatten.take (i*c)=(l.take i).flatten
 |_,_,0,_=>by simp
 |[],_,i+1,hi=>by simp at hi
 |b::l,h,i+1,hi=>by have a:=h b (am ..);rw [eo,iB,eo,eS,lf,<-a,iU,lV,a];rw [Qb c l (λe d=>h e (al _ d)) i (by simpa using hi)]
theorem KQ(c:Nat)(l:List (List α))(h:∀b∈l,b.length=c)(i:Nat)(a:i<l.length):(l.flatten.drop (i*c)).take c=l[i]:=by
 rw [fT c l h i (ly a),aL a,eo];have d:=h l[i] (ag a)
 conv=>lhs;rw [<-d]
 exact iR ..
theorem UX(c:Nat)(l:List (List α))(h:∀b∈l,b.length=c)(i:Nat)(a:i<l.length)(v:List α):
 l.flatten.take (i*c)++v++l.flatten.drop (i*c+c)=(l.set i v).flatten:=by
 rw [Qb c l h i (ly a),show i*c+c=(i+1)*c from by rw [eS,lf],fT c l h (i+1) a,iw,aB a];simp
theorem xI(b k:Nat)(h:k≠b):∀(vs:List Value) (a:Nat) (w:World),(w.setCells b a vs).heap[k]? =w.heap[k]?
 |[],_,_=>rfl
 |v::r,a,w=>by rw [World.setCells,xI b k h r (a+1)];exact iH w ⟨b,a,none⟩ k v h
theorem KR(A B:List Value)(v:Value)(a k:Nat)(h:A.length=a):(A++v::B).take (a+1)=A++[v]/\(A++v::B).drop (a+1+k)=B.drop k:=by
 subst h;refine⟨by rw [lV];rfl,?_⟩;rw [lF,<-eI,i8,iU,iN]
theorem qg(b:Nat)(t:TypeId):∀(vs:List Value) (c:Nat) (w:World) (a:Array Value),w.heap[b]? =some (.cells a t (0,0))->c+vs.length<=a.size->
 (w.setCells b c vs).heap[b]? =some (.cells (a.toList.take c++vs++a.toList.drop (c+vs.length)).toArray t (0,0))
 |[],c,w,a,h,_=>by rw [World.setCells,h];simp
 |v::r,c,w,a,h,hl=>by
  simp only [ae] at hl;have d:c<a.size:=by omega
  rw [World.setCells,qg b t r (c+1) _ (a.setIfInBounds c v) (by rw [heap_setCell_same w b c a t v h]) (by simp;omega)];congr 2;apply lW;simp only [Array.toList_setIfInBounds,ae];rw [iw,aB (by simpa using d)];obtain⟨k1,k2⟩:=KR (a.toList.take c) (a.toList.drop (c+1)) v c r.length (by simp;omega);rw [k1,k2,eI,show c+1+r.length=c+(r.length+1) from by omega];simp
theorem q9(h:w.ownsRow 0 e c (.slice (some ⟨g,0,none⟩) l.length cap) l.length l.flatten)
 (d:∀b∈l,b.length=c) (i:Nat) (f:i<l.length):w.rangeAt g (i*c) l[i]:=by
 intro j v a;have m:j<c:=by have:=(aW.1 a).1;rw [d l[i] (ag f)] at this;exact this
 have k:=h.cells (g:=g) rfl (i*c+j) v (by
  rw [<-KQ c l d i f,ma,aB m,mc] at a
  exact a)
 rw [eO] at k;simpa using k
theorem b8(h:w.ownsRow 0 e c (.slice (some ⟨g,0,none⟩) l.length cap) l.length l.flatten)
 (a:∀b∈l,b.length=c) (i:Nat) (d:i<l.length):w.there g (i*c) c:=by
 intro j k;refine⟨?_,?_⟩
 .have:=(q9 h a i d).isSome j (by rw [a l[i] (ag d)];exact k);exact this
 .rcases h.2 with⟨n,_⟩|⟨q,m,p,f,_,o,_⟩;.cases n
  .cases f;exact aa w g _ _ _ o
theorem cd(h:w.ownsRow 0 e c (.slice (some ⟨g,0,none⟩) l.length cap) l.length l.flatten)
 (m:∀b∈l,b.length=c) (i:Nat) (q:i<l.length) (v:List Value) (k:v.length=c):
 (w.setCells g (i*c) v).ownsRow 0 e c (.slice (some ⟨g,0,none⟩) l.length cap) l.length (l.set i v).flatten:=by
 have o:∀b∈l.set i v,b.length=c:=λb d=>by
  rcases iD d with d|rfl;.exact m b d
  .exact k
 refine⟨by rw [YL c _ o,eQ],?_⟩;rcases h.2 with⟨y,_⟩|⟨A,x,a,r,d,z,j,n,p,f⟩;.cases y
 .cases r
  have u:i*c+v.length<=l.length*c:=by rw [k];have:=eH c (show i+1<=l.length from q);rw [eS,lf] at this;exact this
  have t:l.length*c<=a.size:=by rw [p];exact eH c j
  refine .inr ⟨g,cap,_,rfl,d,qg g e v (i*c) w a z (by omega),j,n,?_,?_⟩;.simp only [aw,ah,ay,aU,iC];omega
  .rw [i6,<-UX c l m i q v,<-f];have s:(a.toList.take (i*c)).length=i*c:=by simp;omega
   rw [iJ,eE (by omega),an,an,mR,s,ao (by rw [s];omega),mR,
    ao (show v.length<=l.length*c-i*c by omega),k,mJ]
   congr 3;omega
end disk
namespace ref
variable {a b k:ByteArray}{n:Int}
structure zw where
 key:ByteArray
 num:Int
 mark:Bool
 body:List UInt8
def qN:List UInt8->List UInt8->Bool
 |[],[]=>false
 |[],_::_=>true
 |_::_,[]=>false
 |a::l,b::r=>if a=b then qN l r else decide (a<b)
def qD(a b:ByteArray):Bool:=qN a.data.toList b.data.toList
theorem vJ:∀l,qN l l=false
 |[]=>rfl
 |a::l=>by simp [qN,vJ l]
theorem vV:∀a b c,qN a b=true->qN b c=true->qN a c=true
 |[],[],c,h,_=>by simp [qN] at h
 |[],b::l,[],_,h=>by simp [qN] at h
 |[],b::l,c::r,_,_=>rfl
 |a::l,[],c,h,_=>by simp [qN] at h
 |a::l,b::r,[],_,h=>by simp [qN] at h
 |a::l,b::r,c::t,h1,h2=>by
  unfold qN at h1 h2 ⊢;by_cases e:a=b
  .subst e;rw [aB rfl] at h1;by_cases d:a=c;.rw [aB d] at h2 ⊢;exact vV l r t h1 h2
   .rw [az d] at h2 ⊢;exact h2
  .rw [az e] at h1;by_cases d:b=c;.subst d;rw [az e];exact h1
   .rw [az d] at h2;have f:a<c:=UInt8.lt_trans (aN h1) (aN h2);have g:a≠c:=UInt8.ne_of_lt f;rw [az g];exact aG f
theorem dM:∀a b,a≠b->qN a b=false->qN b a=true
 |[],[],h,_=>absurd rfl h
 |[],b::l,_,h=>by simp [qN] at h
 |a::l,[],_,_=>rfl
 |a::l,b::r,h,h1=>by
  unfold qN at h1 ⊢;by_cases e:a=b
  .subst e;rw [aB rfl] at h1 ⊢;exact dM l r (λe=>h (by rw [e])) h1
  .rw [az e] at h1;rw [az (iK e)];have c:¬a<b:=iS h1;refine aG ?_;have d:a.toNat≠b.toNat:=λh=>e (l4.1 h);rw [lQ] at c ⊢;omega
theorem YM(a b:List UInt8)(h:qN a b=true):qN b a=false:=by
 cases c:qN b a with
 |false=>rfl
 |true=>have:=vV a b a h c;rw [vJ] at this;cases this
theorem uF(h:a.data.toList=b.data.toList):a=b:=by
 cases a;cases b;congr 1;exact lW h
theorem y5(a:ByteArray):qD a a=false:=vJ _
theorem kM{c:ByteArray}(h:qD a b=true)(k:qD b c=true):qD a c=true:=vV _ _ _ h k
theorem xo(h:a≠b)(k:qD a b=false):qD b a=true:=dM _ _ (λe=>h (uF e)) k
theorem dN(h:qD a b=true):qD b a=false:=YM _ _ h
def zw.ahead(a b:zw):Bool:=qD a.key b.key||(decide (a.key=b.key)&&decide (b.num<a.num))
theorem zw.ahead_iff(a b:zw):a.ahead b=true↔qD a.key b.key=true\/(a.key=b.key/\b.num<a.num):=by
 simp [zw.ahead]
theorem zw.ahead_irrefl(a:zw):¬a.ahead a=true:=by
 rw [zw.ahead_iff,y5];simp
theorem zw.ahead_trans{a b c:zw}(h:a.ahead b=true)(k:b.ahead c=true):a.ahead c=true:=by
 rw [zw.ahead_iff] at*;rcases h with h|⟨h,d⟩<;>rcases k with k|⟨k,e⟩
 .exact .inl (kM h k)
 .exact .inl (by rw [<-k];exact h)
 .exact .inl (by rw [h];exact k)
 .exact .inr ⟨h.trans k,by omega⟩
theorem zw.ahead_total{a b:zw}(h:¬(a.key=b.key/\a.num=b.num))(k:¬a.ahead b=true):b.ahead a=true:=by
 rw [zw.ahead_iff] at*;by_cases e:a.key=b.key
 .right;refine⟨e.symm,?_⟩;by_cases c:b.num<a.num;.exact absurd (.inr ⟨e,c⟩) k
  .have:a.num≠b.num:=λd=>h ⟨e,d⟩;omega
 .left
  cases c:qD a.key b.key with
  |true=>exact absurd (.inl c) k
  |false=>exact xo e c
theorem zw.ahead_asymm{a b:zw}(h:a.ahead b=true):¬b.ahead a=true:=λk=>zw.ahead_irrefl a (zw.ahead_trans h k)
def xt(vs:List zw):Prop:=vs.Pairwise λa b=>¬(a.key=b.key/\a.num=b.num)
theorem xt.sub{vs us:List zw}(h:xt vs)(p:us.Sublist vs):xt us:=List.Pairwise.sublist p h
def vk(k:ByteArray)(b:Option zw)(v:zw):Option zw:=
 match b with
 |none=>if v.key=k then some v else none
 |some u=>if v.key=k/\u.num<v.num then some v else some u
def zO(vs:List zw)(k:ByteArray):Option zw:=vs.foldl (vk k) none
theorem vW(k:ByteArray):∀(vs:List zw) (b:Option zw),(∀u,b=some u->u.key=k)->
 (∀v,vs.foldl (vk k) b=some v->v.key=k/\(v∈vs\/b=some v)/\(∀u∈vs,u.key=k->u.num<=v.num)/\(∀u,b=some u->u.num<=v.num))/\
 (vs.foldl (vk k) b=none->b=none/\∀u∈vs,u.key≠k)
 |[],b,hb=>⟨λv d=>⟨hb v d,.inr d,by simp,λu a=>by rw [List.foldl_nil] at d;rw [d] at a;cases a;omega⟩,λh=>⟨h,by simp⟩⟩
 |x::vs,b,hb=>by
  have o:∀u,vk k b x=some u->u.key=k:=by
   intro u a;unfold vk at a
   cases b with
   |none=>simp only at a;split at a<;>cases a;assumption
   |some l=>simp only at a;split at a<;>cases a;exact(‹_/\_›).1;exact hb _ rfl
  obtain⟨q,m⟩:=vW k vs (vk k b x) o;rw [l5];constructor
  .intro v d;obtain⟨p,j,r,c⟩:=q v d
   have i:(x.key=k->x.num<=v.num)/\(∀u,b=some u->u.num<=v.num)/\(vk k b x=some v->v∈x::vs\/b=some v):=by
    unfold vk at c ⊢
    cases b with
    |none=>
     simp only at c ⊢;by_cases g:x.key=k
     .rw [aB g] at c ⊢;exact⟨λ_=>c x rfl,(by simp),λe=>.inl (by cases e;simp)⟩
     .rw [az g];exact⟨λe=>absurd e g,(by simp),λe=>by cases e⟩
    |some l=>
     simp only at c ⊢;by_cases g:x.key=k/\l.num<x.num
     .rw [aB g] at c ⊢;have:=c x rfl;exact⟨λ_=>this,λu a=>by cases a;omega,λe=>.inl (by cases e;simp)⟩
     .rw [az g] at c ⊢;have:=c l rfl;exact⟨λe=>by have:¬l.num<x.num:=λh=>g ⟨e,h⟩;omega,λu a=>by cases a;exact this,λe=>.inr e⟩
   refine⟨p,?_,?_,i.2.1⟩
   .rcases j with j|j;.exact .inl (al _ j)
    .exact i.2.2 j
   .intro u a;rcases aq.1 a with rfl|a;.exact i.1
    .exact r u a
  .intro d;obtain⟨f,n⟩:=m d
   have:b=none/\x.key≠k:=by
    unfold vk at f
    cases b with
    |none=>simp only at f;split at f;cases f;exact⟨rfl, ‹_›⟩
    |some l=>simp only at f;split at f<;>cases f
   refine⟨this.1,λu a=>?_⟩;rcases aq.1 a with rfl|a;.exact this.2
   .exact n u a
theorem jc{vs:List zw}{v:zw}(h:zO vs k=some v):v.key=k/\v∈vs/\∀u∈vs,u.key=k->u.num<=v.num:=by
 obtain⟨b,c,a,_⟩:=(vW k vs none (by simp)).1 v h;exact⟨b,c.resolve_right (by simp),a⟩
theorem YN{vs:List zw}(h:zO vs k=none):∀u∈vs,u.key≠k:=((vW k vs none (by simp)).2 h).2
def qK(vs:List zw)(k:ByteArray)(n:Int):Option zw:=vs.find? λv=>decide (v.key=k)&&decide (v.num=n)
theorem jv{vs:List zw}{v:zw}(h:qK vs k n=some v):v.key=k/\v.num=n/\v∈vs:=by
 have a:=List.find?_some h;simp only [aS,aO] at a;exact⟨a.1,a.2,List.mem_of_find?_eq_some h⟩
theorem jY{vs:List zw}(h:qK vs k n=none):∀u∈vs,¬(u.key=k/\u.num=n):=by
 intro u a ⟨h1,h2⟩;have:=lG.1 h u a;simp [h1,h2] at this
def qF(vs:List zw)(k:ByteArray)(n:Int):List zw:=vs.filter λv=> !(decide (v.key=k)&&decide (v.num=n))
def qd(n:Nat):Nat:=1+(n+99)/100
def weight(vs:List zw):Nat:=(vs.map λv=>qd v.body.length).sum
theorem YO{vs us:List zw}(h:vs.Perm us):weight vs=weight us:=by
 unfold weight;exact(h.map _).sum_nat
def qT(v:zw)(p k:ByteArray)(n:Int):Bool:=
 p.data.toList.isPrefixOf v.key.data.toList&&(decide (k=ByteArray.empty)||qD k v.key||(decide (v.key=k)&&decide (v.num<n)))
structure qB (vs:List zw) (p k:ByteArray) (n:Int) (L:List zw):Prop where
 sorted:L.Pairwise λa b=>a.ahead b=true
 perm:L.Perm (vs.filter λv=>qT v p k n)
theorem gt:∀(a b:List zw),a.Pairwise (λx c=>x.ahead c=true)->b.Pairwise (λx c=>x.ahead c=true)->a.Perm b->a=b
 |[],b,_,_,p=>(List.perm_nil.1 p.symm).symm
 |x::a,[],_,_,p=>(List.perm_nil.1 p)
 |x::a,c::b,ha,hb,p=>by
  rw [aR] at ha hb
  have e:x=c:=by
   have f:x∈c::b:=p.subset (am ..);have d:c∈x::a:=p.symm.subset (am ..);rcases aq.1 f with e|f;.exact e
   .rcases aq.1 d with e|d;.exact e.symm
    .exact absurd (ha.1 c d) (zw.ahead_asymm (hb.1 x f))
  subst e;rw [gt a b ha.2 hb.2 ((List.perm_cons x).1 p)]
theorem qB.unique{vs us:List zw}{p:ByteArray}{a M:List zw}(h:qB vs p k n a)(g:qB us p k n M)(e:vs.Perm us):a=M:=
 gt a M h.sorted g.sorted (h.perm.trans ((e.filter _).trans g.perm.symm))
def Jy(v:zw):List zw->List zw
 |[]=>[v]
 |u::l=>if v.ahead u then v::u::l else u::Jy v l
theorem fU(v:zw):∀l,(Jy v l).Perm (v::l)
 |[]=>eN _
 |u::l=>by
  unfold Jy;split;.exact eN _
  .exact((fU v l).cons u).trans (List.Perm.swap v u l)
theorem dO(v:zw):∀l:List zw,l.Pairwise (λc d=>c.ahead d=true)->(∀u∈l,¬(v.key=u.key/\v.num=u.num))->(Jy v l).Pairwise λc d=>c.ahead d=true
 |[],_,_=>by simp [Jy]
 |u::l,h,hn=>by
  rw [aR] at h;unfold Jy;split
  next b=>
   rw [aR];refine⟨λc a=>?_,aR.2 h⟩;rcases aq.1 a with rfl|a;.exact b
   .exact zw.ahead_trans b (h.1 c a)
  next b=>
   rw [aR];refine⟨λc a=>?_,dO v l h.2 (λd e=>hn d (al _ e))⟩;rcases aq.1 ((fU v l).subset a) with rfl|a;.exact zw.ahead_total (hn u (am ..)) b
   .exact h.1 c a
def UY(l:List zw):List zw:=l.foldr Jy []
theorem gD:∀l,(UY l).Perm l
 |[]=>eN _
 |v::l=>(fU v _).trans ((gD l).cons v)
theorem gY:∀l,xt l->(UY l).Pairwise λc b=>c.ahead b=true
 |[],_=>List.Pairwise.nil
 |v::l,h=>by unfold xt at h;rw [aR] at h;exact dO v _ (gY l h.2) (λu a=>h.1 u ((gD l).subset a))
theorem dP(vs:List zw)(h:xt vs)(p k:ByteArray)(n:Int):qB vs p k n (UY (vs.filter λv=>qT v p k n)):=
 ⟨gY _ (h.sub mE),gD _⟩
end ref
namespace ref
open Go.RowKit disk
variable {w w':World}{P T Q F G:Nat->Prop}{a:Option Addr}{l:List UInt8}{cs:List (List Value)}{b cap:Nat}{last:Int}
def zu(w:World)(P:Nat->Prop)(a:Option Addr)(l:List UInt8):Prop:=
 l=[]\/∃b o,a=some ⟨b,o,none⟩/\P b/\b<w.heap.size/\∀j (h:j<l.length),w.cell? ⟨b,o+j,none⟩=some (.int .u8 (l[j].toNat:Int))
theorem zu.kept(h:zu w P a l)(k:Kept T w w')(m:∀i,P i->¬T i):zu w' P a l:=by
 rcases h with h|⟨b,n,g,c,d,f⟩;.exact .inl h
 .exact .inr ⟨b,n,g,c,au d k.size,λj e=>(k.cell (a:=⟨b,n+j,none⟩) d (m b c)).trans (f j e)⟩
theorem zu.mono(h:zu w P a l)(g:∀i,P i->i<w.heap.size->Q i):zu w Q a l:=by
 rcases h with h|⟨b,j,f,d,c,e⟩;.exact .inl h
 .exact .inr ⟨b,j,f,g b d c,c,e⟩
structure gw (w:World) (P:Nat->Prop) (cs:List Value) (v:zw):Prop where
 at_:∃a cap,cs=[.string v.key,.int .i64 v.num,.bool v.mark,.slice a v.body.length cap]/\zu w P a v.body
theorem gw.kept{cs:List Value}{v:zw}(h:gw w P cs v)(k:Kept T w w')(d:∀i,P i->¬T i):gw w' P cs v:=by
 obtain⟨a,cap,c,b⟩:=h.at_;exact⟨a,cap,c,b.kept k d⟩
theorem gw.mono{cs:List Value}{v:zw}(h:gw w P cs v)(d:∀i,P i->i<w.heap.size->Q i):gw w Q cs v:=by
 obtain⟨a,cap,c,b⟩:=h.at_;exact⟨a,cap,c,b.mono d⟩
theorem gw.len{cs:List Value}{v:zw}(h:gw w P cs v):cs.length=4:=by
 obtain⟨a,cap,rfl,_⟩:=h.at_;rfl
structure xD (w:World) (P:Nat->Prop) (cs:List (List Value)) (vs:List zw):Prop where
 len:cs.length=vs.length
 each:∀i (h:i<cs.length) (h':i<vs.length),gw w P cs[i] vs[i]
theorem xD.kept{vs:List zw}(h:xD w P cs vs)(k:Kept T w w')(b:∀i,P i->¬T i):xD w' P cs vs:=
 ⟨h.len,λi a c=>(h.each i a c).kept k b⟩
theorem xD.mono{vs:List zw}(h:xD w P cs vs)(b:∀i,P i->i<w.heap.size->Q i):xD w Q cs vs:=
 ⟨h.len,λi a c=>(h.each i a c).mono b⟩
theorem xD.four{vs:List zw}(h:xD w P cs vs):∀c∈cs,c.length=4:=λc b=>by
 obtain⟨i,a,rfl⟩:=ei b;exact(h.each i a (by rw [<-h.len];exact a)).len
theorem xD.nil(w:World)(P:Nat->Prop):xD w P [] []:=⟨rfl,λi h=>by simp at h⟩
theorem xD.snoc{vs:List zw}(h:xD w P cs vs){c:List Value}{v:zw}(d:gw w P c v):xD w P (cs++[c]) (vs++[v]):=by
 refine⟨by simp [h.len],λi f g=>?_⟩;by_cases a:i<cs.length
 .rw [ie a,ie (by rw [<-h.len];exact a)];exact h.each i a _
 .have b:=h.len;have e:i=cs.length:=by simp at f;omega
  subst e;rw [ip (by omega),ip (by omega)];simpa [b] using d
structure ys (w:World) (F G:Nat->Prop) (b:Nat) (vs:List zw) (last:Int) (a:Option Addr) (cap:Nat) (cs:List (List Value)):Prop where
 head:w.heap[b]? =some (.cells #[.slice a vs.length cap,.int .i64 last] 164 (0,0))
 row:w.ownsRow 0 123 4 (.slice a vs.length cap) vs.length cs.flatten
 tells:xD w G cs vs
 foot:F b
 foot2:∀k,(Value.slice a vs.length cap).ownBlock=some k->F k
 apart:(Value.slice a vs.length cap).ownBlock≠some b
def qo(w:World)(F G:Nat->Prop)(b:Nat)(vs:List zw)(last:Int):Prop:=∃a cap cs,ys w F G b vs last a cap cs
theorem ys.lt{vs:List zw}(h:ys w F G b vs last a cap cs):b<w.heap.size:=(lT h.head)
theorem ys.kept{vs:List zw}(h:ys w F G b vs last a cap cs)(k:Kept T w w')(c:∀i,F i->¬T i)(d:∀i,G i->¬T i):ys w' F G b vs last a cap cs:=
 ⟨(k.block b h.lt (c b h.foot)).trans h.head,k.owns h.row (λi e=>c i (h.foot2 i e)),h.tells.kept k d,h.foot,h.foot2,h.apart⟩
theorem qo.kept{vs:List zw}(h:qo w F G b vs last)(k:Kept T w w')(d:∀i,F i->¬T i)(c:∀i,G i->¬T i):qo w' F G b vs last:=by
 obtain⟨a,cap,cs,h⟩:=h;exact⟨a,cap,cs,h.kept k d c⟩
theorem qo.mono{F' G':Nat->Prop}{vs:List zw}(h:qo w F G b vs last)(d:∀i,F i->i<w.heap.size->F' i)(e:∀i,G i->i<w.heap.size->G' i):qo w F' G' b vs last:=by
 obtain⟨a,cap,cs,h⟩:=h;exact⟨a,cap,cs,h.head,h.row,h.tells.mono e,d b h.foot h.lt,λk c=>d k (h.foot2 k c) (h.row.lt k c).2,h.apart⟩
theorem ys.c0{vs:List zw}(h:ys w F G b vs last a cap cs):w.cell? ⟨b,0,none⟩=some (.slice a vs.length cap):=cR h.head rfl
theorem ys.c1{vs:List zw}(h:ys w F G b vs last a cap cs):w.cell? ⟨b,1,none⟩=some (.int .i64 last):=cR h.head rfl
theorem ys.fz{vs:List zw}(h:ys w F G b vs last a cap cs)(i:Nat):w.frozen? ⟨b,i,none⟩=false:=aa w b i _ _ h.head
theorem ys.rowAt{vs:List zw}(h:ys w F G b vs last a cap cs)(j:0<vs.length):∃g,a=some ⟨g,0,none⟩:=by
 rcases h.row.2 with⟨e,i⟩|⟨g,d,f,c,_⟩;.simp at e;omega
 .cases c;exact⟨g,rfl⟩
theorem ys.range{vs:List zw}{g:Nat}(h:ys w F G b vs last (some ⟨g,0,none⟩) cap cs)(i:Nat)(f:i<vs.length):
 ∃c a,w.rangeAt g (i*4) [.string vs[i].key,.int .i64 vs[i].num,.bool vs[i].mark,.slice c vs[i].body.length a]/\zu w G c vs[i].body:=by
 have d:=h.tells.len;have j:=h.row;rw [<-d] at j;have k:=q9 j h.tells.four i (by rw [d];exact f);obtain⟨c,a,e,l⟩:=(h.tells.each i (by rw [d];exact f) f).at_;rw [e] at k;exact⟨c,a,k,l⟩
theorem ys.cells{vs:List zw}{g:Nat}(h:ys w F G b vs last (some ⟨g,0,none⟩) cap cs)(i:Nat)(f:i<vs.length):
 w.cell? ⟨g,i*4,none⟩=some (.string vs[i].key)/\w.cell? ⟨g,i*4+1,none⟩=some (.int .i64 vs[i].num)/\w.cell? ⟨g,i*4+2,none⟩=some (.bool vs[i].mark)/\
  ∃c a,w.cell? ⟨g,i*4+3,none⟩=some (.slice c vs[i].body.length a)/\zu w G c vs[i].body:=by
 obtain⟨c,a,d,e⟩:=h.range i f;exact⟨d 0 _ rfl,d 1 _ rfl,d 2 _ rfl,c,a,d 3 _ rfl,e⟩
def qk(b:UInt8):Value:=.int .u8 (b.toNat:Int)
theorem uG(l:List UInt8):∀u∈l.map qk,u.oneCell'=true:=λu a=>by
 obtain⟨b,_,rfl⟩:=av.1 a;rfl
theorem zu.of_own{b:Nat}{n:Nat}(e:TypeId)(h:w.ownsRow b e 1 (.slice a n cap) n (l.map qk))(f:n=l.length)(P:Nat->Prop)(o:∀k,(Value.slice a n cap).ownBlock=some k->P k):zu w P a l:=by
 subst f;rcases h.2 with⟨r,p⟩|⟨g,c,q,i,s,d,_⟩;.exact .inl (ed p)
 .cases i;refine .inr ⟨g,0,rfl,o g rfl,(lT d),λj m=>?_⟩;have:=h.cells (g:=g) rfl j (qk l[j]) (by simp [m]);rw [eO] at this;simpa [qk] using this
theorem ce{P:Program}(w:World)(Q:Nat->Prop)(t y e:TypeId)(i:TypeInfo)(z:Value)(m:P.underlying t=some (.slice e))(o:P.info? e=some i)(F:i.zero=some z)
 (d:i.size=1) (s:i.bytes=1) (A:z.cells.size=1) (a:Option Addr) (cap:Nat) (l:List UInt8) (C:zu w Q a l) (n:l.length<=140737488355328):
 ∃g f w',(Builtin.append_ #[t,t] y #[.slice none 0 0,.slice a l.length cap]).run P w=.ok (.slice g l.length f) w'/\w'.ownsRow 0 e 1 (.slice g l.length f) l.length (l.map qk)/\w.grownBy w' none/\
  ((Value.slice g l.length f).ownBlock=none\/(Value.slice g l.length f).ownBlock=some w.heap.size):=by
 have r:l.length<=maxLen:=by unfold maxLen;omega
 rcases C with rfl|⟨b,K,rfl,_,_,J⟩
 .refine⟨none,0,w,?_,aP w 0 e 1,⟨rfl,rfl,rfl,aC _,λ_ _ _=>rfl⟩,.inl rfl⟩
  cases a with
  |none=>simp [Builtin.append_,iz m,sizeOf,typeInfo,o,Builtin.lenOf,Builtin.firstCells]
  |some M=>simp [Builtin.append_,iz m,sizeOf,typeInfo,o,Builtin.lenOf,Builtin.firstCells,loadCells,loadCellsFrom]
 .obtain⟨q,w',v,c,x,_,D⟩:=mn (P:=P) w 0 t y e i z 1 1 m o F d s A (by omega) (.slice none 0 0) 0 [] (aP w 0 e 1) ⟨b,K,none⟩ l.length cap (l.map qk) (by simp) (λj u G=>by
   obtain⟨B,rfl⟩:=aW.1 G;simp only [eF] at B
   rw [eO];simpa [qk] using J j B) (uG l) (by simpa using r) (by simpa using n) (ai _)
  simp only [aV,aH] at c;have h:q.ownBlock=none\/q.ownBlock=some w.heap.size:=D;rcases c.2 with⟨p,E⟩|⟨L,k,I,p,_⟩
  .subst p;have H:l=[]:=ed E;subst H;exact⟨none,0,w',v,c,x,h⟩
  .subst p;exact⟨_,k,w',v,c,x,h⟩
theorem ZP{P:Program}(E:Nat->Prop){m:Oper}{a:Act}{C:Act->World->Prop}{Q:Exit->Act->World->Prop}(s D:Operand)(t:TypeId)
 (n:m.op=.call {callee:=.builtin .append,args:=#[s,D],argTypes:=#[t,t] })
 (e:TypeId) (i:TypeInfo) (z:Value) (q:P.underlying t=some (.slice e)) (x:P.info? e=some i) (B:i.zero=some z) (d:i.size=1) (j:i.bytes=1) (k:z.cells.size=1)
 (f:Option Addr) (cap:Nat) (l:List UInt8) (u:a.eval s=.slice none 0 0) (y:a.eval D=.slice f l.length cap) (v:zu w E f l) (g:l.length<=140737488355328)
 (h:∀c b w',w'.ownsRow 0 e 1 (.slice c l.length b) l.length (l.map qk)->w.grownBy w' none->((Value.slice c l.length b).ownBlock=none\/(Value.slice c l.length b).ownBlock=some w.heap.size)->C (a.put m.dst (.slice c l.length b)) w'):m.wp P a w C Q:=by
 obtain⟨c,b,w',p,o,r,A⟩:=ce (P:=P) w E t m.type e i z q x B d j k f cap l v g;unfold Oper.wp execOp;simp only [n,resolve,invoke,builtin,il,iI,eM,iQ,aT,im,u,y,p];exact h c b w' o r A
theorem xk{P:Program}(F:Nat->Prop){f:Array Oper}{rest:List Oper}{o:Oper}{a:Act}{Q:Exit->Act->World->Prop}(k:o.guard=none)(s u:Operand)(t:TypeId)
 (A:o.op=.call {callee:=.builtin .append,args:=#[s,u],argTypes:=#[t,t] })
 (e:TypeId) (i:TypeInfo) (z:Value) (q:P.underlying t=some (.slice e)) (D:P.info? e=some i) (y:i.zero=some z) (d:i.size=1) (m:i.bytes=1) (n:z.cells.size=1)
 (j:Option Addr) (cap:Nat) (l:List UInt8) (C:a.eval s=.slice none 0 0) (E:a.eval u=.slice j l.length cap) (r:zu w F j l) (g:l.length<=140737488355328)
 (h:∀c b w',w'.ownsRow 0 e 1 (.slice c l.length b) l.length (l.map qk)->w.grownBy w' none->((Value.slice c l.length b).ownBlock=none\/(Value.slice c l.length b).ownBlock=some w.heap.size)->wpList P f Q rest (a.put o.dst (.slice c l.length b)) w'):wpList P f Q (o::rest) a w:=
 md k λ_ x=>ZP F s u t A e i z q D y d m n j cap l C E r g λc b w' p B v=>x _ _ (h c b w' p B v)
theorem qU{P:Program}{t:TypeId}{z:Value}{s:Nat}(h:(P.info? t).map (λi=>(i.zero,i.size,i.bytes))=some (some z,s,b)):∃i,P.info? t=some i/\i.zero=some z/\i.size=s/\i.bytes=b:=by
 cases a:P.info? t with
 |none=>rw [a] at h;cases h
 |some i=>rw [a] at h;simp only [Option.map_some,iA,eK] at h;exact⟨i,rfl,h.1,h.2.1,h.2.2⟩
theorem Tryz.infoU8:(Tryz.prog.info? 5).map (λi=>(i.zero,i.size,i.bytes))=some (some (.int .u8 0),1,1):=by kernel_rfl
theorem Tryz.infoKept:(Tryz.prog.info? 123).map (λi=>(i.zero,i.size,i.bytes))=some (some (.agg #[.string ByteArray.empty,.int .i64 0,.bool false,.slice none 0 0]),4,56):=by kernel_rfl
end ref
namespace prog
def numOf(l:List UInt8):Nat:=l.foldl (λn b=>n*256+b.toNat) 0
def bytesOf:Nat->Nat->List UInt8
 |0,_=>[]
 |k+1,n=>bytesOf k (n/256)++[UInt8.ofNat (n%256)]
theorem zT:∀k n,(bytesOf k n).length=k
 |0,_=>rfl
 |k+1,n=>by simp [bytesOf,zT k]
theorem cf(l:List UInt8)(b:UInt8):numOf (l++[b])=numOf l*256+b.toNat:=by simp [numOf]
theorem yJ:∀k n,n<256^k->numOf (bytesOf k n)=n
 |0,n,h=>by simp at h;subst h;rfl
 |k+1,n,h=>by rw [bytesOf,cf,yJ k (n/256) (by rw [me] at h;exact Nat.div_lt_of_lt_mul (by omega))];simp;omega
theorem gZ:∀k,bytesOf k 0=List.replicate k 0
 |0=>rfl
 |k+1=>by rw [bytesOf,Nat.zero_div,gZ k,List.replicate_succ'];rfl
def zm:Nat->Nat
 |1=>2
 |2=>8
 |3=>1
 |4=>18
 |5=>20
 |6=>1
 |_=>0
def room(k:Nat):Nat:=124/zm k
structure Pg where
 kind:Nat
 link:Nat
 items:List (List UInt8)
structure Pg.Ok (p:Pg):Prop where
 kind:p.kind<=6
 link:p.link<65536
 wide:∀i∈p.items,i.length=zm p.kind
 fits:p.items.length*zm p.kind<=124
 few:p.items.length<=124
def Pg.bytes(p:Pg):List UInt8:=UInt8.ofNat p.kind::UInt8.ofNat p.items.length::bytesOf 2 p.link++p.items.flatten++List.replicate (124-p.items.length*zm p.kind) 0
theorem jE(c:Nat):∀(l:List (List UInt8)),(∀b∈l,b.length=c)->l.flatten.length=l.length*c
 |[],_=>by simp
 |b::l,h=>by rw [eo,ah,jE c l (λd a=>h d (al _ a)),h b (am ..),ae,eS];omega
theorem Pg.Ok.len{p:Pg}(h:p.Ok):p.bytes.length=128:=by
 have:=h.fits;simp [Pg.bytes,zT];have e:=jE _ p.items h.wide;rw [List.length_flatten] at e;omega
def Pg.new(k:Nat):Pg:=⟨k,0,[]⟩
theorem Pg.new_ok(k:Nat)(h:k<=6):(Pg.new k).Ok where
 kind:=h
 link:=by simp [Pg.new]
 wide:=λ_ h=>(by cases h)
 fits:=by simp [Pg.new]
 few:=by simp [Pg.new]
theorem Pg.new_bytes(k:Nat):(Pg.new k).bytes=UInt8.ofNat k::List.replicate 127 0:=by
 simp [Pg.bytes,Pg.new,gZ]
theorem Pg.nought:(Pg.new 0).bytes=List.replicate 128 0:=by rw [Pg.new_bytes];rfl
theorem Pg.at0(p:Pg):p.bytes[0]? =some (UInt8.ofNat p.kind):=rfl
theorem Pg.at1(p:Pg):p.bytes[1]? =some (UInt8.ofNat p.items.length):=rfl
theorem Pg.front(p:Pg):(p.bytes.drop 2).take 2=bytesOf 2 p.link:=by
 have:(bytesOf 2 p.link).length=2:=zT 2 _;simp only [Pg.bytes,a9,iN,mh,an]
 conv=>lhs;arg 1;rw [<-this]
 exact iR
theorem Pg.behind(p:Pg):p.bytes.drop 4=p.items.flatten++List.replicate (124-p.items.length*zm p.kind) 0:=by
 have:(bytesOf 2 p.link).length=2:=zT 2 _;simp only [Pg.bytes,a9,iN,an]
 conv=>lhs;rw [<-this]
 exact i8
theorem cg(c:Nat):∀(l:List (List UInt8)) (r:List UInt8),(∀b∈l,b.length=c)->∀i (h:i<l.length),((l.flatten++r).drop (i*c)).take c=l[i]
 |[],_,_,i,h=>by simp at h
 |b::l,r,hb,0,_=>by have:=hb b (am ..);simp only [Nat.zero_mul,mh,eo,an,ms];rw [<-this,iR]
 |b::l,r,hb,i+1,h=>by
  have e:=hb b (am ..);simp only [eo,an,mu];rw [eS,lf,iU,<-eI]
  conv=>lhs;rw [show (b++(l.flatten++r)).drop c=l.flatten++r from by rw [<-e];exact i8]
  exact cg c l r (λd a=>hb d (al _ a)) i (by simpa using h)
theorem Pg.Ok.item{p:Pg}(h:p.Ok)(i:Nat)(a:i<p.items.length):(p.bytes.drop (4+i*zm p.kind)).take (zm p.kind)=p.items[i]:=by
 rw [<-eI,p.behind];exact cg _ _ _ h.wide i a
theorem Pg.Ok.all{p:Pg}(h:p.Ok):(p.bytes.drop 4).take (p.items.length*zm p.kind)=p.items.flatten:=by
 rw [p.behind,<-jE _ p.items h.wide,iR]
def qS(l:List UInt8)(o:Nat)(v:List UInt8):List UInt8:=l.take o++v++l.drop (o+v.length)
theorem j9(l:List UInt8)(a:Nat)(v:List UInt8)(h:a+v.length<=l.length):(qS l a v).length=l.length:=by
 simp [qS];omega
def Pg.push(p:Pg)(v:List UInt8):Pg:={p with items:=p.items++[v]}
def Pg.setLink(p:Pg)(n:Nat):Pg:={p with link:=n}
theorem Pg.setLink_bytes(p:Pg)(n:Nat):qS p.bytes 2 (bytesOf 2 n)=(p.setLink n).bytes:=by
 have a:(bytesOf 2 n).length=2:=zT 2 _;have c:(bytesOf 2 p.link).length=2:=zT 2 _;have b:p.bytes.drop (2+2)=_:=p.behind;unfold qS;rw [a,b];simp [Pg.bytes,Pg.setLink]
end prog
namespace prog
open ref
structure Pl where
 key:ByteArray
 num:Int
def Pl.dec:DecidableEq Pl:=λa b=>if h:a.key=b.key/\a.num=b.num then .isTrue (by cases a;cases b;obtain⟨rfl,rfl⟩:=h;rfl) else .isFalse (λe=>h ⟨et Pl.key e,et Pl.num e⟩)
def Pl.lt(a b:Pl):Bool:=qD a.key b.key||(decide (a.key=b.key)&&decide (b.num<a.num))
theorem Pl.lt_iff(a b:Pl):a.lt b=true↔qD a.key b.key=true\/(a.key=b.key/\b.num<a.num):=by simp [Pl.lt]
theorem Pl.irrefl(a:Pl):¬a.lt a=true:=by rw [Pl.lt_iff,y5];simp
theorem Pl.trans{a b c:Pl}(h:a.lt b=true)(k:b.lt c=true):a.lt c=true:=by
 rw [Pl.lt_iff] at*;rcases h with h|⟨h,d⟩<;>rcases k with k|⟨k,e⟩
 .exact .inl (kM h k)
 .exact .inl (by rw [<-k];exact h)
 .exact .inl (by rw [h];exact k)
 .exact .inr ⟨h.trans k,by omega⟩
theorem Pl.total{a b:Pl}(h:a≠b)(k:¬a.lt b=true):b.lt a=true:=by
 rw [Pl.lt_iff] at*;by_cases e:a.key=b.key
 .right;refine⟨e.symm,?_⟩;by_cases c:b.num<a.num;.exact absurd (.inr ⟨e,c⟩) k
  .have:a.num≠b.num:=λd=>h (by cases a;cases b;simp_all);omega
 .left
  cases c:qD a.key b.key with
  |true=>exact absurd (.inl c) k
  |false=>exact xo e c
theorem Pl.asymm{a b:Pl}(h:a.lt b=true):¬b.lt a=true:=λk=>Pl.irrefl a (Pl.trans h k)
theorem Pl.lt_of_not{a b c:Pl}(h:¬b.lt a=true)(k:b.lt c=true):a.lt c=true:=by
 by_cases e:a=b;.rw [e];exact k
 .by_cases d:a.lt b=true;.exact Pl.trans d k
  .exact absurd (Pl.total e d) h
theorem Pl.lt_of_lt_not{a b c:Pl}(h:a.lt b=true)(k:¬c.lt b=true):a.lt c=true:=by
 by_cases e:b=c;.rw [<-e];exact h
 .by_cases d:b.lt c=true;.exact Pl.trans h d
  .exact absurd (Pl.total e d) k
structure En where
 pl:Pl
 mark:Bool
 size:Nat
 at_:Nat
structure En.Ok (e:En):Prop where
 key:e.pl.key.data.toList.length<=8
 zero:(0:UInt8)∉e.pl.key.data.toList
 num0:0<=e.pl.num
 num1:e.pl.num<9223372036854775808
 size:e.size<=300
 mark:e.mark=true->e.size=0
 at_:e.at_<65536
def keyBytes(k:ByteArray):List UInt8:=k.data.toList++List.replicate (8-k.data.toList.length) 0
theorem xz(k:ByteArray)(h:k.data.toList.length<=8):(keyBytes k).length=8:=by simp [keyBytes] at *; omega
def cut(l:List UInt8):List UInt8:=(l.reverse.dropWhile (· ==0)).reverse
theorem YP(l:List UInt8):cut (l++[0])=cut l:=by simp [cut]
theorem KS(l:List UInt8):∀n,cut (l++List.replicate n 0)=cut l
 |0=>by simp
 |n+1=>by rw [List.replicate_succ',<-an,YP,KS l n]
theorem UZ{l:List UInt8}(h:(0:UInt8)∉l):cut l=l:=by
 unfold cut;rw [show l.reverse.dropWhile (· ==0)=l.reverse from ?_,List.reverse_reverse]
 cases c:l.reverse with
 |nil=>rfl
 |cons a r=>
  have:a∈l:=by rw [<-List.mem_reverse,c];exact am ..
  rw [List.dropWhile_cons,az];intro b;exact h (by rw [<-eq_of_beq b];exact this)
theorem KT(k:ByteArray)(h:(0:UInt8)∉k.data.toList):cut (keyBytes k)=k.data.toList:=by
 rw [keyBytes,KS,UZ h]
def gE(p:Pl):List UInt8:=keyBytes p.key++bytesOf 8 p.num.toNat
def qZ(e:En):Nat:=if e.mark then 65535 else e.size
def qq(e:En):List UInt8:=gE e.pl++bytesOf 2 e.at_
def vm(e:En):List UInt8:=qq e++bytesOf 2 (qZ e)
def kV(k:Nat)(e:En):List UInt8:=if k=5 then vm e else qq e
theorem ji{e:En}(h:e.Ok):(qq e).length=18:=by simp [qq,gE,zT,xz _ h.key]
theorem QN{e:En}(h:e.Ok):(vm e).length=20:=by simp [vm,ji h,zT]
theorem YQ{e:En}(h:e.Ok){k:Nat}(a:k=4\/k=5):(kV k e).length=zm k:=by
 rcases a with rfl|rfl;.simp [kV,ji h,zm]
 .simp [kV,QN h,zm]
theorem g8{e:En}(h:e.Ok)(r:List UInt8):(qq e++r).take 8=keyBytes e.pl.key/\((qq e++r).drop 8).take 8=bytesOf 8 e.pl.num.toNat/\((qq e++r).drop 16).take 2=bytesOf 2 e.at_/\(qq e++r).drop 18=r:=by
 have k:=xz _ h.key;have j:=zT 8 e.pl.num.toNat;have l:=zT 2 e.at_;have i:qq e++r=keyBytes e.pl.key++(bytesOf 8 e.pl.num.toNat++(bytesOf 2 e.at_++r)):=by simp [qq,gE]
 have c:∀(n:Nat) (f g:List UInt8),f.length=n->(f++g).take n=f/\(f++g).drop n=g:=λn f g m=>by subst m;exact⟨iR,i8⟩
 have a:=(c 8 _ (bytesOf 8 e.pl.num.toNat++(bytesOf 2 e.at_++r)) k);have b:=(c 8 _ (bytesOf 2 e.at_++r) j);have d:=(c 2 _ r l);rw [i];refine⟨a.1,?_,?_,?_⟩;.rw [a.2];exact b.1
 .rw [show (16:Nat)=8+8 from rfl,<-eI,a.2,b.2];exact d.1
 .rw [show (18:Nat)=8+8+2 from rfl,<-eI,<-eI,a.2,b.2];exact d.2
theorem YR{e:En}(h:e.Ok):((numOf (bytesOf 8 e.pl.num.toNat):Nat):Int)=e.pl.num:=by
 have b:=h.num0;have a:=h.num1
 rw [yJ _ _ (by have:(256:Nat)^8=18446744073709551616:=by decide
                omega)]
 omega
theorem KU{e:En}(h:e.Ok):numOf (bytesOf 2 e.at_)=e.at_:=yJ _ _ (by have:=h.at_;omega)
theorem Vx{e:En}(h:e.Ok):numOf (bytesOf 2 (qZ e))=qZ e:=yJ _ _ (by
 have:=h.size;unfold qZ
 split<;>omega)
def zc(k:Nat)(es:List En):Pg:=⟨k,0,es.map (kV k)⟩
theorem Qc{k:Nat}(a:k=4\/k=5){b:List En}(h:∀e∈b,e.Ok)(f:b.length<=6):(zc k b).Ok where
 kind:=by rcases a with rfl|rfl<;>simp [zc]
 link:=by simp [zc]
 wide:=λi d=>by obtain⟨e,c,rfl⟩:=av.1 d;exact YQ (h e c) a
 fits:=by rcases a with rfl|rfl<;>simp [zc,zm]<;>omega
 few:=by simp [zc];omega
end prog
namespace keys
open Go.ChangeShapes Go.WideShapes Go.ChangeAt Go.RowKit
open Go.ChangeMaps (open_string shut_string)
variable {a b:Int}
def vX(c:Int):Bool:=(decide (97<=c)&&decide (c<=122))||(decide (48<=c)&&decide (c<=57))||(c==45)||(c==47)
def gF(l:List UInt8):Bool:=l.all λc=>vX (c.toNat:Int)
def zh(l:List UInt8):Bool:=decide (1<=l.length)&&decide (l.length<=8)&&gF l
theorem Vy(s:ByteArray)(k:Nat)(h:k<s.size):s.data.toList.take (k+1)=s.data.toList.take k++[s[k]]:=by
 rw [ar (by simpa using h)];rfl
theorem ci(s:ByteArray)(k:Nat)(h:k<s.size):gF (s.data.toList.take (k+1))=(gF (s.data.toList.take k)&&vX (s[k].toNat:Int)):=by
 rw [Vy s k h];simp [gF]
theorem U0(s:ByteArray)(k:Nat)(h:k<s.size)(b:vX (s[k].toNat:Int)=false):gF s.data.toList=false:=by
 have e:s.data.toList=s.data.toList.take (k+1)++s.data.toList.drop (k+1):=(aA _ _).symm;rw [e];have a:=ci s k h;rw [b,Bool.and_false] at a;unfold gF at a ⊢;rw [lH,a,mi]
theorem zg{k:IntKind}(h:a=b):Ending.returned (.int k a)=.returned (.int k b):=by rw [h]
theorem zd{a b:Bool}(h:a=b):Ending.returned (.bool a)=.returned (.bool b):=by rw [h]
theorem vY(c:Int)(h:(97<=c/\c<=122)\/(48<=c/\c<=57)\/c=45\/c=47):true=vX c:=by
 unfold vX;simp only [Bool.true_eq,lj,aS,aO,mP];omega
theorem bM(c:Int)(a:c<97\/122<c)(d:c<48\/57<c)(b:¬c=45)(e:¬c=47):false=vX c:=by
 symm;rw [iM];unfold vX;simp only [ne_eq,lj,aS,aO,mP];omega
theorem zq(h:(a==b)=false):¬a=b:=by simpa using h
theorem zl(h:(a==b)=true):a=b:=by simpa using h
theorem YS(c:Int)(w:World)(b:0<=c)(a:c<=255):
 Calls Tryz.prog 71 #[.int .u8 c] w λe w'=>e=.returned (.bool (vX c))/\w'=w:=by
 go_enter Tryz.func71,Tryz.ntmps71;go_wp2;.go_ret;exact⟨zd (vY c (by omega)),rfl⟩
 .go_ret;exact⟨zd (bM c (by omega) (by omega) (zq ‹_›) (zq ‹_›)),rfl⟩
 .go_ret;exact⟨zd (vY c (by omega)),rfl⟩
 .go_ret;exact⟨zd (bM c (by omega) (by omega) (zq ‹_›) (zq ‹_›)),rfl⟩
 .go_ret;exact⟨zd (vY c (.inr (.inr (.inl (zl ‹_›))))),rfl⟩
 .go_ret;exact⟨zd (vY c (.inr (.inr (.inr (zl ‹_›))))),rfl⟩
 .go_ret;exact⟨zd (bM c (by omega) (by omega) (zq ‹_›) (zq ‹_›)),rfl⟩
theorem qu(s:ByteArray)(w:World)(n:s.size<=maxLen):
 Calls Tryz.prog 49 #[.string s] w λe w'=>e=.returned (.bool (zh s.data.toList))/\w'=w:=by
 unfold maxLen at n;by_cases g:s.size<1
 .go_enter Tryz.func49,Tryz.ntmps49;go_wp2;go_ret;refine⟨zd ?_,rfl⟩;have:¬1<=s.data.toList.length:=by simpa using g
  simp only [zh,this,mS,mi]
 .by_cases f:8<s.size
  .go_enter Tryz.func49,Tryz.ntmps49;go_wp2;go_ret;refine⟨zd ?_,rfl⟩;have:¬s.data.toList.length<=8:=by simpa using f
   simp only [zh,this,mS,mi,Bool.and_false]
  .have a:zh s.data.toList=gF s.data.toList:=by
    have m:1<=s.data.toList.length:=by simp;omega
    have j:s.data.toList.length<=8:=by simp;omega
    simp only [zh,m,j,ng,lY]
   change Hid _ at a;go_enter Tryz.func49,Tryz.ntmps49;go_wp2;go_loop [14] (λi=>∃k:Nat,k<=s.size/\i=.int .i64 k/\gF (s.data.toList.take k)=true) (λi=>s.size-(intOf i).toNat)
   case atStart=>exact⟨0,ai _,rfl,rfl⟩
   case round=>
    obtain⟨k,o,rfl,b⟩:=hrel;change Hid _ at b;by_cases c:k<s.size
    .cases d:vX (s[k].toNat:Int)
     .go_wp2_with (go_at_call 71;refine(YS _ _ (by omega) (by have:=s[k].toNat_lt;omega)).mono ?_;rintro e w' ⟨rfl,rfl⟩);go_ret;exact⟨zd (by rw [a.out,U0 s k c d]),rfl⟩
     .have l:Hid (gF (s.data.toList.take (k+1))=true):=by
       show gF (s.data.toList.take (k+1))=true;rw [ci s k c,b.out,d];rfl
      go_wp2_with (go_at_call 71;refine(YS _ _ (by omega) (by have:=s[k].toNat_lt;omega)).mono ?_;rintro e w' ⟨rfl,rfl⟩);go_round
      case rel=>exact⟨k+1,by omega,by go_num,l⟩
      case measure=>simp [intOf];omega
    .go_wp2;go_ret;refine⟨zd ?_,rfl⟩;rw [a.out];have h:=b.out;rw [ao (by simp;omega)] at h;exact h.symm
def xM:Bool->Int
 |true=>0
 |false=>2
theorem Vz(s:ByteArray)(w:World)(a:s.size<=maxLen):
 Calls Tryz.prog 89 #[.string s] w λe w'=>e=.returned (.int .i64 (xM (zh s.data.toList)))/\w'=w:=by
 cases b:zh s.data.toList
 all_goals
  go_enter Tryz.func89,Tryz.ntmps89;go_wp2_with (go_at_call 49;refine(qu _ _ a).mono ?_;rintro e w' ⟨rfl,rfl⟩);go_ret;exact⟨rfl,rfl⟩
theorem bN(s:ByteArray)(w:World)(o:s.size<=maxLen):
 Calls Tryz.prog 90 #[.string s] w λe w'=>e=.returned (.int .i64 (xM (zh s.data.toList)))/\w'=w:=by
 unfold maxLen at o;by_cases g:s.size<1
 .go_enter Tryz.func90,Tryz.ntmps90;go_wp2;go_ret;refine⟨zg ?_,rfl⟩;have:¬1<=s.data.toList.length:=by simpa using g
  simp only [zh,this,mS,mi];rfl
 .by_cases f:8<s.size
  .go_enter Tryz.func90,Tryz.ntmps90;go_wp2;go_ret;refine⟨zg ?_,rfl⟩;have:¬s.data.toList.length<=8:=by simpa using f
   simp only [zh,this,mS,mi,Bool.and_false];rfl
  .have a:zh s.data.toList=gF s.data.toList:=by
    have m:1<=s.data.toList.length:=by simp;omega
    have j:s.data.toList.length<=8:=by simp;omega
    simp only [zh,m,j,ng,lY]
   change Hid _ at a;go_enter Tryz.func90,Tryz.ntmps90;go_wp2;go_loop [3] (λi=>∃k:Nat,k<=s.size/\i=.int .i64 k/\gF (s.data.toList.take k)=true) (λi=>s.size-(intOf i).toNat)
   case atStart=>exact⟨0,ai _,rfl,rfl⟩
   case round=>
    obtain⟨k,q,rfl,b⟩:=hrel;change Hid _ at b;by_cases c:k<s.size
    .have l:Hid (true=vX (s[k].toNat:Int)->gF (s.data.toList.take (k+1))=true):=by
      intro d;show gF (s.data.toList.take (k+1))=true;rw [ci s k c,b.out,<-d];rfl
     have n:Hid (false=vX (s[k].toNat:Int)->(2:Int)=xM (zh s.data.toList)):=by intro d;rw [a.out,U0 s k c d.symm];rfl
     have p:(0:Int)<=s[k].toNat:=by omega
     go_wp2
     all_goals
      first
       |(go_round
         case rel=>
          simp only [bne_eq_false_iff_eq] at*;exact⟨k+1,by omega,by go_num,l (vY _ (by omega))⟩
         case measure=>simp [intOf];omega)
       |(go_ret
         simp only [bne_iff_ne,ne_eq] at*
         exact⟨zg (n (bM _ (by omega) (by omega) (by omega) (by omega))),eR⟩)
    .go_wp2;go_ret;refine⟨zg ?_,rfl⟩;have h:=b.out;rw [ao (by simp;omega)] at h;rw [a.out,h];rfl
theorem walk(a:ByteArray)(w0:a.size<=maxLen)(w:World):
 Calls Tryz.prog 57 #[.string a] w λe w'=>e=.returned (.bool true)/\Grown w w':=by
 go_enter Tryz.func57,Tryz.ntmps57
 go_wp2_with (first
  |(go_at_call 89;refine(Vz _ _ w0).mono ?_;rintro e w' ⟨rfl,rfl⟩)
  |(go_at_call 90;refine(bN _ _ w0).mono ?_;rintro e w' ⟨rfl,rfl⟩))
 go_ret;exact⟨by simp,Grown.refl _⟩
end keys
namespace disk
open Go.ChangeShapes Go.WideShapes Go.ChangeAt Go.RowKit
variable {w:World}{bd bc pc:Nat}{S:Nat->Prop}{ba pa:Option Addr}{n:Int}
theorem zn.set_fuse{D:Dk}(h:zn w bd S D ba pa bc pc)(n:Int):
 zn (w.setCell ⟨bd,2,none⟩ (.int .i64 n)) bd S {D with fuse:=n} ba pa bc pc:=by
 refine⟨⟨h.ok.bs,h.ok.ps,h.ok.few⟩,?_,?_,?_,h.own,h.ap1,h.ap2,h.ap3⟩;.rw [heap_setCell_same w bd 2 _ _ _ h.head];rfl
 .exact(Kept.setCell (S:=λk=>k=bd) w ⟨bd,2,none⟩ _ rfl).owns h.rows (λk a e=>h.ap1 (by rw [a,e]))
 .exact(Kept.setCell (S:=λk=>k=bd) w ⟨bd,2,none⟩ _ rfl).owns h.pend (λk a e=>h.ap2 (by rw [a,e]))
theorem zn.set_reads{D:Dk}(h:zn w bd S D ba pa bc pc)(n:Int):
 zn (w.setCell ⟨bd,3,none⟩ (.int .i64 n)) bd S {D with reads:=n} ba pa bc pc:=by
 refine⟨⟨h.ok.bs,h.ok.ps,h.ok.few⟩,?_,?_,?_,h.own,h.ap1,h.ap2,h.ap3⟩;.rw [heap_setCell_same w bd 3 _ _ _ h.head];rfl
 .exact(Kept.setCell (S:=λk=>k=bd) w ⟨bd,3,none⟩ _ rfl).owns h.rows (λk a e=>h.ap1 (by rw [a,e]))
 .exact(Kept.setCell (S:=λk=>k=bd) w ⟨bd,3,none⟩ _ rfl).owns h.pend (λk a e=>h.ap2 (by rw [a,e]))
def qG(n:Int):Int:=if 0<n then n-1 else n
def zs(n:Int):Prop:= -9223372036854775808<=n/\n<=9223372036854775807
theorem U1(h:0<n):qG n=n-1:=aB h
theorem VA(h:¬0<n):qG n=n:=az h
theorem zn.at_fuse{D:Dk}(h:zn w bd S D ba pa bc pc)(e:D.fuse=n):zn w bd S {D with fuse:=n} ba pa bc pc:=by
 subst e;exact h
theorem g9(w:World)(bd:Nat)(S:Nat->Prop)(D:Dk)(ba pa:Option Addr)(bc pc:Nat)(h:zn w bd S D ba pa bc pc)(g:zs D.fuse):
 Calls Tryz.prog 65 #[.pointer (some ⟨bd,0,none⟩)] w λe w'=>
  e=.returned (.bool (!(D.fuse==0)))/\zn w' bd S {D with fuse:=qG D.fuse} ba pa bc pc/\Kept (λk=>k=bd) w w':=by
 have m:=h.c2;have l:=h.fz 2;obtain⟨i,j⟩:=g;have d:=h.set_fuse (D.fuse-1);change Hid _ at d h;generalize a:D.fuse=n at*;change Hid _ at a;by_cases c:n=0
 .subst c;go_enter Tryz.func65,Tryz.ntmps65;go_wp2;go_ret;exact⟨rfl,h.at_fuse a,Kept.refl _ _⟩
 .by_cases f:0<n
  .have b:Hid _:=U1 f;go_enter Tryz.func65,Tryz.ntmps65;go_wp2;go_ret;exact⟨by simp [c],by rw [b.out];exact d,Kept.setCell _ _ _ rfl⟩
  .have b:Hid _:=VA f;go_enter Tryz.func65,Tryz.ntmps65;go_wp2;go_ret;exact⟨by simp,by rw [b.out];exact h.at_fuse a,Kept.refl _ _⟩
theorem ke(w:World)(bd:Nat)(S:Nat->Prop)(D:Dk)(ba pa:Option Addr)(bc pc:Nat)(h:zn w bd S D ba pa bc pc):
 Calls Tryz.prog 54 #[.pointer (some ⟨bd,0,none⟩)] w λe w'=>e=.returned (.int .i64 D.bs.length)/\w'=w:=by
 have a:=h.c0;clear h;go_enter Tryz.func54,Tryz.ntmps54;go_wp2;go_ret;exact⟨rfl,rfl⟩
theorem ya(w:World)(bd:Nat)(S:Nat->Prop)(D:Dk)(ba pa:Option Addr)(bc pc:Nat)(h:zn w bd S D ba pa bc pc):
 Calls Tryz.prog 86 #[.pointer (some ⟨bd,0,none⟩)] w λe w'=>e=.returned (.int .i64 D.reads)/\w'=w:=by
 have a:=h.c3;clear h;go_enter Tryz.func86,Tryz.ntmps86;go_wp2;go_ret;exact⟨rfl,rfl⟩
theorem U2(w:World)(bd:Nat)(S:Nat->Prop)(D:Dk)(ba pa:Option Addr)(bc pc:Nat)(h:zn w bd S D ba pa bc pc)(n:Int):
 Calls Tryz.prog 43 #[.pointer (some ⟨bd,0,none⟩),.int .i64 n] w λe w'=>e=.returned (.tuple #[])/\zn w' bd S {D with fuse:=n} ba pa bc pc/\Kept (λk=>k=bd) w w':=by
 have c:=h.c2;have b:=h.fz 2;have a:Hid _:=h.set_fuse n;clear h;go_enter Tryz.func43,Tryz.ntmps43;go_wp2;go_end0;exact⟨rfl,a,Kept.setCell _ _ _ rfl⟩
end disk
end Go.Proofs.YtcoengihaobddaaGreatDoor
