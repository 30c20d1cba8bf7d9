/- Part 9 of 31 of a proof: Keep8, Keep9, Law14, Keep10 -/
import Derived.Test.YtcoengihaobddaaGreatDoorJm08
set_option maxHeartbeats 8000000
set_option linter.unusedVariables false
set_option linter.unusedSimpArgs false
set_option maxRecDepth 8000
namespace Go.Proofs.YtcoengihaobddaaGreatDoor
namespace keep
open Go.ChangeShapes Go.WideShapes Go.ChangeAt Go.RowKit disk ref book
open law (qH zg yN qG y9 qr Z2 gJ)
open keys (zj zd zA zq zs)
theorem bt(l r:List zO):qr (l++r)=qr l++qr r:=by unfold qr;simp
theorem dm(l:List zO):(qr l).length=l.length*4:=by
 unfold qr
 induction l with
 |nil=>rfl
 |cons v l ih=>simp only [List.map_cons,List.flatten_cons,List.length_append,List.length_cons,ih];simp [Z2];omega
theorem YP(L:List zO)(n m:Nat):L.take (n+((L.drop n).take m).length)=L.take n++(L.drop n).take m:=by
 rw [List.take_add]
 congr 1
 rw [List.length_take]
 by_cases h:m≤(L.drop n).length
 ·rw [Nat.min_eq_left h]
 ·rw [Nat.min_eq_right (by omega),List.take_of_length_le (Nat.le_refl _),List.take_of_length_le (by omega)]
theorem XV(L:List zO)(n:Nat)(h:n<L.length):bn L (n+1)=L[n].key∧bY L (n+1)=L[n].num:=by
 unfold bn bY;simp [h]
theorem jb{k:ByteArray}(h:zs k.data.toList=true):k.size≤8:=by
 unfold zs at h
 simp only [Bool.and_eq_true,decide_eq_true_eq] at h
 simpa using h.1.2
structure YQ (M:zg) (w wr:World) (bd bs:Nat) (S:Nat→Prop) (D:Dk) (V:qH) (L:List zO) (m i n:Nat) (a:Option Addr) (c:Nat) (S':Nat→Prop) (D':Dk):Prop where
 ni:n=i*m
 nlt:n=0∨n<L.length
 fore:qG M wr bd bs S' D' V
 foot:∀k,S' k→S k∨w.heap.size≤k
 kept:za (fun k=>S k∨k=bs) w wr
 reads0:D.reads≤D'.reads
 reads1:D'.reads≤D.reads+1000*(i:Int)
 size:D'.bs.length=D.bs.length
 row:Row wr a c (L.take n)
 new:∀k,(Value.slice a n c).ownBlock=some k→w.heap.size≤k∧¬S' k
 nil:n=0→a=none∧c=0
section
variable {M:zg} {w wr w2 w5:World} {bd bs:Nat} {S S' S2:Nat→Prop} {D D' D2:Dk} {V:qH} {L KK:List zO} {m i n q c c2:Nat} {a:Option Addr}
structure YR (M:zg) (w w5:World) (bd bs:Nat) (S:Nat→Prop) (D:Dk) (V:qH) (L:List zO) (i n:Nat) (a5:Option Addr) (c5:Nat) (S2:Nat→Prop) (D2:Dk):Prop where
 fore:qG M w5 bd bs S2 D2 V
 foot:∀k,S2 k→S k∨w.heap.size≤k
 kept:za (fun k=>S k∨k=bs) w w5
 reads0:D.reads≤D2.reads
 reads1:D2.reads≤D.reads+1000*((i:Int)+1)
 size:D2.bs.length=D.bs.length
 row:Row w5 a5 c5 (L.take n)
 new:∀k,(Value.slice a5 n c5).ownBlock=some k→w.heap.size≤k∧¬S2 k
theorem YQ.page(h:YQ M w wr bd bs S D V L m i n a c S' D')(haft:y9 M wr w2 bd bs S' S2 D' D2 1000 (some bd))(hlive:M.Live D2 V)(hbs:bs<w.heap.size)(hrd:D2.reads≤2305843009213693952)(T:Nat→Prop)(k5:za T w2 w5)(hT:∀k,T k→w.heap.size≤k∧¬S2 k)(a5:Option Addr)(c5 n':Nat)(hrow:Row w5 a5 c5 (L.take n'))(hnew:∀k,(Value.slice a5 n' c5).ownBlock=some k→w.heap.size≤k∧¬S2 k):YR M w w5 bd bs S D V L i n' a5 c5 S2 D2:=by
 have hfoot:∀k,S2 k→S k∨w.heap.size≤k:=fun k hk=>by
  rcases haft.foot k hk with h1|h1
  ·exact h.foot k h1
  ·exact .inr (by have:=h.kept.size;omega)
 have nbs:¬S2 bs:=fun hk=>by
  rcases haft.foot bs hk with h1|h1
  ·exact h.fore.apart h1
  ·have:=h.kept.size;omega
 have r0:=h.reads0
 have r1:=h.reads1
 have s0:=haft.reads0
 have s1:=haft.reads1
 have f0:=h.fore.reads0
 refine⟨qG.kept ⟨haft.disk,nbs,haft.sto,hlive,haft.fuse,by omega,hrd,h.fore.few⟩ k5 (fun k hk hc=>(hT k hc).2 hk) (fun hc=>by have:=(hT bs hc).1;omega),hfoot,?_,by omega,by omega,haft.size.trans h.size,hrow,hnew⟩
 refine(h.kept.trans (haft.kept.mono (S':=fun k=>S' k∨k=bs) (fun k hk=>hk)) (fun k hk=>?_)).trans k5 (fun k hk=>.inr (hT k hk).1)
 rcases hk with hk|hk
 ·exact(h.foot k hk).imp .inl id
 ·exact .inl (.inr hk)
theorem YQ.first(h:YQ M w wr bd bs S D V L m i 0 none 0 S' D')(haft:y9 M wr w2 bd bs S' S2 D' D2 1000 (some bd))(hlive:M.Live D2 V)(hbs:bs<w.heap.size)(hrd:D2.reads≤2305843009213693952)(htp:L.take (0+q)=L.take 0++KK)(hq:KK.length=q)(o:Obj)(a5:Option Addr)(c5:Nat)
 (hown:w5.ownsRow 0 94 4 (.slice a5 q c5) q (qr KK)) (hgrow:(w2.alloc o).grownBy w5 none) (hat:(Value.slice a5 q c5).ownBlock=none∨(Value.slice a5 q c5).ownBlock=some (w2.alloc o).heap.size):YR M w w5 bd bs S D V L i q a5 c5 S2 D2:=by
 have e:L.take q=KK:=by simpa using htp
 have h1:=h.kept.size
 have h2:=haft.kept.size
 refine h.page haft hlive hbs hrd (fun _=>False) ((za.alloc _ w2 o).trans (za.grown hgrow (fun k hk=>by cases hk)) iL) fE a5 c5 q ?_ (fun k hk=>?_)
 ·unfold Row
  rw [e,hq]
  exact hown
 ·have e2:k=w2.heap.size+1:=by
   rcases hat with h3|h3<;>rw [h3] at hk<;>simp at hk;omega
  exact⟨by omega,fun hs=>by have:=haft.disk.lt k hs;omega⟩
theorem YQ.next(h:YQ M w wr bd bs S D V L m i n a c S' D')(haft:y9 M wr w2 bd bs S' S2 D' D2 1000 (some bd))(hlive:M.Live D2 V)(hbs:bs<w.heap.size)(hrd:D2.reads≤2305843009213693952)(htp:L.take (n+q)=L.take n++KK)(hq:KK.length=q)(hn:n+q≤L.length)(o:Obj)(g5 c5:Nat)
 (hown:w5.ownsRow 0 94 4 (.slice (some ⟨g5,0,none⟩) (n+q) c5) (n+q) (qr (L.take n)++qr KK)) (hgrow:(w2.alloc o).grownBy w5 (Value.slice a n c).ownBlock) (hat:(Value.slice a n c).ownBlock=some g5∨g5=w2.heap.size+1):YR M w w5 bd bs S D V L i (n+q) (some ⟨g5,0,none⟩) c5 S2 D2:=by
 have h1:=h.kept.size
 have h2:=haft.kept.size
 have hold:∀k,(Value.slice a n c).ownBlock=some k→w.heap.size≤k∧¬S2 k:=fun k hk=>by
  have h3:=h.new k hk
  refine⟨h3.1,fun hs=>?_⟩
  rcases haft.foot k hs with h4|h4
  ·exact h3.2 h4
  ·have hl:n≤L.length:=by omega
   have h5:k<wr.heap.size:=by
    have hr:wr.ownsRow 0 94 4 (.slice a (L.take n).length c) (L.take n).length (qr (L.take n)):=h.row
    rw [List.length_take,Nat.min_eq_left hl] at hr
    exact(hr.lt k hk).2
   omega
 refine h.page haft hlive hbs hrd (fun k=>(Value.slice a n c).ownBlock=some k) ((za.alloc _ w2 o).trans (za.grown hgrow (fun k hk=>hk)) iL) hold _ _ _ ?_ (fun k hk=>?_)
 ·unfold Row
  rw [List.length_take,Nat.min_eq_left hn,htp,bt]
  exact hown
 ·obtain rfl:g5=k:=by simpa [Value.ownBlock] using hk
  rcases hat with h3|h3
  ·exact hold _ h3
  ·exact⟨by omega,fun hs=>by have:=haft.disk.lt _ hs;omega⟩
theorem YR.last{a5:Option Addr}{c5:Nat}(h:YR M w w5 bd bs S D V L i n a5 c5 S2 D2)(h0:0<n)(hn:n≤L.length):∃g j,a5=some ⟨g,0,none⟩∧g<w5.heap.size∧j+1=n∧w5.cell? ⟨g,j*4,none⟩=some (.string (bn L n))∧w5.cell? ⟨g,j*4+1,none⟩=some (.int .i64 (bY L n)):=by
 have hl:(L.take n).length=n:=by rw [List.length_take,Nat.min_eq_left hn]
 obtain⟨g,e,hg,hc⟩:=h.row.cells (by omega)
 obtain⟨j,rfl⟩:∃j,n=j+1:=⟨n-1,by omega⟩
 obtain⟨c0,c1,_,_⟩:=hc j (by omega)
 obtain⟨e1,e2⟩:=XV L j (by omega)
 rw [List.getElem_take] at c0 c1
 exact⟨g,j,e,hg,rfl,by rw [e1];exact c0,by rw [e2];exact c1⟩
theorem YR.on{a5:Option Addr}{c5 n':Nat}(h:YR M w w5 bd bs S D V L i n' a5 c5 S2 D2)(ni:n'=(i+1)*m)(hn:n'<L.length)(h0:0<n'):YQ M w w5 bd bs S D V L m (i+1) n' a5 c5 S2 D2:=
 ⟨ni,.inr hn,h.fore,h.foot,h.kept,h.reads0,by have:=h.reads1;push_cast;omega,h.size,h.row,h.new,fun e=>by omega⟩
theorem YR.done{a5:Option Addr}{c5 n':Nat}{p:ByteArray}(h:YR M w w5 bd bs S D V L i n' a5 c5 S2 D2)(hi:i<2000)(hn:n'=L.length)(hL:qz V.vs p ByteArray.empty 0 L):∃D' S' a c L',Ending.returned (Value.tuple #[.slice a5 n' c5,.bool true])=.returned (.tuple #[.slice a L'.length c,.bool true])∧y9 M w w5 bd bs S S' D D' 2000000 (some bd)∧M.Live D' V∧qz V.vs p ByteArray.empty 0 L'∧Row w5 a c L'∧∀k,(Value.slice a L'.length c).ownBlock=some k→w.heap.size≤k∧¬S' k:=by
 subst hn
 have hr:=h.row
 rw [List.take_length] at hr
 have r1:=h.reads1
 exact⟨D2,S2,a5,c5,L,rfl,⟨h.fore.disk,h.foot,h.fore.sto,h.kept,h.reads0,by omega,h.size,h.fore.fuse⟩,h.fore.live,hL,hr,h.new⟩
end
set_option maxRecDepth 60000 in
theorem xw(M:zg)(A:yN M)(w:World)(bd bs:Nat)(S:Nat→Prop)(D:Dk)(V:qH)(F:qG M w bd bs S D V)(p:ByteArray)(hp:p=ByteArray.empty∨zs p.data.toList=true)(hps:p.size≤8)(m:Nat)(m1:1≤m)(m2:m≤50)(hlen:V.vs.length≤1000)(hrd:D.reads≤1000000000000):
 Calls Tryz.prog 20 #[.pointer (some ⟨bs,0,none⟩),.string p,.int .i64 (m:Int)] w fun e w'=>∃D' S' a c L,e=.returned (.tuple #[.slice a L.length c,.bool true])∧y9 M w w' bd bs S S' D D' 2000000 (some bd)∧M.Live D' V∧qz V.vs p ByteArray.empty 0 L∧Row w' a c L∧∀k,(Value.slice a L.length c).ownBlock=some k→w.heap.size≤k∧¬S' k:=by
 have hgood:=F.live.good
 obtain⟨L,hL⟩:∃L,qz V.vs p ByteArray.empty 0 L:=⟨_,cf V.vs hgood.apart p ByteArray.empty 0⟩
 have hne:∀v∈V.vs,v.key≠ByteArray.empty:=fun v hv e=>by
  have:=hgood.key v hv
  rw [e] at this
  exact absurd this (by decide)
 have hLl:L.length≤1000:=by
  rw [hL.perm.length_eq]
  exact Nat.le_trans (List.length_filter_le _ _) hlen
 have hmem:∀v∈L,v∈V.vs:=fun v hv=>(List.mem_filter.1 (hL.perm.subset hv)).1
 have hplk:∀n,n≤L.length→yH p (bn L n) (bY L n) m=0∧(bn L n).size≤8∧zG (bY L n):=fun n hn=>by
  have h1:(bn L n=ByteArray.empty∧bY L n=0)∨∃v∈V.vs,bn L n=v.key∧bY L n=v.num:=by
   by_cases h0:n=0
   ·subst h0;exact .inl ⟨rfl,rfl⟩
   ·obtain⟨j,rfl⟩:∃j,n=j+1:=⟨n-1,by omega⟩
    obtain⟨e1,e2⟩:=XV L j (by omega)
    exact .inr ⟨L[j],hmem _ (List.getElem_mem _),e1,e2⟩
  have hn0:=F.few
  have h2:(bn L n=ByteArray.empty∨zs (bn L n).data.toList=true)∧0≤bY L n∧bY L n≤2305843009213693952∧(bn L n).size≤8:=by
   rcases h1 with⟨e1,e2⟩|⟨v,hv,e1,e2⟩
   ·rw [e1,e2];exact⟨.inl rfl,by omega,by omega,by decide⟩
   ·have h3:=hgood.num v hv
    have h4:=hgood.key v hv
    rw [e1,e2]
    refine⟨.inr h4,by omega,by omega,?_⟩
    have:=jb h4
    exact this
  refine⟨?_,h2.2.2.2,⟨by omega,by omega⟩⟩
  unfold yH
  rw [if_neg,if_neg (by omega)]
  rintro(⟨h3,h4⟩|⟨h3,h4⟩)
  ·rcases hp with h5|h5
   ·exact h3 h5
   ·rw [h5] at h4;cases h4
  ·rcases h2.1 with h5|h5
   ·exact h3 h5
   ·rw [h5] at h4;cases h4
 have HL:Hid (qz V.vs p ByteArray.empty 0 L):=hL
 have HPL:Hid (∀n,n≤L.length→yH p (bn L n) (bY L n) m=0∧(bn L n).size≤8∧zG (bY L n)):=hplk
 have HNE:Hid (∀v∈V.vs,v.key≠ByteArray.empty):=hne
 have HF:Hid (qG M w bd bs S D V):=F
 obtain⟨i0,hi0,hz0,hz1,hz2⟩:=yK Tryz.infoVer
 have HI0:Hid (Tryz.prog.info? 94=some i0∧i0.zero=some (.agg #[.string ⟨#[]⟩,.int .i64 0,.bool false,.int .i64 0])∧i0.size=4∧i0.bytes=40):=⟨hi0,hz0,hz1,hz2⟩
 have hbsw:=M.sto_lt _ _ _ F.sto
 clear hi0 hz0 hz1 hz2 hL hplk hne F hmem hgood hp
 go_enter Tryz.func20,Tryz.ntmps20
 go_wp2_with fail
 go_loopw [8,9,10,11] (fun x ky nu t wr=>∃i n:Nat,∃a c S' D',x=.slice a n c∧ky=.string (bn L n)∧nu=.int .i64 (bY L n)∧t=.int .i64 (i:Int)∧YQ M w wr bd bs S D V L m i n a c S' D') (fun _ _ _ t _=>2000-(intOf t).toNat)
 case atStart=>
  exact⟨0,0,none,0,S,D,rfl,rfl,rfl,rfl,⟨by simp,.inl rfl,HF.out,fun k hk=>.inl hk,za.refl _ _,Int.le_refl _,by omega,rfl,Row.nil w,fun k hk=>(by cases hk),fun _=>⟨rfl,rfl⟩⟩⟩
 case round=>
  obtain⟨i,n,a,c,S',D',rfl,rfl,rfl,rfl,hinv⟩:=hrel
  have HV:Hid (YQ M w wr bd bs S D V L m i n a c S' D'):=hinv
  have hni:=hinv.ni
  have hnl:=hinv.nlt
  have hr0:=hinv.reads0
  have hr1:=hinv.reads1
  have hnL:n≤L.length:=by omega
  have hi2:i≤n:=by rw [hni];exact Nat.le_mul_of_pos_right i (by omega)
  have hi3:(i:Int)<2000:=by omega
  obtain⟨q0,q1,q2⟩:=HPL.out n hnL
  have HQ0:Hid (yH p (bn L n) (bY L n) m=0):=q0
  have hbs2:=HF.out.reads0
  clear hinv q0 hni
  generalize hK:bn L n=K at*
  generalize hN:bY L n=N at*
  have HKN:Hid (bn L n=K∧bY L n=N):=⟨hK,hN⟩
  clear hK hN
  go_wp2_with fail
  refine(A.live wr bd bs S' D' V p K N m HV.out.fore (by unfold maxLen;omega) (by unfold maxLen;omega) q2 ⟨by omega,by omega⟩).mono ?_
  rintro e w2 ⟨D2,S2,x,more,rfl,haft,hlive,hpage,_,hx2⟩
  rw [HQ0.out]
  obtain⟨L',hL',hpg⟩:=hpage HQ0.out
  obtain rfl:L'=L.drop n:=hL'.unique (by have:=qz.behind HL.out HNE.out n hnL;rw [HKN.out.1,HKN.out.2] at this;exact this) (List.Perm.refl _)
  obtain⟨a2,c2,rfl,hown2,hfr2⟩:=hpg.at_
  have hmore:=hpg.more
  have hm0:((m:Int)).toNat=m:=by simp
  rw [hm0] at hown2 hfr2 hmore hx2
  simp only [hm0]
  have HAFT:Hid (y9 M wr w2 bd bs S' S2 D' D2 1000 (some bd)):=haft
  have HLV:Hid (M.Live D2 V):=hlive
  have hql:((L.drop n).take m).length=min m (L.length-n):=by rw [List.length_take,List.length_drop]
  have HTP:Hid (L.take (n+((L.drop n).take m).length)=L.take n++(L.drop n).take m):=YP L n m
  generalize hKK:(L.drop n).take m=KK at*
  generalize hq:KK.length=q at*
  have HO2:Hid (w2.ownsRow 0 94 4 (.slice a2 q c2) q (qr KK)):=hown2
  have HF2:Hid (∀k,(Value.slice a2 q c2).ownBlock=some k→wr.heap.size≤k∧¬S2 k):=fun k hk=>⟨hfr2 k hk,hx2 k hk⟩
  have hld:(L.drop n).length=L.length-n:=List.length_drop
  rw [hld] at hmore
  have hsz2:=haft.kept.size
  have HKL:Hid (KK.length=q):=hq
  clear hpage hpg haft hlive hL' hown2 hfr2 hx2 hKK hld hq
  have hb3:∀v,(w2.alloc (.cells #[v,.bool more] 90)).heap[w2.heap.size]? =some (.cells #[v,.bool more] 90 (0,0)):=fun v=>heap_alloc_new w2 _
  have HOA:Hid (∀o,(w2.alloc o).ownsRow 0 94 4 (.slice a2 q c2) q (qr KK)):=fun o=>World.ownsRow.alloc HO2.out o
  by_cases hn0:n=0
  ·subst hn0
   obtain⟨rfl,rfl⟩:=HV.out.nil rfl
   cases more with
   |true=>
    have hm3:m<L.length-0:=of_decide_eq_true hmore.symm
    have eq:q=m:=by omega
    subst eq
    clear hmore hql
    go_wp2_with (refine jA rfl (.tmp 47) (.tmp 49) 44 rfl 94 i0 _ 4 40 Tryz.underlying44 HI0.out.1 HI0.out.2.1 HI0.out.2.2.1 HI0.out.2.2.2 rfl (by omega) (.slice a2 q c2) q (qr KK) (by rfl) (by rfl) (HOA.out _) (j8 KK) (by unfold maxLen;omega) (by omega) ?_;intro a5 c5 w5 hown5 hgrow5 hat5;have hc51:w5.cell? ⟨w2.heap.size,1,none⟩=some (.bool true):=(hgrow5.cell_far ⟨w2.heap.size,1,none⟩ (by simp) (fun e=>by cases e)).trans ((cell_of_row _ _ 1 _ _ _ (hb3 _)).trans rfl);have HX:Hid (YR M w w5 bd bs S D V L i q a5 c5 S2 D2):=YQ.first HV.out HAFT.out HLV.out hbsw (by have:=HAFT.out.reads1;omega) HTP.out HKL.out _ a5 c5 hown5 hgrow5 hat5;clear hown5 hgrow5 hat5;obtain⟨g5,j,rfl,hg5,hj,hk0,hk1⟩:=HX.out.last (by omega) (by omega);have hjI:(j:Int)<(q:Int):=(by omega);have hw1:IntKind.i64.wrap ((q:Int)-1)=(j:Int):=(by rw [show (q:Int)-1=(j:Int) by omega];exact IntWalk.i64_in _ (by omega)))
    go_roundw
    case rel=>exact⟨i+1,q,_,_,S2,D2,rfl,rfl,rfl,by go_num,HX.out.on (by have:=HV.out.ni;rw [Nat.add_mul,←this];omega) (by omega) (by omega)⟩
    case measure=>simp [intOf];omega
   |false=>
    have hm3:¬m<L.length-0:=of_decide_eq_false hmore.symm
    have HEQ:Hid (q=L.length):=by show q=_;omega
    have hqm:q≤m:=by omega
    have hqI:(q:Int)≤(m:Int):=by omega
    clear hmore hql hm3
    go_wp2_with (refine jA rfl (.tmp 47) (.tmp 49) 44 rfl 94 i0 _ 4 40 Tryz.underlying44 HI0.out.1 HI0.out.2.1 HI0.out.2.2.1 HI0.out.2.2.2 rfl (by omega) (.slice a2 q c2) q (qr KK) (by rfl) (by rfl) (HOA.out _) (j8 KK) (by unfold maxLen;omega) (by omega) ?_;intro a5 c5 w5 hown5 hgrow5 hat5;have hc51:w5.cell? ⟨w2.heap.size,1,none⟩=some (.bool false):=(hgrow5.cell_far ⟨w2.heap.size,1,none⟩ (by simp) (fun e=>by cases e)).trans ((cell_of_row _ _ 1 _ _ _ (hb3 _)).trans rfl);have HX:Hid (YR M w w5 bd bs S D V L i q a5 c5 S2 D2):=YQ.first HV.out HAFT.out HLV.out hbsw (by have:=HAFT.out.reads1;omega) HTP.out HKL.out _ a5 c5 hown5 hgrow5 hat5;clear hown5 hgrow5 hat5)
    go_ret2
    exact HX.out.done (by omega) HEQ.out HL.out
  ·obtain⟨g2,rfl⟩:∃g2,a2=some ⟨g2,0,none⟩:=by
    rcases HO2.out.2 with⟨h0,h1⟩|⟨g,cap',cur,hv,_⟩
    ·omega
    ·cases hv;exact⟨g,rfl⟩
   have HRL:Hid (∀k,(Value.slice a n c).ownBlock=some k→k<w2.heap.size):=fun k hk=>by
    have hr:wr.ownsRow 0 94 4 (.slice a (L.take n).length c) (L.take n).length (qr (L.take n)):=HV.out.row
    rw [List.length_take,Nat.min_eq_left hnL] at hr
    have:=(hr.lt k hk).2
    omega
   have HRA:Hid (∀o,(w2.alloc o).ownsRow 0 94 4 (.slice a n c) n (qr (L.take n))):=fun o=>World.ownsRow.alloc (by
    have hr:wr.ownsRow 0 94 4 (.slice a (L.take n).length c) (L.take n).length (qr (L.take n)):=HV.out.row
    rw [List.length_take,Nat.min_eq_left hnL] at hr
    refine HAFT.out.kept.owns hr (fun k hk hc=>?_)
    have h3:=HV.out.new k hk
    rcases hc with hc|hc
    ·exact h3.2 hc
    ·omega) o
   cases more with
   |true=>
    have hm3:m<L.length-n:=of_decide_eq_true hmore.symm
    have eq:q=m:=by omega
    subst eq
    clear hmore hql
    go_wp2_with (refine wpList_append_lies _ rfl (.tmp 47) (.tmp 49) 44 rfl 0 94 i0 _ 4 40 Tryz.underlying44 HI0.out.1 HI0.out.2.1 HI0.out.2.2.1 HI0.out.2.2.2 rfl (by omega) (.slice a n c) n (qr (L.take n)) (by rfl) (HRA.out _) ⟨g2,0,none⟩ q c2 (qr KK) (by rfl) (by rw [dm,HKL.out]) (by exact(HOA.out _).cells (g:=g2) rfl) (j8 KK) (by omega) (by unfold maxLen;omega) (by omega) (Nat.zero_le _) (w2.heap.size+1) (by simp) ?_;intro g5 c5 w5 hown5 hgrow5 hat5 hlt5;have hc51:w5.cell? ⟨w2.heap.size,1,none⟩=some (.bool true):=(hgrow5.cell_far ⟨w2.heap.size,1,none⟩ (by simp) (fun e=>Nat.lt_irrefl _ (HRL.out _ e.symm))).trans ((cell_of_row _ _ 1 _ _ _ (hb3 _)).trans rfl);have HX:Hid (YR M w w5 bd bs S D V L i (n+q) (some ⟨g5,0,none⟩) c5 S2 D2):=YQ.next HV.out HAFT.out HLV.out hbsw (by have:=HAFT.out.reads1;omega) HTP.out HKL.out (by omega) _ g5 c5 hown5 hgrow5 hat5;clear hown5 hgrow5 hat5;obtain⟨g6,j,e6,hg5,hj,hk0,hk1⟩:=HX.out.last (by omega) (by omega);obtain rfl:g5=g6:=(by simpa using e6);have hjI:(j:Int)<(n:Int)+(q:Int):=(by omega);have hw1:IntKind.i64.wrap ((n:Int)+(q:Int)-1)=(j:Int):=(by rw [show (n:Int)+(q:Int)-1=(j:Int) by omega];exact IntWalk.i64_in _ (by omega)))
    go_roundw
    case rel=>exact⟨i+1,n+q,_,_,S2,D2,rfl,rfl,rfl,by go_num,HX.out.on (by have:=HV.out.ni;rw [Nat.add_mul,←this];omega) (by omega) (by omega)⟩
    case measure=>simp [intOf];omega
   |false=>
    have hm3:¬m<L.length-n:=of_decide_eq_false hmore.symm
    have HEQ:Hid (n+q=L.length):=by show n+q=_;omega
    have hqm:q≤m:=by omega
    have hqp:0<q:=by omega
    have hnq:n+q≤L.length:=by omega
    have hqI:(q:Int)≤(m:Int):=by omega
    clear hmore hql hm3
    go_wp2_with (refine wpList_append_lies _ rfl (.tmp 47) (.tmp 49) 44 rfl 0 94 i0 _ 4 40 Tryz.underlying44 HI0.out.1 HI0.out.2.1 HI0.out.2.2.1 HI0.out.2.2.2 rfl (by omega) (.slice a n c) n (qr (L.take n)) (by rfl) (HRA.out _) ⟨g2,0,none⟩ q c2 (qr KK) (by rfl) (by rw [dm,HKL.out]) (by exact(HOA.out _).cells (g:=g2) rfl) (j8 KK) (by omega) (by unfold maxLen;omega) (by omega) (Nat.zero_le _) (w2.heap.size+1) (by simp) ?_;intro g5 c5 w5 hown5 hgrow5 hat5 hlt5;have hc51:w5.cell? ⟨w2.heap.size,1,none⟩=some (.bool false):=(hgrow5.cell_far ⟨w2.heap.size,1,none⟩ (by simp) (fun e=>Nat.lt_irrefl _ (HRL.out _ e.symm))).trans ((cell_of_row _ _ 1 _ _ _ (hb3 _)).trans rfl);have HX:Hid (YR M w w5 bd bs S D V L i (n+q) (some ⟨g5,0,none⟩) c5 S2 D2):=YQ.next HV.out HAFT.out HLV.out hbsw (by have:=HAFT.out.reads1;omega) HTP.out HKL.out (by omega) _ g5 c5 hown5 hgrow5 hat5;clear hown5 hgrow5 hat5)
    go_ret2
    exact HX.out.done (by omega) HEQ.out HL.out
end keep
namespace keep
open Go.ChangeShapes Go.WideShapes Go.ChangeAt Go.RowKit disk ref book
open law (qH zg yE yG yN qG y9 qr Z2 gJ)
open keys (zj zd zA zq zs)
theorem Ya{n:Int}(h:zG n):zG (n.tdiv 50):=by
 have e:(n.tdiv 50).natAbs=n.natAbs/50:=Int.natAbs_tdiv n 50
 unfold zG at h ⊢
 omega
theorem Qg(v:zO):yf v ByteArray.empty ByteArray.empty 0=true:=by unfold yf;simp
theorem qz.all{vs L:List zO}(h:qz vs ByteArray.empty ByteArray.empty 0 L):L.Perm vs:=by
 have:=h.perm
 rwa [List.filter_eq_self.2 (fun v _=>Qg v)] at this
theorem qz.pre{vs L:List zO}(h:qz vs ByteArray.empty ByteArray.empty 0 L)(p:ByteArray):qz vs p ByteArray.empty 0 (pre p L):=by
 refine⟨h.sorted.sublist List.filter_sublist,?_⟩
 have e:(fun v:zO=>yf v p ByteArray.empty 0)=fun v=>p.data.toList.isPrefixOf v.key.data.toList:=by
  funext v;unfold yf;simp
 rw [e]
 exact(qz.all h).filter _
section
variable {M:zg} {w w':World} {bd bs:Nat} {S S':Nat→Prop} {D D':Dk} {V:qH} {most:Int}
theorem qG.aft(F:qG M w bd bs S D V)(h:y9 M w w' bd bs S S' D D' most (some bd))(hl:M.Live D' V)(hr:D'.reads≤2305843009213693952):qG M w' bd bs S' D' V:=
 ⟨h.disk,fun hk=>by
  rcases h.foot bs hk with h1|h1
  ·exact F.apart h1
  ·have:=M.sto_lt _ _ _ F.sto;omega,h.sto,hl,h.fuse,by have:=F.reads0;have:=h.reads0;omega,hr,F.few⟩
theorem y9.far(h:y9 M w w' bd bs S S' D D' most (some bd)){k:Nat}(hk:k<w.heap.size)(hs:¬S k)(hb:k≠bs):w'.heap[k]? =w.heap[k]? ∧¬S' k:=
 ⟨h.kept.block k hk (fun hc=>hc.elim hs hb),fun hc=>by
  rcases h.foot k hc with h1|h1
  ·exact hs h1
  ·omega⟩
theorem Row.aft{a:Option Addr}{c:Nat}{L:List zO}(hr:Row w a c L)(h:y9 M w w' bd bs S S' D D' most (some bd))(hn:∀k,(Value.slice a L.length c).ownBlock=some k→¬S k∧k≠bs):Row w' a c L∧∀k,(Value.slice a L.length c).ownBlock=some k→¬S' k∧k≠bs:=
 ⟨hr.kept h.kept (fun k hk hc=>hc.elim (hn k hk).1 (hn k hk).2),fun k hk=>⟨(y9.far h (World.ownsRow.lt hr k hk).2 (hn k hk).1 (hn k hk).2).2,(hn k hk).2⟩⟩
end
set_option maxRecDepth 60000 in
theorem K1(M:zg)(AO:yE M)(AP:yG M)(AL:yN M)(hM:∀f,M.Fu f→f≠0)(w:World)(Q:Nat→Prop)(hQ:∀k,Q k→k<w.heap.size)(a:Option Addr)(cap:Nat)(ods:List bW)(h:XU w Q a ods)(hlen:ods.length≤2000000000000)(most:Int)(hmost:zG most)(which:Int)(hwhich:zG which):
 Calls Tryz.prog 9 #[.slice a ods.length cap,.int .i64 most,.int .i64 which] w fun e w'=>e=.returned (.bool true)∧za (fun _=>False) w w':=by
 have HC:Hid (XU w Q a ods):=h
 have HQ:Hid (∀k,Q k→k<w.heap.size):=hQ
 have HMO:Hid (zG most):=hmost
 have HWH:Hid (zG which):=hwhich
 clear h hQ hmost hwhich
 go_enter Tryz.func9,Tryz.ntmps9
 go_wp2_with fail
 refine(Qf M AO AP hM _ Q HQ.out a cap ods HC.out hlen).mono ?_
 rintro e w1 ⟨X,bp,D,V,rfl,⟨bd,bs,S,a',cap',cs',G',hs⟩,hfit,hk1,hx,hmk⟩
 obtain⟨hc0,hc1,hc2,hc3,hc5,hc6,hfz⟩:=hs.c
 have HS:Hid (qI M w1 X bp bd bs S D V a' cap' cs' G'):=hs
 have HK1:Hid (za (fun _=>False) w w1):=hk1
 have HX:Hid (∀k,X k→w.heap.size≤k):=hx
 have hbp:=hs.lt
 have hbs:=hs.xlt bs hs.xb
 have hrd:=hfit.reads
 have hlw:=yU V.vs
 have hwt:=hfit.weight
 have HF1:Hid (qG M w1 bd bs S D V):=hs.fore
 have HPS:Hid (¬S bp∧bp≠bs):=⟨hs.pS,hs.pb⟩
 have HKS:Hid (∀v∈V.vs,v.key.size≤8):=fun v hv=>jb (hs.fore.live.good.key v hv)
 have HPK:Hid (∀W,Calls Tryz.prog 21 #[.int .i64 most,.int .i64 50] W fun e w'=>e=.returned (.int .i64 (ya most 50:Int))∧w'=W):=fun W=>xd W most 50 HMO.out (by omega) (by omega)
 have hp1:ya most 50<50:=by have:=xv most 50 (by omega);omega
 have HPK2:Hid (∀W,Calls Tryz.prog 21 #[.int .i64 (most.tdiv 50),.int .i64 50] W fun e w'=>e=.returned (.int .i64 (ya (most.tdiv 50) 50:Int))∧w'=W):=fun W=>xd W _ 50 (Ya HMO.out) (by omega) (by omega)
 have hwq:IntKind.i64.wrap (most.tdiv 50)=most.tdiv 50:=IntWalk.i64_in _ (Ya HMO.out)
 have hp2:ya (most.tdiv 50) 50<50:=by have:=xv (most.tdiv 50) 50 (by omega);omega
 have HPK3:Hid (∀W,Calls Tryz.prog 21 #[.int .i64 which,.int .i64 12] W fun e w'=>e=.returned (.int .i64 (ya which 12:Int))∧w'=W):=fun W=>xd W which 12 HWH.out (by omega) (by omega)
 have hp3:ya which 12<12:=by have:=xv which 12 (by omega);omega
 generalize ya most 50=r at*
 generalize ya (most.tdiv 50) 50=r2 at*
 generalize ya which 12=r3 at*
 obtain⟨ky,hky,hkb,hks⟩:=v9 r3 hp3
 have HKY:Hid (jt[r3]? =some (.string ky)∧zs ky.data.toList=true):=⟨hky,hkb⟩
 have hp3I:(r3:Int)<12:=by omega
 obtain⟨m1,hm1⟩:∃m,m=r+1:=⟨_,rfl⟩
 obtain⟨m2,hm2⟩:∃m,m=r2+1:=⟨_,rfl⟩
 have hw1:IntKind.i64.wrap (1+(r:Int))=(m1:Int):=by rw [show 1+(r:Int)=(m1:Int) by omega];exact IntWalk.i64_in _ (by omega)
 have hw2:IntKind.i64.wrap (1+(r2:Int))=(m2:Int):=by rw [show 1+(r2:Int)=(m2:Int) by omega];exact IntWalk.i64_in _ (by omega)
 have hm1b:1≤m1∧m1≤50:=by omega
 have hm2b:1≤m2∧m2≤50:=by omega
 have hvl:V.vs.length≤473:=by omega
 clear hs hk1 hx hc0 hc3 hc5 hfz hfit hmk hky hkb hm1 hm2
 go_wp2_with fail
 go_region_held3 (fun w'=>w'.cell? ⟨bp,1,none⟩=some (.pointer (some ⟨bs,0,none⟩))) (go_keep) ((first
  |(go_at_call 21;refine(HPK.out _).mono ?_;rintro e w9 ⟨rfl,rfl⟩)
  |(go_at_call 20;refine(xw M AL w1.drew bd bs S D V (qG.kept HF1.out (za.drew (fun _=>False) w1) nF (fun hf=>hf)) ⟨#[]⟩ (.inl rfl) (by decide) m1 hm1b.1 hm1b.2 (by omega) (by omega)).mono ?_;rintro e w2 ⟨D2,S2,a2,c2,L,rfl,haft,hlive,hL,hrow,hnew⟩;have haft1:y9 M w1 w2 bd bs S S2 D D2 2000000 (some bd):=⟨haft.disk,haft.foot,haft.sto,⟨haft.kept.os,haft.kept.tape,haft.kept.output,haft.kept.size,haft.kept.block⟩,haft.reads0,haft.reads1,haft.size,haft.fuse⟩;have HA2:Hid (y9 M w1 w2 bd bs S S2 D D2 2000000 (some bd)):=haft1;have HF2:Hid (qG M w2 bd bs S2 D2 V):=qG.aft HF1.out haft1 hlive (by have:=haft1.reads1;omega);have HL:Hid (qz V.vs ByteArray.empty ByteArray.empty 0 L):=hL;have HR2:Hid (Row w2 a2 c2 L):=hrow;have HN2:Hid (∀k,(Value.slice a2 L.length c2).ownBlock=some k→¬S2 k∧k≠bs):=(fun k hk=>⟨(hnew k hk).2,by have h9:w1.heap.size≤k:=(hnew k hk).1;omega⟩);have hfar:=y9.far haft1 hbp HPS.out.1 HPS.out.2;have HP2:Hid (¬S2 bp):=hfar.2;have hh2:w2.heap[bp]? =_:=hfar.1.trans HS.out.head;have HH2:Hid (w2.heap[bp]? =some (.cells #[.pointer (some ⟨bd,0,none⟩),.pointer (some ⟨bs,0,none⟩),.slice a' V.vs.length cap',.int .i64 V.n0,.int .i64 (-1),.int .i64 0,.bool true] 33 (0,0))):=hh2;have hc12:w2.cell? ⟨bp,1,none⟩=some (.pointer (some ⟨bs,0,none⟩)):=(cell_of_row w2 bp 1 _ _ _ hh2).trans rfl;have hbp2:bp<w2.heap.size:=(by have:=haft1.kept.size;omega);have hrd2:D2.reads≤6000000:=(by have:=haft1.reads1;omega);clear haft haft1 hlive hL hrow hnew hfar hh2)))
 have hLl:L.length=V.vs.length:=(qz.all HL.out).length_eq
 have HLL:Hid (L.length=V.vs.length):=hLl
 have hLb:L.length≤473:=by omega
 clear hLl
 go_wp2_with fail
 refine(xw M AL w2 bd bs S2 D2 V HF2.out ⟨#[]⟩ (.inl rfl) (by decide) 50 (by omega) (by omega) (by omega) (by omega)).mono ?_
 rintro e w3 ⟨D3,S3,a3,c3,L3,rfl,haft,hlive,hL3,hrow,hnew⟩
 obtain rfl:L3=L:=hL3.unique HL.out (List.Perm.refl _)
 have HA3:Hid (y9 M w2 w3 bd bs S2 S3 D2 D3 2000000 (some bd)):=haft
 have HF3:Hid (qG M w3 bd bs S3 D3 V):=qG.aft HF2.out haft hlive (by have:=haft.reads1;omega)
 have h23:=Row.aft HR2.out haft HN2.out
 have HR3:Hid (Row w3 a2 c2 L3):=h23.1
 have HN3:Hid (∀k,(Value.slice a2 L3.length c2).ownBlock=some k→¬S3 k∧k≠bs):=h23.2
 have HQ3:Hid (Row w3 a3 c3 L3):=hrow
 have HM3:Hid (∀k,(Value.slice a3 L3.length c3).ownBlock=some k→¬S3 k∧k≠bs):=fun k hk=>⟨(hnew k hk).2,by have h9:=(hnew k hk).1;have:=HA2.out.kept.size;omega⟩
 have hfar:=y9.far haft hbp2 HP2.out HPS.out.2
 have HP3:Hid (¬S3 bp):=hfar.2
 have HH3:Hid (w3.heap[bp]? =some (.cells #[.pointer (some ⟨bd,0,none⟩),.pointer (some ⟨bs,0,none⟩),.slice a' V.vs.length cap',.int .i64 V.n0,.int .i64 (-1),.int .i64 0,.bool true] 33 (0,0))):=hfar.1.trans HH2.out
 have hbp3:bp<w3.heap.size:=by have:=haft.kept.size;omega
 have hrd3:D3.reads≤8000000:=by have:=haft.reads1;omega
 clear haft hlive hL3 hrow hnew h23 hfar
 go_wp2_with fail
 refine(gK _).mono ?_
 rintro e w4 ⟨rfl,hk4,hb4⟩
 have HK4:Hid (za (fun _=>False) w3 w4):=hk4
 have HF4:Hid (qG M w4 bd bs S3 D3 V):=qG.kept HF3.out hk4 nF (fun hf=>hf)
 have HR4:Hid (Row w4 a2 c2 L3):=HR3.out.kept hk4 nF
 have HQ4:Hid (Row w4 a3 c3 L3):=HQ3.out.kept hk4 nF
 have hh4:w4.heap[bp]? =_:=(hk4.block bp hbp3 (fun hf=>hf)).trans HH3.out
 have HH4:Hid (w4.heap[bp]? =some (.cells #[.pointer (some ⟨bd,0,none⟩),.pointer (some ⟨bs,0,none⟩),.slice a' V.vs.length cap',.int .i64 V.n0,.int .i64 (-1),.int .i64 0,.bool true] 33 (0,0))):=hh4
 have hc14:w4.cell? ⟨bp,1,none⟩=some (.pointer (some ⟨bs,0,none⟩)):=(cell_of_row w4 bp 1 _ _ _ hh4).trans rfl
 have hck:w4.cell? ⟨w3.heap.size,r3,none⟩=some (.string ky):=(cell_of_row w4 _ r3 _ _ _ hb4).trans HKY.out.1
 have hw34:w3.heap.size<w4.heap.size:=(lT hb4)
 have hbp4:bp<w4.heap.size:=by omega
 clear hk4 hb4 hh4
 go_wp2_with (go_at_call 21;refine(HPK3.out _).mono ?_;rintro e w9 ⟨rfl,hw9⟩;rw [hw9];clear hw9 w9)
 go_region_held3 (fun w'=>w'.cell? ⟨bp,1,none⟩=some (.pointer (some ⟨bs,0,none⟩))) (go_keep) ((first
  |(go_at_call 21;refine(HPK2.out _).mono ?_;rintro e w9 ⟨rfl,rfl⟩)
  |(go_at_call 20;refine(xw M AL w4.drew bd bs S3 D3 V (qG.kept HF4.out (za.drew (fun _=>False) w4) nF (fun hf=>hf)) ky (.inr HKY.out.2) hks m2 hm2b.1 hm2b.2 (by omega) (by omega)).mono ?_;rintro e w5 ⟨D5,S5,a5,c5,L5,rfl,haft,hlive,hL5,hrow,hnew⟩;have haft1:y9 M w4 w5 bd bs S3 S5 D3 D5 2000000 (some bd):=⟨haft.disk,haft.foot,haft.sto,⟨haft.kept.os,haft.kept.tape,haft.kept.output,haft.kept.size,haft.kept.block⟩,haft.reads0,haft.reads1,haft.size,haft.fuse⟩;have HA5:Hid (y9 M w4 w5 bd bs S3 S5 D3 D5 2000000 (some bd)):=haft1;obtain rfl:L5=pre ky L3:=hL5.unique (qz.pre HL.out ky) (List.Perm.refl _);have HR5:Hid (Row w5 a5 c5 (pre ky L3)):=hrow;have h45:=Row.aft HR4.out haft1 HN3.out;have HAl:Hid (Row w5 a2 c2 L3):=h45.1;have HOn:Hid (Row w5 a3 c3 L3):=(Row.aft HQ4.out haft1 HM3.out).1;have hfar:=y9.far haft1 hbp4 HP3.out HPS.out.2;have hh5:w5.heap[bp]? =_:=hfar.1.trans HH4.out;have HH5:Hid (w5.heap[bp]? =some (.cells #[.pointer (some ⟨bd,0,none⟩),.pointer (some ⟨bs,0,none⟩),.slice a' V.vs.length cap',.int .i64 V.n0,.int .i64 (-1),.int .i64 0,.bool true] 33 (0,0))):=hh5;have hc15:w5.cell? ⟨bp,1,none⟩=some (.pointer (some ⟨bs,0,none⟩)):=(cell_of_row w5 bp 1 _ _ _ hh5).trans rfl;have hbp5:bp<w5.heap.size:=(by have:=haft1.kept.size;omega);clear haft haft1 hlive hL5 hrow hnew hfar hh5 h45)))
 have hpl:(pre ky L3).length≤473:=Nat.le_trans (List.length_filter_le _ _) hLb
 generalize hpp:pre ky L3=L5 at*
 have HPP:Hid (pre ky L3=L5):=hpp
 clear hpp
 go_wp2_with fail
 refine(dl w5 a2 a3 c2 c3 L3 (by omega) HAl.out HOn.out).mono ?_
 rintro e w6 ⟨rfl,n6,hw6⟩
 have k6:za (fun _=>False) w5 w6:=by rw [hw6];exact kD
 have HK6:Hid (za (fun _=>False) w5 w6):=k6
 have HR6:Hid (Row w6 a5 c5 L5):=HR5.out.kept k6 nF
 have HAl6:Hid (Row w6 a2 c2 L3):=HAl.out.kept k6 nF
 have hh6:w6.heap[bp]? =_:=(k6.block bp hbp5 (fun hf=>hf)).trans HH5.out
 have HH6:Hid (w6.heap[bp]? =some (.cells #[.pointer (some ⟨bd,0,none⟩),.pointer (some ⟨bs,0,none⟩),.slice a' V.vs.length cap',.int .i64 V.n0,.int .i64 (-1),.int .i64 0,.bool true] 33 (0,0))):=hh6
 have hbp6:bp<w6.heap.size:=by have:=k6.size;omega
 clear hw6 k6 hh6
 have HKL:Hid (∀v∈L3,v.key.size≤8):=fun v hv=>HKS.out v ((qz.all HL.out).subset hv)
 go_wp2_with fail
 refine(gB w6 a2 c2 L3 (by omega) HAl6.out (fun k hk=>(World.ownsRow.lt HAl6.out k hk).2) ky hks HKL.out).mono ?_
 rw [HPP.out]
 rintro e w7 ⟨a7,c7,rfl,hr7,hk7,hn7⟩
 have HR7:Hid (Row w7 a7 c7 L5):=hr7
 have HR57:Hid (Row w7 a5 c5 L5):=HR6.out.kept hk7 nF
 have HAl7:Hid (Row w7 a2 c2 L3):=HAl6.out.kept hk7 nF
 have HK7:Hid (za (fun _=>False) w6 w7):=hk7
 have HH7:Hid (w7.heap[bp]? =some (.cells #[.pointer (some ⟨bd,0,none⟩),.pointer (some ⟨bs,0,none⟩),.slice a' V.vs.length cap',.int .i64 V.n0,.int .i64 (-1),.int .i64 0,.bool true] 33 (0,0))):=(hk7.block bp hbp6 (fun hf=>hf)).trans HH6.out
 have hbp7:bp<w7.heap.size:=by have:=hk7.size;omega
 clear hr7 hk7 hn7
 go_wp2_with fail
 refine(dl w7 a5 a7 c5 c7 L5 (by omega) HR57.out HR7.out).mono ?_
 rintro e w8 ⟨rfl,n8,hw8⟩
 have k8:za (fun _=>False) w7 w8:=by rw [hw8];exact kD
 have HK8:Hid (za (fun _=>False) w7 w8):=k8
 have HAl8:Hid (Row w8 a2 c2 L3):=HAl7.out.kept k8 nF
 have HH8:Hid (w8.heap[bp]? =some (.cells #[.pointer (some ⟨bd,0,none⟩),.pointer (some ⟨bs,0,none⟩),.slice a' V.vs.length cap',.int .i64 V.n0,.int .i64 (-1),.int .i64 0,.bool true] 33 (0,0))):=(k8.block bp hbp7 (fun hf=>hf)).trans HH7.out
 have hbp8:bp<w8.heap.size:=by have:=k8.size;omega
 clear hw8 k8
 go_wp2_with fail
 refine(cz w8 a2 c2 L3 (by omega) HAl8.out HL.out.sorted HKL.out).mono ?_
 rintro e w9 ⟨rfl,hk9⟩
 have HK9:Hid (za (fun _=>False) w8 w9):=hk9
 have hh9:w9.heap[bp]? =_:=(hk9.block bp hbp8 (fun hf=>hf)).trans HH8.out
 have hc29:w9.cell? ⟨bp,2,none⟩=some (.slice a' V.vs.length cap'):=(cell_of_row w9 bp 2 _ _ _ hh9).trans rfl
 have hbeq:((V.vs.length:Int)==(V.vs.length:Int))=true:=by simp
 rw [HLL.out]
 clear hk9 hh9
 go_wp2
 go_ret
 refine⟨rfl,?_⟩
 have kk:za (fun k=>w.heap.size≤k) w w9:=by
  have k5:za (fun k=>w.heap.size≤k) w w5:=by
   have s1:=HK1.out.size
   have g1:∀k,S k→w.heap.size≤k:=fun k hk=>HX.out k (HS.out.xS k hk)
   have gb:w.heap.size≤bs:=HX.out bs HS.out.xb
   have g2:∀k,S2 k→w.heap.size≤k:=fun k hk=>(HA2.out.foot k hk).elim (g1 k) (fun h=>by omega)
   have t2:=HA2.out.kept.size
   have g3:∀k,S3 k→w.heap.size≤k:=fun k hk=>(HA3.out.foot k hk).elim (g2 k) (fun h=>by omega)
   refine((((HK1.out.mono fE).trans HA2.out.kept (fun k hk=>.inl ?_)).trans HA3.out.kept (fun k hk=>.inl ?_)).trans HK4.out fE).trans HA5.out.kept (fun k hk=>.inl ?_)
   ·exact hk.elim (g1 k) (fun e=>by rw [e];exact gb)
   ·exact hk.elim (g2 k) (fun e=>by rw [e];exact gb)
   ·exact hk.elim (g3 k) (fun e=>by rw [e];exact gb)
  exact(((k5.trans HK6.out fE).trans HK7.out fE).trans HK8.out fE).trans HK9.out fE
 exact⟨kk.os,kk.tape,kk.output,kk.size,fun k hk _=>kk.block k hk (by omega)⟩
end keep
namespace law
open Go.ChangeShapes Go.WideShapes Go.ChangeAt Go.RowKit disk ref book
open keys (zj zd zA zq zs)
structure XW (M:zg):Prop where
 live:∀(w:World) (bd bs:Nat) (S:Nat→Prop) (D:Dk) (V:qH) (key:ByteArray),qG M w bd bs S D V→key.size≤maxLen→
  Calls Tryz.prog 30 #[.pointer (some ⟨bs,0,none⟩),.string key] w fun e w'=>∃D' S' c n q,e=.returned (.tuple #[.int .i64 n,.int .i64 c])∧y9 M w w' bd bs S S' D D' 40 q∧
   Chg M D D' V (V.add key true []) bd (qJ (zs key.data.toList) (XL V.vs key)) c 1 q∧n=if c=0 then V.n0+1 else 0
 shut:∀(w:World) (bs:Nat) (key:ByteArray),M.Sto w bs none→key.size≤maxLen→
  Calls Tryz.prog 30 #[.pointer (some ⟨bs,0,none⟩),.string key] w fun e w'=>e=.returned (.tuple #[.int .i64 0,.int .i64 (if zs key.data.toList=true then 8 else 2)])∧M.Sto w' bs none∧za (fun k=>k=bs) w w'
end law
namespace keep
open Go.RowKit disk ref book
open law (qH zg yE yG yN bi XW yM qG y9 Chg K7 OutIs Good)
open keys (zs)
def Yb(bd bs:Nat)(l:Value)(last:Int):Obj:=.cells #[.pointer (some ⟨bd,0,none⟩),.pointer (some ⟨bs,0,none⟩),l,.int .i64 last,.int .i64 (-1),.int .i64 0,.bool true] 33 (0,0)
structure kK (M:zg) (w0 w:World) (bp bd bs:Nat) (O:Obj) (S:Nat→Prop) (D:Dk) (V:qH):Prop where
 fore:qG M w bd bs S D V
 head:w.heap[bp]? =some O
 pS:¬S bp
 pb:bp≠bs
 low:∀k,S k→w0.heap.size≤k
 lowb:w0.heap.size≤bs
 kept:za (fun k=>w0.heap.size≤k) w0 w
 size:D.bs.length=1000
structure cA (w:World) (S:Nat→Prop) (bs:Nat) (e:TypeId) (sz:Nat) (v:Value) (n:Nat) (xs:List Value):Prop where
 row:w.ownsRow 0 e sz v n xs
 far:∀k,v.ownBlock=some k→¬S k∧k≠bs
section
variable {M:zg} {w0 w w':World} {bp bd bs:Nat} {O:Obj} {S S':Nat→Prop} {D D':Dk} {V V':qH} {most:Int}
theorem kK.lt(h:kK M w0 w bp bd bs O S D V):bp<w.heap.size:=(lT h.head)
theorem kK.bs_lt(h:kK M w0 w bp bd bs O S D V):bs<w.heap.size:=M.sto_lt _ _ _ h.fore.sto
theorem kK.keep(h:kK M w0 w bp bd bs O S D V)(k:za (fun _=>False) w w'):kK M w0 w' bp bd bs O S D V:=
 ⟨qG.kept h.fore k nF (fun hf=>hf),(k.block bp h.lt (fun hf=>hf)).trans h.head,h.pS,h.pb,h.low,h.lowb,h.kept.trans k fE,h.size⟩
theorem kK.aft(h:kK M w0 w bp bd bs O S D V)(ha:y9 M w w' bd bs S S' D D' most (some bd))(hl:M.Live D' V')(hr:D'.reads≤2305843009213693952)(hn:V'.n0≤2305843009213693952):kK M w0 w' bp bd bs O S' D' V':=by
 have h1:=y9.far ha h.lt h.pS h.pb
 refine⟨⟨ha.disk,fun hk=>?_,ha.sto,hl,ha.fuse,by have:=h.fore.reads0;have:=ha.reads0;omega,hr,hn⟩,h1.1.trans h.head,h1.2,h.pb,fun k hk=>?_,h.lowb,h.kept.trans ha.kept (fun k hk=>.inl ?_),ha.size.trans h.size⟩
 ·rcases ha.foot bs hk with h2|h2
  ·exact h.fore.apart h2
  ·have:=h.bs_lt;omega
 ·rcases ha.foot k hk with h2|h2
  ·exact h.low k h2
  ·have:=h.kept.size;omega
 ·rcases hk with hk|hk
  ·exact h.low k hk
  ·rw [hk];exact h.lowb
theorem kK.c1{l:Value}{n:Int}(h:kK M w0 w bp bd bs (Yb bd bs l n) S D V):w.cell? ⟨bp,1,none⟩=some (.pointer (some ⟨bs,0,none⟩)):=(cell_of_row w bp 1 _ _ _ h.head).trans rfl
theorem kK.end(h:kK M w0 w bp bd bs O S D V):za (fun _=>False) w0 w:=⟨h.kept.os,h.kept.tape,h.kept.output,h.kept.size,fun k hk _=>h.kept.block k hk (by omega)⟩
theorem cA.keep{e:TypeId}{sz n:Nat}{v:Value}{xs:List Value}(h:cA w S bs e sz v n xs)(k:za (fun _=>False) w w'):cA w' S bs e sz v n xs:=⟨k.owns h.row nF,h.far⟩
theorem cA.aft{e:TypeId}{sz n:Nat}{v:Value}{xs:List Value}(h:cA w S bs e sz v n xs)(ha:y9 M w w' bd bs S S' D D' most (some bd)):cA w' S' bs e sz v n xs:=
 ⟨ha.kept.owns h.row (fun k hk hc=>hc.elim (h.far k hk).1 (h.far k hk).2),fun k hk=>⟨(y9.far ha (h.row.lt k hk).2 (h.far k hk).1 (h.far k hk).2).2,(h.far k hk).2⟩⟩
def Kg(V:qH)(key:ByteArray):Int:=gC true (zY V.vs key)
def Kh(V:qH)(key:ByteArray):Int:=match zY V.vs key with
 |some u=>if u.mark then 0 else u.num
 |none=>0
def cB(V:qH)(key:ByteArray):List UInt8:=match zY V.vs key with
 |some u=>if u.mark then [] else u.body
 |none=>[]
structure Ki (w:World) (S:Nat→Prop) (bs:Nat) (a:Option Addr) (cap:Nat) (l:List UInt8):Prop where
 row:l=[]∨cA w S bs 5 1 (.slice a l.length cap) l.length (l.map qe)
theorem Ki.keep{a:Option Addr}{cap:Nat}{l:List UInt8}(h:Ki w S bs a cap l)(k:za (fun _=>False) w w'):Ki w' S bs a cap l:=⟨h.row.imp id (fun h=>h.keep k)⟩
theorem Ki.aft{a:Option Addr}{cap:Nat}{l:List UInt8}(h:Ki w S bs a cap l)(ha:y9 M w w' bd bs S S' D D' most (some bd)):Ki w' S' bs a cap l:=⟨h.row.imp id (fun h=>h.aft ha)⟩
theorem Ki.bytes{a:Option Addr}{cap:Nat}{l:List UInt8}(h:Ki w S bs a cap l):zE w (fun _=>True) a l:=by
 rcases h.row with h|h
 ·exact .inl h
 ·exact zE.of_own 5 h.row rfl _ (fun _ _=>trivial)
theorem Vp(A:bi M)(h:kK M w0 w bp bd bs O S D V)(hr:D.reads≤1000000000000)(key:ByteArray)(hk:zs key.data.toList=true):
 Calls Tryz.prog 26 #[.pointer (some ⟨bs,0,none⟩),.string key] w fun e w'=>∃S' D' a cap,e=.returned (.tuple #[.slice a (cB V key).length cap,.int .i64 (Kh V key),.int .i64 (Kg V key)])∧y9 M w w' bd bs S S' D D' 40 (some bd)∧kK M w0 w' bp bd bs O S' D' V∧D'.reads≤D.reads+40∧Ki w' S' bs a cap (cB V key):=by
 have hks:=jb hk
 refine(A.live w bd bs S D V key h.fore (by unfold maxLen;omega)).mono ?_
 rintro e w' ⟨D',x,n,S',rfl,ha,hl,hout,hx,hn1,hn2⟩
 rw [hk] at hout hn1 hn2 ⊢
 have hs:=h.aft ha hl (by have:=ha.reads1;omega) h.fore.few
 have hbs:=h.bs_lt
 cases hnw:zY V.vs key with
 |none=>
  rw [hnw] at hout hn1
  obtain⟨a,cap,rfl⟩:=hout.2 (by decide)
  obtain rfl:=hn1 (by decide)
  refine⟨S',D',a,cap,?_,ha,hs,ha.reads1,⟨.inl ?_⟩⟩
  ·unfold cB Kh Kg;rw [hnw];rfl
  ·unfold cB;rw [hnw]
 |some u=>
  rw [hnw] at hout hn1 hn2
  cases hm:u.mark with
  |true=>
   have e1:gC true (some u)=5:=by show cond u.mark 5 0=5;rw [hm];rfl
   rw [e1] at hout hn1 ⊢
   obtain⟨a,cap,rfl⟩:=hout.2 (by decide)
   obtain rfl:=hn1 (by decide)
   refine⟨S',D',a,cap,?_,ha,hs,ha.reads1,⟨.inl ?_⟩⟩
   ·unfold cB Kh Kg;rw [hnw];simp only [hm,if_true,e1];rfl
   ·unfold cB;rw [hnw];simp only [hm,if_true]
  |false=>
   have e1:gC true (some u)=0:=by show cond u.mark 5 0=0;rw [hm];rfl
   rw [e1] at hout hn2 ⊢
   obtain⟨u',hu',a,cap,rfl,hrow,hfr⟩:=hout.1 rfl
   obtain rfl:u=u':=by simpa using hu'
   have hn:=hn2 u rfl rfl
   subst hn
   have eL:cB V key=u.body:=by unfold cB;rw [hnw];simp [hm]
   rw [eL]
   refine⟨S',D',a,cap,?_,ha,hs,ha.reads1,⟨.inr ⟨hrow,fun k hk=>⟨hx k hk,by have:=hfr k hk;omega⟩⟩⟩⟩
   unfold Kh Kg;rw [hnw];simp [hm,e1]
theorem Kj(A:yG M)(hM:∀f,M.Fu f→f≠0)(h:kK M w0 w bp bd bs O S D V)(hr:D.reads≤1000000000000)(hn0:V.n0≤1000000)(hw:weight V.vs≤480)(key:ByteArray)(hk:zs key.data.toList=true)(P:Nat→Prop)(a:Option Addr)(c:Nat)(l:List UInt8)(hb:zE w P a l)(hP:∀k,P k→¬S k∧k≠bs)(hl:l.length≤300)(hc:l.length≤c)(hc2:c≤9223372036854775807):
 Calls Tryz.prog 27 #[.pointer (some ⟨bs,0,none⟩),.string key,.slice a l.length c] w fun e w'=>∃S' D',e=.returned (.tuple #[.int .i64 (V.n0+1),.int .i64 0])∧y9 M w w' bd bs S S' D D' 40 (some bd)∧kK M w0 w' bp bd bs O S' D' (V.add key false l)∧D'.reads≤D.reads+40:=by
 have hks:=jb hk
 refine(A.live w bd bs S P D V key a c l h.fore (by unfold maxLen;omega) hb hP (by omega) hc hc2).mono ?_
 rintro e w' ⟨D',S',c',n,q,rfl,ha,hchg,hn⟩
 have hw0:kT (zs key.data.toList) l.length=0:=by rw [hk];show (if 300<l.length then (3:Int) else 0)=0;rw [if_neg (by omega)]
 have hfit:y6 V.vs (qx l.length) D.bs.length=true:=by
  unfold y6 qx
  rw [h.size]
  refine decide_eq_true ?_
  omega
 obtain⟨rfl,rfl,hlive⟩:c'=0∧q=some bd∧M.Live D' (V.add key false l):=by
  rcases hchg.is with h|h|h|h
  ·exact absurd hw0 h.1
  ·exact h.2
  ·rw [hfit] at h;exact absurd h.2.2.2.2 (by simp)
  ·exact absurd h.2.2.2.1 (hM _ ha.fuse)
 rw [if_pos rfl] at hn
 subst hn
 have hnn:V.n0+1≤2305843009213693952:=by omega
 exact⟨S',D',rfl,ha,h.aft ha hlive (by have:=ha.reads1;omega) hnn,ha.reads1⟩
theorem Vq(A:XW M)(hM:∀f,M.Fu f→f≠0)(h:kK M w0 w bp bd bs O S D V)(hr:D.reads≤1000000000000)(hn0:V.n0≤1000000)(hw:weight V.vs≤480)(key:ByteArray)(hk:zs key.data.toList=true)(hbare:XL V.vs key=false):
 Calls Tryz.prog 30 #[.pointer (some ⟨bs,0,none⟩),.string key] w fun e w'=>∃S' D',e=.returned (.tuple #[.int .i64 (V.n0+1),.int .i64 0])∧y9 M w w' bd bs S S' D D' 40 (some bd)∧kK M w0 w' bp bd bs O S' D' (V.add key true [])∧D'.reads≤D.reads+40:=by
 have hks:=jb hk
 refine(A.live w bd bs S D V key h.fore (by unfold maxLen;omega)).mono ?_
 rintro e w' ⟨D',S',c',n,q,rfl,ha,hchg,hn⟩
 have hw0:qJ (zs key.data.toList) (XL V.vs key)=0:=by rw [hk,hbare];rfl
 have hfit:y6 V.vs 1 D.bs.length=true:=by
  unfold y6
  rw [h.size]
  refine decide_eq_true ?_
  omega
 obtain⟨rfl,rfl,hlive⟩:c'=0∧q=some bd∧M.Live D' (V.add key true []):=by
  rcases hchg.is with h|h|h|h
  ·exact absurd hw0 h.1
  ·exact h.2
  ·rw [hfit] at h;exact absurd h.2.2.2.2 (by simp)
  ·exact absurd h.2.2.2.1 (hM _ ha.fuse)
 rw [if_pos rfl] at hn
 subst hn
 have hnn:V.n0+1≤2305843009213693952:=by omega
 exact⟨S',D',rfl,ha,h.aft ha hlive (by have:=ha.reads1;omega) hnn,ha.reads1⟩
theorem Kk(A:yM M)(hM:∀f,M.Fu f→f≠0)(h:kK M w0 w bp bd bs O S D V)(hr:D.reads≤1000000000000)(hn0:V.n0≤1000000)(hw:weight V.vs≤480)(key:ByteArray)(hk:zs key.data.toList=true)(num:Int)(hnum:zG num)(hfind:∃v∈V.vs,v.key=key∧v.num=num):
 Calls Tryz.prog 31 #[.pointer (some ⟨bs,0,none⟩),.string key,.int .i64 num] w fun e w'=>∃S' D',e=.returned (.int .i64 0)∧y9 M w w' bd bs S S' D D' 40 (some bd)∧kK M w0 w' bp bd bs O S' D' (V.sub key num)∧D'.reads≤D.reads+40:=by
 have hks:=jb hk
 refine(A.live w bd bs S D V key num h.fore (by unfold maxLen;omega) hnum).mono ?_
 rintro e w' ⟨D',S',c',q,rfl,ha,hchg⟩
 have hw0:K4 (zs key.data.toList) (xM V.vs key num)=0:=by
  rw [hk]
  cases hf:xM V.vs key num with
  |none=>obtain⟨v,hv,h1⟩:=hfind;exact absurd h1 (dg hf v hv)
  |some v=>rfl
 have hfit:y6 V.vs 0 D.bs.length=true:=by
  unfold y6
  rw [h.size]
  refine decide_eq_true ?_
  omega
 obtain⟨rfl,rfl,hlive⟩:c'=0∧q=some bd∧M.Live D' (V.sub key num):=by
  rcases hchg.is with h|h|h|h
  ·exact absurd hw0 h.1
  ·exact h.2
  ·rw [hfit] at h;exact absurd h.2.2.2.2 (by simp)
  ·exact absurd h.2.2.2.1 (hM _ ha.fuse)
 exact⟨S',D',rfl,ha,h.aft ha hlive (by have:=ha.reads1;omega) (by show V.n0≤_;omega),ha.reads1⟩
theorem Va(A:yN M)(h:kK M w0 w bp bd bs O S D V)(hr:D.reads≤1000000000000)(hlen:V.vs.length≤1000)(m:Nat)(m1:1≤m)(m2:m≤50):
 Calls Tryz.prog 20 #[.pointer (some ⟨bs,0,none⟩),.string ⟨#[]⟩,.int .i64 (m:Int)] w fun e w'=>∃S' D' a c L,e=.returned (.tuple #[.slice a L.length c,.bool true])∧y9 M w w' bd bs S S' D D' 2000000 (some bd)∧kK M w0 w' bp bd bs O S' D' V∧D'.reads≤D.reads+2000000∧qz V.vs ByteArray.empty ByteArray.empty 0 L∧cA w' S' bs 94 4 (.slice a L.length c) L.length (law.qr L):=by
 refine(xw M A w bd bs S D V h.fore ⟨#[]⟩ (.inl rfl) (by decide) m m1 m2 hlen hr).mono ?_
 rintro e w' ⟨D',S',a,c,L,rfl,ha,hl,hL,hrow,hnew⟩
 exact⟨S',D',a,c,L,rfl,ha,h.aft ha hl (by have:=ha.reads1;omega) h.fore.few,ha.reads1,hL,⟨hrow,fun k hk=>⟨(hnew k hk).2,by have:=(hnew k hk).1;have:=h.bs_lt;omega⟩⟩⟩
theorem qI.sit{X:Nat→Prop}{a:Option Addr}{cap:Nat}{cs:List (List Value)}{G:Nat→Prop}(h:qI M w X bp bd bs S D V a cap cs G)(hk:za (fun _=>False) w0 w)(hx:∀k,X k→w0.heap.size≤k):kK M w0 w bp bd bs (Yb bd bs (.slice a V.vs.length cap) V.n0) S D V:=
 ⟨h.fore,h.head,h.pS,h.pb,fun k hk=>hx k (h.xS k hk),hx bs h.xb,hk.mono fE,h.size⟩
end
theorem KL{V:qH}(h:law.Good V)(key:ByteArray)(mark:Bool)(l:List UInt8):zY (V.add key mark l).vs key=some ⟨key,V.n0+1,mark,l⟩:=by
 unfold zY qH.add
 rw [List.foldl_append]
 show x7 key (zY V.vs key) _=_
 cases hn:zY V.vs key with
 |none=>unfold x7;simp
 |some u=>
  obtain⟨h1,h2,_⟩:=jH hn
  have:=(h.num u h2).2
  unfold x7
  exact if_pos ⟨rfl,(show u.num<V.n0+1 by omega)⟩
theorem Vr{V:qH}(h:∀v∈V.vs,v.num≤V.n0)(key:ByteArray)(mark:Bool)(l:List UInt8):(V.add key mark l).sub key (V.n0+1)=⟨V.vs,V.n0+1⟩:=by
 unfold qH.add qH.sub jZ
 simp only [List.filter_append]
 congr 1
 rw [List.filter_eq_self.2 (fun v hv=>by have:=h v hv;simp;exact .inr (by omega))]
 simp
end keep
end Go.Proofs.YtcoengihaobddaaGreatDoor
