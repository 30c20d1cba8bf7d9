/- Part 8 of 34 of a proof: Keep2, Keep3, Keep4, Keep5, Keep6, Keep7 -/
import Derived.Test.YtcoengihaobddaaGreatDoorJk07
set_option maxHeartbeats 8000000
set_option linter.unusedVariables false
set_option linter.unusedSimpArgs false
set_option maxRecDepth 8000
namespace Go.Proofs.YtcoengihaobddaaGreatDoor
open Go.ChangeShapes Go.WideShapes Go.ChangeAt Go.RowKit disk ref book
open keys (ze zd zr zn zu)
namespace keep
open law (gG KW dm)
def Row(w:World)(a:Option Addr)(c:Nat)(L:List qa):Prop:=w.ownsRow 0 94 4 (.slice a L.length c) L.length (gG L)
theorem Row.cells{w:World}{a:Option Addr}{c:Nat}{L:List qa}(h:Row w a c L)(h0:0<L.length):∃g,a=some ⟨g,0,none⟩∧g<w.heap.size∧∀k (hk:k<L.length),w.cell? ⟨g,k*4,none⟩=some (.string L[k].key)∧w.cell? ⟨g,k*4+1,none⟩=some (.int .i64 L[k].num)∧w.cell? ⟨g,k*4+2,none⟩=some (.bool L[k].mark)∧w.cell? ⟨g,k*4+3,none⟩=some (.int .i64 (L[k].body.length:Int)):=dm h h0
theorem Row.kept{w w':World}{T:Nat→Prop}{a:Option Addr}{c:Nat}{L:List qa}(h:Row w a c L)(k:Kept T w w')(hn:∀i,(Value.slice a L.length c).ownBlock=some i→¬T i):Row w' a c L:=k.owns h hn
theorem Tryz.infoVer:(Tryz.prog.info? 94).map (fun i=>(i.zero,i.size,i.bytes))=some (some (.agg #[.string ⟨#[]⟩,.int .i64 0,.bool false,.int .i64 0]),4,40):=by kernel_rfl
def pre(p:ByteArray)(L:List qa):List qa:=L.filter fun v=>p.data.toList.isPrefixOf v.key.data.toList
end keep
namespace keep
open law (qe zc qv yj zR jI cB Chg)
structure Jf (w:World) (P:Nat→Prop) (cs:List Value) (v:qa):Prop where
 at_:∃a cap,cs=[.string v.key,.int .i64 v.num,.slice a v.body.length cap]∧zv w P a v.body
structure Told (w:World) (P:Nat→Prop) (cs:List (List Value)) (vs:List qa):Prop where
 len:cs.length=vs.length
 each:∀i (h:i<cs.length) (h':i<vs.length),Jf w P cs[i] vs[i]
theorem Told.kept{w w':World}{P T:Nat→Prop}{cs:List (List Value)}{vs:List qa}(h:Told w P cs vs)(k:Kept T w w')(hn:∀i,P i→¬T i):Told w' P cs vs:=
 ⟨h.len,fun i h1 h2=>by
  obtain⟨a,c,e,hb⟩:=(h.each i h1 h2).at_
  exact⟨a,c,e,hb.kept k hn⟩⟩
theorem Told.mono{w:World}{P Q:Nat→Prop}{cs:List (List Value)}{vs:List qa}(h:Told w P cs vs)(hs:∀i,P i→i<w.heap.size→Q i):Told w Q cs vs:=
 ⟨h.len,fun i h1 h2=>by
  obtain⟨a,c,e,hb⟩:=(h.each i h1 h2).at_
  exact⟨a,c,e,hb.mono hs⟩⟩
theorem Told.nil(w:World)(P:Nat→Prop):Told w P [] []:=⟨rfl,fun i h=>by simp at h⟩
theorem Told.snoc{w:World}{P:Nat→Prop}{cs:List (List Value)}{vs:List qa}(h:Told w P cs vs){c:List Value}{v:qa}(hv:Jf w P c v):Told w P (cs++[c]) (vs++[v]):=by
 refine⟨by simp [h.len],fun i h1 h2=>?_⟩
 by_cases hi:i<cs.length
 ·rw [List.getElem_append_left hi,List.getElem_append_left (by rw [←h.len];exact hi)]
  exact h.each i hi _
 ·have hl:=h.len
  have e:i=cs.length:=by simp at h1;omega
  subst e
  rw [List.getElem_append_right (by omega),List.getElem_append_right (by omega)]
  simpa [hl] using hv
theorem Told.three{w:World}{P:Nat→Prop}{cs:List (List Value)}{vs:List qa}(h:Told w P cs vs):∀c∈cs,c.length=3:=fun c hc=>by
 obtain⟨i,hi,rfl⟩:=List.getElem_of_mem hc
 obtain⟨a,c,e,_⟩:=(h.each i hi (by rw [←h.len];exact hi)).at_
 rw [e];rfl
theorem Told.one{w:World}{P:Nat→Prop}{cs:List (List Value)}{vs:List qa}(h:Told w P cs vs):∀u∈cs.flatten,u.oneCell'=true:=fun u hu=>by
 obtain⟨c,hc,hu⟩:=List.mem_flatten.1 hu
 obtain⟨i,hi,rfl⟩:=List.getElem_of_mem hc
 obtain⟨a,cap,e,_⟩:=(h.each i hi (by rw [←h.len];exact hi)).at_
 rw [e] at hu
 simp only [List.mem_cons,List.not_mem_nil,or_false] at hu
 rcases hu with rfl|rfl|rfl<;>rfl
structure xd (M:zc) (w:World) (X:Nat→Prop) (bp bd bs:Nat) (S:Nat→Prop) (D:Dk) (V:qe) (a:Option Addr) (cap:Nat) (cs:List (List Value)) (G:Nat→Prop):Prop where
 head:w.heap[bp]? =some (.cells #[.pointer (some ⟨bd,0,none⟩),.pointer (some ⟨bs,0,none⟩),.slice a V.vs.length cap,.int .i64 V.n0,.int .i64 (-1),.int .i64 0,.bool true] 33 (0,0))
 fore:zR M w bd bs S D V
 size:D.bs.length=1000
 row:w.ownsRow 0 85 3 (.slice a V.vs.length cap) V.vs.length cs.flatten
 told:Told w G cs V.vs
 xlt:∀k,X k→k<w.heap.size
 xS:∀k,S k→X k
 xb:X bs
 xp:X bp
 xr:∀k,(Value.slice a V.vs.length cap).ownBlock=some k→X k
 xG:∀k,G k→X k
 pS:¬S bp
 pb:bp≠bs
 rS:∀k,(Value.slice a V.vs.length cap).ownBlock=some k→¬S k∧k≠bs∧k≠bp
 gS:∀k,G k→¬S k∧k≠bs∧k≠bp∧(Value.slice a V.vs.length cap).ownBlock≠some k
section
variable {M:zc} {w w':World} {X T:Nat→Prop} {bp bd bs:Nat} {S:Nat→Prop} {D:Dk} {V:qe} {a:Option Addr} {cap:Nat} {cs:List (List Value)} {G:Nat→Prop}
theorem zR.kept(h:zR M w bd bs S D V)(k:Kept T w w')(hS:∀i,S i→¬T i)(hb:¬T bs):zR M w' bd bs S D V:=
 ⟨h.disk.kept k hS,h.apart,M.sto_kept _ _ _ _ _ h.sto k hb,h.live,h.fuse,h.reads0,h.reads1,h.few⟩
theorem xd.lt(h:xd M w X bp bd bs S D V a cap cs G):bp<w.heap.size:=h.xlt bp h.xp
theorem xd.kept(h:xd M w X bp bd bs S D V a cap cs G)(k:Kept T w w')(hn:∀i,X i→¬T i):xd M w' X bp bd bs S D V a cap cs G:=
 ⟨(k.block bp h.lt (hn bp h.xp)).trans h.head,zR.kept h.fore k (fun i hi=>hn i (h.xS i hi)) (hn bs h.xb),h.size,k.owns h.row (fun i hi=>hn i (h.xr i hi)),h.told.kept k (fun i hi=>hn i (h.xG i hi)),
   fun i hi=>Nat.lt_of_lt_of_le (h.xlt i hi) k.size,h.xS,h.xb,h.xp,h.xr,h.xG,h.pS,h.pb,h.rS,h.gS⟩
theorem xd.c(h:xd M w X bp bd bs S D V a cap cs G):w.cell? ⟨bp,0,none⟩=some (.pointer (some ⟨bd,0,none⟩))∧w.cell? ⟨bp,1,none⟩=some (.pointer (some ⟨bs,0,none⟩))∧w.cell? ⟨bp,2,none⟩=some (.slice a V.vs.length cap)∧w.cell? ⟨bp,3,none⟩=some (.int .i64 V.n0)∧w.cell? ⟨bp,5,none⟩=some (.int .i64 0)∧w.cell? ⟨bp,6,none⟩=some (.bool true)∧∀i,w.frozen? ⟨bp,i,none⟩=false:=by
 have hh:=h.head
 refine⟨?_,?_,?_,?_,?_,?_,fun i=>frozen_of_row w bp i _ _ hh⟩<;>rw [cell_of_row w bp _ _ _ _ hh]<;>rfl
theorem xd.rowAt(h:xd M w X bp bd bs S D V a cap cs G)(hn:0<V.vs.length):∃g,a=some ⟨g,0,none⟩:=by
 rcases h.row.2 with⟨h0,h1⟩|⟨g,cap',cur,hv,_⟩
 ·simp at h0;omega
 ·cases hv;exact⟨g,rfl⟩
theorem xd.cells{g:Nat}(h:xd M w X bp bd bs S D V (some ⟨g,0,none⟩) cap cs G)(i:Nat)(hi:i<V.vs.length):
 w.cell? ⟨g,i*3,none⟩=some (.string V.vs[i].key)∧w.cell? ⟨g,i*3+1,none⟩=some (.int .i64 V.vs[i].num)∧∃a' cap',w.cell? ⟨g,i*3+2,none⟩=some (.slice a' V.vs[i].body.length cap')∧zv w G a' V.vs[i].body:=by
 have hl:=h.told.len
 have hr:=h.row
 rw [←hl] at hr
 have hx:=qI hr h.told.three i (by rw [hl];exact hi)
 obtain⟨a',cap',e,hb⟩:=(h.told.each i (by rw [hl];exact hi) hi).at_
 rw [e] at hx
 exact⟨hx 0 _ rfl,hx 1 _ rfl,a',cap',hx 2 _ rfl,hb⟩
theorem jw(h:xd M w X bp bd bs S D V a cap cs G)(hw:weight V.vs≤1000):Calls Tryz.prog 32 #[.pointer (some ⟨bp,0,none⟩)] w fun e w'=>e=.returned (.int .i64 (weight V.vs:Nat))∧w'=w:=by
 obtain⟨_,_,hc2,_,hc5,_,_⟩:=h.c
 have hfew:=h.fore.live.good.few
 have HB:Hid (∀v∈V.vs,v.body.length≤300):=h.fore.live.good.body
 have HH:Hid (xd M w X bp bd bs S D V a cap cs G):=h
 clear h
 go_enter Tryz.func32,Tryz.ntmps32
 go_wp2
 go_loop [3,4] (fun t i=>∃k:Nat,k≤V.vs.length∧i=.int .i64 k∧t=.int .i64 ((weight (V.vs.take k):Nat):Int)) (fun _ i=>V.vs.length-(intOf i).toNat)
 case atStart=>exact⟨0,Nat.zero_le _,rfl,by simp [weight]⟩
 case round=>
  obtain⟨k,hk,rfl,rfl⟩:=hrel
  have hwl:=v6 (vs:=V.vs.take k) (fun v hv=>by have:=HB.out v (List.mem_of_mem_take hv);omega)
  have htl:(V.vs.take k).length≤V.vs.length:=by rw [List.length_take];omega
  generalize hW:weight (V.vs.take k)=W at*
  have HW:Hid _:=hW
  clear hW
  have hW2:W≤100000:=by omega
  clear hwl htl
  by_cases hlt:k<V.vs.length
  ·have HS:Hid _:=jH V.vs k hlt
   obtain⟨g,rfl⟩:=HH.out.rowAt (by omega)
   obtain⟨_,_,a',cap',h3,_⟩:=HH.out.cells k hlt
   have hb1:=HB.out V.vs[k] (List.getElem_mem hlt)
   have hkI:(k:Int)<(V.vs.length:Int):=by omega
   go_wp2
   go_round
   case rel=>exact⟨k+1,by omega,by go_num,by rw [HS.out,HW.out];unfold qr;go_num⟩
   case measure=>simp [intOf];omega
  ·have he:weight V.vs=W:=by
    have e:V.vs.take k=V.vs:=List.take_of_length_le (by omega)
    rw [←HW.out,e]
   go_wp2
   go_ret
   exact⟨ze rfl,rfl⟩
theorem cF(M:zc)(A:qv M)(hM:∀f,M.Fu f→f≠0)(w:World):Calls Tryz.prog 14 #[] w fun e w'=>∃X bp bd bs S D,e=.returned (.pointer (some ⟨bp,0,none⟩))∧xd M w' X bp bd bs S D ⟨[],0⟩ none 0 [] (fun _=>False)∧Kept (fun _=>False) w w'∧(∀k,X k→w.heap.size≤k)∧D.reads≤2000:=by
 go_enter Tryz.func14,Tryz.ntmps14
 go_wp2_with fail
 refine(xQ _ 1000 (by unfold zD;omega)).mono ?_
 rintro e w1 ⟨rfl,hd1,hk1⟩
 have HD1:Hid (zh w1 (w.heap.size+1) (fun k=>k=w.heap.size+1∨k=w.heap.size) (Dk.fresh (je 1000))):=hd1
 have HK1:Hid (Kept (fun _=>False) w w1):=hk1
 have hl1:=hd1.lt (w.heap.size+1) (.inl rfl)
 have hs1:=hk1.size
 clear hd1 hk1
 go_wp2_with fail
 have hb2:=heap_alloc_new w1 (.cells #[.pointer (some ⟨w.heap.size+1,0,none⟩),.pointer none,.slice none 0 0,.int .i64 0,.int .i64 (-1),.int .i64 0,.bool false] 33)
 have hk2:Kept (fun _=>False) w1 (w1.alloc (.cells #[.pointer (some ⟨w.heap.size+1,0,none⟩),.pointer none,.slice none 0 0,.int .i64 0,.int .i64 (-1),.int .i64 0,.bool false] 33)):=Kept.alloc _ _ _
 have hs2:(w1.alloc (.cells #[.pointer (some ⟨w.heap.size+1,0,none⟩),.pointer none,.slice none 0 0,.int .i64 0,.int .i64 (-1),.int .i64 0,.bool false] 33)).heap.size=w1.heap.size+1:=by simp
 generalize w1.alloc (.cells #[.pointer (some ⟨w.heap.size+1,0,none⟩),.pointer none,.slice none 0 0,.int .i64 0,.int .i64 (-1),.int .i64 0,.bool false] 33)=w2 at*
 have hd2:=HD1.out.kept hk2 nF
 have HK2:Hid (Kept (fun _=>False) w w2):=HK1.out.trans hk2 iL
 have HB2:Hid (w2.heap[w1.heap.size]? =some (.cells #[.pointer (some ⟨w.heap.size+1,0,none⟩),.pointer none,.slice none 0 0,.int .i64 0,.int .i64 (-1),.int .i64 0,.bool false] 33 (0,0))):=hb2
 have hcould:M.Could (Dk.fresh (je 1000)) (fun U=>U=⟨[],0⟩):=⟨by simp [Dk.fresh],by simp [Dk.fresh,je],fun ks=>⟨_,rfl,M.zeros (je 1000) (by decide) (by decide)⟩⟩
 refine(A.big w2 (w.heap.size+1) _ _ (fun U=>U=⟨[],0⟩) hd2 hcould M.fu_neg (by show (0:Int)≤0;omega) (by show (0:Int)≤_;omega)).mono ?_
 rintro e w3 ⟨D',S',hop,⟨bs,V,rfl,hbs,hSbs,hsto,rfl,hlive⟩|⟨rfl,hf,hc⟩⟩
 ·have HOP:Hid (cB M w2 w3 (w.heap.size+1) (fun k=>k=w.heap.size+1∨k=w.heap.size) S' (Dk.fresh (je 1000)) D'):=hop
  have HLV:Hid (M.Live D' ⟨[],0⟩):=hlive
  have HST:Hid (M.Sto w3 bs (some (w.heap.size+1))):=hsto
  have HSB:Hid (¬S' bs):=hSbs
  have hb3:w3.heap[w1.heap.size]? =_:=(hop.kept.block w1.heap.size (by omega) (by omega)).trans hb2
  have HB3:Hid (w3.heap[w1.heap.size]? =some (.cells #[.pointer (some ⟨w.heap.size+1,0,none⟩),.pointer none,.slice none 0 0,.int .i64 0,.int .i64 (-1),.int .i64 0,.bool false] 33 (0,0))):=hb3
  have hs3:=hop.kept.size
  have hc1:w3.cell? ⟨w1.heap.size,1,none⟩=some (.pointer none):=cR hb3 rfl
  have hc6:w3.cell? ⟨w1.heap.size,6,none⟩=some (.bool false):=cR hb3 rfl
  have hf1:=frozen_of_row w3 w1.heap.size 1 _ _ hb3
  have hf6:=frozen_of_row w3 w1.heap.size 6 _ _ hb3
  clear hb3 hb2 hop hlive hsto hcould hd2 hSbs hk2
  go_wp2_with fail
  go_ret
  have k3:Kept (fun k=>k=w1.heap.size) w3 ((w3.setCell ⟨w1.heap.size,1,none⟩ (.pointer (some ⟨bs,0,none⟩))).setCell ⟨w1.heap.size,6,none⟩ (.bool true)):=
   (Kept.setCell (S:=fun k=>k=w1.heap.size) w3 ⟨w1.heap.size,1,none⟩ _ rfl).trans (Kept.setCell (S:=fun k=>k=w1.heap.size) _ ⟨w1.heap.size,6,none⟩ _ rfl) iL
  have hb5:((w3.setCell ⟨w1.heap.size,1,none⟩ (.pointer (some ⟨bs,0,none⟩))).setCell ⟨w1.heap.size,6,none⟩ (.bool true)).heap[w1.heap.size]? =some (.cells #[.pointer (some ⟨w.heap.size+1,0,none⟩),.pointer (some ⟨bs,0,none⟩),.slice none 0 0,.int .i64 0,.int .i64 (-1),.int .i64 0,.bool true] 33 (0,0)):=by
   have e1:=heap_setCell_same w3 w1.heap.size 1 _ _ (.pointer (some ⟨bs,0,none⟩)) HB3.out
   exact heap_setCell_same _ w1.heap.size 6 _ _ (.bool true) e1
  have hS':∀k,S' k→k=w.heap.size+1∨k=w.heap.size∨w2.heap.size≤k:=fun k hk=>by
   rcases HOP.out.foot k hk with(h|h)|h
   ·exact .inl h
   ·exact .inr (.inl h)
   ·exact .inr (.inr h)
  have hSw:¬S' w1.heap.size:=fun hk=>by have:=hS' _ hk;omega
  have hbsl:=M.sto_lt _ _ _ HST.out
  have hrd:=HOP.out.reads1
  have hrd0:=HOP.out.reads0
  have ez:(Dk.fresh (je 1000)).bs.length=1000:=by simp [Dk.fresh,je]
  have er:(Dk.fresh (je 1000)).reads=0:=rfl
  rw [ez,er] at hrd
  rw [er] at hrd0
  have k4:=HK2.out.trans HOP.out.kept (fun k hk=>.inr (by rcases hk with e|e<;>omega))
  refine⟨fun k=>S' k∨k=bs∨k=w1.heap.size,w1.heap.size,w.heap.size+1,bs,S',D',rfl,⟨hb5,⟨HOP.out.disk.kept k3 (fun k hk e=>hSw (by rw [←show k=w1.heap.size from e];exact hk)),HSB.out,M.sto_kept _ _ _ _ _ HST.out k3 (by omega),HLV.out,HOP.out.fuse,hrd0,by omega,by show (0:Int)≤_;omega⟩,HOP.out.size.trans ez,World.ownsRow_nil _ _ _ _,Told.nil _ _,?_,fun k hk=>.inl hk,.inr (.inl rfl),.inr (.inr rfl),fun k hk=>(by cases hk),fun k hk=>hk.elim,hSw,by omega,fun k hk=>(by cases hk),fun k hk=>hk.elim⟩,k4.trans k3 (fun k hk=>.inr (by rw [hk];omega)),?_,by omega⟩
  ·intro k hk
   have hz:=k3.size
   rcases hk with hk|rfl|rfl
   ·have:=HOP.out.disk.lt k hk;omega
   ·omega
   ·omega
  ·rintro k (hk|rfl|rfl)
   ·have:=hS' k hk;omega
   ·omega
   ·omega
 ·exact absurd hf (hM _ hop.fuse)
end
end keep
namespace keep
open law (qe zc qv yj zR jI cB Chg Yt)
theorem Tryz.infoKp:(Tryz.prog.info? 85).map (fun i=>(i.zero,i.size,i.bytes))=some (some (.agg #[.string ⟨#[]⟩,.int .i64 0,.slice none 0 0]),3,48):=by kernel_rfl
theorem Yv{w:World}{base n:Nat}{t:TypeId}{a:Option Addr}{c:Nat}{xs:List Value}(h:w.ownsRow base t 1 (.slice a n c) n xs):n≤c∧c≤maxLen:=by
 rcases h.2 with⟨h0,h1⟩|⟨g,cap',cur,hv,_,_,h2,h3,_⟩
 ·simp only [Value.slice.injEq] at h0;omega
 ·simp only [Value.slice.injEq] at hv;omega
section
variable {M:zc} {w w':World} {X T:Nat→Prop} {bp bd bs:Nat} {S:Nat→Prop} {D:Dk} {V:qe} {a:Option Addr} {cap:Nat} {cs:List (List Value)} {G:Nat→Prop}
theorem xd.pushed(h:xd M w X bp bd bs S D V a cap cs G){w3 w4 w5:World}{S2:Nat→Prop}{D2:Dk}{key:ByteArray}{B:List UInt8}(k3:Kept (fun k=>S k∨k=bs∨k=bp) w w3)(hS2:∀k,S2 k→(S k∨w.heap.size≤k)∧k<w3.heap.size)
 (f3:zR M w3 bd bs S2 D2 (V.add key false B)) (hz:D2.bs.length=1000)
 (hd3:w3.heap[bp]? =some (.cells #[.pointer (some ⟨bd,0,none⟩),.pointer (some ⟨bs,0,none⟩),.slice a V.vs.length cap,.int .i64 (V.n0+1),.int .i64 (-1),.int .i64 0,.bool true] 33 (0,0)))
 (k4:Kept (fun _=>False) w3 w4) (a2:Option Addr) (c2:Nat) (own4:w4.ownsRow 0 5 1 (.slice a2 B.length c2) B.length (B.map qc)) (fr4:∀k,(Value.slice a2 B.length c2).ownBlock=some k→w3.heap.size≤k)
 (o:Obj) (g c3:Nat) (hown:w5.ownsRow 0 85 3 (.slice (some ⟨g,0,none⟩) (V.vs.length+1) c3) (V.vs.length+1) (cs.flatten++[.string key,.int .i64 (V.n0+1),.slice a2 B.length c2])) (hgrow:(w4.alloc o).grownBy w5 (Value.slice a V.vs.length cap).ownBlock) (hat:(Value.slice a V.vs.length cap).ownBlock=some g∨g=w4.heap.size+1):
 xd M (w5.setCell ⟨bp,2,none⟩ (.slice (some ⟨g,0,none⟩) (V.vs.length+1) c3)) (fun k=>X k∨(w.heap.size≤k∧k<(w5.setCell ⟨bp,2,none⟩ (.slice (some ⟨g,0,none⟩) (V.vs.length+1) c3)).heap.size)) bp bd bs S2 D2 (V.add key false B) (some ⟨g,0,none⟩) c3 (cs++[[.string key,.int .i64 (V.n0+1),.slice a2 B.length c2]]) (fun k=>G k∨(Value.slice a2 B.length c2).ownBlock=some k)∧
  Kept X w (w5.setCell ⟨bp,2,none⟩ (.slice (some ⟨g,0,none⟩) (V.vs.length+1) c3)):=by
 have hbp:=h.lt
 have hbs:=h.xlt bs h.xb
 have s3:=k3.size
 have s4:=k4.size
 have k45:Kept (fun k=>(Value.slice a V.vs.length cap).ownBlock=some k) w4 w5:=(Kept.alloc _ w4 o).trans (Kept.grown hgrow (fun k hk=>hk)) iL
 have k35:Kept (fun k=>(Value.slice a V.vs.length cap).ownBlock=some k) w3 w5:=(k4.mono fE).trans k45 iL
 have k6:=Kept.setCell (S:=fun k=>k=bp) w5 ⟨bp,2,none⟩ (.slice (some ⟨g,0,none⟩) (V.vs.length+1) c3) rfl
 have k36:Kept (fun k=>(Value.slice a V.vs.length cap).ownBlock=some k∨k=bp) w3 (w5.setCell ⟨bp,2,none⟩ (.slice (some ⟨g,0,none⟩) (V.vs.length+1) c3)):=(k35.mono iL).trans k6 (fun _ h=>.inl (.inr h))
 have s5:=k45.size
 have hl:(V.add key false B).vs.length=V.vs.length+1:=by simp [qe.add]
 have gz:w4.heap.size+1≤w5.heap.size:=by have:=hgrow.size;simpa using this
 have glt:g<w5.heap.size:=by
  rcases hown.2 with⟨h0,_⟩|⟨g',cap',cur,hv,_,hg,_⟩
  ·cases h0
  ·cases hv;exact(lT hg)
 have hrow:∀k,(Value.slice a V.vs.length cap).ownBlock=some k→k<w.heap.size:=fun k hk=>h.xlt k (h.xr k hk)
 have hG:∀k,G k→k<w.heap.size:=fun k hk=>h.xlt k (h.xG k hk)
 have hbody:∀k,(Value.slice a2 B.length c2).ownBlock=some k→w3.heap.size≤k∧k<w4.heap.size:=fun k hk=>⟨fr4 k hk,(own4.lt k hk).2⟩
 have hgb:g≠bp:=by
  rcases hat with e|e
  ·exact fun e2=>(h.rS g e).2.2 e2
  ·omega
 have hgn:∀k,(Value.slice (some ⟨g,0,none⟩) (V.add key false B).vs.length c3).ownBlock=some k→k=g:=fun k hk=>by simpa [Value.ownBlock,eq_comm] using hk
 have hS2n:∀k,k<w.heap.size→¬S k→¬S2 k:=fun k h1 h2 h3=>by rcases (hS2 k h3).1 with h4|h4;exact h2 h4;omega
 refine⟨⟨?_,?_,hz,?_,?_,?_,?_,.inl h.xb,.inl h.xp,?_,?_,hS2n bp hbp h.pS,h.pb,?_,?_⟩,?_⟩
 ·have e:w5.heap[bp]? =_:=(k35.block bp (by omega) (fun e=>(h.rS bp e).2.2 rfl)).trans hd3
  rw [heap_setCell_same w5 bp 2 _ _ _ e,hl];rfl
 ·refine zR.kept f3 k36 (fun k hk hc=>?_) (fun hc=>hc.elim (fun e=>(h.rS bs e).2.1 rfl) (fun e=>h.pb e.symm))
  rcases hc with e|rfl
  ·exact hS2n k (hrow k e) (h.rS k e).1 hk
  ·exact hS2n k hbp h.pS hk
 ·rw [hl]
  have:=k6.owns hown (fun k hk e=>by simp [Value.ownBlock] at hk;omega)
  simpa using this
 ·refine Told.snoc (((h.told.kept k3 (fun k hk hc=>?_)).kept k36 (fun k hk hc=>?_)).mono (fun k hk _=>.inl hk)) ⟨a2,c2,rfl,?_⟩
  ·have:=h.gS k hk
   rcases hc with hc|hc|hc
   ·exact this.1 hc
   ·exact this.2.1 hc
   ·exact this.2.2.1 hc
  ·have:=h.gS k hk
   rcases hc with hc|hc
   ·exact this.2.2.2 hc
   ·exact this.2.2.1 hc
  ·have r5:=k45.owns own4 (fun k hk e=>by have:=hbody k hk;have:=hrow k e;omega)
   have r6:=k6.owns r5 (fun k hk e=>by have:=hbody k hk;omega)
   exact zv.of_own 5 r6 rfl _ (fun k hk=>.inr hk)
 ·intro k hk
  rcases hk with hk|⟨_,hk⟩
  ·have:=h.xlt k hk;have:=k6.size;omega
  ·exact hk
 ·intro k hk
  rcases hS2 k hk with⟨h1|h1,h2⟩
  ·exact .inl (h.xS k h1)
  ·exact .inr ⟨h1,by have:=k6.size;omega⟩
 ·intro k hk
  rw [hgn k hk]
  rcases hat with e|e
  ·exact .inl (h.xr g e)
  ·exact .inr ⟨by omega,by have:=k6.size;omega⟩
 ·intro k hk
  rcases hk with hk|hk
  ·exact .inl (h.xG k hk)
  ·have:=hbody k hk
   exact .inr ⟨by omega,by have:=k6.size;omega⟩
 ·intro k hk
  rw [hgn k hk]
  rcases hat with e|e
  ·have:=h.rS g e
   exact⟨hS2n g (hrow g e) this.1,this.2.1,this.2.2⟩
  ·exact⟨fun hs=>by have:=(hS2 g hs).2;omega,by omega,by omega⟩
 ·intro k hk
  have hne:k≠g→(Value.slice (some ⟨g,0,none⟩) (V.add key false B).vs.length c3).ownBlock≠some k:=fun h1 h2=>h1 (hgn k h2)
  rcases hk with hk|hk
  ·have:=h.gS k hk
   have hlt:=hG k hk
   exact⟨hS2n k hlt this.1,this.2.1,this.2.2.1,hne (fun e=>by
    rcases hat with e2|e2
    ·exact this.2.2.2 (by rw [e];exact e2)
    ·omega)⟩
  ·have hb:=hbody k hk
   exact⟨fun hs=>by have:=(hS2 k hs).2;omega,by omega,by omega,hne (fun e=>by
    rcases hat with e2|e2
    ·have:=hrow g e2;omega
    ·omega)⟩
 ·refine(k3.mono (fun k hk=>?_)).trans k36 (fun k hk=>.inl ?_)
  ·rcases hk with hk|rfl|rfl
   ·exact h.xS k hk
   ·exact h.xb
   ·exact h.xp
  ·rcases hk with hk|rfl
   ·exact h.xr k hk
   ·exact h.xp
theorem Yu(A:yj M)(hM:∀f,M.Fu f→f≠0)(h:xd M w X bp bd bs S D V a cap cs G)(hw:weight V.vs<470)(hn0:V.n0≤1000000)(hrd:D.reads≤1000000000)(key:ByteArray)(hkey:zu key.data.toList=true)(hks:key.size≤8)(P:Nat→Prop)(hP:∀k,P k→¬X k)(ab:Option Addr)(cb:Nat)(l:List UInt8)(hb:zv w P ab l)(hl:l.length≤140737488355326)(hc:l.length≤cb):
 Calls Tryz.prog 15 #[.pointer (some ⟨bp,0,none⟩),.string key,.slice ab l.length cb] w fun e w'=>e=.returned (.bool true)∧∃S' D' a' cap' cs' G',xd M w' (fun k=>X k∨(w.heap.size≤k∧k<w'.heap.size)) bp bd bs S' D' (V.add key false (l.take 300)) a' cap' cs' G'∧D'.reads≤D.reads+40∧Kept X w w':=by
 obtain⟨hc0,hc1,hc2,hc3,hc5,hc6,hfz⟩:=h.c
 have HH:Hid (xd M w X bp bd bs S D V a cap cs G):=h
 have HB:Hid (zv w P ab l):=hb
 have HPX:Hid (∀k,P k→¬X k):=hP
 have hbp:=h.lt
 have hfew:=h.fore.live.good.few
 have hsz:=h.size
 have hrd0:=h.fore.reads0
 have HKY:Hid (zu key.data.toList=true):=hkey
 have HBY:Hid (∀w',Kept X w w'→Calls Tryz.prog 28 #[.slice ab l.length cb] w' fun e w''=>∃a' c',e=.returned (.slice a' (l.take 300).length c')∧w''.ownsRow 0 5 1 (.slice a' (l.take 300).length c') (l.take 300).length ((l.take 300).map qc)∧Kept (fun _=>False) w' w''∧∀k,(Value.slice a' (l.take 300).length c').ownBlock=some k→w'.heap.size≤k):=fun w' k=>vq w' P ab cb l (hb.kept k hP) hl hc
 have l3:(l.take 300).length≤300:=by rw [List.length_take];omega
 generalize l.take 300=B at*
 clear h hb hP hkey hfz
 go_enter Tryz.func15,Tryz.ntmps15
 go_wp2_with fail
 go_region_held3 (fun w'=>w'.cell? ⟨bp,1,none⟩=some (.pointer (some ⟨bs,0,none⟩))) (go_keep) ((first
  |(go_at_call 28;refine(HBY.out _ (by exact Kept.drew X w)).mono ?_;rintro e w1 ⟨a1,c1,rfl,ho1,hk1,hf1⟩;have hk1':Kept (fun _=>False) w w1:=⟨hk1.os,hk1.tape,hk1.output,hk1.size,hk1.block⟩;have HO1:Hid (w1.ownsRow 0 5 1 (.slice a1 B.length c1) B.length (B.map qc)):=ho1;have HK1:Hid (Kept (fun _=>False) w w1):=hk1';have HF1:Hid (∀k,(Value.slice a1 B.length c1).ownBlock=some k→w.heap.size≤k):=hf1;have hcap1:=Yv ho1;have hc11:w1.cell? ⟨bp,1,none⟩=some (.pointer (some ⟨bs,0,none⟩)):=(HH.out.kept hk1' nF).c.2.1;clear ho1 hk1 hf1 hk1')
  |(go_at_call 27;refine(A.live w1 bd bs S (fun k=>w.heap.size≤k) D V key a1 c1 B (HH.out.kept HK1.out nF).fore (by unfold maxLen;omega) (zv.of_own 5 HO1.out rfl _ (fun k hk=>HF1.out k hk)) (fun k hk=>⟨fun hS=>by have:=HH.out.xlt k (HH.out.xS k hS);omega,fun e=>by have:=HH.out.xlt bs HH.out.xb;omega⟩) (by omega) hcap1.1 (by have:=hcap1.2;unfold maxLen at this;omega)).mono ?_;rintro e w2 ⟨D2,S2,c,n,q,rfl,haft,hchg,hn⟩;have HAFT:Hid (jI M w1 w2 bd bs S S2 D D2 40 q):=haft;have HCHG:Hid _:=hchg;have HN:Hid (n=if c=0 then V.n0+1 else 0):=hn;have hc12:w2.cell? ⟨bp,1,none⟩=some (.pointer (some ⟨bs,0,none⟩)):=(haft.kept.cell (a:=⟨bp,1,none⟩) (by have:=HK1.out.size;show bp<_;omega) (fun hc=>hc.elim HH.out.pS HH.out.pb)).trans hc11;clear haft hchg hn)))
 have hw0:kB (zu key.data.toList) B.length=0:=by rw [HKY.out];unfold kB;first|rfl|(rw [if_neg (by omega)])|(simp;omega)
 have hfit:xT V.vs (qr B.length) D.bs.length=true:=by
  unfold xT qr
  rw [hsz]
  refine decide_eq_true ?_
  omega
 obtain⟨rfl,rfl,hlive⟩:c=0∧q=some bd∧M.Live D2 (V.add key false B):=by
  rcases HCHG.out.is with h|h|h|h
  ·exact absurd hw0 h.1
  ·exact h.2
  ·rw [hfit] at h;exact absurd h.2.2.2.2 (by simp)
  ·exact absurd h.2.2.2.1 (hM _ HAFT.out.fuse)
 have hn:=HN.out
 rw [if_pos rfl] at hn
 subst hn
 have HLV:Hid (M.Live D2 (V.add key false B)):=hlive
 have k2:Kept (fun k=>S k∨k=bs∨k=bp) w w2:=(HK1.out.mono fE).trans HAFT.out.kept (fun k hk=>.inl (hk.imp id .inl))
 have hd2:w2.heap[bp]? =_:=(HAFT.out.kept.block bp (by have:=HK1.out.size;omega) (fun hc=>hc.elim HH.out.pS HH.out.pb)).trans ((HK1.out.block bp hbp (fun hf=>hf)).trans HH.out.head)
 have HD2:Hid (w2.heap[bp]? =some (.cells #[.pointer (some ⟨bd,0,none⟩),.pointer (some ⟨bs,0,none⟩),.slice a V.vs.length cap,.int .i64 V.n0,.int .i64 (-1),.int .i64 0,.bool true] 33 (0,0))):=hd2
 have hc26:w2.cell? ⟨bp,6,none⟩=some (.bool true):=cR hd2 rfl
 have hc23:w2.cell? ⟨bp,3,none⟩=some (.int .i64 V.n0):=cR hd2 rfl
 have hf2:=fun i=>frozen_of_row w2 bp i _ _ hd2
 have hf26:=hf2 6
 have hf23:=hf2 3
 have HK2:Hid (Kept (fun k=>S k∨k=bs∨k=bp) w w2):=k2
 have hbp2:bp<w2.heap.size:=by have:=k2.size;omega
 have hlt1:decide (V.n0<V.n0+1)=true:=decide_eq_true (by omega)
 clear hlive hd2 hf2 k2
 go_wp2_with fail
 have hd3:((w2.setCell ⟨bp,6,none⟩ (.bool true)).setCell ⟨bp,3,none⟩ (.int .i64 (V.n0+1))).heap[bp]? =some (.cells #[.pointer (some ⟨bd,0,none⟩),.pointer (some ⟨bs,0,none⟩),.slice a V.vs.length cap,.int .i64 (V.n0+1),.int .i64 (-1),.int .i64 0,.bool true] 33 (0,0)):=by
  have e1:=heap_setCell_same w2 bp 6 _ _ (.bool true) HD2.out
  exact heap_setCell_same _ bp 3 _ _ (.int .i64 (V.n0+1)) e1
 have k23:Kept (fun k=>k=bp) w2 ((w2.setCell ⟨bp,6,none⟩ (.bool true)).setCell ⟨bp,3,none⟩ (.int .i64 (V.n0+1))):=(Kept.setCell (S:=fun k=>k=bp) w2 ⟨bp,6,none⟩ _ rfl).trans (Kept.setCell (S:=fun k=>k=bp) _ ⟨bp,3,none⟩ _ rfl) iL
 generalize (w2.setCell ⟨bp,6,none⟩ (.bool true)).setCell ⟨bp,3,none⟩ (.int .i64 (V.n0+1))=w3 at*
 have HD3:Hid (w3.heap[bp]? =some (.cells #[.pointer (some ⟨bd,0,none⟩),.pointer (some ⟨bs,0,none⟩),.slice a V.vs.length cap,.int .i64 (V.n0+1),.int .i64 (-1),.int .i64 0,.bool true] 33 (0,0))):=hd3
 have HK23:Hid (Kept (fun k=>k=bp) w2 w3):=k23
 have HK3:Hid (Kept (fun k=>S k∨k=bs∨k=bp) w w3):=HK2.out.trans k23 (fun k hk=>.inl (.inr (.inr hk)))
 have HX3:Hid (Kept X w w3):=HK3.out.mono (fun k hk=>by
  rcases hk with hk|rfl|rfl
  ·exact HH.out.xS k hk
  ·exact HH.out.xb
  ·exact HH.out.xp)
 have hc32:w3.cell? ⟨bp,2,none⟩=some (.slice a V.vs.length cap):=cR hd3 rfl
 have hbp3:bp<w3.heap.size:=by have:=k23.size;omega
 have HR3:Hid (w3.ownsRow 0 85 3 (.slice a V.vs.length cap) V.vs.length cs.flatten):=HK3.out.owns HH.out.row (fun k hk hc=>by
  have:=HH.out.rS k hk
  rcases hc with hc|hc|hc
  ·exact this.1 hc
  ·exact this.2.1 hc
  ·exact this.2.2 hc)
 obtain⟨i0,hi0,hz0,hz1,hz2⟩:=y5 Tryz.infoKp
 have HI0:Hid (Tryz.prog.info? 85=some i0∧i0.zero=some (.agg #[.string ⟨#[]⟩,.int .i64 0,.slice none 0 0])∧i0.size=3∧i0.bytes=48):=⟨hi0,hz0,hz1,hz2⟩
 clear hi0 hz0 hz1 hz2 hd3 k23 hc0 hc1 hc2 hc3 hc5 hc6 hc11 hc12 hc26 hc23 hf26 hf23
 go_region_law ((first
  |(go_simp;go_at_call 28;refine(HBY.out _ (by exact HX3.out.trans (Kept.drew X w3) iL)).mono ?_;rintro e w4 ⟨a2,c2,rfl,ho2,hk4,hf4⟩;have hk4':Kept (fun _=>False) w3 w4:=⟨hk4.os,hk4.tape,hk4.output,hk4.size,hk4.block⟩;have HO4:Hid (w4.ownsRow 0 5 1 (.slice a2 B.length c2) B.length (B.map qc)):=ho2;have HK4:Hid (Kept (fun _=>False) w3 w4):=hk4';have HF4:Hid (∀k,(Value.slice a2 B.length c2).ownBlock=some k→w3.heap.size≤k):=hf4;have hc42:w4.cell? ⟨bp,2,none⟩=some (.slice a V.vs.length cap):=(hk4'.cell (a:=⟨bp,2,none⟩) hbp3 (fun hf=>hf)).trans hc32;have hbp4:bp<w4.heap.size:=(by have:=hk4'.size;omega);clear ho2 hk4 hf4 hk4';dsimp only)
  |(refine step_append_lies _ rfl (.tmp 46) (.tmp 52) 31 rfl 0 85 i0 _ 3 48 Tryz.underlying31 HI0.out.1 HI0.out.2.1 HI0.out.2.2.1 HI0.out.2.2.2 rfl (by omega) (.slice a V.vs.length cap) V.vs.length cs.flatten (by rfl) (by exact World.ownsRow.alloc (HK4.out.owns HR3.out nF) _) ⟨w4.heap.size,0,none⟩ 1 1 [.string key,.int .i64 (V.n0+1),.slice a2 B.length c2] (by rfl) (by rfl) (by exact World.news_of_block (heap_alloc_new w4 _)) (by simp [Value.oneCell']) (by omega) (by unfold maxLen;omega) (by omega) (Nat.zero_le _) (w4.heap.size+1) (by simp) ?_;intro g c3 w5 hown hgrow hat hlt5;have HOW:Hid _:=hown;have HGR:Hid _:=hgrow;have HAT:Hid ((Value.slice a V.vs.length cap).ownBlock=some g∨g=w4.heap.size+1):=hat;have hcc:w5.cell? ⟨bp,2,none⟩=some (.slice a V.vs.length cap):=(hgrow.cell_far ⟨bp,2,none⟩ (by simp;omega) (fun e=>(HH.out.rS bp e.symm).2.2 rfl)).trans (((Kept.alloc (fun _=>False) w4 _).cell (a:=⟨bp,2,none⟩) hbp4 (fun hf=>hf)).trans hc42);have hff:w5.frozen? ⟨bp,2,none⟩=false:=(hgrow.frozen_far ⟨bp,2,none⟩ (by simp;omega) (fun e=>(HH.out.rS bp e.symm).2.2 rfl)).trans (frozen_of_row _ bp 2 _ _ (((Kept.alloc (fun _=>False) w4 _).block bp hbp4 (fun hf=>hf)).trans ((HK4.out.block bp hbp3 (fun hf=>hf)).trans HD3.out)));clear hown hgrow hat)))
 all_goals
  go_wp2
  go_ret
  have s1:=HK1.out.size
  have hS2:∀k,S2 k→(S k∨w.heap.size≤k)∧k<w3.heap.size:=fun k hk=>⟨(HAFT.out.foot k hk).imp id (fun h=>by omega),by have:=HAFT.out.disk.lt k hk;have:=HK23.out.size;omega⟩
  have hbs:=HH.out.xlt bs HH.out.xb
  have nbs:¬S2 bs:=fun hk=>by
   rcases (hS2 bs hk).1 with h|h
   ·exact HH.out.fore.apart h
   ·omega
  have nbp:¬S2 bp:=fun hk=>by
   rcases (hS2 bp hk).1 with h|h
   ·exact HH.out.pS h
   ·omega
  have r0:=HAFT.out.reads0
  have r1:=HAFT.out.reads1
  have f2:zR M w2 bd bs S2 D2 (V.add key false B):=⟨HAFT.out.disk,nbs,HAFT.out.sto,HLV.out,HAFT.out.fuse,by omega,by omega,by show V.n0+1≤_;omega⟩
  have f3:=zR.kept f2 HK23.out (fun k hk e=>nbp (by rw [←show k=bp from e];exact hk)) (fun e=>HH.out.pb e.symm)
  have hx:=xd.pushed HH.out HK3.out hS2 f3 (HAFT.out.size.trans hsz) HD3.out HK4.out a2 c2 HO4.out HF4.out _ g c3 HOW.out HGR.out HAT.out
  exact⟨rfl,S2,D2,_,_,_,_,hx.1,by omega,hx.2⟩
end
structure cG where
 key:Int
 what:Int
 la:Option Addr
 l:List UInt8
 lc:Nat
 fuse:Int
 ka:Option Addr
 ks:List Bool
 kc:Nat
def cG.cells(o:cG):List Value:=[.int .i64 o.key,.int .i64 o.what,.slice o.la o.l.length o.lc,.int .i64 o.fuse,.slice o.ka o.ks.length o.kc]
structure cG.Ok (w:World) (Q:Nat→Prop) (o:cG):Prop where
 key:zD o.key
 what:zD o.what
 fuse:zD o.fuse
 l:zv w Q o.la o.l
 len:o.l.length≤140737488355326
 cap:o.l.length≤o.lc
 klen:o.ks.length≤140737488355326
 ks:∀j,j<o.ks.length→∃kb ko,o.ka=some ⟨kb,ko,none⟩∧Q kb∧kb<w.heap.size∧w.cell? ⟨kb,ko+j,none⟩=some (.bool (o.ks.getD j false))
theorem cG.Ok.kept{w w':World}{Q T:Nat→Prop}{o:cG}(h:o.Ok w Q)(k:Kept T w w')(hn:∀i,Q i→¬T i):o.Ok w' Q:=
 ⟨h.key,h.what,h.fuse,h.l.kept k hn,h.len,h.cap,h.klen,fun j hj=>by
  obtain⟨kb,ko,h1,h2,h3,h4⟩:=h.ks j hj
  exact⟨kb,ko,h1,h2,Nat.lt_of_lt_of_le h3 k.size,(k.cell (a:=⟨kb,ko+j,none⟩) h3 (hn kb h2)).trans h4⟩⟩
structure KX (w:World) (Q:Nat→Prop) (a:Option Addr) (ods:List cG):Prop where
 each:∀i (hi:i<ods.length),∃b o,a=some ⟨b,o,none⟩∧Q b∧b<w.heap.size∧w.rangeAt b (o+i*5) ods[i].cells
 ok:∀i (hi:i<ods.length),ods[i].Ok w Q
theorem KX.kept{w w':World}{Q T:Nat→Prop}{a:Option Addr}{ods:List cG}(h:KX w Q a ods)(k:Kept T w w')(hn:∀i,Q i→¬T i):KX w' Q a ods:=
 ⟨fun i hi=>by
  obtain⟨b,o,h1,h2,h3,h4⟩:=h.each i hi
  exact⟨b,o,h1,h2,Nat.lt_of_lt_of_le h3 k.size,fun j v hv=>(k.cell (a:=⟨b,o+i*5+j,none⟩) h3 (hn b h2)).trans (h4 j v hv)⟩,fun i hi=>(h.ok i hi).kept k hn⟩
def Qq(M:zc)(w:World)(X:Nat→Prop)(bp:Nat)(D:Dk)(V:qe):Prop:=∃bd bs S a cap cs G,xd M w X bp bd bs S D V a cap cs G
theorem Qq.kept{M:zc}{w w':World}{X T:Nat→Prop}{bp:Nat}{D:Dk}{V:qe}(h:Qq M w X bp D V)(k:Kept T w w')(hn:∀i,X i→¬T i):Qq M w' X bp D V:=by
 obtain⟨bd,bs,S,a,cap,cs,G,h⟩:=h
 exact⟨bd,bs,S,a,cap,cs,G,h.kept k hn⟩
structure Fit (V:qe) (D:Dk) (n t:Nat):Prop where
 weight:weight V.vs≤473
 n0:V.n0≤n
 reads:D.reads≤40*(n:Int)+2000000*t
theorem gH(V:qe)(key:ByteArray)(mark:Bool)(l:List UInt8):weight (V.add key mark l).vs=weight V.vs+qr l.length:=by
 unfold weight qe.add;simp
theorem kO:∀vs:List qa,vs.length≤weight vs
 |[]=>Nat.zero_le _
 |v::vs=>by
  have:=kO vs
  unfold weight qr at this ⊢
  simp only [List.map_cons,List.sum_cons,List.length_cons]
  omega
end keep
namespace keep
open law (qe zc gj zR jI gG KW bt)
def Um(L:List qa)(n:Nat):ByteArray:=if n=0 then ByteArray.empty else (L.getD (n-1) ⟨ByteArray.empty,0,false,[]⟩).key
def Un(L:List qa)(n:Nat):Int:=if n=0 then 0 else (L.getD (n-1) ⟨ByteArray.empty,0,false,[]⟩).num
end keep
end Go.Proofs.YtcoengihaobddaaGreatDoor
