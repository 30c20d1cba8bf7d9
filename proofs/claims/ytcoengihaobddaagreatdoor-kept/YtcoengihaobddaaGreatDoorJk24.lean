/- Part 24 of 34 of a proof: Sto1, Sto2, Sto3, Lck, BGet1, Get1, Get2 -/
import Derived.Test.YtcoengihaobddaaGreatDoorJk23
import Derived.Conc.RwLib
import Derived.Conc.MuLone
import Derived.Defers
set_option maxHeartbeats 8000000
set_option linter.unusedVariables false
set_option linter.unusedSimpArgs false
set_option maxRecDepth 8000
namespace Go.Proofs.YtcoengihaobddaaGreatDoor
open Go.ChangeShapes Go.WideShapes Go.ChangeAt Go.RowKit disk ref
namespace prog
open keys (ze zd zr zn)
structure zK (w:World) (bs:Nat) (k:Int) (q:Option Nat):Prop where
 at_:w.heap[bs]? =some (.cells #[.int .i32 k,.int .u32 0,.pointer (q.map fun b=>⟨b,0,none⟩)] 104 (0,0))
theorem zK.lt{w:World}{bs:Nat}{k:Int}{q:Option Nat}(h:zK w bs k q):bs<w.heap.size:=(lT h.at_)
theorem zK.kept{w w':World}{bs:Nat}{k:Int}{q:Option Nat}{T:Nat→Prop}(h:zK w bs k q)(kp:Kept T w w')(hn:¬T bs):zK w' bs k q:=⟨(kp.block bs h.lt hn).trans h.at_⟩
theorem zK.c0{w:World}{bs:Nat}{k:Int}{q:Option Nat}(h:zK w bs k q):w.cell? ⟨bs,0,none⟩=some (.int .i32 k):=cR h.at_ rfl
theorem zK.c2{w:World}{bs:Nat}{k:Int}{q:Option Nat}(h:zK w bs k q):w.cell? ⟨bs,2,none⟩=some (.pointer (q.map fun b=>⟨b,0,none⟩)):=cR h.at_ rfl
theorem zK.fz{w:World}{bs:Nat}{k:Int}{q:Option Nat}(h:zK w bs k q)(i:Nat):w.frozen? ⟨bs,i,none⟩=false:=frozen_of_row w bs i _ _ h.at_
theorem zK.set{w:World}{bs:Nat}{k:Int}{q:Option Nat}(h:zK w bs k q)(k':Int):zK (w.setCell ⟨bs,0,none⟩ (.int .i32 k')) bs k' q:=⟨heap_setCell_same w bs 0 _ _ _ h.at_⟩
theorem bO(w:World)(bs bd:Nat)(S:Nat→Prop)(D:Dk)(k:Int)(hs:zK w bs k (some bd))(hd:zh w bd S D)(hn:¬S bs)(hr0:0≤D.reads)(hr1:D.reads≤4611686018427387904)(tree n:Nat)(hb:yu (D.look 1) tree n)(p:Pl):
 Calls Tryz.prog 114 #[.pointer (some ⟨bs,0,none⟩),.agg #[.string p.key,.int .i64 p.num]] w fun e w'=>∃b1 b2 b3,e=.returned (.func (.func 190) #[] #[.pointer (some ⟨b1,0,none⟩),.pointer (some ⟨b2,0,none⟩),.pointer (some ⟨b3,0,none⟩)])∧ki w' b1 b2 b3 bd tree p∧(w.heap.size≤b1∧w.heap.size≤b2∧w.heap.size≤b3)∧zh w' bd S {D with reads:=D.reads+1}∧Kept (fun i=>i=bd) w w':=by
 have HS:Hid _:=hs
 have HD:Hid (zh w bd S D):=hd
 have HB:Hid _:=hb
 have hc2:w.cell? ⟨bs,2,none⟩=some (.pointer (some ⟨bd,0,none⟩)):=hs.c2
 have hbs:=hs.lt
 have hbd:bd<w.heap.size:=hd.lt bd hd.bdS
 have hne:¬bs=bd:=fun e=>hn (by rw [e];exact hd.bdS)
 clear hs hd hb
 go_enter Tryz.func114,Tryz.ntmps114
 go_wp2_with fail
 have HK0:Hid (Kept (fun _=>False) w (w.alloc (.cells #[.string p.key,.int .i64 p.num] 107))):=Kept.alloc _ _ _
 have HB0:Hid ((w.alloc (.cells #[.string p.key,.int .i64 p.num] 107)).heap[w.heap.size]? =some (.cells #[.string p.key,.int .i64 p.num] 107 (0,0))):=heap_alloc_new w _
 have hs0:(w.alloc (.cells #[.string p.key,.int .i64 p.num] 107)).heap.size=w.heap.size+1:=by simp
 generalize (w.alloc (.cells #[.string p.key,.int .i64 p.num] 107))=W at*
 have hcs:W.cell? ⟨bs,2,none⟩=some (.pointer (some ⟨bd,0,none⟩)):=(HK0.out.cell (a:=⟨bs,2,none⟩) hbs id).trans hc2
 have p0:W.cell? ⟨w.heap.size,0,none⟩=some (.string p.key):=cR HB0.out rfl
 have p1:W.cell? ⟨w.heap.size,1,none⟩=some (.int .i64 p.num):=cR HB0.out rfl
 have hbs':bs<W.heap.size:=by omega
 have hpl':w.heap.size<W.heap.size:=by omega
 have hne2:¬w.heap.size=bd:=by omega
 have HDW:Hid (zh W.drew bd S D):=(HD.out.kept HK0.out nF).kept (Kept.drew (fun _=>False) W) nF
 clear hc2
 have hfd:∀w:World,(Instr.field 145 (.agg #[.int .i64 (tree:Int),.int .i64 (n:Int)]) 0).run Tryz.prog w=.ok (.int .i64 (tree:Int)) w:=fun _=>by kernel_rfl
 go_region_held3 (fun w'=>w'.cell? ⟨bs,2,none⟩=some (.pointer (some ⟨bd,0,none⟩))∧w'.cell? ⟨w.heap.size,0,none⟩=some (.string p.key)∧w'.cell? ⟨w.heap.size,1,none⟩=some (.int .i64 p.num)) (go_keep) (first
  |(go_at_call 74;refine(Xw _ bd S D HDW.out hr0 hr1 tree n HB.out).mono ?_;rintro e w1 ⟨rfl,hd1,hk1⟩;have HD1:Hid (zh w1 bd S {D with reads:=D.reads+1 }):=hd1;have HK1:Hid (Kept (fun i=>i=bd) W.drew w1):=hk1;have cs1:w1.cell? ⟨bs,2,none⟩=some (.pointer (some ⟨bd,0,none⟩)):=(hk1.cell (a:=⟨bs,2,none⟩) hbs' hne).trans hcs;have p10:w1.cell? ⟨w.heap.size,0,none⟩=some (.string p.key):=(hk1.cell (a:=⟨w.heap.size,0,none⟩) hpl' hne2).trans p0;have p11:w1.cell? ⟨w.heap.size,1,none⟩=some (.int .i64 p.num):=(hk1.cell (a:=⟨w.heap.size,1,none⟩) hpl' hne2).trans p1;have hs1:W.heap.size≤w1.heap.size:=hk1.size;clear hd1 hk1)
  |(go_at_call 158;refine(JV _ bd tree p).mono ?_;rintro e w2 ⟨rfl,hb2,hk2,hs2⟩;have HB2:Hid _:=hb2;have HK2:Hid (Kept (fun _=>False) w1 w2):=hk2;have cs2:w2.cell? ⟨bs,2,none⟩=some (.pointer (some ⟨bd,0,none⟩)):=(hk2.cell (a:=⟨bs,2,none⟩) (Nat.lt_of_lt_of_le hbs' hs1) id).trans cs1;have p20:w2.cell? ⟨w.heap.size,0,none⟩=some (.string p.key):=(hk2.cell (a:=⟨w.heap.size,0,none⟩) (Nat.lt_of_lt_of_le hpl' hs1) id).trans p10;have p21:w2.cell? ⟨w.heap.size,1,none⟩=some (.int .i64 p.num):=(hk2.cell (a:=⟨w.heap.size,1,none⟩) (Nat.lt_of_lt_of_le hpl' hs1) id).trans p11;clear hb2 hk2))
 go_wp2
 go_ret
 refine⟨_,_,_,rfl,HB2.out,?_,HD1.out.kept HK2.out nF,?_⟩
 ·omega
 ·exact((((HK0.out.mono fE).trans (Kept.drew (fun _=>False) W) fE)).trans HK1.out iL).trans HK2.out fE
end prog
namespace prog
open keys (ze zd zr zn)
attribute [local go_sem] Oper.semAt_some
def dh:Option En→List Value
 |some x=>qp x
 |none=>qo
structure bQ (w1:World) (bd:Nat) (S:Nat→Prop) (D:Dk) (r:Int) (pre:List En) (Q:Nat→Prop) (A:World):Prop where
 pre:pre=[]
 q:∀k,¬Q k
 disk:zh A bd S {D with reads:=r}
 kept:Kept (fun k=>k=bd∨w1.heap.size≤k) w1 A
 rd:D.reads+1≤r
structure Va (w1:World) (bd:Nat) (S:Nat→Prop) (D:Dk) (b4 b5:Nat) (o:Option En) (c:Code) (r:Int) (A:World):Prop where
 c:c=.ret
 is:∃x,o=some x∧A.heap[b4]? =some (.cells (qp x).toArray 109 (0,0))∧A.heap[b5]? =some (.cells #[.bool true] 4 (0,0))
 disk:zh A bd S {D with reads:=r}
 kept:Kept (fun k=>k=bd∨k=b4∨k=b5∨w1.heap.size≤k) w1 A
 rd:D.reads+1≤r∧r≤D.reads+14
theorem bQ.by{w1:World}{bd:Nat}{S:Nat→Prop}{D:Dk}{r r':Int}{pre:List En}{Q Z:Nat→Prop}{A B:World}(h:bQ w1 bd S D r pre Q A)(hk:Kept Z A B)(hZ:∀k,Z k→k=bd∨w1.heap.size≤k)(hd:zh B bd S {D with reads:=r' })(hr:r≤r'):bQ w1 bd S D r' pre Q B:=
 ⟨h.pre,h.q,hd,h.kept.trans hk (fun i hi=>.inl (hZ i hi)),Int.le_trans h.rd hr⟩
theorem uq{P:Program}{fn:Func}{p u:Tmp}{ty tb:TypeId}(h:fn.results=#[.cell p ty,.cell u tb])(tmps:Array Value)(w:World)(g gb:Nat)(t t2:TypeId)(cs:Array Value)(fr f2:Nat×Nat)(d d2:TypeDesc)(v:Value)
 (hp:tmps.getD p undef=.pointer (some ⟨g,0,none⟩)) (hg:w.heap[g]? =some (.cells cs t fr))
 (hu:P.underlying ty=some d) (hd:(match d with|.struct _|.array _ _=>true|_=>false)=true) (hi:(P.info? ty).map (·.size)=some cs.size)
 (hp2:tmps.getD u undef=.pointer (some ⟨gb,0,none⟩)) (hv:(loadVar tb ⟨gb,0,none⟩).run P w=.ok v w):
 (results fn tmps).run P w=.ok (.tuple #[.agg cs,v]) w:=by
 have hp':tmps[p]?.getD undef=.pointer (some ⟨g,0,none⟩):=by simpa using hp
 have hp2':tmps[u]?.getD undef=.pointer (some ⟨gb,0,none⟩):=by simpa using hp2
 simp [results,h,hp',hp2',asAddr,run_loadVar_row w g t ty cs fr d hg hu hd hi,hv]
theorem ur(w:World)(g:Nat)(b:Bool)(h:w.heap[g]? =some (.cells #[.bool b] 4 (0,0))):(loadVar 4 ⟨g,0,none⟩).run Tryz.prog w=.ok (.bool b) w:=by
 have hc:w.cell? ⟨g,0,none⟩=some (.bool b):=cR h rfl
 simp [loadVar,isAgg,go_sem,hc]
theorem dH(w w1 A:World)(bs bd:Nat)(S:Nat→Prop)(D:Dk)(o:Option En)(r:Int)(a:Act)(hbd:bd<w.heap.size)(hsz:w.heap.size+3≤w1.heap.size)(HKW:Kept (fun i=>i=bd) w w1)
 (h4:A.heap[w.heap.size+1]? =some (.cells (dh o).toArray 109 (0,0))) (h5:A.heap[w.heap.size+2]? =some (.cells #[.bool o.isSome] 4 (0,0))) (hd:zh A bd S {D with reads:=r }) (hS:∀j,S j→j<w.heap.size) (hk:Kept (fun k=>k=bd∨k=w.heap.size+1∨k=w.heap.size+2∨w1.heap.size≤k) w1 A) (hr:D.reads≤r∧r≤D.reads+14) (hK:A.heap[w1.heap.size]? =some (.deferred (some [])))
 (ha:a.defers=[{target:=.collected w1.heap.size,args:=#[] }]) (t4:a.tmps.getD 4 undef=.pointer (some ⟨w.heap.size+1,0,none⟩)) (t5:a.tmps.getD 5 undef=.pointer (some ⟨w.heap.size+2,0,none⟩)):
 YI Tryz.prog Tryz.f66 (fun e w'=>e=.returned (.tuple #[.agg (dh o).toArray,.bool o.isSome])∧(∃r:Int,D.reads≤r∧r≤D.reads+14∧zh w' bd S {D with reads:=r })∧Kept (fun i=>i=bd) w w') .ret a A:=by
 have kp:Kept (fun k=>k=w1.heap.size) A (A.putObj w1.heap.size (.deferred none)):=Kept.putObj _ _ _ rfl
 have h4':=(kp.block _ (lT h4) (by omega)).trans h4
 have h5':=(kp.block _ (lT h5) (by omega)).trans h5
 have hlen:(dh o).toArray.size=5:=by cases o<;>rfl
 refine jo ha hK (uq Tryz.results66 _ _ (w.heap.size+1) (w.heap.size+2) 109 4 _ (0,0) (0,0) _ (.int .i64) _ t4 h4' Tryz.underlying109 rfl (by rw [hlen];kernel_rfl) t5 (ur _ _ _ h5')) ⟨rfl,⟨r,hr.1,hr.2,hd.kept kp (fun j hj e=>by have:=hS j hj;omega)⟩,?_⟩
 exact(HKW.trans hk (fun j hj=>by rcases hj with h|h|h|h;exact .inl h;exact .inr (by omega);exact .inr (by omega);exact .inr (by omega))).trans kp (fun j hj=>.inr (by omega))
theorem dI(w:World)(bs bd:Nat)(S:Nat→Prop)(D:Dk)(k:Int)(hs:zK w bs k (some bd))(hd:zh w bd S D)(hn:¬S bs)(hr0:0≤D.reads)(hr1:D.reads≤4611686018427360000)(tree n:Nat)(hb:yu (D.look 1) tree n)(p:Pl)(es:List En)(bl:List Nat)(hF:ya (fun j=>D.look (j:Nat)) tree es bl)(hbl:bl.length≤979)(hbs:∀j∈bl,21≤j):
 Calls Tryz.prog 66 #[.pointer (some ⟨bs,0,none⟩),.agg #[.string p.key,.int .i64 p.num]] w fun e w'=>e=.returned (.tuple #[.agg (dh (yN p es).head?).toArray,.bool (yN p es).head?.isSome])∧(∃r:Int,D.reads≤r∧r≤D.reads+14∧zh w' bd S {D with reads:=r })∧Kept (fun i=>i=bd) w w':=by
 have HS:Hid _:=hs
 have HD:Hid (zh w bd S D):=hd
 have HB:Hid _:=hb
 have HF:Hid (ya (fun j=>D.look (j:Nat)) tree es bl):=hF
 have HBS:Hid (∀j∈bl,21≤j):=hbs
 have hbs:=hs.lt
 have hbd:bd<w.heap.size:=hd.lt bd hd.bdS
 have HSL:Hid (∀j,S j→j<w.heap.size):=hd.lt
 clear hs hd hb hF hbs
 refine yy Tryz.func66 rfl ?_
 simp only [Tryz.ntmps66,List.size_toArray,List.length_cons,List.length_nil,Nat.reduceAdd,Nat.reduceSub,Array.replicate_succ,Array.replicate_zero,List.push_toArray,List.append_toArray,List.nil_append,List.cons_append]
 go_wp2_with fail
 obtain⟨n1,n2,n3,k3,s3⟩:=up w (.cells #[.string p.key,.int .i64 p.num] 107) (.cells #[.string ⟨#[]⟩,.int .i64 0,.bool false,.int .i64 0,.int .i64 0] 109) (.cells #[.bool false] 4)
 have HN2:Hid _:=n2
 have HN3:Hid _:=n3
 have HK3:Hid _:=k3
 clear n1 n2 n3 k3
 generalize (((w.alloc (.cells #[.string p.key,.int .i64 p.num] 107)).alloc (.cells #[.string ⟨#[]⟩,.int .i64 0,.bool false,.int .i64 0,.int .i64 0] 109)).alloc (.cells #[.bool false] 4))=W at*
 refine(bO W bs bd S D k (HS.out.kept HK3.out id) (HD.out.kept HK3.out nF) hn hr0 (by omega) tree n HB.out p).mono ?_
 rintro e w1 ⟨b1,b2,b3,rfl,hbox,hbb,hd1,hk1⟩
 have HBX:Hid _:=hbox
 have HD1:Hid (zh w1 bd S {D with reads:=D.reads+1 }):=hd1
 have HK1:Hid (Kept (fun i=>i=bd) W w1):=hk1
 have hsz1:=hk1.size
 have HE4:Hid (w1.heap[w.heap.size+1]? =_):=(hk1.block _ (by omega) (by omega)).trans HN2.out
 have HE5:Hid (w1.heap[w.heap.size+2]? =_):=(hk1.block _ (by omega) (by omega)).trans HN3.out
 clear hbox hd1 hk1
 go_wp2_with fail
 have HS1:Hid (∀j,S j→j<w1.heap.size):=HD1.out.lt
 have HKW1:Hid (Kept (fun i=>i=bd) w w1):=(HK3.out.mono fE).trans HK1.out iL
 refine jS (α:=En) (gf:= 190) (lb:=#[.pointer (some ⟨b1,0,none⟩),.pointer (some ⟨b2,0,none⟩),.pointer (some ⟨b3,0,none⟩)]) rfl (enters_of Tryz.func190 (by kernel_rfl) rfl)
  (fun W1 hk hsz=>JW W1 bd S D b1 b2 b3 tree p (HBX.out.kept hk id id id) es bl HF.out hbl HBS.out (by omega) (D.reads+1) (by omega) (by omega))
  (fun k hk=>by rw [hk];omega) (fun _=>rfl)
  (bQ w1 bd S D) (fun c r pre A=>Va w1 bd S D (w.heap.size+1) (w.heap.size+2) (yN p es).head? c r A)
  (fun r pre Q A h=>⟨h.disk,fun k hk=>(h.q k hk).elim⟩)
  (fun r r' pre Q A B h hr hk hi=>h.by hk (fun k hk=>.inl hk) hi hr)
  (fun r pre Q A B h hk=>h.by hk (fun k hk=>.inr (by omega)) (h.disk.kept hk (fun j hj hc=>by have:=HS1.out j hj;omega)) (Int.le_refl _))
  (fun c r pre A B h hk=>⟨h.c,by
   obtain⟨x,h1,h2,h3⟩:=h.is
   exact⟨x,h1,(hk.block _ (lT h2) (by omega)).trans h2,(hk.block _ (lT h3) (by omega)).trans h3⟩,h.disk.kept hk (fun j hj hc=>by have:=HS1.out j hj;omega),h.kept.trans hk (fun i hi=>.inl (.inr (.inr (.inr (by omega))))),h.rd⟩)
  ⟨rfl,fun _ h=>h,HD1.out,Kept.refl _ _,Int.le_refl _⟩
  (fun x a' A=>∃b6,w1.heap.size+1<b6∧A.heap[b6]? =some (.cells (qp x).toArray 109 (0,0))∧a'={tmps:=#[.pointer (some ⟨bs,0,none⟩),.agg #[.string p.key,.int .i64 p.num],undef,.pointer (some ⟨w.heap.size,0,none⟩),.pointer (some ⟨w.heap.size+1,0,none⟩),.pointer (some ⟨w.heap.size+1+1,0,none⟩),.pointer (some ⟨b6,0,none⟩),.pointer (some ⟨bs,0,none⟩),.agg #[.string p.key,.int .i64 p.num],.func (.func 190) #[] #[.pointer (some ⟨b1,0,none⟩),.pointer (some ⟨b2,0,none⟩),.pointer (some ⟨b3,0,none⟩)],.agg (qp x).toArray,undef,undef],defers:=[] })
  (fun x a A B h hk=>by
   obtain⟨b6,h1,h2,h3⟩:=h
   exact⟨b6,h1,(hk.block _ (lT h2) (by omega)).trans h2,h3⟩)
  (fun r pre x A B h _=>h) ?assign ?body ?done ?stop
 case assign=>
  intro l r pre x Q A K hi hh hlt hK
  dsimp only [qp]
  gi_wp2
  exact hK _ _ (Kept.alloc _ _ _) (hi.by (Kept.alloc (fun _=>False) _ _) (fun _ h=>h.elim) (hi.disk.kept (Kept.alloc (fun _=>False) _ _) nF) (Int.le_refl _)) hh ⟨A.heap.size,by omega,heap_alloc_new A _,rfl⟩
 case body=>
  rintro l r pre x Q a' A hi hh ⟨b6,hb6,hbx,rfl⟩ hlt
  have HI:Hid _:=hi
  have HH:Hid _:=hh
  have HX:Hid _:=hbx
  have HA4:Hid (A.heap[w.heap.size+1]? =_):=(hi.kept.block _ (by omega) (by omega)).trans HE4.out
  have HA5:Hid (A.heap[w.heap.size+2]? =_):=(hi.kept.block _ (by omega) (by omega)).trans HE5.out
  have HPX:Hid ((yN p es).head? =some x):=by
   have h1:=hh.pre
   rw [hi.pre] at h1
   obtain⟨z,hz⟩:=h1
   show (yN p es).head? =some x
   rw [←hz];rfl
  clear hi hh hbx
  have x0:A.cell? ⟨b6,0,none⟩=some (.string x.pl.key):=cR HX.out rfl
  have x1:A.cell? ⟨b6,1,none⟩=some (.int .i64 x.pl.num):=cR HX.out rfl
  have x2:A.cell? ⟨b6,2,none⟩=some (.bool x.mark):=cR HX.out rfl
  have x3:A.cell? ⟨b6,3,none⟩=some (.int .i64 (x.size:Int)):=cR HX.out rfl
  have x4:A.cell? ⟨b6,4,none⟩=some (.int .i64 (x.at_:Int)):=cR HX.out rfl
  have q0:A.cell? ⟨w.heap.size+1,0,none⟩=some (.string ⟨#[]⟩):=cR HA4.out rfl
  have q1:A.cell? ⟨w.heap.size+1,1,none⟩=some (.int .i64 0):=cR HA4.out rfl
  have q2:A.cell? ⟨w.heap.size+1,2,none⟩=some (.bool false):=cR HA4.out rfl
  have q3:A.cell? ⟨w.heap.size+1,3,none⟩=some (.int .i64 0):=cR HA4.out rfl
  have q4:A.cell? ⟨w.heap.size+1,4,none⟩=some (.int .i64 0):=cR HA4.out rfl
  have f0:=frozen_of_row A (w.heap.size+1) 0 _ _ HA4.out
  have f1:=frozen_of_row A (w.heap.size+1) 1 _ _ HA4.out
  have f2:=frozen_of_row A (w.heap.size+1) 2 _ _ HA4.out
  have f3:=frozen_of_row A (w.heap.size+1) 3 _ _ HA4.out
  have f4:=frozen_of_row A (w.heap.size+1) 4 _ _ HA4.out
  have q5:A.cell? ⟨w.heap.size+1+1,0,none⟩=some (.bool false):=cR HA5.out rfl
  have f5:A.frozen? ⟨w.heap.size+1+1,0,none⟩=false:=frozen_of_row A (w.heap.size+2) 0 _ _ HA5.out
  dsimp only [qp]
  gi_wp2
  obtain⟨hh4,kS⟩:=jD A (w.heap.size+1) 109 _ _ _ _ _ (.string x.pl.key) (.int .i64 x.pl.num) (.bool x.mark) (.int .i64 (x.size:Int)) (.int .i64 (x.at_:Int)) HA4.out
  have hb5:=(kS.block (w.heap.size+2) (by omega) (by omega)).trans HA5.out
  have kS2:=Kept.setCell (S:=fun j=>j=w.heap.size+2) (((((A.setCell ⟨w.heap.size+1,0,none⟩ (.string x.pl.key)).setCell ⟨w.heap.size+1,1,none⟩ (.int .i64 x.pl.num)).setCell ⟨w.heap.size+1,2,none⟩ (.bool x.mark)).setCell ⟨w.heap.size+1,3,none⟩ (.int .i64 (x.size:Int))).setCell ⟨w.heap.size+1,4,none⟩ (.int .i64 (x.at_:Int))) ⟨w.heap.size+2,0,none⟩ (.bool true) rfl
  have kAll:=(kS.mono (S':=fun j=>j=w.heap.size+1∨j=w.heap.size+2) iL).trans kS2 (fun _ h=>.inl (.inr h))
  refine⟨kAll.mono (fun j hj=>.inl (by omega)),rfl,⟨x,HPX.out,?_,?_⟩,HI.out.disk.kept kAll (fun j hj hc=>by have:=HSL.out j hj;omega),(HI.out.kept.mono (S':=fun k=>k=bd∨k=w.heap.size+1∨k=w.heap.size+2∨w1.heap.size≤k) (fun j hj=>by omega)).trans kAll (fun j hj=>.inl (by omega)),HI.out.rd,?_⟩
  ·exact(kS2.block _ (by simp [World.setCell];omega) (by omega)).trans hh4
  ·exact heap_setCell_same _ (w.heap.size+2) 0 _ _ _ hb5
  ·have:=HH.out.first HI.out.pre
   omega
 case done=>
  rintro DD r xs Q A hS hi rfl hK
  have hxs:yN p es=[]:=by rw [←hS.1];exact hi.pre
  have HX:Hid (yN p es=[]):=hxs
  have HI:Hid _:=hi
  have hrr:=hS.2.2 hi.pre
  have HK:Hid (A.heap[w1.heap.size]? =some (.deferred (some []))):=hK
  have HA4:Hid (A.heap[w.heap.size+1]? =_):=(hi.kept.block _ (by omega) (by omega)).trans HE4.out
  have HA5:Hid (A.heap[w.heap.size+2]? =_):=(hi.kept.block _ (by omega) (by omega)).trans HE5.out
  have hszA:=hi.kept.size
  clear hxs hi hS hK
  have q0:A.cell? ⟨w.heap.size+1,0,none⟩=some (.string ⟨#[]⟩):=cR HA4.out rfl
  have q1:A.cell? ⟨w.heap.size+1,1,none⟩=some (.int .i64 0):=cR HA4.out rfl
  have q2:A.cell? ⟨w.heap.size+1,2,none⟩=some (.bool false):=cR HA4.out rfl
  have q3:A.cell? ⟨w.heap.size+1,3,none⟩=some (.int .i64 0):=cR HA4.out rfl
  have q4:A.cell? ⟨w.heap.size+1,4,none⟩=some (.int .i64 0):=cR HA4.out rfl
  have f0:=frozen_of_row A (w.heap.size+1) 0 _ _ HA4.out
  have f1:=frozen_of_row A (w.heap.size+1) 1 _ _ HA4.out
  have f2:=frozen_of_row A (w.heap.size+1) 2 _ _ HA4.out
  have f3:=frozen_of_row A (w.heap.size+1) 3 _ _ HA4.out
  have f4:=frozen_of_row A (w.heap.size+1) 4 _ _ HA4.out
  have q5:A.cell? ⟨w.heap.size+1+1,0,none⟩=some (.bool false):=cR HA5.out rfl
  have f5:A.frozen? ⟨w.heap.size+1+1,0,none⟩=false:=frozen_of_row A (w.heap.size+2) 0 _ _ HA5.out
  dsimp only
  go_wp2
  obtain⟨hh4,kS⟩:=jD A (w.heap.size+1) 109 _ _ _ _ _ (.string ⟨#[]⟩) (.int .i64 0) (.bool false) (.int .i64 0) (.int .i64 0) HA4.out
  have hb5:=(kS.block (w.heap.size+2) (by omega) (by omega)).trans HA5.out
  have kS2:=Kept.setCell (S:=fun j=>j=w.heap.size+2) (((((A.setCell ⟨w.heap.size+1,0,none⟩ (.string ⟨#[]⟩)).setCell ⟨w.heap.size+1,1,none⟩ (.int .i64 0)).setCell ⟨w.heap.size+1,2,none⟩ (.bool false)).setCell ⟨w.heap.size+1,3,none⟩ (.int .i64 0)).setCell ⟨w.heap.size+1,4,none⟩ (.int .i64 0)) ⟨w.heap.size+2,0,none⟩ (.bool false) rfl
  have kAll:=(kS.mono (S':=fun j=>j=w.heap.size+1∨j=w.heap.size+2) iL).trans kS2 (fun _ h=>.inl (.inr h))
  rw [HX.out]
  refine dH w w1 _ bs bd S D none r _ hbd (by omega) HKW1.out ?_ ?_ (HI.out.disk.kept kAll (fun j hj hc=>by have:=HSL.out j hj;omega)) HSL.out ((HI.out.kept.mono (S':=fun k=>k=bd∨k=w.heap.size+1∨k=w.heap.size+2∨w1.heap.size≤k) (fun j hj=>by omega)).trans kAll (fun j hj=>.inl (by omega))) ⟨by have:=HI.out.rd;omega,by omega⟩ ((kAll.block _ (lT HK.out) (by omega)).trans HK.out) rfl rfl rfl
  ·exact(kS2.block _ (by simp [World.setCell];omega) (by omega)).trans hh4
  ·exact heap_setCell_same _ (w.heap.size+2) 0 _ _ _ hb5
 case stop=>
  rintro DD c r pre A hS hi rfl hK
  obtain⟨rfl,⟨x,hx,h4,h5⟩,hd,hk,hr⟩:=hi
  have HX:Hid ((yN p es).head? =some x):=hx
  have H4:Hid (A.heap[w.heap.size+1]? =some (.cells (qp x).toArray 109 (0,0))):=h4
  have H5:Hid (A.heap[w.heap.size+2]? =some (.cells #[.bool true] 4 (0,0))):=h5
  have HDA:Hid (zh A bd S {D with reads:=r }):=hd
  have HKA:Hid (Kept (fun k=>k=bd∨k=w.heap.size+1∨k=w.heap.size+2∨w1.heap.size≤k) w1 A):=hk
  have HK:Hid (A.heap[w1.heap.size]? =some (.deferred (some []))):=hK
  clear hx h4 h5 hd hk hK hS
  dsimp only
  go_wp2
  rw [HX.out]
  exact dH w w1 A bs bd S D (some x) r _ hbd (by omega) HKW1.out H4.out H5.out HDA.out HSL.out HKA.out ⟨by omega,by omega⟩ HK.out rfl rfl rfl
end prog
namespace prog
open keys (ze zd zr zn)
def Ui(key:ByteArray):Option En→Bool
 |some x=>decide (x.pl.key=key)&& !x.mark
 |none=>false
end prog
namespace prog
open Go.MuLone
abbrev Tryz.muLink:Go.Conc.Locks.MuLink:={lock:= 47,unlock:= 48,ilock:= 69,iunlock:= 70,lockSlow:= 120,unlockSlow:= 123,disable:= 116,enable:= 118,acquire:= 119,relMerge:= 121,cas32:= 117,add32:= 122,tMutex:= 102,tIMutex:= 100,tPMutex:= 137,tPIMutex:= 185,tPI32:= 187,tUP:= 189,tNoCopy:= 97,tU32:= 98}
theorem Tryz.muLib:Go.Conc.Locks.MuLib Tryz.prog Tryz.muLink:=
 ⟨Tryz.func47,Tryz.func48,Tryz.func69,Tryz.func70,Tryz.func116,Tryz.func118,Tryz.func119,Tryz.func121,Tryz.func117,Tryz.func122,Tryz.underlying100,Tryz.runUnderlying100,Tryz.sizeOf100,Tryz.isAgg100,Tryz.zeroValue100,Tryz.underlying102,Tryz.runUnderlying102,Tryz.sizeOf102,Tryz.isAgg102,Tryz.zeroValue102,Tryz.underlying137,Tryz.runUnderlying137,Tryz.sizeOf137,Tryz.isAgg137,Tryz.zeroValue137,Tryz.underlying185,Tryz.runUnderlying185,Tryz.sizeOf185,Tryz.isAgg185,Tryz.zeroValue185,Tryz.underlying187,Tryz.runUnderlying187,Tryz.sizeOf187,Tryz.isAgg187,Tryz.zeroValue187,Tryz.underlying189,Tryz.runUnderlying189,Tryz.sizeOf189,Tryz.isAgg189,Tryz.zeroValue189,Tryz.underlying97,Tryz.runUnderlying97,Tryz.sizeOf97,Tryz.isAgg97,Tryz.zeroValue97,Tryz.underlying21,Tryz.runUnderlying21,Tryz.sizeOf21,Tryz.isAgg21,Tryz.zeroValue21,(by kernel_rfl)⟩
end prog
namespace prog
open keys (ze zd zr zn)
attribute [local go_sem] Oper.semAt_some
theorem dJ(w:World)(T:TypeId)(a:Addr)(at_:Nat):Calls Tryz.prog 72 #[.iface T (.pointer (some a)),.int .i64 at_] w fun e w'=>
 e=.returned (.func (.func 124) #[] #[.pointer (some ⟨w.heap.size+1,0,none⟩),.pointer (some ⟨w.heap.size,0,none⟩)])∧w'.heap[w.heap.size+1]? =some (.cells #[.int .i64 (at_:Int)] 3 (0,0))∧w'.heap[w.heap.size]? =some (.cells #[.iface T (.pointer (some a))] 193 (0,0))∧Kept (fun _=>False) w w'∧w'.heap.size=w.heap.size+2:=by
 go_enter Tryz.func72,Tryz.ntmps72
 go_wp2
 go_ret
 exact⟨rfl,heap_alloc2_new w _ _,((Kept.alloc (fun _=>False) _ _).block w.heap.size (by simp) id).trans (heap_alloc_new w _),Kept.alloc2 _ _ _,by simp⟩
def fs(pre:List BP):List UInt8:=(pre.map fun x=>x.p.l).flatten
theorem ZB(pre:List BP)(x:BP):fs (pre++[x])=fs pre++x.p.l:=by simp [fs]
theorem KF{ps:List zq}{pre:List BP}{x:BP}(h:(pre.map BP.p++[x.p])<+:ps):(fs pre).length+x.p.l.length≤((ps.map zq.l).flatten).length:=by
 obtain⟨z,rfl⟩:=h
 have e:fs pre=((pre.map BP.p).map zq.l).flatten:=by simp [fs,List.map_map];rfl
 rw [e]
 simp only [List.map_append,List.flatten_append,List.map_cons,List.map_nil,List.flatten_cons,List.flatten_nil,List.append_nil,List.length_append]
 omega
theorem KG{ps:List zq}{pre:List BP}(h:pre.map BP.p=ps):fs pre=(ps.map zq.l).flatten:=by
 rw [←h,List.map_map];rfl
structure YL (w1:World) (bd:Nat) (S:Nat→Prop) (D:Dk) (b2 b5 g cap:Nat) (r:Int) (pre:List BP) (Q:Nat→Prop) (A:World):Prop where
 q:∀k,¬Q k
 disk:zh A bd S {D with reads:=r}
 rd:D.reads≤r
 box:A.heap[b2]? =some (.cells #[.iface 29 (.pointer (some ⟨bd,0,none⟩))] 193 (0,0))
 sl:A.heap[b5]? =some (.cells #[.slice (some ⟨g,0,none⟩) (fs pre).length cap] 35 (0,0))
 row:A.ownsRow 0 5 1 (.slice (some ⟨g,0,none⟩) (fs pre).length cap) (fs pre).length ((fs pre).map qc)
 kept:Kept (fun k=>k=bd∨k=b5∨k=g∨w1.heap.size≤k) w1 A
theorem YL.by{w1:World}{bd:Nat}{S:Nat→Prop}{D:Dk}{b2 b5 g cap:Nat}{r r':Int}{pre:List BP}{Q Z:Nat→Prop}{A B:World}(h:YL w1 bd S D b2 b5 g cap r pre Q A)(hk:Kept Z A B)(hZ:∀k,Z k→k=bd∨w1.heap.size≤k)(hd:zh B bd S {D with reads:=r' })(hr:r≤r')(hb2:b2<w1.heap.size∧b2≠bd)(hb5:b5<w1.heap.size∧b5≠bd)(hg:g<w1.heap.size∧g≠bd):YL w1 bd S D b2 b5 g cap r' pre Q B:=
 ⟨h.q,hd,Int.le_trans h.rd hr,(hk.block _ (lT h.box) (fun hc=>by have:=hZ _ hc;omega)).trans h.box,(hk.block _ (lT h.sl) (fun hc=>by have:=hZ _ hc;omega)).trans h.sl,
  hk.owns h.row (fun j hj hc=>by simp [Value.ownBlock] at hj;have:=hZ _ hc;omega),h.kept.trans hk (fun i hi=>.inl (by have:=hZ i hi;omega))⟩
theorem ZC{A:World}{g next:Nat}{l:List UInt8}(h:qu A g (z9 next l)):∀j u,(l.map qc)[j]? =some u→A.cell? (Addr.add ⟨g,4,none⟩ j)=some u:=by
 intro j u hu
 have hj:j<l.length:=by have:=(List.getElem?_eq_some_iff.1 hu).1;simpa using this
 have hb:(z9 next l).bytes.drop 4=l++List.replicate (124-(z9 next l).items.length*zk (z9 next l).kind) 0:=by
  rw [Pg.behind]
  congr 1
  exact ue l
 have hlen:=h.ok.len
 have h4:4+j<(z9 next l).bytes.length:=by
  have:=congrArg List.length hb
  simp at this
  omega
 have:=h.bs.cell (4+j) h4
 have hx:(z9 next l).bytes[4+j]=l[j]:=by
  have e1:((z9 next l).bytes.drop 4)[j]? =some l[j]:=by rw [hb,List.getElem?_append_left hj,List.getElem?_eq_getElem hj]
  rw [List.getElem?_drop,List.getElem?_eq_getElem h4] at e1
  simpa using e1
 rw [hx] at this
 have ha:Addr.add ⟨g,4,none⟩ j=⟨g,4+j,none⟩:=Addr.add_mid _ _ _
 rw [ha,this]
 rw [List.getElem?_map,List.getElem?_eq_getElem hj] at hu
 simpa [qc] using hu
theorem Tryz.infoU8b:(Tryz.prog.info? 5).map (fun i=>(i.zero,i.size,i.bytes))=some (some (.int .u8 0),1,1):=by kernel_rfl
theorem vq(w:World)(bs bd:Nat)(S:Nat→Prop)(D:Dk)(k:Int)(hs:zK w bs k (some bd))(hd:zh w bd S D)(hn:¬S bs)(hr0:0≤D.reads)(hr1:D.reads≤4611686018427360000)(e:En)(ps:List zq)(hch:yp (fun j=>D.look (j:Nat)) ps)(hnd:(ps.map zq.at_).Nodup)(hhd:yA ps=e.at_)(l:List UInt8)(hl:(ps.map zq.l).flatten=l)(hsz:l.length=e.size)(hs3:e.size≤300)(hp:ps.length≤1000):
 Calls Tryz.prog 51 #[.pointer (some ⟨bs,0,none⟩),.agg (qp e).toArray] w fun x w'=>(∃a cap,x=.returned (.slice a l.length cap)∧w'.ownsRow 0 5 1 (.slice a l.length cap) l.length (l.map qc)∧∀j,(Value.slice a l.length cap).ownBlock=some j→w.heap.size≤j)∧(∃r:Int,D.reads≤r∧r≤D.reads+ps.length∧zh w' bd S {D with reads:=r })∧Kept (fun i=>i=bd) w w':=by
 have HS:Hid _:=hs
 have HD:Hid (zh w bd S D):=hd
 have HCH:Hid (yp (fun j=>D.look (j:Nat)) ps):=hch
 have HND:Hid ((ps.map zq.at_).Nodup):=hnd
 have HL:Hid ((ps.map zq.l).flatten=l):=hl
 have HHD:Hid (yA ps=e.at_):=hhd
 have hc2:w.cell? ⟨bs,2,none⟩=some (.pointer (some ⟨bd,0,none⟩)):=hs.c2
 have hbs:=hs.lt
 have hbd:bd<w.heap.size:=hd.lt bd hd.bdS
 have HSL:Hid (∀j,S j→j<w.heap.size):=hd.lt
 clear hs hd hch hnd hl hhd
 refine yy Tryz.func51 rfl ?_
 simp only [Tryz.ntmps51,List.size_toArray,List.length_cons,List.length_nil,Nat.reduceAdd,Nat.reduceSub,Array.replicate_succ,Array.replicate_zero,List.push_toArray,List.append_toArray,List.nil_append,List.cons_append]
 unfold qp
 obtain⟨j0,hi0,hz0,hz1,hz2⟩:=info_parts Tryz.infoU8b
 obtain⟨Mk,hMs,hmk⟩:∃Mk:Array Value,Mk.size=e.size*1∧∀W:World,(Instr.makeSlice 35 (.int .i64 0) (.int .i64 (e.size:Int))).run Tryz.prog W=.ok (.slice (some ⟨W.heap.size,0,none⟩) 0 e.size) (W.alloc (.cells Mk 5)):=by
  refine⟨_,size_madeCells (Value.int .u8 0).cells (e.size*1),fun W=>?_⟩
  have:=run_make (P:=Tryz.prog) W 35 5 j0 _ Tryz.underlying35 hi0 hz0 .i64 .i64 0 (e.size:Int) (by omega) (by omega) (by rw [hz2];omega) (by omega)
  rw [hz1] at this
  simpa using this
 have HJ0:Hid (Tryz.prog.info? 5=some j0∧j0.size=1):=⟨hi0,hz1⟩
 clear hi0 hz0 hz1 hz2
 go_wp2_with fail
 obtain⟨n1,n2,n3,k3,s3⟩:=up w (.cells #[.string e.pl.key,.int .i64 e.pl.num,.bool e.mark,.int .i64 (e.size:Int),.int .i64 (e.at_:Int)] 109) (.cells Mk 5) (.cells #[.slice (some ⟨w.heap.size+1,0,none⟩) 0 e.size] 35)
 have HN1:Hid _:=n1
 have HN2:Hid _:=n2
 have HN3:Hid _:=n3
 have HK3:Hid _:=k3
 have HMS:Hid (Mk.size=e.size*1):=hMs
 clear n1 n2 n3 k3 hmk hMs
 generalize (((w.alloc (.cells #[.string e.pl.key,.int .i64 e.pl.num,.bool e.mark,.int .i64 (e.size:Int),.int .i64 (e.at_:Int)] 109)).alloc (.cells Mk 5)).alloc (.cells #[.slice (some ⟨w.heap.size+1,0,none⟩) 0 e.size] 35))=W at*
 have hcs:W.cell? ⟨bs,2,none⟩=some (.pointer (some ⟨bd,0,none⟩)):=(HK3.out.cell (a:=⟨bs,2,none⟩) hbs id).trans hc2
 have hce:W.cell? ⟨w.heap.size,4,none⟩=some (.int .i64 (e.at_:Int)):=cR HN1.out rfl
 have hbs':bs<W.heap.size:=by omega
 have hpl':w.heap.size<W.heap.size:=by omega
 clear hc2
 go_region_held3 (fun w'=>w'.cell? ⟨bs,2,none⟩=some (.pointer (some ⟨bd,0,none⟩))∧w'.cell? ⟨w.heap.size,4,none⟩=some (.int .i64 (e.at_:Int))) (go_keep) ((go_at_call 72;refine(dJ _ 29 ⟨bd,0,none⟩ e.at_).mono ?_;rintro x w1 ⟨rfl,hb1,hb2,hk1,hs1⟩;have HB1:Hid _:=hb1;have HB2:Hid _:=hb2;have HK1:Hid (Kept (fun _=>False) W.drew w1):=hk1;have cs1:w1.cell? ⟨bs,2,none⟩=some (.pointer (some ⟨bd,0,none⟩)):=(hk1.cell (a:=⟨bs,2,none⟩) hbs' id).trans hcs;have ce1:w1.cell? ⟨w.heap.size,4,none⟩=some (.int .i64 (e.at_:Int)):=(hk1.cell (a:=⟨w.heap.size,4,none⟩) hpl' id).trans hce;clear hb1 hb2 hk1))
 have hsd:W.drew.heap.size=W.heap.size:=rfl
 rw [hsd,s3] at HB1 HB2 hs1
 have HKW:Hid (Kept (fun _=>False) w w1):=(HK3.out.trans (Kept.drew (fun _=>False) W) iL).trans HK1.out iL
 have HKW1:Hid (Kept (fun _=>False) W w1):=(Kept.drew (fun _=>False) W).trans HK1.out iL
 have HD1:Hid (zh w1 bd S D):=HD.out.kept HKW.out nF
 have HM5:Hid (w1.heap[w.heap.size+2]? =_):=(HKW1.out.block _ (by omega) id).trans HN3.out
 have HMR:Hid (w1.ownsRow 0 5 1 (.slice (some ⟨w.heap.size+1,0,none⟩) 0 e.size) 0 []):=⟨by simp,.inr ⟨w.heap.size+1,e.size,Mk,rfl,Nat.zero_le _,(HKW1.out.block _ (by omega) id).trans HN2.out,by omega,by unfold maxLen;omega,HMS.out,by simp⟩⟩
 clear hcs hce cs1 ce1 HN1 HN2 HN3
 go_wp2_with fail
 have HS1:Hid (∀j,S j→j<w.heap.size):=HSL.out
 have HSEQ:Hid (∀W1,Kept (fun _=>False) w1 W1→W1.heap.size=w1.heap.size+2→kF Tryz.prog 124 #[.pointer (some ⟨w.heap.size+3+1,0,none⟩),.pointer (some ⟨w.heap.size+3,0,none⟩)] QX (fun k=>k=bd) (fun r _ A=>zh A bd S {D with reads:=r}∧A.heap[w.heap.size+3]? =some (.cells #[.iface 29 (.pointer (some ⟨bd,0,none⟩))] 193 (0,0))∧D.reads≤r) (fun r pre x A=>Zt (w1.heap.size+2) ps pre x A∧r≤D.reads+pre.length+1) (fun r xs=>xs.map BP.p=ps∧r≤D.reads+ps.length) (fun _ _=>True) D.reads W1):=fun W1 hk hsz=>by
  have:=dE W1 29 81 ⟨bd,0,none⟩ (ud _) (w.heap.size+3+1) (w.heap.size+3) ps (fun j=>D.look (j:Nat)) HCH.out HND.out (fun k=>k=bd) (fun r _ A=>zh A bd S {D with reads:=r}∧A.heap[w.heap.size+3]? =some (.cells #[.iface 29 (.pointer (some ⟨bd,0,none⟩))] 193 (0,0))∧D.reads≤r) D.reads (fun k hk=>by rw [hk];omega)
   (by rw [HHD.out];exact(hk.block _ (by omega) id).trans HB1.out) (fun r pre A h=>h.2.1)
   (fun r pre A B h hk=>⟨h.1.kept hk nF,(hk.block _ (lT h.2.1) id).trans h.2.1,h.2.2⟩)
   (fun i hi r pre A h hpre hrr=>by
    have h22:=h.2.2
    refine(xy A bd S {D with reads:=r} h.1 _ (by have:=(HCH.out.ok _ (List.getElem_mem hi)).at_;constructor<;>omega) (by show 0≤r;omega) (by show r≤_;omega)).mono ?_
    rintro x A' ⟨rfl,h1,h2⟩
    exact⟨rfl,h2,r+1,by omega,by omega,h1,(h2.block _ (lT h.2.1) (by omega)).trans h.2.1,by omega⟩)
  rw [hsz] at this
  exact this
 refine jS (α:=BP) (gf:= 124) (lb:=#[.pointer (some ⟨w.heap.size+3+1,0,none⟩),.pointer (some ⟨w.heap.size+3,0,none⟩)]) rfl (enters_of Tryz.func124 (by kernel_rfl) rfl) HSEQ.out
  (fun k hk=>by rw [hk];omega) (fun _=>rfl)
  (YL w1 bd S D (w.heap.size+3) (w.heap.size+2) (w.heap.size+1) e.size) (fun c r pre A=>False)
  (fun r pre Q A h=>⟨⟨h.disk,h.box,h.rd⟩,fun k hk=>(h.q k hk).elim⟩)
  (fun r r' pre Q A B h hr hk hi=>h.by hk (fun k hk=>.inl hk) hi.1 hr (by omega) (by omega) (by omega))
  (fun r pre Q A B h hk=>h.by hk (fun k hk=>.inr (by omega)) (h.disk.kept hk (fun j hj hc=>by have:=HS1.out j hj;omega)) (Int.le_refl _) (by omega) (by omega) (by omega))
  (fun c r pre A B h hk=>h)
  ⟨fun _ h=>h,HD1.out,Int.le_refl _,HB2.out,HM5.out,HMR.out,Kept.refl _ _⟩
  (fun x a' A=>a'={tmps:=#[.pointer (some ⟨bs,0,none⟩),.agg #[.string e.pl.key,.int .i64 e.pl.num,.bool e.mark,.int .i64 (e.size:Int),.int .i64 (e.at_:Int)],undef,.pointer (some ⟨w.heap.size,0,none⟩),.slice none 0 0,.pointer (some ⟨w.heap.size+1+1,0,none⟩),undef,.slice (some ⟨x.g,4,none⟩) x.p.l.length 124,.pointer (some ⟨w.heap.size,3,none⟩),.int .i64 (e.size:Int),.slice (some ⟨w.heap.size+1,0,none⟩) 0 e.size,.pointer (some ⟨bs,0,none⟩),.pointer (some ⟨bs,0,none⟩),.pointer (some ⟨bs,2,none⟩),.pointer (some ⟨bd,0,none⟩),.iface 29 (.pointer (some ⟨bd,0,none⟩)),.pointer (some ⟨w.heap.size,4,none⟩),.int .i64 (e.at_:Int),.func (.func 124) #[] #[.pointer (some ⟨w.heap.size+3+1,0,none⟩),.pointer (some ⟨w.heap.size+3,0,none⟩)],.int .i64 (x.p.at_:Int),.slice (some ⟨x.g,4,none⟩) x.p.l.length 124,undef,undef,undef,undef],defers:=[] })
  (fun x a A B h hk=>h)
  (fun r pre x A B h hk=>⟨⟨h.1.pre,by obtain⟨nx,hp⟩:=h.1.pg;exact⟨nx,hp.kept hk (by have:=h.1.ge;omega)⟩,h.1.ge⟩,h.2⟩) ?assign ?body ?done ?stop
 case assign=>
  intro ll r pre x Q A K hi hh hlt hK
  dsimp only [QX]
  gi_wp2
  exact hK _ _ (Kept.refl _ _) hi hh rfl
 case body=>
  rintro ll r pre x Q a' A hi hh rfl hlt
  have HI:Hid _:=hi
  obtain⟨nx,hpg⟩:=hh.1.pg
  have HPG:Hid (qu A x.g (z9 nx x.p.l)):=hpg
  have hgx:=hh.1.ge
  have hfit:(fs pre).length+x.p.l.length≤e.size:=by have:=KF hh.1.pre;rw [HL.out] at this;omega
  have c5:A.cell? ⟨w.heap.size+1+1,0,none⟩=some (.slice (some ⟨w.heap.size+1,0,none⟩) (fs pre).length e.size):=cR hi.sl rfl
  have hszA:=hi.kept.size
  clear hi hh hpg
  gi_wp2_with (gi_at_builtin;refine wpListIn_append_fits _ rfl _ _ 35 rfl 0 5 j0 1 Tryz.underlying35 HJ0.out.1 HJ0.out.2 (w.heap.size+1) (fs pre).length e.size ((fs pre).map qc) rfl HI.out.row ⟨x.g,4,none⟩ x.p.l.length 124 (x.p.l.map qc) rfl (by simp) (ZC HPG.out) (jZ _) hfit ?_;intro wA hown hgrow;have HOW:Hid _:=hown;have HKG:Hid (Kept (fun k=>k=w.heap.size+1) A wA):=Kept.grown hgrow (fun k hk=>(Option.some.inj hk).symm);have HA5:Hid (wA.heap[w.heap.size+2]? =_):=(HKG.out.block _ (by omega) (by omega)).trans HI.out.sl;have cA5:wA.cell? ⟨w.heap.size+1+1,0,none⟩=some (.slice (some ⟨w.heap.size+1,0,none⟩) (fs pre).length e.size):=(cR HA5.out rfl);have fA5:wA.frozen? ⟨w.heap.size+1+1,0,none⟩=false:=frozen_of_row wA (w.heap.size+2) 0 _ _ HA5.out;clear hown hgrow)
  have kS:=Kept.setCell (S:=fun j=>j=w.heap.size+2) wA ⟨w.heap.size+2,0,none⟩ (.slice (some ⟨w.heap.size+1,0,none⟩) ((fs pre).length+x.p.l.length) e.size) rfl
  have h5:=heap_setCell_same wA (w.heap.size+2) 0 _ _ (.slice (some ⟨w.heap.size+1,0,none⟩) ((fs pre).length+x.p.l.length) e.size) HA5.out
  have kAll:=(HKG.out.mono (S':=fun j=>j=w.heap.size+1∨j=w.heap.size+2) iL).trans kS (fun _ h=>.inl (.inr h))
  have hlen:(fs (pre++[x])).length=(fs pre).length+x.p.l.length:=by rw [ZB,List.length_append]
  refine⟨kAll.mono (fun j hj=>.inl (by omega)),Q,⟨HI.out.q,HI.out.disk.kept kAll (fun j hj hc=>by have:=HSL.out j hj;omega),HI.out.rd,(kAll.block _ (lT HI.out.box) (by omega)).trans HI.out.box,?_,?_,HI.out.kept.trans kAll (fun j hj=>.inl (by omega))⟩,fun k hk=>.inl hk⟩
  ·rw [hlen];exact h5
  ·rw [hlen,ZB,List.map_append]
   exact kS.owns HOW.out (fun j hj e0=>by simp [Value.ownBlock] at hj;omega)
 case done=>
  rintro DD r xs Q A hS hi rfl hK
  have HI:Hid _:=hi
  have hbyt:fs xs=l:=(KG hS.1).trans HL.out
  have HBY:Hid (fs xs=l):=hbyt
  have hrr:=hS.2
  have HK:Hid (A.heap[w1.heap.size]? =some (.deferred (some []))):=hK
  have hlx:(fs xs).length=l.length:=by rw [hbyt]
  have c5:A.cell? ⟨w.heap.size+1+1,0,none⟩=some (.slice (some ⟨w.heap.size+1,0,none⟩) l.length e.size):=by rw [cell_of_row A _ 0 _ _ _ hi.sl,hlx];rfl
  clear hi hbyt hS hK hlx
  dsimp only
  go_wp2
  have kp:Kept (fun k=>k=w1.heap.size) A (A.putObj w1.heap.size (.deferred none)):=Kept.putObj _ _ _ rfl
  have hrow:=HI.out.row
  rw [HBY.out] at hrow
  have hwS:=HKW.out.size
  refine jo rfl HK.out (results_tmp rfl _ _ _) ⟨⟨some ⟨w.heap.size+1,0,none⟩,e.size,by rw [hsz];rfl,kp.owns hrow (fun j hj e0=>by simp [Value.ownBlock] at hj;omega),fun j hj=>by simp [Value.ownBlock] at hj;omega⟩,⟨r,HI.out.rd,hrr,HI.out.disk.kept kp (fun j hj e0=>by have:=HSL.out j hj;omega)⟩,?_⟩
  exact((HKW.out.mono (S':=fun i=>i=bd) fE).trans HI.out.kept (fun j hj=>by
   rcases hj with h|h|h|h
   ·exact .inl h
   ·exact .inr (by omega)
   ·exact .inr (by omega)
   ·exact .inr (by omega))).trans kp (fun j hj=>.inr (by omega))
 case stop=>
  rintro DD c r pre A hS hi rfl hK
  exact hi.elim
end prog
namespace prog
open Go.MuLone
open keys (ze zd zr zn zu)
theorem qR{w:World}{bs:Nat}{q:Option Nat}(h:zK w bs 1 q):CallsD Tryz.prog 48 #[.pointer (some ⟨bs,0,none⟩)] .returning w fun e u' w'=>u'=.returning∧e=.returned (.tuple #[])∧zK w' bs 0 q∧Kept (fun k=>k=bs) w w':=
 (unlock_deferred Tryz.muLib ⟨bs,0,none⟩ .returning w h.c0 (h.fz 0)).mono (by
  rintro e u' w' ⟨rfl,rfl,rfl⟩
  exact⟨rfl,rfl,h.set 0,Kept.setCell (S:=fun k=>k=bs) w ⟨bs,0,none⟩ _ rfl⟩)
theorem qS{w:World}{bs:Nat}{q:Option Nat}(h:zK w bs 0 q):Calls Tryz.prog 47 #[.pointer (some ⟨bs,0,none⟩)] w fun e w'=>e=.returned (.tuple #[])∧zK w' bs 1 q∧Kept (fun k=>k=bs) w w':=
 (lock_free Tryz.muLib ⟨bs,0,none⟩ w h.c0 (h.fz 0)).mono (by
  rintro e w' ⟨rfl,rfl⟩
  exact⟨rfl,h.set 1,Kept.setCell (S:=fun k=>k=bs) w ⟨bs,0,none⟩ _ rfl⟩)
structure Uj (w w':World) (x:Value) (l:List UInt8):Prop where
 at_:∃a cap,x=.slice a l.length cap∧w'.ownsRow 0 5 1 (.slice a l.length cap) l.length (l.map qc)∧∀k,(Value.slice a l.length cap).ownBlock=some k→w.heap.size≤k
end prog
end Go.Proofs.YtcoengihaobddaaGreatDoor
