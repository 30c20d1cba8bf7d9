/- Part 22 of 31 of a proof: Sto1, Sto2, Sto3, Lck, BGet1, Get1, Get2 -/
import Derived.Test.YtcoengihaobddaaGreatDoorJl21
import Derived.Conc.RwLib
import Derived.Conc.MuLone
import Derived.Defers
set_option maxHeartbeats 8000000
set_option linter.unusedVariables false
set_option linter.unusedSimpArgs false
set_option maxRecDepth 8000
namespace Go.Proofs.YtcoengihaobddaaGreatDoor
open Go.ChangeShapes Go.WideShapes Go.ChangeAt Go.RowKit disk ref
namespace prog
open keys (zj zd zy zq)
structure zv (w:World) (bs:Nat) (k:Int) (q:Option Nat):Prop where
 at_:w.heap[bs]? =some (.cells #[.int .i32 k,.int .u32 0,.pointer (q.map fun b=>⟨b,0,none⟩)] 104 (0,0))
theorem zv.lt{w:World}{bs:Nat}{k:Int}{q:Option Nat}(h:zv w bs k q):bs<w.heap.size:=(lT h.at_)
theorem zv.kept{w w':World}{bs:Nat}{k:Int}{q:Option Nat}{T:Nat→Prop}(h:zv w bs k q)(kp:za T w w')(hn:¬T bs):zv w' bs k q:=⟨(kp.block bs h.lt hn).trans h.at_⟩
theorem zv.c0{w:World}{bs:Nat}{k:Int}{q:Option Nat}(h:zv w bs k q):w.cell? ⟨bs,0,none⟩=some (.int .i32 k):=cR h.at_ rfl
theorem zv.c2{w:World}{bs:Nat}{k:Int}{q:Option Nat}(h:zv w bs k q):w.cell? ⟨bs,2,none⟩=some (.pointer (q.map fun b=>⟨b,0,none⟩)):=cR h.at_ rfl
theorem zv.fz{w:World}{bs:Nat}{k:Int}{q:Option Nat}(h:zv w bs k q)(i:Nat):w.frozen? ⟨bs,i,none⟩=false:=frozen_of_row w bs i _ _ h.at_
theorem zv.set{w:World}{bs:Nat}{k:Int}{q:Option Nat}(h:zv w bs k q)(k':Int):zv (w.setCell ⟨bs,0,none⟩ (.int .i32 k')) bs k' q:=⟨heap_setCell_same w bs 0 _ _ _ h.at_⟩
theorem xv(w:World)(bs bd:Nat)(S:Nat→Prop)(D:Dk)(k:Int)(hs:zv w bs k (some bd))(hd:zh w bd S D)(hn:¬S bs)(hr0:0≤D.reads)(hr1:D.reads≤4611686018427387904)(tree n:Nat)(hb:qU (D.look 1) tree n)(p:Pl):
 Calls Tryz.prog 114 #[.pointer (some ⟨bs,0,none⟩),.agg #[.string p.key,.int .i64 p.num]] w fun e w'=>∃b1 b2 b3,e=.returned (.func (.func 190) #[] #[.pointer (some ⟨b1,0,none⟩),.pointer (some ⟨b2,0,none⟩),.pointer (some ⟨b3,0,none⟩)])∧kI w' b1 b2 b3 bd tree p∧(w.heap.size≤b1∧w.heap.size≤b2∧w.heap.size≤b3)∧zh w' bd S {D with reads:=D.reads+1}∧za (fun i=>i=bd) w w':=by
 have HS:Hid _:=hs
 have HD:Hid (zh w bd S D):=hd
 have HB:Hid _:=hb
 have hc2:w.cell? ⟨bs,2,none⟩=some (.pointer (some ⟨bd,0,none⟩)):=hs.c2
 have hbs:=hs.lt
 have hbd:bd<w.heap.size:=hd.lt bd hd.bdS
 have hne:¬bs=bd:=fun e=>hn (by rw [e];exact hd.bdS)
 clear hs hd hb
 go_enter Tryz.func114,Tryz.ntmps114
 go_wp2_with fail
 have HK0:Hid (za (fun _=>False) w (w.alloc (.cells #[.string p.key,.int .i64 p.num] 107))):=za.alloc _ _ _
 have HB0:Hid ((w.alloc (.cells #[.string p.key,.int .i64 p.num] 107)).heap[w.heap.size]? =some (.cells #[.string p.key,.int .i64 p.num] 107 (0,0))):=heap_alloc_new w _
 have hs0:(w.alloc (.cells #[.string p.key,.int .i64 p.num] 107)).heap.size=w.heap.size+1:=by simp
 generalize (w.alloc (.cells #[.string p.key,.int .i64 p.num] 107))=W at*
 have hcs:W.cell? ⟨bs,2,none⟩=some (.pointer (some ⟨bd,0,none⟩)):=(HK0.out.cell (a:=⟨bs,2,none⟩) hbs id).trans hc2
 have p0:W.cell? ⟨w.heap.size,0,none⟩=some (.string p.key):=cR HB0.out rfl
 have p1:W.cell? ⟨w.heap.size,1,none⟩=some (.int .i64 p.num):=cR HB0.out rfl
 have hbs':bs<W.heap.size:=by omega
 have hpl':w.heap.size<W.heap.size:=by omega
 have hne2:¬w.heap.size=bd:=by omega
 have HDW:Hid (zh W.drew bd S D):=(HD.out.kept HK0.out nF).kept (za.drew (fun _=>False) W) nF
 clear hc2
 have hfd:∀w:World,(Instr.field 145 (.agg #[.int .i64 (tree:Int),.int .i64 (n:Int)]) 0).run Tryz.prog w=.ok (.int .i64 (tree:Int)) w:=fun _=>by kernel_rfl
 go_region_held3 (fun w'=>w'.cell? ⟨bs,2,none⟩=some (.pointer (some ⟨bd,0,none⟩))∧w'.cell? ⟨w.heap.size,0,none⟩=some (.string p.key)∧w'.cell? ⟨w.heap.size,1,none⟩=some (.int .i64 p.num)) (go_keep) (first
  |(go_at_call 74;refine(XD _ bd S D HDW.out hr0 hr1 tree n HB.out).mono ?_;rintro e w1 ⟨rfl,hd1,hk1⟩;have HD1:Hid (zh w1 bd S {D with reads:=D.reads+1 }):=hd1;have HK1:Hid (za (fun i=>i=bd) W.drew w1):=hk1;have cs1:w1.cell? ⟨bs,2,none⟩=some (.pointer (some ⟨bd,0,none⟩)):=(hk1.cell (a:=⟨bs,2,none⟩) hbs' hne).trans hcs;have p10:w1.cell? ⟨w.heap.size,0,none⟩=some (.string p.key):=(hk1.cell (a:=⟨w.heap.size,0,none⟩) hpl' hne2).trans p0;have p11:w1.cell? ⟨w.heap.size,1,none⟩=some (.int .i64 p.num):=(hk1.cell (a:=⟨w.heap.size,1,none⟩) hpl' hne2).trans p1;have hs1:W.heap.size≤w1.heap.size:=hk1.size;clear hd1 hk1)
  |(go_at_call 158;refine(J9 _ bd tree p).mono ?_;rintro e w2 ⟨rfl,hb2,hk2,hs2⟩;have HB2:Hid _:=hb2;have HK2:Hid (za (fun _=>False) w1 w2):=hk2;have cs2:w2.cell? ⟨bs,2,none⟩=some (.pointer (some ⟨bd,0,none⟩)):=(hk2.cell (a:=⟨bs,2,none⟩) (Nat.lt_of_lt_of_le hbs' hs1) id).trans cs1;have p20:w2.cell? ⟨w.heap.size,0,none⟩=some (.string p.key):=(hk2.cell (a:=⟨w.heap.size,0,none⟩) (Nat.lt_of_lt_of_le hpl' hs1) id).trans p10;have p21:w2.cell? ⟨w.heap.size,1,none⟩=some (.int .i64 p.num):=(hk2.cell (a:=⟨w.heap.size,1,none⟩) (Nat.lt_of_lt_of_le hpl' hs1) id).trans p11;clear hb2 hk2))
 go_wp2
 go_ret
 refine⟨_,_,_,rfl,HB2.out,?_,HD1.out.kept HK2.out nF,?_⟩
 ·omega
 ·exact((((HK0.out.mono fE).trans (za.drew (fun _=>False) W) fE)).trans HK1.out iL).trans HK2.out fE
end prog
namespace prog
open keys (zj zd zy zq)
attribute [local go_sem] Oper.semAt_some
def jP:Option En→List Value
 |some x=>qg x
 |none=>qe
structure bR (w1:World) (bd:Nat) (S:Nat→Prop) (D:Dk) (r:Int) (pre:List En) (Q:Nat→Prop) (A:World):Prop where
 pre:pre=[]
 q:∀k,¬Q k
 disk:zh A bd S {D with reads:=r}
 kept:za (fun k=>k=bd∨w1.heap.size≤k) w1 A
 rd:D.reads+1≤r
structure Vp (w1:World) (bd:Nat) (S:Nat→Prop) (D:Dk) (b4 b5:Nat) (o:Option En) (c:Code) (r:Int) (A:World):Prop where
 c:c=.ret
 is:∃x,o=some x∧A.heap[b4]? =some (.cells (qg x).toArray 109 (0,0))∧A.heap[b5]? =some (.cells #[.bool true] 4 (0,0))
 disk:zh A bd S {D with reads:=r}
 kept:za (fun k=>k=bd∨k=b4∨k=b5∨w1.heap.size≤k) w1 A
 rd:D.reads+1≤r∧r≤D.reads+14
theorem bR.by{w1:World}{bd:Nat}{S:Nat→Prop}{D:Dk}{r r':Int}{pre:List En}{Q Z:Nat→Prop}{A B:World}(h:bR w1 bd S D r pre Q A)(hk:za Z A B)(hZ:∀k,Z k→k=bd∨w1.heap.size≤k)(hd:zh B bd S {D with reads:=r' })(hr:r≤r'):bR w1 bd S D r' pre Q B:=
 ⟨h.pre,h.q,hd,h.kept.trans hk (fun i hi=>.inl (hZ i hi)),Int.le_trans h.rd hr⟩
theorem uM{P:Program}{fn:Func}{p u:Tmp}{ty tb:TypeId}(h:fn.results=#[.cell p ty,.cell u tb])(tmps:Array Value)(w:World)(g gb:Nat)(t t2:TypeId)(cs:Array Value)(fr f2:Nat×Nat)(d d2:TypeDesc)(v:Value)
 (hp:tmps.getD p undef=.pointer (some ⟨g,0,none⟩)) (hg:w.heap[g]? =some (.cells cs t fr))
 (hu:P.underlying ty=some d) (hd:(match d with|.struct _|.array _ _=>true|_=>false)=true) (hi:(P.info? ty).map (·.size)=some cs.size)
 (hp2:tmps.getD u undef=.pointer (some ⟨gb,0,none⟩)) (hv:(loadVar tb ⟨gb,0,none⟩).run P w=.ok v w):
 (results fn tmps).run P w=.ok (.tuple #[.agg cs,v]) w:=by
 have hp':tmps[p]?.getD undef=.pointer (some ⟨g,0,none⟩):=by simpa using hp
 have hp2':tmps[u]?.getD undef=.pointer (some ⟨gb,0,none⟩):=by simpa using hp2
 simp [results,h,hp',hp2',asAddr,run_loadVar_row w g t ty cs fr d hg hu hd hi,hv]
theorem uN(w:World)(g:Nat)(b:Bool)(h:w.heap[g]? =some (.cells #[.bool b] 4 (0,0))):(loadVar 4 ⟨g,0,none⟩).run Tryz.prog w=.ok (.bool b) w:=by
 have hc:w.cell? ⟨g,0,none⟩=some (.bool b):=cR h rfl
 simp [loadVar,isAgg,go_sem,hc]
theorem dN(w w1 A:World)(bs bd:Nat)(S:Nat→Prop)(D:Dk)(o:Option En)(r:Int)(a:Act)(hbd:bd<w.heap.size)(hsz:w.heap.size+3≤w1.heap.size)(HKW:za (fun i=>i=bd) w w1)
 (h4:A.heap[w.heap.size+1]? =some (.cells (jP o).toArray 109 (0,0))) (h5:A.heap[w.heap.size+2]? =some (.cells #[.bool o.isSome] 4 (0,0))) (hd:zh A bd S {D with reads:=r }) (hS:∀j,S j→j<w.heap.size) (hk:za (fun k=>k=bd∨k=w.heap.size+1∨k=w.heap.size+2∨w1.heap.size≤k) w1 A) (hr:D.reads≤r∧r≤D.reads+14) (hK:A.heap[w1.heap.size]? =some (.deferred (some [])))
 (ha:a.defers=[{target:=.collected w1.heap.size,args:=#[] }]) (t4:a.tmps.getD 4 undef=.pointer (some ⟨w.heap.size+1,0,none⟩)) (t5:a.tmps.getD 5 undef=.pointer (some ⟨w.heap.size+2,0,none⟩)):
 ZA Tryz.prog Tryz.f66 (fun e w'=>e=.returned (.tuple #[.agg (jP o).toArray,.bool o.isSome])∧(∃r:Int,D.reads≤r∧r≤D.reads+14∧zh w' bd S {D with reads:=r })∧za (fun i=>i=bd) w w') .ret a A:=by
 have kp:za (fun k=>k=w1.heap.size) A (A.putObj w1.heap.size (.deferred none)):=za.putObj _ _ _ rfl
 have h4':=(kp.block _ (lT h4) (by omega)).trans h4
 have h5':=(kp.block _ (lT h5) (by omega)).trans h5
 have hlen:(jP o).toArray.size=5:=by cases o<;>rfl
 refine jA ha hK (uM Tryz.results66 _ _ (w.heap.size+1) (w.heap.size+2) 109 4 _ (0,0) (0,0) _ (.int .i64) _ t4 h4' Tryz.underlying109 rfl (by rw [hlen];kernel_rfl) t5 (uN _ _ _ h5')) ⟨rfl,⟨r,hr.1,hr.2,hd.kept kp (fun j hj e=>by have:=hS j hj;omega)⟩,?_⟩
 exact(HKW.trans hk (fun j hj=>by rcases hj with h|h|h|h;exact .inl h;exact .inr (by omega);exact .inr (by omega);exact .inr (by omega))).trans kp (fun j hj=>.inr (by omega))
theorem dO(w:World)(bs bd:Nat)(S:Nat→Prop)(D:Dk)(k:Int)(hs:zv w bs k (some bd))(hd:zh w bd S D)(hn:¬S bs)(hr0:0≤D.reads)(hr1:D.reads≤4611686018427360000)(tree n:Nat)(hb:qU (D.look 1) tree n)(p:Pl)(es:List En)(bl:List Nat)(hF:qG (fun j=>D.look (j:Nat)) tree es bl)(hbl:bl.length≤979)(hbs:∀j∈bl,21≤j):
 Calls Tryz.prog 66 #[.pointer (some ⟨bs,0,none⟩),.agg #[.string p.key,.int .i64 p.num]] w fun e w'=>e=.returned (.tuple #[.agg (jP (yA p es).head?).toArray,.bool (yA p es).head?.isSome])∧(∃r:Int,D.reads≤r∧r≤D.reads+14∧zh w' bd S {D with reads:=r })∧za (fun i=>i=bd) w w':=by
 have HS:Hid _:=hs
 have HD:Hid (zh w bd S D):=hd
 have HB:Hid _:=hb
 have HF:Hid (qG (fun j=>D.look (j:Nat)) tree es bl):=hF
 have HBS:Hid (∀j∈bl,21≤j):=hbs
 have hbs:=hs.lt
 have hbd:bd<w.heap.size:=hd.lt bd hd.bdS
 have HSL:Hid (∀j,S j→j<w.heap.size):=hd.lt
 clear hs hd hb hF hbs
 refine yy Tryz.func66 rfl ?_
 simp only [Tryz.ntmps66,List.size_toArray,List.length_cons,List.length_nil,Nat.reduceAdd,Nat.reduceSub,Array.replicate_succ,Array.replicate_zero,List.push_toArray,List.append_toArray,List.nil_append,List.cons_append]
 go_wp2_with fail
 obtain⟨n1,n2,n3,k3,s3⟩:=uL w (.cells #[.string p.key,.int .i64 p.num] 107) (.cells #[.string ⟨#[]⟩,.int .i64 0,.bool false,.int .i64 0,.int .i64 0] 109) (.cells #[.bool false] 4)
 have HN2:Hid _:=n2
 have HN3:Hid _:=n3
 have HK3:Hid _:=k3
 clear n1 n2 n3 k3
 generalize (((w.alloc (.cells #[.string p.key,.int .i64 p.num] 107)).alloc (.cells #[.string ⟨#[]⟩,.int .i64 0,.bool false,.int .i64 0,.int .i64 0] 109)).alloc (.cells #[.bool false] 4))=W at*
 refine(xv W bs bd S D k (HS.out.kept HK3.out id) (HD.out.kept HK3.out nF) hn hr0 (by omega) tree n HB.out p).mono ?_
 rintro e w1 ⟨b1,b2,b3,rfl,hbox,hbb,hd1,hk1⟩
 have HBX:Hid _:=hbox
 have HD1:Hid (zh w1 bd S {D with reads:=D.reads+1 }):=hd1
 have HK1:Hid (za (fun i=>i=bd) W w1):=hk1
 have hsz1:=hk1.size
 have HE4:Hid (w1.heap[w.heap.size+1]? =_):=(hk1.block _ (by omega) (by omega)).trans HN2.out
 have HE5:Hid (w1.heap[w.heap.size+2]? =_):=(hk1.block _ (by omega) (by omega)).trans HN3.out
 clear hbox hd1 hk1
 go_wp2_with fail
 have HS1:Hid (∀j,S j→j<w1.heap.size):=HD1.out.lt
 have HKW1:Hid (za (fun i=>i=bd) w w1):=(HK3.out.mono fE).trans HK1.out iL
 refine kf (α:=En) (gf:= 190) (lb:=#[.pointer (some ⟨b1,0,none⟩),.pointer (some ⟨b2,0,none⟩),.pointer (some ⟨b3,0,none⟩)]) rfl (enters_of Tryz.func190 (by kernel_rfl) rfl)
  (fun W1 hk hsz=>ZG W1 bd S D b1 b2 b3 tree p (HBX.out.kept hk id id id) es bl HF.out hbl HBS.out (by omega) (D.reads+1) (by omega) (by omega))
  (fun k hk=>by rw [hk];omega) (fun _=>rfl)
  (bR w1 bd S D) (fun c r pre A=>Vp w1 bd S D (w.heap.size+1) (w.heap.size+2) (yA p es).head? c r A)
  (fun r pre Q A h=>⟨h.disk,fun k hk=>(h.q k hk).elim⟩)
  (fun r r' pre Q A B h hr hk hi=>h.by hk (fun k hk=>.inl hk) hi hr)
  (fun r pre Q A B h hk=>h.by hk (fun k hk=>.inr (by omega)) (h.disk.kept hk (fun j hj hc=>by have:=HS1.out j hj;omega)) (Int.le_refl _))
  (fun c r pre A B h hk=>⟨h.c,by
   obtain⟨x,h1,h2,h3⟩:=h.is
   exact⟨x,h1,(hk.block _ (lT h2) (by omega)).trans h2,(hk.block _ (lT h3) (by omega)).trans h3⟩,h.disk.kept hk (fun j hj hc=>by have:=HS1.out j hj;omega),h.kept.trans hk (fun i hi=>.inl (.inr (.inr (.inr (by omega))))),h.rd⟩)
  ⟨rfl,fun _ h=>h,HD1.out,za.refl _ _,Int.le_refl _⟩
  (fun x a' A=>∃b6,w1.heap.size+1<b6∧A.heap[b6]? =some (.cells (qg x).toArray 109 (0,0))∧a'={tmps:=#[.pointer (some ⟨bs,0,none⟩),.agg #[.string p.key,.int .i64 p.num],undef,.pointer (some ⟨w.heap.size,0,none⟩),.pointer (some ⟨w.heap.size+1,0,none⟩),.pointer (some ⟨w.heap.size+1+1,0,none⟩),.pointer (some ⟨b6,0,none⟩),.pointer (some ⟨bs,0,none⟩),.agg #[.string p.key,.int .i64 p.num],.func (.func 190) #[] #[.pointer (some ⟨b1,0,none⟩),.pointer (some ⟨b2,0,none⟩),.pointer (some ⟨b3,0,none⟩)],.agg (qg x).toArray,undef,undef],defers:=[] })
  (fun x a A B h hk=>by
   obtain⟨b6,h1,h2,h3⟩:=h
   exact⟨b6,h1,(hk.block _ (lT h2) (by omega)).trans h2,h3⟩)
  (fun r pre x A B h _=>h) ?assign ?body ?done ?stop
 case assign=>
  intro l r pre x Q A K hi hh hlt hK
  dsimp only [qg]
  gi_wp2
  exact hK _ _ (za.alloc _ _ _) (hi.by (za.alloc (fun _=>False) _ _) (fun _ h=>h.elim) (hi.disk.kept (za.alloc (fun _=>False) _ _) nF) (Int.le_refl _)) hh ⟨A.heap.size,by omega,heap_alloc_new A _,rfl⟩
 case body=>
  rintro l r pre x Q a' A hi hh ⟨b6,hb6,hbx,rfl⟩ hlt
  have HI:Hid _:=hi
  have HH:Hid _:=hh
  have HX:Hid _:=hbx
  have HA4:Hid (A.heap[w.heap.size+1]? =_):=(hi.kept.block _ (by omega) (by omega)).trans HE4.out
  have HA5:Hid (A.heap[w.heap.size+2]? =_):=(hi.kept.block _ (by omega) (by omega)).trans HE5.out
  have HPX:Hid ((yA p es).head? =some x):=by
   have h1:=hh.pre
   rw [hi.pre] at h1
   obtain⟨z,hz⟩:=h1
   show (yA p es).head? =some x
   rw [←hz];rfl
  clear hi hh hbx
  have x0:A.cell? ⟨b6,0,none⟩=some (.string x.pl.key):=cR HX.out rfl
  have x1:A.cell? ⟨b6,1,none⟩=some (.int .i64 x.pl.num):=cR HX.out rfl
  have x2:A.cell? ⟨b6,2,none⟩=some (.bool x.mark):=cR HX.out rfl
  have x3:A.cell? ⟨b6,3,none⟩=some (.int .i64 (x.size:Int)):=cR HX.out rfl
  have x4:A.cell? ⟨b6,4,none⟩=some (.int .i64 (x.at_:Int)):=cR HX.out rfl
  have q0:A.cell? ⟨w.heap.size+1,0,none⟩=some (.string ⟨#[]⟩):=cR HA4.out rfl
  have q1:A.cell? ⟨w.heap.size+1,1,none⟩=some (.int .i64 0):=cR HA4.out rfl
  have q2:A.cell? ⟨w.heap.size+1,2,none⟩=some (.bool false):=cR HA4.out rfl
  have q3:A.cell? ⟨w.heap.size+1,3,none⟩=some (.int .i64 0):=cR HA4.out rfl
  have q4:A.cell? ⟨w.heap.size+1,4,none⟩=some (.int .i64 0):=cR HA4.out rfl
  have f0:=frozen_of_row A (w.heap.size+1) 0 _ _ HA4.out
  have f1:=frozen_of_row A (w.heap.size+1) 1 _ _ HA4.out
  have f2:=frozen_of_row A (w.heap.size+1) 2 _ _ HA4.out
  have f3:=frozen_of_row A (w.heap.size+1) 3 _ _ HA4.out
  have f4:=frozen_of_row A (w.heap.size+1) 4 _ _ HA4.out
  have q5:A.cell? ⟨w.heap.size+1+1,0,none⟩=some (.bool false):=cR HA5.out rfl
  have f5:A.frozen? ⟨w.heap.size+1+1,0,none⟩=false:=frozen_of_row A (w.heap.size+2) 0 _ _ HA5.out
  dsimp only [qg]
  gi_wp2
  obtain⟨hh4,kS⟩:=jM A (w.heap.size+1) 109 _ _ _ _ _ (.string x.pl.key) (.int .i64 x.pl.num) (.bool x.mark) (.int .i64 (x.size:Int)) (.int .i64 (x.at_:Int)) HA4.out
  have hb5:=(kS.block (w.heap.size+2) (by omega) (by omega)).trans HA5.out
  have kS2:=za.setCell (S:=fun j=>j=w.heap.size+2) (((((A.setCell ⟨w.heap.size+1,0,none⟩ (.string x.pl.key)).setCell ⟨w.heap.size+1,1,none⟩ (.int .i64 x.pl.num)).setCell ⟨w.heap.size+1,2,none⟩ (.bool x.mark)).setCell ⟨w.heap.size+1,3,none⟩ (.int .i64 (x.size:Int))).setCell ⟨w.heap.size+1,4,none⟩ (.int .i64 (x.at_:Int))) ⟨w.heap.size+2,0,none⟩ (.bool true) rfl
  have kAll:=(kS.mono (S':=fun j=>j=w.heap.size+1∨j=w.heap.size+2) iL).trans kS2 (fun _ h=>.inl (.inr h))
  refine⟨kAll.mono (fun j hj=>.inl (by omega)),rfl,⟨x,HPX.out,?_,?_⟩,HI.out.disk.kept kAll (fun j hj hc=>by have:=HSL.out j hj;omega),(HI.out.kept.mono (S':=fun k=>k=bd∨k=w.heap.size+1∨k=w.heap.size+2∨w1.heap.size≤k) (fun j hj=>by omega)).trans kAll (fun j hj=>.inl (by omega)),HI.out.rd,?_⟩
  ·exact(kS2.block _ (by simp [World.setCell];omega) (by omega)).trans hh4
  ·exact heap_setCell_same _ (w.heap.size+2) 0 _ _ _ hb5
  ·have:=HH.out.first HI.out.pre
   omega
 case done=>
  rintro DD r xs Q A hS hi rfl hK
  have hxs:yA p es=[]:=by rw [←hS.1];exact hi.pre
  have HX:Hid (yA p es=[]):=hxs
  have HI:Hid _:=hi
  have hrr:=hS.2.2 hi.pre
  have HK:Hid (A.heap[w1.heap.size]? =some (.deferred (some []))):=hK
  have HA4:Hid (A.heap[w.heap.size+1]? =_):=(hi.kept.block _ (by omega) (by omega)).trans HE4.out
  have HA5:Hid (A.heap[w.heap.size+2]? =_):=(hi.kept.block _ (by omega) (by omega)).trans HE5.out
  have hszA:=hi.kept.size
  clear hxs hi hS hK
  have q0:A.cell? ⟨w.heap.size+1,0,none⟩=some (.string ⟨#[]⟩):=cR HA4.out rfl
  have q1:A.cell? ⟨w.heap.size+1,1,none⟩=some (.int .i64 0):=cR HA4.out rfl
  have q2:A.cell? ⟨w.heap.size+1,2,none⟩=some (.bool false):=cR HA4.out rfl
  have q3:A.cell? ⟨w.heap.size+1,3,none⟩=some (.int .i64 0):=cR HA4.out rfl
  have q4:A.cell? ⟨w.heap.size+1,4,none⟩=some (.int .i64 0):=cR HA4.out rfl
  have f0:=frozen_of_row A (w.heap.size+1) 0 _ _ HA4.out
  have f1:=frozen_of_row A (w.heap.size+1) 1 _ _ HA4.out
  have f2:=frozen_of_row A (w.heap.size+1) 2 _ _ HA4.out
  have f3:=frozen_of_row A (w.heap.size+1) 3 _ _ HA4.out
  have f4:=frozen_of_row A (w.heap.size+1) 4 _ _ HA4.out
  have q5:A.cell? ⟨w.heap.size+1+1,0,none⟩=some (.bool false):=cR HA5.out rfl
  have f5:A.frozen? ⟨w.heap.size+1+1,0,none⟩=false:=frozen_of_row A (w.heap.size+2) 0 _ _ HA5.out
  dsimp only
  go_wp2
  obtain⟨hh4,kS⟩:=jM A (w.heap.size+1) 109 _ _ _ _ _ (.string ⟨#[]⟩) (.int .i64 0) (.bool false) (.int .i64 0) (.int .i64 0) HA4.out
  have hb5:=(kS.block (w.heap.size+2) (by omega) (by omega)).trans HA5.out
  have kS2:=za.setCell (S:=fun j=>j=w.heap.size+2) (((((A.setCell ⟨w.heap.size+1,0,none⟩ (.string ⟨#[]⟩)).setCell ⟨w.heap.size+1,1,none⟩ (.int .i64 0)).setCell ⟨w.heap.size+1,2,none⟩ (.bool false)).setCell ⟨w.heap.size+1,3,none⟩ (.int .i64 0)).setCell ⟨w.heap.size+1,4,none⟩ (.int .i64 0)) ⟨w.heap.size+2,0,none⟩ (.bool false) rfl
  have kAll:=(kS.mono (S':=fun j=>j=w.heap.size+1∨j=w.heap.size+2) iL).trans kS2 (fun _ h=>.inl (.inr h))
  rw [HX.out]
  refine dN w w1 _ bs bd S D none r _ hbd (by omega) HKW1.out ?_ ?_ (HI.out.disk.kept kAll (fun j hj hc=>by have:=HSL.out j hj;omega)) HSL.out ((HI.out.kept.mono (S':=fun k=>k=bd∨k=w.heap.size+1∨k=w.heap.size+2∨w1.heap.size≤k) (fun j hj=>by omega)).trans kAll (fun j hj=>.inl (by omega))) ⟨by have:=HI.out.rd;omega,by omega⟩ ((kAll.block _ (lT HK.out) (by omega)).trans HK.out) rfl rfl rfl
  ·exact(kS2.block _ (by simp [World.setCell];omega) (by omega)).trans hh4
  ·exact heap_setCell_same _ (w.heap.size+2) 0 _ _ _ hb5
 case stop=>
  rintro DD c r pre A hS hi rfl hK
  obtain⟨rfl,⟨x,hx,h4,h5⟩,hd,hk,hr⟩:=hi
  have HX:Hid ((yA p es).head? =some x):=hx
  have H4:Hid (A.heap[w.heap.size+1]? =some (.cells (qg x).toArray 109 (0,0))):=h4
  have H5:Hid (A.heap[w.heap.size+2]? =some (.cells #[.bool true] 4 (0,0))):=h5
  have HDA:Hid (zh A bd S {D with reads:=r }):=hd
  have HKA:Hid (za (fun k=>k=bd∨k=w.heap.size+1∨k=w.heap.size+2∨w1.heap.size≤k) w1 A):=hk
  have HK:Hid (A.heap[w1.heap.size]? =some (.deferred (some []))):=hK
  clear hx h4 h5 hd hk hK hS
  dsimp only
  go_wp2
  rw [HX.out]
  exact dN w w1 A bs bd S D (some x) r _ hbd (by omega) HKW1.out H4.out H5.out HDA.out HSL.out HKA.out ⟨by omega,by omega⟩ HK.out rfl rfl rfl
end prog
namespace prog
open keys (zj zd zy zq)
def kR(key:ByteArray):Option En→Bool
 |some x=>decide (x.pl.key=key)&& !x.mark
 |none=>false
theorem jH(w:World)(bs bd:Nat)(S:Nat→Prop)(D:Dk)(k:Int)(hs:zv w bs k (some bd))(hd:zh w bd S D)(hn:¬S bs)(hr0:0≤D.reads)(hr1:D.reads≤4611686018427360000)(tree n:Nat)(hb:qU (D.look 1) tree n)(key:ByteArray)(es:List En)(bl:List Nat)(hF:qG (fun j=>D.look (j:Nat)) tree es bl)(hbl:bl.length≤979)(hbs:∀j∈bl,21≤j)(o:Option En)(ho:(yA ⟨key,9223372036854775807⟩ es).head? =o):
 Calls Tryz.prog 50 #[.pointer (some ⟨bs,0,none⟩),.string key] w fun e w'=>e=.returned (.tuple #[.agg (jP o).toArray,.bool (kR key o)])∧(∃r:Int,D.reads≤r∧r≤D.reads+14∧zh w' bd S {D with reads:=r })∧za (fun i=>i=bd) w w':=by
 have hbd:bd<w.heap.size:=hd.lt bd hd.bdS
 have HSL:Hid (∀j,S j→j<w.heap.size):=hd.lt
 have HK0:Hid (za (fun _=>False) w (w.alloc (.cells #[.string ⟨#[]⟩,.int .i64 0,.bool false,.int .i64 0,.int .i64 0] 109))):=za.alloc _ _ _
 have HB0:Hid ((w.alloc (.cells #[.string ⟨#[]⟩,.int .i64 0,.bool false,.int .i64 0,.int .i64 0] 109)).heap[w.heap.size]? =some (.cells #[.string ⟨#[]⟩,.int .i64 0,.bool false,.int .i64 0,.int .i64 0] 109 (0,0))):=heap_alloc_new w _
 have hs0:(w.alloc (.cells #[.string ⟨#[]⟩,.int .i64 0,.bool false,.int .i64 0,.int .i64 0] 109)).heap.size=w.heap.size+1:=by simp
 have HC:Hid (Calls Tryz.prog 66 #[.pointer (some ⟨bs,0,none⟩),.agg #[.string key,.int .i64 9223372036854775807]] (w.alloc (.cells #[.string ⟨#[]⟩,.int .i64 0,.bool false,.int .i64 0,.int .i64 0] 109)) fun e w'=>e=.returned (.tuple #[.agg (jP o).toArray,.bool o.isSome])∧(∃r:Int,D.reads≤r∧r≤D.reads+14∧zh w' bd S {D with reads:=r })∧za (fun i=>i=bd) (w.alloc (.cells #[.string ⟨#[]⟩,.int .i64 0,.bool false,.int .i64 0,.int .i64 0] 109)) w'):=by
  have:=dO (w.alloc (.cells #[.string ⟨#[]⟩,.int .i64 0,.bool false,.int .i64 0,.int .i64 0] 109)) bs bd S D k (hs.kept HK0.out id) (hd.kept HK0.out nF) hn hr0 hr1 tree n hb ⟨key,9223372036854775807⟩ es bl hF hbl hbs
  rw [ho] at this
  exact this
 clear hs hd hb hF hbs ho
 generalize hW0:(w.alloc (.cells #[.string ⟨#[]⟩,.int .i64 0,.bool false,.int .i64 0,.int .i64 0] 109))=W0 at*
 go_enter Tryz.func50,Tryz.ntmps50
 go_wp2_with fail
 clear hW0
 refine HC.out.mono ?_
 rintro e w1 ⟨rfl,⟨r1,hra,hrb,hd1⟩,hk1⟩
 have HD1:Hid (zh w1 bd S {D with reads:=r1 }):=hd1
 have HK1:Hid (za (fun i=>i=bd) W0 w1):=hk1
 have hsz1:=hk1.size
 have HB1:Hid (w1.heap[w.heap.size]? =_):=(hk1.block _ (by omega) (by omega)).trans HB0.out
 clear hd1 hk1 HC
 obtain⟨v0,v1,v2,v3,v4,hv,hvn⟩:∃(v0:ByteArray) (v1:Int) (v2:Bool) (v3 v4:Int),jP o=[.string v0,.int .i64 v1,.bool v2,.int .i64 v3,.int .i64 v4]∧kR key o=(o.isSome&&(decide (v0=key)&& !v2)):=by
  cases o with
  |none=>exact⟨_,_,_,_,_,rfl,rfl⟩
  |some x=>exact⟨_,_,_,_,_,rfl,rfl⟩
 have HV:Hid (jP o=[.string v0,.int .i64 v1,.bool v2,.int .i64 v3,.int .i64 v4]):=hv
 have HVN:Hid (kR key o=(o.isSome&&(decide (v0=key)&& !v2))):=hvn
 rw [hv]
 clear hv hvn
 generalize hf:o.isSome=f at*
 have HB2:Hid ((w1.alloc (.cells #[.string v0,.int .i64 v1,.bool v2,.int .i64 v3,.int .i64 v4] 109)).heap[w1.heap.size]? =some (.cells #[.string v0,.int .i64 v1,.bool v2,.int .i64 v3,.int .i64 v4] 109 (0,0))):=heap_alloc_new w1 _
 have HK2:Hid (za (fun _=>False) w1 (w1.alloc (.cells #[.string v0,.int .i64 v1,.bool v2,.int .i64 v3,.int .i64 v4] 109))):=za.alloc _ _ _
 have hs2:(w1.alloc (.cells #[.string v0,.int .i64 v1,.bool v2,.int .i64 v3,.int .i64 v4] 109)).heap.size=w1.heap.size+1:=by simp
 go_wp2_with fail
 generalize (w1.alloc (.cells #[.string v0,.int .i64 v1,.bool v2,.int .i64 v3,.int .i64 v4] 109))=W2 at*
 have HB3:Hid (W2.heap[w.heap.size]? =_):=(HK2.out.block _ (by omega) id).trans HB1.out
 have x0:W2.cell? ⟨w1.heap.size,0,none⟩=some (.string v0):=cR HB2.out rfl
 have x1:W2.cell? ⟨w1.heap.size,1,none⟩=some (.int .i64 v1):=cR HB2.out rfl
 have x2:W2.cell? ⟨w1.heap.size,2,none⟩=some (.bool v2):=cR HB2.out rfl
 have x3:W2.cell? ⟨w1.heap.size,3,none⟩=some (.int .i64 v3):=cR HB2.out rfl
 have x4:W2.cell? ⟨w1.heap.size,4,none⟩=some (.int .i64 v4):=cR HB2.out rfl
 have q0:W2.cell? ⟨w.heap.size,0,none⟩=some (.string ⟨#[]⟩):=cR HB3.out rfl
 have q1:W2.cell? ⟨w.heap.size,1,none⟩=some (.int .i64 0):=cR HB3.out rfl
 have q2:W2.cell? ⟨w.heap.size,2,none⟩=some (.bool false):=cR HB3.out rfl
 have q3:W2.cell? ⟨w.heap.size,3,none⟩=some (.int .i64 0):=cR HB3.out rfl
 have q4:W2.cell? ⟨w.heap.size,4,none⟩=some (.int .i64 0):=cR HB3.out rfl
 have f0:=frozen_of_row W2 w.heap.size 0 _ _ HB3.out
 have f1:=frozen_of_row W2 w.heap.size 1 _ _ HB3.out
 have f2:=frozen_of_row W2 w.heap.size 2 _ _ HB3.out
 have f3:=frozen_of_row W2 w.heap.size 3 _ _ HB3.out
 have f4:=frozen_of_row W2 w.heap.size 4 _ _ HB3.out
 have hne:¬w.heap.size=w1.heap.size:=by omega
 have hne':¬w1.heap.size=w.heap.size:=by omega
 have fin:∀(W3:World),W3=(((((W2.drew.setCell ⟨w.heap.size,0,none⟩ (.string v0)).setCell ⟨w.heap.size,1,none⟩ (.int .i64 v1)).setCell ⟨w.heap.size,2,none⟩ (.bool v2)).setCell ⟨w.heap.size,3,none⟩ (.int .i64 v3)).setCell ⟨w.heap.size,4,none⟩ (.int .i64 v4))→∀(a:Act) (b:Bool),a.defers=[]→a.tmps.getD 4 undef=.pointer (some ⟨w.heap.size,0,none⟩)→a.tmps.getD 5 undef=.bool b→kR key o=b→
  bodyPost Tryz.prog Tryz.f50 (fun e w'=>e=.returned (.tuple #[.agg (jP o).toArray,.bool (kR key o)])∧(∃r:Int,D.reads≤r∧r≤D.reads+14∧zh w' bd S {D with reads:=r })∧za (fun i=>i=bd) w w') .ret a W3:=by
  rintro W3 rfl a b hd h4 h5 hb
  obtain⟨hh,kS⟩:=jM W2.drew w.heap.size 109 _ _ _ _ _ (.string v0) (.int .i64 v1) (.bool v2) (.int .i64 v3) (.int .i64 v4) (((za.drew (fun _=>False) W2).block _ (by omega) id).trans HB3.out)
  refine bodyPost_ret (v:=.tuple #[.agg (jP o).toArray,.bool (kR key o)]) ?_ hd ⟨rfl,⟨r1,hra,hrb,?_⟩,?_⟩
  ·have:=qz Tryz.results50 a.tmps _ w.heap.size 109 _ (0,0) _ h4 hh Tryz.underlying109 rfl (by kernel_rfl)
   rw [h5] at this
   rw [HV.out,hb]
   exact this
  ·exact((HD1.out.kept HK2.out nF).kept (za.drew (fun _=>False) W2) nF).kept kS (fun j hj e=>by have:=HSL.out j hj;omega)
  ·exact(((((HK0.out.mono fE).trans HK1.out iL).trans HK2.out fE).trans (za.drew (fun _=>False) W2) fE)).trans kS (fun j hj=>.inr (by omega))
 have FIN:Hid _:=fin
 clear fin
 cases f with
 |false=>
  go_region
  all_goals
   go_wp2
   exact FIN.out _ rfl _ false rfl rfl rfl (by rw [HVN.out];rfl)
 |true=>
  by_cases hk:v0.toList=key.toList
  ·have HK:Hid (v0=key):=qN.1 hk
   have hkb:(v0.toList==key.toList)=true:=by simp [hk]
   clear hk
   go_region_held3 (fun w'=>w'.cell? ⟨w1.heap.size,0,none⟩=some (.string v0)∧w'.cell? ⟨w1.heap.size,1,none⟩=some (.int .i64 v1)∧w'.cell? ⟨w1.heap.size,2,none⟩=some (.bool v2)∧w'.cell? ⟨w1.heap.size,3,none⟩=some (.int .i64 v3)∧w'.cell? ⟨w1.heap.size,4,none⟩=some (.int .i64 v4)) (go_keep) (fail)
   all_goals
    go_wp2
    exact FIN.out _ rfl _ (!v2) rfl rfl rfl (by rw [HVN.out,HK.out];simp)
  ·have HK:Hid (¬v0=key):=mt qN.2 hk
   have hkb:(v0.toList==key.toList)=false:=by simpa using hk
   clear hk
   go_region
   all_goals
    go_wp2
    exact FIN.out _ rfl _ false rfl rfl rfl (by rw [HVN.out];simp [HK.out])
end prog
namespace prog
open Go.MuLone
abbrev Tryz.muLink:Go.Conc.Locks.MuLink:={lock:= 47,unlock:= 48,ilock:= 69,iunlock:= 70,lockSlow:= 120,unlockSlow:= 123,disable:= 116,enable:= 118,acquire:= 119,relMerge:= 121,cas32:= 117,add32:= 122,tMutex:= 102,tIMutex:= 100,tPMutex:= 137,tPIMutex:= 185,tPI32:= 187,tUP:= 189,tNoCopy:= 97,tU32:= 98}
theorem Tryz.muLib:Go.Conc.Locks.MuLib Tryz.prog Tryz.muLink:=
 ⟨Tryz.func47,Tryz.func48,Tryz.func69,Tryz.func70,Tryz.func116,Tryz.func118,Tryz.func119,Tryz.func121,Tryz.func117,Tryz.func122,Tryz.underlying100,Tryz.runUnderlying100,Tryz.sizeOf100,Tryz.isAgg100,Tryz.zeroValue100,Tryz.underlying102,Tryz.runUnderlying102,Tryz.sizeOf102,Tryz.isAgg102,Tryz.zeroValue102,Tryz.underlying137,Tryz.runUnderlying137,Tryz.sizeOf137,Tryz.isAgg137,Tryz.zeroValue137,Tryz.underlying185,Tryz.runUnderlying185,Tryz.sizeOf185,Tryz.isAgg185,Tryz.zeroValue185,Tryz.underlying187,Tryz.runUnderlying187,Tryz.sizeOf187,Tryz.isAgg187,Tryz.zeroValue187,Tryz.underlying189,Tryz.runUnderlying189,Tryz.sizeOf189,Tryz.isAgg189,Tryz.zeroValue189,Tryz.underlying97,Tryz.runUnderlying97,Tryz.sizeOf97,Tryz.isAgg97,Tryz.zeroValue97,Tryz.underlying21,Tryz.runUnderlying21,Tryz.sizeOf21,Tryz.isAgg21,Tryz.zeroValue21,(by kernel_rfl)⟩
end prog
namespace prog
open keys (zj zd zy zq)
attribute [local go_sem] Oper.semAt_some
theorem XI(w:World)(T:TypeId)(a:Addr)(at_:Nat):Calls Tryz.prog 72 #[.iface T (.pointer (some a)),.int .i64 at_] w fun e w'=>
 e=.returned (.func (.func 124) #[] #[.pointer (some ⟨w.heap.size+1,0,none⟩),.pointer (some ⟨w.heap.size,0,none⟩)])∧w'.heap[w.heap.size+1]? =some (.cells #[.int .i64 (at_:Int)] 3 (0,0))∧w'.heap[w.heap.size]? =some (.cells #[.iface T (.pointer (some a))] 193 (0,0))∧za (fun _=>False) w w'∧w'.heap.size=w.heap.size+2:=by
 go_enter Tryz.func72,Tryz.ntmps72
 go_wp2
 go_ret
 exact⟨rfl,heap_alloc2_new w _ _,((za.alloc (fun _=>False) _ _).block w.heap.size (by simp) id).trans (heap_alloc_new w _),za.alloc2 _ _ _,by simp⟩
def VN(pre:List BP):List UInt8:=(pre.map fun x=>x.p.l).flatten
structure V5 (w1:World) (bd:Nat) (S:Nat→Prop) (D:Dk) (b2 b5 g cap:Nat) (r:Int) (pre:List BP) (Q:Nat→Prop) (A:World):Prop where
 q:∀k,¬Q k
 disk:zh A bd S {D with reads:=r}
 rd:D.reads≤r
 box:A.heap[b2]? =some (.cells #[.iface 29 (.pointer (some ⟨bd,0,none⟩))] 193 (0,0))
 sl:A.heap[b5]? =some (.cells #[.slice (some ⟨g,0,none⟩) (VN pre).length cap] 35 (0,0))
 row:A.ownsRow 0 5 1 (.slice (some ⟨g,0,none⟩) (VN pre).length cap) (VN pre).length ((VN pre).map qK)
 kept:za (fun k=>k=bd∨k=b5∨k=g∨w1.heap.size≤k) w1 A
theorem Tryz.infoU8b:(Tryz.prog.info? 5).map (fun i=>(i.zero,i.size,i.bytes))=some (some (.int .u8 0),1,1):=by kernel_rfl
end prog
namespace prog
open Go.MuLone
open keys (zj zd zy zq zt)
theorem qw{w:World}{bs:Nat}{q:Option Nat}(h:zv w bs 1 q):CallsD Tryz.prog 48 #[.pointer (some ⟨bs,0,none⟩)] .returning w fun e u' w'=>u'=.returning∧e=.returned (.tuple #[])∧zv w' bs 0 q∧za (fun k=>k=bs) w w':=
 (unlock_deferred Tryz.muLib ⟨bs,0,none⟩ .returning w h.c0 (h.fz 0)).mono (by
  rintro e u' w' ⟨rfl,rfl,rfl⟩
  exact⟨rfl,rfl,h.set 0,za.setCell (S:=fun k=>k=bs) w ⟨bs,0,none⟩ _ rfl⟩)
theorem qx{w:World}{bs:Nat}{q:Option Nat}(h:zv w bs 0 q):Calls Tryz.prog 47 #[.pointer (some ⟨bs,0,none⟩)] w fun e w'=>e=.returned (.tuple #[])∧zv w' bs 1 q∧za (fun k=>k=bs) w w':=
 (lock_free Tryz.muLib ⟨bs,0,none⟩ w h.c0 (h.fz 0)).mono (by
  rintro e w' ⟨rfl,rfl⟩
  exact⟨rfl,h.set 1,za.setCell (S:=fun k=>k=bs) w ⟨bs,0,none⟩ _ rfl⟩)
structure V9 (w w':World) (x:Value) (l:List UInt8):Prop where
 at_:∃a cap,x=.slice a l.length cap∧w'.ownsRow 0 5 1 (.slice a l.length cap) l.length (l.map qK)∧∀k,(Value.slice a l.length cap).ownBlock=some k→w.heap.size≤k
end prog
end Go.Proofs.YtcoengihaobddaaGreatDoor
