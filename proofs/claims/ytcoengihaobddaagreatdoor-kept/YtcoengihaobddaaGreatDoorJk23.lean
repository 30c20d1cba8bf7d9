/- Part 23 of 34 of a proof: BWrite1, Root1, Tr5, Walk1, Walk2, Walk3 -/
import Derived.Test.YtcoengihaobddaaGreatDoorJk22
import Derived.Test.YtcoengihaobddaaGreatDoorJk21
import Derived.Laws.CopyRow
set_option maxHeartbeats 8000000
set_option linter.unusedVariables false
set_option linter.unusedSimpArgs false
set_option maxRecDepth 8000
namespace Go.Proofs.YtcoengihaobddaaGreatDoor
namespace prog
open Go.RowKit disk ref
def yS(l:List UInt8)(i:Nat):List UInt8:=(l.drop i).take (min 124 (l.length-i))
def zx(l:List UInt8):List (List UInt8):=(qx l.length).map (yS l)
theorem yB(l:List UInt8):(zx l).length=(l.length+123)/124:=by simp [zx,jp]
theorem vf{l:List UInt8}{i:Nat}(h:i≤l.length):(yS l i).length=min 124 (l.length-i):=by simp [yS]
theorem um(l:List UInt8)(k:Nat)(h:k<(zx l).length):(zx l)[k]=yS l (k*124):=by simp [zx,qx]
theorem jT(l:List UInt8):∀k,(((List.range k).map fun j=>yS l (j*124))).flatten=l.take (k*124)
 |0=>by simp
 |k+1=>by
  rw [List.range_succ,List.map_append,List.flatten_append,jT l k]
  simp only [List.map_cons,List.map_nil,List.flatten_cons,List.flatten_nil,List.append_nil]
  rw [Nat.add_mul,Nat.one_mul,List.take_add]
  congr 1
  unfold yS
  by_cases h:l.length-k*124≤124
  ·rw [Nat.min_eq_right h,List.take_of_length_le (by simp),List.take_of_length_le (by simp;omega)]
  ·rw [Nat.min_eq_left (by omega)]
theorem Zv(l:List UInt8):(zx l).flatten=l:=by
 have:=jT l ((l.length+123)/124)
 rw [List.take_of_length_le (by omega)] at this
 conv=>rhs;rw [←this]
 simp only [zx,qx,List.map_map]
 rfl
theorem fo{l:List UInt8}:∀p∈zx l,1≤p.length∧p.length≤124:=fun p hp=>by
 obtain⟨k,hk,rfl⟩:=List.getElem_of_mem hp
 rw [um]
 rw [yB] at hk
 rw [vf (by omega)]
 omega
def vJ(N:Nat)(l:List UInt8)(s:Nat×Ck×List UInt8):Nat×Ck×List UInt8:=((s.2.1.take N s.2.2).1,(s.2.1.take N s.2.2).2.1.put (s.2.1.take N s.2.2).1 (zl (z9 s.1 l)),(s.2.1.take N s.2.2).2.2)
def Ck.body(C:Ck)(N:Nat)(m:List UInt8):List (List UInt8)→Nat×Ck×List UInt8
 |[]=>(0,C,m)
 |l::r=>vJ N l (C.body N m r)
theorem Xv(C:Ck)(N:Nat)(m l:List UInt8)(r:List (List UInt8)):C.body N m (l::r)=vJ N l (C.body N m r):=rfl
theorem Zx{N:Nat}{l:List UInt8}{f ta:Nat}{C1 C2:Ck}{m1 m2:List UInt8}(h2:C1.take N m1=(ta,C2,m2)):vJ N l (f,C1,m1)=(ta,C2.put ta (zl (z9 f l)),m2):=by
 unfold vJ
 generalize zl (z9 f l)=v
 rw [h2]
theorem un{C C1 C2:Ck}{N:Nat}{m m1 m2 l:List UInt8}{r:List (List UInt8)}{f ta:Nat}(h1:C.body N m r=(f,C1,m1))(h2:C1.take N m1=(ta,C2,m2)):C.body N m (l::r)=(ta,C2.put ta (zl (z9 f l)),m2):=by
 rw [Xv,h1,Zx h2]
theorem fp{C:Ck}{D:Dk}{m:List UInt8}(h:qn (C.look D 2) m){N:Nat}(hN:N≤1000)(ls:List (List UInt8)):∀(f:Nat) (C':Ck) (m':List UInt8),C.body N m ls=(f,C',m')→qn (C'.look D 2) m'∧C'.ws.length≤C.ws.length+2*ls.length∧f<65536:=by
 induction ls with
 |nil=>
  intro f C' m' e
  have e1:(0,C,m)=(f,C',m'):=e
  simp only [Prod.mk.injEq] at e1
  obtain⟨rfl,rfl,rfl⟩:=e1
  exact⟨h,by simp,by decide⟩
 |cons l r ih=>
  intro f C' m' e
  rcases h1:C.body N m r with⟨f1,C1,m1⟩
  rcases h2:C1.take N m1 with⟨ta,C2,m2⟩
  rw [un h1 h2] at e
  simp only [Prod.mk.injEq] at e
  obtain⟨rfl,rfl,rfl⟩:=e
  obtain⟨k1,k2,k3⟩:=ih f1 C1 m1 h1
  have k4:=k1.take N
  have k5:=KA C1 N m1
  have k6:=vD C1 N m1
  rw [h2] at k4 k5 k6
  simp only at k4 k5 k6
  refine⟨k4.put _ _ (by omega),?_,by omega⟩
  have:=qq C2 ta (zl (z9 f1 l))
  rw [List.length_cons]
  omega
structure Zy (D:Dk) (C C':Ck) (m m':List UInt8) (f:Nat) (ls:List (List UInt8)) (nb:List Nat):Prop where
 chn:QR D C' m'
 stp:fR D C C' m m' [] nb
 nl:nb.length≤ls.length
 chain:C'.full=false→∃ps,yp (fun j=>C'.look D (j:Nat)) ps∧yA ps=f∧ps.map zq.l=ls∧(ps.map zq.at_).Perm nb
theorem JO{C:Ck}{D:Dk}{m:List UInt8}(h:QR D C m)(hN:D.bs.length≤1000):∀(ls:List (List UInt8)) (f:Nat) (C':Ck) (m':List UInt8),(∀p∈ls,p.length≤124)→C.body D.bs.length m ls=(f,C',m')→∃nb,Zy D C C' m m' f ls nb
 |[],f,C',m',_,e=>by
  cases e
  exact⟨[],h,fR.refl D C m,by simp,fun _=>⟨[],trivial,rfl,rfl,List.Perm.refl _⟩⟩
 |l::r,f,C',m',hl,e=>by
  rcases h1:C.body D.bs.length m r with⟨f1,C1,m1⟩
  obtain⟨nb,R⟩:=JO h hN r f1 C1 m1 (fun p hp=>hl p (List.mem_cons_of_mem _ hp)) h1
  obtain⟨ta,tC,tm,nb2,htk,tk⟩:=vG R.chn hN
  rw [un h1 htk] at e
  cases e
  have hlt:=tk.lt hN
  have st:=R.stp.trans tk.stp
  rw [List.append_nil] at st
  refine⟨nb++nb2,tk.chn.put hlt.2 _,st.taken _ (tk.mem.imp (List.mem_append_right _) id),by have:=R.nl;have:=tk.len;simp;omega,fun hf=>?_⟩
  rw [qz] at hf
  rcases tk.is with⟨rfl,k1,k2,_⟩|⟨_,_,k1⟩
  ·obtain⟨ps,c1,c2,c3,c4⟩:=R.chain (tk.stp.unfull hf)
   have hne:∀p∈ps,p.at_≠f∧21≤p.at_:=fun p hp=>by
    have hm:p.at_∈nb:=c4.mem_iff.1 (List.mem_map.2 ⟨p,hp,rfl⟩)
    have hfr:=R.stp.grew.fresh _ hm
    have ht:zO m1 (p.at_-21)=true:=by rw [R.stp.grew.taken,show p.at_-21+21=p.at_ from by omega];simp [hm]
    exact⟨fun e0=>tk.stp.grew.apart ht (by rw [e0];simp),hfr.1⟩
   refine⟨⟨f,l⟩::ps,⟨⟨hlt.1,by show f≠0;omega,hl l (List.mem_cons_self ..)⟩,?_,c1.congr (fun p hp=>?_)⟩,rfl,by rw [List.map_cons,c3],?_⟩
   ·show (tC.put f _).look D f=_
    rw [qg,c2]
   ·obtain⟨h3,h4⟩:=hne p hp
    show (tC.put f _).look D (p.at_:Nat)=C1.look D (p.at_:Nat)
    rw [zW _ _ _ _ _ (by omega)]
    exact tk.stp.look _ (fun h=>nomatch h) (by rw [List.mem_singleton];exact h3) (by omega) (by omega)
   ·rw [List.map_cons]
    exact(c4.cons f).trans (List.perm_append_comm (l₁:=[f]))
  ·rw [k1] at hf;cases hf
def V9(args:Array Value):Sem Value:=Builtin.copy_ #[35, 35] 3 args
theorem K7(args:Array Value):Builtin.copy_ #[35, 35] 3 args=V9 args:=rfl
theorem KE(w:World)(b:Nat)(t:TypeId)(l:List UInt8)(h:yl w b t l)(o cap:Nat)(p:List UInt8)(hp:o+p.length≤l.length)(P:Nat→Prop)(g i pc:Nat)(hb:zv w P (some ⟨g,i,none⟩) p):
 ∃w',(V9 #[.slice (some ⟨b,o,none⟩) p.length cap,.slice (some ⟨g,i,none⟩) p.length pc]).run Tryz.prog w=.ok (goInt p.length) w'∧yl w' b t (qw l o p)∧Kept (fun i=>i=b) w w':=by
 have hr:=run_copy_row Tryz.prog w 35 35 3 5 b o p.length cap ⟨g,i,none⟩ p.length pc (l.map qc).toArray t (p.map qc) Tryz.underlying35 YB h.at_ (by simp) (fun j v hv=>by
  obtain⟨hj,rfl⟩:=List.getElem?_eq_some_iff.1 hv
  simp only [List.length_map] at hj
  rcases hb with h0|⟨b',o',e0,_,_,hc⟩
  ·rw [h0] at hj;simp at hj
  ·cases e0
   rw [Addr.add_mid];simpa [qc] using hc j hj) (by simp;omega) (jZ p)
 rw [List.length_map] at hr
 refine⟨_,hr,⟨?_⟩,⟨rfl,rfl,rfl,by simp,fun k _ hk=>setRow_other w b k _ (fun e=>hk (by rw [e]))⟩⟩
 rw [setRow_heap w b _ _ t _ h.at_]
 congr 2
 unfold qw
 simp [List.map_take,List.map_drop]
end prog
namespace prog
open Go.ChangeShapes Go.WideShapes Go.ChangeAt Go.RowKit disk ref
open keys (ze zd zr zn)
def zp(tree n:Nat):Pg:=⟨2,tree,[bytesOf 8 n]⟩
theorem uo{tree n:Nat}(h:tree<65536):(zp tree n).Ok:=⟨by simp [zp],h,fun i hi=>by simp [zp] at hi;rw [hi,zP];rfl,by simp [zp,zk],by simp [zp]⟩
structure yu (b:List Value) (tree n:Nat):Prop where
 is:b=zl (zp tree n)∨(b=zl (Pg.new 0)∧tree=0∧n=0)
 tree:tree<65536
 num:n<9223372036854775808
structure JP (p:Pg) (tree n:Nat):Prop where
 ok:p.Ok
 link:p.link=tree
 len:p.items.length*zk p.kind≤8
 num:numOf ((p.bytes.drop 4).take (p.items.length*zk p.kind))=n
theorem yu.page{b:List Value}{tree n:Nat}(h:yu b tree n):∃p,b=zl p∧JP p tree n:=by
 rcases h.is with rfl|⟨rfl,rfl,rfl⟩
 ·have ho:=uo (n:=n) h.tree
  refine⟨_,rfl,ho,rfl,by simp [zp,zk],?_⟩
  rw [ho.all]
  have:=h.num
  simp only [zp,List.flatten_cons,List.flatten_nil,List.append_nil]
  exact q9 _ _ (by have:(256:Nat)^8=18446744073709551616:=by decide
                   omega)
 ·exact⟨_,rfl,Pg.new_ok 0 (by omega),rfl,by simp [Pg.new],by simp [Pg.new,numOf]⟩
theorem vK(w:World)(T:TypeId)(f:FuncId)(a:Addr)(hrd:Jw T f a)(X:Nat→Prop)(R:World→Prop)(tree n:Nat)(b:List Value)(hb:yu b tree n)
 (hcall:∀w0,Kept (fun _=>False) w w0→Calls Tryz.prog f #[.pointer (some a),.int .i64 1] w0 fun e w1=>e=.returned (.agg b.toArray)∧Kept X w0 w1∧R w1) (hX:∀i,X i→i<w.heap.size):
 Calls Tryz.prog 74 #[.iface T (.pointer (some a))] w fun e w'=>e=.returned (.agg #[.int .i64 (tree:Int),.int .i64 (n:Int)])∧∃w1,Kept X w w1∧R w1∧Kept (fun i=>w.heap.size≤i) w1 w':=by
 obtain⟨p,rfl,hp⟩:=hb.page
 have hnlt:=hb.num
 clear hb
 obtain⟨Zb,hZb,hz⟩:∃Zb:List Value,Zb=zT∧∀w,(zeroValue 154).run Tryz.prog w=.ok (.agg Zb.toArray) w:=⟨zT,rfl,zV Tryz.infoPage⟩
 have HZb:Hid (zy Zb):=by rw [hZb];exact zF
 clear hZb
 have HI:Hid ((Tryz.prog.info? 154).map (·.size)=some 128):=zS Tryz.infoPage
 have hmeth:=hrd.meth
 have hent:=hrd.ent
 have HPO:Hid (JP p tree n):=hp
 have HBO:Hid (zy (zl p)):=qP hp.ok
 have HC:Hid _:=hcall
 have HK0:Hid (Kept (fun _=>False) w (w.alloc (.cells #[.int .i64 0,.int .i64 0] 145))):=Kept.alloc _ _ _
 have HX:Hid (∀i,X i→i<w.heap.size):=hX
 clear hcall hp hX
 go_enter Tryz.func74,Tryz.ntmps74
 go_wp2_with fail
 refine(HC.out _ HK0.out).mono ?_
 rintro e w1 ⟨rfl,hk1,hR⟩
 have HK1:Hid _:=hk1
 have HR:Hid (R w1):=hR
 clear hk1 hR
 go_wp2_with (first
  |(show wpList _ _ _ ({dst:=none,op:=.store _ (.tmp 3) (.tmp 5),type:=_,pos:=_,after:=_,guard:=_}::_) _ _;refine zg rfl 154 (.tmp 3) (.tmp 5) rfl _ _ (zl p) (by simp) rfl rfl (by rw [HBO.out.1];exact HI.out) (by rw [List.size_toArray,HZb.out.1,HBO.out.1]) HBO.out.2 ?_;have HP:Hid (qu (w1.alloc (.cells (zl p).toArray 154)) w1.heap.size p):=⟨⟨heap_alloc_new w1 _⟩,HPO.out.ok⟩)
  |(go_at_call 126;refine(cP _ _ _ HP.out).mono ?_;rintro e w2 ⟨rfl,rfl⟩;rw [HPO.out.link]))
 have hs1:w.heap.size+1≤w1.heap.size:=by have:=HK1.out.size;simpa using this
 have HBr:Hid (w1.heap[w.heap.size]? =some (.cells #[.int .i64 0,.int .i64 0] 145 (0,0))):=(HK1.out.block _ (by simp) (fun hc=>by have:=HX.out _ hc;omega)).trans (heap_alloc_new w _)
 have HKA:Hid (Kept (fun _=>False) w1 (w1.alloc (.cells (zl p).toArray 154))):=Kept.alloc _ _ _
 have hsA:(w1.alloc (.cells (zl p).toArray 154)).heap.size=w1.heap.size+1:=by simp
 generalize (w1.alloc (.cells (zl p).toArray 154))=WA at*
 refine(xu WA _ p HP.out).mono ?_
 rintro e w2 ⟨rfl,n2,hw2⟩
 have HK2:Hid (Kept (fun _=>False) WA w2):=by rw [hw2];exact kD
 clear hw2
 have HP2:Hid (qu w2 w1.heap.size p):=HP.out.kept HK2.out id
 have hsz2:=HK2.out.size
 unfold xj
 have hlen8:=HPO.out.len
 have HL:Hid (p.bytes.length=128):=HPO.out.ok.len
 generalize hq:p.items.length*zk p.kind=q at*
 have HQ:Hid (p.items.length*zk p.kind=q):=hq
 clear hq
 go_wp2_with fail
 refine(ye w2 _ _ _ HP2.out.bs 4 q 124 n (by rw [HL.out];omega) hlen8 (by rw [←HQ.out];exact HPO.out.num) hnlt).mono ?_
 rintro e w3 ⟨rfl,hw3⟩
 rw [hw3]
 clear hw3 w3
 have HB2:Hid (w2.heap[w.heap.size]? =_):=(HK2.out.block _ (by omega) id).trans ((HKA.out.block _ (by omega) id).trans HBr.out)
 have c0:w2.cell? ⟨w.heap.size,0,none⟩=some (.int .i64 0):=cR HB2.out rfl
 have c1:w2.cell? ⟨w.heap.size,1,none⟩=some (.int .i64 0):=cR HB2.out rfl
 have f0:=frozen_of_row w2 w.heap.size 0 _ _ HB2.out
 have f1:=frozen_of_row w2 w.heap.size 1 _ _ HB2.out
 have hl2:w.heap.size<w2.heap.size:=by omega
 go_wp2
 have h0:=heap_setCell_same w2 w.heap.size 0 _ _ (.int .i64 (tree:Int)) HB2.out
 have h1:=heap_setCell_same _ w.heap.size 1 _ _ (.int .i64 (n:Int)) h0
 have k1:Kept (fun j=>j=w.heap.size) w2 ((w2.setCell ⟨w.heap.size,0,none⟩ (.int .i64 (tree:Int))).setCell ⟨w.heap.size,1,none⟩ (.int .i64 (n:Int))):=(Kept.setCell (S:=fun j=>j=w.heap.size) w2 ⟨w.heap.size,0,none⟩ _ rfl).trans (Kept.setCell (S:=fun j=>j=w.heap.size) _ ⟨w.heap.size,1,none⟩ _ rfl) iL
 refine bodyPost_ret (v:=.agg #[.int .i64 (tree:Int),.int .i64 (n:Int)]) (results_cell_row Tryz.results74 _ _ w.heap.size 145 _ (0,0) _ rfl h1 Tryz.underlying145 rfl (by kernel_rfl)) rfl ⟨rfl,w1,(HK0.out.mono fE).trans HK1.out iL,HR.out,?_⟩
 exact(((HKA.out.trans HK2.out iL).mono fE).trans k1 (fun j hj=>.inl (by omega)))
theorem Xw(w:World)(bd:Nat)(S:Nat→Prop)(D:Dk)(h:zh w bd S D)(hr0:0≤D.reads)(hr1:D.reads≤4611686018427387904)(tree n:Nat)(hb:yu (D.look 1) tree n):
 Calls Tryz.prog 74 #[.iface 29 (.pointer (some ⟨bd,0,none⟩))] w fun e w'=>e=.returned (.agg #[.int .i64 (tree:Int),.int .i64 (n:Int)])∧zh w' bd S {D with reads:=D.reads+1}∧Kept (fun i=>i=bd) w w':=by
 have hS:=h.lt
 have hbd:bd<w.heap.size:=hS bd h.bdS
 refine(vK w 29 81 ⟨bd,0,none⟩ (ud _) (fun i=>i=bd) (fun w1=>w.heap.size≤w1.heap.size∧zh w1 bd S {D with reads:=D.reads+1 }) tree n _ hb (fun w0 hk0=>?_) (fun i hi=>by rw [hi];exact hbd)).mono ?_
 ·refine(xy w0 bd S D (h.kept hk0 nF) 1 (by constructor<;>omega) hr0 hr1).mono ?_
  rintro e w1 ⟨rfl,h1,h2⟩
  exact⟨rfl,h2,Nat.le_trans hk0.size h2.size,h1⟩
 ·rintro e w' ⟨rfl,w1,h1,⟨hz,h2⟩,h3⟩
  refine⟨rfl,h2.kept h3 (fun i hi hc=>?_),h1.trans h3 (fun j hj=>.inr hj)⟩
  have:=hS i hi;omega
theorem dF(w:World)(bc bd:Nat)(S T:Nat→Prop)(D:Dk)(C:Ck)(h:Cw w bc bd S T D C)(hr0:0≤D.reads)(hr1:D.reads≤4611686018427387904)(tree n:Nat)(hb:yu (C.look D 1) tree n):
 Calls Tryz.prog 74 #[.iface 142 (.pointer (some ⟨bc,0,none⟩))] w fun e w'=>e=.returned (.agg #[.int .i64 (tree:Int),.int .i64 (n:Int)])∧(∃k:Int,0≤k∧k≤1∧Cw w' bc bd S T {D with reads:=D.reads+k} C)∧Kept (fun i=>i=bd) w w':=by
 have hS:=h.disk.lt
 have hT:=h.chg.lt
 have hbd:bd<w.heap.size:=hS bd h.disk.bdS
 refine(vK w 142 192 ⟨bc,0,none⟩ (gY _) (fun i=>i=bd) (fun w1=>w.heap.size≤w1.heap.size∧∃k:Int,0≤k∧k≤1∧Cw w1 bc bd S T {D with reads:=D.reads+k} C) tree n _ hb (fun w0 hk0=>?_) (fun i hi=>by rw [hi];exact hbd)).mono ?_
 ·refine(jl w0 bc bd S T D C (h.kept0 hk0) 1 (by constructor<;>omega) hr0 hr1).mono ?_
  rintro e w1 ⟨rfl,h1,h2⟩
  exact⟨rfl,h2,Nat.le_trans hk0.size h2.size,h1⟩
 ·rintro e w' ⟨rfl,w1,h1,⟨hz,k,h2,h3,h4⟩,h5⟩
  refine⟨rfl,⟨k,h2,h3,h4.kept h5 (fun i hi hc=>?_) (fun i hi hc=>?_)⟩,h1.trans h5 (fun j hj=>.inr hj)⟩
  ·have:=hS i hi;omega
  ·have:=hT i hi;omega
end prog
namespace prog
open ref
def yN(p:Pl)(l:List En):List En:=l.filter fun x=> !x.pl.lt p
theorem jz(p:Pl)(A B:List En):yN p (A++B)=yN p A++yN p B:=by simp [yN]
theorem JQ{p:Pl}{l:List En}(h:∀x∈l,x.pl.lt p=true):yN p l=[]:=List.filter_eq_nil_iff.2 (fun x hx=>by rw [h x hx];simp)
theorem bN{p:Pl}{l:List En}(h:∀x∈l,x.pl.lt p=false):yN p l=l:=List.filter_eq_self.2 (fun x hx=>by rw [h x hx];rfl)
theorem JR{l:List En}(h:yg l)(p:Pl):l.drop (zm l p)=yN p l:=(h.cut p).2
theorem Kids.walk{h:Nat}{cs:List (Pl×Tr h)}(k:Kids cs)(hn:cs≠[])(p:Pl)(c:Nat)(hc:c=zw (cs.map fun c=>(⟨c.1,false,0,c.2.blk⟩:En)) p):
 yN p (zJ cs)=yN p (zJ (cs.drop c))∧∃q t B,cs.drop c=(q,t)::B∧(q,t)∈cs∧∀b∈B,b∈cs∧∀x∈b.2.ents,x.pl.lt p=false:=by
 obtain⟨A,q,t,B,rfl,hA,hq,hB⟩:=k.child hn p
 obtain⟨m1,m2,m3,m4,m5,m6,m7⟩:=k.mid
 rw [←hc] at hA
 have hd:(A++(q,t)::B).drop c=(q,t)::B:=by rw [←hA];exact List.drop_left
 refine⟨?_,q,t,B,hd,by simp,fun b hb=>⟨by simp [hb],fun x hx=>?_⟩⟩
 ·rw [hd,zt,jz]
  have:yN p (zJ A)=[]:=JQ (fun x hx=>by
   have hA0:A≠[]:=fun e=>by rw [e] at hx;simp [zJ] at hx
   exact Pl.lt_of_lt_not (m3 x hx) (hq hA0))
  rw [this,List.nil_append]
 ·cases h2:x.pl.lt p with
  |false=>rfl
  |true=>exact absurd (Pl.trans h2 (hB b hb)) (m7 b hb x hx)
def Xx:List (Nat×Bool)→Nat
 |[]=>0
 |x::l=>x.1+if x.2 then Xx l else 0
def Tr.fy(p:Pl):{h:Nat}→Tr h→Nat
 |0,_=>1
 |h+1,t=>1+Xx ((t.2.drop (zw (Tr.items (h:=h+1) t) p)).map fun c=>(Tr.fy p (h:=h) c.2,(yN p c.2.ents).isEmpty))
theorem vL(n:Nat)(b:Bool)(l:List (Nat×Bool)):Xx ((n,b)::l)=n+if b then Xx l else 0:=rfl
theorem Tr.fy_succ{h:Nat}(p:Pl)(t:Tr (h+1)):t.fy p=1+Xx ((t.2.drop (zw t.items p)).map fun c=>(c.2.fy p,(yN p c.2.ents).isEmpty)):=rfl
theorem fq{l:List En}{x:En}(h:x∈l):l.isEmpty=false:=by cases l with
 |nil=>cases h
 |cons a l=>rfl
theorem Tr.Good.fy_all:∀{h:Nat} {t:Tr h} (p:Pl),t.Good→1≤t.items.length→(∀x∈t.ents,x.pl.lt p=false)→t.fy p≤h+1
 |0,t,p,_,_,_=>Nat.le_refl 1
 |h+1,t,p,g,hl,ha=>by
  rw [ys] at hl
  obtain⟨_,q,u,B,hd,hm,hB⟩:=g.kids.walk (fun e=>by rw [e] at hl;simp at hl) p _ rfl
  have hg:u.Good:=(g.kids.good _ hm).1
  have h3:3≤u.items.length:=g.full _ hm
  have hau:∀x∈u.ents,x.pl.lt p=false:=fun x hx=>ha x (j9 hm hx)
  obtain⟨x,hx⟩:=hg.some_ent (by omega)
  have:=hg.fy_all p (by omega) hau
  rw [Tr.fy_succ]
  show 1+Xx (((t.2.drop (zw (t.2.map fun c=>(⟨c.1,false,0,c.2.blk⟩:En)) p))).map _)≤_
  rw [hd,List.map_cons,vL,if_neg (by rw [bN hau,fq hx];simp)]
  show 1+(u.fy p+0)≤_
  omega
theorem Tr.Good.fy_none:∀{h:Nat} {t:Tr h} (p:Pl),t.Good→1≤t.items.length→yN p t.ents=[]→t.fy p≤h+1
 |0,t,p,_,_,_=>Nat.le_refl 1
 |h+1,t,p,g,hl,ha=>by
  rw [ys] at hl
  obtain⟨h0,q,u,B,hd,hm,hB⟩:=g.kids.walk (fun e=>by rw [e] at hl;simp at hl) p _ rfl
  rw [Tr.ents_succ,h0,hd,zo,jz,List.append_eq_nil_iff] at ha
  have hg:u.Good:=(g.kids.good _ hm).1
  have h3:3≤u.items.length:=g.full _ hm
  have:=hg.fy_none p (by omega) ha.1
  have hB0:B=[]:=by
   cases B with
   |nil=>rfl
   |cons b B=>
    obtain⟨hb1,hb2⟩:=hB b (List.mem_cons_self ..)
    have h4:=g.full _ hb1
    obtain⟨x,hx⟩:=(g.kids.good _ hb1).1.some_ent (by omega)
    have h5:yN p (zJ (b::B))=[]:=ha.2
    rw [zo,jz,List.append_eq_nil_iff,bN hb2] at h5
    rw [h5.1] at hx;cases hx
  rw [Tr.fy_succ]
  show 1+Xx (((t.2.drop (zw (t.2.map fun c=>(⟨c.1,false,0,c.2.blk⟩:En)) p))).map _)≤_
  rw [hd,hB0,List.map_cons,vL,List.map_nil]
  simp only [Xx]
  split<;>omega
theorem Tr.Good.fy_le:∀{h:Nat} {t:Tr h} (p:Pl),t.Good→1≤t.items.length→t.fy p≤2*h+1
 |0,t,p,_,_=>Nat.le_refl 1
 |h+1,t,p,g,hl=>by
  rw [ys] at hl
  obtain⟨h0,q,u,B,hd,hm,hB⟩:=g.kids.walk (fun e=>by rw [e] at hl;simp at hl) p _ rfl
  have hg:u.Good:=(g.kids.good _ hm).1
  have h3:3≤u.items.length:=g.full _ hm
  have h1:u.fy p≤2*h+1:=hg.fy_le p (by omega)
  rw [Tr.fy_succ]
  show 1+Xx (((t.2.drop (zw (t.2.map fun c=>(⟨c.1,false,0,c.2.blk⟩:En)) p))).map _)≤_
  rw [hd,List.map_cons,vL]
  cases he:(yN p u.ents).isEmpty with
  |false=>simp;omega
  |true=>
   have h2:u.fy p≤h+1:=hg.fy_none p (by omega) (List.isEmpty_iff.1 he)
   rw [if_pos rfl]
   cases B with
   |nil=>simp [Xx];omega
   |cons b B=>
    obtain⟨hb1,hb2⟩:=hB b (List.mem_cons_self ..)
    have h4:=g.full _ hb1
    have hgb:=(g.kids.good _ hb1).1
    obtain⟨x,hx⟩:=hgb.some_ent (by omega)
    have h5:=hgb.fy_all p (by omega) hb2
    rw [List.map_cons,vL,if_neg (by rw [bN hb2,fq hx];simp)]
    show 1+(u.fy p+(b.2.fy p+0))≤_
    omega
end prog
namespace prog
open Go.ChangeShapes Go.WideShapes Go.ChangeAt Go.RowKit disk ref
open keys (ze zd zr zn)
structure JS (R1 R2:Int) (all:List En) (r:Int) (pre:List En) (x:En):Prop where
 le:r≤R2
 first:pre=[]→r≤R1
 pre:(pre++[x])<+:all
structure gn (l:Nat) (J:Int→List En→(Nat→Prop)→World→Prop) (Jx:Int→List En→World→Prop) (B bd:Nat) (S:Nat→Prop) (D:Dk) (R1 R2:Int) (all:List En):Prop where
 inv:∀r pre Q A,J r pre Q A→zh A bd S {D with reads:=r}∧∀k,Q k→k<A.heap.size
 stp:∀r r' pre Q A A',J r pre Q A→r≤r'→Kept (fun k=>k=bd) A A'→zh A' bd S {D with reads:=r'}→J r' pre Q A'
 yld:∀m r pre x Q A,J r pre Q A→JS R1 R2 all r pre x→YieldAt Fence.wide m Tryz.prog l #[.agg (qp x).toArray] A (fm J Jx B r (pre++[x]) Q A)
 bdB:bd<B
def xL(J:Int→List En→(Nat→Prop)→World→Prop)(Jx:Int→List En→World→Prop)(B:Nat)(W:World)(r:Int)(pre:List En)(Q:Nat→Prop)(y:List En)(n f:Nat)(e:Ending)(W':World):Prop:=
 (e=.returned (.bool true)∧∃(r':Int) (Q':Nat→Prop),r≤r'∧r'≤r+n∧(y=[]→r'≤r+f)∧J r' (pre++y) Q' W'∧Kept (fun k=>k<B∨Q k) W W'∧∀k,Q' k→Q k∨W.heap.size≤k)∨(e=.returned (.bool false)∧∃r' q,Jx r' q W')
theorem Xy(l:Nat)(J:Int→List En→(Nat→Prop)→World→Prop)(Jx:Int→List En→World→Prop)(B bd:Nat)(S:Nat→Prop)(D:Dk)(R1 R2:Int)(all:List En)(E:gn l J Jx B bd S D R1 R2 all)(hR2:R2≤4611686018427380000)
 (W:World) (r:Int) (pre:List En) (Q:Nat→Prop) (hJ:J r pre Q W) (hB:B≤W.heap.size) (p:Pl) (at_:Nat) (hat:at_<65536) (es:List En) (hes:∀e∈es,e.Ok) (hlen0:0<es.length) (hlen:es.length≤6) (hs:yg es) (hl:D.look at_=zl (za 5 es))
 (hr0:0≤r) (hr2:r+1≤R2) (hr1:pre=[]→r+1≤R1) (hall:(pre++yN p es)<+:all):
 Calls Tryz.prog 191 #[.iface 29 (.pointer (some ⟨bd,0,none⟩)),.int .i64 at_,.agg #[.string p.key,.int .i64 p.num],.func (.yield l) #[] #[]] W (xL J Jx B W r pre Q (yN p es) 1 1):=by
 have HE:Hid _:=E
 have HES:Hid (∀e∈es,e.Ok):=hes
 have HS:Hid (yg es):=hs
 have HL:Hid _:=hl
 have hd:=(E.inv r pre Q W hJ).1
 have HD:Hid (zh W bd S {D with reads:=r }):=hd
 obtain⟨HJ⟩:Nonempty (PLift (J r pre Q W)):=⟨⟨hJ⟩⟩
 have HSL:Hid (∀k,S k→k<W.heap.size):=hd.lt
 have hbd:bd<W.heap.size:=hd.lt bd hd.bdS
 clear E hes hs hl hJ hd
 go_enter Tryz.func191,Tryz.ntmps191
 go_wp2_with fail
 have HK0:Hid (Kept (fun _=>False) W (W.alloc (.cells #[.string p.key,.int .i64 p.num] 107))):=Kept.alloc _ _ _
 have HB0:Hid ((W.alloc (.cells #[.string p.key,.int .i64 p.num] 107)).heap[W.heap.size]? =some (.cells #[.string p.key,.int .i64 p.num] 107 (0,0))):=heap_alloc_new W _
 have hs0:(W.alloc (.cells #[.string p.key,.int .i64 p.num] 107)).heap.size=W.heap.size+1:=by simp
 generalize (W.alloc (.cells #[.string p.key,.int .i64 p.num] 107))=W0 at*
 refine(dB W0 bd S _ (HD.out.kept HK0.out nF) hr0 (by show r≤_;omega) at_ hat 5 es (.inr rfl) HES.out (fun h=>absurd h (by decide)) hlen HL.out).mono ?_
 rintro x w1 ⟨a,cap,rfl,hd1,hk1,hrow1,hown1,hfr1⟩
 have HD1:Hid (zh w1 bd S {D with reads:=r+1 }):=hd1
 have HK1:Hid (Kept (fun j=>j=bd) W0 w1):=hk1
 have HR1:Hid _:=hrow1
 have HO1:Hid _:=hown1
 have hsz1:=hk1.size
 have HB1:Hid (w1.heap[W.heap.size]? =_):=(hk1.block _ (by omega) (by omega)).trans HB0.out
 clear hd1 hk1 hrow1 hown1 hfr1
 go_wp2_with fail
 obtain⟨g,rfl⟩:∃g,a=some ⟨g,0,none⟩:=by
  rcases HO1.out.2 with⟨_,h1⟩|⟨g,cap',cur,hv,_⟩
  ·omega
  ·cases hv;exact⟨g,rfl⟩
 have hcap:es.length≤cap:=by
  rcases HO1.out.2 with⟨h1,h2⟩|⟨g',cap',cur,hv,_,hg,h1,h2,_⟩
  ·cases h1
  ·cases hv;exact h1
 have HKN:Hid (Kept (fun _=>False) w1 (w1.alloc (.cells #[.int .u8 5,.slice (some ⟨g,0,none⟩) es.length cap] 209))):=Kept.alloc _ _ _
 have HBN:Hid ((w1.alloc (.cells #[.int .u8 5,.slice (some ⟨g,0,none⟩) es.length cap] 209)).heap[w1.heap.size]? =some (.cells #[.int .u8 5,.slice (some ⟨g,0,none⟩) es.length cap] 209 (0,0))):=heap_alloc_new w1 _
 have hsN:(w1.alloc (.cells #[.int .u8 5,.slice (some ⟨g,0,none⟩) es.length cap] 209)).heap.size=w1.heap.size+1:=by simp
 generalize (w1.alloc (.cells #[.int .u8 5,.slice (some ⟨g,0,none⟩) es.length cap] 209))=WN at*
 have HRN:Hid (zH WN (fun b=>W0.heap.size≤b) (some ⟨g,0,none⟩) es):=HR1.out.kept HKN.out nF
 have HBP:Hid (WN.heap[W.heap.size]? =_):=(HKN.out.block _ (by omega) id).trans HB1.out
 have z0:WN.cell? ⟨w1.heap.size,0,none⟩=some (.int .u8 5):=cR HBN.out rfl
 have z1:WN.cell? ⟨w1.heap.size,1,none⟩=some (.slice (some ⟨g,0,none⟩) es.length cap):=cR HBN.out rfl
 have p0:WN.cell? ⟨W.heap.size,0,none⟩=some (.string p.key):=cR HBP.out rfl
 have p1:WN.cell? ⟨W.heap.size,1,none⟩=some (.int .i64 p.num):=cR HBP.out rfl
 have hlP:W.heap.size<WN.heap.size:=by omega
 have hlN:w1.heap.size<WN.heap.size:=by omega
 have hfi:=xh es p
 have HFI:Hid (es.drop (zm es p)=yN p es):=JR HS.out p
 have HFF:Hid (∀w':World,Kept (fun _=>False) WN w'→Calls Tryz.prog 175 #[.agg #[.int .u8 5,.slice (some ⟨g,0,none⟩) es.length cap],.agg #[.string p.key,.int .i64 p.num]] w' fun r w''=>r=.returned (.int .i64 (zm es p:Nat))∧Kept (fun _=>False) w' w''):=fun w' hw'=>xC w' _ _ cap es (HRN.out.kept hw' nF) HS.out 5 p
 generalize zm es p=i at*
 by_cases hi:i<es.length
 ·have hne:¬(cap:Int)=(i:Int):=by omega
  have hne2:¬cap=i:=by omega
  have hI1:(i:Int)≤(es.length:Int):=by omega
  have hI2:(es.length:Int)≤(cap:Int):=by omega
  go_region_held3 (fun w'=>w'.cell? ⟨w1.heap.size,0,none⟩=some (.int .u8 5)∧w'.cell? ⟨w1.heap.size,1,none⟩=some (.slice (some ⟨g,0,none⟩) es.length cap)∧w'.cell? ⟨W.heap.size,0,none⟩=some (.string p.key)∧w'.cell? ⟨W.heap.size,1,none⟩=some (.int .i64 p.num)) (go_keep) ((go_at_call 175;refine(HFF.out _ (Kept.drew _ _)).mono ?_;rintro x w2 ⟨rfl,hk2⟩;have HK2:Hid (Kept (fun _=>False) WN.drew w2):=hk2;have z20:w2.cell? ⟨w1.heap.size,0,none⟩=some (.int .u8 5):=(hk2.cell (a:=⟨w1.heap.size,0,none⟩) hlN id).trans z0;have z21:w2.cell? ⟨w1.heap.size,1,none⟩=some (.slice (some ⟨g,0,none⟩) es.length cap):=(hk2.cell (a:=⟨w1.heap.size,1,none⟩) hlN id).trans z1;have p20:w2.cell? ⟨W.heap.size,0,none⟩=some (.string p.key):=(hk2.cell (a:=⟨W.heap.size,0,none⟩) hlP id).trans p0;have p21:w2.cell? ⟨W.heap.size,1,none⟩=some (.int .i64 p.num):=(hk2.cell (a:=⟨W.heap.size,1,none⟩) hlP id).trans p1;clear hk2))
  have HKW2:Hid (Kept (fun k=>k=bd) W w2):=((((HK0.out.mono fE).trans HK1.out iL).trans HKN.out fE).trans (Kept.drew (fun _=>False) WN) fE).trans HK2.out fE
  have HKN2:Hid (Kept (fun _=>False) w1 w2):=(HKN.out.trans (Kept.drew (fun _=>False) WN) iL).trans HK2.out iL
  have HD2:Hid (zh w2 bd S {D with reads:=r+1 }):=HD1.out.kept HKN2.out nF
  have HJ2:PLift (J (r+1) pre Q w2):=⟨HE.out.stp r (r+1) pre Q W w2 HJ.down (by omega) HKW2.out HD2.out⟩
  have HR2:Hid (zH w2 (fun b=>W0.heap.size≤b) (some ⟨g,0,none⟩) es):=HR1.out.kept HKN2.out nF
  have hszw:W.heap.size+1<w2.heap.size:=by have:=HKN2.out.size;have:=HK2.out.size;have h9:WN.drew.heap.size=WN.heap.size:=rfl;omega
  obtain⟨-, -, -, -, -, hgW,hgl⟩:=HR2.out.cells 0 hlen0
  have HQL:Hid (∀k,Q k→k<W.heap.size):=(HE.out.inv r pre Q W HJ.down).2
  clear z0 z1 p0 p1 z20 z21 p20 p21 HRN HFF HKN HBN HB1 HBP HB0 HK1 HD1
  generalize hn:es.length-i=n at*
  go_wp2_with fail
  go_loopw [46] (fun t wr=>∃(k:Nat) (Q':Nat→Prop),k≤n∧t=.int .i64 k∧J (r+1) (pre++(es.drop i).take k) Q' wr∧Kept (fun j=>j<B∨Q j) w2 wr∧∀j,Q' j→Q j∨w2.heap.size≤j) (fun t _=>n-(intOf t).toNat)
  case atStart=>exact⟨0,Q,Nat.zero_le _,rfl,by simpa using HJ2.down,Kept.refl _ _,fun _ h=>.inl h⟩
  case round=>
   obtain⟨k,Q',hk,rfl,hj,hkept,hq'⟩:=hrel
   have HJr:PLift (J (r+1) (pre++(es.drop i).take k) Q' wr):=⟨hj⟩
   have HKr:Hid (Kept (fun j=>j<B∨Q j) w2 wr):=hkept
   have HQr:Hid (∀j,Q' j→Q j∨w2.heap.size≤j):=hq'
   clear hj hkept hq'
   by_cases hlt:k<n
   ·have HRr:Hid (zH wr (fun b=>W0.heap.size≤b∧b<w2.heap.size) (some ⟨g,0,none⟩) es):=by
     have:zH w2 (fun b=>W0.heap.size≤b∧b<w2.heap.size) (some ⟨g,0,none⟩) es:=HR2.out.below
     exact this.kept HKr.out (fun b hb hc=>hc.elim (fun h=>by omega) (fun h=>by have:=HQL.out b h;omega))
    obtain⟨c0,c1,c2,c3,c4, -, hgr⟩:=HRr.out.cells (i+k) (by omega)
    have hx0:(es.drop i).take (k+1)=(es.drop i).take k++[es[i+k]'(by omega)]:=by
     rw [List.take_succ_eq_append_getElem (by simp;omega),List.getElem_drop]
    have HX:Hid ((es.drop i).take (k+1)=(es.drop i).take k++[es[i+k]'(by omega)]):=hx0
    clear hx0
    have HX2:Hid (JS R1 R2 all (r+1) (pre++(es.drop i).take k) (es[i+k]'(by omega))):=⟨hr2,fun h0=>hr1 (List.append_eq_nil_iff.1 h0).1,by
     rw [List.append_assoc,←HX.out,HFI.out]
     obtain⟨z,hz⟩:=hall
     exact⟨(yN p es).drop (k+1)++z,by rw [←hz,List.append_assoc,←List.append_assoc ((yN p es).take (k+1)),List.take_append_drop,List.append_assoc]⟩⟩
    generalize es[i+k]'(by omega)=x at*
    have hoff:0+(i+k)*5=i*5+k*5:=by rw [Nat.add_mul];omega
    rw [hoff] at c0 c1 c2 c3 c4
    have HKa:Hid (Kept (fun _=>False) wr (wr.alloc (.cells #[.string x.pl.key,.int .i64 x.pl.num,.bool x.mark,.int .i64 (x.size:Int),.int .i64 (x.at_:Int)] 109))):=Kept.alloc _ _ _
    have HJa:PLift (J (r+1) (pre++(es.drop i).take k) Q' (wr.alloc (.cells #[.string x.pl.key,.int .i64 x.pl.num,.bool x.mark,.int .i64 (x.size:Int),.int .i64 (x.at_:Int)] 109))):=⟨HE.out.stp _ _ _ _ _ _ HJr.down (Int.le_refl _) (HKa.out.mono fE) ((HE.out.inv _ _ _ _ HJr.down).1.kept HKa.out nF)⟩
    obtain⟨fn,tmps,assign,body,hy,hR⟩:=HE.out.yld 5 _ _ x Q' _ HJa.down HX2.out
    dsimp only [qp] at hy
    refine(wpIn_wide (n:=6)).1 ?_
    gi_wp2
    refine hR.mono ?_
    clear hR hy c0 c1 c2 c3 c4
    rintro e W3 (⟨rfl,Q3,hj3,hk3,hq3⟩|⟨rfl,hx3⟩)
    ·have HJ3:PLift (J (r+1) (pre++(es.drop i).take (k+1)) Q3 W3):=⟨by rw [HX.out,←List.append_assoc];exact hj3⟩
     have hsa:(wr.alloc (.cells #[.string x.pl.key,.int .i64 x.pl.num,.bool x.mark,.int .i64 (x.size:Int),.int .i64 (x.at_:Int)] 109)).heap.size=wr.heap.size+1:=by simp
     have hszr:=HKr.out.size
     have HK3:Hid (Kept (fun j=>j<B∨Q j) w2 W3):=(HKr.out.trans HKa.out fE).trans hk3 (fun j hj=>by
      rcases hj with h|h
      ·exact .inl (.inl h)
      ·exact(HQr.out j h).imp .inr id)
     have HQ3:Hid (∀j,Q3 j→Q j∨w2.heap.size≤j):=fun j hj=>by
      rcases hq3 j hj with h|h
      ·exact HQr.out j h
      ·exact .inr (by omega)
     clear hj3 hk3 hq3
     gi_wp2
     go_roundw
     case rel=>exact⟨k+1,Q3,by omega,by go_num,HJ3.down,HK3.out,HQ3.out⟩
     case measure=>simp [intOf];omega
    ·obtain⟨HX3⟩:Nonempty (PLift (Jx (r+1) (pre++(es.drop i).take k++[x]) W3)):=⟨⟨hx3⟩⟩
     clear hx3
     gi_wp2
     go_ret
     exact .inr ⟨rfl,_,_,HX3.down⟩
   ·have hkk:k=n:=by omega
    have hx0:(es.drop i).take k=yN p es:=by rw [List.take_of_length_le (by simp;omega)];exact HFI.out
    have HX:Hid ((es.drop i).take k=yN p es):=hx0
    clear hx0
    go_wp2
    go_ret
    refine .inl ⟨rfl,r+1,Q',by omega,by omega,fun _=>by omega,by rw [←HX.out];exact HJr.down,?_,fun j hj=>(HQr.out j hj).imp id (fun h=>by omega)⟩
    exact(HKW2.out.mono (fun j hj=>.inl (by rw [hj];exact HE.out.bdB))).trans HKr.out iL
 ·obtain rfl:i=es.length:=by omega
  clear hi hfi
  have hI2:(es.length:Int)≤(cap:Int):=by omega
  by_cases hce:cap=es.length
  ·subst hce
   go_region_held3 (fun w'=>w'.cell? ⟨w1.heap.size,0,none⟩=some (.int .u8 5)∧w'.cell? ⟨w1.heap.size,1,none⟩=some (.slice (some ⟨g,0,none⟩) es.length es.length)∧w'.cell? ⟨W.heap.size,0,none⟩=some (.string p.key)∧w'.cell? ⟨W.heap.size,1,none⟩=some (.int .i64 p.num)) (go_keep) ((go_at_call 175;refine(HFF.out _ (Kept.drew _ _)).mono ?_;rintro x w2 ⟨rfl,hk2⟩;have HK2:Hid (Kept (fun _=>False) WN.drew w2):=hk2;have z20:w2.cell? ⟨w1.heap.size,0,none⟩=some (.int .u8 5):=(hk2.cell (a:=⟨w1.heap.size,0,none⟩) hlN id).trans z0;have z21:w2.cell? ⟨w1.heap.size,1,none⟩=some (.slice (some ⟨g,0,none⟩) es.length es.length):=(hk2.cell (a:=⟨w1.heap.size,1,none⟩) hlN id).trans z1;have p20:w2.cell? ⟨W.heap.size,0,none⟩=some (.string p.key):=(hk2.cell (a:=⟨W.heap.size,0,none⟩) hlP id).trans p0;have p21:w2.cell? ⟨W.heap.size,1,none⟩=some (.int .i64 p.num):=(hk2.cell (a:=⟨W.heap.size,1,none⟩) hlP id).trans p1;clear hk2))
   have HKW2:Hid (Kept (fun k=>k=bd) W w2):=((((HK0.out.mono fE).trans HK1.out iL).trans HKN.out fE).trans (Kept.drew (fun _=>False) WN) fE).trans HK2.out fE
   have HKN2:Hid (Kept (fun _=>False) w1 w2):=(HKN.out.trans (Kept.drew (fun _=>False) WN) iL).trans HK2.out iL
   have HD2:Hid (zh w2 bd S {D with reads:=r+1 }):=HD1.out.kept HKN2.out nF
   have HJ2:PLift (J (r+1) pre Q w2):=⟨HE.out.stp r (r+1) pre Q W w2 HJ.down (by omega) HKW2.out HD2.out⟩
   have hn:es.length-es.length=0:=by omega
   try rw [hn]
   have hx0:yN p es=[]:=by rw [←HFI.out];exact List.drop_of_length_le (by omega)
   have HX:Hid (yN p es=[]):=hx0
   clear hx0 z0 z1 p0 p1 z20 z21 p20 p21
   go_wp2_with fail
   go_loopw [46] (fun t wr=>t=.int .i64 0∧wr=w2) (fun t _=>0)
   case atStart=>exact⟨rfl,rfl⟩
   case round=>
    obtain⟨rfl,rfl⟩:=hrel
    go_wp2
    go_ret
    refine .inl ⟨rfl,r+1,Q,by omega,by omega,fun _=>by omega,by rw [HX.out,List.append_nil];exact HJ2.down,?_,fun j hj=>.inl hj⟩
    exact HKW2.out.mono (fun j hj=>.inl (by rw [hj];exact HE.out.bdB))
  ·have hne:¬(cap:Int)=(es.length:Int):=by omega
   go_region_held3 (fun w'=>w'.cell? ⟨w1.heap.size,0,none⟩=some (.int .u8 5)∧w'.cell? ⟨w1.heap.size,1,none⟩=some (.slice (some ⟨g,0,none⟩) es.length cap)∧w'.cell? ⟨W.heap.size,0,none⟩=some (.string p.key)∧w'.cell? ⟨W.heap.size,1,none⟩=some (.int .i64 p.num)) (go_keep) ((go_at_call 175;refine(HFF.out _ (Kept.drew _ _)).mono ?_;rintro x w2 ⟨rfl,hk2⟩;have HK2:Hid (Kept (fun _=>False) WN.drew w2):=hk2;have z20:w2.cell? ⟨w1.heap.size,0,none⟩=some (.int .u8 5):=(hk2.cell (a:=⟨w1.heap.size,0,none⟩) hlN id).trans z0;have z21:w2.cell? ⟨w1.heap.size,1,none⟩=some (.slice (some ⟨g,0,none⟩) es.length cap):=(hk2.cell (a:=⟨w1.heap.size,1,none⟩) hlN id).trans z1;have p20:w2.cell? ⟨W.heap.size,0,none⟩=some (.string p.key):=(hk2.cell (a:=⟨W.heap.size,0,none⟩) hlP id).trans p0;have p21:w2.cell? ⟨W.heap.size,1,none⟩=some (.int .i64 p.num):=(hk2.cell (a:=⟨W.heap.size,1,none⟩) hlP id).trans p1;clear hk2))
   have HKW2:Hid (Kept (fun k=>k=bd) W w2):=((((HK0.out.mono fE).trans HK1.out iL).trans HKN.out fE).trans (Kept.drew (fun _=>False) WN) fE).trans HK2.out fE
   have HKN2:Hid (Kept (fun _=>False) w1 w2):=(HKN.out.trans (Kept.drew (fun _=>False) WN) iL).trans HK2.out iL
   have HD2:Hid (zh w2 bd S {D with reads:=r+1 }):=HD1.out.kept HKN2.out nF
   have HJ2:PLift (J (r+1) pre Q w2):=⟨HE.out.stp r (r+1) pre Q W w2 HJ.down (by omega) HKW2.out HD2.out⟩
   have hn:es.length-es.length=0:=by omega
   try rw [hn]
   have hx0:yN p es=[]:=by rw [←HFI.out];exact List.drop_of_length_le (by omega)
   have HX:Hid (yN p es=[]):=hx0
   clear hx0 z0 z1 p0 p1 z20 z21 p20 p21
   go_wp2_with fail
   go_loopw [46] (fun t wr=>t=.int .i64 0∧wr=w2) (fun t _=>0)
   case atStart=>exact⟨rfl,rfl⟩
   case round=>
    obtain⟨rfl,rfl⟩:=hrel
    go_wp2
    go_ret
    refine .inl ⟨rfl,r+1,Q,by omega,by omega,fun _=>by omega,by rw [HX.out,List.append_nil];exact HJ2.down,?_,fun j hj=>.inl hj⟩
    exact HKW2.out.mono (fun j hj=>.inl (by rw [hj];exact HE.out.bdB))
structure Xz where
 blk:Nat
 y:List En
 n:Nat
 f:Nat
def yh(ks:List Xz):List En:=(ks.map Xz.y).flatten
def jB(ks:List Xz):Nat:=(ks.map Xz.n).sum
def x6(ks:List Xz):Nat:=Xx (ks.map fun k=>(k.f,k.y.isEmpty))
theorem Q0{ks:List Xz}{k:Nat}(h:k<ks.length):yh (ks.take (k+1))=yh (ks.take k)++ks[k].y:=by
 rw [List.take_succ_eq_append_getElem h];simp only [yh,List.map_append,List.map_cons,List.map_nil,List.flatten_append,List.flatten_cons,List.flatten_nil,List.append_nil]
theorem Q1{ks:List Xz}{k:Nat}(h:k<ks.length):jB (ks.take (k+1))=jB (ks.take k)+ks[k].n:=by
 rw [List.take_succ_eq_append_getElem h];simp only [jB,List.map_append,List.map_cons,List.map_nil,List.sum_append,List.sum_cons,List.sum_nil,Nat.add_zero]
theorem JT(ks:List Xz)(k:Nat):jB (ks.take k)≤jB ks:=by
 conv=>rhs;rw [←List.take_append_drop k ks]
 simp only [jB,List.map_append,List.sum_append];omega
theorem JU{ks:List Xz}{k:Nat}(h:k<ks.length):x6 (ks.drop k)=ks[k].f+if ks[k].y.isEmpty then x6 (ks.drop (k+1)) else 0:=by
 rw [List.drop_eq_getElem_cons h];rfl
theorem XA(ks:List Xz)(k:Nat):yh (ks.take k)<+:yh ks:=by
 conv=>rhs;rw [←List.take_append_drop k ks]
 exact⟨yh (ks.drop k),by simp only [yh,List.map_append,List.flatten_append]⟩
structure Zz (l:Nat) (J:Int→List En→(Nat→Prop)→World→Prop) (Jx:Int→List En→World→Prop) (B bd:Nat) (R1 R2:Int) (all:List En) (p:Pl) (k:Xz):Prop where
 go:∀(A:World) (r:Int) (pre:List En) (Q:Nat→Prop),J r pre Q A→B≤A.heap.size→0≤r→r+k.n≤R2→(pre=[]→r+k.f≤R1)→(pre++k.y)<+:all→
  Calls Tryz.prog 191 #[.iface 29 (.pointer (some ⟨bd,0,none⟩)),.int .i64 k.blk,.agg #[.string p.key,.int .i64 p.num],.func (.yield l) #[] #[]] A (xL J Jx B A r pre Q k.y k.n k.f)
theorem ZA(l:Nat)(J:Int→List En→(Nat→Prop)→World→Prop)(Jx:Int→List En→World→Prop)(B bd:Nat)(S:Nat→Prop)(D:Dk)(R1 R2:Int)(all:List En)(E:gn l J Jx B bd S D R1 R2 all)(hR2:R2≤4611686018427380000)
 (W:World) (r:Int) (pre:List En) (Q:Nat→Prop) (hJ:J r pre Q W) (hB:B≤W.heap.size) (p:Pl) (at_:Nat) (hat:at_<65536) (es:List En) (hes:∀e∈es,e.Ok) (hlen0:0<es.length) (hlen:es.length≤6) (hs:yg es) (h4:∀e∈es,e.mark=false∧e.size=0) (hl:D.look at_=zl (za 4 es))
 (ks:List Xz) (hks:ks.length=es.length-zw es p) (hka:∀k (hk:k<ks.length) (h2:zw es p+k<es.length),es[zw es p+k].at_=ks[k].blk) (hok:∀k∈ks,Zz l J Jx B bd R1 R2 all p k)
 (hr0:0≤r) (hr2:r+(1+jB ks:Nat)≤R2) (hr1:pre=[]→r+(1+x6 ks:Nat)≤R1) (hall:(pre++yh ks)<+:all):
 Calls Tryz.prog 191 #[.iface 29 (.pointer (some ⟨bd,0,none⟩)),.int .i64 at_,.agg #[.string p.key,.int .i64 p.num],.func (.yield l) #[] #[]] W (xL J Jx B W r pre Q (yh ks) (1+jB ks) (1+x6 ks)):=by
 have HE:Hid _:=E
 have HES:Hid (∀e∈es,e.Ok):=hes
 have HS:Hid (yg es):=hs
 have HL:Hid _:=hl
 have H4:Hid (∀e∈es,e.mark=false∧e.size=0):=h4
 have HOK:Hid (∀k∈ks,Zz l J Jx B bd R1 R2 all p k):=hok
 have hci:=dv p (l:=es) (fun e0=>by rw [e0] at hlen0;simp at hlen0)
 have hd:=(E.inv r pre Q W hJ).1
 have HD:Hid (zh W bd S {D with reads:=r }):=hd
 obtain⟨HJ⟩:Nonempty (PLift (J r pre Q W)):=⟨⟨hJ⟩⟩
 have HSL:Hid (∀k,S k→k<W.heap.size):=hd.lt
 have hbd:bd<W.heap.size:=hd.lt bd hd.bdS
 clear E hes hs hl hJ hd h4 hok
 go_enter Tryz.func191,Tryz.ntmps191
 go_wp2_with fail
 have HK0:Hid (Kept (fun _=>False) W (W.alloc (.cells #[.string p.key,.int .i64 p.num] 107))):=Kept.alloc _ _ _
 have HB0:Hid ((W.alloc (.cells #[.string p.key,.int .i64 p.num] 107)).heap[W.heap.size]? =some (.cells #[.string p.key,.int .i64 p.num] 107 (0,0))):=heap_alloc_new W _
 have hs0:(W.alloc (.cells #[.string p.key,.int .i64 p.num] 107)).heap.size=W.heap.size+1:=by simp
 generalize (W.alloc (.cells #[.string p.key,.int .i64 p.num] 107))=W0 at*
 refine(dB W0 bd S _ (HD.out.kept HK0.out nF) hr0 (by show r≤_;omega) at_ hat 4 es (.inl rfl) HES.out (fun _=>H4.out) hlen HL.out).mono ?_
 rintro x w1 ⟨a,cap,rfl,hd1,hk1,hrow1,hown1,hfr1⟩
 have HD1:Hid (zh w1 bd S {D with reads:=r+1 }):=hd1
 have HK1:Hid (Kept (fun j=>j=bd) W0 w1):=hk1
 have HR1:Hid _:=hrow1
 have HO1:Hid _:=hown1
 have hsz1:=hk1.size
 have HB1:Hid (w1.heap[W.heap.size]? =_):=(hk1.block _ (by omega) (by omega)).trans HB0.out
 clear hd1 hk1 hrow1 hown1 hfr1
 go_wp2_with fail
 obtain⟨g,rfl⟩:∃g,a=some ⟨g,0,none⟩:=by
  rcases HO1.out.2 with⟨_,h1⟩|⟨g,cap',cur,hv,_⟩
  ·omega
  ·cases hv;exact⟨g,rfl⟩
 have hcap:es.length≤cap:=by
  rcases HO1.out.2 with⟨h1,h2⟩|⟨g',cap',cur,hv,_,hg,h1,h2,_⟩
  ·cases h1
  ·cases hv;exact h1
 have HKN:Hid (Kept (fun _=>False) w1 (w1.alloc (.cells #[.int .u8 4,.slice (some ⟨g,0,none⟩) es.length cap] 209))):=Kept.alloc _ _ _
 have HBN:Hid ((w1.alloc (.cells #[.int .u8 4,.slice (some ⟨g,0,none⟩) es.length cap] 209)).heap[w1.heap.size]? =some (.cells #[.int .u8 4,.slice (some ⟨g,0,none⟩) es.length cap] 209 (0,0))):=heap_alloc_new w1 _
 have hsN:(w1.alloc (.cells #[.int .u8 4,.slice (some ⟨g,0,none⟩) es.length cap] 209)).heap.size=w1.heap.size+1:=by simp
 generalize (w1.alloc (.cells #[.int .u8 4,.slice (some ⟨g,0,none⟩) es.length cap] 209))=WN at*
 have HRN:Hid (zH WN (fun b=>W0.heap.size≤b) (some ⟨g,0,none⟩) es):=HR1.out.kept HKN.out nF
 have HBP:Hid (WN.heap[W.heap.size]? =_):=(HKN.out.block _ (by omega) id).trans HB1.out
 have z0:WN.cell? ⟨w1.heap.size,0,none⟩=some (.int .u8 4):=cR HBN.out rfl
 have z1:WN.cell? ⟨w1.heap.size,1,none⟩=some (.slice (some ⟨g,0,none⟩) es.length cap):=cR HBN.out rfl
 have p0:WN.cell? ⟨W.heap.size,0,none⟩=some (.string p.key):=cR HBP.out rfl
 have p1:WN.cell? ⟨W.heap.size,1,none⟩=some (.int .i64 p.num):=cR HBP.out rfl
 have hlP:W.heap.size<WN.heap.size:=by omega
 have hlN:w1.heap.size<WN.heap.size:=by omega
 have HKA:Hid (∀k (hk:k<ks.length) (h2:zw es p+k<es.length),es[zw es p+k].at_=ks[k].blk):=hka
 clear hka
 have HFF:Hid (∀w':World,Kept (fun _=>False) WN w'→Calls Tryz.prog 176 #[.agg #[.int .u8 4,.slice (some ⟨g,0,none⟩) es.length cap],.agg #[.string p.key,.int .i64 p.num]] w' fun r w''=>r=.returned (.int .i64 (zw es p:Nat))∧Kept (fun _=>False) w' w''):=fun w' hw'=>j8 w' _ _ cap es (HRN.out.kept hw' nF) HS.out 4 p
 generalize zw es p=i at*
 have hne:¬(cap:Int)=(i:Int):=by omega
 have hne2:¬cap=i:=by omega
 have hI1:(i:Int)≤(es.length:Int):=by omega
 have hI2:(es.length:Int)≤(cap:Int):=by omega
 go_region_held3 (fun w'=>w'.cell? ⟨w1.heap.size,0,none⟩=some (.int .u8 4)∧w'.cell? ⟨w1.heap.size,1,none⟩=some (.slice (some ⟨g,0,none⟩) es.length cap)∧w'.cell? ⟨W.heap.size,0,none⟩=some (.string p.key)∧w'.cell? ⟨W.heap.size,1,none⟩=some (.int .i64 p.num)) (go_keep) ((go_at_call 176;refine(HFF.out _ (Kept.drew _ _)).mono ?_;rintro x w2 ⟨rfl,hk2⟩;have HK2:Hid (Kept (fun _=>False) WN.drew w2):=hk2;have z20:w2.cell? ⟨w1.heap.size,0,none⟩=some (.int .u8 4):=(hk2.cell (a:=⟨w1.heap.size,0,none⟩) hlN id).trans z0;have z21:w2.cell? ⟨w1.heap.size,1,none⟩=some (.slice (some ⟨g,0,none⟩) es.length cap):=(hk2.cell (a:=⟨w1.heap.size,1,none⟩) hlN id).trans z1;have p20:w2.cell? ⟨W.heap.size,0,none⟩=some (.string p.key):=(hk2.cell (a:=⟨W.heap.size,0,none⟩) hlP id).trans p0;have p21:w2.cell? ⟨W.heap.size,1,none⟩=some (.int .i64 p.num):=(hk2.cell (a:=⟨W.heap.size,1,none⟩) hlP id).trans p1;clear hk2))
 have HKW2:Hid (Kept (fun k=>k=bd) W w2):=((((HK0.out.mono fE).trans HK1.out iL).trans HKN.out fE).trans (Kept.drew (fun _=>False) WN) fE).trans HK2.out fE
 have HKN2:Hid (Kept (fun _=>False) w1 w2):=(HKN.out.trans (Kept.drew (fun _=>False) WN) iL).trans HK2.out iL
 have HD2:Hid (zh w2 bd S {D with reads:=r+1 }):=HD1.out.kept HKN2.out nF
 have HJ2:PLift (J (r+1) pre Q w2):=⟨HE.out.stp r (r+1) pre Q W w2 HJ.down (by omega) HKW2.out HD2.out⟩
 have HBP2:Hid (w2.heap[W.heap.size]? =some (.cells #[.string p.key,.int .i64 p.num] 107 (0,0))):=(HK2.out.block _ hlP id).trans HBP.out
 have HR2:Hid (zH w2 (fun b=>W0.heap.size≤b) (some ⟨g,0,none⟩) es):=HR1.out.kept HKN2.out nF
 have hszw:W.heap.size+1<w2.heap.size:=by have:=HKN2.out.size;have:=HK2.out.size;have h9:WN.drew.heap.size=WN.heap.size:=rfl;omega
 obtain⟨-, -, -, -, -, hgW,hgl⟩:=HR2.out.cells 0 hlen0
 have HQL:Hid (∀k,Q k→k<W.heap.size):=(HE.out.inv r pre Q W HJ.down).2
 clear z0 z1 p0 p1 z20 z21 p20 p21 HRN HFF HKN HBN HB1 HK1 HD1
 generalize hn:es.length-i=n at*
 go_wp2_with fail
 go_loopw [27] (fun t wr=>∃(k:Nat) (r':Int) (Q':Nat→Prop),k≤n∧t=.int .i64 k∧J r' (pre++yh (ks.take k)) Q' wr∧r+1≤r'∧r'≤r+1+jB (ks.take k)∧(yh (ks.take k)=[]→r'+x6 (ks.drop k)≤r+1+x6 ks)∧Kept (fun j=>j<B∨Q j) w2 wr∧∀j,Q' j→Q j∨w2.heap.size≤j) (fun t _=>n-(intOf t).toNat)
 case atStart=>exact⟨0,r+1,Q,Nat.zero_le _,rfl,by simpa [yh] using HJ2.down,by omega,by simp [jB],fun _=>by simp,Kept.refl _ _,fun _ h=>.inl h⟩
 case round=>
  obtain⟨k,r',Q',hk,rfl,hj,hra,hrb,hrc,hkept,hq'⟩:=hrel
  have HJr:PLift (J r' (pre++yh (ks.take k)) Q' wr):=⟨hj⟩
  have HKr:Hid (Kept (fun j=>j<B∨Q j) w2 wr):=hkept
  have HQr:Hid (∀j,Q' j→Q j∨w2.heap.size≤j):=hq'
  have HRC:Hid (yh (ks.take k)=[]→r'+x6 (ks.drop k)≤r+1+x6 ks):=hrc
  clear hj hkept hq' hrc
  by_cases hlt:k<n
  ·have HRr:Hid (zH wr (fun b=>W0.heap.size≤b∧b<w2.heap.size) (some ⟨g,0,none⟩) es):=by
    have:zH w2 (fun b=>W0.heap.size≤b∧b<w2.heap.size) (some ⟨g,0,none⟩) es:=HR2.out.below
    exact this.kept HKr.out (fun b hb hc=>hc.elim (fun h=>by omega) (fun h=>by have:=HQL.out b h;omega))
   obtain⟨c0,c1,c2,c3,c4, -, hgr⟩:=HRr.out.cells (i+k) (by omega)
   have hat2:=HKA.out k (by omega) (by omega)
   have HPr:Hid (wr.heap[W.heap.size]? =some (.cells #[.string p.key,.int .i64 p.num] 107 (0,0))):=(HKr.out.block _ (by omega) (fun hc=>hc.elim (fun h=>by omega) (fun h=>by have:=HQL.out _ h;omega))).trans HBP2.out
   have HKD:Hid (Zz l J Jx B bd R1 R2 all p (ks[k]'(by omega))):=HOK.out _ (List.getElem_mem _)
   have hyk:=Q0 (ks:=ks) (k:=k) (by omega)
   have hnk:=Q1 (ks:=ks) (k:=k) (by omega)
   have hfk:=JU (ks:=ks) (k:=k) (by omega)
   have hnl:=JT ks (k+1)
   have hyp:=XA ks (k+1)
   generalize ks[k]'(by omega)=kd at*
   generalize es[i+k]'(by omega)=x at*
   rw [hat2] at c4
   have hoff:0+(i+k)*5=i*5+k*5:=by rw [Nat.add_mul];omega
   rw [hoff] at c0 c1 c2 c3 c4
   have HYK:Hid (yh (ks.take (k+1))=yh (ks.take k)++kd.y):=hyk
   have HFK:Hid (x6 (ks.drop k)=kd.f+if kd.y.isEmpty then x6 (ks.drop (k+1)) else 0):=hfk
   have HYP:Hid (yh (ks.take (k+1))<+:yh ks):=hyp
   clear hyk hfk hyp hat2 HKA
   have hpl:W.heap.size<wr.heap.size:=(lT HPr.out)
   have p0:wr.cell? ⟨W.heap.size,0,none⟩=some (.string p.key):=cR HPr.out rfl
   have p1:wr.cell? ⟨W.heap.size,1,none⟩=some (.int .i64 p.num):=cR HPr.out rfl
   go_wp2_with fail
   have HKa:Hid (Kept (fun _=>False) wr (wr.alloc (.cells #[.string x.pl.key,.int .i64 x.pl.num,.bool x.mark,.int .i64 (x.size:Int),.int .i64 (kd.blk:Int)] 109))):=Kept.alloc _ _ _
   have hsa:(wr.alloc (.cells #[.string x.pl.key,.int .i64 x.pl.num,.bool x.mark,.int .i64 (x.size:Int),.int .i64 (kd.blk:Int)] 109)).heap.size=wr.heap.size+1:=by simp
   generalize (wr.alloc (.cells #[.string x.pl.key,.int .i64 x.pl.num,.bool x.mark,.int .i64 (x.size:Int),.int .i64 (kd.blk:Int)] 109))=WA at*
   have HJa:PLift (J r' (pre++yh (ks.take k)) Q' WA):=⟨HE.out.stp _ _ _ _ _ _ HJr.down (Int.le_refl _) (HKa.out.mono fE) ((HE.out.inv _ _ _ _ HJr.down).1.kept HKa.out nF)⟩
   have hszr:=HKr.out.size
   have hfirst:pre++yh (ks.take k)=[]→r'+kd.f≤R1:=fun h0=>by
    obtain⟨h1,h2⟩:=List.append_eq_nil_iff.1 h0
    have h3:=HRC.out h2
    have h4:=hr1 h1
    rw [HFK.out] at h3
    omega
   refine(HKD.out.go WA r' _ Q' HJa.down (by omega) (by omega) (by omega) hfirst (by
    rw [List.append_assoc,←HYK.out]
    obtain⟨z,hz⟩:=HYP.out
    obtain⟨z2,hz2⟩:=hall
    exact⟨z++z2,by rw [←hz2,←hz,List.append_assoc,List.append_assoc,List.append_assoc]⟩)).mono ?_
   clear hfirst
   rintro e W3 (⟨rfl,r3,Q3,g1,g2,g3,hj3,hk3,hq3⟩|⟨rfl,r3,q3,hx3⟩)
   ·have HJ3:PLift (J r3 (pre++yh (ks.take (k+1))) Q3 W3):=⟨by rw [HYK.out,←List.append_assoc];exact hj3⟩
    have HK3:Hid (Kept (fun j=>j<B∨Q j) w2 W3):=(HKr.out.trans HKa.out fE).trans hk3 (fun j hj=>by
     rcases hj with h|h
     ·exact .inl (.inl h)
     ·exact(HQr.out j h).imp .inr id)
    have HQ3:Hid (∀j,Q3 j→Q j∨w2.heap.size≤j):=fun j hj=>by
     rcases hq3 j hj with h|h
     ·exact HQr.out j h
     ·exact .inr (by omega)
    have HR3:Hid (yh (ks.take (k+1))=[]→r3+x6 (ks.drop (k+1))≤r+1+x6 ks):=fun h0=>by
     rw [HYK.out] at h0
     obtain⟨h1,h2⟩:=List.append_eq_nil_iff.1 h0
     have h3:=HRC.out h1
     have h4:=g3 h2
     rw [HFK.out,if_pos (by rw [h2];rfl)] at h3
     omega
    clear hj3 hk3 hq3 g3
    go_wp2
    go_roundw
    case rel=>exact⟨k+1,r3,Q3,by omega,by go_num,HJ3.down,by omega,by omega,HR3.out,HK3.out,HQ3.out⟩
    case measure=>simp [intOf];omega
   ·obtain⟨HX3⟩:Nonempty (PLift (Jx r3 q3 W3)):=⟨⟨hx3⟩⟩
    clear hx3
    go_wp2
    go_ret
    exact .inr ⟨rfl,_,_,HX3.down⟩
  ·have hkk:ks.take k=ks:=List.take_of_length_le (by omega)
   have hkd:ks.drop k=[]:=List.drop_of_length_le (by omega)
   have HJe:PLift (J r' (pre++yh ks) Q' wr):=⟨by have:=HJr.down;rw [hkk] at this;exact this⟩
   have HRe:Hid (yh ks=[]→r'≤r+1+x6 ks):=fun h0=>by
    have:=HRC.out (by rw [hkk];exact h0)
    omega
   rw [hkk] at hrb
   clear hkk hkd
   go_wp2
   go_ret
   refine .inl ⟨rfl,r',Q',by omega,by omega,fun h=>by have:=HRe.out h;omega,HJe.down,?_,fun j hj=>(HQr.out j hj).imp id (fun h=>by omega)⟩
   exact(HKW2.out.mono (fun j hj=>.inl (by rw [hj];exact HE.out.bdB))).trans HKr.out iL
theorem xL.mono{J:Int→List En→(Nat→Prop)→World→Prop}{Jx:Int→List En→World→Prop}{B:Nat}{W:World}{r:Int}{pre:List En}{Q:Nat→Prop}{y y':List En}{n n' f f':Nat}{e:Ending}{W':World}
 (h:xL J Jx B W r pre Q y n f e W') (hy:y=y') (hn:n≤n') (hf:f=f'):xL J Jx B W r pre Q y' n' f' e W':=by
 subst hy;subst hf
 rcases h with⟨h1,r',Q',h2,h3,h4⟩|h
 ·exact .inl ⟨h1,r',Q',h2,by omega,h4⟩
 ·exact .inr h
def Tr.kid{h:Nat}(t:Tr h)(p:Pl):Xz:=⟨t.blk,yN p t.ents,t.blocks.length,t.fy p⟩
theorem K8{h:Nat}(cs:List (Pl×Tr h))(p:Pl):yh (cs.map fun c=>c.2.kid p)=yN p (zJ cs):=by
 induction cs with
 |nil=>rfl
 |cons c cs ih=>rw [zo,jz,←ih];rfl
theorem K9{h:Nat}(cs:List (Pl×Tr h))(p:Pl):jB (cs.map fun c=>c.2.kid p)=(zA cs).length:=by
 induction cs with
 |nil=>rfl
 |cons c cs ih=>rw [qt,List.length_append,←ih];rfl
theorem dg{h:Nat}(cs:List (Pl×Tr h))(c:Nat):(zA (cs.drop c)).length≤(zA cs).length:=by
 conv=>rhs;rw [←List.take_append_drop c cs]
 rw [ql,List.length_append];omega
theorem dG(l:Nat)(J:Int→List En→(Nat→Prop)→World→Prop)(Jx:Int→List En→World→Prop)(B bd:Nat)(S:Nat→Prop)(D:Dk)(R1 R2:Int)(all:List En)(E:gn l J Jx B bd S D R1 R2 all)(hR2:R2≤4611686018427380000)(p:Pl):
 ∀(h:Nat) (t:Tr h),t.Good→1≤t.items.length→t.items.length≤6→yg t.ents→t.LayV zl (fun j=>D.look (j:Nat))→Zz l J Jx B bd R1 R2 all p (t.kid p)
 |0,(b,es),g,h1,h6,hs,hl=>⟨fun A r pre Q hj hB hr0 hr2 hr1 hall=>Xy l J Jx B bd S D R1 R2 all E hR2 A r pre Q hj hB p b g.1 es g.2 h1 h6 hs hl hr0 hr2 hr1 hall⟩
 |h+1,(b,cs),g,h1,h6,hs,hl=>by
  have h1':1≤cs.length:=Nat.le_trans h1 (Nat.le_of_eq (zs b cs))
  have h6':cs.length≤6:=Nat.le_trans (Nat.le_of_eq (zs b cs).symm) h6
  have kk:Kids cs:=g.kids
  have hne:cs≠[]:=fun e=>by rw [e] at h1';simp at h1'
  obtain⟨c,hc⟩:∃c,c=zw (cs.map fun c=>(⟨c.1,false,0,c.2.blk⟩:En)) p:=⟨_,rfl⟩
  obtain⟨w1,_⟩:=kk.walk hne p c hc
  have hsub:∀c∈cs,c.2.ents.Sublist (zJ cs):=fun c hcm=>by
   obtain⟨A,B,rfl⟩:=List.append_of_mem hcm
   rw [zt,zo]
   exact((List.sublist_append_left _ _).trans (List.sublist_append_right _ _))
  have hok:∀k∈(cs.drop c).map (fun c=>c.2.kid p),Zz l J Jx B bd R1 R2 all p k:=fun k hk=>by
   obtain⟨x,hx,rfl⟩:=List.mem_map.1 hk
   have hxm:=List.mem_of_mem_drop hx
   have hg:=kk.good x hxm
   exact dG l J Jx B bd S D R1 R2 all E hR2 p h x.2 hg.1 (by have:3≤x.2.items.length:=g.full x hxm;omega) hg.2.1 (List.Pairwise.sublist (hsub x hxm) hs) (hl.2 x hxm)
  have hlen:(cs.map fun c=>(⟨c.1,false,0,c.2.blk⟩:En)).length=cs.length:=by simp
  have hN:1+jB ((cs.drop c).map fun c=>c.2.kid p)≤(Tr.blocks (h:=h+1) (b,cs)).length:=by
   rw [K9]
   show 1+(zA (cs.drop c)).length≤(b::zA cs).length
   have:=dg cs c
   rw [List.length_cons];omega
  have hF:1+x6 ((cs.drop c).map fun c=>c.2.kid p)=Tr.fy p (h:=h+1) (b,cs):=by
   show 1+Xx _=1+Xx _
   rw [hc,List.map_map];rfl
  have hY:yh ((cs.drop c).map fun c=>c.2.kid p)=yN p (zJ cs):=by rw [K8,w1]
  refine⟨fun A r pre Q hj hB hr0 hr2 hr1 hall=>?_⟩
  have hr2':r+((Tr.blocks (h:=h+1) (b,cs)).length:Nat)≤R2:=hr2
  have hr1':pre=[]→r+(Tr.fy p (h:=h+1) (b,cs):Nat)≤R1:=hr1
  refine(ZA l J Jx B bd S D R1 R2 all E hR2 A r pre Q hj hB p b g.1 (cs.map fun c:Pl×Tr h=>(⟨c.1,false,0,c.2.blk⟩:En)) g.items_ok (by omega) (by omega) kk.items_srt (fun e he=>by
   obtain⟨x,_,rfl⟩:=List.mem_map.1 he;exact⟨rfl,rfl⟩) hl.1 ((cs.drop c).map fun c=>c.2.kid p) (by rw [←hc,hlen];simp) (fun k hk h2=>?_) hok hr0 (by omega) (fun h0=>by rw [hF];exact hr1' h0) (by rw [hY];exact hall)).mono ?_
  ·simp only [←hc,List.getElem_map,List.getElem_drop]
   rfl
  ·intro e W' hp
   exact hp.mono hY hN hF
structure ki (W:World) (b1 b2 b3 bd root:Nat) (p:Pl):Prop where
 root:W.heap[b1]? =some (.cells #[.int .i64 (root:Int)] 3 (0,0))
 rd:W.heap[b2]? =some (.cells #[.iface 29 (.pointer (some ⟨bd,0,none⟩))] 193 (0,0))
 pl:W.heap[b3]? =some (.cells #[.string p.key,.int .i64 p.num] 107 (0,0))
theorem ki.kept{W W':World}{b1 b2 b3 bd root:Nat}{p:Pl}(h:ki W b1 b2 b3 bd root p){X:Nat→Prop}(k:Kept X W W')(h1:¬X b1)(h2:¬X b2)(h3:¬X b3):ki W' b1 b2 b3 bd root p:=
 ⟨(k.block _ (lT h.root) h1).trans h.root,(k.block _ (lT h.rd) h2).trans h.rd,(k.block _ (lT h.pl) h3).trans h.pl⟩
theorem up(w:World)(o1 o2 o3:Obj):(((w.alloc o1).alloc o2).alloc o3).heap[w.heap.size]? =some o1∧(((w.alloc o1).alloc o2).alloc o3).heap[w.heap.size+1]? =some o2∧(((w.alloc o1).alloc o2).alloc o3).heap[w.heap.size+2]? =some o3∧Kept (fun _=>False) w (((w.alloc o1).alloc o2).alloc o3)∧(((w.alloc o1).alloc o2).alloc o3).heap.size=w.heap.size+3:=by
 have k3:=Kept.alloc (fun _=>False) ((w.alloc o1).alloc o2) o3
 have s2:((w.alloc o1).alloc o2).heap.size=w.heap.size+2:=by simp
 refine⟨(k3.block _ (by omega) id).trans (((Kept.alloc (fun _=>False) (w.alloc o1) o2).block w.heap.size (by simp) id).trans (heap_alloc_new w _)),(k3.block _ (by omega) id).trans (heap_alloc2_new w _ _),?_,((Kept.alloc _ _ _).trans (Kept.alloc _ _ _) iL).trans k3 iL,by simp⟩
 have:=heap_alloc_new ((w.alloc o1).alloc o2) o3
 rw [s2] at this;exact this
theorem JV(w:World)(bd root:Nat)(p:Pl):Calls Tryz.prog 158 #[.iface 29 (.pointer (some ⟨bd,0,none⟩)),.int .i64 root,.agg #[.string p.key,.int .i64 p.num]] w fun e w'=>
 e=.returned (.func (.func 190) #[] #[.pointer (some ⟨w.heap.size+1,0,none⟩),.pointer (some ⟨w.heap.size,0,none⟩),.pointer (some ⟨w.heap.size+2,0,none⟩)])∧ki w' (w.heap.size+1) w.heap.size (w.heap.size+2) bd root p∧Kept (fun _=>False) w w'∧w'.heap.size=w.heap.size+3:=by
 go_enter Tryz.func158,Tryz.ntmps158
 go_wp2
 go_ret
 obtain⟨n1,n2,n3,k3,s3⟩:=up w (.cells #[.iface 29 (.pointer (some ⟨bd,0,none⟩))] 193) (.cells #[.int .i64 (root:Int)] 3) (.cells #[.string p.key,.int .i64 p.num] 107)
 exact⟨rfl,⟨n2,n1,n3⟩,k3,s3⟩
theorem JW(W:World)(bd:Nat)(S:Nat→Prop)(D:Dk)(b1 b2 b3 root:Nat)(p:Pl)(hbox:ki W b1 b2 b3 bd root p)(es:List En)(bs:List Nat)(hF:ya (fun j=>D.look (j:Nat)) root es bs)(hbl:bs.length≤979)(hbs:∀j∈bs,21≤j)(hbd:bd<W.heap.size)(r0:Int)(hr0:0≤r0)(hr1:r0≤4611686018427370000):
 kF Tryz.prog 190 #[.pointer (some ⟨b1,0,none⟩),.pointer (some ⟨b2,0,none⟩),.pointer (some ⟨b3,0,none⟩)] (fun x:En=>#[.agg (qp x).toArray]) (fun k=>k=bd) (fun r _ A=>zh A bd S {D with reads:=r })
  (fun r pre x _=>JS (r0+13) (r0+bs.length) (yN p es) r pre x) (fun r xs=>xs=yN p es∧r≤r0+bs.length∧(xs=[]→r≤r0+13)) (fun _ _=>True) r0 W:=by
 intro l J Jx hJi hJs hJy hJ0
 have c1:W.cell? ⟨b1,0,none⟩=some (.int .i64 (root:Int)):=cR hbox.root rfl
 have c2:W.cell? ⟨b2,0,none⟩=some (.iface 29 (.pointer (some ⟨bd,0,none⟩))):=cR hbox.rd rfl
 have c3:W.cell? ⟨b3,0,none⟩=some (.string p.key):=cR hbox.pl rfl
 have c4:W.cell? ⟨b3,1,none⟩=some (.int .i64 p.num):=cR hbox.pl rfl
 have HJ0:PLift (J r0 [] (fun _=>False) W):=⟨hJ0⟩
 rcases hF with⟨rfl,rfl,rfl⟩|⟨h,t,hr,hl,rfl,rfl,rfl⟩
 ·clear hJi hJs hJy hJ0 hbox
  go_enter Tryz.func190,Tryz.ntmps190
  go_wp2
  go_end0
  exact⟨⟨_,rfl⟩,.inl ⟨r0,[],_,⟨rfl,by simp,fun _=>by omega⟩,HJ0.down⟩⟩
 ·have h6:=hr.low hbl
  have hfy:=hr.good.fy_le p hr.one
  have hz:t.blk≠0:=by have:=hbs _ t.blk_mem;omega
  clear hbs
  have E:gn l J Jx W.heap.size bd S D (r0+13) (r0+t.blocks.length) (yN p t.ents):=⟨hJi,hJs,hJy,hbd⟩
  have K:=dG l J Jx W.heap.size bd S D (r0+13) (r0+t.blocks.length) (yN p t.ents) E (by omega) p h t hr.good hr.one hr.hi hr.srt hl
  have HK:Hid (Calls Tryz.prog 191 #[.iface 29 (.pointer (some ⟨bd,0,none⟩)),.int .i64 t.blk,.agg #[.string p.key,.int .i64 p.num],.func (.yield l) #[] #[]] W (xL J Jx W.heap.size W r0 [] (fun _=>False) (yN p t.ents) t.blocks.length (t.fy p))):=K.go W r0 [] (fun _=>False) hJ0 (Nat.le_refl _) hr0 (Int.le_refl _) (fun _=>by show r0+(t.fy p:Nat)≤_;omega) (List.prefix_refl _)
  clear K E hJi hJs hJy hJ0 hbox hl
  have hz':((t.blk:Int) !=0)=true:=by simp;omega
  go_enter Tryz.func190,Tryz.ntmps190
  go_wp2_with fail
  refine HK.out.mono ?_
  rintro e W' (⟨rfl,r',Q',g1,g2,g3,hj,hk,hq⟩|⟨rfl,r',q,hx⟩)
  ·have HJ:PLift (J r' ([]++yN p t.ents) Q' W'):=⟨hj⟩
   have G3:Hid (yN p t.ents=[]→r'≤r0+(t.fy p:Nat)):=g3
   clear hj g3 hk hq
   go_wp2
   go_end0
   exact⟨⟨_,rfl⟩,.inl ⟨r',yN p t.ents,Q',⟨rfl,by omega,fun h=>by have:=G3.out h;omega⟩,HJ.down⟩⟩
  ·have HX:PLift (Jx r' q W'):=⟨hx⟩
   clear hx
   go_wp2
   go_end0
   exact⟨⟨_,rfl⟩,.inr ⟨r',q,trivial,HX.down⟩⟩
end prog
end Go.Proofs.YtcoengihaobddaaGreatDoor
