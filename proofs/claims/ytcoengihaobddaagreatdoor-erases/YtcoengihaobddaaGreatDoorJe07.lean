/- Part 7 of 28 of a proof: Law5, Law15, Law14, Law6 -/
import Derived.Test.YtcoengihaobddaaGreatDoorJe06
import Derived.Deep.RegionHeld3
namespace Go.Proofs.YtcoengihaobddaaGreatDoor.law
open Go.ChangeShapes Go.WideShapes Go.ChangeAt Go.RowKit disk ref book
open keys (ret_int ret_bool beq_no beq_yes keyB)
set_option linter.unusedVariables false
set_option maxRecDepth 8000
structure Boxd (w:World) (b:Nat) (o:OpD):Prop where
 at_:w.heap[b]? =some (.cells #[.int .i64 o.kind,.int .i64 o.A,.int .i64 o.B,.int .i64 o.C,.string o.S,.string o.P,.slice o.la o.l.length o.lc,.slice o.ka o.ks.length o.kc] 81 (0,0))
theorem Boxd.lt {w:World} {b:Nat} {o:OpD} (h:Boxd w b o):b<w.heap.size:=(Array.getElem?_eq_some_iff.1 h.at_).1
theorem Boxd.kept {w w':World} {b:Nat} {o:OpD} {T:Nat→Prop} (h:Boxd w b o) (k:Kept T w w') (hn:¬T b):Boxd w' b o:=⟨(k.block b h.lt hn).trans h.at_⟩
theorem Boxd.c0 {w:World} {b:Nat} {o:OpD} (h:Boxd w b o):w.cell? ⟨b,0,none⟩=some (.int .i64 o.kind):=by rw [cell_of_row w b 0 _ _ _ h.at_];rfl
theorem Boxd.c1 {w:World} {b:Nat} {o:OpD} (h:Boxd w b o):w.cell? ⟨b,1,none⟩=some (.int .i64 o.A):=by rw [cell_of_row w b 1 _ _ _ h.at_];rfl
theorem Boxd.c2 {w:World} {b:Nat} {o:OpD} (h:Boxd w b o):w.cell? ⟨b,2,none⟩=some (.int .i64 o.B):=by rw [cell_of_row w b 2 _ _ _ h.at_];rfl
theorem Boxd.c3 {w:World} {b:Nat} {o:OpD} (h:Boxd w b o):w.cell? ⟨b,3,none⟩=some (.int .i64 o.C):=by rw [cell_of_row w b 3 _ _ _ h.at_];rfl
theorem Boxd.c4 {w:World} {b:Nat} {o:OpD} (h:Boxd w b o):w.cell? ⟨b,4,none⟩=some (.string o.S):=by rw [cell_of_row w b 4 _ _ _ h.at_];rfl
theorem Boxd.c5 {w:World} {b:Nat} {o:OpD} (h:Boxd w b o):w.cell? ⟨b,5,none⟩=some (.string o.P):=by rw [cell_of_row w b 5 _ _ _ h.at_];rfl
theorem Boxd.c6 {w:World} {b:Nat} {o:OpD} (h:Boxd w b o):w.cell? ⟨b,6,none⟩=some (.slice o.la o.l.length o.lc):=by rw [cell_of_row w b 6 _ _ _ h.at_];rfl
theorem Boxd.c7 {w:World} {b:Nat} {o:OpD} (h:Boxd w b o):w.cell? ⟨b,7,none⟩=some (.slice o.ka o.ks.length o.kc):=by rw [cell_of_row w b 7 _ _ _ h.at_];rfl
structure Mid (B:Nat) (wx:World) (bo:Nat) (h:OneH) (bd:Nat) (D2:Dk) (S2 R:Nat→Prop) (ib:Nat) (V:Con) (last:Int) (od:OpD) (Q:Nat→Prop):Prop where
 head:OneHead wx bo h
 disk:Disk wx bd S2 D2
 ref:RefAt wx R R ib V.vs last
 box:Boxd wx B od
 op:od.Ok wx Q
 lt:B<wx.heap.size
 hbo:bo<B
 hR:∀k,R k→k<B
 hQ:∀k,Q k→k<B
 hSb:¬S2 bo
theorem Mid.kept {B:Nat} {wx wy:World} {bo:Nat} {h:OneH} {bd:Nat} {D2:Dk} {S2 R:Nat→Prop} {ib:Nat} {V:Con} {last:Int} {od:OpD} {Q T:Nat→Prop} (m:Mid B wx bo h bd D2 S2 R ib V last od Q) (k:Kept T wx wy) (hs:∀k,T k→B<k∧¬S2 k):Mid B wy bo h bd D2 S2 R ib V last od Q:=
 ⟨m.head.kept k (fun hc=>by have:=(hs _ hc).1;have:=m.hbo;omega),m.disk.kept k (fun i hi hc=>(hs i hc).2 hi),m.ref.kept k (fun i hi hc=>by have:=(hs i hc).1;have:=m.hR i hi;omega) (fun i hi hc=>by have:=(hs i hc).1;have:=m.hR i hi;omega),
  m.box.kept k (fun hc=>by have:=(hs _ hc).1;omega),m.op.kept k (fun i hi hc=>by have:=(hs i hc).1;have:=m.hQ i hi;omega),Nat.lt_of_lt_of_le m.lt k.size,m.hbo,m.hR,m.hQ,m.hSb⟩
theorem mid_of {M:Meaning} {w w1 w2:World} {X:Nat→Prop} {bo t:Nat} {h:OneH} {bd:Nat} {D D2:Dk} {S S2 R:Nat→Prop} {ib:Nat} {V:Con} {last:Int} {od:OpD} {Q:Nat→Prop} {bs:Nat} (o:OneIn M w1 X bo t h bd D S R ib V last) (hX:∀k,X k→k<w.heap.size) (hb:Boxd w1 w.heap.size od) (hop:od.Ok w1 Q) (hQ:∀k,Q k→¬X k∧k<w.heap.size) (hs:w.heap.size<w1.heap.size)
 (haft:AftOne M w1.drew w2 bd bs S S2 D D2) (hbb:X bs∧¬S bs∧¬R bs∧bs≠bo):Mid w.heap.size w2 bo h bd D2 S2 R ib V last od Q:=by
 have kd:Kept (fun k=>S k∨k=bs) w1 w2:=(Kept.drew _ w1).trans haft.kept (fun _ h=>.inl h)
 have hbo:=hX bo o.bX
 refine ⟨o.head.kept kd (fun hc=>hc.elim o.bS (fun e=>hbb.2.2.2 e.symm)),haft.disk,o.ref.kept kd (fun i hi hc=>?_) (fun i hi hc=>?_),hb.kept kd (fun hc=>?_),hop.kept kd (fun i hi hc=>?_),Nat.lt_of_lt_of_le hs kd.size,hbo,fun k hk=>hX k (o.rX k hk).1,fun k hk=>(hQ k hk).2,fun hc=>?_⟩
 ·rcases hc with hc|hc
  ·exact (o.rX i hi).2.1 hc
  ·exact hbb.2.2.1 (by rw [←hc];exact hi)
 ·rcases hc with hc|hc
  ·exact (o.rX i hi).2.1 hc
  ·exact hbb.2.2.1 (by rw [←hc];exact hi)
 ·rcases hc with hc|hc
  ·have:=hX _ (o.sX _ hc);omega
  ·have:=hX _ hbb.1;omega
 ·rcases hc with hc|hc
  ·exact (hQ i hi).1 (o.sX i hc)
  ·exact (hQ i hi).1 (by rw [hc];exact hbb.1)
 ·rcases haft.foot bo hc with h1|h1
  ·exact o.bS h1
  ·have h2:w1.drew.heap.size=w1.heap.size:=rfl
   omega
set_option maxHeartbeats 4000000 in
theorem put_any (M:Meaning) (A:ApiPut M) (w:World) (X:Nat→Prop) (bo t:Nat) (h:OneH) (bd:Nat) (D:Dk) (S R:Nat→Prop) (ib:Nat) (V:Con) (last:Int) (hone:OneIn M w X bo t h bd D S R ib V last) (ht:t≤2199023255552) (bs:Nat) (hbs:h.s=ptr bs)
 (od:OpD) (Q:Nat→Prop) (hop:od.Ok w Q) (hQ:∀k,Q k→¬X k∧k<w.heap.size):
 Calls Tryz.prog 60 #[.pointer (some ⟨bo,0,none⟩),.agg #[.int .i64 od.kind,.int .i64 od.A,.int .i64 od.B,.int .i64 od.C,.string od.S,.string od.P,.slice od.la od.l.length od.lc,.slice od.ka od.ks.length od.kc]] w fun e w'=>Stepped M w w' X bo t e:=by
 have hxlt:=hone.xlt
 have k0:Kept (fun _=>False) w (w.alloc (.cells #[.int .i64 od.kind,.int .i64 od.A,.int .i64 od.B,.int .i64 od.C,.string od.S,.string od.P,.slice od.la od.l.length od.lc,.slice od.ka od.ks.length od.kc] 81)):=Kept.alloc _ _ _
 have hb0:Boxd (w.alloc (.cells #[.int .i64 od.kind,.int .i64 od.A,.int .i64 od.B,.int .i64 od.C,.string od.S,.string od.P,.slice od.la od.l.length od.lc,.slice od.ka od.ks.length od.kc] 81)) w.heap.size od:=⟨heap_alloc_new w _⟩
 have hop0:=hop.kept k0 (fun _ _ hf=>hf)
 have hone0:=hone.kept k0 (fun _ _ hf=>hf)
 have hlen:=hop.len
 have HB0:Hid _:=hb0
 have HOP0:Hid _:=hop0
 have HON0:Hid _:=hone0
 have HON:Hid _:=hone
 have HOP:Hid _:=hop
 have HQ:Hid _:=hQ
 have HBS:Hid _:=hbs
 have HX:Hid _:=hxlt
 have hboX:=hxlt bo hone.bX
 have K0:Hid _:=k0
 clear k0 hb0 hop0 hone0 hone hop hQ hbs hxlt
 go_enter Tryz.func60,Tryz.ntmps60
 go_wp2_with fail
 refine (lent_all _ Q od.la od.lc od.l HOP0.out.l hlen).mono ?_
 rintro e w1 ⟨ba,bc,rfl,hlv,hk1⟩
 have hone1:=HON0.out.kept hk1 (fun _ _ hf=>hf)
 have hb1:=HB0.out.kept hk1 (fun hf=>hf)
 have hc0:=hone1.head.c0
 rw [hone1.hd] at hc0
 unfold ptr at hc0
 have hc1:=hone1.head.c1
 rw [HBS.out] at hc1
 unfold ptr at hc1
 have hq4:=hb1.c4
 have HON1:Hid _:=hone1
 have HB1:Hid _:=hb1
 have hlv':LentV w1 (w.heap.size+1) od.la od.l ba bc:=by simpa using hlv
 have HLV:Hid (LentV w1 (w.heap.size+1) od.la od.l ba bc):=hlv'
 clear hlv'
 have HK1:Hid _:=hk1
 clear hone1 hb1 hlv hk1
 go_wp2_with fail
 obtain ⟨xa,xp,xbc,xpc,hdk⟩:=HON1.out.disk
 refine (reads_any _ bd S D xa xp xbc xpc hdk).mono ?_
 rintro e w9 ⟨rfl,hw9⟩
 rw [hw9]
 clear hw9 w9 hdk
 go_wp2_with fail
 have hs1:w.heap.size<w1.heap.size:=HB1.out.lt
 have HOP1:Hid _:=HOP0.out.kept HK1.out (fun _ _ hf=>hf)
 go_region_held3 (fun w'=>w'.cell? ⟨bo,1,none⟩=some (.pointer (some ⟨bs,0,none⟩))∧w'.cell? ⟨w.heap.size,4,none⟩=some (.string od.S)) (go_keep) ((go_at_call 27;refine (put_one M A _ X bo t h bd D S R ib V last (by exact HON1.out.kept (Kept.drew (fun _=>False) w1) (fun _ _ hf=>hf)) (by omega) bs HBS.out od.S HOP.out.S ba bc od.l (fun k=>w.heap.size+1≤k) (by exact (LentV.bytes HLV.out).kept (Kept.drew (fun _=>False) w1) (fun _ _ hf=>hf)) (fun k hk hc=>by have:=HX.out k hc;omega) (by omega) (LentV.cap HLV.out).1 (LentV.cap HLV.out).2).mono ?_;rintro e w2 ⟨D2,S2,c,n,rfl,haft,hchg,hn,hXb,hSb,hRb,hbob⟩;have HAFT:Hid _:=haft;have HCHG:Hid _:=hchg;have HN:Hid _:=hn;have HBB:Hid _:=(⟨hXb,hSb,hRb,hbob⟩:X bs∧¬S bs∧¬R bs∧bs≠bo);clear haft hchg hn hXb hSb hRb hbob;have HM2:Hid _:=mid_of HON1.out HX.out HB1.out HOP1.out HQ.out hs1 HAFT.out HBB.out;have hc12:=HM2.out.head.c1;rw [HBS.out] at hc12;unfold ptr at hc12;have hq42:=HM2.out.box.c4))
 all_goals
  have hm2:=HM2.out
  have hS2:∀k,S2 k→k<w.heap.size∨w1.heap.size≤k:=fun k hk=>(HAFT.out.foot k hk).imp (fun h=>HX.out k (HON1.out.sX k h)) (fun h=>h)
  have hS2l:∀k,S2 k→k<w2.heap.size:=fun k hk=>HAFT.out.disk.lt k hk
  have hlg:∀g,(Value.slice ba od.l.length bc).ownBlock=some g→w.heap.size<g∧g<w1.heap.size:=fun g hg=>by
   rcases HLV.out with ⟨_,_,h1,_⟩|⟨ad,g',_,h1,h2,h3⟩
   ·rw [h1] at hg;cases hg
   ·rw [h1] at hg
    simp [Value.ownBlock] at hg
    obtain ⟨_,cur,h4,_⟩:=h3
    have:=(Array.getElem?_eq_some_iff.1 h4).1
    omega
  have hlv2:LentV w2 (w.heap.size+1) od.la od.l ba bc:=LentV.kept HLV.out ((Kept.drew _ w1).trans HAFT.out.kept (fun _ h=>.inl h)) (fun g hg hc=>by
   have h1:=hlg g hg
   rcases hc with hc|hc
   ·have:=HX.out g (HON1.out.sX g hc);omega
   ·have:=HX.out _ HBB.out.1;omega)
  have hsz2:w1.heap.size≤w2.heap.size:=HAFT.out.kept.size
  have hc0:=hm2.head.c0
  rw [HON1.out.hd] at hc0
  unfold ptr at hc0
  have hq6:=hm2.box.c6
  have hq4:=hm2.box.c4
  have HS2:Hid _:=hS2
  have HS2L:Hid _:=hS2l
  have HLG:Hid _:=hlg
  have HLV2:Hid (LentV w2 (w.heap.size+1) od.la od.l ba bc):=hlv2
  clear hm2 hS2 hS2l hlg hlv2
  go_wp2_with fail
  obtain ⟨xa2,xp2,xbc2,xpc2,hdk2⟩:=HM2.out.disk
  refine (reads_any _ bd S2 D2 xa2 xp2 xbc2 xpc2 hdk2).mono ?_
  rintro e w9 ⟨rfl,hw9⟩
  rw [hw9]
  clear hw9 w9 hdk2
  go_wp2_with fail
  refine (returned_all _ Q (w.heap.size+1) od.la od.lc od.l HM2.out.op.l hlen ba bc HLV2.out (fun k hk=>by have:=(HQ.out k hk).2;omega)).mono ?_
  rintro e w3 ⟨rfl,hk3⟩
  have hm3:=HM2.out.kept hk3 (fun k hk=>by
   have h1:=HLG.out k hk
   exact ⟨h1.1,fun hc=>by have:=HS2.out k hc;omega⟩)
  have hs3:=hk3.size
  have hq6:=hm3.box.c6
  have hq4:=hm3.box.c4
  have hc2:=hm3.head.c2
  rw [HON1.out.his] at hc2
  unfold ptr at hc2
  have HM3:Hid _:=hm3
  have HK3:Hid _:=hk3
  clear hm3 hk3
  go_wp2_with fail
  refine (putError_any _ od.S HOP.out.S od.la od.l.length od.lc).mono ?_
  rintro e w9 ⟨rfl,hw9⟩
  rw [hw9]
  clear hw9 w9
  generalize hwant:putE (keyB od.S.data.toList) od.l.length=want at*
  have HWA:Hid _:=hwant
  clear hwant
  have hfew:=HON.out.good.few
  go_wp2_with fail
  refine (copy_any _ R R ib V.vs last HM3.out.ref (by omega)).mono ?_
  rintro e w4 ⟨rfl,hr4,hk4⟩
  have hm4:=HM3.out.kept hk4 (fun _ hf=>hf.elim)
  have hs4:=hk4.size
  have hq6:=hm4.box.c6
  have hq4:=hm4.box.c4
  have HM4:Hid _:=hm4
  have HR4:Hid (RefAt w4 (fun k=>w3.heap.size≤k) R w3.heap.size V.vs last):=hr4
  have HK4:Hid _:=hk4
  clear hm4 hk4 hr4
  go_wp2_with fail
  refine (add_any _ (fun k=>w3.heap.size≤k) R Q w3.heap.size V.vs last HR4.out (fun k hk hc=>by have:=HM4.out.hR k hc;have hk':w3.heap.size≤k:=hk;omega) (by omega) od.S n false od.la od.lc od.l HM4.out.op.l (by omega)).mono ?_
  rintro e w5 ⟨rfl,hr5,hk5⟩
  have hm5:=HM4.out.kept hk5 (fun k hk=>⟨by have hk':w3.heap.size≤k:=hk;omega,fun hc=>by have:=HS2L.out k hc;have hk':w3.heap.size≤k:=hk;omega⟩)
  have hs5:=hk5.size
  have hq6:=hm5.box.c6
  have hq4:=hm5.box.c4
  have HM5:Hid _:=hm5
  have HR5:Hid (RefAt w5 (fun k=>(w3.heap.size≤k)∨w4.heap.size≤k) (fun k=>R k∨w4.heap.size≤k) w3.heap.size (V.vs++[⟨od.S,n,false,od.l⟩]) (max last n)):=hr5
  have HK5:Hid _:=hk5
  clear hm5 hk5 hr5
  have htold0:=HON.out.told0
  have hdied0:=HON.out.died0
  have htt:=HON.out.tt
  go_wp2_with fail
  refine (numbered_any _ bo h HM5.out.head ib HON.out.his R R V.vs last HM5.out.ref n htold0 (by omega) hdied0 (by omega)).mono ?_
  rintro e w9 ⟨rfl,m9,hw9⟩
  rw [hw9]
  clear hw9 w9
  have hl0:=HON.out.last0
  have hn0t:=HON.out.n0t
  have hrd0:=HAFT.out.reads0
  have hrd1:=HAFT.out.reads1
  have hr00:=HON.out.reads0
  have hr01:=HON.out.reads1
  have hnum:c=0→numB n last h.told h.died=true:=fun hc=>by
   have:=HN.out
   rw [if_pos hc] at this
   unfold numB
   exact decide_eq_true (by omega)
  have hnum2:c≠0→n=0:=fun hc=>by
   have:=HN.out
   rw [if_neg hc] at this
   exact this
  generalize numB n last h.told h.died=nb9 at*
  have hcase:=fun ka kl kc=>HCHG.out.case HAFT.out.size (.pointer (some ⟨w3.heap.size,0,none⟩)) (max last n) od.S 0 false ka kl kc
  have HCASE:Hid _:=hcase
  clear hcase
  have hwl:(weigh od.l.length:Int)≤1125899906842624:=by unfold weigh;omega
  by_cases hc:c=0
  ·have e1:(c !=0)=false:=by simpa using hc
   have e2:=hnum hc
   subst e2
   have HC:Hid _:=hc
   clear hc hnum hnum2
   go_wp2_with fail
   go_region_held3 (fun w'=>w'.cell? ⟨w.heap.size,4,none⟩=some (.string od.S)∧w'.cell? ⟨w.heap.size,6,none⟩=some (.slice od.la od.l.length od.lc)) (go_keep) ((first
    |(go_at_call 98;refine (weight_any _ _ (by omega) (by omega)).mono ?_;rintro e w9 ⟨rfl,rfl⟩)
    |(go_at_call 99;refine (own_any _ Q od.la od.lc od.l (by exact (HM5.out.kept (T:=fun _=>False) ⟨rfl,rfl,rfl,Nat.le_refl _,fun _ _ _=>rfl⟩ (fun _ hf=>hf.elim)).op.l) hlen).mono ?_;rintro e w6 ⟨oa,oc,rfl,hown6,hk6,hnew6⟩;have HK6:Hid (Kept (fun _=>False) w5 w6):=⟨hk6.os,hk6.tape,hk6.output,hk6.size,hk6.block⟩;have HO6:Hid (w6.ownsRow 0 5 1 (.slice oa od.l.length oc) od.l.length (od.l.map byteV)):=hown6;have HN6:Hid (∀k,(Value.slice oa od.l.length oc).ownBlock=some k→w5.heap.size≤k):=hnew6;have HM6:Hid _:=HM5.out.kept HK6.out (fun _ hf=>hf.elim);have hq46:=HM6.out.box.c4;have hq66:=HM6.out.box.c6;have HR6:Hid _:=RefAt.kept HR5.out HK6.out (fun _ _ hf=>hf) (fun _ _ hf=>hf);clear hown6 hk6 hnew6;obtain ⟨h',hh'⟩:=HCASE.out oa od.l.length oc;have HH':Hid _:=hh';clear hh')
    |(go_at_call 97;refine (changed_all _ bo h (by exact (HM6.out.kept (T:=fun _=>False) ⟨rfl,rfl,rfl,Nat.le_refl _,fun _ _ _=>rfl⟩ (fun _ hf=>hf.elim)).head) bd HON.out.hd S2 D2 (by exact (HM6.out.kept (T:=fun _=>False) ⟨rfl,rfl,rfl,Nat.le_refl _,fun _ _ _=>rfl⟩ (fun _ hf=>hf.elim)).disk) ib HON.out.his R R V.vs last (by exact (HM6.out.kept (T:=fun _=>False) ⟨rfl,rfl,rfl,Nat.le_refl _,fun _ _ _=>rfl⟩ (fun _ hf=>hf.elim)).ref) hfew HON.out.good.body c want _ (by omega) (by have:=hwl;omega) w3.heap.size od.S 0 false oa od.l.length oc _ _ _ _ (by exact RefAt.kept (T:=fun _=>False) HR6.out ⟨rfl,rfl,rfl,Nat.le_refl _,fun _ _ _=>rfl⟩ (fun _ _ hf=>hf) (fun _ _ hf=>hf)) (by omega) HM5.out.hSb hdied0 (by omega) h' (by exact HH'.out)).mono ?_;rintro e w7 ⟨rfl,ho7,hd7,hk7⟩;have HO7:Hid _:=ho7;have HD7:Hid _:=hd7;have HK7:Hid (Kept (fun k=>k=bo∨S2 k) w6 w7):=⟨hk7.os,hk7.tape,hk7.output,hk7.size,hk7.block⟩;have hq47:w7.cell? ⟨w.heap.size,4,none⟩=some (.string od.S):=(HM6.out.box.kept HK7.out (fun hc=>hc.elim (fun e=>by omega) (fun hc=>by have:=HS2.out _ hc;omega))).c4;have hq67:w7.cell? ⟨w.heap.size,6,none⟩=some (.slice od.la od.l.length od.lc):=(HM6.out.box.kept HK7.out (fun hc=>hc.elim (fun e=>by omega) (fun hc=>by have:=HS2.out _ hc;omega))).c6;clear ho7 hd7 hk7)))
   go_wp2
   go_ret
   have k26:Kept (fun k=>(Value.slice ba od.l.length bc).ownBlock=some k∨w3.heap.size≤k) w2 w6:=(((HK3.out.mono (fun _ h=>.inl h)).trans HK4.out (fun _ hf=>hf.elim)).trans HK5.out (fun k hk=>.inl (.inr hk))).trans HK6.out (fun _ hf=>hf.elim)
   have hd:=add_done M w w1.drew w2 w6 w7 X bo t h bd D D2 S S2 R ib V last HON.out bs HBS.out ((K0.out.trans HK1.out (fun _ h=>.inl h)).trans (Kept.drew _ w1) (fun _ h=>.inl h)) hs1 HAFT.out HBB.out od.S false od.l want c (fun hw0 he=>by
    have:=HWA.out
    rw [he,keyB_empty,hw0] at this
    simp [putE] at this) (weigh od.l.length) (by unfold weigh;omega) HCHG.out n HN.out _ k26 (fun k hk=>by
    rcases hk with hk|hk
    ·have h1:=HLG.out k hk
     exact ⟨h1.1,fun hc=>by have:=HS2.out k hc;omega⟩
    ·exact ⟨by omega,fun hc=>by have:=HS2L.out k hc;omega⟩) HK7.out w3.heap.size oa oc h' HO7.out HD7.out HH'.out _ _ HR6.out (fun k hk=>by rcases hk with hk|hk<;>omega) (fun k hk=>hk.imp id (fun hk=>by omega)) (Bytes.of_own 5 HO6.out rfl _ (fun k hk=>by have:=HN6.out k hk;omega))
   exact ⟨ret_bool (decide_eq_true (by omega)),hd.1,hd.2⟩
  ·have e1:(c !=0)=true:=by simpa using hc
   have e2:=hnum2 hc
   have e3:(n==0)=true:=by simpa using e2
   have HC:Hid _:=hc
   clear hc hnum hnum2 e2
   go_wp2_with fail
   go_region_held3 (fun w'=>w'.cell? ⟨w.heap.size,4,none⟩=some (.string od.S)∧w'.cell? ⟨w.heap.size,6,none⟩=some (.slice od.la od.l.length od.lc)) (go_keep) ((first
    |(go_at_call 98;refine (weight_any _ _ (by omega) (by omega)).mono ?_;rintro e w9 ⟨rfl,rfl⟩)
    |(go_at_call 99;refine (own_any _ Q od.la od.lc od.l (by exact (HM5.out.kept (T:=fun _=>False) ⟨rfl,rfl,rfl,Nat.le_refl _,fun _ _ _=>rfl⟩ (fun _ hf=>hf.elim)).op.l) hlen).mono ?_;rintro e w6 ⟨oa,oc,rfl,hown6,hk6,hnew6⟩;have HK6:Hid (Kept (fun _=>False) w5 w6):=⟨hk6.os,hk6.tape,hk6.output,hk6.size,hk6.block⟩;have HO6:Hid (w6.ownsRow 0 5 1 (.slice oa od.l.length oc) od.l.length (od.l.map byteV)):=hown6;have HN6:Hid (∀k,(Value.slice oa od.l.length oc).ownBlock=some k→w5.heap.size≤k):=hnew6;have HM6:Hid _:=HM5.out.kept HK6.out (fun _ hf=>hf.elim);have hq46:=HM6.out.box.c4;have hq66:=HM6.out.box.c6;have HR6:Hid _:=RefAt.kept HR5.out HK6.out (fun _ _ hf=>hf) (fun _ _ hf=>hf);clear hown6 hk6 hnew6;obtain ⟨h',hh'⟩:=HCASE.out oa od.l.length oc;have HH':Hid _:=hh';clear hh')
    |(go_at_call 97;refine (changed_all _ bo h (by exact (HM6.out.kept (T:=fun _=>False) ⟨rfl,rfl,rfl,Nat.le_refl _,fun _ _ _=>rfl⟩ (fun _ hf=>hf.elim)).head) bd HON.out.hd S2 D2 (by exact (HM6.out.kept (T:=fun _=>False) ⟨rfl,rfl,rfl,Nat.le_refl _,fun _ _ _=>rfl⟩ (fun _ hf=>hf.elim)).disk) ib HON.out.his R R V.vs last (by exact (HM6.out.kept (T:=fun _=>False) ⟨rfl,rfl,rfl,Nat.le_refl _,fun _ _ _=>rfl⟩ (fun _ hf=>hf.elim)).ref) hfew HON.out.good.body c want _ (by omega) (by have:=hwl;omega) w3.heap.size od.S 0 false oa od.l.length oc _ _ _ _ (by exact RefAt.kept (T:=fun _=>False) HR6.out ⟨rfl,rfl,rfl,Nat.le_refl _,fun _ _ _=>rfl⟩ (fun _ _ hf=>hf) (fun _ _ hf=>hf)) (by omega) HM5.out.hSb hdied0 (by omega) h' (by exact HH'.out)).mono ?_;rintro e w7 ⟨rfl,ho7,hd7,hk7⟩;have HO7:Hid _:=ho7;have HD7:Hid _:=hd7;have HK7:Hid (Kept (fun k=>k=bo∨S2 k) w6 w7):=⟨hk7.os,hk7.tape,hk7.output,hk7.size,hk7.block⟩;have hq47:w7.cell? ⟨w.heap.size,4,none⟩=some (.string od.S):=(HM6.out.box.kept HK7.out (fun hc=>hc.elim (fun e=>by omega) (fun hc=>by have:=HS2.out _ hc;omega))).c4;have hq67:w7.cell? ⟨w.heap.size,6,none⟩=some (.slice od.la od.l.length od.lc):=(HM6.out.box.kept HK7.out (fun hc=>hc.elim (fun e=>by omega) (fun hc=>by have:=HS2.out _ hc;omega))).c6;clear ho7 hd7 hk7)))
   go_wp2
   go_ret
   have k26:Kept (fun k=>(Value.slice ba od.l.length bc).ownBlock=some k∨w3.heap.size≤k) w2 w6:=(((HK3.out.mono (fun _ h=>.inl h)).trans HK4.out (fun _ hf=>hf.elim)).trans HK5.out (fun k hk=>.inl (.inr hk))).trans HK6.out (fun _ hf=>hf.elim)
   have hd:=add_done M w w1.drew w2 w6 w7 X bo t h bd D D2 S S2 R ib V last HON.out bs HBS.out ((K0.out.trans HK1.out (fun _ h=>.inl h)).trans (Kept.drew _ w1) (fun _ h=>.inl h)) hs1 HAFT.out HBB.out od.S false od.l want c (fun hw0 he=>by
    have:=HWA.out
    rw [he,keyB_empty,hw0] at this
    simp [putE] at this) (weigh od.l.length) (by unfold weigh;omega) HCHG.out n HN.out _ k26 (fun k hk=>by
    rcases hk with hk|hk
    ·have h1:=HLG.out k hk
     exact ⟨h1.1,fun hc=>by have:=HS2.out k hc;omega⟩
    ·exact ⟨by omega,fun hc=>by have:=HS2L.out k hc;omega⟩) HK7.out w3.heap.size oa oc h' HO7.out HD7.out HH'.out _ _ HR6.out (fun k hk=>by rcases hk with hk|hk<;>omega) (fun k hk=>hk.imp id (fun hk=>by omega)) (Bytes.of_own 5 HO6.out rfl _ (fun k hk=>by have:=HN6.out k hk;omega))
   exact ⟨ret_bool (decide_eq_true (by omega)),hd.1,hd.2⟩
structure ApiErase (M:Meaning):Prop where
 live:∀(w:World) (bd bs:Nat) (S:Nat→Prop) (D:Dk) (V:Con) (key:ByteArray) (num:Int),Fore M w bd bs S D V→key.size≤maxLen→IntOk num→
  Calls Tryz.prog 31 #[.pointer (some ⟨bs,0,none⟩),.string key,.int .i64 num] w fun e w'=>∃D' S' c q,e=.returned (.int .i64 c)∧Aft M w w' bd bs S S' D D' 40 q∧
   Chg M D D' V (V.sub key num) bd (eraE (keyB key.data.toList) (findV V.vs key num)) c 0 q
 shut:∀(w:World) (bs:Nat) (key:ByteArray) (num:Int),M.Sto w bs none→key.size≤maxLen→
  Calls Tryz.prog 31 #[.pointer (some ⟨bs,0,none⟩),.string key,.int .i64 num] w fun e w'=>e=.returned (.int .i64 (if keyB key.data.toList=true then 8 else 2))∧M.Sto w' bs none∧Kept (fun k=>k=bs) w w'
theorem shutE_era (k:Bool) (o:Option Ver):shutE true (eraE k o)=if k=true then 8 else 2:=by cases k<;>cases o<;>rfl
theorem erase_one (M:Meaning) (A:ApiErase M) (w:World) (X:Nat→Prop) (bo t:Nat) (h:OneH) (bd:Nat) (D:Dk) (S R:Nat→Prop) (ib:Nat) (V:Con) (last:Int) (o:OneIn M w X bo t h bd D S R ib V last) (ht:t≤4398046511104) (bs:Nat) (hbs:h.s=ptr bs)
 (key:ByteArray) (hk:key.size≤maxLen) (num:Int) (hnum:IntOk num):
 Calls Tryz.prog 31 #[.pointer (some ⟨bs,0,none⟩),.string key,.int .i64 num] w fun e w'=>∃D' S' c,e=.returned (.int .i64 c)∧AftOne M w w' bd bs S S' D D'∧
  ChgOne M w' bs bd h D D' V (V.sub key num) (eraE (keyB key.data.toList) (findV V.vs key num)) c 0∧X bs∧¬S bs∧¬R bs∧bs≠bo:=by
 have hn0:=o.n0t
 have htt:=o.tt
 cases o.st with
 |live bs' hs' hX hS hR ho sto shut mb live=>
  have e:bs'=bs:=by rw [hs'] at hbs;unfold ptr at hbs;simpa using hbs
  subst e
  refine (A.live w bd bs' S D V key num ⟨o.disk,hS,sto,live,o.fu,o.reads0,by have:=o.reads1;omega,by omega⟩ hk hnum).mono ?_
  rintro e w' ⟨D',S',c,q,h1,h2,h3⟩
  exact ⟨D',S',c,h1,⟨h2.disk,h2.foot,h2.kept,h2.reads0,h2.reads1,h2.size,h2.fuse⟩,.live q shut h2.sto h3,hX,hS,hR,ho⟩
 |shut bs' hs' hX hS hR ho sto shut torn=>
  have e:bs'=bs:=by rw [hs'] at hbs;unfold ptr at hbs;simpa using hbs
  subst e
  refine (A.shut w bs' key num sto hk).mono ?_
  rintro e w' ⟨h1,h2,h3⟩
  exact ⟨D,S,_,h1,⟨o.disk.kept h3 (fun i hi hc=>hS (by rw [←hc];exact hi)),fun k hk=>.inl hk,h3.mono (fun k hk=>.inr hk),by omega,by omega,rfl,o.fu⟩,.shut shut h2 (shutE_era _ _).symm rfl,hX,hS,hR,ho⟩
 |gone hs' torn=>rw [hs'] at hbs;cases hbs
theorem without_one:∀(vs:List Ver) (k:ByteArray) (n:Int),Apart vs→(∃v∈vs,v.key=k∧v.num=n)→(without vs k n).length+1=vs.length
 |[],k,n,_,⟨v,hv,_⟩=>by cases hv
 |u::vs,k,n,ha,⟨v,hv,h1,h2⟩=>by
  unfold Apart at ha
  rw [List.pairwise_cons] at ha
  unfold without
  rw [List.filter_cons]
  by_cases hu:u.key=k∧u.num=n
  ·have e1:(!(decide (u.key=k)&&decide (u.num=n)))=false:=by simp [hu.1,hu.2]
   rw [e1]
   simp only [Bool.false_eq_true,if_false,List.length_cons,Nat.add_right_cancel_iff]
   rw [List.filter_eq_self.2]
   intro x hx
   have:=ha.1 x hx
   have hne:¬(x.key=k∧x.num=n):=fun hc=>this ⟨hu.1.trans hc.1.symm,hu.2.trans hc.2.symm⟩
   rw [Bool.not_eq_true',Bool.eq_false_iff];simp only [ne_eq,Bool.and_eq_true,decide_eq_true_eq];exact hne
  ·have e1:(!(decide (u.key=k)&&decide (u.num=n)))=true:=by
    rw [Bool.not_eq_true',Bool.eq_false_iff];simp only [ne_eq,Bool.and_eq_true,decide_eq_true_eq];exact hu
   rw [e1,if_pos rfl]
   have hv':v∈vs:=by
    rcases List.mem_cons.1 hv with rfl|hv
    ·exact absurd ⟨h1,h2⟩ hu
    ·exact hv
   have:=without_one vs k n ha.2 ⟨v,hv',h1,h2⟩
   unfold without at this
   simp only [List.length_cons];omega
theorem erase_done (M:Meaning) (w w1 w2 w6 w7:World) (X:Nat→Prop) (bo t:Nat) (h:OneH) (bd:Nat) (D D2:Dk) (S S2 R:Nat→Prop) (ib:Nat) (V:Con) (last:Int) (hone:OneIn M w X bo t h bd D S R ib V last) (bs:Nat) (hbs:h.s=ptr bs)
 (kA:Kept (fun _=>False) w w1) (hs1:w.heap.size<w1.heap.size) (haft:AftOne M w1 w2 bd bs S S2 D D2) (hbb:X bs∧¬S bs∧¬R bs∧bs≠bo) (key:ByteArray) (num:Int) (want c:Int) (hwant:want=0→∃v∈V.vs,v.key=key∧v.num=num)
 (hchg:ChgOne M w2 bs bd h D D2 V (V.sub key num) want c 0) (T:Nat→Prop) (k26:Kept T w2 w6) (hT:∀k,T k→w.heap.size<k∧¬S2 k) (k67:Kept (fun k=>k=bo∨S2 k) w6 w7)
 (nb:Nat) (h':OneH) (ho7:OneHead w7 bo h') (hd7:∃S7,Disk w7 bd S7 D2∧∀k,S7 k→S2 k) (hh':ChCase h D2 V.vs c want 0 (ptr nb) last ByteArray.empty 0 false none 0 0 h')
 (F6 G6:Nat→Prop) (hr6:RefAt w6 F6 G6 nb (without V.vs key num) last) (hF6:∀k,F6 k→w2.heap.size≤k) (hG6:∀k,G6 k→R k∨w2.heap.size≤k):
 (∃X',One M w7 X' bo (t+1)∧∀k,X' k→X k∨w.heap.size≤k)∧Kept X w w7:=by
 have hX:=hone.xlt
 have hbo:=hX bo hone.bX
 have hbsl:=hX bs hbb.1
 have hS2l:∀k,S2 k→k<w2.heap.size:=fun k hk=>haft.disk.lt k hk
 have hS2:∀k,S2 k→S k∨w1.heap.size≤k:=haft.foot
 have hsz2:=haft.kept.size
 have hsz6:=k26.size
 have hsz7:=k67.size
 have hSbo:¬S2 bo:=fun hc=>by
  rcases hS2 bo hc with h1|h1
  ·exact hone.bS h1
  ·omega
 have hSbs:¬S2 bs:=fun hc=>by
  rcases hS2 bs hc with h1|h1
  ·exact hbb.2.1 h1
  ·omega
 have hRlt:∀k,R k→k<w.heap.size:=fun k hk=>hX k (hone.rX k hk).1
 have hRS2:∀k,R k→¬S2 k:=fun k hk hc=>by
  have h1:=hRlt k hk
  rcases hS2 k hc with h2|h2
  ·exact (hone.rX k hk).2.1 h2
  ·omega
 obtain ⟨S7,hdisk7,hS7⟩:=hd7
 have hkX:Kept X w w7:=(((kA.mono (fun _ hf=>hf.elim)).trans haft.kept (fun k hk=>hk.elim (fun h1=>.inl (hone.sX k h1)) (fun h1=>.inl (by rw [h1];exact hbb.1)))).trans k26 (fun k hk=>.inr (by have:=(hT k hk).1;omega))).trans k67 (fun k hk=>by
  rcases hk with rfl|hk
  ·exact .inl hone.bX
  ·rcases hS2 k hk with h1|h1
   ·exact .inl (hone.sX k h1)
   ·exact .inr (by omega))
 refine ⟨⟨fun k=>X k∨(w.heap.size≤k∧k<w7.heap.size),?_,fun k hk=>hk.imp id (fun h=>h.1)⟩,hkX⟩
 have hRT:∀k,R k→¬(S k∨k=bs):=fun k hk hc=>by
  rcases hc with hc|hc
  ·exact (hone.rX k hk).2.1 hc
  ·exact hbb.2.2.1 (by rw [←hc];exact hk)
 have hR26:∀k,R k→¬T k:=fun k hk hc=>by have:=(hT k hc).1;have:=hRlt k hk;omega
 have hR67:∀k,R k→¬(k=bo∨S2 k):=fun k hk hc=>hc.elim (hone.rX k hk).2.2 (hRS2 k hk)
 let R':Nat→Prop:=fun k=>R k∨(w2.heap.size≤k∧k<w6.heap.size)
 have hRR:∀k,R k→k<w7.heap.size→R' k:=fun k hk _=>.inl hk
 have href:RefAt w7 R' R' ib V.vs last:=((((hone.ref.kept kA (fun _ _ hf=>hf) (fun _ _ hf=>hf)).kept haft.kept hRT hRT).kept k26 hR26 hR26).kept k67 hR67 hR67).mono hRR hRR
 have hR'67:∀k,R' k→¬(k=bo∨S2 k):=fun k hk hc=>by
  rcases hk with hk|hk
  ·exact hR67 k hk hc
  ·rcases hc with hc|hc
   ·omega
   ·have:=hS2l k hc;omega
 have hnext:RefAt w7 R' R' nb (without V.vs key num) last:=(hr6.mono (F':=R') (G':=R') (fun k hk hlt=>.inr ⟨hF6 k hk,hlt⟩) (fun k hk hlt=>(hG6 k hk).imp id (fun h=>⟨h,hlt⟩))).kept k67 hR'67 hR'67
 have hrX:∀k,R' k→(X k∨(w.heap.size≤k∧k<w7.heap.size))∧¬S7 k∧k≠bo:=fun k hk=>by
  refine ⟨?_,fun hc=>hR'67 k hk (.inr (hS7 k hc)),fun hc=>hR'67 k hk (.inl hc)⟩
  rcases hk with hk|hk
  ·exact .inl (hone.rX k hk).1
  ·exact .inr ⟨by omega,by omega⟩
 have hR'bs:¬R' bs:=fun hc=>by
  rcases hc with hc|hc
  ·exact hbb.2.2.1 hc
  ·omega
 have hsto:∀q,M.Sto w2 bs q→M.Sto w7 bs q:=fun q hq=>M.sto_kept _ _ _ _ _ (M.sto_kept _ _ _ _ _ hq k26 (fun hc=>by have:=(hT bs hc).1;omega)) k67 (fun hc=>hc.elim hbb.2.2.2 hSbs)
 have hsX:∀k,S7 k→X k∨(w.heap.size≤k∧k<w7.heap.size):=fun k hk=>by
  have h1:=hS7 k hk
  rcases hS2 k h1 with h2|h2
  ·exact .inl (hone.sX k h2)
  ·exact .inr ⟨by omega,by have:=hS2l k h1;omega⟩
 have hxlt:∀k,(X k∨(w.heap.size≤k∧k<w7.heap.size))→k<w7.heap.size:=fun k hk=>by
  rcases hk with hk|hk
  ·have:=hX k hk;omega
  ·exact hk.2
 have hbS:¬S7 bo:=fun hc=>hSbo (hS7 bo hc)
 have hbsS:¬S7 bs:=fun hc=>hSbs (hS7 bs hc)
 have htt:=hone.tt
 have hr0:=hone.reads0
 have hr1:=hone.reads1
 have hrd0:=haft.reads0
 have hrd1:=haft.reads1
 have hl0:=hone.last0
 have hn0t:=hone.n0t
 have htold:=hone.told0
 have hdied:=hone.died0
 have hsize:=haft.size
 have hbig:=hone.big
 have hn00:=hone.good.n0
 have hd0:=hone.hd
 have hi0:=hone.his
 have same:h'=h→OneSt M w7 (fun k=>X k∨(w.heap.size≤k∧k<w7.heap.size)) S7 R' bo bd h D2 V last→One M w7 (fun k=>X k∨(w.heap.size≤k∧k<w7.heap.size)) bo (t+1):=fun e st=>by
  subst e
  exact ⟨h',bd,D2,S7,R',ib,V,last,ho7,hd0,hi0,hdisk7,href,hsX,hrX,.inl hone.bX,hbS,hxlt,hl0,hone.lastv,htold,hdied,hn0t,by omega,by omega,by omega,haft.fuse,hone.good,by omega,st⟩
 cases hchg with
 |shut hs sto hc hD=>
  have e:h'=h:=by
   cases hh' with
   |shut=>rfl
   |want=>rfl
   |space h1=>simp [hs] at h1
   |ok h1=>rw [hs] at h1;cases h1
   |dead h1=>rw [hs] at h1;cases h1
  refine same e ?_
  cases hone.st with
  |live _ _ _ _ _ _ _ shut=>rw [hs] at shut;cases shut
  |gone hs'=>rw [hs'] at hbs;cases hbs
  |shut bs' hs' hX' hS' hR' ho' sto' shut' torn=>
   exact .shut bs hbs (.inl hbb.1) hbsS hR'bs hbb.2.2.2 (hsto _ sto) hs ((((((torn.kept kA (fun _ _ hf=>hf)).kept haft.kept hRT).kept k26 hR26).kept k67 hR67).mono hRR).reads hD)
 |live q hs sto chg=>
  have hst:=hone.st
  have hmb:h.mb=.pointer none:=by
   cases hst with
   |live bs' hs' hX' hS' hR' ho' sto' shut' mb=>exact mb
   |gone hs'=>rw [hs'] at hbs;cases hbs
   |shut bs' hs' hX' hS' hR' ho' sto' shut'=>rw [hs] at shut';cases shut'
  rcases chg.is with ⟨h1,h2,h3,h4⟩|⟨h1,h2,h3,h4⟩|⟨h1,h2,h3,h4,_⟩|⟨h1,h2,h3,h4,h5⟩
  ·subst h3
   have e:h'=h:=by
    cases hh' with
    |shut=>rfl
    |want=>rfl
    |space=>rfl
    |ok _ hw'=>exact absurd hw' h1
    |dead _ hw'=>exact absurd hw' h1
   exact same e (.live bs hbs (.inl hbb.1) hbsS hR'bs hbb.2.2.2 (hsto _ sto) hs hmb h4)
  ·subst h3
   have e:h'={h with is:=ptr nb}:=by
    cases hh' with
    |shut hs2=>rw [hs] at hs2;cases hs2
    |want _ hw'=>exact absurd h1 hw'
    |space _ _ hc'=>omega
    |ok=>unfold OneH.okd;rw [if_neg (by omega)]
    |dead _ _ hc'=>omega
   have hgood:=h4.good
   have hmem:∀v,v∈(V.sub key num).vs→v∈V.vs:=fun v hv=>(List.mem_filter.1 hv).1
   subst e
   exact ⟨_,bd,D2,S7,R',nb,V.sub key num,last,ho7,hd0,rfl,hdisk7,hnext,hsX,hrX,.inl hone.bX,hbS,hxlt,hl0,fun v hv=>hone.lastv v (hmem v hv),htold,hdied,hn0t,Int.le_trans htt (by omega),by omega,by omega,haft.fuse,hgood,by omega,.live bs hbs (.inl hbb.1) hbsS hR'bs hbb.2.2.2 (hsto _ sto) hs hmb h4⟩
  ·subst h3
   have e:h'=h:=by
    cases hh' with
    |shut=>rfl
    |want=>rfl
    |space=>rfl
    |ok _ _ hc'=>omega
    |dead _ _ hc'=>omega
   exact same e (.live bs hbs (.inl hbb.1) hbsS hR'bs hbb.2.2.2 (hsto _ sto) hs hmb h4)
  ·subst h3
   have e:h'={h with shut:=true,mb:=ptr nb,k0:=.string ByteArray.empty,k1:=.int .i64 0,k2:=.bool false,k3:=.slice none 0 0,died:=h.died+1}:=by
    cases hh' with
    |shut hs2=>rw [hs] at hs2;cases hs2
    |want _ hw'=>exact absurd h1 hw'
    |space _ _ hc'=>omega
    |ok _ _ hc'=>omega
    |dead=>rfl
   subst e
   refine ⟨_,bd,D2,S7,R',ib,V,last,ho7,hd0,hi0,hdisk7,href,hsX,hrX,.inl hone.bX,hbS,hxlt,hl0,hone.lastv,htold,?_,?_,?_,by omega,by omega,haft.fuse,hone.good,by omega,
    .shut bs hbs (.inl hbb.1) hbsS hR'bs hbb.2.2.2 (hsto _ sto) rfl (.erase nb (without V.vs key num) 0 false none 0 0 rfl rfl rfl rfl rfl hnext (without_one V.vs key num hone.good.apart (hwant h1)) (fun v hv=>(List.mem_filter.1 hv).1) h5)⟩
   ·show 0≤h.died+1;omega
   ·show V.n0≤h.told+(h.died+1);omega
   ·show h.told+(h.died+1)≤((t+1:Nat):Int);omega
set_option maxHeartbeats 4000000 in
theorem erased_any (M:Meaning) (A:ApiErase M) (w:World) (X:Nat→Prop) (bo t:Nat) (h:OneH) (bd:Nat) (D:Dk) (S R:Nat→Prop) (ib:Nat) (V:Con) (last:Int) (hone:OneIn M w X bo t h bd D S R ib V last) (ht:t≤2199023255552) (bs:Nat) (hbs:h.s=ptr bs)
 (od:OpD) (Q:Nat→Prop) (hop:od.Ok w Q) (hQ:∀k,Q k→¬X k∧k<w.heap.size):
 Calls Tryz.prog 62 #[.pointer (some ⟨bo,0,none⟩),.agg #[.int .i64 od.kind,.int .i64 od.A,.int .i64 od.B,.int .i64 od.C,.string od.S,.string od.P,.slice od.la od.l.length od.lc,.slice od.ka od.ks.length od.kc]] w fun e w'=>Stepped M w w' X bo t e:=by
 have hxlt:=hone.xlt
 have k0:Kept (fun _=>False) w (w.alloc (.cells #[.int .i64 od.kind,.int .i64 od.A,.int .i64 od.B,.int .i64 od.C,.string od.S,.string od.P,.slice od.la od.l.length od.lc,.slice od.ka od.ks.length od.kc] 81)):=Kept.alloc _ _ _
 have hb0:Boxd (w.alloc (.cells #[.int .i64 od.kind,.int .i64 od.A,.int .i64 od.B,.int .i64 od.C,.string od.S,.string od.P,.slice od.la od.l.length od.lc,.slice od.ka od.ks.length od.kc] 81)) w.heap.size od:=⟨heap_alloc_new w _⟩
 have hop0:=hop.kept k0 (fun _ _ hf=>hf)
 have hone0:=hone.kept k0 (fun _ _ hf=>hf)
 have hs1:w.heap.size<(w.alloc (.cells #[.int .i64 od.kind,.int .i64 od.A,.int .i64 od.B,.int .i64 od.C,.string od.S,.string od.P,.slice od.la od.l.length od.lc,.slice od.ka od.ks.length od.kc] 81)).heap.size:=by simp
 have hc0:=hone0.head.c0
 rw [hone0.hd] at hc0
 unfold ptr at hc0
 have hc1:=hone0.head.c1
 rw [hbs] at hc1
 unfold ptr at hc1
 have hq4:=hb0.c4
 have hq2:=hb0.c2
 have HB0:Hid _:=hb0
 have HOP0:Hid _:=hop0
 have HON0:Hid _:=hone0
 have HON:Hid _:=hone
 have HOP:Hid _:=hop
 have HQ:Hid _:=hQ
 have HBS:Hid _:=hbs
 have HX:Hid _:=hxlt
 have hboX:=hxlt bo hone.bX
 have K0:Hid _:=k0
 have HS1:Hid _:=hs1
 have hfew:=hone.good.few
 have hr00:=hone.reads0
 have hr01:=hone.reads1
 clear k0 hb0 hop0 hone0 hone hop hQ hbs hxlt hs1
 generalize hW0:w.alloc (.cells #[.int .i64 od.kind,.int .i64 od.A,.int .i64 od.B,.int .i64 od.C,.string od.S,.string od.P,.slice od.la od.l.length od.lc,.slice od.ka od.ks.length od.kc] 81)=w0 at*
 have HW0:Hid _:=hW0
 go_enter Tryz.func62,Tryz.ntmps62
 go_wp2_with fail
 obtain ⟨xa,xp,xbc,xpc,hdk⟩:=HON0.out.disk
 refine (reads_any _ bd S D xa xp xbc xpc hdk).mono ?_
 rintro e w9 ⟨rfl,hw9⟩
 rw [hw9]
 clear hw9 w9 hdk
 go_wp2_with fail
 go_region_held3 (fun w'=>w'.cell? ⟨bo,1,none⟩=some (.pointer (some ⟨bs,0,none⟩))∧w'.cell? ⟨w.heap.size,4,none⟩=some (.string od.S)∧w'.cell? ⟨w.heap.size,2,none⟩=some (.int .i64 od.B)) (go_keep) ((go_at_call 31;refine (erase_one M A _ X bo t h bd D S R ib V last (by exact HON0.out.kept (Kept.drew (fun _=>False) w0) (fun _ _ hf=>hf)) (by omega) bs HBS.out od.S HOP.out.S od.B HOP.out.B).mono ?_;rintro e w2 ⟨D2,S2,c,rfl,haft,hchg,hXb,hSb,hRb,hbob⟩;have HAFT:Hid (AftOne M w0.drew w2 bd bs S S2 D D2):=haft;have HCHG:Hid _:=hchg;have HBB:Hid _:=(⟨hXb,hSb,hRb,hbob⟩:X bs∧¬S bs∧¬R bs∧bs≠bo);clear haft hchg hXb hSb hRb hbob;have HM2:Hid _:=mid_of HON0.out HX.out HB0.out HOP0.out HQ.out HS1.out HAFT.out HBB.out;have hc12:=HM2.out.head.c1;rw [HBS.out] at hc12;unfold ptr at hc12;have hq42:=HM2.out.box.c4;have hq22:=HM2.out.box.c2))
 have hc0:=HM2.out.head.c0
 rw [HON.out.hd] at hc0
 unfold ptr at hc0
 have hc2:=HM2.out.head.c2
 rw [HON.out.his] at hc2
 unfold ptr at hc2
 have hS2:∀k,S2 k→k<w.heap.size∨w0.heap.size≤k:=fun k hk=>(HAFT.out.foot k hk).imp (fun h=>HX.out k (HON0.out.sX k h)) (fun h=>h)
 have hS2l:∀k,S2 k→k<w2.heap.size:=fun k hk=>HAFT.out.disk.lt k hk
 have HS2:Hid _:=hS2
 have HS2L:Hid _:=hS2l
 have hsz2:w0.heap.size≤w2.heap.size:=HAFT.out.kept.size
 have hs1:=HS1.out
 clear hS2 hS2l
 go_wp2_with fail
 obtain ⟨xa2,xp2,xbc2,xpc2,hdk2⟩:=HM2.out.disk
 refine (reads_any _ bd S2 D2 xa2 xp2 xbc2 xpc2 hdk2).mono ?_
 rintro e w9 ⟨rfl,hw9⟩
 rw [hw9]
 clear hw9 w9 hdk2
 go_wp2_with fail
 go_region_held3 (fun w'=>w'.cell? ⟨bo,2,none⟩=some (.pointer (some ⟨ib,0,none⟩))∧w'.cell? ⟨w.heap.size,4,none⟩=some (.string od.S)∧w'.cell? ⟨w.heap.size,2,none⟩=some (.int .i64 od.B)) (go_keep) ((go_at_call 101;refine (eraseError_any _ R R ib V.vs last (by exact (HM2.out.kept (Kept.drew (fun _=>False) w2) (fun _ hf=>hf.elim)).ref) (by omega) od.S HOP.out.S od.B).mono ?_;rintro e w9 ⟨rfl,hw9⟩;subst hw9))
 generalize hwant:eraE (keyB od.S.data.toList) (findV V.vs od.S od.B)=want at*
 have HWA:Hid _:=hwant
 clear hwant
 have hk3:Kept (fun _=>False) w2 w2.drew:=⟨rfl,rfl,rfl,Nat.le_refl _,fun _ _ _=>rfl⟩
 have HK3:Hid _:=hk3
 have HM3:Hid _:=HM2.out.kept hk3 (fun _ hf=>hf.elim)
 have hs3:w2.heap.size=w2.drew.heap.size:=rfl
 clear hk3
 generalize w2.drew=w3 at*
 have hc2:=HM3.out.head.c2
 rw [HON.out.his] at hc2
 unfold ptr at hc2
 have hq43:=HM3.out.box.c4
 have hq23:=HM3.out.box.c2
 go_wp2_with fail
 refine (copy_any _ R R ib V.vs last HM3.out.ref (by omega)).mono ?_
 rintro e w4 ⟨rfl,hr4,hk4⟩
 have hm4:=HM3.out.kept hk4 (fun _ hf=>hf.elim)
 have hs4:=hk4.size
 have hq44:=hm4.box.c4
 have hq24:=hm4.box.c2
 have HM4:Hid _:=hm4
 have HR4:Hid (RefAt w4 (fun k=>w3.heap.size≤k) R w3.heap.size V.vs last):=hr4
 have HK4:Hid _:=hk4
 clear hm4 hk4 hr4
 go_wp2_with fail
 have hr4':RefAt w4 (fun k=>w3.heap.size≤k∧k<w4.heap.size) R w3.heap.size V.vs last:=RefAt.mono HR4.out (fun i hi hl=>⟨hi,hl⟩) (fun i hi _=>hi)
 refine (remove_any _ (fun k=>w3.heap.size≤k∧k<w4.heap.size) R w3.heap.size V.vs last hr4' (fun k hk hc=>by have:=HM4.out.hR k hc;have hk':w3.heap.size≤k:=hk.1;omega) (fun k hk=>hk.2) (fun k hk=>by have:=HM4.out.hR k hk;have:=HM4.out.lt;omega) (by omega) od.S od.B).mono ?_
 rintro e w5 ⟨rfl,hr5,hk5⟩
 have hm5:=HM4.out.kept hk5 (fun k hk=>⟨by have hk':w3.heap.size≤k:=hk.1;omega,fun hc=>by have:=HS2L.out k hc;have hk':w3.heap.size≤k:=hk.1;omega⟩)
 have hs5:=hk5.size
 have hq45:=hm5.box.c4
 have HM5:Hid _:=hm5
 have HR5:Hid (RefAt w5 (fun k=>(w3.heap.size≤k∧k<w4.heap.size)∨w4.heap.size≤k) R w3.heap.size (without V.vs od.S od.B) last):=hr5
 have HK5:Hid _:=hk5
 clear hm5 hk5 hr5
 have hdied0:=HON.out.died0
 have htold0:=HON.out.told0
 have htt:=HON.out.tt
 have hrd0:=HAFT.out.reads0
 have hrd1:=HAFT.out.reads1
 obtain ⟨h',hh'⟩:=HCHG.out.case HAFT.out.size (.pointer (some ⟨w3.heap.size,0,none⟩)) last ByteArray.empty 0 false none 0 0
 have HH':Hid _:=hh'
 clear hh' hr4'
 go_wp2_with fail
 refine (changed_all _ bo h HM5.out.head bd HON.out.hd S2 D2 HM5.out.disk ib HON.out.his R R V.vs last HM5.out.ref hfew HON.out.good.body c want 0 (by omega) (by omega) w3.heap.size ByteArray.empty 0 false none 0 0 _ _ _ _ HR5.out (by omega) HM5.out.hSb hdied0 (by omega) h' HH'.out).mono ?_
 rintro e w7 ⟨rfl,ho7,hd7,hk7⟩
 have HO7:Hid _:=ho7
 have HD7:Hid _:=hd7
 have HK7:Hid _:=hk7
 clear ho7 hd7 hk7
 go_wp2
 go_ret
 have k26:Kept (fun k=>w3.heap.size≤k) w2 w5:=(((HK3.out.mono (fun _ hf=>hf.elim)).trans HK4.out (fun _ hf=>hf.elim))).trans HK5.out (fun k hk=>.inl hk.1)
 have hd:=erase_done M w w0.drew w2 w5 w7 X bo t h bd D D2 S S2 R ib V last HON.out bs HBS.out (K0.out.trans (Kept.drew _ w0) (fun _ h=>.inl h)) HS1.out HAFT.out HBB.out od.S od.B want c (fun hw0=>by
  have h1:=HWA.out
  rw [hw0] at h1
  cases hkb:keyB od.S.data.toList
  ·rw [hkb] at h1;simp [eraE] at h1
  ·rw [hkb] at h1
   cases hfv:findV V.vs od.S od.B with
   |none=>rw [hfv] at h1;simp [eraE] at h1
   |some v=>obtain ⟨g1,g2,g3⟩:=find_some hfv;exact ⟨v,g3,g1,g2⟩) HCHG.out _ k26 (fun k hk=>⟨by omega,fun hc=>by have:=HS2L.out k hc;omega⟩) HK7.out w3.heap.size h' HO7.out HD7.out HH'.out _ _ HR5.out (fun k hk=>by rcases hk with hk|hk<;>omega) (fun k hk=>.inl hk)
 exact ⟨ret_bool (decide_eq_true (by omega)),hd.1,hd.2⟩
structure ApiDel (M:Meaning):Prop where
 live:∀(w:World) (bd bs:Nat) (S:Nat→Prop) (D:Dk) (V:Con) (key:ByteArray),Fore M w bd bs S D V→key.size≤maxLen→
  Calls Tryz.prog 30 #[.pointer (some ⟨bs,0,none⟩),.string key] w fun e w'=>∃D' S' c n q,e=.returned (.tuple #[.int .i64 n,.int .i64 c])∧Aft M w w' bd bs S S' D D' 40 q∧
   Chg M D D' V (V.add key true []) bd (delE (keyB key.data.toList) (bareB V.vs key)) c 1 q∧n=if c=0 then V.n0+1 else 0
 shut:∀(w:World) (bs:Nat) (key:ByteArray),M.Sto w bs none→key.size≤maxLen→
  Calls Tryz.prog 30 #[.pointer (some ⟨bs,0,none⟩),.string key] w fun e w'=>e=.returned (.tuple #[.int .i64 0,.int .i64 (if keyB key.data.toList=true then 8 else 2)])∧M.Sto w' bs none∧Kept (fun k=>k=bs) w w'
theorem shutE_del (k b:Bool):shutE true (delE k b)=if k=true then 8 else 2:=by cases k<;>cases b<;>rfl
theorem delete_one (M:Meaning) (A:ApiDel M) (w:World) (X:Nat→Prop) (bo t:Nat) (h:OneH) (bd:Nat) (D:Dk) (S R:Nat→Prop) (ib:Nat) (V:Con) (last:Int) (o:OneIn M w X bo t h bd D S R ib V last) (ht:t≤4398046511104) (bs:Nat) (hbs:h.s=ptr bs)
 (key:ByteArray) (hk:key.size≤maxLen):
 Calls Tryz.prog 30 #[.pointer (some ⟨bs,0,none⟩),.string key] w fun e w'=>∃D' S' c n,e=.returned (.tuple #[.int .i64 n,.int .i64 c])∧AftOne M w w' bd bs S S' D D'∧
  ChgOne M w' bs bd h D D' V (V.add key true []) (delE (keyB key.data.toList) (bareB V.vs key)) c 1∧n=(if c=0 then V.n0+1 else 0)∧X bs∧¬S bs∧¬R bs∧bs≠bo:=by
 have hn0:=o.n0t
 have htt:=o.tt
 cases o.st with
 |live bs' hs' hX hS hR ho sto shut mb live=>
  have e:bs'=bs:=by rw [hs'] at hbs;unfold ptr at hbs;simpa using hbs
  subst e
  refine (A.live w bd bs' S D V key ⟨o.disk,hS,sto,live,o.fu,o.reads0,by have:=o.reads1;omega,by omega⟩ hk).mono ?_
  rintro e w' ⟨D',S',c,n,q,h1,h2,h3,h4⟩
  exact ⟨D',S',c,n,h1,⟨h2.disk,h2.foot,h2.kept,h2.reads0,h2.reads1,h2.size,h2.fuse⟩,.live q shut h2.sto h3,h4,hX,hS,hR,ho⟩
 |shut bs' hs' hX hS hR ho sto shut torn=>
  have e:bs'=bs:=by rw [hs'] at hbs;unfold ptr at hbs;simpa using hbs
  subst e
  refine (A.shut w bs' key sto hk).mono ?_
  rintro e w' ⟨h1,h2,h3⟩
  refine ⟨D,S,_,0,h1,⟨o.disk.kept h3 (fun i hi hc=>hS (by rw [←hc];exact hi)),fun k hk=>.inl hk,h3.mono (fun k hk=>.inr hk),by omega,by omega,rfl,o.fu⟩,.shut shut h2 (shutE_del _ _).symm rfl,?_,hX,hS,hR,ho⟩
  rw [if_neg]
  split<;>omega
 |gone hs' torn=>rw [hs'] at hbs;cases hbs
set_option maxHeartbeats 4000000 in
theorem deleted_any (M:Meaning) (A:ApiDel M) (w:World) (X:Nat→Prop) (bo t:Nat) (h:OneH) (bd:Nat) (D:Dk) (S R:Nat→Prop) (ib:Nat) (V:Con) (last:Int) (hone:OneIn M w X bo t h bd D S R ib V last) (ht:t≤2199023255552) (bs:Nat) (hbs:h.s=ptr bs)
 (od:OpD) (Q:Nat→Prop) (hop:od.Ok w Q) (hQ:∀k,Q k→¬X k∧k<w.heap.size):
 Calls Tryz.prog 61 #[.pointer (some ⟨bo,0,none⟩),.agg #[.int .i64 od.kind,.int .i64 od.A,.int .i64 od.B,.int .i64 od.C,.string od.S,.string od.P,.slice od.la od.l.length od.lc,.slice od.ka od.ks.length od.kc]] w fun e w'=>Stepped M w w' X bo t e:=by
 have hxlt:=hone.xlt
 have k0:Kept (fun _=>False) w (w.alloc (.cells #[.int .i64 od.kind,.int .i64 od.A,.int .i64 od.B,.int .i64 od.C,.string od.S,.string od.P,.slice od.la od.l.length od.lc,.slice od.ka od.ks.length od.kc] 81)):=Kept.alloc _ _ _
 have hb0:Boxd (w.alloc (.cells #[.int .i64 od.kind,.int .i64 od.A,.int .i64 od.B,.int .i64 od.C,.string od.S,.string od.P,.slice od.la od.l.length od.lc,.slice od.ka od.ks.length od.kc] 81)) w.heap.size od:=⟨heap_alloc_new w _⟩
 have hop0:=hop.kept k0 (fun _ _ hf=>hf)
 have hone0:=hone.kept k0 (fun _ _ hf=>hf)
 have hs1:w.heap.size<(w.alloc (.cells #[.int .i64 od.kind,.int .i64 od.A,.int .i64 od.B,.int .i64 od.C,.string od.S,.string od.P,.slice od.la od.l.length od.lc,.slice od.ka od.ks.length od.kc] 81)).heap.size:=by simp
 have hc0:=hone0.head.c0
 rw [hone0.hd] at hc0
 unfold ptr at hc0
 have hc1:=hone0.head.c1
 rw [hbs] at hc1
 unfold ptr at hc1
 have hq4:=hb0.c4
 have HB0:Hid _:=hb0
 have HOP0:Hid _:=hop0
 have HON0:Hid _:=hone0
 have HON:Hid _:=hone
 have HOP:Hid _:=hop
 have HQ:Hid _:=hQ
 have HBS:Hid _:=hbs
 have HX:Hid _:=hxlt
 have hboX:=hxlt bo hone.bX
 have K0:Hid _:=k0
 have HS1:Hid _:=hs1
 have hfew:=hone.good.few
 have hr00:=hone.reads0
 have hr01:=hone.reads1
 clear k0 hb0 hop0 hone0 hone hop hQ hbs hxlt hs1
 generalize hW0:w.alloc (.cells #[.int .i64 od.kind,.int .i64 od.A,.int .i64 od.B,.int .i64 od.C,.string od.S,.string od.P,.slice od.la od.l.length od.lc,.slice od.ka od.ks.length od.kc] 81)=w0 at*
 have HW0:Hid _:=hW0
 go_enter Tryz.func61,Tryz.ntmps61
 go_wp2_with fail
 obtain ⟨xa,xp,xbc,xpc,hdk⟩:=HON0.out.disk
 refine (reads_any _ bd S D xa xp xbc xpc hdk).mono ?_
 rintro e w9 ⟨rfl,hw9⟩
 rw [hw9]
 clear hw9 w9 hdk
 go_wp2_with fail
 go_region_held3 (fun w'=>w'.cell? ⟨bo,1,none⟩=some (.pointer (some ⟨bs,0,none⟩))∧w'.cell? ⟨w.heap.size,4,none⟩=some (.string od.S)) (go_keep) ((go_at_call 30;refine (delete_one M A _ X bo t h bd D S R ib V last (by exact HON0.out.kept (Kept.drew (fun _=>False) w0) (fun _ _ hf=>hf)) (by omega) bs HBS.out od.S HOP.out.S).mono ?_;rintro e w2 ⟨D2,S2,c,n,rfl,haft,hchg,hn,hXb,hSb,hRb,hbob⟩;have HAFT:Hid (AftOne M w0.drew w2 bd bs S S2 D D2):=haft;have HCHG:Hid _:=hchg;have HN:Hid _:=hn;have HBB:Hid _:=(⟨hXb,hSb,hRb,hbob⟩:X bs∧¬S bs∧¬R bs∧bs≠bo);clear haft hchg hn hXb hSb hRb hbob;have HM2:Hid _:=mid_of HON0.out HX.out HB0.out HOP0.out HQ.out HS1.out HAFT.out HBB.out;have hc12:=HM2.out.head.c1;rw [HBS.out] at hc12;unfold ptr at hc12;have hq42:=HM2.out.box.c4))
 have hc0:=HM2.out.head.c0
 rw [HON.out.hd] at hc0
 unfold ptr at hc0
 have hc2:=HM2.out.head.c2
 rw [HON.out.his] at hc2
 unfold ptr at hc2
 have hS2:∀k,S2 k→k<w.heap.size∨w0.heap.size≤k:=fun k hk=>(HAFT.out.foot k hk).imp (fun h=>HX.out k (HON0.out.sX k h)) (fun h=>h)
 have hS2l:∀k,S2 k→k<w2.heap.size:=fun k hk=>HAFT.out.disk.lt k hk
 have HS2:Hid _:=hS2
 have HS2L:Hid _:=hS2l
 have hsz2:w0.heap.size≤w2.heap.size:=HAFT.out.kept.size
 have hs1:=HS1.out
 clear hS2 hS2l
 go_wp2_with fail
 obtain ⟨xa2,xp2,xbc2,xpc2,hdk2⟩:=HM2.out.disk
 refine (reads_any _ bd S2 D2 xa2 xp2 xbc2 xpc2 hdk2).mono ?_
 rintro e w9 ⟨rfl,hw9⟩
 rw [hw9]
 clear hw9 w9 hdk2
 go_wp2_with fail
 go_region_held3 (fun w'=>w'.cell? ⟨bo,2,none⟩=some (.pointer (some ⟨ib,0,none⟩))∧w'.cell? ⟨w.heap.size,4,none⟩=some (.string od.S)) (go_keep) ((go_at_call 100;refine (deleteError_any _ R R ib V.vs last (by exact (HM2.out.kept (Kept.drew (fun _=>False) w2) (fun _ hf=>hf.elim)).ref) (by omega) od.S HOP.out.S).mono ?_;rintro e w9 ⟨rfl,m9,rfl⟩))
 generalize hwant:delE (keyB od.S.data.toList) (bareB V.vs od.S)=want at*
 have HWA:Hid _:=hwant
 clear hwant
 have hk3:Kept (fun _=>False) w2 (w2.drewN (1+m9)):=⟨rfl,rfl,rfl,Nat.le_refl _,fun _ _ _=>rfl⟩
 have HK3:Hid _:=hk3
 have HM3:Hid _:=HM2.out.kept hk3 (fun _ hf=>hf.elim)
 have hs3:w2.heap.size=(w2.drewN (1+m9)).heap.size:=rfl
 clear hk3
 generalize w2.drewN (1+m9)=w3 at*
 have hc2:=HM3.out.head.c2
 rw [HON.out.his] at hc2
 unfold ptr at hc2
 have hq43:=HM3.out.box.c4
 go_wp2_with fail
 refine (copy_any _ R R ib V.vs last HM3.out.ref (by omega)).mono ?_
 rintro e w4 ⟨rfl,hr4,hk4⟩
 have hm4:=HM3.out.kept hk4 (fun _ hf=>hf.elim)
 have hs4:=hk4.size
 have hq44:=hm4.box.c4
 have HM4:Hid _:=hm4
 have HR4:Hid (RefAt w4 (fun k=>w3.heap.size≤k) R w3.heap.size V.vs last):=hr4
 have HK4:Hid _:=hk4
 clear hm4 hk4 hr4
 go_wp2_with fail
 refine (add_any _ (fun k=>w3.heap.size≤k) R Q w3.heap.size V.vs last HR4.out (fun k hk hc=>by have:=HM4.out.hR k hc;have hk':w3.heap.size≤k:=hk;omega) (by omega) od.S n true none 0 [] (.inl rfl) (by simp)).mono ?_
 rintro e w5 ⟨rfl,hr5,hk5⟩
 have hm5:=HM4.out.kept hk5 (fun k hk=>⟨by have hk':w3.heap.size≤k:=hk;omega,fun hc=>by have:=HS2L.out k hc;have hk':w3.heap.size≤k:=hk;omega⟩)
 have hs5:=hk5.size
 have hq45:=hm5.box.c4
 have HM5:Hid _:=hm5
 have HR5:Hid (RefAt w5 (fun k=>(w3.heap.size≤k)∨w4.heap.size≤k) (fun k=>R k∨w4.heap.size≤k) w3.heap.size (V.vs++[⟨od.S,n,true,[]⟩]) (max last n)):=hr5
 have HK5:Hid _:=hk5
 clear hm5 hk5 hr5
 have htold0:=HON.out.told0
 have hdied0:=HON.out.died0
 have htt:=HON.out.tt
 go_wp2_with fail
 refine (numbered_any _ bo h HM5.out.head ib HON.out.his R R V.vs last HM5.out.ref n htold0 (by omega) hdied0 (by omega)).mono ?_
 rintro e w9 ⟨rfl,m10,hw9⟩
 rw [hw9]
 clear hw9 w9
 have hl0:=HON.out.last0
 have hn0t:=HON.out.n0t
 have hrd0:=HAFT.out.reads0
 have hrd1:=HAFT.out.reads1
 have hnum:c=0→numB n last h.told h.died=true:=fun hc=>by
  have:=HN.out
  rw [if_pos hc] at this
  unfold numB
  exact decide_eq_true (by omega)
 have hnum2:c≠0→n=0:=fun hc=>by
  have:=HN.out
  rw [if_neg hc] at this
  exact this
 generalize numB n last h.told h.died=nb9 at*
 obtain ⟨h',hh'⟩:=HCHG.out.case HAFT.out.size (.pointer (some ⟨w3.heap.size,0,none⟩)) (max last n) od.S 0 true none 0 0
 have HH':Hid _:=hh'
 clear hh'
 by_cases hc:c=0
 ·have e1:(c !=0)=false:=by simpa using hc
  have e2:=hnum hc
  subst e2
  have HC:Hid _:=hc
  clear hc hnum hnum2
  go_wp2_with fail
  go_region_held3 (fun w'=>w'.cell? ⟨w.heap.size,4,none⟩=some (.string od.S)) (go_keep) ((first
   |(go_at_call 98;refine (weight_any _ _ (by omega) (by omega)).mono ?_;rintro e w9 ⟨rfl,rfl⟩)
   |(go_at_call 97;refine (changed_all _ bo h (by exact (Mid.kept (wy:=w5.drewN (m10+1)) HM5.out (T:=fun _=>False) ⟨rfl,rfl,rfl,Nat.le_refl _,fun _ _ _=>rfl⟩ (fun _ hf=>hf.elim)).head) bd HON.out.hd S2 D2 (by exact (Mid.kept (wy:=w5.drewN (m10+1)) HM5.out (T:=fun _=>False) ⟨rfl,rfl,rfl,Nat.le_refl _,fun _ _ _=>rfl⟩ (fun _ hf=>hf.elim)).disk) ib HON.out.his R R V.vs last (by exact (Mid.kept (wy:=w5.drewN (m10+1)) HM5.out (T:=fun _=>False) ⟨rfl,rfl,rfl,Nat.le_refl _,fun _ _ _=>rfl⟩ (fun _ hf=>hf.elim)).ref) hfew HON.out.good.body c want _ (by omega) (by decide) w3.heap.size od.S 0 true none 0 0 _ _ _ _ (by exact RefAt.kept (T:=fun _=>False) HR5.out ⟨rfl,rfl,rfl,Nat.le_refl _,fun _ _ _=>rfl⟩ (fun _ _ hf=>hf) (fun _ _ hf=>hf)) (by omega) HM5.out.hSb hdied0 (by omega) h' (by exact HH'.out)).mono ?_;rintro e w7 ⟨rfl,ho7,hd7,hk7⟩;have HO7:Hid _:=ho7;have HD7:Hid _:=hd7;have HK7:Hid (Kept (fun k=>k=bo∨S2 k) w5 w7):=⟨hk7.os,hk7.tape,hk7.output,hk7.size,hk7.block⟩;have hq47:w7.cell? ⟨w.heap.size,4,none⟩=some (.string od.S):=(HM5.out.box.kept HK7.out (fun hc=>hc.elim (fun e=>by omega) (fun hc=>by have:=HS2.out _ hc;omega))).c4;clear ho7 hd7 hk7)))
  go_wp2
  go_ret
  have k26:Kept (fun k=>w3.heap.size≤k) w2 w5:=(((HK3.out.mono (fun _ hf=>hf.elim)).trans HK4.out (fun _ hf=>hf.elim))).trans HK5.out (fun k hk=>.inl hk)
  have hd:=add_done M w w0.drew w2 w5 w7 X bo t h bd D D2 S S2 R ib V last HON.out bs HBS.out (K0.out.trans (Kept.drew _ w0) (fun _ h=>.inl h)) HS1.out HAFT.out HBB.out od.S true [] want c (fun hw0 he=>by
   have:=HWA.out
   rw [he,keyB_empty,hw0] at this
   simp [delE] at this) 1 (by omega) HCHG.out n HN.out _ k26 (fun k hk=>⟨by omega,fun hc=>by have:=HS2L.out k hc;omega⟩) HK7.out w3.heap.size none 0 h' HO7.out HD7.out HH'.out _ _ HR5.out (fun k hk=>by rcases hk with hk|hk<;>omega) (fun k hk=>hk.imp id (fun hk=>by omega)) (.inl rfl)
  exact ⟨ret_bool (decide_eq_true (by omega)),hd.1,hd.2⟩
 ·have e1:(c !=0)=true:=by simpa using hc
  have e2:=hnum2 hc
  have e3:(n==0)=true:=by simpa using e2
  have HC:Hid _:=hc
  clear hc hnum hnum2 e2
  go_wp2_with fail
  go_region_held3 (fun w'=>w'.cell? ⟨w.heap.size,4,none⟩=some (.string od.S)) (go_keep) ((first
   |(go_at_call 98;refine (weight_any _ _ (by omega) (by omega)).mono ?_;rintro e w9 ⟨rfl,rfl⟩)
   |(go_at_call 97;refine (changed_all _ bo h (by exact (Mid.kept (wy:=w5.drewN (m10+1)) HM5.out (T:=fun _=>False) ⟨rfl,rfl,rfl,Nat.le_refl _,fun _ _ _=>rfl⟩ (fun _ hf=>hf.elim)).head) bd HON.out.hd S2 D2 (by exact (Mid.kept (wy:=w5.drewN (m10+1)) HM5.out (T:=fun _=>False) ⟨rfl,rfl,rfl,Nat.le_refl _,fun _ _ _=>rfl⟩ (fun _ hf=>hf.elim)).disk) ib HON.out.his R R V.vs last (by exact (Mid.kept (wy:=w5.drewN (m10+1)) HM5.out (T:=fun _=>False) ⟨rfl,rfl,rfl,Nat.le_refl _,fun _ _ _=>rfl⟩ (fun _ hf=>hf.elim)).ref) hfew HON.out.good.body c want _ (by omega) (by decide) w3.heap.size od.S 0 true none 0 0 _ _ _ _ (by exact RefAt.kept (T:=fun _=>False) HR5.out ⟨rfl,rfl,rfl,Nat.le_refl _,fun _ _ _=>rfl⟩ (fun _ _ hf=>hf) (fun _ _ hf=>hf)) (by omega) HM5.out.hSb hdied0 (by omega) h' (by exact HH'.out)).mono ?_;rintro e w7 ⟨rfl,ho7,hd7,hk7⟩;have HO7:Hid _:=ho7;have HD7:Hid _:=hd7;have HK7:Hid (Kept (fun k=>k=bo∨S2 k) w5 w7):=⟨hk7.os,hk7.tape,hk7.output,hk7.size,hk7.block⟩;have hq47:w7.cell? ⟨w.heap.size,4,none⟩=some (.string od.S):=(HM5.out.box.kept HK7.out (fun hc=>hc.elim (fun e=>by omega) (fun hc=>by have:=HS2.out _ hc;omega))).c4;clear ho7 hd7 hk7)))
  go_wp2
  go_ret
  have k26:Kept (fun k=>w3.heap.size≤k) w2 w5:=(((HK3.out.mono (fun _ hf=>hf.elim)).trans HK4.out (fun _ hf=>hf.elim))).trans HK5.out (fun k hk=>.inl hk)
  have hd:=add_done M w w0.drew w2 w5 w7 X bo t h bd D D2 S S2 R ib V last HON.out bs HBS.out (K0.out.trans (Kept.drew _ w0) (fun _ h=>.inl h)) HS1.out HAFT.out HBB.out od.S true [] want c (fun hw0 he=>by
   have:=HWA.out
   rw [he,keyB_empty,hw0] at this
   simp [delE] at this) 1 (by omega) HCHG.out n HN.out _ k26 (fun k hk=>⟨by omega,fun hc=>by have:=HS2L.out k hc;omega⟩) HK7.out w3.heap.size none 0 h' HO7.out HD7.out HH'.out _ _ HR5.out (fun k hk=>by rcases hk with hk|hk<;>omega) (fun k hk=>hk.imp id (fun hk=>by omega)) (.inl rfl)
  exact ⟨ret_bool (decide_eq_true (by omega)),hd.1,hd.2⟩
end Go.Proofs.YtcoengihaobddaaGreatDoor.law
namespace Go.Proofs.YtcoengihaobddaaGreatDoor.law
open Go.RowKit disk ref book
open keys (keyB)
set_option linter.unusedVariables false
inductive AskOne (M:Meaning) (w':World) (bs bd:Nat) (h:OneH) (D D':Dk) (V:Con):Prop
 |shut (hs:h.shut=true) (sto:M.Sto w' bs none) (hD:D'={D with reads:=D'.reads })
 |live (hs:h.shut=false) (sto:M.Sto w' bs (some bd)) (live:M.Live D' V)
structure Told (w w':World) (S':Nat→Prop) (o:Option Ver) (x:Value) (c:Int):Prop where
 yes:c=0→∃u a cap,o=some u∧x=.slice a u.body.length cap∧w'.ownsRow 0 5 1 (.slice a u.body.length cap) u.body.length (u.body.map byteV)∧∀k,(Value.slice a u.body.length cap).ownBlock=some k→w.heap.size≤k∧¬S' k
 no:c≠0→∃a cap,x=.slice a 0 cap
theorem shutE_ans (k:Bool) (o:Option Ver):shutE true (ansE k o)=if k=true then 8 else 2:=by
 cases k with
 |false=>rfl
 |true=>
  cases o with
  |none=>rfl
  |some v=>show (if cond v.mark (5:Int) 0=0∨cond v.mark (5:Int) 0=5 then (8:Int) else cond v.mark 5 0)=8;cases v.mark<;>rfl
theorem told_out {w w':World} {S':Nat→Prop} {o:Option Ver} {x:Value} {c:Int} (h:OutIs w w' o x c) (hS:∀k,x.ownBlock=some k→¬S' k):Told w w' S' o x c:=
 ⟨fun hc=>by
  obtain ⟨u,h1,a,cap,h2,h3,h4⟩:=h.1 hc
  exact ⟨u,a,cap,h1,h2,h3,fun k hk=>⟨h4 k hk,hS k (by rw [h2];exact hk)⟩⟩,h.2⟩
theorem get_one (M:Meaning) (A:ApiGet M) (w:World) (X:Nat→Prop) (bo t:Nat) (h:OneH) (bd:Nat) (D:Dk) (S R:Nat→Prop) (ib:Nat) (V:Con) (last:Int) (o:OneIn M w X bo t h bd D S R ib V last) (ht:t≤4398046511104) (bs:Nat) (hbs:h.s=ptr bs)
 (key:ByteArray) (hk:key.size≤maxLen):
 Calls Tryz.prog 26 #[.pointer (some ⟨bs,0,none⟩),.string key] w fun e w'=>∃D' S' x n,e=.returned (.tuple #[x,.int .i64 n,.int .i64 (shutE h.shut (ansE (keyB key.data.toList) (newestV V.vs key)))])∧AftOne M w w' bd bs S S' D D'∧
  AskOne M w' bs bd h D D' V∧Told w w' S' (newestV V.vs key) x (shutE h.shut (ansE (keyB key.data.toList) (newestV V.vs key)))∧(shutE h.shut (ansE (keyB key.data.toList) (newestV V.vs key))≠0→n=0)∧
  (∀u,shutE h.shut (ansE (keyB key.data.toList) (newestV V.vs key))=0→newestV V.vs key=some u→n=u.num)∧X bs∧¬S bs∧¬R bs∧bs≠bo:=by
 have hn0:=o.n0t
 have htt:=o.tt
 cases o.st with
 |live bs' hs' hX hS hR ho sto shut mb live=>
  have e:bs'=bs:=by rw [hs'] at hbs;unfold ptr at hbs;simpa using hbs
  subst e
  refine (A.live w bd bs' S D V key ⟨o.disk,hS,sto,live,o.fu,o.reads0,by have:=o.reads1;omega,by omega⟩ hk).mono ?_
  rintro e w' ⟨D',x,n,S',h1,h2,h3,h4,h5,h6,h7⟩
  rw [shut]
  exact ⟨D',S',x,n,h1,⟨h2.disk,h2.foot,h2.kept,h2.reads0,h2.reads1,h2.size,h2.fuse⟩,.live shut h2.sto h3,told_out h4 h5,h6,h7,hX,hS,hR,ho⟩
 |shut bs' hs' hX hS hR ho sto shut torn=>
  have e:bs'=bs:=by rw [hs'] at hbs;unfold ptr at hbs;simpa using hbs
  subst e
  refine (A.shut w bs' key sto hk).mono ?_
  rintro e w' ⟨a,cap,h1,h2,h3⟩
  rw [shut,shutE_ans]
  have hne:¬((if keyB key.data.toList=true then (8:Int) else 2)=0):=by split<;>omega
  exact ⟨D,S,_,0,h1,⟨o.disk.kept h3 (fun i hi hc=>hS (by rw [←hc];exact hi)),fun k hk=>.inl hk,h3.mono (fun k hk=>.inr hk),by omega,by omega,rfl,o.fu⟩,.shut shut h2 rfl,⟨fun hc=>absurd hc hne,fun _=>⟨a,cap,rfl⟩⟩,fun _=>rfl,fun u hc=>absurd hc hne,hX,hS,hR,ho⟩
 |gone hs' torn=>rw [hs'] at hbs;cases hbs
theorem at_one (M:Meaning) (A:ApiAt M) (w:World) (X:Nat→Prop) (bo t:Nat) (h:OneH) (bd:Nat) (D:Dk) (S R:Nat→Prop) (ib:Nat) (V:Con) (last:Int) (o:OneIn M w X bo t h bd D S R ib V last) (ht:t≤4398046511104) (bs:Nat) (hbs:h.s=ptr bs)
 (key:ByteArray) (hk:key.size≤maxLen) (num:Int) (hnum:IntOk num):
 Calls Tryz.prog 42 #[.pointer (some ⟨bs,0,none⟩),.string key,.int .i64 num] w fun e w'=>∃D' S' x,e=.returned (.tuple #[x,.int .i64 (shutE h.shut (ansE (keyB key.data.toList) (findV V.vs key num)))])∧AftOne M w w' bd bs S S' D D'∧
  AskOne M w' bs bd h D D' V∧Told w w' S' (findV V.vs key num) x (shutE h.shut (ansE (keyB key.data.toList) (findV V.vs key num)))∧X bs∧¬S bs∧¬R bs∧bs≠bo:=by
 have hn0:=o.n0t
 have htt:=o.tt
 cases o.st with
 |live bs' hs' hX hS hR ho sto shut mb live=>
  have e:bs'=bs:=by rw [hs'] at hbs;unfold ptr at hbs;simpa using hbs
  subst e
  refine (A.live w bd bs' S D V key num ⟨o.disk,hS,sto,live,o.fu,o.reads0,by have:=o.reads1;omega,by omega⟩ hk hnum).mono ?_
  rintro e w' ⟨D',x,S',h1,h2,h3,h4,h5⟩
  rw [shut]
  exact ⟨D',S',x,h1,⟨h2.disk,h2.foot,h2.kept,h2.reads0,h2.reads1,h2.size,h2.fuse⟩,.live shut h2.sto h3,told_out h4 h5,hX,hS,hR,ho⟩
 |shut bs' hs' hX hS hR ho sto shut torn=>
  have e:bs'=bs:=by rw [hs'] at hbs;unfold ptr at hbs;simpa using hbs
  subst e
  refine (A.shut w bs' key num sto hk).mono ?_
  rintro e w' ⟨a,cap,h1,h2,h3⟩
  rw [shut,shutE_ans]
  have hne:¬((if keyB key.data.toList=true then (8:Int) else 2)=0):=by split<;>omega
  exact ⟨D,S,_,h1,⟨o.disk.kept h3 (fun i hi hc=>hS (by rw [←hc];exact hi)),fun k hk=>.inl hk,h3.mono (fun k hk=>.inr hk),by omega,by omega,rfl,o.fu⟩,.shut shut h2 rfl,⟨fun hc=>absurd hc hne,fun _=>⟨a,cap,rfl⟩⟩,hX,hS,hR,ho⟩
 |gone hs' torn=>rw [hs'] at hbs;cases hbs
theorem ask_done (M:Meaning) (w w1 w2 w7:World) (X:Nat→Prop) (bo t:Nat) (h:OneH) (bd:Nat) (D D2:Dk) (S S2 R:Nat→Prop) (ib:Nat) (V:Con) (last:Int) (hone:OneIn M w X bo t h bd D S R ib V last) (bs:Nat) (hbs:h.s=ptr bs)
 (kA:Kept (fun _=>False) w w1) (hs1:w.heap.size≤w1.heap.size) (haft:AftOne M w1 w2 bd bs S S2 D D2) (hbb:X bs∧¬S bs∧¬R bs∧bs≠bo) (hask:AskOne M w2 bs bd h D D2 V) (T:Nat→Prop) (k27:Kept T w2 w7) (hT:∀k,T k→¬X k∧¬S2 k):
 One M w7 (fun k=>X k∨S2 k) bo (t+1):=by
 have hX:=hone.xlt
 have hbo:=hX bo hone.bX
 have hbsl:=hX bs hbb.1
 have hS2l:∀k,S2 k→k<w2.heap.size:=fun k hk=>haft.disk.lt k hk
 have hS2:∀k,S2 k→S k∨w1.heap.size≤k:=haft.foot
 have hsz2:=haft.kept.size
 have hsz7:=k27.size
 have hSbo:¬S2 bo:=fun hc=>by
  rcases hS2 bo hc with h1|h1
  ·exact hone.bS h1
  ·omega
 have hSbs:¬S2 bs:=fun hc=>by
  rcases hS2 bs hc with h1|h1
  ·exact hbb.2.1 h1
  ·omega
 have hRlt:∀k,R k→k<w.heap.size:=fun k hk=>hX k (hone.rX k hk).1
 have hRS2:∀k,R k→¬S2 k:=fun k hk hc=>by
  have h1:=hRlt k hk
  rcases hS2 k hc with h2|h2
  ·exact (hone.rX k hk).2.1 h2
  ·omega
 have hRT:∀k,R k→¬(S k∨k=bs):=fun k hk hc=>by
  rcases hc with hc|hc
  ·exact (hone.rX k hk).2.1 hc
  ·exact hbb.2.2.1 (by rw [←hc];exact hk)
 have hR7:∀k,R k→¬T k:=fun k hk hc=>(hT k hc).1 (hone.rX k hk).1
 have k12:Kept (fun k=>S k∨k=bs) w w2:=(kA.mono (fun _ hf=>hf.elim)).trans haft.kept (fun _ h=>.inl h)
 have hr1:=hone.reads1
 have hr0:=hone.reads0
 have hrd0:=haft.reads0
 have hrd1:=haft.reads1
 have hsize:=haft.size
 have hbig:=hone.big
 have hsto:∀q,M.Sto w2 bs q→M.Sto w7 bs q:=fun q hq=>M.sto_kept _ _ _ _ _ hq k27 (fun hc=>(hT bs hc).1 hbb.1)
 refine ⟨h,bd,D2,S2,R,ib,V,last,(hone.head.kept k12 (fun hc=>hc.elim hone.bS (fun e=>hbb.2.2.2 e.symm))).kept k27 (fun hc=>(hT bo hc).1 hone.bX),hone.hd,hone.his,haft.disk.kept k27 (fun i hi hc=>(hT i hc).2 hi),
  (hone.ref.kept k12 hRT hRT).kept k27 hR7 hR7,fun k hk=>.inr hk,fun k hk=>⟨.inl (hone.rX k hk).1,hRS2 k hk,(hone.rX k hk).2.2⟩,.inl hone.bX,hSbo,fun k hk=>?_,hone.last0,hone.lastv,hone.told0,hone.died0,hone.n0t,Int.le_trans hone.tt (by omega),by omega,by omega,haft.fuse,hone.good,by omega,?_⟩
 ·rcases hk with hk|hk
  ·have:=hX k hk;have:=k12.size;omega
  ·have:=hS2l k hk;omega
 ·cases hask with
  |live hs sto live=>
   have hmb:h.mb=.pointer none:=by
    cases hone.st with
    |live bs' hs' hX' hS' hR' ho' sto' shut' mb=>exact mb
    |gone hs'=>rw [hs'] at hbs;cases hbs
    |shut bs' hs' hX' hS' hR' ho' sto' shut'=>rw [hs] at shut';cases shut'
   exact .live bs hbs (.inl hbb.1) hSbs hbb.2.2.1 hbb.2.2.2 (hsto _ sto) hs hmb live
  |shut hs sto hD=>
   cases hone.st with
   |live _ _ _ _ _ _ _ shut=>rw [hs] at shut;cases shut
   |gone hs'=>rw [hs'] at hbs;cases hbs
   |shut bs' hs' hX' hS' hR' ho' sto' shut' torn=>
    exact .shut bs hbs (.inl hbb.1) hSbs hbb.2.2.1 hbb.2.2.2 (hsto _ sto) hs (((torn.kept k12 hRT).kept k27 hR7).reads hD)
theorem shutE_zero {s:Bool} {c:Int} (h:shutE s c=0):c=0:=by
 cases s with
 |false=>exact h
 |true=>
  have h2:(if c=0∨c=5 then (8:Int) else c)=0:=h
  by_cases hc:c=0∨c=5
  ·rw [if_pos hc] at h2;omega
  ·rw [if_neg hc] at h2;exact h2
structure Asked (M:Meaning) (w w':World) (X:Nat→Prop) (bo t bp:Nat) (lv:Value) (F H:Nat→Prop) (b:Option Addr) (cb:Nat) (es vs:List Ent) (e:Ending):Prop where
 ret:e=.returned (.bool true)
 st:∃X' F' a' ca' es',One M w' X' bo (t+1)∧Book w' bp lv F' H a' b ca' cb es' vs∧es'.length≤es.length+1∧(∀k,X' k→X k∨w.heap.size≤k)∧(∀k,F' k→F k∨w.heap.size≤k)∧∀k,X' k→¬F' k∧¬H k∧k≠bp
 kept:Kept (fun k=>X k∨F k∨k=bp) w w'
end Go.Proofs.YtcoengihaobddaaGreatDoor.law
