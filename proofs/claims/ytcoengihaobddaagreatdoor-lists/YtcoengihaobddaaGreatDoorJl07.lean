/- Part 7 of 31 of a proof: Law5, Law15, Law14, Law6, Law17 -/
import Derived.Test.YtcoengihaobddaaGreatDoorJl06
set_option maxHeartbeats 8000000
set_option linter.unusedVariables false
set_option linter.unusedSimpArgs false
set_option maxRecDepth 8000
namespace Go.Proofs.YtcoengihaobddaaGreatDoor
namespace law
open Go.ChangeShapes Go.WideShapes Go.ChangeAt Go.RowKit disk ref book
open keys (zj zd zy zq zt)
structure yS (w:World) (b:Nat) (o:yf):Prop where
 at_:w.heap[b]? =some (.cells #[.int .i64 o.kind,.int .i64 o.A,.int .i64 o.B,.int .i64 o.C,.string o.S,.string o.P,.slice o.la o.l.length o.lc,.slice o.ka o.ks.length o.kc] 81 (0,0))
theorem yS.lt{w:World}{b:Nat}{o:yf}(h:yS w b o):b<w.heap.size:=(lT h.at_)
theorem yS.kept{w w':World}{b:Nat}{o:yf}{T:Nat→Prop}(h:yS w b o)(k:za T w w')(hn:¬T b):yS w' b o:=⟨(k.block b h.lt hn).trans h.at_⟩
theorem yS.c0{w:World}{b:Nat}{o:yf}(h:yS w b o):w.cell? ⟨b,0,none⟩=some (.int .i64 o.kind):=cR h.at_ rfl
theorem yS.c1{w:World}{b:Nat}{o:yf}(h:yS w b o):w.cell? ⟨b,1,none⟩=some (.int .i64 o.A):=cR h.at_ rfl
theorem yS.c2{w:World}{b:Nat}{o:yf}(h:yS w b o):w.cell? ⟨b,2,none⟩=some (.int .i64 o.B):=cR h.at_ rfl
theorem yS.c3{w:World}{b:Nat}{o:yf}(h:yS w b o):w.cell? ⟨b,3,none⟩=some (.int .i64 o.C):=cR h.at_ rfl
theorem yS.c4{w:World}{b:Nat}{o:yf}(h:yS w b o):w.cell? ⟨b,4,none⟩=some (.string o.S):=cR h.at_ rfl
theorem yS.c5{w:World}{b:Nat}{o:yf}(h:yS w b o):w.cell? ⟨b,5,none⟩=some (.string o.P):=cR h.at_ rfl
theorem yS.c6{w:World}{b:Nat}{o:yf}(h:yS w b o):w.cell? ⟨b,6,none⟩=some (.slice o.la o.l.length o.lc):=cR h.at_ rfl
theorem yS.c7{w:World}{b:Nat}{o:yf}(h:yS w b o):w.cell? ⟨b,7,none⟩=some (.slice o.ka o.ks.length o.kc):=cR h.at_ rfl
structure X0 (B:Nat) (wx:World) (bo:Nat) (h:qn) (bd:Nat) (D2:Dk) (S2 R:Nat→Prop) (ib:Nat) (V:yt) (last:Int) (od:yf) (Q:Nat→Prop):Prop where
 head:zA wx bo h
 disk:zh wx bd S2 D2
 ref:zQ wx R R ib V.vs last
 box:yS wx B od
 op:od.Ok wx Q
 lt:B<wx.heap.size
 hbo:bo<B
 hR:∀k,R k→k<B
 hQ:∀k,Q k→k<B
 hSb:¬S2 bo
theorem X0.kept{B:Nat}{wx wy:World}{bo:Nat}{h:qn}{bd:Nat}{D2:Dk}{S2 R:Nat→Prop}{ib:Nat}{V:yt}{last:Int}{od:yf}{Q T:Nat→Prop}(m:X0 B wx bo h bd D2 S2 R ib V last od Q)(k:za T wx wy)(hs:∀k,T k→B<k∧¬S2 k):X0 B wy bo h bd D2 S2 R ib V last od Q:=
 ⟨m.head.kept k (fun hc=>by have:=(hs _ hc).1;have:=m.hbo;omega),m.disk.kept k (fun i hi hc=>(hs i hc).2 hi),m.ref.kept k (fun i hi hc=>by have:=(hs i hc).1;have:=m.hR i hi;omega) (fun i hi hc=>by have:=(hs i hc).1;have:=m.hR i hi;omega),
  m.box.kept k (fun hc=>by have:=(hs _ hc).1;omega),m.op.kept k (fun i hi hc=>by have:=(hs i hc).1;have:=m.hQ i hi;omega),Nat.lt_of_lt_of_le m.lt k.size,m.hbo,m.hR,m.hQ,m.hSb⟩
theorem bz{M:zg}{w w1 w2:World}{X:Nat→Prop}{bo t:Nat}{h:qn}{bd:Nat}{D D2:Dk}{S S2 R:Nat→Prop}{ib:Nat}{V:yt}{last:Int}{od:yf}{Q:Nat→Prop}{bs:Nat}{most:Int}(o:xh M w1 X bo t h bd D S R ib V last)(hX:∀k,X k→k<w.heap.size)(hb:yS w1 w.heap.size od)(hop:od.Ok w1 Q)(hQ:∀k,Q k→¬X k∧k<w.heap.size)(hs:w.heap.size<w1.heap.size)
 (haft:y7 M w1.drew w2 bd bs S S2 D D2 most) (hbb:X bs∧¬S bs∧¬R bs∧bs≠bo):X0 w.heap.size w2 bo h bd D2 S2 R ib V last od Q:=by
 have kd:za (fun k=>S k∨k=bs) w1 w2:=(za.drew _ w1).trans haft.kept iL
 have hbo:=hX bo o.bX
 refine⟨o.head.kept kd (fun hc=>hc.elim o.bS (fun e=>hbb.2.2.2 e.symm)),haft.disk,o.ref.kept kd (fun i hi hc=>?_) (fun i hi hc=>?_),hb.kept kd (fun hc=>?_),hop.kept kd (fun i hi hc=>?_),Nat.lt_of_lt_of_le hs kd.size,hbo,fun k hk=>hX k (o.rX k hk).1,fun k hk=>(hQ k hk).2,fun hc=>?_⟩
 ·rcases hc with hc|hc
  ·exact(o.rX i hi).2.1 hc
  ·exact hbb.2.2.1 (by rw [←hc];exact hi)
 ·rcases hc with hc|hc
  ·exact(o.rX i hi).2.1 hc
  ·exact hbb.2.2.1 (by rw [←hc];exact hi)
 ·rcases hc with hc|hc
  ·have:=hX _ (o.sX _ hc);omega
  ·have:=hX _ hbb.1;omega
 ·rcases hc with hc|hc
  ·exact(hQ i hi).1 (o.sX i hc)
  ·exact(hQ i hi).1 (by rw [hc];exact hbb.1)
 ·rcases haft.foot bo hc with h1|h1
  ·exact o.bS h1
  ·have h2:w1.drew.heap.size=w1.heap.size:=rfl
   omega
theorem KL(M:zg)(A:vi M)(w:World)(X:Nat→Prop)(bo t:Nat)(h:qn)(bd:Nat)(D:Dk)(S R:Nat→Prop)(ib:Nat)(V:yt)(last:Int)(hone:xh M w X bo t h bd D S R ib V last)(ht:t≤2199023255552)(bs:Nat)(hbs:h.s=yw bs)
 (od:yf) (Q:Nat→Prop) (hop:od.Ok w Q) (hQ:∀k,Q k→¬X k∧k<w.heap.size):
 Calls Tryz.prog 60 #[.pointer (some ⟨bo,0,none⟩),.agg #[.int .i64 od.kind,.int .i64 od.A,.int .i64 od.B,.int .i64 od.C,.string od.S,.string od.P,.slice od.la od.l.length od.lc,.slice od.ka od.ks.length od.kc]] w fun e w'=>Stepped M w w' X bo t e:=by
 have hxlt:=hone.xlt
 have k0:za (fun _=>False) w (w.alloc (.cells #[.int .i64 od.kind,.int .i64 od.A,.int .i64 od.B,.int .i64 od.C,.string od.S,.string od.P,.slice od.la od.l.length od.lc,.slice od.ka od.ks.length od.kc] 81)):=za.alloc _ _ _
 have hb0:yS (w.alloc (.cells #[.int .i64 od.kind,.int .i64 od.A,.int .i64 od.B,.int .i64 od.C,.string od.S,.string od.P,.slice od.la od.l.length od.lc,.slice od.ka od.ks.length od.kc] 81)) w.heap.size od:=⟨heap_alloc_new w _⟩
 have hop0:=hop.kept k0 nF
 have hone0:=hone.kept k0 nF
 have hlen:=hop.len
 have HB0:Hid _:=hb0
 have HOP0:Hid _:=hop0
 have HON0:Hid _:=hone0
 have HON:Hid _:=hone
 have HOP:Hid _:=hop
 have HQ:Hid _:=hQ
 have HBS:Hid _:=hbs
 have HX:Hid _:=hxlt
 have hboX:=hxlt bo hone.bX
 have K0:Hid _:=k0
 clear k0 hb0 hop0 hone0 hone hop hQ hbs hxlt
 go_enter Tryz.func60,Tryz.ntmps60
 go_wp2_with fail
 refine(Jg _ Q od.la od.lc od.l HOP0.out.l hlen).mono ?_
 rintro e w1 ⟨ba,bc,rfl,hlv,hk1⟩
 have hone1:=HON0.out.kept hk1 nF
 have hb1:=HB0.out.kept hk1 (fun hf=>hf)
 have hc0:=hone1.head.c0
 rw [hone1.hd] at hc0
 unfold yw at hc0
 have hc1:=hone1.head.c1
 rw [HBS.out] at hc1
 unfold yw at hc1
 have hq4:=hb1.c4
 have HON1:Hid _:=hone1
 have HB1:Hid _:=hb1
 have hlv':xj w1 (w.heap.size+1) od.la od.l ba bc:=by simpa using hlv
 have HLV:Hid (xj w1 (w.heap.size+1) od.la od.l ba bc):=hlv'
 clear hlv'
 have HK1:Hid _:=hk1
 clear hone1 hb1 hlv hk1
 go_wp2_with fail
 obtain⟨xa,xp,xbc,xpc,hdk⟩:=HON1.out.disk
 refine(yc _ bd S D xa xp xbc xpc hdk).mono ?_
 rintro e w9 ⟨rfl,hw9⟩
 rw [hw9]
 clear hw9 w9 hdk
 go_wp2_with fail
 have hs1:w.heap.size<w1.heap.size:=HB1.out.lt
 have HOP1:Hid _:=HOP0.out.kept HK1.out nF
 go_region_held3 (fun w'=>w'.cell? ⟨bo,1,none⟩=some (.pointer (some ⟨bs,0,none⟩))∧w'.cell? ⟨w.heap.size,4,none⟩=some (.string od.S)) (go_keep) ((go_at_call 27;refine(KK M A _ X bo t h bd D S R ib V last (by exact HON1.out.kept (za.drew (fun _=>False) w1) nF) (by omega) bs HBS.out od.S HOP.out.S ba bc od.l (fun k=>w.heap.size+1≤k) (by exact(xj.bytes HLV.out).kept (za.drew (fun _=>False) w1) nF) (fun k hk hc=>by have:=HX.out k hc;omega) (by omega) (xj.cap HLV.out).1 (xj.cap HLV.out).2).mono ?_;rintro e w2 ⟨D2,S2,c,n,rfl,haft,hchg,hn,hXb,hSb,hRb,hbob⟩;have HAFT:Hid _:=haft;have HCHG:Hid _:=hchg;have HN:Hid _:=hn;have HBB:Hid _:=(⟨hXb,hSb,hRb,hbob⟩:X bs∧¬S bs∧¬R bs∧bs≠bo);clear haft hchg hn hXb hSb hRb hbob;have HM2:Hid _:=bz HON1.out HX.out HB1.out HOP1.out HQ.out hs1 HAFT.out HBB.out;have hc12:=HM2.out.head.c1;rw [HBS.out] at hc12;unfold yw at hc12;have hq42:=HM2.out.box.c4))
 all_goals
  have hm2:=HM2.out
  have hS2:∀k,S2 k→k<w.heap.size∨w1.heap.size≤k:=fun k hk=>(HAFT.out.foot k hk).imp (fun h=>HX.out k (HON1.out.sX k h)) (fun h=>h)
  have hS2l:∀k,S2 k→k<w2.heap.size:=fun k hk=>HAFT.out.disk.lt k hk
  have hlg:∀g,(Value.slice ba od.l.length bc).ownBlock=some g→w.heap.size<g∧g<w1.heap.size:=fun g hg=>by
   rcases HLV.out with⟨_,_,h1,_⟩|⟨ad,g',_,h1,h2,h3⟩
   ·rw [h1] at hg;cases hg
   ·rw [h1] at hg
    simp [Value.ownBlock] at hg
    obtain⟨_,cur,h4,_⟩:=h3
    have:=(lT h4)
    omega
  have hlv2:xj w2 (w.heap.size+1) od.la od.l ba bc:=xj.kept HLV.out ((za.drew _ w1).trans HAFT.out.kept iL) (fun g hg hc=>by
   have h1:=hlg g hg
   rcases hc with hc|hc
   ·have:=HX.out g (HON1.out.sX g hc);omega
   ·have:=HX.out _ HBB.out.1;omega)
  have hsz2:w1.heap.size≤w2.heap.size:=HAFT.out.kept.size
  have hc0:=hm2.head.c0
  rw [HON1.out.hd] at hc0
  unfold yw at hc0
  have hq6:=hm2.box.c6
  have hq4:=hm2.box.c4
  have HS2:Hid _:=hS2
  have HS2L:Hid _:=hS2l
  have HLG:Hid _:=hlg
  have HLV2:Hid (xj w2 (w.heap.size+1) od.la od.l ba bc):=hlv2
  clear hm2 hS2 hS2l hlg hlv2
  go_wp2_with fail
  obtain⟨xa2,xp2,xbc2,xpc2,hdk2⟩:=HM2.out.disk
  refine(yc _ bd S2 D2 xa2 xp2 xbc2 xpc2 hdk2).mono ?_
  rintro e w9 ⟨rfl,hw9⟩
  rw [hw9]
  clear hw9 w9 hdk2
  go_wp2_with fail
  refine(bw _ Q (w.heap.size+1) od.la od.lc od.l HM2.out.op.l hlen ba bc HLV2.out (fun k hk=>by have:=(HQ.out k hk).2;omega)).mono ?_
  rintro e w3 ⟨rfl,hk3⟩
  have hm3:=HM2.out.kept hk3 (fun k hk=>by
   have h1:=HLG.out k hk
   exact⟨h1.1,fun hc=>by have:=HS2.out k hc;omega⟩)
  have hs3:=hk3.size
  have hq6:=hm3.box.c6
  have hq4:=hm3.box.c4
  have hc2:=hm3.head.c2
  rw [HON1.out.his] at hc2
  unfold yw at hc2
  have HM3:Hid _:=hm3
  have HK3:Hid _:=hk3
  clear hm3 hk3
  go_wp2_with fail
  refine(bg _ od.S HOP.out.S od.la od.l.length od.lc).mono ?_
  rintro e w9 ⟨rfl,hw9⟩
  rw [hw9]
  clear hw9 w9
  generalize hwant:gt (zt od.S.data.toList) od.l.length=want at*
  have HWA:Hid _:=hwant
  clear hwant
  have hfew:=HON.out.good.few
  go_wp2_with fail
  refine(gU _ R R ib V.vs last HM3.out.ref (by omega)).mono ?_
  rintro e w4 ⟨rfl,hr4,hk4⟩
  have hm4:=HM3.out.kept hk4 fE
  have hs4:=hk4.size
  have hq6:=hm4.box.c6
  have hq4:=hm4.box.c4
  have HM4:Hid _:=hm4
  have HR4:Hid (zQ w4 (fun k=>w3.heap.size≤k) R w3.heap.size V.vs last):=hr4
  have HK4:Hid _:=hk4
  clear hm4 hk4 hr4
  go_wp2_with fail
  refine(gI _ (fun k=>w3.heap.size≤k) R Q w3.heap.size V.vs last HR4.out (fun k hk hc=>by have:=HM4.out.hR k hc;have hk':w3.heap.size≤k:=hk;omega) (by omega) od.S n false od.la od.lc od.l HM4.out.op.l (by omega)).mono ?_
  rintro e w5 ⟨rfl,hr5,hk5⟩
  have hm5:=HM4.out.kept hk5 (fun k hk=>⟨by have hk':w3.heap.size≤k:=hk;omega,fun hc=>by have:=HS2L.out k hc;have hk':w3.heap.size≤k:=hk;omega⟩)
  have hs5:=hk5.size
  have hq6:=hm5.box.c6
  have hq4:=hm5.box.c4
  have HM5:Hid _:=hm5
  have HR5:Hid (zQ w5 (fun k=>(w3.heap.size≤k)∨w4.heap.size≤k) (fun k=>R k∨w4.heap.size≤k) w3.heap.size (V.vs++[⟨od.S,n,false,od.l⟩]) (max last n)):=hr5
  have HK5:Hid _:=hk5
  clear hm5 hk5 hr5
  have htold0:=HON.out.told0
  have hdied0:=HON.out.died0
  have htt:=HON.out.tt
  go_wp2_with fail
  refine(vH _ bo h HM5.out.head ib HON.out.his R R V.vs last HM5.out.ref n htold0 (by omega) hdied0 (by omega)).mono ?_
  rintro e w9 ⟨rfl,m9,hw9⟩
  rw [hw9]
  clear hw9 w9
  have hl0:=HON.out.last0
  have hn0t:=HON.out.n0t
  have hrd0:=HAFT.out.reads0
  have hrd1:=HAFT.out.reads1
  have hr00:=HON.out.reads0
  have hr01:=HON.out.reads1
  have hnum:c=0→bq n last h.told h.died=true:=fun hc=>by
   have:=HN.out
   rw [if_pos hc] at this
   unfold bq
   exact decide_eq_true (by omega)
  have hnum2:c≠0→n=0:=fun hc=>by
   have:=HN.out
   rw [if_neg hc] at this
   exact this
  generalize bq n last h.told h.died=nb9 at*
  have hcase:=fun ka kl kc=>HCHG.out.case HAFT.out.size (.pointer (some ⟨w3.heap.size,0,none⟩)) (max last n) od.S 0 false ka kl kc
  have HCASE:Hid _:=hcase
  clear hcase
  have hwl:(yv od.l.length:Int)≤1125899906842624:=by unfold yv;omega
  by_cases hc:c=0
  ·have e1:(c !=0)=false:=by simpa using hc
   have e2:=hnum hc
   subst e2
   have HC:Hid _:=hc
   clear hc hnum hnum2
   go_wp2_with fail
   go_region_held3 (fun w'=>w'.cell? ⟨w.heap.size,4,none⟩=some (.string od.S)∧w'.cell? ⟨w.heap.size,6,none⟩=some (.slice od.la od.l.length od.lc)) (go_keep) ((first
    |(go_at_call 98;refine(xF _ _ (by omega) (by omega)).mono ?_;rintro e w9 ⟨rfl,rfl⟩)
    |(go_at_call 99;refine(bk _ Q od.la od.lc od.l (by exact(HM5.out.kept (T:=fun _=>False) kD fE).op.l) hlen).mono ?_;rintro e w6 ⟨oa,oc,rfl,hown6,hk6,hnew6⟩;have HK6:Hid (za (fun _=>False) w5 w6):=⟨hk6.os,hk6.tape,hk6.output,hk6.size,hk6.block⟩;have HO6:Hid (w6.ownsRow 0 5 1 (.slice oa od.l.length oc) od.l.length (od.l.map qK)):=hown6;have HN6:Hid (∀k,(Value.slice oa od.l.length oc).ownBlock=some k→w5.heap.size≤k):=hnew6;have HM6:Hid _:=HM5.out.kept HK6.out fE;have hq46:=HM6.out.box.c4;have hq66:=HM6.out.box.c6;have HR6:Hid _:=zQ.kept HR5.out HK6.out nF nF;clear hown6 hk6 hnew6;obtain⟨h',hh'⟩:=HCASE.out oa od.l.length oc;have HH':Hid _:=hh';clear hh')
    |(go_at_call 97;refine(xi _ bo h (by exact(HM6.out.kept (T:=fun _=>False) kD fE).head) bd HON.out.hd S2 D2 (by exact(HM6.out.kept (T:=fun _=>False) kD fE).disk) ib HON.out.his R R V.vs last (by exact(HM6.out.kept (T:=fun _=>False) kD fE).ref) hfew HON.out.good.body c want _ (by omega) (by have:=hwl;omega) w3.heap.size od.S 0 false oa od.l.length oc _ _ _ _ (by exact zQ.kept (T:=fun _=>False) HR6.out kD nF nF) (by omega) HM5.out.hSb hdied0 (by omega) h' (by exact HH'.out)).mono ?_;rintro e w7 ⟨rfl,ho7,hd7,hk7⟩;have HO7:Hid _:=ho7;have HD7:Hid _:=hd7;have HK7:Hid (za (fun k=>k=bo∨S2 k) w6 w7):=⟨hk7.os,hk7.tape,hk7.output,hk7.size,hk7.block⟩;have hq47:w7.cell? ⟨w.heap.size,4,none⟩=some (.string od.S):=(HM6.out.box.kept HK7.out (fun hc=>hc.elim (fun e=>by omega) (fun hc=>by have:=HS2.out _ hc;omega))).c4;have hq67:w7.cell? ⟨w.heap.size,6,none⟩=some (.slice od.la od.l.length od.lc):=(HM6.out.box.kept HK7.out (fun hc=>hc.elim (fun e=>by omega) (fun hc=>by have:=HS2.out _ hc;omega))).c6;clear ho7 hd7 hk7)))
   go_wp2
   go_ret
   have k26:za (fun k=>(Value.slice ba od.l.length bc).ownBlock=some k∨w3.heap.size≤k) w2 w6:=(((HK3.out.mono iL).trans HK4.out fE).trans HK5.out (fun k hk=>.inl (.inr hk))).trans HK6.out fE
   have hd:=vI M w w1.drew w2 w6 w7 X bo t h bd D D2 S S2 R ib V last HON.out bs HBS.out ((K0.out.trans HK1.out iL).trans (za.drew _ w1) iL) hs1 HAFT.out HBB.out od.S false od.l want c (fun hw0 he=>by
    have:=HWA.out
    rw [he,jJ,hw0] at this
    simp [gt] at this) (yv od.l.length) (by unfold yv;omega) HCHG.out n HN.out _ k26 (fun k hk=>by
    rcases hk with hk|hk
    ·have h1:=HLG.out k hk
     exact⟨h1.1,fun hc=>by have:=HS2.out k hc;omega⟩
    ·exact⟨by omega,fun hc=>by have:=HS2L.out k hc;omega⟩) HK7.out w3.heap.size oa oc h' HO7.out HD7.out HH'.out _ _ HR6.out (fun k hk=>by rcases hk with hk|hk<;>omega) (fun k hk=>hk.imp id (fun hk=>by omega)) (zX.of_own 5 HO6.out rfl _ (fun k hk=>by have:=HN6.out k hk;omega))
   exact⟨zd (decide_eq_true (by omega)),hd.1,hd.2⟩
  ·have e1:(c !=0)=true:=by simpa using hc
   have e2:=hnum2 hc
   have e3:(n==0)=true:=by simpa using e2
   have HC:Hid _:=hc
   clear hc hnum hnum2 e2
   go_wp2_with fail
   go_region_held3 (fun w'=>w'.cell? ⟨w.heap.size,4,none⟩=some (.string od.S)∧w'.cell? ⟨w.heap.size,6,none⟩=some (.slice od.la od.l.length od.lc)) (go_keep) ((first
    |(go_at_call 98;refine(xF _ _ (by omega) (by omega)).mono ?_;rintro e w9 ⟨rfl,rfl⟩)
    |(go_at_call 99;refine(bk _ Q od.la od.lc od.l (by exact(HM5.out.kept (T:=fun _=>False) kD fE).op.l) hlen).mono ?_;rintro e w6 ⟨oa,oc,rfl,hown6,hk6,hnew6⟩;have HK6:Hid (za (fun _=>False) w5 w6):=⟨hk6.os,hk6.tape,hk6.output,hk6.size,hk6.block⟩;have HO6:Hid (w6.ownsRow 0 5 1 (.slice oa od.l.length oc) od.l.length (od.l.map qK)):=hown6;have HN6:Hid (∀k,(Value.slice oa od.l.length oc).ownBlock=some k→w5.heap.size≤k):=hnew6;have HM6:Hid _:=HM5.out.kept HK6.out fE;have hq46:=HM6.out.box.c4;have hq66:=HM6.out.box.c6;have HR6:Hid _:=zQ.kept HR5.out HK6.out nF nF;clear hown6 hk6 hnew6;obtain⟨h',hh'⟩:=HCASE.out oa od.l.length oc;have HH':Hid _:=hh';clear hh')
    |(go_at_call 97;refine(xi _ bo h (by exact(HM6.out.kept (T:=fun _=>False) kD fE).head) bd HON.out.hd S2 D2 (by exact(HM6.out.kept (T:=fun _=>False) kD fE).disk) ib HON.out.his R R V.vs last (by exact(HM6.out.kept (T:=fun _=>False) kD fE).ref) hfew HON.out.good.body c want _ (by omega) (by have:=hwl;omega) w3.heap.size od.S 0 false oa od.l.length oc _ _ _ _ (by exact zQ.kept (T:=fun _=>False) HR6.out kD nF nF) (by omega) HM5.out.hSb hdied0 (by omega) h' (by exact HH'.out)).mono ?_;rintro e w7 ⟨rfl,ho7,hd7,hk7⟩;have HO7:Hid _:=ho7;have HD7:Hid _:=hd7;have HK7:Hid (za (fun k=>k=bo∨S2 k) w6 w7):=⟨hk7.os,hk7.tape,hk7.output,hk7.size,hk7.block⟩;have hq47:w7.cell? ⟨w.heap.size,4,none⟩=some (.string od.S):=(HM6.out.box.kept HK7.out (fun hc=>hc.elim (fun e=>by omega) (fun hc=>by have:=HS2.out _ hc;omega))).c4;have hq67:w7.cell? ⟨w.heap.size,6,none⟩=some (.slice od.la od.l.length od.lc):=(HM6.out.box.kept HK7.out (fun hc=>hc.elim (fun e=>by omega) (fun hc=>by have:=HS2.out _ hc;omega))).c6;clear ho7 hd7 hk7)))
   go_wp2
   go_ret
   have k26:za (fun k=>(Value.slice ba od.l.length bc).ownBlock=some k∨w3.heap.size≤k) w2 w6:=(((HK3.out.mono iL).trans HK4.out fE).trans HK5.out (fun k hk=>.inl (.inr hk))).trans HK6.out fE
   have hd:=vI M w w1.drew w2 w6 w7 X bo t h bd D D2 S S2 R ib V last HON.out bs HBS.out ((K0.out.trans HK1.out iL).trans (za.drew _ w1) iL) hs1 HAFT.out HBB.out od.S false od.l want c (fun hw0 he=>by
    have:=HWA.out
    rw [he,jJ,hw0] at this
    simp [gt] at this) (yv od.l.length) (by unfold yv;omega) HCHG.out n HN.out _ k26 (fun k hk=>by
    rcases hk with hk|hk
    ·have h1:=HLG.out k hk
     exact⟨h1.1,fun hc=>by have:=HS2.out k hc;omega⟩
    ·exact⟨by omega,fun hc=>by have:=HS2L.out k hc;omega⟩) HK7.out w3.heap.size oa oc h' HO7.out HD7.out HH'.out _ _ HR6.out (fun k hk=>by rcases hk with hk|hk<;>omega) (fun k hk=>hk.imp id (fun hk=>by omega)) (zX.of_own 5 HO6.out rfl _ (fun k hk=>by have:=HN6.out k hk;omega))
   exact⟨zd (decide_eq_true (by omega)),hd.1,hd.2⟩
structure xk (M:zg):Prop where
 live:∀(w:World) (bd bs:Nat) (S:Nat→Prop) (D:Dk) (V:yt) (key:ByteArray) (num:Int),gX M w bd bs S D V→key.size≤maxLen→zY num→
  Calls Tryz.prog 31 #[.pointer (some ⟨bs,0,none⟩),.string key,.int .i64 num] w fun e w'=>∃D' S' c q,e=.returned (.int .i64 c)∧Y5 M w w' bd bs S S' D D' 40 q∧
   Chg M D D' V (V.sub key num) bd (Qk (zt key.data.toList) (y5 V.vs key num)) c 0 q
 shut:∀(w:World) (bs:Nat) (key:ByteArray) (num:Int),M.Sto w bs none→key.size≤maxLen→
  Calls Tryz.prog 31 #[.pointer (some ⟨bs,0,none⟩),.string key,.int .i64 num] w fun e w'=>e=.returned (.int .i64 (if zt key.data.toList=true then 8 else 2))∧M.Sto w' bs none∧za (fun k=>k=bs) w w'
theorem Y7(k:Bool)(o:Option zO):yU true (Qk k o)=if k=true then 8 else 2:=by cases k<;>cases o<;>rfl
theorem Y8(M:zg)(A:xk M)(w:World)(X:Nat→Prop)(bo t:Nat)(h:qn)(bd:Nat)(D:Dk)(S R:Nat→Prop)(ib:Nat)(V:yt)(last:Int)(o:xh M w X bo t h bd D S R ib V last)(ht:t≤4398046511104)(bs:Nat)(hbs:h.s=yw bs)
 (key:ByteArray) (hk:key.size≤maxLen) (num:Int) (hnum:zY num):
 Calls Tryz.prog 31 #[.pointer (some ⟨bs,0,none⟩),.string key,.int .i64 num] w fun e w'=>∃D' S' c,e=.returned (.int .i64 c)∧y7 M w w' bd bs S S' D D'∧
  vj M w' bs bd h D D' V (V.sub key num) (Qk (zt key.data.toList) (y5 V.vs key num)) c 0∧X bs∧¬S bs∧¬R bs∧bs≠bo:=by
 have hn0:=o.n0t
 have htt:=o.tt
 cases o.st with
 |live bs' hs' hX hS hR ho sto shut mb live=>
  have e:bs'=bs:=by rw [hs'] at hbs;unfold yw at hbs;simpa using hbs
  subst e
  refine(A.live w bd bs' S D V key num ⟨o.disk,hS,sto,live,o.fu,o.reads0,by have:=o.reads1;omega,by omega⟩ hk hnum).mono ?_
  rintro e w' ⟨D',S',c,q,h1,h2,h3⟩
  exact⟨D',S',c,h1,⟨h2.disk,h2.foot,h2.kept,h2.reads0,h2.reads1,h2.size,h2.fuse⟩,.live q shut h2.sto h3,hX,hS,hR,ho⟩
 |shut bs' hs' hX hS hR ho sto shut torn=>
  have e:bs'=bs:=by rw [hs'] at hbs;unfold yw at hbs;simpa using hbs
  subst e
  refine(A.shut w bs' key num sto hk).mono ?_
  rintro e w' ⟨h1,h2,h3⟩
  exact⟨D,S,_,h1,⟨o.disk.kept h3 (fun i hi hc=>hS (by rw [←hc];exact hi)),fun k hk=>.inl hk,h3.mono (fun k hk=>.inr hk),by omega,by omega,rfl,o.fu⟩,.shut shut h2 (Y7 _ _).symm rfl,hX,hS,hR,ho⟩
 |gone hs' torn=>rw [hs'] at hbs;cases hbs
theorem u9:∀(vs:List zO) (k:ByteArray) (n:Int),xz vs→(∃v∈vs,v.key=k∧v.num=n)→(qM vs k n).length+1=vs.length
 |[],k,n,_,⟨v,hv,_⟩=>by cases hv
 |u::vs,k,n,ha,⟨v,hv,h1,h2⟩=>by
  unfold xz at ha
  rw [List.pairwise_cons] at ha
  unfold qM
  rw [List.filter_cons]
  by_cases hu:u.key=k∧u.num=n
  ·have e1:(!(decide (u.key=k)&&decide (u.num=n)))=false:=by simp [hu.1,hu.2]
   rw [e1]
   simp only [Bool.false_eq_true,if_false,List.length_cons,Nat.add_right_cancel_iff]
   rw [List.filter_eq_self.2]
   intro x hx
   have:=ha.1 x hx
   have hne:¬(x.key=k∧x.num=n):=fun hc=>this ⟨hu.1.trans hc.1.symm,hu.2.trans hc.2.symm⟩
   rw [Bool.not_eq_true',Bool.eq_false_iff];simp only [ne_eq,Bool.and_eq_true,decide_eq_true_eq];exact hne
  ·have e1:(!(decide (u.key=k)&&decide (u.num=n)))=true:=by
    rw [Bool.not_eq_true',Bool.eq_false_iff];simp only [ne_eq,Bool.and_eq_true,decide_eq_true_eq];exact hu
   rw [e1,if_pos rfl]
   have hv':v∈vs:=by
    rcases List.mem_cons.1 hv with rfl|hv
    ·exact absurd ⟨h1,h2⟩ hu
    ·exact hv
   have:=u9 vs k n ha.2 ⟨v,hv',h1,h2⟩
   unfold qM at this
   simp only [List.length_cons];omega
theorem Qo(M:zg)(w w1 w2 w6 w7:World)(X:Nat→Prop)(bo t:Nat)(h:qn)(bd:Nat)(D D2:Dk)(S S2 R:Nat→Prop)(ib:Nat)(V:yt)(last:Int)(hone:xh M w X bo t h bd D S R ib V last)(bs:Nat)(hbs:h.s=yw bs)
 (kA:za (fun _=>False) w w1) (hs1:w.heap.size<w1.heap.size) (haft:y7 M w1 w2 bd bs S S2 D D2) (hbb:X bs∧¬S bs∧¬R bs∧bs≠bo) (key:ByteArray) (num:Int) (want c:Int) (hwant:want=0→∃v∈V.vs,v.key=key∧v.num=num)
 (hchg:vj M w2 bs bd h D D2 V (V.sub key num) want c 0) (T:Nat→Prop) (k26:za T w2 w6) (hT:∀k,T k→w.heap.size<k∧¬S2 k) (k67:za (fun k=>k=bo∨S2 k) w6 w7)
 (nb:Nat) (h':qn) (ho7:zA w7 bo h') (hd7:∃S7,zh w7 bd S7 D2∧∀k,S7 k→S2 k) (hh':jI h D2 V.vs c want 0 (yw nb) last ByteArray.empty 0 false none 0 0 h')
 (F6 G6:Nat→Prop) (hr6:zQ w6 F6 G6 nb (qM V.vs key num) last) (hF6:∀k,F6 k→w2.heap.size≤k) (hG6:∀k,G6 k→R k∨w2.heap.size≤k):
 (∃X',One M w7 X' bo (t+1)∧∀k,X' k→X k∨w.heap.size≤k)∧za X w w7:=by
 have hX:=hone.xlt
 have hbo:=hX bo hone.bX
 have hbsl:=hX bs hbb.1
 have hS2l:∀k,S2 k→k<w2.heap.size:=fun k hk=>haft.disk.lt k hk
 have hS2:∀k,S2 k→S k∨w1.heap.size≤k:=haft.foot
 have hsz2:=haft.kept.size
 have hsz6:=k26.size
 have hsz7:=k67.size
 have hSbo:¬S2 bo:=fun hc=>by
  rcases hS2 bo hc with h1|h1
  ·exact hone.bS h1
  ·omega
 have hSbs:¬S2 bs:=fun hc=>by
  rcases hS2 bs hc with h1|h1
  ·exact hbb.2.1 h1
  ·omega
 have hRlt:∀k,R k→k<w.heap.size:=fun k hk=>hX k (hone.rX k hk).1
 have hRS2:∀k,R k→¬S2 k:=fun k hk hc=>by
  have h1:=hRlt k hk
  rcases hS2 k hc with h2|h2
  ·exact(hone.rX k hk).2.1 h2
  ·omega
 obtain⟨S7,hdisk7,hS7⟩:=hd7
 have hkX:za X w w7:=(((kA.mono fE).trans haft.kept (fun k hk=>hk.elim (fun h1=>.inl (hone.sX k h1)) (fun h1=>.inl (by rw [h1];exact hbb.1)))).trans k26 (fun k hk=>.inr (by have:=(hT k hk).1;omega))).trans k67 (fun k hk=>by
  rcases hk with rfl|hk
  ·exact .inl hone.bX
  ·rcases hS2 k hk with h1|h1
   ·exact .inl (hone.sX k h1)
   ·exact .inr (by omega))
 refine⟨⟨fun k=>X k∨(w.heap.size≤k∧k<w7.heap.size),?_,fun k hk=>hk.imp id (fun h=>h.1)⟩,hkX⟩
 have hRT:∀k,R k→¬(S k∨k=bs):=fun k hk hc=>by
  rcases hc with hc|hc
  ·exact(hone.rX k hk).2.1 hc
  ·exact hbb.2.2.1 (by rw [←hc];exact hk)
 have hR26:∀k,R k→¬T k:=fun k hk hc=>by have:=(hT k hc).1;have:=hRlt k hk;omega
 have hR67:∀k,R k→¬(k=bo∨S2 k):=fun k hk hc=>hc.elim (hone.rX k hk).2.2 (hRS2 k hk)
 let R':Nat→Prop:=fun k=>R k∨(w2.heap.size≤k∧k<w6.heap.size)
 have hRR:∀k,R k→k<w7.heap.size→R' k:=fun k hk _=>.inl hk
 have href:zQ w7 R' R' ib V.vs last:=((((hone.ref.kept kA nF nF).kept haft.kept hRT hRT).kept k26 hR26 hR26).kept k67 hR67 hR67).mono hRR hRR
 have hR'67:∀k,R' k→¬(k=bo∨S2 k):=fun k hk hc=>by
  rcases hk with hk|hk
  ·exact hR67 k hk hc
  ·rcases hc with hc|hc
   ·omega
   ·have:=hS2l k hc;omega
 have hnext:zQ w7 R' R' nb (qM V.vs key num) last:=(hr6.mono (F':=R') (G':=R') (fun k hk hlt=>.inr ⟨hF6 k hk,hlt⟩) (fun k hk hlt=>(hG6 k hk).imp id (fun h=>⟨h,hlt⟩))).kept k67 hR'67 hR'67
 have hrX:∀k,R' k→(X k∨(w.heap.size≤k∧k<w7.heap.size))∧¬S7 k∧k≠bo:=fun k hk=>by
  refine⟨?_,fun hc=>hR'67 k hk (.inr (hS7 k hc)),fun hc=>hR'67 k hk (.inl hc)⟩
  rcases hk with hk|hk
  ·exact .inl (hone.rX k hk).1
  ·exact .inr ⟨by omega,by omega⟩
 have hR'bs:¬R' bs:=fun hc=>by
  rcases hc with hc|hc
  ·exact hbb.2.2.1 hc
  ·omega
 have hsto:∀q,M.Sto w2 bs q→M.Sto w7 bs q:=fun q hq=>M.sto_kept _ _ _ _ _ (M.sto_kept _ _ _ _ _ hq k26 (fun hc=>by have:=(hT bs hc).1;omega)) k67 (fun hc=>hc.elim hbb.2.2.2 hSbs)
 have hsX:∀k,S7 k→X k∨(w.heap.size≤k∧k<w7.heap.size):=fun k hk=>by
  have h1:=hS7 k hk
  rcases hS2 k h1 with h2|h2
  ·exact .inl (hone.sX k h2)
  ·exact .inr ⟨by omega,by have:=hS2l k h1;omega⟩
 have hxlt:∀k,(X k∨(w.heap.size≤k∧k<w7.heap.size))→k<w7.heap.size:=fun k hk=>by
  rcases hk with hk|hk
  ·have:=hX k hk;omega
  ·exact hk.2
 have hbS:¬S7 bo:=fun hc=>hSbo (hS7 bo hc)
 have hbsS:¬S7 bs:=fun hc=>hSbs (hS7 bs hc)
 have htt:=hone.tt
 have hr0:=hone.reads0
 have hr1:=hone.reads1
 have hrd0:=haft.reads0
 have hrd1:=haft.reads1
 have hl0:=hone.last0
 have hn0t:=hone.n0t
 have htold:=hone.told0
 have hdied:=hone.died0
 have hsize:=haft.size
 have hbig:=hone.big
 have hn00:=hone.good.n0
 have hd0:=hone.hd
 have hi0:=hone.his
 have same:h'=h→dv M w7 (fun k=>X k∨(w.heap.size≤k∧k<w7.heap.size)) S7 R' bo bd h D2 V last→One M w7 (fun k=>X k∨(w.heap.size≤k∧k<w7.heap.size)) bo (t+1):=fun e st=>by
  subst e
  exact⟨h',bd,D2,S7,R',ib,V,last,ho7,hd0,hi0,hdisk7,href,hsX,hrX,.inl hone.bX,hbS,hxlt,hl0,hone.lastv,htold,hdied,hn0t,by omega,by omega,by omega,haft.fuse,hone.good,by omega,st⟩
 cases hchg with
 |shut hs sto hc hD=>
  have e:h'=h:=by
   cases hh' with
   |shut=>rfl
   |want=>rfl
   |space h1=>simp [hs] at h1
   |ok h1=>rw [hs] at h1;cases h1
   |dead h1=>rw [hs] at h1;cases h1
  refine same e ?_
  cases hone.st with
  |live _ _ _ _ _ _ _ shut=>rw [hs] at shut;cases shut
  |gone hs'=>rw [hs'] at hbs;cases hbs
  |shut bs' hs' hX' hS' hR' ho' sto' shut' torn=>
   exact .shut bs hbs (.inl hbb.1) hbsS hR'bs hbb.2.2.2 (hsto _ sto) hs ((((((torn.kept kA nF).kept haft.kept hRT).kept k26 hR26).kept k67 hR67).mono hRR).reads hD)
 |live q hs sto chg=>
  have hst:=hone.st
  have hmb:h.mb=.pointer none:=by
   cases hst with
   |live bs' hs' hX' hS' hR' ho' sto' shut' mb=>exact mb
   |gone hs'=>rw [hs'] at hbs;cases hbs
   |shut bs' hs' hX' hS' hR' ho' sto' shut'=>rw [hs] at shut';cases shut'
  rcases chg.is with⟨h1,h2,h3,h4⟩|⟨h1,h2,h3,h4⟩|⟨h1,h2,h3,h4,_⟩|⟨h1,h2,h3,h4,h5⟩
  ·subst h3
   have e:h'=h:=by
    cases hh' with
    |shut=>rfl
    |want=>rfl
    |space=>rfl
    |ok _ hw'=>exact absurd hw' h1
    |dead _ hw'=>exact absurd hw' h1
   exact same e (.live bs hbs (.inl hbb.1) hbsS hR'bs hbb.2.2.2 (hsto _ sto) hs hmb h4)
  ·subst h3
   have e:h'={h with is:=yw nb}:=by
    cases hh' with
    |shut hs2=>rw [hs] at hs2;cases hs2
    |want _ hw'=>exact absurd h1 hw'
    |space _ _ hc'=>omega
    |ok=>unfold qn.okd;rw [if_neg (by omega)]
    |dead _ _ hc'=>omega
   have hgood:=h4.good
   have hmem:∀v,v∈(V.sub key num).vs→v∈V.vs:=fun v hv=>(List.mem_filter.1 hv).1
   subst e
   exact⟨_,bd,D2,S7,R',nb,V.sub key num,last,ho7,hd0,rfl,hdisk7,hnext,hsX,hrX,.inl hone.bX,hbS,hxlt,hl0,fun v hv=>hone.lastv v (hmem v hv),htold,hdied,hn0t,Int.le_trans htt (by omega),by omega,by omega,haft.fuse,hgood,by omega,.live bs hbs (.inl hbb.1) hbsS hR'bs hbb.2.2.2 (hsto _ sto) hs hmb h4⟩
  ·subst h3
   have e:h'=h:=by
    cases hh' with
    |shut=>rfl
    |want=>rfl
    |space=>rfl
    |ok _ _ hc'=>omega
    |dead _ _ hc'=>omega
   exact same e (.live bs hbs (.inl hbb.1) hbsS hR'bs hbb.2.2.2 (hsto _ sto) hs hmb h4)
  ·subst h3
   have e:h'={h with shut:=true,mb:=yw nb,k0:=.string ByteArray.empty,k1:=.int .i64 0,k2:=.bool false,k3:=.slice none 0 0,died:=h.died+1}:=by
    cases hh' with
    |shut hs2=>rw [hs] at hs2;cases hs2
    |want _ hw'=>exact absurd h1 hw'
    |space _ _ hc'=>omega
    |ok _ _ hc'=>omega
    |dead=>rfl
   subst e
   refine⟨_,bd,D2,S7,R',ib,V,last,ho7,hd0,hi0,hdisk7,href,hsX,hrX,.inl hone.bX,hbS,hxlt,hl0,hone.lastv,htold,?_,?_,?_,by omega,by omega,haft.fuse,hone.good,by omega,
    .shut bs hbs (.inl hbb.1) hbsS hR'bs hbb.2.2.2 (hsto _ sto) rfl (.erase nb (qM V.vs key num) 0 false none 0 0 rfl rfl rfl rfl rfl hnext (u9 V.vs key num hone.good.apart (hwant h1)) (fun v hv=>(List.mem_filter.1 hv).1) h5)⟩
   ·show 0≤h.died+1;omega
   ·show V.n0≤h.told+(h.died+1);omega
   ·show h.told+(h.died+1)≤((t+1:Nat):Int);omega
theorem Qp(M:zg)(A:xk M)(w:World)(X:Nat→Prop)(bo t:Nat)(h:qn)(bd:Nat)(D:Dk)(S R:Nat→Prop)(ib:Nat)(V:yt)(last:Int)(hone:xh M w X bo t h bd D S R ib V last)(ht:t≤2199023255552)(bs:Nat)(hbs:h.s=yw bs)
 (od:yf) (Q:Nat→Prop) (hop:od.Ok w Q) (hQ:∀k,Q k→¬X k∧k<w.heap.size):
 Calls Tryz.prog 62 #[.pointer (some ⟨bo,0,none⟩),.agg #[.int .i64 od.kind,.int .i64 od.A,.int .i64 od.B,.int .i64 od.C,.string od.S,.string od.P,.slice od.la od.l.length od.lc,.slice od.ka od.ks.length od.kc]] w fun e w'=>Stepped M w w' X bo t e:=by
 have hxlt:=hone.xlt
 have k0:za (fun _=>False) w (w.alloc (.cells #[.int .i64 od.kind,.int .i64 od.A,.int .i64 od.B,.int .i64 od.C,.string od.S,.string od.P,.slice od.la od.l.length od.lc,.slice od.ka od.ks.length od.kc] 81)):=za.alloc _ _ _
 have hb0:yS (w.alloc (.cells #[.int .i64 od.kind,.int .i64 od.A,.int .i64 od.B,.int .i64 od.C,.string od.S,.string od.P,.slice od.la od.l.length od.lc,.slice od.ka od.ks.length od.kc] 81)) w.heap.size od:=⟨heap_alloc_new w _⟩
 have hop0:=hop.kept k0 nF
 have hone0:=hone.kept k0 nF
 have hs1:w.heap.size<(w.alloc (.cells #[.int .i64 od.kind,.int .i64 od.A,.int .i64 od.B,.int .i64 od.C,.string od.S,.string od.P,.slice od.la od.l.length od.lc,.slice od.ka od.ks.length od.kc] 81)).heap.size:=by simp
 have hc0:=hone0.head.c0
 rw [hone0.hd] at hc0
 unfold yw at hc0
 have hc1:=hone0.head.c1
 rw [hbs] at hc1
 unfold yw at hc1
 have hq4:=hb0.c4
 have hq2:=hb0.c2
 have HB0:Hid _:=hb0
 have HOP0:Hid _:=hop0
 have HON0:Hid _:=hone0
 have HON:Hid _:=hone
 have HOP:Hid _:=hop
 have HQ:Hid _:=hQ
 have HBS:Hid _:=hbs
 have HX:Hid _:=hxlt
 have hboX:=hxlt bo hone.bX
 have K0:Hid _:=k0
 have HS1:Hid _:=hs1
 have hfew:=hone.good.few
 have hr00:=hone.reads0
 have hr01:=hone.reads1
 clear k0 hb0 hop0 hone0 hone hop hQ hbs hxlt hs1
 generalize hW0:w.alloc (.cells #[.int .i64 od.kind,.int .i64 od.A,.int .i64 od.B,.int .i64 od.C,.string od.S,.string od.P,.slice od.la od.l.length od.lc,.slice od.ka od.ks.length od.kc] 81)=w0 at*
 have HW0:Hid _:=hW0
 go_enter Tryz.func62,Tryz.ntmps62
 go_wp2_with fail
 obtain⟨xa,xp,xbc,xpc,hdk⟩:=HON0.out.disk
 refine(yc _ bd S D xa xp xbc xpc hdk).mono ?_
 rintro e w9 ⟨rfl,hw9⟩
 rw [hw9]
 clear hw9 w9 hdk
 go_wp2_with fail
 go_region_held3 (fun w'=>w'.cell? ⟨bo,1,none⟩=some (.pointer (some ⟨bs,0,none⟩))∧w'.cell? ⟨w.heap.size,4,none⟩=some (.string od.S)∧w'.cell? ⟨w.heap.size,2,none⟩=some (.int .i64 od.B)) (go_keep) ((go_at_call 31;refine(Y8 M A _ X bo t h bd D S R ib V last (by exact HON0.out.kept (za.drew (fun _=>False) w0) nF) (by omega) bs HBS.out od.S HOP.out.S od.B HOP.out.B).mono ?_;rintro e w2 ⟨D2,S2,c,rfl,haft,hchg,hXb,hSb,hRb,hbob⟩;have HAFT:Hid (y7 M w0.drew w2 bd bs S S2 D D2):=haft;have HCHG:Hid _:=hchg;have HBB:Hid _:=(⟨hXb,hSb,hRb,hbob⟩:X bs∧¬S bs∧¬R bs∧bs≠bo);clear haft hchg hXb hSb hRb hbob;have HM2:Hid _:=bz HON0.out HX.out HB0.out HOP0.out HQ.out HS1.out HAFT.out HBB.out;have hc12:=HM2.out.head.c1;rw [HBS.out] at hc12;unfold yw at hc12;have hq42:=HM2.out.box.c4;have hq22:=HM2.out.box.c2))
 have hc0:=HM2.out.head.c0
 rw [HON.out.hd] at hc0
 unfold yw at hc0
 have hc2:=HM2.out.head.c2
 rw [HON.out.his] at hc2
 unfold yw at hc2
 have hS2:∀k,S2 k→k<w.heap.size∨w0.heap.size≤k:=fun k hk=>(HAFT.out.foot k hk).imp (fun h=>HX.out k (HON0.out.sX k h)) (fun h=>h)
 have hS2l:∀k,S2 k→k<w2.heap.size:=fun k hk=>HAFT.out.disk.lt k hk
 have HS2:Hid _:=hS2
 have HS2L:Hid _:=hS2l
 have hsz2:w0.heap.size≤w2.heap.size:=HAFT.out.kept.size
 have hs1:=HS1.out
 clear hS2 hS2l
 go_wp2_with fail
 obtain⟨xa2,xp2,xbc2,xpc2,hdk2⟩:=HM2.out.disk
 refine(yc _ bd S2 D2 xa2 xp2 xbc2 xpc2 hdk2).mono ?_
 rintro e w9 ⟨rfl,hw9⟩
 rw [hw9]
 clear hw9 w9 hdk2
 go_wp2_with fail
 go_region_held3 (fun w'=>w'.cell? ⟨bo,2,none⟩=some (.pointer (some ⟨ib,0,none⟩))∧w'.cell? ⟨w.heap.size,4,none⟩=some (.string od.S)∧w'.cell? ⟨w.heap.size,2,none⟩=some (.int .i64 od.B)) (go_keep) ((go_at_call 101;refine(gT _ R R ib V.vs last (by exact(HM2.out.kept (za.drew (fun _=>False) w2) fE).ref) (by omega) od.S HOP.out.S od.B).mono ?_;rintro e w9 ⟨rfl,hw9⟩;subst hw9))
 generalize hwant:Qk (zt od.S.data.toList) (y5 V.vs od.S od.B)=want at*
 have HWA:Hid _:=hwant
 clear hwant
 have hk3:za (fun _=>False) w2 w2.drew:=kD
 have HK3:Hid _:=hk3
 have HM3:Hid _:=HM2.out.kept hk3 fE
 have hs3:w2.heap.size=w2.drew.heap.size:=rfl
 clear hk3
 generalize w2.drew=w3 at*
 have hc2:=HM3.out.head.c2
 rw [HON.out.his] at hc2
 unfold yw at hc2
 have hq43:=HM3.out.box.c4
 have hq23:=HM3.out.box.c2
 go_wp2_with fail
 refine(gU _ R R ib V.vs last HM3.out.ref (by omega)).mono ?_
 rintro e w4 ⟨rfl,hr4,hk4⟩
 have hm4:=HM3.out.kept hk4 fE
 have hs4:=hk4.size
 have hq44:=hm4.box.c4
 have hq24:=hm4.box.c2
 have HM4:Hid _:=hm4
 have HR4:Hid (zQ w4 (fun k=>w3.heap.size≤k) R w3.heap.size V.vs last):=hr4
 have HK4:Hid _:=hk4
 clear hm4 hk4 hr4
 go_wp2_with fail
 have hr4':zQ w4 (fun k=>w3.heap.size≤k∧k<w4.heap.size) R w3.heap.size V.vs last:=zQ.mono HR4.out (fun i hi hl=>⟨hi,hl⟩) (fun i hi _=>hi)
 refine(Qm _ (fun k=>w3.heap.size≤k∧k<w4.heap.size) R w3.heap.size V.vs last hr4' (fun k hk hc=>by have:=HM4.out.hR k hc;have hk':w3.heap.size≤k:=hk.1;omega) (fun k hk=>hk.2) (fun k hk=>by have:=HM4.out.hR k hk;have:=HM4.out.lt;omega) (by omega) od.S od.B).mono ?_
 rintro e w5 ⟨rfl,hr5,hk5⟩
 have hm5:=HM4.out.kept hk5 (fun k hk=>⟨by have hk':w3.heap.size≤k:=hk.1;omega,fun hc=>by have:=HS2L.out k hc;have hk':w3.heap.size≤k:=hk.1;omega⟩)
 have hs5:=hk5.size
 have hq45:=hm5.box.c4
 have HM5:Hid _:=hm5
 have HR5:Hid (zQ w5 (fun k=>(w3.heap.size≤k∧k<w4.heap.size)∨w4.heap.size≤k) R w3.heap.size (qM V.vs od.S od.B) last):=hr5
 have HK5:Hid _:=hk5
 clear hm5 hk5 hr5
 have hdied0:=HON.out.died0
 have htold0:=HON.out.told0
 have htt:=HON.out.tt
 have hrd0:=HAFT.out.reads0
 have hrd1:=HAFT.out.reads1
 obtain⟨h',hh'⟩:=HCHG.out.case HAFT.out.size (.pointer (some ⟨w3.heap.size,0,none⟩)) last ByteArray.empty 0 false none 0 0
 have HH':Hid _:=hh'
 clear hh' hr4'
 go_wp2_with fail
 refine(xi _ bo h HM5.out.head bd HON.out.hd S2 D2 HM5.out.disk ib HON.out.his R R V.vs last HM5.out.ref hfew HON.out.good.body c want 0 (by omega) (by omega) w3.heap.size ByteArray.empty 0 false none 0 0 _ _ _ _ HR5.out (by omega) HM5.out.hSb hdied0 (by omega) h' HH'.out).mono ?_
 rintro e w7 ⟨rfl,ho7,hd7,hk7⟩
 have HO7:Hid _:=ho7
 have HD7:Hid _:=hd7
 have HK7:Hid _:=hk7
 clear ho7 hd7 hk7
 go_wp2
 go_ret
 have k26:za (fun k=>w3.heap.size≤k) w2 w5:=(((HK3.out.mono fE).trans HK4.out fE)).trans HK5.out (fun k hk=>.inl hk.1)
 have hd:=Qo M w w0.drew w2 w5 w7 X bo t h bd D D2 S S2 R ib V last HON.out bs HBS.out (K0.out.trans (za.drew _ w0) iL) HS1.out HAFT.out HBB.out od.S od.B want c (fun hw0=>by
  have h1:=HWA.out
  rw [hw0] at h1
  cases hkb:zt od.S.data.toList
  ·rw [hkb] at h1;simp [Qk] at h1
  ·rw [hkb] at h1
   cases hfv:y5 V.vs od.S od.B with
   |none=>rw [hfv] at h1;simp [Qk] at h1
   |some v=>obtain⟨g1,g2,g3⟩:=uo hfv;exact⟨v,g3,g1,g2⟩) HCHG.out _ k26 (fun k hk=>⟨by omega,fun hc=>by have:=HS2L.out k hc;omega⟩) HK7.out w3.heap.size h' HO7.out HD7.out HH'.out _ _ HR5.out (fun k hk=>by rcases hk with hk|hk<;>omega) (fun k hk=>.inl hk)
 exact⟨zd (decide_eq_true (by omega)),hd.1,hd.2⟩
structure vk (M:zg):Prop where
 live:∀(w:World) (bd bs:Nat) (S:Nat→Prop) (D:Dk) (V:yt) (key:ByteArray),gX M w bd bs S D V→key.size≤maxLen→
  Calls Tryz.prog 30 #[.pointer (some ⟨bs,0,none⟩),.string key] w fun e w'=>∃D' S' c n q,e=.returned (.tuple #[.int .i64 n,.int .i64 c])∧Y5 M w w' bd bs S S' D D' 40 q∧
   Chg M D D' V (V.add key true []) bd (qF (zt key.data.toList) (kX V.vs key)) c 1 q∧n=if c=0 then V.n0+1 else 0
 shut:∀(w:World) (bs:Nat) (key:ByteArray),M.Sto w bs none→key.size≤maxLen→
  Calls Tryz.prog 30 #[.pointer (some ⟨bs,0,none⟩),.string key] w fun e w'=>e=.returned (.tuple #[.int .i64 0,.int .i64 (if zt key.data.toList=true then 8 else 2)])∧M.Sto w' bs none∧za (fun k=>k=bs) w w'
theorem Y9(k b:Bool):yU true (qF k b)=if k=true then 8 else 2:=by cases k<;>cases b<;>rfl
theorem Qq(M:zg)(A:vk M)(w:World)(X:Nat→Prop)(bo t:Nat)(h:qn)(bd:Nat)(D:Dk)(S R:Nat→Prop)(ib:Nat)(V:yt)(last:Int)(o:xh M w X bo t h bd D S R ib V last)(ht:t≤4398046511104)(bs:Nat)(hbs:h.s=yw bs)
 (key:ByteArray) (hk:key.size≤maxLen):
 Calls Tryz.prog 30 #[.pointer (some ⟨bs,0,none⟩),.string key] w fun e w'=>∃D' S' c n,e=.returned (.tuple #[.int .i64 n,.int .i64 c])∧y7 M w w' bd bs S S' D D'∧
  vj M w' bs bd h D D' V (V.add key true []) (qF (zt key.data.toList) (kX V.vs key)) c 1∧n=(if c=0 then V.n0+1 else 0)∧X bs∧¬S bs∧¬R bs∧bs≠bo:=by
 have hn0:=o.n0t
 have htt:=o.tt
 cases o.st with
 |live bs' hs' hX hS hR ho sto shut mb live=>
  have e:bs'=bs:=by rw [hs'] at hbs;unfold yw at hbs;simpa using hbs
  subst e
  refine(A.live w bd bs' S D V key ⟨o.disk,hS,sto,live,o.fu,o.reads0,by have:=o.reads1;omega,by omega⟩ hk).mono ?_
  rintro e w' ⟨D',S',c,n,q,h1,h2,h3,h4⟩
  exact⟨D',S',c,n,h1,⟨h2.disk,h2.foot,h2.kept,h2.reads0,h2.reads1,h2.size,h2.fuse⟩,.live q shut h2.sto h3,h4,hX,hS,hR,ho⟩
 |shut bs' hs' hX hS hR ho sto shut torn=>
  have e:bs'=bs:=by rw [hs'] at hbs;unfold yw at hbs;simpa using hbs
  subst e
  refine(A.shut w bs' key sto hk).mono ?_
  rintro e w' ⟨h1,h2,h3⟩
  refine⟨D,S,_,0,h1,⟨o.disk.kept h3 (fun i hi hc=>hS (by rw [←hc];exact hi)),fun k hk=>.inl hk,h3.mono (fun k hk=>.inr hk),by omega,by omega,rfl,o.fu⟩,.shut shut h2 (Y9 _ _).symm rfl,?_,hX,hS,hR,ho⟩
  rw [if_neg]
  split<;>omega
 |gone hs' torn=>rw [hs'] at hbs;cases hbs
theorem cJ(M:zg)(A:vk M)(w:World)(X:Nat→Prop)(bo t:Nat)(h:qn)(bd:Nat)(D:Dk)(S R:Nat→Prop)(ib:Nat)(V:yt)(last:Int)(hone:xh M w X bo t h bd D S R ib V last)(ht:t≤2199023255552)(bs:Nat)(hbs:h.s=yw bs)
 (od:yf) (Q:Nat→Prop) (hop:od.Ok w Q) (hQ:∀k,Q k→¬X k∧k<w.heap.size):
 Calls Tryz.prog 61 #[.pointer (some ⟨bo,0,none⟩),.agg #[.int .i64 od.kind,.int .i64 od.A,.int .i64 od.B,.int .i64 od.C,.string od.S,.string od.P,.slice od.la od.l.length od.lc,.slice od.ka od.ks.length od.kc]] w fun e w'=>Stepped M w w' X bo t e:=by
 have hxlt:=hone.xlt
 have k0:za (fun _=>False) w (w.alloc (.cells #[.int .i64 od.kind,.int .i64 od.A,.int .i64 od.B,.int .i64 od.C,.string od.S,.string od.P,.slice od.la od.l.length od.lc,.slice od.ka od.ks.length od.kc] 81)):=za.alloc _ _ _
 have hb0:yS (w.alloc (.cells #[.int .i64 od.kind,.int .i64 od.A,.int .i64 od.B,.int .i64 od.C,.string od.S,.string od.P,.slice od.la od.l.length od.lc,.slice od.ka od.ks.length od.kc] 81)) w.heap.size od:=⟨heap_alloc_new w _⟩
 have hop0:=hop.kept k0 nF
 have hone0:=hone.kept k0 nF
 have hs1:w.heap.size<(w.alloc (.cells #[.int .i64 od.kind,.int .i64 od.A,.int .i64 od.B,.int .i64 od.C,.string od.S,.string od.P,.slice od.la od.l.length od.lc,.slice od.ka od.ks.length od.kc] 81)).heap.size:=by simp
 have hc0:=hone0.head.c0
 rw [hone0.hd] at hc0
 unfold yw at hc0
 have hc1:=hone0.head.c1
 rw [hbs] at hc1
 unfold yw at hc1
 have hq4:=hb0.c4
 have HB0:Hid _:=hb0
 have HOP0:Hid _:=hop0
 have HON0:Hid _:=hone0
 have HON:Hid _:=hone
 have HOP:Hid _:=hop
 have HQ:Hid _:=hQ
 have HBS:Hid _:=hbs
 have HX:Hid _:=hxlt
 have hboX:=hxlt bo hone.bX
 have K0:Hid _:=k0
 have HS1:Hid _:=hs1
 have hfew:=hone.good.few
 have hr00:=hone.reads0
 have hr01:=hone.reads1
 clear k0 hb0 hop0 hone0 hone hop hQ hbs hxlt hs1
 generalize hW0:w.alloc (.cells #[.int .i64 od.kind,.int .i64 od.A,.int .i64 od.B,.int .i64 od.C,.string od.S,.string od.P,.slice od.la od.l.length od.lc,.slice od.ka od.ks.length od.kc] 81)=w0 at*
 have HW0:Hid _:=hW0
 go_enter Tryz.func61,Tryz.ntmps61
 go_wp2_with fail
 obtain⟨xa,xp,xbc,xpc,hdk⟩:=HON0.out.disk
 refine(yc _ bd S D xa xp xbc xpc hdk).mono ?_
 rintro e w9 ⟨rfl,hw9⟩
 rw [hw9]
 clear hw9 w9 hdk
 go_wp2_with fail
 go_region_held3 (fun w'=>w'.cell? ⟨bo,1,none⟩=some (.pointer (some ⟨bs,0,none⟩))∧w'.cell? ⟨w.heap.size,4,none⟩=some (.string od.S)) (go_keep) ((go_at_call 30;refine(Qq M A _ X bo t h bd D S R ib V last (by exact HON0.out.kept (za.drew (fun _=>False) w0) nF) (by omega) bs HBS.out od.S HOP.out.S).mono ?_;rintro e w2 ⟨D2,S2,c,n,rfl,haft,hchg,hn,hXb,hSb,hRb,hbob⟩;have HAFT:Hid (y7 M w0.drew w2 bd bs S S2 D D2):=haft;have HCHG:Hid _:=hchg;have HN:Hid _:=hn;have HBB:Hid _:=(⟨hXb,hSb,hRb,hbob⟩:X bs∧¬S bs∧¬R bs∧bs≠bo);clear haft hchg hn hXb hSb hRb hbob;have HM2:Hid _:=bz HON0.out HX.out HB0.out HOP0.out HQ.out HS1.out HAFT.out HBB.out;have hc12:=HM2.out.head.c1;rw [HBS.out] at hc12;unfold yw at hc12;have hq42:=HM2.out.box.c4))
 have hc0:=HM2.out.head.c0
 rw [HON.out.hd] at hc0
 unfold yw at hc0
 have hc2:=HM2.out.head.c2
 rw [HON.out.his] at hc2
 unfold yw at hc2
 have hS2:∀k,S2 k→k<w.heap.size∨w0.heap.size≤k:=fun k hk=>(HAFT.out.foot k hk).imp (fun h=>HX.out k (HON0.out.sX k h)) (fun h=>h)
 have hS2l:∀k,S2 k→k<w2.heap.size:=fun k hk=>HAFT.out.disk.lt k hk
 have HS2:Hid _:=hS2
 have HS2L:Hid _:=hS2l
 have hsz2:w0.heap.size≤w2.heap.size:=HAFT.out.kept.size
 have hs1:=HS1.out
 clear hS2 hS2l
 go_wp2_with fail
 obtain⟨xa2,xp2,xbc2,xpc2,hdk2⟩:=HM2.out.disk
 refine(yc _ bd S2 D2 xa2 xp2 xbc2 xpc2 hdk2).mono ?_
 rintro e w9 ⟨rfl,hw9⟩
 rw [hw9]
 clear hw9 w9 hdk2
 go_wp2_with fail
 go_region_held3 (fun w'=>w'.cell? ⟨bo,2,none⟩=some (.pointer (some ⟨ib,0,none⟩))∧w'.cell? ⟨w.heap.size,4,none⟩=some (.string od.S)) (go_keep) ((go_at_call 100;refine(gw _ R R ib V.vs last (by exact(HM2.out.kept (za.drew (fun _=>False) w2) fE).ref) (by omega) od.S HOP.out.S).mono ?_;rintro e w9 ⟨rfl,m9,rfl⟩))
 generalize hwant:qF (zt od.S.data.toList) (kX V.vs od.S)=want at*
 have HWA:Hid _:=hwant
 clear hwant
 have hk3:za (fun _=>False) w2 (w2.drewN (1+m9)):=kD
 have HK3:Hid _:=hk3
 have HM3:Hid _:=HM2.out.kept hk3 fE
 have hs3:w2.heap.size=(w2.drewN (1+m9)).heap.size:=rfl
 clear hk3
 generalize w2.drewN (1+m9)=w3 at*
 have hc2:=HM3.out.head.c2
 rw [HON.out.his] at hc2
 unfold yw at hc2
 have hq43:=HM3.out.box.c4
 go_wp2_with fail
 refine(gU _ R R ib V.vs last HM3.out.ref (by omega)).mono ?_
 rintro e w4 ⟨rfl,hr4,hk4⟩
 have hm4:=HM3.out.kept hk4 fE
 have hs4:=hk4.size
 have hq44:=hm4.box.c4
 have HM4:Hid _:=hm4
 have HR4:Hid (zQ w4 (fun k=>w3.heap.size≤k) R w3.heap.size V.vs last):=hr4
 have HK4:Hid _:=hk4
 clear hm4 hk4 hr4
 go_wp2_with fail
 refine(gI _ (fun k=>w3.heap.size≤k) R Q w3.heap.size V.vs last HR4.out (fun k hk hc=>by have:=HM4.out.hR k hc;have hk':w3.heap.size≤k:=hk;omega) (by omega) od.S n true none 0 [] (.inl rfl) (by simp)).mono ?_
 rintro e w5 ⟨rfl,hr5,hk5⟩
 have hm5:=HM4.out.kept hk5 (fun k hk=>⟨by have hk':w3.heap.size≤k:=hk;omega,fun hc=>by have:=HS2L.out k hc;have hk':w3.heap.size≤k:=hk;omega⟩)
 have hs5:=hk5.size
 have hq45:=hm5.box.c4
 have HM5:Hid _:=hm5
 have HR5:Hid (zQ w5 (fun k=>(w3.heap.size≤k)∨w4.heap.size≤k) (fun k=>R k∨w4.heap.size≤k) w3.heap.size (V.vs++[⟨od.S,n,true,[]⟩]) (max last n)):=hr5
 have HK5:Hid _:=hk5
 clear hm5 hk5 hr5
 have htold0:=HON.out.told0
 have hdied0:=HON.out.died0
 have htt:=HON.out.tt
 go_wp2_with fail
 refine(vH _ bo h HM5.out.head ib HON.out.his R R V.vs last HM5.out.ref n htold0 (by omega) hdied0 (by omega)).mono ?_
 rintro e w9 ⟨rfl,m10,hw9⟩
 rw [hw9]
 clear hw9 w9
 have hl0:=HON.out.last0
 have hn0t:=HON.out.n0t
 have hrd0:=HAFT.out.reads0
 have hrd1:=HAFT.out.reads1
 have hnum:c=0→bq n last h.told h.died=true:=fun hc=>by
  have:=HN.out
  rw [if_pos hc] at this
  unfold bq
  exact decide_eq_true (by omega)
 have hnum2:c≠0→n=0:=fun hc=>by
  have:=HN.out
  rw [if_neg hc] at this
  exact this
 generalize bq n last h.told h.died=nb9 at*
 obtain⟨h',hh'⟩:=HCHG.out.case HAFT.out.size (.pointer (some ⟨w3.heap.size,0,none⟩)) (max last n) od.S 0 true none 0 0
 have HH':Hid _:=hh'
 clear hh'
 by_cases hc:c=0
 ·have e1:(c !=0)=false:=by simpa using hc
  have e2:=hnum hc
  subst e2
  have HC:Hid _:=hc
  clear hc hnum hnum2
  go_wp2_with fail
  go_region_held3 (fun w'=>w'.cell? ⟨w.heap.size,4,none⟩=some (.string od.S)) (go_keep) ((first
   |(go_at_call 98;refine(xF _ _ (by omega) (by omega)).mono ?_;rintro e w9 ⟨rfl,rfl⟩)
   |(go_at_call 97;refine(xi _ bo h (by exact(X0.kept (wy:=w5.drewN (m10+1)) HM5.out (T:=fun _=>False) kD fE).head) bd HON.out.hd S2 D2 (by exact(X0.kept (wy:=w5.drewN (m10+1)) HM5.out (T:=fun _=>False) kD fE).disk) ib HON.out.his R R V.vs last (by exact(X0.kept (wy:=w5.drewN (m10+1)) HM5.out (T:=fun _=>False) kD fE).ref) hfew HON.out.good.body c want _ (by omega) (by decide) w3.heap.size od.S 0 true none 0 0 _ _ _ _ (by exact zQ.kept (T:=fun _=>False) HR5.out kD nF nF) (by omega) HM5.out.hSb hdied0 (by omega) h' (by exact HH'.out)).mono ?_;rintro e w7 ⟨rfl,ho7,hd7,hk7⟩;have HO7:Hid _:=ho7;have HD7:Hid _:=hd7;have HK7:Hid (za (fun k=>k=bo∨S2 k) w5 w7):=⟨hk7.os,hk7.tape,hk7.output,hk7.size,hk7.block⟩;have hq47:w7.cell? ⟨w.heap.size,4,none⟩=some (.string od.S):=(HM5.out.box.kept HK7.out (fun hc=>hc.elim (fun e=>by omega) (fun hc=>by have:=HS2.out _ hc;omega))).c4;clear ho7 hd7 hk7)))
  go_wp2
  go_ret
  have k26:za (fun k=>w3.heap.size≤k) w2 w5:=(((HK3.out.mono fE).trans HK4.out fE)).trans HK5.out (fun k hk=>.inl hk)
  have hd:=vI M w w0.drew w2 w5 w7 X bo t h bd D D2 S S2 R ib V last HON.out bs HBS.out (K0.out.trans (za.drew _ w0) iL) HS1.out HAFT.out HBB.out od.S true [] want c (fun hw0 he=>by
   have:=HWA.out
   rw [he,jJ,hw0] at this
   simp [qF] at this) 1 (by omega) HCHG.out n HN.out _ k26 (fun k hk=>⟨by omega,fun hc=>by have:=HS2L.out k hc;omega⟩) HK7.out w3.heap.size none 0 h' HO7.out HD7.out HH'.out _ _ HR5.out (fun k hk=>by rcases hk with hk|hk<;>omega) (fun k hk=>hk.imp id (fun hk=>by omega)) (.inl rfl)
  exact⟨zd (decide_eq_true (by omega)),hd.1,hd.2⟩
 ·have e1:(c !=0)=true:=by simpa using hc
  have e2:=hnum2 hc
  have e3:(n==0)=true:=by simpa using e2
  have HC:Hid _:=hc
  clear hc hnum hnum2 e2
  go_wp2_with fail
  go_region_held3 (fun w'=>w'.cell? ⟨w.heap.size,4,none⟩=some (.string od.S)) (go_keep) ((first
   |(go_at_call 98;refine(xF _ _ (by omega) (by omega)).mono ?_;rintro e w9 ⟨rfl,rfl⟩)
   |(go_at_call 97;refine(xi _ bo h (by exact(X0.kept (wy:=w5.drewN (m10+1)) HM5.out (T:=fun _=>False) kD fE).head) bd HON.out.hd S2 D2 (by exact(X0.kept (wy:=w5.drewN (m10+1)) HM5.out (T:=fun _=>False) kD fE).disk) ib HON.out.his R R V.vs last (by exact(X0.kept (wy:=w5.drewN (m10+1)) HM5.out (T:=fun _=>False) kD fE).ref) hfew HON.out.good.body c want _ (by omega) (by decide) w3.heap.size od.S 0 true none 0 0 _ _ _ _ (by exact zQ.kept (T:=fun _=>False) HR5.out kD nF nF) (by omega) HM5.out.hSb hdied0 (by omega) h' (by exact HH'.out)).mono ?_;rintro e w7 ⟨rfl,ho7,hd7,hk7⟩;have HO7:Hid _:=ho7;have HD7:Hid _:=hd7;have HK7:Hid (za (fun k=>k=bo∨S2 k) w5 w7):=⟨hk7.os,hk7.tape,hk7.output,hk7.size,hk7.block⟩;have hq47:w7.cell? ⟨w.heap.size,4,none⟩=some (.string od.S):=(HM5.out.box.kept HK7.out (fun hc=>hc.elim (fun e=>by omega) (fun hc=>by have:=HS2.out _ hc;omega))).c4;clear ho7 hd7 hk7)))
  go_wp2
  go_ret
  have k26:za (fun k=>w3.heap.size≤k) w2 w5:=(((HK3.out.mono fE).trans HK4.out fE)).trans HK5.out (fun k hk=>.inl hk)
  have hd:=vI M w w0.drew w2 w5 w7 X bo t h bd D D2 S S2 R ib V last HON.out bs HBS.out (K0.out.trans (za.drew _ w0) iL) HS1.out HAFT.out HBB.out od.S true [] want c (fun hw0 he=>by
   have:=HWA.out
   rw [he,jJ,hw0] at this
   simp [qF] at this) 1 (by omega) HCHG.out n HN.out _ k26 (fun k hk=>⟨by omega,fun hc=>by have:=HS2L.out k hc;omega⟩) HK7.out w3.heap.size none 0 h' HO7.out HD7.out HH'.out _ _ HR5.out (fun k hk=>by rcases hk with hk|hk<;>omega) (fun k hk=>hk.imp id (fun hk=>by omega)) (.inl rfl)
  exact⟨zd (decide_eq_true (by omega)),hd.1,hd.2⟩
end law
namespace law
open Go.RowKit disk ref book
open keys (zt)
inductive bA (M:zg) (w':World) (bs bd:Nat) (h:qn) (D D':Dk) (V:yt):Prop
 |shut (hs:h.shut=true) (sto:M.Sto w' bs none) (hD:D'={D with reads:=D'.reads })
 |live (hs:h.shut=false) (sto:M.Sto w' bs (some bd)) (live:M.Live D' V)
structure Told (w w':World) (S':Nat→Prop) (o:Option zO) (x:Value) (c:Int):Prop where
 yes:c=0→∃u a cap,o=some u∧x=.slice a u.body.length cap∧w'.ownsRow 0 5 1 (.slice a u.body.length cap) u.body.length (u.body.map qK)∧∀k,(Value.slice a u.body.length cap).ownBlock=some k→w.heap.size≤k∧¬S' k
 no:c≠0→∃a cap,x=.slice a 0 cap
theorem cK(M:zg)(w w1 w2 w7:World)(X:Nat→Prop)(bo t:Nat)(h:qn)(bd:Nat)(D D2:Dk)(S S2 R:Nat→Prop)(ib:Nat)(V:yt)(last:Int)(hone:xh M w X bo t h bd D S R ib V last)(bs:Nat)(hbs:h.s=yw bs)
 (kA:za (fun _=>False) w w1) (hs1:w.heap.size≤w1.heap.size) {most:Int} (haft:y7 M w1 w2 bd bs S S2 D D2 most) (hbb:X bs∧¬S bs∧¬R bs∧bs≠bo) (hask:bA M w2 bs bd h D D2 V) (T:Nat→Prop) (k27:za T w2 w7) (hT:∀k,T k→¬X k∧¬S2 k) (hmost:most≤1000:=by decide):
 One M w7 (fun k=>X k∨S2 k) bo (t+1):=by
 have hX:=hone.xlt
 have hbo:=hX bo hone.bX
 have hbsl:=hX bs hbb.1
 have hS2l:∀k,S2 k→k<w2.heap.size:=fun k hk=>haft.disk.lt k hk
 have hS2:∀k,S2 k→S k∨w1.heap.size≤k:=haft.foot
 have hsz2:=haft.kept.size
 have hsz7:=k27.size
 have hSbo:¬S2 bo:=fun hc=>by
  rcases hS2 bo hc with h1|h1
  ·exact hone.bS h1
  ·omega
 have hSbs:¬S2 bs:=fun hc=>by
  rcases hS2 bs hc with h1|h1
  ·exact hbb.2.1 h1
  ·omega
 have hRlt:∀k,R k→k<w.heap.size:=fun k hk=>hX k (hone.rX k hk).1
 have hRS2:∀k,R k→¬S2 k:=fun k hk hc=>by
  have h1:=hRlt k hk
  rcases hS2 k hc with h2|h2
  ·exact(hone.rX k hk).2.1 h2
  ·omega
 have hRT:∀k,R k→¬(S k∨k=bs):=fun k hk hc=>by
  rcases hc with hc|hc
  ·exact(hone.rX k hk).2.1 hc
  ·exact hbb.2.2.1 (by rw [←hc];exact hk)
 have hR7:∀k,R k→¬T k:=fun k hk hc=>(hT k hc).1 (hone.rX k hk).1
 have k12:za (fun k=>S k∨k=bs) w w2:=(kA.mono fE).trans haft.kept iL
 have hr1:=hone.reads1
 have hr0:=hone.reads0
 have hrd0:=haft.reads0
 have hrd1:=haft.reads1
 have hsize:=haft.size
 have hbig:=hone.big
 have hsto:∀q,M.Sto w2 bs q→M.Sto w7 bs q:=fun q hq=>M.sto_kept _ _ _ _ _ hq k27 (fun hc=>(hT bs hc).1 hbb.1)
 refine⟨h,bd,D2,S2,R,ib,V,last,(hone.head.kept k12 (fun hc=>hc.elim hone.bS (fun e=>hbb.2.2.2 e.symm))).kept k27 (fun hc=>(hT bo hc).1 hone.bX),hone.hd,hone.his,haft.disk.kept k27 (fun i hi hc=>(hT i hc).2 hi),
  (hone.ref.kept k12 hRT hRT).kept k27 hR7 hR7,fun k hk=>.inr hk,fun k hk=>⟨.inl (hone.rX k hk).1,hRS2 k hk,(hone.rX k hk).2.2⟩,.inl hone.bX,hSbo,fun k hk=>?_,hone.last0,hone.lastv,hone.told0,hone.died0,hone.n0t,Int.le_trans hone.tt (by omega),by omega,by omega,haft.fuse,hone.good,by omega,?_⟩
 ·rcases hk with hk|hk
  ·have:=hX k hk;have:=k12.size;omega
  ·have:=hS2l k hk;omega
 ·cases hask with
  |live hs sto live=>
   have hmb:h.mb=.pointer none:=by
    cases hone.st with
    |live bs' hs' hX' hS' hR' ho' sto' shut' mb=>exact mb
    |gone hs'=>rw [hs'] at hbs;cases hbs
    |shut bs' hs' hX' hS' hR' ho' sto' shut'=>rw [hs] at shut';cases shut'
   exact .live bs hbs (.inl hbb.1) hSbs hbb.2.2.1 hbb.2.2.2 (hsto _ sto) hs hmb live
  |shut hs sto hD=>
   cases hone.st with
   |live _ _ _ _ _ _ _ shut=>rw [hs] at shut;cases shut
   |gone hs'=>rw [hs'] at hbs;cases hbs
   |shut bs' hs' hX' hS' hR' ho' sto' shut' torn=>
    exact .shut bs hbs (.inl hbb.1) hSbs hbb.2.2.1 hbb.2.2.2 (hsto _ sto) hs (((torn.kept k12 hRT).kept k27 hR7).reads hD)
theorem Qr{s:Bool}{c:Int}(h:yU s c=0):c=0:=by
 cases s with
 |false=>exact h
 |true=>
  have h2:(if c=0∨c=5 then (8:Int) else c)=0:=h
  by_cases hc:c=0∨c=5
  ·rw [if_pos hc] at h2;omega
  ·rw [if_neg hc] at h2;exact h2
structure Vz (M:zg) (w w':World) (X:Nat→Prop) (bo t bp:Nat) (lv:Value) (F H:Nat→Prop) (b:Option Addr) (cb:Nat) (es vs:List jo) (e:Ending):Prop where
 ret:e=.returned (.bool true)
 st:∃X' F' a' ca' es',One M w' X' bo (t+1)∧ji w' bp lv F' H a' b ca' cb es' vs∧es'.length≤es.length+1∧(∀k,X' k→X k∨w.heap.size≤k)∧(∀k,F' k→F k∨w.heap.size≤k)∧∀k,X' k→¬F' k∧¬H k∧k≠bp
 kept:za (fun k=>X k∨F k∨k=bp) w w'
def Jh(v:zO):List Value:=[.string v.key,.int .i64 v.num,.bool v.mark,.int .i64 (v.body.length:Int)]
def yM(l:List zO):List Value:=(l.map Jh).flatten
structure gZ (w w':World) (L:List zO) (m:Nat) (x:Value) (more:Bool):Prop where
 more:more=decide (m<L.length)
 at_:∃a c,x=.slice a (L.take m).length c∧w'.ownsRow 0 94 4 (.slice a (L.take m).length c) (L.take m).length (yM (L.take m))∧∀k,(Value.slice a (L.take m).length c).ownBlock=some k→w.heap.size≤k
structure jK (M:zg):Prop where
 live:∀(w:World) (bd bs:Nat) (S:Nat→Prop) (D:Dk) (V:yt) (p k:ByteArray) (n m:Int),gX M w bd bs S D V→p.size≤maxLen→k.size≤maxLen→zY n→zY m→
  Calls Tryz.prog 45 #[.pointer (some ⟨bs,0,none⟩),.string p,.string k,.int .i64 n,.int .i64 m] w fun e w'=>∃D' S' x more,e=.returned (.tuple #[.agg #[x,.bool more],.int .i64 (qs p k n m)])∧Y5 M w w' bd bs S S' D D' 1000 (some bd)∧M.Live D' V∧
   (qs p k n m=0→∃L,xA V.vs p k n L∧gZ w w' L m.toNat x more)∧(qs p k n m≠0→x=.slice none 0 0∧more=false)∧∀j,x.ownBlock=some j→¬S' j
 shut:∀(w:World) (bs:Nat) (p k:ByteArray) (n m:Int),M.Sto w bs none→p.size≤maxLen→k.size≤maxLen→
  Calls Tryz.prog 45 #[.pointer (some ⟨bs,0,none⟩),.string p,.string k,.int .i64 n,.int .i64 m] w fun e w'=>e=.returned (.tuple #[.agg #[.slice none 0 0,.bool false],.int .i64 (yU true (qs p k n m))])∧M.Sto w' bs none∧za (fun k=>k=bs) w w'
end law
end Go.Proofs.YtcoengihaobddaaGreatDoor
