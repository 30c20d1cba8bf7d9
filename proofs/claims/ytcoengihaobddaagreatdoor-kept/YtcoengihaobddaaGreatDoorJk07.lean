/- Part 7 of 34 of a proof: Law5, Law15, Keep1, Law6, Law17, Book5 -/
import Derived.Test.YtcoengihaobddaaGreatDoorJk06
set_option maxHeartbeats 8000000
set_option linter.unusedVariables false
set_option linter.unusedSimpArgs false
set_option maxRecDepth 8000
namespace Go.Proofs.YtcoengihaobddaaGreatDoor
namespace law
open Go.ChangeShapes Go.WideShapes Go.ChangeAt Go.RowKit disk ref book
open keys (ze zd zr zn zu)
structure jf (w:World) (b:Nat) (o:v7):Prop where
 at_:w.heap[b]? =some (.cells #[.int .i64 o.kind,.int .i64 o.A,.int .i64 o.B,.int .i64 o.C,.string o.S,.string o.P,.slice o.la o.l.length o.lc,.slice o.ka o.ks.length o.kc] 81 (0,0))
theorem jf.lt{w:World}{b:Nat}{o:v7}(h:jf w b o):b<w.heap.size:=(lT h.at_)
theorem jf.kept{w w':World}{b:Nat}{o:v7}{T:Nat→Prop}(h:jf w b o)(k:Kept T w w')(hn:¬T b):jf w' b o:=⟨(k.block b h.lt hn).trans h.at_⟩
theorem jf.c0{w:World}{b:Nat}{o:v7}(h:jf w b o):w.cell? ⟨b,0,none⟩=some (.int .i64 o.kind):=cR h.at_ rfl
theorem jf.c1{w:World}{b:Nat}{o:v7}(h:jf w b o):w.cell? ⟨b,1,none⟩=some (.int .i64 o.A):=cR h.at_ rfl
theorem jf.c2{w:World}{b:Nat}{o:v7}(h:jf w b o):w.cell? ⟨b,2,none⟩=some (.int .i64 o.B):=cR h.at_ rfl
theorem jf.c3{w:World}{b:Nat}{o:v7}(h:jf w b o):w.cell? ⟨b,3,none⟩=some (.int .i64 o.C):=cR h.at_ rfl
theorem jf.c4{w:World}{b:Nat}{o:v7}(h:jf w b o):w.cell? ⟨b,4,none⟩=some (.string o.S):=cR h.at_ rfl
theorem jf.c6{w:World}{b:Nat}{o:v7}(h:jf w b o):w.cell? ⟨b,6,none⟩=some (.slice o.la o.l.length o.lc):=cR h.at_ rfl
structure VG (B:Nat) (wx:World) (bo:Nat) (h:qG) (bd:Nat) (D2:Dk) (S2 R:Nat→Prop) (ib:Nat) (V:qe) (last:Int) (od:v7) (Q:Nat→Prop):Prop where
 head:zC wx bo h
 disk:zh wx bd S2 D2
 ref:qy wx R R ib V.vs last
 box:jf wx B od
 op:od.Ok wx Q
 lt:B<wx.heap.size
 hbo:bo<B
 hR:∀k,R k→k<B
 hQ:∀k,Q k→k<B
 hSb:¬S2 bo
theorem VG.kept{B:Nat}{wx wy:World}{bo:Nat}{h:qG}{bd:Nat}{D2:Dk}{S2 R:Nat→Prop}{ib:Nat}{V:qe}{last:Int}{od:v7}{Q T:Nat→Prop}(m:VG B wx bo h bd D2 S2 R ib V last od Q)(k:Kept T wx wy)(hs:∀k,T k→B<k∧¬S2 k):VG B wy bo h bd D2 S2 R ib V last od Q:=
 ⟨m.head.kept k (fun hc=>by have:=(hs _ hc).1;have:=m.hbo;omega),m.disk.kept k (fun i hi hc=>(hs i hc).2 hi),m.ref.kept k (fun i hi hc=>by have:=(hs i hc).1;have:=m.hR i hi;omega) (fun i hi hc=>by have:=(hs i hc).1;have:=m.hR i hi;omega),
  m.box.kept k (fun hc=>by have:=(hs _ hc).1;omega),m.op.kept k (fun i hi hc=>by have:=(hs i hc).1;have:=m.hQ i hi;omega),Nat.lt_of_lt_of_le m.lt k.size,m.hbo,m.hR,m.hQ,m.hSb⟩
theorem KV{M:zc}{w w1 w2:World}{X:Nat→Prop}{bo t:Nat}{h:qG}{bd:Nat}{D D2:Dk}{S S2 R:Nat→Prop}{ib:Nat}{V:qe}{last:Int}{od:v7}{Q:Nat→Prop}{bs:Nat}{most:Int}(o:uH M w1 X bo t h bd D S R ib V last)(hX:∀k,X k→k<w.heap.size)(hb:jf w1 w.heap.size od)(hop:od.Ok w1 Q)(hQ:∀k,Q k→¬X k∧k<w.heap.size)(hs:w.heap.size<w1.heap.size)
 (haft:Qo M w1.drew w2 bd bs S S2 D D2 most) (hbb:X bs∧¬S bs∧¬R bs∧bs≠bo):VG w.heap.size w2 bo h bd D2 S2 R ib V last od Q:=by
 have kd:Kept (fun k=>S k∨k=bs) w1 w2:=(Kept.drew _ w1).trans haft.kept iL
 have hbo:=hX bo o.bX
 refine⟨o.head.kept kd (fun hc=>hc.elim o.bS (fun e=>hbb.2.2.2 e.symm)),haft.disk,o.ref.kept kd (fun i hi hc=>?_) (fun i hi hc=>?_),hb.kept kd (fun hc=>?_),hop.kept kd (fun i hi hc=>?_),Nat.lt_of_lt_of_le hs kd.size,hbo,fun k hk=>hX k (o.rX k hk).1,fun k hk=>(hQ k hk).2,fun hc=>?_⟩
 ·rcases hc with hc|hc
  ·exact(o.rX i hi).2.1 hc
  ·exact hbb.2.2.1 (by rw [←hc];exact hi)
 ·rcases hc with hc|hc
  ·exact(o.rX i hi).2.1 hc
  ·exact hbb.2.2.1 (by rw [←hc];exact hi)
 ·rcases hc with hc|hc
  ·have:=hX _ (o.sX _ hc);omega
  ·have:=hX _ hbb.1;omega
 ·rcases hc with hc|hc
  ·exact(hQ i hi).1 (o.sX i hc)
  ·exact(hQ i hi).1 (by rw [hc];exact hbb.1)
 ·rcases haft.foot bo hc with h1|h1
  ·exact o.bS h1
  ·have h2:w1.drew.heap.size=w1.heap.size:=rfl
   omega
theorem Yu(M:zc)(A:yj M)(w:World)(X:Nat→Prop)(bo t:Nat)(h:qG)(bd:Nat)(D:Dk)(S R:Nat→Prop)(ib:Nat)(V:qe)(last:Int)(hone:uH M w X bo t h bd D S R ib V last)(ht:t≤2199023255552)(bs:Nat)(hbs:h.s=gC bs)
 (od:v7) (Q:Nat→Prop) (hop:od.Ok w Q) (hQ:∀k,Q k→¬X k∧k<w.heap.size):
 Calls Tryz.prog 60 #[.pointer (some ⟨bo,0,none⟩),.agg #[.int .i64 od.kind,.int .i64 od.A,.int .i64 od.B,.int .i64 od.C,.string od.S,.string od.P,.slice od.la od.l.length od.lc,.slice od.ka od.ks.length od.kc]] w fun e w'=>Stepped M w w' X bo t e:=by
 have hxlt:=hone.xlt
 have k0:Kept (fun _=>False) w (w.alloc (.cells #[.int .i64 od.kind,.int .i64 od.A,.int .i64 od.B,.int .i64 od.C,.string od.S,.string od.P,.slice od.la od.l.length od.lc,.slice od.ka od.ks.length od.kc] 81)):=Kept.alloc _ _ _
 have hb0:jf (w.alloc (.cells #[.int .i64 od.kind,.int .i64 od.A,.int .i64 od.B,.int .i64 od.C,.string od.S,.string od.P,.slice od.la od.l.length od.lc,.slice od.ka od.ks.length od.kc] 81)) w.heap.size od:=⟨heap_alloc_new w _⟩
 have hop0:=hop.kept k0 nF
 have hone0:=hone.kept k0 nF
 have hlen:=hop.len
 have HB0:Hid _:=hb0
 have HOP0:Hid _:=hop0
 have HON0:Hid _:=hone0
 have HON:Hid _:=hone
 have HOP:Hid _:=hop
 have HQ:Hid _:=hQ
 have HBS:Hid _:=hbs
 have HX:Hid _:=hxlt
 have hboX:=hxlt bo hone.bX
 have K0:Hid _:=k0
 clear k0 hb0 hop0 hone0 hone hop hQ hbs hxlt
 go_enter Tryz.func60,Tryz.ntmps60
 go_wp2_with fail
 refine(Jd _ Q od.la od.lc od.l HOP0.out.l hlen).mono ?_
 rintro e w1 ⟨ba,bc,rfl,hlv,hk1⟩
 have hone1:=HON0.out.kept hk1 nF
 have hb1:=HB0.out.kept hk1 (fun hf=>hf)
 have hc0:=hone1.head.c0
 rw [hone1.hd] at hc0
 unfold gC at hc0
 have hc1:=hone1.head.c1
 rw [HBS.out] at hc1
 unfold gC at hc1
 have hq4:=hb1.c4
 have HON1:Hid _:=hone1
 have HB1:Hid _:=hb1
 have hlv':xc w1 (w.heap.size+1) od.la od.l ba bc:=by simpa using hlv
 have HLV:Hid (xc w1 (w.heap.size+1) od.la od.l ba bc):=hlv'
 clear hlv'
 have HK1:Hid _:=hk1
 clear hone1 hb1 hlv hk1
 go_wp2_with fail
 obtain⟨xa,xp,xbc,xpc,hdk⟩:=HON1.out.disk
 refine(vZ _ bd S D xa xp xbc xpc hdk).mono ?_
 rintro e w9 ⟨rfl,hw9⟩
 rw [hw9]
 clear hw9 w9 hdk
 go_wp2_with fail
 have hs1:w.heap.size<w1.heap.size:=HB1.out.lt
 have HOP1:Hid _:=HOP0.out.kept HK1.out nF
 go_region_held3 (fun w'=>w'.cell? ⟨bo,1,none⟩=some (.pointer (some ⟨bs,0,none⟩))∧w'.cell? ⟨w.heap.size,4,none⟩=some (.string od.S)) (go_keep) ((go_at_call 27;refine(Kr M A _ X bo t h bd D S R ib V last (by exact HON1.out.kept (Kept.drew (fun _=>False) w1) nF) (by omega) bs HBS.out od.S HOP.out.S ba bc od.l (fun k=>w.heap.size+1≤k) (by exact(xc.bytes HLV.out).kept (Kept.drew (fun _=>False) w1) nF) (fun k hk hc=>by have:=HX.out k hc;omega) (by omega) (xc.cap HLV.out).1 (xc.cap HLV.out).2).mono ?_;rintro e w2 ⟨D2,S2,c,n,rfl,haft,hchg,hn,hXb,hSb,hRb,hbob⟩;have HAFT:Hid _:=haft;have HCHG:Hid _:=hchg;have HN:Hid _:=hn;have HBB:Hid _:=(⟨hXb,hSb,hRb,hbob⟩:X bs∧¬S bs∧¬R bs∧bs≠bo);clear haft hchg hn hXb hSb hRb hbob;have HM2:Hid _:=KV HON1.out HX.out HB1.out HOP1.out HQ.out hs1 HAFT.out HBB.out;have hc12:=HM2.out.head.c1;rw [HBS.out] at hc12;unfold gC at hc12;have hq42:=HM2.out.box.c4))
 all_goals
  have hm2:=HM2.out
  have hS2:∀k,S2 k→k<w.heap.size∨w1.heap.size≤k:=fun k hk=>(HAFT.out.foot k hk).imp (fun h=>HX.out k (HON1.out.sX k h)) (fun h=>h)
  have hS2l:∀k,S2 k→k<w2.heap.size:=fun k hk=>HAFT.out.disk.lt k hk
  have hlg:∀g,(Value.slice ba od.l.length bc).ownBlock=some g→w.heap.size<g∧g<w1.heap.size:=fun g hg=>by
   rcases HLV.out with⟨_,_,h1,_⟩|⟨ad,g',_,h1,h2,h3⟩
   ·rw [h1] at hg;cases hg
   ·rw [h1] at hg
    simp [Value.ownBlock] at hg
    obtain⟨_,cur,h4,_⟩:=h3
    have:=(lT h4)
    omega
  have hlv2:xc w2 (w.heap.size+1) od.la od.l ba bc:=xc.kept HLV.out ((Kept.drew _ w1).trans HAFT.out.kept iL) (fun g hg hc=>by
   have h1:=hlg g hg
   rcases hc with hc|hc
   ·have:=HX.out g (HON1.out.sX g hc);omega
   ·have:=HX.out _ HBB.out.1;omega)
  have hsz2:w1.heap.size≤w2.heap.size:=HAFT.out.kept.size
  have hc0:=hm2.head.c0
  rw [HON1.out.hd] at hc0
  unfold gC at hc0
  have hq6:=hm2.box.c6
  have hq4:=hm2.box.c4
  have HS2:Hid _:=hS2
  have HS2L:Hid _:=hS2l
  have HLG:Hid _:=hlg
  have HLV2:Hid (xc w2 (w.heap.size+1) od.la od.l ba bc):=hlv2
  clear hm2 hS2 hS2l hlg hlv2
  go_wp2_with fail
  obtain⟨xa2,xp2,xbc2,xpc2,hdk2⟩:=HM2.out.disk
  refine(vZ _ bd S2 D2 xa2 xp2 xbc2 xpc2 hdk2).mono ?_
  rintro e w9 ⟨rfl,hw9⟩
  rw [hw9]
  clear hw9 w9 hdk2
  go_wp2_with fail
  refine(bn _ Q (w.heap.size+1) od.la od.lc od.l HM2.out.op.l hlen ba bc HLV2.out (fun k hk=>by have:=(HQ.out k hk).2;omega)).mono ?_
  rintro e w3 ⟨rfl,hk3⟩
  have hm3:=HM2.out.kept hk3 (fun k hk=>by
   have h1:=HLG.out k hk
   exact⟨h1.1,fun hc=>by have:=HS2.out k hc;omega⟩)
  have hs3:=hk3.size
  have hq6:=hm3.box.c6
  have hq4:=hm3.box.c4
  have hc2:=hm3.head.c2
  rw [HON1.out.his] at hc2
  unfold gC at hc2
  have HM3:Hid _:=hm3
  have HK3:Hid _:=hk3
  clear hm3 hk3
  go_wp2_with fail
  refine(dW _ od.S HOP.out.S od.la od.l.length od.lc).mono ?_
  rintro e w9 ⟨rfl,hw9⟩
  rw [hw9]
  clear hw9 w9
  generalize hwant:kB (zu od.S.data.toList) od.l.length=want at*
  have HWA:Hid _:=hwant
  clear hwant
  have hfew:=HON.out.good.few
  go_wp2_with fail
  refine(X0 _ R R ib V.vs last HM3.out.ref (by omega)).mono ?_
  rintro e w4 ⟨rfl,hr4,hk4⟩
  have hm4:=HM3.out.kept hk4 fE
  have hs4:=hk4.size
  have hq6:=hm4.box.c6
  have hq4:=hm4.box.c4
  have HM4:Hid _:=hm4
  have HR4:Hid (qy w4 (fun k=>w3.heap.size≤k) R w3.heap.size V.vs last):=hr4
  have HK4:Hid _:=hk4
  clear hm4 hk4 hr4
  go_wp2_with fail
  refine(Yr _ (fun k=>w3.heap.size≤k) R Q w3.heap.size V.vs last HR4.out (fun k hk hc=>by have:=HM4.out.hR k hc;have hk':w3.heap.size≤k:=hk;omega) (by omega) od.S n false od.la od.lc od.l HM4.out.op.l (by omega)).mono ?_
  rintro e w5 ⟨rfl,hr5,hk5⟩
  have hm5:=HM4.out.kept hk5 (fun k hk=>⟨by have hk':w3.heap.size≤k:=hk;omega,fun hc=>by have:=HS2L.out k hc;have hk':w3.heap.size≤k:=hk;omega⟩)
  have hs5:=hk5.size
  have hq6:=hm5.box.c6
  have hq4:=hm5.box.c4
  have HM5:Hid _:=hm5
  have HR5:Hid (qy w5 (fun k=>(w3.heap.size≤k)∨w4.heap.size≤k) (fun k=>R k∨w4.heap.size≤k) w3.heap.size (V.vs++[⟨od.S,n,false,od.l⟩]) (max last n)):=hr5
  have HK5:Hid _:=hk5
  clear hm5 hk5 hr5
  have htold0:=HON.out.told0
  have hdied0:=HON.out.died0
  have htt:=HON.out.tt
  go_wp2_with fail
  refine(bh _ bo h HM5.out.head ib HON.out.his R R V.vs last HM5.out.ref n htold0 (by omega) hdied0 (by omega)).mono ?_
  rintro e w9 ⟨rfl,m9,hw9⟩
  rw [hw9]
  clear hw9 w9
  have hl0:=HON.out.last0
  have hn0t:=HON.out.n0t
  have hrd0:=HAFT.out.reads0
  have hrd1:=HAFT.out.reads1
  have hr00:=HON.out.reads0
  have hr01:=HON.out.reads1
  have hnum:c=0→Y5 n last h.told h.died=true:=fun hc=>by
   have:=HN.out
   rw [if_pos hc] at this
   unfold Y5
   exact decide_eq_true (by omega)
  have hnum2:c≠0→n=0:=fun hc=>by
   have:=HN.out
   rw [if_neg hc] at this
   exact this
  generalize Y5 n last h.told h.died=nb9 at*
  have hcase:=fun ka kl kc=>HCHG.out.case HAFT.out.size (.pointer (some ⟨w3.heap.size,0,none⟩)) (max last n) od.S 0 false ka kl kc
  have HCASE:Hid _:=hcase
  clear hcase
  have hwl:(qr od.l.length:Int)≤1125899906842624:=by unfold qr;omega
  by_cases hc:c=0
  ·have e1:(c !=0)=false:=by simpa using hc
   have e2:=hnum hc
   subst e2
   have HC:Hid _:=hc
   clear hc hnum hnum2
   go_wp2_with fail
   go_region_held3 (fun w'=>w'.cell? ⟨w.heap.size,4,none⟩=some (.string od.S)∧w'.cell? ⟨w.heap.size,6,none⟩=some (.slice od.la od.l.length od.lc)) (go_keep) ((first
    |(go_at_call 98;refine(jw _ _ (by omega) (by omega)).mono ?_;rintro e w9 ⟨rfl,rfl⟩)
    |(go_at_call 99;refine(dZ _ Q od.la od.lc od.l (by exact(HM5.out.kept (T:=fun _=>False) kD fE).op.l) hlen).mono ?_;rintro e w6 ⟨oa,oc,rfl,hown6,hk6,hnew6⟩;have HK6:Hid (Kept (fun _=>False) w5 w6):=⟨hk6.os,hk6.tape,hk6.output,hk6.size,hk6.block⟩;have HO6:Hid (w6.ownsRow 0 5 1 (.slice oa od.l.length oc) od.l.length (od.l.map qc)):=hown6;have HN6:Hid (∀k,(Value.slice oa od.l.length oc).ownBlock=some k→w5.heap.size≤k):=hnew6;have HM6:Hid _:=HM5.out.kept HK6.out fE;have hq46:=HM6.out.box.c4;have hq66:=HM6.out.box.c6;have HR6:Hid _:=qy.kept HR5.out HK6.out nF nF;clear hown6 hk6 hnew6;obtain⟨h',hh'⟩:=HCASE.out oa od.l.length oc;have HH':Hid _:=hh';clear hh')
    |(go_at_call 97;refine(uI _ bo h (by exact(HM6.out.kept (T:=fun _=>False) kD fE).head) bd HON.out.hd S2 D2 (by exact(HM6.out.kept (T:=fun _=>False) kD fE).disk) ib HON.out.his R R V.vs last (by exact(HM6.out.kept (T:=fun _=>False) kD fE).ref) hfew HON.out.good.body c want _ (by omega) (by have:=hwl;omega) w3.heap.size od.S 0 false oa od.l.length oc _ _ _ _ (by exact qy.kept (T:=fun _=>False) HR6.out kD nF nF) (by omega) HM5.out.hSb hdied0 (by omega) h' (by exact HH'.out)).mono ?_;rintro e w7 ⟨rfl,ho7,hd7,hk7⟩;have HO7:Hid _:=ho7;have HD7:Hid _:=hd7;have HK7:Hid (Kept (fun k=>k=bo∨S2 k) w6 w7):=⟨hk7.os,hk7.tape,hk7.output,hk7.size,hk7.block⟩;have hq47:w7.cell? ⟨w.heap.size,4,none⟩=some (.string od.S):=(HM6.out.box.kept HK7.out (fun hc=>hc.elim (fun e=>by omega) (fun hc=>by have:=HS2.out _ hc;omega))).c4;have hq67:w7.cell? ⟨w.heap.size,6,none⟩=some (.slice od.la od.l.length od.lc):=(HM6.out.box.kept HK7.out (fun hc=>hc.elim (fun e=>by omega) (fun hc=>by have:=HS2.out _ hc;omega))).c6;clear ho7 hd7 hk7)))
   go_wp2
   go_ret
   have k26:Kept (fun k=>(Value.slice ba od.l.length bc).ownBlock=some k∨w3.heap.size≤k) w2 w6:=(((HK3.out.mono iL).trans HK4.out fE).trans HK5.out (fun k hk=>.inl (.inr hk))).trans HK6.out fE
   have hd:=cD M w w1.drew w2 w6 w7 X bo t h bd D D2 S S2 R ib V last HON.out bs HBS.out ((K0.out.trans HK1.out iL).trans (Kept.drew _ w1) iL) hs1 HAFT.out HBB.out od.S false od.l want c (fun hw0 he=>by
    have:=HWA.out
    rw [he,gE,hw0] at this
    simp [kB] at this) (qr od.l.length) (by unfold qr;omega) HCHG.out n HN.out _ k26 (fun k hk=>by
    rcases hk with hk|hk
    ·have h1:=HLG.out k hk
     exact⟨h1.1,fun hc=>by have:=HS2.out k hc;omega⟩
    ·exact⟨by omega,fun hc=>by have:=HS2L.out k hc;omega⟩) HK7.out w3.heap.size oa oc h' HO7.out HD7.out HH'.out _ _ HR6.out (fun k hk=>by rcases hk with hk|hk<;>omega) (fun k hk=>hk.imp id (fun hk=>by omega)) (zv.of_own 5 HO6.out rfl _ (fun k hk=>by have:=HN6.out k hk;omega))
   exact⟨zd (decide_eq_true (by omega)),hd.1,hd.2⟩
  ·have e1:(c !=0)=true:=by simpa using hc
   have e2:=hnum2 hc
   have e3:(n==0)=true:=by simpa using e2
   have HC:Hid _:=hc
   clear hc hnum hnum2 e2
   go_wp2_with fail
   go_region_held3 (fun w'=>w'.cell? ⟨w.heap.size,4,none⟩=some (.string od.S)∧w'.cell? ⟨w.heap.size,6,none⟩=some (.slice od.la od.l.length od.lc)) (go_keep) ((first
    |(go_at_call 98;refine(jw _ _ (by omega) (by omega)).mono ?_;rintro e w9 ⟨rfl,rfl⟩)
    |(go_at_call 99;refine(dZ _ Q od.la od.lc od.l (by exact(HM5.out.kept (T:=fun _=>False) kD fE).op.l) hlen).mono ?_;rintro e w6 ⟨oa,oc,rfl,hown6,hk6,hnew6⟩;have HK6:Hid (Kept (fun _=>False) w5 w6):=⟨hk6.os,hk6.tape,hk6.output,hk6.size,hk6.block⟩;have HO6:Hid (w6.ownsRow 0 5 1 (.slice oa od.l.length oc) od.l.length (od.l.map qc)):=hown6;have HN6:Hid (∀k,(Value.slice oa od.l.length oc).ownBlock=some k→w5.heap.size≤k):=hnew6;have HM6:Hid _:=HM5.out.kept HK6.out fE;have hq46:=HM6.out.box.c4;have hq66:=HM6.out.box.c6;have HR6:Hid _:=qy.kept HR5.out HK6.out nF nF;clear hown6 hk6 hnew6;obtain⟨h',hh'⟩:=HCASE.out oa od.l.length oc;have HH':Hid _:=hh';clear hh')
    |(go_at_call 97;refine(uI _ bo h (by exact(HM6.out.kept (T:=fun _=>False) kD fE).head) bd HON.out.hd S2 D2 (by exact(HM6.out.kept (T:=fun _=>False) kD fE).disk) ib HON.out.his R R V.vs last (by exact(HM6.out.kept (T:=fun _=>False) kD fE).ref) hfew HON.out.good.body c want _ (by omega) (by have:=hwl;omega) w3.heap.size od.S 0 false oa od.l.length oc _ _ _ _ (by exact qy.kept (T:=fun _=>False) HR6.out kD nF nF) (by omega) HM5.out.hSb hdied0 (by omega) h' (by exact HH'.out)).mono ?_;rintro e w7 ⟨rfl,ho7,hd7,hk7⟩;have HO7:Hid _:=ho7;have HD7:Hid _:=hd7;have HK7:Hid (Kept (fun k=>k=bo∨S2 k) w6 w7):=⟨hk7.os,hk7.tape,hk7.output,hk7.size,hk7.block⟩;have hq47:w7.cell? ⟨w.heap.size,4,none⟩=some (.string od.S):=(HM6.out.box.kept HK7.out (fun hc=>hc.elim (fun e=>by omega) (fun hc=>by have:=HS2.out _ hc;omega))).c4;have hq67:w7.cell? ⟨w.heap.size,6,none⟩=some (.slice od.la od.l.length od.lc):=(HM6.out.box.kept HK7.out (fun hc=>hc.elim (fun e=>by omega) (fun hc=>by have:=HS2.out _ hc;omega))).c6;clear ho7 hd7 hk7)))
   go_wp2
   go_ret
   have k26:Kept (fun k=>(Value.slice ba od.l.length bc).ownBlock=some k∨w3.heap.size≤k) w2 w6:=(((HK3.out.mono iL).trans HK4.out fE).trans HK5.out (fun k hk=>.inl (.inr hk))).trans HK6.out fE
   have hd:=cD M w w1.drew w2 w6 w7 X bo t h bd D D2 S S2 R ib V last HON.out bs HBS.out ((K0.out.trans HK1.out iL).trans (Kept.drew _ w1) iL) hs1 HAFT.out HBB.out od.S false od.l want c (fun hw0 he=>by
    have:=HWA.out
    rw [he,gE,hw0] at this
    simp [kB] at this) (qr od.l.length) (by unfold qr;omega) HCHG.out n HN.out _ k26 (fun k hk=>by
    rcases hk with hk|hk
    ·have h1:=HLG.out k hk
     exact⟨h1.1,fun hc=>by have:=HS2.out k hc;omega⟩
    ·exact⟨by omega,fun hc=>by have:=HS2L.out k hc;omega⟩) HK7.out w3.heap.size oa oc h' HO7.out HD7.out HH'.out _ _ HR6.out (fun k hk=>by rcases hk with hk|hk<;>omega) (fun k hk=>hk.imp id (fun hk=>by omega)) (zv.of_own 5 HO6.out rfl _ (fun k hk=>by have:=HN6.out k hk;omega))
   exact⟨zd (decide_eq_true (by omega)),hd.1,hd.2⟩
structure ym (M:zc):Prop where
 live:∀(w:World) (bd bs:Nat) (S:Nat→Prop) (D:Dk) (V:qe) (key:ByteArray) (num:Int),zR M w bd bs S D V→key.size≤maxLen→zD num→
  Calls Tryz.prog 31 #[.pointer (some ⟨bs,0,none⟩),.string key,.int .i64 num] w fun e w'=>∃D' S' c q,e=.returned (.int .i64 c)∧jI M w w' bd bs S S' D D' 40 q∧
   Chg M D D' V (V.sub key num) bd (Vl (zu key.data.toList) (qX V.vs key num)) c 0 q
 shut:∀(w:World) (bs:Nat) (key:ByteArray) (num:Int),M.Sto w bs none→key.size≤maxLen→
  Calls Tryz.prog 31 #[.pointer (some ⟨bs,0,none⟩),.string key,.int .i64 num] w fun e w'=>e=.returned (.int .i64 (if zu key.data.toList=true then 8 else 2))∧M.Sto w' bs none∧Kept (fun k=>k=bs) w w'
end law
namespace keep
open Go.ChangeShapes Go.WideShapes Go.ChangeAt Go.RowKit disk ref book
open keys (ze zd zr zn zu)
def xU(c n:Int):Nat:=((if c<0 then -(c+1) else c)%n).toNat
theorem gF(c n:Int)(h0:0<n):(xU c n:Int)<n:=by
 unfold xU
 have e1:=Int.emod_nonneg (if c<0 then -(c+1) else c) (by omega:n≠0)
 have e2:=Int.emod_lt_of_pos (if c<0 then -(c+1) else c) h0
 omega
theorem vp(w:World)(c n:Int)(hc:zD c)(h0:0<n)(hn:n≤1000):
 Calls Tryz.prog 21 #[.int .i64 c,.int .i64 n] w fun e w'=>e=.returned (.int .i64 (xU c n:Int))∧w'=w:=by
 obtain⟨h1,h2⟩:=hc
 by_cases hneg:c<0
 ·go_enter Tryz.func21,Tryz.ntmps21
  go_wp2
  go_ret
  have e: -((c+1).tmod n)=(-(c+1))%n:=by rw [←Int.neg_tmod,Int.tmod_eq_emod_of_nonneg (by omega)]
  have e1:=Int.emod_nonneg (-(c+1)) (by omega:n≠0)
  have e2:=Int.emod_lt_of_pos (-(c+1)) h0
  exact⟨ze (by unfold xU;rw [if_pos hneg,Int.toNat_of_nonneg e1];exact e),rfl⟩
 ·go_enter Tryz.func21,Tryz.ntmps21
  go_wp2
  go_ret
  have e1:=Int.emod_nonneg c (by omega:n≠0)
  have e2:=Int.emod_lt_of_pos c h0
  exact⟨ze (by unfold xU;rw [if_neg (by omega),Int.toNat_of_nonneg e1]),rfl⟩
def Qp:Array Value:=#[.string ⟨#[97]⟩,.string ⟨#[97,47]⟩,.string ⟨#[97,47,98]⟩,.string ⟨#[97,98]⟩,.string ⟨#[98]⟩,.string ⟨#[98,45,49]⟩,.string ⟨#[45]⟩,.string ⟨#[47]⟩,.string ⟨#[48,57]⟩,.string ⟨#[122,122,122,122,122,122,122,122]⟩,.string ⟨#[97,47,98,47,99,47,100,47]⟩,.string ⟨#[109]⟩]
theorem Y8:∀r,r<12→∃s:ByteArray,Qp[r]? =some (.string s)∧zu s.data.toList=true∧s.size≤8:=by
 intro r hr
 have:r=0∨r=1∨r=2∨r=3∨r=4∨r=5∨r=6∨r=7∨r=8∨r=9∨r=10∨r=11:=by omega
 rcases this with rfl|rfl|rfl|rfl|rfl|rfl|rfl|rfl|rfl|rfl|rfl|rfl<;>exact⟨_,rfl,by decide,by decide⟩
theorem Je(w:World):Calls Tryz.prog 22 #[] w fun e w'=>e=.returned (.slice (some ⟨w.heap.size,0,none⟩) 12 12)∧Kept (fun _=>False) w w'∧w'.heap[w.heap.size]? =some (.cells Qp 9 (0,0)):=by
 go_enter Tryz.func22,Tryz.ntmps22
 go_wp2
 go_ret
 exact⟨rfl,Kept.alloc _ _ _,heap_alloc_new w _⟩
theorem vq(w:World)(P:Nat→Prop)(a:Option Addr)(cap:Nat)(l:List UInt8)(hb:zv w P a l)(hl:l.length≤140737488355326)(hc:l.length≤cap):
 Calls Tryz.prog 28 #[.slice a l.length cap] w fun e w'=>∃a' c',e=.returned (.slice a' (l.take 300).length c')∧w'.ownsRow 0 5 1 (.slice a' (l.take 300).length c') (l.take 300).length ((l.take 300).map qc)∧Kept (fun _=>False) w w'∧∀k,(Value.slice a' (l.take 300).length c').ownBlock=some k→w.heap.size≤k:=by
 have HB:Hid (zv w P a (l.take 300)):=by
  rcases hb with rfl|⟨b,o,h1,h2,h3,h4⟩
  ·exact .inl rfl
  ·exact .inr ⟨b,o,h1,h2,h3,fun j hj=>by
    rw [List.getElem_take]
    exact h4 j (by simp at hj;omega)⟩
 obtain⟨j0,hi0,hz0,hz1,hz2⟩:=y5 Tryz.infoU8
 have HJ0:Hid (Tryz.prog.info? 5=some j0∧j0.zero=some (.int .u8 0)∧j0.size=1∧j0.bytes=1):=⟨hi0,hz0,hz1,hz2⟩
 clear hi0 hz0 hz1 hz2 hb
 by_cases h3:300<l.length
 ·have el:(l.take 300).length=300:=by simp;omega
  have h3':decide ((l.length:Int)>300)=true:=decide_eq_true (by omega)
  go_enter Tryz.func28,Tryz.ntmps28
  go_wp2_with (refine yw P rfl (.tmp 9) (.tmp 10) 35 rfl 5 j0 _ Tryz.underlying35 HJ0.out.1 HJ0.out.2.1 HJ0.out.2.2.1 HJ0.out.2.2.2 rfl a cap (l.take 300) (by rfl) (by rw [el];rfl) (by exact HB.out) (by omega) ?_;intro a1 c1 w2 hown1 hgrow1 hat1;have HO1:Hid _:=hown1;have HG1:Hid _:=hgrow1;have HA1:Hid _:=hat1;clear hown1 hgrow1 hat1)
  go_ret
  exact⟨a1,c1,by rw [el];rfl,HO1.out,Kept.grown (S:=fun _=>False) HG1.out (fun k hk=>by cases hk),fun k hk=>by rcases HA1.out with e|e<;>rw [e] at hk<;>simp at hk;omega⟩
 ·have el:l.take 300=l:=List.take_of_length_le (by omega)
  rw [el] at HB ⊢
  have h3':decide ((l.length:Int)>300)=false:=decide_eq_false (by omega)
  go_enter Tryz.func28,Tryz.ntmps28
  go_wp2_with (refine yw P rfl (.tmp 9) (.tmp 10) 35 rfl 5 j0 _ Tryz.underlying35 HJ0.out.1 HJ0.out.2.1 HJ0.out.2.2.1 HJ0.out.2.2.2 rfl a cap l (by rfl) (by rfl) (by exact HB.out) (by omega) ?_;intro a1 c1 w2 hown1 hgrow1 hat1;have HO1:Hid _:=hown1;have HG1:Hid _:=hgrow1;have HA1:Hid _:=hat1;clear hown1 hgrow1 hat1)
  go_ret
  exact⟨a1,c1,rfl,HO1.out,Kept.grown (S:=fun _=>False) HG1.out (fun k hk=>by cases hk),fun k hk=>by rcases HA1.out with e|e<;>rw [e] at hk<;>simp at hk;omega⟩
theorem cE(w:World)(P Q:Nat→Prop)(a b:Option Addr)(ca cb:Nat)(l:List UInt8)(ha:zv w P a l)(hb:zv w Q b l)(hl:l.length≤140737488355326):
 Calls Tryz.prog 29 #[.slice a l.length ca,.slice b l.length cb] w fun e w'=>e=.returned (.bool true)∧∃n,w'=w.drewN n:=by
 have HA:Hid (zv w P a l):=ha
 have HB:Hid (zv w Q b l):=hb
 clear ha hb
 go_enter Tryz.func29,Tryz.ntmps29
 go_wp2
 go_loopw [5] (fun i wr=>∃k:Nat,k≤l.length∧i=.int .i64 k∧∃n,wr=w.drewN n) (fun i _=>l.length-(intOf i).toNat)
 case atStart=>exact⟨0,Nat.zero_le _,rfl,0,rfl⟩
 case round=>
  obtain⟨k,hk,rfl,n,rfl⟩:=hrel
  by_cases hlt:k<l.length
  ·rcases HA.out with h0|⟨b1,o1,h1,_,_,h4⟩
   ·rw [h0] at hlt;simp at hlt
   rcases HB.out with h0|⟨b2,o2,h1',_,_,h4'⟩
   ·rw [h0] at hlt;simp at hlt
   have hk1:=h4 k hlt
   have hk2:=h4' k hlt
   subst h1 h1'
   clear h4 h4'
   go_wp2
   go_quiet (fail)
   go_wp2
   go_roundw
   case rel=>exact⟨k+1,by omega,by go_num,_,rfl⟩
   case measure=>simp [intOf];omega
  ·go_wp2
   go_ret
   exact⟨rfl,_,rfl⟩
end keep
namespace law
open Go.RowKit disk ref book
open keys (zu)
inductive VL (M:zc) (w':World) (bs bd:Nat) (h:qG) (D D':Dk) (V:qe):Prop
 |shut (hs:h.shut=true) (sto:M.Sto w' bs none) (hD:D'={D with reads:=D'.reads })
 |live (hs:h.shut=false) (sto:M.Sto w' bs (some bd)) (live:M.Live D' V)
structure Told (w w':World) (S':Nat→Prop) (o:Option qa) (x:Value) (c:Int):Prop where
 yes:c=0→∃u a cap,o=some u∧x=.slice a u.body.length cap∧w'.ownsRow 0 5 1 (.slice a u.body.length cap) u.body.length (u.body.map qc)∧∀k,(Value.slice a u.body.length cap).ownBlock=some k→w.heap.size≤k∧¬S' k
 no:c≠0→∃a cap,x=.slice a 0 cap
structure VW (M:zc) (w w':World) (X:Nat→Prop) (bo t bp:Nat) (lv:Value) (F H:Nat→Prop) (b:Option Addr) (cb:Nat) (es vs:List dY) (e:Ending):Prop where
 ret:e=.returned (.bool true)
 st:∃X' F' a' ca' es',One M w' X' bo (t+1)∧X3 w' bp lv F' H a' b ca' cb es' vs∧es'.length≤es.length+1∧(∀k,X' k→X k∨w.heap.size≤k)∧(∀k,F' k→F k∨w.heap.size≤k)∧∀k,X' k→¬F' k∧¬H k∧k≠bp
 kept:Kept (fun k=>X k∨F k∨k=bp) w w'
def KW(v:qa):List Value:=[.string v.key,.int .i64 v.num,.bool v.mark,.int .i64 (v.body.length:Int)]
def gG(l:List qa):List Value:=(l.map KW).flatten
structure bt (w w':World) (L:List qa) (m:Nat) (x:Value) (more:Bool):Prop where
 more:more=decide (m<L.length)
 at_:∃a c,x=.slice a (L.take m).length c∧w'.ownsRow 0 94 4 (.slice a (L.take m).length c) (L.take m).length (gG (L.take m))∧∀k,(Value.slice a (L.take m).length c).ownBlock=some k→w.heap.size≤k
structure gj (M:zc):Prop where
 live:∀(w:World) (bd bs:Nat) (S:Nat→Prop) (D:Dk) (V:qe) (p k:ByteArray) (n m:Int),zR M w bd bs S D V→p.size≤maxLen→k.size≤maxLen→zD n→zD m→
  Calls Tryz.prog 45 #[.pointer (some ⟨bs,0,none⟩),.string p,.string k,.int .i64 n,.int .i64 m] w fun e w'=>∃D' S' x more,e=.returned (.tuple #[.agg #[x,.bool more],.int .i64 (Yq p k n m)])∧jI M w w' bd bs S S' D D' 1000 (some bd)∧M.Live D' V∧
   (Yq p k n m=0→∃L,Qc V.vs p k n L∧bt w w' L m.toNat x more)∧(Yq p k n m≠0→x=.slice none 0 0∧more=false)∧∀j,x.ownBlock=some j→¬S' j
 shut:∀(w:World) (bs:Nat) (p k:ByteArray) (n m:Int),M.Sto w bs none→p.size≤maxLen→k.size≤maxLen→
  Calls Tryz.prog 45 #[.pointer (some ⟨bs,0,none⟩),.string p,.string k,.int .i64 n,.int .i64 m] w fun e w'=>e=.returned (.tuple #[.agg #[.slice none 0 0,.bool false],.int .i64 (Ys true (Yq p k n m))])∧M.Sto w' bs none∧Kept (fun k=>k=bs) w w'
end law
namespace law
open Go.ChangeShapes Go.WideShapes Go.ChangeAt Go.RowKit disk ref book
open keys (ze zd zr zn)
theorem dm{w:World}{a:Option Addr}{c:Nat}{L:List qa}(h:w.ownsRow 0 94 4 (.slice a L.length c) L.length (gG L))(h0:0<L.length):∃g,a=some ⟨g,0,none⟩∧g<w.heap.size∧∀k (hk:k<L.length),w.cell? ⟨g,k*4,none⟩=some (.string L[k].key)∧w.cell? ⟨g,k*4+1,none⟩=some (.int .i64 L[k].num)∧w.cell? ⟨g,k*4+2,none⟩=some (.bool L[k].mark)∧w.cell? ⟨g,k*4+3,none⟩=some (.int .i64 (L[k].body.length:Int)):=by
 have h':=h
 rcases h.2 with⟨_,h1⟩|⟨g,cap,cur,hv,_,hg,_⟩
 ·omega
 ·simp only [Value.slice.injEq] at hv
  obtain⟨rfl,_,rfl⟩:=hv
  refine⟨g,rfl,(lT hg),fun k hk=>?_⟩
  have hr:w.rangeAt g (k*4) ((L.map KW)[k]'(by simpa using hk)):=by
   refine qI (l:=L.map KW) (c:=4) (by rw [List.length_map];exact h') (fun b hb=>?_) k (by simpa using hk)
   obtain⟨v,_,rfl⟩:=List.mem_map.1 hb
   rfl
  rw [List.getElem_map] at hr
  exact⟨hr 0 _ rfl,hr 1 _ rfl,hr 2 _ rfl,hr 3 _ rfl⟩
end law
end Go.Proofs.YtcoengihaobddaaGreatDoor
