/- Part 10 of 30 of a proof: Keep11, Law8, Play, Law9, Law7 -/
import Derived.Test.YtcoengihaobddaaGreatDoorJu09
set_option maxHeartbeats 8000000
set_option linter.unusedVariables false
set_option linter.unusedSimpArgs false
set_option maxRecDepth 8000
namespace Go.Proofs.YtcoengihaobddaaGreatDoor
namespace keep
open Go.ChangeShapes Go.WideShapes Go.ChangeAt Go.RowKit disk ref book
open law (qF zj yG yF xg vU vW xo yo jr Chg ql)
open keys (zh zd zu zp zr)
theorem XQ{V V':qF}(h:V'.vs=V.vs)(key:ByteArray):xW V' key=xW V key∧kw V' key=kw V key∧vk V' key=vk V key:=by unfold xW kw vk;rw [h];exact⟨rfl,rfl,rfl⟩
theorem KE{V:qF}(h:law.Good V)(key:ByteArray):kw V key≤V.n0:=by
 unfold kw
 have h0:=h.n0
 split
 ·next u hu=>
  have:=(h.num u (yV hu).2.1).2
  split<;>omega
 ·exact h0
theorem Kd{V:qF}(h:law.Good V)(key:ByteArray):(xW V key).length≤300:=by
 unfold xW
 split
 ·next u hu=>
  have:=h.body u (yV hu).2.1
  split
  ·simp
  ·exact this
 ·simp
theorem Q5{V:qF}(h:law.Good V)(key:ByteArray)(mark:Bool)(l:List UInt8):xW (V.add key mark l) key=(if mark then [] else l)∧kw (V.add key mark l) key=(if mark then 0 else V.n0+1)∧vk (V.add key mark l) key=if mark then 5 else 0:=by
 unfold xW kw vk
 rw [gF h]
 cases mark<;>exact⟨rfl,rfl,rfl⟩
set_option maxRecDepth 60000 in
theorem Z9(M:zj)(AO:yG M)(AP:yF M)(AG:vU M)(AD:vW M)(AE:xo M)(AL:xg M)(hM:∀f,M.Fu f→f≠0)(w:World)(Q:Nat→Prop)(hQ:∀k,Q k→k<w.heap.size)(a:Option Addr)(cap:Nat)(ods:List ct)(h:Ka w Q a ods)(hlen:ods.length≤2000000000000)(which:Int)(hwhich:zO which)
 (ab:Option Addr) (cb:Nat) (l:List UInt8) (hb:zB w Q ab l) (hl:l.length≤140737488355326) (hc:l.length≤cb):
 Calls Tryz.prog 10 #[.slice a ods.length cap,.int .i64 which,.slice ab l.length cb] w fun e w'=>e=.returned (.bool true)∧za (fun _=>False) w w':=by
 have HC:Hid (Ka w Q a ods):=h
 have HQ:Hid (∀k,Q k→k<w.heap.size):=hQ
 have HBY:Hid (∀w',za (fun k=>w.heap.size≤k) w w'→Calls Tryz.prog 28 #[.slice ab l.length cb] w' fun e w''=>∃a' c',e=.returned (.slice a' (l.take 300).length c')∧w''.ownsRow 0 5 1 (.slice a' (l.take 300).length c') (l.take 300).length ((l.take 300).map qa)∧za (fun _=>False) w' w''∧∀k,(Value.slice a' (l.take 300).length c').ownBlock=some k→w'.heap.size≤k):=fun w' k=>vj w' Q ab cb l (hb.kept k (fun i hi hc=>by have:=hQ i hi;omega)) hl hc
 have HPK:Hid (∀W,Calls Tryz.prog 21 #[.int .i64 which,.int .i64 12] W fun e w'=>e=.returned (.int .i64 (jJ which 12:Int))∧w'=W):=fun W=>gD W which 12 hwhich (by omega) (by omega)
 have hp3:jJ which 12<12:=by have:=ci which 12 (by omega);omega
 have l3:(l.take 300).length≤300:=by rw [List.length_take];omega
 generalize l.take 300=B at*
 generalize jJ which 12=r3 at*
 obtain⟨ky,hky,hkb,hks⟩:=dc r3 hp3
 have HKY:Hid (vX[r3]? =some (.string ky)∧zr ky.data.toList=true):=⟨hky,hkb⟩
 have hp3I:(r3:Int)<12:=by omega
 clear h hQ hwhich hb hky hkb
 go_enter Tryz.func10,Tryz.ntmps10
 go_wp2_with fail
 refine(Z6 M AO AP hM _ Q HQ.out a cap ods HC.out hlen).mono ?_
 rintro e w1 ⟨X,bp,D,V,rfl,⟨bd,bs,S,a',cap',cs',G',hs⟩,hfit,hk1,hx,hmk⟩
 obtain⟨hc0,hc1,hc2,hc3,hc5,hc6,hfz⟩:=hs.c
 have hrd:=hfit.reads
 have hlw:=js V.vs
 have hwt:=hfit.weight
 have hn0:=hfit.n0
 have HG:Hid (law.Good V):=hs.fore.live.good
 have hsit:=hs.sit hk1 hx
 generalize XP bd bs (.slice a' V.vs.length cap') V.n0=O at*
 have hO:∀(W:World),W.heap[bp]? =some O→W.cell? ⟨bp,1,none⟩=some (.pointer (some ⟨bs,0,none⟩)):=fun W hW=>by
  have e:(some O:Option Obj)=_:=(hsit.head).symm.trans hs.head
  rw [Option.some.inj e] at hW
  exact(cell_of_row W bp 1 _ _ _ hW).trans rfl
 have HO:Hid (∀(W:World),W.heap[bp]? =some O→W.cell? ⟨bp,1,none⟩=some (.pointer (some ⟨bs,0,none⟩))):=hO
 have HS1:Hid (xY M w w1 bp bd bs O S D V):=hsit
 have hvl:V.vs.length≤473:=by omega
 clear hs hk1 hx hc0 hc1 hc2 hc3 hc5 hfz hfit hmk hsit hO
 go_wp2_with fail
 refine(ck _).mono ?_
 rintro e w2 ⟨rfl,hk2,hb2⟩
 have HS2:Hid (xY M w w2 bp bd bs O S D V):=HS1.out.keep hk2
 have hck:w2.cell? ⟨w1.heap.size,r3,none⟩=some (.string ky):=(cell_of_row w2 _ r3 _ _ _ hb2).trans HKY.out.1
 have hc2:=HO.out w2 HS2.out.head
 clear hk2 hb2
 go_wp2_with (go_at_call 21;refine(HPK.out _).mono ?_;rintro e w9 ⟨rfl,hw9⟩;rw [hw9];clear hw9 w9)
 refine(cu AL HS2.out (by omega) (by omega) 50 (by omega) (by omega)).mono ?_
 rintro e w3 ⟨S3,D3,a3,c3,L,rfl,_,hs3,hr3,hL,hm3⟩
 have HS3:Hid (xY M w w3 bp bd bs O S3 D3 V):=hs3
 have HL:Hid (qX V.vs ByteArray.empty ByteArray.empty 0 L):=hL
 have HM3:Hid (x9 w3 S3 bs 94 4 (.slice a3 L.length c3) L.length (ql L)):=hm3
 have hLb:L.length≤473:=by rw [(qX.all hL).length_eq];exact hvl
 have hc3:=HO.out w3 hs3.head
 clear hs3 hL hm3
 go_wp2_with fail
 refine(uZ AG HS3.out (by omega) ky HKY.out.2).mono ?_
 rintro e w4 ⟨S4,D4,a4,c4,rfl,ha4,hs4,hr4,hg4⟩
 have hgn:=KE HG.out ky
 have HE4:Hid (∀V':qF,V'.vs=V.vs→xW V' ky=xW V ky∧kw V' ky=kw V ky∧vk V' ky=vk V ky):=fun V' hV=>XQ hV ky
 have hgl:(xW V ky).length≤300:=Kd HG.out ky
 generalize xW V ky=gl at*
 generalize kw V ky=gn at*
 generalize vk V ky=gc at*
 have HS4:Hid (xY M w w4 bp bd bs O S4 D4 V):=hs4
 have HM4:Hid (x9 w4 S4 bs 94 4 (.slice a3 L.length c3) L.length (ql L)):=HM3.out.aft ha4
 have HG4:Hid (gE w4 S4 bs a4 c4 gl):=hg4
 have hc4:=HO.out w4 hs4.head
 clear ha4 hs4 hg4
 go_wp2_with fail
 obtain⟨n1,hn1⟩:∃n,n=V.n0+1:=⟨_,rfl⟩
 obtain⟨n2,hn2⟩:∃n,n=n1+1:=⟨_,rfl⟩
 have HN1:Hid (n1=V.n0+1):=hn1
 have HN2:Hid (n2=n1+1):=hn2
 have hn1b:gn<n1∧n1<n2∧0≤n1∧n2≤2000:=by have:=HG.out.n0;omega
 clear hn1 hn2
 go_region_held3 (fun w'=>w'.cell? ⟨bp,1,none⟩=some (.pointer (some ⟨bs,0,none⟩))) (go_keep) ((first
  |(go_at_call 28;refine(HBY.out _ (by exact(HS4.out.keep (za.drew (fun _=>False) w4)).kept)).mono ?_;rintro e w5 ⟨a5,c5,rfl,ho5,hk5,hf5⟩;have hk5':za (fun _=>False) w4 w5:=⟨hk5.os,hk5.tape,hk5.output,hk5.size,hk5.block⟩;have HO5:Hid (w5.ownsRow 0 5 1 (.slice a5 B.length c5) B.length (B.map qa)):=ho5;have HK5:Hid (za (fun _=>False) w4 w5):=hk5';have HF5:Hid (∀k,(Value.slice a5 B.length c5).ownBlock=some k→w4.heap.size≤k):=hf5;have hcap5:=QZ ho5;have HS5:Hid (xY M w w5 bp bd bs O S4 D4 V):=HS4.out.keep hk5';have hc5:=HO.out w5 HS5.out.head;clear ho5 hk5 hf5 hk5')
  |(go_at_call 27;refine(Kb AP hM HS5.out (by omega) (by omega) (by omega) ky HKY.out.2 (fun k=>w4.heap.size≤k) a5 c5 B (zB.of_own 5 HO5.out rfl _ (fun k hk=>HF5.out k hk)) (fun k hk=>⟨fun hS=>by have:=HS4.out.fore.disk.lt k hS;omega,fun e=>by have:=HS4.out.bs_lt;omega⟩) l3 hcap5.1 (by have:=hcap5.2;unfold maxLen at this;omega)).mono ?_;rintro e w6 ⟨S6,D6,rfl,ha6,hs6,hr6⟩;have HS6:Hid (xY M w w6 bp bd bs O S6 D6 (V.add ky false B)):=hs6;have HM6:Hid (x9 w6 S6 bs 94 4 (.slice a3 L.length c3) L.length (ql L)):=(HM4.out.keep HK5.out).aft ha6;have HG6:Hid (gE w6 S6 bs a4 c4 gl):=(HG4.out.keep HK5.out).aft ha6;have hc6':=HO.out w6 hs6.head;rw [←HN1.out];clear ha6 hs6)))
 have HG1:Hid (law.Good (V.add ky false B)):=HS6.out.fore.live.good
 have hga:=Q5 HG.out ky false B
 have hgb:=Q5 HG1.out ky true []
 have HW1:Hid (weight (V.add ky false B).vs=weight V.vs+qA B.length):=kK V ky false B
 have HVA:Hid ((V.add ky false B).n0=n1∧(∀v∈(V.add ky false B).vs,v.num≤(V.add ky false B).n0)):=⟨HN1.out.symm,fun v hv=>(HG1.out.num v hv).2⟩
 have HBR:Hid (ux (V.add ky false B).vs ky=false):=by
  show ux _ _=false
  unfold ux
  rw [gF HG.out]
 have HSB:Hid (∀v∈V.vs,v.num≤V.n0):=fun v hv=>(HG.out.num v hv).2
 have HVV:Hid ((V.add ky false B).sub ky n1=⟨V.vs,n1⟩):=by
  show (V.add ky false B).sub ky n1=⟨V.vs,n1⟩
  rw [HN1.out]
  exact Q1 HSB.out ky false B
 have HFI:Hid (∃v∈(V.add ky false B).vs,v.key=ky∧v.num=n1):=⟨⟨ky,V.n0+1,false,B⟩,List.mem_append_right _ (List.mem_singleton.2 rfl),rfl,HN1.out.symm⟩
 have HV1v:Hid ((V.add ky false B).vs=V.vs++[⟨ky,V.n0+1,false,B⟩]):=rfl
 generalize V.add ky false B=V1 at*
 simp only [Bool.false_eq_true,if_false] at hga
 simp only [if_true] at hgb
 rw [HN1.out.symm] at hga
 have HGA:Hid (xW V1 ky=B∧kw V1 ky=n1∧vk V1 ky=0):=hga
 have HGB:Hid (xW (V1.add ky true []) ky=[]∧kw (V1.add ky true []) ky=0∧vk (V1.add ky true []) ky=5):=hgb
 have hwB:qA B.length≤4:=by unfold qA;omega
 have hW1b:weight V1.vs≤477:=by rw [HW1.out];omega
 have hV1n:V1.n0≤10000:=by rw [HVA.out.1];omega
 clear hga hgb
 go_wp2_with fail
 refine(uZ AG HS6.out (by omega) ky HKY.out.2).mono ?_
 rw [HGA.out.1,HGA.out.2.1,HGA.out.2.2]
 rintro e w7 ⟨S7,D7,a7,c7,rfl,ha7,hs7,hr7,hg7⟩
 have HS7:Hid (xY M w w7 bp bd bs O S7 D7 V1):=hs7
 have HM7:Hid (x9 w7 S7 bs 94 4 (.slice a3 L.length c3) L.length (ql L)):=HM6.out.aft ha7
 have HG7:Hid (gE w7 S7 bs a4 c4 gl):=HG6.out.aft ha7
 have HX7:Hid (gE w7 S7 bs a7 c7 B):=hg7
 clear ha7 hs7 hg7
 go_wp2_with fail
 refine(HBY.out w7 HS7.out.kept).mono ?_
 rintro e w8 ⟨a8,c8,rfl,ho8,hk8,hf8⟩
 have HS8:Hid (xY M w w8 bp bd bs O S7 D7 V1):=HS7.out.keep hk8
 have HM8:Hid (x9 w8 S7 bs 94 4 (.slice a3 L.length c3) L.length (ql L)):=HM7.out.keep hk8
 have HG8:Hid (gE w8 S7 bs a4 c4 gl):=HG7.out.keep hk8
 have HX8:Hid (gE w8 S7 bs a7 c7 B):=HX7.out.keep hk8
 have HY8:Hid (zB w8 (fun _=>True) a8 B):=zB.of_own 5 ho8 rfl _ (fun _ _=>trivial)
 clear ho8 hk8 hf8
 go_wp2_with fail
 refine(cn w8 (fun _=>True) (fun _=>True) a7 a8 c7 c8 B HX8.out.bytes HY8.out (by omega)).mono ?_
 rintro e w9 ⟨rfl,n9,hw9⟩
 have k9:za (fun _=>False) w8 w9:=by rw [hw9];exact kD
 have HS9:Hid (xY M w w9 bp bd bs O S7 D7 V1):=HS8.out.keep k9
 have HM9:Hid (x9 w9 S7 bs 94 4 (.slice a3 L.length c3) L.length (ql L)):=HM8.out.keep k9
 have HG9:Hid (gE w9 S7 bs a4 c4 gl):=HG8.out.keep k9
 have hc9:=HO.out w9 HS9.out.head
 have hd1:decide (n1≤gn)=false:=decide_eq_false (by omega)
 have hd2:decide (n2≤n1)=false:=decide_eq_false (by omega)
 have hne1:(n1 !=n1)=false:=by simp
 clear hw9 k9
 go_wp2_with fail
 refine(Kc AD hM HS9.out (by omega) (by omega) (by omega) ky HKY.out.2 HBR.out).mono ?_
 rw [HVA.out.1,←HN2.out]
 rintro e w10 ⟨S10,D10,rfl,ha10,hs10,hr10⟩
 have HS10:Hid (xY M w w10 bp bd bs O S10 D10 (V1.add ky true [])):=hs10
 have HM10:Hid (x9 w10 S10 bs 94 4 (.slice a3 L.length c3) L.length (ql L)):=HM9.out.aft ha10
 have HG10:Hid (gE w10 S10 bs a4 c4 gl):=HG9.out.aft ha10
 have hc10:=HO.out w10 hs10.head
 have HW2:Hid (weight (V1.add ky true []).vs=weight V1.vs+qA 0):=kK V1 ky true []
 have HF2:Hid (∃v∈(V1.add ky true []).vs,v.key=ky∧v.num=n2):=⟨⟨ky,V1.n0+1,true,[]⟩,List.mem_append_right _ (List.mem_singleton.2 rfl),rfl,by show V1.n0+1=n2;rw [HVA.out.1,HN2.out]⟩
 have HV2:Hid ((V1.add ky true []).sub ky n2=⟨V1.vs,n2⟩):=by
  show (V1.add ky true []).sub ky n2=⟨V1.vs,n2⟩
  have:=Q1 HVA.out.2 ky true []
  rw [HVA.out.1,←HN2.out] at this
  exact this
 have hV2n:(V1.add ky true []).n0≤10001:=by show V1.n0+1≤10001;omega
 generalize V1.add ky true []=V2 at*
 have hW2b:weight V2.vs≤478:=by rw [HW2.out];unfold qA;omega
 clear ha10 hs10
 go_wp2_with fail
 refine(uZ AG HS10.out (by omega) ky HKY.out.2).mono ?_
 rw [HGB.out.1,HGB.out.2.1,HGB.out.2.2]
 rintro e w11 ⟨S11,D11,a11,c11,rfl,ha11,hs11,hr11,_⟩
 have HS11:Hid (xY M w w11 bp bd bs O S11 D11 V2):=hs11
 have HM11:Hid (x9 w11 S11 bs 94 4 (.slice a3 L.length c3) L.length (ql L)):=HM10.out.aft ha11
 have HG11:Hid (gE w11 S11 bs a4 c4 gl):=HG10.out.aft ha11
 have hc11:=HO.out w11 hs11.head
 clear ha11 hs11
 go_wp2_with fail
 refine(Q0 AE hM HS11.out (by omega) (by omega) (by omega) ky HKY.out.2 n2 ⟨by omega,by omega⟩ HF2.out).mono ?_
 rw [HV2.out]
 rintro e w12 ⟨S12,D12,rfl,ha12,hs12,hr12⟩
 have HS12:Hid (xY M w w12 bp bd bs O S12 D12 ⟨V1.vs,n2⟩):=hs12
 have HM12:Hid (x9 w12 S12 bs 94 4 (.slice a3 L.length c3) L.length (ql L)):=HM11.out.aft ha12
 have HG12:Hid (gE w12 S12 bs a4 c4 gl):=HG11.out.aft ha12
 have hc12:=HO.out w12 hs12.head
 have HV3:Hid ((⟨V1.vs,n2⟩:qF).sub ky n1=⟨V.vs,n2⟩):=by
  show (⟨uW V1.vs ky n1,n2⟩:qF)=⟨V.vs,n2⟩
  have:=HVV.out
  have e:uW V1.vs ky n1=V.vs:=congrArg qF.vs this
  rw [e]
 clear ha12 hs12
 go_wp2_with fail
 refine(Q0 AE hM HS12.out (by omega) (by show n2≤_;omega) (by show weight V1.vs≤_;omega) ky HKY.out.2 n1 ⟨by omega,by omega⟩ HFI.out).mono ?_
 rw [HV3.out]
 rintro e w13 ⟨S13,D13,rfl,ha13,hs13,hr13⟩
 have HS13:Hid (xY M w w13 bp bd bs O S13 D13 ⟨V.vs,n2⟩):=hs13
 have HM13:Hid (x9 w13 S13 bs 94 4 (.slice a3 L.length c3) L.length (ql L)):=HM12.out.aft ha13
 have HG13:Hid (gE w13 S13 bs a4 c4 gl):=HG12.out.aft ha13
 have hc13:=HO.out w13 hs13.head
 clear ha13 hs13
 go_wp2_with fail
 refine(cu AL HS13.out (by omega) (by show V.vs.length≤_;omega) 50 (by omega) (by omega)).mono ?_
 rintro e w14 ⟨S14,D14,a14,c14,L',rfl,ha14,hs14,hr14,hL,hm14⟩
 obtain rfl:L'=L:=hL.unique HL.out (List.Perm.refl _)
 have HS14:Hid (xY M w w14 bp bd bs O S14 D14 ⟨V.vs,n2⟩):=hs14
 have HM14:Hid (x9 w14 S14 bs 94 4 (.slice a3 L'.length c3) L'.length (ql L')):=HM13.out.aft ha14
 have HN14:Hid (x9 w14 S14 bs 94 4 (.slice a14 L'.length c14) L'.length (ql L')):=hm14
 have HG14:Hid (gE w14 S14 bs a4 c4 gl):=HG13.out.aft ha14
 have hc14:=HO.out w14 hs14.head
 clear ha14 hs14 hL hm14
 go_wp2_with fail
 refine(uZ AG HS14.out (by omega) ky HKY.out.2).mono ?_
 obtain⟨q1,q2,q3⟩:=HE4.out ⟨V.vs,n2⟩ rfl
 rw [q1,q2,q3]
 rintro e w15 ⟨S15,D15,a15,c15,rfl,ha15,hs15,hr15,hg15⟩
 have HS15:Hid (xY M w w15 bp bd bs O S15 D15 ⟨V.vs,n2⟩):=hs15
 have HR15:Hid (Row w15 a3 c3 L'):=(HM14.out.aft ha15).row
 have HT15:Hid (Row w15 a14 c14 L'):=(HN14.out.aft ha15).row
 have HG15:Hid (gE w15 S15 bs a4 c4 gl):=HG14.out.aft ha15
 have HH15:Hid (gE w15 S15 bs a15 c15 gl):=hg15
 clear ha15 hs15 hg15 q1 q2 q3
 go_wp2_with fail
 refine(YJ w15 a3 a14 c3 c14 L' (by omega) HR15.out HT15.out).mono ?_
 rintro e w16 ⟨rfl,n16,hw16⟩
 have k16:za (fun _=>False) w15 w16:=by rw [hw16];exact kD
 have HS16:Hid (xY M w w16 bp bd bs O S15 D15 ⟨V.vs,n2⟩):=HS15.out.keep k16
 have HG16:Hid (zB w16 (fun _=>True) a4 gl):=(HG15.out.keep k16).bytes
 have HH16:Hid (zB w16 (fun _=>True) a15 gl):=(HH15.out.keep k16).bytes
 clear hw16 k16
 go_wp2_with fail
 refine(cn w16 (fun _=>True) (fun _=>True) a4 a15 c4 c15 gl HG16.out HH16.out (by omega)).mono ?_
 rintro e w17 ⟨rfl,n17,hw17⟩
 have k17:za (fun _=>False) w16 w17:=by rw [hw17];exact kD
 have HS17:Hid (xY M w w17 bp bd bs O S15 D15 ⟨V.vs,n2⟩):=HS16.out.keep k17
 have hb1:(gc==gc)=true:=by simp
 have hb2:(gn==gn)=true:=by simp
 clear hw17 k17
 go_wp2
 go_ret
 exact⟨rfl,HS17.out.end⟩
end keep
namespace law
open Go.ChangeShapes Go.WideShapes Go.ChangeAt Go.RowKit disk ref book
open keys (zh zd zu zp zr)
end law
namespace law
open Go.RowKit disk ref book
structure bh (M:zj) (w:World) (base bp t:Nat) (ones:List (Nat×(Nat→Prop))) (la:Option Addr) (lc:Nat) (F H:Nat→Prop) (a b:Option Addr) (ca cb:Nat) (es vs:List dN):Prop where
 row:w.ownsRow 0 120 1 (.slice la ones.length lc) ones.length (ones.map fun o=>gA o.1)
 book:XH w bp (.slice la ones.length lc) F H a b ca cb es vs
 one:∀i (hi:i<ones.length),One M w ones[i].2 ones[i].1 t
 apart:∀i j (hi:i<ones.length) (hj:j<ones.length),i≠j→∀k,ones[i].2 k→¬ones[j].2 k
 sep:∀i (hi:i<ones.length) k,ones[i].2 k→¬F k∧¬H k∧k≠bp
 rsep:∀i (hi:i<ones.length) k,ones[i].2 k→(Value.slice la ones.length lc).ownBlock≠some k
 rowF:∀k,(Value.slice la ones.length lc).ownBlock=some k→¬F k∧¬H k∧k≠bp∧base≤k
 bX:∀i (hi:i<ones.length) k,ones[i].2 k→base≤k
 bF:∀k,F k→base≤k
 bH:∀k,H k→base≤k
 bP:base≤bp
 fewE:es.length≤t
 fewV:vs.length≤t
 fewO:ones.length≤t
def Vt(M:zj)(w:World)(base bp t:Nat):Prop:=∃ones la lc F H a b ca cb es vs,bh M w base bp t ones la lc F H a b ca cb es vs
theorem One.lt{M:zj}{w:World}{X:Nat→Prop}{bo t:Nat}(o:One M w X bo t):∀k,X k→k<w.heap.size:=by
 obtain⟨h,bd,D,S,R,ib,V,last,o⟩:=o;exact o.xlt
end law
namespace law
open Go.ChangeShapes Go.WideShapes Go.ChangeAt Go.RowKit disk ref book
open keys (zh zd zu zp zr)
theorem Tryz.infoPone:(Tryz.prog.info? 120).map (fun i=>(i.zero,i.size,i.bytes))=some (some (.pointer none),1,8):=by kernel_rfl
def XR(c n:Int):Int:=if c<0 then (-(c+1)).tmod n else c.tmod n
theorem gD(w:World)(c n:Int)(hc:zO c)(hn:0<n)(hn2:n≤9223372036854775807):
 Calls Tryz.prog 58 #[.int .i64 c,.int .i64 n] w fun e w'=>e=.returned (.int .i64 (XR c n))∧w'=w:=by
 obtain⟨h1,h2⟩:=hc
 by_cases h:c<0
 ·have hp:XR c n=(-(c+1)).tmod n:=if_pos h
  have g3:(-(c+1)).tmod n= -((c+1).tmod n):=Int.neg_tmod ..
  have HPI:Hid _:=hp
  have HG:Hid _:=g3
  clear hp g3
  go_enter Tryz.func58,Tryz.ntmps58
  go_wp2
  go_ret
  exact⟨zh (by rw [HPI.out];first|rfl|rw [HG.out]),rfl⟩
 ·have hp:XR c n=c.tmod n:=if_neg h
  have g3:c.tmod n=c%n:=Int.tmod_eq_emod_of_nonneg (by omega)
  have HPI:Hid _:=hp
  have HG:Hid _:=g3
  clear hp g3
  go_enter Tryz.func58,Tryz.ntmps58
  go_wp2
  go_ret
  exact⟨zh (by rw [HPI.out];first|rfl|rw [HG.out]),rfl⟩
def VB(bd bs rb:Nat):qD:=⟨gA bd,gA bs,gA rb,.pointer none,.string ByteArray.empty,.int .i64 0,.bool false,.slice none 0 0,0,0,false⟩
end law
end Go.Proofs.YtcoengihaobddaaGreatDoor
