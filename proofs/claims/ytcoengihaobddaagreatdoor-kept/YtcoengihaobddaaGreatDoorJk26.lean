/- Part 26 of 34 of a proof: Log3, Log4, Log5, Add1, Fall2, Fall3 -/
import Derived.Test.YtcoengihaobddaaGreatDoorJk25
import Derived.Test.YtcoengihaobddaaGreatDoorJk06
set_option maxHeartbeats 8000000
set_option linter.unusedVariables false
set_option linter.unusedSimpArgs false
set_option maxRecDepth 8000
namespace Go.Proofs.YtcoengihaobddaaGreatDoor
open Go.ChangeShapes Go.WideShapes Go.ChangeAt Go.RowKit disk ref
namespace prog
open keys (ze zd zr zn)
theorem ut{ws:List (Nat×List Value)}(hl:ws.length≤62):(zE ws).Ok where
 kind:=by simp [zE]
 link:=by simp [zE]
 wide:=fun i hi=>by
  obtain⟨p,_,rfl⟩:=List.mem_map.1 hi
  rw [zP];rfl
 fits:=by simp [zE,zk];omega
 few:=by simp [zE];omega
theorem ZD(ws:List (Nat×List Value))(k:Nat)(hk:k<ws.length):(zE (ws.take k)).push (bytesOf 2 ws[k].1)=zE (ws.take (k+1)):=by
 unfold zE Pg.push
 rw [List.take_succ_eq_append_getElem hk,List.map_append];rfl
theorem yX(ws:List (Nat×List Value)):(z8 ws).length=ws.length:=by simp [z8]
theorem kj(ws:List (Nat×List Value))(k:Nat)(hk:k<ws.length):(z8 ws)[k]'(by rw [yX];exact hk)=(3+k,ws[k].2):=by simp [z8]
theorem uu{w W wr w5:World}{bd b5:Nat}{S S1:Nat→Prop}{D:Dk}(hSL:∀k,S k→k<w.heap.size)(hb:w.heap.size≤b5)(hsz:W.heap.size=b5+1)(k0:Kept (fun _=>False) w W)(k1:Kept (fun j=>S j∨j=b5) W wr)(hS:∀j,S1 j→S j∨W.heap.size≤j)(h:qK wr w5 bd S1 D):qK w w5 bd S D:=by
 refine qK.trans (D1:=D) (S1:=S1) (fun j hj=>?_) ((k0.mono fE).trans k1 (fun j hj=>?_)) h
 ·rcases hS j hj with h1|h1
  ·exact .inl h1
  ·right;omega
 ·rcases hj with h1|h1
  ·exact .inl h1
  ·right;omega
section
attribute [local go_sem ↓] xD
theorem ZE(w:World)(bd:Nat)(S T:Nat→Prop)(D:Dk)(h:zh w bd S D)(a:Option Addr)(cap:Nat)(ws:List (Nat×List Value))(hr:jU w T a ws)(hST:∀k,S k→¬T k)(hT:∀k,T k→k<w.heap.size)
 (hfu:zD D.fuse) (hps:D.ps.length≤34359738368) (hlen:ws.length≤18):
 Calls Tryz.prog 179 #[.pointer (some ⟨bd,0,none⟩),.slice a ws.length cap] w fun e w'=>e=.returned (.bool (qD D ws).1)∧qK w w' bd S (qD D ws).2:=by
 obtain⟨Zw,hZw,hzw⟩:∃Zw:List Value,Zw=qU∧∀w,(zeroValue 160).run Tryz.prog w=.ok (.agg Zw.toArray) w:=⟨qU,rfl,zV Tryz.infoCw⟩
 have HZw:Hid (Zw.length=129):=by rw [hZw];exact congrArg (· +1) zF.1
 clear hZw
 obtain⟨Zb,hZb,hz⟩:∃Zb:List Value,Zb=zT∧∀w,(zeroValue 154).run Tryz.prog w=.ok (.agg Zb.toArray) w:=⟨zT,rfl,zV Tryz.infoPage⟩
 have HZb:Hid (zy Zb):=by rw [hZb];exact zF
 clear hZb
 have HIw:Hid ((Tryz.prog.info? 160).map (·.size)=some 129):=zS Tryz.infoCw
 have HI:Hid ((Tryz.prog.info? 131).map (·.size)=some 128):=zS Tryz.infoBlock
 have HIp:Hid ((Tryz.prog.info? 154).map (·.size)=some 128):=zS Tryz.infoPage
 have HN1:Hid (zy (zl (Pg.new 1))):=qP (Pg.new_ok 1 (by omega))
 have HH:Hid (zh w bd S D):=h
 have HR:Hid _:=hr
 have HSL:Hid (∀k,S k→k<w.heap.size):=h.lt
 clear h hr
 go_enter Tryz.func179,Tryz.ntmps179
 go_wp2_with (first
  |(go_at_call 131;refine(xQ _ 1 (by omega)).mono ?_;rintro e w1 ⟨rfl,hk1⟩;have HK1:Hid _:=hk1;clear hk1)
  |(show wpList _ _ _ ({dst:=none,op:=.store _ (.tmp 5) (.tmp 8),type:=_,pos:=_,after:=_,guard:=_}::_) _ _;refine zg rfl 154 (.tmp 5) (.tmp 8) rfl _ _ (zl (Pg.new 1)) (by simp) rfl rfl (by rw [HN1.out.1];exact HIp.out) (by rw [List.size_toArray,HZb.out.1,HN1.out.1]) HN1.out.2 ?_))
 have HP0:Hid (qu (w1.alloc (.cells (zl (Pg.new 1)).toArray 154)) w1.heap.size (zE (ws.take 0))):=⟨⟨heap_alloc_new w1 _⟩,Pg.new_ok 1 (by omega)⟩
 have HKK:Hid (Kept (fun _=>False) w (w1.alloc (.cells (zl (Pg.new 1)).toArray 154))):=HK1.out.trans (Kept.alloc _ _ _) iL
 have hsz:(w1.alloc (.cells (zl (Pg.new 1)).toArray 154)).heap.size=w1.heap.size+1:=by simp
 have hs1:=HK1.out.size
 generalize (w1.alloc (.cells (zl (Pg.new 1)).toArray 154))=W at*
 generalize w1.heap.size=b5 at*
 go_loopw [11] (fun t wr=>∃(k:Nat) (D1:Dk) (S1:Nat→Prop),k≤ws.length∧t=.int .i64 k∧qd D (z8 ws)=qd D1 ((z8 ws).drop k)∧zh wr bd S1 D1∧(∀j,S1 j→S j∨W.heap.size≤j)∧Kept (fun j=>S j∨j=b5) W wr∧qu wr b5 (zE (ws.take k))∧zD D1.fuse∧D1.ps.length≤D.ps.length+k) (fun t _=>ws.length-(intOf t).toNat)
 case atStart=>exact⟨0,D,S,Nat.zero_le _,rfl,rfl,HH.out.kept HKK.out nF,fun _ h=>.inl h,Kept.refl _ _,HP0.out,hfu,by omega⟩
 case round=>
  obtain⟨k,D1,S1,hk,rfl,hwr,hd1,hS1,hk1,hpg,hfu1,hps1⟩:=hrel
  have HWR:Hid _:=hwr
  have HD1:Hid (zh wr bd S1 D1):=hd1
  have HS1:Hid _:=hS1
  have HK2:Hid _:=hk1
  have HPG:Hid _:=hpg
  have hpl0:(zE (ws.take k)).items.length=k:=by simp [zE];omega
  have HSB:Hid (¬S1 b5):=fun hb=>by
   rcases HS1.out b5 hb with h1|h1
   ·have:=HSL.out b5 h1;omega
   ·omega
  have HRW:Hid (jU wr T a ws):=(HR.out.kept HKK.out nF).kept hk1 (fun j hj hS=>by
   rcases hS with hS|hS
   ·exact hST j hS hj
   ·have:=hT j hj;omega)
  clear hwr hd1 hS1 hk1 hpg
  by_cases hlt:k<ws.length
  ·rcases HRW.out.at_ with h0|⟨g,rfl,hgT,hgl,hrng⟩
   ·rw [h0] at hlt;simp at hlt
   ·have HP:Hid (wr.rangeAt g (k*129) (.int .i64 (ws[k].1:Int)::ws[k].2)):=hrng k hlt
    obtain⟨hpo,hpl⟩:=HRW.out.ok _ (List.getElem_mem hlt)
    have HPO:Hid (zy ws[k].2):=hpo
    have HWD:Hid (qd D1 ((z8 ws).drop k)=if D1.writes (3+(k:Int))=true then qd (D1.write (3+(k:Int)) ws[k].2) ((z8 ws).drop (k+1)) else (false,D1)):=by
     have:=ft (D:=D1) (ws:=z8 ws) (k:=k) (by rw [yX];exact hlt)
     rw [kj ws k hlt] at this
     have e3:((3+k:Nat):Int)=3+(k:Int):=by omega
     simp only [e3] at this
     exact this
    have HSN:Hid _:=ZD ws k hlt
    generalize hq:ws[k]=q at*
    obtain⟨qi,qb⟩:=q
    clear hq hpo hrng
    simp only at hpl
    have HKA:Hid (Kept (fun _=>False) wr (wr.alloc (.cells (.int .i64 (qi:Int)::qb).toArray 160))):=Kept.alloc _ _ _
    go_wp2_with (first
     |(show wpList _ _ _ ({dst:=some 15,op:=.load _ _,type:=_,pos:=_,after:=_,guard:=_}::_) _ _;refine wpList_load_mid rfl 160 (.tmp 14) rfl _ _ rfl (.int .i64 (qi:Int)::qb) _ HP.out Tryz.underlying160 rfl (by rw [List.length_cons,HPO.out.1];exact HIw.out) ?_)
     |(show wpList _ _ _ ({dst:=none,op:=.store _ (.tmp 7) (.tmp 15),type:=_,pos:=_,after:=_,guard:=_}::_) _ _;refine zg rfl 160 (.tmp 7) (.tmp 15) rfl _ _ (.int .i64 (qi:Int)::qb) rfl rfl rfl (by rw [List.length_cons,HPO.out.1];exact HIw.out) (by rw [List.length_cons,HPO.out.1];simpa using HZw.out) (List.forall_mem_cons.2 ⟨rfl,HPO.out.2⟩) ?_))
    have hcw:(wr.alloc (.cells (.int .i64 (qi:Int)::qb).toArray 160)).cell? ⟨wr.heap.size,0,none⟩=some (.int .i64 (qi:Int)):=by simp
    have HP1:Hid (qu (wr.alloc (.cells (.int .i64 (qi:Int)::qb).toArray 160)) b5 (zE (ws.take k))):=HPG.out.kept HKA.out (fun hf=>hf)
    have HB1:Hid ((wr.alloc (.cells (.int .i64 (qi:Int)::qb).toArray 160)).heap[wr.heap.size]? =some (.cells (.int .i64 (qi:Int)::qb).toArray 160 (0,0))):=heap_alloc_new wr _
    have hb5:=HPG.out.bs.lt
    have hszw:(wr.alloc (.cells (.int .i64 (qi:Int)::qb).toArray 160)).heap.size=wr.heap.size+1:=by simp
    have HGV:Hid (jO b5 (zE (ws.take k)).kind (zE (ws.take k)).items.length 1=.slice (some ⟨b5,4+k*2,none⟩) 2 (124-k*2)):=by show jO b5 (zE (ws.take k)).kind (zE (ws.take k)).items.length 1=_;rw [hpl0];rfl
    have hpw:(zE (ws.take k)).items.length*zk (zE (ws.take k)).kind=k*2:=by rw [hpl0];rfl
    generalize (wr.alloc (.cells (.int .i64 (qi:Int)::qb).toArray 160))=W2 at*
    go_region_held3 (fun w'=>w'.cell? ⟨wr.heap.size,0,none⟩=some (.int .i64 (qi:Int))) (go_keep) ((first
     |(go_at_call 133;refine(jP _ b5 _ (by exact HP1.out.kept (Kept.drew (fun _=>False) W2) (fun hf=>hf)) 1 (by rw [hpl0];show (k+1)*2≤124;omega) (by rw [hpl0];omega) (by show 1≤1*2;omega)).mono ?_;rintro e w3 ⟨rfl,hp3,hk3⟩;rw [HGV.out];have HP3:Hid _:=hp3;have HK3:Hid (Kept (fun i=>i=b5) W2.drew w3):=hk3;have hcw3:w3.cell? ⟨wr.heap.size,0,none⟩=some (.int .i64 (qi:Int)):=(hk3.cell (a:=⟨wr.heap.size,0,none⟩) (by show wr.heap.size<W2.drew.heap.size;have:W2.drew.heap.size=W2.heap.size:=rfl;omega) (by show ¬wr.heap.size=b5;omega)).trans hcw;clear hp3 hk3)
     |(go_at_call 138;refine(qE _ b5 _ _ HP3.out.bs (4+k*2) 2 (124-k*2) (by rw [HP3.out.ok.len];omega) (by omega) qi (by omega)).mono ?_;rintro e w4 ⟨rfl,hp4,hk4⟩;have HP4:Hid _:=hp4;have HK4:Hid _:=hk4;have hcw4:w4.cell? ⟨wr.heap.size,0,none⟩=some (.int .i64 (qi:Int)):=(hk4.cell (a:=⟨wr.heap.size,0,none⟩) (by show wr.heap.size<w3.heap.size;have h1:=HK3.out.size;have:W2.drew.heap.size=W2.heap.size:=rfl;omega) (by show ¬wr.heap.size=b5;omega)).trans hcw3;clear hp4 hk4)))
    have hk24:Kept (fun i=>i=b5) W2 w4:=((Kept.drew _ W2).trans HK3.out iL).trans HK4.out iL
    have HP5:Hid (qu w4 b5 (zE (ws.take (k+1)))):=by
     have h1:=HP4.out
     have hov:=HP1.out.ok.push_over (bytesOf 2 qi) (by rw [zP];rfl) (by rw [hpl0];show (k+1)*2≤124;omega)
     rw [hpw] at hov
     rw [hov,HSN.out] at h1
     exact⟨h1,ut (by simp;omega)⟩
    have HB4:Hid (w4.heap[wr.heap.size]? =some (.cells (.int .i64 (qi:Int)::qb).toArray 160 (0,0))):=(hk24.block wr.heap.size (by omega) (by show ¬wr.heap.size=b5;omega)).trans HB1.out
    have HD4:Hid (zh w4 bd S1 D1):=(HD1.out.kept HKA.out nF).kept hk24 (fun j hj e=>HSB.out (by rw [←e];exact hj))
    have hkW4:Kept (fun j=>S j∨j=b5) W w4:=(HK2.out.trans HKA.out fE).trans hk24 (fun j hj=>.inl (.inr hj))
    have HKW4:Hid _:=hkW4
    clear hcw hk24 hkW4
    cases hw1:D1.writes (3+(k:Int)) with
    |true=>
     have HW1:Hid _:=hw1
     clear hw1
     go_wp2_with (first
      |(show wpList _ _ _ ({dst:=some 24,op:=.load _ _,type:=_,pos:=_,after:=_,guard:=_}::_) _ _;refine wpList_load_mid rfl 131 (.tmp 23) rfl _ _ rfl qb _ (qJ HB4.out) Tryz.underlying131 rfl (by rw [HPO.out.1];exact HI.out) ?_)
      |(go_at_call 146;refine(yU _ bd S1 D1 HD4.out (3+(k:Int)) (by constructor<;>omega) qb HPO.out hfu1 (by omega)).mono ?_;rintro e w5 ⟨rfl,⟨S2,hd2,hS2⟩,hk2⟩;rw [HW1.out];have HD2:Hid (zh w5 bd S2 (D1.write (3+(k:Int)) qb)):=hd2;have HS2:Hid _:=hS2;have HK5:Hid _:=hk2;clear hd2 hS2 hk2))
     go_roundw
     case rel=>
      refine⟨k+1,D1.write (3+(k:Int)) qb,S2,by omega,by go_num,by rw [HWR.out,HWD.out,if_pos HW1.out],HD2.out,fun j hj=>?_,HKW4.out.trans HK5.out (fun j hj=>?_),HP5.out.kept HK5.out HSB.out,xI _ _ hfu1,by have:=vH (D:=D1) (3+(k:Int)) qb;omega⟩
      ·rcases HS2.out j hj with h1|h1
       ·exact HS1.out j h1
       ·right;have:=HKW4.out.size;omega
      ·rcases HS1.out j hj with h1|h1
       ·exact .inl (.inl h1)
       ·exact .inr h1
     case measure=>simp [intOf];omega
    |false=>
     have HW1:Hid _:=hw1
     clear hw1
     go_wp2_with (first
      |(show wpList _ _ _ ({dst:=some 24,op:=.load _ _,type:=_,pos:=_,after:=_,guard:=_}::_) _ _;refine wpList_load_mid rfl 131 (.tmp 23) rfl _ _ rfl qb _ (qJ HB4.out) Tryz.underlying131 rfl (by rw [HPO.out.1];exact HI.out) ?_)
      |(go_at_call 146;refine(yU _ bd S1 D1 HD4.out (3+(k:Int)) (by constructor<;>omega) qb HPO.out hfu1 (by omega)).mono ?_;rintro e w5 ⟨rfl,⟨S2,hd2,hS2⟩,hk2⟩;rw [HW1.out];have HD2:Hid (zh w5 bd S2 (D1.write (3+(k:Int)) qb)):=hd2;have HS2:Hid _:=hS2;have HK5:Hid _:=hk2;clear hd2 hS2 hk2))
     go_ret
     have e0:qd D (z8 ws)=(false,D1):=by rw [HWR.out,HWD.out,if_neg (by rw [HW1.out];simp)]
     have e1:qD D ws=(false,D1):=by
      unfold qD yT
      rw [e0];simp
     rw [e1]
     have hd2:=HD2.out
     rw [fw qb HW1.out] at hd2
     exact⟨rfl,uu HSL.out hs1 hsz HKK.out HKW4.out HS1.out ⟨⟨S2,hd2,HS2.out⟩,HK5.out⟩⟩
  ·have HE:Hid (qd D (z8 ws)=(true,D1)):=by show _=_;rw [HWR.out,List.drop_of_length_le (by rw [yX];omega)];rfl
   have HPE:Hid (qu wr b5 (zE ws)):=by
    have:=HPG.out
    rw [List.take_of_length_le (by omega)] at this
    exact this
   have HPV:Hid (zy (zl (zE ws))):=qP (ut (by omega))
   cases hz2:(D1.fuse==0) with
   |false=>
    have HZ:Hid _:=hz2
    clear hz2
    go_wp2_with (first
     |(go_at_call 40;refine(yc _ bd S1 D1 HD1.out hfu1).mono ?_;rintro e w2 ⟨rfl,⟨S2,hd2,hS2⟩,hk2⟩;rw [HZ.out];have HD2:Hid (zh w2 bd S2 D1.flush):=hd2;have HS2:Hid _:=hS2;have HK5:Hid _:=hk2;have hrP:(vy (.pointer (some ⟨b5,0,none⟩))).run Tryz.prog w2=.ok (.agg (zl (zE ws)).toArray) w2:=yV _ _ _ _ (zQ (HPE.out.kept hk2 HSB.out).bs.at_) HPV.out.1;clear hd2 hS2 hk2)
     |(go_at_call 147;refine(uO _ bd S2 D1.flush HD2.out (zl (zE ws)) HPV.out (xJ hfu1) (by have:=vM (D:=D1);omega)).mono ?_;rintro e w4 ⟨rfl,hon4⟩;have HO4:Hid _:=hon4;clear hon4))
    go_ret
    have e1:qD D ws=yM D1.flush (zl (zE ws)):=by
     have hz2:D1.fuse≠0:=by have:=HZ.out;simpa using this
     unfold qD yT
     rw [HE.out,if_pos ⟨rfl,hz2⟩]
    rw [e1]
    exact⟨by simp,uu HSL.out hs1 hsz HKK.out HK2.out HS1.out (qK.trans (D1:=D1) (fun k hk=>.inl (HS2.out k hk)) HK5.out HO4.out)⟩
   |true=>
    have HZ:Hid _:=hz2
    clear hz2
    go_wp2_with (go_at_call 40;refine(yc _ bd S1 D1 HD1.out hfu1).mono ?_;rintro e w2 ⟨rfl,⟨S2,hd2,hS2⟩,hk2⟩;rw [HZ.out];have HD2:Hid (zh w2 bd S2 D1.flush):=hd2;have HS2:Hid _:=hS2;have HK5:Hid _:=hk2;clear hd2 hS2 hk2)
    go_ret
    have hz2:D1.fuse=0:=by have:=HZ.out;simpa using this
    have e1:qD D ws=(false,D1):=by
     unfold qD yT
     rw [HE.out,if_neg (by simp [hz2])]
    have e2:D1.flush=D1:=if_pos hz2
    rw [e1]
    have hd2:=HD2.out
    rw [e2] at hd2
    exact⟨rfl,uu HSL.out hs1 hsz HKK.out HK2.out HS1.out ⟨⟨S2,hd2,fun j hj=>.inl (HS2.out j hj)⟩,HK5.out⟩⟩
end
theorem fA:∀(ws:List (Nat×List Value)) (D:Dk),zD D.fuse→zD (qd D ws).2.fuse
 |[],D,h=>h
 |p::ws,D,h=>by
  unfold qd
  split
  ·exact fA ws _ (xI _ _ h)
  ·exact h
theorem ZF:∀(ws:List (Nat×List Value)) (D:Dk),(qd D ws).2.ps.length≤D.ps.length+ws.length
 |[],D=>Nat.le_refl _
 |p::ws,D=>by
  unfold qd
  split
  ·have h1:=ZF ws (D.write p.1 p.2)
   have h2:=vH (D:=D) p.1 p.2
   simp only [List.length_cons];omega
  ·simp only [List.length_cons];omega
theorem Q6{D:Dk}{b:List Value}(h:zD D.fuse):zD (yM D b).2.fuse:=by
 unfold yM
 split
 ·exact xJ (xI _ _ h)
 ·exact h
theorem J0{D:Dk}{b:List Value}:(yM D b).2.ps.length≤D.ps.length+1:=by
 unfold yM
 split
 ·have h1:=vM (D:=D.write 0 b)
  have h2:=vH (D:=D) 0 b
  show (D.write 0 b).flush.ps.length≤_
  omega
 ·show D.ps.length≤_
  omega
theorem Q7{r:Bool×Dk}{b:List Value}(h:zD r.2.fuse):zD (yT r b).2.fuse:=by
 unfold yT
 split
 ·exact Q6 (xJ h)
 ·exact h
theorem J1{r:Bool×Dk}{b:List Value}:(yT r b).2.ps.length≤r.2.ps.length+1:=by
 unfold yT
 split
 ·have h1:=J0 (D:=r.2.flush) (b:=b)
  have h2:=vM (D:=r.2)
  omega
 ·show r.2.ps.length≤_
  omega
theorem Q8{D:Dk}{ws:List (Nat×List Value)}(h:zD D.fuse):zD (qD D ws).2.fuse:=Q7 (fA _ _ h)
theorem J2{D:Dk}{ws:List (Nat×List Value)}:(qD D ws).2.ps.length≤D.ps.length+ws.length+1:=by
 have h1:=J1 (r:=qd D (z8 ws)) (b:=zl (zE ws))
 have h2:=ZF (z8 ws) D
 rw [yX] at h2
 unfold qD
 omega
theorem ZG(w:World)(bc bd:Nat)(S T:Nat→Prop)(D:Dk)(C:Ck)(h:Cw w bc bd S T D C)(hkey:∀p∈C.ws,p.1<65536)(hlen:C.ws.length≤18)(hfu:zD D.fuse)(hps:D.ps.length≤17179869184)(hn:(qD D C.ws).1=true):
 Calls Tryz.prog 140 #[.pointer (some ⟨bc,0,none⟩)] w fun e w'=>e=.returned (.bool (zX D C.ws).1)∧qK w w' bd S (zX D C.ws).2:=by
 have HH:Hid _:=h
 obtain⟨a,cap,hc⟩:=h.chg
 have HC:Hid _:=hc
 have hc0:=hc.c0
 have hc1:=hc.c1
 have HR:Hid (jU w T a C.ws):=hc.rows hkey
 have HT:Hid (∀k,T k→k<w.heap.size):=hc.lt
 have hbT:=hc.bcT
 have hbc:=hc.lt bc hbT
 have HA:Hid (∀k,S k→¬T k):=h.apart
 clear h hc
 ·have HN:Hid _:=hn
  clear hn
  go_enter Tryz.func140,Tryz.ntmps140
  go_wp2
  go_region_held3 (fun w'=>w'.cell? ⟨bc,0,none⟩=some (.pointer (some ⟨bd,0,none⟩))∧w'.cell? ⟨bc,1,none⟩=some (.slice a C.ws.length cap)) (go_keep) ((first
   |(go_at_call 179;refine(ZE _ bd S T D (by exact HH.out.disk.kept (Kept.drew (fun _=>False) w) nF) a cap C.ws (by exact HR.out.kept (Kept.drew (fun _=>False) w) nF) HA.out (by exact HT.out) hfu (by omega) hlen).mono ?_;rintro e w1 ⟨rfl,⟨⟨S1,hd1,hS1⟩,hk1⟩⟩;rw [HN.out];have HD1:Hid (zh w1 bd S1 (qD D C.ws).2):=hd1;have HS1:Hid _:=hS1;have HK1:Hid (Kept S w.drew w1):=hk1;have hcc:qm w1 bc bd T C a cap:=(HC.out.kept (Kept.drew (fun _=>False) w) nF).kept hk1 (fun k hk hS=>HA.out k hS hk);have hc01:=hcc.c0;have hc11:=hcc.c1;clear hd1 hS1 hk1 hcc)
   |(go_at_call 85;refine(fx _ bd S1 T (qD D C.ws).2 HD1.out a cap C.ws ((HR.out.kept (Kept.drew (fun _=>False) w) nF).kept HK1.out (fun k hk hS=>HA.out k hS hk)) (fun k hk hkT=>by rcases HS1.out k hk with h1|h1;exact HA.out k h1 hkT;have h2:=HT.out k hkT;have:w.drew.heap.size=w.heap.size:=rfl;omega) (fun k hk=>Nat.lt_of_lt_of_le (HT.out k hk) HK1.out.size) (Q8 hfu) (by have:=J2 (D:=D) (ws:=C.ws);omega)).mono ?_;rintro e w2 ⟨rfl,hon⟩;have HON:Hid _:=hon;have hc02:w2.cell? ⟨bc,0,none⟩=some (.pointer (some ⟨bd,0,none⟩)):=(hon.kept.cell (a:=⟨bc,0,none⟩) (Nat.lt_of_lt_of_le hbc HK1.out.size) (fun hb=>by rcases HS1.out bc hb with h1|h1;exact HA.out bc h1 hbT;have:w.drew.heap.size=w.heap.size:=rfl;omega)).trans hc01;have hc12:w2.cell? ⟨bc,1,none⟩=some (.slice a C.ws.length cap):=(hon.kept.cell (a:=⟨bc,1,none⟩) (Nat.lt_of_lt_of_le hbc HK1.out.size) (fun hb=>by rcases HS1.out bc hb with h1|h1;exact HA.out bc h1 hbT;have:w.drew.heap.size=w.heap.size:=rfl;omega)).trans hc11;clear hon)))
  go_wp2
  go_ret
  have e1:zX D C.ws=qC (qD D C.ws).2 C.ws:=if_pos HN.out
  rw [e1]
  exact⟨rfl,qK.trans (D1:=D) (S1:=S1) (fun k hk=>HS1.out k hk) (Kept.trans (S':=S) (b:=w.drew) kD HK1.out iL) HON.out⟩
theorem ZH(w:World)(bd:Nat)(S:Nat→Prop)(D:Dk)(h:zh w bd S D)(hfu:zD D.fuse)(hz:(D.fuse==0)=true):
 Calls Tryz.prog 55 #[.pointer (some ⟨bd,0,none⟩)] w fun e w'=>e=.returned (.bool false)∧qK w w' bd S D:=by
 have HH:Hid (zh w bd S D):=h
 have HZ:Hid _:=hz
 clear h hz
 go_enter Tryz.func55,Tryz.ntmps55
 go_wp2_with (go_at_call 40;refine(yc _ bd S D HH.out hfu).mono ?_;rintro e w2 ⟨rfl,⟨S2,hd2,hS2⟩,hk2⟩;rw [HZ.out];have HD2:Hid (zh w2 bd S2 D.flush):=hd2;have HS2:Hid _:=hS2;have HK2:Hid _:=hk2;clear hd2 hS2 hk2)
 go_ret
 have hz2:D.fuse=0:=by have:=HZ.out;simpa using this
 have e2:D.flush=D:=if_pos hz2
 have hd2:=HD2.out
 rw [e2] at hd2
 exact⟨rfl,⟨S2,hd2,fun k hk=>.inl (HS2.out k hk)⟩,HK2.out⟩
theorem ZI(w:World)(bd:Nat)(S:Nat→Prop)(D:Dk)(h:zh w bd S D)(hfu:zD D.fuse)(hz:(D.fuse==0)=false)(hr0:0≤D.reads)(hr1:D.reads≤4611686018427387904)(p:Pg)(hp:p.Ok)(hl:D.flush.look 0=zl p)(hn:p.items.length=0):
 Calls Tryz.prog 55 #[.pointer (some ⟨bd,0,none⟩)] w fun e w'=>e=.returned (.bool true)∧qK w w' bd S {D.flush with reads:=D.reads+1}:=by
 obtain⟨Zb,hZb,hzz⟩:∃Zb:List Value,Zb=zT∧∀w,(zeroValue 154).run Tryz.prog w=.ok (.agg Zb.toArray) w:=⟨zT,rfl,zV Tryz.infoPage⟩
 have HZb:Hid (zy Zb):=by rw [hZb];exact zF
 clear hZb
 have HIp:Hid ((Tryz.prog.info? 154).map (·.size)=some 128):=zS Tryz.infoPage
 have HH:Hid (zh w bd S D):=h
 have HZ:Hid _:=hz
 have HL:Hid _:=hl
 have HN:Hid _:=hn
 have HPO:Hid (zy (zl p)):=qP hp
 have hfr:D.flush.reads=D.reads:=by unfold Dk.flush;split<;>rfl
 have HFR:Hid _:=hfr
 have HP:Hid p.Ok:=hp
 clear h hz hl hn hp
 go_enter Tryz.func55,Tryz.ntmps55
 go_wp2_with (first
  |(go_at_call 40;refine(yc _ bd S D HH.out hfu).mono ?_;rintro e w2 ⟨rfl,⟨S2,hd2,hS2⟩,hk2⟩;rw [HZ.out];have HD2:Hid (zh w2 bd S2 D.flush):=hd2;have HS2:Hid _:=hS2;have HK2:Hid _:=hk2;clear hd2 hS2 hk2)
  |(go_at_call 81;refine(xy _ bd S2 D.flush HD2.out 0 (by constructor<;>omega) (by rw [HFR.out];exact hr0) (by rw [HFR.out];exact hr1)).mono ?_;rintro e w3 ⟨rfl,hd3,hk3⟩;rw [HL.out];have HD3:Hid (zh w3 bd S2 {D.flush with reads:=D.flush.reads+1 }):=hd3;have HK3:Hid _:=hk3;clear hd3 hk3)
  |(show wpList _ _ _ ({dst:=none,op:=.store _ (.tmp 3) (.tmp 10),type:=_,pos:=_,after:=_,guard:=_}::_) _ _;refine zg rfl 154 (.tmp 3) (.tmp 10) rfl _ _ (zl p) (by simp) rfl rfl (by rw [HPO.out.1];exact HIp.out) (by rw [List.size_toArray,HZb.out.1,HPO.out.1]) HPO.out.2 ?_;have HPA:Hid (qu (w3.alloc (.cells (zl p).toArray 154)) w3.heap.size p):=⟨⟨heap_alloc_new w3 _⟩,HP.out⟩)
  |(go_at_call 82;refine(j7 _ _ _ HPA.out).mono ?_;rintro e w4 ⟨rfl,rfl⟩;rw [HN.out]))
 go_ret
 have hd:=HD3.out.kept (Kept.alloc (fun _=>False) w3 (.cells (zl p).toArray 154)) nF
 rw [HFR.out] at hd
 refine⟨rfl,⟨S2,hd,fun k hk=>.inl (HS2.out k hk)⟩,(HK2.out.trans HK3.out (fun k hk=>.inl (HS2.out k (by rw [hk];exact HD2.out.bdS)))).trans (Kept.alloc _ _ _) iL⟩
end prog
namespace prog
open Go.MuLone
open keys (ze zd zr zn zu)
theorem ZJ(w:World)(bs bc bd:Nat)(T:Nat→Prop)(C:Ck)(h:Chg w bc bd T C)(hf:(C.full||decide (18<C.ws.length))=true):
 Calls Tryz.prog 78 #[.pointer (some ⟨bs,0,none⟩),.pointer (some ⟨bc,0,none⟩)] w fun e w'=>e=.returned (.int .i64 6)∧w'=w:=by
 have HH:Hid _:=h
 have HF:Hid ((C.full||decide (18<C.ws.length))=true):=hf
 clear h hf
 go_enter Tryz.func78,Tryz.ntmps78
 go_wp2_with (go_at_call 139;refine(gZ w bc bd T C HH.out).mono ?_;rintro e w1 ⟨rfl,hw1⟩;rw [hw1,HF.out];clear hw1 w1)
 go_ret
 exact⟨rfl,rfl⟩
end prog
namespace prog
open book (kI)
open keys (ze zd zr zn)
def Uk(bc bd:Nat)(l:Value):Nat→Value
 |0=>.pointer (some ⟨bc,0,none⟩)
 |1=>.pointer (some ⟨bc,0,none⟩)
 |2=>.pointer (some ⟨bc,0,none⟩)
 |3=>.pointer (some ⟨bd,0,none⟩)
 |4=>.pointer (some ⟨bc,0,none⟩)
 |5=>.pointer (some ⟨bc,0,none⟩)
 |6=>.pointer (some ⟨bc,1,none⟩)
 |_=>l
structure Vc (w:World) (bd:Nat) (S:Nat→Prop) (D1:Dk) (Z:Nat→Value) (L:Nat→Bool) (x:Nat→Value) (w':World):Prop where
 pv:∀i,i<8→L i=true→x i=Z i
 fv:∀i,(i=8∨i=9∨i=19)→L i=true→x i=.bool false
 early:L 8=false→Kept (fun _=>False) w w'
 dep:L 8=true→L 3=true∧L 7=true
 late:L 8=true→qK w w' bd S D1
section
variable {w w' w2:World} {bd:Nat} {S:Nat→Prop} {D1:Dk} {Z:Nat→Value} {L:Nat→Bool} {x:Nat→Value}
theorem Vc.upd(h:Vc w bd S D1 Z L x w')(i:Nat)(v:Value)(h8:i≠8)(h1:i<8→v=Z i)(h2:(i=9∨i=19)→v=.bool false):Vc w bd S D1 Z (fun j=>decide (j=i)||L j) (fun j=>if j=i then v else x j) w':=by
 have e8:(decide (8=i)||L 8)=L 8:=by simp [Ne.symm h8]
 refine⟨fun j hj hl=>?_,fun j hj hl=>?_,fun hl=>h.early (by simpa [e8] using hl),fun hl=>?_,fun hl=>h.late (by simpa [e8] using hl)⟩
 ·by_cases e:j=i
  ·subst e;simp [h1 hj]
  ·simp only [e,if_false];exact h.pv j hj (by simpa [e] using hl)
 ·by_cases e:j=i
  ·subst e;simp [h2 (hj.resolve_left h8)]
  ·simp only [e,if_false];exact h.fv j hj (by simpa [e] using hl)
 ·have:=h.dep (by simpa [e8] using hl)
  simp [this]
theorem Vc.call(h:Vc w bd S D1 Z L x w')(hd:L 3=true∧L 7=true)(hon:qK w w2 bd S D1):Vc w bd S D1 Z (fun j=>decide (j=8)||L j) (fun j=>if j=8 then .bool false else x j) w2:=by
 refine⟨fun j hj hl=>?_,fun j hj hl=>?_,fun hl=>by simp at hl,fun _=>by simp [hd],fun _=>hon⟩
 ·have e:j≠8:=by omega
  simp only [e,if_false];exact h.pv j hj (by simpa [e] using hl)
 ·by_cases e:j=8
  ·subst e;simp
  ·simp only [e,if_false];exact h.fv j hj (by simpa [e] using hl)
end
set_option maxRecDepth 60000 in
theorem ZK(w:World)(bc bd:Nat)(S T:Nat→Prop)(D:Dk)(C:Ck)(h:Cw w bc bd S T D C)(hkey:∀p∈C.ws,p.1<65536)(hlen:C.ws.length≤18)(hfu:zD D.fuse)(hps:D.ps.length≤17179869184)(hn:(qD D C.ws).1=false):
 Calls Tryz.prog 140 #[.pointer (some ⟨bc,0,none⟩)] w fun e w'=>e=.returned (.bool false)∧qK w w' bd S (qD D C.ws).2:=by
 have HH:Hid _:=h
 obtain⟨a,cap,hc⟩:=h.chg
 have HR:Hid (jU w T a C.ws):=hc.rows hkey
 have HT:Hid (∀k,T k→k<w.heap.size):=hc.lt
 have hbc:=hc.lt bc hc.bcT
 have HA:Hid (∀k,S k→¬T k):=h.apart
 have hcell:∀w1,Kept (fun _=>False) w w1→w1.cell? ⟨bc,0,none⟩=some (.pointer (some ⟨bd,0,none⟩))∧w1.cell? ⟨bc,1,none⟩=some (.slice a C.ws.length cap):=fun w1 k=>⟨(k.cell (a:=⟨bc,0,none⟩) hbc id).trans hc.c0,(k.cell (a:=⟨bc,1,none⟩) hbc id).trans hc.c1⟩
 have HCE:Hid (∀w1,Kept (fun _=>False) w w1→w1.cell? ⟨bc,0,none⟩=some (.pointer (some ⟨bd,0,none⟩))∧w1.cell? ⟨bc,1,none⟩=some (.slice a C.ws.length cap)):=hcell
 have HN:Hid ((qD D C.ws).1=false):=hn
 clear h hc hcell hn
 go_enter Tryz.func140,Tryz.ntmps140
 go_wp2
 refine kI (by kernel_rfl) (by kernel_rfl) (fun L a' w1=>∃x:Nat→Value,a'={tmps:=#[.pointer (some ⟨bc,0,none⟩),undef,.bool false,x 0,x 1,x 2,x 3,x 4,x 5,x 6,x 7,x 8,x 9,x 10,x 11,x 12,x 13,x 14,x 15,x 16,x 17,x 18,x 19],defers:=[]}∧Vc w bd S (qD D C.ws).2 (Uk bc bd (.slice a C.ws.length cap)) L x w1) ?_ ?_ ?_
 ·exact⟨fun _=>undef,rfl,⟨fun _ _ h=>(nomatch h),fun _ _ h=>(nomatch h),fun _=>Kept.drew _ w,fun h=>(nomatch h),fun h=>(nomatch h)⟩⟩
 ·rintro L a' w1 i o ho hL hdep ⟨x,rfl,hI⟩
  have hi:i<21:=(lT ho)
  rcases (by omega:i=0∨i=1∨i=2∨i=3∨i=4∨i=5∨i=6∨i=7∨i=8∨i=9∨i=10∨i=11∨i=12∨i=13∨i=14∨i=15∨i=16∨i=17∨i=18∨i=19∨i=20) with rfl|rfl|rfl|rfl|rfl|rfl|rfl|rfl|rfl|rfl|rfl|rfl|rfl|rfl|rfl|rfl|rfl|rfl|rfl|rfl|rfl
  ·have ho':=Option.some.inj ho;subst ho'
   refine wpOp_step rfl (fun K' hK=>?_)
   go_simp
   exact hK _ _ ⟨fun j=>if j=0 then .pointer (some ⟨bc,0,none⟩) else x j,by simp,hI.upd 0 _ (by omega) (fun _=>rfl) (fun _=>by omega)⟩
  ·have ho':=Option.some.inj ho;subst ho'
   have d0:L 0=true:=hdep ⟨0,.data⟩ (by simp) rfl
   have e0:x 0=.pointer (some ⟨bc,0,none⟩):=hI.pv 0 (by omega) d0
   refine wpOp_step rfl (fun K' hK=>?_)
   simp only [e0]
   go_simp
   exact hK _ _ ⟨fun j=>if j=1 then .pointer (some ⟨bc,0,none⟩) else x j,by simp [e0],hI.upd 1 _ (by omega) (fun _=>rfl) (fun _=>by omega)⟩
  ·have ho':=Option.some.inj ho;subst ho'
   have d1:L 1=true:=hdep ⟨1,.data⟩ (by simp) rfl
   have e1:x 1=.pointer (some ⟨bc,0,none⟩):=hI.pv 1 (by omega) d1
   refine wpOp_step rfl (fun K' hK=>?_)
   simp only [e1]
   go_simp
   exact hK _ _ ⟨fun j=>if j=2 then .pointer (some ⟨bc,0,none⟩) else x j,by simp [e1],hI.upd 2 _ (by omega) (fun _=>rfl) (fun _=>by omega)⟩
  ·have ho':=Option.some.inj ho;subst ho'
   have d2:L 2=true:=hdep ⟨2,.data⟩ (by simp) rfl
   have e2:x 2=.pointer (some ⟨bc,0,none⟩):=hI.pv 2 (by omega) d2
   have l8:L 8=false:=by
    cases h8:L 8 with
    |false=>rfl
    |true=>have h9:=hI.dep h8;simp [hL] at h9
   obtain⟨c1,c2⟩:=HCE.out w1 (hI.early l8)
   refine wpOp_step rfl (fun K' hK=>?_)
   simp only [e2]
   go_simp
   exact hK _ _ ⟨fun j=>if j=3 then .pointer (some ⟨bd,0,none⟩) else x j,by simp [e2],hI.upd 3 _ (by omega) (fun _=>rfl) (fun _=>by omega)⟩
  ·have ho':=Option.some.inj ho;subst ho'
   refine wpOp_step rfl (fun K' hK=>?_)
   go_simp
   exact hK _ _ ⟨fun j=>if j=4 then .pointer (some ⟨bc,0,none⟩) else x j,by simp,hI.upd 4 _ (by omega) (fun _=>rfl) (fun _=>by omega)⟩
  ·have ho':=Option.some.inj ho;subst ho'
   have d4:L 4=true:=hdep ⟨4,.data⟩ (by simp) rfl
   have e4:x 4=.pointer (some ⟨bc,0,none⟩):=hI.pv 4 (by omega) d4
   refine wpOp_step rfl (fun K' hK=>?_)
   simp only [e4]
   go_simp
   exact hK _ _ ⟨fun j=>if j=5 then .pointer (some ⟨bc,0,none⟩) else x j,by simp [e4],hI.upd 5 _ (by omega) (fun _=>rfl) (fun _=>by omega)⟩
  ·have ho':=Option.some.inj ho;subst ho'
   have d5:L 5=true:=hdep ⟨5,.data⟩ (by simp) rfl
   have e5:x 5=.pointer (some ⟨bc,0,none⟩):=hI.pv 5 (by omega) d5
   refine wpOp_step rfl (fun K' hK=>?_)
   simp only [e5]
   go_simp
   exact hK _ _ ⟨fun j=>if j=6 then .pointer (some ⟨bc,1,none⟩) else x j,by simp [e5],hI.upd 6 _ (by omega) (fun _=>rfl) (fun _=>by omega)⟩
  ·have ho':=Option.some.inj ho;subst ho'
   have d6:L 6=true:=hdep ⟨6,.data⟩ (by simp) rfl
   have e6:x 6=.pointer (some ⟨bc,1,none⟩):=hI.pv 6 (by omega) d6
   have l8:L 8=false:=by
    cases h8:L 8 with
    |false=>rfl
    |true=>have h9:=hI.dep h8;simp [hL] at h9
   obtain⟨c1,c2⟩:=HCE.out w1 (hI.early l8)
   refine wpOp_step rfl (fun K' hK=>?_)
   simp only [e6]
   go_simp
   exact hK _ _ ⟨fun j=>if j=7 then .slice a C.ws.length cap else x j,by simp [e6],hI.upd 7 _ (by omega) (fun _=>rfl) (fun _=>by omega)⟩
  ·have ho':=Option.some.inj ho;subst ho'
   have d3:L 3=true:=hdep ⟨3,.data⟩ (by simp) rfl
   have e3:x 3=.pointer (some ⟨bd,0,none⟩):=hI.pv 3 (by omega) d3
   have d7:L 7=true:=hdep ⟨7,.data⟩ (by simp) rfl
   have e7:x 7=.slice a C.ws.length cap:=hI.pv 7 (by omega) d7
   refine wpOp_step rfl (fun K' hK=>?_)
   simp only [e3,e7]
   go_simp
   have k1:=hI.early hL
   refine(ZE w1 bd S T D (HH.out.disk.kept k1 nF) a cap C.ws (HR.out.kept k1 nF) HA.out (fun k hk=>Nat.lt_of_lt_of_le (HT.out k hk) k1.size) hfu (by omega) hlen).mono ?_
   rintro e w2 ⟨rfl,hon⟩
   rw [HN.out]
   exact hK _ _ ⟨fun j=>if j=8 then .bool false else x j,by simp [e3,e7],hI.call ⟨d3,d7⟩ (qK.kept0 k1 hon)⟩
  ·have ho':=Option.some.inj ho;subst ho'
   have d8:L 8=true:=hdep ⟨8,.data⟩ (by simp) rfl
   have e8:x 8=.bool false:=hI.fv 8 (by omega) d8
   refine wpOp_step rfl (fun K' hK=>?_)
   simp only [e8]
   go_simp
   exact hK _ _ ⟨fun j=>if j=9 then .bool false else x j,by simp [e8],hI.upd 9 _ (by omega) (fun _=>by omega) (fun _=>rfl)⟩
  ·have ho':=Option.some.inj ho;subst ho'
   have d9:L 9=true:=hdep ⟨9,.guard⟩ (by simp) rfl
   have e9:x 9=.bool false:=hI.fv 9 (by omega) d9
   refine wpOp_step rfl (fun K' hK=>?_)
   simp only [e9]
   rw [if_neg (by simp [Region.wanted,yielded])]
   exact hK _ _ ⟨fun j=>if j=10 then undef else x j,by simp [e9,Act.put],hI.upd 10 _ (by omega) (fun h=>by omega) (fun h=>by omega)⟩
  ·have ho':=Option.some.inj ho;subst ho'
   have d9:L 9=true:=hdep ⟨9,.guard⟩ (by simp) rfl
   have e9:x 9=.bool false:=hI.fv 9 (by omega) d9
   refine wpOp_step rfl (fun K' hK=>?_)
   simp only [e9]
   rw [if_neg (by simp [Region.wanted,yielded])]
   exact hK _ _ ⟨fun j=>if j=11 then undef else x j,by simp [e9,Act.put],hI.upd 11 _ (by omega) (fun h=>by omega) (fun h=>by omega)⟩
  ·have ho':=Option.some.inj ho;subst ho'
   have d9:L 9=true:=hdep ⟨9,.guard⟩ (by simp) rfl
   have e9:x 9=.bool false:=hI.fv 9 (by omega) d9
   refine wpOp_step rfl (fun K' hK=>?_)
   simp only [e9]
   rw [if_neg (by simp [Region.wanted,yielded])]
   exact hK _ _ ⟨fun j=>if j=12 then undef else x j,by simp [e9,Act.put],hI.upd 12 _ (by omega) (fun h=>by omega) (fun h=>by omega)⟩
  ·have ho':=Option.some.inj ho;subst ho'
   have d9:L 9=true:=hdep ⟨9,.guard⟩ (by simp) rfl
   have e9:x 9=.bool false:=hI.fv 9 (by omega) d9
   refine wpOp_step rfl (fun K' hK=>?_)
   simp only [e9]
   rw [if_neg (by simp [Region.wanted,yielded])]
   exact hK _ _ ⟨fun j=>if j=13 then undef else x j,by simp [e9,Act.put],hI.upd 13 _ (by omega) (fun h=>by omega) (fun h=>by omega)⟩
  ·have ho':=Option.some.inj ho;subst ho'
   have d9:L 9=true:=hdep ⟨9,.guard⟩ (by simp) rfl
   have e9:x 9=.bool false:=hI.fv 9 (by omega) d9
   refine wpOp_step rfl (fun K' hK=>?_)
   simp only [e9]
   rw [if_neg (by simp [Region.wanted,yielded])]
   exact hK _ _ ⟨fun j=>if j=14 then undef else x j,by simp [e9,Act.put],hI.upd 14 _ (by omega) (fun h=>by omega) (fun h=>by omega)⟩
  ·have ho':=Option.some.inj ho;subst ho'
   have d9:L 9=true:=hdep ⟨9,.guard⟩ (by simp) rfl
   have e9:x 9=.bool false:=hI.fv 9 (by omega) d9
   refine wpOp_step rfl (fun K' hK=>?_)
   simp only [e9]
   rw [if_neg (by simp [Region.wanted,yielded])]
   exact hK _ _ ⟨fun j=>if j=15 then undef else x j,by simp [e9,Act.put],hI.upd 15 _ (by omega) (fun h=>by omega) (fun h=>by omega)⟩
  ·have ho':=Option.some.inj ho;subst ho'
   have d9:L 9=true:=hdep ⟨9,.guard⟩ (by simp) rfl
   have e9:x 9=.bool false:=hI.fv 9 (by omega) d9
   refine wpOp_step rfl (fun K' hK=>?_)
   simp only [e9]
   rw [if_neg (by simp [Region.wanted,yielded])]
   exact hK _ _ ⟨fun j=>if j=16 then undef else x j,by simp [e9,Act.put],hI.upd 16 _ (by omega) (fun h=>by omega) (fun h=>by omega)⟩
  ·have ho':=Option.some.inj ho;subst ho'
   have d9:L 9=true:=hdep ⟨9,.guard⟩ (by simp) rfl
   have e9:x 9=.bool false:=hI.fv 9 (by omega) d9
   refine wpOp_step rfl (fun K' hK=>?_)
   simp only [e9]
   rw [if_neg (by simp [Region.wanted,yielded])]
   exact hK _ _ ⟨fun j=>if j=17 then undef else x j,by simp [e9,Act.put],hI.upd 17 _ (by omega) (fun h=>by omega) (fun h=>by omega)⟩
  ·have ho':=Option.some.inj ho;subst ho'
   have d9:L 9=true:=hdep ⟨9,.guard⟩ (by simp) rfl
   have e9:x 9=.bool false:=hI.fv 9 (by omega) d9
   refine wpOp_step rfl (fun K' hK=>?_)
   simp only [e9]
   rw [if_neg (by simp [Region.wanted,yielded])]
   exact hK _ _ ⟨fun j=>if j=18 then undef else x j,by simp [e9,Act.put],hI.upd 18 _ (by omega) (fun h=>by omega) (fun h=>by omega)⟩
  ·have ho':=Option.some.inj ho;subst ho'
   have d9:L 9=true:=hdep ⟨9,.data⟩ (by simp) rfl
   have e9:x 9=.bool false:=hI.fv 9 (by omega) d9
   refine wpOp_step rfl (fun K' hK=>?_)
   simp only [e9]
   go_simp
   exact hK _ _ ⟨fun j=>if j=19 then .bool false else x j,by simp [e9],hI.upd 19 _ (by omega) (fun _=>by omega) (fun _=>rfl)⟩
  ·have ho':=Option.some.inj ho;subst ho'
   have d19:L 19=true:=hdep ⟨19,.data⟩ (by simp) rfl
   have e19:x 19=.bool false:=hI.fv 19 (by omega) d19
   refine wpOp_step rfl (fun K' hK=>?_)
   simp only [e19]
   go_simp
   exact hK _ _ ⟨fun j=>if j=20 then undef else x j,by simp [e19],hI.upd 20 _ (by omega) (fun h=>by omega) (fun h=>by omega)⟩
 ·rintro L a' w1 hL ⟨x,rfl,hI⟩
  have h8:=hL 8 (by decide)
  have HON:Hid (qK w w1 bd S (qD D C.ws).2):=hI.late h8
  clear hI
  go_wp2
  go_ret
  exact⟨rfl,HON.out⟩
end prog
namespace prog
open keys (ze zd zr zn zu)
theorem bT(w:World)(bc bd:Nat)(S T:Nat→Prop)(D:Dk)(C:Ck)(h:Cw w bc bd S T D C)(hkey:∀p∈C.ws,p.1<65536)(hlen:C.ws.length≤18)(hfu:zD D.fuse)(hps:D.ps.length≤17179869184):
 Calls Tryz.prog 140 #[.pointer (some ⟨bc,0,none⟩)] w fun e w'=>e=.returned (.bool (zX D C.ws).1)∧qK w w' bd S (zX D C.ws).2:=by
 cases hn:(qD D C.ws).1 with
 |true=>exact ZG w bc bd S T D C h hkey hlen hfu hps hn
 |false=>
  have e:zX D C.ws=qD D C.ws:=if_neg (by rw [hn];simp)
  rw [e,hn]
  exact ZK w bc bd S T D C h hkey hlen hfu hps hn
structure di (w w':World) (bs bd:Nat) (k:Int) (S:Nat→Prop) (r:Bool×Dk) (c:Int):Prop where
 code:c=if r.1=true then 0 else 7
 sto:zK w' bs k (if r.1=true then some bd else none)
 disk:∃S',zh w' bd S' r.2∧∀j,S' j→S j∨w.heap.size≤j
 kept:Kept (fun j=>S j∨j=bs) w w'
theorem fB(w:World)(bs bc bd:Nat)(k:Int)(S T:Nat→Prop)(D:Dk)(C:Ck)(h:Cw w bc bd S T D C)(hs:zK w bs k (some bd))(hSb:¬S bs)(hf:(C.full||decide (18<C.ws.length))=false)(hkey:∀p∈C.ws,p.1<65536)(hfu:zD D.fuse)(hps:D.ps.length≤17179869184):
 Calls Tryz.prog 78 #[.pointer (some ⟨bs,0,none⟩),.pointer (some ⟨bc,0,none⟩)] w fun e w'=>∃c,e=.returned (.int .i64 c)∧di w w' bs bd k S (zX D C.ws) c:=by
 have HH:Hid _:=h
 have HF:Hid ((C.full||decide (18<C.ws.length))=false):=hf
 have hle:C.ws.length≤18:=by
  simp only [Bool.or_eq_false_iff,decide_eq_false_iff_not] at hf
  omega
 have HST:Hid (zK w bs k (some bd)):=hs
 have HSB:Hid (¬S bs):=hSb
 have hbs:=hs.lt
 have HCM:Hid (Calls Tryz.prog 140 #[.pointer (some ⟨bc,0,none⟩)] w fun e w'=>e=.returned (.bool (zX D C.ws).1)∧qK w w' bd S (zX D C.ws).2):=bT w bc bd S T D C h hkey hle hfu hps
 clear h hf hkey hle hs hSb
 generalize zX D C.ws=R at*
 obtain⟨b,D'⟩:=R
 cases b with
 |true=>
  go_enter Tryz.func78,Tryz.ntmps78
  go_wp2_with (first
   |(go_at_call 139;refine(gZ w bc bd T C HH.out.chg).mono ?_;rintro e w1 ⟨rfl,hw1⟩;rw [hw1,HF.out];clear hw1 w1)
   |(go_at_call 140;refine HCM.out.mono ?_;rintro e w1 ⟨rfl,ho1⟩;have HO1:Hid (qK w w1 bd S D'):=ho1;clear ho1))
  go_ret
  exact⟨0,rfl,rfl,HST.out.kept HO1.out.kept HSB.out,HO1.out.disk,HO1.out.kept.mono iL⟩
 |false=>
  go_enter Tryz.func78,Tryz.ntmps78
  go_wp2_with (first
   |(go_at_call 139;refine(gZ w bc bd T C HH.out.chg).mono ?_;rintro e w1 ⟨rfl,hw1⟩;rw [hw1,HF.out];clear hw1 w1)
   |(go_at_call 140;refine HCM.out.mono ?_;rintro e w1 ⟨rfl,ho1⟩;have HO1:Hid (qK w w1 bd S D'):=ho1;have hst1:zK w1 bs k (some bd):=HST.out.kept ho1.kept HSB.out;have HST1:Hid (zK w1 bs k (some bd)):=hst1;have c21:=hst1.c2;have f21:=hst1.fz 2;have hbs1:=hst1.lt;clear ho1 hst1))
  go_ret
  have k2:=Kept.setCell (S:=fun j=>j=bs) w1 ⟨bs,2,none⟩ (.pointer none) rfl
  obtain⟨S1,hd1,hS1⟩:=HO1.out.disk
  refine⟨7,rfl,rfl,⟨?_⟩,⟨S1,hd1.kept k2 (fun j hj e=>?_),hS1⟩,(HO1.out.kept.mono iL).trans k2 (fun j hj=>.inl (.inr hj))⟩
  ·exact heap_setCell_same w1 bs 2 _ _ (.pointer none) HST1.out.at_
  ·have e':j=bs:=e
   subst e'
   rcases hS1 j hj with h|h
   ·exact HSB.out h
   ·omega
end prog
end Go.Proofs.YtcoengihaobddaaGreatDoor
