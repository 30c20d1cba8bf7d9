/- Part 24 of 31 of a proof: Log3, Log4, Log5, Add1, Add2, Put1, Open1 -/
import Derived.Test.YtcoengihaobddaaGreatDoorJm23
set_option maxHeartbeats 8000000
set_option linter.unusedVariables false
set_option linter.unusedSimpArgs false
set_option maxRecDepth 8000
namespace Go.Proofs.YtcoengihaobddaaGreatDoor
open Go.ChangeShapes Go.WideShapes Go.ChangeAt Go.RowKit disk ref
namespace prog
open keys (zj zd zA zq)
theorem dG{ws:List (Nat×List Value)}(hl:ws.length≤62):(qm ws).Ok where
 kind:=by simp [qm]
 link:=by simp [qm]
 wide:=fun i hi=>by
  obtain⟨p,_,rfl⟩:=List.mem_map.1 hi
  rw [zK];rfl
 fits:=by simp [qm,zi];omega
 few:=by simp [qm];omega
theorem Zy(ws:List (Nat×List Value))(k:Nat)(hk:k<ws.length):(qm (ws.take k)).push (bytesOf 2 ws[k].1)=qm (ws.take (k+1)):=by
 unfold qm Pg.push
 rw [List.take_succ_eq_append_getElem hk,List.map_append];rfl
theorem jy(ws:List (Nat×List Value)):(qV ws).length=ws.length:=by simp [qV]
theorem Xl(ws:List (Nat×List Value))(k:Nat)(hk:k<ws.length):(qV ws)[k]'(by rw [jy];exact hk)=(3+k,ws[k].2):=by simp [qV]
theorem uw{w W wr w5:World}{bd b5:Nat}{S S1:Nat→Prop}{D:Dk}(hSL:∀k,S k→k<w.heap.size)(hb:w.heap.size≤b5)(hsz:W.heap.size=b5+1)(k0:za (fun _=>False) w W)(k1:za (fun j=>S j∨j=b5) W wr)(hS:∀j,S1 j→S j∨W.heap.size≤j)(h:qN wr w5 bd S1 D):qN w w5 bd S D:=by
 refine qN.trans (D1:=D) (S1:=S1) (fun j hj=>?_) ((k0.mono fE).trans k1 (fun j hj=>?_)) h
 ·rcases hS j hj with h1|h1
  ·exact .inl h1
  ·right;omega
 ·rcases hj with h1|h1
  ·exact .inl h1
  ·right;omega
section
attribute [local go_sem ↓] xA
theorem JH(w:World)(bd:Nat)(S T:Nat→Prop)(D:Dk)(h:zh w bd S D)(a:Option Addr)(cap:Nat)(ws:List (Nat×List Value))(hr:vM w T a ws)(hST:∀k,S k→¬T k)(hT:∀k,T k→k<w.heap.size)
 (hfu:zG D.fuse) (hps:D.ps.length≤34359738368) (hlen:ws.length≤18):
 Calls Tryz.prog 179 #[.pointer (some ⟨bd,0,none⟩),.slice a ws.length cap] w fun e w'=>e=.returned (.bool (ys D ws).1)∧qN w w' bd S (ys D ws).2:=by
 obtain⟨Zw,hZw,hzw⟩:∃Zw:List Value,Zw=qZ∧∀w,(zeroValue 160).run Tryz.prog w=.ok (.agg Zw.toArray) w:=⟨qZ,rfl,zV Tryz.infoCw⟩
 have HZw:Hid (Zw.length=129):=by rw [hZw];exact congrArg (· +1) zN.1
 clear hZw
 obtain⟨Zb,hZb,hz⟩:∃Zb:List Value,Zb=zR∧∀w,(zeroValue 154).run Tryz.prog w=.ok (.agg Zb.toArray) w:=⟨zR,rfl,zV Tryz.infoPage⟩
 have HZb:Hid (zI Zb):=by rw [hZb];exact zN
 clear hZb
 have HIw:Hid ((Tryz.prog.info? 160).map (·.size)=some 129):=zU Tryz.infoCw
 have HI:Hid ((Tryz.prog.info? 131).map (·.size)=some 128):=zU Tryz.infoBlock
 have HIp:Hid ((Tryz.prog.info? 154).map (·.size)=some 128):=zU Tryz.infoPage
 have HN1:Hid (zI (zl (Pg.new 1))):=qO (Pg.new_ok 1 (by omega))
 have HH:Hid (zh w bd S D):=h
 have HR:Hid _:=hr
 have HSL:Hid (∀k,S k→k<w.heap.size):=h.lt
 clear h hr
 go_enter Tryz.func179,Tryz.ntmps179
 go_wp2_with (first
  |(go_at_call 131;refine(xN _ 1 (by omega)).mono ?_;rintro e w1 ⟨rfl,hk1⟩;have HK1:Hid _:=hk1;clear hk1)
  |(show wpList _ _ _ ({dst:=none,op:=.store _ (.tmp 5) (.tmp 8),type:=_,pos:=_,after:=_,guard:=_}::_) _ _;refine zk rfl 154 (.tmp 5) (.tmp 8) rfl _ _ (zl (Pg.new 1)) (by simp) rfl rfl (by rw [HN1.out.1];exact HIp.out) (by rw [List.size_toArray,HZb.out.1,HN1.out.1]) HN1.out.2 ?_))
 have HP0:Hid (qn (w1.alloc (.cells (zl (Pg.new 1)).toArray 154)) w1.heap.size (qm (ws.take 0))):=⟨⟨heap_alloc_new w1 _⟩,Pg.new_ok 1 (by omega)⟩
 have HKK:Hid (za (fun _=>False) w (w1.alloc (.cells (zl (Pg.new 1)).toArray 154))):=HK1.out.trans (za.alloc _ _ _) iL
 have hsz:(w1.alloc (.cells (zl (Pg.new 1)).toArray 154)).heap.size=w1.heap.size+1:=by simp
 have hs1:=HK1.out.size
 generalize (w1.alloc (.cells (zl (Pg.new 1)).toArray 154))=W at*
 generalize w1.heap.size=b5 at*
 go_loopw [11] (fun t wr=>∃(k:Nat) (D1:Dk) (S1:Nat→Prop),k≤ws.length∧t=.int .i64 k∧yh D (qV ws)=yh D1 ((qV ws).drop k)∧zh wr bd S1 D1∧(∀j,S1 j→S j∨W.heap.size≤j)∧za (fun j=>S j∨j=b5) W wr∧qn wr b5 (qm (ws.take k))∧zG D1.fuse∧D1.ps.length≤D.ps.length+k) (fun t _=>ws.length-(intOf t).toNat)
 case atStart=>exact⟨0,D,S,Nat.zero_le _,rfl,rfl,HH.out.kept HKK.out nF,fun _ h=>.inl h,za.refl _ _,HP0.out,hfu,by omega⟩
 case round=>
  obtain⟨k,D1,S1,hk,rfl,hwr,hd1,hS1,hk1,hpg,hfu1,hps1⟩:=hrel
  have HWR:Hid _:=hwr
  have HD1:Hid (zh wr bd S1 D1):=hd1
  have HS1:Hid _:=hS1
  have HK2:Hid _:=hk1
  have HPG:Hid _:=hpg
  have hpl0:(qm (ws.take k)).items.length=k:=by simp [qm];omega
  have HSB:Hid (¬S1 b5):=fun hb=>by
   rcases HS1.out b5 hb with h1|h1
   ·have:=HSL.out b5 h1;omega
   ·omega
  have HRW:Hid (vM wr T a ws):=(HR.out.kept HKK.out nF).kept hk1 (fun j hj hS=>by
   rcases hS with hS|hS
   ·exact hST j hS hj
   ·have:=hT j hj;omega)
  clear hwr hd1 hS1 hk1 hpg
  by_cases hlt:k<ws.length
  ·rcases HRW.out.at_ with h0|⟨g,rfl,hgT,hgl,hrng⟩
   ·rw [h0] at hlt;simp at hlt
   ·have HP:Hid (wr.rangeAt g (k*129) (.int .i64 (ws[k].1:Int)::ws[k].2)):=hrng k hlt
    obtain⟨hpo,hpl⟩:=HRW.out.ok _ (List.getElem_mem hlt)
    have HPO:Hid (zI ws[k].2):=hpo
    have HWD:Hid (yh D1 ((qV ws).drop k)=if D1.writes (3+(k:Int))=true then yh (D1.write (3+(k:Int)) ws[k].2) ((qV ws).drop (k+1)) else (false,D1)):=by
     have:=fv (D:=D1) (ws:=qV ws) (k:=k) (by rw [jy];exact hlt)
     rw [Xl ws k hlt] at this
     have e3:((3+k:Nat):Int)=3+(k:Int):=by omega
     simp only [e3] at this
     exact this
    have HSN:Hid _:=Zy ws k hlt
    generalize hq:ws[k]=q at*
    obtain⟨qi,qb⟩:=q
    clear hq hpo hrng
    simp only at hpl
    have HKA:Hid (za (fun _=>False) wr (wr.alloc (.cells (.int .i64 (qi:Int)::qb).toArray 160))):=za.alloc _ _ _
    go_wp2_with (first
     |(show wpList _ _ _ ({dst:=some 15,op:=.load _ _,type:=_,pos:=_,after:=_,guard:=_}::_) _ _;refine wpList_load_mid rfl 160 (.tmp 14) rfl _ _ rfl (.int .i64 (qi:Int)::qb) _ HP.out Tryz.underlying160 rfl (by rw [List.length_cons,HPO.out.1];exact HIw.out) ?_)
     |(show wpList _ _ _ ({dst:=none,op:=.store _ (.tmp 7) (.tmp 15),type:=_,pos:=_,after:=_,guard:=_}::_) _ _;refine zk rfl 160 (.tmp 7) (.tmp 15) rfl _ _ (.int .i64 (qi:Int)::qb) rfl rfl rfl (by rw [List.length_cons,HPO.out.1];exact HIw.out) (by rw [List.length_cons,HPO.out.1];simpa using HZw.out) (List.forall_mem_cons.2 ⟨rfl,HPO.out.2⟩) ?_))
    have hcw:(wr.alloc (.cells (.int .i64 (qi:Int)::qb).toArray 160)).cell? ⟨wr.heap.size,0,none⟩=some (.int .i64 (qi:Int)):=by simp
    have HP1:Hid (qn (wr.alloc (.cells (.int .i64 (qi:Int)::qb).toArray 160)) b5 (qm (ws.take k))):=HPG.out.kept HKA.out (fun hf=>hf)
    have HB1:Hid ((wr.alloc (.cells (.int .i64 (qi:Int)::qb).toArray 160)).heap[wr.heap.size]? =some (.cells (.int .i64 (qi:Int)::qb).toArray 160 (0,0))):=heap_alloc_new wr _
    have hb5:=HPG.out.bs.lt
    have hszw:(wr.alloc (.cells (.int .i64 (qi:Int)::qb).toArray 160)).heap.size=wr.heap.size+1:=by simp
    have HGV:Hid (jR b5 (qm (ws.take k)).kind (qm (ws.take k)).items.length 1=.slice (some ⟨b5,4+k*2,none⟩) 2 (124-k*2)):=by show jR b5 (qm (ws.take k)).kind (qm (ws.take k)).items.length 1=_;rw [hpl0];rfl
    have hpw:(qm (ws.take k)).items.length*zi (qm (ws.take k)).kind=k*2:=by rw [hpl0];rfl
    generalize (wr.alloc (.cells (.int .i64 (qi:Int)::qb).toArray 160))=W2 at*
    go_region_held3 (fun w'=>w'.cell? ⟨wr.heap.size,0,none⟩=some (.int .i64 (qi:Int))) (go_keep) ((first
     |(go_at_call 133;refine(jS _ b5 _ (by exact HP1.out.kept (za.drew (fun _=>False) W2) (fun hf=>hf)) 1 (by rw [hpl0];show (k+1)*2≤124;omega) (by rw [hpl0];omega) (by show 1≤1*2;omega)).mono ?_;rintro e w3 ⟨rfl,hp3,hk3⟩;rw [HGV.out];have HP3:Hid _:=hp3;have HK3:Hid (za (fun i=>i=b5) W2.drew w3):=hk3;have hcw3:w3.cell? ⟨wr.heap.size,0,none⟩=some (.int .i64 (qi:Int)):=(hk3.cell (a:=⟨wr.heap.size,0,none⟩) (by show wr.heap.size<W2.drew.heap.size;have:W2.drew.heap.size=W2.heap.size:=rfl;omega) (by show ¬wr.heap.size=b5;omega)).trans hcw;clear hp3 hk3)
     |(go_at_call 138;refine(qB _ b5 _ _ HP3.out.bs (4+k*2) 2 (124-k*2) (by rw [HP3.out.ok.len];omega) (by omega) qi (by omega)).mono ?_;rintro e w4 ⟨rfl,hp4,hk4⟩;have HP4:Hid _:=hp4;have HK4:Hid _:=hk4;have hcw4:w4.cell? ⟨wr.heap.size,0,none⟩=some (.int .i64 (qi:Int)):=(hk4.cell (a:=⟨wr.heap.size,0,none⟩) (by show wr.heap.size<w3.heap.size;have h1:=HK3.out.size;have:W2.drew.heap.size=W2.heap.size:=rfl;omega) (by show ¬wr.heap.size=b5;omega)).trans hcw3;clear hp4 hk4)))
    have hk24:za (fun i=>i=b5) W2 w4:=((za.drew _ W2).trans HK3.out iL).trans HK4.out iL
    have HP5:Hid (qn w4 b5 (qm (ws.take (k+1)))):=by
     have h1:=HP4.out
     have hov:=HP1.out.ok.push_over (bytesOf 2 qi) (by rw [zK];rfl) (by rw [hpl0];show (k+1)*2≤124;omega)
     rw [hpw] at hov
     rw [hov,HSN.out] at h1
     exact⟨h1,dG (by simp;omega)⟩
    have HB4:Hid (w4.heap[wr.heap.size]? =some (.cells (.int .i64 (qi:Int)::qb).toArray 160 (0,0))):=(hk24.block wr.heap.size (by omega) (by show ¬wr.heap.size=b5;omega)).trans HB1.out
    have HD4:Hid (zh w4 bd S1 D1):=(HD1.out.kept HKA.out nF).kept hk24 (fun j hj e=>HSB.out (by rw [←e];exact hj))
    have hkW4:za (fun j=>S j∨j=b5) W w4:=(HK2.out.trans HKA.out fE).trans hk24 (fun j hj=>.inl (.inr hj))
    have HKW4:Hid _:=hkW4
    clear hcw hk24 hkW4
    cases hw1:D1.writes (3+(k:Int)) with
    |true=>
     have HW1:Hid _:=hw1
     clear hw1
     go_wp2_with (first
      |(show wpList _ _ _ ({dst:=some 24,op:=.load _ _,type:=_,pos:=_,after:=_,guard:=_}::_) _ _;refine wpList_load_mid rfl 131 (.tmp 23) rfl _ _ rfl qb _ (qR HB4.out) Tryz.underlying131 rfl (by rw [HPO.out.1];exact HI.out) ?_)
      |(go_at_call 146;refine(yS _ bd S1 D1 HD4.out (3+(k:Int)) (by constructor<;>omega) qb HPO.out hfu1 (by omega)).mono ?_;rintro e w5 ⟨rfl,⟨S2,hd2,hS2⟩,hk2⟩;rw [HW1.out];have HD2:Hid (zh w5 bd S2 (D1.write (3+(k:Int)) qb)):=hd2;have HS2:Hid _:=hS2;have HK5:Hid _:=hk2;clear hd2 hS2 hk2))
     go_roundw
     case rel=>
      refine⟨k+1,D1.write (3+(k:Int)) qb,S2,by omega,by go_num,by rw [HWR.out,HWD.out,if_pos HW1.out],HD2.out,fun j hj=>?_,HKW4.out.trans HK5.out (fun j hj=>?_),HP5.out.kept HK5.out HSB.out,xE _ _ hfu1,by have:=vG (D:=D1) (3+(k:Int)) qb;omega⟩
      ·rcases HS2.out j hj with h1|h1
       ·exact HS1.out j h1
       ·right;have:=HKW4.out.size;omega
      ·rcases HS1.out j hj with h1|h1
       ·exact .inl (.inl h1)
       ·exact .inr h1
     case measure=>simp [intOf];omega
    |false=>
     have HW1:Hid _:=hw1
     clear hw1
     go_wp2_with (first
      |(show wpList _ _ _ ({dst:=some 24,op:=.load _ _,type:=_,pos:=_,after:=_,guard:=_}::_) _ _;refine wpList_load_mid rfl 131 (.tmp 23) rfl _ _ rfl qb _ (qR HB4.out) Tryz.underlying131 rfl (by rw [HPO.out.1];exact HI.out) ?_)
      |(go_at_call 146;refine(yS _ bd S1 D1 HD4.out (3+(k:Int)) (by constructor<;>omega) qb HPO.out hfu1 (by omega)).mono ?_;rintro e w5 ⟨rfl,⟨S2,hd2,hS2⟩,hk2⟩;rw [HW1.out];have HD2:Hid (zh w5 bd S2 (D1.write (3+(k:Int)) qb)):=hd2;have HS2:Hid _:=hS2;have HK5:Hid _:=hk2;clear hd2 hS2 hk2))
     go_ret
     have e0:yh D (qV ws)=(false,D1):=by rw [HWR.out,HWD.out,if_neg (by rw [HW1.out];simp)]
     have e1:ys D ws=(false,D1):=by
      unfold ys xU
      rw [e0];simp
     rw [e1]
     have hd2:=HD2.out
     rw [fw qb HW1.out] at hd2
     exact⟨rfl,uw HSL.out hs1 hsz HKK.out HKW4.out HS1.out ⟨⟨S2,hd2,HS2.out⟩,HK5.out⟩⟩
  ·have HE:Hid (yh D (qV ws)=(true,D1)):=by show _=_;rw [HWR.out,List.drop_of_length_le (by rw [jy];omega)];rfl
   have HPE:Hid (qn wr b5 (qm ws)):=by
    have:=HPG.out
    rw [List.take_of_length_le (by omega)] at this
    exact this
   have HPV:Hid (zI (zl (qm ws))):=qO (dG (by omega))
   cases hz2:(D1.fuse==0) with
   |false=>
    have HZ:Hid _:=hz2
    clear hz2
    go_wp2_with (first
     |(go_at_call 40;refine(yT _ bd S1 D1 HD1.out hfu1).mono ?_;rintro e w2 ⟨rfl,⟨S2,hd2,hS2⟩,hk2⟩;rw [HZ.out];have HD2:Hid (zh w2 bd S2 D1.flush):=hd2;have HS2:Hid _:=hS2;have HK5:Hid _:=hk2;have hrP:(vx (.pointer (some ⟨b5,0,none⟩))).run Tryz.prog w2=.ok (.agg (zl (qm ws)).toArray) w2:=yV _ _ _ _ (zL (HPE.out.kept hk2 HSB.out).bs.at_) HPV.out.1;clear hd2 hS2 hk2)
     |(go_at_call 147;refine(uP _ bd S2 D1.flush HD2.out (zl (qm ws)) HPV.out (jv hfu1) (by have:=vN (D:=D1);omega)).mono ?_;rintro e w4 ⟨rfl,hon4⟩;have HO4:Hid _:=hon4;clear hon4))
    go_ret
    have e1:ys D ws=jj D1.flush (zl (qm ws)):=by
     have hz2:D1.fuse≠0:=by have:=HZ.out;simpa using this
     unfold ys xU
     rw [HE.out,if_pos ⟨rfl,hz2⟩]
    rw [e1]
    exact⟨by simp,uw HSL.out hs1 hsz HKK.out HK2.out HS1.out (qN.trans (D1:=D1) (fun k hk=>.inl (HS2.out k hk)) HK5.out HO4.out)⟩
   |true=>
    have HZ:Hid _:=hz2
    clear hz2
    go_wp2_with (go_at_call 40;refine(yT _ bd S1 D1 HD1.out hfu1).mono ?_;rintro e w2 ⟨rfl,⟨S2,hd2,hS2⟩,hk2⟩;rw [HZ.out];have HD2:Hid (zh w2 bd S2 D1.flush):=hd2;have HS2:Hid _:=hS2;have HK5:Hid _:=hk2;clear hd2 hS2 hk2)
    go_ret
    have hz2:D1.fuse=0:=by have:=HZ.out;simpa using this
    have e1:ys D ws=(false,D1):=by
     unfold ys xU
     rw [HE.out,if_neg (by simp [hz2])]
    have e2:D1.flush=D1:=if_pos hz2
    rw [e1]
    have hd2:=HD2.out
    rw [e2] at hd2
    exact⟨rfl,uw HSL.out hs1 hsz HKK.out HK2.out HS1.out ⟨⟨S2,hd2,fun j hj=>.inl (HS2.out j hj)⟩,HK5.out⟩⟩
end
theorem fx:∀(ws:List (Nat×List Value)) (D:Dk),zG D.fuse→zG (yh D ws).2.fuse
 |[],D,h=>h
 |p::ws,D,h=>by
  unfold yh
  split
  ·exact fx ws _ (xE _ _ h)
  ·exact h
theorem Zz:∀(ws:List (Nat×List Value)) (D:Dk),(yh D ws).2.ps.length≤D.ps.length+ws.length
 |[],D=>Nat.le_refl _
 |p::ws,D=>by
  unfold yh
  split
  ·have h1:=Zz ws (D.write p.1 p.2)
   have h2:=vG (D:=D) p.1 p.2
   simp only [List.length_cons];omega
  ·simp only [List.length_cons];omega
theorem QP{D:Dk}{b:List Value}(h:zG D.fuse):zG (jj D b).2.fuse:=by
 unfold jj
 split
 ·exact jv (xE _ _ h)
 ·exact h
theorem JI{D:Dk}{b:List Value}:(jj D b).2.ps.length≤D.ps.length+1:=by
 unfold jj
 split
 ·have h1:=vN (D:=D.write 0 b)
  have h2:=vG (D:=D) 0 b
  show (D.write 0 b).flush.ps.length≤_
  omega
 ·show D.ps.length≤_
  omega
theorem QQ{r:Bool×Dk}{b:List Value}(h:zG r.2.fuse):zG (xU r b).2.fuse:=by
 unfold xU
 split
 ·exact QP (jv h)
 ·exact h
theorem JJ{r:Bool×Dk}{b:List Value}:(xU r b).2.ps.length≤r.2.ps.length+1:=by
 unfold xU
 split
 ·have h1:=JI (D:=r.2.flush) (b:=b)
  have h2:=vN (D:=r.2)
  omega
 ·show r.2.ps.length≤_
  omega
theorem QR{D:Dk}{ws:List (Nat×List Value)}(h:zG D.fuse):zG (ys D ws).2.fuse:=QQ (fx _ _ h)
theorem JK{D:Dk}{ws:List (Nat×List Value)}:(ys D ws).2.ps.length≤D.ps.length+ws.length+1:=by
 have h1:=JJ (r:=yh D (qV ws)) (b:=zl (qm ws))
 have h2:=Zz (qV ws) D
 rw [jy] at h2
 unfold ys
 omega
theorem ZA(w:World)(bc bd:Nat)(S T:Nat→Prop)(D:Dk)(C:Ck)(h:Cw w bc bd S T D C)(hkey:∀p∈C.ws,p.1<65536)(hlen:C.ws.length≤18)(hfu:zG D.fuse)(hps:D.ps.length≤17179869184)(hn:(ys D C.ws).1=true):
 Calls Tryz.prog 140 #[.pointer (some ⟨bc,0,none⟩)] w fun e w'=>e=.returned (.bool (yx D C.ws).1)∧qN w w' bd S (yx D C.ws).2:=by
 have HH:Hid _:=h
 obtain⟨a,cap,hc⟩:=h.chg
 have HC:Hid _:=hc
 have hc0:=hc.c0
 have hc1:=hc.c1
 have HR:Hid (vM w T a C.ws):=hc.rows hkey
 have HT:Hid (∀k,T k→k<w.heap.size):=hc.lt
 have hbT:=hc.bcT
 have hbc:=hc.lt bc hbT
 have HA:Hid (∀k,S k→¬T k):=h.apart
 clear h hc
 ·have HN:Hid _:=hn
  clear hn
  go_enter Tryz.func140,Tryz.ntmps140
  go_wp2
  go_region_held3 (fun w'=>w'.cell? ⟨bc,0,none⟩=some (.pointer (some ⟨bd,0,none⟩))∧w'.cell? ⟨bc,1,none⟩=some (.slice a C.ws.length cap)) (go_keep) ((first
   |(go_at_call 179;refine(JH _ bd S T D (by exact HH.out.disk.kept (za.drew (fun _=>False) w) nF) a cap C.ws (by exact HR.out.kept (za.drew (fun _=>False) w) nF) HA.out (by exact HT.out) hfu (by omega) hlen).mono ?_;rintro e w1 ⟨rfl,⟨⟨S1,hd1,hS1⟩,hk1⟩⟩;rw [HN.out];have HD1:Hid (zh w1 bd S1 (ys D C.ws).2):=hd1;have HS1:Hid _:=hS1;have HK1:Hid (za S w.drew w1):=hk1;have hcc:qa w1 bc bd T C a cap:=(HC.out.kept (za.drew (fun _=>False) w) nF).kept hk1 (fun k hk hS=>HA.out k hS hk);have hc01:=hcc.c0;have hc11:=hcc.c1;clear hd1 hS1 hk1 hcc)
   |(go_at_call 85;refine(QO _ bd S1 T (ys D C.ws).2 HD1.out a cap C.ws ((HR.out.kept (za.drew (fun _=>False) w) nF).kept HK1.out (fun k hk hS=>HA.out k hS hk)) (fun k hk hkT=>by rcases HS1.out k hk with h1|h1;exact HA.out k h1 hkT;have h2:=HT.out k hkT;have:w.drew.heap.size=w.heap.size:=rfl;omega) (fun k hk=>Nat.lt_of_lt_of_le (HT.out k hk) HK1.out.size) (QR hfu) (by have:=JK (D:=D) (ws:=C.ws);omega)).mono ?_;rintro e w2 ⟨rfl,hon⟩;have HON:Hid _:=hon;have hc02:w2.cell? ⟨bc,0,none⟩=some (.pointer (some ⟨bd,0,none⟩)):=(hon.kept.cell (a:=⟨bc,0,none⟩) (Nat.lt_of_lt_of_le hbc HK1.out.size) (fun hb=>by rcases HS1.out bc hb with h1|h1;exact HA.out bc h1 hbT;have:w.drew.heap.size=w.heap.size:=rfl;omega)).trans hc01;have hc12:w2.cell? ⟨bc,1,none⟩=some (.slice a C.ws.length cap):=(hon.kept.cell (a:=⟨bc,1,none⟩) (Nat.lt_of_lt_of_le hbc HK1.out.size) (fun hb=>by rcases HS1.out bc hb with h1|h1;exact HA.out bc h1 hbT;have:w.drew.heap.size=w.heap.size:=rfl;omega)).trans hc11;clear hon)))
  go_wp2
  go_ret
  have e1:yx D C.ws=yZ (ys D C.ws).2 C.ws:=if_pos HN.out
  rw [e1]
  exact⟨rfl,qN.trans (D1:=D) (S1:=S1) (fun k hk=>HS1.out k hk) (za.trans (S':=S) (b:=w.drew) kD HK1.out iL) HON.out⟩
theorem ZB(w:World)(bd:Nat)(S:Nat→Prop)(D:Dk)(h:zh w bd S D)(hfu:zG D.fuse)(hz:(D.fuse==0)=false)(hr0:0≤D.reads)(hr1:D.reads≤4611686018427387904)(p:Pg)(hp:p.Ok)(hl:D.flush.look 0=zl p)(hn:p.items.length=0):
 Calls Tryz.prog 55 #[.pointer (some ⟨bd,0,none⟩)] w fun e w'=>e=.returned (.bool true)∧qN w w' bd S {D.flush with reads:=D.reads+1}:=by
 obtain⟨Zb,hZb,hzz⟩:∃Zb:List Value,Zb=zR∧∀w,(zeroValue 154).run Tryz.prog w=.ok (.agg Zb.toArray) w:=⟨zR,rfl,zV Tryz.infoPage⟩
 have HZb:Hid (zI Zb):=by rw [hZb];exact zN
 clear hZb
 have HIp:Hid ((Tryz.prog.info? 154).map (·.size)=some 128):=zU Tryz.infoPage
 have HH:Hid (zh w bd S D):=h
 have HZ:Hid _:=hz
 have HL:Hid _:=hl
 have HN:Hid _:=hn
 have HPO:Hid (zI (zl p)):=qO hp
 have hfr:D.flush.reads=D.reads:=by unfold Dk.flush;split<;>rfl
 have HFR:Hid _:=hfr
 have HP:Hid p.Ok:=hp
 clear h hz hl hn hp
 go_enter Tryz.func55,Tryz.ntmps55
 go_wp2_with (first
  |(go_at_call 40;refine(yT _ bd S D HH.out hfu).mono ?_;rintro e w2 ⟨rfl,⟨S2,hd2,hS2⟩,hk2⟩;rw [HZ.out];have HD2:Hid (zh w2 bd S2 D.flush):=hd2;have HS2:Hid _:=hS2;have HK2:Hid _:=hk2;clear hd2 hS2 hk2)
  |(go_at_call 81;refine(jL _ bd S2 D.flush HD2.out 0 (by constructor<;>omega) (by rw [HFR.out];exact hr0) (by rw [HFR.out];exact hr1)).mono ?_;rintro e w3 ⟨rfl,hd3,hk3⟩;rw [HL.out];have HD3:Hid (zh w3 bd S2 {D.flush with reads:=D.flush.reads+1 }):=hd3;have HK3:Hid _:=hk3;clear hd3 hk3)
  |(show wpList _ _ _ ({dst:=none,op:=.store _ (.tmp 3) (.tmp 10),type:=_,pos:=_,after:=_,guard:=_}::_) _ _;refine zk rfl 154 (.tmp 3) (.tmp 10) rfl _ _ (zl p) (by simp) rfl rfl (by rw [HPO.out.1];exact HIp.out) (by rw [List.size_toArray,HZb.out.1,HPO.out.1]) HPO.out.2 ?_;have HPA:Hid (qn (w3.alloc (.cells (zl p).toArray 154)) w3.heap.size p):=⟨⟨heap_alloc_new w3 _⟩,HP.out⟩)
  |(go_at_call 82;refine(ub _ _ _ HPA.out).mono ?_;rintro e w4 ⟨rfl,rfl⟩;rw [HN.out]))
 go_ret
 have hd:=HD3.out.kept (za.alloc (fun _=>False) w3 (.cells (zl p).toArray 154)) nF
 rw [HFR.out] at hd
 refine⟨rfl,⟨S2,hd,fun k hk=>.inl (HS2.out k hk)⟩,(HK2.out.trans HK3.out (fun k hk=>.inl (HS2.out k (by rw [hk];exact HD2.out.bdS)))).trans (za.alloc _ _ _) iL⟩
end prog
namespace prog
open Go.MuLone
open keys (zj zd zA zq zs)
theorem ZC(w:World)(bs bc bd:Nat)(T:Nat→Prop)(C:Ck)(h:Chg w bc bd T C)(hf:(C.full||decide (18<C.ws.length))=true):
 Calls Tryz.prog 78 #[.pointer (some ⟨bs,0,none⟩),.pointer (some ⟨bc,0,none⟩)] w fun e w'=>e=.returned (.int .i64 6)∧w'=w:=by
 have HH:Hid _:=h
 have HF:Hid ((C.full||decide (18<C.ws.length))=true):=hf
 clear h hf
 go_enter Tryz.func78,Tryz.ntmps78
 go_wp2_with (go_at_call 139;refine(cQ w bc bd T C HH.out).mono ?_;rintro e w1 ⟨rfl,hw1⟩;rw [hw1,HF.out];clear hw1 w1)
 go_ret
 exact⟨rfl,rfl⟩
theorem dH(w:World)(bs bc bd:Nat)(S T:Nat→Prop)(D:Dk)(C:Ck)(h:Cw w bc bd S T D C)(hf:(C.full||decide (18<C.ws.length))=false)(hkey:∀p∈C.ws,p.1<65536)(hfu:zG D.fuse)(hps:D.ps.length≤17179869184)(hn:(ys D C.ws).1=true)(hc:(yx D C.ws).1=true):
 Calls Tryz.prog 78 #[.pointer (some ⟨bs,0,none⟩),.pointer (some ⟨bc,0,none⟩)] w fun e w'=>e=.returned (.int .i64 0)∧qN w w' bd S (yx D C.ws).2:=by
 have HH:Hid _:=h
 have HF:Hid ((C.full||decide (18<C.ws.length))=false):=hf
 have hle:C.ws.length≤18:=by
  simp only [Bool.or_eq_false_iff,decide_eq_false_iff_not] at hf
  omega
 have HC:Hid ((yx D C.ws).1=true):=hc
 have HCM:Hid (Calls Tryz.prog 140 #[.pointer (some ⟨bc,0,none⟩)] w fun e w'=>e=.returned (.bool (yx D C.ws).1)∧qN w w' bd S (yx D C.ws).2):=ZA w bc bd S T D C h hkey hle hfu hps hn
 clear h hf hkey hn hc hle
 go_enter Tryz.func78,Tryz.ntmps78
 go_wp2_with (first
  |(go_at_call 139;refine(cQ w bc bd T C HH.out.chg).mono ?_;rintro e w1 ⟨rfl,hw1⟩;rw [hw1,HF.out];clear hw1 w1)
  |(go_at_call 140;refine HCM.out.mono ?_;rintro e w1 ⟨rfl,ho1⟩;rw [HC.out];have HO1:Hid _:=ho1;clear ho1))
 go_ret
 exact⟨rfl,HO1.out⟩
theorem dS(w:World)(bs bd:Nat)(S:Nat→Prop)(D:Dk)(k:Int)(hs:zu w bs k (some bd))(hd:zh w bd S D)(hn:¬S bs)(hr0:0≤D.reads)(hr1:D.reads≤4611686018427350000)(hps:D.ps=[])(hfu:D.fuse= -1)(h64:64≤D.bs.length)(hN:D.bs.length≤1000)
 (tree n:Nat) (hb:qQ (D.look 1) tree n) (hn9:n<4611686018427387904) (m:List UInt8) (hm:qg (D.look 2) m) (key:ByteArray) (mark:Bool) (P:Nat→Prop) (a:Option Addr) (cap:Nat) (l:List UInt8) (hby:zE w P a l) (hPS:∀j,P j→¬S j∧j≠bs) (hl:l.length≤300) (hc1:l.length≤cap) (hc2:cap≤9223372036854775807)
 (es:List En) (bl:List Nat) (f:Nat) (C1:Ck) (m1:List UInt8) (hbody:vH.body D.bs.length m (zy l)=(f,C1,m1)) (nb1:List Nat) (hBR:Yt D vH C1 m m1 f (zy l) nb1) (he:(⟨⟨key,(n:Int)+1⟩,mark,l.length,f⟩:En).Ok) (helow:¬(⟨key,(n:Int)+1⟩:Pl).lt qP=true)
 (hF:qE (fun j=>C1.look D (j:Nat)) tree es bl) (hnd:bl.Nodup) (htk:∀j∈bl,21≤j∧zM m1 (j-21)=true) (hbl:bl.length≤979) (hblN:∀j∈bl,j<D.bs.length) (hlow:∀x∈es,¬x.pl.lt qP=true) (hne:∀x∈es,x.pl≠⟨key,(n:Int)+1⟩):
 Calls Tryz.prog 52 #[.pointer (some ⟨bs,0,none⟩),.string key,.slice a l.length cap,.bool mark] w fun e w'=>∃root' C2 m2 pb nb,gm D C1 C2 m1 m2 root' ⟨⟨key,(n:Int)+1⟩,mark,l.length,f⟩ es bl pb nb∧∃kk:Int,0≤kk∧kk≤19∧
  ((((C2.put 1 (zl (zB root' (n+1)))).full||decide (18<(C2.put 1 (zl (zB root' (n+1)))).ws.length))=true∧e=.returned (.tuple #[.int .i64 0,.int .i64 6])∧zh w' bd S {D with reads:=D.reads+kk}∧za (fun j=>j=bd) w w')∨
   (((C2.put 1 (zl (zB root' (n+1)))).full||decide (18<(C2.put 1 (zl (zB root' (n+1)))).ws.length))=false∧e=.returned (.tuple #[.int .i64 ((n:Int)+1),.int .i64 0])∧qN w w' bd S {D with bs:=vk D.bs (C2.put 1 (zl (zB root' (n+1)))).ws,reads:=D.reads+kk })):=by
 have HS:Hid _:=hs
 have HD:Hid (zh w bd S D):=hd
 have HB:Hid (qQ (D.look 1) tree n):=hb
 have HM:Hid (qg (D.look 2) m):=hm
 have HBY:Hid (zE w P a l):=hby
 have HPS:Hid (∀j,P j→¬S j∧j≠bs):=hPS
 have HBODY:Hid (vH.body D.bs.length m (zy l)=(f,C1,m1)):=hbody
 have HBR0:Hid (Yt D vH C1 m m1 f (zy l) nb1):=hBR
 have HF:Hid (qE (fun j=>C1.look D (j:Nat)) tree es bl):=hF
 have HHE:Hid ((⟨⟨key,(n:Int)+1⟩,mark,l.length,f⟩:En).Ok):=he
 have HHL:Hid (¬(⟨key,(n:Int)+1⟩:Pl).lt qP=true):=helow
 have HND:Hid bl.Nodup:=hnd
 have HTK:Hid (∀j∈bl,21≤j∧zM m1 (j-21)=true):=htk
 have HLOW:Hid (∀x∈es,¬x.pl.lt qP=true):=hlow
 have HNE:Hid (∀x∈es,x.pl≠⟨key,(n:Int)+1⟩):=hne
 have HBLN:Hid (∀j∈bl,j<D.bs.length):=hblN
 have HPS0:Hid (D.ps=[]):=hps
 have HFU:Hid (D.fuse= -1):=hfu
 have c2:w.cell? ⟨bs,2,none⟩=some (.pointer (some ⟨bd,0,none⟩)):=hs.c2
 have hbd:bd<w.heap.size:=hd.lt bd hd.bdS
 have HSL:Hid (∀j,S j→j<w.heap.size):=hd.lt
 have hbs:=hs.lt
 have hr1':=hr1
 clear hs hd hb hm hby hPS hbody hBR hF he helow hnd htk hlow hne hps hfu hblN
 go_enter Tryz.func52,Tryz.ntmps52
 go_wp2_with fail
 refine(dw w bd hbd).mono ?_
 rintro e w1 ⟨rfl,hch1,hk1⟩
 have HK1:Hid (za (fun _=>False) w w1):=hk1
 have HC1:Hid (Cw w1 w.heap.size bd S (fun j=>j=w.heap.size) D vH):=⟨HD.out.kept hk1 nF,hch1,fun j hj hT=>by have:=HSL.out j hj;omega⟩
 clear hch1 hk1 c2
 go_wp2_with fail
 refine(dB w1 w.heap.size bd S _ D vH HC1.out hr0 (by omega) tree n (by rw [yi];exact HB.out)).mono ?_
 rintro e w2 ⟨rfl,⟨k2,hk20,hk21,hc2'⟩,hk2⟩
 have HC2:Hid (Cw w2 w.heap.size bd S (fun j=>j=w.heap.size) {D with reads:=D.reads+k2} vH):=hc2'
 have HK2:Hid (za (fun i=>i=bd) w1 w2):=hk2
 have hz2:=hk2.size
 have hz1:=HK1.out.size
 clear hc2' hk2
 go_wp2_with fail
 have HBR:Hid ((w2.alloc (.cells #[.int .i64 (tree:Int),.int .i64 ((n:Int)+1)] 145)).heap[w2.heap.size]? =some (.cells #[.int .i64 (tree:Int),.int .i64 ((n:Int)+1)] 145 (0,0))):=heap_alloc_new w2 _
 have HKW:Hid (za (fun _=>False) w2 (w2.alloc (.cells #[.int .i64 (tree:Int),.int .i64 ((n:Int)+1)] 145))):=za.alloc _ _ _
 have hsW:(w2.alloc (.cells #[.int .i64 (tree:Int),.int .i64 ((n:Int)+1)] 145)).heap.size=w2.heap.size+1:=by simp
 generalize (w2.alloc (.cells #[.int .i64 (tree:Int),.int .i64 ((n:Int)+1)] 145))=W at*
 have hbc:w.heap.size<w1.heap.size:=HC1.out.chg.lt _ rfl
 have HKwW:Hid (za (fun i=>i=bd) w W):=((HK1.out.mono fE).trans HK2.out iL).trans HKW.out fE
 have HBYW:Hid (zE W (fun j=>P j∧j<w.heap.size) a l):=(HBY.out.mono (fun i h1 h2=>⟨h1,h2⟩)).kept HKwW.out (fun j hj e0=>(HPS.out j hj.1).1 (by rw [e0];exact HD.out.bdS))
 have HBW:Hid (∀u,za (fun _=>False) W u→Calls Tryz.prog 75 #[.pointer (some ⟨w.heap.size,0,none⟩),.slice a l.length cap] u fun e w'=>e=.returned (.int .i64 (f:Int))∧(∃(n:Int) (T':Nat→Prop),0≤n∧n≤3∧Cw w' w.heap.size bd S T' {D with reads:=D.reads+k2+n} C1∧∀j,T' j→j=w.heap.size∨u.heap.size≤j)∧za (fun j=>j=bd∨j=w.heap.size) u w'):=fun u hu=>
  QN u w.heap.size bd S (fun j=>j=w.heap.size) {D with reads:=D.reads+k2} vH ((HC2.out.kept0 HKW.out).kept0 hu) m (by rw [yi];exact HM.out) (by show 0≤D.reads+k2;omega) (by show D.reads+k2≤_;omega) (fun j=>P j∧j<w.heap.size) a cap l (HBYW.out.kept hu nF) (fun j hj e0=>by omega) (fun j hj e0=>(HPS.out j hj.1).1 (by rw [e0];exact HD.out.bdS)) hl hc1 hc2 hN (by show 0<600;omega) f C1 m1 HBODY.out
 have HKZ:Hid (za (fun _=>False) W (W.alloc (.cells #[.string ⟨#[]⟩,.int .i64 0,.bool false,.int .i64 0,.int .i64 0] 109)).drew):=(za.alloc _ _ _).trans (za.drew _ _) iL
 have hsX:(W.alloc (.cells #[.string ⟨#[]⟩,.int .i64 0,.bool false,.int .i64 0,.int .i64 0] 109)).heap.size=W.heap.size+1:=by simp
 have hsX':(W.alloc (.cells #[.string ⟨#[]⟩,.int .i64 0,.bool false,.int .i64 0,.int .i64 0] 109)).drew.heap.size=W.heap.size+1:=hsX
 have hsD:W.drew.heap.size=W.heap.size:=rfl
 have z1:W.cell? ⟨w2.heap.size,1,none⟩=some (.int .i64 ((n:Int)+1)):=cR HBR.out rfl
 have ne1:¬w2.heap.size=W.heap.size:=by omega
 have ne1':¬W.heap.size=w2.heap.size:=by omega
 have HNB:Hid (∀j,w2.heap.size≤j→¬(j=bd∨j=w.heap.size)):=fun j hj hc=>by omega
 have HSW:Hid (W.heap.size=w2.heap.size+1):=hsW
 clear hsW
 go_region_held3 (fun w'=>w'.cell? ⟨w2.heap.size,1,none⟩=some (.int .i64 ((n:Int)+1))) (go_keep) ((go_at_call 75;have hsW:=HSW.out;first
  |(refine(HBW.out W.drew (za.drew (fun _=>False) W)).mono ?_;rintro r w4 ⟨rfl,⟨n4,T4,hn40,hn4M,hc4,hT4⟩,hk4⟩;have HC4:Hid (Cw w4 w.heap.size bd S T4 {D with reads:=D.reads+k2+n4} C1):=hc4;have HT4:Hid (∀j,T4 j→j=w.heap.size∨W.drew.heap.size≤j):=hT4;have HK4:Hid (za (fun j=>j=bd∨j=w.heap.size) W.drew w4):=hk4;have hsz4:W.drew.heap.size≤w4.heap.size:=hk4.size;have HK34:Hid (za (fun j=>j=bd∨j=w.heap.size) W w4):=((za.drew (fun _=>False) W).mono fE).trans hk4 iL;have HR4:Hid (w4.heap[w2.heap.size]? =some (.cells #[.int .i64 (tree:Int),.int .i64 ((n:Int)+1)] 145 (0,0))):=(HK34.out.block _ (show w2.heap.size<W.heap.size by omega) (HNB.out _ (Nat.le_refl _))).trans HBR.out;have z41:w4.cell? ⟨w2.heap.size,1,none⟩=some (.int .i64 ((n:Int)+1)):=(cR HR4.out rfl);have ne4:¬w2.heap.size=w4.heap.size:=(by have:W.heap.size≤w4.heap.size:=HK34.out.size;omega);clear hc4 hT4 hk4 hsW)
  |(refine(HBW.out (W.alloc (.cells #[.string ⟨#[]⟩,.int .i64 0,.bool false,.int .i64 0,.int .i64 0] 109)).drew HKZ.out).mono ?_;rintro r w4 ⟨rfl,⟨n4,T4,hn40,hn4M,hc4,hT4⟩,hk4⟩;have HC4:Hid (Cw w4 w.heap.size bd S T4 {D with reads:=D.reads+k2+n4} C1):=hc4;have HT4:Hid (∀j,T4 j→j=w.heap.size∨(W.alloc (.cells #[.string ⟨#[]⟩,.int .i64 0,.bool false,.int .i64 0,.int .i64 0] 109)).drew.heap.size≤j):=hT4;have HK4:Hid (za (fun j=>j=bd∨j=w.heap.size) (W.alloc (.cells #[.string ⟨#[]⟩,.int .i64 0,.bool false,.int .i64 0,.int .i64 0] 109)).drew w4):=hk4;have hsz4:(W.alloc (.cells #[.string ⟨#[]⟩,.int .i64 0,.bool false,.int .i64 0,.int .i64 0] 109)).drew.heap.size≤w4.heap.size:=hk4.size;have HK34:Hid (za (fun j=>j=bd∨j=w.heap.size) W w4):=((HKZ.out).mono fE).trans hk4 iL;have HR4:Hid (w4.heap[w2.heap.size]? =some (.cells #[.int .i64 (tree:Int),.int .i64 ((n:Int)+1)] 145 (0,0))):=(HK34.out.block _ (show w2.heap.size<W.heap.size by omega) (HNB.out _ (Nat.le_refl _))).trans HBR.out;have z41:w4.cell? ⟨w2.heap.size,1,none⟩=some (.int .i64 ((n:Int)+1)):=(cR HR4.out rfl);have ne4:¬w2.heap.size=w4.heap.size:=(by have:W.heap.size≤w4.heap.size:=HK34.out.size;omega);have HZ4:Hid (w4.heap[W.heap.size]? =some (.cells #[.string ⟨#[]⟩,.int .i64 0,.bool false,.int .i64 0,.int .i64 0] 109 (0,0))):=(hk4.block W.heap.size (show W.heap.size<(W.alloc (.cells #[.string ⟨#[]⟩,.int .i64 0,.bool false,.int .i64 0,.int .i64 0] 109)).heap.size by rw [hsX];omega) (HNB.out _ (show w2.heap.size≤W.heap.size by omega))).trans (heap_alloc_new W _);have zz0:w4.cell? ⟨W.heap.size,0,none⟩=some (.string ⟨#[]⟩):=(cR HZ4.out rfl);have zf0:=frozen_of_row w4 W.heap.size 0 _ _ HZ4.out;have zz1:w4.cell? ⟨W.heap.size,1,none⟩=some (.int .i64 0):=(cR HZ4.out rfl);have zf1:=frozen_of_row w4 W.heap.size 1 _ _ HZ4.out;have zz2:w4.cell? ⟨W.heap.size,2,none⟩=some (.bool false):=(cR HZ4.out rfl);have zf2:=frozen_of_row w4 W.heap.size 2 _ _ HZ4.out;have zz3:w4.cell? ⟨W.heap.size,3,none⟩=some (.int .i64 0):=(cR HZ4.out rfl);have zf3:=frozen_of_row w4 W.heap.size 3 _ _ HZ4.out;have zz4:w4.cell? ⟨W.heap.size,4,none⟩=some (.int .i64 0):=(cR HZ4.out rfl);have zf4:=frozen_of_row w4 W.heap.size 4 _ _ HZ4.out;clear hc4 hT4 hk4 hsW)))
 case' refine_2.refine_3.refine_3.refine_3.refine_3.refine_3.refine_3.refine_3.refine_3.refine_3.refine_1.refine_2.refine_3.refine_1.refine_2.refine_1.refine_2=>
  have hsW:=HSW.out
  have hsK:=HK34.out.size
  have HBE:Hid ((w4.alloc (.cells #[.string key,.int .i64 ((n:Int)+1),.bool mark,.int .i64 (l.length:Int),.int .i64 (f:Int)] 109)).heap[w4.heap.size]? =some (.cells #[.string key,.int .i64 ((n:Int)+1),.bool mark,.int .i64 (l.length:Int),.int .i64 (f:Int)] 109 (0,0))):=heap_alloc_new w4 _
  have HBRX:Hid ((w4.alloc (.cells #[.string key,.int .i64 ((n:Int)+1),.bool mark,.int .i64 (l.length:Int),.int .i64 (f:Int)] 109)).heap[w2.heap.size]? =some (.cells #[.int .i64 (tree:Int),.int .i64 ((n:Int)+1)] 145 (0,0))):=((za.alloc (fun _=>False) w4 _).block _ (by omega) id).trans HR4.out
  have HCX:Hid (Cw (w4.alloc (.cells #[.string key,.int .i64 ((n:Int)+1),.bool mark,.int .i64 (l.length:Int),.int .i64 (f:Int)] 109)) w.heap.size bd S T4 {D with reads:=D.reads+k2+n4} C1):=HC4.out.kept0 (za.alloc _ _ _)
  have HKX:Hid (za (fun j=>j=bd) w (w4.alloc (.cells #[.string key,.int .i64 ((n:Int)+1),.bool mark,.int .i64 (l.length:Int),.int .i64 (f:Int)] 109))):=(HKwW.out.trans HK34.out (fun j hj=>hj.elim .inl (fun h=>.inr (by omega)))).trans (za.alloc (fun _=>False) _ _) fE
  have HTX:Hid (∀j,T4 j→w.heap.size≤j∧j≠w4.heap.size∧j≠w2.heap.size):=fun j hj=>by
   have h1:=HC4.out.chg.lt j hj
   rcases HT4.out j hj with h2|h2
   ·omega
   ·have h3:W.heap.size≤j:=h2
    omega
  have hXs:(w4.alloc (.cells #[.string key,.int .i64 ((n:Int)+1),.bool mark,.int .i64 (l.length:Int),.int .i64 (f:Int)] 109)).heap.size=w4.heap.size+1:=by simp
  have hbe0:w2.heap.size<w4.heap.size∧w4.heap.size<(w4.alloc (.cells #[.string key,.int .i64 ((n:Int)+1),.bool mark,.int .i64 (l.length:Int),.int .i64 (f:Int)] 109)).heap.size:=by omega
  clear hsW hsK hXs
  generalize (w4.alloc (.cells #[.string key,.int .i64 ((n:Int)+1),.bool mark,.int .i64 (l.length:Int),.int .i64 (f:Int)] 109))=X at*
  generalize w4.heap.size=be at*
  clear HC4 HT4 HK4 HK34 HR4 z41 ne4 hsz4
 case' refine_2.refine_3.refine_3.refine_3.refine_3.refine_3.refine_3.refine_3.refine_3.refine_3.refine_2.refine_1.refine_2.refine_1.refine_2.refine_3.refine_1.refine_2=>
  have hsW:=HSW.out
  have hsK:=HK34.out.size
  obtain⟨hh5,kS5⟩:=ju w4 W.heap.size 109 _ _ _ _ _ (.string key) (.int .i64 ((n:Int)+1)) (.bool mark) (.int .i64 (l.length:Int)) (.int .i64 (f:Int)) HZ4.out
  have HBE:Hid ((((((w4.setCell ⟨W.heap.size,0,none⟩ (.string key)).setCell ⟨W.heap.size,1,none⟩ (.int .i64 ((n:Int)+1))).setCell ⟨W.heap.size,2,none⟩ (.bool mark)).setCell ⟨W.heap.size,3,none⟩ (.int .i64 (l.length:Int))).setCell ⟨W.heap.size,4,none⟩ (.int .i64 (f:Int))).heap[W.heap.size]? =some (.cells #[.string key,.int .i64 ((n:Int)+1),.bool mark,.int .i64 (l.length:Int),.int .i64 (f:Int)] 109 (0,0))):=hh5
  have HBRX:Hid ((((((w4.setCell ⟨W.heap.size,0,none⟩ (.string key)).setCell ⟨W.heap.size,1,none⟩ (.int .i64 ((n:Int)+1))).setCell ⟨W.heap.size,2,none⟩ (.bool mark)).setCell ⟨W.heap.size,3,none⟩ (.int .i64 (l.length:Int))).setCell ⟨W.heap.size,4,none⟩ (.int .i64 (f:Int))).heap[w2.heap.size]? =some (.cells #[.int .i64 (tree:Int),.int .i64 ((n:Int)+1)] 145 (0,0))):=(kS5.block _ (by omega) (by omega)).trans HR4.out
  have HTX0:∀j,T4 j→w.heap.size≤j∧j≠W.heap.size∧j≠w2.heap.size:=fun j hj=>by
   rcases HT4.out j hj with h2|h2
   ·omega
   ·have h3:(W.alloc (.cells #[.string ⟨#[]⟩,.int .i64 0,.bool false,.int .i64 0,.int .i64 0] 109)).heap.size≤j:=h2
    omega
  have HTX:Hid (∀j,T4 j→w.heap.size≤j∧j≠W.heap.size∧j≠w2.heap.size):=HTX0
  have HCX:Hid (Cw (((((w4.setCell ⟨W.heap.size,0,none⟩ (.string key)).setCell ⟨W.heap.size,1,none⟩ (.int .i64 ((n:Int)+1))).setCell ⟨W.heap.size,2,none⟩ (.bool mark)).setCell ⟨W.heap.size,3,none⟩ (.int .i64 (l.length:Int))).setCell ⟨W.heap.size,4,none⟩ (.int .i64 (f:Int))) w.heap.size bd S T4 {D with reads:=D.reads+k2+n4} C1):=HC4.out.kept kS5 (fun j hj e0=>by have:=HSL.out j hj;omega) (fun j hj e0=>(HTX0 j hj).2.1 e0)
  have HKX:Hid (za (fun j=>j=bd) w (((((w4.setCell ⟨W.heap.size,0,none⟩ (.string key)).setCell ⟨W.heap.size,1,none⟩ (.int .i64 ((n:Int)+1))).setCell ⟨W.heap.size,2,none⟩ (.bool mark)).setCell ⟨W.heap.size,3,none⟩ (.int .i64 (l.length:Int))).setCell ⟨W.heap.size,4,none⟩ (.int .i64 (f:Int)))):=(HKwW.out.trans HK34.out (fun j hj=>hj.elim .inl (fun h=>.inr (by omega)))).trans kS5 (fun j hj=>.inr (by omega))
  have hXs:=kS5.size
  have hbe0:w2.heap.size<W.heap.size∧W.heap.size<(((((w4.setCell ⟨W.heap.size,0,none⟩ (.string key)).setCell ⟨W.heap.size,1,none⟩ (.int .i64 ((n:Int)+1))).setCell ⟨W.heap.size,2,none⟩ (.bool mark)).setCell ⟨W.heap.size,3,none⟩ (.int .i64 (l.length:Int))).setCell ⟨W.heap.size,4,none⟩ (.int .i64 (f:Int))).heap.size:=by
   have:=(lT HZ4.out)
   omega
  clear hsW hsK hXs hh5 kS5 HTX0
  generalize (((((w4.setCell ⟨W.heap.size,0,none⟩ (.string key)).setCell ⟨W.heap.size,1,none⟩ (.int .i64 ((n:Int)+1))).setCell ⟨W.heap.size,2,none⟩ (.bool mark)).setCell ⟨W.heap.size,3,none⟩ (.int .i64 (l.length:Int))).setCell ⟨W.heap.size,4,none⟩ (.int .i64 (f:Int)))=X at*
  clear HC4 HT4 HK4 HK34 HR4 HZ4 z41 ne4 hsz4 zz0 zz1 zz2 zz3 zz4 zf0 zf1 zf2 zf3 zf4
  clear HBW HKZ hsX hsX' hsD z1 ne1 ne1' HSW HBR HKW HKwW HBYW
  generalize W.heap.size=be at*
 all_goals
  have q0:X.cell? ⟨w2.heap.size,0,none⟩=some (.int .i64 (tree:Int)):=cR HBRX.out rfl
  have e0:X.cell? ⟨be,0,none⟩=some (.string key):=cR HBE.out rfl
  have e1:X.cell? ⟨be,1,none⟩=some (.int .i64 ((n:Int)+1)):=cR HBE.out rfl
  have e2:X.cell? ⟨be,2,none⟩=some (.bool mark):=cR HBE.out rfl
  have e3:X.cell? ⟨be,3,none⟩=some (.int .i64 (l.length:Int)):=cR HBE.out rfl
  have e4:X.cell? ⟨be,4,none⟩=some (.int .i64 (f:Int)):=cR HBE.out rfl
  go_wp2_with fail
 all_goals
  have hw1:C1.ws.length<500:=by
   have h1:=fq (C:=vH) (D:=D) (m:=m) (by rw [yi];exact HM.out) hN (zy l) f C1 m1 HBODY.out
   have h2:=h1.2.1
   have h3:vH.ws.length=0:=rfl
   rw [yu] at h2
   omega
  obtain⟨root',C2,m2,pb,nb,R,K⟩:=Zm w.heap.size bd S T4 D hN ⟨⟨key,(n:Int)+1⟩,mark,l.length,f⟩ HHE.out HHL.out C1 m1 tree es bl HF.out HND.out HTK.out hbl HBR0.out.chn HLOW.out HNE.out hw1
  have HR:Hid (gm D C1 C2 m1 m2 root' ⟨⟨key,(n:Int)+1⟩,mark,l.length,f⟩ es bl pb nb):=R
  have hrl:=R.lt
  have hw2:C2.ws.length<800:=by have:=R.few;omega
  clear R hw1
  refine(K.go X (D.reads+k2+n4) (by omega) (by omega) HCX.out).mono ?_
  clear K
  rintro x u5 ⟨rfl,⟨n5,T5,hn50,hn51,hc5,hT5⟩,hk5⟩
  have HC5:Hid (Cw u5 w.heap.size bd S T5 {D with reads:=D.reads+k2+n4+n5} C2):=hc5
  have HT5:Hid (∀j,T5 j→T4 j∨X.heap.size≤j):=hT5
  have HK5:Hid (za (fun j=>j=bd∨T4 j) X u5):=hk5
  have hz5:=hk5.size
  have nT4:¬(w2.heap.size=bd∨T4 w2.heap.size):=fun hc=>by
   rcases hc with h|h
   ·omega
   ·exact(HTX.out _ h).2.2 rfl
  have HB5:Hid (u5.heap[w2.heap.size]? =some (.cells #[.int .i64 (tree:Int),.int .i64 ((n:Int)+1)] 145 (0,0))):=(hk5.block _ (by omega) nT4).trans HBRX.out
  have p0:u5.cell? ⟨w2.heap.size,0,none⟩=some (.int .i64 (tree:Int)):=cR HB5.out rfl
  have f0:u5.frozen? ⟨w2.heap.size,0,none⟩=false:=frozen_of_row u5 w2.heap.size 0 _ _ HB5.out
  have HB6:Hid ((u5.setCell ⟨w2.heap.size,0,none⟩ (.int .i64 (root':Int))).heap[w2.heap.size]? =some (.cells #[.int .i64 (root':Int),.int .i64 ((n:Int)+1)] 145 (0,0))):=heap_setCell_same u5 w2.heap.size 0 _ _ (.int .i64 (root':Int)) HB5.out
  have HK6:Hid (za (fun j=>j=w2.heap.size) u5 (u5.setCell ⟨w2.heap.size,0,none⟩ (.int .i64 (root':Int)))):=za.setCell (S:=fun j=>j=w2.heap.size) u5 ⟨w2.heap.size,0,none⟩ (.int .i64 (root':Int)) rfl
  have y0:(u5.setCell ⟨w2.heap.size,0,none⟩ (.int .i64 (root':Int))).cell? ⟨w2.heap.size,0,none⟩=some (.int .i64 (root':Int)):=cR HB6.out rfl
  have y1:(u5.setCell ⟨w2.heap.size,0,none⟩ (.int .i64 (root':Int))).cell? ⟨w2.heap.size,1,none⟩=some (.int .i64 ((n:Int)+1)):=cR HB6.out rfl
  have hz6:(u5.setCell ⟨w2.heap.size,0,none⟩ (.int .i64 (root':Int))).heap.size=u5.heap.size:=by simp
  have nT5:∀j,T5 j→j≠w2.heap.size∧w.heap.size≤j:=fun j hj=>by
   rcases HT5.out j hj with h|h
   ·have:=HTX.out j h;omega
   ·omega
  have HNT5:Hid (∀j,T5 j→j≠w2.heap.size∧w.heap.size≤j):=nT5
  have HC6:Hid (Cw (u5.setCell ⟨w2.heap.size,0,none⟩ (.int .i64 (root':Int))) w.heap.size bd S T5 {D with reads:=D.reads+k2+n4+n5} C2):=HC5.out.kept HK6.out (fun j hj e0=>by have:=HSL.out j hj;omega) (fun j hj e0=>(nT5 j hj).1 e0)
  clear hc5 hT5 hk5 nT4 nT5 e0 e1 e2 e3 e4 q0
  go_wp2_with fail
 all_goals
  have hcast:((n+1:Nat):Int)=(n:Int)+1:=by omega
  have hRW:=kM (u5.setCell ⟨w2.heap.size,0,none⟩ (.int .i64 (root':Int))) w.heap.size bd S T5 {D with reads:=D.reads+k2+n4+n5} C2 HC6.out root' (n+1) hrl (by omega) (by omega)
  rw [hcast] at hRW
  clear hcast y0
  generalize (u5.setCell ⟨w2.heap.size,0,none⟩ (.int .i64 (root':Int)))=Y at*
  refine hRW.mono ?_
  clear hRW
  rintro x u7 ⟨rfl,⟨T7,hc7,hT7⟩,hk7⟩
  have HC7:Hid (Cw u7 w.heap.size bd S T7 {D with reads:=D.reads+k2+n4+n5} (C2.put 1 (zl (zB root' (n+1))))):=hc7
  have HT7:Hid (∀j,T7 j→T5 j∨Y.heap.size≤j):=hT7
  have HK7:Hid (za T5 Y u7):=hk7
  have hz7:=hk7.size
  have HB7:Hid (u7.heap[w2.heap.size]? =some (.cells #[.int .i64 (root':Int),.int .i64 ((n:Int)+1)] 145 (0,0))):=(hk7.block _ (by omega) (fun hc=>(HNT5.out _ hc).1 rfl)).trans HB6.out
  have HKEYS:Hid (∀k∈(C2.put 1 (zl (zB root' (n+1)))).keys,k<D.bs.length):=fun k hk=>by
   rcases (xh C2 1 _ k).1 hk with h|h
   ·rcases HR.out.stp.keys k h with h|h|h|h|h
    ·rcases HBR0.out.stp.keys k h with h|h|h|h|h
     ·exact nomatch h
     ·exact nomatch h
     ·exact(HBR0.out.stp.grew.fresh k h).2.1
     ·omega
     ·omega
    ·exact HBLN.out k (HR.out.sub k h)
    ·exact(HR.out.stp.grew.fresh k h).2.1
    ·omega
    ·omega
   ·omega
  have HKwY:Hid (za (fun j=>j=bd) w Y):=(HKX.out.trans HK5.out (fun j hj=>hj.elim .inl (fun h=>.inr (HTX.out j h).1))).trans HK6.out (fun j hj=>.inr (by omega))
  have HKw7:Hid (za (fun j=>j=bd) w u7):=HKwY.out.trans HK7.out (fun j hj=>.inr (HNT5.out j hj).2)
  clear hc7 hT7 hk7 y1 p0 f0
  generalize hC3:C2.put 1 (zl (zB root' (n+1)))=C3 at*
  cases hfull:(C3.full||decide (18<C3.ws.length)) with
  |true=>
   have HFUL:Hid ((C3.full||decide (18<C3.ws.length))=true):=hfull
   have HC3:Hid (C2.put 1 (zl (zB root' (n+1)))=C3):=hC3
   clear hfull hC3
   go_wp2_with (go_at_call 78;refine(ZC u7 bs w.heap.size bd T7 C3 HC7.out.chg HFUL.out).mono ?_;rintro x w8 ⟨rfl,hw8⟩;rw [hw8];clear hw8 w8)
   refine bodyPost_ret (results_tmp2 rfl _ _ _) rfl ?_
   refine⟨root',C2,m2,pb,nb,HR.out,k2+n4+n5,by omega,by omega,.inl ⟨?_,rfl,?_,HKw7.out⟩⟩
   ·rw [HC3.out];exact HFUL.out
   ·have:=HC7.out.disk
    rw [Int.add_assoc,Int.add_assoc] at this
    rw [Int.add_assoc]
    exact this
  |false=>
   have HFUL:Hid ((C3.full||decide (18<C3.ws.length))=false):=hfull
   have HC3:Hid (C2.put 1 (zl (zB root' (n+1)))=C3):=hC3
   have h18:C3.ws.length≤18:=by
    simp only [Bool.or_eq_false_iff,decide_eq_false_iff_not] at hfull
    omega
   have HCN:Hid ((ys {D with reads:=D.reads+k2+n4+n5} C3.ws).1=true∧yx {D with reads:=D.reads+k2+n4+n5} C3.ws=(true,{D with bs:=vk D.bs C3.ws,reads:=D.reads+k2+n4+n5 })):=fj (D:={D with reads:=D.reads+k2+n4+n5 }) HFU.out HPS0.out (by show 21≤D.bs.length;omega) (fun p hp=>HKEYS.out p.1 (List.mem_map.2 ⟨p,hp,rfl⟩)) h18
   have HCM:Hid (Calls Tryz.prog 78 #[.pointer (some ⟨bs,0,none⟩),.pointer (some ⟨w.heap.size,0,none⟩)] u7 fun e w'=>e=.returned (.int .i64 0)∧qN u7 w' bd S {D with bs:=vk D.bs C3.ws,reads:=D.reads+k2+n4+n5 }):=by
    have:=dH u7 bs w.heap.size bd S T7 {D with reads:=D.reads+k2+n4+n5} C3 HC7.out hfull (fun p hp=>by have:=HKEYS.out p.1 (List.mem_map.2 ⟨p,hp,rfl⟩);omega) (by show zG D.fuse;rw [HFU.out];constructor<;>omega) (by show D.ps.length≤_;rw [HPS0.out];simp) HCN.out.1 (by rw [HCN.out.2])
    rw [HCN.out.2] at this
    exact this
   clear hfull hC3 h18
   have hl2:w2.heap.size<u7.heap.size:=by omega
   have HNS:Hid (¬S w2.heap.size):=fun h=>by have:=HSL.out _ h;omega
   go_wp2_with (go_at_call 78;refine HCM.out.mono ?_;rintro x w8 ⟨rfl,ho8⟩;have HO8:Hid _:=ho8;have HB8:Hid (w8.heap[w2.heap.size]? =_):=(ho8.kept.block _ hl2 HNS.out).trans HB7.out;have y8:w8.cell? ⟨w2.heap.size,1,none⟩=some (.int .i64 ((n:Int)+1)):=(cR HB8.out rfl);clear ho8)
   refine bodyPost_ret (results_tmp2 rfl _ _ _) rfl ?_
   refine⟨root',C2,m2,pb,nb,HR.out,k2+n4+n5,by omega,by omega,.inr ⟨?_,rfl,?_⟩⟩
   ·rw [HC3.out];exact HFUL.out
   ·have h1:=HO8.out
    rw [Int.add_assoc,Int.add_assoc] at h1
    rw [Int.add_assoc,HC3.out]
    exact qN.trans (D1:=D) iL (HKw7.out.mono (fun j hj=>by rw [hj];exact HD.out.bdS)) h1
theorem Yw(w:World)(bs:Nat)(q:Option Nat)(hs:zu w bs 0 q)(key:ByteArray)(hk:key.size≤maxLen)(hkey:zs key.data.toList=false)(a:Option Addr)(n cap:Nat):
 Calls Tryz.prog 27 #[.pointer (some ⟨bs,0,none⟩),.string key,.slice a n cap] w fun e w'=>e=.returned (.tuple #[.int .i64 0,.int .i64 2])∧zu w' bs 0 q∧za (fun k=>k=bs) w w':=by
 have HS:Hid _:=hs
 have HKY:Hid (zs key.data.toList=false):=hkey
 clear hs hkey
 go_enter_defers Tryz.func27,Tryz.ntmps27
 go_wp2_with (first
  |(go_at_call 47;refine(qu HS.out).mono ?_;rintro e w1 ⟨rfl,hs1,hk1⟩;have HS1:Hid _:=hs1;have HK1:Hid (za (fun k=>k=bs) w w1):=hk1;clear hs1 hk1)
  |(go_at_call 49;refine(keys.qA key w1 hk).mono ?_;rintro e w2 ⟨rfl,hw2⟩;rw [hw2,HKY.out];clear hw2 w2))
 refine leaves_cons (f:= 48) (args:=#[.pointer (some ⟨bs,0,none⟩)]) (by simp) (by simp [go_sem]) ?_
 refine(qt HS1.out).mono ?_
 rintro e u' w2 ⟨rfl,rfl,hs2,hk2⟩
 exact⟨_,results_tmp2 Tryz.results27 _ _ _,rfl,hs2,HK1.out.trans hk2 iL⟩
theorem Yx(w:World)(bs:Nat)(q:Option Nat)(hs:zu w bs 0 q)(key:ByteArray)(hk:key.size≤maxLen)(hkey:zs key.data.toList=true)(a:Option Addr)(n cap:Nat)(hn:300<n):
 Calls Tryz.prog 27 #[.pointer (some ⟨bs,0,none⟩),.string key,.slice a n cap] w fun e w'=>e=.returned (.tuple #[.int .i64 0,.int .i64 3])∧zu w' bs 0 q∧za (fun k=>k=bs) w w':=by
 have HS:Hid _:=hs
 have HKY:Hid (zs key.data.toList=true):=hkey
 have hnI:(300:Int)<(n:Int):=by omega
 clear hs hkey
 go_enter_defers Tryz.func27,Tryz.ntmps27
 go_wp2_with (first
  |(go_at_call 47;refine(qu HS.out).mono ?_;rintro e w1 ⟨rfl,hs1,hk1⟩;have HS1:Hid _:=hs1;have HK1:Hid (za (fun k=>k=bs) w w1):=hk1;clear hs1 hk1)
  |(go_at_call 49;refine(keys.qA key w1 hk).mono ?_;rintro e w2 ⟨rfl,hw2⟩;rw [hw2,HKY.out];clear hw2 w2))
 refine leaves_cons (f:= 48) (args:=#[.pointer (some ⟨bs,0,none⟩)]) (by simp) (by simp [go_sem]) ?_
 refine(qt HS1.out).mono ?_
 rintro e u' w2 ⟨rfl,rfl,hs2,hk2⟩
 exact⟨_,results_tmp2 Tryz.results27 _ _ _,rfl,hs2,HK1.out.trans hk2 iL⟩
theorem JL(w:World)(bs:Nat)(hs:zu w bs 0 none)(key:ByteArray)(hk:key.size≤maxLen)(hkey:zs key.data.toList=true)(a:Option Addr)(n cap:Nat)(hn:n≤300):
 Calls Tryz.prog 27 #[.pointer (some ⟨bs,0,none⟩),.string key,.slice a n cap] w fun e w'=>e=.returned (.tuple #[.int .i64 0,.int .i64 8])∧zu w' bs 0 none∧za (fun k=>k=bs) w w':=by
 have HS:Hid _:=hs
 have HKY:Hid (zs key.data.toList=true):=hkey
 have hnI:¬(300:Int)<(n:Int):=by omega
 clear hs hkey
 go_enter_defers Tryz.func27,Tryz.ntmps27
 go_wp2_with (first
  |(go_at_call 47;refine(qu HS.out).mono ?_;rintro e w1 ⟨rfl,hs1,hk1⟩;have HS1:Hid _:=hs1;have HK1:Hid (za (fun k=>k=bs) w w1):=hk1;have c2:w1.cell? ⟨bs,2,none⟩=some (.pointer none):=hs1.c2;clear hs1 hk1)
  |(go_at_call 49;refine(keys.qA key w1 hk).mono ?_;rintro e w2 ⟨rfl,hw2⟩;rw [hw2,HKY.out];clear hw2 w2))
 refine leaves_cons (f:= 48) (args:=#[.pointer (some ⟨bs,0,none⟩)]) (by simp) (by simp [go_sem]) ?_
 refine(qt HS1.out).mono ?_
 rintro e u' w2 ⟨rfl,rfl,hs2,hk2⟩
 exact⟨_,results_tmp2 Tryz.results27 _ _ _,rfl,hs2,HK1.out.trans hk2 iL⟩
theorem JM(w:World)(bs bd:Nat)(S:Nat→Prop)(D:Dk)(hs:zu w bs 0 (some bd))(hd:zh w bd S D)(hn:¬S bs)(key:ByteArray)(hk:key.size≤maxLen)(hkey:zs key.data.toList=true)(P:Nat→Prop)(a:Option Addr)(cap:Nat)(l:List UInt8)(hby:zE w P a l)(hPS:∀j,P j→¬S j∧j≠bs)(hl:l.length≤300)(Q:Int→Int→Dk→Prop)
 (hadd:∀w',zu w' bs 1 (some bd)→zh w' bd S D→zE w' P a l→Calls Tryz.prog 52 #[.pointer (some ⟨bs,0,none⟩),.string key,.slice a l.length cap,.bool false] w' fun e w''=>∃v c D',e=.returned (.tuple #[.int .i64 v,.int .i64 c])∧qN w' w'' bd S D'∧Q v c D'):
 Calls Tryz.prog 27 #[.pointer (some ⟨bs,0,none⟩),.string key,.slice a l.length cap] w fun e w'=>∃v c D',e=.returned (.tuple #[.int .i64 v,.int .i64 c])∧Q v c D'∧(∃S',zh w' bd S' D'∧∀k,S' k→S k∨w.heap.size≤k)∧zu w' bs 0 (some bd)∧za (fun k=>S k∨k=bs) w w':=by
 have HS:Hid _:=hs
 have HD:Hid (zh w bd S D):=hd
 have HKY:Hid (zs key.data.toList=true):=hkey
 have HBY:Hid (zE w P a l):=hby
 have HPS:Hid (∀j,P j→¬S j∧j≠bs):=hPS
 have HN:Hid (∀j,S j→j≠bs):=fun j hj e=>hn (by rw [←e];exact hj)
 have HADD:Hid (∀w',zu w' bs 1 (some bd)→zh w' bd S D→zE w' P a l→Calls Tryz.prog 52 #[.pointer (some ⟨bs,0,none⟩),.string key,.slice a l.length cap,.bool false] w' fun e w''=>∃v c D',e=.returned (.tuple #[.int .i64 v,.int .i64 c])∧qN w' w'' bd S D'∧Q v c D'):=hadd
 have hnI:¬(300:Int)<(l.length:Int):=by omega
 have hbs:=hs.lt
 clear hs hd hkey hby hPS hadd
 go_enter_defers Tryz.func27,Tryz.ntmps27
 go_wp2_with (first
  |(go_at_call 47;refine(qu HS.out).mono ?_;rintro e w1 ⟨rfl,hs1,hk1⟩;have HS1:Hid _:=hs1;have HK1:Hid (za (fun k=>k=bs) w w1):=hk1;have c2:w1.cell? ⟨bs,2,none⟩=some (.pointer (some ⟨bd,0,none⟩)):=hs1.c2;clear hs1 hk1)
  |(go_at_call 49;refine(keys.qA key w1 hk).mono ?_;rintro e w2 ⟨rfl,hw2⟩;rw [hw2,HKY.out];clear hw2 w2)
  |(go_at_call 52;refine(HADD.out w1 HS1.out (HD.out.kept HK1.out HN.out) (HBY.out.kept HK1.out (fun j hj e0=>(HPS.out j hj).2 e0))).mono ?_;rintro e w2 ⟨v,c,D',rfl,ho2,hq2⟩;have HO2:Hid _:=ho2;have HQ2:PLift (Q v c D'):=⟨hq2⟩;clear ho2 hq2))
 refine leaves_cons (f:= 48) (args:=#[.pointer (some ⟨bs,0,none⟩)]) (by simp) (by simp [go_sem]) ?_
 obtain⟨⟨S',hd2,hS2⟩,hk2⟩:=HO2.out
 refine(qt (HS1.out.kept hk2 hn)).mono ?_
 rintro e u' w3 ⟨rfl,rfl,hs3,hk3⟩
 have hz:=HK1.out.size
 refine⟨_,results_tmp2 Tryz.results27 _ _ _,v,c,D',rfl,HQ2.down,⟨S',hd2.kept hk3 (fun j hj e0=>?_),fun j hj=>?_⟩,hs3,?_⟩
 ·rcases hS2 j hj with h|h
  ·exact HN.out j h e0
  ·have e1:j=bs:=e0;omega
 ·rcases hS2 j hj with h|h
  ·exact .inl h
  ·exact .inr (by omega)
 ·exact((HK1.out.mono (S':=fun k=>S k∨k=bs) (fun _ h=>.inr h)).trans hk2 (fun _ h=>.inl (.inl h))).trans hk3 (fun _ h=>.inl (.inr h))
theorem ZD(w:World)(bd:Nat)(S:Nat→Prop)(D:Dk)(h:zh w bd S D):Calls Tryz.prog 54 #[.pointer (some ⟨bd,0,none⟩)] w fun e w'=>e=.returned (.int .i64 D.bs.length)∧w'=w:=by
 obtain⟨ba,pa,bc,pc,h⟩:=h
 exact kO w bd S D ba pa bc pc h
theorem QS(w:World)(bd:Nat)(S:Nat→Prop)(D:Dk)(hd:zh w bd S D)(hN:D.bs.length<64):
 Calls Tryz.prog 35 #[.pointer (some ⟨bd,0,none⟩)] w fun e w'=>e=.returned (.tuple #[.pointer none,.int .i64 1])∧w'=w:=by
 have HD:Hid (zh w bd S D):=hd
 have hI:(D.bs.length:Int)<64:=by omega
 clear hd
 go_enter Tryz.func35,Tryz.ntmps35
 go_wp2_with (go_at_call 54;refine(ZD w bd S D HD.out).mono ?_;rintro e w1 ⟨rfl,hw1⟩;rw [hw1];clear hw1 w1)
 refine bodyPost_ret (results_tmp2 rfl _ _ _) rfl ?_
 exact⟨rfl,rfl⟩
theorem Xm(w:World)(bd:Nat)(S:Nat→Prop)(D D':Dk)(hd:zh w bd S D)(hN:64≤D.bs.length)(hfin:Calls Tryz.prog 55 #[.pointer (some ⟨bd,0,none⟩)] w fun e w'=>e=.returned (.bool true)∧qN w w' bd S D'):
 Calls Tryz.prog 35 #[.pointer (some ⟨bd,0,none⟩)] w fun e w'=>∃bs,e=.returned (.tuple #[.pointer (some ⟨bs,0,none⟩),.int .i64 0])∧w.heap.size≤bs∧zu w' bs 0 (some bd)∧∃S',zh w' bd S' D'∧(∀k,S' k→S k∨w.heap.size≤k)∧¬S' bs∧za S w w':=by
 have HD:Hid (zh w bd S D):=hd
 have hI:¬(D.bs.length:Int)<64:=by omega
 have HFIN:Hid (Calls Tryz.prog 55 #[.pointer (some ⟨bd,0,none⟩)] w fun e w'=>e=.returned (.bool true)∧qN w w' bd S D'):=hfin
 clear hd hfin
 go_enter Tryz.func35,Tryz.ntmps35
 go_wp2_with (first
  |(go_at_call 54;refine(ZD w bd S D HD.out).mono ?_;rintro e w1 ⟨rfl,hw1⟩;rw [hw1];clear hw1 w1)
  |(go_at_call 55;refine HFIN.out.mono ?_;rintro e w1 ⟨rfl,ho1⟩;have HO1:Hid _:=ho1;clear ho1))
 refine bodyPost_ret (results_tmp2 rfl _ _ _) rfl ?_
 obtain⟨⟨S',h1,h2⟩,h3⟩:=HO1.out
 have kA:=za.alloc (fun _=>False) w1 (.cells #[.int .i32 0,.int .u32 0,.pointer (some ⟨bd,0,none⟩)] 104)
 exact⟨w1.heap.size,rfl,h3.size,⟨heap_alloc_new w1 _⟩,S',h1.kept kA nF,h2,fun h=>by have:=h1.lt _ h;omega,h3.trans kA fE⟩
end prog
end Go.Proofs.YtcoengihaobddaaGreatDoor
