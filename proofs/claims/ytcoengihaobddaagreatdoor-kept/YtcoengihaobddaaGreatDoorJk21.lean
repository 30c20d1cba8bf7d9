/- Part 21 of 34 of a proof: Grow1, Log1, Com1, Ins9, Ins10, Ins11 -/
import Derived.Test.YtcoengihaobddaaGreatDoorJk20
set_option maxHeartbeats 8000000
set_option linter.unusedVariables false
set_option linter.unusedSimpArgs false
set_option maxRecDepth 8000
namespace Go.Proofs.YtcoengihaobddaaGreatDoor
namespace prog
open Go.RowKit disk ref
def Ck.keys(C:Ck):List Nat:=C.ws.map Prod.fst
theorem Ck.keys_len(C:Ck):C.keys.length=C.ws.length:=by simp [Ck.keys]
theorem Zm{C:Ck}{i k:Nat}(b:List Value)(h:qH C.ws i=some k):(C.put i b).keys=C.keys∧i∈C.keys:=by
 obtain⟨hk,e⟩:=xE b h
 obtain⟨_,_,hki⟩:=yR (D:=⟨[],[],0,0⟩) h
 rw [e]
 unfold Ck.keys
 refine⟨?_,?_⟩
 ·simp only [List.map_set]
  have:C.ws[k].1=(C.ws.map Prod.fst)[k]'(by simpa using hk):=by simp
  rw [this,List.set_getElem_self]
 ·have:i=C.ws[k].1:=by omega
  rw [this]
  exact List.mem_map.2 ⟨_,List.getElem_mem hk,rfl⟩
theorem uj{C:Ck}{i:Nat}(b:List Value)(h:qH C.ws i=none):(C.put i b).keys=C.keys++[i]∧i∉C.keys:=by
 rw [xX b h]
 refine⟨by simp [Ck.keys],fun hm=>?_⟩
 obtain⟨p,hp,rfl⟩:=List.mem_map.1 hm
 unfold qH at h
 rw [List.findIdx?_eq_none_iff] at h
 have:=h p hp
 simp at this
theorem yI(C:Ck)(i:Nat)(b:List Value):∀k,k∈(C.put i b).keys↔k∈C.keys∨k=i:=fun k=>by
 cases hx:qH C.ws i with
 |none=>rw [(uj b hx).1];simp
 |some j=>
  obtain⟨h1,h2⟩:=Zm b hx
  rw [h1]
  exact⟨.inl,fun h=>h.elim id (fun e=>e▸h2)⟩
theorem yt{C:Ck}(h:C.keys.Nodup)(i:Nat)(b:List Value):(C.put i b).keys.Nodup:=by
 cases hx:qH C.ws i with
 |none=>
  obtain⟨h1,h2⟩:=uj b hx
  rw [h1]
  exact List.nodup_append.2 ⟨h,by simp,fun a ha c hc e=>by rw [List.mem_singleton.1 hc] at e;exact h2 (e▸ha)⟩
 |some j=>rw [(Zm b hx).1];exact h
theorem qz(C:Ck)(i:Nat)(b:List Value):(C.put i b).full=C.full:=by
 unfold Ck.put;split<;>rfl
structure kZ (N:Nat) (m m':List UInt8) (nb:List Nat):Prop where
 nodup:nb.Nodup
 fresh:∀j∈nb,21≤j∧j<N∧zO m (j-21)=false
 taken:∀i,zO m' i=(zO m i||decide (i+21∈nb))
theorem kZ.refl(N:Nat)(m:List UInt8):kZ N m m []:=⟨List.nodup_nil,fun _ h=>(nomatch h),fun i=>by simp⟩
theorem kZ.trans{N:Nat}{m m1 m2:List UInt8}{a b:List Nat}(h:kZ N m m1 a)(k:kZ N m1 m2 b):kZ N m m2 (a++b) where
 nodup:=List.nodup_append.2 ⟨h.nodup,k.nodup,fun x hx y hy e=>by
  subst e
  have h1:=k.fresh x hy
  have h2:=h.taken (x-21)
  rw [h1.2.2,show x-21+21=x from by omega] at h2
  simp [hx] at h2⟩
 fresh:=fun j hj=>by
  rcases List.mem_append.1 hj with hj|hj
  ·exact h.fresh j hj
  ·have h1:=k.fresh j hj
   refine⟨h1.1,h1.2.1,?_⟩
   have h2:=h.taken (j-21)
   rw [h1.2.2] at h2
   cases h3:zO m (j-21) with
   |false=>rfl
   |true=>rw [h3] at h2;simp at h2
 taken:=fun i=>by rw [k.taken,h.taken,Bool.or_assoc];simp
theorem kZ.keeps{N:Nat}{m m':List UInt8}{nb:List Nat}(h:kZ N m m' nb){i:Nat}(hi:zO m i=true):zO m' i=true:=by rw [h.taken,hi];rfl
theorem kZ.apart{N:Nat}{m m':List UInt8}{nb:List Nat}(h:kZ N m m' nb){j:Nat}(hj:zO m (j-21)=true):j∉nb:=fun hn=>by
 have:=(h.fresh j hn).2.2;rw [hj] at this;cases this
def Zn(N:Nat)(m:List UInt8):Prop:=∀i,i+21<N→zO m i=true
theorem KC(C:Ck){N:Nat}(hN:N≤1000){m:List UInt8}(hm:m.length=124):
 (∃i,C.take N m=(i+21,C.put 2 (zl (zL (kT m i))),kT m i)∧kZ N m (kT m i) [i+21])∨(C.take N m=(0,{C with full:=true},m)∧Zn N m):=by
 unfold Ck.take
 cases h:vC N m with
 |some i=>
  obtain⟨h1,h2,h3⟩:=Zf h
  refine .inl ⟨i,rfl,by simp,fun j hj=>?_,fun j=>?_⟩
  ·rw [List.mem_singleton.1 hj]
   exact⟨by omega,by omega,by rw [show i+21-21=i from by omega];exact h2⟩
  ·rw [Xm (by rw [hm];omega)]
   congr 1
   simp
 |none=>
  refine .inr ⟨rfl,fun i hi=>?_⟩
  unfold vC at h
  rw [List.find?_eq_none] at h
  have:=h i (by simp;omega)
  simpa using this
structure QR (D:Dk) (C:Ck) (m:List UInt8):Prop where
 map:qn (C.look D 2) m
 full:C.full=true→Zn D.bs.length m
 nodup:C.keys.Nodup
structure fR (D:Dk) (C C':Ck) (m m':List UInt8) (pb nb:List Nat):Prop where
 grew:kZ D.bs.length m m' nb
 full:C.full=true→C'.full=true
 look:∀j:Nat,j∉pb→j∉nb→j≠2→j≠0→C'.look D j=C.look D j
 keys:∀k∈C'.keys,k∈C.keys∨k∈pb∨k∈nb∨k=2∨(k=0∧C'.full=true)
theorem fR.refl(D:Dk)(C:Ck)(m:List UInt8):fR D C C m m [] []:=⟨kZ.refl _ _,id,fun _ _ _ _ _=>rfl,fun _ h=>.inl h⟩
theorem fR.trans{D:Dk}{C C1 C2:Ck}{m m1 m2:List UInt8}{p1 p2 n1 n2:List Nat}(h:fR D C C1 m m1 p1 n1)(k:fR D C1 C2 m1 m2 p2 n2):fR D C C2 m m2 (p1++p2) (n1++n2) where
 grew:=h.grew.trans k.grew
 full:=fun hf=>k.full (h.full hf)
 look:=fun j h1 h2 h3 h4=>by
  rw [List.mem_append,not_or] at h1 h2
  rw [k.look j h1.2 h2.2 h3 h4,h.look j h1.1 h2.1 h3 h4]
 keys:=fun x hx=>by
  simp only [List.mem_append]
  rcases k.keys x hx with hx|hx|hx|hx|⟨hx,hf⟩
  ·rcases h.keys x hx with hx|hx|hx|hx|⟨hx,hf⟩
   ·exact .inl hx
   ·exact .inr (.inl (.inl hx))
   ·exact .inr (.inr (.inl (.inl hx)))
   ·exact .inr (.inr (.inr (.inl hx)))
   ·exact .inr (.inr (.inr (.inr ⟨hx,k.full hf⟩)))
  ·exact .inr (.inl (.inr hx))
  ·exact .inr (.inr (.inl (.inr hx)))
  ·exact .inr (.inr (.inr (.inl hx)))
  ·exact .inr (.inr (.inr (.inr ⟨hx,hf⟩)))
theorem fR.unfull{D:Dk}{C C':Ck}{m m':List UInt8}{p n:List Nat}(h:fR D C C' m m' p n)(hf:C'.full=false):C.full=false:=by
 cases hc:C.full with
 |false=>rfl
 |true=>rw [h.full hc] at hf;cases hf
theorem fR.put(D:Dk)(C:Ck)(m:List UInt8)(i:Nat)(b:List Value):fR D C (C.put i b) m m [i] [] where
 grew:=kZ.refl _ _
 full:=fun h=>by rw [qz];exact h
 look:=fun j h1 _ _ _=>zW C D i b j (fun e=>h1 (by rw [List.mem_singleton];omega))
 keys:=fun k hk=>((yI C i b k).1 hk).elim .inl (fun e=>.inr (.inl (by rw [e];simp)))
theorem QR.put{D:Dk}{C:Ck}{m:List UInt8}(h:QR D C m){i:Nat}(hi:i≠2)(b:List Value):QR D (C.put i b) m:=
 ⟨h.map.put i b hi,fun hf=>h.full (by rw [qz] at hf;exact hf),yt h.nodup i b⟩
theorem fR.taken{D:Dk}{C C':Ck}{m m':List UInt8}{pb nb:List Nat}(h:fR D C C' m m' pb nb){i:Nat}(b:List Value)(hi:i∈nb∨(i=0∧C'.full=true)):fR D C (C'.put i b) m m' pb nb where
 grew:=h.grew
 full:=fun hf=>by rw [qz];exact h.full hf
 look:=fun j h1 h2 h3 h4=>by
  rw [zW C' D i b j (fun e=>by rcases hi with hi|⟨hi,_⟩;exact h2 (by rw [show j=i from by omega];exact hi);omega)]
  exact h.look j h1 h2 h3 h4
 keys:=fun k hk=>by
  rw [qz]
  rcases (yI C' i b k).1 hk with hk|rfl
  ·exact h.keys k hk
  ·rcases hi with hi|⟨hi,hf⟩
   ·exact .inr (.inr (.inl hi))
   ·exact .inr (.inr (.inr (.inr ⟨hi,hf⟩)))
structure Vt (D:Dk) (C:Ck) (m:List UInt8) (ta:Nat) (C':Ck) (m':List UInt8) (nb:List Nat):Prop where
 chn:QR D C' m'
 stp:fR D C C' m m' [] nb
 len:nb.length≤1
 few:C'.ws.length≤C.ws.length+1
 is:(nb=[ta]∧21≤ta∧ta<D.bs.length∧C'.full=C.full)∨(nb=[]∧ta=0∧C'.full=true)
theorem Vt.mem{D:Dk}{C C':Ck}{m m':List UInt8}{ta:Nat}{nb:List Nat}(h:Vt D C m ta C' m' nb):ta∈nb∨(ta=0∧C'.full=true):=by
 rcases h.is with⟨rfl,_⟩|⟨_,h1,h2⟩
 ·exact .inl (by simp)
 ·exact .inr ⟨h1,h2⟩
theorem Vt.lt{D:Dk}{C C':Ck}{m m':List UInt8}{ta:Nat}{nb:List Nat}(h:Vt D C m ta C' m' nb)(hN:D.bs.length≤1000):ta<65536∧ta≠2:=by
 rcases h.is with⟨_,h1,h2,_⟩|⟨_,h1,_⟩
 ·omega
 ·omega
theorem vG{D:Dk}{C:Ck}{m:List UInt8}(h:QR D C m)(hN:D.bs.length≤1000):∃ta C' m' nb,C.take D.bs.length m=(ta,C',m')∧Vt D C m ta C' m' nb:=by
 rcases KC C hN h.map.len with⟨i,e,g⟩|⟨e,ha⟩
 ·refine⟨_,_,_,[i+21],e,⟨⟨?_,fun hf=>?_,yt h.nodup _ _⟩,⟨g,fun hf=>by rw [qz];exact hf,fun j _ _ h2 _=>zW C D 2 _ j (by omega),fun k hk=>?_⟩,by simp,qq _ _ _,.inl ⟨rfl,by omega,(g.fresh _ (by simp)).2.1,qz _ _ _⟩⟩⟩
  ·have:=h.map.take (N:=D.bs.length)
   rw [e] at this;exact this
  ·rw [qz] at hf
   exact fun i hi=>g.keeps (h.full hf i hi)
  ·rcases (yI C 2 _ k).1 hk with hk|hk
   ·exact .inl hk
   ·exact .inr (.inr (.inr (.inl hk)))
 ·refine⟨_,_,_,[],e,⟨⟨h.map,fun _=>ha,h.nodup⟩,⟨kZ.refl _ _,fun _=>rfl,fun _ _ _ _ _=>rfl,fun k hk=>.inl hk⟩,by simp,by simp,.inr ⟨rfl,rfl,rfl⟩⟩⟩
structure Uh (D:Dk) (C:Ck) (m:List UInt8) (at_ k:Nat) (es:List En) (f:Bool) (v:List Value) (C':Ck) (m':List UInt8) (nb:List Nat):Prop where
 chn:QR D C' m'
 stp:fR D C C' m m' [at_] nb
 len:nb.length≤if f then 1 else 0
 few:C'.ws.length≤C.ws.length+3
 one:f=false→es.length≤6∧v=qo∧nb=[]∧C'.look D at_=zl (za k es)
 two:f=true→6<es.length∧∃ta,ta<65536∧v=qp ⟨(es.getD (es.length/2) vX).pl,false,0,ta⟩∧(C'.full=false→nb=[ta]∧21≤ta∧C'.look D at_=zl (za k (es.take (es.length/2)))∧C'.look D ta=zl (za k (es.drop (es.length/2))))
theorem Zo{D:Dk}{C:Ck}{m:List UInt8}(h:QR D C m)(hN:D.bs.length≤1000)(at_ k:Nat)(hat:at_≠2)(hat1:21≤at_)(hatk:zO m (at_-21)=true)(es:List En):∃f v C' m' nb,C.more D.bs.length m at_ k es=(f,v,C',m')∧Uh D C m at_ k es f v C' m' nb:=by
 unfold Ck.more
 by_cases hl:es.length≤6
 ·rw [if_pos hl]
  exact⟨_,_,_,_,[],rfl,⟨h.put hat _,fR.put D C m at_ _,by simp,by have:=qq C at_ (zl (za k es));omega,fun _=>⟨hl,rfl,rfl,qg _ _ _ _⟩,fun h=>by cases h⟩⟩
 ·rw [if_neg hl]
  obtain⟨ta,C1,m1,nb,e,tk⟩:=vG h hN
  simp only [Ck.split,e]
  have hlt:=tk.lt hN
  have hne:at_∉nb:=tk.stp.grew.apart hatk
  have s1:=tk.stp.trans (fR.put D C1 m1 at_ (zl (za k (es.take (es.length/2)))))
  rw [List.nil_append,List.append_nil] at s1
  have s2:=s1.taken (i:=ta) (zl (za k (es.drop (es.length/2)))) (tk.mem.imp id (fun h=>⟨h.1,by rw [qz];exact h.2⟩))
  refine⟨_,_,_,_,nb,rfl,⟨(tk.chn.put hat _).put hlt.2 _,s2,by simpa using tk.len,?_,fun h=>(by cases h),fun _=>⟨by omega,ta,hlt.1,rfl,fun hf=>?_⟩⟩⟩
  ·have:=qq (C1.put at_ (zl (za k (es.take (es.length/2))))) ta (zl (za k (es.drop (es.length/2))))
   have:=qq C1 at_ (zl (za k (es.take (es.length/2))))
   have:=tk.few
   omega
  ·rw [qz,qz] at hf
   rcases tk.is with⟨rfl,h1,_⟩|⟨_,_,h1⟩
   ·refine⟨rfl,h1,?_,qg _ _ _ _⟩
    rw [zW _ _ _ _ _ (fun e=>hne (by rw [List.mem_singleton];omega)),qg]
   ·rw [h1] at hf;cases hf
end prog
namespace prog
open Go.ChangeShapes Go.WideShapes Go.ChangeAt Go.RowKit disk ref
open keys (ze zd zr zn)
def qd(D:Dk):List (Nat×List Value)→Bool×Dk
 |[]=>(true,D)
 |p::ws=>if D.writes p.1=true then qd (D.write p.1 p.2) ws else (false,D)
def yM(D:Dk)(h:List Value):Bool×Dk:=if D.writes 0=true then (!((D.write 0 h).fuse==0),(D.write 0 h).flush) else (false,D)
def xk:List Value:=zl (Pg.new 1)
def yT(r:Bool×Dk)(h:List Value):Bool×Dk:=if r.1=true∧r.2.fuse≠0 then yM r.2.flush h else (false,r.2)
def qC(D:Dk)(ws:List (Nat×List Value)):Bool×Dk:=yT (qd D ws) xk
def z8(ws:List (Nat×List Value)):List (Nat×List Value):=ws.mapIdx fun i p=>(3+i,p.2)
def zE(ws:List (Nat×List Value)):Pg:=⟨1,0,ws.map fun p=>bytesOf 2 p.1⟩
def qD(D:Dk)(ws:List (Nat×List Value)):Bool×Dk:=yT (qd D (z8 ws)) (zl (zE ws))
def zX(D:Dk)(ws:List (Nat×List Value)):Bool×Dk:=if (qD D ws).1=true then qC (qD D ws).2 ws else qD D ws
structure qK (w w':World) (bd:Nat) (S:Nat→Prop) (D:Dk):Prop where
 disk:∃S',zh w' bd S' D∧∀k,S' k→S k∨w.heap.size≤k
 kept:Kept S w w'
theorem qK.refl{w:World}{bd:Nat}{S:Nat→Prop}{D:Dk}(h:zh w bd S D):qK w w bd S D:=⟨⟨S,h,fun _ h=>.inl h⟩,Kept.refl _ _⟩
theorem qK.trans{w w1 w2:World}{bd:Nat}{S S1:Nat→Prop}{D D1:Dk}(hS:∀k,S1 k→S k∨w.heap.size≤k)(k1:Kept S w w1)(h:qK w1 w2 bd S1 D):qK w w2 bd S D:=by
 obtain⟨⟨S',h1,h2⟩,h3⟩:=h
 refine⟨⟨S',h1,fun k hk=>?_⟩,k1.trans h3 hS⟩
 rcases h2 k hk with h4|h4
 ·exact hS k h4
 ·exact .inr (Nat.le_trans k1.size h4)
theorem qK.kept0{w w1 w2:World}{bd:Nat}{S:Nat→Prop}{D:Dk}(k1:Kept (fun _=>False) w w1)(h:qK w1 w2 bd S D):qK w w2 bd S D:=qK.trans (D1:=D) iL (k1.mono fE) h
theorem xI{D:Dk}(a:Int)(b:List Value)(hf:zD D.fuse):zD (D.write a b).fuse:=by
 unfold Dk.write
 split
 ·show zD (qj D.fuse)
  unfold qj zD at*
  split<;>omega
 ·exact hf
theorem xJ{D:Dk}(hf:zD D.fuse):zD D.flush.fuse:=by
 unfold Dk.flush
 split
 ·exact hf
 ·show zD (qj D.fuse)
  unfold qj zD at*
  split<;>omega
theorem vH{D:Dk}(a:Int)(b:List Value):(D.write a b).ps.length≤D.ps.length+1:=by
 unfold Dk.write
 split<;>simp
section
attribute [local go_sem ↓] xD
theorem uO(w:World)(bd:Nat)(S:Nat→Prop)(D:Dk)(h:zh w bd S D)(b:List Value)(hb:zy b)(hfu:zD D.fuse)(hps:D.ps.length≤68719476736):
 Calls Tryz.prog 147 #[.pointer (some ⟨bd,0,none⟩),.agg b.toArray] w fun e w'=>e=.returned (.bool (yM D b).1)∧qK w w' bd S (yM D b).2:=by
 have HH:Hid (zh w bd S D):=h
 have HBO:Hid (zy b):=hb
 have hqb:=hb.1
 have HK1:Hid (Kept (fun _=>False) w (w.alloc (.cells b.toArray 154))):=Kept.alloc _ _ _
 have hr1:(vy (.pointer (some ⟨w.heap.size,0,none⟩))).run Tryz.prog (w.alloc (.cells b.toArray 154))=.ok (.agg b.toArray) (w.alloc (.cells b.toArray 154)):=yV _ _ _ b (zQ (heap_alloc_new w _)) hqb
 clear h hb
 cases hwr:D.writes 0 with
 |true=>
  have HWR:Hid _:=hwr
  go_enter Tryz.func147,Tryz.ntmps147
  go_wp2_with (first
   |(go_at_call 146;refine(yU _ bd S D (HH.out.kept HK1.out nF) 0 (by constructor<;>omega) b HBO.out hfu hps).mono ?_;rintro e w1 ⟨rfl,⟨S1,hd1,hS1⟩,hk1⟩;rw [HWR.out];have HD1:Hid (zh w1 bd S1 (D.write 0 b)):=hd1;have HS1:Hid _:=hS1;have HK2:Hid _:=hk1;clear hd1 hS1 hk1)
   |(go_at_call 40;refine(yc _ bd S1 _ HD1.out (xI _ _ hfu)).mono ?_;rintro e w2 ⟨rfl,⟨S2,hd2,hS2⟩,hk2⟩;have HD2:Hid (zh w2 bd S2 (D.write 0 b).flush):=hd2;have HS2:Hid _:=hS2;have HK3:Hid _:=hk2;clear hd2 hS2 hk2))
  go_ret
  have e1:yM D b=(!((D.write 0 b).fuse==0),(D.write 0 b).flush):=if_pos HWR.out
  rw [e1]
  have hS:∀k,S1 k→S k∨w.heap.size≤k:=fun k hk=>by
   rcases HS1.out k hk with h1|h1
   ·exact .inl h1
   ·right;have:=HK1.out.size;omega
  exact⟨rfl,⟨S2,HD2.out,fun k hk=>hS k (HS2.out k hk)⟩,((HK1.out.mono fE).trans HK2.out iL).trans HK3.out hS⟩
 |false=>
  have HWR:Hid _:=hwr
  go_enter Tryz.func147,Tryz.ntmps147
  go_wp2_with (go_at_call 146;refine(yU _ bd S D (HH.out.kept HK1.out nF) 0 (by constructor<;>omega) b HBO.out hfu hps).mono ?_;rintro e w1 ⟨rfl,⟨S1,hd1,hS1⟩,hk1⟩;rw [HWR.out];have HD1:Hid (zh w1 bd S1 (D.write 0 b)):=hd1;have HS1:Hid _:=hS1;have HK2:Hid _:=hk1;clear hd1 hS1 hk1)
  go_ret
  have e1:yM D b=(false,D):=if_neg (by rw [HWR.out];simp)
  have e2:D.write 0 b=D:=by
   have:=HWR.out
   unfold Dk.writes at this
   unfold Dk.write
   rw [if_neg (of_decide_eq_false this)]
  rw [e1]
  have hd:=HD1.out
  rw [e2] at hd
  refine⟨rfl,⟨S1,hd,fun k hk=>?_⟩,(HK1.out.mono fE).trans HK2.out iL⟩
  rcases HS1.out k hk with h1|h1
  ·exact .inl h1
  ·right;have:=HK1.out.size;omega
end
end prog
namespace prog
open Go.RowKit disk ref
def vd:Ck:=⟨[],false⟩
theorem yo(D:Dk)(i:Int):vd.look D i=D.look i:=jk rfl
theorem dD:qj (-1)= -1:=by decide
theorem fh{D:Dk}(hf:D.fuse= -1){i:Nat}(hi:i<D.bs.length)(b:List Value):D.writes (i:Int)=true∧D.write (i:Int) b={D with ps:=D.ps++[(i,b)]}:=by
 have h:0≤(i:Int)∧(i:Int)<D.bs.length∧D.fuse≠0:=⟨by omega,by omega,by omega⟩
 refine⟨by unfold Dk.writes;simpa using h,?_⟩
 unfold Dk.write
 rw [if_pos h,hf,dD,←hf]
 rfl
theorem jv{D:Dk}(hf:D.fuse= -1):D.flush={D with bs:=zj D.bs D.ps,ps:=[]}:=by
 unfold Dk.flush
 rw [if_neg (by omega),hf,dD,←hf]
theorem fi:∀(ws:List (Nat×List Value)) (D:Dk),D.fuse= -1→(∀p∈ws,p.1<D.bs.length)→qd D ws=(true,{D with ps:=D.ps++ws })
 |[],D,_,_=>by simp [qd]
 |p::ws,D,hf,h=>by
  obtain⟨h1,h2⟩:=fh hf (h p (List.mem_cons_self ..)) p.2
  unfold qd
  rw [if_pos h1,h2,fi ws {D with ps:=D.ps++[(p.1,p.2)]} hf (fun q hq=>h q (List.mem_cons_of_mem _ hq))]
  simp
theorem QS{D:Dk}(hf:D.fuse= -1)(hp:D.ps=[])(h0:0<D.bs.length)(b:List Value):yM D b=(true,{D with bs:=D.bs.set 0 b }):=by
 obtain⟨h1,h2⟩:=fh hf h0 b
 have h1':D.writes 0=true:=h1
 have h2':D.write 0 b={D with ps:=D.ps++[(0,b)]}:=h2
 unfold yM
 rw [if_pos h1',h2',jv (D:={D with ps:=D.ps++[(0,b)] }) hf,hp]
 have e:(!(D.fuse==0))=true:=by rw [hf];rfl
 show (!(D.fuse==0),_)=_
 rw [e]
 simp only [zj,List.nil_append,List.foldl_cons,List.foldl_nil]
theorem fj{D:Dk}(hf:D.fuse= -1)(hp:D.ps=[])(h0:0<D.bs.length)(ws:List (Nat×List Value))(h:∀p∈ws,p.1<D.bs.length)(b:List Value):yT (qd D ws) b=(true,{D with bs:=(zj D.bs ws).set 0 b }):=by
 rw [fi ws D hf h]
 unfold yT
 rw [if_pos ⟨rfl,by show D.fuse≠0;omega⟩,jv (D:={D with ps:=D.ps++ws }) hf,QS (D:={D with bs:=zj D.bs (D.ps++ws),ps:=[] }) hf rfl (by show 0<(zj _ _).length;rw [zB];exact h0)]
 rw [hp]
 simp
def vi(bs:List (List Value))(ws:List (Nat×List Value)):List (List Value):=(zj ((zj bs (z8 ws)).set 0 (zl (zE ws))) ws).set 0 xk
theorem xt(bs:List (List Value))(ws:List (Nat×List Value)):(vi bs ws).length=bs.length:=by unfold vi;rw [List.length_set,zB,List.length_set,zB]
theorem jR{ws:List (Nat×List Value)}(h:ws.length≤18):∀p∈z8 ws,3≤p.1∧p.1<21:=fun p hp=>by
 unfold z8 at hp
 obtain⟨i,hi,rfl⟩:=List.mem_mapIdx.1 hp
 simp
 omega
theorem QT{D:Dk}(hf:D.fuse= -1)(hp:D.ps=[])(h64:21≤D.bs.length){ws:List (Nat×List Value)}(h:∀p∈ws,p.1<D.bs.length)(h18:ws.length≤18):(qD D ws).1=true∧zX D ws=(true,{D with bs:=vi D.bs ws }):=by
 have h1:qD D ws=(true,{D with bs:=(zj D.bs (z8 ws)).set 0 (zl (zE ws)) }):=fj hf hp (by omega) _ (fun p hq=>by have:=jR h18 p hq;omega) _
 have h2:zX D ws=(true,{D with bs:=vi D.bs ws }):=by
  unfold zX
  rw [h1]
  have e1:((zj D.bs (z8 ws)).set 0 (zl (zE ws))).length=D.bs.length:=by rw [List.length_set,zB]
  exact fj (D:={D with bs:=(zj D.bs (z8 ws)).set 0 (zl (zE ws)) }) hf hp (by show 0<((zj _ _).set _ _).length;omega) ws (fun p hq=>by show p.1<((zj _ _).set _ _).length;have:=h p hq;omega) _
 exact⟨by rw [h1],h2⟩
theorem qZ{j:Nat}:∀(ws:List (Nat×List Value)) (bs:List (List Value)),j∉ws.map Prod.fst→(zj bs ws)[j]? =bs[j]?
 |[],_,_=>rfl
 |p::ws,bs,h=>by
  rw [List.map_cons,List.mem_cons,not_or] at h
  show (zj (bs.set p.1 p.2) ws)[j]? =_
  rw [qZ ws _ h.2,List.getElem?_set_ne (fun e=>h.1 e.symm)]
theorem xK{j:Nat}{b:List Value}:∀(ws:List (Nat×List Value)) (bs:List (List Value)),(ws.map Prod.fst).Nodup→(j,b)∈ws→j<bs.length→(zj bs ws)[j]? =some b
 |[],_,_,h,_=>nomatch h
 |p::ws,bs,hn,h,hj=>by
  rw [List.map_cons,List.nodup_cons] at hn
  show (zj (bs.set p.1 p.2) ws)[j]? =_
  rcases List.mem_cons.1 h with rfl|h
  ·rw [qZ ws _ hn.1,List.getElem?_set_self hj]
  ·exact xK ws _ hn.2 h (by rw [List.length_set];exact hj)
theorem Zp{D:Dk}(hp:D.ps=[]){C:Ck}(hn:C.keys.Nodup)(h18:C.ws.length≤18)(hk:∀k∈C.keys,k<D.bs.length){j:Nat}(h0:j≠0)(hj:j<3∨21≤j):Dk.look {D with bs:=vi D.bs C.ws} (j:Nat)=C.look D (j:Nat):=by
 have hlen:=xt D.bs C.ws
 by_cases hlt:j<D.bs.length
 ·have e1:Dk.look {D with bs:=vi D.bs C.ws} (j:Nat)=(vi D.bs C.ws).getD j []:=by
   unfold Dk.look
   rw [if_pos ⟨by omega,by show (j:Int)<(vi D.bs C.ws).length;omega⟩,hp]
   rfl
  have e2:D.look (j:Nat)=D.bs.getD j []:=by
   unfold Dk.look
   rw [if_pos ⟨by omega,by omega⟩,hp]
   rfl
  rw [e1]
  have e3:(vi D.bs C.ws)[j]? =(zj ((zj D.bs (z8 C.ws)).set 0 (zl (zE C.ws))) C.ws)[j]? :=by unfold vi;rw [List.getElem?_set_ne (fun e=>h0 e.symm)]
  rw [List.getD_eq_getElem?_getD,e3]
  cases hx:qH C.ws (j:Nat) with
  |none=>
   rw [jk hx,e2,List.getD_eq_getElem?_getD]
   have hm:j∉C.ws.map Prod.fst:=(uj (C:=C) [] hx).2
   rw [qZ _ _ hm,List.getElem?_set_ne (fun e=>h0 e.symm),qZ]
   intro hm2
   obtain⟨p,hp2,e⟩:=List.mem_map.1 hm2
   have:=jR h18 p hp2
   omega
  |some k=>
   obtain⟨hk2,e4,e5⟩:=yR (D:=D) hx
   rw [e4]
   have hmem:(j,C.ws[k].2)∈C.ws:=by
    have:(j,C.ws[k].2)=C.ws[k]:=by ext1<;>simp;omega
    rw [this];exact List.getElem_mem hk2
   rw [xK C.ws _ hn hmem (by rw [List.length_set,zB];exact hlt)]
   rfl
 ·have e1:Dk.look {D with bs:=vi D.bs C.ws} (j:Nat)=zT:=by
   unfold Dk.look
   rw [if_neg (fun h=>by have h2:(j:Int)<(vi D.bs C.ws).length:=h.2;omega)]
  have e2:D.look (j:Nat)=zT:=by
   unfold Dk.look
   rw [if_neg (fun h=>by have:=h.2;omega)]
  rw [e1]
  cases hx:qH C.ws (j:Nat) with
  |none=>rw [jk hx,e2]
  |some k=>
   obtain⟨hk2,e4,e5⟩:=yR (D:=D) hx
   have:=hk C.ws[k].1 (List.mem_map.2 ⟨_,List.getElem_mem hk2,rfl⟩)
   omega
theorem Zq{D:Dk}(hp:D.ps=[])(h0:0<D.bs.length)(ws:List (Nat×List Value)):Dk.look {D with bs:=vi D.bs ws} 0=xk:=by
 have hlen:=xt D.bs ws
 unfold Dk.look
 rw [if_pos ⟨by omega,by show (0:Int)<(vi D.bs ws).length;omega⟩,hp]
 show (vi D.bs ws).getD 0 []=_
 rw [List.getD_eq_getElem?_getD]
 unfold vi
 rw [List.getElem?_set_self (by rw [zB,List.length_set,zB];exact h0)]
 rfl
structure x5 (bc bd:Nat) (S T:Nat→Prop) (D:Dk) (C:Ck) (h at_:Nat) (e:En) (f:Bool) (v:List Value) (C':Ck):Prop where
 go:∀(w:World) (r:Int),0≤r→r+h≤4611686018427370000→Cw w bc bd S T {D with reads:=r} C→
  Calls Tryz.prog 137 #[.pointer (some ⟨bc,0,none⟩),.int .i64 at_,.agg (qp e).toArray] w fun x w'=>x=.returned (.tuple #[.agg v.toArray,.bool f])∧(∃(n:Int) (T':Nat→Prop),0≤n∧n≤(2*(h+1):Nat)∧Cw w' bc bd S T' {D with reads:=r+n} C'∧∀j,T' j→T j∨w.heap.size≤j)∧Kept (fun j=>j=bd∨T j) w w'
theorem x5.below{bc bd:Nat}{S T:Nat→Prop}{D:Dk}{C:Ck}{h at_:Nat}{e:En}{f:Bool}{v:List Value}{C':Ck}(k:x5 bc bd S T D C h at_ e f v C')(r:Int)(h0:0≤r)(h1:r+(h+1:Nat)≤4611686018427370000):
 Below bc bd S T {D with reads:=r} C at_ e (2*(h+1)) f v C':=
 ⟨fun w0 n0 a b hc=>k.go w0 (r+n0) (by omega) (by omega) hc⟩
structure Vu {h:Nat} (D:Dk) (t:Tr h) (e:En) (C C':Ck) (m m':List UInt8) (f:Bool) (v:List Value) (pb nb:List Nat):Prop where
 chn:QR D C' m'
 stp:fR D C C' m m' pb nb
 sub:∀j∈pb,j∈t.blocks
 pl:pb.length≤h+1
 nl:nb.length≤h+(if f then 1 else 0)
 few:C'.ws.length≤C.ws.length+3*(h+1)
 one:f=false→v=qo∧(C'.full=false→∃t',fe t e t'∧t'.LayV zl (fun j=>C'.look D (j:Nat))∧t'.blocks.Perm (t.blocks++nb))
 two:f=true→∃e1:En,v=qp e1∧e1.Ok∧(C'.full=false→∃t' u q,uN t e t' u q∧e1=⟨q,false,0,u.blk⟩∧t'.LayV zl (fun j=>C'.look D (j:Nat))∧u.LayV zl (fun j=>C'.look D (j:Nat))∧(t'.blocks++u.blocks).Perm (t.blocks++nb))
theorem YG{es:List En}(h:∀x∈es,x.Ok){i:Nat}(hi:i<es.length):(es.getD i vX).pl.Ok:=by
 rw [List.getD_eq_getElem?_getD,List.getElem?_eq_getElem hi]
 exact(h _ (List.getElem_mem hi)).pl
theorem JL(bc bd:Nat)(S T:Nat→Prop)(D:Dk)(hN:D.bs.length≤1000)(e:En)(he:e.Ok)(b:Nat)(es:List En)(C:Ck)(m:List UInt8)(g:Tr.Good (h:=0) (b,es))(h6:es.length≤6)(hs:yg es)
 (htk:21≤b∧zO m (b-21)=true) (hl:C.look D b=zl (za 5 es)) (hc:QR D C m) (hn:∀x∈es,x.pl≠e.pl) (hfew:C.ws.length<700):
 ∃f v C' m' pb nb,Vu (h:=0) D (b,es) e C C' m m' f v pb nb∧x5 bc bd S T D C 0 b e f v C':=by
 obtain⟨f,v,C',m',nb,hmo,mre⟩:=Zo hc hN b 5 (by omega) htk.1 htk.2 (yb e es)
 have hok:∀x∈yb e es,x.Ok:=YF g.2 he
 have hlen:=Zk e es
 refine⟨f,v,C',m',[b],nb,⟨mre.chn,mre.stp,fun j hj=>hj,by simp,by simpa using mre.len,by have:=mre.few;omega,fun hf=>?_,fun hf=>?_⟩,?_⟩
 ·obtain⟨h1,h2,h3,h4⟩:=mre.one hf
  exact⟨h2,fun _=>⟨(b,yb e es),JI g he h1,h4,by rw [h3];exact List.Perm.refl _⟩⟩
 ·obtain⟨h1,ta,h2,h3,h4⟩:=mre.two hf
  refine⟨_,h3,(YG hok (by omega)).en h2,fun hfull=>?_⟩
  obtain⟨h5,h6',h7,h8⟩:=h4 hfull
  refine⟨(b,(yb e es).take ((yb e es).length/2)),(ta,(yb e es).drop ((yb e es).length/2)),_,JJ g he h2 hs hn rfl (by omega) vX,rfl,h7,h8,by rw [h5];exact List.Perm.refl _⟩
 ·refine⟨fun w r h0 h1 hcw=>?_⟩
  refine(Zj w bc bd S T {D with reads:=r} C hcw m (by rw [zI];exact hc.map) h0 (by show r≤_;omega) b g.1 es g.2 h6 hs (by rw [zI];exact hl) e he hfew (yb e es) (hs.ins_at) f v C' m' hmo).mono ?_
  rintro x w' ⟨h1,⟨n,T',h2,h3,h4,h5⟩,h6⟩
  exact⟨h1,⟨n,T',h2,by simpa using h3,h4,h5⟩,h6⟩
theorem uk{α:Type}{A M B:List α}{b:α}(h:(b::(A++(M++B))).Nodup):b∉A∧b∉M∧b∉B∧A.Nodup∧M.Nodup∧B.Nodup∧(∀j∈A,j∉M)∧(∀j∈B,j∉M):=by
 rw [List.nodup_cons,List.nodup_append,List.nodup_append] at h
 obtain⟨h1,h2,⟨h3,h4,h5⟩,h6⟩:=h
 simp only [List.mem_append,not_or] at h1
 exact⟨h1.1,h1.2.1,h1.2.2,h2,h3,h4,fun j hj hm=>h6 j hj j (List.mem_append_left _ hm) rfl,fun j hj hm=>h5 j hm j hj rfl⟩
theorem ke{h:Nat}(A B:List (Pl×Tr h))(q:Pl)(tc:Tr h):((A++(q,tc)::B).map fun c=>(⟨c.1,false,0,c.2.blk⟩:En))=(A.map fun c=>(⟨c.1,false,0,c.2.blk⟩:En))++⟨q,false,0,tc.blk⟩::(B.map fun c=>(⟨c.1,false,0,c.2.blk⟩:En)):=by simp
theorem Vv{X Y:List En}{x:En}{i:Nat}(hi:i=X.length)(hlt:i<(X++x::Y).length):(X++x::Y)[i]=x:=by subst hi;simp
theorem K6{X Y:List En}{x y:En}{i:Nat}(hi:i=X.length):(X++x::Y).take (i+1)++y::(X++x::Y).drop (i+1)=X++x::y::Y:=by
 subst hi
 rw [List.take_length_add_append,List.drop_length_add_append];simp
theorem Zr(bc bd:Nat)(S T:Nat→Prop)(D:Dk)(hN:D.bs.length≤1000)(e:En)(he:e.Ok):∀(h:Nat) (t:Tr h) (C:Ck) (m:List UInt8),h≤100→t.Good→1≤t.items.length→t.items.length≤6→yg t.ents→t.blocks.Nodup→
 (∀j∈t.blocks,21≤j∧zO m (j-21)=true)→t.LayV zl (fun j=>C.look D (j:Nat))→QR D C m→(∃p,t.First p∧¬e.pl.lt p=true)→(∀x∈t.ents,x.pl≠e.pl)→C.ws.length+3*(h+1)<700→
 ∃f v C' m' pb nb,Vu D t e C C' m m' f v pb nb∧x5 bc bd S T D C h t.blk e f v C'
 |0,(b,es),C,m,_,g,_,h6,hs,_,htk,hl,hc,_,hn,hfew=>JL bc bd S T D hN e he b es C m g h6 hs (htk b (List.mem_singleton.2 rfl)) hl hc hn (by omega)
 |h+1,(b,cs),C,m,hh,g,h1,h6,hs,hnd,htk,hl,hc,hfirst,hn,hfew=>by
  have h1':1≤cs.length:=Nat.le_trans h1 (Nat.le_of_eq (zs b cs))
  have h6':cs.length≤6:=Nat.le_trans (Nat.le_of_eq (zs b cs).symm) h6
  have kk:Kids cs:=g.kids
  obtain⟨A,q,tc,B,rfl,hA,hAq,hB⟩:=kk.child (fun e0=>by rw [e0] at h1';simp at h1') e.pl
  obtain⟨m1,m2,m3,m4,m5,m6,m7⟩:=kk.mid
  have hmem:(q,tc)∈A++(q,tc)::B:=by simp
  have hq:¬e.pl.lt q=true:=by
   by_cases hA0:A=[]
   ·subst hA0
    obtain⟨p,⟨u,rr,hu⟩,hp⟩:=hfirst
    simp only [List.nil_append,List.cons.injEq,Prod.mk.injEq] at hu
    rw [hu.1.1];exact hp
   ·exact hAq hA0
  have hgc:=kk.good (q,tc) hmem
  have hfull:=g.full
  have hnd':(b::(zA A++(tc.blocks++zA B))).Nodup:=by
   have:(b::zA (A++(q,tc)::B)).Nodup:=hnd
   rw [ql,qt] at this;exact this
  obtain⟨n1,n2,n3,n4,n5,n6,n7,n8⟩:=uk hnd'
  have htk':∀j,j=b∨j∈zA (A++(q,tc)::B)→21≤j∧zO m (j-21)=true:=fun j hj=>htk j (by
   show j∈b::zA (A++(q,tc)::B)
   exact List.mem_cons.2 hj)
  have hs':yg (zJ A++(tc.ents++zJ B)):=by
   have:yg (zJ (A++(q,tc)::B)):=hs
   rw [zt,zo] at this;exact this
  have hsc:yg tc.ents:=(List.pairwise_append.1 (List.pairwise_append.1 hs').2.1).1
  have hl1:C.look D b=zl (za 4 ((A++(q,tc)::B).map fun c=>(⟨c.1,false,0,c.2.blk⟩:En))):=hl.1
  have hl2:∀c∈A++(q,tc)::B,c.2.LayV zl (fun j=>C.look D (j:Nat)):=hl.2
  obtain⟨f1,v1,C1,m1',pb,nb,R,K⟩:=Zr bc bd S T D hN e he h tc C m (by omega) hgc.1 (by have:=hfull (q,tc) hmem;simp only at this;omega) hgc.2.1 hsc n5
   (fun j hj=>htk' j (.inr (zU hmem hj))) (hl2 (q,tc) hmem) hc ⟨q,m5,hq⟩ (fun x hx=>hn x (by show x∈zJ (A++(q,tc)::B);exact j9 hmem hx)) (by omega)
  have hsrt:=kk.items_srt
  have hes:∀x∈(A++(q,tc)::B).map (fun c=>(⟨c.1,false,0,c.2.blk⟩:En)),x.Ok:=g.items_ok
  have hes4:∀x∈(A++(q,tc)::B).map (fun c=>(⟨c.1,false,0,c.2.blk⟩:En)),x.mark=false∧x.size=0:=fun x hx=>by
   obtain⟨c,_,rfl⟩:=List.mem_map.1 hx;exact⟨rfl,rfl⟩
  have hlen:((A++(q,tc)::B).map fun c=>(⟨c.1,false,0,c.2.blk⟩:En)).length=(A++(q,tc)::B).length:=by simp
  have hside:∀(C2:Ck) (m2:List UInt8) (pb2 nb2:List Nat),fR D C C2 m m2 pb2 nb2→(∀j∈pb2,j=b∨j∈tc.blocks)→∀c,c∈A∨c∈B→c.2.LayV zl (fun j=>C2.look D (j:Nat)):=fun C2 m2 pb2 nb2 st hp c hcm=>by
   have hcm':c∈A++(q,tc)::B:=by rcases hcm with h|h<;>simp [h]
   refine(hl2 c hcm').congr (fun j hj=>?_)
   have hjb:=htk' j (.inr (zU hcm' hj))
   refine st.look j (fun hjp=>?_) (st.grew.apart hjb.2) (by omega) (by omega)
   rcases hcm with hca|hcb
   ·rcases hp j hjp with rfl|hp
    ·exact n1 (zU hca hj)
    ·exact n7 j (zU hca hj) hp
   ·rcases hp j hjp with rfl|hp
    ·exact n3 (zU hcb hj)
    ·exact n8 j (zU hcb hj) hp
  have hbk:=htk' b (.inl rfl)
  generalize hES:((A++(q,tc)::B).map fun c=>(⟨c.1,false,0,c.2.blk⟩:En))=es at*
  have hES':es=(A.map fun c=>(⟨c.1,false,0,c.2.blk⟩:En))++⟨q,false,0,tc.blk⟩::(B.map fun c=>(⟨c.1,false,0,c.2.blk⟩:En)):=by rw [←hES];exact ke A B q tc
  have hcl:A.length<es.length:=by rw [hlen];simp
  have hat:es[A.length].at_=tc.blk:=by
   simp only [hES']
   rw [Vv (by simp)]
  cases f1 with
  |false=>
   obtain⟨rfl,hone⟩:=R.one rfl
   refine⟨false,qo,C1,m1',pb,nb,⟨R.chn,R.stp,fun j hj=>?_,by have:=R.pl;omega,by have:=R.nl;simp at this ⊢;omega,by have:=R.few;omega,fun _=>⟨rfl,fun hf=>?_⟩,fun h=>(by cases h)⟩,?_⟩
   ·show j∈b::zA (A++(q,tc)::B)
    exact List.mem_cons_of_mem _ (zU hmem (R.sub j hj))
   ·obtain⟨tc',tk,tl,tp⟩:=hone hf
    refine⟨(b,A++(q,tc')::B),QO g h6' hq hB tk,⟨?_,fun c hcm=>?_⟩,vE tp⟩
    ·show C1.look D b=zl (za 4 ((A++(q,tc')::B).map fun c=>(⟨c.1,false,0,c.2.blk⟩:En)))
     rw [ke,tk.blk,←hES',←hl1]
     exact R.stp.look b (fun hj=>n2 (R.sub b hj)) (R.stp.grew.apart hbk.2) (by omega) (by omega)
    ·have hcm:c∈A++(q,tc')::B:=hcm
     rcases List.mem_append.1 hcm with hca|hcb
     ·exact hside C1 m1' pb nb R.stp (fun j hj=>.inr (R.sub j hj)) c (.inl hca)
     ·rcases List.mem_cons.1 hcb with rfl|hcb
      ·exact tl
      ·exact hside C1 m1' pb nb R.stp (fun j hj=>.inr (R.sub j hj)) c (.inr hcb)
   ·refine⟨fun w r h0 hr hcw=>?_⟩
    have hrec:=K.below r h0 (by omega)
    rw [←hat] at hrec
    refine(Xq w bc bd S T {D with reads:=r} C hcw m (by rw [zI];exact hc.map) h0 (by show r≤_;omega) b g.1 es hes hes4 (by omega) hsrt (by rw [zI];exact hl1) e he (by omega) (2*(h+1)) C1 A.length hA.symm hcl hrec).mono ?_
    rintro x w' ⟨k1,⟨n,T',k2,k3,k4,k5⟩,k6⟩
    exact⟨k1,⟨n,T',k2,by omega,k4,k5⟩,k6⟩
  |true=>
   obtain⟨e1,rfl,he1,htwo⟩:=R.two rfl
   have hbk1:zO m1' (b-21)=true:=R.stp.grew.keeps hbk.2
   obtain⟨es',hes'⟩:∃es',es.take (A.length+1)++e1::es.drop (A.length+1)=es':=⟨_,rfl⟩
   have hlen':es'.length=es.length+1:=by rw [←hes'];simp;omega
   have hok':∀x∈es',x.Ok:=fun x hx=>by
    rw [←hes'] at hx
    rcases List.mem_append.1 hx with hx|hx
    ·exact hes x (List.mem_of_mem_take hx)
    ·rcases List.mem_cons.1 hx with rfl|hx
     ·exact he1
     ·exact hes x (List.mem_of_mem_drop hx)
   have hesM:es'=(A.map fun c=>(⟨c.1,false,0,c.2.blk⟩:En))++⟨q,false,0,tc.blk⟩::e1::(B.map fun c=>(⟨c.1,false,0,c.2.blk⟩:En)):=by
    rw [←hes',hES',K6 (by simp)]
   obtain⟨f,v,C',m',nb2,hmo,mre⟩:=Zo R.chn hN b 4 (by omega) hbk.1 hbk1 es'
   have st:=R.stp.trans mre.stp
   have hbM:∀j,j∈tc.blocks++nb→j≠b∧21≤j∧zO m1' (j-21)=true:=fun j hj=>by
    rcases List.mem_append.1 hj with hj|hj
    ·have:=htk' j (.inr (zU hmem hj))
     exact⟨fun e0=>n2 (e0▸hj),this.1,R.stp.grew.keeps this.2⟩
    ·have:=R.stp.grew.fresh j hj
     refine⟨fun e0=>R.stp.grew.apart hbk.2 (e0▸hj),this.1,?_⟩
     rw [R.stp.grew.taken,show j-21+21=j from by omega];simp [hj]
   have hkid:∀(u:Tr h),(∀j∈u.blocks,j∈tc.blocks++nb)→u.LayV zl (fun j=>C1.look D (j:Nat))→u.LayV zl (fun j=>C'.look D (j:Nat)):=fun u hu hlu=>hlu.congr (fun j hj=>by
    have:=hbM j (hu j hj)
    exact mre.stp.look j (by rw [List.mem_singleton];exact this.1) (mre.stp.grew.apart this.2.2) (by omega) (by omega))
   refine⟨f,v,C',m',pb++[b],nb++nb2,⟨mre.chn,st,fun j hj=>?_,by have:=R.pl;simp;omega,?_,by have:=R.few;have:=mre.few;omega,fun hf=>?_,fun hf=>?_⟩,?_⟩
   ·show j∈b::zA (A++(q,tc)::B)
    rcases List.mem_append.1 hj with hj|hj
    ·exact List.mem_cons_of_mem _ (zU hmem (R.sub j hj))
    ·rw [List.mem_singleton.1 hj];exact List.mem_cons_self ..
   ·have e1:=R.nl
    simp at e1
    simp only [List.length_append]
    cases f with
    |false=>have e2:nb2.length≤0:=mre.len;show nb.length+nb2.length≤h+1+0;omega
    |true=>have e2:nb2.length≤1:=mre.len;show nb.length+nb2.length≤h+1+1;omega
   ·obtain⟨k1,k2,k3,k4⟩:=mre.one hf
    refine⟨k2,fun hfu=>?_⟩
    obtain⟨tc',uc,q1,tk,he1q,tl,ul,tp⟩:=htwo (mre.stp.unfull hfu)
    have hit:es'=((A++(q,tc')::(q1,uc)::B).map fun c=>(⟨c.1,false,0,c.2.blk⟩:En)):=by rw [hesM,he1q,ke,tk.blk];simp
    refine⟨(b,A++(q,tc')::(q1,uc)::B),QP g (by omega) hq hB tk,⟨?_,fun c hcm=>?_⟩,?_⟩
    ·show C'.look D b=zl (za 4 ((A++(q,tc')::(q1,uc)::B).map fun c=>(⟨c.1,false,0,c.2.blk⟩:En)))
     rw [k4,hit]
    ·have hcm:c∈A++(q,tc')::(q1,uc)::B:=hcm
     have hp:∀j∈pb++[b],j=b∨j∈tc.blocks:=fun j hj=>by
      rcases List.mem_append.1 hj with hj|hj
      ·exact .inr (R.sub j hj)
      ·exact .inl (List.mem_singleton.1 hj)
     rcases List.mem_append.1 hcm with hca|hcb
     ·exact hside C' m' _ _ st hp c (.inl hca)
     ·rcases List.mem_cons.1 hcb with rfl|hcb
      ·exact hkid tc' (fun j hj=>tp.mem_iff.1 (List.mem_append_left _ hj)) tl
      ·rcases List.mem_cons.1 hcb with rfl|hcb
       ·exact hkid uc (fun j hj=>tp.mem_iff.1 (List.mem_append_right _ hj)) ul
       ·exact hside C' m' _ _ st hp c (.inr hcb)
    ·rw [k3,List.append_nil]
     exact xZ tp
   ·obtain⟨k1,ta,k2,k3,k4⟩:=mre.two hf
    refine⟨_,k3,(YG hok' (by omega)).en k2,fun hfu=>?_⟩
    obtain⟨k5,k6,k7,k8⟩:=k4 hfu
    obtain⟨tc',uc,q1,tk,he1q,tl,ul,tp⟩:=htwo (mre.stp.unfull hfu)
    obtain⟨cs',hcs'⟩:∃cs',A++(q,tc')::(q1,uc)::B=cs':=⟨_,rfl⟩
    have hit:es'=(cs'.map fun c=>(⟨c.1,false,0,c.2.blk⟩:En)):=by rw [hesM,he1q,←hcs',ke,tk.blk];simp
    have hl7:es'.length=7:=by omega
    have hl7c:cs'.length=7:=by rw [hit] at hl7;simpa using hl7
    have hl6c:(A++(q,tc)::B).length=6:=by omega
    have hq3:(cs'.map Prod.fst)[3]? =some (es'.getD (es'.length/2) vX).pl:=by
     rw [hl7,hit,List.getD_eq_getElem?_getD,List.getElem?_map,List.getElem?_map,List.getElem?_eq_getElem (by omega)]
     rfl
    have hall:∀c∈cs',c.2.LayV zl (fun j=>C'.look D (j:Nat)):=fun c hcm=>by
     rw [←hcs'] at hcm
     have hp:∀j∈pb++[b],j=b∨j∈tc.blocks:=fun j hj=>by
      rcases List.mem_append.1 hj with hj|hj
      ·exact .inr (R.sub j hj)
      ·exact .inl (List.mem_singleton.1 hj)
     rcases List.mem_append.1 hcm with hca|hcb
     ·exact hside C' m' _ _ st hp c (.inl hca)
     ·rcases List.mem_cons.1 hcb with rfl|hcb
      ·exact hkid tc' (fun j hj=>tp.mem_iff.1 (List.mem_append_left _ hj)) tl
      ·rcases List.mem_cons.1 hcb with rfl|hcb
       ·exact hkid uc (fun j hj=>tp.mem_iff.1 (List.mem_append_right _ hj)) ul
       ·exact hside C' m' _ _ st hp c (.inr hcb)
    rw [hl7] at k7 k8
    refine⟨(b,cs'.take 3),(ta,cs'.drop 3),_,QQ g hl6c k2 hq hB tk cs' hcs' _ hq3,rfl,⟨?_,fun c hcm=>hall c (List.mem_of_mem_take hcm)⟩,⟨?_,fun c hcm=>hall c (List.mem_of_mem_drop hcm)⟩,?_⟩
    ·show C'.look D b=zl (za 4 ((cs'.take 3).map fun c=>(⟨c.1,false,0,c.2.blk⟩:En)))
     rw [k7,hit,List.map_take]
    ·show C'.look D ta=zl (za 4 ((cs'.drop 3).map fun c=>(⟨c.1,false,0,c.2.blk⟩:En)))
     rw [k8,hit,List.map_drop]
    ·rw [k5]
     refine vF ?_ 3
     rw [←hcs']
     exact xZ tp
   ·refine⟨fun w r h0 hr hcw=>?_⟩
    have hrec:=K.below r h0 (by omega)
    rw [←hat] at hrec
    refine(QN w bc bd S T {D with reads:=r} C hcw m (by rw [zI];exact hc.map) h0 (2*(h+1)) (by omega) (by show r≤_;omega) b g.1 es hes hes4 (by omega) hsrt (by rw [zI];exact hl1) e he (by omega) C1 m1' (by rw [zI];exact R.chn.map) (by have:=R.few;omega) A.length hA.symm hcl e1 he1 hrec es' hes' f v C' m' hmo).mono ?_
    rintro x w' ⟨k1,⟨n,T',k2,k3,k4,k5⟩,k6⟩
    exact⟨k1,⟨n,T',k2,by omega,k4,k5⟩,k6⟩
end prog
namespace prog
open Go.ChangeShapes Go.WideShapes Go.ChangeAt Go.RowKit disk ref
open keys (ze zd zr zn)
theorem zH.of_block{w:World}{g:Nat}{t:TypeId}{es:List En}{P:Nat→Prop}(h:w.heap[g]? =some (.cells (zf es).toArray t (0,0)))(hP:P g)(hl:es.length≤1000):zH w P (some ⟨g,0,none⟩) es:=by
 refine⟨.inr ⟨g,0,rfl,hP,(lT h),fun k hk=>?_⟩,hl⟩
 intro j v hv
 have h5:∀b∈es.map qp,b.length=5:=fun b hb=>by obtain⟨e,_,rfl⟩:=List.mem_map.1 hb;rfl
 have hj:j<5:=by have:=(List.getElem?_eq_some_iff.1 hv).1;simpa [qp] using this
 have e1:=Yo 5 (es.map qp) h5 k (by simpa using hk)
 rw [cell_of_row w g (0+k*5+j) _ _ _ h]
 have e2:((es.map qp).flatten.drop (k*5))[j]? =some v:=by
  have:(((es.map qp).flatten.drop (k*5)).take 5)[j]? =some v:=by rw [e1];simpa using hv
  rw [List.getElem?_take,if_pos hj] at this
  exact this
 rw [List.getElem?_drop] at e2
 rw [Nat.zero_add]
 simpa [zf] using e2
theorem QU(w:World)(bc bd:Nat)(S T:Nat→Prop)(D:Dk)(C:Ck)(h:Cw w bc bd S T D C)(m:List UInt8)(hm:qn (C.look D 2) m)(hr0:0≤D.reads)(hr1:D.reads≤4611686018427380000)(e:En)(he:e.Ok)(hfew:C.ws.length<700)(ta:Nat)(tC:Ck)(tm:List UInt8)(htk:C.take D.bs.length m=(ta,tC,tm)):
 Calls Tryz.prog 76 #[.pointer (some ⟨bc,0,none⟩),.int .i64 0,.agg (qp e).toArray] w fun r w'=>r=.returned (.int .i64 (ta:Int))∧(∃(n:Int) (T':Nat→Prop),0≤n∧n≤1∧Cw w' bc bd S T' {D with reads:=D.reads+n} (tC.put ta (zl (za 5 [e])))∧∀j,T' j→T j∨w.heap.size≤j)∧Kept (fun j=>j=bd∨T j) w w':=by
 have HH:Hid _:=h
 have HM:Hid _:=hm
 have HE:Hid e.Ok:=he
 have HTK:Hid (C.take D.bs.length m=(ta,tC,tm)):=htk
 clear h hm he htk
 have hbd:bd<w.heap.size:=HH.out.disk.lt bd HH.out.disk.bdS
 have HTL:Hid (∀j,T j→j<w.heap.size):=HH.out.chg.lt
 unfold qp
 go_enter Tryz.func76,Tryz.ntmps76
 go_wp2_with fail
 have HK0:Hid (Kept (fun _=>False) w ((w.alloc (.cells #[.string e.pl.key,.int .i64 e.pl.num,.bool e.mark,.int .i64 (e.size:Int),.int .i64 (e.at_:Int)] 109)).alloc (.cells #[.string e.pl.key,.int .i64 e.pl.num,.bool e.mark,.int .i64 (e.size:Int),.int .i64 (e.at_:Int)] 109))):=Kept.alloc2 _ _ _
 have HB:Hid (((w.alloc (.cells #[.string e.pl.key,.int .i64 e.pl.num,.bool e.mark,.int .i64 (e.size:Int),.int .i64 (e.at_:Int)] 109)).alloc (.cells #[.string e.pl.key,.int .i64 e.pl.num,.bool e.mark,.int .i64 (e.size:Int),.int .i64 (e.at_:Int)] 109)).heap[w.heap.size+1]? =some (.cells (zf [e]).toArray 109 (0,0))):=heap_alloc2_new w _ _
 have hsW:((w.alloc (.cells #[.string e.pl.key,.int .i64 e.pl.num,.bool e.mark,.int .i64 (e.size:Int),.int .i64 (e.at_:Int)] 109)).alloc (.cells #[.string e.pl.key,.int .i64 e.pl.num,.bool e.mark,.int .i64 (e.size:Int),.int .i64 (e.at_:Int)] 109)).heap.size=w.heap.size+2:=by simp
 generalize ((w.alloc (.cells #[.string e.pl.key,.int .i64 e.pl.num,.bool e.mark,.int .i64 (e.size:Int),.int .i64 (e.at_:Int)] 109)).alloc (.cells #[.string e.pl.key,.int .i64 e.pl.num,.bool e.mark,.int .i64 (e.size:Int),.int .i64 (e.at_:Int)] 109))=W at*
 refine(Zi W bc bd S T D C (HH.out.kept0 HK0.out) m HM.out hr0 (by omega) (fun j=>j=w.heap.size+1) (fun j hj hT=>by have:=HTL.out j hT;omega) (fun j hj e0=>by omega) (some ⟨w.heap.size+1,0,none⟩) 1 5 (.inr rfl) [e] 1 rfl (zH.of_block HB.out rfl (by simp)) (fun x hx=>by rw [List.mem_singleton.1 hx];exact HE.out) (by simp) (by omega) ta tC tm HTK.out).mono ?_
 rintro r w1 ⟨rfl,⟨n1,T1,hn0,hn1,hc1,hT1⟩,hk1⟩
 have HC1:Hid _:=hc1
 have HT1:Hid _:=hT1
 have HK1:Hid (Kept (fun j=>j=bd∨T j) W w1):=hk1
 clear hc1 hT1 hk1
 go_wp2
 go_ret
 exact⟨rfl,⟨n1,T1,hn0,hn1,HC1.out,fun j hj=>(HT1.out j hj).imp id (fun h=>by omega)⟩,(HK0.out.mono fE).trans HK1.out iL⟩
theorem fk(w:World)(bc bd:Nat)(S T:Nat→Prop)(D:Dk)(C:Ck)(r:Int)(h:Cw w bc bd S T {D with reads:=r} C)(hr0:0≤r)(e:En)(hh root:Nat)(hroot:root≠0)(hr1:r+hh≤4611686018427370000)(C':Ck)(hI:x5 bc bd S T D C hh root e false qo C'):
 Calls Tryz.prog 76 #[.pointer (some ⟨bc,0,none⟩),.int .i64 root,.agg (qp e).toArray] w fun x w'=>x=.returned (.int .i64 (root:Int))∧(∃(n:Int) (T':Nat→Prop),0≤n∧n≤(2*(hh+1):Nat)∧Cw w' bc bd S T' {D with reads:=r+n} C'∧∀j,T' j→T j∨w.heap.size≤j)∧Kept (fun j=>j=bd∨T j) w w':=by
 have HH:Hid _:=h
 have HI:Hid (x5 bc bd S T D C hh root e false qo C'):=hI
 clear h hI
 have hbd:bd<w.heap.size:=HH.out.disk.lt bd HH.out.disk.bdS
 have HTL:Hid (∀j,T j→j<w.heap.size):=HH.out.chg.lt
 have hz:((root:Int)==0)=false:=by simp;omega
 unfold qp
 go_enter Tryz.func76,Tryz.ntmps76
 go_wp2_with fail
 have HK0:Hid (Kept (fun _=>False) w (w.alloc (.cells #[.string e.pl.key,.int .i64 e.pl.num,.bool e.mark,.int .i64 (e.size:Int),.int .i64 (e.at_:Int)] 109))):=Kept.alloc _ _ _
 have hsW:(w.alloc (.cells #[.string e.pl.key,.int .i64 e.pl.num,.bool e.mark,.int .i64 (e.size:Int),.int .i64 (e.at_:Int)] 109)).heap.size=w.heap.size+1:=by simp
 generalize (w.alloc (.cells #[.string e.pl.key,.int .i64 e.pl.num,.bool e.mark,.int .i64 (e.size:Int),.int .i64 (e.at_:Int)] 109))=W at*
 refine(HI.out.go W r hr0 hr1 (HH.out.kept0 HK0.out)).mono ?_
 rintro x w1 ⟨rfl,⟨n1,T1,hn0,hn1,hc1,hT1⟩,hk1⟩
 have HC1:Hid _:=hc1
 have HT1:Hid _:=hT1
 have HK1:Hid (Kept (fun j=>j=bd∨T j) W w1):=hk1
 clear hc1 hT1 hk1
 unfold qo
 go_wp2
 go_ret
 have hk2:=Kept.alloc (fun _=>False) w1 (.cells #[.string ⟨#[]⟩,.int .i64 0,.bool false,.int .i64 0,.int .i64 0] 109)
 exact⟨rfl,⟨n1,T1,hn0,hn1,HC1.out.kept0 hk2,fun j hj=>(HT1.out j hj).imp id (fun h=>by omega)⟩,((HK0.out.mono fE).trans HK1.out iL).trans hk2 fE⟩
theorem uX(w:World)(bc bd:Nat)(S T:Nat→Prop)(D:Dk)(C:Ck)(r:Int)(h:Cw w bc bd S T {D with reads:=r} C)(hr0:0≤r)(e:En)(hh root:Nat)(hroot:root≠0)(hroot2:root<65536)(hh100:hh≤100)(hr1:r+hh≤4611686018427370000)(C1:Ck)(e1:En)(he1:e1.Ok)(hI:x5 bc bd S T D C hh root e true (qp e1) C1)(m:List UInt8)(hm:qn (C1.look D 2) m)(hfew:C1.ws.length<700)(ta:Nat)(tC:Ck)(tm:List UInt8)(htk:C1.take D.bs.length m=(ta,tC,tm)):
 Calls Tryz.prog 76 #[.pointer (some ⟨bc,0,none⟩),.int .i64 root,.agg (qp e).toArray] w fun x w'=>x=.returned (.int .i64 (ta:Int))∧(∃(n:Int) (T':Nat→Prop),0≤n∧n≤(2*(hh+1)+1:Nat)∧Cw w' bc bd S T' {D with reads:=r+n} (tC.put ta (zl (za 4 [⟨qQ,false,0,root⟩,e1])))∧∀j,T' j→T j∨w.heap.size≤j)∧Kept (fun j=>j=bd∨T j) w w':=by
 have HH:Hid _:=h
 have HI:Hid (x5 bc bd S T D C hh root e true (qp e1) C1):=hI
 have HM:Hid _:=hm
 have HE1:Hid e1.Ok:=he1
 have HTK:Hid (C1.take D.bs.length m=(ta,tC,tm)):=htk
 clear h hI hm he1 htk
 have hbd:bd<w.heap.size:=HH.out.disk.lt bd HH.out.disk.bdS
 have HTL:Hid (∀j,T j→j<w.heap.size):=HH.out.chg.lt
 have hz:((root:Int)==0)=false:=by simp;omega
 unfold qp
 go_enter Tryz.func76,Tryz.ntmps76
 go_wp2_with fail
 have HK0:Hid (Kept (fun _=>False) w (w.alloc (.cells #[.string e.pl.key,.int .i64 e.pl.num,.bool e.mark,.int .i64 (e.size:Int),.int .i64 (e.at_:Int)] 109))):=Kept.alloc _ _ _
 have hsW:(w.alloc (.cells #[.string e.pl.key,.int .i64 e.pl.num,.bool e.mark,.int .i64 (e.size:Int),.int .i64 (e.at_:Int)] 109)).heap.size=w.heap.size+1:=by simp
 generalize (w.alloc (.cells #[.string e.pl.key,.int .i64 e.pl.num,.bool e.mark,.int .i64 (e.size:Int),.int .i64 (e.at_:Int)] 109))=W at*
 refine(HI.out.go W r hr0 hr1 (HH.out.kept0 HK0.out)).mono ?_
 rintro x w1 ⟨rfl,⟨n1,T1,hn0,hn1,hc1,hT1⟩,hk1⟩
 have HC1:Hid _:=hc1
 have HT1:Hid _:=hT1
 have HK1:Hid (Kept (fun j=>j=bd∨T j) W w1):=hk1
 clear hc1 hT1 hk1
 unfold qp
 go_wp2_with fail
 have HK2:Hid (Kept (fun _=>False) w1 ((w1.alloc (.cells #[.string e1.pl.key,.int .i64 e1.pl.num,.bool e1.mark,.int .i64 (e1.size:Int),.int .i64 (e1.at_:Int)] 109)).alloc (.cells #[.string ⟨#[]⟩,.int .i64 0,.bool false,.int .i64 0,.int .i64 (root:Int),.string e1.pl.key,.int .i64 e1.pl.num,.bool e1.mark,.int .i64 (e1.size:Int),.int .i64 (e1.at_:Int)] 109))):=Kept.alloc2 _ _ _
 have HB:Hid (((w1.alloc (.cells #[.string e1.pl.key,.int .i64 e1.pl.num,.bool e1.mark,.int .i64 (e1.size:Int),.int .i64 (e1.at_:Int)] 109)).alloc (.cells #[.string ⟨#[]⟩,.int .i64 0,.bool false,.int .i64 0,.int .i64 (root:Int),.string e1.pl.key,.int .i64 e1.pl.num,.bool e1.mark,.int .i64 (e1.size:Int),.int .i64 (e1.at_:Int)] 109)).heap[w1.heap.size+1]? =some (.cells (zf [⟨qQ,false,0,root⟩,e1]).toArray 109 (0,0))):=heap_alloc2_new w1 _ _
 have hsV:((w1.alloc (.cells #[.string e1.pl.key,.int .i64 e1.pl.num,.bool e1.mark,.int .i64 (e1.size:Int),.int .i64 (e1.at_:Int)] 109)).alloc (.cells #[.string ⟨#[]⟩,.int .i64 0,.bool false,.int .i64 0,.int .i64 (root:Int),.string e1.pl.key,.int .i64 e1.pl.num,.bool e1.mark,.int .i64 (e1.size:Int),.int .i64 (e1.at_:Int)] 109)).heap.size=w1.heap.size+2:=by simp
 generalize ((w1.alloc (.cells #[.string e1.pl.key,.int .i64 e1.pl.num,.bool e1.mark,.int .i64 (e1.size:Int),.int .i64 (e1.at_:Int)] 109)).alloc (.cells #[.string ⟨#[]⟩,.int .i64 0,.bool false,.int .i64 0,.int .i64 (root:Int),.string e1.pl.key,.int .i64 e1.pl.num,.bool e1.mark,.int .i64 (e1.size:Int),.int .i64 (e1.at_:Int)] 109))=V at*
 have hsz1:=HK1.out.size
 have HT1L:Hid (∀j,T1 j→j<w1.heap.size):=HC1.out.chg.lt
 have HMM:Hid (qn (C1.look {D with reads:=r+n1} 2) m):=by show qn _ _;rw [zI];exact HM.out
 refine(Zi V bc bd S T1 _ C1 (HC1.out.kept0 HK2.out) m HMM.out (by show 0≤r+n1;omega) (by show r+n1≤_;omega) (fun j=>j=w1.heap.size+1) (fun j hj hT=>by have:=HT1L.out j hT;omega) (fun j hj e0=>by omega) (some ⟨w1.heap.size+1,0,none⟩) 2 4 (.inl rfl) [⟨qQ,false,0,root⟩,e1] 2 rfl (zH.of_block HB.out rfl (by simp)) (fun x hx=>by
  rcases List.mem_cons.1 hx with rfl|hx
  ·exact⟨by simp [qQ],by simp [qQ],by simp [qQ],by simp [qQ],by simp,by simp,hroot2⟩
  ·rw [List.mem_singleton.1 hx];exact HE1.out) (by simp) (by omega) ta tC tm HTK.out).mono ?_
 rintro x w3 ⟨rfl,⟨n3,T3,hn30,hn31,hc3,hT3⟩,hk3⟩
 have HC3:Hid _:=hc3
 have HT3:Hid _:=hT3
 have HK3:Hid (Kept (fun j=>j=bd∨T1 j) V w3):=hk3
 clear hc3 hT3 hk3
 go_wp2
 go_ret
 refine⟨rfl,⟨n1+n3,T3,by omega,by omega,?_,fun j hj=>?_⟩,?_⟩
 ·have:=HC3.out
  simp only [Int.add_assoc] at this
  exact this
 ·rcases HT3.out j hj with h1|h1
  ·exact(HT1.out j h1).imp id (fun h=>by omega)
  ·exact .inr (by omega)
 ·have k1:Kept (fun j=>j=bd∨T j) w V:=((HK0.out.mono fE).trans HK1.out iL).trans HK2.out fE
  exact k1.trans HK3.out (fun j hj=>by
   rcases hj with h1|h1
   ·exact .inl (.inl h1)
   ·rcases HT1.out j h1 with h2|h2
    ·exact .inl (.inr h2)
    ·exact .inr (by omega))
end prog
namespace prog
open Go.RowKit disk ref
def ya(rd:Nat→List Value)(root:Nat)(es:List En)(bs:List Nat):Prop:=
 (root=0∧es=[]∧bs=[])∨∃(h:Nat) (t:Tr h),t.Root∧t.LayV zl rd∧t.blk=root∧t.ents=es∧t.blocks=bs
theorem fe.root{h:Nat}{t t':Tr h}{e:En}(k:fe t e t')(r:t.Root)(hn:∀x∈t.ents,x.pl≠e.pl):t'.Root where
 good:=k.good
 hi:=k.hi
 one:=Nat.le_trans r.one k.lo
 two:=fun h=>Nat.le_trans (r.two h) k.lo
 first:=k.first _ r.first
 srt:=by rw [k.ents];exact r.srt.ins hn
theorem KD:qQ.Ok:=⟨by simp [qQ],by simp [qQ],by simp [qQ],by simp [qQ]⟩
theorem uN.root{h:Nat}{t t' u:Tr h}{e:En}{q:Pl}(k:uN t e t' u q)(r:t.Root)(hn:∀x∈t.ents,x.pl≠e.pl)(hlow:∀x∈yb e t.ents,¬x.pl.lt qQ=true){ta:Nat}(hta:ta<65536):
 Tr.Root (h:=h+1) (ta,[(qQ,t'),(q,u)]):=by
 have e0:zJ [(qQ,t'),(q,u)]=yb e t.ents:=by rw [←k.ents];simp [zJ]
 have hl:∀x∈t'.ents,¬x.pl.lt qQ=true:=fun x hx=>hlow x (by rw [←k.ents];exact List.mem_append_left _ hx)
 obtain⟨x,hx⟩:=k.good.some_ent (by have:=k.lo;omega)
 have hpq:qQ.lt q=true:=Pl.lt_of_not (hl x hx) (k.left x hx)
 have ku:Kids [(q,u)]:=Kids.nil.cons k.goodu k.hiu k.qok k.firstu k.right (fun _ h=>nomatch h) (fun _ h=>nomatch h)
 have kk:Kids [(qQ,t'),(q,u)]:=ku.cons k.good k.hi KD (k.first _ r.first) hl (fun b hb=>by rw [List.mem_singleton.1 hb];exact hpq) (fun b hb=>by rw [List.mem_singleton.1 hb];exact k.left)
 refine⟨kk.node (fun c hc=>?_) hta,?_,?_,fun _=>?_,⟨t',[(q,u)],rfl⟩,?_⟩
 ·rcases List.mem_cons.1 hc with rfl|hc
  ·exact k.lo
  ·rw [List.mem_singleton.1 hc];exact k.lou
 ·exact Nat.le_trans (Nat.le_of_eq (zs _ _)) (by simp)
 ·exact Nat.le_trans (by simp) (Nat.le_of_eq (zs _ _).symm)
 ·exact Nat.le_trans (by simp) (Nat.le_of_eq (zs _ _).symm)
 ·show yg (zJ [(qQ,t'),(q,u)])
  rw [e0];exact r.srt.ins hn
theorem Xr{e:En}(he:e.Ok){ta:Nat}(hta:ta<65536):Tr.Root (h:=0) (ta,[e]) where
 good:=⟨hta,fun x hx=>by rw [List.mem_singleton.1 hx];exact he⟩
 hi:=by show 1≤6;omega
 one:=by show 1≤1;omega
 two:=fun h=>by omega
 first:=trivial
 srt:=List.pairwise_singleton _ _
structure vI (D:Dk) (C C':Ck) (m m':List UInt8) (root':Nat) (e:En) (es:List En) (bs pb nb:List Nat):Prop where
 chn:QR D C' m'
 stp:fR D C C' m m' pb nb
 sub:∀j∈pb,j∈bs
 nl:nb.length≤bs.length+1
 few:C'.ws.length≤C.ws.length+100
 tree:C'.full=false→∃bs',ya (fun j=>C'.look D (j:Nat)) root' (yb e es) bs'∧bs'.Perm (bs++nb)∧∃h,pb.length+nb.length≤2*h+1∧3^h≤bs'.length
 lt:root'<65536
structure QV (bc bd:Nat) (S T:Nat→Prop) (D:Dk) (C:Ck) (root:Nat) (e:En) (root':Nat) (C':Ck):Prop where
 go:∀(w:World) (r:Int),0≤r→r≤4611686018427360000→Cw w bc bd S T {D with reads:=r} C→
  Calls Tryz.prog 76 #[.pointer (some ⟨bc,0,none⟩),.int .i64 root,.agg (qp e).toArray] w fun x w'=>x=.returned (.int .i64 (root':Int))∧(∃(n:Int) (T':Nat→Prop),0≤n∧n≤15∧Cw w' bc bd S T' {D with reads:=r+n} C'∧∀j,T' j→T j∨w.heap.size≤j)∧Kept (fun j=>j=bd∨T j) w w'
theorem Zs(bc bd:Nat)(S T:Nat→Prop)(D:Dk)(hN:D.bs.length≤1000)(e:En)(he:e.Ok)(helow:¬e.pl.lt qQ=true)(C:Ck)(m:List UInt8)(root:Nat)(es:List En)(bs:List Nat)(hF:ya (fun j=>C.look D (j:Nat)) root es bs)(hnd:bs.Nodup)
 (htk:∀j∈bs,21≤j∧zO m (j-21)=true) (hbl:bs.length≤979) (hc:QR D C m) (hlow:∀x∈es,¬x.pl.lt qQ=true) (hn:∀x∈es,x.pl≠e.pl) (hfew:C.ws.length<500):
 ∃root' C' m' pb nb,vI D C C' m m' root' e es bs pb nb∧QV bc bd S T D C root e root' C':=by
 rcases hF with⟨rfl,rfl,rfl⟩|⟨h,t,hr,hl,rfl,rfl,rfl⟩
 ·obtain⟨ta,tC,tm,nb,htk,tkn⟩:=vG hc hN
  have hlt:=tkn.lt hN
  refine⟨ta,tC.put ta (zl (za 5 [e])),tm,[],nb,⟨tkn.chn.put hlt.2 _,tkn.stp.taken _ tkn.mem,fun _ h=>(nomatch h),by have:=tkn.len;simpa using this,?_,fun hf=>?_,hlt.1⟩,⟨fun w r h0 h1 hcw=>?_⟩⟩
  ·have:=qq tC ta (zl (za 5 [e]))
   have:=tkn.few
   omega
  ·rw [qz] at hf
   rcases tkn.is with⟨rfl,h1,h2,_⟩|⟨_,_,h1⟩
   ·exact⟨[ta],.inr ⟨0,(ta,[e]),Xr he hlt.1,qg _ _ _ _,rfl,rfl,rfl⟩,List.Perm.refl _,0,by simp,by simp⟩
   ·rw [h1] at hf;cases hf
  ·refine(QU w bc bd S T {D with reads:=r} C hcw m (by rw [zI];exact hc.map) h0 (by show r≤_;omega) e he (by omega) ta tC tm htk).mono ?_
   rintro x w' ⟨h1,⟨n,T',h2,h3,h4,h5⟩,h6⟩
   exact⟨h1,⟨n,T',h2,by omega,h4,h5⟩,h6⟩
 ·have h6:=hr.low hbl
  obtain⟨f,v,C1,m1,pb,nb,R,K⟩:=Zr bc bd S T D hN e he h t C m (by omega) hr.good hr.one hr.hi hr.srt hnd htk hl hc ⟨qQ,hr.first,helow⟩ hn (by omega)
  have hroot:=(htk t.blk t.blk_mem).1
  have hpw:=hr.many
  have hpl:=KB h
  cases f with
  |false=>
   obtain⟨rfl,hone⟩:=R.one rfl
   refine⟨t.blk,C1,m1,pb,nb,⟨R.chn,R.stp,R.sub,?_,by have:=R.few;omega,fun hf=>?_,hr.good.blk⟩,⟨fun w r h0 h1 hcw=>?_⟩⟩
   ·have:=R.nl;simp at this;omega
   ·obtain⟨t',tk,tl,tp⟩:=hone hf
    have hr':=tk.root hr hn
    exact⟨t'.blocks,.inr ⟨h,t',hr',tl,tk.blk,tk.ents,rfl⟩,tp,h,by have:=R.nl;have:=R.pl;simp at *; omega,hr'.many⟩
   ·refine(fk w bc bd S T D C r hcw h0 e h t.blk (by omega) (by omega) C1 K).mono ?_
    rintro x w' ⟨k1,⟨n,T',k2,k3,k4,k5⟩,k6⟩
    exact⟨k1,⟨n,T',k2,by omega,k4,k5⟩,k6⟩
  |true=>
   obtain⟨e1,rfl,he1,htwo⟩:=R.two rfl
   obtain⟨ta,tC,tm,nb2,htk2,tkn⟩:=vG R.chn hN
   have hlt:=tkn.lt hN
   have st:=R.stp.trans tkn.stp
   rw [List.append_nil] at st
   have hfew1:=R.few
   have htl:=tkn.len
   refine⟨ta,tC.put ta (zl (za 4 [⟨qQ,false,0,t.blk⟩,e1])),tm,pb,nb++nb2,⟨tkn.chn.put hlt.2 _,st.taken _ (tkn.mem.imp (List.mem_append_right _) id),R.sub,?_,?_,fun hf=>?_,hlt.1⟩,⟨fun w r h0 h1 hcw=>?_⟩⟩
   ·have:=R.nl;simp at this ⊢;omega
   ·have:=qq tC ta (zl (za 4 [⟨qQ,false,0,t.blk⟩,e1]))
    have:=tkn.few
    omega
   ·rw [qz] at hf
    rcases tkn.is with⟨rfl,h1,h2,_⟩|⟨_,_,h1⟩
    ·obtain⟨t',u,q,tk,rfl,tl,ul,tp⟩:=htwo (tkn.stp.unfull hf)
     have hlow':∀x∈yb e t.ents,¬x.pl.lt qQ=true:=fun x hx=>by
      rcases ji.1 hx with rfl|hx
      ·exact helow
      ·exact hlow x hx
     have hr':=tk.root hr hn hlow' hlt.1
     have hbM:∀j,j∈t.blocks++nb→21≤j∧zO m1 (j-21)=true:=fun j hj=>by
      rcases List.mem_append.1 hj with hj|hj
      ·exact⟨(htk j hj).1,R.stp.grew.keeps (htk j hj).2⟩
      ·have:=R.stp.grew.fresh j hj
       refine⟨this.1,?_⟩
       rw [R.stp.grew.taken,show j-21+21=j from by omega];simp [hj]
     have hkid:∀(y:Tr h),(∀j∈y.blocks,j∈t.blocks++nb)→y.LayV zl (fun j=>C1.look D (j:Nat))→y.LayV zl (fun j=>(tC.put ta (zl (za 4 [⟨qQ,false,0,t.blk⟩,⟨q,false,0,u.blk⟩]))).look D (j:Nat)):=fun y hu hlu=>hlu.congr (fun j hj=>by
      have h3:=hbM j (hu j hj)
      have h4:=tkn.stp.grew.apart h3.2
      have h5:j≠ta:=fun e0=>h4 (by rw [e0];simp)
      rw [zW _ _ _ _ _ (by omega)]
      exact tkn.stp.look j (fun h=>nomatch h) h4 (by omega) (by omega))
     have hp:(Tr.blocks (h:=h+1) (ta,[(qQ,t'),(q,u)])).Perm (t.blocks++(nb++[ta])):=by
      show (ta::zA [(qQ,t'),(q,u)]).Perm _
      have e2:zA [(qQ,t'),(q,u)]=t'.blocks++u.blocks:=by simp [zA]
      rw [e2,←List.append_assoc]
      exact(tp.cons ta).trans (List.perm_append_comm (l₁:=[ta]))
     refine⟨_,.inr ⟨h+1,(ta,[(qQ,t'),(q,u)]),hr',⟨?_,fun c hc=>?_⟩,rfl,?_,rfl⟩,hp,h+1,?_,hr'.many⟩
     ·show (tC.put ta _).look D ta=zl (za 4 ([(qQ,t'),(q,u)].map fun c=>(⟨c.1,false,0,c.2.blk⟩:En)))
      rw [qg]
      simp [tk.blk]
     ·have hc:c∈[(qQ,t'),(q,u)]:=hc
      rcases List.mem_cons.1 hc with rfl|hc
      ·exact hkid t' (fun j hj=>tp.mem_iff.1 (List.mem_append_left _ hj)) tl
      ·rw [List.mem_singleton.1 hc]
       exact hkid u (fun j hj=>tp.mem_iff.1 (List.mem_append_right _ hj)) ul
     ·show zJ [(qQ,t'),(q,u)]=_
      rw [←tk.ents];simp [zJ]
     ·have:=R.nl;have:=R.pl;simp at *; omega
    ·rw [h1] at hf;cases hf
   ·refine(uX w bc bd S T D C r hcw h0 e h t.blk (by omega) hr.good.blk (by omega) (by omega) C1 e1 he1 K m1 R.chn.map (by omega) ta tC tm htk2).mono ?_
    rintro x w' ⟨k1,⟨n,T',k2,k3,k4,k5⟩,k6⟩
    exact⟨k1,⟨n,T',k2,by omega,k4,k5⟩,k6⟩
end prog
end Go.Proofs.YtcoengihaobddaaGreatDoor
