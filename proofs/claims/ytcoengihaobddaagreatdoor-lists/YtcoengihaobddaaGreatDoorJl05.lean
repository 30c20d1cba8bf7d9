/- Part 5 of 31 of a proof: Book2, Book3, Append2, Book4, Lent, Law1 -/
import Derived.Test.YtcoengihaobddaaGreatDoorJl04
import Derived.Deep.RegionWith
import Derived.Lib.SliceRun
set_option maxHeartbeats 8000000
set_option linter.unusedVariables false
set_option linter.unusedSimpArgs false
set_option maxRecDepth 8000
namespace Go.Proofs.YtcoengihaobddaaGreatDoor
namespace book
open Go.ChangeShapes Go.WideShapes Go.ChangeAt Go.RowKit disk ref
open keys (zj zd zy zq)
structure jo where
 g:Nat
 ss:List (Option Addr×Nat×Nat)
 P:Nat→Prop
def jo.val(e:jo):Value:=.slice (some ⟨e.g,0,none⟩) e.ss.length 4
structure ys (w:World) (F:Nat→Prop) (v:Value) (es:List jo) (m:Nat→Int):Prop where
 row:w.ownsRow 0 179 1 v es.length (es.map jo.val)
 lets:∀i (hi:i<es.length),xq w es[i].P es[i].g es[i].ss
 are:∀i (hi:i<es.length),xq.Are w es[i].ss (.int .u8 (m i))
 apart:∀i j (hi:i<es.length) (hj:j<es.length),i≠j→∀k,es[i].P k→¬es[j].P k∧k≠es[j].g
 row2:∀i (hi:i<es.length) k,es[i].P k→v.ownBlock≠some k
 foot:∀i (hi:i<es.length),F es[i].g∧∀k,es[i].P k→F k
 foot2:∀k,v.ownBlock=some k→F k
theorem ys.kept{w w':World}{F T:Nat→Prop}{v:Value}{es:List jo}{m:Nat→Int}(h:ys w F v es m)(k:za T w w')(hn:∀i,F i→¬T i):ys w' F v es m:=
 ⟨k.owns h.row (fun i hi=>hn i (h.foot2 i hi)),fun i hi=>(h.lets i hi).kept k (fun j hj=>hn j ((h.foot i hi).2 j hj)) (hn _ (h.foot i hi).1),
  fun i hi=>(h.are i hi).kept (h.lets i hi) k (fun j hj=>hn j ((h.foot i hi).2 j hj)),h.apart,h.row2,h.foot,h.foot2⟩
theorem ys.cell{w:World}{F:Nat→Prop}{g cap:Nat}{es:List jo}{m:Nat→Int}(h:ys w F (.slice (some ⟨g,0,none⟩) es.length cap) es m)(i:Nat)(hi:i<es.length):w.cell? ⟨g,i,none⟩=some (.slice (some ⟨es[i].g,0,none⟩) es[i].ss.length 4):=by
 have:=h.row.cells (g:=g) rfl i es[i].val (by simp [hi])
 rw [Addr.add_mid] at this
 simpa [jo.val] using this
theorem ys.rowAt{w:World}{F:Nat→Prop}{a:Option Addr}{cap:Nat}{es:List jo}{m:Nat→Int}(h:ys w F (.slice a es.length cap) es m)(hn:0<es.length):∃g,a=some ⟨g,0,none⟩:=by
 rcases h.row.2 with⟨h0,h1⟩|⟨g,cap',cur,hv,_⟩
 ·omega
 ·cases hv;exact⟨g,rfl⟩
theorem ys.wrote{w w':World}{F:Nat→Prop}{v:Value}{es:List jo}{m:Nat→Int}(h:ys w F v es m)(i:Nat)(hi:i<es.length)(z:Int)(hl:xq w' es[i].P es[i].g es[i].ss)(ha:xq.Are w' es[i].ss (.int .u8 z))(k:za es[i].P w w')
 (m':Nat→Int) (hm:m' i=z) (hm2:∀j,j≠i→m' j=m j):ys w' F v es m':=by
 refine⟨k.owns h.row (fun j hj hc=>h.row2 i hi j hc hj),fun j hj=>?_,fun j hj=>?_,h.apart,h.row2,h.foot,h.foot2⟩
 ·by_cases e:j=i
  ·subst e;exact hl
  ·exact(h.lets j hj).kept k (fun x hx hc=>(h.apart i j hi hj (Ne.symm e) x hc).1 hx) (fun hc=>(h.apart i j hi hj (Ne.symm e) _ hc).2 rfl)
 ·by_cases e:j=i
  ·subst e;rw [hm];exact ha
  ·rw [hm2 j e];exact(h.are j hj).kept (h.lets j hj) k (fun x hx hc=>(h.apart i j hi hj (Ne.symm e) x hc).1 hx)
structure qW (w:World) (bp:Nat) (l a b:Value):Prop where
 head:w.heap[bp]? =some (.cells #[l,a,b] 79 (0,0))
theorem qW.c{w:World}{bp:Nat}{l a b:Value}(h:qW w bp l a b):w.cell? ⟨bp,0,none⟩=some l∧w.cell? ⟨bp,1,none⟩=some a∧w.cell? ⟨bp,2,none⟩=some b∧∀i,w.frozen? ⟨bp,i,none⟩=false:=
 ⟨cR h.head rfl,cR h.head rfl,cR h.head rfl,fun i=>frozen_of_row w bp i _ _ h.head⟩
theorem qW.lt{w:World}{bp:Nat}{l a b:Value}(h:qW w bp l a b):bp<w.heap.size:=(lT h.head)
theorem qW.kept{w w':World}{T:Nat→Prop}{bp:Nat}{l a b:Value}(h:qW w bp l a b)(k:za T w w')(hn:¬T bp):qW w' bp l a b:=⟨(k.block bp h.lt hn).trans h.head⟩
theorem ys.marks{w:World}{F:Nat→Prop}{v:Value}{es:List jo}{m m':Nat→Int}(h:ys w F v es m)(hm:∀i,i<es.length→m i=m' i):ys w F v es m':=
 ⟨h.row,h.lets,fun i hi=>by rw [←hm i hi];exact h.are i hi,h.apart,h.row2,h.foot,h.foot2⟩
theorem Yo(i d:Nat):0≤kQ i d∧kQ i d≤255:=by
 unfold kQ;have:=Nat.mod_lt (i/251^d) (show 0<251 by omega);omega
theorem gW(w:World)(bp:Nat)(l b:Value)(F:Nat→Prop)(a:Option Addr)(cap:Nat)(es:List jo)(hp:qW w bp l (.slice a es.length cap) b)(hF:¬F bp)(h:ys w F (.slice a es.length cap) es (fun i=>kQ i 0))(hlen:es.length≤4398046511104):
 Calls Tryz.prog 64 #[.pointer (some ⟨bp,1,none⟩)] w fun e w'=>e=.returned (.bool true)∧ys w' F (.slice a es.length cap) es (fun i=>kQ i 0)∧za F w w':=by
 have HH:Hid _:=h
 have HP:Hid _:=hp
 have hbp:=hp.lt
 clear h hp
 go_enter Tryz.func64,Tryz.ntmps64
 go_wp2
 go_loopw [3] (fun t wr=>∃k:Nat,k≤es.length∧t=.int .i64 k∧ys wr F (.slice a es.length cap) es (fun i=>kQ i 0)∧qW wr bp l (.slice a es.length cap) b∧za F w wr) (fun t _=>es.length-(intOf t).toNat)
 case atStart=>exact⟨0,Nat.zero_le _,rfl,HH.out,HP.out,za.refl _ _⟩
 case round=>
  obtain⟨k,hk,rfl,hb,hp,hkept⟩:=hrel
  have HB:Hid (ys wr F (.slice a es.length cap) es (fun i=>kQ i 0)):=hb
  have HP2:Hid _:=hp
  have HK:Hid _:=hkept
  have hc1:=hp.c.2.1
  clear hb hp hkept
  by_cases hlt:k<es.length
  ·obtain⟨g,rfl⟩:=HB.out.rowAt (by omega)
   have hck:=HB.out.cell k hlt
   go_wp2
   go_quiet ((first
    |(go_at_call 112;exact Calls.quiet_of_same (uu _ _ _ (by omega) (by omega) (by omega) (by omega)))
    |(go_at_call 111;exact Calls.quiet_of_same (yc _ es[k].P es[k].g 4 es[k].ss (by exact(HB.out.lets k hlt).kept (T:=fun _=>False) (kD) nF (fun hf=>hf)) _ (by exact(HB.out.are k hlt).kept (HB.out.lets k hlt) (T:=fun _=>False) (kD) nF)))))
   go_wp2
   go_roundw
   case rel=>exact⟨k+1,by omega,by go_num,HB.out.kept (T:=fun _=>False) kD nF,HP2.out.kept (T:=fun _=>False) kD (fun hf=>hf),HK.out.trans (S':=fun _=>False) kD fE⟩
   case measure=>simp [intOf];omega
  ·go_wp2
   go_loopw [5] (fun t wr=>∃(d:Int) (m:Nat→Int), -1≤d∧d≤2∧t=.int .i64 d∧ys wr F (.slice a es.length cap) es m∧(d= -1→∀i,i<es.length→m i=kQ i 0)∧qW wr bp l (.slice a es.length cap) b∧za F w wr) (fun t _=>(intOf t+1).toNat)
   case atStart=>exact⟨2,_,by omega,by omega,rfl,HB.out,fun h=>by omega,HP2.out,HK.out⟩
   case round=>
    obtain⟨d,m,hd0,hd1,rfl,hb,hm,hp,hkept⟩:=hrel
    have HB3:Hid (ys wr F (.slice a es.length cap) es m):=hb
    have HP3:Hid _:=hp
    have HK3:Hid _:=hkept
    have HM:Hid _:=hm
    clear hb hp hkept hm
    by_cases hd:0≤d
    ·go_wp2
     go_loopw [6] (fun t wr=>∃(j:Nat),j≤es.length∧t=.int .i64 j∧ys wr F (.slice a es.length cap) es (fun i=>if i<j then kQ i d.toNat else m i)∧qW wr bp l (.slice a es.length cap) b∧za F w wr) (fun t _=>es.length-(intOf t).toNat)
     case atStart=>exact⟨0,Nat.zero_le _,rfl,HB3.out.marks (fun i hi=>by simp),HP3.out,HK3.out⟩
     case round=>
      obtain⟨j,hj,rfl,hb,hp,hkept⟩:=hrel
      have HB4:Hid (ys wr F (.slice a es.length cap) es (fun i=>if i<j then kQ i d.toNat else m i)):=hb
      have HP4:Hid _:=hp
      have HK4:Hid _:=hkept
      have hc1:=hp.c.2.1
      clear hb hp hkept
      by_cases hlt2:j<es.length
      ·obtain⟨g,rfl⟩:=HB4.out.rowAt (by omega)
       have hck:=HB4.out.cell j hlt2
       go_wp2
       go_region_with ((first
        |(go_at_call 112;refine(uu _ _ _ (by omega) (by omega) (by omega) (by omega)).mono ?_;rintro e w' ⟨rfl,rfl⟩)
        |(go_at_call 113;refine(yP _ es[j].P es[j].g 4 es[j].ss (by exact(HB4.out.lets j hlt2).kept (T:=fun _=>False) kD nF (fun hf=>hf)) _ (by exact(Yo _ _).1) (by exact(Yo _ _).2)).mono ?_;rintro e w3 ⟨rfl,hl3,ha3,hk3⟩;have HL3:Hid _:=hl3;have HA3:Hid (xq.Are w3 es[j].ss _):=ha3;have HKK:Hid _:=hk3;clear hl3 ha3 hk3)))
       all_goals
        go_wp2
        go_roundw
        case rel=>
         refine⟨j+1,by omega,by go_num,(HB4.out.kept (za.drew (fun _=>False) wr) nF).wrote j hlt2 _ HL3.out HA3.out HKK.out _ (by simp) (fun i hi=>?_),(HP4.out.kept (za.drew (fun _=>False) wr) (fun hf=>hf)).kept HKK.out (fun hc=>hF ((HB4.out.foot j hlt2).2 _ hc)),
          (HK4.out.trans (za.drew (fun _=>False) wr) fE).trans HKK.out (fun i hc=>.inl ((HB4.out.foot j hlt2).2 _ hc))⟩
         have e:(i<j+1)=(i<j):=propext (by omega)
         simp only [e]
        case measure=>simp [intOf];omega
      ·go_wp2
       go_loopw [7] (fun t wr=>∃(q:Nat),q≤es.length∧t=.int .i64 q∧ys wr F (.slice a es.length cap) es (fun i=>kQ i d.toNat)∧qW wr bp l (.slice a es.length cap) b∧za F w wr) (fun t _=>es.length-(intOf t).toNat)
       case atStart=>exact⟨0,Nat.zero_le _,rfl,HB4.out.marks (fun i hi=>by rw [if_pos (by omega)]),HP4.out,HK4.out⟩
       case round=>
        obtain⟨q,hq,rfl,hb,hp,hkept⟩:=hrel
        have HB5:Hid (ys wr F (.slice a es.length cap) es (fun i=>kQ i d.toNat)):=hb
        have HP5:Hid _:=hp
        have HK5:Hid _:=hkept
        have hc1:=hp.c.2.1
        clear hb hp hkept
        by_cases hlt3:q<es.length
        ·obtain⟨g,rfl⟩:=HB5.out.rowAt (by omega)
         have hck:=HB5.out.cell q hlt3
         go_wp2
         go_quiet ((first
          |(go_at_call 112;exact Calls.quiet_of_same (uu _ _ _ (by omega) (by omega) (by omega) (by omega)))
          |(go_at_call 111;exact Calls.quiet_of_same (yc _ es[q].P es[q].g 4 es[q].ss (by exact(HB5.out.lets q hlt3).kept (T:=fun _=>False) (kD) nF (fun hf=>hf)) _ (by exact(HB5.out.are q hlt3).kept (HB5.out.lets q hlt3) (T:=fun _=>False) (kD) nF)))))
         go_wp2
         go_roundw
         case rel=>exact⟨q+1,by omega,by go_num,HB5.out.kept (T:=fun _=>False) kD nF,HP5.out.kept (T:=fun _=>False) kD (fun hf=>hf),HK5.out.trans (S':=fun _=>False) kD fE⟩
         case measure=>simp [intOf];omega
        ·go_wp2
         go_roundw
         case rel=>exact⟨d-1,_,by omega,by omega,rfl,HB5.out,fun h i hi=>by rw [show d.toNat=0 from by omega],HP5.out,HK5.out⟩
         case measure=>simp [intOf];omega
    ·go_wp2
     go_ret
     exact⟨rfl,HB3.out.marks (fun i hi=>HM.out (by omega) i hi),HK3.out⟩
def uY:ByteArray:=⟨#[40,109,105,110,101,41]⟩
def qy(i:Nat):List Value:=[.string uY,.int .i64 (i:Int),.bool false,.int .i64 0]
structure bj (w:World) (P:Nat→Prop) (g:Nat) (ss:List (Option Addr×Nat×Nat)) (i:Nat):Prop where
 head:w.heap[g]? =some (.cells (ss.map uv).toArray 44 (0,0))
 are:∀s∈ss,∀j,j<s.2.1→∃b,s.1=some ⟨b,0,none⟩∧P b∧b<w.heap.size∧w.rangeAt b (j*4) (qy i)
 few:∀s∈ss,s.2.1≤9223372036854775807
 len:ss.length≤100
theorem bj.kept{w w':World}{P T:Nat→Prop}{g:Nat}{ss:List (Option Addr×Nat×Nat)}{i:Nat}(h:bj w P g ss i)(k:za T w w')(hn:∀i,P i→¬T i)(hg:¬T g):bj w' P g ss i:=
 ⟨(k.block g (lT h.head) hg).trans h.head,fun s hs j hj=>by
   obtain⟨b,h1,h2,h3,h4⟩:=h.are s hs j hj
   exact⟨b,h1,h2,Nat.lt_of_lt_of_le h3 k.size,fun t v hv=>(k.cell (a:=⟨b,j*4+t,none⟩) h3 (hn b h2)).trans (h4 t v hv)⟩,h.few,h.len⟩
theorem bj.cell{w:World}{P:Nat→Prop}{g:Nat}{ss:List (Option Addr×Nat×Nat)}{q:Nat}(h:bj w P g ss q)(i:Nat)(hi:i<ss.length):w.cell? ⟨g,i,none⟩=some (.slice ss[i].1 ss[i].2.1 ss[i].2.2):=by
 rw [cell_of_row w g i _ _ _ h.head];simp [hi,uv]
structure uZ (w:World) (F:Nat→Prop) (v:Value) (es:List jo):Prop where
 row:w.ownsRow 0 129 1 v es.length (es.map jo.val)
 vets:∀i (hi:i<es.length),bj w es[i].P es[i].g es[i].ss i
 foot:∀i (hi:i<es.length),F es[i].g∧∀k,es[i].P k→F k
 foot2:∀k,v.ownBlock=some k→F k
 row2:∀i (hi:i<es.length) k,es[i].P k→v.ownBlock≠some k
theorem uZ.kept{w w':World}{F T:Nat→Prop}{v:Value}{es:List jo}(h:uZ w F v es)(k:za T w w')(hn:∀i,F i→¬T i):uZ w' F v es:=
 ⟨k.owns h.row (fun i hi=>hn i (h.foot2 i hi)),fun i hi=>(h.vets i hi).kept k (fun j hj=>hn j ((h.foot i hi).2 j hj)) (hn _ (h.foot i hi).1),h.foot,h.foot2,h.row2⟩
theorem uZ.cell{w:World}{F:Nat→Prop}{g cap:Nat}{es:List jo}(h:uZ w F (.slice (some ⟨g,0,none⟩) es.length cap) es)(i:Nat)(hi:i<es.length):w.cell? ⟨g,i,none⟩=some (.slice (some ⟨es[i].g,0,none⟩) es[i].ss.length 4):=by
 have:=h.row.cells (g:=g) rfl i es[i].val (by simp [hi])
 rw [Addr.add_mid] at this
 simpa [jo.val] using this
theorem uZ.rowAt{w:World}{F:Nat→Prop}{a:Option Addr}{cap:Nat}{es:List jo}(h:uZ w F (.slice a es.length cap) es)(hn:0<es.length):∃g,a=some ⟨g,0,none⟩:=by
 rcases h.row.2 with⟨h0,h1⟩|⟨g,cap',cur,hv,_⟩
 ·omega
 ·cases hv;exact⟨g,rfl⟩
structure ji (w:World) (bp:Nat) (l:Value) (F H:Nat→Prop) (a b:Option Addr) (ca cb:Nat) (es vs:List jo):Prop where
 head:qW w bp l (.slice a es.length ca) (.slice b vs.length cb)
 bytes:ys w F (.slice a es.length ca) es (fun i=>kQ i 0)
 rows:uZ w H (.slice b vs.length cb) vs
 fbp:¬F bp
 hbp:¬H bp
 apart:∀k,F k→¬H k
 few:es.length≤4398046511104
 few2:vs.length≤4398046511104
 flt:∀k,F k→k<w.heap.size
 hlt:∀k,H k→k<w.heap.size
theorem ji.kept{w w':World}{bp:Nat}{l:Value}{F H T:Nat→Prop}{a b:Option Addr}{ca cb:Nat}{es vs:List jo}(h:ji w bp l F H a b ca cb es vs)(k:za T w w')(hF:∀i,F i→¬T i)(hH:∀i,H i→¬T i)(hb:¬T bp):ji w' bp l F H a b ca cb es vs:=
 ⟨h.head.kept k hb,h.bytes.kept k hF,h.rows.kept k hH,h.fbp,h.hbp,h.apart,h.few,h.few2,fun i hi=>Nat.lt_of_lt_of_le (h.flt i hi) k.size,fun i hi=>Nat.lt_of_lt_of_le (h.hlt i hi) k.size⟩
theorem Y4(w:World)(bp:Nat)(l:Value)(F H:Nat→Prop)(a b:Option Addr)(ca cb:Nat)(es vs:List jo)(h:ji w bp l F H a b ca cb es vs):
 Calls Tryz.prog 38 #[.pointer (some ⟨bp,1,none⟩)] w fun e w'=>e=.returned (.bool true)∧ji w' bp l F H a b ca cb es vs∧za F w w':=by
 have HH:Hid _:=h
 have hfew:=h.few2
 clear h
 go_enter Tryz.func38,Tryz.ntmps38
 go_wp2
 go_loopw [3] (fun t wr=>∃k:Nat,k≤vs.length∧t=.int .i64 k∧ji wr bp l F H a b ca cb es vs∧za (fun _=>False) w wr) (fun t _=>vs.length-(intOf t).toNat)
 case atStart=>exact⟨0,Nat.zero_le _,rfl,HH.out,za.refl _ _⟩
 case round=>
  obtain⟨k,hk,rfl,hb,hkept⟩:=hrel
  have HB:Hid _:=hb
  have HK:Hid _:=hkept
  have hc2:=hb.head.c.2.2.1
  clear hb hkept
  by_cases hlt:k<vs.length
  ·obtain⟨g,rfl⟩:=HB.out.rows.rowAt (by omega)
   have hck:=HB.out.rows.cell k hlt
   have hlk:=(HB.out.rows.vets k hlt).len
   go_wp2
   go_loopw [4] (fun t wr=>∃i:Nat,i≤vs[k].ss.length∧t=.int .i64 i∧ji wr bp l F H a (some ⟨g,0,none⟩) ca cb es vs∧za (fun _=>False) w wr) (fun t _=>vs[k].ss.length-(intOf t).toNat)
   case atStart=>exact⟨0,Nat.zero_le _,rfl,HB.out,HK.out⟩
   case round=>
    obtain⟨i,hi,rfl,hb,hkept⟩:=hrel
    have HB2:Hid _:=hb
    have HK2:Hid _:=hkept
    have hc2:=hb.head.c.2.2.1
    have hck:=HB2.out.rows.cell k hlt
    clear hb hkept
    by_cases hlt2:i<vs[k].ss.length
    ·have hci:=(HB2.out.rows.vets k hlt).cell i hlt2
     have hfi:=(HB2.out.rows.vets k hlt).few _ (List.getElem_mem hlt2)
     go_wp2
     go_loopw [5] (fun t wr=>∃j:Nat,j≤vs[k].ss[i].2.1∧t=.int .i64 j∧ji wr bp l F H a (some ⟨g,0,none⟩) ca cb es vs∧za (fun _=>False) w wr) (fun t _=>vs[k].ss[i].2.1-(intOf t).toNat)
     case atStart=>exact⟨0,Nat.zero_le _,rfl,HB2.out,HK2.out⟩
     case round=>
      obtain⟨j,hj,rfl,hb,hkept⟩:=hrel
      have HB3:Hid _:=hb
      have HK3:Hid _:=hkept
      have hc2:=hb.head.c.2.2.1
      have hck:=HB3.out.rows.cell k hlt
      have hci:=(HB3.out.rows.vets k hlt).cell i hlt2
      clear hb hkept
      by_cases hlt3:j<vs[k].ss[i].2.1
      ·obtain⟨b',h1,h2,h3,h4⟩:=(HB3.out.rows.vets k hlt).are _ (List.getElem_mem hlt2) j hlt3
       have m0:wr.cell? ⟨b',j*4,none⟩=some (.string uY):=h4 0 _ rfl
       have m1:wr.cell? ⟨b',j*4+1,none⟩=some (.int .i64 (k:Int)):=h4 1 _ rfl
       have m2:wr.cell? ⟨b',j*4+2,none⟩=some (.bool false):=h4 2 _ rfl
       have m3:wr.cell? ⟨b',j*4+3,none⟩=some (.int .i64 0):=h4 3 _ rfl
       rw [h1] at hci
       have H1:Hid _:=h1
       clear h1 h4
       have hmine:uY.toList=[40,109,105,110,101,41]:=by rw [ByteArray.toList_eq];rfl
       go_wp2
       go_roundw
       case rel=>exact⟨j+1,by omega,by go_num,HB3.out.kept (za.alloc (fun _=>False) wr _) nF nF (fun hf=>hf),HK3.out.trans (za.alloc (fun _=>False) wr _) iL⟩
       case measure=>simp [intOf];omega
      ·go_wp2
       go_roundw
       case rel=>exact⟨i+1,by omega,by go_num,HB3.out,HK3.out⟩
       case measure=>simp [intOf];omega
    ·go_wp2
     go_roundw
     case rel=>exact⟨k+1,by omega,by go_num,HB2.out,HK2.out⟩
     case measure=>simp [intOf];omega
  ·go_wp2_with (go_at_call 64;refine(gW _ bp l _ F a ca es HB.out.head HB.out.fbp HB.out.bytes HB.out.few).mono ?_;rintro e w' ⟨rfl,hbm,hk2⟩;have HM:Hid _:=hbm;have HK2:Hid _:=hk2;clear hbm hk2)
   go_ret
   exact⟨rfl,⟨HB.out.head.kept HK2.out HB.out.fbp,HM.out,HB.out.rows.kept HK2.out (fun i hi hc=>HB.out.apart i hc hi),HB.out.fbp,HB.out.hbp,HB.out.apart,HB.out.few,HB.out.few2,fun i hi=>Nat.lt_of_lt_of_le (HB.out.flt i hi) HK2.out.size,fun i hi=>Nat.lt_of_lt_of_le (HB.out.hlt i hi) HK2.out.size⟩,(HK.out.mono fE).trans HK2.out iL⟩
end book
namespace book
open Go.RowKit disk ref
structure VM (w w':World) (e:TypeId) (size:Nat) (v:Value) (n m:Nat) (xs:List Value) (r:Value):Prop where
 keeps:w'.ownsRow 0 e size v n xs
 kept:za (fun k=>v.ownBlock=some k) w w'
 res:(∃g cx,v=.slice (some ⟨g,0,none⟩) n cx∧r=.slice (some ⟨g,0,none⟩) (n+m) cx∧n+m≤cx)∨
  (∃cap cur,r=.slice (some ⟨w.heap.size,0,none⟩) (n+m) cap∧w'.heap[w.heap.size]? =some (.cells cur e (0,0))∧(n+m)*size≤cur.size)
theorem uw{P:Program}(w:World)(t ty e:TypeId)(i:TypeInfo)(z:Value)(size bytes:Nat)(ht:P.underlying t=some (.slice e))(hi:P.info? e=some i)(hz:i.zero=some z)
 (hsize:i.size=size) (hby:i.bytes=bytes) (hzs:z.cells.size=size) (v:Value) (n:Nat) (xs:List Value) (hown:w.ownsRow 0 e size v n xs)
 (a:Addr) (m c:Nat) (news:List Value) (hl:news.length=m*size) (hnews:∀j u,news[j]? =some u→w.cell? (a.add j)=some u) (h1:∀u∈news,u.oneCell'=true) (hm:0<m)
 (h63:n+m≤maxLen) (hbytes:(n+m)*bytes≤140737488355328):
 ∃r w',(Builtin.append_ #[t,t] ty #[v,.slice (some a) m c]).run P w=.ok r w'∧VM w w' e size v n m xs r:=by
 subst hsize
 subst hby
 have hsmall:n+m≤9223372036854775807:=by simp only [maxLen] at h63;omega
 rcases hown.2 with⟨rfl,rfl⟩|⟨g,cap,cur,rfl,hbg,hg,hnc,hcm,hcs,htake⟩
 ·have hx:xs=[]:=List.eq_nil_of_length_eq_zero (by simpa using hown.1)
  subst hx
  have hr:=run_append_nil (P:=P) w t ty e i z ht hi hz a m c news hl hnews (by omega) (by omega) (by have hb:=hbytes;simp only [Nat.zero_add] at hb;omega)
  refine⟨_,_,hr,World.ownsRow_nil _ _ _ _,(za.drew _ w).trans (za.alloc _ _ _) iL,.inr ⟨_,_,by rw [Nat.zero_add],heap_alloc_new w.drew _,?_⟩⟩
  simp only [Array.size_append,List.size_toArray,hl,Nat.zero_add];omega
 ·by_cases hroom:n+m≤cap
  ·have hfit:n*i.size+news.length≤cur.size:=by rw [hl,hcs,←Nat.add_mul];exact Nat.mul_le_mul_right _ hroom
   have hr:=run_append_room (P:=P) w t ty e i ht hi g n cap cur hg a m c news hl hnews h1 hroom hfit
   refine⟨_,_,hr,⟨hown.1,.inr ⟨g,cap,_,rfl,hbg,setRow_heap w g cur _ e _ hg,hnc,hcm,?_,?_⟩⟩,⟨rfl,rfl,rfl,by simp,fun k _ hk=>setRow_other w g k _ (fun e=>hk (by simp [Value.ownBlock,e]))⟩,.inl ⟨g,cap,rfl,rfl,hroom⟩⟩
   ·simp only [List.size_toArray,List.length_append,List.length_take,List.length_drop,Array.length_toList]
    omega
   ·rw [List.toList_toArray,htake,List.append_assoc,←hown.1]
    exact List.take_left
  ·have holds:∀j u,xs[j]? =some u→w.cell? ((⟨g,0,none⟩:Addr).add j)=some u:=hown.cells (g:=g) rfl
   have hr:=run_append_grow (P:=P) w t ty e i z ht hi hz ⟨g,0,none⟩ n cap xs hown.1 holds a m c news hl hnews (by omega) (by omega) (growslice_fits (by omega) hbytes)
   have k:∀S:Nat→Prop,za S w (w.drew.alloc (.cells (xs.toArray++news.toArray++Builtin.zeroCells z.cells (grownCap w (n+m) cap e-(n+m))) e)):=fun S=>(za.drew _ w).trans (za.alloc _ _ _) iL
   refine⟨_,_,hr,(k (fun _=>False)).owns hown nF,k _,.inr ⟨_,_,rfl,heap_alloc_new w.drew _,?_⟩⟩
   simp only [Array.size_append,List.size_toArray,hl,hown.1,Nat.add_mul];omega
theorem VM.form{w w':World}{e:TypeId}{size:Nat}{v:Value}{n m:Nat}{xs:List Value}{r:Value}(h:VM w w' e size v n m xs r):∃g c,r=.slice (some ⟨g,0,none⟩) (n+m) c∧
 ((v=.slice (some ⟨g,0,none⟩) n c∧n+m≤c)∨(g=w.heap.size∧∃cur,w'.heap[g]? =some (.cells cur e (0,0))∧(n+m)*size≤cur.size)):=by
 rcases h.res with⟨g,cx,h1,h2,h3⟩|⟨cap,cur,h1,h2,h3⟩
 ·exact⟨g,cx,h2,.inl ⟨h1,h3⟩⟩
 ·exact⟨w.heap.size,cap,h1,.inr ⟨rfl,cur,h2,h3⟩⟩
end book
namespace book
open Go.ChangeShapes Go.WideShapes Go.ChangeAt Go.RowKit disk ref
open keys (zj zd zy zq)
theorem Tryz.infoLetters:(Tryz.prog.info? 179).map (fun i=>(i.zero,i.size,i.bytes))=some (some (.slice none 0 0),1,24):=by kernel_rfl
end book
namespace book
open Go.ChangeShapes Go.WideShapes Go.ChangeAt Go.RowKit disk ref
open keys (zj zd zy zq)
theorem bk(w:World)(P:Nat→Prop)(a:Option Addr)(cap:Nat)(l:List UInt8)(hb:zX w P a l)(hl:l.length≤140737488355326):
 Calls Tryz.prog 99 #[.slice a l.length cap] w fun e w'=>∃a' c',e=.returned (.slice a' l.length c')∧w'.ownsRow 0 5 1 (.slice a' l.length c') l.length (l.map qK)∧za (fun _=>False) w w'∧∀k,(Value.slice a' l.length c').ownBlock=some k→w.heap.size≤k:=by
 have HB:Hid (zX w P a l):=hb
 obtain⟨j0,hi0,hz0,hz1,hz2⟩:=yN Tryz.infoU8
 have HJ0:Hid (Tryz.prog.info? 5=some j0∧j0.zero=some (.int .u8 0)∧j0.size=1∧j0.bytes=1):=⟨hi0,hz0,hz1,hz2⟩
 clear hi0 hz0 hz1 hz2 hb
 go_enter Tryz.func99,Tryz.ntmps99
 go_wp2_with (refine xV P rfl (.tmp 4) (.tmp 5) 35 rfl 5 j0 _ Tryz.underlying35 HJ0.out.1 HJ0.out.2.1 HJ0.out.2.2.1 HJ0.out.2.2.2 rfl a cap l (by rfl) (by rfl) (by exact HB.out) (by omega) ?_;intro a1 c1 w2 hown1 hgrow1 hat1;have HO1:Hid _:=hown1;have HG1:Hid _:=hgrow1;have HA1:Hid _:=hat1;clear hown1 hgrow1 hat1)
 go_ret
 exact⟨a1,c1,rfl,HO1.out,za.grown (S:=fun _=>False) HG1.out (fun k hk=>by cases hk),fun k hk=>by rcases HA1.out with e|e<;>rw [e] at hk<;>simp at hk;omega⟩
theorem vG(w:World)(a:Option Addr)(n c:Nat):(binOp .eql 35 (.slice a n c) (.slice none 0 0)).run Tryz.prog w=.ok (.bool a.isNone) w:=Go.Lib.run_eql_slice_nil w 35 5 a n c 0 0 Tryz.underlying35
structure jj (w:World) (g n cap:Nat) (l:List UInt8):Prop where
 len:n=l.length
 at_:∃cur,w.heap[g]? =some (.cells cur 5 (0,0))∧n+2≤cap∧cap≤maxLen∧cur.size=cap∧cur.toList.take (n+2)=l.map qK++[.int .u8 77,.int .u8 77]
theorem jj.kept{w w':World}{T:Nat→Prop}{g n cap:Nat}{l:List UInt8}(h:jj w g n cap l)(k:za T w w')(hn:¬T g):jj w' g n cap l:=by
 obtain⟨h0,cur,h1,h2⟩:=h
 exact⟨h0,cur,(k.block g (lT h1) hn).trans h1,h2⟩
theorem jj.bytes{w:World}{g n cap:Nat}{l:List UInt8}(h:jj w g n cap l)(P:Nat→Prop)(hP:P g):zX w P (some ⟨g,0,none⟩) l:=by
 obtain⟨h0,cur,h1,h2,h3,h4,h5⟩:=h
 subst h0
 refine .inr ⟨g,0,rfl,hP,(lT h1),fun j hj=>?_⟩
 rw [cell_of_row w g (0+j) _ _ _ h1]
 have e:cur.toList[0+j]? =(cur.toList.take (l.length+2))[0+j]? :=by rw [List.getElem?_take,if_pos (by omega)]
 rw [←Array.getElem?_toList,e,h5]
 rw [List.getElem?_append_left (by simp;omega)]
 simp [hj,qK]
theorem jj.cells{w:World}{g n cap:Nat}{l:List UInt8}(h:jj w g n cap l):(∀j (hj:j<l.length),w.cell? ⟨g,j,none⟩=some (.int .u8 (l[j].toNat:Int)))∧w.cell? ⟨g,l.length,none⟩=some (.int .u8 77)∧w.cell? ⟨g,l.length+1,none⟩=some (.int .u8 77)∧∀i,w.frozen? ⟨g,i,none⟩=false:=by
 obtain⟨h0,cur,h1,h2,h3,h4,h5⟩:=h
 subst h0
 have key:∀j,j<l.length+2→w.cell? ⟨g,j,none⟩=(l.map qK++[.int .u8 77,.int .u8 77])[j]? :=fun j hj=>by
  rw [cell_of_row w g j _ _ _ h1,←Array.getElem?_toList,←h5,List.getElem?_take,if_pos hj]
 refine⟨fun j hj=>?_,?_,?_,fun i=>frozen_of_row w g i _ _ h1⟩
 ·rw [key j (by omega),List.getElem?_append_left (by simpa using hj)];simp [hj,qK]
 ·rw [key _ (by omega),List.getElem?_append_right (by simp)];simp
 ·rw [key _ (by omega),List.getElem?_append_right (by simp)];simp
theorem Jd(w:World)(P:Nat→Prop)(ad:Addr)(cap:Nat)(l:List UInt8)(hb:zX w P (some ad) l)(hl:l.length≤140737488355326):
 Calls Tryz.prog 91 #[.slice (some ad) l.length cap] w fun e w'=>∃g c',e=.returned (.slice (some ⟨g,0,none⟩) l.length c')∧jj w' g l.length c' l∧za (fun _=>False) w w'∧w.heap.size≤g:=by
 have HB:Hid (zX w P (some ad) l):=hb
 obtain⟨j0,hi0,hz0,hz1,hz2⟩:=yN Tryz.infoU8
 have HJ0:Hid (Tryz.prog.info? 5=some j0∧j0.zero=some (.int .u8 0)∧j0.size=1∧j0.bytes=1):=⟨hi0,hz0,hz1,hz2⟩
 clear hi0 hz0 hz1 hz2 hb
 have hnil:=fun w=>vG w (some ad) l.length cap
 go_enter Tryz.func91,Tryz.ntmps91
 go_wp2_with fail
 refine(bk _ P _ cap l HB.out hl).mono ?_
 rintro e w1 ⟨a1,c1,rfl,hown,hk,hnew⟩
 have HO:Hid (w1.ownsRow 0 5 1 (.slice a1 l.length c1) l.length (l.map qK)):=hown
 have HK:Hid _:=hk
 have HN:Hid _:=hnew
 clear hown hk hnew
 go_wp2_with (refine wpList_append_lies _ rfl (.tmp 8) (.tmp 9) 35 rfl 0 5 j0 _ 1 1 Tryz.underlying35 HJ0.out.1 HJ0.out.2.1 HJ0.out.2.2.1 HJ0.out.2.2.2 rfl (by omega) (.slice a1 l.length c1) l.length (l.map qK) (by rfl) (by exact World.ownsRow.alloc HO.out _) ⟨w1.heap.size,0,none⟩ 2 2 [.int .u8 77,.int .u8 77] (by rfl) (by rfl) (by exact World.news_of_block (heap_alloc_new w1 _)) (by simp [Value.oneCell']) (by omega) (by unfold maxLen;omega) (by omega) (Nat.zero_le _) (w1.heap.size+1) (by simp) ?_;intro g c2 w2 hown2 hgrow2 hat2 hlt2;have HO2:Hid (w2.ownsRow _ _ _ _ _ _):=hown2;have HG2:Hid _:=hgrow2;have HA2:Hid _:=hat2;have hcap:l.length+2≤c2∧c2≤9223372036854775807:=by {rcases hown2.2 with⟨h0,_⟩|⟨_,_,_,h0,_,_,h1,h2,_⟩;cases h0;cases h0;unfold maxLen at h2;omega};clear hown2 hgrow2 hat2)
 go_ret
 have k1:za (fun k=>w.heap.size≤k) w1 w2:=(za.alloc _ w1 _).trans (za.grown (S:=fun k=>w.heap.size≤k) HG2.out (fun k hk=>HN.out k hk)) iL
 refine⟨g,c2,rfl,⟨rfl,?_⟩,HK.out.trans k1 (fun k hk=>.inr hk),?_⟩
 ·rcases HO2.out.2 with⟨h0,_⟩|⟨g',cap',cur,h0,_,h1,h2,h3,h4,h5⟩
  ·cases h0
  ·cases h0
   exact⟨cur,h1,h2,h3,by omega,by simpa using h5⟩
 ·rcases HA2.out with e|e
  ·exact HN.out g e
  ·have:=HK.out.size;omega
theorem Je(w:World)(n cap:Nat):Calls Tryz.prog 91 #[.slice none n cap] w fun e w'=>e=.returned (.slice none 0 0)∧w'=w:=by
 have hnil:=fun w=>vG w none n cap
 go_enter Tryz.func91,Tryz.ntmps91
 go_wp2
 go_ret
 exact⟨rfl,rfl⟩
theorem bm(w:World)(n cap:Nat):Calls Tryz.prog 92 #[.slice none 0 0,.slice none n cap] w fun e w'=>e=.returned (.bool true)∧w'=w:=by
 have hnil:=fun w=>vG w none n cap
 have hnil2:=fun w=>vG w none 0 0
 go_enter Tryz.func92,Tryz.ntmps92
 go_wp2
 go_ret
 exact⟨rfl,rfl⟩
theorem bn(w:World)(P:Nat→Prop)(ad:Addr)(cap:Nat)(l:List UInt8)(hb:zX w P (some ad) l)(hl:l.length≤140737488355326)(g c:Nat)(h:jj w g l.length c l)(hg:¬P g):
 Calls Tryz.prog 92 #[.slice (some ⟨g,0,none⟩) l.length c,.slice (some ad) l.length cap] w fun e w'=>e=.returned (.bool true)∧za (fun k=>k=g) w w':=by
 have HB:Hid (zX w P (some ad) l):=hb
 have HH:Hid _:=h
 have hnil:=fun w=>vG w (some ad) l.length cap
 obtain⟨hcs,h77a,h77b,hfz⟩:=h.cells
 have HC:Hid _:=hcs
 have HF:Hid _:=hfz
 have hcap:l.length+2≤c∧c≤9223372036854775807:=by
  obtain⟨_,cur,_,h2,h3,_⟩:=h;unfold maxLen at h3;omega
 clear hb h hcs hfz
 go_enter Tryz.func92,Tryz.ntmps92
 go_wp2
 go_loopw [6,7] (fun ok i wr=>∃k:Nat,k≤l.length∧i=.int .i64 k∧ok=.bool true∧∃n,wr=w.drewN n) (fun _ i _=>l.length-(intOf i).toNat)
 case atStart=>exact⟨0,Nat.zero_le _,rfl,rfl,0,rfl⟩
 case round=>
  obtain⟨k,hk,rfl,rfl,n,rfl⟩:=hrel
  by_cases hlt:k<l.length
  ·have hk1:=HC.out k hlt
   rcases HB.out with h0|⟨b,o,h1,h2,h3,h4⟩
   ·rw [h0] at hlt;simp at hlt
   ·have hk2:=h4 k hlt
    cases h1
    go_wp2
    go_quiet (fail)
    go_wp2
    go_roundw
    case rel=>exact⟨k+1,by omega,by go_num,rfl,_,rfl⟩
    case measure=>simp [intOf];omega
  ·go_wp2
   go_loopw [8] (fun i wr=>∃k:Nat,k≤l.length+2∧i=.int .i64 k∧(∃cur,wr.heap[g]? =some (.cells cur 5 (0,0))∧l.length+2≤cur.size)∧za (fun k=>k=g) w wr) (fun i _=>l.length+2-(intOf i).toNat)
   case atStart=>
    obtain⟨_,cur,h1,h2,h3,h4,h5⟩:=HH.out
    exact⟨0,Nat.zero_le _,rfl,⟨cur,h1,by omega⟩,kD⟩
   case round=>
    obtain⟨j,hj,rfl,⟨cur,h1,h2⟩,hkept⟩:=hrel
    have HK:Hid _:=hkept
    have HH1:Hid _:=h1
    clear hkept
    by_cases hlt2:j<l.length+2
    ·have hcj:wr.cell? ⟨g,j,none⟩=some (cur[j]'(by omega)):=by rw [cell_of_row wr g j _ _ _ h1];simp
     have hfj:=frozen_of_row wr g j _ _ h1
     generalize cur[j]'(by omega)=cj at*
     clear h1
     go_wp2
     go_roundw
     case rel=>exact⟨j+1,by omega,by go_num,⟨_,heap_setCell_same wr g j _ _ _ HH1.out,by simpa using h2⟩,HK.out.trans (za.setCell (S:=fun k=>k=g) wr ⟨g,j,none⟩ _ rfl) iL⟩
     case measure=>simp [intOf];omega
    ·clear h1
     go_wp2
     go_ret
     exact⟨rfl,HK.out⟩
end book
namespace law
open Go.ChangeShapes Go.WideShapes Go.ChangeAt Go.RowKit disk ref book
open keys (zj zd zy zq)
structure qn where
 d:Value
 s:Value
 is:Value
 mb:Value
 k0:Value
 k1:Value
 k2:Value
 k3:Value
 died:Int
 told:Int
 shut:Bool
def qn.cells(h:qn):Array Value:=#[h.d,h.s,h.is,h.mb,h.k0,h.k1,h.k2,h.k3,.int .i64 h.died,.int .i64 h.told,.bool h.shut]
structure zA (w:World) (bo:Nat) (h:qn):Prop where
 head:w.heap[bo]? =some (.cells h.cells 125 (0,0))
theorem zA.lt{w:World}{bo:Nat}{h:qn}(o:zA w bo h):bo<w.heap.size:=(lT o.head)
theorem zA.kept{w w':World}{T:Nat→Prop}{bo:Nat}{h:qn}(o:zA w bo h)(k:za T w w')(hn:¬T bo):zA w' bo h:=⟨(k.block bo o.lt hn).trans o.head⟩
theorem zA.at_{w:World}{bo:Nat}{h:qn}(o:zA w bo h){i:Nat}{v:Value}(hv:h.cells[i]? =some v):w.cell? ⟨bo,i,none⟩=some v:=by
 rw [cell_of_row w bo i _ _ _ o.head];exact hv
theorem zA.fz{w:World}{bo:Nat}{h:qn}(o:zA w bo h)(i:Nat):w.frozen? ⟨bo,i,none⟩=false:=frozen_of_row w bo i _ _ o.head
theorem zA.c0{w:World}{bo:Nat}{h:qn}(o:zA w bo h):w.cell? ⟨bo,0,none⟩=some h.d:=o.at_ rfl
theorem zA.c1{w:World}{bo:Nat}{h:qn}(o:zA w bo h):w.cell? ⟨bo,1,none⟩=some h.s:=o.at_ rfl
theorem zA.c2{w:World}{bo:Nat}{h:qn}(o:zA w bo h):w.cell? ⟨bo,2,none⟩=some h.is:=o.at_ rfl
theorem zA.c8{w:World}{bo:Nat}{h:qn}(o:zA w bo h):w.cell? ⟨bo,8,none⟩=some (.int .i64 h.died):=o.at_ rfl
theorem zA.c9{w:World}{bo:Nat}{h:qn}(o:zA w bo h):w.cell? ⟨bo,9,none⟩=some (.int .i64 h.told):=o.at_ rfl
theorem zA.c10{w:World}{bo:Nat}{h:qn}(o:zA w bo h):w.cell? ⟨bo,10,none⟩=some (.bool h.shut):=o.at_ rfl
theorem zA.set{w:World}{bo:Nat}{h:qn}(o:zA w bo h)(i:Nat)(v:Value)(h':qn)(e:h'.cells=h.cells.setIfInBounds i v):zA (w.setCell ⟨bo,i,none⟩ v) bo h':=
 ⟨by rw [heap_setCell_same w bo i _ _ _ o.head,e]⟩
theorem yO(w:World)(bo:Nat)(h:qn)(o:zA w bo h)(bd:Nat)(hd:h.d=.pointer (some ⟨bd,0,none⟩))(S:Nat→Prop)(D:Dk)(hD:zh w bd S D):
 Calls Tryz.prog 149 #[.pointer (some ⟨bo,0,none⟩)] w fun e w'=>e=.returned (.int .i64 D.bs.length)∧w'=w:=by
 have hc:=o.c0
 rw [hd] at hc
 obtain⟨ba,pa,bc,pc,hD⟩:=hD
 have HD:Hid _:=hD
 clear hD hd
 go_enter Tryz.func149,Tryz.ntmps149
 go_wp2_with (go_at_call 54;refine(xC _ bd S D ba pa bc pc HD.out).mono ?_;rintro e w' ⟨rfl,rfl⟩)
 go_ret
 exact⟨rfl,rfl⟩
theorem Jf(w:World)(bo:Nat)(h:qn)(o:zA w bo h)(bd:Nat)(hd:h.d=.pointer (some ⟨bd,0,none⟩))(S:Nat→Prop)(D:Dk)(hD:zh w bd S D)(hf:D.fuse=0):
 Calls Tryz.prog 87 #[.pointer (some ⟨bo,0,none⟩)] w fun e w'=>e=.returned (.bool true)∧(∃S',zh w' bd S' D∧∀k,S' k→S k)∧za S w w':=by
 have hc:=o.c0
 rw [hd] at hc
 have HD:Hid _:=hD
 have hfl:D.flush=D:=by
  cases D;simp only at hf;subst hf;rfl
 have HF:Hid _:=hf
 have HL:Hid _:=hfl
 clear hD hd hf hfl
 go_enter Tryz.func87,Tryz.ntmps87
 go_wp2_with fail
 refine(y6 _ bd S D HD.out (by rw [HF.out];exact⟨by omega,by omega⟩)).mono ?_
 rintro e w1 ⟨rfl,h1,h2⟩
 rw [HF.out]
 rw [HL.out] at h1
 have H1:Hid _:=h1
 have H2:Hid _:=h2
 clear h1 h2
 go_wp2
 go_ret
 exact⟨rfl,H1.out,H2.out⟩
def yU:Bool→Int→Int
 |false,c=>c
 |true,c=>if c=0∨c=5 then 8 else c
theorem cI(w:World)(bo:Nat)(h:qn)(o:zA w bo h)(f:Int):
 Calls Tryz.prog 104 #[.pointer (some ⟨bo,0,none⟩),.int .i64 f] w fun e w'=>e=.returned (.int .i64 (yU h.shut f))∧w'=w:=by
 have hc:=o.c10
 cases hs:h.shut
 ·rw [hs] at hc
  clear hs
  go_enter Tryz.func104,Tryz.ntmps104
  go_wp2
  go_ret
  exact⟨rfl,rfl⟩
 ·rw [hs] at hc
  clear hs
  by_cases h0:f=0
  ·subst h0
   go_enter Tryz.func104,Tryz.ntmps104
   go_wp2
   go_ret
   exact⟨rfl,rfl⟩
  ·have e0:(f==0)=false:=by simpa using h0
   by_cases h5:f=5
   ·subst h5
    go_enter Tryz.func104,Tryz.ntmps104
    go_wp2
    go_ret
    exact⟨rfl,rfl⟩
   ·have e5:(f==5)=false:=by simpa using h5
    have HE:Hid _:=h0
    have HE5:Hid _:=h5
    clear h0 h5
    go_enter Tryz.func104,Tryz.ntmps104
    go_wp2
    go_ret
    exact⟨zj (by show f=if f=0∨f=5 then 8 else f;rw [if_neg (fun h=>h.elim HE.out HE5.out)]),rfl⟩
def bq(n last told died:Int):Bool:=decide (last<n∧n≤told+1+died)
theorem vH(w:World)(bo:Nat)(h:qn)(o:zA w bo h)(ib:Nat)(hi:h.is=.pointer (some ⟨ib,0,none⟩))(F G:Nat→Prop)(vs:List zO)(last:Int)(hr:zQ w F G ib vs last)(n:Int)(ht0:0≤h.told)(ht1:h.told≤4611686018427387904)(hd0:0≤h.died)(hd1:h.died≤1152921504606846976):
 Calls Tryz.prog 96 #[.pointer (some ⟨bo,0,none⟩),.int .i64 n] w fun e w'=>e=.returned (.bool (bq n last h.told h.died))∧∃m,w'=w.drewN m:=by
 have hc2:=o.c2
 have hc8:=o.c8
 have hc9:=o.c9
 rw [hi] at hc2
 obtain⟨a,cap,cs,hr⟩:=hr
 have hcl:=hr.c1
 clear hr hi
 by_cases h1:last<n
 ·have e1:decide (last<n)=true:=decide_eq_true h1
  go_enter Tryz.func96,Tryz.ntmps96
  go_wp2
  go_quiet (fail)
  go_wp2
  go_ret
  exact⟨zd (by unfold bq;simp [h1]),_,rfl⟩
 ·have e1:decide (last<n)=false:=decide_eq_false h1
  go_enter Tryz.func96,Tryz.ntmps96
  go_wp2
  go_quiet (fail)
  go_wp2
  go_ret
  exact⟨zd (by unfold bq;rw [decide_eq_false (by omega)]),_,rfl⟩
end law
end Go.Proofs.YtcoengihaobddaaGreatDoor
