/- Part 13 of 31 of a proof: Pg1, Pg2, Blk1, Blk2, Pg3, Blk3, Tr1, Tr2 -/
import Derived.Test.YtcoengihaobddaaGreatDoorJm02
set_option maxHeartbeats 8000000
set_option linter.unusedVariables false
set_option linter.unusedSimpArgs false
set_option maxRecDepth 8000
namespace Go.Proofs.YtcoengihaobddaaGreatDoor
namespace prog
def numOf(l:List UInt8):Nat:=l.foldl (fun n b=>n*256+b.toNat) 0
def bytesOf:Nat→Nat→List UInt8
 |0,_=>[]
 |k+1,n=>bytesOf k (n/256)++[UInt8.ofNat (n%256)]
theorem zK:∀k n,(bytesOf k n).length=k
 |0,_=>rfl
 |k+1,n=>by simp [bytesOf,zK k]
theorem gQ(l:List UInt8)(b:UInt8):numOf (l++[b])=numOf l*256+b.toNat:=by simp [numOf]
theorem yk:∀k n,n<256^k→numOf (bytesOf k n)=n
 |0,n,h=>by simp at h;subst h;rfl
 |k+1,n,h=>by
  rw [bytesOf,gQ,yk k (n/256) (by rw [Nat.pow_succ] at h;exact Nat.div_lt_of_lt_mul (by omega))]
  simp;omega
theorem vt:∀k,bytesOf k 0=List.replicate k 0
 |0=>rfl
 |k+1=>by rw [bytesOf,Nat.zero_div,vt k,List.replicate_succ'];rfl
def zi:Nat→Nat
 |1=>2
 |2=>8
 |3=>1
 |4=>18
 |5=>20
 |6=>1
 |_=>0
def room(k:Nat):Nat:=124/zi k
structure Pg where
 kind:Nat
 link:Nat
 items:List (List UInt8)
structure Pg.Ok (p:Pg):Prop where
 kind:p.kind≤6
 link:p.link<65536
 wide:∀i∈p.items,i.length=zi p.kind
 fits:p.items.length*zi p.kind≤124
 few:p.items.length≤124
def Pg.bytes(p:Pg):List UInt8:=UInt8.ofNat p.kind::UInt8.ofNat p.items.length::bytesOf 2 p.link++p.items.flatten++List.replicate (124-p.items.length*zi p.kind) 0
theorem xe(c:Nat):∀(l:List (List UInt8)),(∀b∈l,b.length=c)→l.flatten.length=l.length*c
 |[],_=>by simp
 |b::l,h=>by
  rw [List.flatten_cons,List.length_append,xe c l (fun x hx=>h x (List.mem_cons_of_mem _ hx)),h b (List.mem_cons_self ..),List.length_cons,Nat.add_mul];omega
theorem Pg.Ok.len{p:Pg}(h:p.Ok):p.bytes.length=128:=by
 have:=h.fits
 simp [Pg.bytes,zK]
 have e:=xe _ p.items h.wide
 rw [List.length_flatten] at e
 omega
def Pg.new(k:Nat):Pg:=⟨k,0,[]⟩
theorem Pg.new_ok(k:Nat)(h:k≤6):(Pg.new k).Ok where
 kind:=h
 link:=by simp [Pg.new]
 wide:=fun _ h=>nomatch h
 fits:=by simp [Pg.new]
 few:=by simp [Pg.new]
theorem Pg.new_bytes(k:Nat):(Pg.new k).bytes=UInt8.ofNat k::List.replicate 127 0:=by
 simp [Pg.bytes,Pg.new,vt]
theorem Pg.nought:(Pg.new 0).bytes=List.replicate 128 0:=by rw [Pg.new_bytes];rfl
theorem Pg.at0(p:Pg):p.bytes[0]? =some (UInt8.ofNat p.kind):=rfl
theorem Pg.at1(p:Pg):p.bytes[1]? =some (UInt8.ofNat p.items.length):=rfl
theorem Pg.front(p:Pg):(p.bytes.drop 2).take 2=bytesOf 2 p.link:=by
 have:(bytesOf 2 p.link).length=2:=zK 2 _
 simp only [Pg.bytes,List.cons_append,List.drop_succ_cons,List.drop_zero,List.append_assoc]
 conv=>lhs;arg 1;rw [←this]
 exact List.take_left
theorem Pg.behind(p:Pg):p.bytes.drop 4=p.items.flatten++List.replicate (124-p.items.length*zi p.kind) 0:=by
 have:(bytesOf 2 p.link).length=2:=zK 2 _
 simp only [Pg.bytes,List.cons_append,List.drop_succ_cons,List.append_assoc]
 conv=>lhs;rw [←this]
 exact List.drop_left
theorem gR(c:Nat):∀(l:List (List UInt8)) (r:List UInt8),(∀b∈l,b.length=c)→∀i (h:i<l.length),((l.flatten++r).drop (i*c)).take c=l[i]
 |[],_,_,i,h=>by simp at h
 |b::l,r,hb,0,_=>by
  have:=hb b (List.mem_cons_self ..)
  simp only [Nat.zero_mul,List.drop_zero,List.flatten_cons,List.append_assoc,List.getElem_cons_zero]
  rw [←this,List.take_left]
 |b::l,r,hb,i+1,h=>by
  have e:=hb b (List.mem_cons_self ..)
  simp only [List.flatten_cons,List.append_assoc,List.getElem_cons_succ]
  rw [Nat.add_mul,Nat.one_mul,Nat.add_comm,←List.drop_drop]
  conv=>lhs;rw [show (b++(l.flatten++r)).drop c=l.flatten++r from by rw [←e];exact List.drop_left]
  exact gR c l r (fun x hx=>hb x (List.mem_cons_of_mem _ hx)) i (by simpa using h)
theorem Pg.Ok.item{p:Pg}(h:p.Ok)(i:Nat)(hi:i<p.items.length):(p.bytes.drop (4+i*zi p.kind)).take (zi p.kind)=p.items[i]:=by
 rw [←List.drop_drop,p.behind]
 exact gR _ _ _ h.wide i hi
theorem Pg.Ok.all{p:Pg}(h:p.Ok):(p.bytes.drop 4).take (p.items.length*zi p.kind)=p.items.flatten:=by
 rw [p.behind,←xe _ p.items h.wide,List.take_left]
def qo(l:List UInt8)(o:Nat)(v:List UInt8):List UInt8:=l.take o++v++l.drop (o+v.length)
theorem xx(l:List UInt8)(o:Nat)(v:List UInt8)(h:o+v.length≤l.length):(qo l o v).length=l.length:=by
 simp [qo];omega
def Pg.push(p:Pg)(v:List UInt8):Pg:={p with items:=p.items++[v]}
def Pg.setLink(p:Pg)(n:Nat):Pg:={p with link:=n}
theorem Pg.setLink_bytes(p:Pg)(n:Nat):qo p.bytes 2 (bytesOf 2 n)=(p.setLink n).bytes:=by
 have h1:(bytesOf 2 n).length=2:=zK 2 _
 have h2:(bytesOf 2 p.link).length=2:=zK 2 _
 have hd:p.bytes.drop (2+2)=_:=p.behind
 unfold qo
 rw [h1,hd]
 simp [Pg.bytes,Pg.setLink]
end prog
namespace prog
open ref
structure Pl where
 key:ByteArray
 num:Int
deriving DecidableEq
def Pl.lt(a b:Pl):Bool:=ql a.key b.key||(decide (a.key=b.key)&&decide (b.num<a.num))
theorem Pl.lt_iff(a b:Pl):a.lt b=true↔ql a.key b.key=true∨(a.key=b.key∧b.num<a.num):=by simp [Pl.lt]
theorem Pl.irrefl(a:Pl):¬a.lt a=true:=by rw [Pl.lt_iff,ye];simp
theorem Pl.trans{a b c:Pl}(h:a.lt b=true)(k:b.lt c=true):a.lt c=true:=by
 rw [Pl.lt_iff] at*
 rcases h with h|⟨h,h'⟩<;>rcases k with k|⟨k,k'⟩
 ·exact .inl (xL h k)
 ·exact .inl (by rw [←k];exact h)
 ·exact .inl (by rw [h];exact k)
 ·exact .inr ⟨h.trans k,by omega⟩
theorem Pl.total{a b:Pl}(h:a≠b)(k:¬a.lt b=true):b.lt a=true:=by
 rw [Pl.lt_iff] at*
 by_cases e:a.key=b.key
 ·right
  refine⟨e.symm,?_⟩
  by_cases h2:b.num<a.num
  ·exact absurd (.inr ⟨e,h2⟩) k
  ·have:a.num≠b.num:=fun e2=>h (by cases a;cases b;simp_all)
   omega
 ·left
  cases h2:ql a.key b.key with
  |true=>exact absurd (.inl h2) k
  |false=>exact yq e h2
theorem Pl.asymm{a b:Pl}(h:a.lt b=true):¬b.lt a=true:=fun k=>Pl.irrefl a (Pl.trans h k)
theorem Pl.lt_of_not{a b c:Pl}(h:¬b.lt a=true)(k:b.lt c=true):a.lt c=true:=by
 by_cases e:a=b
 ·rw [e];exact k
 ·by_cases h2:a.lt b=true
  ·exact Pl.trans h2 k
  ·exact absurd (Pl.total e h2) h
theorem Pl.lt_of_lt_not{a b c:Pl}(h:a.lt b=true)(k:¬c.lt b=true):a.lt c=true:=by
 by_cases e:b=c
 ·rw [←e];exact h
 ·by_cases h2:b.lt c=true
  ·exact Pl.trans h h2
  ·exact absurd (Pl.total e h2) k
structure En where
 pl:Pl
 mark:Bool
 size:Nat
 at_:Nat
structure En.Ok (e:En):Prop where
 key:e.pl.key.data.toList.length≤8
 zero:(0:UInt8)∉e.pl.key.data.toList
 num0:0≤e.pl.num
 num1:e.pl.num<9223372036854775808
 size:e.size≤300
 mark:e.mark=true→e.size=0
 at_:e.at_<65536
def keyBytes(k:ByteArray):List UInt8:=k.data.toList++List.replicate (8-k.data.toList.length) 0
theorem yw(k:ByteArray)(h:k.data.toList.length≤8):(keyBytes k).length=8:=by simp [keyBytes] at *; omega
def cut(l:List UInt8):List UInt8:=(l.reverse.dropWhile (· ==0)).reverse
theorem cF(l:List UInt8):cut (l++[0])=cut l:=by simp [cut]
theorem Yf(l:List UInt8):∀n,cut (l++List.replicate n 0)=cut l
 |0=>by simp
 |n+1=>by rw [List.replicate_succ',←List.append_assoc,cF,Yf l n]
theorem X2{l:List UInt8}(h:(0:UInt8)∉l):cut l=l:=by
 unfold cut
 rw [show l.reverse.dropWhile (· ==0)=l.reverse from ?_,List.reverse_reverse]
 cases hl:l.reverse with
 |nil=>rfl
 |cons a r=>
  have:a∈l:=by rw [←List.mem_reverse,hl];exact List.mem_cons_self ..
  rw [List.dropWhile_cons,if_neg]
  intro h0
  exact h (by rw [←eq_of_beq h0];exact this)
theorem Yg(k:ByteArray)(h:(0:UInt8)∉k.data.toList):cut (keyBytes k)=k.data.toList:=by
 rw [keyBytes,Yf,X2 h]
def kV(p:Pl):List UInt8:=keyBytes p.key++bytesOf 8 p.num.toNat
def qw(e:En):Nat:=if e.mark then 65535 else e.size
def zT(e:En):List UInt8:=kV e.pl++bytesOf 2 e.at_
def jc(e:En):List UInt8:=zT e++bytesOf 2 (qw e)
def xy(k:Nat)(e:En):List UInt8:=if k=5 then jc e else zT e
theorem yO{e:En}(h:e.Ok):(zT e).length=18:=by simp [zT,kV,zK,yw _ h.key]
theorem bv{e:En}(h:e.Ok):(jc e).length=20:=by simp [jc,yO h,zK]
theorem cG{e:En}(h:e.Ok){k:Nat}(hk:k=4∨k=5):(xy k e).length=zi k:=by
 rcases hk with rfl|rfl
 ·simp [xy,yO h,zi]
 ·simp [xy,bv h,zi]
theorem vu{e:En}(h:e.Ok)(r:List UInt8):(zT e++r).take 8=keyBytes e.pl.key∧((zT e++r).drop 8).take 8=bytesOf 8 e.pl.num.toNat∧((zT e++r).drop 16).take 2=bytesOf 2 e.at_∧(zT e++r).drop 18=r:=by
 have h1:=yw _ h.key
 have h2:=zK 8 e.pl.num.toNat
 have h3:=zK 2 e.at_
 have e0:zT e++r=keyBytes e.pl.key++(bytesOf 8 e.pl.num.toNat++(bytesOf 2 e.at_++r)):=by simp [zT,kV]
 have td:∀(n:Nat) (x y:List UInt8),x.length=n→(x++y).take n=x∧(x++y).drop n=y:=fun n x y hx=>by
  subst hx;exact⟨List.take_left,List.drop_left⟩
 have d1:=(td 8 _ (bytesOf 8 e.pl.num.toNat++(bytesOf 2 e.at_++r)) h1)
 have d2:=(td 8 _ (bytesOf 2 e.at_++r) h2)
 have d3:=(td 2 _ r h3)
 rw [e0]
 refine⟨d1.1,?_,?_,?_⟩
 ·rw [d1.2];exact d2.1
 ·rw [show (16:Nat)=8+8 from rfl,←List.drop_drop,d1.2,d2.2];exact d3.1
 ·rw [show (18:Nat)=8+8+2 from rfl,←List.drop_drop,←List.drop_drop,d1.2,d2.2];exact d3.2
theorem cH{e:En}(h:e.Ok):((numOf (bytesOf 8 e.pl.num.toNat):Nat):Int)=e.pl.num:=by
 have h0:=h.num0
 have h1:=h.num1
 rw [yk _ _ (by have:(256:Nat)^8=18446744073709551616:=by decide
                omega)]
 omega
theorem Yh{e:En}(h:e.Ok):numOf (bytesOf 2 e.at_)=e.at_:=yk _ _ (by have:=h.at_;omega)
theorem YU{e:En}(h:e.Ok):numOf (bytesOf 2 (qw e))=qw e:=yk _ _ (by
 have:=h.size
 unfold qw
 split<;>omega)
def zc(k:Nat)(es:List En):Pg:=⟨k,0,es.map (xy k)⟩
theorem dp{k:Nat}(hk:k=4∨k=5){es:List En}(h:∀e∈es,e.Ok)(hl:es.length≤6):(zc k es).Ok where
 kind:=by rcases hk with rfl|rfl<;>simp [zc]
 link:=by simp [zc]
 wide:=fun i hi=>by
  obtain⟨e,he,rfl⟩:=List.mem_map.1 hi
  exact cG (h e he) hk
 fits:=by rcases hk with rfl|rfl<;>simp [zc,zi]<;>omega
 few:=by simp [zc];omega
end prog
namespace prog
open Go.ChangeShapes Go.WideShapes Go.ChangeAt Go.RowKit disk ref
open keys (zj zd zA zq)
theorem gT(l:List UInt8)(k:Nat)(h:k<l.length):numOf (l.take (k+1))=numOf (l.take k)*256+l[k].toNat:=by
 rw [List.take_succ_eq_append_getElem h,gQ]
theorem X3(l:List UInt8):∀k,numOf (l.take k)≤numOf l:=by
 intro k
 induction h:l.length-k generalizing k with
 |zero=>rw [List.take_of_length_le (by omega)];exact Nat.le_refl _
 |succ n ih=>
  have h1:=ih (k+1) (by omega)
  rw [gT l k (by omega)] at h1
  omega
theorem KM(q z:Nat)(hz:z<256)(h:q*256+z<9223372036854775808):bits BinOp.or IntKind.i64 ((q:Int)*256) (z:Int)=((q*256+z:Nat):Int):=by
 have e1:BitVec.ofInt 64 ((q:Int)*256)=BitVec.ofNat 64 (q*256):=by rw [←BitVec.ofInt_natCast];congr 1
 have e2:BitVec.ofInt 64 (z:Int)=BitVec.ofNat 64 z:=BitVec.ofInt_natCast ..
 have e3:(q*256)|||z=q*256+z:=by
  have:=Nat.shiftLeft_add_eq_or_of_lt (i:=8) (b:=z) (by omega) q
  rw [Nat.shiftLeft_eq] at this
  exact this.symm
 have e4:(BitVec.ofNat 64 (q*256)|||BitVec.ofNat 64 z).toNat=q*256+z:=by
  have m1:q*256%18446744073709551616=q*256:=by omega
  have m2:z%18446744073709551616=z:=by omega
  simp only [BitVec.toNat_or,BitVec.toNat_ofNat,Nat.reducePow]
  rw [m1,m2,e3]
 have e5:bits BinOp.or IntKind.i64 ((q:Int)*256) (z:Int)=IntKind.i64.wrap ((BitVec.ofInt 64 ((q:Int)*256)|||BitVec.ofInt 64 (z:Int)).toNat:Nat):=rfl
 rw [e5,e1,e2,e4,IntKind.wrap_i64]
 omega
theorem Qm(w:World)(P:Nat→Prop)(a:Option Addr)(l:List UInt8)(cap:Nat)(h:zE w P a l)(hl:l.length≤8)(hn:numOf l<9223372036854775808):
 Calls Tryz.prog 83 #[.slice a l.length cap] w fun e w'=>e=.returned (.int .i64 (numOf l:Nat))∧w'=w:=by
 have HH:Hid _:=h
 clear h
 go_enter Tryz.func83,Tryz.ntmps83
 go_wp2
 go_loop [3,8] (fun x t=>∃k:Nat,k≤l.length∧t=.int .i64 k∧x=.int .i64 (numOf (l.take k):Nat)) (fun _ t=>l.length-(intOf t).toNat)
 case atStart=>exact⟨0,Nat.zero_le _,rfl,rfl⟩
 case round=>
  obtain⟨k,hk,rfl,rfl⟩:=hrel
  by_cases hlt:k<l.length
  ·have h1:=X3 l (k+1)
   have h2:=gT l k hlt
   have HS:Hid _:=h2
   rw [h2] at h1
   have hb:=l[k].toNat_lt
   rcases HH.out with h0|⟨b,o,rfl,_,_,hc⟩
   ·rw [h0] at hlt;simp at hlt
   ·have hck:=hc k hlt
    generalize numOf (l.take k)=q at*
    clear h2 hc
    generalize l[k].toNat=z at*
    have HO:Hid _:=KM q z (by omega) (by omega)
    go_wp2
    go_round
    case rel=>exact⟨k+1,by omega,by go_num,by rw [HS.out,HO.out]⟩
    case measure=>simp [intOf];omega
  ·have e:k=l.length:=by omega
   subst e
   have h2:numOf (l.take l.length)=numOf l:=by rw [List.take_length]
   rw [h2] at*
   go_wp2
   go_ret
   exact⟨rfl,rfl⟩
structure yg (w:World) (b:Nat) (t:TypeId) (l:List UInt8):Prop where
 at_:w.heap[b]? =some (.cells (l.map qe).toArray t (0,0))
theorem yg.lt{w:World}{b:Nat}{t:TypeId}{l:List UInt8}(h:yg w b t l):b<w.heap.size:=(lT h.at_)
theorem yg.kept{w w':World}{T:Nat→Prop}{b:Nat}{t:TypeId}{l:List UInt8}(h:yg w b t l)(k:za T w w')(hn:¬T b):yg w' b t l:=⟨(k.block b h.lt hn).trans h.at_⟩
theorem yg.cell{w:World}{b:Nat}{t:TypeId}{l:List UInt8}(h:yg w b t l)(i:Nat)(hi:i<l.length):w.cell? ⟨b,i,none⟩=some (.int .u8 (l[i].toNat:Int)):=by
 rw [cell_of_row w b i _ _ _ h.at_];simp [hi,qe]
theorem yg.fz{w:World}{b:Nat}{t:TypeId}{l:List UInt8}(h:yg w b t l)(i:Nat):w.frozen? ⟨b,i,none⟩=false:=frozen_of_row w b i _ _ h.at_
theorem yg.set{w:World}{b:Nat}{t:TypeId}{l:List UInt8}(h:yg w b t l)(i:Nat)(c:UInt8):yg (w.setCell ⟨b,i,none⟩ (.int .u8 (c.toNat:Int))) b t (l.set i c):=by
 refine⟨?_⟩
 rw [heap_setCell_same w b i _ _ _ h.at_]
 congr 2
 apply Array.ext'
 simp [qe]
theorem yg.bytes{w:World}{b:Nat}{t:TypeId}{l:List UInt8}(h:yg w b t l)(P:Nat→Prop)(hP:P b)(o n:Nat)(hn:o+n≤l.length):zE w P (some ⟨b,o,none⟩) ((l.drop o).take n):=
 .inr ⟨b,o,rfl,hP,h.lt,fun j hj=>by
  simp only [List.length_take,List.length_drop] at hj
  rw [h.cell (o+j) (by omega)]
  simp⟩
theorem yl(w:World)(b:Nat)(t:TypeId)(l:List UInt8)(h:yg w b t l)(o k cap n:Nat)(hk:o+k≤l.length)(hk8:k≤8)(hn:numOf ((l.drop o).take k)=n)(hb:n<9223372036854775808):
 Calls Tryz.prog 83 #[.slice (some ⟨b,o,none⟩) k cap] w fun e w'=>e=.returned (.int .i64 n)∧w'=w:=by
 have hl:((l.drop o).take k).length=k:=by simp;omega
 have:=Qm w (fun i=>i=b) (some ⟨b,o,none⟩) ((l.drop o).take k) cap (h.bytes (fun i=>i=b) rfl o k hk) (by omega) (by omega)
 rw [hl,hn] at this
 exact this
theorem vv:∀m n,bytesOf (m+1) n=UInt8.ofNat (n/256^m%256)::bytesOf m n
 |0,n=>by simp [bytesOf]
 |m+1,n=>by
  rw [bytesOf,vv m (n/256),bytesOf,Nat.div_div_eq_div_mul,Nat.pow_succ,Nat.mul_comm];rfl
theorem dq(l:List UInt8)(j:Nat)(c:UInt8)(v:List UInt8)(h:j+1+v.length≤l.length):qo l j (c::v)=(qo l (j+1) v).set j c:=by
 have hl:(qo l (j+1) v).length=l.length:=xx _ _ _ h
 rw [List.set_eq_take_append_cons_drop,if_pos (by omega)]
 have e1:(l.take (j+1)).length=j+1:=by simp;omega
 have e2:(qo l (j+1) v).take j=l.take j:=by
  rw [qo,List.append_assoc,List.take_append_of_le_length (by omega),List.take_take,Nat.min_eq_left (by omega)]
 have e3:(qo l (j+1) v).drop (j+1)=v++l.drop (j+1+v.length):=by
  rw [qo,List.append_assoc]
  conv=>lhs;arg 1;rw [←e1]
  exact List.drop_left
 rw [e2,e3,qo]
 simp only [List.length_cons,List.append_assoc,List.cons_append]
 rw [show j+(v.length+1)=j+1+v.length from by omega]
theorem KN(q:Nat):((q:Int)%256)=((UInt8.ofNat (q%256)).toNat:Int):=by simp
theorem cI(l:List UInt8)(j:Nat):qo l j []=l:=by simp [qo]
theorem qB(w:World)(b:Nat)(t:TypeId)(l:List UInt8)(h:yg w b t l)(o k cap:Nat)(hk:o+k≤l.length)(hk8:k≤8)(n:Nat)(hn:n<9223372036854775808):
 Calls Tryz.prog 138 #[.slice (some ⟨b,o,none⟩) k cap,.int .i64 n] w fun e w'=>e=.returned (.tuple #[])∧yg w' b t (qo l o (bytesOf k n))∧za (fun i=>i=b) w w':=by
 have HH:Hid _:=h
 clear h
 go_enter Tryz.func138,Tryz.ntmps138
 go_wp2
 go_loopw [1,4] (fun x i wr=>∃m:Nat,m≤k∧i=.int .i64 ((k:Int)-1-m)∧x=.int .i64 ((n/256^m:Nat):Int)∧yg wr b t (qo l (o+(k-m)) (bytesOf m n))∧za (fun i=>i=b) w wr) (fun _ i _=>(intOf i+1).toNat)
 case atStart=>exact⟨0,Nat.zero_le _,by simp,by simp,by simp only [bytesOf,cI];exact HH.out,za.refl _ _⟩
 case round=>
  obtain⟨m,hm,rfl,rfl,hb,hkept⟩:=hrel
  have HB:Hid _:=hb
  have HK:Hid _:=hkept
  have hll:(qo l (o+(k-m)) (bytesOf m n)).length=l.length:=xx _ _ _ (by rw [zK];omega)
  clear hb hkept
  have hq:n/256^m≤n:=Nat.div_le_self _ _
  by_cases hlt:m<k
  ·have hc:=HB.out.cell (o+(k-1-m)) (by omega)
   have hf:=HB.out.fz (o+(k-1-m))
   have HS:Hid (qo l (o+(k-(m+1))) (bytesOf (m+1) n)=(qo l (o+(k-m)) (bytesOf m n)).set (o+(k-1-m)) (UInt8.ofNat (n/256^m%256))):=by
    show _=_
    rw [vv,dq _ _ _ _ (by rw [zK];omega),show o+(k-(m+1))+1=o+(k-m) from by omega,show o+(k-(m+1))=o+(k-1-m) from by omega]
   have HD:Hid (n/256^(m+1)=n/256^m/256):=by show _=_;rw [Nat.pow_succ,Nat.div_div_eq_div_mul]
   generalize (qo l (o+(k-m)) (bytesOf m n))[o+(k-1-m)].toNat=z at*
   generalize qo l (o+(k-m)) (bytesOf m n)=cur at*
   generalize n/256^m=q at*
   have hi0:((k:Int)-1-m).toNat=k-1-m:=by omega
   go_wp2
   go_roundw
   case rel=>exact⟨m+1,by omega,by go_num,by rw [HD.out];go_num,by rw [HS.out,KN];exact HB.out.set _ _,HK.out.trans (za.setCell (S:=fun i=>i=b) _ ⟨b,_,none⟩ _ rfl) iL⟩
   case measure=>simp [intOf];omega
  ·have e:m=k:=by omega
   subst e
   generalize n/256^m=q at*
   go_wp2
   go_end0
   exact⟨rfl,by have:=HB.out;rw [Nat.sub_self,Nat.add_zero] at this;exact this,HK.out⟩
end prog
namespace prog
open Go.ChangeShapes Go.WideShapes Go.ChangeAt Go.RowKit disk ref
open keys (zj zd zA zq)
theorem ua(w:World)(k:Nat)(hk:k≤6):Calls Tryz.prog 145 #[.int .u8 k] w fun e w'=>e=.returned (.int .i64 (zi k:Nat))∧w'=w:=by
 rcases (by omega:k=0∨k=1∨k=2∨k=3∨k=4∨k=5∨k=6) with rfl|rfl|rfl|rfl|rfl|rfl|rfl
 all_goals
  go_enter Tryz.func145,Tryz.ntmps145
  go_wp2
  go_ret
  exact⟨rfl,rfl⟩
theorem X4(w:World)(k wd:Nat)(hk:k≤6)(h:zi k=wd):Calls Tryz.prog 145 #[.int .u8 k] w fun e w'=>e=.returned (.int .i64 wd)∧w'=w:=by
 rw [←h];exact ua w k hk
theorem jd(w:World)(k:Nat)(hk:k≤6):Calls Tryz.prog 129 #[.int .u8 k] w fun e w'=>e=.returned (.int .i64 (room k:Nat))∧w'=w:=by
 rcases (by omega:k=0∨k=1∨k=2∨k=3∨k=4∨k=5∨k=6) with rfl|rfl|rfl|rfl|rfl|rfl|rfl
 all_goals
  go_enter Tryz.func129,Tryz.ntmps129
  go_wp2_with (go_at_call 145;refine(ua _ _ (by omega)).mono ?_;rintro e w' ⟨rfl,rfl⟩;simp only [zi])
  go_ret
  exact⟨rfl,rfl⟩
structure qn (w:World) (b:Nat) (p:Pg):Prop where
 bs:yg w b 154 p.bytes
 ok:p.Ok
theorem qn.kept{w w':World}{T:Nat→Prop}{b:Nat}{p:Pg}(h:qn w b p)(k:za T w w')(hn:¬T b):qn w' b p:=⟨h.bs.kept k hn,h.ok⟩
theorem jP(n:Nat)(h:n<256):(UInt8.ofNat n).toNat=n:=by simp;omega
theorem qn.c0{w:World}{b:Nat}{p:Pg}(h:qn w b p):w.cell? ⟨b,0,none⟩=some (.int .u8 (p.kind:Int)):=by
 have h1:=h.bs.cell 0 (by rw [h.ok.len];omega)
 have h2:p.bytes[0]'(by rw [h.ok.len];omega)=UInt8.ofNat p.kind:=Option.some.inj ((List.getElem?_eq_getElem _).symm.trans p.at0)
 rw [h2,jP _ (by have:=h.ok.kind;omega)] at h1
 exact h1
theorem qn.c1{w:World}{b:Nat}{p:Pg}(h:qn w b p):w.cell? ⟨b,1,none⟩=some (.int .u8 (p.items.length:Int)):=by
 have h1:=h.bs.cell 1 (by rw [h.ok.len];omega)
 have h2:p.bytes[1]'(by rw [h.ok.len];omega)=UInt8.ofNat p.items.length:=Option.some.inj ((List.getElem?_eq_getElem _).symm.trans p.at1)
 rw [h2,jP _ (by have:=h.ok.few;omega)] at h1
 exact h1
theorem jQ(w:World)(b:Nat)(p:Pg)(h:qn w b p):Calls Tryz.prog 144 #[.pointer (some ⟨b,0,none⟩)] w fun e w'=>e=.returned (.int .u8 (p.kind:Nat))∧w'=w:=by
 have hc:=h.c0
 clear h
 go_enter Tryz.func144,Tryz.ntmps144
 go_wp2
 go_ret
 exact⟨rfl,rfl⟩
theorem ub(w:World)(b:Nat)(p:Pg)(h:qn w b p):Calls Tryz.prog 82 #[.pointer (some ⟨b,0,none⟩)] w fun e w'=>e=.returned (.int .i64 (p.items.length:Nat))∧w'=w:=by
 have hc:=h.c1
 have hl:=h.ok.few
 clear h
 go_enter Tryz.func82,Tryz.ntmps82
 go_wp2
 go_ret
 exact⟨rfl,rfl⟩
theorem cJ(w:World)(b:Nat)(p:Pg)(h:qn w b p):Calls Tryz.prog 126 #[.pointer (some ⟨b,0,none⟩)] w fun e w'=>e=.returned (.int .i64 (p.link:Nat))∧w'=w:=by
 have hc:=h.c0
 have hl:=h.ok.link
 have hlen:=h.ok.len
 have HH:Hid _:=h
 have HN:Hid (numOf ((p.bytes.drop 2).take 2)=p.link):=by show _=_;rw [p.front];exact yk 2 _ (by omega)
 clear h
 go_enter Tryz.func126,Tryz.ntmps126
 go_wp2_with (go_at_call 83;refine(yl _ b _ _ HH.out.bs 2 2 126 p.link (by omega) (by omega) HN.out (by omega)).mono ?_;rintro e w' ⟨rfl,rfl⟩)
 go_ret
 exact⟨rfl,rfl⟩
theorem uN(w:World)(b:Nat)(p:Pg)(h:qn w b p)(n:Nat)(hn:n<65536):Calls Tryz.prog 132 #[.pointer (some ⟨b,0,none⟩),.int .i64 n] w fun e w'=>e=.returned (.tuple #[])∧qn w' b (p.setLink n)∧za (fun i=>i=b) w w':=by
 have hc:=h.c0
 have hlen:=h.ok.len
 have HH:Hid _:=h
 clear h
 go_enter Tryz.func132,Tryz.ntmps132
 go_wp2_with (go_at_call 138;refine(qB _ b _ _ HH.out.bs 2 2 126 (by omega) (by omega) n (by omega)).mono ?_;rintro e w' ⟨rfl,hb,hk⟩;have HB:Hid _:=hb;have HK:Hid _:=hk;clear hb hk)
 go_end0
 have h2:=HB.out
 rw [p.setLink_bytes] at h2
 exact⟨rfl,⟨h2,⟨HH.out.ok.kind,hn,HH.out.ok.wide,HH.out.ok.fits,HH.out.ok.few⟩⟩,HK.out⟩
def Yi(b k i:Nat):Value:=.slice (some ⟨b,4+i*zi k,none⟩) (zi k) (124-i*zi k)
def xi(b k n:Nat):Value:=.slice (some ⟨b,4,none⟩) (n*zi k) 124
theorem cK(k:Nat):zi k≤20:=by unfold zi;split<;>omega
theorem Yj:Tryz.prog.arrayLen 154=128:=by kernel_rfl
theorem ym:Tryz.prog.underlying 154=some (.array (Tryz.prog.arrayLen 154) (Tryz.prog.elem 154)):=by kernel_rfl
theorem dr:(Tryz.prog.info? (Tryz.prog.elem 154)).map (·.size)=some 1:=by kernel_rfl
theorem cL(w:World)(b:Nat)(l h:Int)(L N:Nat)(hl:l=L)(hh:h=L+N)(hm:L+N≤128)(hL:L<128):
 (Instr.sliceAt 154 (.pointer (some ⟨b,0,none⟩)) (some (.int .i64 l)) (some (.int .i64 h)) none).run Tryz.prog w=.ok (.slice (some ⟨b,L,none⟩) N (128-L)) w:=by
 have hs:=yL dr w
 rw [run_sliceAt_array_lh w _ _ ym .i64 .i64 l h (by omega) (by omega) (by rw [Yj];omega),hs]
 simp only [Result.andThen_ok,slicedAt,Yj]
 subst hl;subst hh
 simp only [Int.toNat_natCast,Nat.mul_one,Addr.add_mid,Nat.zero_add]
 rw [if_neg (by omega),show ((L:Int)+N).toNat=L+N from by omega,show L+N-L=N from by omega]
theorem X5(w:World)(b:Nat)(p:Pg)(h:qn w b p)(i:Nat)(hi:i<p.items.length)(hw1:1≤zi p.kind):Calls Tryz.prog 84 #[.pointer (some ⟨b,0,none⟩),.int .i64 i] w fun e w'=>e=.returned (Yi b p.kind i)∧w'=w:=by
 have hc:=h.c0
 have hk:=h.ok.kind
 have HH:Hid _:=h
 have hw:=cK p.kind
 have hfew:=h.ok.few
 have hf:(i+1)*zi p.kind≤124:=Nat.le_trans (Nat.mul_le_mul_right _ hi) h.ok.fits
 rw [Nat.add_mul,Nat.one_mul] at hf
 have hx:((i:Int)*(zi p.kind:Nat))=((i*zi p.kind:Nat):Int):=by simp
 have HV:Hid (Yi b p.kind i=.slice (some ⟨b,4+i*zi p.kind,none⟩) (zi p.kind) (124-i*zi p.kind)):=rfl
 clear h
 generalize Yi b p.kind i=iv at*
 generalize i*zi p.kind=x at*
 generalize hww:zi p.kind=wd at*
 have HWW:Hid _:=hww
 clear hww
 have hcut:=cL w b (4+↑x) (4+↑x+↑wd) (4+x) wd (by omega) (by omega) (by omega) (by omega)
 go_enter Tryz.func84,Tryz.ntmps84
 go_wp2_with (first
  |(go_at_call 144;refine(jQ _ b p HH.out).mono ?_;rintro e w' ⟨rfl,rfl⟩)
  |(go_at_call 145;refine(ua _ _ hk).mono ?_;rintro e w' ⟨rfl,rfl⟩;rw [HWW.out]))
 go_ret
 exact⟨by rw [HV.out,show 124-x=128-(4+x) from by omega];rfl,rfl⟩
theorem xm(w:World)(b:Nat)(p:Pg)(h:qn w b p):Calls Tryz.prog 125 #[.pointer (some ⟨b,0,none⟩)] w fun e w'=>e=.returned (xi b p.kind p.items.length)∧∃n,w'=w.drewN n:=by
 have hc:=h.c0
 have hk:=h.ok.kind
 have HH:Hid _:=h
 have hw:=cK p.kind
 have hfew:=h.ok.few
 have hf:=h.ok.fits
 have hx:((p.items.length:Int)*(zi p.kind:Nat))=((p.items.length*zi p.kind:Nat):Int):=by simp
 have HV:Hid (xi b p.kind p.items.length=.slice (some ⟨b,4,none⟩) (p.items.length*zi p.kind) 124):=rfl
 clear h
 generalize xi b p.kind p.items.length=iv at*
 generalize p.items.length*zi p.kind=x at*
 generalize hww:zi p.kind=wd at*
 have HWW:Hid _:=hww
 clear hww
 have hcut:∀w,(Instr.sliceAt 154 (.pointer (some ⟨b,0,none⟩)) (some (.int .i64 4)) (some (.int .i64 (4+↑x))) none).run Tryz.prog w=.ok (.slice (some ⟨b,4,none⟩) x 124) w:=fun w=>cL w b 4 (4+↑x) 4 x rfl rfl (by omega) (by omega)
 go_enter Tryz.func125,Tryz.ntmps125
 go_wp2
 go_quiet ((first
  |(go_at_call 82;exact Calls.quiet_of_same (ub _ b p (by exact HH.out.kept (T:=fun _=>False) kD (fun hf=>hf))))
  |(go_at_call 144;exact Calls.quiet_of_same (jQ _ b p (by exact HH.out.kept (T:=fun _=>False) kD (fun hf=>hf))))
  |(go_at_call 145;exact Calls.quiet_of_same (X4 _ _ _ hk HWW.out))))
 go_wp2
 go_ret
 exact⟨by rw [HV.out];rfl,_,rfl⟩
end prog
namespace prog
def Pg.grown(p:Pg)(k:Nat):Pg:={p with items:=p.items++List.replicate k (List.replicate (zi p.kind) 0)}
def Pg.more(p:Pg)(vs:List (List UInt8)):Pg:={p with items:=p.items++vs}
theorem Pg.grown_len(p:Pg)(k:Nat):(p.grown k).items.length=p.items.length+k:=by simp [Pg.grown]
theorem Pg.Ok.more{p:Pg}(h:p.Ok){vs:List (List UInt8)}(hv:∀v∈vs,v.length=zi p.kind)(hf:(p.items.length+vs.length)*zi p.kind≤124)(h1:p.items.length+vs.length≤124):(p.more vs).Ok where
 kind:=h.kind
 link:=h.link
 wide:=fun i hi=>by
  rcases List.mem_append.1 hi with hi|hi
  ·exact h.wide i hi
  ·exact hv i hi
 fits:=by simpa [Pg.more] using hf
 few:=by simpa [Pg.more] using h1
theorem Pg.grown_more(p:Pg)(k:Nat):p.grown k=p.more (List.replicate k (List.replicate (zi p.kind) 0)):=rfl
theorem Pg.Ok.grown{p:Pg}(h:p.Ok)(k:Nat)(hf:(p.items.length+k)*zi p.kind≤124)(h1:p.items.length+k≤124):(p.grown k).Ok:=by
 rw [Pg.grown_more]
 exact h.more (fun v hv=>by rw [List.eq_of_mem_replicate hv];simp) (by simpa using hf) (by simpa using h1)
theorem kX(w:Nat):∀k,(List.replicate k (List.replicate w (0:UInt8))).flatten=List.replicate (k*w) 0
 |0=>by simp
 |k+1=>by
  rw [List.replicate_succ,List.flatten_cons,kX w k,List.replicate_append_replicate];congr 1;rw [Nat.add_mul];omega
theorem Pg.Ok.grown_bytes{p:Pg}(h:p.Ok)(k:Nat)(hf:(p.items.length+k)*zi p.kind≤124):qo p.bytes 1 [UInt8.ofNat (p.items.length+k)]=(p.grown k).bytes:=by
 have e:124-p.items.length*zi p.kind=k*zi p.kind+(124-(p.items.length+k)*zi p.kind):=by rw [Nat.add_mul] at *; omega
 have e2:List.replicate (124-p.items.length*zi p.kind) (0:UInt8)=List.replicate (k*zi p.kind) 0++List.replicate (124-(p.items.length+k)*zi p.kind) 0:=by rw [List.replicate_append_replicate,←e]
 simp only [Pg.bytes,Pg.grown,List.length_append,List.length_replicate,List.flatten_append,kX,e2]
 simp [qo]
theorem Pg.Ok.more_bytes{p:Pg}(h:p.Ok)(vs:List (List UInt8))(hv:∀v∈vs,v.length=zi p.kind)(hf:(p.items.length+vs.length)*zi p.kind≤124):
 qo (p.grown vs.length).bytes (4+p.items.length*zi p.kind) vs.flatten=(p.more vs).bytes:=by
 have h2:(bytesOf 2 p.link).length=2:=zK 2 _
 have hfl:=xe _ p.items h.wide
 have hvl:=xe _ vs hv
 have e1:(p.grown vs.length).bytes=(UInt8.ofNat p.kind::UInt8.ofNat (p.items.length+vs.length)::bytesOf 2 p.link++p.items.flatten)++(List.replicate (vs.length*zi p.kind) 0++List.replicate (124-(p.items.length+vs.length)*zi p.kind) 0):=by
  simp only [Pg.bytes,Pg.grown,List.length_append,List.length_replicate,List.flatten_append,kX]
  simp
 have hl:(UInt8.ofNat p.kind::UInt8.ofNat (p.items.length+vs.length)::bytesOf 2 p.link++p.items.flatten).length=4+p.items.length*zi p.kind:=by
  simp only [List.length_append,List.length_cons,h2,hfl]
  try omega
 rw [e1]
 unfold qo
 have hz:(List.replicate (vs.length*zi p.kind) (0:UInt8)).length=vs.flatten.length:=by rw [hvl];simp
 rw [←hl,List.take_left,List.drop_length_add_append,←hz,List.drop_left]
 simp [Pg.bytes,Pg.more]
theorem Pg.Ok.push_over{p:Pg}(h:p.Ok)(v:List UInt8)(hv:v.length=zi p.kind)(hf:(p.items.length+1)*zi p.kind≤124):qo (p.grown 1).bytes (4+p.items.length*zi p.kind) v=(p.push v).bytes:=by
 have:=h.more_bytes [v] (fun u hu=>by rw [List.mem_singleton.1 hu];exact hv) (by simpa using hf)
 simpa [Pg.more,Pg.push] using this
theorem ud(l:List UInt8)(o:Nat)(u v:List UInt8)(h:o+u.length+v.length≤l.length):qo (qo l o u) (o+u.length) v=qo l o (u++v):=by
 have e1:(l.take o).length=o:=by simp;omega
 have e2:(l.take o++u).length=o+u.length:=by simp;omega
 have hd:(qo l o u).drop (o+u.length+v.length)=l.drop (o+u.length+v.length):=by
  unfold qo
  rw [←e2,List.drop_length_add_append,List.drop_drop]
 have ht:(qo l o u).take (o+u.length)=l.take o++u:=by
  unfold qo
  rw [←e2,List.take_left]
 unfold qo at hd ht ⊢
 rw [ht,hd]
 simp [Nat.add_assoc]
end prog
namespace prog
open Go.ChangeShapes Go.WideShapes Go.ChangeAt Go.RowKit disk ref
open keys (zj zd zA zq)
theorem Tryz.infoPage:(Tryz.prog.info? 154).map (fun i=>(i.zero,i.size,i.bytes))=some (some (.agg zR.toArray),128,128):=by kernel_rfl
def Qn(parts:Array (Nat×Value)):Sem Value:=Instr.build 154 parts
theorem YV(parts:Array (Nat×Value)):Instr.build 154 parts=Qn parts:=rfl
theorem Qo(w:World)(k:Int):(Qn #[(0,.int .u8 k)]).run Tryz.prog w=.ok (.agg (.int .u8 k::List.replicate 127 (.int .u8 0)).toArray) w:=by
 have hz:=zV Tryz.infoPage w
 have h1:∀w,(sizeOf (Tryz.prog.elem 154)).run Tryz.prog w=.ok 1 w:=yL dr
 have hzl:zR=.int .u8 0::List.replicate 127 (.int .u8 0):=rfl
 simp only [Qn,Instr.build,Sem.run_bind,hz,Result.andThen_ok,run_underlying ym w]
 simp [h1,Value.cells,Instr.fill,hzl]
def zl(p:Pg):List Value:=p.bytes.map qe
theorem bw{p:Pg}(h:p.Ok):(zl p).length=128:=by rw [zl,List.length_map,h.len]
theorem qO{p:Pg}(h:p.Ok):zI (zl p):=⟨bw h,j6 _⟩
theorem Vy(k:Nat)(hk:k≤6):zl (Pg.new k)=.int .u8 (k:Int)::List.replicate 127 (.int .u8 0):=by
 rw [zl,Pg.new_bytes,List.map_cons,List.map_replicate]
 unfold qe
 rw [jP _ (by omega)]
 rfl
end prog
namespace prog
open Go.ChangeShapes Go.WideShapes Go.ChangeAt Go.RowKit disk ref
section
attribute [local go_sem ↓] YV
theorem xN(w:World)(k:Nat)(hk:k≤6):Calls Tryz.prog 131 #[.int .u8 k] w fun e w'=>e=.returned (.agg (zl (Pg.new k)).toArray)∧za (fun _=>False) w w':=by
 have HI:Hid ((Tryz.prog.info? 154).map (·.size)=some 128):=zU Tryz.infoPage
 obtain⟨Zb,hZb,hz⟩:∃Zb:List Value,Zb=zR∧∀w,(zeroValue 154).run Tryz.prog w=.ok (.agg Zb.toArray) w:=⟨zR,rfl,zV Tryz.infoPage⟩
 have HZb:Hid (zI Zb):=by rw [hZb];exact zN
 clear hZb
 have HV:Hid (zl (Pg.new k)=.int .u8 (k:Int)::List.replicate 127 (.int .u8 0)):=Vy k hk
 have HO:Hid (zI (zl (Pg.new k))):=qO (Pg.new_ok k hk)
 have hrun:=fun w=>Qo w (k:Int)
 rw [←HV.out] at hrun
 generalize zl (Pg.new k)=pv at*
 clear HV
 go_enter Tryz.func131,Tryz.ntmps131
 go_wp2_with (show wpList _ _ _ ({dst:=none,op:=.store _ _ _,type:=_,pos:=_,after:=_,guard:=_}::_) _ _;refine zk rfl 154 (.tmp 2) (.tmp 4) rfl _ _ pv (by simp) rfl rfl (by rw [HO.out.1];exact HI.out) (by rw [List.size_toArray,HZb.out.1,HO.out.1]) HO.out.2 ?_)
 refine bodyPost_ret (v:=.agg pv.toArray) (results_cell_row Tryz.results131 _ _ w.heap.size 154 _ (0,0) _ rfl (by have:=heap_alloc_new w (.cells pv.toArray 154);simpa using this) ym rfl (by rw [List.size_toArray,HO.out.1];exact HI.out)) rfl ⟨rfl,za.alloc _ _ _⟩
end
theorem X6(l:List UInt8)(i:Nat)(c:UInt8)(h:i<l.length):qo l i [c]=l.set i c:=by
 rw [dq _ _ _ _ (by simp;omega),cI]
def jR(b k n i:Nat):Value:=.slice (some ⟨b,4+n*zi k,none⟩) (i*zi k) (124-n*zi k)
theorem jS(w:World)(b:Nat)(p:Pg)(h:qn w b p)(k:Nat)(hf:(p.items.length+k)*zi p.kind≤124)(hl:p.items.length+k≤124)(hz:1≤k*zi p.kind):
 Calls Tryz.prog 133 #[.pointer (some ⟨b,0,none⟩),.int .i64 k] w fun e w'=>e=.returned (jR b p.kind p.items.length k)∧qn w' b (p.grown k)∧za (fun i=>i=b) w w':=by
 have hc:=h.c1
 have hfz:=h.bs.fz 1
 have HH:Hid _:=h
 clear h
 go_enter Tryz.func133,Tryz.ntmps133
 go_wp2_with (go_at_call 125;refine(xm _ b p HH.out).mono ?_;rintro e w1 ⟨rfl,n1,rfl⟩;unfold xi)
 go_region
 have hl0:=HH.out.ok.len
 have HP:Hid (qn ((w.drewN (n1+1)).setCell ⟨b,1,none⟩ (.int .u8 (↑p.items.length+↑k))) b (p.grown k)):=by
  show qn _ b (p.grown k)
  refine⟨?_,HH.out.ok.grown k hf hl⟩
  have h1:=(HH.out.bs.kept (T:=fun _=>False) (w':=w.drewN (n1+1)) kD (fun hf=>hf)).set 1 (UInt8.ofNat (p.items.length+k))
  rw [jP _ (by omega),←X6 _ _ _ (by omega),HH.out.ok.grown_bytes k hf] at h1
  exact h1
 have HK:Hid (za (fun i=>i=b) w ((w.drewN (n1+1)).setCell ⟨b,1,none⟩ (.int .u8 (↑p.items.length+↑k)))):=
  za.trans (S':=fun i=>i=b) (b:=w.drewN (n1+1)) kD (za.setCell _ _ _ rfl) iL
 generalize (w.drewN (n1+1)).setCell ⟨b,1,none⟩ (.int .u8 (↑p.items.length+↑k))=w2 at*
 have HG:Hid (jR b p.kind p.items.length k=.slice (some ⟨b,4+p.items.length*zi p.kind,none⟩) (k*zi p.kind) (124-p.items.length*zi p.kind)):=rfl
 have HKK:Hid ((p.grown k).kind=p.kind):=rfl
 have hx:((p.items.length:Int)*(zi p.kind:Nat))=((p.items.length*zi p.kind:Nat):Int):=by simp
 have hxy:(p.items.length+k)*zi p.kind=p.items.length*zi p.kind+k*zi p.kind:=Nat.add_mul ..
 have HXY:Hid _:=hxy
 rw [hxy] at hf
 rw [hx]
 clear hx hxy
 generalize p.items.length*zi p.kind=x at*
 generalize k*zi p.kind=z at*
 have hx124:¬124=x:=by omega
 go_wp2_with (go_at_call 125;refine(xm _ b _ HP.out).mono ?_;rintro e w1 ⟨rfl,n3,rfl⟩;unfold xi;rw [HKK.out,Pg.grown_len,HXY.out])
 go_ret
 exact⟨by rw [HG.out];rfl,HP.out.kept (T:=fun _=>False) kD (fun hf=>hf),HK.out.trans (S':=fun _=>False) kD fE⟩
end prog
namespace prog
open ref
def Tr:Nat→Type
 |0=>Nat×List En
 |h+1=>Nat×List (Pl×Tr h)
def Tr.blk:{h:Nat}→Tr h→Nat
 |0,t=>t.1
 |_+1,t=>t.1
def Tr.items:{h:Nat}→Tr h→List En
 |0,t=>t.2
 |_+1,t=>t.2.map fun c=>⟨c.1,false,0,c.2.blk⟩
def zJ:Nat→Nat
 |0=>5
 |_+1=>4
def Tr.ents:{h:Nat}→Tr h→List En
 |0,t=>t.2
 |h+1,t=>(t.2.map fun c=>Tr.ents (h:=h) c.2).flatten
def Tr.blocks:{h:Nat}→Tr h→List Nat
 |0,t=>[t.1]
 |h+1,t=>t.1::(t.2.map fun c=>Tr.blocks (h:=h) c.2).flatten
def Tr.Lay(rd:Nat→List UInt8):{h:Nat}→Tr h→Prop
 |0,t=>rd t.1=(zc 5 t.2).bytes
 |h+1,t=>rd t.1=(zc 4 (Tr.items (h:=h+1) t)).bytes∧∀c∈t.2,Tr.Lay rd (h:=h) c.2
def zF{h:Nat}(cs:List (Pl×Tr h)):List En:=(cs.map fun c=>c.2.ents).flatten
def zw{h:Nat}(cs:List (Pl×Tr h)):List Nat:=(cs.map fun c=>c.2.blocks).flatten
theorem zt{h:Nat}(A B:List (Pl×Tr h)):zF (A++B)=zF A++zF B:=by simp [zF]
theorem zo{h:Nat}(c:Pl×Tr h)(B:List (Pl×Tr h)):zF (c::B)=c.2.ents++zF B:=by simp [zF]
theorem z9{h:Nat}(A B:List (Pl×Tr h)):zw (A++B)=zw A++zw B:=by simp [zw]
theorem qj{h:Nat}(c:Pl×Tr h)(B:List (Pl×Tr h)):zw (c::B)=c.2.blocks++zw B:=by simp [zw]
theorem Tr.ents_succ{h:Nat}(t:Tr (h+1)):t.ents=zF t.2:=rfl
theorem Tr.blocks_succ{h:Nat}(t:Tr (h+1)):t.blocks=t.1::zw t.2:=rfl
theorem Tr.blk_mem:∀{h:Nat} (t:Tr h),t.blk∈t.blocks
 |0,t=>List.mem_singleton.2 rfl
 |_+1,t=>List.mem_cons_self ..
structure Pl.Ok (p:Pl):Prop where
 key:p.key.data.toList.length≤8
 zero:(0:UInt8)∉p.key.data.toList
 num0:0≤p.num
 num1:p.num<9223372036854775808
theorem En.Ok.pl{e:En}(h:e.Ok):e.pl.Ok:=⟨h.key,h.zero,h.num0,h.num1⟩
theorem Pl.Ok.en{p:Pl}(h:p.Ok){n:Nat}(hn:n<65536):En.Ok ⟨p,false,0,n⟩:=⟨h.key,h.zero,h.num0,h.num1,by simp,by simp,hn⟩
def qX(l:List En):Prop:=l.Pairwise fun a b=>a.pl.lt b.pl=true
def Tr.First:{h:Nat}→Tr h→Pl→Prop
 |0,_,_=>True
 |_+1,t,p=>∃u r,t.2=(p,u)::r
def uX{h:Nat}(cs:List (Pl×Tr h)):Prop:=
 ∀A p t B,cs=A++(p,t)::B→(∀e∈zF A,e.pl.lt p=true)∧(∀e∈zF ((p,t)::B),¬e.pl.lt p=true)∧t.First p
def Tr.Good:{h:Nat}→Tr h→Prop
 |0,t=>t.1<65536∧∀e∈t.2,e.Ok
 |h+1,t=>t.1<65536∧(∀c∈t.2,Tr.Good (h:=h) c.2∧(c.2.items).length≤6∧c.1.Ok)∧t.2.Pairwise (fun a b=>a.1.lt b.1=true)∧uX t.2∧∀c∈t.2,3≤(c.2.items).length
structure Kids {h:Nat} (cs:List (Pl×Tr h)):Prop where
 good:∀c∈cs,c.2.Good∧c.2.items.length≤6∧c.1.Ok
 places:cs.Pairwise fun a b=>a.1.lt b.1=true
 seps:uX cs
theorem Tr.Good.kids{h:Nat}{t:Tr (h+1)}(g:t.Good):Kids t.2:=⟨g.2.1,g.2.2.1,g.2.2.2.1⟩
theorem Tr.Good.full{h:Nat}{t:Tr (h+1)}(g:t.Good):∀c∈t.2,3≤c.2.items.length:=g.2.2.2.2
theorem Tr.Good.blk:∀{h:Nat} {t:Tr h},t.Good→t.blk<65536
 |0,_,g=>g.1
 |_+1,_,g=>g.1
theorem Kids.node{h:Nat}{cs:List (Pl×Tr h)}(k:Kids cs)(f:∀c∈cs,3≤c.2.items.length){b:Nat}(hb:b<65536):Tr.Good (h:=h+1) (b,cs):=⟨hb,k.good,k.places,k.seps,f⟩
theorem Tr.Good.items_ok:∀{h:Nat} {t:Tr h},t.Good→∀e∈t.items,e.Ok
 |0,_,g,e,he=>g.2 e he
 |h+1,t,g,e,he=>by
  obtain⟨c,hc,rfl⟩:=List.mem_map.1 he
  have:=g.kids.good c hc
  exact this.2.2.en this.1.blk
theorem yn{h:Nat}(t:Tr (h+1)):t.items.length=t.2.length:=by simp [Tr.items]
theorem Tr.Good.some_ent:∀{h:Nat} {t:Tr h},t.Good→1≤t.items.length→∃e,e∈t.ents
 |0,t,_,hl=>by
  have:t.2≠[]:=fun e=>by simp [Tr.items,e] at hl
  obtain⟨e,r,he⟩:=List.exists_cons_of_ne_nil this
  exact⟨e,by show e∈t.2;rw [he];exact List.mem_cons_self ..⟩
 |h+1,t,g,hl=>by
  rw [yn] at hl
  have:t.2≠[]:=fun e=>by simp [e] at hl
  obtain⟨c,r,hc⟩:=List.exists_cons_of_ne_nil this
  have hm:c∈t.2:=by rw [hc];exact List.mem_cons_self ..
  obtain⟨e,he⟩:=(g.kids.good c hm).1.some_ent (by have:=g.full c hm;omega)
  exact⟨e,by rw [Tr.ents_succ,hc,zo];exact List.mem_append_left _ he⟩
theorem uX.left{h:Nat}{A B:List (Pl×Tr h)}(s:uX (A++B)):uX A:=fun A' p t B' e=>by
 obtain⟨h1,h2,h3⟩:=s A' p t (B'++B) (by rw [e];simp)
 exact⟨h1,fun x hx=>h2 x (by rw [show (p,t)::(B'++B)=((p,t)::B')++B from rfl,zt];exact List.mem_append_left _ hx),h3⟩
theorem uX.right{h:Nat}{A B:List (Pl×Tr h)}(s:uX (A++B)):uX B:=fun A' p t B' e=>by
 obtain⟨h1,h2,h3⟩:=s (A++A') p t B' (by rw [e];simp)
 exact⟨fun x hx=>h1 x (by rw [zt];exact List.mem_append_right _ hx),h2,h3⟩
theorem Kids.left{h:Nat}{A B:List (Pl×Tr h)}(k:Kids (A++B)):Kids A:=⟨fun c hc=>k.good c (List.mem_append_left _ hc),(List.pairwise_append.1 k.places).1,k.seps.left⟩
theorem Kids.right{h:Nat}{A B:List (Pl×Tr h)}(k:Kids (A++B)):Kids B:=⟨fun c hc=>k.good c (List.mem_append_right _ hc),(List.pairwise_append.1 k.places).2.1,k.seps.right⟩
theorem Kids.nil{h:Nat}:Kids ([]:List (Pl×Tr h)):=⟨fun _ h=>(nomatch h),List.Pairwise.nil,fun A p t B e=>by simp at e⟩
theorem uX.join{h:Nat}{A B:List (Pl×Tr h)}{p:Pl}{t:Tr h}(sa:uX A)(sb:uX ((p,t)::B))(hA:∀e∈zF A,e.pl.lt p=true)(hp1:∀a∈A,a.1.lt p=true)(hp2:∀b∈B,p.lt b.1=true):uX (A++(p,t)::B):=by
 obtain⟨_,hB,hf⟩:=sb [] p t B rfl
 intro A' q u B' e
 rcases List.append_eq_append_iff.1 e with⟨m,h1,h2⟩|⟨m,h1,h2⟩
 ·cases m with
  |nil=>
   simp only [List.append_nil] at h1
   simp only [List.nil_append,List.cons.injEq,Prod.mk.injEq] at h2
   obtain⟨⟨rfl,rfl⟩,rfl⟩:=h2
   subst h1
   exact⟨hA,hB,hf⟩
  |cons c m=>
   obtain⟨g1,g2,g3⟩:=sb (c::m) q u B' h2
   refine⟨fun x hx=>?_,g2,g3⟩
   rw [h1,zt] at hx
   rcases List.mem_append.1 hx with hx|hx
   ·have hq:(q,u)∈B:=by simp only [List.cons_append,List.cons.injEq] at h2;rw [h2.2];simp
    exact Pl.trans (hA x hx) (hp2 _ hq)
   ·exact g1 x hx
 ·cases m with
  |nil=>
   simp only [List.append_nil] at h1
   simp only [List.nil_append,List.cons.injEq,Prod.mk.injEq] at h2
   obtain⟨⟨rfl,rfl⟩,rfl⟩:=h2
   subst h1
   exact⟨hA,hB,hf⟩
  |cons c m=>
   simp only [List.cons_append,List.cons.injEq] at h2
   obtain⟨rfl,h2⟩:=h2
   obtain⟨g1,g2,g3⟩:=sa A' q u m h1
   refine⟨g1,fun x hx=>?_,g3⟩
   rw [h2,show (q,u)::(m++(p,t)::B)=((q,u)::m)++(p,t)::B from rfl,zt] at hx
   rcases List.mem_append.1 hx with hx|hx
   ·exact g2 x hx
   ·exact fun hlt=>hB x hx (Pl.trans hlt (hp1 (q,u) (by rw [h1];simp)))
theorem Kids.join{h:Nat}{A B:List (Pl×Tr h)}{p:Pl}{t:Tr h}(ka:Kids A)(kb:Kids ((p,t)::B))(hA:∀e∈zF A,e.pl.lt p=true)(hp1:∀a∈A,a.1.lt p=true):Kids (A++(p,t)::B) where
 good:=fun c hc=>(List.mem_append.1 hc).elim (ka.good c) (kb.good c)
 places:=List.pairwise_append.2 ⟨ka.places,kb.places,fun a ha b hb=>by
  rcases List.mem_cons.1 hb with rfl|hb
  ·exact hp1 a ha
  ·exact Pl.trans (hp1 a ha) ((List.pairwise_cons.1 kb.places).1 b hb)⟩
 seps:=ka.seps.join kb.seps hA hp1 (fun b hb=>(List.pairwise_cons.1 kb.places).1 b hb)
theorem Kids.mid{h:Nat}{A B:List (Pl×Tr h)}{p:Pl}{t:Tr h}(k:Kids (A++(p,t)::B)):(∀a∈A,a.1.lt p=true)∧(∀b∈B,p.lt b.1=true)∧(∀e∈zF A,e.pl.lt p=true)∧(∀e∈zF ((p,t)::B),¬e.pl.lt p=true)∧t.First p∧
 (∀b∈B,∀e∈zF A++t.ents,e.pl.lt b.1=true)∧(∀b∈B,∀e∈b.2.ents,¬e.pl.lt b.1=true):=by
 have hp:=List.pairwise_append.1 k.places
 obtain⟨s1,s2,s3⟩:=k.seps A p t B rfl
 refine⟨fun a ha=>hp.2.2 a ha _ (List.mem_cons_self ..),(List.pairwise_cons.1 hp.2.1).1,s1,s2,s3,fun b hb e he=>?_,fun b hb e he=>?_⟩
 ·obtain⟨B1,B2,rfl⟩:=List.append_of_mem hb
  obtain⟨q,u⟩:=b
  have:=(k.seps (A++(p,t)::B1) q u B2 (by simp)).1 e
  refine this ?_
  rw [zt,zo]
  rcases List.mem_append.1 he with he|he
  ·exact List.mem_append_left _ he
  ·exact List.mem_append_right _ (List.mem_append_left _ he)
 ·obtain⟨B1,B2,rfl⟩:=List.append_of_mem hb
  obtain⟨q,u⟩:=b
  exact(k.seps (A++(p,t)::B1) q u B2 (by simp)).2.1 e (by rw [zo];exact List.mem_append_left _ he)
theorem Kids.cons{h:Nat}{B:List (Pl×Tr h)}{p:Pl}{u:Tr h}(kb:Kids B)(g:u.Good)(hl:u.items.length≤6)(hp:p.Ok)(hf:u.First p)(h1:∀e∈u.ents,¬e.pl.lt p=true)(h2:∀b∈B,p.lt b.1=true)(h3:∀b∈B,∀e∈u.ents,e.pl.lt b.1=true):Kids ((p,u)::B) where
 good:=fun c hc=>by
  rcases List.mem_cons.1 hc with rfl|hc
  ·exact⟨g,hl,hp⟩
  ·exact kb.good c hc
 places:=List.pairwise_cons.2 ⟨h2,kb.places⟩
 seps:=by
  intro A q v B' e
  cases A with
  |nil=>
   simp only [List.nil_append,List.cons.injEq,Prod.mk.injEq] at e
   obtain⟨⟨rfl,rfl⟩,rfl⟩:=e
   refine⟨fun x hx=>(nomatch hx),fun x hx=>?_,hf⟩
   rw [zo] at hx
   rcases List.mem_append.1 hx with hx|hx
   ·exact h1 x hx
   ·obtain⟨l,hl,hx'⟩:=List.mem_flatten.1 hx
    obtain⟨c,hc,rfl⟩:=List.mem_map.1 hl
    obtain⟨B1,B2,rfl⟩:=List.append_of_mem hc
    obtain⟨r,y⟩:=c
    have:=(kb.seps B1 r y B2 rfl).2.1 x (by rw [zo];exact List.mem_append_left _ hx')
    exact fun hlt=>this (Pl.trans hlt (h2 _ hc))
  |cons c A=>
   simp only [List.cons_append,List.cons.injEq] at e
   obtain⟨rfl,e⟩:=e
   obtain⟨g1,g2,g3⟩:=kb.seps A q v B' e
   refine⟨fun x hx=>?_,g2,g3⟩
   rw [zo] at hx
   rcases List.mem_append.1 hx with hx|hx
   ·exact h3 (q,v) (by rw [e];simp) x hx
   ·exact g1 x hx
theorem Kids.swap{h:Nat}{A B:List (Pl×Tr h)}{p:Pl}{t u:Tr h}(k:Kids (A++(p,t)::B))(g:u.Good)(hl:u.items.length≤6)(hf:u.First p)
 (h1:∀e∈u.ents,¬e.pl.lt p=true) (h2:∀b∈B,∀e∈u.ents,e.pl.lt b.1=true):Kids (A++(p,u)::B):=by
 obtain⟨m1,m2,m3,m4,m5,m6,m7⟩:=k.mid
 have kr:=k.right
 have kb:Kids B:=Kids.right (A:=[(p,t)]) kr
 exact k.left.join (kb.cons g hl (kr.good (p,t) (List.mem_cons_self ..)).2.2 hf h1 m2 h2) m3 m1
theorem Kids.parted{h:Nat}{A B:List (Pl×Tr h)}{p q:Pl}{t u v:Tr h}(k:Kids (A++(p,t)::B))(gu:u.Good)(gv:v.Good)(lu:u.items.length≤6)(lv:v.items.length≤6)(hq:q.Ok)(hf:u.First p)(hfv:v.First q)
 (hpq:p.lt q=true) (hu:∀e∈u.ents,e.pl.lt q=true) (hv:∀e∈v.ents,¬e.pl.lt q=true) (h1:∀e∈u.ents,¬e.pl.lt p=true) (h2:∀b∈B,∀e∈v.ents,e.pl.lt b.1=true) (h3:∀b∈B,q.lt b.1=true):Kids (A++(p,u)::(q,v)::B):=by
 obtain⟨m1,m2,m3,m4,m5,m6,m7⟩:=k.mid
 have kr:=k.right
 have kb:Kids B:=Kids.right (A:=[(p,t)]) kr
 have kv:Kids ((q,v)::B):=kb.cons gv lv hq hfv hv h3 h2
 refine k.left.join (kv.cons gu lu (kr.good (p,t) (List.mem_cons_self ..)).2.2 hf h1 ?_ ?_) m3 m1
 ·intro b hb
  rcases List.mem_cons.1 hb with rfl|hb
  ·exact hpq
  ·exact m2 b hb
 ·intro b hb e he
  rcases List.mem_cons.1 hb with rfl|hb
  ·exact hu e he
  ·exact Pl.trans (hu e he) (h3 b hb)
def zm(l:List En)(p:Pl):Nat:=(l.filter fun x=>x.pl.lt p).length
theorem qX.cut{l:List En}(h:qX l)(p:Pl):l.take (zm l p)=l.filter (fun x=>x.pl.lt p)∧l.drop (zm l p)=l.filter (fun x=> !x.pl.lt p):=by
 induction l with
 |nil=>simp [zm]
 |cons a l ih=>
  unfold qX at h
  rw [List.pairwise_cons] at h
  cases ha:a.pl.lt p with
  |true=>
   obtain⟨h1,h2⟩:=ih h.2
   have e:zm (a::l) p=zm l p+1:=by simp [zm,ha]
   rw [e,List.take_succ_cons,List.drop_succ_cons,h1,h2]
   simp [ha]
  |false=>
   have hn:∀x∈l,x.pl.lt p=false:=fun x hx=>by
    cases hx2:x.pl.lt p with
    |false=>rfl
    |true=>have:=Pl.trans (h.1 x hx) hx2;rw [ha] at this;cases this
   have e:zm (a::l) p=0:=by simp [zm,ha];exact hn
   have e1:l.filter (fun x=>x.pl.lt p)=[]:=List.filter_eq_nil_iff.2 (fun x hx=>by rw [hn x hx];simp)
   have e2:l.filter (fun x=> !x.pl.lt p)=l:=List.filter_eq_self.2 (fun x hx=>by rw [hn x hx];rfl)
   rw [e];simp [ha,e1,e2]
theorem xf(l:List En)(p:Pl):zm l p≤l.length:=List.length_filter_le _ _
theorem qX.at_lt{l:List En}(h:qX l)(p:Pl)(i:Nat)(hi:i<l.length):l[i].pl.lt p=decide (i<zm l p):=by
 obtain⟨h1,h2⟩:=h.cut p
 by_cases hl:i<zm l p
 ·rw [decide_eq_true hl]
  have hm:l[i]∈l.take (zm l p):=List.mem_take_iff_getElem.2 ⟨i,by omega,rfl⟩
  rw [h1,List.mem_filter] at hm
  exact hm.2
 ·rw [decide_eq_false hl]
  have hm:l[i]∈l.drop (zm l p):=List.mem_drop_iff_getElem.2 ⟨i-zm l p,by omega,by congr 1;omega⟩
  rw [h2,List.mem_filter] at hm
  simpa using hm.2
def qY(e:En)(l:List En):List En:=l.filter (fun x=>x.pl.lt e.pl)++e::l.filter (fun x=> !x.pl.lt e.pl)
theorem je{e x:En}{l:List En}:x∈qY e l↔x=e∨x∈l:=by
 simp only [qY,List.mem_append,List.mem_cons,List.mem_filter,Bool.not_eq_true']
 constructor
 ·rintro(h|h|h)
  ·exact .inr h.1
  ·exact .inl h
  ·exact .inr h.1
 ·rintro(h|h)
  ·exact .inr (.inl h)
  ·cases hx:x.pl.lt e.pl with
   |true=>exact .inl ⟨h,rfl⟩
   |false=>exact .inr (.inr ⟨h,rfl⟩)
theorem jf(e:En)(l:List En):(qY e l).Perm (e::l):=by
 unfold qY
 refine List.perm_middle.trans (List.Perm.cons e ?_)
 induction l with
 |nil=>exact List.Perm.refl _
 |cons a l ih=>
  cases ha:a.pl.lt e.pl with
  |true=>simp only [List.filter_cons,ha,Bool.not_true,if_true,Bool.false_eq_true,if_false,List.cons_append];exact ih.cons a
  |false=>simp only [List.filter_cons,ha,Bool.not_false,if_true,Bool.false_eq_true,if_false];exact List.perm_middle.trans (ih.cons a)
theorem qX.ins{e:En}{l:List En}(h:qX l)(hn:∀x∈l,x.pl≠e.pl):qX (qY e l):=by
 unfold qX qY
 refine List.pairwise_append.2 ⟨h.filter _,List.pairwise_cons.2 ⟨fun x hx=>?_,h.filter _⟩,fun x hx y hy=>?_⟩
 ·rw [List.mem_filter] at hx
  exact Pl.total (fun e2=>hn x hx.1 e2) (by simpa using hx.2)
 ·rw [List.mem_filter] at hx
  rcases List.mem_cons.1 hy with rfl|hy
  ·exact hx.2
  ·rw [List.mem_filter] at hy
   exact Pl.lt_of_lt_not hx.2 (by simpa using hy.2)
theorem X7{e:En}{A M B:List En}(hA:∀x∈A,x.pl.lt e.pl=true)(hB:∀x∈B,x.pl.lt e.pl=false):qY e (A++(M++B))=A++(qY e M++B):=by
 have a1:A.filter (fun x=>x.pl.lt e.pl)=A:=List.filter_eq_self.2 hA
 have a2:A.filter (fun x=> !x.pl.lt e.pl)=[]:=List.filter_eq_nil_iff.2 (fun x hx=>by rw [hA x hx];simp)
 have b1:B.filter (fun x=>x.pl.lt e.pl)=[]:=List.filter_eq_nil_iff.2 (fun x hx=>by rw [hB x hx];simp)
 have b2:B.filter (fun x=> !x.pl.lt e.pl)=B:=List.filter_eq_self.2 (fun x hx=>by rw [hB x hx];rfl)
 simp [qY,a1,a2,b1,b2]
theorem qX.ins_at{e:En}{l:List En}(h:qX l):l.take (zm l e.pl)++e::l.drop (zm l e.pl)=qY e l:=by
 obtain⟨h1,h2⟩:=h.cut e.pl
 rw [h1,h2];rfl
def qJ(p:Pl)(l:List En):List En:=l.filter fun x=>decide (x.pl≠p)
theorem xn{p:Pl}{l:List En}(h:∀x∈l,x.pl≠p):qJ p l=l:=List.filter_eq_self.2 (fun x hx=>by simpa using h x hx)
theorem xP(p:Pl)(A B:List En):qJ p (A++B)=qJ p A++qJ p B:=by simp [qJ]
theorem gU{p:Pl}{x:En}{l:List En}:x∈qJ p l↔x∈l∧x.pl≠p:=by simp [qJ]
theorem qX.del{p:Pl}{l:List En}(h:qX l):qX (qJ p l):=List.Pairwise.filter _ h
theorem qX.apart{l:List En}(h:qX l):∀(i j:Nat) (hi:i<l.length) (hj:j<l.length),l[i].pl=l[j].pl→i=j:=fun i j hi hj e=>by
 rcases Nat.lt_trichotomy i j with h1|h1|h1
 ·have:=List.pairwise_iff_getElem.1 h i j hi hj h1
  rw [e] at this;exact absurd this (Pl.irrefl _)
 ·exact h1
 ·have:=List.pairwise_iff_getElem.1 h j i hj hi h1
  rw [e] at this;exact absurd this (Pl.irrefl _)
theorem qX.find{l:List En}(h:qX l)(p:Pl):(∀(hi:zm l p<l.length),l[zm l p].pl=p→l.take (zm l p)++l.drop (zm l p+1)=qJ p l)∧
 ((∀(hi:zm l p<l.length),l[zm l p].pl≠p)→∀x∈l,x.pl≠p):=by
 obtain⟨h1,h2⟩:=h.cut p
 constructor
 ·intro hi he
  have e0:l=l.take (zm l p)++l[zm l p]::l.drop (zm l p+1):=by rw [←List.drop_eq_getElem_cons,List.take_append_drop]
  have hs:∀x∈l.take (zm l p),x.pl≠p:=fun x hx e=>by
   rw [h1,List.mem_filter,e] at hx;exact Pl.irrefl _ hx.2
  have ht:∀x∈l.drop (zm l p+1),x.pl≠p:=fun x hx e=>by
   unfold qX at h
   rw [e0] at h
   have:=(List.pairwise_cons.1 (List.pairwise_append.1 h).2.1).1 x hx
   rw [he,e] at this;exact Pl.irrefl _ this
  conv=>rhs;rw [e0]
  rw [xP,xn hs,show qJ p (l[zm l p]::l.drop (zm l p+1))=qJ p (l.drop (zm l p+1)) from by unfold qJ;rw [List.filter_cons,if_neg (by simp [he])],xn ht]
 ·intro hn x hx e
  obtain⟨i,hi,rfl⟩:=List.getElem_of_mem hx
  have hlt:=h.at_lt p i hi
  rw [e] at hlt
  have hge:¬i<zm l p:=fun hc=>by rw [decide_eq_true hc] at hlt;exact Pl.irrefl _ hlt
  have hi2:zm l p<l.length:=by omega
  by_cases h3:zm l p=i
  ·exact hn hi2 (by simp only [h3];exact e)
  ·have:=List.pairwise_iff_getElem.1 h (zm l p) i hi2 hi (by omega)
   have h4:=h.at_lt p _ hi2
   rw [e] at this
   rw [this] at h4
   simp at h4
def zv(l:List En)(p:Pl):Nat:=if h:zm l p<l.length then (if l[zm l p].pl=p then zm l p else zm l p-1) else zm l p-1
theorem dt{l:List En}(p:Pl)(h:l≠[]):zv l p<l.length:=by
 have:=xf l p
 have:0<l.length:=List.length_pos_iff.2 h
 unfold zv
 split
 ·split<;>omega
 ·omega
theorem Kids.items_srt{h:Nat}{cs:List (Pl×Tr h)}(k:Kids cs):qX (cs.map fun c=>(⟨c.1,false,0,c.2.blk⟩:En)):=List.Pairwise.map _ (fun _ _ h=>h) k.places
theorem Kids.child{h:Nat}{cs:List (Pl×Tr h)}(k:Kids cs)(hn:cs≠[])(p:Pl):∃A q t B,cs=A++(q,t)::B∧A.length=zv (cs.map fun c=>(⟨c.1,false,0,c.2.blk⟩:En)) p∧(A≠[]→¬p.lt q=true)∧(∀b∈B,p.lt b.1=true):=by
 have hs:=k.items_srt
 generalize hl:(cs.map fun c=>(⟨c.1,false,0,c.2.blk⟩:En))=l at hs ⊢
 have hll:l.length=cs.length:=by rw [←hl];simp
 have hget:∀i (hi:i<cs.length),l[i]'(by omega)=⟨cs[i].1,false,0,cs[i].2.blk⟩:=fun i hi=>by subst hl;simp
 have hne:l≠[]:=fun e=>hn (List.eq_nil_of_length_eq_zero (by rw [←hll,e];rfl))
 have hc:=dt p hne
 have hc':zv l p<cs.length:=by omega
 have e0:cs=cs.take (zv l p)++cs[zv l p]::cs.drop (zv l p+1):=by rw [←List.drop_eq_getElem_cons,List.take_append_drop]
 have hfl:=xf l p
 refine⟨cs.take (zv l p),cs[zv l p].1,cs[zv l p].2,cs.drop (zv l p+1),e0,by simp;omega,fun hA=>?_,fun b hb=>?_⟩
 ·
  have hpos:0<zv l p:=by
   rcases Nat.eq_zero_or_pos (zv l p) with h0|h0
   ·rw [h0] at hA;simp at hA
   ·exact h0
  have h1:=hs.at_lt p (zv l p) hc
  rw [hget _ hc'] at h1
  simp only at h1
  by_cases hlt:zv l p<zm l p
  ·rw [decide_eq_true hlt] at h1;exact Pl.asymm h1
  ·
   have:∃hi:zm l p<l.length,l[zm l p].pl=p∧zv l p=zm l p:=by
    unfold zv at hlt hpos ⊢
    split at hlt
    next hi=>
     split at hlt
     next he=>exact⟨hi,he,by rw [dif_pos hi,if_pos he]⟩
     next he=>rw [dif_pos hi,if_neg he] at hpos;omega
    next hi=>rw [dif_neg hi] at hpos;omega
   obtain⟨hi,he,h2⟩:=this
   have h3:cs[zv l p].1=p:=by
    have:=hget (zm l p) (by omega)
    rw [this] at he
    simp only [h2];exact he
   rw [h3];exact Pl.irrefl _
 ·
  obtain⟨i,hi,rfl⟩:=List.mem_drop_iff_getElem.1 hb
  have hib:zv l p+1+i<cs.length:=by omega
  have hlt:(cs[zv l p].1).lt (cs[zv l p+1+i].1)=true:=List.pairwise_iff_getElem.1 k.places _ _ hc' hib (by omega)
  have h1:=hs.at_lt p (zv l p+1+i) (by omega)
  rw [hget _ hib] at h1
  simp only at h1
  have hcf:zm l p≤zv l p+1:=by
   unfold zv;split
   ·split<;>omega
   ·omega
  rw [decide_eq_false (by omega)] at h1
  by_cases he:cs[zv l p+1+i].1=p
  ·
   have h5:zm l p=zv l p+1+i:=by
    have h6:=hs.find p
    by_cases hx:∃hi:zm l p<l.length,l[zm l p].pl=p
    ·obtain⟨hi2,he2⟩:=hx
     exact hs.apart _ _ hi2 (by omega) (by rw [he2,hget _ hib];exact he.symm)
    ·exact absurd (by rw [hget _ hib];exact he) (h6.2 (fun hi2 he2=>hx ⟨hi2,he2⟩) (l[zv l p+1+i]'(by omega)) (List.getElem_mem _))
   have h7:zv l p=zm l p:=by
    have hi2:zm l p<l.length:=by omega
    have he2:l[zm l p].pl=p:=by
     have:=hget (zv l p+1+i) hib
     simp only [h5];rw [this];exact he
    unfold zv;rw [dif_pos hi2,if_pos he2]
   omega
  ·exact Pl.total he (by rw [h1];simp)
end prog
end Go.Proofs.YtcoengihaobddaaGreatDoor
