/- Part 15 of 34 of a proof: Pg1, Pg2, Blk1, Blk2, Pg3, Blk3, Tr1, Tr2 -/
import Derived.Test.YtcoengihaobddaaGreatDoorJk02
set_option maxHeartbeats 8000000
set_option linter.unusedVariables false
set_option linter.unusedSimpArgs false
set_option maxRecDepth 8000
namespace Go.Proofs.YtcoengihaobddaaGreatDoor
namespace prog
def numOf(l:List UInt8):Nat:=l.foldl (fun n b=>n*256+b.toNat) 0
def bytesOf:Nat→Nat→List UInt8
 |0,_=>[]
 |k+1,n=>bytesOf k (n/256)++[UInt8.ofNat (n%256)]
theorem zP:∀k n,(bytesOf k n).length=k
 |0,_=>rfl
 |k+1,n=>by simp [bytesOf,zP k]
theorem gQ(l:List UInt8)(b:UInt8):numOf (l++[b])=numOf l*256+b.toNat:=by simp [numOf]
theorem q9:∀k n,n<256^k→numOf (bytesOf k n)=n
 |0,n,h=>by simp at h;subst h;rfl
 |k+1,n,h=>by
  rw [bytesOf,gQ,q9 k (n/256) (by rw [Nat.pow_succ] at h;exact Nat.div_lt_of_lt_mul (by omega))]
  simp;omega
theorem vu:∀k,bytesOf k 0=List.replicate k 0
 |0=>rfl
 |k+1=>by rw [bytesOf,Nat.zero_div,vu k,List.replicate_succ'];rfl
def zk:Nat→Nat
 |1=>2
 |2=>8
 |3=>1
 |4=>18
 |5=>20
 |6=>1
 |_=>0
def room(k:Nat):Nat:=124/zk k
structure Pg where
 kind:Nat
 link:Nat
 items:List (List UInt8)
structure Pg.Ok (p:Pg):Prop where
 kind:p.kind≤6
 link:p.link<65536
 wide:∀i∈p.items,i.length=zk p.kind
 fits:p.items.length*zk p.kind≤124
 few:p.items.length≤124
def Pg.bytes(p:Pg):List UInt8:=UInt8.ofNat p.kind::UInt8.ofNat p.items.length::bytesOf 2 p.link++p.items.flatten++List.replicate (124-p.items.length*zk p.kind) 0
theorem xg(c:Nat):∀(l:List (List UInt8)),(∀b∈l,b.length=c)→l.flatten.length=l.length*c
 |[],_=>by simp
 |b::l,h=>by
  rw [List.flatten_cons,List.length_append,xg c l (fun x hx=>h x (List.mem_cons_of_mem _ hx)),h b (List.mem_cons_self ..),List.length_cons,Nat.add_mul];omega
theorem Pg.Ok.len{p:Pg}(h:p.Ok):p.bytes.length=128:=by
 have:=h.fits
 simp [Pg.bytes,zP]
 have e:=xg _ p.items h.wide
 rw [List.length_flatten] at e
 omega
def Pg.new(k:Nat):Pg:=⟨k,0,[]⟩
theorem Pg.new_ok(k:Nat)(h:k≤6):(Pg.new k).Ok where
 kind:=h
 link:=by simp [Pg.new]
 wide:=fun _ h=>nomatch h
 fits:=by simp [Pg.new]
 few:=by simp [Pg.new]
theorem Pg.new_bytes(k:Nat):(Pg.new k).bytes=UInt8.ofNat k::List.replicate 127 0:=by
 simp [Pg.bytes,Pg.new,vu]
theorem Pg.nought:(Pg.new 0).bytes=List.replicate 128 0:=by rw [Pg.new_bytes];rfl
theorem Pg.at0(p:Pg):p.bytes[0]? =some (UInt8.ofNat p.kind):=rfl
theorem Pg.at1(p:Pg):p.bytes[1]? =some (UInt8.ofNat p.items.length):=rfl
theorem Pg.front(p:Pg):(p.bytes.drop 2).take 2=bytesOf 2 p.link:=by
 have:(bytesOf 2 p.link).length=2:=zP 2 _
 simp only [Pg.bytes,List.cons_append,List.drop_succ_cons,List.drop_zero,List.append_assoc]
 conv=>lhs;arg 1;rw [←this]
 exact List.take_left
theorem Pg.behind(p:Pg):p.bytes.drop 4=p.items.flatten++List.replicate (124-p.items.length*zk p.kind) 0:=by
 have:(bytesOf 2 p.link).length=2:=zP 2 _
 simp only [Pg.bytes,List.cons_append,List.drop_succ_cons,List.append_assoc]
 conv=>lhs;rw [←this]
 exact List.drop_left
theorem gR(c:Nat):∀(l:List (List UInt8)) (r:List UInt8),(∀b∈l,b.length=c)→∀i (h:i<l.length),((l.flatten++r).drop (i*c)).take c=l[i]
 |[],_,_,i,h=>by simp at h
 |b::l,r,hb,0,_=>by
  have:=hb b (List.mem_cons_self ..)
  simp only [Nat.zero_mul,List.drop_zero,List.flatten_cons,List.append_assoc,List.getElem_cons_zero]
  rw [←this,List.take_left]
 |b::l,r,hb,i+1,h=>by
  have e:=hb b (List.mem_cons_self ..)
  simp only [List.flatten_cons,List.append_assoc,List.getElem_cons_succ]
  rw [Nat.add_mul,Nat.one_mul,Nat.add_comm,←List.drop_drop]
  conv=>lhs;rw [show (b++(l.flatten++r)).drop c=l.flatten++r from by rw [←e];exact List.drop_left]
  exact gR c l r (fun x hx=>hb x (List.mem_cons_of_mem _ hx)) i (by simpa using h)
theorem Pg.Ok.item{p:Pg}(h:p.Ok)(i:Nat)(hi:i<p.items.length):(p.bytes.drop (4+i*zk p.kind)).take (zk p.kind)=p.items[i]:=by
 rw [←List.drop_drop,p.behind]
 exact gR _ _ _ h.wide i hi
theorem Pg.Ok.all{p:Pg}(h:p.Ok):(p.bytes.drop 4).take (p.items.length*zk p.kind)=p.items.flatten:=by
 rw [p.behind,←xg _ p.items h.wide,List.take_left]
def qw(l:List UInt8)(o:Nat)(v:List UInt8):List UInt8:=l.take o++v++l.drop (o+v.length)
theorem xA(l:List UInt8)(o:Nat)(v:List UInt8)(h:o+v.length≤l.length):(qw l o v).length=l.length:=by
 simp [qw];omega
def Pg.push(p:Pg)(v:List UInt8):Pg:={p with items:=p.items++[v]}
def Pg.setLink(p:Pg)(n:Nat):Pg:={p with link:=n}
theorem Pg.setLink_bytes(p:Pg)(n:Nat):qw p.bytes 2 (bytesOf 2 n)=(p.setLink n).bytes:=by
 have h1:(bytesOf 2 n).length=2:=zP 2 _
 have h2:(bytesOf 2 p.link).length=2:=zP 2 _
 have hd:p.bytes.drop (2+2)=_:=p.behind
 unfold qw
 rw [h1,hd]
 simp [Pg.bytes,Pg.setLink]
end prog
namespace prog
open ref
structure Pl where
 key:ByteArray
 num:Int
deriving DecidableEq
def Pl.lt(a b:Pl):Bool:=y6 a.key b.key||(decide (a.key=b.key)&&decide (b.num<a.num))
theorem Pl.lt_iff(a b:Pl):a.lt b=true↔y6 a.key b.key=true∨(a.key=b.key∧b.num<a.num):=by simp [Pl.lt]
theorem Pl.irrefl(a:Pl):¬a.lt a=true:=by rw [Pl.lt_iff,vk];simp
theorem Pl.trans{a b c:Pl}(h:a.lt b=true)(k:b.lt c=true):a.lt c=true:=by
 rw [Pl.lt_iff] at*
 rcases h with h|⟨h,h'⟩<;>rcases k with k|⟨k,k'⟩
 ·exact .inl (cn h k)
 ·exact .inl (by rw [←k];exact h)
 ·exact .inl (by rw [h];exact k)
 ·exact .inr ⟨h.trans k,by omega⟩
theorem Pl.total{a b:Pl}(h:a≠b)(k:¬a.lt b=true):b.lt a=true:=by
 rw [Pl.lt_iff] at*
 by_cases e:a.key=b.key
 ·right
  refine⟨e.symm,?_⟩
  by_cases h2:b.num<a.num
  ·exact absurd (.inr ⟨e,h2⟩) k
  ·have:a.num≠b.num:=fun e2=>h (by cases a;cases b;simp_all)
   omega
 ·left
  cases h2:y6 a.key b.key with
  |true=>exact absurd (.inl h2) k
  |false=>exact uE e h2
theorem Pl.asymm{a b:Pl}(h:a.lt b=true):¬b.lt a=true:=fun k=>Pl.irrefl a (Pl.trans h k)
theorem Pl.lt_of_not{a b c:Pl}(h:¬b.lt a=true)(k:b.lt c=true):a.lt c=true:=by
 by_cases e:a=b
 ·rw [e];exact k
 ·by_cases h2:a.lt b=true
  ·exact Pl.trans h2 k
  ·exact absurd (Pl.total e h2) h
theorem Pl.lt_of_lt_not{a b c:Pl}(h:a.lt b=true)(k:¬c.lt b=true):a.lt c=true:=by
 by_cases e:b=c
 ·rw [←e];exact h
 ·by_cases h2:b.lt c=true
  ·exact Pl.trans h h2
  ·exact absurd (Pl.total e h2) k
structure En where
 pl:Pl
 mark:Bool
 size:Nat
 at_:Nat
structure En.Ok (e:En):Prop where
 key:e.pl.key.data.toList.length≤8
 zero:(0:UInt8)∉e.pl.key.data.toList
 num0:0≤e.pl.num
 num1:e.pl.num<9223372036854775808
 size:e.size≤300
 mark:e.mark=true→e.size=0
 at_:e.at_<65536
def keyBytes(k:ByteArray):List UInt8:=k.data.toList++List.replicate (8-k.data.toList.length) 0
theorem yD(k:ByteArray)(h:k.data.toList.length≤8):(keyBytes k).length=8:=by simp [keyBytes] at *; omega
def cut(l:List UInt8):List UInt8:=(l.reverse.dropWhile (· ==0)).reverse
theorem cL(l:List UInt8):cut (l++[0])=cut l:=by simp [cut]
theorem Yx(l:List UInt8):∀n,cut (l++List.replicate n 0)=cut l
 |0=>by simp
 |n+1=>by rw [List.replicate_succ',←List.append_assoc,cL,Yx l n]
theorem Jm{l:List UInt8}(h:(0:UInt8)∉l):cut l=l:=by
 unfold cut
 rw [show l.reverse.dropWhile (· ==0)=l.reverse from ?_,List.reverse_reverse]
 cases hl:l.reverse with
 |nil=>rfl
 |cons a r=>
  have:a∈l:=by rw [←List.mem_reverse,hl];exact List.mem_cons_self ..
  rw [List.dropWhile_cons,if_neg]
  intro h0
  exact h (by rw [←eq_of_beq h0];exact this)
theorem Yy(k:ByteArray)(h:(0:UInt8)∉k.data.toList):cut (keyBytes k)=k.data.toList:=by
 rw [keyBytes,Yx,Jm h]
def kQ(p:Pl):List UInt8:=keyBytes p.key++bytesOf 8 p.num.toNat
def qB(e:En):Nat:=if e.mark then 65535 else e.size
def zZ(e:En):List UInt8:=kQ e.pl++bytesOf 2 e.at_
def jg(e:En):List UInt8:=zZ e++bytesOf 2 (qB e)
def xB(k:Nat)(e:En):List UInt8:=if k=5 then jg e else zZ e
theorem yP{e:En}(h:e.Ok):(zZ e).length=18:=by simp [zZ,kQ,zP,yD _ h.key]
theorem bB{e:En}(h:e.Ok):(jg e).length=20:=by simp [jg,yP h,zP]
theorem cM{e:En}(h:e.Ok){k:Nat}(hk:k=4∨k=5):(xB k e).length=zk k:=by
 rcases hk with rfl|rfl
 ·simp [xB,yP h,zk]
 ·simp [xB,bB h,zk]
theorem vv{e:En}(h:e.Ok)(r:List UInt8):(zZ e++r).take 8=keyBytes e.pl.key∧((zZ e++r).drop 8).take 8=bytesOf 8 e.pl.num.toNat∧((zZ e++r).drop 16).take 2=bytesOf 2 e.at_∧(zZ e++r).drop 18=r:=by
 have h1:=yD _ h.key
 have h2:=zP 8 e.pl.num.toNat
 have h3:=zP 2 e.at_
 have e0:zZ e++r=keyBytes e.pl.key++(bytesOf 8 e.pl.num.toNat++(bytesOf 2 e.at_++r)):=by simp [zZ,kQ]
 have td:∀(n:Nat) (x y:List UInt8),x.length=n→(x++y).take n=x∧(x++y).drop n=y:=fun n x y hx=>by
  subst hx;exact⟨List.take_left,List.drop_left⟩
 have d1:=(td 8 _ (bytesOf 8 e.pl.num.toNat++(bytesOf 2 e.at_++r)) h1)
 have d2:=(td 8 _ (bytesOf 2 e.at_++r) h2)
 have d3:=(td 2 _ r h3)
 rw [e0]
 refine⟨d1.1,?_,?_,?_⟩
 ·rw [d1.2];exact d2.1
 ·rw [show (16:Nat)=8+8 from rfl,←List.drop_drop,d1.2,d2.2];exact d3.1
 ·rw [show (18:Nat)=8+8+2 from rfl,←List.drop_drop,←List.drop_drop,d1.2,d2.2];exact d3.2
theorem cN{e:En}(h:e.Ok):((numOf (bytesOf 8 e.pl.num.toNat):Nat):Int)=e.pl.num:=by
 have h0:=h.num0
 have h1:=h.num1
 rw [q9 _ _ (by have:(256:Nat)^8=18446744073709551616:=by decide
                omega)]
 omega
theorem Yz{e:En}(h:e.Ok):numOf (bytesOf 2 e.at_)=e.at_:=q9 _ _ (by have:=h.at_;omega)
theorem Xe{e:En}(h:e.Ok):numOf (bytesOf 2 (qB e))=qB e:=q9 _ _ (by
 have:=h.size
 unfold qB
 split<;>omega)
def za(k:Nat)(es:List En):Pg:=⟨k,0,es.map (xB k)⟩
theorem dr{k:Nat}(hk:k=4∨k=5){es:List En}(h:∀e∈es,e.Ok)(hl:es.length≤6):(za k es).Ok where
 kind:=by rcases hk with rfl|rfl<;>simp [za]
 link:=by simp [za]
 wide:=fun i hi=>by
  obtain⟨e,he,rfl⟩:=List.mem_map.1 hi
  exact cM (h e he) hk
 fits:=by rcases hk with rfl|rfl<;>simp [za,zk]<;>omega
 few:=by simp [za];omega
end prog
namespace prog
open Go.ChangeShapes Go.WideShapes Go.ChangeAt Go.RowKit disk ref
open keys (ze zd zr zn)
theorem gT(l:List UInt8)(k:Nat)(h:k<l.length):numOf (l.take (k+1))=numOf (l.take k)*256+l[k].toNat:=by
 rw [List.take_succ_eq_append_getElem h,gQ]
theorem Jn(l:List UInt8):∀k,numOf (l.take k)≤numOf l:=by
 intro k
 induction h:l.length-k generalizing k with
 |zero=>rw [List.take_of_length_le (by omega)];exact Nat.le_refl _
 |succ n ih=>
  have h1:=ih (k+1) (by omega)
  rw [gT l k (by omega)] at h1
  omega
theorem K1(q z:Nat)(hz:z<256)(h:q*256+z<9223372036854775808):bits BinOp.or IntKind.i64 ((q:Int)*256) (z:Int)=((q*256+z:Nat):Int):=by
 have e1:BitVec.ofInt 64 ((q:Int)*256)=BitVec.ofNat 64 (q*256):=by rw [←BitVec.ofInt_natCast];congr 1
 have e2:BitVec.ofInt 64 (z:Int)=BitVec.ofNat 64 z:=BitVec.ofInt_natCast ..
 have e3:(q*256)|||z=q*256+z:=by
  have:=Nat.shiftLeft_add_eq_or_of_lt (i:=8) (b:=z) (by omega) q
  rw [Nat.shiftLeft_eq] at this
  exact this.symm
 have e4:(BitVec.ofNat 64 (q*256)|||BitVec.ofNat 64 z).toNat=q*256+z:=by
  have m1:q*256%18446744073709551616=q*256:=by omega
  have m2:z%18446744073709551616=z:=by omega
  simp only [BitVec.toNat_or,BitVec.toNat_ofNat,Nat.reducePow]
  rw [m1,m2,e3]
 have e5:bits BinOp.or IntKind.i64 ((q:Int)*256) (z:Int)=IntKind.i64.wrap ((BitVec.ofInt 64 ((q:Int)*256)|||BitVec.ofInt 64 (z:Int)).toNat:Nat):=rfl
 rw [e5,e1,e2,e4,IntKind.wrap_i64]
 omega
theorem QC(w:World)(P:Nat→Prop)(a:Option Addr)(l:List UInt8)(cap:Nat)(h:zv w P a l)(hl:l.length≤8)(hn:numOf l<9223372036854775808):
 Calls Tryz.prog 83 #[.slice a l.length cap] w fun e w'=>e=.returned (.int .i64 (numOf l:Nat))∧w'=w:=by
 have HH:Hid _:=h
 clear h
 go_enter Tryz.func83,Tryz.ntmps83
 go_wp2
 go_loop [3,8] (fun x t=>∃k:Nat,k≤l.length∧t=.int .i64 k∧x=.int .i64 (numOf (l.take k):Nat)) (fun _ t=>l.length-(intOf t).toNat)
 case atStart=>exact⟨0,Nat.zero_le _,rfl,rfl⟩
 case round=>
  obtain⟨k,hk,rfl,rfl⟩:=hrel
  by_cases hlt:k<l.length
  ·have h1:=Jn l (k+1)
   have h2:=gT l k hlt
   have HS:Hid _:=h2
   rw [h2] at h1
   have hb:=l[k].toNat_lt
   rcases HH.out with h0|⟨b,o,rfl,_,_,hc⟩
   ·rw [h0] at hlt;simp at hlt
   ·have hck:=hc k hlt
    generalize numOf (l.take k)=q at*
    clear h2 hc
    generalize l[k].toNat=z at*
    have HO:Hid _:=K1 q z (by omega) (by omega)
    go_wp2
    go_round
    case rel=>exact⟨k+1,by omega,by go_num,by rw [HS.out,HO.out]⟩
    case measure=>simp [intOf];omega
  ·have e:k=l.length:=by omega
   subst e
   have h2:numOf (l.take l.length)=numOf l:=by rw [List.take_length]
   rw [h2] at*
   go_wp2
   go_ret
   exact⟨rfl,rfl⟩
structure yl (w:World) (b:Nat) (t:TypeId) (l:List UInt8):Prop where
 at_:w.heap[b]? =some (.cells (l.map qc).toArray t (0,0))
theorem yl.lt{w:World}{b:Nat}{t:TypeId}{l:List UInt8}(h:yl w b t l):b<w.heap.size:=(lT h.at_)
theorem yl.kept{w w':World}{T:Nat→Prop}{b:Nat}{t:TypeId}{l:List UInt8}(h:yl w b t l)(k:Kept T w w')(hn:¬T b):yl w' b t l:=⟨(k.block b h.lt hn).trans h.at_⟩
theorem yl.cell{w:World}{b:Nat}{t:TypeId}{l:List UInt8}(h:yl w b t l)(i:Nat)(hi:i<l.length):w.cell? ⟨b,i,none⟩=some (.int .u8 (l[i].toNat:Int)):=by
 rw [cell_of_row w b i _ _ _ h.at_];simp [hi,qc]
theorem yl.fz{w:World}{b:Nat}{t:TypeId}{l:List UInt8}(h:yl w b t l)(i:Nat):w.frozen? ⟨b,i,none⟩=false:=frozen_of_row w b i _ _ h.at_
theorem yl.set{w:World}{b:Nat}{t:TypeId}{l:List UInt8}(h:yl w b t l)(i:Nat)(c:UInt8):yl (w.setCell ⟨b,i,none⟩ (.int .u8 (c.toNat:Int))) b t (l.set i c):=by
 refine⟨?_⟩
 rw [heap_setCell_same w b i _ _ _ h.at_]
 congr 2
 apply Array.ext'
 simp [qc]
theorem yl.bytes{w:World}{b:Nat}{t:TypeId}{l:List UInt8}(h:yl w b t l)(P:Nat→Prop)(hP:P b)(o n:Nat)(hn:o+n≤l.length):zv w P (some ⟨b,o,none⟩) ((l.drop o).take n):=
 .inr ⟨b,o,rfl,hP,h.lt,fun j hj=>by
  simp only [List.length_take,List.length_drop] at hj
  rw [h.cell (o+j) (by omega)]
  simp⟩
theorem ye(w:World)(b:Nat)(t:TypeId)(l:List UInt8)(h:yl w b t l)(o k cap n:Nat)(hk:o+k≤l.length)(hk8:k≤8)(hn:numOf ((l.drop o).take k)=n)(hb:n<9223372036854775808):
 Calls Tryz.prog 83 #[.slice (some ⟨b,o,none⟩) k cap] w fun e w'=>e=.returned (.int .i64 n)∧w'=w:=by
 have hl:((l.drop o).take k).length=k:=by simp;omega
 have:=QC w (fun i=>i=b) (some ⟨b,o,none⟩) ((l.drop o).take k) cap (h.bytes (fun i=>i=b) rfl o k hk) (by omega) (by omega)
 rw [hl,hn] at this
 exact this
theorem vw:∀m n,bytesOf (m+1) n=UInt8.ofNat (n/256^m%256)::bytesOf m n
 |0,n=>by simp [bytesOf]
 |m+1,n=>by
  rw [bytesOf,vw m (n/256),bytesOf,Nat.div_div_eq_div_mul,Nat.pow_succ,Nat.mul_comm];rfl
theorem dt(l:List UInt8)(j:Nat)(c:UInt8)(v:List UInt8)(h:j+1+v.length≤l.length):qw l j (c::v)=(qw l (j+1) v).set j c:=by
 have hl:(qw l (j+1) v).length=l.length:=xA _ _ _ h
 rw [List.set_eq_take_append_cons_drop,if_pos (by omega)]
 have e1:(l.take (j+1)).length=j+1:=by simp;omega
 have e2:(qw l (j+1) v).take j=l.take j:=by
  rw [qw,List.append_assoc,List.take_append_of_le_length (by omega),List.take_take,Nat.min_eq_left (by omega)]
 have e3:(qw l (j+1) v).drop (j+1)=v++l.drop (j+1+v.length):=by
  rw [qw,List.append_assoc]
  conv=>lhs;arg 1;rw [←e1]
  exact List.drop_left
 rw [e2,e3,qw]
 simp only [List.length_cons,List.append_assoc,List.cons_append]
 rw [show j+(v.length+1)=j+1+v.length from by omega]
theorem K2(q:Nat):((q:Int)%256)=((UInt8.ofNat (q%256)).toNat:Int):=by simp
theorem cO(l:List UInt8)(j:Nat):qw l j []=l:=by simp [qw]
theorem qE(w:World)(b:Nat)(t:TypeId)(l:List UInt8)(h:yl w b t l)(o k cap:Nat)(hk:o+k≤l.length)(hk8:k≤8)(n:Nat)(hn:n<9223372036854775808):
 Calls Tryz.prog 138 #[.slice (some ⟨b,o,none⟩) k cap,.int .i64 n] w fun e w'=>e=.returned (.tuple #[])∧yl w' b t (qw l o (bytesOf k n))∧Kept (fun i=>i=b) w w':=by
 have HH:Hid _:=h
 clear h
 go_enter Tryz.func138,Tryz.ntmps138
 go_wp2
 go_loopw [1,4] (fun x i wr=>∃m:Nat,m≤k∧i=.int .i64 ((k:Int)-1-m)∧x=.int .i64 ((n/256^m:Nat):Int)∧yl wr b t (qw l (o+(k-m)) (bytesOf m n))∧Kept (fun i=>i=b) w wr) (fun _ i _=>(intOf i+1).toNat)
 case atStart=>exact⟨0,Nat.zero_le _,by simp,by simp,by simp only [bytesOf,cO];exact HH.out,Kept.refl _ _⟩
 case round=>
  obtain⟨m,hm,rfl,rfl,hb,hkept⟩:=hrel
  have HB:Hid _:=hb
  have HK:Hid _:=hkept
  have hll:(qw l (o+(k-m)) (bytesOf m n)).length=l.length:=xA _ _ _ (by rw [zP];omega)
  clear hb hkept
  have hq:n/256^m≤n:=Nat.div_le_self _ _
  by_cases hlt:m<k
  ·have hc:=HB.out.cell (o+(k-1-m)) (by omega)
   have hf:=HB.out.fz (o+(k-1-m))
   have HS:Hid (qw l (o+(k-(m+1))) (bytesOf (m+1) n)=(qw l (o+(k-m)) (bytesOf m n)).set (o+(k-1-m)) (UInt8.ofNat (n/256^m%256))):=by
    show _=_
    rw [vw,dt _ _ _ _ (by rw [zP];omega),show o+(k-(m+1))+1=o+(k-m) from by omega,show o+(k-(m+1))=o+(k-1-m) from by omega]
   have HD:Hid (n/256^(m+1)=n/256^m/256):=by show _=_;rw [Nat.pow_succ,Nat.div_div_eq_div_mul]
   generalize (qw l (o+(k-m)) (bytesOf m n))[o+(k-1-m)].toNat=z at*
   generalize qw l (o+(k-m)) (bytesOf m n)=cur at*
   generalize n/256^m=q at*
   have hi0:((k:Int)-1-m).toNat=k-1-m:=by omega
   go_wp2
   go_roundw
   case rel=>exact⟨m+1,by omega,by go_num,by rw [HD.out];go_num,by rw [HS.out,K2];exact HB.out.set _ _,HK.out.trans (Kept.setCell (S:=fun i=>i=b) _ ⟨b,_,none⟩ _ rfl) iL⟩
   case measure=>simp [intOf];omega
  ·have e:m=k:=by omega
   subst e
   generalize n/256^m=q at*
   go_wp2
   go_end0
   exact⟨rfl,by have:=HB.out;rw [Nat.sub_self,Nat.add_zero] at this;exact this,HK.out⟩
end prog
namespace prog
open Go.ChangeShapes Go.WideShapes Go.ChangeAt Go.RowKit disk ref
open keys (ze zd zr zn)
theorem v8(w:World)(k:Nat)(hk:k≤6):Calls Tryz.prog 145 #[.int .u8 k] w fun e w'=>e=.returned (.int .i64 (zk k:Nat))∧w'=w:=by
 rcases (by omega:k=0∨k=1∨k=2∨k=3∨k=4∨k=5∨k=6) with rfl|rfl|rfl|rfl|rfl|rfl|rfl
 all_goals
  go_enter Tryz.func145,Tryz.ntmps145
  go_wp2
  go_ret
  exact⟨rfl,rfl⟩
theorem Jo(w:World)(k wd:Nat)(hk:k≤6)(h:zk k=wd):Calls Tryz.prog 145 #[.int .u8 k] w fun e w'=>e=.returned (.int .i64 wd)∧w'=w:=by
 rw [←h];exact v8 w k hk
theorem jh(w:World)(k:Nat)(hk:k≤6):Calls Tryz.prog 129 #[.int .u8 k] w fun e w'=>e=.returned (.int .i64 (room k:Nat))∧w'=w:=by
 rcases (by omega:k=0∨k=1∨k=2∨k=3∨k=4∨k=5∨k=6) with rfl|rfl|rfl|rfl|rfl|rfl|rfl
 all_goals
  go_enter Tryz.func129,Tryz.ntmps129
  go_wp2_with (go_at_call 145;refine(v8 _ _ (by omega)).mono ?_;rintro e w' ⟨rfl,rfl⟩;simp only [zk])
  go_ret
  exact⟨rfl,rfl⟩
structure qu (w:World) (b:Nat) (p:Pg):Prop where
 bs:yl w b 154 p.bytes
 ok:p.Ok
theorem qu.kept{w w':World}{T:Nat→Prop}{b:Nat}{p:Pg}(h:qu w b p)(k:Kept T w w')(hn:¬T b):qu w' b p:=⟨h.bs.kept k hn,h.ok⟩
theorem jM(n:Nat)(h:n<256):(UInt8.ofNat n).toNat=n:=by simp;omega
theorem qu.c0{w:World}{b:Nat}{p:Pg}(h:qu w b p):w.cell? ⟨b,0,none⟩=some (.int .u8 (p.kind:Int)):=by
 have h1:=h.bs.cell 0 (by rw [h.ok.len];omega)
 have h2:p.bytes[0]'(by rw [h.ok.len];omega)=UInt8.ofNat p.kind:=Option.some.inj ((List.getElem?_eq_getElem _).symm.trans p.at0)
 rw [h2,jM _ (by have:=h.ok.kind;omega)] at h1
 exact h1
theorem qu.c1{w:World}{b:Nat}{p:Pg}(h:qu w b p):w.cell? ⟨b,1,none⟩=some (.int .u8 (p.items.length:Int)):=by
 have h1:=h.bs.cell 1 (by rw [h.ok.len];omega)
 have h2:p.bytes[1]'(by rw [h.ok.len];omega)=UInt8.ofNat p.items.length:=Option.some.inj ((List.getElem?_eq_getElem _).symm.trans p.at1)
 rw [h2,jM _ (by have:=h.ok.few;omega)] at h1
 exact h1
theorem jN(w:World)(b:Nat)(p:Pg)(h:qu w b p):Calls Tryz.prog 144 #[.pointer (some ⟨b,0,none⟩)] w fun e w'=>e=.returned (.int .u8 (p.kind:Nat))∧w'=w:=by
 have hc:=h.c0
 clear h
 go_enter Tryz.func144,Tryz.ntmps144
 go_wp2
 go_ret
 exact⟨rfl,rfl⟩
theorem j7(w:World)(b:Nat)(p:Pg)(h:qu w b p):Calls Tryz.prog 82 #[.pointer (some ⟨b,0,none⟩)] w fun e w'=>e=.returned (.int .i64 (p.items.length:Nat))∧w'=w:=by
 have hc:=h.c1
 have hl:=h.ok.few
 clear h
 go_enter Tryz.func82,Tryz.ntmps82
 go_wp2
 go_ret
 exact⟨rfl,rfl⟩
theorem cP(w:World)(b:Nat)(p:Pg)(h:qu w b p):Calls Tryz.prog 126 #[.pointer (some ⟨b,0,none⟩)] w fun e w'=>e=.returned (.int .i64 (p.link:Nat))∧w'=w:=by
 have hc:=h.c0
 have hl:=h.ok.link
 have hlen:=h.ok.len
 have HH:Hid _:=h
 have HN:Hid (numOf ((p.bytes.drop 2).take 2)=p.link):=by show _=_;rw [p.front];exact q9 2 _ (by omega)
 clear h
 go_enter Tryz.func126,Tryz.ntmps126
 go_wp2_with (go_at_call 83;refine(ye _ b _ _ HH.out.bs 2 2 126 p.link (by omega) (by omega) HN.out (by omega)).mono ?_;rintro e w' ⟨rfl,rfl⟩)
 go_ret
 exact⟨rfl,rfl⟩
theorem uM(w:World)(b:Nat)(p:Pg)(h:qu w b p)(n:Nat)(hn:n<65536):Calls Tryz.prog 132 #[.pointer (some ⟨b,0,none⟩),.int .i64 n] w fun e w'=>e=.returned (.tuple #[])∧qu w' b (p.setLink n)∧Kept (fun i=>i=b) w w':=by
 have hc:=h.c0
 have hlen:=h.ok.len
 have HH:Hid _:=h
 clear h
 go_enter Tryz.func132,Tryz.ntmps132
 go_wp2_with (go_at_call 138;refine(qE _ b _ _ HH.out.bs 2 2 126 (by omega) (by omega) n (by omega)).mono ?_;rintro e w' ⟨rfl,hb,hk⟩;have HB:Hid _:=hb;have HK:Hid _:=hk;clear hb hk)
 go_end0
 have h2:=HB.out
 rw [p.setLink_bytes] at h2
 exact⟨rfl,⟨h2,⟨HH.out.ok.kind,hn,HH.out.ok.wide,HH.out.ok.fits,HH.out.ok.few⟩⟩,HK.out⟩
def cQ(b k i:Nat):Value:=.slice (some ⟨b,4+i*zk k,none⟩) (zk k) (124-i*zk k)
def xj(b k n:Nat):Value:=.slice (some ⟨b,4,none⟩) (n*zk k) 124
theorem cS(k:Nat):zk k≤20:=by unfold zk;split<;>omega
theorem YA:Tryz.prog.arrayLen 154=128:=by kernel_rfl
theorem yr:Tryz.prog.underlying 154=some (.array (Tryz.prog.arrayLen 154) (Tryz.prog.elem 154)):=by kernel_rfl
theorem du:(Tryz.prog.info? (Tryz.prog.elem 154)).map (·.size)=some 1:=by kernel_rfl
theorem cT(w:World)(b:Nat)(l h:Int)(L N:Nat)(hl:l=L)(hh:h=L+N)(hm:L+N≤128)(hL:L<128):
 (Instr.sliceAt 154 (.pointer (some ⟨b,0,none⟩)) (some (.int .i64 l)) (some (.int .i64 h)) none).run Tryz.prog w=.ok (.slice (some ⟨b,L,none⟩) N (128-L)) w:=by
 have hs:=yO du w
 rw [run_sliceAt_array_lh w _ _ yr .i64 .i64 l h (by omega) (by omega) (by rw [YA];omega),hs]
 simp only [Result.andThen_ok,slicedAt,YA]
 subst hl;subst hh
 simp only [Int.toNat_natCast,Nat.mul_one,Addr.add_mid,Nat.zero_add]
 rw [if_neg (by omega),show ((L:Int)+N).toNat=L+N from by omega,show L+N-L=N from by omega]
theorem cU(w:World)(b:Nat)(p:Pg)(h:qu w b p)(i:Nat)(hi:i<p.items.length)(hw1:1≤zk p.kind):Calls Tryz.prog 84 #[.pointer (some ⟨b,0,none⟩),.int .i64 i] w fun e w'=>e=.returned (cQ b p.kind i)∧w'=w:=by
 have hc:=h.c0
 have hk:=h.ok.kind
 have HH:Hid _:=h
 have hw:=cS p.kind
 have hfew:=h.ok.few
 have hf:(i+1)*zk p.kind≤124:=Nat.le_trans (Nat.mul_le_mul_right _ hi) h.ok.fits
 rw [Nat.add_mul,Nat.one_mul] at hf
 have hx:((i:Int)*(zk p.kind:Nat))=((i*zk p.kind:Nat):Int):=by simp
 have HV:Hid (cQ b p.kind i=.slice (some ⟨b,4+i*zk p.kind,none⟩) (zk p.kind) (124-i*zk p.kind)):=rfl
 clear h
 generalize cQ b p.kind i=iv at*
 generalize i*zk p.kind=x at*
 generalize hww:zk p.kind=wd at*
 have HWW:Hid _:=hww
 clear hww
 have hcut:=cT w b (4+↑x) (4+↑x+↑wd) (4+x) wd (by omega) (by omega) (by omega) (by omega)
 go_enter Tryz.func84,Tryz.ntmps84
 go_wp2_with (first
  |(go_at_call 144;refine(jN _ b p HH.out).mono ?_;rintro e w' ⟨rfl,rfl⟩)
  |(go_at_call 145;refine(v8 _ _ hk).mono ?_;rintro e w' ⟨rfl,rfl⟩;rw [HWW.out]))
 go_ret
 exact⟨by rw [HV.out,show 124-x=128-(4+x) from by omega];rfl,rfl⟩
theorem xu(w:World)(b:Nat)(p:Pg)(h:qu w b p):Calls Tryz.prog 125 #[.pointer (some ⟨b,0,none⟩)] w fun e w'=>e=.returned (xj b p.kind p.items.length)∧∃n,w'=w.drewN n:=by
 have hc:=h.c0
 have hk:=h.ok.kind
 have HH:Hid _:=h
 have hw:=cS p.kind
 have hfew:=h.ok.few
 have hf:=h.ok.fits
 have hx:((p.items.length:Int)*(zk p.kind:Nat))=((p.items.length*zk p.kind:Nat):Int):=by simp
 have HV:Hid (xj b p.kind p.items.length=.slice (some ⟨b,4,none⟩) (p.items.length*zk p.kind) 124):=rfl
 clear h
 generalize xj b p.kind p.items.length=iv at*
 generalize p.items.length*zk p.kind=x at*
 generalize hww:zk p.kind=wd at*
 have HWW:Hid _:=hww
 clear hww
 have hcut:∀w,(Instr.sliceAt 154 (.pointer (some ⟨b,0,none⟩)) (some (.int .i64 4)) (some (.int .i64 (4+↑x))) none).run Tryz.prog w=.ok (.slice (some ⟨b,4,none⟩) x 124) w:=fun w=>cT w b 4 (4+↑x) 4 x rfl rfl (by omega) (by omega)
 go_enter Tryz.func125,Tryz.ntmps125
 go_wp2
 go_quiet ((first
  |(go_at_call 82;exact Calls.quiet_of_same (j7 _ b p (by exact HH.out.kept (T:=fun _=>False) kD (fun hf=>hf))))
  |(go_at_call 144;exact Calls.quiet_of_same (jN _ b p (by exact HH.out.kept (T:=fun _=>False) kD (fun hf=>hf))))
  |(go_at_call 145;exact Calls.quiet_of_same (Jo _ _ _ hk HWW.out))))
 go_wp2
 go_ret
 exact⟨by rw [HV.out];rfl,_,rfl⟩
end prog
namespace prog
def Pg.grown(p:Pg)(k:Nat):Pg:={p with items:=p.items++List.replicate k (List.replicate (zk p.kind) 0)}
def Pg.more(p:Pg)(vs:List (List UInt8)):Pg:={p with items:=p.items++vs}
theorem Pg.grown_len(p:Pg)(k:Nat):(p.grown k).items.length=p.items.length+k:=by simp [Pg.grown]
theorem Pg.Ok.more{p:Pg}(h:p.Ok){vs:List (List UInt8)}(hv:∀v∈vs,v.length=zk p.kind)(hf:(p.items.length+vs.length)*zk p.kind≤124)(h1:p.items.length+vs.length≤124):(p.more vs).Ok where
 kind:=h.kind
 link:=h.link
 wide:=fun i hi=>by
  rcases List.mem_append.1 hi with hi|hi
  ·exact h.wide i hi
  ·exact hv i hi
 fits:=by simpa [Pg.more] using hf
 few:=by simpa [Pg.more] using h1
theorem Pg.grown_more(p:Pg)(k:Nat):p.grown k=p.more (List.replicate k (List.replicate (zk p.kind) 0)):=rfl
theorem Pg.Ok.grown{p:Pg}(h:p.Ok)(k:Nat)(hf:(p.items.length+k)*zk p.kind≤124)(h1:p.items.length+k≤124):(p.grown k).Ok:=by
 rw [Pg.grown_more]
 exact h.more (fun v hv=>by rw [List.eq_of_mem_replicate hv];simp) (by simpa using hf) (by simpa using h1)
theorem kR(w:Nat):∀k,(List.replicate k (List.replicate w (0:UInt8))).flatten=List.replicate (k*w) 0
 |0=>by simp
 |k+1=>by
  rw [List.replicate_succ,List.flatten_cons,kR w k,List.replicate_append_replicate];congr 1;rw [Nat.add_mul];omega
theorem Pg.Ok.grown_bytes{p:Pg}(h:p.Ok)(k:Nat)(hf:(p.items.length+k)*zk p.kind≤124):qw p.bytes 1 [UInt8.ofNat (p.items.length+k)]=(p.grown k).bytes:=by
 have e:124-p.items.length*zk p.kind=k*zk p.kind+(124-(p.items.length+k)*zk p.kind):=by rw [Nat.add_mul] at *; omega
 have e2:List.replicate (124-p.items.length*zk p.kind) (0:UInt8)=List.replicate (k*zk p.kind) 0++List.replicate (124-(p.items.length+k)*zk p.kind) 0:=by rw [List.replicate_append_replicate,←e]
 simp only [Pg.bytes,Pg.grown,List.length_append,List.length_replicate,List.flatten_append,kR,e2]
 simp [qw]
theorem Pg.Ok.more_bytes{p:Pg}(h:p.Ok)(vs:List (List UInt8))(hv:∀v∈vs,v.length=zk p.kind)(hf:(p.items.length+vs.length)*zk p.kind≤124):
 qw (p.grown vs.length).bytes (4+p.items.length*zk p.kind) vs.flatten=(p.more vs).bytes:=by
 have h2:(bytesOf 2 p.link).length=2:=zP 2 _
 have hfl:=xg _ p.items h.wide
 have hvl:=xg _ vs hv
 have e1:(p.grown vs.length).bytes=(UInt8.ofNat p.kind::UInt8.ofNat (p.items.length+vs.length)::bytesOf 2 p.link++p.items.flatten)++(List.replicate (vs.length*zk p.kind) 0++List.replicate (124-(p.items.length+vs.length)*zk p.kind) 0):=by
  simp only [Pg.bytes,Pg.grown,List.length_append,List.length_replicate,List.flatten_append,kR]
  simp
 have hl:(UInt8.ofNat p.kind::UInt8.ofNat (p.items.length+vs.length)::bytesOf 2 p.link++p.items.flatten).length=4+p.items.length*zk p.kind:=by
  simp only [List.length_append,List.length_cons,h2,hfl]
  try omega
 rw [e1]
 unfold qw
 have hz:(List.replicate (vs.length*zk p.kind) (0:UInt8)).length=vs.flatten.length:=by rw [hvl];simp
 rw [←hl,List.take_left,List.drop_length_add_append,←hz,List.drop_left]
 simp [Pg.bytes,Pg.more]
theorem Pg.Ok.push_over{p:Pg}(h:p.Ok)(v:List UInt8)(hv:v.length=zk p.kind)(hf:(p.items.length+1)*zk p.kind≤124):qw (p.grown 1).bytes (4+p.items.length*zk p.kind) v=(p.push v).bytes:=by
 have:=h.more_bytes [v] (fun u hu=>by rw [List.mem_singleton.1 hu];exact hv) (by simpa using hf)
 simpa [Pg.more,Pg.push] using this
theorem v9(l:List UInt8)(o:Nat)(u v:List UInt8)(h:o+u.length+v.length≤l.length):qw (qw l o u) (o+u.length) v=qw l o (u++v):=by
 have e1:(l.take o).length=o:=by simp;omega
 have e2:(l.take o++u).length=o+u.length:=by simp;omega
 have hd:(qw l o u).drop (o+u.length+v.length)=l.drop (o+u.length+v.length):=by
  unfold qw
  rw [←e2,List.drop_length_add_append,List.drop_drop]
 have ht:(qw l o u).take (o+u.length)=l.take o++u:=by
  unfold qw
  rw [←e2,List.take_left]
 unfold qw at hd ht ⊢
 rw [ht,hd]
 simp [Nat.add_assoc]
end prog
namespace prog
open Go.ChangeShapes Go.WideShapes Go.ChangeAt Go.RowKit disk ref
open keys (ze zd zr zn)
theorem Tryz.infoPage:(Tryz.prog.info? 154).map (fun i=>(i.zero,i.size,i.bytes))=some (some (.agg zT.toArray),128,128):=by kernel_rfl
def QD(parts:Array (Nat×Value)):Sem Value:=Instr.build 154 parts
theorem Xf(parts:Array (Nat×Value)):Instr.build 154 parts=QD parts:=rfl
theorem QE(w:World)(k:Int):(QD #[(0,.int .u8 k)]).run Tryz.prog w=.ok (.agg (.int .u8 k::List.replicate 127 (.int .u8 0)).toArray) w:=by
 have hz:=zV Tryz.infoPage w
 have h1:∀w,(sizeOf (Tryz.prog.elem 154)).run Tryz.prog w=.ok 1 w:=yO du
 have hzl:zT=.int .u8 0::List.replicate 127 (.int .u8 0):=rfl
 simp only [QD,Instr.build,Sem.run_bind,hz,Result.andThen_ok,run_underlying yr w]
 simp [h1,Value.cells,Instr.fill,hzl]
def zl(p:Pg):List Value:=p.bytes.map qc
theorem bC{p:Pg}(h:p.Ok):(zl p).length=128:=by rw [zl,List.length_map,h.len]
theorem qP{p:Pg}(h:p.Ok):zy (zl p):=⟨bC h,jZ _⟩
theorem VM(k:Nat)(hk:k≤6):zl (Pg.new k)=.int .u8 (k:Int)::List.replicate 127 (.int .u8 0):=by
 rw [zl,Pg.new_bytes,List.map_cons,List.map_replicate]
 unfold qc
 rw [jM _ (by omega)]
 rfl
end prog
namespace prog
open Go.ChangeShapes Go.WideShapes Go.ChangeAt Go.RowKit disk ref
section
attribute [local go_sem ↓] Xf
theorem xQ(w:World)(k:Nat)(hk:k≤6):Calls Tryz.prog 131 #[.int .u8 k] w fun e w'=>e=.returned (.agg (zl (Pg.new k)).toArray)∧Kept (fun _=>False) w w':=by
 have HI:Hid ((Tryz.prog.info? 154).map (·.size)=some 128):=zS Tryz.infoPage
 obtain⟨Zb,hZb,hz⟩:∃Zb:List Value,Zb=zT∧∀w,(zeroValue 154).run Tryz.prog w=.ok (.agg Zb.toArray) w:=⟨zT,rfl,zV Tryz.infoPage⟩
 have HZb:Hid (zy Zb):=by rw [hZb];exact zF
 clear hZb
 have HV:Hid (zl (Pg.new k)=.int .u8 (k:Int)::List.replicate 127 (.int .u8 0)):=VM k hk
 have HO:Hid (zy (zl (Pg.new k))):=qP (Pg.new_ok k hk)
 have hrun:=fun w=>QE w (k:Int)
 rw [←HV.out] at hrun
 generalize zl (Pg.new k)=pv at*
 clear HV
 go_enter Tryz.func131,Tryz.ntmps131
 go_wp2_with (show wpList _ _ _ ({dst:=none,op:=.store _ _ _,type:=_,pos:=_,after:=_,guard:=_}::_) _ _;refine zg rfl 154 (.tmp 2) (.tmp 4) rfl _ _ pv (by simp) rfl rfl (by rw [HO.out.1];exact HI.out) (by rw [List.size_toArray,HZb.out.1,HO.out.1]) HO.out.2 ?_)
 refine bodyPost_ret (v:=.agg pv.toArray) (results_cell_row Tryz.results131 _ _ w.heap.size 154 _ (0,0) _ rfl (by have:=heap_alloc_new w (.cells pv.toArray 154);simpa using this) yr rfl (by rw [List.size_toArray,HO.out.1];exact HI.out)) rfl ⟨rfl,Kept.alloc _ _ _⟩
end
theorem Jp(l:List UInt8)(i:Nat)(c:UInt8)(h:i<l.length):qw l i [c]=l.set i c:=by
 rw [dt _ _ _ _ (by simp;omega),cO]
def jO(b k n i:Nat):Value:=.slice (some ⟨b,4+n*zk k,none⟩) (i*zk k) (124-n*zk k)
theorem jP(w:World)(b:Nat)(p:Pg)(h:qu w b p)(k:Nat)(hf:(p.items.length+k)*zk p.kind≤124)(hl:p.items.length+k≤124)(hz:1≤k*zk p.kind):
 Calls Tryz.prog 133 #[.pointer (some ⟨b,0,none⟩),.int .i64 k] w fun e w'=>e=.returned (jO b p.kind p.items.length k)∧qu w' b (p.grown k)∧Kept (fun i=>i=b) w w':=by
 have hc:=h.c1
 have hfz:=h.bs.fz 1
 have HH:Hid _:=h
 clear h
 go_enter Tryz.func133,Tryz.ntmps133
 go_wp2_with (go_at_call 125;refine(xu _ b p HH.out).mono ?_;rintro e w1 ⟨rfl,n1,rfl⟩;unfold xj)
 go_region
 have hl0:=HH.out.ok.len
 have HP:Hid (qu ((w.drewN (n1+1)).setCell ⟨b,1,none⟩ (.int .u8 (↑p.items.length+↑k))) b (p.grown k)):=by
  show qu _ b (p.grown k)
  refine⟨?_,HH.out.ok.grown k hf hl⟩
  have h1:=(HH.out.bs.kept (T:=fun _=>False) (w':=w.drewN (n1+1)) kD (fun hf=>hf)).set 1 (UInt8.ofNat (p.items.length+k))
  rw [jM _ (by omega),←Jp _ _ _ (by omega),HH.out.ok.grown_bytes k hf] at h1
  exact h1
 have HK:Hid (Kept (fun i=>i=b) w ((w.drewN (n1+1)).setCell ⟨b,1,none⟩ (.int .u8 (↑p.items.length+↑k)))):=
  Kept.trans (S':=fun i=>i=b) (b:=w.drewN (n1+1)) kD (Kept.setCell _ _ _ rfl) iL
 generalize (w.drewN (n1+1)).setCell ⟨b,1,none⟩ (.int .u8 (↑p.items.length+↑k))=w2 at*
 have HG:Hid (jO b p.kind p.items.length k=.slice (some ⟨b,4+p.items.length*zk p.kind,none⟩) (k*zk p.kind) (124-p.items.length*zk p.kind)):=rfl
 have HKK:Hid ((p.grown k).kind=p.kind):=rfl
 have hx:((p.items.length:Int)*(zk p.kind:Nat))=((p.items.length*zk p.kind:Nat):Int):=by simp
 have hxy:(p.items.length+k)*zk p.kind=p.items.length*zk p.kind+k*zk p.kind:=Nat.add_mul ..
 have HXY:Hid _:=hxy
 rw [hxy] at hf
 rw [hx]
 clear hx hxy
 generalize p.items.length*zk p.kind=x at*
 generalize k*zk p.kind=z at*
 have hx124:¬124=x:=by omega
 go_wp2_with (go_at_call 125;refine(xu _ b _ HP.out).mono ?_;rintro e w1 ⟨rfl,n3,rfl⟩;unfold xj;rw [HKK.out,Pg.grown_len,HXY.out])
 go_ret
 exact⟨by rw [HG.out];rfl,HP.out.kept (T:=fun _=>False) kD (fun hf=>hf),HK.out.trans (S':=fun _=>False) kD fE⟩
end prog
namespace prog
open ref
def Tr:Nat→Type
 |0=>Nat×List En
 |h+1=>Nat×List (Pl×Tr h)
def Tr.blk:{h:Nat}→Tr h→Nat
 |0,t=>t.1
 |_+1,t=>t.1
def Tr.items:{h:Nat}→Tr h→List En
 |0,t=>t.2
 |_+1,t=>t.2.map fun c=>⟨c.1,false,0,c.2.blk⟩
def zN:Nat→Nat
 |0=>5
 |_+1=>4
def Tr.ents:{h:Nat}→Tr h→List En
 |0,t=>t.2
 |h+1,t=>(t.2.map fun c=>Tr.ents (h:=h) c.2).flatten
def Tr.blocks:{h:Nat}→Tr h→List Nat
 |0,t=>[t.1]
 |h+1,t=>t.1::(t.2.map fun c=>Tr.blocks (h:=h) c.2).flatten
def Tr.Lay(rd:Nat→List UInt8):{h:Nat}→Tr h→Prop
 |0,t=>rd t.1=(za 5 t.2).bytes
 |h+1,t=>rd t.1=(za 4 (Tr.items (h:=h+1) t)).bytes∧∀c∈t.2,Tr.Lay rd (h:=h) c.2
def zJ{h:Nat}(cs:List (Pl×Tr h)):List En:=(cs.map fun c=>c.2.ents).flatten
def zA{h:Nat}(cs:List (Pl×Tr h)):List Nat:=(cs.map fun c=>c.2.blocks).flatten
theorem zt{h:Nat}(A B:List (Pl×Tr h)):zJ (A++B)=zJ A++zJ B:=by simp [zJ]
theorem zo{h:Nat}(c:Pl×Tr h)(B:List (Pl×Tr h)):zJ (c::B)=c.2.ents++zJ B:=by simp [zJ]
theorem ql{h:Nat}(A B:List (Pl×Tr h)):zA (A++B)=zA A++zA B:=by simp [zA]
theorem qt{h:Nat}(c:Pl×Tr h)(B:List (Pl×Tr h)):zA (c::B)=c.2.blocks++zA B:=by simp [zA]
theorem Tr.ents_succ{h:Nat}(t:Tr (h+1)):t.ents=zJ t.2:=rfl
theorem Tr.blocks_succ{h:Nat}(t:Tr (h+1)):t.blocks=t.1::zA t.2:=rfl
theorem Tr.blk_mem:∀{h:Nat} (t:Tr h),t.blk∈t.blocks
 |0,t=>List.mem_singleton.2 rfl
 |_+1,t=>List.mem_cons_self ..
structure Pl.Ok (p:Pl):Prop where
 key:p.key.data.toList.length≤8
 zero:(0:UInt8)∉p.key.data.toList
 num0:0≤p.num
 num1:p.num<9223372036854775808
theorem En.Ok.pl{e:En}(h:e.Ok):e.pl.Ok:=⟨h.key,h.zero,h.num0,h.num1⟩
theorem Pl.Ok.en{p:Pl}(h:p.Ok){n:Nat}(hn:n<65536):En.Ok ⟨p,false,0,n⟩:=⟨h.key,h.zero,h.num0,h.num1,by simp,by simp,hn⟩
def yg(l:List En):Prop:=l.Pairwise fun a b=>a.pl.lt b.pl=true
def Tr.First:{h:Nat}→Tr h→Pl→Prop
 |0,_,_=>True
 |_+1,t,p=>∃u r,t.2=(p,u)::r
def uV{h:Nat}(cs:List (Pl×Tr h)):Prop:=
 ∀A p t B,cs=A++(p,t)::B→(∀e∈zJ A,e.pl.lt p=true)∧(∀e∈zJ ((p,t)::B),¬e.pl.lt p=true)∧t.First p
def Tr.Good:{h:Nat}→Tr h→Prop
 |0,t=>t.1<65536∧∀e∈t.2,e.Ok
 |h+1,t=>t.1<65536∧(∀c∈t.2,Tr.Good (h:=h) c.2∧(c.2.items).length≤6∧c.1.Ok)∧t.2.Pairwise (fun a b=>a.1.lt b.1=true)∧uV t.2∧∀c∈t.2,3≤(c.2.items).length
structure Kids {h:Nat} (cs:List (Pl×Tr h)):Prop where
 good:∀c∈cs,c.2.Good∧c.2.items.length≤6∧c.1.Ok
 places:cs.Pairwise fun a b=>a.1.lt b.1=true
 seps:uV cs
theorem Tr.Good.kids{h:Nat}{t:Tr (h+1)}(g:t.Good):Kids t.2:=⟨g.2.1,g.2.2.1,g.2.2.2.1⟩
theorem Tr.Good.full{h:Nat}{t:Tr (h+1)}(g:t.Good):∀c∈t.2,3≤c.2.items.length:=g.2.2.2.2
theorem Tr.Good.blk:∀{h:Nat} {t:Tr h},t.Good→t.blk<65536
 |0,_,g=>g.1
 |_+1,_,g=>g.1
theorem Kids.node{h:Nat}{cs:List (Pl×Tr h)}(k:Kids cs)(f:∀c∈cs,3≤c.2.items.length){b:Nat}(hb:b<65536):Tr.Good (h:=h+1) (b,cs):=⟨hb,k.good,k.places,k.seps,f⟩
theorem Tr.Good.items_ok:∀{h:Nat} {t:Tr h},t.Good→∀e∈t.items,e.Ok
 |0,_,g,e,he=>g.2 e he
 |h+1,t,g,e,he=>by
  obtain⟨c,hc,rfl⟩:=List.mem_map.1 he
  have:=g.kids.good c hc
  exact this.2.2.en this.1.blk
theorem ys{h:Nat}(t:Tr (h+1)):t.items.length=t.2.length:=by simp [Tr.items]
theorem Tr.Good.some_ent:∀{h:Nat} {t:Tr h},t.Good→1≤t.items.length→∃e,e∈t.ents
 |0,t,_,hl=>by
  have:t.2≠[]:=fun e=>by simp [Tr.items,e] at hl
  obtain⟨e,r,he⟩:=List.exists_cons_of_ne_nil this
  exact⟨e,by show e∈t.2;rw [he];exact List.mem_cons_self ..⟩
 |h+1,t,g,hl=>by
  rw [ys] at hl
  have:t.2≠[]:=fun e=>by simp [e] at hl
  obtain⟨c,r,hc⟩:=List.exists_cons_of_ne_nil this
  have hm:c∈t.2:=by rw [hc];exact List.mem_cons_self ..
  obtain⟨e,he⟩:=(g.kids.good c hm).1.some_ent (by have:=g.full c hm;omega)
  exact⟨e,by rw [Tr.ents_succ,hc,zo];exact List.mem_append_left _ he⟩
theorem uV.left{h:Nat}{A B:List (Pl×Tr h)}(s:uV (A++B)):uV A:=fun A' p t B' e=>by
 obtain⟨h1,h2,h3⟩:=s A' p t (B'++B) (by rw [e];simp)
 exact⟨h1,fun x hx=>h2 x (by rw [show (p,t)::(B'++B)=((p,t)::B')++B from rfl,zt];exact List.mem_append_left _ hx),h3⟩
theorem uV.right{h:Nat}{A B:List (Pl×Tr h)}(s:uV (A++B)):uV B:=fun A' p t B' e=>by
 obtain⟨h1,h2,h3⟩:=s (A++A') p t B' (by rw [e];simp)
 exact⟨fun x hx=>h1 x (by rw [zt];exact List.mem_append_right _ hx),h2,h3⟩
theorem Kids.left{h:Nat}{A B:List (Pl×Tr h)}(k:Kids (A++B)):Kids A:=⟨fun c hc=>k.good c (List.mem_append_left _ hc),(List.pairwise_append.1 k.places).1,k.seps.left⟩
theorem Kids.right{h:Nat}{A B:List (Pl×Tr h)}(k:Kids (A++B)):Kids B:=⟨fun c hc=>k.good c (List.mem_append_right _ hc),(List.pairwise_append.1 k.places).2.1,k.seps.right⟩
theorem Kids.nil{h:Nat}:Kids ([]:List (Pl×Tr h)):=⟨fun _ h=>(nomatch h),List.Pairwise.nil,fun A p t B e=>by simp at e⟩
theorem uV.join{h:Nat}{A B:List (Pl×Tr h)}{p:Pl}{t:Tr h}(sa:uV A)(sb:uV ((p,t)::B))(hA:∀e∈zJ A,e.pl.lt p=true)(hp1:∀a∈A,a.1.lt p=true)(hp2:∀b∈B,p.lt b.1=true):uV (A++(p,t)::B):=by
 obtain⟨_,hB,hf⟩:=sb [] p t B rfl
 intro A' q u B' e
 rcases List.append_eq_append_iff.1 e with⟨m,h1,h2⟩|⟨m,h1,h2⟩
 ·cases m with
  |nil=>
   simp only [List.append_nil] at h1
   simp only [List.nil_append,List.cons.injEq,Prod.mk.injEq] at h2
   obtain⟨⟨rfl,rfl⟩,rfl⟩:=h2
   subst h1
   exact⟨hA,hB,hf⟩
  |cons c m=>
   obtain⟨g1,g2,g3⟩:=sb (c::m) q u B' h2
   refine⟨fun x hx=>?_,g2,g3⟩
   rw [h1,zt] at hx
   rcases List.mem_append.1 hx with hx|hx
   ·have hq:(q,u)∈B:=by simp only [List.cons_append,List.cons.injEq] at h2;rw [h2.2];simp
    exact Pl.trans (hA x hx) (hp2 _ hq)
   ·exact g1 x hx
 ·cases m with
  |nil=>
   simp only [List.append_nil] at h1
   simp only [List.nil_append,List.cons.injEq,Prod.mk.injEq] at h2
   obtain⟨⟨rfl,rfl⟩,rfl⟩:=h2
   subst h1
   exact⟨hA,hB,hf⟩
  |cons c m=>
   simp only [List.cons_append,List.cons.injEq] at h2
   obtain⟨rfl,h2⟩:=h2
   obtain⟨g1,g2,g3⟩:=sa A' q u m h1
   refine⟨g1,fun x hx=>?_,g3⟩
   rw [h2,show (q,u)::(m++(p,t)::B)=((q,u)::m)++(p,t)::B from rfl,zt] at hx
   rcases List.mem_append.1 hx with hx|hx
   ·exact g2 x hx
   ·exact fun hlt=>hB x hx (Pl.trans hlt (hp1 (q,u) (by rw [h1];simp)))
theorem Kids.join{h:Nat}{A B:List (Pl×Tr h)}{p:Pl}{t:Tr h}(ka:Kids A)(kb:Kids ((p,t)::B))(hA:∀e∈zJ A,e.pl.lt p=true)(hp1:∀a∈A,a.1.lt p=true):Kids (A++(p,t)::B) where
 good:=fun c hc=>(List.mem_append.1 hc).elim (ka.good c) (kb.good c)
 places:=List.pairwise_append.2 ⟨ka.places,kb.places,fun a ha b hb=>by
  rcases List.mem_cons.1 hb with rfl|hb
  ·exact hp1 a ha
  ·exact Pl.trans (hp1 a ha) ((List.pairwise_cons.1 kb.places).1 b hb)⟩
 seps:=ka.seps.join kb.seps hA hp1 (fun b hb=>(List.pairwise_cons.1 kb.places).1 b hb)
theorem Kids.mid{h:Nat}{A B:List (Pl×Tr h)}{p:Pl}{t:Tr h}(k:Kids (A++(p,t)::B)):(∀a∈A,a.1.lt p=true)∧(∀b∈B,p.lt b.1=true)∧(∀e∈zJ A,e.pl.lt p=true)∧(∀e∈zJ ((p,t)::B),¬e.pl.lt p=true)∧t.First p∧
 (∀b∈B,∀e∈zJ A++t.ents,e.pl.lt b.1=true)∧(∀b∈B,∀e∈b.2.ents,¬e.pl.lt b.1=true):=by
 have hp:=List.pairwise_append.1 k.places
 obtain⟨s1,s2,s3⟩:=k.seps A p t B rfl
 refine⟨fun a ha=>hp.2.2 a ha _ (List.mem_cons_self ..),(List.pairwise_cons.1 hp.2.1).1,s1,s2,s3,fun b hb e he=>?_,fun b hb e he=>?_⟩
 ·obtain⟨B1,B2,rfl⟩:=List.append_of_mem hb
  obtain⟨q,u⟩:=b
  have:=(k.seps (A++(p,t)::B1) q u B2 (by simp)).1 e
  refine this ?_
  rw [zt,zo]
  rcases List.mem_append.1 he with he|he
  ·exact List.mem_append_left _ he
  ·exact List.mem_append_right _ (List.mem_append_left _ he)
 ·obtain⟨B1,B2,rfl⟩:=List.append_of_mem hb
  obtain⟨q,u⟩:=b
  exact(k.seps (A++(p,t)::B1) q u B2 (by simp)).2.1 e (by rw [zo];exact List.mem_append_left _ he)
theorem Kids.cons{h:Nat}{B:List (Pl×Tr h)}{p:Pl}{u:Tr h}(kb:Kids B)(g:u.Good)(hl:u.items.length≤6)(hp:p.Ok)(hf:u.First p)(h1:∀e∈u.ents,¬e.pl.lt p=true)(h2:∀b∈B,p.lt b.1=true)(h3:∀b∈B,∀e∈u.ents,e.pl.lt b.1=true):Kids ((p,u)::B) where
 good:=fun c hc=>by
  rcases List.mem_cons.1 hc with rfl|hc
  ·exact⟨g,hl,hp⟩
  ·exact kb.good c hc
 places:=List.pairwise_cons.2 ⟨h2,kb.places⟩
 seps:=by
  intro A q v B' e
  cases A with
  |nil=>
   simp only [List.nil_append,List.cons.injEq,Prod.mk.injEq] at e
   obtain⟨⟨rfl,rfl⟩,rfl⟩:=e
   refine⟨fun x hx=>(nomatch hx),fun x hx=>?_,hf⟩
   rw [zo] at hx
   rcases List.mem_append.1 hx with hx|hx
   ·exact h1 x hx
   ·obtain⟨l,hl,hx'⟩:=List.mem_flatten.1 hx
    obtain⟨c,hc,rfl⟩:=List.mem_map.1 hl
    obtain⟨B1,B2,rfl⟩:=List.append_of_mem hc
    obtain⟨r,y⟩:=c
    have:=(kb.seps B1 r y B2 rfl).2.1 x (by rw [zo];exact List.mem_append_left _ hx')
    exact fun hlt=>this (Pl.trans hlt (h2 _ hc))
  |cons c A=>
   simp only [List.cons_append,List.cons.injEq] at e
   obtain⟨rfl,e⟩:=e
   obtain⟨g1,g2,g3⟩:=kb.seps A q v B' e
   refine⟨fun x hx=>?_,g2,g3⟩
   rw [zo] at hx
   rcases List.mem_append.1 hx with hx|hx
   ·exact h3 (q,v) (by rw [e];simp) x hx
   ·exact g1 x hx
theorem Kids.swap{h:Nat}{A B:List (Pl×Tr h)}{p:Pl}{t u:Tr h}(k:Kids (A++(p,t)::B))(g:u.Good)(hl:u.items.length≤6)(hf:u.First p)
 (h1:∀e∈u.ents,¬e.pl.lt p=true) (h2:∀b∈B,∀e∈u.ents,e.pl.lt b.1=true):Kids (A++(p,u)::B):=by
 obtain⟨m1,m2,m3,m4,m5,m6,m7⟩:=k.mid
 have kr:=k.right
 have kb:Kids B:=Kids.right (A:=[(p,t)]) kr
 exact k.left.join (kb.cons g hl (kr.good (p,t) (List.mem_cons_self ..)).2.2 hf h1 m2 h2) m3 m1
theorem Kids.parted{h:Nat}{A B:List (Pl×Tr h)}{p q:Pl}{t u v:Tr h}(k:Kids (A++(p,t)::B))(gu:u.Good)(gv:v.Good)(lu:u.items.length≤6)(lv:v.items.length≤6)(hq:q.Ok)(hf:u.First p)(hfv:v.First q)
 (hpq:p.lt q=true) (hu:∀e∈u.ents,e.pl.lt q=true) (hv:∀e∈v.ents,¬e.pl.lt q=true) (h1:∀e∈u.ents,¬e.pl.lt p=true) (h2:∀b∈B,∀e∈v.ents,e.pl.lt b.1=true) (h3:∀b∈B,q.lt b.1=true):Kids (A++(p,u)::(q,v)::B):=by
 obtain⟨m1,m2,m3,m4,m5,m6,m7⟩:=k.mid
 have kr:=k.right
 have kb:Kids B:=Kids.right (A:=[(p,t)]) kr
 have kv:Kids ((q,v)::B):=kb.cons gv lv hq hfv hv h3 h2
 refine k.left.join (kv.cons gu lu (kr.good (p,t) (List.mem_cons_self ..)).2.2 hf h1 ?_ ?_) m3 m1
 ·intro b hb
  rcases List.mem_cons.1 hb with rfl|hb
  ·exact hpq
  ·exact m2 b hb
 ·intro b hb e he
  rcases List.mem_cons.1 hb with rfl|hb
  ·exact hu e he
  ·exact Pl.trans (hu e he) (h3 b hb)
def zm(l:List En)(p:Pl):Nat:=(l.filter fun x=>x.pl.lt p).length
theorem yg.cut{l:List En}(h:yg l)(p:Pl):l.take (zm l p)=l.filter (fun x=>x.pl.lt p)∧l.drop (zm l p)=l.filter (fun x=> !x.pl.lt p):=by
 induction l with
 |nil=>simp [zm]
 |cons a l ih=>
  unfold yg at h
  rw [List.pairwise_cons] at h
  cases ha:a.pl.lt p with
  |true=>
   obtain⟨h1,h2⟩:=ih h.2
   have e:zm (a::l) p=zm l p+1:=by simp [zm,ha]
   rw [e,List.take_succ_cons,List.drop_succ_cons,h1,h2]
   simp [ha]
  |false=>
   have hn:∀x∈l,x.pl.lt p=false:=fun x hx=>by
    cases hx2:x.pl.lt p with
    |false=>rfl
    |true=>have:=Pl.trans (h.1 x hx) hx2;rw [ha] at this;cases this
   have e:zm (a::l) p=0:=by simp [zm,ha];exact hn
   have e1:l.filter (fun x=>x.pl.lt p)=[]:=List.filter_eq_nil_iff.2 (fun x hx=>by rw [hn x hx];simp)
   have e2:l.filter (fun x=> !x.pl.lt p)=l:=List.filter_eq_self.2 (fun x hx=>by rw [hn x hx];rfl)
   rw [e];simp [ha,e1,e2]
theorem xh(l:List En)(p:Pl):zm l p≤l.length:=List.length_filter_le _ _
theorem yg.at_lt{l:List En}(h:yg l)(p:Pl)(i:Nat)(hi:i<l.length):l[i].pl.lt p=decide (i<zm l p):=by
 obtain⟨h1,h2⟩:=h.cut p
 by_cases hl:i<zm l p
 ·rw [decide_eq_true hl]
  have hm:l[i]∈l.take (zm l p):=List.mem_take_iff_getElem.2 ⟨i,by omega,rfl⟩
  rw [h1,List.mem_filter] at hm
  exact hm.2
 ·rw [decide_eq_false hl]
  have hm:l[i]∈l.drop (zm l p):=List.mem_drop_iff_getElem.2 ⟨i-zm l p,by omega,by congr 1;omega⟩
  rw [h2,List.mem_filter] at hm
  simpa using hm.2
def yb(e:En)(l:List En):List En:=l.filter (fun x=>x.pl.lt e.pl)++e::l.filter (fun x=> !x.pl.lt e.pl)
theorem ji{e x:En}{l:List En}:x∈yb e l↔x=e∨x∈l:=by
 simp only [yb,List.mem_append,List.mem_cons,List.mem_filter,Bool.not_eq_true']
 constructor
 ·rintro(h|h|h)
  ·exact .inr h.1
  ·exact .inl h
  ·exact .inr h.1
 ·rintro(h|h)
  ·exact .inr (.inl h)
  ·cases hx:x.pl.lt e.pl with
   |true=>exact .inl ⟨h,rfl⟩
   |false=>exact .inr (.inr ⟨h,rfl⟩)
theorem jj(e:En)(l:List En):(yb e l).Perm (e::l):=by
 unfold yb
 refine List.perm_middle.trans (List.Perm.cons e ?_)
 induction l with
 |nil=>exact List.Perm.refl _
 |cons a l ih=>
  cases ha:a.pl.lt e.pl with
  |true=>simp only [List.filter_cons,ha,Bool.not_true,if_true,Bool.false_eq_true,if_false,List.cons_append];exact ih.cons a
  |false=>simp only [List.filter_cons,ha,Bool.not_false,if_true,Bool.false_eq_true,if_false];exact List.perm_middle.trans (ih.cons a)
theorem yg.ins{e:En}{l:List En}(h:yg l)(hn:∀x∈l,x.pl≠e.pl):yg (yb e l):=by
 unfold yg yb
 refine List.pairwise_append.2 ⟨h.filter _,List.pairwise_cons.2 ⟨fun x hx=>?_,h.filter _⟩,fun x hx y hy=>?_⟩
 ·rw [List.mem_filter] at hx
  exact Pl.total (fun e2=>hn x hx.1 e2) (by simpa using hx.2)
 ·rw [List.mem_filter] at hx
  rcases List.mem_cons.1 hy with rfl|hy
  ·exact hx.2
  ·rw [List.mem_filter] at hy
   exact Pl.lt_of_lt_not hx.2 (by simpa using hy.2)
theorem Jq{e:En}{A M B:List En}(hA:∀x∈A,x.pl.lt e.pl=true)(hB:∀x∈B,x.pl.lt e.pl=false):yb e (A++(M++B))=A++(yb e M++B):=by
 have a1:A.filter (fun x=>x.pl.lt e.pl)=A:=List.filter_eq_self.2 hA
 have a2:A.filter (fun x=> !x.pl.lt e.pl)=[]:=List.filter_eq_nil_iff.2 (fun x hx=>by rw [hA x hx];simp)
 have b1:B.filter (fun x=>x.pl.lt e.pl)=[]:=List.filter_eq_nil_iff.2 (fun x hx=>by rw [hB x hx];simp)
 have b2:B.filter (fun x=> !x.pl.lt e.pl)=B:=List.filter_eq_self.2 (fun x hx=>by rw [hB x hx];rfl)
 simp [yb,a1,a2,b1,b2]
theorem yg.ins_at{e:En}{l:List En}(h:yg l):l.take (zm l e.pl)++e::l.drop (zm l e.pl)=yb e l:=by
 obtain⟨h1,h2⟩:=h.cut e.pl
 rw [h1,h2];rfl
def qO(p:Pl)(l:List En):List En:=l.filter fun x=>decide (x.pl≠p)
theorem xv{p:Pl}{l:List En}(h:∀x∈l,x.pl≠p):qO p l=l:=List.filter_eq_self.2 (fun x hx=>by simpa using h x hx)
theorem xW(p:Pl)(A B:List En):qO p (A++B)=qO p A++qO p B:=by simp [qO]
theorem gU{p:Pl}{x:En}{l:List En}:x∈qO p l↔x∈l∧x.pl≠p:=by simp [qO]
theorem yg.del{p:Pl}{l:List En}(h:yg l):yg (qO p l):=List.Pairwise.filter _ h
theorem yg.apart{l:List En}(h:yg l):∀(i j:Nat) (hi:i<l.length) (hj:j<l.length),l[i].pl=l[j].pl→i=j:=fun i j hi hj e=>by
 rcases Nat.lt_trichotomy i j with h1|h1|h1
 ·have:=List.pairwise_iff_getElem.1 h i j hi hj h1
  rw [e] at this;exact absurd this (Pl.irrefl _)
 ·exact h1
 ·have:=List.pairwise_iff_getElem.1 h j i hj hi h1
  rw [e] at this;exact absurd this (Pl.irrefl _)
theorem yg.find{l:List En}(h:yg l)(p:Pl):(∀(hi:zm l p<l.length),l[zm l p].pl=p→l.take (zm l p)++l.drop (zm l p+1)=qO p l)∧
 ((∀(hi:zm l p<l.length),l[zm l p].pl≠p)→∀x∈l,x.pl≠p):=by
 obtain⟨h1,h2⟩:=h.cut p
 constructor
 ·intro hi he
  have e0:l=l.take (zm l p)++l[zm l p]::l.drop (zm l p+1):=by rw [←List.drop_eq_getElem_cons,List.take_append_drop]
  have hs:∀x∈l.take (zm l p),x.pl≠p:=fun x hx e=>by
   rw [h1,List.mem_filter,e] at hx;exact Pl.irrefl _ hx.2
  have ht:∀x∈l.drop (zm l p+1),x.pl≠p:=fun x hx e=>by
   unfold yg at h
   rw [e0] at h
   have:=(List.pairwise_cons.1 (List.pairwise_append.1 h).2.1).1 x hx
   rw [he,e] at this;exact Pl.irrefl _ this
  conv=>rhs;rw [e0]
  rw [xW,xv hs,show qO p (l[zm l p]::l.drop (zm l p+1))=qO p (l.drop (zm l p+1)) from by unfold qO;rw [List.filter_cons,if_neg (by simp [he])],xv ht]
 ·intro hn x hx e
  obtain⟨i,hi,rfl⟩:=List.getElem_of_mem hx
  have hlt:=h.at_lt p i hi
  rw [e] at hlt
  have hge:¬i<zm l p:=fun hc=>by rw [decide_eq_true hc] at hlt;exact Pl.irrefl _ hlt
  have hi2:zm l p<l.length:=by omega
  by_cases h3:zm l p=i
  ·exact hn hi2 (by simp only [h3];exact e)
  ·have:=List.pairwise_iff_getElem.1 h (zm l p) i hi2 hi (by omega)
   have h4:=h.at_lt p _ hi2
   rw [e] at this
   rw [this] at h4
   simp at h4
def zw(l:List En)(p:Pl):Nat:=if h:zm l p<l.length then (if l[zm l p].pl=p then zm l p else zm l p-1) else zm l p-1
theorem dv{l:List En}(p:Pl)(h:l≠[]):zw l p<l.length:=by
 have:=xh l p
 have:0<l.length:=List.length_pos_iff.2 h
 unfold zw
 split
 ·split<;>omega
 ·omega
theorem Kids.items_srt{h:Nat}{cs:List (Pl×Tr h)}(k:Kids cs):yg (cs.map fun c=>(⟨c.1,false,0,c.2.blk⟩:En)):=List.Pairwise.map _ (fun _ _ h=>h) k.places
theorem Kids.child{h:Nat}{cs:List (Pl×Tr h)}(k:Kids cs)(hn:cs≠[])(p:Pl):∃A q t B,cs=A++(q,t)::B∧A.length=zw (cs.map fun c=>(⟨c.1,false,0,c.2.blk⟩:En)) p∧(A≠[]→¬p.lt q=true)∧(∀b∈B,p.lt b.1=true):=by
 have hs:=k.items_srt
 generalize hl:(cs.map fun c=>(⟨c.1,false,0,c.2.blk⟩:En))=l at hs ⊢
 have hll:l.length=cs.length:=by rw [←hl];simp
 have hget:∀i (hi:i<cs.length),l[i]'(by omega)=⟨cs[i].1,false,0,cs[i].2.blk⟩:=fun i hi=>by subst hl;simp
 have hne:l≠[]:=fun e=>hn (List.eq_nil_of_length_eq_zero (by rw [←hll,e];rfl))
 have hc:=dv p hne
 have hc':zw l p<cs.length:=by omega
 have e0:cs=cs.take (zw l p)++cs[zw l p]::cs.drop (zw l p+1):=by rw [←List.drop_eq_getElem_cons,List.take_append_drop]
 have hfl:=xh l p
 refine⟨cs.take (zw l p),cs[zw l p].1,cs[zw l p].2,cs.drop (zw l p+1),e0,by simp;omega,fun hA=>?_,fun b hb=>?_⟩
 ·
  have hpos:0<zw l p:=by
   rcases Nat.eq_zero_or_pos (zw l p) with h0|h0
   ·rw [h0] at hA;simp at hA
   ·exact h0
  have h1:=hs.at_lt p (zw l p) hc
  rw [hget _ hc'] at h1
  simp only at h1
  by_cases hlt:zw l p<zm l p
  ·rw [decide_eq_true hlt] at h1;exact Pl.asymm h1
  ·
   have:∃hi:zm l p<l.length,l[zm l p].pl=p∧zw l p=zm l p:=by
    unfold zw at hlt hpos ⊢
    split at hlt
    next hi=>
     split at hlt
     next he=>exact⟨hi,he,by rw [dif_pos hi,if_pos he]⟩
     next he=>rw [dif_pos hi,if_neg he] at hpos;omega
    next hi=>rw [dif_neg hi] at hpos;omega
   obtain⟨hi,he,h2⟩:=this
   have h3:cs[zw l p].1=p:=by
    have:=hget (zm l p) (by omega)
    rw [this] at he
    simp only [h2];exact he
   rw [h3];exact Pl.irrefl _
 ·
  obtain⟨i,hi,rfl⟩:=List.mem_drop_iff_getElem.1 hb
  have hib:zw l p+1+i<cs.length:=by omega
  have hlt:(cs[zw l p].1).lt (cs[zw l p+1+i].1)=true:=List.pairwise_iff_getElem.1 k.places _ _ hc' hib (by omega)
  have h1:=hs.at_lt p (zw l p+1+i) (by omega)
  rw [hget _ hib] at h1
  simp only at h1
  have hcf:zm l p≤zw l p+1:=by
   unfold zw;split
   ·split<;>omega
   ·omega
  rw [decide_eq_false (by omega)] at h1
  by_cases he:cs[zw l p+1+i].1=p
  ·
   have h5:zm l p=zw l p+1+i:=by
    have h6:=hs.find p
    by_cases hx:∃hi:zm l p<l.length,l[zm l p].pl=p
    ·obtain⟨hi2,he2⟩:=hx
     exact hs.apart _ _ hi2 (by omega) (by rw [he2,hget _ hib];exact he.symm)
    ·exact absurd (by rw [hget _ hib];exact he) (h6.2 (fun hi2 he2=>hx ⟨hi2,he2⟩) (l[zw l p+1+i]'(by omega)) (List.getElem_mem _))
   have h7:zw l p=zm l p:=by
    have hi2:zm l p<l.length:=by omega
    have he2:l[zm l p].pl=p:=by
     have:=hget (zw l p+1+i) hib
     simp only [h5];rw [this];exact he
    unfold zw;rw [dif_pos hi2,if_pos he2]
   omega
  ·exact Pl.total he (by rw [h1];simp)
end prog
end Go.Proofs.YtcoengihaobddaaGreatDoor
