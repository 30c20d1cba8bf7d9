/- Part 15 of 36 of a proof: Pg1, Pg2, Blk1, Blk2, Pg3, Blk3, Tr1, Tr2 -/
import Derived.Test.YtcoengihaobddaaGreatDoorJb02
set_option maxHeartbeats 8000000
set_option linter.unusedVariables false
set_option linter.unusedSimpArgs false
set_option maxRecDepth 8000
namespace Go.Proofs.YtcoengihaobddaaGreatDoor
namespace prog
def numOf(l:List UInt8):Nat:=l.foldl (λn b=>n*256+b.toNat) 0
def bytesOf:Nat->Nat->List UInt8
 |0,_=>[]
 |k+1,n=>bytesOf k (n/256)++[UInt8.ofNat (n%256)]
theorem zP:∀k n,(bytesOf k n).length=k
 |0,_=>rfl
 |k+1,n=>by simp [bytesOf,zP k]
theorem dH(l:List UInt8)(b:UInt8):numOf (l++[b])=numOf l*256+b.toNat:=by simp [numOf]
theorem yn:∀k n,n<256^k->numOf (bytesOf k n)=n
 |0,n,h=>by simp at h;subst h;rfl
 |k+1,n,h=>by rw [bytesOf,dH,yn k (n/256) (by rw [lQ] at h;exact Nat.div_lt_of_lt_mul (by omega))];simp;omega
theorem uG:∀k,bytesOf k 0=List.replicate k 0
 |0=>rfl
 |k+1=>by rw [bytesOf,Nat.zero_div,uG k,List.replicate_succ'];rfl
def zk:Nat->Nat
 |1=>2
 |2=>8
 |3=>1
 |4=>18
 |5=>20
 |6=>1
 |_=>0
def room(k:Nat):Nat:=124/zk k
structure Pg where
 kind:Nat
 link:Nat
 items:List (List UInt8)
structure Pg.Ok (p:Pg):Prop where
 kind:p.kind<=6
 link:p.link<65536
 wide:∀i∈p.items,i.length=zk p.kind
 fits:p.items.length*zk p.kind<=124
 few:p.items.length<=124
def Pg.bytes(p:Pg):List UInt8:=UInt8.ofNat p.kind::UInt8.ofNat p.items.length::bytesOf 2 p.link++p.items.flatten++List.replicate (124-p.items.length*zk p.kind) 0
theorem xP(c:Nat):∀(l:List (List UInt8)),(∀b∈l,b.length=c)->l.flatten.length=l.length*c
 |[],_=>by simp
 |b::l,h=>by rw [aU,ag,xP c l (λd a=>h d (am _ a)),h b (al ..),ae,eJ];omega
theorem Pg.Ok.len{p:Pg}(h:p.Ok):p.bytes.length=128:=by
 have:=h.fits;simp [Pg.bytes,zP];have e:=xP _ p.items h.wide;rw [List.length_flatten] at e;omega
def Pg.new(k:Nat):Pg:=⟨k,0,[]⟩
theorem Pg.new_ok(k:Nat)(h:k<=6):(Pg.new k).Ok where
 kind:=h
 link:=by simp [Pg.new]
 wide:=λ_ h=>nomatch h
 fits:=by simp [Pg.new]
 few:=by simp [Pg.new]
theorem Pg.new_bytes(k:Nat):(Pg.new k).bytes=UInt8.ofNat k::List.replicate 127 0:=by
 simp [Pg.bytes,Pg.new,uG]
theorem Pg.nought:(Pg.new 0).bytes=List.replicate 128 0:=by rw [Pg.new_bytes];rfl
theorem Pg.at0(p:Pg):p.bytes[0]? =some (UInt8.ofNat p.kind):=rfl
theorem Pg.at1(p:Pg):p.bytes[1]? =some (UInt8.ofNat p.items.length):=rfl
theorem Pg.front(p:Pg):(p.bytes.drop 2).take 2=bytesOf 2 p.link:=by
 have:(bytesOf 2 p.link).length=2:=zP 2 _;simp only [Pg.bytes,aT,lp,mo,ak]
 conv=>lhs;arg 1;rw [<-this]
 exact iE
theorem Pg.behind(p:Pg):p.bytes.drop 4=p.items.flatten++List.replicate (124-p.items.length*zk p.kind) 0:=by
 have:(bytesOf 2 p.link).length=2:=zP 2 _;simp only [Pg.bytes,aT,lp,ak]
 conv=>lhs;rw [<-this]
 exact iS
theorem dI(c:Nat):∀(l:List (List UInt8)) (r:List UInt8),(∀b∈l,b.length=c)->∀i (h:i<l.length),((l.flatten++r).drop (i*c)).take c=l[i]
 |[],_,_,i,h=>by simp at h
 |b::l,r,hb,0,_=>by have:=hb b (al ..);simp only [Nat.zero_mul,mo,aU,ak,List.getElem_cons_zero];rw [<-this,iE]
 |b::l,r,hb,i+1,h=>by
  have e:=hb b (al ..);simp only [aU,ak,List.getElem_cons_succ];rw [eJ,iU,iG,<-eA]
  conv=>lhs;rw [show (b++(l.flatten++r)).drop c=l.flatten++r from by rw [<-e];exact iS]
  exact dI c l r (λd a=>hb d (am _ a)) i (by simpa using h)
theorem Pg.Ok.item{p:Pg}(h:p.Ok)(i:Nat)(a:i<p.items.length):(p.bytes.drop (4+i*zk p.kind)).take (zk p.kind)=p.items[i]:=by
 rw [<-eA,p.behind];exact dI _ _ _ h.wide i a
theorem Pg.Ok.all{p:Pg}(h:p.Ok):(p.bytes.drop 4).take (p.items.length*zk p.kind)=p.items.flatten:=by
 rw [p.behind,<-xP _ p.items h.wide,iE]
def qG(l:List UInt8)(o:Nat)(v:List UInt8):List UInt8:=l.take o++v++l.drop (o+v.length)
theorem jq(l:List UInt8)(a:Nat)(v:List UInt8)(h:a+v.length<=l.length):(qG l a v).length=l.length:=by
 simp [qG];omega
def Pg.push(p:Pg)(v:List UInt8):Pg:={p with items:=p.items++[v]}
def Pg.setLink(p:Pg)(n:Nat):Pg:={p with link:=n}
theorem Pg.setLink_bytes(p:Pg)(n:Nat):qG p.bytes 2 (bytesOf 2 n)=(p.setLink n).bytes:=by
 have b:(bytesOf 2 n).length=2:=zP 2 _;have h2:(bytesOf 2 p.link).length=2:=zP 2 _;have a:p.bytes.drop (2+2)=_:=p.behind;unfold qG;rw [b,a];simp [Pg.bytes,Pg.setLink]
end prog
namespace prog
open ref
structure Pl where
 key:ByteArray
 num:Int
deriving DecidableEq
def Pl.lt(a b:Pl):Bool:=qu a.key b.key||(decide (a.key=b.key)&&decide (b.num<a.num))
theorem Pl.lt_iff(a b:Pl):a.lt b=true↔qu a.key b.key=true\/(a.key=b.key/\b.num<a.num):=by simp [Pl.lt]
theorem Pl.irrefl(a:Pl):¬a.lt a=true:=by rw [Pl.lt_iff,yB];simp
theorem Pl.trans{a b c:Pl}(h:a.lt b=true)(k:b.lt c=true):a.lt c=true:=by
 rw [Pl.lt_iff] at*;rcases h with h|⟨h,h'⟩<;>rcases k with k|⟨k,d⟩
 .exact .inl (jC h k)
 .exact .inl (by rw [<-k];exact h)
 .exact .inl (by rw [h];exact k)
 .exact .inr ⟨h.trans k,by omega⟩
theorem Pl.total{a b:Pl}(h:a≠b)(k:¬a.lt b=true):b.lt a=true:=by
 rw [Pl.lt_iff] at*;by_cases e:a.key=b.key
 .right;refine⟨e.symm,?_⟩;by_cases h2:b.num<a.num;.exact absurd (.inr ⟨e,h2⟩) k
  .have:a.num≠b.num:=λc=>h (by cases a;cases b;simp_all);omega
 .left
  cases h2:qu a.key b.key with
  |true=>exact absurd (.inl h2) k
  |false=>exact yQ e h2
theorem Pl.asymm{a b:Pl}(h:a.lt b=true):¬b.lt a=true:=λk=>Pl.irrefl a (Pl.trans h k)
theorem Pl.lt_of_not{a b c:Pl}(h:¬b.lt a=true)(k:b.lt c=true):a.lt c=true:=by
 by_cases e:a=b;.rw [e];exact k
 .by_cases h2:a.lt b=true;.exact Pl.trans h2 k
  .exact absurd (Pl.total e h2) h
theorem Pl.lt_of_lt_not{a b c:Pl}(h:a.lt b=true)(k:¬c.lt b=true):a.lt c=true:=by
 by_cases e:b=c;.rw [<-e];exact h
 .by_cases h2:b.lt c=true;.exact Pl.trans h h2
  .exact absurd (Pl.total e h2) k
structure En where
 pl:Pl
 mark:Bool
 size:Nat
 at_:Nat
structure En.Ok (e:En):Prop where
 key:e.pl.key.data.toList.length<=8
 zero:(0:UInt8)∉e.pl.key.data.toList
 num0:0<=e.pl.num
 num1:e.pl.num<9223372036854775808
 size:e.size<=300
 mark:e.mark=true->e.size=0
 at_:e.at_<65536
def keyBytes(k:ByteArray):List UInt8:=k.data.toList++List.replicate (8-k.data.toList.length) 0
theorem yV(k:ByteArray)(h:k.data.toList.length<=8):(keyBytes k).length=8:=by simp [keyBytes] at *; omega
def cut(l:List UInt8):List UInt8:=(l.reverse.dropWhile (· ==0)).reverse
theorem QE(l:List UInt8):cut (l++[0])=cut l:=by simp [cut]
theorem Jh(l:List UInt8):∀n,cut (l++List.replicate n 0)=cut l
 |0=>by simp
 |n+1=>by rw [List.replicate_succ',<-ak,QE,Jh l n]
theorem Vz{l:List UInt8}(h:(0:UInt8)∉l):cut l=l:=by
 unfold cut;rw [show l.reverse.dropWhile (· ==0)=l.reverse from ?_,List.reverse_reverse]
 cases b:l.reverse with
 |nil=>rfl
 |cons a r=>
  have:a∈l:=by rw [<-List.mem_reverse,b];exact al ..
  rw [List.dropWhile_cons,aw];intro c;exact h (by rw [<-eq_of_beq c];exact this)
theorem Ji(k:ByteArray)(h:(0:UInt8)∉k.data.toList):cut (keyBytes k)=k.data.toList:=by
 rw [keyBytes,Jh,Vz h]
def ub(p:Pl):List UInt8:=keyBytes p.key++bytesOf 8 p.num.toNat
def qK(e:En):Nat:=if e.mark then 65535 else e.size
def qk(e:En):List UInt8:=ub e.pl++bytesOf 2 e.at_
def jY(e:En):List UInt8:=qk e++bytesOf 2 (qK e)
def jL(k:Nat)(e:En):List UInt8:=if k=5 then jY e else qk e
theorem xz{e:En}(h:e.Ok):(qk e).length=18:=by simp [qk,ub,zP,yV _ h.key]
theorem ZL{e:En}(h:e.Ok):(jY e).length=20:=by simp [jY,xz h,zP]
theorem QF{e:En}(h:e.Ok){k:Nat}(a:k=4\/k=5):(jL k e).length=zk k:=by
 rcases a with rfl|rfl;.simp [jL,xz h,zk]
 .simp [jL,ZL h,zk]
theorem uH{e:En}(h:e.Ok)(r:List UInt8):(qk e++r).take 8=keyBytes e.pl.key/\((qk e++r).drop 8).take 8=bytesOf 8 e.pl.num.toNat/\((qk e++r).drop 16).take 2=bytesOf 2 e.at_/\(qk e++r).drop 18=r:=by
 have j:=yV _ h.key;have h2:=zP 8 e.pl.num.toNat;have l:=zP 2 e.at_;have k:qk e++r=keyBytes e.pl.key++(bytesOf 8 e.pl.num.toNat++(bytesOf 2 e.at_++r)):=by simp [qk,ub]
 have c:∀(n:Nat) (f g:List UInt8),f.length=n->(f++g).take n=f/\(f++g).drop n=g:=λn f g i=>by subst i;exact⟨iE,iS⟩
 have a:=(c 8 _ (bytesOf 8 e.pl.num.toNat++(bytesOf 2 e.at_++r)) j);have b:=(c 8 _ (bytesOf 2 e.at_++r) h2);have d:=(c 2 _ r l);rw [k];refine⟨a.1,?_,?_,?_⟩;.rw [a.2];exact b.1
 .rw [show (16:Nat)=8+8 from rfl,<-eA,a.2,b.2];exact d.1
 .rw [show (18:Nat)=8+8+2 from rfl,<-eA,<-eA,a.2,b.2];exact d.2
theorem QG{e:En}(h:e.Ok):((numOf (bytesOf 8 e.pl.num.toNat):Nat):Int)=e.pl.num:=by
 have a:=h.num0;have b:=h.num1
 rw [yn _ _ (by have:(256:Nat)^8=18446744073709551616:=by decide
                omega)]
 omega
theorem Jj{e:En}(h:e.Ok):numOf (bytesOf 2 e.at_)=e.at_:=yn _ _ (by have:=h.at_;omega)
theorem Kg{e:En}(h:e.Ok):numOf (bytesOf 2 (qK e))=qK e:=yn _ _ (by
 have:=h.size;unfold qK
 split<;>omega)
def zc(k:Nat)(es:List En):Pg:=⟨k,0,es.map (jL k)⟩
theorem cO{k:Nat}(b:k=4\/k=5){a:List En}(h:∀e∈a,e.Ok)(f:a.length<=6):(zc k a).Ok where
 kind:=by rcases b with rfl|rfl<;>simp [zc]
 link:=by simp [zc]
 wide:=λi d=>by obtain⟨e,c,rfl⟩:=au.1 d;exact QF (h e c) b
 fits:=by rcases b with rfl|rfl<;>simp [zc,zk]<;>omega
 few:=by simp [zc];omega
end prog
namespace prog
open Go.ChangeShapes Go.WideShapes Go.ChangeAt Go.RowKit disk ref
open keys (zh zd zx zq)
variable {w:World}{b:Nat}{t:TypeId}{l:List UInt8}
theorem dJ(l:List UInt8)(k:Nat)(h:k<l.length):numOf (l.take (k+1))=numOf (l.take k)*256+l[k].toNat:=by
 rw [ao h,dH]
theorem VA(l:List UInt8):∀k,numOf (l.take k)<=numOf l:=by
 intro k
 induction h:l.length-k generalizing k with
 |zero=>rw [an (by omega)];exact aF _
 |succ n a=>
  have b:=a (k+1) (by omega);rw [dJ l k (by omega)] at b;omega
theorem Gw(q z:Nat)(k:z<256)(h:q*256+z<9223372036854775808):bits BinOp.or IntKind.i64 ((q:Int)*256) (z:Int)=((q*256+z:Nat):Int):=by
 have j:BitVec.ofInt 64 ((q:Int)*256)=BitVec.ofNat 64 (q*256):=by rw [<-BitVec.ofInt_natCast];congr 1
 have a:BitVec.ofInt 64 (z:Int)=BitVec.ofNat 64 z:=BitVec.ofInt_natCast ..
 have g:(q*256)|||z=q*256+z:=by have:=Nat.shiftLeft_add_eq_or_of_lt (i:=8) (b:=z) (by omega) q;rw [Nat.shiftLeft_eq] at this;exact this.symm
 have f:(BitVec.ofNat 64 (q*256)|||BitVec.ofNat 64 z).toNat=q*256+z:=by
  have d:q*256%18446744073709551616=q*256:=by omega
  have e:z%18446744073709551616=z:=by omega
  simp only [BitVec.toNat_or,BitVec.toNat_ofNat,Nat.reducePow];rw [d,e,g]
 have c:bits BinOp.or IntKind.i64 ((q:Int)*256) (z:Int)=IntKind.i64.wrap ((BitVec.ofInt 64 ((q:Int)*256)|||BitVec.ofInt 64 (z:Int)).toNat:Nat):=rfl;rw [c,j,a,f,IntKind.wrap_i64];omega
theorem Xn(w:World)(P:Nat->Prop)(a:Option Addr)(l:List UInt8)(d:Nat)(h:zO w P a l)(r:l.length<=8)(p:numOf l<9223372036854775808):
 Calls Tryz.prog 83 #[.slice a l.length d] w λe w'=>e=.returned (.int .i64 (numOf l:Nat))/\w'=w:=by
 change Hid _ at h;go_enter Tryz.func83,Tryz.ntmps83;go_wp2;go_loop [3,8] (λu t=>∃k:Nat,k<=l.length/\t=.int .i64 k/\u=.int .i64 (numOf (l.take k):Nat)) (λ_ t=>l.length-(intOf t).toNat)
 case atStart=>exact⟨0,aj _,rfl,rfl⟩
 case round=>
  obtain⟨k,s,rfl,rfl⟩:=hrel;by_cases c:k<l.length
  .have g:=VA l (k+1);have h2:=dJ l k c;have m:Hid _:=h2;rw [h2] at g;have o:=l[k].toNat_lt;rcases h.out with j|⟨b,v,rfl,_,_,f⟩;.rw [j] at c;simp at c
   .have n:=f k c;generalize numOf (l.take k)=q at*;clear h2 f;generalize l[k].toNat=z at*;have i:Hid _:=Gw q z (by omega) (by omega);go_wp2;go_round
    case rel=>exact⟨k+1,by omega,by go_num,by rw [m.out,i.out]⟩
    case measure=>simp [intOf];omega
  .have e:k=l.length:=by omega
   subst e;have h2:numOf (l.take l.length)=numOf l:=by rw [eN]
   rw [h2] at*;go_wp2;go_ret;exact⟨rfl,rfl⟩
structure yK (w:World) (b:Nat) (t:TypeId) (l:List UInt8):Prop where
 at_:w.heap[b]? =some (.cells (l.map qy).toArray t (0,0))
theorem yK.lt(h:yK w b t l):b<w.heap.size:=(lT h.at_)
theorem yK.kept{w':World}{T:Nat->Prop}(h:yK w b t l)(k:za T w w')(a:¬T b):yK w' b t l:=⟨(k.block b h.lt a).trans h.at_⟩
theorem yK.cell(h:yK w b t l)(i:Nat)(a:i<l.length):w.cell? ⟨b,i,none⟩=some (.int .u8 (l[i].toNat:Int)):=by
 rw [aG w b i _ _ _ h.at_];simp [a,qy]
theorem yK.fz(h:yK w b t l)(i:Nat):w.frozen? ⟨b,i,none⟩=false:=aa w b i _ _ h.at_
theorem yK.set(h:yK w b t l)(i:Nat)(c:UInt8):yK (w.setCell ⟨b,i,none⟩ (.int .u8 (c.toNat:Int))) b t (l.set i c):=by
 refine⟨?_⟩;rw [heap_setCell_same w b i _ _ _ h.at_];congr 2;apply lF;simp [qy]
theorem yK.bytes(h:yK w b t l)(P:Nat->Prop)(d:P b)(a n:Nat)(e:a+n<=l.length):zO w P (some ⟨b,a,none⟩) ((l.drop a).take n):=
 .inr ⟨b,a,rfl,d,h.lt,λj c=>by
  simp only [aC,aS] at c;rw [h.cell (a+j) (by omega)]
  simp⟩
theorem yx(w:World)(b:Nat)(t:TypeId)(l:List UInt8)(h:yK w b t l)(c k a n:Nat)(d:c+k<=l.length)(j:k<=8)(g:numOf ((l.drop c).take k)=n)(m:n<9223372036854775808):
 Calls Tryz.prog 83 #[.slice (some ⟨b,c,none⟩) k a] w λe w'=>e=.returned (.int .i64 n)/\w'=w:=by
 have f:((l.drop c).take k).length=k:=by simp;omega
 have:=Xn w (λi=>i=b) (some ⟨b,c,none⟩) ((l.drop c).take k) a (h.bytes (λi=>i=b) rfl c k d) (by omega) (by omega);rw [f,g] at this;exact this
theorem uI:∀m n,bytesOf (m+1) n=UInt8.ofNat (n/256^m%256)::bytesOf m n
 |0,n=>by simp [bytesOf]
 |m+1,n=>by rw [bytesOf,uI m (n/256),bytesOf,l5,lQ,Nat.mul_comm];rfl
theorem cP(l:List UInt8)(j:Nat)(c:UInt8)(v:List UInt8)(h:j+1+v.length<=l.length):qG l j (c::v)=(qG l (j+1) v).set j c:=by
 have e:(qG l (j+1) v).length=l.length:=jq _ _ _ h;rw [hE,aB (by omega)];have d:(l.take (j+1)).length=j+1:=by simp;omega
 have a:(qG l (j+1) v).take j=l.take j:=by rw [qG,ak,aZ (by omega),iu,a8 (by omega)]
 have b:(qG l (j+1) v).drop (j+1)=v++l.drop (j+1+v.length):=by
  rw [qG,ak]
  conv=>lhs;arg 1;rw [<-d]
  exact iS
 rw [a,b,qG];simp only [ae,ak,aT];rw [show j+(v.length+1)=j+1+v.length from by omega]
theorem Gx(q:Nat):((q:Int)%256)=((UInt8.ofNat (q%256)).toNat:Int):=by simp
theorem QH(l:List UInt8)(j:Nat):qG l j []=l:=by simp [qG]
theorem qO(w:World)(b:Nat)(t:TypeId)(l:List UInt8)(h:yK w b t l)(c k f:Nat)(C:c+k<=l.length)(p:k<=8)(n:Nat)(A:n<9223372036854775808):
 Calls Tryz.prog 138 #[.slice (some ⟨b,c,none⟩) k f,.int .i64 n] w λe w'=>e=.returned (.tuple #[])/\yK w' b t (qG l c (bytesOf k n))/\za (λi=>i=b) w w':=by
 have g:Hid _:=h;clear h;go_enter Tryz.func138,Tryz.ntmps138;go_wp2;go_loopw [1,4] (λD i wr=>∃m:Nat,m<=k/\i=.int .i64 ((k:Int)-1-m)/\D=.int .i64 ((n/256^m:Nat):Int)/\yK wr b t (qG l (c+(k-m)) (bytesOf m n))/\za (λi=>i=b) w wr) (λ_ i _=>(intOf i+1).toNat)
 case atStart=>exact⟨0,aj _,by simp,by simp,by simp only [bytesOf,QH];exact g,za.refl _ _⟩
 case round=>
  obtain⟨m,E,rfl,rfl,d,a⟩:=hrel;have v:(qG l (c+(k-m)) (bytesOf m n)).length=l.length:=jq _ _ _ (by rw [zP];omega);change Hid _ at d a;have y:n/256^m<=n:=Nat.div_le_self _ _;by_cases u:m<k
  .have B:=d.cell (c+(k-1-m)) (by omega);have x:=d.fz (c+(k-1-m))
   have o:Hid (qG l (c+(k-(m+1))) (bytesOf (m+1) n)=(qG l (c+(k-m)) (bytesOf m n)).set (c+(k-1-m)) (UInt8.ofNat (n/256^m%256))):=by show _=_;rw [uI,cP _ _ _ _ (by rw [zP];omega),show c+(k-(m+1))+1=c+(k-m) from by omega,show c+(k-(m+1))=c+(k-1-m) from by omega]
   have j:Hid (n/256^(m+1)=n/256^m/256):=by show _=_;rw [lQ,l5]
   generalize (qG l (c+(k-m)) (bytesOf m n))[c+(k-1-m)].toNat=z at*;generalize qG l (c+(k-m)) (bytesOf m n)=s at*;generalize n/256^m=q at*;have r:((k:Int)-1-m).toNat=k-1-m:=by omega
   go_wp2;go_roundw
   case rel=>exact⟨m+1,by omega,by go_num,by rw [j.out];go_num,by rw [o.out,Gx];exact d.set _ _,a.trans (za.setCell (S:=λi=>i=b) _ ⟨b,_,none⟩ _ rfl) iL⟩
   case measure=>simp [intOf];omega
  .have e:m=k:=by omega
   subst e;generalize n/256^m=q at*;go_wp2;go_end0;exact⟨rfl,by have:=d.out;rw [Nat.sub_self,lD] at this;exact this,a⟩
end prog
namespace prog
open Go.ChangeShapes Go.WideShapes Go.ChangeAt Go.RowKit disk ref
open keys (zh zd zx zq)
variable {w:World}{b:Nat}
theorem gG(w:World)(k:Nat)(a:k<=6):Calls Tryz.prog 145 #[.int .u8 k] w λe w'=>e=.returned (.int .i64 (zk k:Nat))/\w'=w:=by
 rcases (by omega:k=0\/k=1\/k=2\/k=3\/k=4\/k=5\/k=6) with rfl|rfl|rfl|rfl|rfl|rfl|rfl
 all_goals
  go_enter Tryz.func145,Tryz.ntmps145;go_wp2;go_ret;exact⟨rfl,rfl⟩
theorem VB(w:World)(k a:Nat)(b:k<=6)(h:zk k=a):Calls Tryz.prog 145 #[.int .u8 k] w λe w'=>e=.returned (.int .i64 a)/\w'=w:=by
 rw [<-h];exact gG w k b
theorem jZ(w:World)(k:Nat)(a:k<=6):Calls Tryz.prog 129 #[.int .u8 k] w λe w'=>e=.returned (.int .i64 (room k:Nat))/\w'=w:=by
 rcases (by omega:k=0\/k=1\/k=2\/k=3\/k=4\/k=5\/k=6) with rfl|rfl|rfl|rfl|rfl|rfl|rfl
 all_goals
  go_enter Tryz.func129,Tryz.ntmps129;go_wp2_with (go_at_call 145;refine(gG _ _ (by omega)).mono ?_;rintro e w' ⟨rfl,rfl⟩;simp only [zk]);go_ret;exact⟨rfl,rfl⟩
structure qP (w:World) (b:Nat) (p:Pg):Prop where
 bs:yK w b 154 p.bytes
 ok:p.Ok
theorem qP.kept{w':World}{T:Nat->Prop}{p:Pg}(h:qP w b p)(k:za T w w')(a:¬T b):qP w' b p:=⟨h.bs.kept k a,h.ok⟩
theorem kX(n:Nat)(h:n<256):(UInt8.ofNat n).toNat=n:=by simp;omega
theorem qP.c0{p:Pg}(h:qP w b p):w.cell? ⟨b,0,none⟩=some (.int .u8 (p.kind:Int)):=by
 have a:=h.bs.cell 0 (by rw [h.ok.len];omega);have h2:p.bytes[0]'(by rw [h.ok.len];omega)=UInt8.ofNat p.kind:=eG ((aH _).symm.trans p.at0);rw [h2,kX _ (by have:=h.ok.kind;omega)] at a;exact a
theorem qP.c1{p:Pg}(h:qP w b p):w.cell? ⟨b,1,none⟩=some (.int .u8 (p.items.length:Int)):=by
 have a:=h.bs.cell 1 (by rw [h.ok.len];omega);have h2:p.bytes[1]'(by rw [h.ok.len];omega)=UInt8.ofNat p.items.length:=eG ((aH _).symm.trans p.at1);rw [h2,kX _ (by have:=h.ok.few;omega)] at a;exact a
theorem kZ(w:World)(b:Nat)(p:Pg)(h:qP w b p):Calls Tryz.prog 144 #[.pointer (some ⟨b,0,none⟩)] w λe w'=>e=.returned (.int .u8 (p.kind:Nat))/\w'=w:=by
 have a:=h.c0;clear h;go_enter Tryz.func144,Tryz.ntmps144;go_wp2;go_ret;exact⟨rfl,rfl⟩
theorem vx(w:World)(b:Nat)(p:Pg)(h:qP w b p):Calls Tryz.prog 82 #[.pointer (some ⟨b,0,none⟩)] w λe w'=>e=.returned (.int .i64 (p.items.length:Nat))/\w'=w:=by
 have a:=h.c1;have c:=h.ok.few;clear h;go_enter Tryz.func82,Tryz.ntmps82;go_wp2;go_ret;exact⟨rfl,rfl⟩
theorem QI(w:World)(b:Nat)(p:Pg)(h:qP w b p):Calls Tryz.prog 126 #[.pointer (some ⟨b,0,none⟩)] w λe w'=>e=.returned (.int .i64 (p.link:Nat))/\w'=w:=by
 have d:=h.c0;have f:=h.ok.link;have a:=h.ok.len;have c:Hid (numOf ((p.bytes.drop 2).take 2)=p.link):=by show _=_;rw [p.front];exact yn 2 _ (by omega)
 change Hid _ at h;go_enter Tryz.func126,Tryz.ntmps126;go_wp2_with (go_at_call 83;refine(yx _ b _ _ h.bs 2 2 126 p.link (by omega) (by omega) c (by omega)).mono ?_;rintro e w' ⟨rfl,rfl⟩);go_ret;exact⟨rfl,rfl⟩
theorem fI(w:World)(b:Nat)(p:Pg)(h:qP w b p)(n:Nat)(f:n<65536):Calls Tryz.prog 132 #[.pointer (some ⟨b,0,none⟩),.int .i64 n] w λe w'=>e=.returned (.tuple #[])/\qP w' b (p.setLink n)/\za (λi=>i=b) w w':=by
 have d:=h.ok.len;change Hid _ at h;go_enter Tryz.func132,Tryz.ntmps132;go_wp2_with (go_at_call 138;refine(qO _ b _ _ h.bs 2 2 126 (by omega) (by omega) n (by omega)).mono ?_;rintro e w' ⟨rfl,a,c⟩;change Hid _ at a c);go_end0;have h2:=a.out;rw [p.setLink_bytes] at h2;exact⟨rfl,⟨h2,⟨h.ok.kind,f,h.ok.wide,h.ok.fits,h.ok.few⟩⟩,c⟩
def QJ(b k i:Nat):Value:=.slice (some ⟨b,4+i*zk k,none⟩) (zk k) (124-i*zk k)
def xX(b k n:Nat):Value:=.slice (some ⟨b,4,none⟩) (n*zk k) 124
theorem QK(k:Nat):zk k<=20:=by unfold zk;split<;>omega
theorem Jk:Tryz.prog.arrayLen 154=128:=by kernel_rfl
theorem yH:Tryz.prog.underlying 154=some (.array (Tryz.prog.arrayLen 154) (Tryz.prog.elem 154)):=by kernel_rfl
theorem cQ:(Tryz.prog.info? (Tryz.prog.elem 154)).map (·.size)=some 1:=by kernel_rfl
theorem QL(w:World)(b:Nat)(l h:Int)(L N:Nat)(d:l=L)(c:h=L+N)(f:L+N<=128)(e:L<128):
 (Instr.sliceAt 154 (.pointer (some ⟨b,0,none⟩)) (some (.int .i64 l)) (some (.int .i64 h)) none).run Tryz.prog w=.ok (.slice (some ⟨b,L,none⟩) N (128-L)) w:=by
 have a:=xu cQ w;rw [run_sliceAt_array_lh w _ _ yH .i64 .i64 l h (by omega) (by omega) (by rw [Jk];omega),a];simp only [eD,slicedAt,Jk];subst d;subst c;simp only [mu,Nat.mul_one,eO,eT];rw [aw (by omega),show ((L:Int)+N).toNat=L+N from by omega,show L+N-L=N from by omega]
theorem QM(w:World)(b:Nat)(p:Pg)(h:qP w b p)(i:Nat)(k:i<p.items.length)(l:1<=zk p.kind):Calls Tryz.prog 84 #[.pointer (some ⟨b,0,none⟩),.int .i64 i] w λe w'=>e=.returned (QJ b p.kind i)/\w'=w:=by
 have o:=h.c0;have f:=h.ok.kind;have q:=QK p.kind;have j:(i+1)*zk p.kind<=124:=aD (ee _ k) h.ok.fits;rw [eJ,iU] at j;have m:((i:Int)*(zk p.kind:Nat))=((i*zk p.kind:Nat):Int):=by simp
 have g:Hid (QJ b p.kind i=.slice (some ⟨b,4+i*zk p.kind,none⟩) (zk p.kind) (124-i*zk p.kind)):=rfl;change Hid _ at h;generalize QJ b p.kind i=n at*;generalize i*zk p.kind=d at*;generalize a:zk p.kind=c at*;change Hid _ at a;have hcut:=QL w b (4+↑d) (4+↑d+↑c) (4+d) c (by omega) (by omega) (by omega) (by omega);go_enter Tryz.func84,Tryz.ntmps84
 go_wp2_with (first
  |(go_at_call 144;refine(kZ _ b p h).mono ?_;rintro e w' ⟨rfl,rfl⟩)
  |(go_at_call 145;refine(gG _ _ f).mono ?_;rintro e w' ⟨rfl,rfl⟩;rw [a.out]))
 go_ret;exact⟨by rw [g.out,show 124-d=128-(4+d) from by omega];rfl,rfl⟩
theorem je(w:World)(b:Nat)(p:Pg)(h:qP w b p):Calls Tryz.prog 125 #[.pointer (some ⟨b,0,none⟩)] w λe w'=>e=.returned (xX b p.kind p.items.length)/\∃n,w'=w.drewN n:=by
 have f:=h.ok.kind;have i:=QK p.kind;have a:=h.ok.fits;have k:((p.items.length:Int)*(zk p.kind:Nat))=((p.items.length*zk p.kind:Nat):Int):=by simp
 have g:Hid (xX b p.kind p.items.length=.slice (some ⟨b,4,none⟩) (p.items.length*zk p.kind) 124):=rfl;change Hid _ at h;generalize xX b p.kind p.items.length=l at*;generalize p.items.length*zk p.kind=d at*;generalize c:zk p.kind=j at*;change Hid _ at c;have hcut:∀w,(Instr.sliceAt 154 (.pointer (some ⟨b,0,none⟩)) (some (.int .i64 4)) (some (.int .i64 (4+↑d))) none).run Tryz.prog w=.ok (.slice (some ⟨b,4,none⟩) d 124) w:=λw=>QL w b 4 (4+↑d) 4 d rfl rfl (by omega) (by omega);go_enter Tryz.func125,Tryz.ntmps125;go_wp2
 go_quiet ((first
  |(go_at_call 82;exact Calls.quiet_of_same (vx _ b p (by exact h.kept (T:=λ_=>False) kD (λa=>a))))
  |(go_at_call 144;exact Calls.quiet_of_same (kZ _ b p (by exact h.kept (T:=λ_=>False) kD (λa=>a))))
  |(go_at_call 145;exact Calls.quiet_of_same (VB _ _ _ f c))))
 go_wp2;go_ret;exact⟨by rw [g.out];rfl,_,rfl⟩
end prog
namespace prog
def Pg.grown(p:Pg)(k:Nat):Pg:={p with items:=p.items++List.replicate k (List.replicate (zk p.kind) 0)}
def Pg.more(p:Pg)(vs:List (List UInt8)):Pg:={p with items:=p.items++vs}
theorem Pg.grown_len(p:Pg)(k:Nat):(p.grown k).items.length=p.items.length+k:=by simp [Pg.grown]
theorem Pg.Ok.more{p:Pg}(h:p.Ok){vs:List (List UInt8)}(b:∀v∈vs,v.length=zk p.kind)(d:(p.items.length+vs.length)*zk p.kind<=124)(c:p.items.length+vs.length<=124):(p.more vs).Ok where
 kind:=h.kind
 link:=h.link
 wide:=λi a=>by
  rcases ah.1 a with a|a;.exact h.wide i a
  .exact b i a
 fits:=by simpa [Pg.more] using d
 few:=by simpa [Pg.more] using c
theorem Pg.grown_more(p:Pg)(k:Nat):p.grown k=p.more (List.replicate k (List.replicate (zk p.kind) 0)):=rfl
theorem Pg.Ok.grown{p:Pg}(h:p.Ok)(k:Nat)(c:(p.items.length+k)*zk p.kind<=124)(a:p.items.length+k<=124):(p.grown k).Ok:=by
 rw [Pg.grown_more];exact h.more (λv b=>by rw [lj b];simp) (by simpa using c) (by simpa using a)
theorem ud(w:Nat):∀k,(List.replicate k (List.replicate w (0:UInt8))).flatten=List.replicate (k*w) 0
 |0=>by simp
 |k+1=>by rw [mg,aU,ud w k,lq];congr 1;rw [eJ];omega
theorem Pg.Ok.grown_bytes{p:Pg}(h:p.Ok)(k:Nat)(b:(p.items.length+k)*zk p.kind<=124):qG p.bytes 1 [UInt8.ofNat (p.items.length+k)]=(p.grown k).bytes:=by
 have e:124-p.items.length*zk p.kind=k*zk p.kind+(124-(p.items.length+k)*zk p.kind):=by rw [eJ] at *; omega
 have a:List.replicate (124-p.items.length*zk p.kind) (0:UInt8)=List.replicate (k*zk p.kind) 0++List.replicate (124-(p.items.length+k)*zk p.kind) 0:=by rw [lq,<-e]
 simp only [Pg.bytes,Pg.grown,ag,List.length_replicate,eV,ud,a];simp [qG]
theorem Pg.Ok.more_bytes{p:Pg}(h:p.Ok)(vs:List (List UInt8))(c:∀v∈vs,v.length=zk p.kind)(g:(p.items.length+vs.length)*zk p.kind<=124):
 qG (p.grown vs.length).bytes (4+p.items.length*zk p.kind) vs.flatten=(p.more vs).bytes:=by
 have h2:(bytesOf 2 p.link).length=2:=zP 2 _;have a:=xP _ p.items h.wide;have b:=xP _ vs c
 have f:(p.grown vs.length).bytes=(UInt8.ofNat p.kind::UInt8.ofNat (p.items.length+vs.length)::bytesOf 2 p.link++p.items.flatten)++(List.replicate (vs.length*zk p.kind) 0++List.replicate (124-(p.items.length+vs.length)*zk p.kind) 0):=by simp only [Pg.bytes,Pg.grown,ag,List.length_replicate,eV,ud];simp
 have e:(UInt8.ofNat p.kind::UInt8.ofNat (p.items.length+vs.length)::bytesOf 2 p.link++p.items.flatten).length=4+p.items.length*zk p.kind:=by simp only [ag,ae,h2,a];try omega
 rw [f];unfold qG;have d:(List.replicate (vs.length*zk p.kind) (0:UInt8)).length=vs.flatten.length:=by rw [b];simp
 rw [<-e,iE,iW,<-d,iS];simp [Pg.bytes,Pg.more]
theorem Pg.Ok.push_over{p:Pg}(h:p.Ok)(v:List UInt8)(a:v.length=zk p.kind)(c:(p.items.length+1)*zk p.kind<=124):qG (p.grown 1).bytes (4+p.items.length*zk p.kind) v=(p.push v).bytes:=by
 have:=h.more_bytes [v] (λu b=>by rw [az.1 b];exact a) (by simpa using c);simpa [Pg.more,Pg.push] using this
theorem gH(l:List UInt8)(a:Nat)(u v:List UInt8)(h:a+u.length+v.length<=l.length):qG (qG l a u) (a+u.length) v=qG l a (u++v):=by
 have e:(l.take a).length=a:=by simp;omega
 have b:(l.take a++u).length=a+u.length:=by simp;omega
 have d:(qG l a u).drop (a+u.length+v.length)=l.drop (a+u.length+v.length):=by unfold qG;rw [<-b,iW,eA]
 have c:(qG l a u).take (a+u.length)=l.take a++u:=by unfold qG;rw [<-b,iE]
 unfold qG at d c ⊢;rw [c,d];simp [lH]
end prog
namespace prog
open Go.ChangeShapes Go.WideShapes Go.ChangeAt Go.RowKit disk ref
open keys (zh zd zx zq)
theorem Tryz.infoPage:(Tryz.prog.info? 154).map (λi=>(i.zero,i.size,i.bytes))=some (some (.agg zW.toArray),128,128):=by kernel_rfl
def Xo(parts:Array (Nat×Value)):Sem Value:=Instr.build 154 parts
theorem Kh(parts:Array (Nat×Value)):Instr.build 154 parts=Xo parts:=rfl
theorem Xp(w:World)(k:Int):(Xo #[(0,.int .u8 k)]).run Tryz.prog w=.ok (.agg (.int .u8 k::List.replicate 127 (.int .u8 0)).toArray) w:=by
 have b:=zX Tryz.infoPage w;have c:=xu cQ;have a:zW=.int .u8 0::List.replicate 127 (.int .u8 0):=rfl;simp only [Xo,Instr.build,ie,b,eD,ii yH w];simp [c,Value.cells,Instr.fill,a]
def zl(p:Pg):List Value:=p.bytes.map qy
theorem ZM{p:Pg}(h:p.Ok):(zl p).length=128:=by rw [zl,ez,h.len]
theorem yc{p:Pg}(h:p.Ok):zS (zl p):=⟨ZM h,vr _⟩
theorem Dc(k:Nat)(a:k<=6):zl (Pg.new k)=.int .u8 (k:Int)::List.replicate 127 (.int .u8 0):=by
 rw [zl,Pg.new_bytes,aO,List.map_replicate];unfold qy;rw [kX _ (by omega)];rfl
end prog
namespace prog
open Go.ChangeShapes Go.WideShapes Go.ChangeAt Go.RowKit disk ref
section
attribute [local go_sem ↓] Kh
theorem jD(w:World)(k:Nat)(h:k<=6):Calls Tryz.prog 131 #[.int .u8 k] w λe w'=>e=.returned (.agg (zl (Pg.new k)).toArray)/\za (λ_=>False) w w':=by
 have g:Hid _:=zY Tryz.infoPage;obtain⟨b,c,l⟩:∃b:List Value,b=zW/\∀w,(zeroValue 154).run Tryz.prog w=.ok (.agg b.toArray) w:=⟨zW,rfl,zX Tryz.infoPage⟩;have i:Hid (zS b):=by rw [c];exact zG
 clear c;have j:Hid _:=Dc k h;have a:Hid _:=yc (Pg.new_ok k h);have f:=λw=>Xp w (k:Int);rw [<-j.out] at f;generalize zl (Pg.new k)=d at*;clear j;go_enter Tryz.func131,Tryz.ntmps131;go_wp2_with (show wpList _ _ _ ({dst:=none,op:=.store _ _ _,type:=_,pos:=_,after:=_,guard:=_}::_) _ _;refine zi rfl 154 (.tmp 2) (.tmp 4) rfl _ _ d (by simp) rfl rfl (by rw [a.1];exact g) (by rw [aq,i.1,a.1]) a.2 ?_);refine bodyPost_ret (v:=.agg d.toArray) (results_cell_row Tryz.results131 _ _ w.heap.size 154 _ (0,0) _ rfl (by have:=ac w (.cells d.toArray 154);simpa using this) yH rfl (by rw [aq,a.1];exact g)) rfl ⟨rfl,za.alloc _ _ _⟩
end
theorem VC(l:List UInt8)(i:Nat)(c:UInt8)(h:i<l.length):qG l i [c]=l.set i c:=by
 rw [cP _ _ _ _ (by simp;omega),QH]
def vd(b k n i:Nat):Value:=.slice (some ⟨b,4+n*zk k,none⟩) (i*zk k) (124-n*zk k)
theorem ve(w:World)(b:Nat)(p:Pg)(h:qP w b p)(k:Nat)(a:(p.items.length+k)*zk p.kind<=124)(q:p.items.length+k<=124)(A:1<=k*zk p.kind):
 Calls Tryz.prog 133 #[.pointer (some ⟨b,0,none⟩),.int .i64 k] w λe w'=>e=.returned (vd b p.kind p.items.length k)/\qP w' b (p.grown k)/\za (λi=>i=b) w w':=by
 have y:=h.c1;have u:=h.bs.fz 1;have d:Hid _:=h;clear h;go_enter Tryz.func133,Tryz.ntmps133;go_wp2_with (go_at_call 125;refine(je _ b p d).mono ?_;rintro e s ⟨rfl,f,rfl⟩;unfold xX)
 go_region
 have t:=d.ok.len
 have l:Hid (qP ((w.drewN (f+1)).setCell ⟨b,1,none⟩ (.int .u8 (↑p.items.length+↑k))) b (p.grown k)):=by show qP _ b (p.grown k);refine⟨?_,d.ok.grown k a q⟩;have j:=(d.bs.kept (T:=λ_=>False) (w':=w.drewN (f+1)) kD (λa=>a)).set 1 (UInt8.ofNat (p.items.length+k));rw [kX _ (by omega),<-VC _ _ _ (by omega),d.ok.grown_bytes k a] at j;exact j
 have r:Hid (za (λi=>i=b) w ((w.drewN (f+1)).setCell ⟨b,1,none⟩ (.int .u8 (↑p.items.length+↑k)))):=
  za.trans (S':=λi=>i=b) (b:=w.drewN (f+1)) kD (za.setCell _ _ _ rfl) iL
 generalize (w.drewN (f+1)).setCell ⟨b,1,none⟩ (.int .u8 (↑p.items.length+↑k))=x at*;have o:Hid (vd b p.kind p.items.length k=.slice (some ⟨b,4+p.items.length*zk p.kind,none⟩) (k*zk p.kind) (124-p.items.length*zk p.kind)):=rfl;have g:Hid ((p.grown k).kind=p.kind):=rfl;have m:((p.items.length:Int)*(zk p.kind:Nat))=((p.items.length*zk p.kind:Nat):Int):=by simp
 have c:(p.items.length+k)*zk p.kind=p.items.length*zk p.kind+k*zk p.kind:=eJ ..;rw [c] at a;rw [m];change Hid _ at c;clear m;generalize p.items.length*zk p.kind=B at*;generalize k*zk p.kind=z at*;have n:¬124=B:=by omega
 go_wp2_with (go_at_call 125;refine(je _ b _ l).mono ?_;rintro e s ⟨rfl,v,rfl⟩;unfold xX;rw [g.out,Pg.grown_len,c.out]);go_ret;exact⟨by rw [o.out];rfl,l.kept (T:=λ_=>False) kD (λa=>a),r.trans (S':=λ_=>False) kD fE⟩
end prog
namespace prog
open ref
variable {h:Nat}
def Tr:Nat->Type
 |0=>Nat×List En
 |h+1=>Nat×List (Pl×Tr h)
def Tr.blk:{h:Nat}->Tr h->Nat
 |0,t=>t.1
 |_+1,t=>t.1
def Tr.items:{h:Nat}->Tr h->List En
 |0,t=>t.2
 |_+1,t=>t.2.map λc=>⟨c.1,false,0,c.2.blk⟩
def zN:Nat->Nat
 |0=>5
 |_+1=>4
def Tr.ents:{h:Nat}->Tr h->List En
 |0,t=>t.2
 |h+1,t=>(t.2.map λc=>Tr.ents (h:=h) c.2).flatten
def Tr.blocks:{h:Nat}->Tr h->List Nat
 |0,t=>[t.1]
 |h+1,t=>t.1::(t.2.map λc=>Tr.blocks (h:=h) c.2).flatten
def Tr.Lay(rd:Nat->List UInt8):{h:Nat}->Tr h->Prop
 |0,t=>rd t.1=(zc 5 t.2).bytes
 |h+1,t=>rd t.1=(zc 4 (Tr.items (h:=h+1) t)).bytes/\∀c∈t.2,Tr.Lay rd (h:=h) c.2
def zI{h:Nat}(cs:List (Pl×Tr h)):List En:=(cs.map λc=>c.2.ents).flatten
def zE{h:Nat}(cs:List (Pl×Tr h)):List Nat:=(cs.map λc=>c.2.blocks).flatten
theorem zA(A B:List (Pl×Tr h)):zI (A++B)=zI A++zI B:=by simp [zI]
theorem zr(c:Pl×Tr h)(B:List (Pl×Tr h)):zI (c::B)=c.2.ents++zI B:=by simp [zI]
theorem qo(A B:List (Pl×Tr h)):zE (A++B)=zE A++zE B:=by simp [zE]
theorem qA(c:Pl×Tr h)(B:List (Pl×Tr h)):zE (c::B)=c.2.blocks++zE B:=by simp [zE]
theorem Tr.ents_succ(t:Tr (h+1)):t.ents=zI t.2:=rfl
theorem Tr.blocks_succ(t:Tr (h+1)):t.blocks=t.1::zE t.2:=rfl
theorem Tr.blk_mem:∀{h:Nat} (t:Tr h),t.blk∈t.blocks
 |0,t=>az.2 rfl
 |_+1,t=>al ..
structure Pl.Ok (p:Pl):Prop where
 key:p.key.data.toList.length<=8
 zero:(0:UInt8)∉p.key.data.toList
 num0:0<=p.num
 num1:p.num<9223372036854775808
theorem En.Ok.pl{e:En}(h:e.Ok):e.pl.Ok:=⟨h.key,h.zero,h.num0,h.num1⟩
theorem Pl.Ok.en{p:Pl}(h:p.Ok){n:Nat}(a:n<65536):En.Ok ⟨p,false,0,n⟩:=⟨h.key,h.zero,h.num0,h.num1,by simp,by simp,a⟩
def yL(l:List En):Prop:=l.Pairwise λa b=>a.pl.lt b.pl=true
def Tr.First:{h:Nat}->Tr h->Pl->Prop
 |0,_,_=>True
 |_+1,t,p=>∃u r,t.2=(p,u)::r
def fX{h:Nat}(cs:List (Pl×Tr h)):Prop:=
 ∀A p t B,cs=A++(p,t)::B->(∀e∈zI A,e.pl.lt p=true)/\(∀e∈zI ((p,t)::B),¬e.pl.lt p=true)/\t.First p
def Tr.Good:{h:Nat}->Tr h->Prop
 |0,t=>t.1<65536/\∀e∈t.2,e.Ok
 |h+1,t=>t.1<65536/\(∀c∈t.2,Tr.Good (h:=h) c.2/\(c.2.items).length<=6/\c.1.Ok)/\t.2.Pairwise (λa b=>a.1.lt b.1=true)/\fX t.2/\∀c∈t.2,3<=(c.2.items).length
structure Kids {h:Nat} (cs:List (Pl×Tr h)):Prop where
 good:∀c∈cs,c.2.Good/\c.2.items.length<=6/\c.1.Ok
 places:cs.Pairwise λa b=>a.1.lt b.1=true
 seps:fX cs
theorem Tr.Good.kids{t:Tr (h+1)}(g:t.Good):Kids t.2:=⟨g.2.1,g.2.2.1,g.2.2.2.1⟩
theorem Tr.Good.full{t:Tr (h+1)}(g:t.Good):∀c∈t.2,3<=c.2.items.length:=g.2.2.2.2
theorem Tr.Good.blk:∀{h:Nat} {t:Tr h},t.Good->t.blk<65536
 |0,_,g=>g.1
 |_+1,_,g=>g.1
theorem Kids.node{a:List (Pl×Tr h)}(k:Kids a)(f:∀c∈a,3<=c.2.items.length){b:Nat}(d:b<65536):Tr.Good (h:=h+1) (b,a):=⟨d,k.good,k.places,k.seps,f⟩
theorem Tr.Good.items_ok:∀{h:Nat} {t:Tr h},t.Good->∀e∈t.items,e.Ok
 |0,_,g,e,he=>g.2 e he
 |h+1,t,g,e,he=>by obtain⟨c,a,rfl⟩:=au.1 he;have:=g.kids.good c a;exact this.2.2.en this.1.blk
theorem yI(t:Tr (h+1)):t.items.length=t.2.length:=by simp [Tr.items]
theorem Tr.Good.some_ent:∀{h:Nat} {t:Tr h},t.Good->1<=t.items.length->∃e,e∈t.ents
 |0,t,_,hl=>by
  have:t.2≠[]:=λe=>by simp [Tr.items,e] at hl
  obtain⟨e,r,a⟩:=List.exists_cons_of_ne_nil this;exact⟨e,by show e∈t.2;rw [a];exact al ..⟩
 |h+1,t,g,hl=>by
  rw [yI] at hl;have:t.2≠[]:=λe=>by simp [e] at hl
  obtain⟨c,r,b⟩:=List.exists_cons_of_ne_nil this;have d:c∈t.2:=by rw [b];exact al ..
  obtain⟨e,a⟩:=(g.kids.good c d).1.some_ent (by have:=g.full c d;omega);exact⟨e,by rw [Tr.ents_succ,b,zr];exact af _ a⟩
theorem fX.left{A B:List (Pl×Tr h)}(s:fX (A++B)):fX A:=λa p t B' e=>by
 obtain⟨c,h2,d⟩:=s a p t (B'++B) (by rw [e];simp);exact⟨c,λf b=>h2 f (by rw [show (p,t)::(B'++B)=((p,t)::B')++B from rfl,zA];exact af _ b),d⟩
theorem fX.right{A B:List (Pl×Tr h)}(s:fX (A++B)):fX B:=λa p t B' e=>by
 obtain⟨c,h2,d⟩:=s (A++a) p t B' (by rw [e];simp);exact⟨λf b=>c f (by rw [zA];exact av _ b),h2,d⟩
theorem Kids.left{A B:List (Pl×Tr h)}(k:Kids (A++B)):Kids A:=⟨λc a=>k.good c (af _ a),(aX.1 k.places).1,k.seps.left⟩
theorem Kids.right{A B:List (Pl×Tr h)}(k:Kids (A++B)):Kids B:=⟨λc a=>k.good c (av _ a),(aX.1 k.places).2.1,k.seps.right⟩
theorem Kids.nil:Kids ([]:List (Pl×Tr h)):=⟨λ_ h=>(nomatch h),List.Pairwise.nil,λA p t B e=>by simp at e⟩
theorem fX.join{A B:List (Pl×Tr h)}{p:Pl}{t:Tr h}(y:fX A)(n:fX ((p,t)::B))(k:∀e∈zI A,e.pl.lt p=true)(r:∀a∈A,a.1.lt p=true)(s:∀b∈B,p.lt b.1=true):fX (A++(p,t)::B):=by
 obtain⟨_,l,o⟩:=n [] p t B rfl;intro x q u B' e;rcases List.append_eq_append_iff.1 e with⟨m,f,h2⟩|⟨m,f,h2⟩
 .cases m with
  |nil=>
   simp only [aM] at f;simp only [aK,eH,eS] at h2;obtain⟨⟨rfl,rfl⟩,rfl⟩:=h2;subst f;exact⟨k,l,o⟩
  |cons c m=>
   obtain⟨j,i,g⟩:=n (c::m) q u B' h2;refine⟨λw d=>?_,i,g⟩;rw [f,zA] at d;rcases ah.1 d with d|d
   .have z:(q,u)∈B:=by simp only [aT,eH] at h2;rw [h2.2];simp
    exact Pl.trans (k w d) (s _ z)
   .exact j w d
 .cases m with
  |nil=>
   simp only [aM] at f;simp only [aK,eH,eS] at h2;obtain⟨⟨rfl,rfl⟩,rfl⟩:=h2;subst f;exact⟨k,l,o⟩
  |cons c m=>
   simp only [aT,eH] at h2;obtain⟨rfl,h2⟩:=h2;obtain⟨j,i,g⟩:=y x q u m f;refine⟨j,λw d=>?_,g⟩;rw [h2,show (q,u)::(m++(p,t)::B)=((q,u)::m)++(p,t)::B from rfl,zA] at d;rcases ah.1 d with d|d;.exact i w d
   .exact λv=>l w d (Pl.trans v (r (q,u) (by rw [f];simp)))
theorem Kids.join{A B:List (Pl×Tr h)}{p:Pl}{t:Tr h}(i:Kids A)(g:Kids ((p,t)::B))(l:∀e∈zI A,e.pl.lt p=true)(f:∀a∈A,a.1.lt p=true):Kids (A++(p,t)::B) where
 good:=λc k=>(ah.1 k).elim (i.good c) (g.good c)
 places:=aX.2 ⟨i.places,g.places,λa j b d=>by
  rcases ar.1 d with rfl|d;.exact f a j
  .exact Pl.trans (f a j) ((aL.1 g.places).1 b d)⟩
 seps:=i.seps.join g.seps l f (λb d=>(aL.1 g.places).1 b d)
theorem Kids.mid{A B:List (Pl×Tr h)}{p:Pl}{t:Tr h}(k:Kids (A++(p,t)::B)):(∀a∈A,a.1.lt p=true)/\(∀b∈B,p.lt b.1=true)/\(∀e∈zI A,e.pl.lt p=true)/\(∀e∈zI ((p,t)::B),¬e.pl.lt p=true)/\t.First p/\
 (∀b∈B,∀e∈zI A++t.ents,e.pl.lt b.1=true)/\(∀b∈B,∀e∈b.2.ents,¬e.pl.lt b.1=true):=by
 have i:=aX.1 k.places;obtain⟨j,n,m⟩:=k.seps A p t B rfl;refine⟨λa l=>i.2.2 a l _ (al ..),(aL.1 i.2.1).1,j,n,m,λb d e c=>?_,λb d e c=>?_⟩
 .obtain⟨f,g,rfl⟩:=iX d;obtain⟨q,u⟩:=b;have:=(k.seps (A++(p,t)::f) q u g (by simp)).1 e;refine this ?_;rw [zA,zr];rcases ah.1 c with c|c;.exact af _ c
  .exact av _ (af _ c)
 .obtain⟨f,g,rfl⟩:=iX d;obtain⟨q,u⟩:=b;exact(k.seps (A++(p,t)::f) q u g (by simp)).2.1 e (by rw [zr];exact af _ c)
theorem Kids.cons{B:List (Pl×Tr h)}{p:Pl}{u:Tr h}(f:Kids B)(g:u.Good)(i:u.items.length<=6)(n:p.Ok)(s:u.First p)(o:∀e∈u.ents,¬e.pl.lt p=true)(h2:∀b∈B,p.lt b.1=true)(x:∀b∈B,∀e∈u.ents,e.pl.lt b.1=true):Kids ((p,u)::B) where
 good:=λc d=>by
  rcases ar.1 d with rfl|d;.exact⟨g,i,n⟩
  .exact f.good c d
 places:=aL.2 ⟨h2,f.places⟩
 seps:=by
  intro A q v B' e
  cases A with
  |nil=>
   simp only [aK,eH,eS] at e;obtain⟨⟨rfl,rfl⟩,rfl⟩:=e;refine⟨λj a=>(nomatch a),λj a=>?_,s⟩;rw [zr] at a;rcases ah.1 a with a|a;.exact o j a
   .obtain⟨l,i,k⟩:=eW.1 a;obtain⟨c,d,rfl⟩:=au.1 i;obtain⟨w,t,rfl⟩:=iX d;obtain⟨r,D⟩:=c;have:=(f.seps w r D t rfl).2.1 j (by rw [zr];exact af _ k);exact λm=>this (Pl.trans m (h2 _ d))
  |cons c A=>
   simp only [aT,eH] at e;obtain⟨rfl,e⟩:=e;obtain⟨y,z,C⟩:=f.seps A q v B' e;refine⟨λj a=>?_,z,C⟩;rw [zr] at a;rcases ah.1 a with a|a;.exact x (q,v) (by rw [e];simp) j a
   .exact y j a
theorem Kids.swap{A B:List (Pl×Tr h)}{p:Pl}{t u:Tr h}(k:Kids (A++(p,t)::B))(g:u.Good)(j:u.items.length<=6)(f:u.First p)
 (c:∀e∈u.ents,¬e.pl.lt p=true) (h2:∀b∈B,∀e∈u.ents,e.pl.lt b.1=true):Kids (A++(p,u)::B):=by
 obtain⟨d,l,m,o,r,n,q⟩:=k.mid;have a:=k.right;have i:Kids B:=Kids.right (A:=[(p,t)]) a;exact k.left.join (i.cons g j (a.good (p,t) (al ..)).2.2 f c l h2) m d
theorem Kids.parted{A B:List (Pl×Tr h)}{p q:Pl}{t u v:Tr h}(k:Kids (A++(p,t)::B))(C:u.Good)(w:v.Good)(y:u.items.length<=6)(E:v.items.length<=6)(o:q.Ok)(r:u.First p)(g:v.First q)
 (i:p.lt q=true) (d:∀e∈u.ents,e.pl.lt q=true) (l:∀e∈v.ents,¬e.pl.lt q=true) (m:∀e∈u.ents,¬e.pl.lt p=true) (h2:∀b∈B,∀e∈v.ents,e.pl.lt b.1=true) (j:∀b∈B,q.lt b.1=true):Kids (A++(p,u)::(q,v)::B):=by
 obtain⟨n,z,D,G,I,F,H⟩:=k.mid;have c:=k.right;have s:Kids B:=Kids.right (A:=[(p,t)]) c;have x:Kids ((q,v)::B):=s.cons w E o g l j h2;refine k.left.join (x.cons C y (c.good (p,t) (al ..)).2.2 r m ?_ ?_) D n
 .intro b a;rcases ar.1 a with rfl|a;.exact i
  .exact z b a
 .intro b a e f;rcases ar.1 a with rfl|a;.exact d e f
  .exact Pl.trans (d e f) (j b a)
def zt(l:List En)(p:Pl):Nat:=(l.filter λx=>x.pl.lt p).length
theorem yL.cut{l:List En}(h:yL l)(p:Pl):l.take (zt l p)=l.filter (λb=>b.pl.lt p)/\l.drop (zt l p)=l.filter (λb=> !b.pl.lt p):=by
 induction l with
 |nil=>simp [zt]
 |cons a l j=>
  unfold yL at h;rw [aL] at h
  cases c:a.pl.lt p with
  |true=>
   obtain⟨k,h2⟩:=j h.2;have e:zt (a::l) p=zt l p+1:=by simp [zt,c]
   rw [e,iz,lp,k,h2];simp [c]
  |false=>
   have f:∀b∈l,b.pl.lt p=false:=λb d=>by
    cases g:b.pl.lt p with
    |false=>rfl
    |true=>have:=Pl.trans (h.1 b d) g;rw [c] at this;cases this
   have e:zt (a::l) p=0:=by simp [zt,c];exact f
   have m:l.filter (λb=>b.pl.lt p)=[]:=iA.2 (λb d=>by rw [f b d];simp);have i:l.filter (λb=> !b.pl.lt p)=l:=eU.2 (λb d=>by rw [f b d];rfl);rw [e];simp [c,m,i]
theorem xQ(l:List En)(p:Pl):zt l p<=l.length:=ip _ _
theorem yL.at_lt{l:List En}(h:yL l)(p:Pl)(i:Nat)(d:i<l.length):l[i].pl.lt p=decide (i<zt l p):=by
 obtain⟨c,h2⟩:=h.cut p;by_cases b:i<zt l p
 .rw [aJ b];have a:l[i]∈l.take (zt l p):=i8.2 ⟨i,by omega,rfl⟩;rw [c,ei] at a;exact a.2
 .rw [decide_eq_false b];have a:l[i]∈l.drop (zt l p):=List.mem_drop_iff_getElem.2 ⟨i-zt l p,by omega,by congr 1;omega⟩;rw [h2,ei] at a;simpa using a.2
def yu(e:En)(l:List En):List En:=l.filter (λx=>x.pl.lt e.pl)++e::l.filter (λx=> !x.pl.lt e.pl)
theorem j6{e a:En}{l:List En}:a∈yu e l↔a=e\/a∈l:=by
 simp only [yu,ah,ar,ei,iy];constructor
 .rintro(h|h|h);.exact .inr h.1
  .exact .inl h
  .exact .inr h.1
 .rintro(h|h);.exact .inr (.inl h)
  .cases b:a.pl.lt e.pl with
   |true=>exact .inl ⟨h,rfl⟩
   |false=>exact .inr (.inr ⟨h,rfl⟩)
theorem j7(e:En)(l:List En):(yu e l).Perm (e::l):=by
 unfold yu;refine List.perm_middle.trans (List.Perm.cons e ?_)
 induction l with
 |nil=>exact eR _
 |cons a l c=>
  cases b:a.pl.lt e.pl with
  |true=>simp only [eX,b,Bool.not_true,if_true,lS,if_false,aT];exact c.cons a
  |false=>simp only [eX,b,Bool.not_false,if_true,lS,if_false];exact List.perm_middle.trans (c.cons a)
theorem yL.ins{e:En}{l:List En}(h:yL l)(f:∀c∈l,c.pl≠e.pl):yL (yu e l):=by
 unfold yL yu;refine aX.2 ⟨h.filter _,aL.2 ⟨λc a=>?_,h.filter _⟩,λc a g b=>?_⟩
 .rw [ei] at a;exact Pl.total (λd=>f c a.1 d) (by simpa using a.2)
 .rw [ei] at a;rcases ar.1 b with rfl|b;.exact a.2
  .rw [ei] at b;exact Pl.lt_of_lt_not a.2 (by simpa using b.2)
theorem VD{e:En}{A j B:List En}(c:∀a∈A,a.pl.lt e.pl=true)(d:∀a∈B,a.pl.lt e.pl=false):yu e (A++(j++B))=A++(yu e j++B):=by
 have i:=eU.2 c;have h:A.filter (λa=> !a.pl.lt e.pl)=[]:=iA.2 (λa b=>by rw [c a b];simp);have f:B.filter (λa=>a.pl.lt e.pl)=[]:=iA.2 (λa b=>by rw [d a b];simp);have g:B.filter (λa=> !a.pl.lt e.pl)=B:=eU.2 (λa b=>by rw [d a b];rfl);simp [yu,i,h,f,g]
theorem yL.ins_at{e:En}{l:List En}(h:yL l):l.take (zt l e.pl)++e::l.drop (zt l e.pl)=yu e l:=by
 obtain⟨a,h2⟩:=h.cut e.pl;rw [a,h2];rfl
def qR(p:Pl)(l:List En):List En:=l.filter λx=>decide (x.pl≠p)
theorem jf{p:Pl}{l:List En}(h:∀a∈l,a.pl≠p):qR p l=l:=eU.2 (λa b=>by simpa using h a b)
theorem jE(p:Pl)(A B:List En):qR p (A++B)=qR p A++qR p B:=by simp [qR]
theorem dK{p:Pl}{a:En}{l:List En}:a∈qR p l↔a∈l/\a.pl≠p:=by simp [qR]
theorem yL.del{p:Pl}{l:List En}(h:yL l):yL (qR p l):=i9 _ h
theorem yL.apart{l:List En}(h:yL l):∀(i j:Nat) (b:i<l.length) (c:j<l.length),l[i].pl=l[j].pl->i=j:=λi j b c e=>by
 rcases Nat.lt_trichotomy i j with a|a|a
 .have:=eB.1 h i j b c a;rw [e] at this;exact absurd this (Pl.irrefl _)
 .exact a
 .have:=eB.1 h j i c b a;rw [e] at this;exact absurd this (Pl.irrefl _)
theorem yL.find{l:List En}(h:yL l)(p:Pl):(∀(b:zt l p<l.length),l[zt l p].pl=p->l.take (zt l p)++l.drop (zt l p+1)=qR p l)/\
 ((∀(b:zt l p<l.length),l[zt l p].pl≠p)->∀f∈l,f.pl≠p):=by
 obtain⟨n,h2⟩:=h.cut p;constructor
 .intro b g;have k:l=l.take (zt l p)++l[zt l p]::l.drop (zt l p+1):=by rw [<-aI,aE]
  have m:∀f∈l.take (zt l p),f.pl≠p:=λf a e=>by rw [n,ei,e] at a;exact Pl.irrefl _ a.2
  have r:∀f∈l.drop (zt l p+1),f.pl≠p:=λf a e=>by unfold yL at h;rw [k] at h;have:=(aL.1 (aX.1 h).2.1).1 f a;rw [g,e] at this;exact Pl.irrefl _ this
  conv=>rhs;rw [k]
  rw [jE,jf m,show qR p (l[zt l p]::l.drop (zt l p+1))=qR p (l.drop (zt l p+1)) from by unfold qR;rw [eX,aw (by simp [g])],jf r]
 .intro s f a e;obtain⟨i,b,rfl⟩:=ed a;have c:=h.at_lt p i b;rw [e] at c;have t:¬i<zt l p:=λo=>by rw [aJ o] at c;exact Pl.irrefl _ c
  have d:zt l p<l.length:=by omega
  by_cases q:zt l p=i;.exact s d (by simp only [q];exact e)
  .have:=eB.1 h (zt l p) i d b (by omega);have j:=h.at_lt p _ d;rw [e] at this;rw [this] at j;simp at j
def zH(l:List En)(p:Pl):Nat:=if h:zt l p<l.length then (if l[zt l p].pl=p then zt l p else zt l p-1) else zt l p-1
theorem cS{l:List En}(p:Pl)(h:l≠[]):zH l p<l.length:=by
 have:=xQ l p;have:0<l.length:=List.length_pos_iff.2 h;unfold zH;split;.split<;>omega
 .omega
theorem Kids.items_srt{a:List (Pl×Tr h)}(k:Kids a):yL (a.map λc=>(⟨c.1,false,0,c.2.blk⟩:En)):=List.Pairwise.map _ (λ_ _ h=>h) k.places
theorem Kids.child{a:List (Pl×Tr h)}(k:Kids a)(K:a≠[])(p:Pl):∃A q t B,a=A++(q,t)::B/\A.length=zH (a.map λc=>(⟨c.1,false,0,c.2.blk⟩:En)) p/\(A≠[]->¬p.lt q=true)/\(∀b∈B,p.lt b.1=true):=by
 have u:=k.items_srt;generalize C:(a.map λc=>(⟨c.1,false,0,c.2.blk⟩:En))=l at u ⊢;have y:l.length=a.length:=by rw [<-C];simp
 have d:∀i (g:i<a.length),l[i]'(by omega)=⟨a[i].1,false,0,a[i].2.blk⟩:=λi g=>by subst C;simp
 have z:l≠[]:=λe=>K (aY (by rw [<-y,e];rfl));have F:=cS p z;have x:zH l p<a.length:=by omega
 have H:a=a.take (zH l p)++a[zH l p]::a.drop (zH l p+1):=by rw [<-aI,aE]
 have M:=xQ l p;refine⟨a.take (zH l p),a[zH l p].1,a[zH l p].2,a.drop (zH l p+1),H,by simp;omega,λD=>?_,λb J=>?_⟩
 ·
  have o:0<zH l p:=by
   rcases mq (zH l p) with v|v;.rw [v] at D;simp at D
   .exact v
  have j:=u.at_lt p (zH l p) F;rw [d _ x] at j;simp only at j;by_cases r:zH l p<zt l p;.rw [aJ r] at j;exact Pl.asymm j
  ·
   have:∃g:zt l p<l.length,l[zt l p].pl=p/\zH l p=zt l p:=by
    unfold zH at r o ⊢;split at r
    next g=>
     split at r
     next f=>exact⟨g,f,by rw [dif_pos g,aB f]⟩
     next f=>rw [dif_pos g,aw f] at o;omega
    next g=>rw [dif_neg g] at o;omega
   obtain⟨g,f,h2⟩:=this
   have I:a[zH l p].1=p:=by have:=d (zt l p) (by omega);rw [this] at f;simp only [h2];exact f
   rw [I];exact Pl.irrefl _
 ·
  obtain⟨i,g,rfl⟩:=List.mem_drop_iff_getElem.1 J;have s:zH l p+1+i<a.length:=by omega
  have j:=u.at_lt p (zH l p+1+i) (by omega);rw [d _ s] at j;simp only at j
  have L:zt l p<=zH l p+1:=by
   unfold zH;split;.split<;>omega
   .omega
  rw [decide_eq_false (by omega)] at j;by_cases f:a[zH l p+1+i].1=p
  ·
   have E:zt l p=zH l p+1+i:=by
    have G:=u.find p;by_cases w:∃g:zt l p<l.length,l[zt l p].pl=p
    .obtain⟨m,n⟩:=w;exact u.apart _ _ m (by omega) (by rw [n,d _ s];exact f.symm)
    .exact absurd (by rw [d _ s];exact f) (G.2 (λm n=>w ⟨m,n⟩) (l[zH l p+1+i]'(by omega)) (ai _))
   have N:zH l p=zt l p:=by
    have m:zt l p<l.length:=by omega
    have n:l[zt l p].pl=p:=by have:=d (zH l p+1+i) s;simp only [E];rw [this];exact f
    unfold zH;rw [dif_pos m,aB n]
   omega
  .exact Pl.total f (by rw [j];simp)
end prog
end Go.Proofs.YtcoengihaobddaaGreatDoor
