/- Part 15 of 36 of a proof: Pg1, Pg2, Blk1, Blk2, Pg3, Blk3, Tr1, Tr2 -/
import Derived.Test.YtcoengihaobddaaGreatDoorJc02
set_option maxHeartbeats 8000000
set_option linter.unusedVariables false
set_option linter.unusedSimpArgs false
set_option maxRecDepth 8000
namespace Go.Proofs.YtcoengihaobddaaGreatDoor
namespace prog
def numOf(l:List UInt8):Nat:=l.foldl (λn b=>n*256+b.toNat) 0
def bytesOf:Nat->Nat->List UInt8
 |0,_=>[]
 |k+1,n=>bytesOf k (n/256)++[UInt8.ofNat (n%256)]
theorem zP:∀k n,(bytesOf k n).length=k
 |0,_=>rfl
 |k+1,n=>by simp [bytesOf,zP k]
theorem dG(l:List UInt8)(b:UInt8):numOf (l++[b])=numOf l*256+b.toNat:=by simp [numOf]
theorem ys:∀k n,n<256^k->numOf (bytesOf k n)=n
 |0,n,h=>by simp at h;subst h;rfl
 |k+1,n,h=>by rw [bytesOf,dG,ys k (n/256) (by rw [lQ] at h;exact Nat.div_lt_of_lt_mul (by omega))];simp;omega
theorem uH:∀k,bytesOf k 0=List.replicate k 0
 |0=>rfl
 |k+1=>by rw [bytesOf,Nat.zero_div,uH k,List.replicate_succ'];rfl
def zk:Nat->Nat
 |1=>2
 |2=>8
 |3=>1
 |4=>18
 |5=>20
 |6=>1
 |_=>0
def room(k:Nat):Nat:=124/zk k
structure Pg where
 kind:Nat
 link:Nat
 items:List (List UInt8)
structure Pg.Ok (p:Pg):Prop where
 kind:p.kind<=6
 link:p.link<65536
 wide:∀i∈p.items,i.length=zk p.kind
 fits:p.items.length*zk p.kind<=124
 few:p.items.length<=124
def Pg.bytes(p:Pg):List UInt8:=UInt8.ofNat p.kind::UInt8.ofNat p.items.length::bytesOf 2 p.link++p.items.flatten++List.replicate (124-p.items.length*zk p.kind) 0
theorem xV(c:Nat):∀(l:List (List UInt8)),(∀b∈l,b.length=c)->l.flatten.length=l.length*c
 |[],_=>by simp
 |b::l,h=>by rw [aU,ag,xV c l (λd a=>h d (am _ a)),h b (al ..),ae,eJ];omega
theorem Pg.Ok.len{p:Pg}(h:p.Ok):p.bytes.length=128:=by
 have:=h.fits;simp [Pg.bytes,zP];have e:=xV _ p.items h.wide;rw [List.length_flatten] at e;omega
def Pg.new(k:Nat):Pg:=⟨k,0,[]⟩
theorem Pg.new_ok(k:Nat)(h:k<=6):(Pg.new k).Ok where
 kind:=h
 link:=by simp [Pg.new]
 wide:=λ_ h=>(by cases h)
 fits:=by simp [Pg.new]
 few:=by simp [Pg.new]
theorem Pg.new_bytes(k:Nat):(Pg.new k).bytes=UInt8.ofNat k::List.replicate 127 0:=by
 simp [Pg.bytes,Pg.new,uH]
theorem Pg.nought:(Pg.new 0).bytes=List.replicate 128 0:=by rw [Pg.new_bytes];rfl
theorem Pg.at0(p:Pg):p.bytes[0]? =some (UInt8.ofNat p.kind):=rfl
theorem Pg.at1(p:Pg):p.bytes[1]? =some (UInt8.ofNat p.items.length):=rfl
theorem Pg.front(p:Pg):(p.bytes.drop 2).take 2=bytesOf 2 p.link:=by
 have:(bytesOf 2 p.link).length=2:=zP 2 _;simp only [Pg.bytes,aT,lp,mo,ak]
 conv=>lhs;arg 1;rw [<-this]
 exact iE
theorem Pg.behind(p:Pg):p.bytes.drop 4=p.items.flatten++List.replicate (124-p.items.length*zk p.kind) 0:=by
 have:(bytesOf 2 p.link).length=2:=zP 2 _;simp only [Pg.bytes,aT,lp,ak]
 conv=>lhs;rw [<-this]
 exact iS
theorem dH(c:Nat):∀(l:List (List UInt8)) (r:List UInt8),(∀b∈l,b.length=c)->∀i (h:i<l.length),((l.flatten++r).drop (i*c)).take c=l[i]
 |[],_,_,i,h=>by simp at h
 |b::l,r,hb,0,_=>by have:=hb b (al ..);simp only [Nat.zero_mul,mo,aU,ak,List.getElem_cons_zero];rw [<-this,iE]
 |b::l,r,hb,i+1,h=>by
  have e:=hb b (al ..);simp only [aU,ak,List.getElem_cons_succ];rw [eJ,iU,iG,<-eA]
  conv=>lhs;rw [show (b++(l.flatten++r)).drop c=l.flatten++r from by rw [<-e];exact iS]
  exact dH c l r (λd a=>hb d (am _ a)) i (by simpa using h)
theorem Pg.Ok.item{p:Pg}(h:p.Ok)(i:Nat)(a:i<p.items.length):(p.bytes.drop (4+i*zk p.kind)).take (zk p.kind)=p.items[i]:=by
 rw [<-eA,p.behind];exact dH _ _ _ h.wide i a
theorem Pg.Ok.all{p:Pg}(h:p.Ok):(p.bytes.drop 4).take (p.items.length*zk p.kind)=p.items.flatten:=by
 rw [p.behind,<-xV _ p.items h.wide,iE]
def qG(l:List UInt8)(o:Nat)(v:List UInt8):List UInt8:=l.take o++v++l.drop (o+v.length)
theorem jv(l:List UInt8)(a:Nat)(v:List UInt8)(h:a+v.length<=l.length):(qG l a v).length=l.length:=by
 simp [qG];omega
def Pg.push(p:Pg)(v:List UInt8):Pg:={p with items:=p.items++[v]}
def Pg.setLink(p:Pg)(n:Nat):Pg:={p with link:=n}
theorem Pg.setLink_bytes(p:Pg)(n:Nat):qG p.bytes 2 (bytesOf 2 n)=(p.setLink n).bytes:=by
 have a:(bytesOf 2 n).length=2:=zP 2 _;have h2:(bytesOf 2 p.link).length=2:=zP 2 _;have b:p.bytes.drop (2+2)=_:=p.behind;unfold qG;rw [a,b];simp [Pg.bytes,Pg.setLink]
end prog
namespace prog
open ref
structure Pl where
 key:ByteArray
 num:Int
def Pl.dec:DecidableEq Pl:=λa b=>if h:a.key=b.key/\a.num=b.num then .isTrue (by cases a;cases b;obtain⟨rfl,rfl⟩:=h;rfl) else .isFalse (λe=>h ⟨congrArg Pl.key e,congrArg Pl.num e⟩)
def Pl.lt(a b:Pl):Bool:=qw a.key b.key||(decide (a.key=b.key)&&decide (b.num<a.num))
theorem Pl.lt_iff(a b:Pl):a.lt b=true↔qw a.key b.key=true\/(a.key=b.key/\b.num<a.num):=by simp [Pl.lt]
theorem Pl.irrefl(a:Pl):¬a.lt a=true:=by rw [Pl.lt_iff,yE];simp
theorem Pl.trans{a b c:Pl}(h:a.lt b=true)(k:b.lt c=true):a.lt c=true:=by
 rw [Pl.lt_iff] at*;rcases h with h|⟨h,h'⟩<;>rcases k with k|⟨k,d⟩
 .exact .inl (jG h k)
 .exact .inl (by rw [<-k];exact h)
 .exact .inl (by rw [h];exact k)
 .exact .inr ⟨h.trans k,by omega⟩
theorem Pl.total{a b:Pl}(h:a≠b)(k:¬a.lt b=true):b.lt a=true:=by
 rw [Pl.lt_iff] at*;by_cases e:a.key=b.key
 .right;refine⟨e.symm,?_⟩;by_cases h2:b.num<a.num;.exact absurd (.inr ⟨e,h2⟩) k
  .have:a.num≠b.num:=λc=>h (by cases a;cases b;simp_all);omega
 .left
  cases h2:qw a.key b.key with
  |true=>exact absurd (.inl h2) k
  |false=>exact yT e h2
theorem Pl.asymm{a b:Pl}(h:a.lt b=true):¬b.lt a=true:=λk=>Pl.irrefl a (Pl.trans h k)
theorem Pl.lt_of_not{a b c:Pl}(h:¬b.lt a=true)(k:b.lt c=true):a.lt c=true:=by
 by_cases e:a=b;.rw [e];exact k
 .by_cases h2:a.lt b=true;.exact Pl.trans h2 k
  .exact absurd (Pl.total e h2) h
theorem Pl.lt_of_lt_not{a b c:Pl}(h:a.lt b=true)(k:¬c.lt b=true):a.lt c=true:=by
 by_cases e:b=c;.rw [<-e];exact h
 .by_cases h2:b.lt c=true;.exact Pl.trans h h2
  .exact absurd (Pl.total e h2) k
structure En where
 pl:Pl
 mark:Bool
 size:Nat
 at_:Nat
structure En.Ok (e:En):Prop where
 key:e.pl.key.data.toList.length<=8
 zero:(0:UInt8)∉e.pl.key.data.toList
 num0:0<=e.pl.num
 num1:e.pl.num<9223372036854775808
 size:e.size<=300
 mark:e.mark=true->e.size=0
 at_:e.at_<65536
def keyBytes(k:ByteArray):List UInt8:=k.data.toList++List.replicate (8-k.data.toList.length) 0
theorem yZ(k:ByteArray)(h:k.data.toList.length<=8):(keyBytes k).length=8:=by simp [keyBytes] at *; omega
def cut(l:List UInt8):List UInt8:=(l.reverse.dropWhile (· ==0)).reverse
theorem QE(l:List UInt8):cut (l++[0])=cut l:=by simp [cut]
theorem Jh(l:List UInt8):∀n,cut (l++List.replicate n 0)=cut l
 |0=>by simp
 |n+1=>by rw [List.replicate_succ',<-ak,QE,Jh l n]
theorem Vz{l:List UInt8}(h:(0:UInt8)∉l):cut l=l:=by
 unfold cut;rw [show l.reverse.dropWhile (· ==0)=l.reverse from ?_,List.reverse_reverse]
 cases c:l.reverse with
 |nil=>rfl
 |cons a r=>
  have:a∈l:=by rw [<-List.mem_reverse,c];exact al ..
  rw [List.dropWhile_cons,aw];intro b;exact h (by rw [<-eq_of_beq b];exact this)
theorem Ji(k:ByteArray)(h:(0:UInt8)∉k.data.toList):cut (keyBytes k)=k.data.toList:=by
 rw [keyBytes,Jh,Vz h]
def ue(p:Pl):List UInt8:=keyBytes p.key++bytesOf 8 p.num.toNat
def qM(e:En):Nat:=if e.mark then 65535 else e.size
def qk(e:En):List UInt8:=ue e.pl++bytesOf 2 e.at_
def j8(e:En):List UInt8:=qk e++bytesOf 2 (qM e)
def jP(k:Nat)(e:En):List UInt8:=if k=5 then j8 e else qk e
theorem xE{e:En}(h:e.Ok):(qk e).length=18:=by simp [qk,ue,zP,yZ _ h.key]
theorem ZL{e:En}(h:e.Ok):(j8 e).length=20:=by simp [j8,xE h,zP]
theorem QF{e:En}(h:e.Ok){k:Nat}(a:k=4\/k=5):(jP k e).length=zk k:=by
 rcases a with rfl|rfl;.simp [jP,xE h,zk]
 .simp [jP,ZL h,zk]
theorem uI{e:En}(h:e.Ok)(r:List UInt8):(qk e++r).take 8=keyBytes e.pl.key/\((qk e++r).drop 8).take 8=bytesOf 8 e.pl.num.toNat/\((qk e++r).drop 16).take 2=bytesOf 2 e.at_/\(qk e++r).drop 18=r:=by
 have j:=yZ _ h.key;have h2:=zP 8 e.pl.num.toNat;have k:=zP 2 e.at_;have i:qk e++r=keyBytes e.pl.key++(bytesOf 8 e.pl.num.toNat++(bytesOf 2 e.at_++r)):=by simp [qk,ue]
 have c:∀(n:Nat) (f g:List UInt8),f.length=n->(f++g).take n=f/\(f++g).drop n=g:=λn f g l=>by subst l;exact⟨iE,iS⟩
 have a:=(c 8 _ (bytesOf 8 e.pl.num.toNat++(bytesOf 2 e.at_++r)) j);have b:=(c 8 _ (bytesOf 2 e.at_++r) h2);have d:=(c 2 _ r k);rw [i];refine⟨a.1,?_,?_,?_⟩;.rw [a.2];exact b.1
 .rw [show (16:Nat)=8+8 from rfl,<-eA,a.2,b.2];exact d.1
 .rw [show (18:Nat)=8+8+2 from rfl,<-eA,<-eA,a.2,b.2];exact d.2
theorem QG{e:En}(h:e.Ok):((numOf (bytesOf 8 e.pl.num.toNat):Nat):Int)=e.pl.num:=by
 have b:=h.num0;have a:=h.num1
 rw [ys _ _ (by have:(256:Nat)^8=18446744073709551616:=by decide
                omega)]
 omega
theorem Jj{e:En}(h:e.Ok):numOf (bytesOf 2 e.at_)=e.at_:=ys _ _ (by have:=h.at_;omega)
theorem Kg{e:En}(h:e.Ok):numOf (bytesOf 2 (qM e))=qM e:=ys _ _ (by
 have:=h.size;unfold qM
 split<;>omega)
def zc(k:Nat)(es:List En):Pg:=⟨k,0,es.map (jP k)⟩
theorem cO{k:Nat}(a:k=4\/k=5){b:List En}(h:∀e∈b,e.Ok)(f:b.length<=6):(zc k b).Ok where
 kind:=by rcases a with rfl|rfl<;>simp [zc]
 link:=by simp [zc]
 wide:=λi d=>by obtain⟨e,c,rfl⟩:=au.1 d;exact QF (h e c) a
 fits:=by rcases a with rfl|rfl<;>simp [zc,zk]<;>omega
 few:=by simp [zc];omega
end prog
namespace prog
open Go.ChangeShapes Go.WideShapes Go.ChangeAt Go.RowKit disk ref
open keys (zh ze zy zs)
variable {w:World}{b:Nat}{t:TypeId}{l:List UInt8}
theorem dI(l:List UInt8)(k:Nat)(h:k<l.length):numOf (l.take (k+1))=numOf (l.take k)*256+l[k].toNat:=by
 rw [ao h,dG]
theorem VA(l:List UInt8):∀k,numOf (l.take k)<=numOf l:=by
 intro k
 induction h:l.length-k generalizing k with
 |zero=>rw [an (by omega)];exact aF _
 |succ n b=>
  have a:=b (k+1) (by omega);rw [dI l k (by omega)] at a;omega
theorem Gw(q z:Nat)(k:z<256)(h:q*256+z<9223372036854775808):bits BinOp.or IntKind.i64 ((q:Int)*256) (z:Int)=((q*256+z:Nat):Int):=by
 have c:BitVec.ofInt 64 ((q:Int)*256)=BitVec.ofNat 64 (q*256):=by rw [<-BitVec.ofInt_natCast];congr 1
 have j:BitVec.ofInt 64 (z:Int)=BitVec.ofNat 64 z:=BitVec.ofInt_natCast ..
 have d:(q*256)|||z=q*256+z:=by have:=Nat.shiftLeft_add_eq_or_of_lt (i:=8) (b:=z) (by omega) q;rw [Nat.shiftLeft_eq] at this;exact this.symm
 have f:(BitVec.ofNat 64 (q*256)|||BitVec.ofNat 64 z).toNat=q*256+z:=by
  have g:q*256%18446744073709551616=q*256:=by omega
  have e:z%18446744073709551616=z:=by omega
  simp only [BitVec.toNat_or,BitVec.toNat_ofNat,Nat.reducePow];rw [g,e,d]
 have a:bits BinOp.or IntKind.i64 ((q:Int)*256) (z:Int)=IntKind.i64.wrap ((BitVec.ofInt 64 ((q:Int)*256)|||BitVec.ofInt 64 (z:Int)).toNat:Nat):=rfl;rw [a,c,j,f,IntKind.wrap_i64];omega
theorem Xn(w:World)(P:Nat->Prop)(a:Option Addr)(l:List UInt8)(d:Nat)(h:zL w P a l)(o:l.length<=8)(r:numOf l<9223372036854775808):
 Calls Tryz.prog 83 #[.slice a l.length d] w λe w'=>e=.returned (.int .i64 (numOf l:Nat))/\w'=w:=by
 change Hid _ at h;go_enter Tryz.func83,Tryz.ntmps83;go_wp2;go_loop [3,8] (λu t=>∃k:Nat,k<=l.length/\t=.int .i64 k/\u=.int .i64 (numOf (l.take k):Nat)) (λ_ t=>l.length-(intOf t).toNat)
 case atStart=>exact⟨0,aj _,rfl,rfl⟩
 case round=>
  obtain⟨k,s,rfl,rfl⟩:=hrel;by_cases c:k<l.length
  .have m:=VA l (k+1);have h2:=dI l k c;have j:Hid _:=h2;rw [h2] at m;have p:=l[k].toNat_lt;rcases h.out with i|⟨b,v,rfl,_,_,f⟩;.rw [i] at c;simp at c
   .have n:=f k c;generalize numOf (l.take k)=q at*;clear h2 f;generalize l[k].toNat=z at*;have g:Hid _:=Gw q z (by omega) (by omega);go_wp2;go_round
    case rel=>exact⟨k+1,by omega,by go_num,by rw [j.out,g.out]⟩
    case measure=>simp [intOf];omega
  .have e:k=l.length:=by omega
   subst e;have h2:numOf (l.take l.length)=numOf l:=by rw [eN]
   rw [h2] at*;go_wp2;go_ret;exact⟨rfl,rfl⟩
structure yN (w:World) (b:Nat) (t:TypeId) (l:List UInt8):Prop where
 at_:w.heap[b]? =some (.cells (l.map qA).toArray t (0,0))
theorem yN.lt(h:yN w b t l):b<w.heap.size:=(lT h.at_)
theorem yN.kept{w':World}{T:Nat->Prop}(h:yN w b t l)(k:za T w w')(a:¬T b):yN w' b t l:=⟨(k.block b h.lt a).trans h.at_⟩
theorem yN.cell(h:yN w b t l)(i:Nat)(a:i<l.length):w.cell? ⟨b,i,none⟩=some (.int .u8 (l[i].toNat:Int)):=by
 rw [aG w b i _ _ _ h.at_];simp [a,qA]
theorem yN.fz(h:yN w b t l)(i:Nat):w.frozen? ⟨b,i,none⟩=false:=aa w b i _ _ h.at_
theorem yN.set(h:yN w b t l)(i:Nat)(c:UInt8):yN (w.setCell ⟨b,i,none⟩ (.int .u8 (c.toNat:Int))) b t (l.set i c):=by
 refine⟨?_⟩;rw [heap_setCell_same w b i _ _ _ h.at_];congr 2;apply lF;simp [qA]
theorem yN.bytes(h:yN w b t l)(P:Nat->Prop)(d:P b)(a n:Nat)(e:a+n<=l.length):zL w P (some ⟨b,a,none⟩) ((l.drop a).take n):=
 .inr ⟨b,a,rfl,d,h.lt,λj c=>by
  simp only [aC,aS] at c;rw [h.cell (a+j) (by omega)]
  simp⟩
theorem yA(w:World)(b:Nat)(t:TypeId)(l:List UInt8)(h:yN w b t l)(c k a n:Nat)(d:c+k<=l.length)(j:k<=8)(g:numOf ((l.drop c).take k)=n)(m:n<9223372036854775808):
 Calls Tryz.prog 83 #[.slice (some ⟨b,c,none⟩) k a] w λe w'=>e=.returned (.int .i64 n)/\w'=w:=by
 have f:((l.drop c).take k).length=k:=by simp;omega
 have:=Xn w (λi=>i=b) (some ⟨b,c,none⟩) ((l.drop c).take k) a (h.bytes (λi=>i=b) rfl c k d) (by omega) (by omega);rw [f,g] at this;exact this
theorem uJ:∀m n,bytesOf (m+1) n=UInt8.ofNat (n/256^m%256)::bytesOf m n
 |0,n=>by simp [bytesOf]
 |m+1,n=>by rw [bytesOf,uJ m (n/256),bytesOf,l5,lQ,Nat.mul_comm];rfl
theorem cP(l:List UInt8)(j:Nat)(c:UInt8)(v:List UInt8)(h:j+1+v.length<=l.length):qG l j (c::v)=(qG l (j+1) v).set j c:=by
 have e:(qG l (j+1) v).length=l.length:=jv _ _ _ h;rw [hE,aB (by omega)];have a:(l.take (j+1)).length=j+1:=by simp;omega
 have d:(qG l (j+1) v).take j=l.take j:=by rw [qG,ak,aZ (by omega),iu,a8 (by omega)]
 have b:(qG l (j+1) v).drop (j+1)=v++l.drop (j+1+v.length):=by
  rw [qG,ak]
  conv=>lhs;arg 1;rw [<-a]
  exact iS
 rw [d,b,qG];simp only [ae,ak,aT];rw [show j+(v.length+1)=j+1+v.length from by omega]
theorem Gx(q:Nat):((q:Int)%256)=((UInt8.ofNat (q%256)).toNat:Int):=by simp
theorem QH(l:List UInt8)(j:Nat):qG l j []=l:=by simp [qG]
theorem qQ(w:World)(b:Nat)(t:TypeId)(l:List UInt8)(h:yN w b t l)(c k f:Nat)(C:c+k<=l.length)(v:k<=8)(n:Nat)(y:n<9223372036854775808):
 Calls Tryz.prog 138 #[.slice (some ⟨b,c,none⟩) k f,.int .i64 n] w λe w'=>e=.returned (.tuple #[])/\yN w' b t (qG l c (bytesOf k n))/\za (λi=>i=b) w w':=by
 have j:Hid _:=h;clear h;go_enter Tryz.func138,Tryz.ntmps138;go_wp2;go_loopw [1,4] (λB i wr=>∃m:Nat,m<=k/\i=.int .i64 ((k:Int)-1-m)/\B=.int .i64 ((n/256^m:Nat):Int)/\yN wr b t (qG l (c+(k-m)) (bytesOf m n))/\za (λi=>i=b) w wr) (λ_ i _=>(intOf i+1).toNat)
 case atStart=>exact⟨0,aj _,by simp,by simp,by simp only [bytesOf,QH];exact j,za.refl _ _⟩
 case round=>
  obtain⟨m,A,rfl,rfl,d,a⟩:=hrel;have s:(qG l (c+(k-m)) (bytesOf m n)).length=l.length:=jv _ _ _ (by rw [zP];omega);change Hid _ at d a;have D:n/256^m<=n:=Nat.div_le_self _ _;by_cases r:m<k
  .have E:=d.cell (c+(k-1-m)) (by omega);have x:=d.fz (c+(k-1-m))
   have g:Hid (qG l (c+(k-(m+1))) (bytesOf (m+1) n)=(qG l (c+(k-m)) (bytesOf m n)).set (c+(k-1-m)) (UInt8.ofNat (n/256^m%256))):=by show _=_;rw [uJ,cP _ _ _ _ (by rw [zP];omega),show c+(k-(m+1))+1=c+(k-m) from by omega,show c+(k-(m+1))=c+(k-1-m) from by omega]
   have o:Hid (n/256^(m+1)=n/256^m/256):=by show _=_;rw [lQ,l5]
   generalize (qG l (c+(k-m)) (bytesOf m n))[c+(k-1-m)].toNat=z at*;generalize qG l (c+(k-m)) (bytesOf m n)=p at*;generalize n/256^m=q at*;have u:((k:Int)-1-m).toNat=k-1-m:=by omega
   go_wp2;go_roundw
   case rel=>exact⟨m+1,by omega,by go_num,by rw [o.out];go_num,by rw [g.out,Gx];exact d.set _ _,a.trans (za.setCell (S:=λi=>i=b) _ ⟨b,_,none⟩ _ rfl) iL⟩
   case measure=>simp [intOf];omega
  .have e:m=k:=by omega
   subst e;generalize n/256^m=q at*;go_wp2;go_end0;exact⟨rfl,by have:=d.out;rw [Nat.sub_self,lD] at this;exact this,a⟩
end prog
namespace prog
open Go.ChangeShapes Go.WideShapes Go.ChangeAt Go.RowKit disk ref
open keys (zh ze zy zs)
variable {w:World}{b:Nat}
theorem gF(w:World)(k:Nat)(a:k<=6):Calls Tryz.prog 145 #[.int .u8 k] w λe w'=>e=.returned (.int .i64 (zk k:Nat))/\w'=w:=by
 rcases (by omega:k=0\/k=1\/k=2\/k=3\/k=4\/k=5\/k=6) with rfl|rfl|rfl|rfl|rfl|rfl|rfl
 all_goals
  go_enter Tryz.func145,Tryz.ntmps145;go_wp2;go_ret;exact⟨rfl,rfl⟩
theorem VB(w:World)(k a:Nat)(b:k<=6)(h:zk k=a):Calls Tryz.prog 145 #[.int .u8 k] w λe w'=>e=.returned (.int .i64 a)/\w'=w:=by
 rw [<-h];exact gF w k b
theorem j9(w:World)(k:Nat)(a:k<=6):Calls Tryz.prog 129 #[.int .u8 k] w λe w'=>e=.returned (.int .i64 (room k:Nat))/\w'=w:=by
 rcases (by omega:k=0\/k=1\/k=2\/k=3\/k=4\/k=5\/k=6) with rfl|rfl|rfl|rfl|rfl|rfl|rfl
 all_goals
  go_enter Tryz.func129,Tryz.ntmps129;go_wp2_with (go_at_call 145;refine(gF _ _ (by omega)).mono ?_;rintro e w' ⟨rfl,rfl⟩;simp only [zk]);go_ret;exact⟨rfl,rfl⟩
structure qR (w:World) (b:Nat) (p:Pg):Prop where
 bs:yN w b 154 p.bytes
 ok:p.Ok
theorem qR.kept{w':World}{T:Nat->Prop}{p:Pg}(h:qR w b p)(k:za T w w')(a:¬T b):qR w' b p:=⟨h.bs.kept k a,h.ok⟩
theorem vd(n:Nat)(h:n<256):(UInt8.ofNat n).toNat=n:=by simp;omega
theorem qR.c0{p:Pg}(h:qR w b p):w.cell? ⟨b,0,none⟩=some (.int .u8 (p.kind:Int)):=by
 have a:=h.bs.cell 0 (by rw [h.ok.len];omega);have h2:p.bytes[0]'(by rw [h.ok.len];omega)=UInt8.ofNat p.kind:=eG ((aH _).symm.trans p.at0);rw [h2,vd _ (by have:=h.ok.kind;omega)] at a;exact a
theorem qR.c1{p:Pg}(h:qR w b p):w.cell? ⟨b,1,none⟩=some (.int .u8 (p.items.length:Int)):=by
 have a:=h.bs.cell 1 (by rw [h.ok.len];omega);have h2:p.bytes[1]'(by rw [h.ok.len];omega)=UInt8.ofNat p.items.length:=eG ((aH _).symm.trans p.at1);rw [h2,vd _ (by have:=h.ok.few;omega)] at a;exact a
theorem ve(w:World)(b:Nat)(p:Pg)(h:qR w b p):Calls Tryz.prog 144 #[.pointer (some ⟨b,0,none⟩)] w λe w'=>e=.returned (.int .u8 (p.kind:Nat))/\w'=w:=by
 have a:=h.c0;clear h;go_enter Tryz.func144,Tryz.ntmps144;go_wp2;go_ret;exact⟨rfl,rfl⟩
theorem vA(w:World)(b:Nat)(p:Pg)(h:qR w b p):Calls Tryz.prog 82 #[.pointer (some ⟨b,0,none⟩)] w λe w'=>e=.returned (.int .i64 (p.items.length:Nat))/\w'=w:=by
 have a:=h.c1;have c:=h.ok.few;clear h;go_enter Tryz.func82,Tryz.ntmps82;go_wp2;go_ret;exact⟨rfl,rfl⟩
theorem QI(w:World)(b:Nat)(p:Pg)(h:qR w b p):Calls Tryz.prog 126 #[.pointer (some ⟨b,0,none⟩)] w λe w'=>e=.returned (.int .i64 (p.link:Nat))/\w'=w:=by
 have f:=h.c0;have d:=h.ok.link;have c:=h.ok.len;have a:Hid (numOf ((p.bytes.drop 2).take 2)=p.link):=by show _=_;rw [p.front];exact ys 2 _ (by omega)
 change Hid _ at h;go_enter Tryz.func126,Tryz.ntmps126;go_wp2_with (go_at_call 83;refine(yA _ b _ _ h.bs 2 2 126 p.link (by omega) (by omega) a (by omega)).mono ?_;rintro e w' ⟨rfl,rfl⟩);go_ret;exact⟨rfl,rfl⟩
theorem fH(w:World)(b:Nat)(p:Pg)(h:qR w b p)(n:Nat)(f:n<65536):Calls Tryz.prog 132 #[.pointer (some ⟨b,0,none⟩),.int .i64 n] w λe w'=>e=.returned (.tuple #[])/\qR w' b (p.setLink n)/\za (λi=>i=b) w w':=by
 have d:=h.ok.len;change Hid _ at h;go_enter Tryz.func132,Tryz.ntmps132;go_wp2_with (go_at_call 138;refine(qQ _ b _ _ h.bs 2 2 126 (by omega) (by omega) n (by omega)).mono ?_;rintro e w' ⟨rfl,c,a⟩;change Hid _ at c a);go_end0;have h2:=c.out;rw [p.setLink_bytes] at h2;exact⟨rfl,⟨h2,⟨h.ok.kind,f,h.ok.wide,h.ok.fits,h.ok.few⟩⟩,a⟩
def QJ(b k i:Nat):Value:=.slice (some ⟨b,4+i*zk k,none⟩) (zk k) (124-i*zk k)
def ja(b k n:Nat):Value:=.slice (some ⟨b,4,none⟩) (n*zk k) 124
theorem QK(k:Nat):zk k<=20:=by unfold zk;split<;>omega
theorem Jk:Tryz.prog.arrayLen 154=128:=by kernel_rfl
theorem yK:Tryz.prog.underlying 154=some (.array (Tryz.prog.arrayLen 154) (Tryz.prog.elem 154)):=by kernel_rfl
theorem cQ:(Tryz.prog.info? (Tryz.prog.elem 154)).map (·.size)=some 1:=by kernel_rfl
theorem QL(w:World)(b:Nat)(l h:Int)(L N:Nat)(a:l=L)(c:h=L+N)(e:L+N<=128)(f:L<128):
 (Instr.sliceAt 154 (.pointer (some ⟨b,0,none⟩)) (some (.int .i64 l)) (some (.int .i64 h)) none).run Tryz.prog w=.ok (.slice (some ⟨b,L,none⟩) N (128-L)) w:=by
 have d:=xA cQ w;rw [run_sliceAt_array_lh w _ _ yK .i64 .i64 l h (by omega) (by omega) (by rw [Jk];omega),d];simp only [eD,slicedAt,Jk];subst a;subst c;simp only [mu,Nat.mul_one,eO,eT];rw [aw (by omega),show ((L:Int)+N).toNat=L+N from by omega,show L+N-L=N from by omega]
theorem QM(w:World)(b:Nat)(p:Pg)(h:qR w b p)(i:Nat)(j:i<p.items.length)(l:1<=zk p.kind):Calls Tryz.prog 84 #[.pointer (some ⟨b,0,none⟩),.int .i64 i] w λe w'=>e=.returned (QJ b p.kind i)/\w'=w:=by
 have q:=h.c0;have f:=h.ok.kind;have m:=QK p.kind;have g:(i+1)*zk p.kind<=124:=aD (ee _ j) h.ok.fits;rw [eJ,iU] at g;have n:((i:Int)*(zk p.kind:Nat))=((i*zk p.kind:Nat):Int):=by simp
 have k:Hid (QJ b p.kind i=.slice (some ⟨b,4+i*zk p.kind,none⟩) (zk p.kind) (124-i*zk p.kind)):=rfl;change Hid _ at h;generalize QJ b p.kind i=o at*;generalize i*zk p.kind=c at*;generalize a:zk p.kind=d at*;change Hid _ at a;have hcut:=QL w b (4+↑c) (4+↑c+↑d) (4+c) d (by omega) (by omega) (by omega) (by omega);go_enter Tryz.func84,Tryz.ntmps84
 go_wp2_with (first
  |(go_at_call 144;refine(ve _ b p h).mono ?_;rintro e w' ⟨rfl,rfl⟩)
  |(go_at_call 145;refine(gF _ _ f).mono ?_;rintro e w' ⟨rfl,rfl⟩;rw [a.out]))
 go_ret;exact⟨by rw [k.out,show 124-c=128-(4+c) from by omega];rfl,rfl⟩
theorem jj(w:World)(b:Nat)(p:Pg)(h:qR w b p):Calls Tryz.prog 125 #[.pointer (some ⟨b,0,none⟩)] w λe w'=>e=.returned (ja b p.kind p.items.length)/\∃n,w'=w.drewN n:=by
 have f:=h.ok.kind;have i:=QK p.kind;have a:=h.ok.fits;have l:((p.items.length:Int)*(zk p.kind:Nat))=((p.items.length*zk p.kind:Nat):Int):=by simp
 have g:Hid (ja b p.kind p.items.length=.slice (some ⟨b,4,none⟩) (p.items.length*zk p.kind) 124):=rfl;change Hid _ at h;generalize ja b p.kind p.items.length=j at*;generalize p.items.length*zk p.kind=d at*;generalize c:zk p.kind=k at*;change Hid _ at c;have hcut:∀w,(Instr.sliceAt 154 (.pointer (some ⟨b,0,none⟩)) (some (.int .i64 4)) (some (.int .i64 (4+↑d))) none).run Tryz.prog w=.ok (.slice (some ⟨b,4,none⟩) d 124) w:=λw=>QL w b 4 (4+↑d) 4 d rfl rfl (by omega) (by omega);go_enter Tryz.func125,Tryz.ntmps125;go_wp2
 go_quiet ((first
  |(go_at_call 82;exact Calls.quiet_of_same (vA _ b p (by exact h.kept (T:=λ_=>False) kD (λa=>a))))
  |(go_at_call 144;exact Calls.quiet_of_same (ve _ b p (by exact h.kept (T:=λ_=>False) kD (λa=>a))))
  |(go_at_call 145;exact Calls.quiet_of_same (VB _ _ _ f c))))
 go_wp2;go_ret;exact⟨by rw [g.out];rfl,_,rfl⟩
end prog
namespace prog
def Pg.grown(p:Pg)(k:Nat):Pg:={p with items:=p.items++List.replicate k (List.replicate (zk p.kind) 0)}
def Pg.more(p:Pg)(vs:List (List UInt8)):Pg:={p with items:=p.items++vs}
theorem Pg.grown_len(p:Pg)(k:Nat):(p.grown k).items.length=p.items.length+k:=by simp [Pg.grown]
theorem Pg.Ok.more{p:Pg}(h:p.Ok){vs:List (List UInt8)}(c:∀v∈vs,v.length=zk p.kind)(b:(p.items.length+vs.length)*zk p.kind<=124)(d:p.items.length+vs.length<=124):(p.more vs).Ok where
 kind:=h.kind
 link:=h.link
 wide:=λi a=>by
  rcases ah.1 a with a|a;.exact h.wide i a
  .exact c i a
 fits:=by simpa [Pg.more] using b
 few:=by simpa [Pg.more] using d
theorem Pg.grown_more(p:Pg)(k:Nat):p.grown k=p.more (List.replicate k (List.replicate (zk p.kind) 0)):=rfl
theorem Pg.Ok.grown{p:Pg}(h:p.Ok)(k:Nat)(b:(p.items.length+k)*zk p.kind<=124)(a:p.items.length+k<=124):(p.grown k).Ok:=by
 rw [Pg.grown_more];exact h.more (λv c=>by rw [lj c];simp) (by simpa using b) (by simpa using a)
theorem ug(w:Nat):∀k,(List.replicate k (List.replicate w (0:UInt8))).flatten=List.replicate (k*w) 0
 |0=>by simp
 |k+1=>by rw [mg,aU,ug w k,lq];congr 1;rw [eJ];omega
theorem Pg.Ok.grown_bytes{p:Pg}(h:p.Ok)(k:Nat)(b:(p.items.length+k)*zk p.kind<=124):qG p.bytes 1 [UInt8.ofNat (p.items.length+k)]=(p.grown k).bytes:=by
 have e:124-p.items.length*zk p.kind=k*zk p.kind+(124-(p.items.length+k)*zk p.kind):=by rw [eJ] at *; omega
 have a:List.replicate (124-p.items.length*zk p.kind) (0:UInt8)=List.replicate (k*zk p.kind) 0++List.replicate (124-(p.items.length+k)*zk p.kind) 0:=by rw [lq,<-e]
 simp only [Pg.bytes,Pg.grown,ag,List.length_replicate,eV,ug,a];simp [qG]
theorem Pg.Ok.more_bytes{p:Pg}(h:p.Ok)(vs:List (List UInt8))(e:∀v∈vs,v.length=zk p.kind)(g:(p.items.length+vs.length)*zk p.kind<=124):
 qG (p.grown vs.length).bytes (4+p.items.length*zk p.kind) vs.flatten=(p.more vs).bytes:=by
 have h2:(bytesOf 2 p.link).length=2:=zP 2 _;have a:=xV _ p.items h.wide;have b:=xV _ vs e
 have c:(p.grown vs.length).bytes=(UInt8.ofNat p.kind::UInt8.ofNat (p.items.length+vs.length)::bytesOf 2 p.link++p.items.flatten)++(List.replicate (vs.length*zk p.kind) 0++List.replicate (124-(p.items.length+vs.length)*zk p.kind) 0):=by simp only [Pg.bytes,Pg.grown,ag,List.length_replicate,eV,ug];simp
 have d:(UInt8.ofNat p.kind::UInt8.ofNat (p.items.length+vs.length)::bytesOf 2 p.link++p.items.flatten).length=4+p.items.length*zk p.kind:=by simp only [ag,ae,h2,a];try omega
 rw [c];unfold qG;have f:(List.replicate (vs.length*zk p.kind) (0:UInt8)).length=vs.flatten.length:=by rw [b];simp
 rw [<-d,iE,iW,<-f,iS];simp [Pg.bytes,Pg.more]
theorem Pg.Ok.push_over{p:Pg}(h:p.Ok)(v:List UInt8)(c:v.length=zk p.kind)(b:(p.items.length+1)*zk p.kind<=124):qG (p.grown 1).bytes (4+p.items.length*zk p.kind) v=(p.push v).bytes:=by
 have:=h.more_bytes [v] (λu a=>by rw [az.1 a];exact c) (by simpa using b);simpa [Pg.more,Pg.push] using this
theorem gG(l:List UInt8)(a:Nat)(u v:List UInt8)(h:a+u.length+v.length<=l.length):qG (qG l a u) (a+u.length) v=qG l a (u++v):=by
 have e:(l.take a).length=a:=by simp;omega
 have d:(l.take a++u).length=a+u.length:=by simp;omega
 have b:(qG l a u).drop (a+u.length+v.length)=l.drop (a+u.length+v.length):=by unfold qG;rw [<-d,iW,eA]
 have c:(qG l a u).take (a+u.length)=l.take a++u:=by unfold qG;rw [<-d,iE]
 unfold qG at b c ⊢;rw [c,b];simp [lH]
end prog
namespace prog
open Go.ChangeShapes Go.WideShapes Go.ChangeAt Go.RowKit disk ref
open keys (zh ze zy zs)
theorem Tryz.infoPage:(Tryz.prog.info? 154).map (λi=>(i.zero,i.size,i.bytes))=some (some (.agg zX.toArray),128,128):=by kernel_rfl
def Xo(parts:Array (Nat×Value)):Sem Value:=Instr.build 154 parts
theorem Kh(parts:Array (Nat×Value)):Instr.build 154 parts=Xo parts:=rfl
theorem Xp(w:World)(k:Int):(Xo #[(0,.int .u8 k)]).run Tryz.prog w=.ok (.agg (.int .u8 k::List.replicate 127 (.int .u8 0)).toArray) w:=by
 have c:=zY Tryz.infoPage w;have b:=xA cQ;have a:zX=.int .u8 0::List.replicate 127 (.int .u8 0):=rfl;simp only [Xo,Instr.build,ie,c,eD,ii yK w];simp [b,Value.cells,Instr.fill,a]
def zm(p:Pg):List Value:=p.bytes.map qA
theorem ZM{p:Pg}(h:p.Ok):(zm p).length=128:=by rw [zm,ez,h.len]
theorem yf{p:Pg}(h:p.Ok):zT (zm p):=⟨ZM h,vv _⟩
theorem Dc(k:Nat)(a:k<=6):zm (Pg.new k)=.int .u8 (k:Int)::List.replicate 127 (.int .u8 0):=by
 rw [zm,Pg.new_bytes,aO,List.map_replicate];unfold qA;rw [vd _ (by omega)];rfl
end prog
namespace prog
open Go.ChangeShapes Go.WideShapes Go.ChangeAt Go.RowKit disk ref
section
attribute [local go_sem ↓] Kh
theorem jH(w:World)(k:Nat)(g:k<=6):Calls Tryz.prog 131 #[.int .u8 k] w λe w'=>e=.returned (.agg (zm (Pg.new k)).toArray)/\za (λ_=>False) w w':=by
 have j:Hid _:=zZ Tryz.infoPage;obtain⟨b,c,l⟩:∃b:List Value,b=zX/\∀w,(zeroValue 154).run Tryz.prog w=.ok (.agg b.toArray) w:=⟨zX,rfl,zY Tryz.infoPage⟩;have i:Hid (zT b):=by rw [c];exact zH
 clear c;have h:Hid _:=Dc k g;have a:Hid _:=yf (Pg.new_ok k g);have d:=λw=>Xp w (k:Int);rw [<-h.out] at d;generalize zm (Pg.new k)=f at*;clear h;go_enter Tryz.func131,Tryz.ntmps131;go_wp2_with (show wpList _ _ _ ({dst:=none,op:=.store _ _ _,type:=_,pos:=_,after:=_,guard:=_}::_) _ _;refine zi rfl 154 (.tmp 2) (.tmp 4) rfl _ _ f (by simp) rfl rfl (by rw [a.1];exact j) (by rw [aq,i.1,a.1]) a.2 ?_);refine bodyPost_ret (v:=.agg f.toArray) (results_cell_row Tryz.results131 _ _ w.heap.size 154 _ (0,0) _ rfl (by have:=ac w (.cells f.toArray 154);simpa using this) yK rfl (by rw [aq,a.1];exact j)) rfl ⟨rfl,za.alloc _ _ _⟩
end
theorem VC(l:List UInt8)(i:Nat)(c:UInt8)(h:i<l.length):qG l i [c]=l.set i c:=by
 rw [cP _ _ _ _ (by simp;omega),QH]
def vf(b k n i:Nat):Value:=.slice (some ⟨b,4+n*zk k,none⟩) (i*zk k) (124-n*zk k)
theorem vg(w:World)(b:Nat)(p:Pg)(h:qR w b p)(k:Nat)(a:(p.items.length+k)*zk p.kind<=124)(q:p.items.length+k<=124)(B:1<=k*zk p.kind):
 Calls Tryz.prog 133 #[.pointer (some ⟨b,0,none⟩),.int .i64 k] w λe w'=>e=.returned (vf b p.kind p.items.length k)/\qR w' b (p.grown k)/\za (λi=>i=b) w w':=by
 have A:=h.c1;have u:=h.bs.fz 1;have d:Hid _:=h;clear h;go_enter Tryz.func133,Tryz.ntmps133;go_wp2_with (go_at_call 125;refine(jj _ b p d).mono ?_;rintro e o ⟨rfl,f,rfl⟩;unfold ja)
 go_region
 have t:=d.ok.len
 have m:Hid (qR ((w.drewN (f+1)).setCell ⟨b,1,none⟩ (.int .u8 (↑p.items.length+↑k))) b (p.grown k)):=by show qR _ b (p.grown k);refine⟨?_,d.ok.grown k a q⟩;have l:=(d.bs.kept (T:=λ_=>False) (w':=w.drewN (f+1)) kD (λa=>a)).set 1 (UInt8.ofNat (p.items.length+k));rw [vd _ (by omega),<-VC _ _ _ (by omega),d.ok.grown_bytes k a] at l;exact l
 have r:Hid (za (λi=>i=b) w ((w.drewN (f+1)).setCell ⟨b,1,none⟩ (.int .u8 (↑p.items.length+↑k)))):=
  za.trans (S':=λi=>i=b) (b:=w.drewN (f+1)) kD (za.setCell _ _ _ rfl) iL
 generalize (w.drewN (f+1)).setCell ⟨b,1,none⟩ (.int .u8 (↑p.items.length+↑k))=y at*;have s:Hid (vf b p.kind p.items.length k=.slice (some ⟨b,4+p.items.length*zk p.kind,none⟩) (k*zk p.kind) (124-p.items.length*zk p.kind)):=rfl;have g:Hid ((p.grown k).kind=p.kind):=rfl;have j:((p.items.length:Int)*(zk p.kind:Nat))=((p.items.length*zk p.kind:Nat):Int):=by simp
 have c:(p.items.length+k)*zk p.kind=p.items.length*zk p.kind+k*zk p.kind:=eJ ..;rw [c] at a;rw [j];change Hid _ at c;clear j;generalize p.items.length*zk p.kind=x at*;generalize k*zk p.kind=z at*;have n:¬124=x:=by omega
 go_wp2_with (go_at_call 125;refine(jj _ b _ m).mono ?_;rintro e o ⟨rfl,v,rfl⟩;unfold ja;rw [g.out,Pg.grown_len,c.out]);go_ret;exact⟨by rw [s.out];rfl,m.kept (T:=λ_=>False) kD (λa=>a),r.trans (S':=λ_=>False) kD fE⟩
end prog
namespace prog
open ref
variable {h:Nat}
def Tr:Nat->Type
 |0=>Nat×List En
 |h+1=>Nat×List (Pl×Tr h)
def Tr.blk:{h:Nat}->Tr h->Nat
 |0,t=>t.1
 |_+1,t=>t.1
def Tr.items:{h:Nat}->Tr h->List En
 |0,t=>t.2
 |_+1,t=>t.2.map λc=>⟨c.1,false,0,c.2.blk⟩
def zO:Nat->Nat
 |0=>5
 |_+1=>4
def Tr.ents:{h:Nat}->Tr h->List En
 |0,t=>t.2
 |h+1,t=>(t.2.map λc=>Tr.ents (h:=h) c.2).flatten
def Tr.blocks:{h:Nat}->Tr h->List Nat
 |0,t=>[t.1]
 |h+1,t=>t.1::(t.2.map λc=>Tr.blocks (h:=h) c.2).flatten
def Tr.Lay(rd:Nat->List UInt8):{h:Nat}->Tr h->Prop
 |0,t=>rd t.1=(zc 5 t.2).bytes
 |h+1,t=>rd t.1=(zc 4 (Tr.items (h:=h+1) t)).bytes/\∀c∈t.2,Tr.Lay rd (h:=h) c.2
def zJ{h:Nat}(cs:List (Pl×Tr h)):List En:=(cs.map λc=>c.2.ents).flatten
def zE{h:Nat}(cs:List (Pl×Tr h)):List Nat:=(cs.map λc=>c.2.blocks).flatten
theorem zA(A B:List (Pl×Tr h)):zJ (A++B)=zJ A++zJ B:=by simp [zJ]
theorem zr(c:Pl×Tr h)(B:List (Pl×Tr h)):zJ (c::B)=c.2.ents++zJ B:=by simp [zJ]
theorem qo(A B:List (Pl×Tr h)):zE (A++B)=zE A++zE B:=by simp [zE]
theorem qB(c:Pl×Tr h)(B:List (Pl×Tr h)):zE (c::B)=c.2.blocks++zE B:=by simp [zE]
theorem Tr.ents_succ(t:Tr (h+1)):t.ents=zJ t.2:=rfl
theorem Tr.blocks_succ(t:Tr (h+1)):t.blocks=t.1::zE t.2:=rfl
theorem Tr.blk_mem:∀{h:Nat} (t:Tr h),t.blk∈t.blocks
 |0,t=>az.2 rfl
 |_+1,t=>al ..
structure Pl.Ok (p:Pl):Prop where
 key:p.key.data.toList.length<=8
 zero:(0:UInt8)∉p.key.data.toList
 num0:0<=p.num
 num1:p.num<9223372036854775808
theorem En.Ok.pl{e:En}(h:e.Ok):e.pl.Ok:=⟨h.key,h.zero,h.num0,h.num1⟩
theorem Pl.Ok.en{p:Pl}(h:p.Ok){n:Nat}(a:n<65536):En.Ok ⟨p,false,0,n⟩:=⟨h.key,h.zero,h.num0,h.num1,by simp,by simp,a⟩
def yO(l:List En):Prop:=l.Pairwise λa b=>a.pl.lt b.pl=true
def Tr.First:{h:Nat}->Tr h->Pl->Prop
 |0,_,_=>True
 |_+1,t,p=>∃u r,t.2=(p,u)::r
def fW{h:Nat}(cs:List (Pl×Tr h)):Prop:=
 ∀A p t B,cs=A++(p,t)::B->(∀e∈zJ A,e.pl.lt p=true)/\(∀e∈zJ ((p,t)::B),¬e.pl.lt p=true)/\t.First p
def Tr.Good:{h:Nat}->Tr h->Prop
 |0,t=>t.1<65536/\∀e∈t.2,e.Ok
 |h+1,t=>t.1<65536/\(∀c∈t.2,Tr.Good (h:=h) c.2/\(c.2.items).length<=6/\c.1.Ok)/\t.2.Pairwise (λa b=>a.1.lt b.1=true)/\fW t.2/\∀c∈t.2,3<=(c.2.items).length
structure Kids {h:Nat} (cs:List (Pl×Tr h)):Prop where
 good:∀c∈cs,c.2.Good/\c.2.items.length<=6/\c.1.Ok
 places:cs.Pairwise λa b=>a.1.lt b.1=true
 seps:fW cs
theorem Tr.Good.kids{t:Tr (h+1)}(g:t.Good):Kids t.2:=⟨g.2.1,g.2.2.1,g.2.2.2.1⟩
theorem Tr.Good.full{t:Tr (h+1)}(g:t.Good):∀c∈t.2,3<=c.2.items.length:=g.2.2.2.2
theorem Tr.Good.blk:∀{h:Nat} {t:Tr h},t.Good->t.blk<65536
 |0,_,g=>g.1
 |_+1,_,g=>g.1
theorem Kids.node{a:List (Pl×Tr h)}(k:Kids a)(f:∀c∈a,3<=c.2.items.length){b:Nat}(d:b<65536):Tr.Good (h:=h+1) (b,a):=⟨d,k.good,k.places,k.seps,f⟩
theorem Tr.Good.items_ok:∀{h:Nat} {t:Tr h},t.Good->∀e∈t.items,e.Ok
 |0,_,g,e,he=>g.2 e he
 |h+1,t,g,e,he=>by obtain⟨c,a,rfl⟩:=au.1 he;have:=g.kids.good c a;exact this.2.2.en this.1.blk
theorem yL(t:Tr (h+1)):t.items.length=t.2.length:=by simp [Tr.items]
theorem Tr.Good.some_ent:∀{h:Nat} {t:Tr h},t.Good->1<=t.items.length->∃e,e∈t.ents
 |0,t,_,hl=>by
  have:t.2≠[]:=λe=>by simp [Tr.items,e] at hl
  obtain⟨e,r,a⟩:=List.exists_cons_of_ne_nil this;exact⟨e,by show e∈t.2;rw [a];exact al ..⟩
 |h+1,t,g,hl=>by
  rw [yL] at hl;have:t.2≠[]:=λe=>by simp [e] at hl
  obtain⟨c,r,d⟩:=List.exists_cons_of_ne_nil this;have b:c∈t.2:=by rw [d];exact al ..
  obtain⟨e,a⟩:=(g.kids.good c b).1.some_ent (by have:=g.full c b;omega);exact⟨e,by rw [Tr.ents_succ,d,zr];exact af _ a⟩
theorem fW.left{A B:List (Pl×Tr h)}(s:fW (A++B)):fW A:=λc p t B' e=>by
 obtain⟨a,h2,b⟩:=s c p t (B'++B) (by rw [e];simp);exact⟨a,λf d=>h2 f (by rw [show (p,t)::(B'++B)=((p,t)::B')++B from rfl,zA];exact af _ d),b⟩
theorem fW.right{A B:List (Pl×Tr h)}(s:fW (A++B)):fW B:=λc p t B' e=>by
 obtain⟨a,h2,b⟩:=s (A++c) p t B' (by rw [e];simp);exact⟨λf d=>a f (by rw [zA];exact av _ d),h2,b⟩
theorem Kids.left{A B:List (Pl×Tr h)}(k:Kids (A++B)):Kids A:=⟨λc a=>k.good c (af _ a),(aX.1 k.places).1,k.seps.left⟩
theorem Kids.right{A B:List (Pl×Tr h)}(k:Kids (A++B)):Kids B:=⟨λc a=>k.good c (av _ a),(aX.1 k.places).2.1,k.seps.right⟩
theorem Kids.nil:Kids ([]:List (Pl×Tr h)):=⟨λ_ h=>(by cases h),List.Pairwise.nil,λA p t B e=>by simp at e⟩
theorem fW.join{A B:List (Pl×Tr h)}{p:Pl}{t:Tr h}(y:fW A)(v:fW ((p,t)::B))(k:∀e∈zJ A,e.pl.lt p=true)(r:∀a∈A,a.1.lt p=true)(w:∀b∈B,p.lt b.1=true):fW (A++(p,t)::B):=by
 obtain⟨_,j,n⟩:=v [] p t B rfl;intro z q u B' e;rcases List.append_eq_append_iff.1 e with⟨m,f,h2⟩|⟨m,f,h2⟩
 .cases m with
  |nil=>
   simp only [aM] at f;simp only [aK,eH,eS] at h2;obtain⟨⟨rfl,rfl⟩,rfl⟩:=h2;subst f;exact⟨k,j,n⟩
  |cons c m=>
   obtain⟨g,i,l⟩:=v (c::m) q u B' h2;refine⟨λs d=>?_,i,l⟩;rw [f,zA] at d;rcases ah.1 d with d|d
   .have x:(q,u)∈B:=by simp only [aT,eH] at h2;rw [h2.2];simp
    exact Pl.trans (k s d) (w _ x)
   .exact g s d
 .cases m with
  |nil=>
   simp only [aM] at f;simp only [aK,eH,eS] at h2;obtain⟨⟨rfl,rfl⟩,rfl⟩:=h2;subst f;exact⟨k,j,n⟩
  |cons c m=>
   simp only [aT,eH] at h2;obtain⟨rfl,h2⟩:=h2;obtain⟨g,i,l⟩:=y z q u m f;refine⟨g,λs d=>?_,l⟩;rw [h2,show (q,u)::(m++(p,t)::B)=((q,u)::m)++(p,t)::B from rfl,zA] at d;rcases ah.1 d with d|d;.exact i s d
   .exact λo=>j s d (Pl.trans o (r (q,u) (by rw [f];simp)))
theorem Kids.join{A B:List (Pl×Tr h)}{p:Pl}{t:Tr h}(i:Kids A)(f:Kids ((p,t)::B))(l:∀e∈zJ A,e.pl.lt p=true)(d:∀a∈A,a.1.lt p=true):Kids (A++(p,t)::B) where
 good:=λc k=>(ah.1 k).elim (i.good c) (f.good c)
 places:=aX.2 ⟨i.places,f.places,λa j b g=>by
  rcases ar.1 g with rfl|g;.exact d a j
  .exact Pl.trans (d a j) ((aL.1 f.places).1 b g)⟩
 seps:=i.seps.join f.seps l d (λb g=>(aL.1 f.places).1 b g)
theorem Kids.mid{A B:List (Pl×Tr h)}{p:Pl}{t:Tr h}(k:Kids (A++(p,t)::B)):(∀a∈A,a.1.lt p=true)/\(∀b∈B,p.lt b.1=true)/\(∀e∈zJ A,e.pl.lt p=true)/\(∀e∈zJ ((p,t)::B),¬e.pl.lt p=true)/\t.First p/\
 (∀b∈B,∀e∈zJ A++t.ents,e.pl.lt b.1=true)/\(∀b∈B,∀e∈b.2.ents,¬e.pl.lt b.1=true):=by
 have i:=aX.1 k.places;obtain⟨j,m,l⟩:=k.seps A p t B rfl;refine⟨λa n=>i.2.2 a n _ (al ..),(aL.1 i.2.1).1,j,m,l,λb f e c=>?_,λb f e c=>?_⟩
 .obtain⟨d,g,rfl⟩:=iX f;obtain⟨q,u⟩:=b;have:=(k.seps (A++(p,t)::d) q u g (by simp)).1 e;refine this ?_;rw [zA,zr];rcases ah.1 c with c|c;.exact af _ c
  .exact av _ (af _ c)
 .obtain⟨d,g,rfl⟩:=iX f;obtain⟨q,u⟩:=b;exact(k.seps (A++(p,t)::d) q u g (by simp)).2.1 e (by rw [zr];exact af _ c)
theorem Kids.cons{B:List (Pl×Tr h)}{p:Pl}{u:Tr h}(f:Kids B)(g:u.Good)(i:u.items.length<=6)(n:p.Ok)(o:u.First p)(y:∀e∈u.ents,¬e.pl.lt p=true)(h2:∀b∈B,p.lt b.1=true)(w:∀b∈B,∀e∈u.ents,e.pl.lt b.1=true):Kids ((p,u)::B) where
 good:=λc d=>by
  rcases ar.1 d with rfl|d;.exact⟨g,i,n⟩
  .exact f.good c d
 places:=aL.2 ⟨h2,f.places⟩
 seps:=by
  intro A q v B' e
  cases A with
  |nil=>
   simp only [aK,eH,eS] at e;obtain⟨⟨rfl,rfl⟩,rfl⟩:=e;refine⟨λj a=>(by cases a),λj a=>?_,o⟩;rw [zr] at a;rcases ah.1 a with a|a;.exact y j a
   .obtain⟨l,i,k⟩:=eW.1 a;obtain⟨c,d,rfl⟩:=au.1 i;obtain⟨t,z,rfl⟩:=iX d;obtain⟨r,D⟩:=c;have:=(f.seps t r D z rfl).2.1 j (by rw [zr];exact af _ k);exact λm=>this (Pl.trans m (h2 _ d))
  |cons c A=>
   simp only [aT,eH] at e;obtain⟨rfl,e⟩:=e;obtain⟨s,x,C⟩:=f.seps A q v B' e;refine⟨λj a=>?_,x,C⟩;rw [zr] at a;rcases ah.1 a with a|a;.exact w (q,v) (by rw [e];simp) j a
   .exact s j a
theorem Kids.swap{A B:List (Pl×Tr h)}{p:Pl}{t u:Tr h}(k:Kids (A++(p,t)::B))(g:u.Good)(f:u.items.length<=6)(c:u.First p)
 (l:∀e∈u.ents,¬e.pl.lt p=true) (h2:∀b∈B,∀e∈u.ents,e.pl.lt b.1=true):Kids (A++(p,u)::B):=by
 obtain⟨j,d,i,r,q,n,o⟩:=k.mid;have a:=k.right;have m:Kids B:=Kids.right (A:=[(p,t)]) a;exact k.left.join (m.cons g f (a.good (p,t) (al ..)).2.2 c l d h2) i j
theorem Kids.parted{A B:List (Pl×Tr h)}{p q:Pl}{t u v:Tr h}(k:Kids (A++(p,t)::B))(D:u.Good)(r:v.Good)(E:u.items.length<=6)(z:v.items.length<=6)(w:q.Ok)(l:u.First p)(j:v.First q)
 (c:p.lt q=true) (d:∀e∈u.ents,e.pl.lt q=true) (x:∀e∈v.ents,¬e.pl.lt q=true) (y:∀e∈u.ents,¬e.pl.lt p=true) (h2:∀b∈B,∀e∈v.ents,e.pl.lt b.1=true) (f:∀b∈B,q.lt b.1=true):Kids (A++(p,u)::(q,v)::B):=by
 obtain⟨o,m,n,I,H,F,G⟩:=k.mid;have g:=k.right;have C:Kids B:=Kids.right (A:=[(p,t)]) g;have s:Kids ((q,v)::B):=C.cons r z w j x f h2;refine k.left.join (s.cons D E (g.good (p,t) (al ..)).2.2 l y ?_ ?_) n o
 .intro b a;rcases ar.1 a with rfl|a;.exact c
  .exact m b a
 .intro b a e i;rcases ar.1 a with rfl|a;.exact d e i
  .exact Pl.trans (d e i) (f b a)
def zt(l:List En)(p:Pl):Nat:=(l.filter λx=>x.pl.lt p).length
theorem yO.cut{l:List En}(h:yO l)(p:Pl):l.take (zt l p)=l.filter (λb=>b.pl.lt p)/\l.drop (zt l p)=l.filter (λb=> !b.pl.lt p):=by
 induction l with
 |nil=>simp [zt]
 |cons a l j=>
  unfold yO at h;rw [aL] at h
  cases c:a.pl.lt p with
  |true=>
   obtain⟨k,h2⟩:=j h.2;have e:zt (a::l) p=zt l p+1:=by simp [zt,c]
   rw [e,iz,lp,k,h2];simp [c]
  |false=>
   have f:∀b∈l,b.pl.lt p=false:=λb d=>by
    cases g:b.pl.lt p with
    |false=>rfl
    |true=>have:=Pl.trans (h.1 b d) g;rw [c] at this;cases this
   have e:zt (a::l) p=0:=by simp [zt,c];exact f
   have i:l.filter (λb=>b.pl.lt p)=[]:=iA.2 (λb d=>by rw [f b d];simp);have m:l.filter (λb=> !b.pl.lt p)=l:=eU.2 (λb d=>by rw [f b d];rfl);rw [e];simp [c,i,m]
theorem xW(l:List En)(p:Pl):zt l p<=l.length:=ip _ _
theorem yO.at_lt{l:List En}(h:yO l)(p:Pl)(i:Nat)(d:i<l.length):l[i].pl.lt p=decide (i<zt l p):=by
 obtain⟨c,h2⟩:=h.cut p;by_cases b:i<zt l p
 .rw [aJ b];have a:l[i]∈l.take (zt l p):=i8.2 ⟨i,by omega,rfl⟩;rw [c,ei] at a;exact a.2
 .rw [decide_eq_false b];have a:l[i]∈l.drop (zt l p):=List.mem_drop_iff_getElem.2 ⟨i-zt l p,by omega,by congr 1;omega⟩;rw [h2,ei] at a;simpa using a.2
def yx(e:En)(l:List En):List En:=l.filter (λx=>x.pl.lt e.pl)++e::l.filter (λx=> !x.pl.lt e.pl)
theorem ke{e a:En}{l:List En}:a∈yx e l↔a=e\/a∈l:=by
 simp only [yx,ah,ar,ei,iy];constructor
 .rintro(h|h|h);.exact .inr h.1
  .exact .inl h
  .exact .inr h.1
 .rintro(h|h);.exact .inr (.inl h)
  .cases b:a.pl.lt e.pl with
   |true=>exact .inl ⟨h,rfl⟩
   |false=>exact .inr (.inr ⟨h,rfl⟩)
theorem kf(e:En)(l:List En):(yx e l).Perm (e::l):=by
 unfold yx;refine List.perm_middle.trans (List.Perm.cons e ?_)
 induction l with
 |nil=>exact eR _
 |cons a l b=>
  cases c:a.pl.lt e.pl with
  |true=>simp only [eX,c,Bool.not_true,if_true,lS,if_false,aT];exact b.cons a
  |false=>simp only [eX,c,Bool.not_false,if_true,lS,if_false];exact List.perm_middle.trans (b.cons a)
theorem yO.ins{e:En}{l:List En}(h:yO l)(f:∀c∈l,c.pl≠e.pl):yO (yx e l):=by
 unfold yO yx;refine aX.2 ⟨h.filter _,aL.2 ⟨λc a=>?_,h.filter _⟩,λc a g b=>?_⟩
 .rw [ei] at a;exact Pl.total (λd=>f c a.1 d) (by simpa using a.2)
 .rw [ei] at a;rcases ar.1 b with rfl|b;.exact a.2
  .rw [ei] at b;exact Pl.lt_of_lt_not a.2 (by simpa using b.2)
theorem VD{e:En}{A j B:List En}(d:∀a∈A,a.pl.lt e.pl=true)(c:∀a∈B,a.pl.lt e.pl=false):yx e (A++(j++B))=A++(yx e j++B):=by
 have g:=eU.2 d;have h:A.filter (λa=> !a.pl.lt e.pl)=[]:=iA.2 (λa b=>by rw [d a b];simp);have f:B.filter (λa=>a.pl.lt e.pl)=[]:=iA.2 (λa b=>by rw [c a b];simp);have i:B.filter (λa=> !a.pl.lt e.pl)=B:=eU.2 (λa b=>by rw [c a b];rfl);simp [yx,g,h,f,i]
theorem yO.ins_at{e:En}{l:List En}(h:yO l):l.take (zt l e.pl)++e::l.drop (zt l e.pl)=yx e l:=by
 obtain⟨a,h2⟩:=h.cut e.pl;rw [a,h2];rfl
def qT(p:Pl)(l:List En):List En:=haveI:=Pl.dec;l.filter λx=>decide (x.pl≠p)
theorem jk{p:Pl}{l:List En}(h:∀a∈l,a.pl≠p):qT p l=l:=eU.2 (λa b=>by simpa using h a b)
theorem jI(p:Pl)(A B:List En):qT p (A++B)=qT p A++qT p B:=by simp [qT]
theorem dJ{p:Pl}{a:En}{l:List En}:a∈qT p l↔a∈l/\a.pl≠p:=by simp [qT]
theorem yO.del{p:Pl}{l:List En}(h:yO l):yO (qT p l):=i9 _ h
theorem yO.apart{l:List En}(h:yO l):∀(i j:Nat) (c:i<l.length) (b:j<l.length),l[i].pl=l[j].pl->i=j:=λi j c b e=>by
 rcases Nat.lt_trichotomy i j with a|a|a
 .have:=eB.1 h i j c b a;rw [e] at this;exact absurd this (Pl.irrefl _)
 .exact a
 .have:=eB.1 h j i b c a;rw [e] at this;exact absurd this (Pl.irrefl _)
theorem yO.find{l:List En}(h:yO l)(p:Pl):(∀(c:zt l p<l.length),l[zt l p].pl=p->l.take (zt l p)++l.drop (zt l p+1)=qT p l)/\
 ((∀(c:zt l p<l.length),l[zt l p].pl≠p)->∀f∈l,f.pl≠p):=by
 obtain⟨r,h2⟩:=h.cut p;constructor
 .intro c j;have g:l=l.take (zt l p)++l[zt l p]::l.drop (zt l p+1):=by rw [<-aI,aE]
  have o:∀f∈l.take (zt l p),f.pl≠p:=λf a e=>by rw [r,ei,e] at a;exact Pl.irrefl _ a.2
  have m:∀f∈l.drop (zt l p+1),f.pl≠p:=λf a e=>by unfold yO at h;rw [g] at h;have:=(aL.1 (aX.1 h).2.1).1 f a;rw [j,e] at this;exact Pl.irrefl _ this
  conv=>rhs;rw [g]
  rw [jI,jk o,show qT p (l[zt l p]::l.drop (zt l p+1))=qT p (l.drop (zt l p+1)) from by unfold qT;rw [eX,aw (by simp [j])],jk m]
 .intro q f a e;obtain⟨i,c,rfl⟩:=ed a;have b:=h.at_lt p i c;rw [e] at b;have t:¬i<zt l p:=λs=>by rw [aJ s] at b;exact Pl.irrefl _ b
  have d:zt l p<l.length:=by omega
  by_cases n:zt l p=i;.exact q d (by simp only [n];exact e)
  .have:=eB.1 h (zt l p) i d c (by omega);have k:=h.at_lt p _ d;rw [e] at this;rw [this] at k;simp at k
def zI(l:List En)(p:Pl):Nat:=haveI:=Pl.dec;if h:zt l p<l.length then (if l[zt l p].pl=p then zt l p else zt l p-1) else zt l p-1
theorem cS{l:List En}(p:Pl)(h:l≠[]):zI l p<l.length:=by
 have:=xW l p;have:0<l.length:=List.length_pos_iff.2 h;unfold zI;split;.split<;>omega
 .omega
theorem Kids.items_srt{a:List (Pl×Tr h)}(k:Kids a):yO (a.map λc=>(⟨c.1,false,0,c.2.blk⟩:En)):=List.Pairwise.map _ (λ_ _ h=>h) k.places
theorem Kids.child{a:List (Pl×Tr h)}(k:Kids a)(I:a≠[])(p:Pl):∃A q t B,a=A++(q,t)::B/\A.length=zI (a.map λc=>(⟨c.1,false,0,c.2.blk⟩:En)) p/\(A≠[]->¬p.lt q=true)/\(∀b∈B,p.lt b.1=true):=by
 have u:=k.items_srt;generalize C:(a.map λc=>(⟨c.1,false,0,c.2.blk⟩:En))=l at u ⊢;have w:l.length=a.length:=by rw [<-C];simp
 have d:∀i (g:i<a.length),l[i]'(by omega)=⟨a[i].1,false,0,a[i].2.blk⟩:=λi g=>by subst C;simp
 have x:l≠[]:=λe=>I (aY (by rw [<-w,e];rfl));have K:=cS p x;have y:zI l p<a.length:=by omega
 have E:a=a.take (zI l p)++a[zI l p]::a.drop (zI l p+1):=by rw [<-aI,aE]
 have L:=xW l p;refine⟨a.take (zI l p),a[zI l p].1,a[zI l p].2,a.drop (zI l p+1),E,by simp;omega,λz=>?_,λb F=>?_⟩
 ·
  have o:0<zI l p:=by
   rcases mq (zI l p) with v|v;.rw [v] at z;simp at z
   .exact v
  have j:=u.at_lt p (zI l p) K;rw [d _ y] at j;simp only at j;by_cases r:zI l p<zt l p;.rw [aJ r] at j;exact Pl.asymm j
  ·
   have:∃g:zt l p<l.length,l[zt l p].pl=p/\zI l p=zt l p:=by
    unfold zI at r o ⊢;split at r
    next g=>
     split at r
     next f=>exact⟨g,f,by rw [dif_pos g,aB f]⟩
     next f=>rw [dif_pos g,aw f] at o;omega
    next g=>rw [dif_neg g] at o;omega
   obtain⟨g,f,h2⟩:=this
   have H:a[zI l p].1=p:=by have:=d (zt l p) (by omega);rw [this] at f;simp only [h2];exact f
   rw [H];exact Pl.irrefl _
 ·
  obtain⟨i,g,rfl⟩:=List.mem_drop_iff_getElem.1 F;have s:zI l p+1+i<a.length:=by omega
  have j:=u.at_lt p (zI l p+1+i) (by omega);rw [d _ s] at j;simp only at j
  have M:zt l p<=zI l p+1:=by
   unfold zI;split;.split<;>omega
   .omega
  rw [decide_eq_false (by omega)] at j;by_cases f:a[zI l p+1+i].1=p
  ·
   have G:zt l p=zI l p+1+i:=by
    have J:=u.find p;by_cases D:∃g:zt l p<l.length,l[zt l p].pl=p
    .obtain⟨m,n⟩:=D;exact u.apart _ _ m (by omega) (by rw [n,d _ s];exact f.symm)
    .exact absurd (by rw [d _ s];exact f) (J.2 (λm n=>D ⟨m,n⟩) (l[zI l p+1+i]'(by omega)) (ai _))
   have N:zI l p=zt l p:=by
    have m:zt l p<l.length:=by omega
    have n:l[zt l p].pl=p:=by have:=d (zI l p+1+i) s;simp only [G];rw [this];exact f
    unfold zI;rw [dif_pos m,aB n]
   omega
  .exact Pl.total f (by rw [j];simp)
end prog
end Go.Proofs.YtcoengihaobddaaGreatDoor
