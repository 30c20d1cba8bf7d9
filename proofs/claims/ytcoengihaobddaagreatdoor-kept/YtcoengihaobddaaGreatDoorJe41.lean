/- Part 41 of 50 of a proof: Keep10 -/
import Derived.Test.YtcoengihaobddaaGreatDoorJe40
import Derived.Test.YtcoengihaobddaaGreatDoorJe27
set_option maxHeartbeats 8000000
set_option linter.unusedVariables false
set_option linter.unusedSimpArgs false
set_option maxRecDepth 8000
namespace Go.Proofs.YtcoengihaobddaaGreatDoor
namespace keep
open Go.RowKit disk ref book
open law (zP za zL qx yg jp x8 qr zD xm Chg Uc OutIs Good)
open keys (zh)
variable {a:Option Addr}{cap:Nat}{l:List UInt8}
def Vt(bd bs:Nat)(l:Value)(last:Int):Obj:=.cells #[.pointer (some ⟨bd,0,none⟩),.pointer (some ⟨bs,0,none⟩),l,.int .i64 last,.int .i64 (-1),.int .i64 0,.bool true] 33 (0,0)
structure xH (M:za) (w0 w:World) (bp bd bs:Nat) (O:Obj) (S:Nat->Prop) (D:Dk) (V:zP):Prop where
 fore:zD M w bd bs S D V
 head:w.heap[bp]? =some O
 pS:¬S bp
 pb:bp≠bs
 low:∀k,S k->w0.heap.size<=k
 lowb:w0.heap.size<=bs
 kept:Kept (λk=>w0.heap.size<=k) w0 w
 size:D.bs.length=1000
structure jb (w:World) (S:Nat->Prop) (bs:Nat) (e:TypeId) (sz:Nat) (v:Value) (n:Nat) (xs:List Value):Prop where
 row:w.ownsRow 0 e sz v n xs
 far:∀k,v.ownBlock=some k->¬S k/\k≠bs
section
variable {M:za} {w0 w w':World} {bp bd bs:Nat} {O:Obj} {S S':Nat->Prop} {D D':Dk} {V V':zP} {most:Int}
theorem xH.lt(h:xH M w0 w bp bd bs O S D V):bp<w.heap.size:=(lT h.head)
theorem xH.bs_lt(h:xH M w0 w bp bd bs O S D V):bs<w.heap.size:=M.sto_lt _ _ _ h.fore.sto
theorem xH.keep(h:xH M w0 w bp bd bs O S D V)(k:Kept (λ_=>False) w w'):xH M w0 w' bp bd bs O S D V:=
 ⟨zD.kept h.fore k nF (λa=>a),(k.block bp h.lt (λa=>a)).trans h.head,h.pS,h.pb,h.low,h.lowb,h.kept.trans k fE,h.size⟩
theorem xH.aft(h:xH M w0 w bp bd bs O S D V)(b:xm M w w' bd bs S S' D D' most (some bd))(e:M.Live D' V')(f:D'.reads<=2305843009213693952)(g:V'.n0<=2305843009213693952):xH M w0 w' bp bd bs O S' D' V':=by
 have d:=xm.far b h.lt h.pS h.pb;refine⟨⟨b.disk,λa=>?_,b.sto,e,b.fuse,by have:=h.fore.reads0;have:=b.reads0;omega,f,g⟩,d.1.trans h.head,d.2,h.pb,λk a=>?_,h.lowb,h.kept.trans b.kept (λk a=>.inl ?_),b.size.trans h.size⟩
 .rcases b.foot bs a with c|c;.exact h.fore.apart c
  .have:=h.bs_lt;omega
 .rcases b.foot k a with c|c;.exact h.low k c
  .have:=h.kept.size;omega
 .rcases a with a|a;.exact h.low k a
  .rw [a];exact h.lowb
theorem xH.end(h:xH M w0 w bp bd bs O S D V):Kept (λ_=>False) w0 w:=⟨h.kept.os,h.kept.tape,h.kept.output,h.kept.size,λk a _=>h.kept.block k a (by omega)⟩
theorem jb.keep{e:TypeId}{b n:Nat}{v:Value}{a:List Value}(h:jb w S bs e b v n a)(k:Kept (λ_=>False) w w'):jb w' S bs e b v n a:=⟨k.owns h.row nF,h.far⟩
theorem jb.aft{e:TypeId}{b n:Nat}{v:Value}{d:List Value}(h:jb w S bs e b v n d)(c:xm M w w' bd bs S S' D D' most (some bd)):jb w' S' bs e b v n d:=
 ⟨c.kept.owns h.row (λk a f=>f.elim (h.far k a).1 (h.far k a).2),λk a=>⟨(xm.far c (h.row.lt k a).2 (h.far k a).1 (h.far k a).2).2,(h.far k a).2⟩⟩
def fQ(V:zP)(key:ByteArray):Int:=yF true (zO V.vs key)
def gm(V:zP)(key:ByteArray):Int:=match zO V.vs key with
 |some u=>if u.mark then 0 else u.num
 |none=>0
def vj(V:zP)(key:ByteArray):List UInt8:=match zO V.vs key with
 |some u=>if u.mark then [] else u.body
 |none=>[]
structure bY (w:World) (S:Nat->Prop) (bs:Nat) (a:Option Addr) (cap:Nat) (l:List UInt8):Prop where
 row:l=[]\/jb w S bs 5 1 (.slice a l.length cap) l.length (l.map qk)
theorem bY.keep(h:bY w S bs a cap l)(k:Kept (λ_=>False) w w'):bY w' S bs a cap l:=⟨h.row.imp id (λh=>h.keep k)⟩
theorem bY.aft(h:bY w S bs a cap l)(b:xm M w w' bd bs S S' D D' most (some bd)):bY w' S' bs a cap l:=⟨h.row.imp id (λh=>h.aft b)⟩
theorem bY.bytes(h:bY w S bs a cap l):zu w (λ_=>True) a l:=by
 rcases h.row with h|h;.exact .inl h
 .exact zu.of_own 5 h.row rfl _ (λ_ _=>eR)
theorem bZ(A:jp M)(h:xH M w0 w bp bd bs O S D V)(z:D.reads<=1000000000000)(c:ByteArray)(l:zh c.data.toList=true):
 Calls Tryz.prog 26 #[.pointer (some ⟨bs,0,none⟩),.string c] w λe w'=>∃S' D' a cap,e=.returned (.tuple #[.slice a (vj V c).length cap,.int .i64 (gm V c),.int .i64 (fQ V c)])/\xm M w w' bd bs S S' D D' 40 (some bd)/\xH M w0 w' bp bd bs O S' D' V/\D'.reads<=D.reads+40/\bY w' S' bs a cap (vj V c):=by
 have y:=jr l;refine(A.live w bd bs S D V c h.fore (by unfold maxLen;omega)).mono ?_;rintro e w' ⟨D',B,n,S',rfl,g,s,b,t,f,i⟩;rw [l] at b f i ⊢;have o:=h.aft g s (by have:=g.reads1;omega) h.fore.few;have hbs:=h.bs_lt
 cases d:zO V.vs c with
 |none=>
  rw [d] at b f;obtain⟨a,cap,rfl⟩:=b.2 (by decide);obtain rfl:=f (by decide);refine⟨S',D',a,cap,?_,g,o,g.reads1,⟨.inl ?_⟩⟩;.unfold vj gm fQ;rw [d];rfl
  .unfold vj;rw [d]
 |some u=>
  rw [d] at b f i
  cases j:u.mark with
  |true=>
   have m:yF true (some u)=5:=by show cond u.mark 5 0=5;rw [j];rfl
   rw [m] at b f ⊢;obtain⟨a,cap,rfl⟩:=b.2 (by decide);obtain rfl:=f (by decide);refine⟨S',D',a,cap,?_,g,o,g.reads1,⟨.inl ?_⟩⟩;.unfold vj gm fQ;rw [d];simp only [j,if_true,m];rfl
   .unfold vj;rw [d];simp only [j,if_true]
  |false=>
   have m:yF true (some u)=0:=by show cond u.mark 5 0=0;rw [j];rfl
   rw [m] at b i ⊢;obtain⟨u',r,a,cap,rfl,p,q⟩:=b.1 rfl;obtain rfl:u=u':=by simpa using r
   have v:=i u rfl rfl;subst v;have x:vj V c=u.body:=by unfold vj;rw [d];simp [j]
   rw [x];refine⟨S',D',a,cap,?_,g,o,g.reads1,⟨.inr ⟨p,λk l=>⟨t k l,by have:=q k l;omega⟩⟩⟩⟩;unfold gm fQ;rw [d];simp [j,m]
theorem Vu(A:qx M)(u:∀f,M.Fu f->f≠0)(h:xH M w0 w bp bd bs O S D V)(F:D.reads<=1000000000000)(B:V.n0<=1000000)(C:weight V.vs<=480)(b:ByteArray)(p:zh b.data.toList=true)(P:Nat->Prop)(a:Option Addr)(c:Nat)(l:List UInt8)(v:zu w P a l)(x:∀k,P k->¬S k/\k≠bs)(E:l.length<=300)(y:l.length<=c)(m:c<=9223372036854775807):
 Calls Tryz.prog 27 #[.pointer (some ⟨bs,0,none⟩),.string b,.slice a l.length c] w λe w'=>∃S' D',e=.returned (.tuple #[.int .i64 (V.n0+1),.int .i64 0])/\xm M w w' bd bs S S' D D' 40 (some bd)/\xH M w0 w' bp bd bs O S' D' (V.add b false l)/\D'.reads<=D.reads+40:=by
 have z:=jr p;refine(A.live w bd bs S P D V b a c l h.fore (by unfold maxLen;omega) v x (by omega) y m).mono ?_;rintro e w' ⟨D',S',t,n,q,rfl,d,j,o⟩;have s:ue (zh b.data.toList) l.length=0:=by rw [p];show (if 300<l.length then (3:Int) else 0)=0;rw [az (by omega)]
 have i:xP V.vs (qd l.length) D.bs.length=true:=by unfold xP qd;rw [h.size];refine aG ?_;omega
 obtain⟨rfl,rfl,g⟩:t=0/\q=some bd/\M.Live D' (V.add b false l):=by
  rcases j.is with h|h|h|h;.exact absurd s h.1
  .exact h.2
  .rw [i] at h;exact absurd h.2.2.2.2 (by simp)
  .exact absurd h.2.2.2.1 (u _ d.fuse)
 rw [aB rfl] at o;subst o;have r:V.n0+1<=2305843009213693952:=by omega
 exact⟨S',D',rfl,d,h.aft d g (by have:=d.reads1;omega) r,d.reads1⟩
theorem Bz(A:x8 M)(p:∀f,M.Fu f->f≠0)(h:xH M w0 w bp bd bs O S D V)(u:D.reads<=1000000000000)(s:V.n0<=1000000)(t:weight V.vs<=480)(a:ByteArray)(k:zh a.data.toList=true)(c:kB V.vs a=false):
 Calls Tryz.prog 30 #[.pointer (some ⟨bs,0,none⟩),.string a] w λe w'=>∃S' D',e=.returned (.tuple #[.int .i64 (V.n0+1),.int .i64 0])/\xm M w w' bd bs S S' D D' 40 (some bd)/\xH M w0 w' bp bd bs O S' D' (V.add a true [])/\D'.reads<=D.reads+40:=by
 have r:=jr k;refine(A.live w bd bs S D V a h.fore (by unfold maxLen;omega)).mono ?_;rintro e w' ⟨D',S',o,n,q,rfl,b,i,j⟩;have m:ye (zh a.data.toList) (kB V.vs a)=0:=by rw [k,c];rfl
 have g:xP V.vs 1 D.bs.length=true:=by unfold xP;rw [h.size];refine aG ?_;omega
 obtain⟨rfl,rfl,d⟩:o=0/\q=some bd/\M.Live D' (V.add a true []):=by
  rcases i.is with h|h|h|h;.exact absurd m h.1
  .exact h.2
  .rw [g] at h;exact absurd h.2.2.2.2 (by simp)
  .exact absurd h.2.2.2.1 (p _ b.fuse)
 rw [aB rfl] at j;subst j;have l:V.n0+1<=2305843009213693952:=by omega
 exact⟨S',D',rfl,b,h.aft b d (by have:=b.reads1;omega) l,b.reads1⟩
theorem YE(A:qr M)(p:∀f,M.Fu f->f≠0)(h:xH M w0 w bp bd bs O S D V)(y:D.reads<=1000000000000)(u:V.n0<=1000000)(x:weight V.vs<=480)(a:ByteArray)(l:zh a.data.toList=true)(b:Int)(k:zs b)(d:∃v∈V.vs,v.key=a/\v.num=b):
 Calls Tryz.prog 31 #[.pointer (some ⟨bs,0,none⟩),.string a,.int .i64 b] w λe w'=>∃S' D',e=.returned (.int .i64 0)/\xm M w w' bd bs S S' D D' 40 (some bd)/\xH M w0 w' bp bd bs O S' D' (V.sub a b)/\D'.reads<=D.reads+40:=by
 have t:=jr l;refine(A.live w bd bs S D V a b h.fore (by unfold maxLen;omega) k).mono ?_;rintro e w' ⟨D',S',o,q,rfl,c,j⟩
 have m:QX (zh a.data.toList) (qK V.vs a b)=0:=by
  rw [l]
  cases n:qK V.vs a b with
  |none=>obtain⟨v,r,s⟩:=d;exact absurd s (jY n v r)
  |some v=>rfl
 have i:xP V.vs 0 D.bs.length=true:=by unfold xP;rw [h.size];refine aG ?_;omega
 obtain⟨rfl,rfl,g⟩:o=0/\q=some bd/\M.Live D' (V.sub a b):=by
  rcases j.is with h|h|h|h;.exact absurd m h.1
  .exact h.2
  .rw [i] at h;exact absurd h.2.2.2.2 (by simp)
  .exact absurd h.2.2.2.1 (p _ c.fuse)
 exact⟨S',D',rfl,c,h.aft c g (by have:=c.reads1;omega) (by show V.n0<=_;omega),c.reads1⟩
theorem Js(A:yg M)(h:xH M w0 w bp bd bs O S D V)(o:D.reads<=1000000000000)(g:V.vs.length<=1000)(m:Nat)(p:1<=m)(n:m<=50):
 Calls Tryz.prog 20 #[.pointer (some ⟨bs,0,none⟩),.string ⟨#[]⟩,.int .i64 (m:Int)] w λe w'=>∃S' D' a c f,e=.returned (.tuple #[.slice a f.length c,.bool true])/\xm M w w' bd bs S S' D D' 2000000 (some bd)/\xH M w0 w' bp bd bs O S' D' V/\D'.reads<=D.reads+2000000/\qB V.vs ByteArray.empty ByteArray.empty 0 f/\jb w' S' bs 94 4 (.slice a f.length c) f.length (law.zJ f):=by
 refine(jC M A w bd bs S D V h.fore ⟨#[]⟩ (.inl rfl) (by decide) m p n g o).mono ?_;rintro e w' ⟨D',S',a,c,f,rfl,d,l,q,i,b⟩;exact⟨S',D',a,c,f,rfl,d,h.aft d l (by have:=d.reads1;omega) h.fore.few,d.reads1,q,⟨i,λk j=>⟨(b k j).2,by have:=(b k j).1;have:=h.bs_lt;omega⟩⟩⟩
theorem yk.sit{X:Nat->Prop}{d:List (List Value)}{e:Nat->Prop}(h:yk M w X bp bd bs S D V a cap d e)(b:Kept (λ_=>False) w0 w)(c:∀k,X k->w0.heap.size<=k):xH M w0 w bp bd bs (Vt bd bs (.slice a V.vs.length cap) V.n0) S D V:=
 ⟨h.fore,h.head,h.pS,h.pb,λk b=>c k (h.xS k b),c bs h.xb,b.mono fE,h.size⟩
end
theorem ZG{V:zP}(h:law.Good V)(a:ByteArray)(b:Bool)(l:List UInt8):zO (V.add a b l).vs a=some ⟨a,V.n0+1,b,l⟩:=by
 unfold zO zP.add;rw [lN];show vk a (zO V.vs a) _=_
 cases d:zO V.vs a with
 |none=>unfold vk;simp
 |some u=>
  obtain⟨e,c,_⟩:=jc d;have:=(h.num u c).2;unfold vk;exact aB ⟨rfl,(show u.num<V.n0+1 by omega)⟩
theorem Vv{V:zP}(h:∀v∈V.vs,v.num<=V.n0)(a:ByteArray)(b:Bool)(l:List UInt8):(V.add a b l).sub a (V.n0+1)=⟨V.vs,V.n0+1⟩:=by
 unfold zP.add zP.sub qF;simp only [lK];congr 1;rw [eT.2 (λv c=>by have:=h v c;simp;exact .inr (by omega))];simp
end keep
end Go.Proofs.YtcoengihaobddaaGreatDoor
