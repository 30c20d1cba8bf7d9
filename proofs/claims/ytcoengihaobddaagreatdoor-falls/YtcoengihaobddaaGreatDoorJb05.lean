/- Part 5 of 36 of a proof: Book2, Book3, Append2, Book4, Lent, Law1 -/
import Derived.Test.YtcoengihaobddaaGreatDoorJb04
import Derived.Deep.RegionWith
import Derived.Lib.SliceRun
set_option maxHeartbeats 8000000
set_option linter.unusedVariables false
set_option linter.unusedSimpArgs false
set_option maxRecDepth 8000
namespace Go.Proofs.YtcoengihaobddaaGreatDoor
namespace book
open Go.ChangeShapes Go.WideShapes Go.ChangeAt Go.RowKit disk ref
open keys (zh zd zx zq)
variable {w w':World}{F T:Nat->Prop}{v l b:Value}{m:Nat->Int}{g cap bp:Nat}{a:Option Addr}
structure xU where
 g:Nat
 ss:List (Option Addr×Nat×Nat)
 P:Nat->Prop
def xU.val(e:xU):Value:=.slice (some ⟨e.g,0,none⟩) e.ss.length 4
structure xm (w:World) (F:Nat->Prop) (v:Value) (es:List xU) (m:Nat->Int):Prop where
 row:w.ownsRow 0 179 1 v es.length (es.map xU.val)
 lets:∀i (hi:i<es.length),xH w es[i].P es[i].g es[i].ss
 are:∀i (hi:i<es.length),xH.Are w es[i].ss (.int .u8 (m i))
 apart:∀i j (hi:i<es.length) (hj:j<es.length),i≠j->∀k,es[i].P k->¬es[j].P k/\k≠es[j].g
 row2:∀i (hi:i<es.length) k,es[i].P k->v.ownBlock≠some k
 foot:∀i (hi:i<es.length),F es[i].g/\∀k,es[i].P k->F k
 foot2:∀k,v.ownBlock=some k->F k
theorem xm.kept{d:List xU}(h:xm w F v d m)(k:za T w w')(b:∀i,F i->¬T i):xm w' F v d m:=
 ⟨k.owns h.row (λi a=>b i (h.foot2 i a)),λi a=>(h.lets i a).kept k (λj c=>b j ((h.foot i a).2 j c)) (b _ (h.foot i a).1),
  λi a=>(h.are i a).kept (h.lets i a) k (λj c=>b j ((h.foot i a).2 j c)),h.apart,h.row2,h.foot,h.foot2⟩
theorem xm.cell{a:List xU}(h:xm w F (.slice (some ⟨g,0,none⟩) a.length cap) a m)(i:Nat)(b:i<a.length):w.cell? ⟨g,i,none⟩=some (.slice (some ⟨a[i].g,0,none⟩) a[i].ss.length 4):=by
 have:=h.row.cells (g:=g) rfl i a[i].val (by simp [b]);rw [eO] at this;simpa [xU.val] using this
theorem xm.rowAt{b:List xU}(h:xm w F (.slice a b.length cap) b m)(j:0<b.length):∃g,a=some ⟨g,0,none⟩:=by
 rcases h.row.2 with⟨f,i⟩|⟨g,c,e,d,_⟩;.omega
 .cases d;exact⟨g,rfl⟩
theorem xm.wrote{b:List xU}(h:xm w F v b m)(i:Nat)(d:i<b.length)(z:Int)(o:xH w' b[i].P b[i].g b[i].ss)(n:xH.Are w' b[i].ss (.int .u8 z))(k:za b[i].P w w')
 (f:Nat->Int) (q:f i=z) (l:∀j,j≠i->f j=m j):xm w' F v b f:=by
 refine⟨k.owns h.row (λj a c=>h.row2 i d j c a),λj a=>?_,λj a=>?_,h.apart,h.row2,h.foot,h.foot2⟩
 .by_cases e:j=i;.subst e;exact o
  .exact(h.lets j a).kept k (λp g c=>(h.apart i j d a (iw e) p c).1 g) (λc=>(h.apart i j d a (iw e) _ c).2 rfl)
 .by_cases e:j=i;.subst e;rw [q];exact n
  .rw [l j e];exact(h.are j a).kept (h.lets j a) k (λp g c=>(h.apart i j d a (iw e) p c).1 g)
structure yk (w:World) (bp:Nat) (l a b:Value):Prop where
 head:w.heap[bp]? =some (.cells #[l,a,b] 79 (0,0))
theorem yk.c{a:Value}(h:yk w bp l a b):w.cell? ⟨bp,0,none⟩=some l/\w.cell? ⟨bp,1,none⟩=some a/\w.cell? ⟨bp,2,none⟩=some b/\∀i,w.frozen? ⟨bp,i,none⟩=false:=
 ⟨cR h.head rfl,cR h.head rfl,cR h.head rfl,λi=>aa w bp i _ _ h.head⟩
theorem yk.lt{a:Value}(h:yk w bp l a b):bp<w.heap.size:=(lT h.head)
theorem yk.kept{a:Value}(h:yk w bp l a b)(k:za T w w')(c:¬T bp):yk w' bp l a b:=⟨(k.block bp h.lt c).trans h.head⟩
theorem xm.marks{a:List xU}{b:Nat->Int}(h:xm w F v a m)(d:∀i,i<a.length->m i=b i):xm w F v a b:=
 ⟨h.row,h.lets,λi c=>by rw [<-d i c];exact h.are i c,h.apart,h.row2,h.foot,h.foot2⟩
theorem Zv(i d:Nat):0<=vM i d/\vM i d<=255:=by
 unfold vM;have:=Nat.mod_lt (i/251^d) (show 0<251 by omega);omega
theorem dA(w:World)(bp:Nat)(l b:Value)(F:Nat->Prop)(a:Option Addr)(cap:Nat)(c:List xU)(n:yk w bp l (.slice a c.length cap) b)(hF:¬F bp)(h:xm w F (.slice a c.length cap) c (λi=>vM i 0))(O:c.length<=4398046511104):
 Calls Tryz.prog 64 #[.pointer (some ⟨bp,1,none⟩)] w λe w'=>e=.returned (.bool true)/\xm w' F (.slice a c.length cap) c (λi=>vM i 0)/\za F w w':=by
 have P:Hid _:=h;have Q:Hid _:=n;clear h n;go_enter Tryz.func64,Tryz.ntmps64;go_wp2;go_loopw [3] (λt wr=>∃k:Nat,k<=c.length/\t=.int .i64 k/\xm wr F (.slice a c.length cap) c (λi=>vM i 0)/\yk wr bp l (.slice a c.length cap) b/\za F w wr) (λt _=>c.length-(intOf t).toNat)
 case atStart=>exact⟨0,aj _,rfl,P,Q,za.refl _ _⟩
 case round=>
  obtain⟨k,W,rfl,o,n,f⟩:=hrel;have v:Hid _:=o;have A:Hid _:=n;have M:Hid _:=f;have D:=n.c.2.1;clear o n f;by_cases x:k<c.length
  .obtain⟨g,rfl⟩:=v.rowAt (by omega);have E:=v.cell k x;go_wp2
   go_quiet ((first
    |(go_at_call 112;exact Calls.quiet_of_same (vu _ _ _ (by omega) (by omega) (by omega) (by omega)))
    |(go_at_call 111;exact Calls.quiet_of_same (qD _ c[k].P c[k].g 4 c[k].ss (by exact(v.lets k x).kept (T:=λ_=>False) (kD) nF (λr=>r)) _ (by exact(v.are k x).kept (v.lets k x) (T:=λ_=>False) (kD) nF)))))
   go_wp2;go_roundw
   case rel=>exact⟨k+1,by omega,by go_num,v.kept (T:=λ_=>False) kD nF,A.kept (T:=λ_=>False) kD (λr=>r),M.trans (S':=λ_=>False) kD fE⟩
   case measure=>simp [intOf];omega
  .go_wp2;go_loopw [5] (λt wr=>∃(d:Int) (m:Nat->Int), -1<=d/\d<=2/\t=.int .i64 d/\xm wr F (.slice a c.length cap) c m/\(d= -1->∀i,i<c.length->m i=vM i 0)/\yk wr bp l (.slice a c.length cap) b/\za F w wr) (λt _=>(intOf t+1).toNat)
   case atStart=>exact⟨2,_,by omega,by omega,rfl,v,λh=>by omega,A,M⟩
   case round=>
    obtain⟨d,m,R,S,rfl,o,N,n,f⟩:=hrel;have J:Hid _:=o;have L:Hid _:=n;have I:Hid _:=f;change Hid _ at N;clear o n f;by_cases V:0<=d
    .go_wp2;go_loopw [6] (λt wr=>∃(j:Nat),j<=c.length/\t=.int .i64 j/\xm wr F (.slice a c.length cap) c (λi=>if i<j then vM i d.toNat else m i)/\yk wr bp l (.slice a c.length cap) b/\za F w wr) (λt _=>c.length-(intOf t).toNat)
     case atStart=>exact⟨0,aj _,rfl,J.marks (λi z=>by simp),L,I⟩
     case round=>
      obtain⟨j,Y,rfl,o,n,f⟩:=hrel;have s:Hid _:=o;have G:Hid _:=n;have C:Hid _:=f;have D:=n.c.2.1;clear o n f;by_cases p:j<c.length
      .obtain⟨g,rfl⟩:=s.rowAt (by omega);have E:=s.cell j p;go_wp2
       go_region_with ((first
        |(go_at_call 112;refine(vu _ _ _ (by omega) (by omega) (by omega) (by omega)).mono ?_;rintro e w' ⟨rfl,rfl⟩)
        |(go_at_call 113;refine(yT _ c[j].P c[j].g 4 c[j].ss (by exact(s.lets j p).kept (T:=λ_=>False) kD nF (λr=>r)) _ (by exact(Zv _ _).1) (by exact(Zv _ _).2)).mono ?_;rintro e U ⟨rfl,H,B,y⟩;change Hid _ at H B y)))
       all_goals
        go_wp2;go_roundw
        case rel=>
         refine⟨j+1,by omega,by go_num,(s.kept (za.drew (λ_=>False) wr) nF).wrote j p _ H B y _ (by simp) (λi z=>?_),(G.kept (za.drew (λ_=>False) wr) (λr=>r)).kept y (λK=>hF ((s.foot j p).2 _ K)),
          (C.trans (za.drew (λ_=>False) wr) fE).trans y (λi K=>.inl ((s.foot j p).2 _ K))⟩
         have e:(i<j+1)=(i<j):=propext (by omega);simp only [e]
        case measure=>simp [intOf];omega
      .go_wp2;go_loopw [7] (λt wr=>∃(q:Nat),q<=c.length/\t=.int .i64 q/\xm wr F (.slice a c.length cap) c (λi=>vM i d.toNat)/\yk wr bp l (.slice a c.length cap) b/\za F w wr) (λt _=>c.length-(intOf t).toNat)
       case atStart=>exact⟨0,aj _,rfl,s.marks (λi z=>by rw [aB (by omega)]),G,C⟩
       case round=>
        obtain⟨q,X,rfl,o,n,f⟩:=hrel;have D:=n.c.2.1;change Hid _ at o n f;by_cases u:q<c.length
        .obtain⟨g,rfl⟩:=o.rowAt (by omega);have E:=o.cell q u;go_wp2
         go_quiet ((first
          |(go_at_call 112;exact Calls.quiet_of_same (vu _ _ _ (by omega) (by omega) (by omega) (by omega)))
          |(go_at_call 111;exact Calls.quiet_of_same (qD _ c[q].P c[q].g 4 c[q].ss (by exact(o.lets q u).kept (T:=λ_=>False) (kD) nF (λr=>r)) _ (by exact(o.are q u).kept (o.lets q u) (T:=λ_=>False) (kD) nF)))))
         go_wp2;go_roundw
         case rel=>exact⟨q+1,by omega,by go_num,o.kept (T:=λ_=>False) kD nF,n.kept (T:=λ_=>False) kD (λr=>r),f.trans (S':=λ_=>False) kD fE⟩
         case measure=>simp [intOf];omega
        .go_wp2;go_roundw
         case rel=>exact⟨d-1,_,by omega,by omega,rfl,o,λh i z=>by rw [show d.toNat=0 from by omega],n,f⟩
         case measure=>simp [intOf];omega
    .go_wp2;go_ret;exact⟨rfl,J.marks (λi z=>N (by omega) i z),I⟩
def fA:ByteArray:=⟨#[40,109,105,110,101,41]⟩
def yr(i:Nat):List Value:=[.string fA,.int .i64 (i:Int),.bool false,.int .i64 0]
structure Qr (w:World) (P:Nat->Prop) (g:Nat) (ss:List (Option Addr×Nat×Nat)) (i:Nat):Prop where
 head:w.heap[g]? =some (.cells (ss.map gx).toArray 44 (0,0))
 are:∀s∈ss,∀j,j<s.2.1->∃b,s.1=some ⟨b,0,none⟩/\P b/\b<w.heap.size/\w.rangeAt b (j*4) (yr i)
 few:∀s∈ss,s.2.1<=9223372036854775807
 len:ss.length<=100
theorem Qr.kept{P:Nat->Prop}{c:List (Option Addr×Nat×Nat)}{i:Nat}(h:Qr w P g c i)(k:za T w w')(p:∀i,P i->¬T i)(e:¬T g):Qr w' P g c i:=
 ⟨(k.block g (lT h.head) e).trans h.head,λs f j n=>by
   obtain⟨b,m,h2,d,o⟩:=h.are s f j n
   exact⟨b,m,h2,ay d k.size,λt v l=>(k.cell (a:=⟨b,j*4+t,none⟩) d (p b h2)).trans (o t v l)⟩,h.few,h.len⟩
theorem Qr.cell{P:Nat->Prop}{a:List (Option Addr×Nat×Nat)}{q:Nat}(h:Qr w P g a q)(i:Nat)(b:i<a.length):w.cell? ⟨g,i,none⟩=some (.slice a[i].1 a[i].2.1 a[i].2.2):=by
 rw [aG w g i _ _ _ h.head];simp [b,gx]
structure fB (w:World) (F:Nat->Prop) (v:Value) (es:List xU):Prop where
 row:w.ownsRow 0 129 1 v es.length (es.map xU.val)
 vets:∀i (hi:i<es.length),Qr w es[i].P es[i].g es[i].ss i
 foot:∀i (hi:i<es.length),F es[i].g/\∀k,es[i].P k->F k
 foot2:∀k,v.ownBlock=some k->F k
 row2:∀i (hi:i<es.length) k,es[i].P k->v.ownBlock≠some k
theorem fB.kept{c:List xU}(h:fB w F v c)(k:za T w w')(b:∀i,F i->¬T i):fB w' F v c:=
 ⟨k.owns h.row (λi a=>b i (h.foot2 i a)),λi a=>(h.vets i a).kept k (λj d=>b j ((h.foot i a).2 j d)) (b _ (h.foot i a).1),h.foot,h.foot2,h.row2⟩
theorem fB.cell{a:List xU}(h:fB w F (.slice (some ⟨g,0,none⟩) a.length cap) a)(i:Nat)(b:i<a.length):w.cell? ⟨g,i,none⟩=some (.slice (some ⟨a[i].g,0,none⟩) a[i].ss.length 4):=by
 have:=h.row.cells (g:=g) rfl i a[i].val (by simp [b]);rw [eO] at this;simpa [xU.val] using this
theorem fB.rowAt{b:List xU}(h:fB w F (.slice a b.length cap) b)(j:0<b.length):∃g,a=some ⟨g,0,none⟩:=by
 rcases h.row.2 with⟨f,i⟩|⟨g,c,e,d,_⟩;.omega
 .cases d;exact⟨g,rfl⟩
structure xq (w:World) (bp:Nat) (l:Value) (F H:Nat->Prop) (a b:Option Addr) (ca cb:Nat) (es vs:List xU):Prop where
 head:yk w bp l (.slice a es.length ca) (.slice b vs.length cb)
 bytes:xm w F (.slice a es.length ca) es (λi=>vM i 0)
 rows:fB w H (.slice b vs.length cb) vs
 fbp:¬F bp
 hbp:¬H bp
 apart:∀k,F k->¬H k
 few:es.length<=4398046511104
 few2:vs.length<=4398046511104
 flt:∀k,F k->k<w.heap.size
 hlt:∀k,H k->k<w.heap.size
theorem xq.kept{j:Nat->Prop}{b:Option Addr}{e d:Nat}{f vs:List xU}(h:xq w bp l F j a b e d f vs)(k:za T w w')(hF:∀i,F i->¬T i)(m:∀i,j i->¬T i)(g:¬T bp):xq w' bp l F j a b e d f vs:=
 ⟨h.head.kept k g,h.bytes.kept k hF,h.rows.kept k m,h.fbp,h.hbp,h.apart,h.few,h.few2,λi c=>ay (h.flt i c) k.size,λi c=>ay (h.hlt i c) k.size⟩
theorem JY(w:World)(bp:Nat)(l:Value)(F D:Nat->Prop)(a b:Option Addr)(s u:Nat)(q vs:List xU)(h:xq w bp l F D a b s u q vs):
 Calls Tryz.prog 38 #[.pointer (some ⟨bp,1,none⟩)] w λe w'=>e=.returned (.bool true)/\xq w' bp l F D a b s u q vs/\za F w w':=by
 have I:Hid _:=h;have K:=h.few2;clear h;go_enter Tryz.func38,Tryz.ntmps38;go_wp2;go_loopw [3] (λt wr=>∃k:Nat,k<=vs.length/\t=.int .i64 k/\xq wr bp l F D a b s u q vs/\za (λ_=>False) w wr) (λt _=>vs.length-(intOf t).toNat)
 case atStart=>exact⟨0,aj _,rfl,I,za.refl _ _⟩
 case round=>
  obtain⟨k,P,rfl,f,c⟩:=hrel;have d:Hid _:=f;have E:Hid _:=c;have A:=f.head.c.2.2.1;clear f c;by_cases n:k<vs.length
  .obtain⟨g,rfl⟩:=d.rows.rowAt (by omega);have M:=(d.rows.vets k n).len;go_wp2;go_loopw [4] (λt wr=>∃i:Nat,i<=vs[k].ss.length/\t=.int .i64 i/\xq wr bp l F D a (some ⟨g,0,none⟩) s u q vs/\za (λ_=>False) w wr) (λt _=>vs[k].ss.length-(intOf t).toNat)
   case atStart=>exact⟨0,aj _,rfl,d,E⟩
   case round=>
    obtain⟨i,r,rfl,f,c⟩:=hrel;have p:Hid _:=f;have m:Hid _:=c;have A:=f.head.c.2.2.1;have G:=p.rows.cell k n;clear f c;by_cases o:i<vs[k].ss.length
    .have z:=(p.rows.vets k n).cell i o;have N:=(p.rows.vets k n).few _ (ai o);go_wp2;go_loopw [5] (λt wr=>∃j:Nat,j<=vs[k].ss[i].2.1/\t=.int .i64 j/\xq wr bp l F D a (some ⟨g,0,none⟩) s u q vs/\za (λ_=>False) w wr) (λt _=>vs[k].ss[i].2.1-(intOf t).toNat)
     case atStart=>exact⟨0,aj _,rfl,p,m⟩
     case round=>
      obtain⟨j,S,rfl,f,c⟩:=hrel;have A:=f.head.c.2.2.1;have G:=f.rows.cell k n;have z:=(f.rows.vets k n).cell i o;change Hid _ at f c;by_cases B:j<vs[k].ss[i].2.1
      .obtain⟨b',C,h2,Q,v⟩:=(f.rows.vets k n).are _ (ai o) j B;have R:wr.cell? ⟨b',j*4,none⟩=some (.string fA):=v 0 _ rfl;have O:wr.cell? ⟨b',j*4+1,none⟩=some (.int .i64 (k:Int)):=v 1 _ rfl;have T:wr.cell? ⟨b',j*4+2,none⟩=some (.bool false):=v 2 _ rfl;have U:wr.cell? ⟨b',j*4+3,none⟩=some (.int .i64 0):=v 3 _ rfl;rw [C] at z;change Hid _ at C;clear v;have H:fA.toList=[40,109,105,110,101,41]:=by rw [eC];rfl
       go_wp2;go_roundw
       case rel=>exact⟨j+1,by omega,by go_num,f.kept (za.alloc (λ_=>False) wr _) nF nF (λL=>L),c.trans (za.alloc (λ_=>False) wr _) iL⟩
       case measure=>simp [intOf];omega
      .go_wp2;go_roundw
       case rel=>exact⟨i+1,by omega,by go_num,f,c⟩
       case measure=>simp [intOf];omega
    .go_wp2;go_roundw
     case rel=>exact⟨k+1,by omega,by go_num,p,m⟩
     case measure=>simp [intOf];omega
  .go_wp2_with (go_at_call 64;refine(dA _ bp l _ F a s q d.head d.fbp d.bytes d.few).mono ?_;rintro e w' ⟨rfl,y,x⟩;have m:Hid _:=x;change Hid _ at y;clear x);go_ret;exact⟨rfl,⟨d.head.kept m d.fbp,y,d.rows.kept m (λi r J=>d.apart i J r),d.fbp,d.hbp,d.apart,d.few,d.few2,λi r=>ay (d.flt i r) m.size,λi r=>ay (d.hlt i r) m.size⟩,(E.mono fE).trans m iL⟩
end book
namespace book
open Go.RowKit disk ref
structure KV (w w':World) (e:TypeId) (size:Nat) (v:Value) (n m:Nat) (xs:List Value) (r:Value):Prop where
 keeps:w'.ownsRow 0 e size v n xs
 kept:za (λk=>v.ownBlock=some k) w w'
 res:(∃g cx,v=.slice (some ⟨g,0,none⟩) n cx/\r=.slice (some ⟨g,0,none⟩) (n+m) cx/\n+m<=cx)\/
  (∃cap cur,r=.slice (some ⟨w.heap.size,0,none⟩) (n+m) cap/\w'.heap[w.heap.size]? =some (.cells cur e (0,0))/\(n+m)*size<=cur.size)
theorem jT{P:Program}(w:World)(t B e:TypeId)(i:TypeInfo)(z:Value)(f bytes:Nat)(E:P.underlying t=some (.slice e))(D:P.info? e=some i)(M:i.zero=some z)
 (x:i.size=f) (F:i.bytes=bytes) (U:z.cells.size=f) (v:Value) (n:Nat) (xs:List Value) (b:w.ownsRow 0 e f v n xs)
 (a:Addr) (m c:Nat) (d:List Value) (p:d.length=m*f) (l:∀j u,d[j]? =some u->w.cell? (a.add j)=some u) (Q:∀u∈d,u.oneCell'=true) (V:0<m)
 (K:n+m<=maxLen) (o:(n+m)*bytes<=140737488355328):
 ∃r w',(Builtin.append_ #[t,t] B #[v,.slice (some a) m c]).run P w=.ok r w'/\KV w w' e f v n m xs r:=by
 subst x;subst F;have N:n+m<=9223372036854775807:=by simp only [maxLen] at K;omega
 rcases b.2 with⟨rfl,rfl⟩|⟨g,cap,s,rfl,I,J,H,G,L,y⟩
 .have O:xs=[]:=aY (by simpa using b.1);subst O;have q:=run_append_nil (P:=P) w t B e i z E D M a m c d p l (by omega) (by omega) (by have T:=o;simp only [eT] at T;omega);refine⟨_,_,q,aV _ _ _ _,(za.drew _ w).trans (za.alloc _ _ _) iL,.inr ⟨_,_,by rw [eT],ac w.drew _,?_⟩⟩;simp only [Array.size_append,aq,p,eT];omega
 .by_cases h:n+m<=cap
  .have C:n*i.size+d.length<=s.size:=by rw [p,L,<-eJ];exact ee _ h
   have q:=run_append_room (P:=P) w t B e i E D g n cap s J a m c d p l Q h C;refine⟨_,_,q,⟨b.1,.inr ⟨g,cap,_,rfl,I,setRow_heap w g s _ e _ J,H,G,?_,?_⟩⟩,⟨rfl,rfl,rfl,by simp,λk _ R=>setRow_other w g k _ (λe=>R (by simp [Value.ownBlock,e]))⟩,.inl ⟨g,cap,rfl,rfl,h⟩⟩
   .simp only [aq,ag,aC,aS,ik];omega
   .rw [iQ,y,ak,<-b.1];exact iE
  .have A:∀j u,xs[j]? =some u->w.cell? ((⟨g,0,none⟩:Addr).add j)=some u:=b.cells (g:=g) rfl;have q:=run_append_grow (P:=P) w t B e i z E D M ⟨g,0,none⟩ n cap xs b.1 A a m c d p l (by omega) (by omega) (growslice_fits (by omega) o);have k:∀S:Nat->Prop,za S w (w.drew.alloc (.cells (xs.toArray++d.toArray++Builtin.zeroCells z.cells (grownCap w (n+m) cap e-(n+m))) e)):=λS=>(za.drew _ w).trans (za.alloc _ _ _) iL;refine⟨_,_,q,(k (λ_=>False)).owns b nF,k _,.inr ⟨_,_,rfl,ac w.drew _,?_⟩⟩;simp only [Array.size_append,aq,p,b.1,eJ];omega
theorem y9{P:Program}{w:World}{l:Array Oper}{rest:List Oper}{y:Oper}{a:Act}{Q:Exit->Act->World->Prop}(B:y.guard=none)(s N:Operand)(t:TypeId)
 (K:y.op=.call {callee:=.builtin .append,args:=#[s,N],argTypes:=#[t,t] })
 (e:TypeId) (i:TypeInfo) (z:Value) (b bytes:Nat) (L:P.underlying t=some (.slice e)) (J:P.info? e=some i) (M:i.zero=some z)
 (g:i.size=b) (q:i.bytes=bytes) (x:z.cells.size=b) (v:Value) (n:Nat) (xs:List Value) (C:a.eval s=v) (p:w.ownsRow 0 e b v n xs)
 (o:Addr) (m c:Nat) (d:List Value) (D:a.eval N=.slice (some o) m c) (H:d.length=m*b) (k:∀j u,d[j]? =some u->w.cell? (o.add j)=some u) (E:∀u∈d,u.oneCell'=true) (G:0<m)
 (A:n+m<=maxLen) (f:(n+m)*bytes<=140737488355328)
 (h:∀r w',KV w w' e b v n m xs r->wpList P l Q rest (a.put y.dst r) w'):wpList P l Q (y::rest) a w:=by
 refine md B λO I=>?_;obtain⟨r,w',F,h2⟩:=jT (P:=P) w t y.type e i z b bytes L J M g q x v n xs p o m c d H k E G A f;unfold Oper.wp execOp;simp only [K,resolve,invoke,builtin,ie,iI,eD,li,aO,ig,C,D,F];exact I _ _ (h r w' h2)
theorem KV.form{w w':World}{e:TypeId}{b:Nat}{v:Value}{n m:Nat}{xs:List Value}{r:Value}(h:KV w w' e b v n m xs r):∃g c,r=.slice (some ⟨g,0,none⟩) (n+m) c/\
 ((v=.slice (some ⟨g,0,none⟩) n c/\n+m<=c)\/(g=w.heap.size/\∃a,w'.heap[g]? =some (.cells a e (0,0))/\(n+m)*b<=a.size)):=by
 rcases h.res with⟨g,i,d,h2,f⟩|⟨cap,a,d,h2,f⟩;.exact⟨g,i,h2,.inl ⟨d,f⟩⟩
 .exact⟨w.heap.size,cap,d,.inr ⟨rfl,a,h2,f⟩⟩
end book
namespace book
open Go.ChangeShapes Go.WideShapes Go.ChangeAt Go.RowKit disk ref
open keys (zh zd zx zq)
variable {w:World}{n:Nat}{xs:List Value}
theorem Tryz.infoLetters:(Tryz.prog.info? 179).map (λi=>(i.zero,i.size,i.bytes))=some (some (.slice none 0 0),1,24):=by kernel_rfl
theorem gw.of_own{b:Nat}{a:Option Addr}{cap:Nat}{t:TypeId}(h:w.ownsRow b t 1 (.slice a n cap) n xs)(P:Nat->Prop)(i:∀k,(Value.slice a n cap).ownBlock=some k->P k):gw w P t a n:=by
 rcases h.2 with⟨m,c⟩|⟨g,j,d,f,l,e,c,h2,p,o⟩;.exact .inl c
 .cases f;exact .inr ⟨g,d,rfl,i g rfl,e,by omega⟩
theorem KV.room{w' b:World}{e:TypeId}{v:Value}{m:Nat}{g c:Nat}(h:(v=.slice (some ⟨g,0,none⟩) n c/\n+m<=c)\/(g=w.heap.size/\∃a,w'.heap[g]? =some (.cells a e (0,0))/\(n+m)*1<=a.size))
 (f:b.ownsRow 0 e 1 v n xs) (l:za (λk=>v.ownBlock=some k) w' b) (p:∀k,v.ownBlock=some k->k<w.heap.size) (P:Nat->Prop) (q:∀k,v.ownBlock=some k->P k) (r:∀k,w.heap.size<=k->k<b.heap.size->P k):gw b P e (some ⟨g,0,none⟩) (n+m):=by
 rcases h with⟨rfl,h2⟩|⟨rfl,a,j,h2⟩
 .rcases f.2 with⟨u,_⟩|⟨y,t,a,i,_,o,A,z,x,_⟩;.cases u
  .cases i;exact .inr ⟨g,a,rfl,q g rfl,o,by omega⟩
 .have d:=(lT j);refine .inr ⟨w.heap.size,a,rfl,r _ (aF _) (ay d l.size),(l.block _ d (λs=>?_)).trans j,by omega⟩;have:=p _ s;omega
theorem UH{f g e:World}{c:Option Addr}{b:Nat}{v y t:Obj}{i j l p o m:Nat}(C:w.ownsRow 0 5 1 (.slice c n b) n xs)(J:n<=1000)
 (D:KV (w.alloc v) f 5 1 (.slice c n b) n 1 xs (.slice (some ⟨i,0,none⟩) (n+1) p)) (E:(Value.slice c n b=.slice (some ⟨i,0,none⟩) n p/\n+1<=p)\/(i=(w.alloc v).heap.size/\∃d,f.heap[i]? =some (.cells d 5 (0,0))/\(n+1)*1<=d.size))
 (h2:KV (f.alloc y) g 5 1 (.slice c n b) n 2 xs (.slice (some ⟨j,0,none⟩) (n+2) o)) (G:(Value.slice c n b=.slice (some ⟨j,0,none⟩) n o/\n+2<=o)\/(j=(f.alloc y).heap.size/\∃d,g.heap[j]? =some (.cells d 5 (0,0))/\(n+2)*1<=d.size))
 (r:KV (g.alloc t) e 5 1 (.slice c n b) n 3 xs (.slice (some ⟨l,0,none⟩) (n+3) m)) (F:(Value.slice c n b=.slice (some ⟨l,0,none⟩) n m/\n+3<=m)\/(l=(g.alloc t).heap.size/\∃d,e.heap[l]? =some (.cells d 5 (0,0))/\(n+3)*1<=d.size)):
 xH (e.alloc (.cells #[.slice c n b,.slice (some ⟨i,0,none⟩) (n+1) p,.slice (some ⟨j,0,none⟩) (n+2) o,.slice (some ⟨l,0,none⟩) (n+3) m] 35)) (λk=>(Value.slice c n b).ownBlock=some k\/(w.heap.size<=k/\k<e.heap.size)) e.heap.size
  [(c,n,b),(some ⟨i,0,none⟩,n+1,p),(some ⟨j,0,none⟩,n+2,o),(some ⟨l,0,none⟩,n+3,m)]/\za (λk=>(Value.slice c n b).ownBlock=some k) w e:=by
 have u:∀k,(Value.slice c n b).ownBlock=some k->k<w.heap.size:=λk a=>(C.lt k a).2;have k1:za (λk=>(Value.slice c n b).ownBlock=some k) w f:=(za.alloc _ w v).trans D.kept iL;have k2:za (λk=>(Value.slice c n b).ownBlock=some k) f g:=(za.alloc _ f y).trans h2.kept iL;have k3:za (λk=>(Value.slice c n b).ownBlock=some k) g e:=(za.alloc _ g t).trans r.kept iL;have z:=k2.trans k3 iL;have A:=k1.trans z iL;have B:=za.alloc (λ_=>False) e (.cells #[.slice c n b,.slice (some ⟨i,0,none⟩) (n+1) p,.slice (some ⟨j,0,none⟩) (n+2) o,.slice (some ⟨l,0,none⟩) (n+3) m] 35);have H:=k1.size;have M:=k2.size;have L:=k3.size;refine⟨⟨ac e _,λs q=>?_,λx=>?_,λs q=>?_,by simp⟩,A⟩
 .have K:(w.alloc v).heap.size=w.heap.size+1:=by simp
  have I:(f.alloc y).heap.size=f.heap.size+1:=by simp
  have N:(g.alloc t).heap.size=g.heap.size+1:=by simp
  simp only [ar,ic,or_false] at q;refine gw.kept ?_ B nF;rcases q with rfl|rfl|rfl|rfl;.exact gw.of_own r.keeps _ (λk a=>.inl a)
  .exact KV.room E r.keeps z (λk a=>by have:=u k a;omega) _ (λk a=>.inl a) (λk a h=>.inr ⟨by omega,h⟩)
  .exact KV.room G r.keeps k3 (λk a=>by have:=u k a;omega) _ (λk a=>.inl a) (λk a h=>.inr ⟨by omega,h⟩)
  .exact KV.room F r.keeps (za.refl _ _) (λk a=>by have:=u k a;omega) _ (λk a=>.inl a) (λk a h=>.inr ⟨by omega,h⟩)
 .rcases x with x|x;.have:=u _ x;omega
  .omega
 .simp only [ar,ic,or_false] at q;rcases q with rfl|rfl|rfl|rfl<;>simp<;>omega
theorem xq.push{x:World}{bp:Nat}{l:Value}{F R:Nat->Prop}{a b:Option Addr}{s W:Nat}{f vs:List xU}(h:xq w bp l F R a b s W f vs)(Z:f.length<4398046511104)(e:xU)(ac:e.ss.length=4)
 (V:xH w e.P e.g e.ss) (af:xH.Are w e.ss (.int .u8 (vM f.length 0))) (v:∀k,e.P k->¬F k/\¬R k/\k≠bp/\k<w.heap.size) (A:¬F e.g/\¬R e.g/\e.g≠bp/\e.g<w.heap.size)
 (ai:Obj) (o y:Nat) (B:x.ownsRow 0 179 1 (.slice (some ⟨o,0,none⟩) (f.length+1) y) (f.length+1) (f.map xU.val++[.slice (some ⟨e.g,0,none⟩) 4 4]))
 (I:(w.alloc ai).grownBy x (Value.slice a f.length s).ownBlock) (L:(Value.slice a f.length s).ownBlock=some o\/o=w.heap.size+1):
 xq (x.setCell ⟨bp,1,none⟩ (.slice (some ⟨o,0,none⟩) (f.length+1) y)) bp l (λk=>F k\/e.P k\/k=e.g\/k=o) R (some ⟨o,0,none⟩) b y W (f++[e]) vs/\
  za (λk=>(Value.slice a f.length s).ownBlock=some k\/k=bp) w (x.setCell ⟨bp,1,none⟩ (.slice (some ⟨o,0,none⟩) (f.length+1) y)):=by
 have T:=h.head.lt;have r:∀k,(Value.slice a f.length s).ownBlock=some k->F k:=λk d=>h.bytes.foot2 k d;have k1:za (λk=>(Value.slice a f.length s).ownBlock=some k) w x:=(za.alloc _ w ai).trans (za.grown (S:=λk=>(Value.slice a f.length s).ownBlock=some k) I (λk d=>d)) iL;have k2:=za.setCell (S:=λk=>k=bp) x ⟨bp,1,none⟩ (.slice (some ⟨o,0,none⟩) (f.length+1) y) rfl;have u:za (λk=>(Value.slice a f.length s).ownBlock=some k\/k=bp) w (x.setCell ⟨bp,1,none⟩ (.slice (some ⟨o,0,none⟩) (f.length+1) y)):=(k1.mono iL).trans k2 (λ_ h=>.inl (.inr h));have t:(f++[e]).length=f.length+1:=by simp
 have z:(F o\/w.heap.size<=o):=by
  rcases L with g|g;.exact .inl (r _ g)
  .exact .inr (by omega)
 have J:o≠bp:=by
  rcases z with q|q;.exact λg=>h.fbp (by rw [<-g];exact q)
  .omega
 have aa:¬R o\/w.heap.size<=o:=by
  rcases z with q|q;.exact .inl (h.apart _ q)
  .exact .inr q
 have p:∀i (n:i<(f++[e]).length),(∃m:i<f.length,(f++[e])[i]=f[i])\/(i=f.length/\(f++[e])[i]=e):=λi n=>by
  by_cases q:i<f.length;.exact .inl ⟨q,iH q⟩
  .right;have g:i=f.length:=by omega
   subst g;exact⟨rfl,by simp⟩
 have M:∀i (n:i<f.length) k,f[i].P k->¬((Value.slice a f.length s).ownBlock=some k\/k=bp):=λi n k d c=>by
  rcases c with c|c;.exact h.bytes.row2 i n k d c
  .exact h.fbp (by rw [<-c];exact(h.bytes.foot i n).2 k d)
 have Q:∀i (n:i<f.length),¬((Value.slice a f.length s).ownBlock=some f[i].g\/f[i].g=bp):=λi n c=>by
  rcases c with c|c
  .rcases h.bytes.row.2 with⟨aj,q⟩|⟨ak,ae,ah,Y,_,U,_⟩;.omega
   .rw [Y] at c;simp [Value.ownBlock] at c;subst c;have:=(h.bytes.lets i n).head;rw [U] at this;simp at this
  .exact h.fbp (by rw [<-c];exact(h.bytes.foot i n).1)
 have N:∀k,e.P k->¬((Value.slice a f.length s).ownBlock=some k\/k=bp):=λk d c=>by
  rcases c with c|c;.exact(v k d).1 (r k c)
  .exact(v k d).2.2.1 c
 have O:¬((Value.slice a f.length s).ownBlock=some e.g\/e.g=bp):=λc=>by
  rcases c with c|c;.exact A.1 (r _ c)
  .exact A.2.2.1 c
 have E:=h.flt;have D:=h.hlt;have ab:=u.size
 have H:o<(x.setCell ⟨bp,1,none⟩ (.slice (some ⟨o,0,none⟩) (f.length+1) y)).heap.size:=by have:=(B.lt o rfl).2;simpa using this
 have P:∀k,F k->k<w.heap.size->(k=o->(Value.slice a f.length s).ownBlock=some k):=λk d ag g=>by
  rcases L with C|C;.rw [g];exact C
  .omega
 refine⟨⟨⟨?_⟩,⟨?_,λi n=>?_,λi n=>?_,λi j n ad K k d=>?_,λi n k d=>?_,λi n=>?_,λk d=>?_⟩,h.rows.kept u (λi n c=>?_),λc=>?_,h.hbp,λk d c=>?_,by rw [t];omega,h.few2,λk d=>?_,λk d=>by have:=D k d;omega⟩,u⟩
 .rw [t];have g:=(k1.block bp T (λc=>h.fbp (r bp c))).trans h.head.head;rw [heap_setCell_same x bp 1 _ _ _ g];rfl
 .rw [t,eh];have:=k2.owns B (λk d g=>by simp [Value.ownBlock] at d;omega);simpa [xU.val,ac] using this
 .rcases p i n with⟨m,g⟩|⟨rfl,g⟩;.rw [g];exact(h.bytes.lets i m).kept u (M i m) (Q i m)
  .rw [g];exact V.kept u N O
 .rcases p i n with⟨m,g⟩|⟨rfl,g⟩;.rw [g];exact(h.bytes.are i m).kept (h.bytes.lets i m) u (M i m)
  .rw [g];exact af.kept V u N
 .rcases p i n with⟨m,g⟩|⟨rfl,g⟩<;>rcases p j ad with⟨G,C⟩|⟨rfl,C⟩<;>rw [g] at d<;>rw [C]
  .exact h.bytes.apart i j m G K k d
  .exact⟨λc=>(v k c).1 ((h.bytes.foot i m).2 k d),λc=>A.1 (by rw [<-c];exact(h.bytes.foot i m).2 k d)⟩
  .exact⟨λc=>(v k d).1 ((h.bytes.foot j G).2 k c),λc=>(v k d).1 (by rw [c];exact(h.bytes.foot j G).1)⟩
  .exact absurd rfl K
 .rw [t];simp only [Value.ownBlock,ne_eq,ij];intro X;rcases p i n with⟨m,g⟩|⟨rfl,g⟩<;>rw [g] at d
  .have hF:=(h.bytes.foot i m).2 k d;exact h.bytes.row2 i m k d (P k hF (E k hF) X.symm)
  .rcases z with q|q;.exact(v k d).1 (by rw [<-X];exact q)
   .have:=(v k d).2.2.2;omega
 .rcases p i n with⟨m,g⟩|⟨rfl,g⟩<;>rw [g]
  .exact⟨.inl (h.bytes.foot i m).1,λk d=>.inl ((h.bytes.foot i m).2 k d)⟩
  .exact⟨.inr (.inr (.inl rfl)),λk d=>.inr (.inl d)⟩
 .rw [t] at d;simp only [Value.ownBlock,ij] at d;exact .inr (.inr (.inr d.symm))
 .rcases c with c|c;.exact h.apart i (r i c) n
  .exact h.hbp (by rw [<-c];exact n)
 .rcases c with c|c|c|c;.exact h.fbp c
  .exact(v bp c).2.2.1 rfl
  .exact A.2.2.1 c.symm
  .exact J c.symm
 .rcases d with d|d|d|d;.exact h.apart k d c
  .exact(v k d).2.1 c
  .exact A.2.1 (by rw [<-d];exact c)
  .rcases z with q|q;.exact h.apart o q (by rw [<-d];exact c)
   .have:=D k c;omega
 .rcases d with d|d|d|d;.have:=E k d;omega
  .have:=(v k d).2.2.2;omega
  .have:=A.2.2.2;omega
  .rw [d];exact H
theorem cH(w:World)(bp:Nat)(l:Value)(F an S:Nat->Prop)(a b:Option Addr)(Z af:Nat)(o vs:List xU)(h:xq w bp l F an a b Z af o vs)(aD:o.length<=2199023255552)
 (q:Option Addr) (n p:Nat) (xs:List Value) (P:w.ownsRow 0 5 1 (.slice q n p) n xs) (az:n<=1000) (H:∀k,(Value.slice q n p).ownBlock=some k->S k) (C:∀k,S k->¬F k/\¬an k/\k≠bp):
 Calls Tryz.prog 106 #[.pointer (some ⟨bp,1,none⟩),.slice q n p] w λe w'=>e=.returned (.tuple #[])/\
  (∃aB ag T F',xq w' bp l F' an aB b ag af T vs/\T.length=o.length+1/\∀k,F' k->F k\/S k\/w.heap.size<=k)/\za (λk=>F k\/S k\/k=bp) w w':=by
 have K:Hid _:=h;have aJ:=h.head.c.2.1;have aG:=h.head.lt;obtain⟨A,r,s,v,u⟩:=yv Tryz.infoU8;have g:Hid (Tryz.prog.info? 5=some A/\A.zero=some (.int .u8 0)/\A.size=1/\A.bytes=1):=⟨r,s,v,u⟩;clear r s v u;obtain⟨L,r,s,v,u⟩:=yv Tryz.infoLetters;have E:Hid (Tryz.prog.info? 179=some L/\L.zero=some (.slice none 0 0)/\L.size=1/\L.bytes=24):=⟨r,s,v,u⟩;change Hid _ at P;clear r s v u h;have ab:=Zv o.length 0;go_enter Tryz.func106,Tryz.ntmps106;go_wp2_with fail;refine(vu _ _ _ (by omega) (by omega) (by omega) (by omega)).mono ?_;rintro e aw ⟨rfl,U⟩;rw [U];clear U aw;rw [mu];generalize X:vM o.length (Int.toNat 0)=z at*;have O:vM o.length 0=z:=X;clear X;rw [O] at ab;change Hid _ at O
 go_wp2_with (first
  |(refine y9 rfl (.tmp 13) (.tmp 15) 35 rfl 5 A _ 1 1 Tryz.underlying35 g.1 g.2.1 g.2.2.1 g.2.2.2 rfl (.slice q n p) n xs (by rfl) (by exact er P _) ⟨w.heap.size,0,none⟩ 1 1 [.int .u8 z] (by rfl) (by rfl) (by exact World.news_of_block (ac w _)) (by simp [Value.oneCell']) (by omega) (by unfold maxLen;omega) (by omega) ?_;intro aM ae d;obtain⟨au,av,rfl,t⟩:=d.form;have V:Hid _:=d;have ai:Hid _:=t;clear d t)
  |(refine y9 rfl (.tmp 17) (.tmp 20) 35 rfl 5 A _ 1 1 Tryz.underlying35 g.1 g.2.1 g.2.2.1 g.2.2.2 rfl (.slice q n p) n xs (by rfl) (by exact er V.keeps _) ⟨ae.heap.size,0,none⟩ 2 2 [.int .u8 z,.int .u8 z] (by rfl) (by rfl) (by exact World.news_of_block (ac ae _)) (by simp [Value.oneCell']) (by omega) (by unfold maxLen;omega) (by omega) ?_;intro aO am d;obtain⟨aC,aE,rfl,t⟩:=d.form;have R:Hid _:=d;have ad:Hid _:=t;clear d t)
  |(refine y9 rfl (.tmp 22) (.tmp 26) 35 rfl 5 A _ 1 1 Tryz.underlying35 g.1 g.2.1 g.2.2.1 g.2.2.2 rfl (.slice q n p) n xs (by rfl) (by exact er R.keeps _) ⟨am.heap.size,0,none⟩ 3 3 [.int .u8 z,.int .u8 z,.int .u8 z] (by rfl) (by rfl) (by exact World.news_of_block (ac am _)) (by simp [Value.oneCell']) (by omega) (by unfold maxLen;omega) (by omega) ?_;intro aN J d;obtain⟨ax,ap,rfl,t⟩:=d.form;change Hid _ at d t))
 have D:=UH P az V ai R ad d t.out;change Hid _ at D;refine(yT _ _ J.heap.size 4 _ D.1 z ab.1 ab.2).mono ?_;rintro e x ⟨rfl,Q,W,N⟩
 have I:za (λk=>(Value.slice q n p).ownBlock=some k) w x:=(D.2.trans (za.alloc _ _ _) iL).trans N (λk c=>by
  rcases c with c|c;.exact .inl c
  .exact .inr c.1)
 have f:=K.kept I (λi Y m=>(C i (H i m)).1 Y) (λi Y m=>(C i (H i m)).2.1 Y) (λm=>(C bp (H bp m)).2.2 rfl);have aF:=f.head.c.2.1;have ar:=f.head.lt;change Hid _ at f I Q W N;go_wp2_with (refine wpList_append_lies _ rfl (.tmp 36) (.tmp 38) 74 rfl 0 179 L _ 1 24 Tryz.underlying74 E.1 E.2.1 E.2.2.1 E.2.2.2 rfl (by omega) (.slice a o.length Z) o.length (o.map xU.val) (by rfl) (by exact er f.bytes.row _) ⟨x.heap.size,0,none⟩ 1 1 [.slice (some ⟨J.heap.size,0,none⟩) 4 4] (by rfl) (by rfl) (by exact World.news_of_block (ac x _)) (by simp [Value.oneCell']) (by omega) (by unfold maxLen;omega) (by omega) (aj _) (x.heap.size+1) (by simp) ?_;intro aA ao al B j y ay;have aI:al.cell? ⟨bp,1,none⟩=some (.slice a o.length Z):=(j.cell_far ⟨bp,1,none⟩ (by simp;omega) (λe=>f.fbp (f.bytes.foot2 bp e.symm))).trans (by simpa using f.kept (za.alloc (λ_=>False) x _) nF nF (λM=>M) |>.head.c.2.1);have aH:al.frozen? ⟨bp,1,none⟩=false:=(j.frozen_far ⟨bp,1,none⟩ (by simp;omega) (λe=>f.fbp (f.bytes.foot2 bp e.symm))).trans (by simpa using f.kept (za.alloc (λ_=>False) x _) nF nF (λM=>M) |>.head.c.2.2.2 1);change Hid _ at B j y);go_end0;have aL:=D.2.size;have aK:J.heap.size+1<=x.heap.size:=by have:=N.size;simpa using this
 have ah:∀k,(Value.slice q n p).ownBlock=some k->k<w.heap.size:=λk c=>(World.ownsRow.lt P k c).2
 have G:=f.push (by omega) ⟨J.heap.size,[(q,n,p),(some ⟨au,0,none⟩,n+1,av),(some ⟨aC,0,none⟩,n+2,aE),(some ⟨ax,0,none⟩,n+3,ap)],λk=>(Value.slice q n p).ownBlock=some k\/(w.heap.size<=k/\k<J.heap.size)⟩ rfl Q (by rw [O.out];exact W)
  (λk c=>by
   have M:=K.flt k;have aq:=K.hlt k;rcases c with c|c;.have aa:=C k (H k c);have h2:=ah k c;exact⟨aa.1,aa.2.1,aa.2.2,by omega⟩
   .exact⟨λm=>by have:=M m;omega,λm=>by have:=aq m;omega,by omega,by omega⟩)
  ⟨λm=>by have:=K.flt _ m;simp only at this;omega,λm=>by have:=K.hlt _ m;simp only at this;omega,by simp only;omega,by simp only;omega⟩ _ aA ao B j y.out
 refine⟨rfl,⟨_,_,_,_,G.1,by simp,λk c=>?_⟩,(I.mono (λk c=>.inr (.inl (H k c)))).trans G.2 (λk c=>?_)⟩
 .rcases c with c|c|c|c;.exact .inl c
  .rcases c with c|c;.exact .inr (.inl (H k c))
   .exact .inr (.inr c.1)
  .exact .inr (.inr (by simp only at c;omega))
  .rcases y.out with ak|ak;.exact .inl (f.bytes.foot2 k (by rw [c];exact ak))
   .exact .inr (.inr (by omega))
 .rcases c with c|c;.exact .inl (.inl (f.bytes.foot2 k c))
  .exact .inl (.inr (.inr c))
end book
namespace book
open Go.ChangeShapes Go.WideShapes Go.ChangeAt Go.RowKit disk ref
open keys (zh zd zx zq)
variable {w:World}{g n cap:Nat}{l:List UInt8}
theorem Zx(w:World)(P:Nat->Prop)(a:Option Addr)(cap:Nat)(l:List UInt8)(q:zO w P a l)(t:l.length<=140737488355326):
 Calls Tryz.prog 99 #[.slice a l.length cap] w λe w'=>∃p o,e=.returned (.slice p l.length o)/\w'.ownsRow 0 5 1 (.slice p l.length o) l.length (l.map qy)/\za (λ_=>False) w w'/\∀k,(Value.slice p l.length o).ownBlock=some k->w.heap.size<=k:=by
 obtain⟨g,i,m,n,j⟩:=yv Tryz.infoU8;have c:Hid (Tryz.prog.info? 5=some g/\g.zero=some (.int .u8 0)/\g.size=1/\g.bytes=1):=⟨i,m,n,j⟩;change Hid _ at q;clear i m n j;go_enter Tryz.func99,Tryz.ntmps99;go_wp2_with (refine yN P rfl (.tmp 4) (.tmp 5) 35 rfl 5 g _ Tryz.underlying35 c.1 c.2.1 c.2.2.1 c.2.2.2 rfl a cap l (by rfl) (by rfl) (by exact q) (by omega) ?_;intro r s u d b f;change Hid _ at d b f);go_ret;exact⟨r,s,rfl,d,za.grown (S:=λ_=>False) b (λk h=>by cases h),λk h=>by rcases f.out with e|e<;>rw [e] at h<;>simp at h;omega⟩
theorem uy(w:World)(a:Option Addr)(n c:Nat):(binOp .eql 35 (.slice a n c) (.slice none 0 0)).run Tryz.prog w=.ok (.bool a.isNone) w:=Go.Lib.run_eql_slice_nil w 35 5 a n c 0 0 Tryz.underlying35
structure jK (w:World) (g n cap:Nat) (l:List UInt8):Prop where
 len:n=l.length
 at_:∃cur,w.heap[g]? =some (.cells cur 5 (0,0))/\n+2<=cap/\cap<=maxLen/\cur.size=cap/\cur.toList.take (n+2)=l.map qy++[.int .u8 77,.int .u8 77]
theorem jK.kept{w':World}{T:Nat->Prop}(h:jK w g n cap l)(k:za T w w')(d:¬T g):jK w' g n cap l:=by
 obtain⟨c,b,a,h2⟩:=h;exact⟨c,b,(k.block g (lT a) d).trans a,h2⟩
theorem jK.bytes(h:jK w g n cap l)(P:Nat->Prop)(d:P g):zO w P (some ⟨g,0,none⟩) l:=by
 obtain⟨c,a,b,h2,m,k,f⟩:=h;subst c;refine .inr ⟨g,0,rfl,d,(lT b),λj i=>?_⟩;rw [aG w g (0+j) _ _ _ b];have e:a.toList[0+j]? =(a.toList.take (l.length+2))[0+j]? :=by rw [lN,aB (by omega)]
 rw [<-iZ,e,f];rw [io (by simp;omega)];simp [i,qy]
theorem jK.cells(h:jK w g n cap l):(∀j (b:j<l.length),w.cell? ⟨g,j,none⟩=some (.int .u8 (l[j].toNat:Int)))/\w.cell? ⟨g,l.length,none⟩=some (.int .u8 77)/\w.cell? ⟨g,l.length+1,none⟩=some (.int .u8 77)/\∀i,w.frozen? ⟨g,i,none⟩=false:=by
 obtain⟨d,f,c,h2,m,k,e⟩:=h;subst d
 have a:∀j,j<l.length+2->w.cell? ⟨g,j,none⟩=(l.map qy++[.int .u8 77,.int .u8 77])[j]? :=λj b=>by rw [aG w g j _ _ _ c,<-iZ,<-e,lN,aB b]
 refine⟨λj b=>?_,?_,?_,λi=>aa w g i _ _ c⟩;.rw [a j (by omega),io (by simpa using b)];simp [b,qy]
 .rw [a _ (by omega),iB (by simp)];simp
 .rw [a _ (by omega),iB (by simp)];simp
theorem Vb(w:World)(P:Nat->Prop)(t:Addr)(cap:Nat)(l:List UInt8)(x:zO w P (some t) l)(G:l.length<=140737488355326):
 Calls Tryz.prog 91 #[.slice (some t) l.length cap] w λe w'=>∃g z,e=.returned (.slice (some ⟨g,0,none⟩) l.length z)/\jK w' g l.length z l/\za (λ_=>False) w w'/\w.heap.size<=g:=by
 obtain⟨i,o,q,r,p⟩:=yv Tryz.infoU8;have f:Hid (Tryz.prog.info? 5=some i/\i.zero=some (.int .u8 0)/\i.size=1/\i.bytes=1):=⟨o,q,r,p⟩;change Hid _ at x;clear o q r p;have B:=λw=>uy w (some t) l.length cap;go_enter Tryz.func91,Tryz.ntmps91;go_wp2_with fail;refine(Zx _ P _ cap l x G).mono ?_;rintro e j ⟨C,J,rfl,n,h,c⟩;have v:Hid _:=h;change Hid _ at n c;clear h;go_wp2_with (refine wpList_append_lies _ rfl (.tmp 8) (.tmp 9) 35 rfl 0 5 i _ 1 1 Tryz.underlying35 f.1 f.2.1 f.2.2.1 f.2.2.2 rfl (by omega) (.slice C l.length J) l.length (l.map qy) (by rfl) (by exact er n _) ⟨j.heap.size,0,none⟩ 2 2 [.int .u8 77,.int .u8 77] (by rfl) (by rfl) (by exact World.news_of_block (ac j _)) (by simp [Value.oneCell']) (by omega) (by unfold maxLen;omega) (by omega) (aj _) (j.heap.size+1) (by simp) ?_;intro g s H a b m A;have E:l.length+2<=s/\s<=9223372036854775807:=by {rcases a.2 with⟨d,_⟩|⟨_,_,_,d,_,_,u,h2,_⟩;cases d;cases d;unfold maxLen at h2;omega};change Hid _ at a b m);go_ret;have k1:za (λk=>w.heap.size<=k) j H:=(za.alloc _ j _).trans (za.grown (S:=λk=>w.heap.size<=k) b (λk h=>c k h)) iL;refine⟨g,s,rfl,⟨rfl,?_⟩,v.trans k1 (λk h=>.inr h),?_⟩
 .rcases a.2 with⟨d,_⟩|⟨K,I,y,d,_,u,h2,F,L,D⟩;.cases d
  .cases d;exact⟨y,u,h2,F,by omega,by simpa using D⟩
 .rcases m.out with e|e;.exact c g e
  .have:=v.size;omega
theorem Vc(w:World)(n cap:Nat):Calls Tryz.prog 91 #[.slice none n cap] w λe w'=>e=.returned (.slice none 0 0)/\w'=w:=by
 have a:=λw=>uy w none n cap;go_enter Tryz.func91,Tryz.ntmps91;go_wp2;go_ret;exact⟨rfl,rfl⟩
theorem Zy(w:World)(n cap:Nat):Calls Tryz.prog 92 #[.slice none 0 0,.slice none n cap] w λe w'=>e=.returned (.bool true)/\w'=w:=by
 have b:=λw=>uy w none n cap;have a:=λw=>uy w none 0 0;go_enter Tryz.func92,Tryz.ntmps92;go_wp2;go_ret;exact⟨rfl,rfl⟩
theorem Zz(w:World)(P:Nat->Prop)(q:Addr)(cap:Nat)(l:List UInt8)(t:zO w P (some q) l)(N:l.length<=140737488355326)(g c:Nat)(h:jK w g l.length c l)(L:¬P g):
 Calls Tryz.prog 92 #[.slice (some ⟨g,0,none⟩) l.length c,.slice (some q) l.length cap] w λe w'=>e=.returned (.bool true)/\za (λk=>k=g) w w':=by
 have z:Hid _:=h;have x:=λw=>uy w (some q) l.length cap;obtain⟨o,D,C,s⟩:=h.cells
 have A:l.length+2<=c/\c<=9223372036854775807:=by obtain⟨_,a,_,h2,p,_⟩:=h;unfold maxLen at p;omega
 change Hid _ at t o s;clear h;go_enter Tryz.func92,Tryz.ntmps92;go_wp2;go_loopw [6,7] (λy i wr=>∃k:Nat,k<=l.length/\i=.int .i64 k/\y=.bool true/\∃n,wr=w.drewN n) (λ_ i _=>l.length-(intOf i).toNat)
 case atStart=>exact⟨0,aj _,rfl,rfl,0,rfl⟩
 case round=>
  obtain⟨k,K,rfl,rfl,n,rfl⟩:=hrel;by_cases m:k<l.length
  .have F:=o.out k m;rcases t.out with B|⟨b,O,d,h2,p,u⟩;.rw [B] at m;simp at m
   .have E:=u k m;cases d;go_wp2;go_quiet (fail);go_wp2;go_roundw
    case rel=>exact⟨k+1,by omega,by go_num,rfl,_,rfl⟩
    case measure=>simp [intOf];omega
  .go_wp2;go_loopw [8] (λi wr=>∃k:Nat,k<=l.length+2/\i=.int .i64 k/\(∃a,wr.heap[g]? =some (.cells a 5 (0,0))/\l.length+2<=a.size)/\za (λk=>k=g) w wr) (λi _=>l.length+2-(intOf i).toNat)
   case atStart=>
    obtain⟨_,a,d,h2,p,u,J⟩:=z.out;exact⟨0,aj _,rfl,⟨a,d,by omega⟩,kD⟩
   case round=>
    obtain⟨j,M,rfl,⟨a,d,h2⟩,f⟩:=hrel;have r:Hid _:=d;change Hid _ at f;by_cases v:j<l.length+2
    .have G:wr.cell? ⟨g,j,none⟩=some (a[j]'(by omega)):=by rw [aG wr g j _ _ _ d];simp
     have H:=aa wr g j _ _ d;generalize a[j]'(by omega)=I at*;clear d;go_wp2;go_roundw
     case rel=>exact⟨j+1,by omega,by go_num,⟨_,heap_setCell_same wr g j _ _ _ r,by simpa using h2⟩,f.trans (za.setCell (S:=λk=>k=g) wr ⟨g,j,none⟩ _ rfl) iL⟩
     case measure=>simp [intOf];omega
    .clear d;go_wp2;go_ret;exact⟨rfl,f⟩
theorem vV(w:World)(P Q:Nat->Prop)(a b:Option Addr)(q p:Nat)(l:List UInt8)(j:zO w P a l)(g:zO w Q b l)(x:l.length<=140737488355326):
 Calls Tryz.prog 105 #[.slice a l.length q,.slice b l.length p] w λe w'=>e=.returned (.bool true)/\∃n,w'=w.drewN n:=by
 change Hid _ at j g;go_enter Tryz.func105,Tryz.ntmps105;go_wp2;go_loopw [5] (λi wr=>∃k:Nat,k<=l.length/\i=.int .i64 k/\∃n,wr=w.drewN n) (λi _=>l.length-(intOf i).toNat)
 case atStart=>exact⟨0,aj _,rfl,0,rfl⟩
 case round=>
  obtain⟨k,z,rfl,n,rfl⟩:=hrel;by_cases c:k<l.length
  .rcases j.out with f|⟨y,v,o,_,_,m⟩;.rw [f] at c;simp at c
   rcases g.out with f|⟨t,u,h,_,_,d⟩;.rw [f] at c;simp at c
   have s:=m k c;have r:=d k c;subst o h;clear m d;go_wp2;go_quiet (fail);go_wp2;go_roundw
   case rel=>exact⟨k+1,by omega,by go_num,_,rfl⟩
   case measure=>simp [intOf];omega
  .go_wp2;go_ret;exact⟨rfl,_,rfl⟩
end book
namespace law
open Go.ChangeShapes Go.WideShapes Go.ChangeAt Go.RowKit disk ref book
open keys (zh zd zx zq)
variable {w:World}{bo:Nat}
structure qg where
 d:Value
 s:Value
 is:Value
 mb:Value
 k0:Value
 k1:Value
 k2:Value
 k3:Value
 died:Int
 told:Int
 shut:Bool
def qg.cells(h:qg):Array Value:=#[h.d,h.s,h.is,h.mb,h.k0,h.k1,h.k2,h.k3,.int .i64 h.died,.int .i64 h.told,.bool h.shut]
structure zo (w:World) (bo:Nat) (h:qg):Prop where
 head:w.heap[bo]? =some (.cells h.cells 125 (0,0))
theorem zo.lt{h:qg}(a:zo w bo h):bo<w.heap.size:=(lT a.head)
theorem zo.kept{w':World}{T:Nat->Prop}{h:qg}(b:zo w bo h)(k:za T w w')(a:¬T bo):zo w' bo h:=⟨(k.block bo b.lt a).trans b.head⟩
theorem zo.at_{h:qg}(b:zo w bo h){i:Nat}{v:Value}(a:h.cells[i]? =some v):w.cell? ⟨bo,i,none⟩=some v:=by
 rw [aG w bo i _ _ _ b.head];exact a
theorem zo.fz{h:qg}(a:zo w bo h)(i:Nat):w.frozen? ⟨bo,i,none⟩=false:=aa w bo i _ _ a.head
theorem zo.c0{h:qg}(a:zo w bo h):w.cell? ⟨bo,0,none⟩=some h.d:=a.at_ rfl
theorem zo.c1{h:qg}(a:zo w bo h):w.cell? ⟨bo,1,none⟩=some h.s:=a.at_ rfl
theorem zo.c2{h:qg}(a:zo w bo h):w.cell? ⟨bo,2,none⟩=some h.is:=a.at_ rfl
theorem zo.c3{h:qg}(a:zo w bo h):w.cell? ⟨bo,3,none⟩=some h.mb:=a.at_ rfl
theorem zo.c8{h:qg}(a:zo w bo h):w.cell? ⟨bo,8,none⟩=some (.int .i64 h.died):=a.at_ rfl
theorem zo.c9{h:qg}(a:zo w bo h):w.cell? ⟨bo,9,none⟩=some (.int .i64 h.told):=a.at_ rfl
theorem zo.c10{h:qg}(a:zo w bo h):w.cell? ⟨bo,10,none⟩=some (.bool h.shut):=a.at_ rfl
theorem zo.set{h:qg}(a:zo w bo h)(i:Nat)(v:Value)(h':qg)(e:h'.cells=h.cells.setIfInBounds i v):zo (w.setCell ⟨bo,i,none⟩ v) bo h':=
 ⟨by rw [heap_setCell_same w bo i _ _ _ a.head,e]⟩
theorem yC(w:World)(bo:Nat)(h:qg)(j:zo w bo h)(bd:Nat)(b:h.d=.pointer (some ⟨bd,0,none⟩))(S:Nat->Prop)(D:Dk)(a:zg w bd S D):
 Calls Tryz.prog 149 #[.pointer (some ⟨bo,0,none⟩)] w λe w'=>e=.returned (.int .i64 D.bs.length)/\w'=w:=by
 have c:=j.c0;rw [b] at c;obtain⟨f,d,g,i,a⟩:=a;change Hid _ at a;clear b;go_enter Tryz.func149,Tryz.ntmps149;go_wp2_with (go_at_call 54;refine(jj _ bd S D f d g i a).mono ?_;rintro e w' ⟨rfl,rfl⟩);go_ret;exact⟨rfl,rfl⟩
theorem dB(w:World)(bo:Nat)(h:qg)(i:zo w bo h)(bd:Nat)(d:h.d=.pointer (some ⟨bd,0,none⟩))(S:Nat->Prop)(D:Dk)(f:zg w bd S D)(a:D.fuse=0):
 Calls Tryz.prog 87 #[.pointer (some ⟨bo,0,none⟩)] w λe w'=>e=.returned (.bool true)/\(∃S',zg w' bd S' D/\∀k,S' k->S k)/\za S w w':=by
 have g:=i.c0;rw [d] at g
 have b:D.flush=D:=by cases D;simp only at a;subst a;rfl
 change Hid _ at f a b;clear d;go_enter Tryz.func87,Tryz.ntmps87;go_wp2_with fail;refine(yU _ bd S D f (by rw [a.out];exact⟨by omega,by omega⟩)).mono ?_;rintro e j ⟨rfl,c,h2⟩;rw [a.out];rw [b.out] at c;change Hid _ at c h2;go_wp2;go_ret;exact⟨rfl,c,h2⟩
def ys:Bool->Int->Int
 |false,c=>c
 |true,c=>if c=0\/c=5 then 8 else c
theorem kV(w:World)(bo:Nat)(h:qg)(i:zo w bo h)(f:Int):
 Calls Tryz.prog 104 #[.pointer (some ⟨bo,0,none⟩),.int .i64 f] w λe w'=>e=.returned (.int .i64 (ys h.shut f))/\w'=w:=by
 have d:=i.c10;cases a:h.shut
 .rw [a] at d;clear a;go_enter Tryz.func104,Tryz.ntmps104;go_wp2;go_ret;exact⟨rfl,rfl⟩
 .rw [a] at d;clear a;by_cases b:f=0
  .subst b;go_enter Tryz.func104,Tryz.ntmps104;go_wp2;go_ret;exact⟨rfl,rfl⟩
  .have j:(f==0)=false:=by simpa using b
   by_cases c:f=5
   .subst c;go_enter Tryz.func104,Tryz.ntmps104;go_wp2;go_ret;exact⟨rfl,rfl⟩
   .have g:(f==5)=false:=by simpa using c
    change Hid _ at b c;go_enter Tryz.func104,Tryz.ntmps104;go_wp2;go_ret;exact⟨zh (by show f=if f=0\/f=5 then 8 else f;rw [aw (λh=>h.elim b.out c.out)]),rfl⟩
def ZA(n last told died:Int):Bool:=decide (last<n/\n<=told+1+died)
theorem uz(w:World)(bo:Nat)(h:qg)(j:zo w bo h)(i:Nat)(g:h.is=.pointer (some ⟨i,0,none⟩))(F u:Nat->Prop)(vs:List zB)(b:Int)(c:zJ w F u i vs b)(n:Int)(t:0<=h.told)(l:h.told<=4611686018427387904)(r:0<=h.died)(s:h.died<=1152921504606846976):
 Calls Tryz.prog 96 #[.pointer (some ⟨bo,0,none⟩),.int .i64 n] w λe w'=>e=.returned (.bool (ZA n b h.told h.died))/\∃m,w'=w.drewN m:=by
 have f:=j.c2;have o:=j.c8;have q:=j.c9;rw [g] at f;obtain⟨a,cap,v,c⟩:=c;have p:=c.c1;clear c g;by_cases d:b<n
 .have k:decide (b<n)=true:=aJ d;go_enter Tryz.func96,Tryz.ntmps96;go_wp2;go_quiet (fail);go_wp2;go_ret;exact⟨zd (by unfold ZA;simp [d]),_,rfl⟩
 .have k:decide (b<n)=false:=decide_eq_false d;go_enter Tryz.func96,Tryz.ntmps96;go_wp2;go_quiet (fail);go_wp2;go_ret;exact⟨zd (by unfold ZA;rw [decide_eq_false (by omega)]),_,rfl⟩
end law
end Go.Proofs.YtcoengihaobddaaGreatDoor
