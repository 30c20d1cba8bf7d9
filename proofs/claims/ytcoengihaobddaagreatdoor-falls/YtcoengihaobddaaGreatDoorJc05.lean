/- Part 5 of 36 of a proof: Book2, Book3, Append2, Book4, Lent, Law1 -/
import Derived.Test.YtcoengihaobddaaGreatDoorJc04
import Derived.Deep.RegionWith
import Derived.Lib.SliceRun
set_option maxHeartbeats 8000000
set_option linter.unusedVariables false
set_option linter.unusedSimpArgs false
set_option maxRecDepth 8000
namespace Go.Proofs.YtcoengihaobddaaGreatDoor
namespace book
open Go.ChangeShapes Go.WideShapes Go.ChangeAt Go.RowKit disk ref
open keys (zh ze zy zs)
variable {w w':World}{F T:Nat->Prop}{v l b:Value}{m:Nat->Int}{g cap bp:Nat}{a:Option Addr}
structure xZ where
 g:Nat
 ss:List (Option Addr×Nat×Nat)
 P:Nat->Prop
def xZ.val(e:xZ):Value:=.slice (some ⟨e.g,0,none⟩) e.ss.length 4
structure xu (w:World) (F:Nat->Prop) (v:Value) (es:List xZ) (m:Nat->Int):Prop where
 row:w.ownsRow 0 179 1 v es.length (es.map xZ.val)
 lets:∀i (hi:i<es.length),xM w es[i].P es[i].g es[i].ss
 are:∀i (hi:i<es.length),xM.Are w es[i].ss (.int .u8 (m i))
 apart:∀i j (hi:i<es.length) (hj:j<es.length),i≠j->∀k,es[i].P k->¬es[j].P k/\k≠es[j].g
 row2:∀i (hi:i<es.length) k,es[i].P k->v.ownBlock≠some k
 foot:∀i (hi:i<es.length),F es[i].g/\∀k,es[i].P k->F k
 foot2:∀k,v.ownBlock=some k->F k
theorem xu.kept{d:List xZ}(h:xu w F v d m)(k:za T w w')(b:∀i,F i->¬T i):xu w' F v d m:=
 ⟨k.owns h.row (λi a=>b i (h.foot2 i a)),λi a=>(h.lets i a).kept k (λj c=>b j ((h.foot i a).2 j c)) (b _ (h.foot i a).1),
  λi a=>(h.are i a).kept (h.lets i a) k (λj c=>b j ((h.foot i a).2 j c)),h.apart,h.row2,h.foot,h.foot2⟩
theorem xu.cell{a:List xZ}(h:xu w F (.slice (some ⟨g,0,none⟩) a.length cap) a m)(i:Nat)(b:i<a.length):w.cell? ⟨g,i,none⟩=some (.slice (some ⟨a[i].g,0,none⟩) a[i].ss.length 4):=by
 have:=h.row.cells (g:=g) rfl i a[i].val (by simp [b]);rw [eO] at this;simpa [xZ.val] using this
theorem xu.rowAt{b:List xZ}(h:xu w F (.slice a b.length cap) b m)(j:0<b.length):∃g,a=some ⟨g,0,none⟩:=by
 rcases h.row.2 with⟨i,f⟩|⟨g,d,e,c,_⟩;.omega
 .cases c;exact⟨g,rfl⟩
theorem xu.wrote{b:List xZ}(h:xu w F v b m)(i:Nat)(d:i<b.length)(z:Int)(p:xM w' b[i].P b[i].g b[i].ss)(q:xM.Are w' b[i].ss (.int .u8 z))(k:za b[i].P w w')
 (f:Nat->Int) (n:f i=z) (l:∀j,j≠i->f j=m j):xu w' F v b f:=by
 refine⟨k.owns h.row (λj a c=>h.row2 i d j c a),λj a=>?_,λj a=>?_,h.apart,h.row2,h.foot,h.foot2⟩
 .by_cases e:j=i;.subst e;exact p
  .exact(h.lets j a).kept k (λo g c=>(h.apart i j d a (iw e) o c).1 g) (λc=>(h.apart i j d a (iw e) _ c).2 rfl)
 .by_cases e:j=i;.subst e;rw [n];exact q
  .rw [l j e];exact(h.are j a).kept (h.lets j a) k (λo g c=>(h.apart i j d a (iw e) o c).1 g)
structure yn (w:World) (bp:Nat) (l a b:Value):Prop where
 head:w.heap[bp]? =some (.cells #[l,a,b] 79 (0,0))
theorem yn.c{a:Value}(h:yn w bp l a b):w.cell? ⟨bp,0,none⟩=some l/\w.cell? ⟨bp,1,none⟩=some a/\w.cell? ⟨bp,2,none⟩=some b/\∀i,w.frozen? ⟨bp,i,none⟩=false:=
 ⟨cR h.head rfl,cR h.head rfl,cR h.head rfl,λi=>aa w bp i _ _ h.head⟩
theorem yn.lt{a:Value}(h:yn w bp l a b):bp<w.heap.size:=(lT h.head)
theorem yn.kept{a:Value}(h:yn w bp l a b)(k:za T w w')(c:¬T bp):yn w' bp l a b:=⟨(k.block bp h.lt c).trans h.head⟩
theorem xu.marks{a:List xZ}{c:Nat->Int}(h:xu w F v a m)(d:∀i,i<a.length->m i=c i):xu w F v a c:=
 ⟨h.row,h.lets,λi b=>by rw [<-d i b];exact h.are i b,h.apart,h.row2,h.foot,h.foot2⟩
theorem Zv(i d:Nat):0<=vP i d/\vP i d<=255:=by
 unfold vP;have:=Nat.mod_lt (i/251^d) (show 0<251 by omega);omega
theorem dz(w:World)(bp:Nat)(l b:Value)(F:Nat->Prop)(a:Option Addr)(cap:Nat)(c:List xZ)(n:yn w bp l (.slice a c.length cap) b)(hF:¬F bp)(h:xu w F (.slice a c.length cap) c (λi=>vP i 0))(O:c.length<=4398046511104):
 Calls Tryz.prog 64 #[.pointer (some ⟨bp,1,none⟩)] w λe w'=>e=.returned (.bool true)/\xu w' F (.slice a c.length cap) c (λi=>vP i 0)/\za F w w':=by
 have P:Hid _:=h;have Q:Hid _:=n;clear h n;go_enter Tryz.func64,Tryz.ntmps64;go_wp2;go_loopw [3] (λt wr=>∃k:Nat,k<=c.length/\t=.int .i64 k/\xu wr F (.slice a c.length cap) c (λi=>vP i 0)/\yn wr bp l (.slice a c.length cap) b/\za F w wr) (λt _=>c.length-(intOf t).toNat)
 case atStart=>exact⟨0,aj _,rfl,P,Q,za.refl _ _⟩
 case round=>
  obtain⟨k,W,rfl,o,n,f⟩:=hrel;have v:Hid _:=o;have H:Hid _:=n;have M:Hid _:=f;have E:=n.c.2.1;clear o n f;by_cases x:k<c.length
  .obtain⟨g,rfl⟩:=v.rowAt (by omega);have I:=v.cell k x;go_wp2
   go_quiet ((first
    |(go_at_call 112;exact Calls.quiet_of_same (vx _ _ _ (by omega) (by omega) (by omega) (by omega)))
    |(go_at_call 111;exact Calls.quiet_of_same (qE _ c[k].P c[k].g 4 c[k].ss (by exact(v.lets k x).kept (T:=λ_=>False) (kD) nF (λp=>p)) _ (by exact(v.are k x).kept (v.lets k x) (T:=λ_=>False) (kD) nF)))))
   go_wp2;go_roundw
   case rel=>exact⟨k+1,by omega,by go_num,v.kept (T:=λ_=>False) kD nF,H.kept (T:=λ_=>False) kD (λp=>p),M.trans (S':=λ_=>False) kD fE⟩
   case measure=>simp [intOf];omega
  .go_wp2;go_loopw [5] (λt wr=>∃(d:Int) (m:Nat->Int), -1<=d/\d<=2/\t=.int .i64 d/\xu wr F (.slice a c.length cap) c m/\(d= -1->∀i,i<c.length->m i=vP i 0)/\yn wr bp l (.slice a c.length cap) b/\za F w wr) (λt _=>(intOf t+1).toNat)
   case atStart=>exact⟨2,_,by omega,by omega,rfl,v,λh=>by omega,H,M⟩
   case round=>
    obtain⟨d,m,S,R,rfl,o,N,n,f⟩:=hrel;have B:Hid _:=o;have L:Hid _:=n;have J:Hid _:=f;change Hid _ at N;clear o n f;by_cases U:0<=d
    .go_wp2;go_loopw [6] (λt wr=>∃(j:Nat),j<=c.length/\t=.int .i64 j/\xu wr F (.slice a c.length cap) c (λi=>if i<j then vP i d.toNat else m i)/\yn wr bp l (.slice a c.length cap) b/\za F w wr) (λt _=>c.length-(intOf t).toNat)
     case atStart=>exact⟨0,aj _,rfl,B.marks (λi z=>by simp),L,J⟩
     case round=>
      obtain⟨j,Y,rfl,o,n,f⟩:=hrel;have s:Hid _:=o;have D:Hid _:=n;have C:Hid _:=f;have E:=n.c.2.1;clear o n f;by_cases r:j<c.length
      .obtain⟨g,rfl⟩:=s.rowAt (by omega);have I:=s.cell j r;go_wp2
       go_region_with ((first
        |(go_at_call 112;refine(vx _ _ _ (by omega) (by omega) (by omega) (by omega)).mono ?_;rintro e w' ⟨rfl,rfl⟩)
        |(go_at_call 113;refine(yX _ c[j].P c[j].g 4 c[j].ss (by exact(s.lets j r).kept (T:=λ_=>False) kD nF (λp=>p)) _ (by exact(Zv _ _).1) (by exact(Zv _ _).2)).mono ?_;rintro e V ⟨rfl,G,A,y⟩;change Hid _ at G A y)))
       all_goals
        go_wp2;go_roundw
        case rel=>
         refine⟨j+1,by omega,by go_num,(s.kept (za.drew (λ_=>False) wr) nF).wrote j r _ G A y _ (by simp) (λi z=>?_),(D.kept (za.drew (λ_=>False) wr) (λp=>p)).kept y (λK=>hF ((s.foot j r).2 _ K)),
          (C.trans (za.drew (λ_=>False) wr) fE).trans y (λi K=>.inl ((s.foot j r).2 _ K))⟩
         have e:(i<j+1)=(i<j):=propext (by omega);simp only [e]
        case measure=>simp [intOf];omega
      .go_wp2;go_loopw [7] (λt wr=>∃(q:Nat),q<=c.length/\t=.int .i64 q/\xu wr F (.slice a c.length cap) c (λi=>vP i d.toNat)/\yn wr bp l (.slice a c.length cap) b/\za F w wr) (λt _=>c.length-(intOf t).toNat)
       case atStart=>exact⟨0,aj _,rfl,s.marks (λi z=>by rw [aB (by omega)]),D,C⟩
       case round=>
        obtain⟨q,X,rfl,o,n,f⟩:=hrel;have E:=n.c.2.1;change Hid _ at o n f;by_cases u:q<c.length
        .obtain⟨g,rfl⟩:=o.rowAt (by omega);have I:=o.cell q u;go_wp2
         go_quiet ((first
          |(go_at_call 112;exact Calls.quiet_of_same (vx _ _ _ (by omega) (by omega) (by omega) (by omega)))
          |(go_at_call 111;exact Calls.quiet_of_same (qE _ c[q].P c[q].g 4 c[q].ss (by exact(o.lets q u).kept (T:=λ_=>False) (kD) nF (λp=>p)) _ (by exact(o.are q u).kept (o.lets q u) (T:=λ_=>False) (kD) nF)))))
         go_wp2;go_roundw
         case rel=>exact⟨q+1,by omega,by go_num,o.kept (T:=λ_=>False) kD nF,n.kept (T:=λ_=>False) kD (λp=>p),f.trans (S':=λ_=>False) kD fE⟩
         case measure=>simp [intOf];omega
        .go_wp2;go_roundw
         case rel=>exact⟨d-1,_,by omega,by omega,rfl,o,λh i z=>by rw [show d.toNat=0 from by omega],n,f⟩
         case measure=>simp [intOf];omega
    .go_wp2;go_ret;exact⟨rfl,B.marks (λi z=>N (by omega) i z),J⟩
def fx:ByteArray:=⟨#[40,109,105,110,101,41]⟩
def yv(i:Nat):List Value:=[.string fx,.int .i64 (i:Int),.bool false,.int .i64 0]
structure Qr (w:World) (P:Nat->Prop) (g:Nat) (ss:List (Option Addr×Nat×Nat)) (i:Nat):Prop where
 head:w.heap[g]? =some (.cells (ss.map gy).toArray 44 (0,0))
 are:∀s∈ss,∀j,j<s.2.1->∃b,s.1=some ⟨b,0,none⟩/\P b/\b<w.heap.size/\w.rangeAt b (j*4) (yv i)
 few:∀s∈ss,s.2.1<=9223372036854775807
 len:ss.length<=100
theorem Qr.kept{P:Nat->Prop}{c:List (Option Addr×Nat×Nat)}{i:Nat}(h:Qr w P g c i)(k:za T w w')(l:∀i,P i->¬T i)(f:¬T g):Qr w' P g c i:=
 ⟨(k.block g (lT h.head) f).trans h.head,λs e j m=>by
   obtain⟨b,p,h2,d,o⟩:=h.are s e j m
   exact⟨b,p,h2,ay d k.size,λt v n=>(k.cell (a:=⟨b,j*4+t,none⟩) d (l b h2)).trans (o t v n)⟩,h.few,h.len⟩
theorem Qr.cell{P:Nat->Prop}{a:List (Option Addr×Nat×Nat)}{q:Nat}(h:Qr w P g a q)(i:Nat)(b:i<a.length):w.cell? ⟨g,i,none⟩=some (.slice a[i].1 a[i].2.1 a[i].2.2):=by
 rw [aG w g i _ _ _ h.head];simp [b,gy]
structure fA (w:World) (F:Nat->Prop) (v:Value) (es:List xZ):Prop where
 row:w.ownsRow 0 129 1 v es.length (es.map xZ.val)
 vets:∀i (hi:i<es.length),Qr w es[i].P es[i].g es[i].ss i
 foot:∀i (hi:i<es.length),F es[i].g/\∀k,es[i].P k->F k
 foot2:∀k,v.ownBlock=some k->F k
 row2:∀i (hi:i<es.length) k,es[i].P k->v.ownBlock≠some k
theorem fA.kept{c:List xZ}(h:fA w F v c)(k:za T w w')(b:∀i,F i->¬T i):fA w' F v c:=
 ⟨k.owns h.row (λi a=>b i (h.foot2 i a)),λi a=>(h.vets i a).kept k (λj d=>b j ((h.foot i a).2 j d)) (b _ (h.foot i a).1),h.foot,h.foot2,h.row2⟩
theorem fA.cell{a:List xZ}(h:fA w F (.slice (some ⟨g,0,none⟩) a.length cap) a)(i:Nat)(b:i<a.length):w.cell? ⟨g,i,none⟩=some (.slice (some ⟨a[i].g,0,none⟩) a[i].ss.length 4):=by
 have:=h.row.cells (g:=g) rfl i a[i].val (by simp [b]);rw [eO] at this;simpa [xZ.val] using this
theorem fA.rowAt{b:List xZ}(h:fA w F (.slice a b.length cap) b)(j:0<b.length):∃g,a=some ⟨g,0,none⟩:=by
 rcases h.row.2 with⟨i,f⟩|⟨g,d,e,c,_⟩;.omega
 .cases c;exact⟨g,rfl⟩
structure xx (w:World) (bp:Nat) (l:Value) (F H:Nat->Prop) (a b:Option Addr) (ca cb:Nat) (es vs:List xZ):Prop where
 head:yn w bp l (.slice a es.length ca) (.slice b vs.length cb)
 bytes:xu w F (.slice a es.length ca) es (λi=>vP i 0)
 rows:fA w H (.slice b vs.length cb) vs
 fbp:¬F bp
 hbp:¬H bp
 apart:∀k,F k->¬H k
 few:es.length<=4398046511104
 few2:vs.length<=4398046511104
 flt:∀k,F k->k<w.heap.size
 hlt:∀k,H k->k<w.heap.size
theorem xx.kept{g:Nat->Prop}{b:Option Addr}{f d:Nat}{e vs:List xZ}(h:xx w bp l F g a b f d e vs)(k:za T w w')(hF:∀i,F i->¬T i)(j:∀i,g i->¬T i)(m:¬T bp):xx w' bp l F g a b f d e vs:=
 ⟨h.head.kept k m,h.bytes.kept k hF,h.rows.kept k j,h.fbp,h.hbp,h.apart,h.few,h.few2,λi c=>ay (h.flt i c) k.size,λi c=>ay (h.hlt i c) k.size⟩
theorem JY(w:World)(bp:Nat)(l:Value)(F D:Nat->Prop)(a b:Option Addr)(q v:Nat)(r vs:List xZ)(h:xx w bp l F D a b q v r vs):
 Calls Tryz.prog 38 #[.pointer (some ⟨bp,1,none⟩)] w λe w'=>e=.returned (.bool true)/\xx w' bp l F D a b q v r vs/\za F w w':=by
 have J:Hid _:=h;have K:=h.few2;clear h;go_enter Tryz.func38,Tryz.ntmps38;go_wp2;go_loopw [3] (λt wr=>∃k:Nat,k<=vs.length/\t=.int .i64 k/\xx wr bp l F D a b q v r vs/\za (λ_=>False) w wr) (λt _=>vs.length-(intOf t).toNat)
 case atStart=>exact⟨0,aj _,rfl,J,za.refl _ _⟩
 case round=>
  obtain⟨k,Q,rfl,f,c⟩:=hrel;have d:Hid _:=f;have E:Hid _:=c;have z:=f.head.c.2.2.1;clear f c;by_cases n:k<vs.length
  .obtain⟨g,rfl⟩:=d.rows.rowAt (by omega);have M:=(d.rows.vets k n).len;go_wp2;go_loopw [4] (λt wr=>∃i:Nat,i<=vs[k].ss.length/\t=.int .i64 i/\xx wr bp l F D a (some ⟨g,0,none⟩) q v r vs/\za (λ_=>False) w wr) (λt _=>vs[k].ss.length-(intOf t).toNat)
   case atStart=>exact⟨0,aj _,rfl,d,E⟩
   case round=>
    obtain⟨i,s,rfl,f,c⟩:=hrel;have p:Hid _:=f;have m:Hid _:=c;have z:=f.head.c.2.2.1;have G:=p.rows.cell k n;clear f c;by_cases o:i<vs[k].ss.length
    .have A:=(p.rows.vets k n).cell i o;have N:=(p.rows.vets k n).few _ (ai o);go_wp2;go_loopw [5] (λt wr=>∃j:Nat,j<=vs[k].ss[i].2.1/\t=.int .i64 j/\xx wr bp l F D a (some ⟨g,0,none⟩) q v r vs/\za (λ_=>False) w wr) (λt _=>vs[k].ss[i].2.1-(intOf t).toNat)
     case atStart=>exact⟨0,aj _,rfl,p,m⟩
     case round=>
      obtain⟨j,U,rfl,f,c⟩:=hrel;have z:=f.head.c.2.2.1;have G:=f.rows.cell k n;have A:=(f.rows.vets k n).cell i o;change Hid _ at f c;by_cases B:j<vs[k].ss[i].2.1
      .obtain⟨b',C,h2,T,u⟩:=(f.rows.vets k n).are _ (ai o) j B;have R:wr.cell? ⟨b',j*4,none⟩=some (.string fx):=u 0 _ rfl;have S:wr.cell? ⟨b',j*4+1,none⟩=some (.int .i64 (k:Int)):=u 1 _ rfl;have O:wr.cell? ⟨b',j*4+2,none⟩=some (.bool false):=u 2 _ rfl;have P:wr.cell? ⟨b',j*4+3,none⟩=some (.int .i64 0):=u 3 _ rfl;rw [C] at A;change Hid _ at C;clear u;have H:fx.toList=[40,109,105,110,101,41]:=by rw [eC];rfl
       go_wp2;go_roundw
       case rel=>exact⟨j+1,by omega,by go_num,f.kept (za.alloc (λ_=>False) wr _) nF nF (λI=>I),c.trans (za.alloc (λ_=>False) wr _) iL⟩
       case measure=>simp [intOf];omega
      .go_wp2;go_roundw
       case rel=>exact⟨i+1,by omega,by go_num,f,c⟩
       case measure=>simp [intOf];omega
    .go_wp2;go_roundw
     case rel=>exact⟨k+1,by omega,by go_num,p,m⟩
     case measure=>simp [intOf];omega
  .go_wp2_with (go_at_call 64;refine(dz _ bp l _ F a q r d.head d.fbp d.bytes d.few).mono ?_;rintro e w' ⟨rfl,y,x⟩;have m:Hid _:=x;change Hid _ at y;clear x);go_ret;exact⟨rfl,⟨d.head.kept m d.fbp,y,d.rows.kept m (λi s L=>d.apart i L s),d.fbp,d.hbp,d.apart,d.few,d.few2,λi s=>ay (d.flt i s) m.size,λi s=>ay (d.hlt i s) m.size⟩,(E.mono fE).trans m iL⟩
end book
namespace book
open Go.RowKit disk ref
structure KV (w w':World) (e:TypeId) (size:Nat) (v:Value) (n m:Nat) (xs:List Value) (r:Value):Prop where
 keeps:w'.ownsRow 0 e size v n xs
 kept:za (λk=>v.ownBlock=some k) w w'
 res:(∃g cx,v=.slice (some ⟨g,0,none⟩) n cx/\r=.slice (some ⟨g,0,none⟩) (n+m) cx/\n+m<=cx)\/
  (∃cap cur,r=.slice (some ⟨w.heap.size,0,none⟩) (n+m) cap/\w'.heap[w.heap.size]? =some (.cells cur e (0,0))/\(n+m)*size<=cur.size)
theorem jX{P:Program}(w:World)(t B e:TypeId)(i:TypeInfo)(z:Value)(f bytes:Nat)(C:P.underlying t=some (.slice e))(E:P.info? e=some i)(J:i.zero=some z)
 (x:i.size=f) (K:i.bytes=bytes) (U:z.cells.size=f) (v:Value) (n:Nat) (xs:List Value) (b:w.ownsRow 0 e f v n xs)
 (a:Addr) (m c:Nat) (d:List Value) (p:d.length=m*f) (l:∀j u,d[j]? =some u->w.cell? (a.add j)=some u) (R:∀u∈d,u.oneCell'=true) (V:0<m)
 (I:n+m<=maxLen) (o:(n+m)*bytes<=140737488355328):
 ∃r w',(Builtin.append_ #[t,t] B #[v,.slice (some a) m c]).run P w=.ok r w'/\KV w w' e f v n m xs r:=by
 subst x;subst K;have F:n+m<=9223372036854775807:=by simp only [maxLen] at I;omega
 rcases b.2 with⟨rfl,rfl⟩|⟨g,cap,q,rfl,L,H,M,G,N,A⟩
 .have T:xs=[]:=aY (by simpa using b.1);subst T;have s:=run_append_nil (P:=P) w t B e i z C E J a m c d p l (by omega) (by omega) (by have O:=o;simp only [eT] at O;omega);refine⟨_,_,s,aV _ _ _ _,(za.drew _ w).trans (za.alloc _ _ _) iL,.inr ⟨_,_,by rw [eT],ac w.drew _,?_⟩⟩;simp only [Array.size_append,aq,p,eT];omega
 .by_cases h:n+m<=cap
  .have D:n*i.size+d.length<=q.size:=by rw [p,N,<-eJ];exact ee _ h
   have s:=run_append_room (P:=P) w t B e i C E g n cap q H a m c d p l R h D;refine⟨_,_,s,⟨b.1,.inr ⟨g,cap,_,rfl,L,setRow_heap w g q _ e _ H,M,G,?_,?_⟩⟩,⟨rfl,rfl,rfl,by simp,λk _ Q=>setRow_other w g k _ (λe=>Q (by simp [Value.ownBlock,e]))⟩,.inl ⟨g,cap,rfl,rfl,h⟩⟩
   .simp only [aq,ag,aC,aS,ik];omega
   .rw [iQ,A,ak,<-b.1];exact iE
  .have y:∀j u,xs[j]? =some u->w.cell? ((⟨g,0,none⟩:Addr).add j)=some u:=b.cells (g:=g) rfl;have s:=run_append_grow (P:=P) w t B e i z C E J ⟨g,0,none⟩ n cap xs b.1 y a m c d p l (by omega) (by omega) (growslice_fits (by omega) o);have k:∀S:Nat->Prop,za S w (w.drew.alloc (.cells (xs.toArray++d.toArray++Builtin.zeroCells z.cells (grownCap w (n+m) cap e-(n+m))) e)):=λS=>(za.drew _ w).trans (za.alloc _ _ _) iL;refine⟨_,_,s,(k (λ_=>False)).owns b nF,k _,.inr ⟨_,_,rfl,ac w.drew _,?_⟩⟩;simp only [Array.size_append,aq,p,b.1,eJ];omega
theorem xf{P:Program}{w:World}{l:Array Oper}{rest:List Oper}{x:Oper}{a:Act}{Q:Exit->Act->World->Prop}(q:x.guard=none)(s N:Operand)(t:TypeId)
 (G:x.op=.call {callee:=.builtin .append,args:=#[s,N],argTypes:=#[t,t] })
 (e:TypeId) (i:TypeInfo) (z:Value) (b bytes:Nat) (C:P.underlying t=some (.slice e)) (K:P.info? e=some i) (F:i.zero=some z)
 (g:i.size=b) (A:i.bytes=bytes) (B:z.cells.size=b) (v:Value) (n:Nat) (xs:List Value) (J:a.eval s=v) (o:w.ownsRow 0 e b v n xs)
 (p:Addr) (m c:Nat) (d:List Value) (L:a.eval N=.slice (some p) m c) (H:d.length=m*b) (k:∀j u,d[j]? =some u->w.cell? (p.add j)=some u) (E:∀u∈d,u.oneCell'=true) (M:0<m)
 (y:n+m<=maxLen) (f:(n+m)*bytes<=140737488355328)
 (h:∀r w',KV w w' e b v n m xs r->wpList P l Q rest (a.put x.dst r) w'):wpList P l Q (x::rest) a w:=by
 refine md q λO D=>?_;obtain⟨r,w',I,h2⟩:=jX (P:=P) w t x.type e i z b bytes C K F g A B v n xs o p m c d H k E M y f;unfold Oper.wp execOp;simp only [G,resolve,invoke,builtin,ie,iI,eD,li,aO,ig,J,L,I];exact D _ _ (h r w' h2)
theorem KV.form{w w':World}{e:TypeId}{b:Nat}{v:Value}{n m:Nat}{xs:List Value}{r:Value}(h:KV w w' e b v n m xs r):∃g c,r=.slice (some ⟨g,0,none⟩) (n+m) c/\
 ((v=.slice (some ⟨g,0,none⟩) n c/\n+m<=c)\/(g=w.heap.size/\∃a,w'.heap[g]? =some (.cells a e (0,0))/\(n+m)*b<=a.size)):=by
 rcases h.res with⟨g,i,d,h2,f⟩|⟨cap,a,d,h2,f⟩;.exact⟨g,i,h2,.inl ⟨d,f⟩⟩
 .exact⟨w.heap.size,cap,d,.inr ⟨rfl,a,h2,f⟩⟩
end book
namespace book
open Go.ChangeShapes Go.WideShapes Go.ChangeAt Go.RowKit disk ref
open keys (zh ze zy zs)
variable {w:World}{n:Nat}{xs:List Value}
theorem Tryz.infoLetters:(Tryz.prog.info? 179).map (λi=>(i.zero,i.size,i.bytes))=some (some (.slice none 0 0),1,24):=by kernel_rfl
theorem gx.of_own{b:Nat}{a:Option Addr}{cap:Nat}{t:TypeId}(h:w.ownsRow b t 1 (.slice a n cap) n xs)(P:Nat->Prop)(j:∀k,(Value.slice a n cap).ownBlock=some k->P k):gx w P t a n:=by
 rcases h.2 with⟨l,d⟩|⟨g,e,c,i,o,f,d,h2,m,p⟩;.exact .inl d
 .cases i;exact .inr ⟨g,c,rfl,j g rfl,f,by omega⟩
theorem KV.room{w' b:World}{e:TypeId}{v:Value}{m:Nat}{g c:Nat}(h:(v=.slice (some ⟨g,0,none⟩) n c/\n+m<=c)\/(g=w.heap.size/\∃a,w'.heap[g]? =some (.cells a e (0,0))/\(n+m)*1<=a.size))
 (f:b.ownsRow 0 e 1 v n xs) (i:za (λk=>v.ownBlock=some k) w' b) (s:∀k,v.ownBlock=some k->k<w.heap.size) (P:Nat->Prop) (t:∀k,v.ownBlock=some k->P k) (r:∀k,w.heap.size<=k->k<b.heap.size->P k):gx b P e (some ⟨g,0,none⟩) (n+m):=by
 rcases h with⟨rfl,h2⟩|⟨rfl,a,l,h2⟩
 .rcases f.2 with⟨p,_⟩|⟨A,o,a,j,_,q,x,y,z,_⟩;.cases p
  .cases j;exact .inr ⟨g,a,rfl,t g rfl,q,by omega⟩
 .have d:=(lT l);refine .inr ⟨w.heap.size,a,rfl,r _ (aF _) (ay d i.size),(i.block _ d (λu=>?_)).trans l,by omega⟩;have:=s _ u;omega
theorem UH{e g f:World}{c:Option Addr}{b:Nat}{u t v:Obj}{j i l m o p:Nat}(F:w.ownsRow 0 5 1 (.slice c n b) n xs)(K:n<=1000)
 (E:KV (w.alloc u) e 5 1 (.slice c n b) n 1 xs (.slice (some ⟨j,0,none⟩) (n+1) m)) (D:(Value.slice c n b=.slice (some ⟨j,0,none⟩) n m/\n+1<=m)\/(j=(w.alloc u).heap.size/\∃d,e.heap[j]? =some (.cells d 5 (0,0))/\(n+1)*1<=d.size))
 (h2:KV (e.alloc t) g 5 1 (.slice c n b) n 2 xs (.slice (some ⟨i,0,none⟩) (n+2) o)) (G:(Value.slice c n b=.slice (some ⟨i,0,none⟩) n o/\n+2<=o)\/(i=(e.alloc t).heap.size/\∃d,g.heap[i]? =some (.cells d 5 (0,0))/\(n+2)*1<=d.size))
 (q:KV (g.alloc v) f 5 1 (.slice c n b) n 3 xs (.slice (some ⟨l,0,none⟩) (n+3) p)) (C:(Value.slice c n b=.slice (some ⟨l,0,none⟩) n p/\n+3<=p)\/(l=(g.alloc v).heap.size/\∃d,f.heap[l]? =some (.cells d 5 (0,0))/\(n+3)*1<=d.size)):
 xM (f.alloc (.cells #[.slice c n b,.slice (some ⟨j,0,none⟩) (n+1) m,.slice (some ⟨i,0,none⟩) (n+2) o,.slice (some ⟨l,0,none⟩) (n+3) p] 35)) (λk=>(Value.slice c n b).ownBlock=some k\/(w.heap.size<=k/\k<f.heap.size)) f.heap.size
  [(c,n,b),(some ⟨j,0,none⟩,n+1,m),(some ⟨i,0,none⟩,n+2,o),(some ⟨l,0,none⟩,n+3,p)]/\za (λk=>(Value.slice c n b).ownBlock=some k) w f:=by
 have x:∀k,(Value.slice c n b).ownBlock=some k->k<w.heap.size:=λk a=>(F.lt k a).2;have k1:za (λk=>(Value.slice c n b).ownBlock=some k) w e:=(za.alloc _ w u).trans E.kept iL;have k2:za (λk=>(Value.slice c n b).ownBlock=some k) e g:=(za.alloc _ e t).trans h2.kept iL;have k3:za (λk=>(Value.slice c n b).ownBlock=some k) g f:=(za.alloc _ g v).trans q.kept iL;have z:=k2.trans k3 iL;have A:=k1.trans z iL;have B:=za.alloc (λ_=>False) f (.cells #[.slice c n b,.slice (some ⟨j,0,none⟩) (n+1) m,.slice (some ⟨i,0,none⟩) (n+2) o,.slice (some ⟨l,0,none⟩) (n+3) p] 35);have J:=k1.size;have H:=k2.size;have L:=k3.size;refine⟨⟨ac f _,λs r=>?_,λy=>?_,λs r=>?_,by simp⟩,A⟩
 .have M:(w.alloc u).heap.size=w.heap.size+1:=by simp
  have I:(e.alloc t).heap.size=e.heap.size+1:=by simp
  have N:(g.alloc v).heap.size=g.heap.size+1:=by simp
  simp only [ar,ic,or_false] at r;refine gx.kept ?_ B nF;rcases r with rfl|rfl|rfl|rfl;.exact gx.of_own q.keeps _ (λk a=>.inl a)
  .exact KV.room D q.keeps z (λk a=>by have:=x k a;omega) _ (λk a=>.inl a) (λk a h=>.inr ⟨by omega,h⟩)
  .exact KV.room G q.keeps k3 (λk a=>by have:=x k a;omega) _ (λk a=>.inl a) (λk a h=>.inr ⟨by omega,h⟩)
  .exact KV.room C q.keeps (za.refl _ _) (λk a=>by have:=x k a;omega) _ (λk a=>.inl a) (λk a h=>.inr ⟨by omega,h⟩)
 .rcases y with y|y;.have:=x _ y;omega
  .omega
 .simp only [ar,ic,or_false] at r;rcases r with rfl|rfl|rfl|rfl<;>simp<;>omega
theorem xx.push{x:World}{bp:Nat}{l:Value}{F U:Nat->Prop}{a b:Option Addr}{s R:Nat}{f vs:List xZ}(h:xx w bp l F U a b s R f vs)(af:f.length<4398046511104)(e:xZ)(ad:e.ss.length=4)
 (T:xM w e.P e.g e.ss) (ae:xM.Are w e.ss (.int .u8 (vP f.length 0))) (v:∀k,e.P k->¬F k/\¬U k/\k≠bp/\k<w.heap.size) (A:¬F e.g/\¬U e.g/\e.g≠bp/\e.g<w.heap.size)
 (ah:Obj) (o y:Nat) (B:x.ownsRow 0 179 1 (.slice (some ⟨o,0,none⟩) (f.length+1) y) (f.length+1) (f.map xZ.val++[.slice (some ⟨e.g,0,none⟩) 4 4]))
 (I:(w.alloc ah).grownBy x (Value.slice a f.length s).ownBlock) (L:(Value.slice a f.length s).ownBlock=some o\/o=w.heap.size+1):
 xx (x.setCell ⟨bp,1,none⟩ (.slice (some ⟨o,0,none⟩) (f.length+1) y)) bp l (λk=>F k\/e.P k\/k=e.g\/k=o) U (some ⟨o,0,none⟩) b y R (f++[e]) vs/\
  za (λk=>(Value.slice a f.length s).ownBlock=some k\/k=bp) w (x.setCell ⟨bp,1,none⟩ (.slice (some ⟨o,0,none⟩) (f.length+1) y)):=by
 have X:=h.head.lt;have r:∀k,(Value.slice a f.length s).ownBlock=some k->F k:=λk d=>h.bytes.foot2 k d;have k1:za (λk=>(Value.slice a f.length s).ownBlock=some k) w x:=(za.alloc _ w ah).trans (za.grown (S:=λk=>(Value.slice a f.length s).ownBlock=some k) I (λk d=>d)) iL;have k2:=za.setCell (S:=λk=>k=bp) x ⟨bp,1,none⟩ (.slice (some ⟨o,0,none⟩) (f.length+1) y) rfl;have u:za (λk=>(Value.slice a f.length s).ownBlock=some k\/k=bp) w (x.setCell ⟨bp,1,none⟩ (.slice (some ⟨o,0,none⟩) (f.length+1) y)):=(k1.mono iL).trans k2 (λ_ h=>.inl (.inr h));have t:(f++[e]).length=f.length+1:=by simp
 have z:(F o\/w.heap.size<=o):=by
  rcases L with g|g;.exact .inl (r _ g)
  .exact .inr (by omega)
 have J:o≠bp:=by
  rcases z with q|q;.exact λg=>h.fbp (by rw [<-g];exact q)
  .omega
 have aa:¬U o\/w.heap.size<=o:=by
  rcases z with q|q;.exact .inl (h.apart _ q)
  .exact .inr q
 have p:∀i (n:i<(f++[e]).length),(∃m:i<f.length,(f++[e])[i]=f[i])\/(i=f.length/\(f++[e])[i]=e):=λi n=>by
  by_cases q:i<f.length;.exact .inl ⟨q,iH q⟩
  .right;have g:i=f.length:=by omega
   subst g;exact⟨rfl,by simp⟩
 have M:∀i (n:i<f.length) k,f[i].P k->¬((Value.slice a f.length s).ownBlock=some k\/k=bp):=λi n k d c=>by
  rcases c with c|c;.exact h.bytes.row2 i n k d c
  .exact h.fbp (by rw [<-c];exact(h.bytes.foot i n).2 k d)
 have Q:∀i (n:i<f.length),¬((Value.slice a f.length s).ownBlock=some f[i].g\/f[i].g=bp):=λi n c=>by
  rcases c with c|c
  .rcases h.bytes.row.2 with⟨aj,q⟩|⟨ak,Z,ai,ab,_,V,_⟩;.omega
   .rw [ab] at c;simp [Value.ownBlock] at c;subst c;have:=(h.bytes.lets i n).head;rw [V] at this;simp at this
  .exact h.fbp (by rw [<-c];exact(h.bytes.foot i n).1)
 have N:∀k,e.P k->¬((Value.slice a f.length s).ownBlock=some k\/k=bp):=λk d c=>by
  rcases c with c|c;.exact(v k d).1 (r k c)
  .exact(v k d).2.2.1 c
 have O:¬((Value.slice a f.length s).ownBlock=some e.g\/e.g=bp):=λc=>by
  rcases c with c|c;.exact A.1 (r _ c)
  .exact A.2.2.1 c
 have G:=h.flt;have C:=h.hlt;have Y:=u.size
 have H:o<(x.setCell ⟨bp,1,none⟩ (.slice (some ⟨o,0,none⟩) (f.length+1) y)).heap.size:=by have:=(B.lt o rfl).2;simpa using this
 have P:∀k,F k->k<w.heap.size->(k=o->(Value.slice a f.length s).ownBlock=some k):=λk d ag g=>by
  rcases L with D|D;.rw [g];exact D
  .omega
 refine⟨⟨⟨?_⟩,⟨?_,λi n=>?_,λi n=>?_,λi j n ac K k d=>?_,λi n k d=>?_,λi n=>?_,λk d=>?_⟩,h.rows.kept u (λi n c=>?_),λc=>?_,h.hbp,λk d c=>?_,by rw [t];omega,h.few2,λk d=>?_,λk d=>by have:=C k d;omega⟩,u⟩
 .rw [t];have g:=(k1.block bp X (λc=>h.fbp (r bp c))).trans h.head.head;rw [heap_setCell_same x bp 1 _ _ _ g];rfl
 .rw [t,eh];have:=k2.owns B (λk d g=>by simp [Value.ownBlock] at d;omega);simpa [xZ.val,ad] using this
 .rcases p i n with⟨m,g⟩|⟨rfl,g⟩;.rw [g];exact(h.bytes.lets i m).kept u (M i m) (Q i m)
  .rw [g];exact T.kept u N O
 .rcases p i n with⟨m,g⟩|⟨rfl,g⟩;.rw [g];exact(h.bytes.are i m).kept (h.bytes.lets i m) u (M i m)
  .rw [g];exact ae.kept T u N
 .rcases p i n with⟨m,g⟩|⟨rfl,g⟩<;>rcases p j ac with⟨E,D⟩|⟨rfl,D⟩<;>rw [g] at d<;>rw [D]
  .exact h.bytes.apart i j m E K k d
  .exact⟨λc=>(v k c).1 ((h.bytes.foot i m).2 k d),λc=>A.1 (by rw [<-c];exact(h.bytes.foot i m).2 k d)⟩
  .exact⟨λc=>(v k d).1 ((h.bytes.foot j E).2 k c),λc=>(v k d).1 (by rw [c];exact(h.bytes.foot j E).1)⟩
  .exact absurd rfl K
 .rw [t];simp only [Value.ownBlock,ne_eq,ij];intro W;rcases p i n with⟨m,g⟩|⟨rfl,g⟩<;>rw [g] at d
  .have hF:=(h.bytes.foot i m).2 k d;exact h.bytes.row2 i m k d (P k hF (G k hF) W.symm)
  .rcases z with q|q;.exact(v k d).1 (by rw [<-W];exact q)
   .have:=(v k d).2.2.2;omega
 .rcases p i n with⟨m,g⟩|⟨rfl,g⟩<;>rw [g]
  .exact⟨.inl (h.bytes.foot i m).1,λk d=>.inl ((h.bytes.foot i m).2 k d)⟩
  .exact⟨.inr (.inr (.inl rfl)),λk d=>.inr (.inl d)⟩
 .rw [t] at d;simp only [Value.ownBlock,ij] at d;exact .inr (.inr (.inr d.symm))
 .rcases c with c|c;.exact h.apart i (r i c) n
  .exact h.hbp (by rw [<-c];exact n)
 .rcases c with c|c|c|c;.exact h.fbp c
  .exact(v bp c).2.2.1 rfl
  .exact A.2.2.1 c.symm
  .exact J c.symm
 .rcases d with d|d|d|d;.exact h.apart k d c
  .exact(v k d).2.1 c
  .exact A.2.1 (by rw [<-d];exact c)
  .rcases z with q|q;.exact h.apart o q (by rw [<-d];exact c)
   .have:=C k c;omega
 .rcases d with d|d|d|d;.have:=G k d;omega
  .have:=(v k d).2.2.2;omega
  .have:=A.2.2.2;omega
  .rw [d];exact H
theorem cH(w:World)(bp:Nat)(l:Value)(F ax S:Nat->Prop)(a b:Option Addr)(ab ai:Nat)(p vs:List xZ)(h:xx w bp l F ax a b ab ai p vs)(aE:p.length<=2199023255552)
 (q:Option Addr) (n o:Nat) (xs:List Value) (P:w.ownsRow 0 5 1 (.slice q n o) n xs) (aB:n<=1000) (H:∀k,(Value.slice q n o).ownBlock=some k->S k) (B:∀k,S k->¬F k/\¬ax k/\k≠bp):
 Calls Tryz.prog 106 #[.pointer (some ⟨bp,1,none⟩),.slice q n o] w λe w'=>e=.returned (.tuple #[])/\
  (∃ao ah W F',xx w' bp l F' ax ao b ah ai W vs/\W.length=p.length+1/\∀k,F' k->F k\/S k\/w.heap.size<=k)/\za (λk=>F k\/S k\/k=bp) w w':=by
 have O:Hid _:=h;have aL:=h.head.c.2.1;have aI:=h.head.lt;obtain⟨A,s,t,u,r⟩:=yy Tryz.infoU8;have g:Hid (Tryz.prog.info? 5=some A/\A.zero=some (.int .u8 0)/\A.size=1/\A.bytes=1):=⟨s,t,u,r⟩;clear s t u r;obtain⟨L,s,t,u,r⟩:=yy Tryz.infoLetters;have G:Hid (Tryz.prog.info? 179=some L/\L.zero=some (.slice none 0 0)/\L.size=1/\L.bytes=24):=⟨s,t,u,r⟩;change Hid _ at P;clear s t u r h;have Y:=Zv p.length 0;go_enter Tryz.func106,Tryz.ntmps106;go_wp2_with fail;refine(vx _ _ _ (by omega) (by omega) (by omega) (by omega)).mono ?_;rintro e aD ⟨rfl,Q⟩;rw [Q];clear Q aD;rw [mu];generalize V:vP p.length (Int.toNat 0)=z at*;have K:vP p.length 0=z:=V;clear V;rw [K] at Y;change Hid _ at K
 go_wp2_with (first
  |(refine xf rfl (.tmp 13) (.tmp 15) 35 rfl 5 A _ 1 1 Tryz.underlying35 g.1 g.2.1 g.2.2.1 g.2.2.2 rfl (.slice q n o) n xs (by rfl) (by exact er P _) ⟨w.heap.size,0,none⟩ 1 1 [.int .u8 z] (by rfl) (by rfl) (by exact World.news_of_block (ac w _)) (by simp [Value.oneCell']) (by omega) (by unfold maxLen;omega) (by omega) ?_;intro aN ae d;obtain⟨av,au,rfl,v⟩:=d.form;have T:Hid _:=d;have ak:Hid _:=v;clear d v)
  |(refine xf rfl (.tmp 17) (.tmp 20) 35 rfl 5 A _ 1 1 Tryz.underlying35 g.1 g.2.1 g.2.2.1 g.2.2.2 rfl (.slice q n o) n xs (by rfl) (by exact er T.keeps _) ⟨ae.heap.size,0,none⟩ 2 2 [.int .u8 z,.int .u8 z] (by rfl) (by rfl) (by exact World.news_of_block (ac ae _)) (by simp [Value.oneCell']) (by omega) (by unfold maxLen;omega) (by omega) ?_;intro aO al d;obtain⟨ar,ap,rfl,v⟩:=d.form;have X:Hid _:=d;have ag:Hid _:=v;clear d v)
  |(refine xf rfl (.tmp 22) (.tmp 26) 35 rfl 5 A _ 1 1 Tryz.underlying35 g.1 g.2.1 g.2.2.1 g.2.2.2 rfl (.slice q n o) n xs (by rfl) (by exact er X.keeps _) ⟨al.heap.size,0,none⟩ 3 3 [.int .u8 z,.int .u8 z,.int .u8 z] (by rfl) (by rfl) (by exact World.news_of_block (ac al _)) (by simp [Value.oneCell']) (by omega) (by unfold maxLen;omega) (by omega) ?_;intro aM J d;obtain⟨aF,az,rfl,v⟩:=d.form;change Hid _ at d v))
 have D:=UH P aB T ak X ag d v.out;change Hid _ at D;refine(yX _ _ J.heap.size 4 _ D.1 z Y.1 Y.2).mono ?_;rintro e x ⟨rfl,U,R,N⟩
 have I:za (λk=>(Value.slice q n o).ownBlock=some k) w x:=(D.2.trans (za.alloc _ _ _) iL).trans N (λk c=>by
  rcases c with c|c;.exact .inl c
  .exact .inr c.1)
 have f:=O.kept I (λi Z m=>(B i (H i m)).1 Z) (λi Z m=>(B i (H i m)).2.1 Z) (λm=>(B bp (H bp m)).2.2 rfl);have an:=f.head.c.2.1;have ay:=f.head.lt;change Hid _ at f I U R N;go_wp2_with (refine wpList_append_lies _ rfl (.tmp 36) (.tmp 38) 74 rfl 0 179 L _ 1 24 Tryz.underlying74 G.1 G.2.1 G.2.2.1 G.2.2.2 rfl (by omega) (.slice a p.length ab) p.length (p.map xZ.val) (by rfl) (by exact er f.bytes.row _) ⟨x.heap.size,0,none⟩ 1 1 [.slice (some ⟨J.heap.size,0,none⟩) 4 4] (by rfl) (by rfl) (by exact World.news_of_block (ac x _)) (by simp [Value.oneCell']) (by omega) (by unfold maxLen;omega) (by omega) (aj _) (x.heap.size+1) (by simp) ?_;intro aC aA am C j y aq;have aJ:am.cell? ⟨bp,1,none⟩=some (.slice a p.length ab):=(j.cell_far ⟨bp,1,none⟩ (by simp;omega) (λe=>f.fbp (f.bytes.foot2 bp e.symm))).trans (by simpa using f.kept (za.alloc (λ_=>False) x _) nF nF (λM=>M) |>.head.c.2.1);have aK:am.frozen? ⟨bp,1,none⟩=false:=(j.frozen_far ⟨bp,1,none⟩ (by simp;omega) (λe=>f.fbp (f.bytes.foot2 bp e.symm))).trans (by simpa using f.kept (za.alloc (λ_=>False) x _) nF nF (λM=>M) |>.head.c.2.2.2 1);change Hid _ at C j y);go_end0;have aH:=D.2.size;have aG:J.heap.size+1<=x.heap.size:=by have:=N.size;simpa using this
 have af:∀k,(Value.slice q n o).ownBlock=some k->k<w.heap.size:=λk c=>(World.ownsRow.lt P k c).2
 have E:=f.push (by omega) ⟨J.heap.size,[(q,n,o),(some ⟨av,0,none⟩,n+1,au),(some ⟨ar,0,none⟩,n+2,ap),(some ⟨aF,0,none⟩,n+3,az)],λk=>(Value.slice q n o).ownBlock=some k\/(w.heap.size<=k/\k<J.heap.size)⟩ rfl U (by rw [K.out];exact R)
  (λk c=>by
   have M:=O.flt k;have aw:=O.hlt k;rcases c with c|c;.have aa:=B k (H k c);have h2:=af k c;exact⟨aa.1,aa.2.1,aa.2.2,by omega⟩
   .exact⟨λm=>by have:=M m;omega,λm=>by have:=aw m;omega,by omega,by omega⟩)
  ⟨λm=>by have:=O.flt _ m;simp only at this;omega,λm=>by have:=O.hlt _ m;simp only at this;omega,by simp only;omega,by simp only;omega⟩ _ aC aA C j y.out
 refine⟨rfl,⟨_,_,_,_,E.1,by simp,λk c=>?_⟩,(I.mono (λk c=>.inr (.inl (H k c)))).trans E.2 (λk c=>?_)⟩
 .rcases c with c|c|c|c;.exact .inl c
  .rcases c with c|c;.exact .inr (.inl (H k c))
   .exact .inr (.inr c.1)
  .exact .inr (.inr (by simp only at c;omega))
  .rcases y.out with ad|ad;.exact .inl (f.bytes.foot2 k (by rw [c];exact ad))
   .exact .inr (.inr (by omega))
 .rcases c with c|c;.exact .inl (.inl (f.bytes.foot2 k c))
  .exact .inl (.inr (.inr c))
end book
namespace book
open Go.ChangeShapes Go.WideShapes Go.ChangeAt Go.RowKit disk ref
open keys (zh ze zy zs)
variable {w:World}{g n cap:Nat}{l:List UInt8}
theorem Zx(w:World)(P:Nat->Prop)(a:Option Addr)(cap:Nat)(l:List UInt8)(q:zL w P a l)(t:l.length<=140737488355326):
 Calls Tryz.prog 99 #[.slice a l.length cap] w λe w'=>∃p o,e=.returned (.slice p l.length o)/\w'.ownsRow 0 5 1 (.slice p l.length o) l.length (l.map qA)/\za (λ_=>False) w w'/\∀k,(Value.slice p l.length o).ownBlock=some k->w.heap.size<=k:=by
 obtain⟨f,n,j,m,i⟩:=yy Tryz.infoU8;have d:Hid (Tryz.prog.info? 5=some f/\f.zero=some (.int .u8 0)/\f.size=1/\f.bytes=1):=⟨n,j,m,i⟩;change Hid _ at q;clear n j m i;go_enter Tryz.func99,Tryz.ntmps99;go_wp2_with (refine yQ P rfl (.tmp 4) (.tmp 5) 35 rfl 5 f _ Tryz.underlying35 d.1 d.2.1 d.2.2.1 d.2.2.2 rfl a cap l (by rfl) (by rfl) (by exact q) (by omega) ?_;intro r s u c b g;change Hid _ at c b g);go_ret;exact⟨r,s,rfl,c,za.grown (S:=λ_=>False) b (λk h=>by cases h),λk h=>by rcases g.out with e|e<;>rw [e] at h<;>simp at h;omega⟩
theorem uz(w:World)(a:Option Addr)(n c:Nat):(binOp .eql 35 (.slice a n c) (.slice none 0 0)).run Tryz.prog w=.ok (.bool a.isNone) w:=Go.Lib.run_eql_slice_nil w 35 5 a n c 0 0 Tryz.underlying35
structure jO (w:World) (g n cap:Nat) (l:List UInt8):Prop where
 len:n=l.length
 at_:∃cur,w.heap[g]? =some (.cells cur 5 (0,0))/\n+2<=cap/\cap<=maxLen/\cur.size=cap/\cur.toList.take (n+2)=l.map qA++[.int .u8 77,.int .u8 77]
theorem jO.kept{w':World}{T:Nat->Prop}(h:jO w g n cap l)(k:za T w w')(d:¬T g):jO w' g n cap l:=by
 obtain⟨c,a,b,h2⟩:=h;exact⟨c,a,(k.block g (lT b) d).trans b,h2⟩
theorem jO.bytes(h:jO w g n cap l)(P:Nat->Prop)(d:P g):zL w P (some ⟨g,0,none⟩) l:=by
 obtain⟨i,a,b,h2,m,k,f⟩:=h;subst i;refine .inr ⟨g,0,rfl,d,(lT b),λj c=>?_⟩;rw [aG w g (0+j) _ _ _ b];have e:a.toList[0+j]? =(a.toList.take (l.length+2))[0+j]? :=by rw [lN,aB (by omega)]
 rw [<-iZ,e,f];rw [io (by simp;omega)];simp [c,qA]
theorem jO.cells(h:jO w g n cap l):(∀j (b:j<l.length),w.cell? ⟨g,j,none⟩=some (.int .u8 (l[j].toNat:Int)))/\w.cell? ⟨g,l.length,none⟩=some (.int .u8 77)/\w.cell? ⟨g,l.length+1,none⟩=some (.int .u8 77)/\∀i,w.frozen? ⟨g,i,none⟩=false:=by
 obtain⟨e,f,c,h2,m,k,d⟩:=h;subst e
 have a:∀j,j<l.length+2->w.cell? ⟨g,j,none⟩=(l.map qA++[.int .u8 77,.int .u8 77])[j]? :=λj b=>by rw [aG w g j _ _ _ c,<-iZ,<-d,lN,aB b]
 refine⟨λj b=>?_,?_,?_,λi=>aa w g i _ _ c⟩;.rw [a j (by omega),io (by simpa using b)];simp [b,qA]
 .rw [a _ (by omega),iB (by simp)];simp
 .rw [a _ (by omega),iB (by simp)];simp
theorem Vb(w:World)(P:Nat->Prop)(s:Addr)(cap:Nat)(l:List UInt8)(v:zL w P (some s) l)(F:l.length<=140737488355326):
 Calls Tryz.prog 91 #[.slice (some s) l.length cap] w λe w'=>∃g u,e=.returned (.slice (some ⟨g,0,none⟩) l.length u)/\jO w' g l.length u l/\za (λ_=>False) w w'/\w.heap.size<=g:=by
 obtain⟨n,r,o,p,q⟩:=yy Tryz.infoU8;have f:Hid (Tryz.prog.info? 5=some n/\n.zero=some (.int .u8 0)/\n.size=1/\n.bytes=1):=⟨r,o,p,q⟩;change Hid _ at v;clear r o p q;have E:=λw=>uz w (some s) l.length cap;go_enter Tryz.func91,Tryz.ntmps91;go_wp2_with fail;refine(Zx _ P _ cap l v F).mono ?_;rintro e i ⟨I,D,rfl,j,h,d⟩;have z:Hid _:=h;change Hid _ at j d;clear h;go_wp2_with (refine wpList_append_lies _ rfl (.tmp 8) (.tmp 9) 35 rfl 0 5 n _ 1 1 Tryz.underlying35 f.1 f.2.1 f.2.2.1 f.2.2.2 rfl (by omega) (.slice I l.length D) l.length (l.map qA) (by rfl) (by exact er j _) ⟨i.heap.size,0,none⟩ 2 2 [.int .u8 77,.int .u8 77] (by rfl) (by rfl) (by exact World.news_of_block (ac i _)) (by simp [Value.oneCell']) (by omega) (by unfold maxLen;omega) (by omega) (aj _) (i.heap.size+1) (by simp) ?_;intro g t J a b m H;have C:l.length+2<=t/\t<=9223372036854775807:=by {rcases a.2 with⟨c,_⟩|⟨_,_,_,c,_,_,x,h2,_⟩;cases c;cases c;unfold maxLen at h2;omega};change Hid _ at a b m);go_ret;have k1:za (λk=>w.heap.size<=k) i J:=(za.alloc _ i _).trans (za.grown (S:=λk=>w.heap.size<=k) b (λk h=>d k h)) iL;refine⟨g,t,rfl,⟨rfl,?_⟩,z.trans k1 (λk h=>.inr h),?_⟩
 .rcases a.2 with⟨c,_⟩|⟨L,A,y,c,_,x,h2,G,K,B⟩;.cases c
  .cases c;exact⟨y,x,h2,G,by omega,by simpa using B⟩
 .rcases m.out with e|e;.exact d g e
  .have:=z.size;omega
theorem Vc(w:World)(n cap:Nat):Calls Tryz.prog 91 #[.slice none n cap] w λe w'=>e=.returned (.slice none 0 0)/\w'=w:=by
 have a:=λw=>uz w none n cap;go_enter Tryz.func91,Tryz.ntmps91;go_wp2;go_ret;exact⟨rfl,rfl⟩
theorem Zy(w:World)(n cap:Nat):Calls Tryz.prog 92 #[.slice none 0 0,.slice none n cap] w λe w'=>e=.returned (.bool true)/\w'=w:=by
 have b:=λw=>uz w none n cap;have a:=λw=>uz w none 0 0;go_enter Tryz.func92,Tryz.ntmps92;go_wp2;go_ret;exact⟨rfl,rfl⟩
theorem Zz(w:World)(P:Nat->Prop)(p:Addr)(cap:Nat)(l:List UInt8)(r:zL w P (some p) l)(M:l.length<=140737488355326)(g c:Nat)(h:jO w g l.length c l)(I:¬P g):
 Calls Tryz.prog 92 #[.slice (some ⟨g,0,none⟩) l.length c,.slice (some p) l.length cap] w λe w'=>e=.returned (.bool true)/\za (λk=>k=g) w w':=by
 have D:Hid _:=h;have z:=λw=>uz w (some p) l.length cap;obtain⟨o,A,x,u⟩:=h.cells
 have y:l.length+2<=c/\c<=9223372036854775807:=by obtain⟨_,a,_,h2,q,_⟩:=h;unfold maxLen at q;omega
 change Hid _ at r o u;clear h;go_enter Tryz.func92,Tryz.ntmps92;go_wp2;go_loopw [6,7] (λB i wr=>∃k:Nat,k<=l.length/\i=.int .i64 k/\B=.bool true/\∃n,wr=w.drewN n) (λ_ i _=>l.length-(intOf i).toNat)
 case atStart=>exact⟨0,aj _,rfl,rfl,0,rfl⟩
 case round=>
  obtain⟨k,J,rfl,rfl,n,rfl⟩:=hrel;by_cases m:k<l.length
  .have F:=o.out k m;rcases r.out with v|⟨b,O,d,h2,q,s⟩;.rw [v] at m;simp at m
   .have E:=s k m;cases d;go_wp2;go_quiet (fail);go_wp2;go_roundw
    case rel=>exact⟨k+1,by omega,by go_num,rfl,_,rfl⟩
    case measure=>simp [intOf];omega
  .go_wp2;go_loopw [8] (λi wr=>∃k:Nat,k<=l.length+2/\i=.int .i64 k/\(∃a,wr.heap[g]? =some (.cells a 5 (0,0))/\l.length+2<=a.size)/\za (λk=>k=g) w wr) (λi _=>l.length+2-(intOf i).toNat)
   case atStart=>
    obtain⟨_,a,d,h2,q,s,K⟩:=D.out;exact⟨0,aj _,rfl,⟨a,d,by omega⟩,kD⟩
   case round=>
    obtain⟨j,N,rfl,⟨a,d,h2⟩,f⟩:=hrel;have t:Hid _:=d;change Hid _ at f;by_cases C:j<l.length+2
    .have G:wr.cell? ⟨g,j,none⟩=some (a[j]'(by omega)):=by rw [aG wr g j _ _ _ d];simp
     have H:=aa wr g j _ _ d;generalize a[j]'(by omega)=L at*;clear d;go_wp2;go_roundw
     case rel=>exact⟨j+1,by omega,by go_num,⟨_,heap_setCell_same wr g j _ _ _ t,by simpa using h2⟩,f.trans (za.setCell (S:=λk=>k=g) wr ⟨g,j,none⟩ _ rfl) iL⟩
     case measure=>simp [intOf];omega
    .clear d;go_wp2;go_ret;exact⟨rfl,f⟩
theorem vY(w:World)(P Q:Nat->Prop)(a b:Option Addr)(q o:Nat)(l:List UInt8)(j:zL w P a l)(h:zL w Q b l)(u:l.length<=140737488355326):
 Calls Tryz.prog 105 #[.slice a l.length q,.slice b l.length o] w λe w'=>e=.returned (.bool true)/\∃n,w'=w.drewN n:=by
 change Hid _ at j h;go_enter Tryz.func105,Tryz.ntmps105;go_wp2;go_loopw [5] (λi wr=>∃k:Nat,k<=l.length/\i=.int .i64 k/\∃n,wr=w.drewN n) (λi _=>l.length-(intOf i).toNat)
 case atStart=>exact⟨0,aj _,rfl,0,rfl⟩
 case round=>
  obtain⟨k,x,rfl,n,rfl⟩:=hrel;by_cases c:k<l.length
  .rcases j.out with f|⟨t,z,p,_,_,m⟩;.rw [f] at c;simp at c
   rcases h.out with f|⟨v,y,g,_,_,d⟩;.rw [f] at c;simp at c
   have s:=m k c;have r:=d k c;subst p g;clear m d;go_wp2;go_quiet (fail);go_wp2;go_roundw
   case rel=>exact⟨k+1,by omega,by go_num,_,rfl⟩
   case measure=>simp [intOf];omega
  .go_wp2;go_ret;exact⟨rfl,_,rfl⟩
end book
namespace law
open Go.ChangeShapes Go.WideShapes Go.ChangeAt Go.RowKit disk ref book
open keys (zh ze zy zs)
variable {w:World}{bo:Nat}
structure zQ where
 d:Value
 s:Value
 is:Value
 mb:Value
 k0:Value
 k1:Value
 k2:Value
 k3:Value
 died:Int
 told:Int
 shut:Bool
def zQ.cells(h:zQ):Array Value:=#[h.d,h.s,h.is,h.mb,h.k0,h.k1,h.k2,h.k3,.int .i64 h.died,.int .i64 h.told,.bool h.shut]
structure zp (w:World) (bo:Nat) (h:zQ):Prop where
 head:w.heap[bo]? =some (.cells h.cells 125 (0,0))
theorem zp.lt{h:zQ}(a:zp w bo h):bo<w.heap.size:=(lT a.head)
theorem zp.kept{w':World}{T:Nat->Prop}{h:zQ}(b:zp w bo h)(k:za T w w')(a:¬T bo):zp w' bo h:=⟨(k.block bo b.lt a).trans b.head⟩
theorem zp.at_{h:zQ}(b:zp w bo h){i:Nat}{v:Value}(a:h.cells[i]? =some v):w.cell? ⟨bo,i,none⟩=some v:=by
 rw [aG w bo i _ _ _ b.head];exact a
theorem zp.fz{h:zQ}(a:zp w bo h)(i:Nat):w.frozen? ⟨bo,i,none⟩=false:=aa w bo i _ _ a.head
theorem zp.c0{h:zQ}(a:zp w bo h):w.cell? ⟨bo,0,none⟩=some h.d:=a.at_ rfl
theorem zp.c1{h:zQ}(a:zp w bo h):w.cell? ⟨bo,1,none⟩=some h.s:=a.at_ rfl
theorem zp.c2{h:zQ}(a:zp w bo h):w.cell? ⟨bo,2,none⟩=some h.is:=a.at_ rfl
theorem zp.c3{h:zQ}(a:zp w bo h):w.cell? ⟨bo,3,none⟩=some h.mb:=a.at_ rfl
theorem zp.c8{h:zQ}(a:zp w bo h):w.cell? ⟨bo,8,none⟩=some (.int .i64 h.died):=a.at_ rfl
theorem zp.c9{h:zQ}(a:zp w bo h):w.cell? ⟨bo,9,none⟩=some (.int .i64 h.told):=a.at_ rfl
theorem zp.c10{h:zQ}(a:zp w bo h):w.cell? ⟨bo,10,none⟩=some (.bool h.shut):=a.at_ rfl
theorem zp.set{h:zQ}(a:zp w bo h)(i:Nat)(v:Value)(h':zQ)(e:h'.cells=h.cells.setIfInBounds i v):zp (w.setCell ⟨bo,i,none⟩ v) bo h':=
 ⟨by rw [heap_setCell_same w bo i _ _ _ a.head,e]⟩
theorem yF(w:World)(bo:Nat)(h:zQ)(j:zp w bo h)(bd:Nat)(b:h.d=.pointer (some ⟨bd,0,none⟩))(S:Nat->Prop)(D:Dk)(a:zg w bd S D):
 Calls Tryz.prog 149 #[.pointer (some ⟨bo,0,none⟩)] w λe w'=>e=.returned (.int .i64 D.bs.length)/\w'=w:=by
 have d:=j.c0;rw [b] at d;obtain⟨g,c,i,f,a⟩:=a;change Hid _ at a;clear b;go_enter Tryz.func149,Tryz.ntmps149;go_wp2_with (go_at_call 54;refine(jq _ bd S D g c i f a).mono ?_;rintro e w' ⟨rfl,rfl⟩);go_ret;exact⟨rfl,rfl⟩
theorem dA(w:World)(bo:Nat)(h:zQ)(j:zp w bo h)(bd:Nat)(d:h.d=.pointer (some ⟨bd,0,none⟩))(S:Nat->Prop)(D:Dk)(f:zg w bd S D)(a:D.fuse=0):
 Calls Tryz.prog 87 #[.pointer (some ⟨bo,0,none⟩)] w λe w'=>e=.returned (.bool true)/\(∃S',zg w' bd S' D/\∀k,S' k->S k)/\za S w w':=by
 have g:=j.c0;rw [d] at g
 have b:D.flush=D:=by cases D;simp only at a;subst a;rfl
 change Hid _ at f a b;clear d;go_enter Tryz.func87,Tryz.ntmps87;go_wp2_with fail;refine(yY _ bd S D f (by rw [a.out];exact⟨by omega,by omega⟩)).mono ?_;rintro e i ⟨rfl,c,h2⟩;rw [a.out];rw [b.out] at c;change Hid _ at c h2;go_wp2;go_ret;exact⟨rfl,c,h2⟩
def yo:Bool->Int->Int
 |false,c=>c
 |true,c=>if c=0\/c=5 then 8 else c
theorem kZ(w:World)(bo:Nat)(h:zQ)(j:zp w bo h)(f:Int):
 Calls Tryz.prog 104 #[.pointer (some ⟨bo,0,none⟩),.int .i64 f] w λe w'=>e=.returned (.int .i64 (yo h.shut f))/\w'=w:=by
 have d:=j.c10;cases c:h.shut
 .rw [c] at d;clear c;go_enter Tryz.func104,Tryz.ntmps104;go_wp2;go_ret;exact⟨rfl,rfl⟩
 .rw [c] at d;clear c;by_cases b:f=0
  .subst b;go_enter Tryz.func104,Tryz.ntmps104;go_wp2;go_ret;exact⟨rfl,rfl⟩
  .have g:(f==0)=false:=by simpa using b
   by_cases a:f=5
   .subst a;go_enter Tryz.func104,Tryz.ntmps104;go_wp2;go_ret;exact⟨rfl,rfl⟩
   .have i:(f==5)=false:=by simpa using a
    change Hid _ at b a;go_enter Tryz.func104,Tryz.ntmps104;go_wp2;go_ret;exact⟨zh (by show f=if f=0\/f=5 then 8 else f;rw [aw (λh=>h.elim b.out a.out)]),rfl⟩
def ZA(n last told died:Int):Bool:=decide (last<n/\n<=told+1+died)
theorem uA(w:World)(bo:Nat)(h:zQ)(j:zp w bo h)(g:Nat)(i:h.is=.pointer (some ⟨g,0,none⟩))(F u:Nat->Prop)(vs:List zB)(b:Int)(c:zG w F u g vs b)(n:Int)(r:0<=h.told)(p:h.told<=4611686018427387904)(t:0<=h.died)(l:h.died<=1152921504606846976):
 Calls Tryz.prog 96 #[.pointer (some ⟨bo,0,none⟩),.int .i64 n] w λe w'=>e=.returned (.bool (ZA n b h.told h.died))/\∃m,w'=w.drewN m:=by
 have f:=j.c2;have q:=j.c8;have o:=j.c9;rw [i] at f;obtain⟨a,cap,v,c⟩:=c;have s:=c.c1;clear c i;by_cases d:b<n
 .have k:decide (b<n)=true:=aJ d;go_enter Tryz.func96,Tryz.ntmps96;go_wp2;go_quiet (fail);go_wp2;go_ret;exact⟨ze (by unfold ZA;simp [d]),_,rfl⟩
 .have k:decide (b<n)=false:=decide_eq_false d;go_enter Tryz.func96,Tryz.ntmps96;go_wp2;go_quiet (fail);go_wp2;go_ret;exact⟨ze (by unfold ZA;rw [decide_eq_false (by omega)]),_,rfl⟩
end law
end Go.Proofs.YtcoengihaobddaaGreatDoor
