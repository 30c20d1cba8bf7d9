/- Part 4 of 50 of a proof: Tree6, Tree7, Disk5, Chg2, Chg3, Chg4, Map1 -/
import Derived.Test.YtcoengihaobddaaGreatDoorJe03
import Derived.Deep.RegionLaw
import Derived.Deep.RegionWith
import Derived.Shelf.Abstract
import Derived.Deep.DrawnRows
import Derived.Lib.BufferWrite
set_option maxHeartbeats 8000000
set_option linter.unusedVariables false
set_option linter.unusedSimpArgs false
set_option maxRecDepth 8000
namespace Go.Proofs.YtcoengihaobddaaGreatDoor
namespace prog
open Go.ChangeShapes Go.WideShapes Go.ChangeAt Go.RowKit disk ref
open keys (zg zd zq zl)
theorem Tryz.infoEntry:(Tryz.prog.info? 109).map (λi=>(i.zero,i.size,i.bytes))=some (some (.agg #[.string ⟨#[]⟩,.int .i64 0,.bool false,.int .i64 0,.int .i64 0]),5,48):=by kernel_rfl
theorem ql.of_own{w:World}{a:Option Addr}{cap:Nat}{c:List En}{P:Nat->Prop}(h:w.ownsRow 0 109 5 (.slice a c.length cap) c.length (c.map qE).flatten)(p:∀j,(Value.slice a c.length cap).ownBlock=some j->P j)(f:c.length<=1000):ql w P a c:=by
 refine⟨?_,f⟩;rcases h.2 with⟨_,q⟩|⟨g,i,r,o,_,m,_⟩;.exact .inl (ed q)
 .cases o;refine .inr ⟨g,0,rfl,p g rfl,(lT m),λk n=>?_⟩;have d:=h;rw [show c.length=(c.map qE).length from by simp] at d;have:=q9 d (λb l=>by obtain⟨e,_,rfl⟩:=av.1 l;rfl) k (by simpa using n);simpa using this
def JJ(args:Array Value):Sem Value:=Builtin.append_ #[207, 207] 207 args
theorem bO(args:Array Value):Builtin.append_ #[207, 207] 207 args=JJ args:=rfl
theorem Y6(w:World)(c:Option Addr)(i a:Nat)(f:List Value)(d:w.ownsRow 0 109 5 (.slice c i a) i f)(b:Nat)(e:En)(n:w.heap[b]? =some (.cells (qE e).toArray 109 (0,0)))(o:i<=1000):
 ∃g cap w',(JJ #[.slice c i a,.slice (some ⟨b,0,none⟩) 1 1]).run Tryz.prog w=.ok (.slice (some ⟨g,0,none⟩) (i+1) cap) w'/\w'.ownsRow 0 109 5 (.slice (some ⟨g,0,none⟩) (i+1) cap) (i+1) (f++qE e)/\w.grownBy w' (Value.slice c i a).ownBlock/\((Value.slice c i a).ownBlock=some g\/g=w.heap.size)/\g<w'.heap.size:=by
 obtain⟨m,l,j,k,h⟩:=info_parts Tryz.infoEntry;exact run_append_lies (P:=Tryz.prog) (w:=w) 207 207 0 109 m _ 5 48 Tryz.underlying207 l j k h rfl (by omega) (.slice c i a) i f d ⟨b,0,none⟩ 1 1 (qE e) rfl (World.news_of_block n) (by simp [qE,Value.oneCell']) (by omega) (by unfold maxLen;omega) (by omega) (ai _) _ rfl
structure Gi (T:TypeId) (f:FuncId) (a:Addr):Prop where
 meth:∀w,(method 392 T (.pointer (some a)) "Read").run Tryz.prog w=.ok (f,.pointer (some a)) w
 ent:∀args w,(callFunc f args).run Tryz.prog w=.ok (.enter f args) w
theorem da(a:Addr):Gi 29 81 a:=⟨λw=>by kernel_rfl,enters_of Tryz.func81 (by kernel_rfl) rfl⟩
theorem cz(a:Addr):Gi 142 192 a:=⟨λw=>by kernel_rfl,enters_of Tryz.func192 (by kernel_rfl) rfl⟩
theorem BL{wr c:World}{a i d B k:Nat}{o:Option Addr}{z:List Value}(v:wr.heap[a]? =some (.cells #[.int .u8 (k:Int),.slice o i d] 209 (0,0)))(A:wr.ownsRow 0 109 5 (.slice o i d) i z)(h:∀j,(Value.slice o i d).ownBlock=some j->B<=j)(O:a<B)(G:Kept (λ_=>False) wr.drew c)(e:En)(J:i<=1000):
 c.cell? ⟨a,0,none⟩=some (.int .u8 (k:Int))/\c.cell? ⟨a,1,none⟩=some (.slice o i d)/\c.frozen? ⟨a,1,none⟩=false/\a<c.heap.size/\
  ∃g m f,(JJ #[.slice o i d,.slice (some ⟨c.heap.size,0,none⟩) 1 1]).run Tryz.prog (c.alloc (.cells (qE e).toArray 109))=.ok (.slice (some ⟨g,0,none⟩) (i+1) m) f/\f.cell? ⟨a,1,none⟩=some (.slice o i d)/\f.frozen? ⟨a,1,none⟩=false/\
   (Kept (λj=>j=a\/B<=j) wr (f.setCell ⟨a,1,none⟩ (.slice (some ⟨g,0,none⟩) (i+1) m))/\(f.setCell ⟨a,1,none⟩ (.slice (some ⟨g,0,none⟩) (i+1) m)).heap[a]? =some (.cells #[.int .u8 (k:Int),.slice (some ⟨g,0,none⟩) (i+1) m] 209 (0,0))/\
    (f.setCell ⟨a,1,none⟩ (.slice (some ⟨g,0,none⟩) (i+1) m)).ownsRow 0 109 5 (.slice (some ⟨g,0,none⟩) (i+1) m) (i+1) (z++qE e)/\∀j,(Value.slice (some ⟨g,0,none⟩) (i+1) m).ownBlock=some j->B<=j\/wr.heap.size<=j):=by
 have D:=(lT v);have p:Kept (λ_=>False) wr c:=Kept.trans (b:=wr.drew) (Kept.drew _ wr) G iL;have n:=(p.block a D (λx=>x)).trans v;have r:=(lT n);have C:Kept (λ_=>False) c (c.alloc (.cells (qE e).toArray 109)):=Kept.alloc _ _ _;have u:=(C.block a r (λx=>x)).trans n;refine⟨cR n rfl,cR n rfl,aa c a 1 _ _ n,r,?_⟩;obtain⟨g,m,f,y,w,t,F,M⟩:=Y6 (c.alloc (.cells (qE e).toArray 109)) o i d z ((p.trans C iL).owns A nF) c.heap.size e (heap_alloc_new c _) J;have H:=Kept.grown t (λj l=>l);have q:=(H.block a (lT u) (λK=>by have:=h a K;omega)).trans u;have I:=Kept.setCell (S:=λj=>j=a) f ⟨a,1,none⟩ (.slice (some ⟨g,0,none⟩) (i+1) m) rfl;have L:(c.alloc (.cells (qE e).toArray 109)).heap.size=c.heap.size+1:=by simp
 have E:B<=g\/wr.heap.size<=g:=by
  rcases F with s|s;.exact .inl (h g s)
  .right;have:=p.size;omega
 refine⟨g,m,f,y,cR q rfl,aa f a 1 _ _ q,?_,?_,?_,λj l=>by simp [Value.ownBlock] at l;rw [<-l];exact E⟩;.exact(((p.trans C iL).mono fE).trans H (λj l=>.inl (.inr (h j l)))).trans I (λj l=>.inl (.inl l))
 .rw [heap_setCell_same f a 1 _ _ _ q];rfl
 .refine I.owns w (λj l N=>?_);simp [Value.ownBlock] at l;rcases E with s|s<;>omega
theorem ZS(w:World)(b:Nat)(t:TypeId)(l:List UInt8)(h:xh w b t l)(k d cap:Nat)(j:k=4\/k=5)(c:d+zm k<=l.length)(a:zm k<=cap)(e:En)(g:e.Ok)(f:(l.drop d).take (zm k)=kV k e)(i:k=4->e.mark=false/\e.size=0):
 Calls Tryz.prog 194 #[.int .u8 (k:Int),.slice (some ⟨b,d,none⟩) (zm k) cap] w λr w'=>r=.returned (.agg (qE e).toArray)/\Kept (λ_=>False) w w':=by
 rcases j with rfl|rfl;.exact fZ w b t l h d cap c a e g f (i rfl).1 (i rfl).2
 .exact cw w b t l h d cap c a e g f
section
attribute [local go_sem ↓] bO
theorem Y7(w:World)(T:TypeId)(f:FuncId)(a:Addr)(V:Gi T f a)(X:Nat->Prop)(a7:World->Prop)(K:Nat)(k:Nat)(c:List En)(ah:k=4\/k=5)(U:∀e∈c,e.Ok)(aR:k=4->∀e∈c,e.mark=false/\e.size=0)(ad:c.length<=6)
 (B:∀w0,Kept (λ_=>False) w w0->Calls Tryz.prog f #[.pointer (some a),.int .i64 K] w0 λe d=>e=.returned (.agg (zo (zc k c)).toArray)/\Kept X w0 d/\a7 d) (aN:∀i,X i->i<w.heap.size):
 Calls Tryz.prog 174 #[.iface T (.pointer (some a)),.int .i64 K] w λe w'=>∃d p l,e=.returned (.agg #[.int .u8 (k:Int),.slice p c.length l])/\Kept X w d/\a7 d/\Kept (λi=>w.heap.size<=i) d w'/\ql w' (λb=>w.heap.size<=b) p c/\w'.ownsRow 0 109 5 (.slice p c.length l) c.length (c.map qE).flatten/\(∀j,(Value.slice p c.length l).ownBlock=some j->w.heap.size<=j):=by
 obtain⟨J,R,bg⟩:∃J:List Value,J=z9/\∀w,(zeroValue 154).run Tryz.prog w=.ok (.agg J.toArray) w:=⟨z9,rfl,qa Tryz.infoPage⟩;have aB:Hid (zW J):=by rw [R];exact zI
 clear R;have a4:Hid _:=qc Tryz.infoPage;have H:=V.meth;have ab:=V.ent;have z:Hid _:=Qc ah U ad;have G:Hid _:=yv z.out;have P:Hid (Kept (λ_=>False) w (w.alloc (.cells #[.int .u8 0,.slice none 0 0] 209))):=Kept.alloc _ _ _;change Hid _ at B;go_enter Tryz.func174,Tryz.ntmps174;go_wp2_with fail;refine(B _ P).mono ?_;rintro e d ⟨rfl,C,aD⟩;change Hid _ at C aD
 go_wp2_with (first
  |(show wpList _ _ _ ({dst:=none,op:=.store _ (.tmp 5) (.tmp 10),type:=_,pos:=_,after:=_,guard:=_}::_) _ _;refine zi rfl 154 (.tmp 5) (.tmp 10) rfl _ _ (zo (zc k c)) (by simp) rfl rfl (by rw [G.1];exact a4) (by rw [aw,aB.1,G.1]) G.2 ?_;have aF:Hid (yd (d.alloc (.cells (zo (zc k c)).toArray 154)) d.heap.size (zc k c)):=⟨⟨heap_alloc_new d _⟩,z⟩)
  |(go_at_call 144;refine(v5 _ _ _ aF).mono ?_;rintro e aE ⟨rfl,rfl⟩;have N:(zc k c).kind=k:=rfl;rw [N]))
 have Y:Hid (yd ((d.alloc (.cells (zo (zc k c)).toArray 154)).alloc (.cells #[.int .u8 (k:Int),.slice none 0 0] 209)) d.heap.size (zc k c)):=aF.kept (Kept.alloc (λ_=>False) _ _) (λA=>A);refine(uI _ _ _ Y).mono ?_;rintro e aE ⟨rfl,E⟩;rw [E];have o:(zc k c).items.length=c.length:=by simp [zc]
 rw [o];clear E aE N;have aq:Hid (((d.alloc (.cells (zo (zc k c)).toArray 154)).alloc (.cells #[.int .u8 (k:Int),.slice none 0 0] 209)).heap[d.heap.size+1]? =some (.cells #[.int .u8 (k:Int),.slice none 0 0] 209 (0,0))):=heap_alloc2_new d _ _;have O:Hid (Kept (λ_=>False) d ((d.alloc (.cells (zo (zc k c)).toArray 154)).alloc (.cells #[.int .u8 (k:Int),.slice none 0 0] 209))):=Kept.alloc2 _ _ _;have bb:((d.alloc (.cells (zo (zc k c)).toArray 154)).alloc (.cells #[.int .u8 (k:Int),.slice none 0 0] 209)).heap.size=d.heap.size+2:=by simp
 have a8:w.heap.size+1<=d.heap.size:=by have:=C.size;simpa using this
 generalize ((d.alloc (.cells (zo (zc k c)).toArray 154)).alloc (.cells #[.int .u8 (k:Int),.slice none 0 0] 209))=aL at*;obtain⟨bj,ao,av,az,al⟩:=info_parts Tryz.infoEntry;clear ao av az al H ab;go_wp2;go_loopw [14] (λt wr=>∃(i:Nat) (p:Option Addr) (l:Nat),i<=c.length/\t=.int .i64 i/\Kept (λj=>j=d.heap.size+1\/aL.heap.size<=j) aL wr/\wr.heap[d.heap.size+1]? =some (.cells #[.int .u8 (k:Int),.slice p i l] 209 (0,0))/\wr.ownsRow 0 109 5 (.slice p i l) i ((c.take i).map qE).flatten/\∀j,(Value.slice p i l).ownBlock=some j->aL.heap.size<=j) (λt _=>c.length-(intOf t).toNat)
 case atStart=>exact⟨0,none,0,ai _,rfl,Kept.refl _ _,aq,aP _ 0 109 5,λj q=>by cases q⟩
 case round=>
  obtain⟨i,p,l,bh,rfl,n,y,x,m⟩:=hrel;have aC:Hid _:=x;have a5:wr.cell? ⟨d.heap.size+1,0,none⟩=some (.int .u8 (k:Int)):=cR y rfl;have bd:wr.cell? ⟨d.heap.size+1,1,none⟩=some (.slice p i l):=cR y rfl;have aJ:=(lT y);have L:Hid (yd wr d.heap.size (zc k c)):=Y.kept n (λap=>by omega);change Hid _ at n y m;clear x;by_cases s:i<c.length
  .have aG:=o;have aA:Hid ((zc k c).items[i]'(by rw [o];exact s)=kV k c[i]):=by show (zc k c).items[i]'(by rw [o];exact s)=_;simp [zc]
   have ax:Hid c[i].Ok:=U _ (ag s);have F:=z.item i (by rw [o];exact s);rw [aA.out] at F;have ay:Hid ((c.take (i+1)).map qE=(c.take i).map qE++[qE c[i]]):=by show _=_;rw [ar s,eh];rfl
   have ac:Hid (YY d.heap.size (zc k c).kind i=.slice (some ⟨d.heap.size,4+i*zm k,none⟩) (zm k) (124-i*zm k)):=rfl;have af:Hid (((zc k c).bytes.drop (4+i*zm k)).take (zm k)=kV k c[i]):=F;have a6:=z.len
   have aT:i*zm k+zm k<=124:=by have I:(i+1)*zm k<=(zc k c).items.length*zm k:=eH _ (by rw [o];exact s);have aK:=z.fits;have aU:(zc k c).kind=k:=rfl;rw [aU] at aK;rw [eS,lf] at I;omega
   have am:1<=zm k:=by rcases ah with rfl|rfl<;>decide
   have aO:Hid (k=4->c[i].mark=false/\c[i].size=0):=λh=>aR h _ (ag s);clear F;generalize c[i]=e at*;generalize bi:i*zm k=bc at*;go_wp2
   go_region_law ((first
    |(go_simp;go_at_call 84;refine(Y1 _ d.heap.size (zc k c) (by exact L.kept (Kept.drew (λ_=>False) wr) (λA=>A)) i (by rw [o];exact s) (by exact am)).mono ?_;rintro r au ⟨rfl,M⟩;rw [M,ac.out];clear M au;dsimp only)
    |(go_simp;go_at_call 194;refine(ZS _ d.heap.size _ _ (by exact(L.kept (Kept.drew (λ_=>False) wr) (λA=>A)).bs) k (4+bc) (124-bc) ah (by omega) (by omega) e ax af aO).mono ?_;rintro r au ⟨rfl,Q⟩;have Z:Hid _:=BL y aC m (by omega) Q e (by omega);obtain⟨aZ,aS,a1,aH,g,aV,be,ae,aQ,a2,D⟩:=Z.out;change Hid _ at D;clear Q Z;unfold qE at ae ⊢;dsimp only)))
   all_goals
    go_wp2;go_roundw
    case rel=>
     obtain⟨aX,aI,aW,a3⟩:=D.out;refine⟨i+1,some ⟨g,0,none⟩,aV,by omega,by go_num,n.trans aX (λj q=>.inl q),aI,?_,λj q=>?_⟩;.rw [ay.out,aY];simpa using aW
     .rcases a3 j q with I|I;.exact I
      .have:=n.size;omega
    case measure=>simp [intOf];omega
  .have an:i=c.length:=by omega
   subst an
   have u:Hid (wr.heap[w.heap.size]? =some (.cells #[.int .u8 0,.slice none 0 0] 209 (0,0))):=by show wr.heap[w.heap.size]? =_;rw [n.block w.heap.size (by omega) (by omega),O.block w.heap.size (by omega) (λA=>A),C.block w.heap.size (by simp) (λap=>by have:=aN _ ap;omega)];exact heap_alloc_new w _
   have a9:wr.cell? ⟨w.heap.size,0,none⟩=some (.int .u8 0):=cR u.out rfl;have ba:wr.cell? ⟨w.heap.size,1,none⟩=some (.slice none 0 0):=cR u.out rfl;have aM:=aa wr w.heap.size 0 _ _ u.out;have a0:=aa wr w.heap.size 1 _ _ u.out;go_wp2;have aj:=heap_setCell_same wr w.heap.size 0 _ _ (.int .u8 (k:Int)) u.out;have ak:=heap_setCell_same _ w.heap.size 1 _ _ (.slice p c.length l) aj;have W:Kept (λj=>j=w.heap.size) wr ((wr.setCell ⟨w.heap.size,0,none⟩ (.int .u8 (k:Int))).setCell ⟨w.heap.size,1,none⟩ (.slice p c.length l)):=(Kept.setCell (S:=λj=>j=w.heap.size) wr ⟨w.heap.size,0,none⟩ _ rfl).trans (Kept.setCell (S:=λj=>j=w.heap.size) _ ⟨w.heap.size,1,none⟩ _ rfl) iL;refine bodyPost_ret (v:=.agg #[.int .u8 (k:Int),.slice p c.length l]) (results_cell_row Tryz.results174 _ _ w.heap.size 209 _ (0,0) _ rfl ak Tryz.underlying209 rfl (by kernel_rfl)) rfl ⟨d,p,l,rfl,?_,aD,?_,?_⟩;.exact(P.mono fE).trans C iL
   .exact((O.mono fE).trans n (λj q=>.inl (by omega))).trans W (λj q=>.inl (by omega))
   .have E:=aC.out;rw [eX] at E;have x:=W.owns (v:=.slice p c.length l) E (λj q bf=>by have:=m.out j q;omega);exact⟨ql.of_own x (λj q=>by have:=m.out j q;omega) (by omega),x,λj q=>by have:=m.out j q;omega⟩
end
def Wy(args:Array Value):Sem Value:=Builtin.copy_ #[35, 9] 3 args
theorem BM(args:Array Value):Builtin.copy_ #[35, 9] 3 args=Wy args:=rfl
theorem KW:(Tryz.prog.info? 5).map (·.size)=some 1:=by kernel_rfl
theorem KX(w:World)(b:Nat)(t:TypeId)(l:List UInt8)(h:xh w b t l)(d cap:Nat)(j:d+8<=l.length)(a:ByteArray)(c:a.size<=8):
 ∃w',(Wy #[.slice (some ⟨b,d,none⟩) 8 cap,.string a]).run Tryz.prog w=.ok (goInt a.size) w'/\xh w' b t (qS l d a.data.toList)/\Kept (λi=>i=b) w w':=by
 have f:=Lib.run_copy_row_string (P:=Tryz.prog) w 35 9 3 5 b d 8 cap a (l.map qk).toArray t Tryz.underlying35 KW h.at_ c (by simp;omega);refine⟨_,f,⟨?_⟩,⟨rfl,rfl,rfl,by simp,λk _ c=>setRow_other w b k _ (λe=>c (by rw [e]))⟩⟩;rw [setRow_heap w b _ _ t _ h.at_];congr 2;have g:a.data.toList.length=a.size:=by simp
 unfold qS Lib.byteCells;rw [g];simp [qk,i4,my]
theorem Gj(l:List UInt8)(b:Nat)(a:ByteArray)(c:a.data.toList.length<=8)(f:(l.drop b).take 8=List.replicate 8 0)(g:b+8<=l.length):qS l b a.data.toList=qS l b (keyBytes a):=by
 have e:l.drop (b+a.data.toList.length)=List.replicate (8-a.data.toList.length) 0++l.drop (b+8):=by
  have d:l.drop b=List.replicate 8 0++l.drop (b+8):=by rw [<-eI,<-f,aA]
  rw [<-eI,d,iq (by simpa using c),List.drop_replicate]
 unfold qS;rw [e,xz _ c,keyBytes];simp
theorem Qj(l:List UInt8)(a:Nat)(e:En)(b:e.Ok)(h:(l.drop a).take 8=List.replicate 8 0)(i:a+18<=l.length):
 qS (qS (qS l a e.pl.key.data.toList) (a+8) (bytesOf 8 e.pl.num.toNat)) (a+16) (bytesOf 2 e.at_)=qS l a (qq e):=by
 have f:=xz _ b.key;have g:=zT 8 e.pl.num.toNat;have j:=zT 2 e.at_;have c:=fX l a (keyBytes e.pl.key) (bytesOf 8 e.pl.num.toNat) (by omega);have d:=fX l a (keyBytes e.pl.key++bytesOf 8 e.pl.num.toNat) (bytesOf 2 e.at_) (by rw [ah];omega);rw [f] at c;rw [ah,f,g] at d;rw [Gj l a e.pl.key b.key h (by omega),c,show a+16=a+(8+8) from by omega,d];rfl
theorem VJ(l:List UInt8)(a:Nat)(e:En)(d:e.Ok)(f:a+20<=l.length):qS (qS l a (qq e)) (a+18) (bytesOf 2 (qZ e))=qS l a (vm e):=by
 have c:=ji d;have g:=zT 2 (qZ e);have b:=fX l a (qq e) (bytesOf 2 (qZ e)) (by omega);rw [c] at b;exact b
section
attribute [local go_sem ↓] BM
theorem fd(w:World)(b:Nat)(t:TypeId)(l:List UInt8)(h:xh w b t l)(j cap:Nat)(T:j+18<=l.length)(S:18<=cap)(e:En)(g:e.Ok)(J:(l.drop j).take 8=List.replicate 8 0):
 Calls Tryz.prog 193 #[.int .u8 4,.slice (some ⟨b,j,none⟩) 18 cap,.agg #[.string e.pl.key,.int .i64 e.pl.num,.bool e.mark,.int .i64 (e.size:Int),.int .i64 (e.at_:Int)]] w λr w'=>r=.returned (.tuple #[])/\xh w' b t (qS l j (qq e))/\Kept (λi=>i=b) w w':=by
 obtain⟨m,W⟩:∃m:Nat,e.pl.num=m:=⟨e.pl.num.toNat,by have:=g.num0;omega⟩;have v:Hid _:=Qj l j e g J T;have K:e.pl.num.toNat=m:=by omega
 rw [K] at v;have I:m<9223372036854775808:=by have:=g.num1;omega
 have ad:=g.at_;have H:e.pl.key.size<=8:=by have:=g.key;simpa using this
 have aa:=h.lt;have z:Hid ((w.alloc (.cells #[.string e.pl.key,.int .i64 (m:Int),.bool e.mark,.int .i64 (e.size:Int),.int .i64 (e.at_:Int)] 109)).heap[w.heap.size]? =some (.cells #[.string e.pl.key,.int .i64 (m:Int),.bool e.mark,.int .i64 (e.size:Int),.int .i64 (e.at_:Int)] 109 (0,0))):=heap_alloc_new w _;have y:Hid (Kept (λ_=>False) w (w.alloc (.cells #[.string e.pl.key,.int .i64 (m:Int),.bool e.mark,.int .i64 (e.size:Int),.int .i64 (e.at_:Int)] 109))):=Kept.alloc _ _ _;have X:Hid _:=h;rw [W];have ag:(8:Int)<=(cap:Int):=by omega
 have ac:¬cap=8:=by omega
 have O:¬cap=16:=by omega
 have V:(16:Int)<=(cap:Int):=by omega
 have P:(18:Int)<=(cap:Int):=by omega
 have q:Hid ((qS l j e.pl.key.data.toList).length=l.length):=j9 _ _ _ (by have:=g.key;omega);clear h J g;go_enter Tryz.func193,Tryz.ntmps193;go_wp2;have ae:(w.alloc (.cells #[.string e.pl.key,.int .i64 (m:Int),.bool e.mark,.int .i64 (e.size:Int),.int .i64 (e.at_:Int)] 109)).heap.size=w.heap.size+1:=by simp
 have F:Hid _:=X.kept y (λf=>f);generalize (w.alloc (.cells #[.string e.pl.key,.int .i64 (m:Int),.bool e.mark,.int .i64 (e.size:Int),.int .i64 (e.at_:Int)] 109))=E at*;have ah:E.cell? ⟨w.heap.size,0,none⟩=some (.string e.pl.key):=cR z.out rfl;obtain⟨k,U,A,o⟩:=KX E.drew b t l (F.kept (Kept.drew (λ_=>False) E) (λf=>f)) j cap (by omega) e.pl.key H;have a:=(o.block w.heap.size (by show w.heap.size<E.heap.size;omega) (by omega)).trans z.out;have af:k.cell? ⟨w.heap.size,1,none⟩=some (.int .i64 (m:Int)):=cR a rfl;change Hid _ at A o a;have Q:k.cell? ⟨w.heap.size,0,none⟩=some (.string e.pl.key):=cR a.out rfl;go_region_held3 (λw'=>w'.cell? ⟨w.heap.size,0,none⟩=some (.string e.pl.key)) (go_keep) (fail);have C:=(lT a);go_wp2;go_region_held3 (λw'=>w'.cell? ⟨w.heap.size,1,none⟩=some (.int .i64 (m:Int))) (go_keep) ((go_at_call 138;refine(yc _ b t _ (by exact A.kept (Kept.drew (λ_=>False) k) (λf=>f)) (j+8) 8 (cap-8) (by rw [q.out];omega) (by omega) m I).mono ?_;rintro r u ⟨rfl,x,n⟩;have c:=(n.block w.heap.size C (by omega)).trans a.out;have ab:u.cell? ⟨w.heap.size,1,none⟩=some (.int .i64 (m:Int)):=(cR c rfl);change Hid _ at x n c));have D:=(lT c);have R:u.cell? ⟨w.heap.size,4,none⟩=some (.int .i64 (e.at_:Int)):=cR c.out rfl;have G:Hid ((qS (qS l j e.pl.key.data.toList) (j+8) (bytesOf 8 m)).length=l.length):=(j9 _ _ _ (by rw [q.out,zT];omega)).trans q.out;go_wp2;go_region_held3 (λw'=>w'.cell? ⟨w.heap.size,4,none⟩=some (.int .i64 (e.at_:Int))) (go_keep) ((go_at_call 138;refine(yc _ b t _ (by exact x.kept (Kept.drew (λ_=>False) u) (λf=>f)) (j+16) 2 (cap-16) (by rw [G.out];omega) (by omega) e.at_ (by omega)).mono ?_;rintro r p ⟨rfl,B,s⟩;have d:=(s.block w.heap.size D (by omega)).trans c.out;have Z:p.cell? ⟨w.heap.size,4,none⟩=some (.int .i64 (e.at_:Int)):=(cR d rfl);change Hid _ at B s d));have N:p.cell? ⟨w.heap.size,2,none⟩=some (.bool e.mark):=cR d.out rfl;have Y:p.cell? ⟨w.heap.size,3,none⟩=some (.int .i64 (e.size:Int)):=cR d.out rfl;have L:Hid (xh p b t (qS l j (qq e))):=by have:=B.out;rw [v.out] at this;exact this
 have M:Hid (Kept (λi=>i=b) w p):=(((y.mono fE).trans (Kept.trans (b:=E.drew) (Kept.drew _ E) o iL) iL).trans (Kept.trans (b:=k.drew) (Kept.drew _ k) n iL) iL).trans (Kept.trans (b:=u.drew) (Kept.drew _ u) s iL) iL;go_wp2
 all_goals
  go_end0;exact⟨rfl,L,M⟩
theorem bz(w:World)(b:Nat)(t:TypeId)(l:List UInt8)(h:xh w b t l)(n cap:Nat)(ad:n+20<=l.length)(ac:20<=cap)(e:En)(d:e.Ok)(V:(l.drop n).take 8=List.replicate 8 0):
 Calls Tryz.prog 193 #[.int .u8 5,.slice (some ⟨b,n,none⟩) 20 cap,.agg #[.string e.pl.key,.int .i64 e.pl.num,.bool e.mark,.int .i64 (e.size:Int),.int .i64 (e.at_:Int)]] w λr w'=>r=.returned (.tuple #[])/\xh w' b t (qS l n (vm e))/\Kept (λi=>i=b) w w':=by
 obtain⟨m,ak⟩:∃m:Nat,e.pl.num=m:=⟨e.pl.num.toNat,by have:=d.num0;omega⟩;have F:Hid _:=VJ l n e d ad;have Y:Hid _:=ji d;have aq:=d.size;have G:Hid _:=Qj l n e d V (by omega);have W:e.pl.num.toNat=m:=by omega
 rw [W] at G;have X:m<9223372036854775808:=by have:=d.num1;omega
 have au:=d.at_;have U:e.pl.key.size<=8:=by have:=d.key;simpa using this
 have an:=h.lt;have J:Hid ((w.alloc (.cells #[.string e.pl.key,.int .i64 (m:Int),.bool e.mark,.int .i64 (e.size:Int),.int .i64 (e.at_:Int)] 109)).heap[w.heap.size]? =some (.cells #[.string e.pl.key,.int .i64 (m:Int),.bool e.mark,.int .i64 (e.size:Int),.int .i64 (e.at_:Int)] 109 (0,0))):=heap_alloc_new w _;have H:Hid (Kept (λ_=>False) w (w.alloc (.cells #[.string e.pl.key,.int .i64 (m:Int),.bool e.mark,.int .i64 (e.size:Int),.int .i64 (e.at_:Int)] 109))):=Kept.alloc _ _ _;have al:Hid _:=h;rw [ak];have ax:(8:Int)<=(cap:Int):=by omega
 have ap:¬cap=8:=by omega
 have aa:¬cap=16:=by omega
 have aj:¬cap=18:=by omega
 have af:(16:Int)<=(cap:Int):=by omega
 have ah:(18:Int)<=(cap:Int):=by omega
 have D:Hid ((qS l n e.pl.key.data.toList).length=l.length):=j9 _ _ _ (by have:=d.key;omega);clear h V d;go_enter Tryz.func193,Tryz.ntmps193;go_wp2;have av:(w.alloc (.cells #[.string e.pl.key,.int .i64 (m:Int),.bool e.mark,.int .i64 (e.size:Int),.int .i64 (e.at_:Int)] 109)).heap.size=w.heap.size+1:=by simp
 have S:Hid _:=al.kept H (λo=>o);generalize (w.alloc (.cells #[.string e.pl.key,.int .i64 (m:Int),.bool e.mark,.int .i64 (e.size:Int),.int .i64 (e.at_:Int)] 109))=R at*;have ar:R.cell? ⟨w.heap.size,0,none⟩=some (.string e.pl.key):=cR J.out rfl;obtain⟨x,ae,N,z⟩:=KX R.drew b t l (S.kept (Kept.drew (λ_=>False) R) (λo=>o)) n cap (by omega) e.pl.key U;have a:=(z.block w.heap.size (by show w.heap.size<R.heap.size;omega) (by omega)).trans J.out;have aw:x.cell? ⟨w.heap.size,1,none⟩=some (.int .i64 (m:Int)):=cR a rfl;change Hid _ at N z a;have ab:x.cell? ⟨w.heap.size,0,none⟩=some (.string e.pl.key):=cR a.out rfl;go_region_held3 (λw'=>w'.cell? ⟨w.heap.size,0,none⟩=some (.string e.pl.key)) (go_keep) (fail);have P:=(lT a);go_wp2;go_region_held3 (λw'=>w'.cell? ⟨w.heap.size,1,none⟩=some (.int .i64 (m:Int))) (go_keep) ((go_at_call 138;refine(yc _ b t _ (by exact N.kept (Kept.drew (λ_=>False) x) (λo=>o)) (n+8) 8 (cap-8) (by rw [D.out];omega) (by omega) m X).mono ?_;rintro r E ⟨rfl,L,y⟩;have c:=(y.block w.heap.size P (by omega)).trans a.out;have ao:E.cell? ⟨w.heap.size,1,none⟩=some (.int .i64 (m:Int)):=(cR c rfl);change Hid _ at L y c));have Q:=(lT c);have ai:E.cell? ⟨w.heap.size,4,none⟩=some (.int .i64 (e.at_:Int)):=cR c.out rfl;have T:Hid ((qS (qS l n e.pl.key.data.toList) (n+8) (bytesOf 8 m)).length=l.length):=(j9 _ _ _ (by rw [D.out,zT];omega)).trans D.out;go_wp2;go_region_held3 (λw'=>w'.cell? ⟨w.heap.size,4,none⟩=some (.int .i64 (e.at_:Int))) (go_keep) ((go_at_call 138;refine(yc _ b t _ (by exact L.kept (Kept.drew (λ_=>False) E) (λo=>o)) (n+16) 2 (cap-16) (by rw [T.out];omega) (by omega) e.at_ (by omega)).mono ?_;rintro r A ⟨rfl,O,u⟩;have f:=(u.block w.heap.size Q (by omega)).trans c.out;have ag:A.cell? ⟨w.heap.size,4,none⟩=some (.int .i64 (e.at_:Int)):=(cR f rfl);change Hid _ at O u f));have B:A.cell? ⟨w.heap.size,2,none⟩=some (.bool e.mark):=cR f.out rfl;have am:A.cell? ⟨w.heap.size,3,none⟩=some (.int .i64 (e.size:Int)):=cR f.out rfl;have I:Hid (xh A b t (qS l n (qq e))):=by have:=O.out;rw [G.out] at this;exact this
 have M:Hid (Kept (λi=>i=b) w A):=(((H.mono fE).trans (Kept.trans (b:=R.drew) (Kept.drew _ R) z iL) iL).trans (Kept.trans (b:=x.drew) (Kept.drew _ x) y iL) iL).trans (Kept.trans (b:=E.drew) (Kept.drew _ E) u iL) iL;have K:Hid ((qS l n (qq e)).length=l.length):=j9 _ _ _ (by rw [Y.out];omega)
 cases p:e.mark with
 |false=>
  rw [p] at B;have s:Hid (qZ e=e.size):=by show qZ e=_;unfold qZ;rw [p];rfl
  go_wp2_with (go_at_call 138;refine(yc _ b t _ I (n+18) 2 (cap-18) (by rw [K.out];omega) (by omega) e.size (by omega)).mono ?_;rintro r Z ⟨rfl,k,j⟩;have v:Hid _:=k;have C:Hid _:=j;clear k j);go_end0;refine⟨rfl,?_,M.trans C iL⟩;have q:=v.out;have g:=F.out;rw [s.out] at g;rw [g] at q;exact q
 |true=>
  rw [p] at B;have s:Hid (qZ e=65535):=by show qZ e=_;unfold qZ;rw [p];rfl
  go_wp2_with (go_at_call 138;refine(yc _ b t _ I (n+18) 2 (cap-18) (by rw [K.out];omega) (by omega) 65535 (by omega)).mono ?_;rintro r Z ⟨rfl,k,j⟩;have v:Hid _:=k;have C:Hid _:=j;clear k j);go_end0;refine⟨rfl,?_,M.trans C iL⟩;have q:=v.out;have g:=F.out;rw [s.out] at g;rw [g] at q;exact q
end
end prog
namespace disk
open Go.ChangeShapes Go.WideShapes Go.ChangeAt Go.RowKit
attribute [local go_sem ↓] Go.wp_at_zero Go.wp_at_succ VB VC U7
attribute [local go_sem] JD JE
theorem zn.pushed{w c:World}{bd:Nat}{S:Nat->Prop}{D:Dk}{r n:Option Addr}{bc l:Nat}(h:zn w bd S D r n bc l)(y:Obj)(i:Nat)(A:i<D.bs.length)(b:List Value)(z:zW b)(g cap:Nat)
 (s:c.ownsRow 0 133 129 (.slice (some ⟨g,0,none⟩) (D.ps.length+1) cap) (D.ps.length+1) ((D.ps.map zR).flatten++.int .i64 (i:Int)::b))
 (q:(w.alloc y).drew.grownBy c (Value.slice n D.ps.length l).ownBlock) (m:(Value.slice n D.ps.length l).ownBlock=some g\/g=w.heap.size+1):
 zn (c.setCell ⟨bd,1,none⟩ (.slice (some ⟨g,0,none⟩) (D.ps.length+1) cap)) bd (λk=>k=bd\/(Value.slice r D.bs.length bc).ownBlock=some k\/k=g) {D with ps:=D.ps++[(i,b)]} r (some ⟨g,0,none⟩) bc cap/\
  (∀k,(k=bd\/(Value.slice r D.bs.length bc).ownBlock=some k\/k=g)->S k\/w.heap.size<=k)/\Kept S w (c.setCell ⟨bd,1,none⟩ (.slice (some ⟨g,0,none⟩) (D.ps.length+1) cap)):=by
 have x:=h.lt bd h.bdS
 have v:g≠bd:=by
  rcases m with e|e;.exact λd=>h.ap2 (by rw [e,d])
  .omega
 have u:Kept (λk=>(Value.slice n D.ps.length l).ownBlock=some k) (w.alloc y).drew c:=Kept.grown q (λk a=>a);have a:Kept (λk=>(Value.slice n D.ps.length l).ownBlock=some k) w c:=((Kept.alloc _ w y).trans (Kept.drew _ _) iL).trans u iL;have f:=Kept.setCell (S:=λk=>k=bd) c ⟨bd,1,none⟩ (.slice (some ⟨g,0,none⟩) (D.ps.length+1) cap) rfl;have t:(D.ps++[(i,b)]).length=D.ps.length+1:=by simp
 have o:=a.owns h.rows (λk a e=>h.ap3 k a e);refine⟨⟨⟨h.ok.bs,?_,h.ok.few⟩,?_,?_,?_,?_,h.ap1,?_,?_⟩,?_,?_⟩
 .intro p j;rcases aj.1 j with j|j;.exact h.ok.ps p j
  .rw [aD.1 j];exact⟨A,z⟩
 .simp only [t];have e:c.heap[bd]? =_:=(a.block bd x (λe=>h.ap2 e)).trans h.head;rw [heap_setCell_same c bd 1 _ _ _ e];rfl
 .exact f.owns o (λk a e=>h.ap1 (by rw [a,e]))
 .simp only [t];have:=f.owns s (λk a e=>by simp [Value.ownBlock] at a;omega);simpa [zR] using this
 .intro k;simp only [t];simp [Value.ownBlock,eq_comm]
 .simp [Value.ownBlock];exact v
 .intro k a;simp [Value.ownBlock];intro e;rcases m with d|d;.exact h.ap3 k a (by rw [d,e])
  .have:=(h.rows.lt k a).2;omega
 .intro k a;rcases a with rfl|a|rfl;.exact .inl h.bdS
  .exact .inl ((h.own k).2 (.inr (.inl a)))
  .rcases m with d|d;.exact .inl ((h.own k).2 (.inr (.inr d)))
   .right;omega
 .refine(a.mono (λk a=>(h.own k).2 (.inr (.inr a)))).trans f (λk a=>.inl (by rw [a];exact h.bdS))
theorem Gk(w:World)(bd:Nat)(S:Nat->Prop)(D:Dk)(A m:Option Addr)(bc l:Nat)(h:zn w bd S D A m bc l)(i:Nat)(K:i<D.bs.length)(b:List Value)(H:zW b)
 (F:zs D.fuse) (G:(D.fuse==0)=false) (T:D.ps.length<=68719476736):
 Calls Tryz.prog 146 #[.pointer (some ⟨bd,0,none⟩),.int .i64 i,.agg b.toArray] w λe w'=>
  e=.returned (.bool true)/\(∃S',ze w' bd S' {D with ps:=D.ps++[(i,b)],fuse:=qG D.fuse}/\∀k,S' k->S k\/w.heap.size<=k)/\Kept S w w':=by
 obtain⟨q,v⟩:=H;have O:=h.c0;have N:(i:Int)<(D.bs.length:Int):=by omega
 have V:=h.lt bd h.bdS;have M:Hid (zn (w.alloc (.cells b.toArray 131)) bd S D A m bc l):=h.kept (Kept.alloc (λ_=>False) _ _) nF;clear h;go_enter Tryz.func146,Tryz.ntmps146;go_wp2_with (go_at_call 65;refine(g9 _ bd S D A m bc l M F).mono ?_;rintro e c ⟨rfl,a,f⟩;change Hid _ at a f);have W:=a.c1;have U:=a.fz 1;have I:=a.lt bd a.bdS
 have C:Hid (c.heap[w.heap.size]? =some (.cells b.toArray 131 (0,0))):=by show c.heap[w.heap.size]? =_;rw [f.block w.heap.size (by simp) (by omega)];exact heap_alloc_new w _
 have Q:(U6 (.pointer (some ⟨w.heap.size,0,none⟩))).run Tryz.prog c.drew=.ok (.agg b.toArray) c.drew:=VD _ _ _ b (zU (w:=c.drew) C) q;obtain⟨p,x,r,t,u⟩:=info_parts Tryz.infoWrite;have j:Hid (Tryz.prog.info? 133=some p/\p.zero=some (.agg yN.toArray)/\p.size=129/\p.bytes=136):=⟨x,r,t,u⟩;clear x r t u;have y:Hid (((c.alloc (.cells (.int .i64 (i:Int)::b).toArray 133)).drew).ownsRow 0 133 129 (.slice m D.ps.length l) D.ps.length (D.ps.map zR).flatten):=a.pend.alloc _
 go_region_law ((refine step_append_lies _ rfl (.tmp 27) (.tmp 31) 116 rfl 0 133 p _ 129 136 Tryz.underlying116 j.1 j.2.1 j.2.2.1 j.2.2.2 (et (· +1) zI.1) (by omega) (.slice m D.ps.length l) D.ps.length _ (by rfl) y ⟨c.heap.size,0,none⟩ 1 1 (.int .i64 (i:Int)::b) (by rfl) (by simp [q]) (World.news_of_block (w:=(c.alloc (.cells (.int .i64 (i:Int)::b).toArray 133)).drew) (heap_alloc_new c _)) (aZ.2 ⟨rfl,v⟩) (by omega) (by unfold maxLen;omega) (by omega) (ai _) (c.heap.size+1) (by simp) ?_;intro g cap E n d s L;have z:Hid _:=zn.pushed a _ i K b ⟨q,v⟩ g cap n d s;have P:E.cell? ⟨bd,1,none⟩=some (.slice m D.ps.length l):=(d.cell_far ⟨bd,1,none⟩ (by simp;omega) (λe=>a.ap2 e.symm)).trans (by simpa using a.kept (Kept.alloc (λ_=>False) c _) nF |>.c1);have R:E.frozen? ⟨bd,1,none⟩=false:=(d.frozen_far ⟨bd,1,none⟩ (by simp;omega) (λe=>a.ap2 e.symm)).trans (by simpa using a.kept (Kept.alloc (λ_=>False) c _) nF |>.fz 1);clear n d s))
 all_goals
  go_wp2;go_ret;refine⟨rfl,⟨_,⟨_,_,_,_,z.1⟩,λk o=>?_⟩,?_⟩
  .have J:=f.size;simp at J;rcases z.2.1 k o with B|B;.exact .inl B
   .right;omega
  .exact(((Kept.alloc (λk=>k=bd) w _).trans f iL).mono (λk o=>by rw [o];exact a.bdS)).trans z.2.2 (λk o=>.inl o)
theorem JK(w:World)(bd:Nat)(S:Nat->Prop)(D:Dk)(d g:Option Addr)(bc c:Nat)(h:zn w bd S D d g bc c)(i:Nat)(x:i<D.bs.length)(b:List Value)
 (o:zs D.fuse) (f:(D.fuse==0)=true):
 Calls Tryz.prog 146 #[.pointer (some ⟨bd,0,none⟩),.int .i64 i,.agg b.toArray] w λe w'=>
  e=.returned (.bool false)/\ze w' bd S D/\Kept S w w':=by
 have t:=h.c0;have s:(i:Int)<(D.bs.length:Int):=by omega
 have u:=h.lt bd h.bdS;have q:Hid (zn (w.alloc (.cells b.toArray 131)) bd S D d g bc c):=h.kept (Kept.alloc (λ_=>False) _ _) nF;have m:D.fuse=0:=by simpa using f
 have n:Hid (D.fuse=0):=m;clear m;clear h;go_enter Tryz.func146,Tryz.ntmps146;go_wp2_with (go_at_call 65;refine(g9 _ bd S D d g bc c q o).mono ?_;rintro e v ⟨rfl,a,j⟩;change Hid _ at a j);go_ret;refine⟨rfl,⟨d,g,bc,c,?_⟩,((Kept.alloc (λk=>k=bd) w _).trans j iL).mono (λk r=>by rw [r];exact a.bdS)⟩;have l:=a.out;rw [n.out] at l
 have p:({D with fuse:=qG 0}:Dk)=D:=by have:=n.out;cases D;simp only at this;subst this;rfl
 rw [p] at l;exact l
theorem VK(w:World)(bd:Nat)(S:Nat->Prop)(D:Dk)(g f:Option Addr)(bc d:Nat)(h:zn w bd S D g f bc d)(a:Int)(j:zs a)(c:a<0\/D.bs.length<=a)(b:List Value):
 Calls Tryz.prog 146 #[.pointer (some ⟨bd,0,none⟩),.int .i64 a,.agg b.toArray] w λe w'=>
  e=.returned (.bool false)/\ze w' bd S D/\Kept S w w':=by
 have l:=h.c0;have n:=h.lt bd h.bdS;have i:Hid (zn (w.alloc (.cells b.toArray 131)) bd S D g f bc d):=h.kept (Kept.alloc (λ_=>False) _ _) nF;obtain⟨k,m⟩:=j;clear h;rcases c with c|c
 all_goals
  go_enter Tryz.func146,Tryz.ntmps146;go_wp2;go_ret;exact⟨rfl,⟨_,_,_,_,i⟩,Kept.alloc _ _ _⟩
def Dk.write(D:Dk)(a:Int)(b:List Value):Dk:=if 0<=a/\a<D.bs.length/\D.fuse≠0 then {D with ps:=D.ps++[(a.toNat,b)],fuse:=qG D.fuse} else D
def Dk.writes(D:Dk)(a:Int):Bool:=decide (0<=a/\a<D.bs.length/\D.fuse≠0)
theorem xA(w:World)(bd:Nat)(S:Nat->Prop)(D:Dk)(h:ze w bd S D)(a:Int)(t:zs a)(b:List Value)(r:zW b)(d:zs D.fuse)(q:D.ps.length<=68719476736):
 Calls Tryz.prog 146 #[.pointer (some ⟨bd,0,none⟩),.int .i64 a,.agg b.toArray] w λe w'=>
  e=.returned (.bool (D.writes a))/\(∃S',ze w' bd S' (D.write a b)/\∀k,S' k->S k\/w.heap.size<=k)/\Kept S w w':=by
 obtain⟨l,o,bc,j,h⟩:=h;by_cases s:a<0\/D.bs.length<=a
 .have c:¬(0<=a/\a<D.bs.length/\D.fuse≠0):=by omega
  rw [show D.writes a=false from decide_eq_false c,show D.write a b=D from az c];exact(VK w bd S D l o bc j h a t s b).mono λe w' ⟨n,f,g⟩=>⟨n,⟨S,f,λk m=>.inl m⟩,g⟩
 .obtain⟨i,rfl⟩:∃i:Nat,a=i:=⟨a.toNat,by omega⟩;by_cases p:D.fuse=0
  .have c:¬(0<=(i:Int)/\(i:Int)<D.bs.length/\D.fuse≠0):=by omega
   rw [show D.writes i=false from decide_eq_false c,show D.write i b=D from az c];exact(JK w bd S D l o bc j h i (by omega) b d (by simpa using p)).mono λe w' ⟨n,f,g⟩=>⟨n,⟨S,f,λk m=>.inl m⟩,g⟩
  .have c:0<=(i:Int)/\(i:Int)<D.bs.length/\D.fuse≠0:=by omega
   rw [show D.writes i=true from aG c,show D.write i b={D with ps:=D.ps++[(i,b)],fuse:=qG D.fuse} from by unfold Dk.write;rw [aB c];simp];exact Gk w bd S D l o bc j h i (by omega) b r d (by simpa using p) q
end disk
namespace prog
open Go.ChangeShapes Go.WideShapes Go.ChangeAt Go.RowKit disk ref
open keys (zg zd zq zl)
variable {w:World}{bc bd:Nat}{T:Nat->Prop}{D:Dk}{C:Ck}
structure Cw (w:World) (bc bd:Nat) (S T:Nat->Prop) (D:Dk) (C:Ck):Prop where
 disk:ze w bd S D
 chg:Chg w bc bd T C
 apart:∀k,S k->¬T k
theorem Cw.kept{w':World}{S X:Nat->Prop}(h:Cw w bc bd S T D C)(k:Kept X w w')(b:∀i,S i->¬X i)(a:∀i,T i->¬X i):Cw w' bc bd S T D C:=⟨h.disk.kept k b,h.chg.kept k a,h.apart⟩
theorem Cw.kept0{w':World}{S:Nat->Prop}(h:Cw w bc bd S T D C)(k:Kept (λ_=>False) w w'):Cw w' bc bd S T D C:=h.kept k nF nF
def Ck.look(C:Ck)(D:Dk)(i:Int):List Value:=match yy C.ws i with
 |some k=>(C.ws.getD k (0,[])).2
 |none=>D.look i
theorem jo{i:Int}{k:Nat}(h:yy C.ws i=some k):∃a:k<C.ws.length,C.look D i=C.ws[k].2/\(C.ws[k].1:Int)=i:=by
 have b:=h;unfold yy at b;rw [ic] at b;obtain⟨a,c,_⟩:=b;refine⟨a,?_,by simpa using c⟩;unfold Ck.look;rw [h];simp [a]
theorem vt{i:Int}(h:yy C.ws i=none):C.look D i=D.look i:=by unfold Ck.look;rw [h]
theorem Dk.Ok.look(h:D.Ok)(i:Int):zW (D.look i):=by
 unfold Dk.look;split
 next b=>
  refine Qe ?_ (λp a=>(h.ps p a).2);rw [aE,aI (by omega),i9];exact h.bs _ (ag _)
 next=>exact zI
theorem vu(w:World)(bc bd:Nat)(S T:Nat->Prop)(D:Dk)(C:Ck)(h:Cw w bc bd S T D C)(i:Int)(Y:zs i)(R:0<=D.reads)(V:D.reads<=4611686018427387904):
 Calls Tryz.prog 192 #[.pointer (some ⟨bc,0,none⟩),.int .i64 i] w λe w'=>e=.returned (.agg (C.look D i).toArray)/\(∃n:Int,0<=n/\n<=1/\Cw w' bc bd S T {D with reads:=D.reads+n} C)/\Kept (λk=>k=bd) w w':=by
 obtain⟨r,H,ai⟩:∃r:List Value,r=z9/\∀w,(zeroValue 131).run Tryz.prog w=.ok (.agg r.toArray) w:=⟨z9,rfl,qa Tryz.infoBlock⟩;have o:Hid (zW r):=by rw [H];exact zI
 clear H;have E:Hid ((Tryz.prog.info? 131).map (·.size)=some 128):=qc Tryz.infoBlock;have p:Hid _:=h;obtain⟨a,cap,f⟩:=h.chg;have ae:=f.bcT;have af:=h.disk.lt bd h.disk.bdS;change Hid _ at f;clear h;have l:Hid (Kept (λ_=>False) w (w.alloc (.cells r.toArray 131))):=Kept.alloc _ _ _
 cases x:yy C.ws i with
 |some k=>
  obtain⟨u,U,aa⟩:=jo (D:=D) x;have L:Hid _:=U;have N:Hid _:=x;obtain⟨g,rfl⟩:=f.rowAt (by omega);have b:Hid (zW C.ws[k].2):=f.ok _ (ag u);clear U x;have ad:¬(k:Int)<0:=by omega
  have ac:(k:Int)<(C.ws.length:Int):=by omega
  have X:Hid (∀m,Kept (λ_=>False) w m->m.rangeAt g (k*129+1) C.ws[k].2):=λm c j v Z=>by have:=(f.kept c nF).range k u (j+1) v (by simpa using Z);rw [lF,iU 1 j];exact this
  generalize C.ws[k].2=d at*;go_enter Tryz.func192,Tryz.ntmps192
  go_wp2_with (first
   |(go_at_call 172;refine(xN _ bc bd T C _ cap (f.kept l nF) i).mono ?_;rintro e m ⟨rfl,c⟩;rw [N.out];unfold BD;have t:Hid _:=c;have ah:=((f.kept l nF).kept c nF).c1;have z:Hid (m.heap[w.heap.size]? =some (.cells r.toArray 131 (0,0))):=(c.block w.heap.size (by simp) (λK=>K)).trans (heap_alloc_new w _);have W:Hid _:=X.out m (l.trans c iL);clear c)
   |(show wpList _ _ _ ({dst:=some 18,op:=.load _ _,type:=_,pos:=_,after:=_,guard:=_}::_) _ _;refine wpList_load_mid rfl 131 (.tmp 17) rfl _ _ rfl d _ W Tryz.underlying131 rfl (by rw [b.1];exact E) ?_)
   |(show wpList _ _ _ ({dst:=none,op:=.store _ _ _,type:=_,pos:=_,after:=_,guard:=_}::_) _ _;refine wpList_store_mid rfl 131 (.tmp 4) (.tmp 18) rfl _ _ _ rfl rfl (by have:=yu z.out;rw [o.1] at this;simpa [b.1] using this) (by rw [aw,b.1];exact E) (all_oneCell_toArray b.2) ?_))
  have I:=qg w.heap.size 131 d 0 m _ z (by simp [o.1,b.1]);have s:=Kept.setCells (S:=λk=>k=w.heap.size) w.heap.size rfl d 0 m;have q:Kept (λ_=>False) w (m.setCells w.heap.size 0 d):=(l.trans t iL).trans s (λj M=>.inr (by rw [M];exact aC _))
  have A:(m.setCells w.heap.size 0 d).heap[w.heap.size]? =some (.cells d.toArray 131 (0,0)):=by rw [I];congr 3;rw [mj,aH,eb (by simp [o.1,b.1]),aM]
  refine bodyPost_ret (v:=.agg d.toArray) (results_cell_row Tryz.results192 _ _ w.heap.size 131 _ (0,0) _ rfl A Tryz.underlying131 rfl (by rw [aw,b.1];exact E)) rfl ⟨by rw [L.out],⟨0,by omega,by omega,?_⟩,q.mono fE⟩;have:=p.kept0 q;simpa using this
 |none=>
  have N:Hid _:=x;have L:Hid _:=vt (D:=D) x;have b:Hid (zW (D.look i)):=Dk.Ok.look p.disk.ok i;clear x;generalize P:D.look i=d at*;change Hid _ at P;go_enter Tryz.func192,Tryz.ntmps192
  go_wp2_with (first
   |(go_at_call 172;refine(xN _ bc bd T C _ cap (f.kept l nF) i).mono ?_;rintro e m ⟨rfl,c⟩;rw [N.out];unfold BD;have t:Hid _:=c;have ab:=((f.kept l nF).kept c nF).c0;have z:Hid (m.heap[w.heap.size]? =some (.cells r.toArray 131 (0,0))):=(c.block w.heap.size (by simp) (λK=>K)).trans (heap_alloc_new w _);clear c)
   |(go_at_call 81;refine(kg _ bd S D ((p.kept0 l).kept0 t).disk i Y R V).mono ?_;rintro e B ⟨rfl,F,y⟩;rw [P.out];have O:Hid (ze B bd S {D with reads:=D.reads+1 }):=F;have G:Hid _:=(y.block w.heap.size (lT z) (by omega)).trans z.out;change Hid _ at y;clear F)
   |(show wpList _ _ _ ({dst:=none,op:=.store _ _ _,type:=_,pos:=_,after:=_,guard:=_}::_) _ _;refine wpList_store_mid rfl 131 (.tmp 4) (.tmp 24) rfl _ _ _ rfl rfl (by have:=yu G.out;rw [o.1] at this;simpa [b.1] using this) (by rw [aw,b.1];exact E) (all_oneCell_toArray b.2) ?_))
  have I:=qg w.heap.size 131 d 0 B _ G (by simp [o.1,b.1]);have s:=Kept.setCells (S:=λk=>k=w.heap.size) w.heap.size rfl d 0 B;have J:=((l.trans t iL).mono fE).trans y iL;have q:Kept (λk=>k=bd) w (B.setCells w.heap.size 0 d):=J.trans s (λj M=>.inr (by rw [M];exact aC _))
  have A:(B.setCells w.heap.size 0 d).heap[w.heap.size]? =some (.cells d.toArray 131 (0,0)):=by rw [I];congr 3;rw [mj,aH,eb (by simp [o.1,b.1]),aM]
  have Q:∀k,S k->k<w.heap.size:=p.disk.lt;refine bodyPost_ret (v:=.agg d.toArray) (results_cell_row Tryz.results192 _ _ w.heap.size 131 _ (0,0) _ rfl A Tryz.underlying131 rfl (by rw [aw,b.1];exact E)) rfl ⟨by rw [L.out],⟨1,by omega,by omega,⟨O.kept s (λk u e=>by have:=Q k u;omega),p.chg.kept q (λk u e=>p.apart bd p.disk.bdS (by rw [<-e];exact u)),p.apart⟩⟩,q⟩
def Ck.put(C:Ck)(i:Nat)(b:List Value):Ck:=match yy C.ws i with
 |some k=>{C with ws:=C.ws.set k (i,b)}
 |none=>{C with ws:=C.ws++[(i,b)]}
theorem QR(w:World)(n:Int)(b:List Value)(h:b.length=128):
 (Instr.build 160 #[(0,.int .i64 n),(1,.agg b.toArray)]).run Tryz.prog w=.ok (.agg (.int .i64 n::b).toArray) w:=by
 have k:=qa Tryz.infoCw w;have a:yN.length=129:=et (· +1) zI.1;have j:=jk YW;have i:=jk (qc Tryz.infoBlock);generalize l:yN=c at*;have d:¬c=[]:=λe=>by rw [e] at a;simp at a
 have f:=fV 1 b (c.set 0 (.int .i64 n)).toArray (by simp [h,a]);have g:¬(¬b.length=128\/c.length<1+b.length):=by omega
 simp only [Instr.build,il,k,eM,iz Tryz.underlying160 w];simp [j,i,Value.cells,Instr.fill];rw [az d,az g,f];simp only [iI];congr 2;apply lW
 cases c with
 |nil=>exact absurd rfl d
 |cons z m=>simp [h];simp at a;omega
theorem QS(w:World)(a:List Value)(h:a.length=129):
 (Instr.buildSlice 156 1 #[(0,.agg a.toArray)]).run Tryz.prog w=.ok (.slice (some ⟨w.heap.size,0,none⟩) 1 1) (w.alloc (.cells a.toArray 160)):=by
 have d:=qa Tryz.infoCw w;have c:=jk (qc Tryz.infoCw);generalize e:yN=f at*;have b:¬(¬a.length=129\/129<a.length):=by omega
 simp only [Instr.buildSlice,il,eM,iz Tryz.underlying156 w]
 first
  |(simp [c,Value.cells,Instr.fill]
    rw [az b,uH a _ (by simp [h])];simp [newRow]
    done)
  |(simp [c,d,Value.cells,Instr.fill,hzl]
    rw [az b,uH a _ (by simp [h])]
    simp [newRow])
def Gl(parts:Array (Nat×Value)):Sem Value:=Instr.build 160 parts
theorem Qk(parts:Array (Nat×Value)):Instr.build 160 parts=Gl parts:=rfl
theorem cA(w:World)(n:Int)(b:List Value)(h:b.length=128):(Gl #[(0,.int .i64 n),(1,.agg b.toArray)]).run Tryz.prog w=.ok (.agg (.int .i64 n::b).toArray) w:=QR w n b h
def Gm(len:Nat)(parts:Array (Nat×Value)):Sem Value:=Instr.buildSlice 156 len parts
theorem Ql(a:Nat)(parts:Array (Nat×Value)):Instr.buildSlice 156 a parts=Gm a parts:=rfl
theorem cB(w:World)(c:Value)(a:List Value)(h:a.length=128):(Gm 1 #[(0,.agg (c::a).toArray)]).run Tryz.prog w=.ok (.slice (some ⟨w.heap.size,0,none⟩) 1 1) (w.alloc (.cells (c::a).toArray 160)):=
 QS w (c::a) (by simp [h])
def fe(v:Value):Sem Value:=Instr.loadAt 154 v
theorem kh(v:Value):Instr.loadAt 154 v=fe v:=rfl
theorem jw(w:World)(b c:Nat)(a:List Value)(d:w.rangeAt b c a)(h:a.length=128):(fe (.pointer (some ⟨b,c,none⟩))).run Tryz.prog w=.ok (.agg a.toArray) w:=
 run_loadAt_mid w b c 154 a _ d xe rfl (by rw [h];exact qc Tryz.infoPage)
theorem qO.pushed{d:World}{a:Option Addr}{cap:Nat}(h:qO w bc bd T C a cap)(x:C.ws.length<1000)(y:Obj)(i:Nat)(b:List Value)(v:zW b)(g j:Nat)
 (r:d.ownsRow 0 160 129 (.slice (some ⟨g,0,none⟩) (C.ws.length+1) j) (C.ws.length+1) ((C.ws.map zR).flatten++.int .i64 (i:Int)::b))
 (m:(w.alloc y).drew.grownBy d (Value.slice a C.ws.length cap).ownBlock) (q:(Value.slice a C.ws.length cap).ownBlock=some g\/g=w.heap.size+1):
 qO (d.setCell ⟨bc,1,none⟩ (.slice (some ⟨g,0,none⟩) (C.ws.length+1) j)) bc bd (λk=>k=bc\/k=g) {C with ws:=C.ws++[(i,b)]} (some ⟨g,0,none⟩) j/\
  (∀k,(k=bc\/k=g)->T k\/w.heap.size<=k)/\Kept T w (d.setCell ⟨bc,1,none⟩ (.slice (some ⟨g,0,none⟩) (C.ws.length+1) j)):=by
 have t:=h.lt bc h.bcT
 have u:g≠bc:=by
  rcases q with e|e;.exact λo=>h.ap (by rw [e,o])
  .omega
 have s:=Kept.grown m (λk c=>c);have c:Kept (λk=>(Value.slice a C.ws.length cap).ownBlock=some k) w d:=((Kept.alloc _ w y).trans (Kept.drew _ _) iL).trans s iL;have l:=Kept.setCell (S:=λk=>k=bc) d ⟨bc,1,none⟩ (.slice (some ⟨g,0,none⟩) (C.ws.length+1) j) rfl;have n:(C.ws++[(i,b)]).length=C.ws.length+1:=by simp
 refine⟨⟨?_,?_,?_,?_,?_,?_⟩,?_,?_⟩
 .intro p f;rcases aj.1 f with f|f;.exact h.ok p f
  .rw [aD.1 f];exact v
 .simp only [n];have e:=(c.block bc t (λe=>h.ap e)).trans h.head;rw [heap_setCell_same d bc 1 _ _ _ e];rfl
 .simp only [n];have:=l.owns r (λk c e=>by simp [Value.ownBlock] at c;omega);simpa [zR] using this
 .intro k;simp only [n];simp [Value.ownBlock,eq_comm]
 .simp [Value.ownBlock];exact u
 .simp only [n];omega
 .intro k c;rcases c with rfl|rfl;.exact .inl h.bcT
  .rcases q with o|o;.exact .inl ((h.own k).2 (.inr o))
   .right;omega
 .refine(c.mono (λk c=>(h.own k).2 (.inr c))).trans l (λk c=>.inl (by rw [c];exact h.bcT))
theorem cC{g j:Nat}{a:Array Value}{t:TypeId}{v:Value}(d:w.heap[g]? =some (.cells a t (0,0)))(b:a[j]? =some v):w.setCell ⟨g,j,none⟩ v=w:=by
 have c:(w.setCell ⟨g,j,none⟩ v).heap=w.heap:=by
  apply Array.ext_getElem?;intro k;by_cases e:k=g
  .subst e;rw [heap_setCell_same w k j _ _ _ d,d];congr 2;apply Array.ext_getElem?;intro m;rw [Array.getElem?_setIfInBounds];split
   next e=>subst e;rw [b,aB (lT b)]
   next=>rfl
  .exact iH w ⟨g,j,none⟩ k v e
 cases w;simp only [World.setCell] at c ⊢;rw [c]
theorem qO.reset{g cap:Nat}(h:qO w bc bd T C (some ⟨g,0,none⟩) cap)(k:Nat)(m:k<C.ws.length)(b:List Value)(j:zW b):
 qO (w.setCells g (k*129+1) b) bc bd T {C with ws:=C.ws.set k (C.ws[k].1,b)} (some ⟨g,0,none⟩) cap:=by
 have l:bc≠g:=λe=>h.ap (by rw [<-e];rfl);have a:(C.ws.set k (C.ws[k].1,b)).length=C.ws.length:=by simp
 refine⟨?_,?_,?_,by simp only [a];exact h.own,by simp only [a];exact h.ap,by simp only [a];exact h.few⟩
 .intro p f;rcases iD f with f|rfl;.exact h.ok p f
  .exact j
 .simp only [a];rw [xI g bc l];exact h.head
 .simp only [a];have c:=h.row;rw [show C.ws.length=(C.ws.map zR).length from by simp] at c;have i:=cd c h.wlen k (by simpa using m) (.int .i64 (C.ws[k].1:Int)::b) (by simp [j.1]);have r:(C.ws.map zR).set k (.int .i64 (C.ws[k].1:Int)::b)=(C.ws.set k (C.ws[k].1,b)).map zR:=by rw [mf];rfl
  rw [r] at i
  have t:(w.setCells g (k*129) (.int .i64 (C.ws[k].1:Int)::b))=w.setCells g (k*129+1) b:=by
   rw [World.setCells];congr 1;have n:w.cell? ⟨g,k*129,none⟩=some (.int .i64 (C.ws[k].1:Int)):=h.range k m 0 _ rfl;rcases h.row.2 with⟨q,_⟩|⟨v,o,u,s,_,d,_⟩;.cases q
   .cases s;refine cC d ?_;rw [ak w g (k*129) _ _ _ d] at n;exact n
  rw [t] at i;simpa using i
theorem ki{i k:Nat}(b:List Value)(h:yy C.ws i=some k):∃a:k<C.ws.length,C.put i b={C with ws:=C.ws.set k (C.ws[k].1,b)}:=by
 obtain⟨a,_,c⟩:=jo (D:=⟨[],[],0,0⟩) h;have:C.ws[k].1=i:=by omega
 exact⟨a,by unfold Ck.put;rw [h,this]⟩
theorem kO{i:Nat}(b:List Value)(h:yy C.ws i=none):C.put i b={C with ws:=C.ws++[(i,b)]}:=by unfold Ck.put;rw [h]
section
attribute [local go_sem ↓] Go.wp_at_zero Go.wp_at_succ Qk Ql kh
attribute [local go_sem] cA cB
theorem Y8(w:World)(bc bd:Nat)(T:Nat->Prop)(C:Ck)(a:Option Addr)(cap:Nat)(h:qO w bc bd T C a cap)(i:Nat)(b:List Value)(I:zW b)(D:C.ws.length<1000)(B:yy C.ws i=none):
 Calls Tryz.prog 135 #[.pointer (some ⟨bc,0,none⟩),.int .i64 i,.agg b.toArray] w λe w'=>e=.returned (.tuple #[])/\(∃G,Chg w' bc bd G (C.put i b)/\∀k,G k->T k\/w.heap.size<=k)/\Kept T w w':=by
 obtain⟨p,u⟩:=I;have F:Hid _:=h;have n:Hid (Kept (λ_=>False) w (w.alloc (.cells b.toArray 154))):=Kept.alloc _ _ _;change Hid _ at B;clear h;obtain⟨o,v,q,s,t⟩:=info_parts Tryz.infoCw;have l:Hid (Tryz.prog.info? 160=some o/\o.zero=some (.agg yN.toArray)/\o.size=129/\o.bytes=136):=⟨v,q,s,t⟩;clear v q s t;go_enter Tryz.func135,Tryz.ntmps135;go_wp2_with (go_at_call 172;refine(xN _ bc bd T C a cap (F.kept n nF) i).mono ?_;rintro e d ⟨rfl,j⟩;rw [B.out];unfold BD;have c:Hid _:=(F.kept n nF).kept j nF;have K:Hid (d.heap[w.heap.size]? =some (.cells b.toArray 154 (0,0))):=(j.block w.heap.size (by simp) (λM=>M)).trans (heap_alloc_new w _);change Hid _ at j);have S:=c.c1;have J:=c.lt bc c.bcT;have Q:(fe (.pointer (some ⟨w.heap.size,0,none⟩))).run Tryz.prog d.drew=.ok (.agg b.toArray) d.drew:=jw _ _ _ b (zU (w:=d.drew) K) p;have y:Hid (((d.alloc (.cells (.int .i64 (i:Int)::b).toArray 160)).drew).ownsRow 0 160 129 (.slice a C.ws.length cap) C.ws.length (C.ws.map zR).flatten):=c.row.alloc _
 go_region_law ((refine step_append_lies _ rfl (.tmp 24) (.tmp 28) 156 rfl 0 160 o _ 129 136 Tryz.underlying156 l.1 l.2.1 l.2.2.1 l.2.2.2 (et (· +1) zI.1) (by omega) (.slice a C.ws.length cap) C.ws.length _ (by rfl) y ⟨d.heap.size,0,none⟩ 1 1 (.int .i64 (i:Int)::b) (by rfl) (by simp [p]) (World.news_of_block (w:=(d.alloc (.cells (.int .i64 (i:Int)::b).toArray 160)).drew) (heap_alloc_new d _)) (aZ.2 ⟨rfl,u⟩) (by omega) (by unfold maxLen;omega) (by omega) (ai _) (d.heap.size+1) (by simp) ?_;intro g L H m f r N;have z:Hid _:=qO.pushed c D _ i b ⟨p,u⟩ g L m f r;have O:H.cell? ⟨bc,1,none⟩=some (.slice a C.ws.length cap):=(f.cell_far ⟨bc,1,none⟩ (by simp;omega) (λe=>c.ap e.symm)).trans (by simpa using c.kept (Kept.alloc (λ_=>False) d _) nF |>.c1);have R:H.frozen? ⟨bc,1,none⟩=false:=(f.frozen_far ⟨bc,1,none⟩ (by simp;omega) (λe=>c.ap e.symm)).trans (by simpa using c.kept (Kept.alloc (λ_=>False) d _) nF |>.fz 1);clear m f r))
 all_goals
  go_wp2;go_end0;have P:w.heap.size+1<=d.heap.size:=by have:=j.size;simpa using this
  have A:=n.trans j iL;refine⟨rfl,⟨_,⟨_,_,by rw [kO b B.out];exact z.1⟩,λk x=>?_⟩,(A.mono fE).trans z.2.2 (λk x=>.inl x)⟩;rcases z.2.1 k x with E|E;.exact .inl E
  .right;omega
end
theorem JL(w:World)(bc bd:Nat)(T:Nat->Prop)(C:Ck)(g cap:Nat)(h:qO w bc bd T C (some ⟨g,0,none⟩) cap)(i k:Nat)(b:List Value)(m:zW b)(r:yy C.ws i=some k):
 Calls Tryz.prog 135 #[.pointer (some ⟨bc,0,none⟩),.int .i64 i,.agg b.toArray] w λe w'=>e=.returned (.tuple #[])/\Chg w' bc bd T (C.put i b)/\Kept T w w':=by
 obtain⟨s,l⟩:=ki b r;have q:Hid _:=h;have f:Hid (Kept (λ_=>False) w (w.alloc (.cells b.toArray 154))):=Kept.alloc _ _ _;have t:=m.1;have G:=m.2;have o:T g:=(h.own g).2 (.inr rfl);have A:bc≠g:=λe=>h.ap (by rw [<-e];rfl);change Hid _ at l r m;clear h;have F:(k:Int)<(C.ws.length:Int):=by omega
 go_enter Tryz.func135,Tryz.ntmps135;go_wp2_with (go_at_call 172;refine(xN _ bc bd T C _ cap (q.kept f nF) i).mono ?_;rintro e d ⟨rfl,a⟩;rw [r.out];unfold BD;have c:Hid _:=(q.kept f nF).kept a nF;have u:Hid (d.heap[w.heap.size]? =some (.cells b.toArray 154 (0,0))):=(a.block w.heap.size (by simp) (λx=>x)).trans (heap_alloc_new w _);change Hid _ at a);have I:=c.c1
 have E:d.there g (k*129+1) 128:=λj J=>by have n:=c.row;rw [show C.ws.length=(C.ws.map zR).length from by simp] at n;have:=b8 n c.wlen k (by simpa using s) (j+1) (by omega);rw [lF,iU 1 j];exact this
 have B:=zU u.out;have H:=q.lt g o;have y:w.heap.size≠g:=by omega
 have D:=xe;have z:(Tryz.prog.info? 154).map (·.size)=some b.length:=by rw [t];exact qc Tryz.infoPage
 go_region_held3 (λw'=>w'.cell? ⟨bc,1,none⟩=some (.slice (some ⟨g,0,none⟩) C.ws.length cap)/\w'.rangeAt w.heap.size 0 b/\w'.there g (k*129+1) 128)
  ((go_split_ands;simp only [World.rangeAt_drew,World.there_drew,World.cell?_drew] at *; refine⟨?_,?_,?_⟩<;>first|assumption|(rw [World.cell?_setCells_out _ _ _ _ _ (by intro v _;simp at v;omega)];assumption)|(refine World.rangeAt_setCells_apart (by assumption) _ _ _ (by omega))|(apply World.there_setCells;assumption)))
  (fail)
 go_wp2;refine bodyPost_ret (results_none rfl _ _ _) rfl ?_;have p:Kept (λ_=>False) w d.drew:=(f.trans a iL).trans (Kept.drew _ _) iL;have n:=(c.kept (Kept.drew (λ_=>False) d) nF).reset k s b m.out;exact⟨rfl,⟨_,_,by rw [l.out];exact n⟩,(p.mono fE).trans (Kept.setCells (S:=T) g o b (k*129+1) d.drew) iL⟩
theorem kj(w:World)(bc bd:Nat)(S T:Nat->Prop)(D:Dk)(C:Ck)(h:Cw w bc bd S T D C)(i:Nat)(b:List Value)(q:zW b)(n:C.ws.length<1000):
 Calls Tryz.prog 135 #[.pointer (some ⟨bc,0,none⟩),.int .i64 i,.agg b.toArray] w λe w'=>e=.returned (.tuple #[])/\(∃f,Cw w' bc bd S f D (C.put i b)/\∀k,f k->T k\/w.heap.size<=k)/\Kept T w w':=by
 obtain⟨a,cap,o⟩:=h.chg;have s:=h.disk.lt
 cases l:yy C.ws i with
 |none=>
  refine(Y8 w bc bd T C a cap o i b q n l).mono ?_;rintro e w' ⟨m,⟨f,j,p⟩,d⟩
  exact⟨m,⟨f,⟨h.disk.kept d h.apart,j,λk c t=>by
   rcases p k t with r|r;.exact h.apart k c r
   .have:=s k c;omega⟩,p⟩,d⟩
 |some k=>
  obtain⟨c,_⟩:=ki b l;obtain⟨g,rfl⟩:=o.rowAt (by omega);refine(JL w bc bd T C g cap o i k b q l).mono ?_;rintro e w' ⟨m,j,d⟩;exact⟨m,⟨T,⟨h.disk.kept d h.apart,j,h.apart⟩,λk c=>.inl c⟩,d⟩
end prog
namespace prog
variable {m:List UInt8}{i:Nat}
def zV(m:List UInt8):Pg:=⟨3,0,m.map λb=>[b]⟩
theorem db(m:List UInt8):(m.map λb=>[b]).flatten=m:=by
 induction m with
 |nil=>rfl
 |cons b m a=>simp [a]
theorem jG(h:m.length=124):(zV m).Ok where
 kind:=by simp [zV]
 link:=by simp [zV]
 wide:=λi a=>by obtain⟨b,_,rfl⟩:=av.1 a;rfl
 fits:=by simp [zV,zm,h]
 few:=by simp [zV,h]
theorem kQ(h:m.length=124):(zV m).bytes=[3,124,0,0]++m:=by
 simp [Pg.bytes,zV,zm,h,db,bytesOf]
def vR:List UInt8:=List.replicate 124 0
theorem VM:vR.length=124:=by simp [vR]
theorem VN:(Pg.new 3).grown 124=zV vR:=by
 simp [Pg.grown,Pg.new,zV,vR,zm]
def zX(m:List UInt8)(i:Nat):Bool:=(m.getD (i/8) 0).toNat.testBit (i%8)
def gI(m:List UInt8)(i:Nat):List UInt8:=m.set (i/8) (UInt8.ofNat ((m.getD (i/8) 0).toNat|||2^(i%8)))
def vd(m:List UInt8)(i:Nat):List UInt8:=m.set (i/8) (UInt8.ofNat ((m.getD (i/8) 0).toNat&&&(255^^^2^(i%8))))
theorem Y9(m:List UInt8)(i:Nat):(gI m i).length=m.length:=by simp [gI]
theorem Gn(m:List UInt8)(i:Nat):(vd m i).length=m.length:=by simp [vd]
theorem JM(i:Nat):2^(i%8)<256:=by
 have h:i%8<=7:=by omega
 have:=lr (show 0<2 by omega) h;omega
theorem fg(r s:Nat):(2^r).testBit s=decide (r=s):=Nat.testBit_two_pow
theorem Gp(s:Nat)(h:s<8):(255:Nat).testBit s=true:=by
 have:(255:Nat)=2^8-1:=rfl;rw [this,Nat.testBit_two_pow_sub_one];simpa using h
theorem Xa{v:Nat}(a:v<256)(b:i/8<m.length)(j:Nat):
 zX (m.set (i/8) (UInt8.ofNat v)) j=if j/8=i/8 then v.testBit (j%8) else zX m j:=by
 unfold zX;by_cases e:j/8=i/8
 .rw [aB e,e,aE,lM b,i9];simp [mW a]
 .rw [az e,aE,iV (iK e),<-aE]
theorem VO(b:i/8<m.length)(j:Nat):zX (gI m i) j=(zX m j||decide (j=i)):=by
 have a:(m.getD (i/8) 0).toNat|||2^(i%8)<256:=Nat.or_lt_two_pow (n:=8) (m.getD (i/8) 0).toNat_lt (JM i);unfold gI;rw [Xa a b];split
 next e=>
  rw [Nat.testBit_or,fg];unfold zX;rw [e];congr 1;simp;omega
 next e=>rw [decide_eq_false (by intro h;rw [h] at e;exact e rfl),Bool.or_false]
theorem VP(b:i/8<m.length)(j:Nat):zX (vd m i) j=(zX m j&&decide (j≠i)):=by
 have a:(m.getD (i/8) 0).toNat&&&(255^^^2^(i%8))<256:=mM mZ (m.getD (i/8) 0).toNat_lt;unfold vd;rw [Xa a b];split
 next e=>
  rw [m8,Nat.testBit_xor,fg,Gp _ (by omega)];unfold zX;rw [e];congr 1;by_cases h:j=i;.subst h;simp
  .have:i%8≠j%8:=by omega
   simp [h,this]
 next e=>rw [aG (by intro h;rw [h] at e;exact e rfl),Bool.and_true]
theorem JN(i:Nat):zX vR i=false:=by
 unfold zX vR;rw [aE,List.getElem?_replicate];split<;>simp
end prog
end Go.Proofs.YtcoengihaobddaaGreatDoor
