/- Part 45 of 50 of a proof: Keep24, Keep25, Keep26, Keep27 -/
import Derived.Test.YtcoengihaobddaaGreatDoorJe44
import Derived.Deep.DeepCutAuto
set_option maxHeartbeats 8000000
set_option linter.unusedVariables false
set_option linter.unusedSimpArgs false
set_option maxRecDepth 8000
namespace Go.Proofs.YtcoengihaobddaaGreatDoor
open Go.ChangeShapes Go.WideShapes Go.ChangeAt Go.RowKit disk ref book
open keys (zg zd zq zl zh)
namespace keep
open law (zP za zL yU zD xm J6 Uc OutIs)
variable {V:zP}{vs:List zw}{last:Int}{lost i:Nat}
structure uE (v:zw):Prop where
 mark:v.mark=false
 key:zh v.key.data.toList=true
 body:v.body.length<=300
 num:1<=v.num/\v.num<=1000000000000000000
theorem y6.fine(h:y6 V vs last lost)(g:law.Good V)(b:V.n0<=1000000000000000000):∀v∈vs,uE v:=λv a=>
 ⟨h.plain v a,g.key v (h.sub v a),g.body v (h.sub v a),(g.num v (h.sub v a)).1,by have:=(g.num v (h.sub v a)).2;omega⟩
def jL(V:zP)(vs:List zw)(gone:Int):Prop:=∀j (hj:j<vs.length),vs[j]∈V.vs\/((j:Int)=gone/\qK V.vs vs[j].key vs[j].num=none)
theorem y6.here(h:y6 V vs last lost)(gone:Int):jL V vs gone:=λj a=>.inl (h.sub _ (ag a))
theorem fR.here(h:fR V vs i last lost):jL V vs (i:Int):=by
 rcases h with h|⟨c,h,b⟩;.exact h.here _
 .intro j a;by_cases e:j=i;.subst e;exact .inr ⟨rfl,b⟩
  .exact .inl (h.sub _ (BA vs i j a e))
section
variable {M:za} {w w':World} {X T:Nat->Prop} {bp bd bs:Nat} {S S':Nat->Prop} {D D':Dk} {V:zP} {vs:List zw} {last gone:Int} {lost:Nat} {a:Option Addr} {cap:Nat} {cs:List (List Value)} {G:Nat->Prop} {most:Int} {q:Option Nat}
theorem zG.call(h:zG w X bp bd bs S vs last gone lost a cap cs G)(b:xm M w w' bd bs S S' D D' most q):zG w' (λk=>X k\/(w.heap.size<=k/\k<w'.heap.size)) bp bd bs S' vs last gone lost a cap cs G/\Kept X w w':=
 ⟨h.aft b.kept (λk c=>⟨b.foot k c,b.disk.lt k c⟩) (Kept.refl _ _) ((b.kept.block bp h.lt (λd=>d.elim h.pS h.pb)).trans h.head),b.kept.mono (λk c=>c.elim (h.xS k) (λe=>by rw [e];exact h.xb))⟩
theorem Wm(A:yU M)(F:zD M w bd bs S D V)(v:zw)(d:uE v)(h:v∈V.vs\/qK V.vs v.key v.num=none):
 Calls Tryz.prog 42 #[.pointer (some ⟨bs,0,none⟩),.string v.key,.int .i64 v.num] w λe w'=>∃S' D' a cap n c,e=.returned (.tuple #[.slice a n cap,.int .i64 c])/\xm M w w' bd bs S S' D D' 40 (some bd)/\M.Live D' V/\
  ((c=0/\v∈V.vs/\n=v.body.length/\zu w' (λ_=>True) a v.body)\/(c=5/\n=0/\qK V.vs v.key v.num=none)):=by
 have m:=jr d.key;have p:=d.num;refine(A.live w bd bs S D V v.key v.num F (by unfold maxLen;omega) ⟨by omega,by omega⟩).mono ?_;rintro e w' ⟨D',q,S',rfl,l,j,b,o⟩;rcases h with h|h
 .have f:=gh F.live.good.apart h
  have g:yF (zh v.key.data.toList) (qK V.vs v.key v.num)=0:=by rw [d.key,f];show cond v.mark 5 0=0;rw [d.mark];rfl
  rw [g] at b ⊢;obtain⟨u,k,a,cap,rfl,i,_⟩:=b.1 rfl;rw [f] at k;obtain rfl:v=u:=by simpa using k
  exact⟨S',D',a,cap,_,0,rfl,l,j,.inl ⟨rfl,h,rfl,zu.of_own 5 i rfl _ (λ_ _=>eR)⟩⟩
 .have g:yF (zh v.key.data.toList) (qK V.vs v.key v.num)=5:=by rw [d.key,h];rfl
  rw [g] at b ⊢;obtain⟨a,cap,rfl⟩:=b.2 (by decide);exact⟨S',D',a,cap,0,5,rfl,l,j,.inr ⟨rfl,rfl,h⟩⟩
theorem UQ(w:World)(Q:Nat->Prop)(a b:Option Addr)(f g:Nat)(l:List UInt8)(d:zu w Q b l)(i:l.length<=140737488355326):
 Calls Tryz.prog 29 #[.slice a 0 f,.slice b l.length g] w λe w'=>∃r:Bool,e=.returned (.bool r)/\∃n,w'=w.drewN n:=by
 by_cases c:l=[]
 .subst c;exact(uy w (λ_=>True) Q a b f g [] (.inl rfl) d i).mono (λe w' h=>⟨true,h⟩)
 .have m:0<l.length:=List.length_pos_iff.2 c;have j:((0:Int)=(l.length:Int))=False:=by simp;omega
  have k:((0:Int)==(l.length:Int))=false:=by simp;omega
  clear d c;go_enter Tryz.func29,Tryz.ntmps29;go_wp2;go_ret;exact⟨false,rfl,0,rfl⟩
set_option maxRecDepth 60000 in
theorem KJ(A:yU M)(h:zG w X bp bd bs S vs last gone lost a cap cs G)(F:zD M w bd bs S D V)(ad:∀v∈vs,uE v)(ah:jL V vs gone)(aN:D.reads<=1000000000000000000)(aH:vs.length<=6000)(aM:zs gone):
 Calls Tryz.prog 17 #[.pointer (some ⟨bp,0,none⟩)] w λe w'=>e=.returned (.bool true)/\∃q S' D',zG w' q bp bd bs S' vs last gone lost a cap cs G/\zD M w' bd bs S' D' V/\D'.reads<=D.reads+40*(vs.length:Int)/\D'.bs.length=D.bs.length/\Kept X w w'/\∀k,q k->X k\/w.heap.size<=k:=by
 have ax:Hid (zG w X bp bd bs S vs last gone lost a cap cs G):=h;have au:Hid (zD M w bd bs S D V):=F;have ay:Hid (∀v∈vs,uE v):=ad;have aA:Hid (jL V vs gone):=ah;clear h F ad ah;go_enter Tryz.func17,Tryz.ntmps17;go_wp2_with fail;go_loopw [3] (λt wr=>∃i:Nat,i<=vs.length/\t=.int .i64 i/\∃q S' D',zG wr q bp bd bs S' vs last gone lost a cap cs G/\zD M wr bd bs S' D' V/\D'.reads<=D.reads+40*(i:Int)/\D'.bs.length=D.bs.length/\Kept X w wr/\∀k,q k->X k\/w.heap.size<=k) (λt _=>vs.length-(intOf t).toNat)
 case atStart=>exact⟨0,ai _,rfl,X,S,D,ax.out,au.out,by omega,rfl,Kept.refl _ _,λk x=>.inl x⟩
 case round=>
  obtain⟨i,aJ,rfl,s,S1,D1,Z,f,aa,ao,P,Q⟩:=hrel;have H:Hid (zG wr s bp bd bs S1 vs last gone lost a cap cs G):=Z;have y:Hid (zD M wr bd bs S1 D1 V):=f;have l:Hid (Kept X w wr):=P;have o:Hid (∀k,s k->X k\/w.heap.size<=k):=Q;obtain⟨_,aG,aF,_,aE,_,_,_⟩:=qA Z.head;clear Z f P Q;by_cases m:i<vs.length
  .have aD:(i:Int)<(vs.length:Int):=by omega
   obtain⟨g,rfl⟩:=H.out.rowAt (by omega);obtain⟨k0,k1,_⟩:=H.out.cells i m;have N:Hid (uE vs[i]):=ay.out _ (ag m);have L:Hid (vs[i]∈V.vs\/((i:Int)=gone/\qK V.vs vs[i].key vs[i].num=none)):=aA.out i m;have ab:Hid (vs[i]? =some vs[i]):=by show _=_;simp
   generalize vs[i]=v at*;have aC:=N.out.body;have aj:Hid (vs[i]=v):=by show vs[i]=v;have:=ab.out;rw [aI m] at this;exact aK this
   go_wp2_with fail;go_region_held3 (λw'=>w'.cell? ⟨bp,1,none⟩=some (.pointer (some ⟨bs,0,none⟩))/\w'.cell? ⟨bp,2,none⟩=some (.slice (some ⟨g,0,none⟩) vs.length cap)/\w'.cell? ⟨g,i*3,none⟩=some (.string v.key)/\w'.cell? ⟨g,i*3+1,none⟩=some (.int .i64 v.num)) (go_keep) ((go_at_call 42;refine(Wm A (zD.kept y.out (Kept.drew (λ_=>False) wr) nF (λf=>f)) v N.out (L.out.imp id (λh=>h.2))).mono ?_;rintro e w2 ⟨E,U,W,ac,aO,c,rfl,n,J,p⟩;have b:=(H.out.kept (Kept.drew (λ_=>False) wr) nF).call n;have K:Hid (Kept s wr w2):=⟨b.2.os,b.2.tape,b.2.output,b.2.size,b.2.block⟩;have z:Hid (zG w2 (λk=>s k\/(wr.heap.size<=k/\k<w2.heap.size)) bp bd bs E vs last gone lost (some ⟨g,0,none⟩) cap cs G):=b.1;have ar:=n.reads1;have aB:=n.size;have R:Hid (zD M w2 bd bs E U V):=zD.aft (zD.kept y.out (Kept.drew (λ_=>False) wr) nF (λf=>f)) n J (by omega);have B:Hid _:=p;obtain⟨_,aw,av,_,az,_,_,_⟩:=qA b.1.head;obtain⟨am,an,Y,ak,k2,C⟩:=b.1.cells i m;rw [aj.out] at am an k2 C;have I:Hid (zu w2 G Y v.body):=C;clear n J p b C));rcases B.out with⟨rfl,_,rfl,T⟩|⟨rfl,rfl,O⟩
   .have al:Hid (zu w2 (λ_=>True) W v.body):=T;clear T B;go_wp2_with fail;refine(uy w2 (λ_=>True) G W Y ac ak v.body al.out I.out (by omega)).mono ?_;rintro e u ⟨rfl,aq,j⟩;have k3:Kept (λ_=>False) w2 u:=by rw [j];exact kD
    have d:Hid (Kept (λ_=>False) w2 u):=k3;clear j k3;go_wp2;go_roundw
    case rel=>exact⟨i+1,by omega,by go_num,_,E,U,z.out.kept d.out nF,zD.kept R.out d.out nF (λf=>f),by push_cast;omega,by omega,(l.out.trans K.out o.out).trans d.out fE,λk x=>x.elim (o.out k) (λh=>.inr (by have:=l.out.size;omega))⟩
    case measure=>simp [intOf];omega
   .have af:(i:Int)=gone:=by
     rcases L.out with h|h;.exact absurd ⟨rfl,rfl⟩ (jY O v h)
     .exact h.1
    clear O B;subst af;go_wp2_with fail;refine(UQ w2 G W Y ac ak v.body I.out (by omega)).mono ?_;rintro e u ⟨r,rfl,aq,j⟩;have k3:Kept (λ_=>False) w2 u:=by rw [j];exact kD
    have d:Hid (Kept (λ_=>False) w2 u):=k3;obtain⟨_,_,_,_,ap,_,_,_⟩:=qA (z.out.kept k3 nF).head;clear j k3;go_wp2;go_roundw
    case rel=>exact⟨i+1,by omega,by go_num,_,E,U,z.out.kept d.out nF,zD.kept R.out d.out nF (λf=>f),by push_cast;omega,by omega,(l.out.trans K.out o.out).trans d.out fE,λk x=>x.elim (o.out k) (λh=>.inr (by have:=l.out.size;omega))⟩
    case measure=>simp [intOf];omega
  .have aL:decide ((i:Int)<(vs.length:Int))=false:=decide_eq_false (by omega);have ae:i=vs.length:=by omega
   subst ae;go_wp2;go_ret;exact⟨rfl,s,S1,D1,H.out,y.out,aa,ao,l.out,o.out⟩
end
def qy(M:za)(w:World)(X:Nat->Prop)(bp:Nat)(D:Dk)(V:zP)(vs:List zw)(last gone:Int)(lost:Nat):Prop:=∃bd bs S a cap cs G,zG w X bp bd bs S vs last gone lost a cap cs G/\zD M w bd bs S D V
def fS(U:zP)(vs:List zw)(last gone:Int)(lost:Nat):Prop:=(gone= -1/\y6 U vs last lost)\/∃i:Nat,gone=(i:Int)/\i<vs.length/\fR U vs i last lost
structure Wn (M N:za):Prop where
 could:∀D P,M.Could D P->N.Could D P
 fore:∀w bd bs S D V,zD N w bd bs S D V->zD M w bd bs S D V
 none:∀f,N.Fu f->f≠0
 every:∀f,zs f->M.Fu f
section
variable {M N:za} {w w':World} {X T:Nat->Prop} {bp bd bs bd' bs':Nat} {S S':Nat->Prop} {D D':Dk} {V U:zP} {vs:List zw} {last gone:Int} {lost:Nat} {a:Option Addr} {cap:Nat} {cs:List (List Value)} {G:Nat->Prop}
theorem fS.here(h:fS U vs last gone lost):jL U vs gone:=by
 rcases h with⟨_,h⟩|⟨i,rfl,_,h⟩;.exact h.here _
 .exact h.here
theorem fS.num(h:fS U vs last gone lost)(a:vs.length<=6000):zs gone:=by
 rcases h with⟨rfl,_⟩|⟨i,rfl,b,_⟩<;>constructor<;>omega
theorem qy.kept(h:qy M w X bp D V vs last gone lost)(k:Kept T w w')(b:∀i,X i->¬T i):qy M w' X bp D V vs last gone lost:=by
 obtain⟨bd,bs,S,a,cap,cs,G,h,F⟩:=h;exact⟨bd,bs,S,a,cap,cs,G,h.kept k b,zD.kept F k (λi c=>b i (h.xS i c)) (b bs h.xb)⟩
theorem zG.moved(h:zG w X bp bd bs S vs last gone lost a cap cs G)(k:Kept (λk=>S k\/k=bp) w w')(j:w'.heap[bp]? =some (yt (.pointer (some ⟨bd',0,none⟩)) (.pointer (some ⟨bs',0,none⟩)) (.slice a vs.length cap) last gone (lost:Nat)))(f:∀k,S' k->w.heap.size<=k/\k<w'.heap.size)(l:w.heap.size<=bs'/\bs'<w'.heap.size):
 zG w' (λk=>X k\/(w.heap.size<=k/\k<w'.heap.size)) bp bd' bs' S' vs last gone lost a cap cs G/\Kept X w w':=by
 have s:=k.size;have c:∀k,X k->¬S' k/\k≠bs':=λk g=>⟨λd=>by have:=h.xlt k g;have:=f k d;omega,λe=>by have:=h.xlt k g;omega⟩;refine⟨⟨j,k.owns h.row (λi b d=>?_),h.told.kept k (λi b d=>?_),λi b=>?_,λi b=>.inr (f i b),.inr l,.inl h.xp,λi b=>.inl (h.xr i b),λi b=>.inl (h.xG i b),(c bp h.xp).1,(c bp h.xp).2,λi b=>⟨(c i (h.xr i b)).1,(c i (h.xr i b)).2,(h.rS i b).2.2⟩,λi b=>⟨(c i (h.xG i b)).1,(c i (h.xG i b)).2,(h.gS i b).2.2⟩⟩,k.mono (λi b=>b.elim (h.xS i) (λe=>by rw [e];exact h.xp))⟩;.exact d.elim (h.rS i b).1 (h.rS i b).2.2
 .exact d.elim (h.gS i b).1 (h.gS i b).2.2.1
 .rcases b with b|b;.have:=h.xlt i b;omega
  .exact b.2
theorem QM(A:zL N)(d:Wn M N)(h:zG w X bp bd bs S vs last gone lost a cap cs G)(o:ze w bd S D)(n:Int)(B:n<=1000000000000000000)(z:M.Could D (λU=>fS U vs last gone lost/\U.n0<=n))(s:D.bs.length=1000)(Q:Nat->Prop)(c:Option Addr)(j:Nat)(ks:List Bool)(b:uC w Q c ks)(q:∀k,Q k->¬X k)(f:ks.length<=140737488355326):
 Calls Tryz.prog 16 #[.pointer (some ⟨bp,0,none⟩),.slice c ks.length j] w λe w'=>e=.returned (.tuple #[])/\∃g D' V,qy M w' g bp D' V vs last gone lost/\fS V vs last gone lost/\V.n0<=n/\D'.reads<=2000/\D'.bs.length=1000/\Kept X w w'/\∀k,g k->X k\/w.heap.size<=k:=by
 refine(Ju A d.none _ _ _ last gone lost h.head o (d.could _ _ z) h.pS s (λV y=>by have:=y.2;omega) Q c j ks b (λk b v=>q k b (h.xS k v)) f).mono ?_;rintro e w' ⟨rfl,bd',bs',S',D',V,l,t,hF,hbs,x,i,u,m⟩;obtain⟨r,p⟩:=h.moved i t (λk b=>⟨x k b,hF.disk.lt k b⟩) ⟨hbs,N.sto_lt _ _ _ hF.sto⟩;exact⟨rfl,_,D',V,⟨_,_,_,_,_,_,_,r,d.fore _ _ _ _ _ _ hF⟩,l.1,l.2,u,m,p,λk b=>b.imp id (λh=>h.1)⟩
theorem ZH(A:yU M)(h:qy M w X bp D V vs last gone lost)(l:∀v∈vs,uE v)(d:fS V vs last gone lost)(g:D.reads<=1000000000000000000)(c:vs.length<=6000):
 Calls Tryz.prog 17 #[.pointer (some ⟨bp,0,none⟩)] w λe w'=>e=.returned (.bool true)/\∃b D',qy M w' b bp D' V vs last gone lost/\D'.reads<=D.reads+40*(vs.length:Int)/\D'.bs.length=D.bs.length/\Kept X w w'/\∀k,b k->X k\/w.heap.size<=k:=by
 obtain⟨bd,bs,S,a,cap,cs,G,h,F⟩:=h;refine(KJ A h F l d.here g c (d.num c)).mono ?_;rintro e w' ⟨rfl,b,S',D',n,f,i,m,o,j⟩;exact⟨rfl,b,D',⟨_,_,_,_,_,_,_,n,f⟩,i,m,o,j⟩
end
theorem xU{P:Program}{p:Array Oper}{x:Oper}{a:Act}{w:World}{Z:Act->World->Prop}{Q:Exit->Act->World->Prop}{ac:Prop}(C:x.guard=none)(s aa:Operand)(t:TypeId)
 (R:x.op=.call {callee:=.builtin .append,args:=#[s,aa],argTypes:=#[t,t] })
 (e:TypeId) (i:TypeInfo) (z:Value) (b bytes:Nat) (J:P.underlying t=some (.slice e)) (W:P.info? e=some i) (N:i.zero=some z)
 (l:i.size=b) (G:i.bytes=bytes) (H:z.cells.size=b) (F:0<b) (v:Value) (n:Nat) (A:List Value) (V:a.eval s=v) (q:w.ownsRow 0 e b v n A)
 (y:Addr) (m c:Nat) (d:List Value) (X:a.eval aa=.slice (some y) m c) (S:d.length=m*b) (o:∀j u,d[j]? =some u->w.cell? (y.add j)=some u) (K:∀u∈d,u.oneCell'=true)
 (E:n+m<=maxLen) (k:(n+m)*bytes<=140737488355328)
 (h:∀g f w',w'.ownsRow 0 e b (.slice g (n+m) f) (n+m) (A++d)->w.grownBy w' v.ownBlock->((Value.slice g (n+m) f).ownBlock=v.ownBlock\/(Value.slice g (n+m) f).ownBlock=some w.heap.size)->Z (a.put x.dst (.slice g (n+m) f)) w'):if Region.wanted x (yielded p a.tmps)=true then Oper.wp P x a w Z Q else ac:=by
 have O:Region.wanted x (yielded p a.tmps)=true:=by simp [Region.wanted,C]
 rw [aB O];obtain⟨I,w',T,D,U,_,L⟩:=mn (P:=P) w 0 t x.type e i z b bytes J W N l G H F v n A q y m c d S o K E k (ai _)
 obtain⟨g,f,rfl⟩:∃g f,I=.slice g (n+m) f:=by
  rcases D.2 with⟨B,M⟩|⟨ab,r,Y,B,_⟩;.exact⟨none,0,by rw [B,M]⟩
  .exact⟨_,r,B⟩
 unfold Oper.wp execOp;simp only [R,resolve,invoke,builtin,il,iI,eM,iQ,aT,im,V,X,T];exact h g f w' D U L
theorem xC{S:Nat->Prop}{w w':World}(h:Kept S w.drew w'):Kept S w w':=(Kept.drew S w).trans h iL
section
variable {M:za} {w w':World} {X T:Nat->Prop} {bp bd bs:Nat} {S:Nat->Prop} {D:Dk} {V:zP} {vs:List zw} {last gone:Int} {lost:Nat} {a:Option Addr} {cap:Nat} {cs:List (List Value)} {G:Nat->Prop}
theorem zG.sets(h:zG w X bp bd bs S vs last gone lost a cap cs G){b:Int}{j:Nat}{v:Value}(e:(w.setCell ⟨bp,j,none⟩ v).heap[bp]? =some (yt (.pointer (some ⟨bd,0,none⟩)) (.pointer (some ⟨bs,0,none⟩)) (.slice a vs.length cap) last b (lost:Nat))):zG (w.setCell ⟨bp,j,none⟩ v) X bp bd bs S vs last b lost a cap cs G:=by
 have k:=Kept.setCell (S:=λk=>k=bp) w ⟨bp,j,none⟩ v rfl;exact⟨e,k.owns h.row (λi c e=>(h.rS i c).2.2 e),h.told.kept k (λi c e=>(h.gS i c).2.2.1 e),λi c=>au (h.xlt i c) k.size,h.xS,h.xb,h.xp,h.xr,h.xG,h.pS,h.pb,h.rS,h.gS⟩
theorem zG.ungone(h:zG w X bp bd bs S vs last gone lost a cap cs G):zG (w.setCell ⟨bp,4,none⟩ (.int .i64 (-1))) X bp bd bs S vs last (-1) lost a cap cs G:=h.sets (by rw [heap_setCell_same w bp 4 _ _ _ h.head];rfl)
theorem zG.again(h:zG w X bp bd bs S vs last gone lost a cap cs G):zG (w.setCell ⟨bp,6,none⟩ (.bool true)) X bp bd bs S vs last gone lost a cap cs G:=h.sets (by rw [heap_setCell_same w bp 6 _ _ _ h.head];rfl)
theorem qy.again(h:qy M w X bp D V vs last gone lost):qy M (w.setCell ⟨bp,6,none⟩ (.bool true)) X bp D V vs last gone lost/\Kept X w (w.setCell ⟨bp,6,none⟩ (.bool true)):=by
 obtain⟨bd,bs,S,a,cap,cs,G,h,F⟩:=h;have k:=Kept.setCell (S:=λk=>k=bp) w ⟨bp,6,none⟩ (.bool true) rfl;exact⟨⟨bd,bs,S,a,cap,cs,G,h.again,zD.kept F k (λi b e=>h.pS (by rw [<-show i=bp from e];exact b)) (λe=>h.pb e.symm)⟩,k.mono (λi b=>by rw [show i=bp from b];exact h.xp)⟩
theorem fR.stays(h:fR V vs i last lost)(c:i<vs.length)(a:vs[i]∈V.vs):y6 V vs last lost:=by
 rcases h with h|⟨_,_,b⟩;.exact h
 .exact absurd ⟨rfl,rfl⟩ (jY b _ a)
theorem fR.leaves(h:fR V vs i last lost)(b:i<vs.length)(a:qK V.vs vs[i].key vs[i].num=none):y6 V (cut vs i) last lost:=by
 rcases h with h|⟨_,h,_⟩;.exact absurd ⟨rfl,rfl⟩ (jY a _ (h.sub _ (ag b)))
 .exact h
set_option maxRecDepth 60000 in
theorem YH(A:yU M)(h:zG w X bp bd bs S vs last gone lost a cap cs G)(F:zD M w bd bs S D V)(ap:∀v∈vs,uE v)(bE:fS V vs last gone lost)(b8:D.reads<=1000000000000000000)(b6:vs.length<=6000):
 Calls Tryz.prog 44 #[.pointer (some ⟨bp,0,none⟩)] w λe w'=>e=.returned (.tuple #[])/\∃bo D' ah,qy M w' bo bp D' V ah last (-1) lost/\y6 V ah last lost/\weight ah<=weight vs/\D'.reads<=D.reads+40/\D'.bs.length=D.bs.length/\Kept X w w'/\∀k,bo k->X k\/w.heap.size<=k:=by
 obtain⟨_,b2,bU,_,bT,_,_,_⟩:=qA h.head;have ai:Hid (zD M w bd bs S D V):=F;have bN:=F.reads0;rcases bE with⟨rfl,bl⟩|⟨i,rfl,N,a3⟩
 .have n:Hid (zG w X bp bd bs S vs last (-1) lost a cap cs G):=h;have bt:Hid (y6 V vs last lost):=bl;clear h F ap bl;go_enter Tryz.func44,Tryz.ntmps44;go_wp2
  (try simp only [Exit.inBlock,Exit.then])
  refine bodyPost_ret (results_none rfl _ _ _) rfl ?_;exact⟨rfl,X,D,vs,⟨_,_,_,_,_,_,_,n.out,ai.out⟩,bt.out,aC _,by omega,rfl,Kept.refl _ _,λk b=>.inl b⟩
 .obtain⟨g,rfl⟩:=h.rowAt (by omega);obtain⟨k0,k1,_⟩:=h.cells i N;have n:Hid (zG w X bp bd bs S vs last (i:Int) lost (some ⟨g,0,none⟩) cap cs G):=h;have bq:Hid (uE vs[i]):=ap _ (ag N);have aQ:Hid (fR V vs i last lost):=a3
  have bj:Hid (vs[i]∈V.vs\/qK V.vs vs[i].key vs[i].num=none):=by
   rcases a3 with h|⟨_,_,C⟩;.exact .inl (h.sub _ (ag N))
   .exact .inr C
  have bZ:Hid (vs[i]? =some vs[i]):=by show _=_;simp
  generalize aj:vs[i]=v at*;have bY:(i:Int)<(vs.length:Int):=by omega
  have bW:¬(i:Int)<0:=by omega
  have br:=h.lt;have hbs:=h.xlt bs h.xb;have ab:=h.rS g rfl;have aB:=h.xlt g (h.xr g rfl);have bw:=h.told.len
  have a2:vs.length<=cap/\cap<=maxLen:=by
   rcases h.row.2 with⟨bJ,av⟩|⟨b3,bD,bP,ap,_,_,bI,bB,_⟩;.cases bJ
   .cases ap;exact⟨bI,bB⟩
  have bz:cap<=9223372036854775807:=by have:=a2.2;unfold maxLen at this;omega
  have bx:(vs.length:Int)<=(cap:Int):=by omega
  have bR:(i:Int)+1<=(vs.length:Int):=by omega
  have bS:(i:Int)<=(cap:Int):=by omega
  have bL:(0:Int)<=(i:Int)+1:=by omega
  have b0:(i:Int)<=(i:Int)+1:=by omega
  have bG:(i:Int)+1<=(cap:Int):=by omega
  have bX:IntKind.i64.wrap ((i:Int)+1)=(i:Int)+1:=IntWalk.i64_in _ (by omega);obtain⟨P,aM,aD,aO,L⟩:=qU Tryz.infoKp;have d:Hid (Tryz.prog.info? 85=some P/\P.zero=some (.agg #[.string ⟨#[]⟩,.int .i64 0,.slice none 0 0])/\P.size=3/\P.bytes=48):=⟨aM,aD,aO,L⟩;have an:=h.told.one;have aR:=h.told.three;have ba:Hid (∀c∈cs,c.length=3):=aR;have bg:Hid (∀u∈cs.flatten,u.oneCell'=true):=an;have aw:Hid (vs[i]=v):=aj;clear h aM aD aO L an aR F ap a3 aj;go_enter Tryz.func44,Tryz.ntmps44;go_wp2_with fail;go_region_held3 (λw'=>w'.cell? ⟨bp,1,none⟩=some (.pointer (some ⟨bs,0,none⟩))/\w'.cell? ⟨bp,2,none⟩=some (.slice (some ⟨g,0,none⟩) vs.length cap)/\w'.cell? ⟨bp,4,none⟩=some (.int .i64 (i:Int))/\w'.cell? ⟨g,i*3,none⟩=some (.string v.key)/\w'.cell? ⟨g,i*3+1,none⟩=some (.int .i64 v.num)) (go_keep) ((go_at_call 42;refine(Wm A (zD.kept ai.out (Kept.drew (λ_=>False) w) nF (λC=>C)) v bq.out bj.out).mono ?_;rintro e w2 ⟨a7,au,b7,b4,b5,c,rfl,r,aL,Z⟩;have am:Hid _:=Z;have ae:=r.reads1;have L:=r.size;have ar:Hid (zD M w2 bd bs a7 au V):=zD.aft (zD.kept ai.out (Kept.drew (λ_=>False) w) nF (λC=>C)) r aL (by omega);have s:Hid (Kept (λk=>S k\/k=bs) w w2):=⟨r.kept.os,r.kept.tape,r.kept.output,r.kept.size,r.kept.block⟩;have Y:Hid (∀k,a7 k->(S k\/w.heap.size<=k)/\k<w2.heap.size):=(λk b=>⟨r.foot k b,r.disk.lt k b⟩);have K:w2.heap[bp]? =_:=(s.out.block bp br (λB=>B.elim n.out.pS n.out.pb)).trans n.out.head;have aq:Hid (w2.heap[bp]? =some (yt (.pointer (some ⟨bd,0,none⟩)) (.pointer (some ⟨bs,0,none⟩)) (.slice (some ⟨g,0,none⟩) vs.length cap) last (i:Int) (lost:Nat))):=K;have bO:w2.cell? ⟨bp,1,none⟩=some (.pointer (some ⟨bs,0,none⟩)):=(ak w2 bp 1 _ _ _ K).trans rfl;have bM:w2.cell? ⟨bp,2,none⟩=some (.slice (some ⟨g,0,none⟩) vs.length cap):=(ak w2 bp 2 _ _ _ K).trans rfl;have bH:w2.cell? ⟨bp,4,none⟩=some (.int .i64 (i:Int)):=(ak w2 bp 4 _ _ _ K).trans rfl;have bF:=aa w2 bp 4 _ _ K;have bV:w2.cell? ⟨g,i*3,none⟩=some (.string v.key):=(s.out.cell (a:=⟨g,i*3,none⟩) aB (λB=>B.elim ab.1 ab.2.1)).trans k0;have b1:w2.cell? ⟨g,i*3+1,none⟩=some (.int .i64 v.num):=(s.out.cell (a:=⟨g,i*3+1,none⟩) aB (λB=>B.elim ab.1 ab.2.1)).trans k1;clear r aL Z K))
  have Q:Hid (¬a7 bp):=λb=>by
   rcases (Y.out bp b).1 with h|h;.exact n.out.pS h
   .omega
  rcases am.out with⟨rfl,bn,_,_⟩|⟨rfl,_,C⟩
  .have bf:Hid (y6 V vs last lost):=aQ.out.stays N (by rw [aw.out];exact bn);clear bn am;have bA:bp<w2.heap.size:=by have:=s.out.size;omega
   go_wp2;go_end0;have ad:Kept (λk=>k=bp) w2 (w2.setCell ⟨bp,4,none⟩ (.int .i64 (-1))):=Kept.setCell (S:=λk=>k=bp) w2 ⟨bp,4,none⟩ _ rfl;have bC:=n.out.aft s.out Y.out ad (by rw [heap_setCell_same w2 bp 4 _ _ _ aq.out];rfl)
   exact⟨rfl,_,au,vs,⟨_,_,_,_,_,_,_,bC,zD.kept ar.out ad (λk b e=>Q.out (by rw [<-show k=bp from e];exact b)) (λe=>n.out.pb e.symm)⟩,bf.out,aC _,ae,L,(s.out.mono (λk b=>by
    rcases b with b|rfl;.exact n.out.xS k b
    .exact n.out.xb)).trans ad (λk b=>.inl (by rw [show k=bp from b];exact n.out.xp)),λk b=>b.imp id (λh=>h.1)⟩
  have ao:Hid (y6 V (cut vs i) last lost):=aQ.out.leaves N (by rw [aw.out];exact C);clear C am;have aE:Hid (w2.ownsRow 0 85 3 (.slice (some ⟨g,0,none⟩) vs.length cap) vs.length cs.flatten):=s.out.owns n.out.row (λk b B=>by have:=n.out.rS k b;exact B.elim this.1 this.2.1);have bQ:=s.out.size;have aN:(cs.take i).length=i:=by rw [ay];omega
  have aT:Hid (∀c∈cs.take i,c.length=3):=λc B=>ba.out c (aJ B);have aF:Hid (cs.flatten=(cs.take i).flatten++(cs.drop i).flatten):=by show cs.flatten=_;rw [<-aY,aA]
  have aG:Hid (∀(j:Nat) (u:Value),(cs.take i).flatten[j]? =some u->w2.cell? ((⟨g,0,none⟩:Addr).add j)=some u):=λj u E=>aE.out.cells (g:=g) rfl j u (by
   rw [aF.out,eW (aW.1 E).1];exact E)
  have ax:Hid (∀u∈(cs.take i).flatten,u.oneCell'=true):=λu E=>bg.out u (by rw [aF.out];exact ac _ E);have aK:Hid ((cut cs i).flatten=(cs.take i).flatten++(cs.drop (i+1)).flatten):=by show (cut cs i).flatten=_;unfold cut;rw [aY]
  have bm:(cs.drop (i+1)).length=vs.length-(i+1):=by rw [aU,bw]
  have bv:Hid (∀c∈cs.drop (i+1),c.length=3):=λc B=>ba.out c (eJ B);have aI:Hid (cs.flatten=(cs.take (i+1)).flatten++(cs.drop (i+1)).flatten):=by show cs.flatten=_;rw [<-aY,aA]
  have aS:(cs.take (i+1)).flatten.length=(i+1)*3:=by rw [qQ (λc B=>ba.out c (aJ B)),ay];omega
  have az:Hid ((cs.take (i+1)).flatten.length=(i+1)*3):=aS
  have bi:Hid (∀a9:World,Kept (λ_=>False) w2 a9->∀(j:Nat) (u:Value),(cs.drop (i+1)).flatten[j]? =some u->a9.cell? ((⟨g,(i+1)*3,none⟩:Addr).add j)=some u):=λa9 bK j u E=>by
   have av:=(bK.owns aE.out nF).cells (g:=g) rfl ((i+1)*3+j) u (by
    rw [aI.out,ia (by rw [az.out];omega),az.out,iy];exact E)
   rw [eO] at av ⊢;rw [aV] at av;exact av
  have bk:Hid (∀u∈(cs.drop (i+1)).flatten,u.oneCell'=true):=λu E=>bg.out u (by rw [aI.out];exact af _ E);clear aS;by_cases bu:cap=i+1
  .subst bu;have aj:vs.length<=i+1:=by omega
   have bh:Hid ((cs.drop (i+1)).flatten=[]):=by show _=_;rw [eb (by omega)];rfl
   go_wp2_with fail
   go_region_law (refine xU rfl (.tmp 42) (.tmp 51) 31 rfl 85 P _ 3 48 Tryz.underlying31 d.out.1 d.out.2.1 d.out.2.2.1 d.out.2.2.2 rfl (by omega) (.slice none 0 0) 0 [] (by rfl) (aP _ _ _ _) ⟨g,0,none⟩ i (i+1) (cs.take i).flatten (by rfl) (by rw [qQ aT.out,aN]) (by exact aG.out) ax.out (by unfold maxLen;omega) (by omega) ?_;intro U R l z p I;have T:Hid (l.ownsRow 0 85 3 (.slice U i R) i (cs.take i).flatten):=(by have J:=z;rw [aV,aH] at J;exact J);have t:Hid (Kept (λ_=>False) w2 l):=xC (Kept.grown p (λk b=>by cases b));have x:Hid (∀k,(Value.slice U i R).ownBlock=some k->w2.heap.size<=k):=(λk b=>xT (by have J:=I;rw [aV] at J;exact J) (aC _) (λj a4=>by cases a4) b);have q:l.heap[bp]? =_:=(t.out.block bp (by omega) (λC=>C)).trans aq.out;have al:Hid (l.heap[bp]? =some (yt (.pointer (some ⟨bd,0,none⟩)) (.pointer (some ⟨bs,0,none⟩)) (.slice (some ⟨g,0,none⟩) vs.length (i+1)) last (i:Int) (lost:Nat))):=q;have a1:l.cell? ⟨bp,2,none⟩=some (.slice (some ⟨g,0,none⟩) vs.length (i+1)):=(ak l bp 2 _ _ _ q).trans rfl;have a5:=aa l bp 2 _ _ q;have aZ:l.cell? ⟨bp,4,none⟩=some (.int .i64 (i:Int)):=(ak l bp 4 _ _ _ q).trans rfl;clear z p I q)
   all_goals go_wp2_with fail
   all_goals go_region_law (refine xU rfl (.tmp 54) (.tmp 64) 31 rfl 85 P _ 3 48 Tryz.underlying31 d.out.1 d.out.2.1 d.out.2.2.1 d.out.2.2.2 rfl (by omega) (.slice U i R) i (cs.take i).flatten (by rfl) (by exact T.out) ⟨g,0,none⟩ 0 0 [] (by rfl) (by rfl) (λj u E=>by cases E) (λu E=>by cases E) (by unfold maxLen;omega) (by omega) ?_;intro bb bc m y f H;have W:Hid _:=zG.erased n.out s.out Y.out i N m (by exact(t.out.trans (xC (Kept.grown (S:=λk=>w2.heap.size<=k) f (λk b=>x.out k b))) (λk b=>.inr b))) bb bc (i+0) (by omega) (by rw [aK.out,bh.out];exact y) (λk b=>xT H t.out.size x.out b);have O:Kept (λk=>w2.heap.size<=k) l m:=xC (Kept.grown f (λk b=>x.out k b));have o:m.heap[bp]? =_:=(O.block bp (by have:=t.out.size;omega) (by omega)).trans al.out;have a0:m.cell? ⟨bp,2,none⟩=some (.slice (some ⟨g,0,none⟩) vs.length (i+1)):=(ak m bp 2 _ _ _ o).trans rfl;have be:=aa m bp 2 _ _ o;have a6:m.cell? ⟨bp,4,none⟩=some (.int .i64 (i:Int)):=(ak m bp 4 _ _ _ o).trans rfl;have aX:=aa m bp 4 _ _ o;have a8:bp<m.heap.size:=(lT o);clear y f H O o)
   all_goals
    go_wp2;go_end0;exact⟨rfl,_,au,cut vs i,⟨_,_,_,_,_,_,_,W.out.1.ungone,zD.kept (zD.kept ar.out W.out.2.2 (λk b e=>Q.out (by rw [<-show k=bp from e];exact b)) (λe=>n.out.pb e.symm)) (Kept.setCell (S:=λk=>k=bp) _ ⟨bp,4,none⟩ _ rfl) (λk b e=>Q.out (by rw [<-show k=bp from e];exact b)) (λe=>n.out.pb e.symm)⟩,ao.out,by have:=jK vs i N;omega,ae,L,W.out.2.1.trans (Kept.setCell (S:=λk=>k=bp) _ ⟨bp,4,none⟩ _ rfl) (λk b=>.inl (by rw [show k=bp from b];exact n.out.xp)),λk b=>b.imp id (λh=>h.1)⟩
  .go_wp2_with fail
   go_region_law (refine xU rfl (.tmp 42) (.tmp 51) 31 rfl 85 P _ 3 48 Tryz.underlying31 d.out.1 d.out.2.1 d.out.2.2.1 d.out.2.2.2 rfl (by omega) (.slice none 0 0) 0 [] (by rfl) (aP _ _ _ _) ⟨g,0,none⟩ i cap (cs.take i).flatten (by rfl) (by rw [qQ aT.out,aN]) (by exact aG.out) ax.out (by unfold maxLen;omega) (by omega) ?_;intro U R l z p I;have T:Hid (l.ownsRow 0 85 3 (.slice U i R) i (cs.take i).flatten):=(by have J:=z;rw [aV,aH] at J;exact J);have t:Hid (Kept (λ_=>False) w2 l):=xC (Kept.grown p (λk b=>by cases b));have x:Hid (∀k,(Value.slice U i R).ownBlock=some k->w2.heap.size<=k):=(λk b=>xT (by have J:=I;rw [aV] at J;exact J) (aC _) (λj a4=>by cases a4) b);have q:l.heap[bp]? =_:=(t.out.block bp (by omega) (λC=>C)).trans aq.out;have al:Hid (l.heap[bp]? =some (yt (.pointer (some ⟨bd,0,none⟩)) (.pointer (some ⟨bs,0,none⟩)) (.slice (some ⟨g,0,none⟩) vs.length cap) last (i:Int) (lost:Nat))):=q;have a1:l.cell? ⟨bp,2,none⟩=some (.slice (some ⟨g,0,none⟩) vs.length cap):=(ak l bp 2 _ _ _ q).trans rfl;have a5:=aa l bp 2 _ _ q;have aZ:l.cell? ⟨bp,4,none⟩=some (.int .i64 (i:Int)):=(ak l bp 4 _ _ _ q).trans rfl;clear z p I q)
   all_goals go_wp2_with fail
   all_goals go_region_law (refine xU rfl (.tmp 54) (.tmp 64) 31 rfl 85 P _ 3 48 Tryz.underlying31 d.out.1 d.out.2.1 d.out.2.2.1 d.out.2.2.2 rfl (by omega) (.slice U i R) i (cs.take i).flatten (by rfl) (by exact T.out) ⟨g,(i+1)*3,none⟩ (vs.length-(i+1)) (cap-(i+1)) (cs.drop (i+1)).flatten (by rfl) (by rw [qQ bv.out,bm]) (by exact bi.out l t.out) bk.out (by unfold maxLen;omega) (by omega) ?_;intro bb bc m y f H;have W:Hid _:=zG.erased n.out s.out Y.out i N m (by exact(t.out.trans (xC (Kept.grown (S:=λk=>w2.heap.size<=k) f (λk b=>x.out k b))) (λk b=>.inr b))) bb bc (i+(vs.length-(i+1))) (by omega) (by rw [aK.out];exact y) (λk b=>xT H t.out.size x.out b);have O:Kept (λk=>w2.heap.size<=k) l m:=xC (Kept.grown f (λk b=>x.out k b));have o:m.heap[bp]? =_:=(O.block bp (by have:=t.out.size;omega) (by omega)).trans al.out;have a0:m.cell? ⟨bp,2,none⟩=some (.slice (some ⟨g,0,none⟩) vs.length cap):=(ak m bp 2 _ _ _ o).trans rfl;have be:=aa m bp 2 _ _ o;have a6:m.cell? ⟨bp,4,none⟩=some (.int .i64 (i:Int)):=(ak m bp 4 _ _ _ o).trans rfl;have aX:=aa m bp 4 _ _ o;have a8:bp<m.heap.size:=(lT o);clear y f H O o)
   all_goals
    go_wp2;go_end0;exact⟨rfl,_,au,cut vs i,⟨_,_,_,_,_,_,_,W.out.1.ungone,zD.kept (zD.kept ar.out W.out.2.2 (λk b e=>Q.out (by rw [<-show k=bp from e];exact b)) (λe=>n.out.pb e.symm)) (Kept.setCell (S:=λk=>k=bp) _ ⟨bp,4,none⟩ _ rfl) (λk b e=>Q.out (by rw [<-show k=bp from e];exact b)) (λe=>n.out.pb e.symm)⟩,ao.out,by have:=jK vs i N;omega,ae,L,W.out.2.1.trans (Kept.setCell (S:=λk=>k=bp) _ ⟨bp,4,none⟩ _ rfl) (λk b=>.inl (by rw [show k=bp from b];exact n.out.xp)),λk b=>b.imp id (λh=>h.1)⟩
end
end keep
namespace keep
open law (zP za zL qx qr yU zD xm J6 Uc OutIs)
structure yW (V:zP) (D:Dk) (vs:List zw) (last:Int) (lost n:Nat):Prop where
 hold:y6 V vs last lost
 wt:lost+weight vs<=473
 n0:V.n0<=(n:Int)
 reads:D.reads<=30000+40*(n:Int)
 size:D.bs.length=1000
structure Made (M:za) (w2 wx:World) (X:Nat->Prop) (bp n:Nat) (done:Bool):Prop where
 is:∃X2 bd bs S D vs last gone lost a cap cs G,zG wx X2 bp bd bs S vs last gone lost a cap cs G/\ze wx bd S D/\M.Could D (λU=>fS U vs last gone lost/\U.n0<=(n:Int))/\(∀v∈vs,uE v)/\lost+weight vs<=473/\D.bs.length=1000/\(∀k,X2 k->X k\/w2.heap.size<=k)/\(done=true->∃V,gone= -1/\zD M wx bd bs S D V/\yW V D vs last lost n)
 kept:Kept X w2 wx
section
variable {M N:za} {w w' w2 wx:World} {X X2 T:Nat->Prop} {bp bd bs n:Nat} {S:Nat->Prop} {D D':Dk} {V:zP} {vs:List zw} {last gone:Int} {lost:Nat} {a:Option Addr} {cap:Nat} {cs:List (List Value)} {G:Nat->Prop}
theorem vQ{P d:zP->Prop}(h:M.Could D P)(c:∀U,P U->d U):M.Could D d:=⟨h.few,h.big,λks=>by
 obtain⟨U,a,b⟩:=h.all ks
 exact⟨U,c U a,b⟩⟩
theorem zG.within(h:zG w X bp bd bs S vs last gone lost a cap cs G)(k:Kept S w w'):zG w' X bp bd bs S vs last gone lost a cap cs G:=
 ⟨(k.block bp h.lt h.pS).trans h.head,k.owns h.row (λi b=>(h.rS i b).1),h.told.kept k (λi b=>(h.gS i b).1),λi b=>au (h.xlt i b) k.size,h.xS,h.xb,h.xp,h.xr,h.xG,h.pS,h.pb,h.rS,h.gS⟩
theorem yW.later(h:yW V D vs last lost n):yW V D vs last lost (n+1):=⟨h.hold,h.wt,by have:=h.n0;push_cast;omega,by have:=h.reads;push_cast;omega,h.size⟩
theorem yW.few(h:yW V D vs last lost n):vs.length<=473:=by have:=h.wt;have:=yM vs;omega
theorem Made.live(h:zG wx X2 bp bd bs S vs last (-1) lost a cap cs G)(F:zD M wx bd bs S D V)(b:yW V D vs last lost n)(e:n<=1000000000000000)(k:Kept X w2 wx)(d:∀k,X2 k->X k\/w2.heap.size<=k):Made M w2 wx X bp n true:=
 ⟨⟨X2,bd,bs,S,D,vs,last, -1,lost,a,cap,cs,G,h,F.disk,vQ F.live.could (λU c=>by rw [c];exact⟨.inl ⟨rfl,b.hold⟩,b.n0⟩),b.hold.fine F.live.good (by have:=b.n0;omega),b.wt,b.size,d,λ_=>⟨V,rfl,F,b⟩⟩,k⟩
theorem ZI(l:List UInt8):qd (l.take 300).length<=4:=by
 have:(l.take 300).length<=300:=by rw [ay];omega
 unfold qd;omega
theorem yW.put(h:yW V D vs last lost n)(g:law.Good V)(c:lost+weight vs<470)(a:ByteArray)(l:List UInt8)(e:D'.reads<=D.reads+40)(b:D'.bs.length=1000):yW (V.add a false (l.take 300)) D' (vs++[⟨a,V.n0+1,false,l.take 300⟩]) (V.n0+1) lost (n+1):=by
 have:=ZI l;have f:=h.n0;have d:=h.reads;exact⟨h.hold.put g a _,by rw [jX,uD];show lost+(weight vs+(qd (l.take 300).length+0))<=_;omega,by show V.n0+1<=_;push_cast;omega,by push_cast;omega,b⟩
theorem yW.erase(h:yW V D vs last lost n)(g:law.Good V)(i:Nat)(a:i<vs.length)(f:D'.reads<=D.reads+40)(b:D'.bs.length=1000):yW (V.sub vs[i].key vs[i].num) D' (cut vs i) last lost (n+1):=by
 have e:=h.n0;have c:=h.reads;have j:=jK vs i a;have d:=h.wt;exact⟨h.hold.erase g i a,by omega,by show V.n0<=_;push_cast;omega,by push_cast;omega,b⟩
theorem YI(A:yU M)(h:qy M w X bp D V vs last gone lost)(i:∀v∈vs,uE v)(g:fS V vs last gone lost)(f:D.reads<=1000000000000000000)(d:vs.length<=6000):
 Calls Tryz.prog 44 #[.pointer (some ⟨bp,0,none⟩)] w λe w'=>e=.returned (.tuple #[])/\∃c D' b,qy M w' c bp D' V b last (-1) lost/\y6 V b last lost/\weight b<=weight vs/\D'.reads<=D.reads+40/\D'.bs.length=D.bs.length/\Kept X w w'/\∀k,c k->X k\/w.heap.size<=k:=by
 obtain⟨bd,bs,S,a,cap,cs,G,h,F⟩:=h;exact YH A h F i g f d
theorem qy.ok(h:qy M w X bp D V vs last gone lost):bp<w.heap.size/\w.cell? ⟨bp,6,none⟩=some (.bool true)/\w.frozen? ⟨bp,6,none⟩=false:=by
 obtain⟨bd,bs,S,a,cap,cs,G,h,F⟩:=h;obtain⟨_,_,_,_,_,_,b,c⟩:=qA h.head;exact⟨h.lt,b,c 6⟩
theorem Made.erased{b:World}{j:Nat->Prop}{c:Dk}{e:Ending}(d:yW V D vs last lost n)(g:law.Good V)(w:n+1<=1000000000000000)(i:Nat)(p:i<vs.length)(k:Kept X w2 b)(v:c.reads<=D.reads+40)(t:c.bs.length=1000)
 (h:(e=.returned (.bool true)/\zD M b bd bs j c (V.sub vs[i].key vs[i].num)/\∃r o m G',zG b (λk=>X k\/(w2.heap.size<=k/\k<b.heap.size)) bp bd bs j (cut vs i) last (-1) lost r o m G')\/(e=.returned (.bool false)/\ze b bd j c/\M.Could c (λU=>U=V\/U=V.sub vs[i].key vs[i].num)/\zG b (λk=>X k\/(w2.heap.size<=k/\k<b.heap.size)) bp bd bs j vs last i lost a cap cs G)):∃f,e=.returned (.bool f)/\Made M w2 b X bp (n+1) f:=by
 rcases h with⟨rfl,hF,r,y,m,G',l⟩|⟨rfl,u,x,l⟩;.exact⟨true,rfl,Made.live l hF (d.erase g i p v t) w k (λk q=>q.imp id (λh=>h.1))⟩
 .refine⟨false,rfl,⟨_,bd,bs,j,c,vs,last,_,lost,a,cap,cs,G,l,u,vQ x (λU s=>⟨.inr ⟨i,rfl,p,d.hold.gone g i p s⟩,?_⟩),d.hold.fine g (by have:=d.n0;omega),d.wt,t,λk q=>q.imp id (λh=>h.1),λe=>(by cases e)⟩,k⟩;have:=d.n0;rcases s with rfl|rfl;.push_cast;omega
  .show V.n0<=_;push_cast;omega
theorem Made.puts{c:World}{i:Nat->Prop}{d:Dk}{e:Ending}(m:yW V D vs last lost n)(g:law.Good V)(x:n+1<=1000000000000000)(v:lost+weight vs<470)(b:ByteArray)(l:List UInt8)(k:Kept X w2 c)(w:d.reads<=D.reads+40)(t:d.bs.length=1000)
 (h:(e=.returned (.bool true)/\zD M c bd bs i d (V.add b false (l.take 300))/\∃r p o G',zG c (λk=>X k\/(w2.heap.size<=k/\k<c.heap.size)) bp bd bs i (vs++[⟨b,V.n0+1,false,l.take 300⟩]) (V.n0+1) (-1) lost r p o G')\/(e=.returned (.bool false)/\ze c bd i d/\M.Could d (λU=>U=V\/U=V.add b false (l.take 300))/\zG c (λk=>X k\/(w2.heap.size<=k/\k<c.heap.size)) bp bd bs i vs last (-1) (lost+qd (l.take 300).length) a cap cs G)):∃f,e=.returned (.bool f)/\Made M w2 c X bp (n+1) f:=by
 have A:=m.n0;have B:=ZI l;rcases h with⟨rfl,hF,r,z,o,G',j⟩|⟨rfl,u,y,j⟩;.exact⟨true,rfl,Made.live j hF (m.put g v b l w t) x k (λk q=>q.imp id (λh=>h.1))⟩
 .refine⟨false,rfl,⟨_,bd,bs,i,d,vs,last, -1,_,a,cap,cs,G,j,u,vQ y (λU s=>⟨.inl ⟨rfl,m.hold.lose b _ s⟩,?_⟩),m.hold.fine g (by omega),by omega,t,λk q=>q.imp id (λh=>h.1),λe=>(by cases e)⟩,k⟩;rcases s with rfl|rfl;.push_cast;omega
  .show V.n0+1<=_;push_cast;omega
set_option maxRecDepth 60000 in
theorem KL(cZ:zL N)(dd:qx M)(de:qr M)(cf:yU M)(cc:Wn M N)(h:qy M w X bp D V vs last (-1) lost)(cj:yW V D vs last lost n)(dQ:n<=100000000000000)(c:bn)(Q:Nat->Prop)(aW:c.Ok w Q)(cH:∀k,Q k->¬X k):
 Calls Tryz.prog 18 #[.pointer (some ⟨bp,0,none⟩),.agg #[.int .i64 c.key,.int .i64 c.what,.slice c.la c.l.length c.lc,.int .i64 c.fuse,.slice c.ka c.ks.length c.kc]] w λe w'=>e=.returned (.tuple #[])/\∃cv D' V' a5 ab ad,qy M w' cv bp D' V' a5 ab (-1) ad/\yW V' D' a5 ab ad (n+1)/\Kept X w w'/\∀k,cv k->X k\/w.heap.size<=k:=by
 have P:Kept (λ_=>False) w (w.alloc (.cells #[.int .i64 c.key,.int .i64 c.what,.slice c.la c.l.length c.lc,.int .i64 c.fuse,.slice c.ka c.ks.length c.kc] 41)):=Kept.alloc _ _ _;have aA:=heap_alloc_new w (.cells #[.int .i64 c.key,.int .i64 c.what,.slice c.la c.l.length c.lc,.int .i64 c.fuse,.slice c.ka c.ks.length c.kc] 41);have a8:=h.kept P nF;have a0:=aW.kept P nF
 have bf:¬X w.heap.size:=λan=>by obtain⟨_,_,_,_,_,_,_,h,_⟩:=h;have:=h.xlt _ an;omega
 have bh:bp<w.heap.size:=by obtain⟨_,_,_,_,_,_,_,h,_⟩:=h;exact h.lt
 obtain⟨dj,c0⟩:=aW.fuse;obtain⟨dh,cS⟩:=aW.what;go_enter Tryz.func18,Tryz.ntmps18
 go_upto_if 8 with fail
 generalize w.alloc (.cells #[.int .i64 c.key,.int .i64 c.what,.slice c.la c.l.length c.lc,.int .i64 c.fuse,.slice c.ka c.ks.length c.kc] 41)=q at*;have dL:=P.size;have bF:bp<q.heap.size:=by omega
 have am:w.heap.size<q.heap.size:=(lT aA);have aE:Hid (q.heap[w.heap.size]? =some (.cells #[.int .i64 c.key,.int .i64 c.what,.slice c.la c.l.length c.lc,.int .i64 c.fuse,.slice c.ka c.ks.length c.kc] 41 (0,0))):=aA;have cB:Hid (Kept (λ_=>False) w q):=P;have ar:Hid (qy M q X bp D V vs last (-1) lost):=a8;have bk:Hid (c.Ok q Q):=a0;have aV:Hid (∀k,Q k->¬X k):=cH;have E:Hid (yW V D vs last lost n):=cj;have H:Hid (¬X w.heap.size):=bf;clear h cj aW cH aA P a8 a0 bf;generalize dr:w.heap.size=d at*
 go_cut [] (λwc=>∃D1,qy M wc X bp D1 V vs last (-1) lost/\D1.reads=D.reads/\D1.bs.length=1000/\Kept X q wc)
 case first=>
  by_cases ah:0<c.fuse
  .have b5:decide (c.fuse>0)=true:=aG ah;have dN:IntKind.i64.wrap (c.fuse-1)=c.fuse-1:=IntWalk.i64_in _ (by omega);obtain⟨bd,bs,S,a,cap,cs,G,o,F⟩:=ar.out;have aF:=(qA o.head).1;have b3:q.cell? ⟨d,3,none⟩=some (.int .i64 c.fuse):=(ak q d 3 _ _ _ aE.out).trans rfl;obtain⟨bO,bM,bA,bR,aT⟩:=F.disk;have J:S bd:=(aT.own bd).2 (.inl rfl);have bK:bp≠bd:=λe=>o.pS (by rw [e];exact J);have bJ:d≠bd:=λe=>H.out (by rw [e];exact o.xS bd J);have bH:bd≠bs:=λe=>F.apart (by rw [<-e];exact J);have R:Hid (∀Z,Calls Tryz.prog 21 #[.int .i64 (c.fuse-1),.int .i64 60] Z λe w'=>e=.returned (.int .i64 (qX (c.fuse-1) 60:Int))/\w'=Z):=λZ=>yV Z (c.fuse-1) 60 ⟨by omega,by omega⟩ (by omega) (by omega);have aS:(qX (c.fuse-1) 60:Int)<60:=xy _ _ (by omega);generalize qX (c.fuse-1) 60=K at*;have bV:Hid (zn q bd S D bO bM bA bR):=aT;have t:Hid (zG q X bp bd bs S vs last (-1) lost a cap cs G):=o;have x:Hid (zD M q bd bs S D V):=F;clear aT o F;go_wp2_with fail
   go_region_held3 (λw'=>w'.cell? ⟨bp,0,none⟩=some (.pointer (some ⟨bd,0,none⟩))/\w'.cell? ⟨d,3,none⟩=some (.int .i64 c.fuse)) (go_keep) (first
    |(go_at_call 21;refine(R.out _).mono ?_;rintro e ai ⟨rfl,rfl⟩)
    |(go_at_call 43;refine(U2 q.drew bd S D bO bM bA bR (by exact bV.out.kept (Kept.drew (λ_=>False) q) nF) K).mono ?_;rintro e z ⟨rfl,a2,y⟩;have b6:Hid (zn z bd S {D with fuse:=(K:Int)} bO bM bA bR):=a2;have af:Hid (Kept (λk=>k=bd) q z):=xC y;have c6:z.cell? ⟨bp,0,none⟩=some (.pointer (some ⟨bd,0,none⟩)):=(af.out.cell (a:=⟨bp,0,none⟩) bF bK).trans aF;have dc:z.cell? ⟨d,3,none⟩=some (.int .i64 c.fuse):=(af.out.cell (a:=⟨d,3,none⟩) am bJ).trans b3;clear a2 y))
   go_wp2_with fail
   go_meet
   case rel=>
    have k3:Kept S q z:=af.out.mono (λk m=>by rw [show k=bd from m];exact J);exact⟨{D with fuse:=(K:Int)},⟨bd,bs,S,a,cap,cs,G,t.out.within k3,⟨⟨_,_,_,_,b6.out⟩,x.out.apart,M.sto_kept _ _ _ _ _ x.out.sto af.out (λe=>bH e.symm),⟨x.out.live.ps,x.out.live.rest,x.out.live.big⟩,cc.every _ ⟨by show _<=(K:Int);omega,by show (K:Int)<=_;omega⟩,x.out.reads0,x.out.reads1,x.out.few⟩⟩,rfl,E.out.size,k3.mono (λk m=>t.out.xS k m)⟩
  .have b5:decide (c.fuse>0)=false:=decide_eq_false ah;go_wp2_with fail
   go_meet
   case rel=>exact⟨D,ar.out,rfl,E.out.size,Kept.refl _ _⟩
 case rest=>
 obtain⟨D1,bx,bZ,aQ,br⟩:=hcut;have a3:Hid (qy M wc X bp D1 V vs last (-1) lost):=bx;have bX:Hid (Kept X q wc):=br;clear bx br;go_wp2_with fail;refine(ux _).mono ?_;rintro e w2 ⟨rfl,aa,bc⟩;have dJ:=aa.size;have C:=(bX.out.trans aa fE);have cy:Hid (Kept X q w2):=C;have dz:=C.size;have a7:Hid (qy M w2 X bp D1 V vs last (-1) lost):=a3.out.kept aa nF;have aB:Hid (w2.heap[wc.heap.size]? =some (.cells kK 9 (0,0))):=bc;have B:Hid (w2.heap[d]? =some (.cells #[.int .i64 c.key,.int .i64 c.what,.slice c.la c.l.length c.lc,.int .i64 c.fuse,.slice c.ka c.ks.length c.kc] 41 (0,0))):=(C.block d am H.out).trans aE.out;have A:Hid (c.Ok w2 Q):=bk.out.kept C aV.out;have dk:bp<w2.heap.size:=by omega
 have aL:yW V D1 vs last lost n:=⟨E.out.hold,E.out.wt,E.out.n0,by rw [bZ];exact E.out.reads,aQ⟩;have g:Hid (yW V D1 vs last lost n):=aL
 have cA:Hid (¬X wc.heap.size):=λan=>by obtain⟨_,_,_,_,_,_,_,h,_⟩:=a3.out;have:=h.xlt _ an;omega
 clear aa C bc aL E ar bk aE;generalize dA:wc.heap.size=aO at*;obtain⟨bd,bs,S,a,cap,cs,G,o,F⟩:=a7.out;obtain⟨aF,cR,ch,co,ce,cI,cm,cn⟩:=qA o.head;have cw:w2.cell? ⟨d,1,none⟩=some (.int .i64 c.what):=(ak w2 d 1 _ _ _ B.out).trans rfl;have t:Hid (zG w2 X bp bd bs S vs last (-1) lost a cap cs G):=o;have x:Hid (zD M w2 bd bs S D1 V):=F;have cU:=g.out.few;have aU:Hid (law.Good V):=F.live.good;clear o F
 go_upto_region 5 with fail
 go_cut [30] (λbY bD=>bY=.bool ((c.what.tmod 3==0)&&decide (0<vs.length))/\w2=bD)
 case first=>
  by_cases I:c.what.tmod 3=0
  .have b0:(c.what.tmod 3==0)=true:=by simp [I]
   by_cases aM:0<vs.length
   .have cx:decide ((vs.length:Int)>0)=true:=aG (by omega);go_wp2_with fail
    go_meet
    case rel=>exact⟨by simp [I,aM],rfl⟩
   .have cx:decide ((vs.length:Int)>0)=false:=decide_eq_false (by omega);go_wp2_with fail
    go_meet
    case rel=>exact⟨by simp [I,aM],rfl⟩
  .have b0:(c.what.tmod 3==0)=false:=by simp [I]
   go_wp2_with fail
   go_meet
   case rel=>exact⟨by simp [I],rfl⟩
 case rest=>
 obtain⟨rfl,rfl⟩:=hcut;generalize ae:((c.what.tmod 3==0)&&decide (0<vs.length))=cV at*
 go_upto_if 30 with fail
 go_cut [4] (λc9 cX=>∃f:Bool,c9=.bool f/\Made M w2 cX X bp (n+1) f)
 case first=>
  have cN:w2.cell? ⟨d,0,none⟩=some (.int .i64 c.key):=(ak w2 d 0 _ _ _ B.out).trans rfl
  cases cV with
  |true=>
   have aM:0<vs.length:=by simp at ae;exact ae.2
   have R:Hid (∀Z,Calls Tryz.prog 21 #[.int .i64 c.key,.int .i64 (vs.length:Int)] Z λe w'=>e=.returned (.int .i64 (qX c.key (vs.length:Int):Int))/\w'=Z):=λZ=>yV Z c.key (vs.length:Int) A.out.key (by omega) (by omega);have aS:(qX c.key (vs.length:Int):Int)<(vs.length:Int):=xy _ _ (by omega);generalize qX c.key (vs.length:Int)=K at*;have aP:K<vs.length:=by omega
   have bC:=g.out.reads;have bN:=g.out.n0;have bI:=g.out.wt;have dy:=g.out.hold.wt;clear ae;go_wp2_with fail
   go_region_with (first
    |(go_at_call 21;refine(R.out _).mono ?_;rintro e ai ⟨rfl,rfl⟩)
    |(go_at_call 33;refine(KI de (t.out.kept (Kept.drew (λ_=>False) w2) nF) (zD.kept x.out (Kept.drew (λ_=>False) w2) nF (λah=>ah)) aQ g.out.hold (by omega) (by omega) (by omega) (by omega) K aP).mono ?_;rintro e z ⟨c8,dn,y,aC,aw,u⟩;obtain⟨f,rfl,T⟩:=Made.erased g.out aU.out (by omega) K aP (xC y) aC aw u;have aR:Hid (Made M w2 z X bp (n+1) f):=T;clear u y T))
   all_goals
    go_wp2_with fail
    go_meet
    case rel=>exact⟨f,rfl,aR.out⟩
  |false=>
   clear ae;have ba:Hid (∀v∈vs,v.body.length<=300):=λv aM=>aU.out.body v (g.out.hold.sub v aM);have bI:=g.out.wt;by_cases dP:lost+weight vs<470
   .have cl:((lost+weight vs:Nat):Int)<470:=by omega
    have R:Hid (∀Z,Calls Tryz.prog 21 #[.int .i64 c.key,.int .i64 12] Z λe w'=>e=.returned (.int .i64 (qX c.key 12:Int))/\w'=Z):=λZ=>yV Z c.key 12 A.out.key (by omega) (by omega);have aS:qX c.key 12<12:=by have:=xy c.key 12 (by omega);omega
    generalize qX c.key 12=r at*;obtain⟨ag,a1,av,cJ⟩:=vH r aS;have dC:(r:Int)<12:=by omega
    have c3:(0:Int)<=(r:Int):=by omega
    have bT:Hid (zh ag.data.toList=true):=av;have b2:w2.cell? ⟨aO,r,none⟩=some (.string ag):=(ak w2 _ r _ _ _ aB.out).trans a1;have bh:w2.cell? ⟨d,2,none⟩=some (.slice c.la c.l.length c.lc):=(ak w2 d 2 _ _ _ B.out).trans rfl;have bB:aO<w2.heap.size:=(lT aB.out);have ao:d<w2.heap.size:=(lT B.out);have bC:=g.out.reads;have bN:=g.out.n0;have b9:=A.out.len;have cD:=A.out.cap;clear a1 av;generalize dx:lost+weight vs=dO at*;go_wp2_with (go_at_call 32;refine(bt t.out ba.out (by omega) (by omega)).mono ?_;rintro e ai ⟨rfl,L⟩;rw [L];clear L ai)
    go_region_held3 (λw'=>w'.cell? ⟨d,0,none⟩=some (.int .i64 c.key)/\w'.cell? ⟨d,2,none⟩=some (.slice c.la c.l.length c.lc)/\w'.cell? ⟨aO,r,none⟩=some (.string ag)) (go_keep) (first
     |(go_at_call 21;refine(R.out _).mono ?_;rintro e ai ⟨rfl,rfl⟩)
     |(go_at_call 15;refine(DK dd (t.out.kept (Kept.drew (λ_=>False) w2) nF) (zD.kept x.out (Kept.drew (λ_=>False) w2) nF (λah=>ah)) aQ g.out.hold (by omega) (by omega) (by omega) (by omega) ag bT.out cJ Q aV.out c.la c.lc c.l (A.out.l.kept (Kept.drew (λ_=>False) w2) nF) b9 cD).mono ?_;rintro e z ⟨c8,dn,y,aC,aw,u⟩;obtain⟨f,rfl,T⟩:=Made.puts g.out aU.out (by omega) (by omega) ag c.l (xC y) aC aw u;have aR:Hid (Made M w2 z X bp (n+1) f):=T;have cY:z.cell? ⟨d,0,none⟩=some (.int .i64 c.key):=(T.kept.cell (a:=⟨d,0,none⟩) ao H.out).trans cN;have c5:z.cell? ⟨d,2,none⟩=some (.slice c.la c.l.length c.lc):=(T.kept.cell (a:=⟨d,2,none⟩) ao H.out).trans bh;have df:z.cell? ⟨aO,r,none⟩=some (.string ag):=(T.kept.cell (a:=⟨aO,r,none⟩) bB cA.out).trans b2;clear u y T))
    go_wp2_with fail
    go_meet
    case rel=>exact⟨f,rfl,aR.out⟩
   .have cl:decide (((lost+weight vs:Nat):Int)<470)=false:=decide_eq_false (by omega);go_wp2_with (go_at_call 32;refine(bt t.out ba.out (by omega) (by omega)).mono ?_;rintro e ai ⟨rfl,L⟩;rw [L];clear L ai)
    go_meet
    case rel=>exact⟨true,rfl,Made.live t.out x.out g.out.later (by omega) (Kept.refl _ _) (λk m=>.inl m)⟩
 case rest=>
 obtain⟨f,rfl,aX⟩:=hcut;obtain⟨⟨X2,aK,aY,bG,aJ,s,l,p,i,dg,bP,cE,dv,o,bg,bo,bw,dp,cz,aj,ac⟩,O⟩:=aX;obtain⟨_,_,_,_,_,_,c2,_⟩:=qA o.head;have du:wc.cell? ⟨d,1,none⟩=some (.int .i64 c.what):=(O.cell (a:=⟨d,1,none⟩) (lT B.out) H.out).trans cw;have bS:Hid (wc.heap[d]? =some (.cells #[.int .i64 c.key,.int .i64 c.what,.slice c.la c.l.length c.lc,.int .i64 c.fuse,.slice c.ka c.ks.length c.kc] 41 (0,0))):=(O.block d (lT B.out) H.out).trans B.out;have aI:Hid (zG wc X2 bp aK aY bG s l p i dg bP cE dv):=o;have bU:Hid (ze wc aK bG aJ):=bg;have cp:Hid (M.Could aJ (λU=>fS U s l p i/\U.n0<=((n+1:Nat):Int))):=bo;have bm:Hid (∀v∈s,uE v):=bw;have cK:Hid (∀k,X2 k->X k\/w2.heap.size<=k):=aj;have a6:Hid (Kept X w2 wc):=O;have b1:Hid (f=true->∃V,p= -1/\zD M wc aK aY bG aJ V/\yW V aJ s l i (n+1)):=ac;have ap:Hid (Kept X w wc):=((cB.out.mono fE).trans cy.out (λk m=>.inl m)).trans O (λk m=>.inl m);have ax:∀k,X2 k->X k\/w.heap.size<=k:=λk m=>(aj k m).imp id (λh=>by omega);have Y:Hid (∀k,X2 k->X k\/w.heap.size<=k):=ax;clear o bg bo bw aj O ac ax t x g a7 aB aF cR ch co ce cI cm cn
 go_upto_region 9 with fail
 go_cut [69] (λb4 bD=>b4=.bool (!f||(c.what.tmod 7==0))/\wc=bD)
 case first=>
  cases f with
  |false=>
   go_wp2_with fail
   go_meet
   case rel=>exact⟨by simp,rfl⟩
  |true=>
   go_wp2_with fail
   go_meet
   case rel=>exact⟨by simp,rfl⟩
 case rest=>
 obtain⟨rfl,rfl⟩:=hcut;generalize az:(!f||(c.what.tmod 7==0))=di at*
 cases di with
 |false=>
  have ct:f=true:=by cases f<;>simp at az ⊢
  clear az;go_wp2_with fail;go_end0;obtain⟨db,rfl,hF,ca⟩:=b1.out ct;exact⟨rfl,X2,aJ,db,s,l,i,⟨_,_,_,_,_,_,_,aI.out,hF⟩,ca,ap.out,Y.out⟩
 |true=>
  clear az;have dt:wc.cell? ⟨d,4,none⟩=some (.slice c.ka c.ks.length c.kc):=(ak wc d 4 _ _ _ bS.out).trans rfl
  have cb:Hid (uC wc (λk=>Q k/\k<w2.heap.size) c.ka c.ks):=λj cW=>by obtain⟨b,dM,ds,cu,I,da⟩:=A.out.ks j cW;exact⟨b,dM,ds,⟨cu,I⟩,au I a6.out.size,(a6.out.cell (a:=⟨b,dM+j,none⟩) I (aV.out b cu)).trans da⟩
  have cg:Hid (∀k,Q k/\k<w2.heap.size->¬X2 k):=λk m an=>(cK.out k an).elim (aV.out k m.1) (λh=>by have:=m.2;omega);have cF:=A.out.klen;have dD:=yM s;go_wp2_with fail;refine(QM cZ cc aI.out bU.out _ (by omega) cp.out cz _ c.ka c.kc c.ks cb.out cg.out cF).mono ?_;rintro e cQ ⟨rfl,cO,cT,W,ay,bz,cr,dK,dG,aH,a4⟩;obtain⟨c4,dw,c1⟩:=ay.ok;have ci:Hid (qy M cQ cO bp cT W s l p i):=ay;have aZ:Hid (fS W s l p i):=bz;have bl:Hid (Kept X w cQ):=ap.out.trans aH Y.out;have dl:=aH.size;have be:Hid (∀k,cO k->X k\/w.heap.size<=k):=λk m=>(a4 k m).elim (Y.out k) (λh=>.inr (by have:=ap.out.size;omega));clear ay bz aH a4;go_wp2_with fail;refine(ZH cf ci.out bm.out aZ.out (by omega) (by omega)).mono ?_;rintro e bE ⟨rfl,bQ,cM,aq,dF,dE,bb,bi⟩;obtain⟨dm,dq,c7⟩:=aq.ok;have cd:Hid (qy M bE bQ bp cM W s l p i):=aq;have cL:Hid (Kept X w bE):=bl.out.trans bb be.out;have aD:Hid (∀k,bQ k->X k\/w.heap.size<=k):=λk m=>(bi k m).elim (be.out k) (λh=>.inr (by have:=bl.out.size;omega));clear aq bb bi;go_wp2_with fail;have aN:=cd.out.again;generalize bE.setCell ⟨bp,6,none⟩ (.bool true)=bW at*;have cP:Hid (qy M bW bQ bp cM W s l p i):=aN.1;have bu:Hid (Kept X w bW):=cL.out.trans aN.2 aD.out;clear aN;refine(YI cf cP.out bm.out aZ.out (by omega) (by omega)).mono ?_;rintro e cC ⟨rfl,bL,b8,al,a9,bv,dI,dH,dB,bj,bq⟩;have cG:Hid (qy M cC bL bp b8 W al l (-1) i):=a9;have b7:Hid (y6 W al l i):=bv;have cq:Hid (Kept X w cC):=bu.out.trans bj aD.out;have ck:Hid (∀k,bL k->X k\/w.heap.size<=k):=λk m=>(bq k m).elim (aD.out k) (λh=>.inr (by have:=bu.out.size;omega));clear a9 bv bj bq;go_wp2_with fail;go_end0;exact⟨rfl,bL,b8,W,al,l,i,cG.out,⟨b7.out,by omega,cr,by push_cast;omega,by omega⟩,cq.out,ck.out⟩
end
end keep
end Go.Proofs.YtcoengihaobddaaGreatDoor
