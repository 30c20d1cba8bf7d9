/- Part 33 of 36 of a proof: Mng3, Rep3, Rem11, BFree1, Era1, Era2, Mng4 -/
import Derived.Test.YtcoengihaobddaaGreatDoorJc32
import Derived.Test.YtcoengihaobddaaGreatDoorJc30
import Derived.Test.YtcoengihaobddaaGreatDoorJc07
set_option maxHeartbeats 8000000
set_option linter.unusedVariables false
set_option linter.unusedSimpArgs false
set_option maxRecDepth 8000
namespace Go.Proofs.YtcoengihaobddaaGreatDoor
namespace prog
open Go.RowKit disk ref
open law (qq zd yb xo gz cI xI bY GS OutIs G8)
open keys (zq)
variable {D D':Dk}{V:qq}{bd:Nat}{q:Option Nat}
variable {Fu:Int->Prop} {Ho:List (List Value)->qq->Prop} {m1:∀f,Fu f->zD f} {m2:Fu (-1)} {m3:∀bs V,yI bs V->Ho bs V} {m4:∀bs V,Ho bs V->law.Good V}
theorem vp.wsok{tree n:Nat}{m:List UInt8}{es:List En}{bl:List Nat}{bo:Pl->List zv}{d:ByteArray}{c:Bool}{l:List UInt8}{f:Nat}{C1:Ck}{m1:List UInt8}{g:List Nat}{root':Nat}{C2:Ck}{m2:List UInt8}{pb k:List Nat}(h:vp D V tree n m es bl bo d c l f C1 m1 g root' C2 m2 pb k)(b:((C2.put 1 (zm (zw root' (n+1)))).full||decide (18<(C2.put 1 (zm (zw root' (n+1)))).ws.length))=false):X3 D.bs.length (C2.put 1 (zm (zw root' (n+1)))).ws:=by
 simp only [lg,decide_eq_false_iff_not,qJ] at b;obtain⟨e,q⟩:=b;have o:1∈(C2.put 1 (zm (zw root' (n+1)))).keys:=(xl C2 1 _ 1).2 (.inr rfl);have h2:=l9 o;rw [Ck.keys_len] at h2;refine⟨yM h.ins.chn.nodup 1 _,by omega,h2,λp j=>?_⟩;have i:p.1∈(C2.put 1 (zm (zw root' (n+1)))).keys:=au.2 ⟨p,j,rfl⟩;refine⟨h.klt e _ i,?_⟩;rcases ah.1 (h.keys e _ i) with a|a;.simp at a;omega
 .have:21<=p.1:=by
   rcases ah.1 a with a|a;.exact(h.mid a).1
   .rcases ah.1 a with a|a;.exact(h.rep.range _ (af _ (h.ins.sub _ a))).1
    .exact(h.new a).1
  omega
def GL(D:Dk)(V:qq)(key:ByteArray)(mark:Bool)(l:List UInt8)(bd:Nat)(v c:Int)(D':Dk)(q:Option Nat):Prop:=
 YR D D'/\∃kk:Int,0<=kk/\kk<=19/\((c=6/\v=0/\q=some bd/\vW V.vs (yP l.length) D.bs.length=false/\D'={D with reads:=D.reads+kk })\/
  ((c=0->v=V.n0+1)/\(c≠0->v=0)/\Gr D V (V.add key mark l) bd c kk D' q))
theorem Gs(w:World)(bs bd:Nat)(S:Nat->Prop)(D:Dk)(ak:zu w bs 1 (some bd))(W:zg w bd S D)(al:¬S bs)(aa:0<=D.reads)(ay:D.reads<=4611686018427340000)(g:D.ps=[])(am:zD D.fuse)(G:64<=D.bs.length)(V:qq)(ap:V.n0<=2305843009213693952)(x:yI D.bs V)
 (k:ByteArray) (s:zq k.data.toList=true) (b:Bool) (P:Nat->Prop) (a:Option Addr) (y:Nat) (l:List UInt8) (M:b=true->l=[]) (ah:zL w P a l) (ai:∀j,P j->¬S j/\j≠bs) (R:l.length<=300) (ag:l.length<=y) (aj:y<=9223372036854775807):
 Calls Tryz.prog 52 #[.pointer (some ⟨bs,0,none⟩),.string k,.slice a l.length y,.bool b] w λe w'=>∃v c D' q,e=.returned (.tuple #[.int .i64 v,.int .i64 c])/\vR w w' bs bd S D' 1 q/\GL D V k b l bd v c D' q:=by
 have F:=x;obtain⟨tree,n,m,es,bl,bo,r⟩:=x;have N:n<4611686018427387904:=by rw [r.n0] at ap;omega
 have H:qV (D.look 1) tree n:=by have:=r.root;rw [<-qY g] at this;exact this
 have u:qF (D.look 2) m:=by have:=r.map;rw [<-qY g] at this;exact this
 rcases hbody:fY.body D.bs.length m (zW l) with⟨f,C1,m1⟩;have O:XC D fY m:=⟨by rw [yH];exact u,λh=>(by cases h),List.nodup_nil⟩;obtain⟨E,o⟩:=V2 O r.few (zW l) f C1 m1 (λp au=>(bk p au).2) hbody;have ad:=(bm (C:=fY) (D:=D) (m:=m) (by rw [yH];exact u) r.few (zW l) f C1 m1 hbody).2.2;have K:=Z7 s
 have t:∀j∈bl,21<=j/\zU m1 (j-21)=true/\j∉E:=λj d=>by have aw:=r.range j (af _ d);have i:zU m (j-21)=true:=(r.taken (j-21) (by omega)).2 (by rw [show j-21+21=j from by omega];exact af _ d);exact⟨aw.1,o.stp.grew.keeps i,o.stp.grew.apart i⟩
 have T:=r.forest.congr (λj d=>by
  have i:=t j d;show C1.look D (j:Nat)=_
  rw [o.stp.look j (λh=>(by cases h)) i.2.2 (by omega) (by omega),yH,qY g])
 refine(JA w bs bd S D 1 ak W al aa (by omega) g am G r.few tree n H N m u k b P a y l ah ai R ag aj es bl f C1 m1 hbody E o ⟨K.2.1,K.2.2,by show 0<=(n:Int)+1;omega,by show (n:Int)+1<_;omega,R,λh=>by show l.length=0;rw [M h];rfl,ad⟩ (Gd s _) T (aN.1 r.nodup).1 (λj d=>⟨(t j d).1,(t j d).2.1⟩) r.len (λj d=>(r.range j (af _ d)).2) (λar U=>(r.low ar U).1) (λar U e=>?_)).mono ?_
 .have i:=(r.low ar U).2.2.1;rw [e] at i;simp only at i;omega
 .rintro e w' ⟨root',C2,m2,pb,an,av,Z,L,J,h⟩;have A:vp D V tree n m es bl bo k b l f C1 m1 E root' C2 m2 pb an:=⟨r,g,G,o,av,s,R,M,N⟩;rcases h with⟨z,rfl,ab,I⟩|⟨B,v,c,rfl,ae,Y,_,aq⟩
  .have ac:za (λj=>S j\/j=bs) w w':=I.mono (λj d=>.inl (by rw [d];exact W.bdS));refine⟨0,6,_,some bd,rfl,⟨ak.kept I (λh=>al (by rw [h];exact W.bdS)),⟨S,ab,λ_ h=>.inl h⟩,ac⟩,YR.refl _ _,Z,L,J,.inl ⟨rfl,rfl,rfl,?_,rfl⟩⟩
   cases Q:vW V.vs (yP l.length) D.bs.length with
   |false=>rfl
   |true=>rw [A.fits Q] at z;cases z
  .obtain⟨ax,az,X⟩:=A.rest B;obtain⟨D',q,i,h2,ao⟩:=UB g G F (A.wsok B) ⟨_,_,_,_,_,_,X⟩ aq;exact⟨v,c,D',q,rfl,i,ao,Z,L,J,.inr ⟨λh=>by rw [ae h,r.n0],Y,h2⟩⟩
theorem Gr.same{V':qq}{c b:Int}(h:Gr D V V' bd c b D' q):D'.bs.length=D.bs.length/\D'.reads=D.reads+b:=by
 rcases h with⟨_,_,d,f,a,_,rfl⟩|⟨_,_,_,a,h2,_⟩;.exact⟨a,rfl⟩
 .exact⟨a,h2⟩
theorem Gr.chg{D1:Dk}{V':qq}{o:Nat}{c k:Int}(i:Fu 0->∀bs V,kz bs V->Ho bs V)(b:D1.ps=[])(j:64<=D1.bs.length)(e:Fu D'.fuse)(h:Gr D1 V V' bd c k D' q):law.Chg (vq Fu Ho m1 m2 m3 m4) D D' V V' bd 0 c o q:=by
 rcases h with⟨rfl,rfl,d,f,m,h2,rfl⟩|⟨rfl,rfl,g,m,h2,a⟩;.exact⟨.inr (.inl ⟨rfl,rfl,rfl,⟨b,h2,by show 64<=d.length;omega⟩⟩)⟩
 .refine⟨.inr (.inr (.inr ⟨rfl,rfl,rfl,g,⟨by have:=a.1;omega,by omega,λks=>?_⟩⟩))⟩;obtain⟨p,l,n⟩:=a.2 ks;exact⟨p,l,i (by rw [<-g];exact e) _ _ n⟩
theorem vR.aft{w w':World}{bs:Nat}{S:Nat->Prop}(h:vR w w' bs bd S D' 0 q)(f:D.reads<=D'.reads)(h2:D'.reads<=D.reads+40)(g:D'.bs.length=D.bs.length)(e:Fu D'.fuse):∃S',bY (vq Fu Ho m1 m2 m3 m4) w w' bd bs S S' D D' 40 q:=by
 obtain⟨a,⟨S',b,c⟩,d⟩:=h;exact⟨S',b,c,a,d,f,h2,g,e⟩
theorem gl(U:Fu 0->∀bs V,kz bs V->Ho bs V)(R:∀f,Fu f->Fu (qx f)):xo (vq Fu Ho m1 m2 m3 m4) where
 live:=λw bd bs S P D V g a k l F o K O T Q M=>by
  have t:=F.fuse;have x:=F.sto;have B:=F.disk;have y:=F.live.ps;have s:=F.live.rest;have L:=F.reads0;have Z:=F.reads1;have r:=F.live.big
  cases d:zq g.data.toList with
  |false=>
   refine(JB w bs (some bd) x g o d a l.length k).mono ?_;rintro e w' ⟨j,h2,m⟩;exact⟨D,S,2,0,some bd,j,kx B F.apart t h2 m,⟨.inl ⟨by show (2:Int)≠0;decide,rfl,rfl,F.live⟩⟩,rfl⟩
  |true=>
   by_cases b:300<l.length
   .have i:fR true l.length=3:=aB b;rw [i];refine(JC w bs (some bd) x g o d a l.length k b).mono ?_;rintro e w' ⟨j,h2,m⟩;exact⟨D,S,3,0,some bd,j,kx B F.apart t h2 m,⟨.inl ⟨by decide,rfl,rfl,F.live⟩⟩,rfl⟩
   .have i:fR true l.length=0:=aw b;rw [i];refine(U6 w bs bd S D x B F.apart g o d P a k l K O (by omega) (GL D V g false l bd) (λw' j h2 m=>Gs w' bs bd S D j h2 F.apart L (by omega) y (m1 _ t) r V F.few s g d false P a k l (λh=>(by cases h)) m O (by omega) Q M)).mono ?_;rintro e w' ⟨v,c,D',q,j,⟨H,J,Y,X,z⟩,N⟩;have p:=H Fu R t;rcases z with⟨rfl,rfl,rfl,C,rfl⟩|⟨G,I,z⟩
    .obtain⟨S',E⟩:=N.aft (D:=D) (by show D.reads<=D.reads+J;omega) (by show D.reads+J<=D.reads+40;omega) rfl p;exact⟨_,S',6,0,some bd,j,E,⟨.inr (.inr (.inl ⟨rfl,rfl,rfl,⟨y,s,r⟩,C⟩))⟩,rfl⟩
    .obtain⟨W,aa⟩:=z.same;obtain⟨S',E⟩:=N.aft (D:=D) (by omega) (by omega) W p;refine⟨D',S',c,v,q,j,E,z.chg U y r p,?_⟩;by_cases A:c=0;.rw [aB A];exact G A
     .rw [aw A];exact I A
 shut:=λw bs g a n k x o ab=>by
  have u:=x
  cases d:zq g.data.toList with
  |false=>exact(JB w bs none u g o d a n k).mono (λe w' ⟨j,h2,m⟩=>⟨j,h2,m⟩)
  |true=>
   by_cases b:300<n
   .have i:fR true n=3:=aB b;rw [i];exact(JC w bs none u g o d a n k b).mono (λe w' ⟨j,h2,m⟩=>⟨j,h2,m⟩)
   .have i:fR true n=0:=aw b;rw [i];exact(Ui w bs u g o d a n k (by omega)).mono (λe w' ⟨j,h2,m⟩=>⟨j,h2,m⟩)
theorem gm(f:Int)(h:f= -1):qx f= -1:=by rw [h];rfl
end prog
namespace prog
open Go.RowKit disk ref
open law (qq)
open keys (zq)
def yJ:List Nat->Ck×List UInt8->Ck×List UInt8
 |[],s=>s
 |j::l,s=>yJ l (s.1.free s.2 (j-21),jR s.2 (j-21))
theorem bN:∀(l:List Nat) (j:Nat) (s:Ck×List UInt8),yJ (l++[j]) s=((yJ l s).1.free (yJ l s).2 (j-21),jR (yJ l s).2 (j-21))
 |[],_,_=>rfl
 |_::l,j,s=>bN l j _
theorem kB{D:Dk}:∀(l:List Nat) (C:Ck) (m:List UInt8),b8 D C m->(∀j∈l,21<=j/\j<1000)->b8 D (yJ l (C,m)).1 (yJ l (C,m)).2/\gi D C (yJ l (C,m)).1 m (yJ l (C,m)).2 [] l/\(yJ l (C,m)).1.ws.length<=C.ws.length+l.length
 |[],C,m,h,_=>⟨h,gi.refl D C m,by simp [yJ]⟩
 |j::l,C,m,h,hr=>by have c:=hr j (al ..);obtain⟨a,h2,d⟩:=kB l _ _ (h.free (j-21)) (λi b=>hr i (am _ b));have s:=(gi.free h (i:=j-21) (by omega)).trans h2;rw [show j-21+21=j from by omega] at s;refine⟨a,s,?_⟩;have:=bD C m (j-21);show (yJ l (C.free m (j-21),jR m (j-21))).1.ws.length<=_;rw [ae];omega
structure Qb (D:Dk) (C C':Ck) (m m':List UInt8) (root':Nat) (p:Pl) (e:En) (es:List En) (bs pb fb:List Nat):Prop where
 cln:b8 D C' m'
 shr:gi D C C' m m' pb fb
 sub:∀j∈pb,j∈bs
 pl:pb.length<=13
 few:C'.ws.length<=C.ws.length+100
 mem:e∈es
 at_:e.pl=p
 tree:∃bs',q8 (λj=>C'.look D (j:Nat)) root' (qT p es) bs'/\(bs'++fb).Perm bs
 lt:root'<65536
theorem yO.perm_del{l:List En}(h:yO l){e:En}(g:e∈l):l.Perm (e::qT e.pl l):=by
 obtain⟨A,B,rfl⟩:=iX g;have d:=aX.1 h;have j:=aL.1 d.2.1
 have k:∀b∈A,b.pl≠e.pl:=λb c a=>by have:=d.2.2 b c e (al ..);rw [a] at this;exact Pl.irrefl _ this
 have i:∀b∈B,b.pl≠e.pl:=λb c a=>by have:=j.1 b c;rw [a] at this;exact Pl.irrefl _ this
 have f:qT e.pl (e::B)=qT e.pl B:=by unfold qT;rw [eX,aw (by simp)]
 rw [jI,f,jk k,jk i];exact List.perm_middle
structure fo (D:Dk) (V:qq) (tree n:Nat) (m:List UInt8) (es:List En) (bl:List Nat) (bo:Pl->List zv) (p:Pl) (e:En) (root':Nat) (C1:Ck) (m1:List UInt8) (pb fb:List Nat) (C2:Ck) (m2:List UInt8):Prop where
 rep:v6 D.bs V tree n m es bl bo
 ps:D.ps=[]
 big:64<=D.bs.length
 rem:Qb D fY C1 m m1 root' p e es bl pb fb
 body:yJ ((bo e.pl).map zv.at_) (C1,m1)=(C2,m2)
 num:n<4611686018427387904
section
variable {D:Dk} {V:qq} {tree n:Nat} {m:List UInt8} {es:List En} {bl:List Nat} {bo:Pl->List zv} {p:Pl} {e:En} {root':Nat} {C1:Ck} {m1:List UInt8} {pb fb:List Nat} {C2:Ck} {m2:List UInt8}
theorem gn{b:En}(c:b∈es){j:Nat}(a:j∈(bo b.pl).map zv.at_):j∈yj es bo:=gj.2 ⟨b,c,a⟩
theorem fo.shr(h:fo D V tree n m es bl bo p e root' C1 m1 pb fb C2 m2):b8 D C2 m2/\gi D fY C2 m m2 pb (fb++(bo e.pl).map zv.at_):=by
 have a:=kB ((bo e.pl).map zv.at_) C1 m1 h.rem.cln (λj b=>by
  have:=h.rep.range j (av _ (gn h.rem.mem b));have:=h.rep.few
  omega)
 rw [h.body] at a;have:=h.rem.shr.trans a.2.1;rw [aM] at this;exact⟨a.1,this⟩
theorem fo.keys(h:fo D V tree n m es bl bo p e root' C1 m1 pb fb C2 m2):∀k∈(C2.put 1 (zm (zw root' n))).keys,k∈[1,2]++pb:=λk b=>by
 rcases (xl C2 1 _ k).1 b with a|a
 .rcases h.shr.2.keys k a with a|a|a;.exact(by cases a)
  .simp [a]
  .simp [a]
 .simp [a]
theorem fo.klt(h:fo D V tree n m es bl bo p e root' C1 m1 pb fb C2 m2):∀k∈(C2.put 1 (zm (zw root' n))).keys,k<D.bs.length:=λk b=>by
 have c:=h.big;rcases ah.1 (h.keys k b) with a|a;.simp at a;omega
 .exact(h.rep.range k (af _ (h.rem.sub k a))).2
theorem fo.fits(h:fo D V tree n m es bl bo p e root' C1 m1 pb fb C2 m2):(C2.put 1 (zm (zw root' n))).full=false/\(C2.put 1 (zm (zw root' n))).ws.length<=18:=by
 refine⟨by rw [qJ];exact h.shr.1.full,?_⟩;have a:=kw _ _ (yM h.shr.1.nodup 1 (zm (zw root' n))) h.keys;rw [Ck.keys_len] at a;simp only [ag,ae,hO] at a;have:=h.rem.pl;omega
theorem fo.rest(h:fo D V tree n m es bl bo p e root' C1 m1 pb fb C2 m2):∃f,v6 (up D.bs (C2.put 1 (zm (zw root' n))).ws) (V.sub p.key p.num) root' n m2 (qT p es) f bo:=by
 obtain⟨aa,Z⟩:=h.fits;obtain⟨C,B⟩:=h.shr;obtain⟨f,hF,M⟩:=h.rem.tree;have T:=h.big;have Y:=h.rep.few;have H:=yM C.nodup 1 (zm (zw root' n))
 have w:∀j:Nat,j≠0->(j<3\/21<=j)->Z5 (up D.bs (C2.put 1 (zm (zw root' n))).ws) j=(C2.put 1 (zm (zw root' n))).look D (j:Nat):=λj E b=>by rw [Z6 h.ps];exact Ya h.ps H (by omega) h.klt E b
 have g:∀j:Nat,j≠0->j≠1->(j<3\/21<=j)->Z5 (up D.bs (C2.put 1 (zm (zw root' n))).ws) j=C2.look D (j:Nat):=λj E l b=>by rw [w j E b,z9 _ _ _ _ _ (by omega)]
 have J:yO es:=h.rep.forest.six.2.2;have I:es.Perm (e::qT p es):=by rw [<-h.rem.at_];exact J.perm_del h.rem.mem
 have y:(yj es bo).Perm ((bo e.pl).map zv.at_++yj (qT p es) bo):=(I.map _).flatten
 have s:(bl++yj es bo).Perm ((f++yj (qT p es) bo)++(fb++(bo e.pl).map zv.at_)):=by rw [lJ] at M y ⊢;intro a;have l:=M a;have h2:=y a;simp only [l4] at l h2 ⊢;omega
 have N:=s.nodup_iff.1 h.rep.nodup;have x:=aN.1 N;have u:∀j∈f++yj (qT p es) bo,j∈bl++yj es bo/\j∉fb++(bo e.pl).map zv.at_:=λj b=>⟨s.mem_iff.2 (af _ b),λt=>x.2.2 j b j t rfl⟩;have d:∀j∈f++yj (qT p es) bo,21<=j/\j<D.bs.length:=λj b=>h.rep.range j (u j b).1;have r:=h.rep.good;have c:∀v∈(V.sub p.key p.num).vs,v∈V.vs:=λv k=>(ei.1 k).1;refine⟨f,⟨by rw [ji];exact Y,?_,h.rep.n0,?_,?_,?_,x.1,λj b=>by rw [ji];exact d j b,?_,?_,?_,?_⟩⟩
 .have:=w 1 (by omega) (by omega);rw [this];have h2:(C2.put 1 (zm (zw root' n))).look D ((1:Nat):Int)=zm (zw root' n):=qn _ _ _ _;rw [h2];exact⟨.inl rfl,h.rem.lt,by have:=h.num;omega⟩
 .rw [g 2 (by omega) (by omega) (by omega)];exact C.map
 .refine hF.congr (λj b=>?_);have S:=d j (af _ b);rw [g j (by omega) (by omega) (by omega)]
  have o:=kB ((bo e.pl).map zv.at_) C1 m1 h.rem.cln (λj b=>by
   have:=h.rep.range j (av _ (gn h.rem.mem b))
   omega)
  rw [h.body] at o;exact o.2.1.look j (λt=>(by cases t)) (λt=>(u j (af _ b)).2 (av _ t)) (by omega)
 .intro F P;have z:=dJ.1 P;have o:=h.rep.body F z.1;refine⟨o.chain.congr (λq K=>?_),o.head,o.size,o.few⟩;have A:q.at_∈yj (qT p es) bo:=gj.2 ⟨F,P,au.2 ⟨q,K,rfl⟩⟩;have L:=u q.at_ (av _ A);have S:=d q.at_ (av _ A);have Q:q.at_∉pb:=λt=>(aN.1 h.rep.nodup).2.2 _ (h.rem.sub _ t) _ (gn z.1 (au.2 ⟨q,K,rfl⟩)) rfl;rw [g _ (by omega) (by omega) (by omega),B.look _ Q L.2 (by omega),yH,qY h.ps]
 .intro i O;rw [ji] at O;rw [B.taken];simp only [aW,aR];rw [h.rep.taken i O];constructor
  .rintro⟨l,h2⟩;rcases ah.1 (s.mem_iff.1 l) with G|G;.exact G
   .exact absurd G h2
  .exact λl=>u _ l
 .have l:(V.sub p.key p.num).vs.Perm ((es.map (xc bo)).filter λv=> !(decide (v.key=p.key)&&decide (v.num=p.num))):=h.rep.vers.filter _;refine l.trans ?_;rw [List.filter_map]
  have:(es.filter ((λv:zB=> !(decide (v.key=p.key)&&decide (v.num=p.num)))∘xc bo))=qT p es:=by unfold qT;refine lX (λF _=>?_);show (!(decide (F.pl.key=p.key)&&decide (F.pl.num=p.num)))=_;obtain⟨⟨k1,W⟩,_,_,_⟩:=F;obtain⟨k2,X⟩:=p;simp only [ne_eq,Pl.mk.injEq];by_cases U:k1=k2<;>by_cases R:W=X<;>simp [U,R]
  rw [this]
 .refine⟨Pg.new 1,Pg.new_ok 1 (by omega),?_,rfl⟩;rw [Z6 h.ps];exact Yb h.ps (by omega) _
 .exact⟨i9 _ r.apart,λv k=>r.num v (c v k),λv k=>r.key v (c v k),λv k=>r.body v (c v k),λv k=>r.mark v (c v k),aD (ip _ _) r.few,r.n0⟩
end
end prog
namespace prog
open Go.RowKit disk ref
theorem bC.root{h:Nat}{t a:Tr h}{p:Pl}(k:bC t p a)(r:t.Root)(b:1<=a.items.length)(h2:0<h->2<=a.items.length):a.Root where
 good:=k.good
 hi:=k.hi
 one:=b
 two:=h2
 first:=k.first _ r.first
 srt:=by rw [k.ents];exact r.srt.del
theorem bO{C:Ck}{D:Dk}{r:Int}{h:Nat}{t:Tr h}(l:t.LayV zm (λj=>C.look D (j:Nat))):C.look {D with reads:=r} (t.blk:Nat)=zm (zc (zO h) t.items):=by rw [zF];exact l.node
theorem YS(d bd:Nat)(S T:Nat->Prop)(D:Dk)(p:Pl)(C:Ck)(m:List UInt8)(x:Nat)(es:List En)(bs:List Nat)(hF:q8 (λj=>C.look D (j:Nat)) x es bs)(R:bs.Nodup)
 (O:∀j∈bs,21<=j/\j<1000) (ac:bs.length<=979) (aB:b8 D C m) (aE:C.ws.length<100):
 (∃e root' M Y pb fb,Qb D C M m Y root' p e es bs pb fb/\jF d bd S T D C x p root' (qt e) true M)\/((∀ab∈es,ab.pl≠p)/\jF d bd S T D C x p x qz false C):=by
 rcases hF with⟨rfl,rfl,rfl⟩|⟨h,t,f,ay,rfl,rfl,rfl⟩
 .exact .inr ⟨λab az=>(by cases az),⟨λw r y A a=>(Yz w d p 0 rfl).mono (by
   rintro ab w' ⟨A,h2⟩
   exact⟨A,⟨0,T,eb _,by omega,by rw [Int.add_zero];exact a.kept0 h2,λ_ h=>.inl h⟩,h2.mono fE⟩)⟩⟩
 .have Z:=f.low ac;have aw:=O t.blk t.blk_mem;rcases YE d bd S T D p h t C m (by omega) f.good f.two f.hi f.srt R O ay aB (by omega) with⟨e,C1,m1,s,pb,fb,k,aa⟩|⟨aq,aa⟩
  .obtain⟨g,L,v,b,P⟩:=k.tree;have aF:=k.pl;have aG:=k.few
   cases K:s with
   |false=>
    rw [K] at aa;have A:=f.one;have h2:=f.two;have ar:=P K;have ad:=L.root f (by omega) (λh=>by have:=h2 h;omega);refine .inl ⟨e,t.blk,C1,m1,pb,fb,⟨k.cln,k.shr,k.sub,by omega,by omega,k.mem,k.at_,⟨g.blocks,.inr ⟨h,g,ad,v,L.blk,L.ents,rfl⟩,b⟩,f.good.blk⟩,⟨λw r y A a=>?_⟩⟩;exact vk w d bd S T D C r a y p h t.blk (by omega) (by omega) Z (qt e) ⟨_,_,_,_,_,rfl⟩ false true C1 aa _ _ (.inl ⟨rfl,rfl,rfl⟩)
   |true=>
    rw [K] at aa
    have B:∀root' C2,(∀(l:World) (o:Nat->Prop) (r:Int),0<=r->r<=4611686018427380000->Cw l d bd S o {D with reads:=r} C1->Calls Tryz.prog 142 #[.pointer (some ⟨d,0,none⟩),.int .i64 (t.blk:Int)] l λab w'=>ab=.returned (.int .i64 (root':Nat))/\(∃(n:Int) (an:Nat->Prop),0<=n/\n<=2/\Cw w' d bd S an {D with reads:=r+n} C2/\∀j,an j->o j\/l.heap.size<=j)/\za (λj=>j=bd\/o j) l w')->jF d bd S T D C t.blk p root' (qt e) true C2:=λroot' C2 ao=>⟨λw r y A a=>
     vk w d bd S T D C r a y p h t.blk (by omega) (by omega) Z (qt e) ⟨_,_,_,_,_,rfl⟩ true true C1 aa root' C2 (.inr ⟨rfl,ao⟩)⟩
    have F:1<=g.items.length->(0<h->2<=g.items.length)->(∃e root' M Y pb fb,Qb D C M m Y root' p e t.ents t.blocks pb fb/\jF d bd S T D C t.blk p root' (qt e) true M):=λav aj=>by refine⟨e,t.blk,C1,m1,pb,fb,⟨k.cln,k.shr,k.sub,by omega,by omega,k.mem,k.at_,⟨g.blocks,.inr ⟨h,g,L.root f av aj,v,L.blk,L.ents,rfl⟩,b⟩,f.good.blk⟩,B _ _ (λl o r H N a=>?_)⟩;refine(XV l d bd S o {D with reads:=r} C1 a H N t.blk f.good.blk (zO h) (Z3 h) g.items L.good.items_ok (bE g) L.hi av (λar=>aj (by cases h with|zero=>simp [zO] at ar|succ h=>omega)) (by rw [<-L.blk];exact bO v)).mono ?_;rintro ab w' ⟨k1,⟨n,k2,k3,aA⟩,aD⟩;exact⟨k1,⟨n,o,k2,by omega,aA,λ_ h=>.inl h⟩,aD.mono iL⟩
    have G:((t.blk:Nat):Int)=((t.blk-21:Nat):Int)+21:=by omega
    have E:=k.shr.trans (gi.free k.cln (i:=t.blk-21) (by omega));rw [aM,show t.blk-21+21=t.blk from by omega] at E;have I:=k.cln.free (t.blk-21);have aI:=bD C1 m1 (t.blk-21)
    cases h with
    |zero=>
     by_cases A:1<=g.items.length;.exact .inl (F A (λh=>by omega))
     .have y:g.items=[]:=aY (by omega);have ae:qT p t.ents=[]:=by rw [<-L.ents];exact y
      refine .inl ⟨e,0,C1.free m1 (t.blk-21),jR m1 (t.blk-21),pb,fb++[t.blk],⟨I,E,k.sub,by omega,by omega,k.mem,k.at_,⟨[],.inl ⟨rfl,ae,rfl⟩,?_⟩,by omega⟩,B _ _ (λl o r H N a=>?_)⟩
      .have ax:g.blocks=[t.blk]:=by rw [<-L.blk];rfl
       rw [ax] at b;rw [aK];exact eM.trans b
      .have:=XU l d bd S o {D with reads:=r} C1 a m1 (by rw [zF];exact k.cln.map) H N (by omega) (t.blk-21) (by omega) 5 (.inr rfl) (by
        rw [show t.blk-21+21=g.blk from by rw [L.blk];omega,bO v,y];rfl)
       rw [G];exact this
    |succ h=>
     by_cases h2:2<=g.items.length;.exact .inl (F (by omega) (λ_=>h2))
     .have ai:=L.lo;have aJ:=f.two (by omega);obtain⟨aC,W⟩:=g
      have V:W.length=1:=by rw [zx] at h2 ai;omega
      obtain⟨⟨q,u⟩,rfl⟩:∃c,W=[c]:=by
       cases W with
       |nil=>simp at V
       |cons c r=>cases r with
        |nil=>exact⟨c,rfl⟩
        |cons _ _=>simp at V
      obtain rfl:aC=t.blk:=L.blk;have z:=L.good.kids.good (q,u) (by simp);have aP:3<=u.items.length:=L.good.full (q,u) (by simp)
      have X:u.First yh:=by obtain⟨u0,aO,U⟩:=L.first _ f.first;simp only [eH,eS] at U;rw [<-U.1.1];exact(L.good.kids.seps [] q u [] rfl).2.2
      have Q:u.ents=qT p t.ents:=by rw [<-L.ents];show u.ents=zJ [(q,u)];simp [zJ]
      have ah:u.Root:=⟨z.1,z.2.1,by omega,λ_=>by omega,X,by rw [Q];exact f.srt.del⟩;have J:Tr.blocks (h:=h+1) (t.blk,[(q,u)])=t.blk::u.blocks:=by show t.blk::zE [(q,u)]=_;simp [zE]
      have au:(t.blk::u.blocks++fb).Nodup:=by rw [<-J];exact b.nodup_iff.2 R
      have ap:t.blk∉u.blocks:=(iM.1 (aN.1 au).1).1;have ag:u.LayV zm (λj=>C1.look D (j:Nat)):=v.2 (q,u) (by simp);refine .inl ⟨e,u.blk,C1.free m1 (t.blk-21),jR m1 (t.blk-21),pb,fb++[t.blk],⟨I,E,k.sub,by omega,by omega,k.mem,k.at_,⟨u.blocks,.inr ⟨h,u,ah,ag.congr (λj al=>?_),rfl,Q,rfl⟩,?_⟩,z.1.blk⟩,B _ _ (λl o r H N a=>?_)⟩
      .have aH:=O j (b.mem_iff.1 (af _ (by rw [J];exact am _ al)));exact fg C1 D m1 (t.blk-21) j (by omega) (λaL=>ap (by rw [show t.blk=j from by omega];exact al))
      .rw [J] at b;refine List.Perm.trans ?_ b;rw [<-ak];exact eM
      .have:=KG l d bd S o {D with reads:=r} C1 a m1 (by rw [zF];exact k.cln.map) H N (by omega) (t.blk-21) (by omega) ⟨q,false,0,u.blk⟩ (z.2.2.en z.1.blk) ⟨rfl,rfl⟩ (by
        rw [show t.blk-21+21=t.blk from by omega];exact bO v)
       rw [G];exact this
  .refine .inr ⟨aq,⟨λw r y A a=>?_⟩⟩;exact vk w d bd S T D C r a y p h t.blk (by omega) (by omega) Z qz ⟨_,_,_,_,_,rfl⟩ false false C aa _ _ (.inl ⟨rfl,rfl,rfl⟩)
end prog
namespace prog
open Go.ChangeShapes Go.WideShapes Go.ChangeAt Go.RowKit disk ref
open keys (zh ze zy zs)
attribute [local go_sem] Oper.semAt_some
def Qd(pre:List BP):List Nat:=pre.map λx=>x.p.at_
theorem JI{ps:List zv}{pre:List BP}(h:pre.map BP.p<+:ps):Qd pre<+:ps.map zv.at_:=by
 have:=h.map zv.at_;rw [ln] at this;exact this
structure Dh (w1:World) (bc bd:Nat) (S T:Nat->Prop) (D:Dk) (C:Ck) (m:List UInt8) (ps:List zv) (b2 bx:Nat) (r:Int) (pre:List BP) (Q:Nat->Prop) (A:World):Prop where
 st:∃(n:Int) (T1:Nat->Prop),0<=n/\n<=r+pre.length/\Cw A bc bd S T1 {D with reads:=D.reads+n} (yJ (Qd pre) (C,m)).1/\(∀j,T1 j->T j\/w1.heap.size+2<=j)/\∀k,Q k↔T1 k/\w1.heap.size+2<=k
 box:A.heap[b2]? =some (.cells #[.iface 142 (.pointer (some ⟨bc,0,none⟩))] 193 (0,0))
 cbx:A.heap[bx]? =some (.cells #[.pointer (some ⟨bc,0,none⟩)] 142 (0,0))
 pfx:pre.map BP.p<+:ps
 kept:za (λk=>k=bd\/T k\/w1.heap.size<=k) w1 A
 rr:0<=r
def Dp(w1:World)(bc bd:Nat)(S T:Nat->Prop)(D:Dk)(C:Ck)(m:List UInt8)(ps:List zv)(b2:Nat)(r:Int)(pre:List BP)(A:World):Prop:=
 (∃(n:Int) (T1:Nat->Prop),0<=n/\n<=r+pre.length/\Cw A bc bd S T1 {D with reads:=D.reads+n} (yJ (Qd pre) (C,m)).1/\(∀j,T1 j->T j\/w1.heap.size+2<=j))/\
  A.heap[b2]? =some (.cells #[.iface 142 (.pointer (some ⟨bc,0,none⟩))] 193 (0,0))/\pre.map BP.p<+:ps/\0<=r
theorem YT{D:Dk}{C:Ck}{m:List UInt8}(h:b8 D C m){ps:List zv}(b:∀q∈ps,21<=q.at_/\q.at_<1000){pre:List BP}(a:pre.map BP.p<+:ps):b8 D (yJ (Qd pre) (C,m)).1 (yJ (Qd pre) (C,m)).2/\gi D C (yJ (Qd pre) (C,m)).1 m (yJ (Qd pre) (C,m)).2 [] (Qd pre)/\(yJ (Qd pre) (C,m)).1.ws.length<=C.ws.length+ps.length:=by
 have g:=(JI a).subset
 obtain⟨e,h2,f⟩:=kB (Qd pre) C m h (λj d=>by
  obtain⟨q,c,rfl⟩:=au.1 (g d)
  exact b q c)
 refine⟨e,h2,aD f ?_⟩;have:=(JI a).length_le;simp at this;omega
theorem KU(w:World)(g bd:Nat)(S T:Nat->Prop)(D:Dk)(C:Ck)(h:Cw w g bd S T D C)(m:List UInt8)(ab:b8 D C m)(bn:0<=D.reads)(bo:D.reads<=4611686018427380000)(ps:List zv)(ap:y9 (λj=>C.look D (j:Nat)) ps)(X:(ps.map zv.at_).Nodup)(bm:ps.length<=3)(F:∀q∈ps,21<=q.at_/\q.at_<1000)(first:Nat)(aY:xw ps=first)(bl:C.ws.length<600)(aD:Ck)(bi:List UInt8)(I:yJ (ps.map zv.at_) (C,m)=(aD,bi)):
 Calls Tryz.prog 80 #[.pointer (some ⟨g,0,none⟩),.int .i64 first] w λe w'=>e=.returned (.tuple #[])/\(∃(n:Int) (P:Nat->Prop),0<=n/\n<=6/\Cw w' g bd S P {D with reads:=D.reads+n} aD/\∀j,P j->T j\/w.heap.size<=j)/\za (λj=>j=bd\/T j) w w':=by
 have bk:Hid _:=h;have bc:Hid _:=aY;have bp:=h.disk.lt bd h.disk.bdS;have E:Hid _:=h.chg.lt;have ar:Hid _:=h.disk.lt;change Hid _ at ab ap X F I;clear h aY;refine yC Tryz.func80 rfl ?_;simp only [Tryz.ntmps80,aq,ae,hO,Nat.reduceAdd,Nat.reduceSub,iN,iO,i5,iR,aK,aT];go_wp2_with fail;have aP:Hid (za (λ_=>False) w (w.alloc (.cells #[.pointer (some ⟨g,0,none⟩)] 142))):=za.alloc _ _ _;have aR:Hid ((w.alloc (.cells #[.pointer (some ⟨g,0,none⟩)] 142)).heap[w.heap.size]? =some (.cells #[.pointer (some ⟨g,0,none⟩)] 142 (0,0))):=ac w _;have au:(w.alloc (.cells #[.pointer (some ⟨g,0,none⟩)] 142)).heap.size=w.heap.size+1:=by simp
 generalize (w.alloc (.cells #[.pointer (some ⟨g,0,none⟩)] 142))=a3 at*;refine(Zg a3 142 ⟨g,0,none⟩ first).mono ?_;rintro e p ⟨rfl,aa,Z,R,aO⟩;rw [au] at aa Z aO;have W:Hid _:=aP.trans R iL;have az:Hid (p.heap[w.heap.size]? =some (.cells #[.pointer (some ⟨g,0,none⟩)] 142 (0,0))):=(R.block _ (by omega) id).trans aR.out;change Hid _ at aa Z;clear R;rw [au];go_wp2_with fail
 have av:Hid (∀V,za (λ_=>False) p V->V.heap.size=p.heap.size+2->vQ Tryz.prog 124 #[.pointer (some ⟨w.heap.size+1+1,0,none⟩),.pointer (some ⟨w.heap.size+1,0,none⟩)] Ku (λk=>k=bd) (Dp p g bd S T D C m ps (w.heap.size+1)) (λr pre z A=>Js (p.heap.size+2) ps pre z A/\r<=0+pre.length+1) (λr am=>am.map BP.p=ps/\r<=0+ps.length) (λ_ _=>True) 0 V):=λV f aN=>by
  have:=Zc V 142 192 ⟨g,0,none⟩ (dN _) (w.heap.size+1+1) (w.heap.size+1) ps (λj=>C.look D (j:Nat)) ap X (λk=>k=bd) (Dp p g bd S T D C m ps (w.heap.size+1)) 0 (λk f=>by rw [f];omega)
   (by rw [bc.out];exact(f.block _ (by omega) id).trans aa) (λr pre A h=>h.2.1)
   (λr pre A B h f=>by
    obtain⟨⟨n,s,v,y,o,t⟩,G,K,ad⟩:=h
    exact⟨⟨n,s,v,y,o.kept0 f,t⟩,(f.block _ (lT G) id).trans G,K,ad⟩)
   (λi d r pre A h Y br=>by
    obtain⟨⟨n,s,v,y,o,t⟩,G,K,ad⟩:=h;have aE:pre.length=i:=by have:=congrArg List.length Y;simp at this;omega
    obtain⟨aA,ay,aZ⟩:=YT ab F K;have aV:=F.out _ (ai d)
    have ax:ps[i].at_∉Qd pre:=λu=>by
     have O:Qd pre=(ps.map zv.at_).take i:=by have:=congrArg (List.map zv.at_) Y;rw [ln,iP] at this;exact this
     rw [O] at u;obtain⟨j,l,a1⟩:=i8.1 u;have aL:j<i:=by omega
     have:=eB.1 X j i (by omega) (by simpa using d) aL;rw [a1] at this;simp at this
    refine(kh A g bd S s {D with reads:=D.reads+n} _ o _ (by constructor<;>omega) (by show 0<=D.reads+n;omega) (by show D.reads+n<=_;omega)).mono ?_;rintro z bf ⟨rfl,⟨aC,be,a4,ah⟩,L⟩;refine⟨?_,L,r+1,by omega,by omega,⟨n+aC,s,by omega,by omega,by rw [<-a9];exact ah,t⟩,(L.block _ (lT G) (by omega)).trans G,K,by omega⟩
    rw [zF,ay.look _ (λu=>(by cases u)) ax (by omega)])
  rw [aN] at this;exact this
 have aQ:Hid (∀A B a2 r aj pre Q,Dh p g bd S T D C m ps (w.heap.size+1) w.heap.size r pre Q A->za a2 A B->(∀k,a2 k->k=p.heap.size\/k=p.heap.size+1)->aj=r->Dh p g bd S T D C m ps (w.heap.size+1) w.heap.size aj pre Q B):=by
  rintro A B a2 r aj pre Q d f aB rfl;obtain⟨n,s,v,y,o,t,x⟩:=d.st;have al:∀b,b<p.heap.size->¬a2 b:=λb aF u=>by have:=aB b u;omega
  refine⟨⟨n,s,v,y,o.kept f (λj l=>al j (by have:=ar.out j l;omega)) (λj l u=>?_),t,x⟩,(f.block _ (lT d.box) (al _ (by omega))).trans d.box,(f.block _ (lT d.cbx) (al _ (by omega))).trans d.cbx,d.pfx,d.kept.trans f (λi d=>.inl (.inr (.inr (by have:=aB i d;omega)))),d.rr⟩;rcases t j l with h|h;.exact al j (by have:=E.out j h;omega) u
  .have:=aB j u;omega
 refine kj (α:=BP) (gf:= 124) (lb:=#[.pointer (some ⟨w.heap.size+1+1,0,none⟩),.pointer (some ⟨w.heap.size+1,0,none⟩)]) rfl (enters_of Tryz.func124 (by kernel_rfl) rfl) av.out
  (λk f=>by rw [f];omega) (λ_=>rfl)
  (Dh p g bd S T D C m ps (w.heap.size+1) w.heap.size) (λc r pre A=>False)
  (λr pre Q A h=>by
   obtain⟨n,s,v,y,o,t,x⟩:=h.st
   exact⟨⟨⟨n,s,v,y,o,t⟩,h.box,h.pfx,h.rr⟩,λk f=>by
    have aX:=(x k).1 f;have h2:=o.chg.lt k aX.1
    omega⟩)
  (λr aj pre Q A B h bh f d=>by
   obtain⟨n,s,v,y,o,t,x⟩:=h.st;obtain⟨⟨U,af,G,K,ad,b4⟩,ba,bb,a5⟩:=d;have bj:∀b,b≠bd->b<A.heap.size->B.heap[b]? =A.heap[b]? :=λb aF a6=>f.block b a6 aF
   exact⟨⟨U,s,G,K,⟨ad.disk,o.chg.kept f (λj l aw=>o.apart bd o.disk.bdS (by rw [<-show j=bd from aw];exact l)),o.apart⟩,t,x⟩,ba,(bj _ (by omega) (lT h.cbx)).trans h.cbx,bb,h.kept.trans f (λi d=>.inl (.inl d)),a5⟩)
  (λr pre Q A B h f=>aQ A B _ r r pre Q h f (λk f=>f) rfl)
  (λc r pre A B h f=>h)
  ⟨⟨0,T,eb _,by simp,by rw [Int.add_zero];exact bk.kept0 W,λj l=>.inl l,λk=>⟨λh=>h.elim,λh=>by have:=E.out k h.1;omega⟩⟩,Z,az,List.nil_prefix,za.refl _ _,eb _⟩
  (λz aJ A=>aJ={tmps:=#[.pointer (some ⟨g,0,none⟩),.int .i64 (first:Int),.pointer (some ⟨w.heap.size,0,none⟩),undef,.int .i64 (z.p.at_:Int),.pointer (some ⟨g,0,none⟩),.iface 142 (.pointer (some ⟨g,0,none⟩)),.int .i64 (first:Int),.func (.func 124) #[] #[.pointer (some ⟨w.heap.size+1+1,0,none⟩),.pointer (some ⟨w.heap.size+1,0,none⟩)],.int .i64 (z.p.at_:Int),.slice (some ⟨z.g,4,none⟩) z.p.l.length 124,undef,undef,undef],defers:=[] })
  (λz a A B h f=>h)
  (λr pre z A B h f=>⟨⟨h.1.pre,by obtain⟨a7,bg⟩:=h.1.pg;exact⟨a7,bg.kept f (by have:=h.1.ge;omega)⟩,h.1.ge⟩,h.2⟩) ?assign ?body ?done ?stop
 case assign=>
  intro a0 r pre z Q A bt d J aM ak;dsimp only [Ku];gi_wp2;exact ak _ _ (za.refl _ _) d J rfl
 case body=>
  rintro a0 r pre z Q aJ A d J rfl aM;obtain⟨n,s,v,y,o,t,x⟩:=d.st;have M:Hid _:=d;have aG:Hid _:=J.1.pre;obtain⟨aA,ay,aZ⟩:=YT ab F d.pfx;have aV:=F.out z.p (J.1.pre.subset (by simp));have aE:pre.length+1<=3:=by have:=J.1.pre.length_le;simp at this;omega
  have H:Hid _:=t;have ao:Hid _:=x
  have aW:Hid (Calls Tryz.prog 143 #[.pointer (some ⟨g,0,none⟩),.int .i64 (z.p.at_:Int)] A λe w'=>e=.returned (.tuple #[])/\(∃(U:Int) (P:Nat->Prop),0<=U/\U<=1/\Cw w' g bd S P {D with reads:=D.reads+n+U} (yJ (Qd (pre++[z])) (C,m)).1/\∀k,P k->s k\/A.heap.size<=k)/\za (λk=>k=bd\/s k) A w'):=by
   have:=gg A g bd S s {D with reads:=D.reads+n} _ o (yJ (Qd pre) (C,m)).2 (by rw [zF];exact aA.map) (by show 0<=D.reads+n;omega) (by show D.reads+n<=_;omega) (by omega) (z.p.at_-21) (by omega);rw [show ((z.p.at_-21:Nat):Int)+21=(z.p.at_:Int) from by omega] at this;have O:Qd (pre++[z])=Qd pre++[z.p.at_]:=by simp [Qd]
   show Calls _ _ _ _ _;rw [O,bN];exact this
  have bs:A.cell? ⟨w.heap.size,0,none⟩=some (.pointer (some ⟨g,0,none⟩)):=cR d.cbx rfl;clear o t x aA ay aZ d J;gi_wp2_with fail;refine⟨eI,rfl,?_⟩;refine((yt a0).calls aW).mono ?_;rintro e bf ⟨rfl,⟨aC,af,be,a4,ah,L⟩,N⟩;change Hid _ at ah L N;gi_wp2;have aH:∀j,af j->T j\/p.heap.size+2<=j:=λj l=>(L j l).elim (H j) (λh=>.inr (by omega))
  have aI:∀b,w.heap.size<=b->b<p.heap.size->¬(b=bd\/s b):=λb aX h2 u=>by
   rcases u with h|h;.omega
   .rcases H b h with h|h;.have:=E.out b h;omega
    .omega
  refine⟨N.mono (λj l=>?_),λk=>af k/\p.heap.size+2<=k,⟨⟨n+aC,af,by omega,by rw [ag,iq];omega,by rw [<-a9];exact ah,aH,λk=>Iff.rfl⟩,(N.block _ (lT M.box) (aI _ (by omega) (by omega))).trans M.box,(N.block _ (lT M.cbx) (aI _ (by omega) (by omega))).trans M.cbx,by rw [eh];exact aG,M.kept.trans N (λj l=>.inl ?_),M.rr⟩,λk f=>?_⟩
  .rcases l with h|h;.exact .inl (by omega)
   .rcases H j h with h2|h2;.exact .inl (by have:=E.out j h2;omega)
    .exact .inr ((ao j).2 ⟨h,h2⟩)
  .rcases l with h|h;.exact .inl h
   .rcases H j h with h2|h2;.exact .inr (.inl h2)
    .exact .inr (.inr (by omega))
  .rcases L k f.1 with h|h;.exact .inl ((ao k).2 ⟨h,f.2⟩)
   .exact .inr h
 case done=>
  rintro a8 r am Q A an d rfl ak;obtain⟨n,s,v,y,o,t,x⟩:=d.st;have O:Qd am=ps.map zv.at_:=by rw [<-an.1,ln];rfl
  have bq:am.length=ps.length:=by rw [<-an.1];simp
  have bh:=an.2;rw [O,I.out] at o;have aS:za (λk=>k=p.heap.size) A (A.putObj p.heap.size (.deferred none)):=za.putObj _ _ _ rfl;have aU:=d.kept;show Ye _ _ _ .ret _ _
  refine jo rfl ak (results_none rfl _ _ _) ⟨rfl,⟨n,s,v,by omega,o.kept aS (λj l aw=>by have:=ar.out j l;omega) (λj l aw=>by
   rcases t j l with h|h;.have:=E.out j h;omega
   .omega),λj l=>(t j l).imp id (λh=>by omega)⟩,?_⟩
  exact((W.mono (S':=λj=>j=bd\/T j) fE).trans aU (λj l=>by
   rcases l with h|h|h;.exact .inl (.inl h)
   .exact .inl (.inr h)
   .exact .inr (by omega))).trans aS (λj l=>.inr (by omega))
 case stop=>
  rintro a8 c r pre A an d rfl ak;exact d.elim
end prog
namespace prog
open Go.ChangeShapes Go.WideShapes Go.ChangeAt Go.RowKit disk ref
open Go.MuLone
open keys (zh ze zy zs zq)
structure Rest (D:Dk) (n:Nat) (e:En) (root':Nat) (C1 C2:Ck) (m1 m2:List UInt8) (ps:List zv):Prop where
 cln:b8 D C1 m1
 few:C1.ws.length<=100
 lt:root'<65536
 chain:y9 (λj=>C1.look D (j:Nat)) ps
 nodup:(ps.map zv.at_).Nodup
 head:xw ps=e.at_
 three:ps.length<=3
 range:∀q∈ps,21<=q.at_/\q.at_<1000
 free:yJ (ps.map zv.at_) (C1,m1)=(C2,m2)
 full:(C2.put 1 (zm (zw root' n))).full=false
 fits:(C2.put 1 (zm (zw root' n))).ws.length<=18
 keys:∀k∈(C2.put 1 (zm (zw root' n))).keys,k<D.bs.length
def Di(D:Dk)(n:Nat)(e:En)(root':Nat)(C1 C2:Ck)(m1 m2:List UInt8)(ps:List zv)(v:List Value)(ok:Bool):Prop:=(ok=false/\v=qz)\/(ok=true/\v=qt e/\Rest D n e root' C1 C2 m1 m2 ps)
def Du(w w':World)(bd:Nat)(S:Nat->Prop)(D:Dk)(n root':Nat)(C2:Ck)(ok:Bool)(x:Ending):Prop:=∃kk:Int,0<=kk/\kk<=40/\
 ((ok=false/\x=.returned (.int .i64 5)/\q9 w w' bd S {D with reads:=D.reads+kk })\/(ok=true/\x=.returned (.int .i64 0)/\q9 w w' bd S {D with bs:=up D.bs (C2.put 1 (zm (zw root' n))).ws,reads:=D.reads+kk }))
def G1(w w':World)(bs bd:Nat)(k:Int)(S:Nat->Prop)(D:Dk)(n root':Nat)(C2:Ck)(ok:Bool)(x:Ending):Prop:=∃kk:Int,0<=kk/\kk<=40/\
 ((ok=false/\x=.returned (.int .i64 5)/\q9 w w' bd S {D with reads:=D.reads+kk })\/(ok=true/\∃c,x=.returned (.int .i64 c)/\cB w w' bs bd k S (qj {D with reads:=D.reads+kk} (C2.put 1 (zm (zw root' n))).ws) c))
theorem b8.reads{D:Dk}{C:Ck}{m:List UInt8}(h:b8 D C m)(r:Int):b8 {D with reads:=r} C m:=⟨by rw [zF];exact h.map,h.full,h.nodup⟩
theorem fO(w:World)(bs bd:Nat)(S:Nat->Prop)(D:Dk)(k:Int)(M:zu w bs k (some bd))(B:zg w bd S D)(aB:¬S bs)(ar:0<=D.reads)(a6:D.reads<=4611686018427350000)(Y:D.ps=[])(ae:zD D.fuse)(bc:64<=D.bs.length)(bi:D.bs.length<=1000)
 (tree n:Nat) (ao:qV (D.look 1) tree n) (be:n<4611686018427387904) (p:Pl) (e:En) (root':Nat) (C1 C2:Ck) (m1 m2:List UInt8) (ps:List zv) (v:List Value) (ah:Bool) (t:jF (w.heap.size+1) bd S (λj=>j=w.heap.size+1) D fY tree p root' v ah C1) (g:Di D n e root' C1 C2 m1 m2 ps v ah):
 Calls Tryz.prog 53 #[.pointer (some ⟨bs,0,none⟩),.agg #[.string p.key,.int .i64 p.num]] w λak w'=>G1 w w' bs bd k S D n root' C2 ah ak:=by
 have N:Hid (zg w bd S D):=B;have aO:=M.c2;have a8:=B.lt bd B.bdS;have V:Hid (∀j,S j->j<w.heap.size):=B.lt;have hbs:=M.lt;change Hid _ at M ao t g Y ae;clear B;have aD:Hid (za (λ_=>False) w (w.alloc (.cells #[.string p.key,.int .i64 p.num] 107))):=za.alloc _ _ _;have av:Hid ((w.alloc (.cells #[.string p.key,.int .i64 p.num] 107)).heap[w.heap.size]? =some (.cells #[.string p.key,.int .i64 p.num] 107 (0,0))):=ac w _;have aH:(w.alloc (.cells #[.string p.key,.int .i64 p.num] 107)).heap.size=w.heap.size+1:=by simp
 go_enter Tryz.func53,Tryz.ntmps53;go_wp2_with fail;generalize (w.alloc (.cells #[.string p.key,.int .i64 p.num] 107))=bf at*;refine(cV bf bd (by omega)).mono ?_;rintro ak C ⟨rfl,m,F⟩;rw [aH] at m ⊢;have P:Hid (za (λ_=>False) w C):=aD.trans F iL;have af:Hid (C.heap[w.heap.size]? =_):=(F.block _ (by omega) id).trans av.out;have U:Hid (Cw C (w.heap.size+1) bd S (λj=>j=w.heap.size+1) D fY):=⟨N.kept P nF,m,λj a bg=>by have:=V.out j a;omega⟩;clear m F aO;go_wp2_with fail;refine(Zd C (w.heap.size+1) bd S _ D fY U ar (by omega) tree n (by rw [yH];exact ao)).mono ?_;rintro ak b ⟨rfl,⟨k2,a1,aQ,K⟩,u⟩;have a5:=u.size;have a2:w.heap.size+1<C.heap.size:=U.chg.lt _ rfl;have L:Hid (b.heap[w.heap.size]? =_):=(u.block _ (by omega) (by omega)).trans af.out;have aS:b.cell? ⟨w.heap.size,0,none⟩=some (.string p.key):=cR L.out rfl;have aV:b.cell? ⟨w.heap.size,1,none⟩=some (.int .i64 p.num):=cR L.out rfl;have a7:w.heap.size<b.heap.size:=by omega
 change Hid _ at K u;go_wp2_with fail;have aF:Hid ((b.alloc (.cells #[.int .i64 (tree:Int),.int .i64 (n:Int)] 145)).heap[b.heap.size]? =some (.cells #[.int .i64 (tree:Int),.int .i64 (n:Int)] 145 (0,0))):=ac b _;have O:Hid (za (λ_=>False) b (b.alloc (.cells #[.int .i64 (tree:Int),.int .i64 (n:Int)] 145))):=za.alloc _ _ _;have ba:(b.alloc (.cells #[.int .i64 (tree:Int),.int .i64 (n:Int)] 145)).heap.size=b.heap.size+1:=by simp
 generalize (b.alloc (.cells #[.int .i64 (tree:Int),.int .i64 (n:Int)] 145))=ag at*;refine(t.go ag (D.reads+k2) (by omega) (by omega) (K.kept0 O)).mono ?_;rintro ak l ⟨rfl,⟨f,aq,aM,aW,G,y⟩,x⟩;have bb:=x.size;have aw:Hid (l.heap[b.heap.size]? =_):=(x.block _ (by omega) (by omega)).trans aF.out;have z:Hid _:=(((P.mono fE).trans u iL).trans O fE).trans x (λj a=>a.imp id (λh=>by omega));change Hid _ at G y x;clear aS aV;rcases g.out with⟨rfl,rfl⟩|⟨rfl,rfl,aE⟩
 .unfold qz;go_wp2;have aG:=za.alloc (λ_=>False) l (.cells #[.string ⟨#[]⟩,.int .i64 0,.bool false,.int .i64 0,.int .i64 0] 109);refine bodyPost_ret (results_tmp rfl _ _ _) rfl ⟨k2+f,by omega,by omega,.inl ⟨rfl,rfl,⟨⟨S,?_,λ_ h=>.inl h⟩,(z.trans aG fE).mono (λj a=>by rw [show j=bd from a];exact N.bdS)⟩⟩⟩;rw [<-a9];exact G.disk.kept aG nF
 .have d:Hid _:=aE;clear aE g;unfold qt;go_wp2_with fail;have A:Hid (za (λ_=>False) l (l.alloc (.cells #[.string e.pl.key,.int .i64 e.pl.num,.bool e.mark,.int .i64 (e.size:Int),.int .i64 (e.at_:Int)] 109))):=za.alloc _ _ _;have a4:(l.alloc (.cells #[.string e.pl.key,.int .i64 e.pl.num,.bool e.mark,.int .i64 (e.size:Int),.int .i64 (e.at_:Int)] 109)).heap.size=l.heap.size+1:=by simp
  generalize (l.alloc (.cells #[.string e.pl.key,.int .i64 e.pl.num,.bool e.mark,.int .i64 (e.size:Int),.int .i64 (e.at_:Int)] 109))=aZ at*;have a3:=d.few;refine(KU aZ (w.heap.size+1) bd S aq {D with reads:=D.reads+k2+f} C1 (G.kept0 A) m1 (d.cln.reads _) (by show 0<=D.reads+k2+f;omega) (by show D.reads+k2+f<=_;omega) ps (d.chain.congr (λq _=>zF _ _ _ _)) d.nodup d.three d.range e.at_ d.head (by omega) C2 m2 d.free).mono ?_;rintro ak i ⟨rfl,⟨r,ax,aK,aT,ad,Z⟩,I⟩;have ab:Hid (∀j,ax j->j=w.heap.size+1\/ag.heap.size<=j):=λj a=>(Z j a).elim (y j) (λh=>.inr (by omega))
  have aj:Hid (∀j,w.heap.size<=j->j<ag.heap.size->j≠w.heap.size+1->¬(j=bd\/aq j)):=λj ay h2 aP aR=>by
   rcases aR with h|h;.omega
   .rcases y j h with h|h<;>omega
  have E:Hid (i.heap[b.heap.size]? =_):=(I.block _ (by omega) (aj _ (by omega) (by omega) (by omega))).trans ((A.block _ (by omega) id).trans aw)
  have am:Hid _:=(z.trans A fE).trans I (λj a=>by
   rcases a with h|h;.exact .inl h
   .rcases y j h with h|h;.exact .inr (by omega)
    .exact .inr (by omega))
  change Hid _ at ad;clear Z I;have a0:i.cell? ⟨b.heap.size,0,none⟩=some (.int .i64 (tree:Int)):=cR E.out rfl;have aX:i.cell? ⟨b.heap.size,1,none⟩=some (.int .i64 (n:Int)):=cR E.out rfl;have aL:=aa i b.heap.size 0 _ _ E.out;go_wp2_with fail;have T:Hid (za (λj=>j=b.heap.size) i (i.setCell ⟨b.heap.size,0,none⟩ (.int .i64 (root':Int)))):=za.setCell (S:=λj=>j=b.heap.size) i ⟨b.heap.size,0,none⟩ _ rfl;generalize (i.setCell ⟨b.heap.size,0,none⟩ (.int .i64 (root':Int)))=aJ at*
  have ap:Hid _:=ad.kept T (λj a aI=>by have:=V.out j a;omega) (λj a aI=>by
   rcases ab j a with h|h<;>omega)
  have an:Hid _:=am.trans T (λj a=>.inr (by omega));have H:=(kB (ps.map zv.at_) C1 m1 d.cln (λj a=>by obtain⟨q,al,rfl⟩:=au.1 a;exact d.range q al)).2.2;rw [d.free,ez] at H;have aP:=d.three;clear a0 aX aL;refine(v5 aJ (w.heap.size+1) bd S ax _ C2 ap root' n d.lt (by omega) (by simp only at H;omega)).mono ?_;rintro ak ai ⟨rfl,⟨aU,X,az⟩,Q⟩;have J:Hid ((C2.put 1 (zm (zw root' n))).full=false/\(C2.put 1 (zm (zw root' n))).ws.length<=18/\∀k∈(C2.put 1 (zm (zw root' n))).keys,k<D.bs.length):=⟨d.full,d.fits,d.keys⟩;generalize W:C2.put 1 (zm (zw root' n))=aC at*
  have o:Hid _:=an.trans Q (λj a=>by
   rcases ab j a with h|h;.exact .inr (by omega)
   .exact .inr (by omega))
  change Hid _ at W X;clear az Q H
  have aA:Hid (Calls Tryz.prog 78 #[.pointer (some ⟨bs,0,none⟩),.pointer (some ⟨w.heap.size+1,0,none⟩)] ai λe w'=>∃c,e=.returned (.int .i64 c)/\cB ai w' bs bd k S (qj {D with reads:=D.reads+k2+f+r} aC.ws) c):=
   bw ai bs (w.heap.size+1) bd k S aU {D with reads:=D.reads+k2+f+r} aC X (M.kept o (λe=>aB (by rw [show bs=bd from e];exact N.bdS))) aB (by have:=J.2.1;rw [J.1,Bool.false_or,decide_eq_false_iff_not];omega) (λq al=>by have:=J.2.2 q.1 (au.2 ⟨q,al,rfl⟩);omega) ae (by show D.ps.length<=_;rw [Y.out];simp)
  go_wp2_with fail;refine aA.mono ?_;rintro ak bh ⟨aN,rfl,R⟩;change Hid _ at R;go_wp2;refine bodyPost_ret (results_tmp rfl _ _ _) rfl ⟨k2+f+r,by omega,by omega,.inr ⟨rfl,aN,rfl,?_⟩⟩;have s:=R.out;rw [W.out,show ({D with reads:=D.reads+(k2+f+r)}:Dk)={D with reads:=D.reads+k2+f+r} by rw [a9 k2 f r,a9 (D.reads+k2) f r,a9 D.reads k2]];exact⟨s.code,s.sto,by obtain⟨aY,ay,h2⟩:=s.disk;exact⟨aY,ay,λj a=>(h2 j a).imp id (λh=>by have:=o.size;omega)⟩,(o.mono (λj a=>.inl (by rw [show j=bd from a];exact N.bdS))).trans s.kept iL⟩
end prog
namespace prog
open Go.ChangeShapes Go.WideShapes Go.ChangeAt Go.RowKit disk ref
open Go.MuLone
open law (qq zd xI bY jY)
open keys (zh ze zy zs zq)
theorem JJ(w:World)(bs:Nat)(q:Option Nat)(j:zu w bs 0 q)(a:ByteArray)(l:Int)(o:a.size<=maxLen)(b:zq a.data.toList=false):
 Calls Tryz.prog 31 #[.pointer (some ⟨bs,0,none⟩),.string a,.int .i64 l] w λe w'=>e=.returned (.int .i64 2)/\zu w' bs 0 q/\za (λk=>k=bs) w w':=by
 change Hid _ at j b;go_enter_defers Tryz.func31,Tryz.ntmps31
 go_wp2_with (first
  |(go_at_call 47;refine(qd j).mono ?_;rintro e n ⟨rfl,c,d⟩;change Hid _ at c d)
  |(go_at_call 49;refine(keys.ql a n o).mono ?_;rintro e m ⟨rfl,g⟩;rw [g,b.out];clear g m))
 refine leaves_cons (f:= 48) (args:=#[.pointer (some ⟨bs,0,none⟩)]) (by simp) (by simp [go_sem]) ?_;refine(qc c).mono ?_;rintro e u' m ⟨rfl,rfl,i,h⟩;exact⟨_,results_tmp Tryz.results31 _ _ _,rfl,i,d.trans h iL⟩
theorem UC(w:World)(bs:Nat)(j:zu w bs 0 none)(a:ByteArray)(l:Int)(o:a.size<=maxLen)(c:zq a.data.toList=true):
 Calls Tryz.prog 31 #[.pointer (some ⟨bs,0,none⟩),.string a,.int .i64 l] w λe w'=>e=.returned (.int .i64 8)/\zu w' bs 0 none/\za (λk=>k=bs) w w':=by
 change Hid _ at j c;go_enter_defers Tryz.func31,Tryz.ntmps31
 go_wp2_with (first
  |(go_at_call 47;refine(qd j).mono ?_;rintro e n ⟨rfl,b,d⟩;have p:=b.c2;change Hid _ at b d)
  |(go_at_call 49;refine(keys.ql a n o).mono ?_;rintro e m ⟨rfl,g⟩;rw [g,c.out];clear g m))
 refine leaves_cons (f:= 48) (args:=#[.pointer (some ⟨bs,0,none⟩)]) (by simp) (by simp [go_sem]) ?_;refine(qc b).mono ?_;rintro e u' m ⟨rfl,rfl,i,h⟩;exact⟨_,results_tmp Tryz.results31 _ _ _,rfl,i,d.trans h iL⟩
theorem Gf(w:World)(bs bd:Nat)(S:Nat->Prop)(D:Dk)(z:zu w bs 0 (some bd))(B:zg w bd S D)(L:¬S bs)(a:ByteArray)(d:Int)(N:a.size<=maxLen)(g:zq a.data.toList=true)(Q:Int->Dk->Option Nat->Prop)
 (n:∀w':World,zu w' bs 1 (some bd)->zg w' bd S D->Calls Tryz.prog 53 #[.pointer (some ⟨bs,0,none⟩),.agg #[.string a,.int .i64 d]] w' λe o=>∃c D' q,e=.returned (.int .i64 c)/\vR w' o bs bd S D' 1 q/\Q c D' q):
 Calls Tryz.prog 31 #[.pointer (some ⟨bs,0,none⟩),.string a,.int .i64 d] w λe w'=>∃c D' q,e=.returned (.int .i64 c)/\Q c D' q/\vR w w' bs bd S D' 0 q:=by
 have T:Hid (zg w bd S D):=B;have E:Hid (zq a.data.toList=true):=g;have P:Hid (∀j,S j->j≠bs):=λj p e=>L (by rw [<-e];exact p);have y:Hid (∀w':World,zu w' bs 1 (some bd)->zg w' bd S D->Calls Tryz.prog 53 #[.pointer (some ⟨bs,0,none⟩),.agg #[.string a,.int .i64 d]] w' λe o=>∃c D' q,e=.returned (.int .i64 c)/\vR w' o bs bd S D' 1 q/\Q c D' q):=n;have O:=z.lt;change Hid _ at z;clear B g n;go_enter_defers Tryz.func31,Tryz.ntmps31
 go_wp2_with (first
  |(go_at_call 47;refine(qd z).mono ?_;rintro e b ⟨rfl,m,r⟩;have H:Hid (zu b bs 1 (some bd)):=m;have l:Hid (za (λk=>k=bs) w b):=r;have W:b.cell? ⟨bs,2,none⟩=some (.pointer (some ⟨bd,0,none⟩)):=m.c2;clear m r)
  |(go_at_call 49;refine(keys.ql a b N).mono ?_;rintro e R ⟨rfl,t⟩;rw [t,E.out];clear t R)
  |(go_at_call 53;refine(y _ (by exact H) (by exact T.kept l P)).mono ?_;rintro e M ⟨c,D',q,rfl,s,x⟩;have I:Hid (vR b M bs bd S D' 1 q):=s;have F:PLift (Q c D' q):=⟨x⟩;clear s x))
 refine leaves_cons (f:= 48) (args:=#[.pointer (some ⟨bs,0,none⟩)]) (by simp) (by simp [go_sem]) ?_;obtain⟨A,⟨S',G,v⟩,K⟩:=I.out;refine(qc A).mono ?_;rintro e u' U ⟨rfl,rfl,J,u⟩;have V:=l.size;refine⟨_,results_tmp Tryz.results31 _ _ _,c,D',q,rfl,F.down,J,⟨S',G.kept u (λj p C=>?_),λj p=>?_⟩,?_⟩
 .rcases v j p with i|i;.exact L (by rw [<-show j=bs from C];exact i)
  .have h2:j=bs:=C;omega
 .rcases v j p with i|i;.exact .inl i
  .exact .inr (by omega)
 .exact((l.mono (S':=λk=>S k\/k=bs) (λ_ h=>.inr h)).trans K iL).trans u (λ_ h=>.inl (.inr h))
end prog
namespace prog
open Go.RowKit disk ref
open law (qq zd jY xI bY)
open keys (zq)
theorem v6.at_none{bs:List (List Value)}{V:qq}{tree n:Nat}{m:List UInt8}{es:List En}{bl:List Nat}{bo:Pl->List zv}(h:v6 bs V tree n m es bl bo){a:ByteArray}{b:Int}(c:∀l∈es,l.pl≠⟨a,b⟩):yl V.vs a b=none:=by
 cases i:yl V.vs a b with
 |none=>rfl
 |some v=>
  obtain⟨j,h2,f⟩:=jU i;obtain⟨d,e,rfl⟩:=h.ver f;have g:d.pl.key=a:=j;have k:d.pl.num=b:=h2;exact absurd (by rw [<-g,<-k]) (c d e)
variable {Fu:Int->Prop} {Ho:List (List Value)->qq->Prop} {m1:∀f,Fu f->zD f} {m2:Fu (-1)} {m3:∀bs V,yI bs V->Ho bs V} {m4:∀bs V,Ho bs V->law.Good V}
theorem fo.wsok{D:Dk}{V:qq}{tree n:Nat}{m:List UInt8}{es:List En}{bl:List Nat}{bo:Pl->List zv}{p:Pl}{e:En}{root':Nat}{C1:Ck}{m1:List UInt8}{pb fb:List Nat}{C2:Ck}{m2:List UInt8}(h:fo D V tree n m es bl bo p e root' C1 m1 pb fb C2 m2):X3 D.bs.length (C2.put 1 (zm (zw root' n))).ws:=by
 have d:1∈(C2.put 1 (zm (zw root' n))).keys:=(xl C2 1 _ 1).2 (.inr rfl);have h2:=l9 d;rw [Ck.keys_len] at h2;refine⟨yM h.shr.1.nodup 1 _,h.fits.2,h2,λp c=>?_⟩;have b:p.1∈(C2.put 1 (zm (zw root' n))).keys:=au.2 ⟨p,c,rfl⟩;refine⟨h.klt _ b,?_⟩;rcases ah.1 (h.keys _ b) with a|a;.simp at a;omega
 .have:=(h.rep.range _ (af _ (h.rem.sub _ a))).1;omega
def G2(D:Dk)(V:qq)(key:ByteArray)(num:Int)(bd:Nat)(c:Int)(D':Dk)(q:Option Nat):Prop:=
 YR D D'/\∃kk:Int,0<=kk/\kk<=40/\((c=5/\q=some bd/\yl V.vs key num=none/\D'={D with reads:=D.reads+kk })\/
  ((∃v,yl V.vs key num=some v)/\Gr D V (V.sub key num) bd c kk D' q))
theorem G4(w:World)(bs bd:Nat)(S:Nat->Prop)(D:Dk)(M:zu w bs 1 (some bd))(U:zg w bd S D)(N:¬S bs)(z:0<=D.reads)(ah:D.reads<=4611686018427340000)(b:D.ps=[])(F:zD D.fuse)(p:64<=D.bs.length)(V:qq)(aa:V.n0<=2305843009213693952)(o:yI D.bs V)
 (f:ByteArray) (d:Int):
 Calls Tryz.prog 53 #[.pointer (some ⟨bs,0,none⟩),.agg #[.string f,.int .i64 d]] w λe w'=>∃c D' q,e=.returned (.int .i64 c)/\vR w w' bs bd S D' 1 q/\G2 D V f d bd c D' q:=by
 have s:=o;obtain⟨tree,n,m,es,bl,bo,i⟩:=o;have v:n<4611686018427387904:=by rw [i.n0] at aa;omega
 have X:=i.few;have l:qV (D.look 1) tree n:=by have:=i.root;rw [<-qY b] at this;exact this
 have O:qF (D.look 2) m:=by have:=i.map;rw [<-qY b] at this;exact this
 have L:b8 D fY m:=⟨by rw [yH];exact O,rfl,List.nodup_nil⟩
 have J:=i.forest.congr (λj R=>by
  show fY.look D (j:Nat)=_
  rw [yH,qY b])
 rcases YS (w.heap.size+1) bd S (λj=>j=w.heap.size+1) D ⟨f,d⟩ fY m tree es bl J (aN.1 i.nodup).1 (λj R=>by have:=i.range j (af _ R);omega) i.len L (by show 0<100;omega) with⟨e,root',C1,m1,pb,fb,a,g⟩|⟨W,g⟩
 .obtain⟨ad,ai,Y⟩:=i.pieces a.mem;have C:=i.body e a.mem;rcases hfree:yJ ((bo e.pl).map zv.at_) (C1,m1) with⟨C2,m2⟩;have A:fo D V tree n m es bl bo ⟨f,d⟩ e root' C1 m1 pb fb C2 m2:=⟨i,b,p,a,hfree,v⟩;obtain⟨ac,T⟩:=A.fits;have B:e.pl.key=f/\e.pl.num=d:=by rw [a.at_];exact⟨rfl,rfl⟩
  have G:Rest D n e root' C1 C2 m1 m2 (bo e.pl):=⟨a.cln,by have:=a.few;have aj:fY.ws.length=0:=rfl;omega,a.lt,C.chain.congr (λq K=>by
   have x:=gn (bo:=bo) a.mem (au.2 ⟨q,K,rfl⟩);have ag:=i.range q.at_ (av _ x);have E:q.at_∉bl:=λk=>(aN.1 i.nodup).2.2 _ k _ x rfl;obtain⟨Q,_,y⟩:=a.tree;have u:=a.shr.look q.at_ (λk=>E (a.sub _ k)) (λk=>E (y.mem_iff.1 (av _ k))) (by omega);show C1.look D (q.at_:Nat)=_
   rw [u,yH,qY b]),ad,C.head,Y,λq K=>by
   have x:=gn (bo:=bo) a.mem (au.2 ⟨q,K,rfl⟩);have ag:=i.range q.at_ (av _ x)
   omega,hfree,ac,T,A.klt⟩
  refine(fO w bs bd S D 1 M U N z (by omega) b F p X tree n l v ⟨f,d⟩ e root' C1 C2 m1 m2 (bo e.pl) _ true g (.inr ⟨rfl,rfl,G⟩)).mono ?_;rintro ak w' ⟨H,t,r,⟨h,_⟩|⟨_,c,u,k⟩⟩;.cases h
  .obtain⟨Q,P⟩:=A.rest;obtain⟨D',q,ae,ab,Z⟩:=UB b p s A.wsok ⟨_,_,_,_,_,_,P⟩ k;exact⟨c,D',q,u,ae,Z,H,t,r,.inr ⟨⟨_,i.at_yes a.mem B.1 B.2⟩,ab⟩⟩
 .refine(fO w bs bd S D 1 M U N z (by omega) b F p X tree n l v ⟨f,d⟩ gQ tree fY fY m m [] _ false g (.inl ⟨rfl,rfl⟩)).mono ?_;rintro ak w' ⟨H,t,r,⟨_,u,I⟩|⟨h,_⟩⟩;.exact⟨5,_,some bd,u,⟨M.kept I.kept N,I.disk,I.kept.mono iL⟩,YR.refl _ _,H,t,r,.inl ⟨rfl,rfl,i.at_none W,rfl⟩⟩
  .cases h
theorem bQ(C:Fu 0->∀bs V,kz bs V->Ho bs V)(B:∀f,Fu f->Fu (qx f)):jY (vq Fu Ho m1 m2 m3 m4) where
 live:=λw bd bs S D V a b F k G=>by
  have n:=F.fuse;have p:=F.sto;have u:=F.disk;have m:=F.live.ps;have j:=F.live.rest;have z:=F.reads0;have J:=F.reads1;have i:=F.live.big
  cases d:zq a.data.toList with
  |false=>
   refine(JJ w bs (some bd) p a b k d).mono ?_;rintro e w' ⟨g,h2,l⟩;exact⟨D,S,2,some bd,g,kx u F.apart n h2 l,⟨.inl ⟨by show (2:Int)≠0;decide,rfl,rfl,F.live⟩⟩⟩
  |true=>
   refine(Gf w bs bd S D p u F.apart a b k d (G2 D V a b bd) (λw' g h2=>G4 w' bs bd S D g h2 F.apart z (by omega) m (m1 _ n) i V F.few j a b)).mono ?_;rintro e w' ⟨c,D',q,g,⟨x,y,I,H,o⟩,A⟩;have h:=x Fu B n;rcases o with⟨rfl,rfl,s,rfl⟩|⟨⟨v,s⟩,o⟩
   .rw [s];obtain⟨S',t⟩:=A.aft (D:=D) (by show D.reads<=D.reads+y;omega) (by show D.reads+y<=D.reads+40;omega) rfl h;exact⟨_,S',5,some bd,g,t,⟨.inl ⟨by show (5:Int)≠0;decide,rfl,rfl,⟨m,j,i⟩⟩⟩⟩
   .rw [s];obtain⟨E,K⟩:=o.same;obtain⟨S',t⟩:=A.aft (D:=D) (by omega) (by omega) E h;exact⟨D',S',c,q,g,t,o.chg C m i h⟩
 shut:=λw bs a b p k=>by
  have r:=p
  cases d:zq a.data.toList with
  |false=>exact(JJ w bs none r a b k d).mono (λe w' ⟨g,h2,l⟩=>⟨g,h2,l⟩)
  |true=>exact(UC w bs r a b k d).mono (λe w' ⟨g,h2,l⟩=>⟨g,h2,l⟩)
end prog
end Go.Proofs.YtcoengihaobddaaGreatDoor
