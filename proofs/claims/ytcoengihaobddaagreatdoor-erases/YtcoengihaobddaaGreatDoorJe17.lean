/- Part 17 of 50 of a proof: Fall1, Mng3, One, Law3, Law4, Law4b -/
import Derived.Test.YtcoengihaobddaaGreatDoorJe16
set_option maxHeartbeats 8000000
set_option linter.unusedVariables false
set_option linter.unusedSimpArgs false
set_option maxRecDepth 8000
namespace Go.Proofs.YtcoengihaobddaaGreatDoor
namespace prog
open Go.RowKit disk ref
open law (zP)
variable {bs:List (List Value)}{V V':zP}{ws:List (Nat×List Value)}{D:Dk}{Fu:Int->Prop}
theorem Ke(bs:List (List Value))(j:Nat):Yc bs j=bs.getD j z9:=by
 unfold Yc Dk.look;by_cases h:j<bs.length
 .rw [aB ⟨by omega,by show (j:Int)<(bs.length:Int);omega⟩];simp [jj,h]
 .rw [az (λa=>by have b:(j:Int)<(bs.length:Int):=a.2;omega)];simp [List.getElem?_eq_none (mV h)]
def Bh(bs bs':List (List Value)):Prop:=bs'.length=bs.length/\∀j,(j<3\/21<=j)->bs'[j]? =bs[j]?
theorem Bh.rd{a:List (List Value)}(h:Bh bs a){j:Nat}(b:j<3\/21<=j):Yc a j=Yc bs j:=by
 rw [Ke,Ke,aE,aE,h.2 j b]
theorem yX.near{c:List (List Value)}(h:yX bs V)(n:Bh bs c):yX c V:=by
 obtain⟨e,k,m,f,i,bo,R⟩:=h;have a:∀j∈i++yB f bo,21<=j:=λj d=>(R.range j d).1;refine⟨e,k,m,f,i,bo,by rw [n.1];exact R.few,by rw [n.rd (.inl (by omega))];exact R.root,R.n0,by rw [n.rd (.inl (by omega))];exact R.map,R.forest.congr (λj d=>n.rd (.inr (a j (ac _ d)))),λo g=>?_,R.nodup,by rw [n.1];exact R.range,by rw [n.1];exact R.taken,R.vers,by rw [n.rd (.inl (by omega))];exact R.head,R.good⟩;have b:=R.body o g;exact⟨b.chain.congr (λp l=>n.rd (.inr (a p.at_ (af _ (fA.2 ⟨o,g,av.2 ⟨p,l,rfl⟩⟩))))),b.head,b.size,b.few⟩
structure Kf (N:Nat) (ws:List (Nat×List Value)):Prop where
 nodup:(ws.map Prod.fst).Nodup
 few:ws.length<=18
 some:0<ws.length
 keys:∀p∈ws,p.1<N/\p.1≠0/\(p.1<3\/21<=p.1)
structure XN (bs:List (List Value)) (ws:List (Nat×List Value)) (V:zP):Prop where
 ok:Kf bs.length ws
 head:bs[0]? =some (zo (zN ws))
 log:∀i (h:i<ws.length),bs[3+i]? =some ws[i].2
 rest:yX ((zk bs ws).set 0 jN) V
def vC(bs:List (List Value))(V:zP):Prop:=yX bs V\/∃ws,XN bs ws V
def gR(D:Dk)(P:zP->Prop):Prop:=D.ps.length<=18/\∀ks,∃V,P V/\vC (zk D.bs (sel D.ps ks)) V
theorem XO(bs:List (List Value))(a:List (Nat×List Value))(h:∀p∈a,3<=p.1/\p.1<21):Bh bs (zk bs a):=
 ⟨zB _ _,λj d=>yE a bs (λc=>by
  obtain⟨p,b,rfl⟩:=av.1 c
  have:=h p b;omega)⟩
theorem XP{j:Nat}(h:j∈ws.map Prod.fst):∃b,(j,b)∈ws:=by
 obtain⟨p,a,rfl⟩:=av.1 h;exact⟨p.2,a⟩
theorem Ym(bs:List (List Value))(ws d:List (Nat×List Value))(f:(ws.map Prod.fst).Nodup)(h:∀p∈ws,p.1<bs.length)(i:∀p∈d,p∈ws):zk (zk bs d) ws=zk bs ws:=by
 refine List.ext_getElem? λj=>?_;by_cases a:j∈ws.map Prod.fst
 .obtain⟨b,e⟩:=XP a;have c:=h _ e;rw [kz ws _ f e (by rw [zB];exact c),kz ws _ f e c]
 .rw [yE ws _ a,yE ws _ a,yE d _ (λk=>a (by
   obtain⟨p,g,rfl⟩:=av.1 k
   exact av.2 ⟨p,i p g,rfl⟩))]
theorem XN.part(h:XN bs ws V)(b:List (Nat×List Value))(d:∀p∈b,p∈ws):XN (zk bs b) ws V:=by
 have a:∀j,(j=0\/(3<=j/\j<21))->(zk bs b)[j]? =bs[j]? :=λj k=>yE b bs (λg=>by
  obtain⟨p,c,rfl⟩:=av.1 g
  have:=h.ok.keys p (d p c);omega)
 have e:=zB b bs;refine⟨⟨h.ok.nodup,h.ok.few,h.ok.some,λp c=>by rw [e];exact h.ok.keys p c⟩,by rw [a 0 (.inl rfl)];exact h.head,λi f=>?_,?_⟩
 .have:=h.ok.few;rw [a (3+i) (.inr (by omega))];exact h.log i f
 .rw [Ym bs ws b h.ok.nodup (λp c=>(h.ok.keys p c).1) d];exact h.rest
theorem dB:∀(ws:List (Nat×List Value)) (D:Dk),(∀p∈ws,p.1<D.bs.length)->∃k f,(qv D ws).2={D with ps:=D.ps++ws.take k,fuse:=f}/\((qv D ws).1=true->ws.take k=ws)/\((qv D ws).1=false->f=0)
 |[],D,_=>⟨0,D.fuse,by simp [qv],by simp,by simp [qv]⟩
 |p::ws,D,hk=>by
  unfold qv;have l:=hk p (am ..);by_cases b:D.fuse=0
  .have e:D.writes (p.1:Int)=false:=decide_eq_false (λa=>a.2.2 b);rw [az (by rw [e];simp)];exact⟨0,0,by simp [<-b],by simp,λ_=>rfl⟩
  .have a:(0:Int)<=(p.1:Int)/\(p.1:Int)<(D.bs.length:Int)/\D.fuse≠0:=⟨by omega,by omega,b⟩;have e:D.writes (p.1:Int)=true:=aG a;have j:D.write (p.1:Int) p.2={D with ps:=D.ps++[(p.1,p.2)],fuse:=qG D.fuse}:=by unfold Dk.write;rw [aB a];simp
   rw [aB e,j];obtain⟨k,f,g,d,i⟩:=dB ws {D with ps:=D.ps++[(p.1,p.2)],fuse:=qG D.fuse} (λq c=>hk q (al _ c));refine⟨k+1,f,?_,λh=>by rw [iB,d h],i⟩;rw [g];simp
theorem Vf(p:Nat×List Value)(ks:List Bool):sel [p] ks=[]\/sel [p] ks=[p]:=by
 unfold sel;split;.exact .inr rfl
 .exact .inl rfl
theorem Qw(g:D.ps=[])(j:0<D.bs.length)(b:List Value):
 ((je D b).1=true->∃f,(je D b).2={D with bs:=D.bs.set 0 b,fuse:=f })/\
 ((je D b).1=false->(je D b).2={D with fuse:=0}\/(je D b).2={D with ps:=[(0,b)],fuse:=0 }):=by
 unfold je;by_cases d:D.fuse=0
 .have e:D.writes 0=false:=decide_eq_false (λc=>c.2.2 d);rw [az (by rw [e];simp)];exact⟨λh=>by simp at h,λ_=>.inl (by rw [<-d])⟩
 .have c:(0:Int)<=0/\(0:Int)<(D.bs.length:Int)/\D.fuse≠0:=⟨by omega,by omega,d⟩;have e:D.writes 0=true:=aG c;have i:D.write 0 b={D with ps:=[(0,b)],fuse:=qG D.fuse}:=by unfold Dk.write;rw [aB c,g];rfl
  rw [aB e,i];by_cases a:qG D.fuse=0
  .refine⟨λh=>by simp [a] at h,λ_=>.inr ?_⟩;unfold Dk.flush;rw [aB a,a]
  .refine⟨λ_=>⟨qG (qG D.fuse),?_⟩,λh=>by simp [a] at h⟩;unfold Dk.flush;rw [az a];show Dk.mk (zk D.bs [(0,b)]) [] _ _=Dk.mk _ D.ps _ _;rw [g];rfl
theorem Zj(c:D.ps=[])(h:XN D.bs ws V):
 ((q8 D ws).1=true->∃f,(q8 D ws).2={D with bs:=(zk D.bs ws).set 0 jN,fuse:=f })/\
 ((q8 D ws).1=false->(q8 D ws).2.fuse=0/\(q8 D ws).2.bs.length=D.bs.length/\(q8 D ws).2.reads=D.reads/\gR (q8 D ws).2 (λm=>m=V)):=by
 have d:=h.ok.keys;have y:=(aW.1 h.head).1;obtain⟨k,f,a,B,z⟩:=dB ws D (λp c=>(d p c).1);rw [c,aH] at a;have j:∀ks,XN (zk D.bs (sel (ws.take k) ks)) ws V:=λks=>h.part _ (λp A=>aJ (bU _ _ p A));have g:gR {D with ps:=ws.take k,fuse:=0} (λm=>m=V):=⟨by show (ws.take k).length<=18;have:=h.ok.few;have:=List.length_take_le' k ws;omega,λks=>⟨V,rfl,.inr ⟨ws,j ks⟩⟩⟩;unfold q8 jt;by_cases b:(qv D ws).1=true/\(qv D ws).2.fuse≠0
 .rw [aB b];have i:=B b.1
  have n:(qv D ws).2.flush={D with bs:=zk D.bs ws,ps:=[],fuse:=qG f}:=by
   have v:f≠0:=by have:=b.2;rw [a] at this;exact this
   rw [a,i];unfold Dk.flush;rw [az v]
  rw [n];have o:=Qw (D:={D with bs:=zk D.bs ws,ps:=[],fuse:=qG f }) rfl (by show 0<(zk D.bs ws).length;rw [zB];exact y) jN;have l:=h.part ws (λ_ h=>h);refine⟨λi=>?_,λq=>?_⟩
  .obtain⟨x,t⟩:=o.1 i;exact⟨x,by rw [t,c]⟩
  .rcases o.2 q with e|e<;>rw [e]
   .refine⟨rfl,zB _ _,rfl,ai _,λks=>⟨V,rfl,.inr ⟨ws,?_⟩⟩⟩;exact l
   .refine⟨rfl,zB _ _,rfl,by show (1:Nat)<=18;omega,λks=>⟨V,rfl,?_⟩⟩;show vC (zk (zk D.bs ws) (sel [(0,jN)] ks)) V;rcases Vf (0,jN) ks with e|e<;>rw [e]
    .exact .inr ⟨ws,l⟩
    .exact .inl h.rest
 .rw [az b];refine⟨λh=>by simp at h,λ_=>?_⟩
  have u:(qv D ws).2.fuse=0:=by
   by_cases s:(qv D ws).1=true;.exact Classical.byContradiction (λw=>b ⟨s,w⟩)
   .rw [a];exact z (by simpa using s)
  have r:f=0:=by rw [a] at u;exact u
  show (qv D ws).2.fuse=0/\(qv D ws).2.bs.length=D.bs.length/\(qv D ws).2.reads=D.reads/\gR (qv D ws).2 (λm=>m=V);rw [a,r];exact⟨rfl,rfl,rfl,g⟩
def vg(bs:List (List Value))(ws:List (Nat×List Value)):List (List Value):=(zk bs (qn ws)).set 0 (zo (zN ws))
theorem Kg(i:Nat)(h:i<ws.length):(3+i,ws[i].2)∈qn ws:=by
 rw [<-uT ws i h];exact ag _
theorem Yn(ws:List (Nat×List Value)):((qn ws).map Prod.fst).Nodup:=by
 rw [List.nodup_iff_pairwise_ne,eB];intro i j a b c;simp only [eF,jA] at a b;rw [ig,ig,uT ws i a,uT ws j b];show 3+i≠3+j;omega
theorem Ul(a:Kf bs.length ws)(f:21<=bs.length)(c:yX (gX bs ws) V):XN (vg bs ws) ws V:=by
 have d:(vg bs ws).length=bs.length:=by unfold vg;rw [eQ,zB]
 refine⟨⟨a.nodup,a.few,a.some,λp b=>by rw [d];exact a.keys p b⟩,?_,λi e=>?_,c⟩
 .unfold vg;rw [lM (by rw [zB];omega)]
 .unfold vg;have:=a.few;rw [iV (by omega)];exact kz _ _ (Yn ws) (Kg i e) (by omega)
theorem G0(i:D.ps=[])(z:yX D.bs V)(n:Kf D.bs.length ws)(F:21<=D.bs.length)(B:XN (vg D.bs ws) ws V'):
 ((yb D ws).1=true->∃f,(yb D ws).2={D with bs:=vg D.bs ws,fuse:=f })/\
 ((yb D ws).1=false->(yb D ws).2.fuse=0/\(yb D ws).2.bs.length=D.bs.length/\(yb D ws).2.reads=D.reads/\gR (yb D ws).2 (λG=>G=V\/G=V')):=by
 have j:=v9 n.few;obtain⟨k,f,a,E,C⟩:=dB (qn ws) D (λp c=>by have:=j p c;omega);rw [i,aH] at a;have b:∀l:List (Nat×List Value),(∀p∈l,p∈qn ws)->yX (zk D.bs l) V:=λl c=>z.near (XO _ _ (λp i=>j p (c p i)));unfold yb jt;by_cases g:(qv D (qn ws)).1=true/\(qv D (qn ws)).2.fuse≠0
 .rw [aB g];have m:=E g.1
  have o:(qv D (qn ws)).2.flush={D with bs:=zk D.bs (qn ws),ps:=[],fuse:=qG f}:=by
   have x:f≠0:=by have:=g.2;rw [a] at this;exact this
   rw [a,m];unfold Dk.flush;rw [az x]
  rw [o];have q:=Qw (D:={D with bs:=zk D.bs (qn ws),ps:=[],fuse:=qG f }) rfl (by show 0<(zk D.bs (qn ws)).length;rw [zB];omega) (zo (zN ws));have d:yX (zk D.bs (qn ws)) V:=b _ (λ_ h=>h);refine⟨λm=>?_,λr=>?_⟩
  .obtain⟨A,v⟩:=q.1 m;exact⟨A,by rw [v,i];rfl⟩
  .rcases q.2 r with e|e<;>rw [e]
   .exact⟨rfl,zB _ _,rfl,ai _,λks=>⟨V,.inl rfl,.inl d⟩⟩
   .refine⟨rfl,zB _ _,rfl,by show (1:Nat)<=18;omega,λks=>?_⟩;show ∃s,_/\vC (zk (zk D.bs (qn ws)) (sel [(0,zo (zN ws))] ks)) s;rcases Vf (0,zo (zN ws)) ks with e|e<;>rw [e]
    .exact⟨V,.inl rfl,.inl d⟩
    .exact⟨V',.inr rfl,.inr ⟨ws,B⟩⟩
 .rw [az g];refine⟨λh=>by simp at h,λ_=>?_⟩
  have w:(qv D (qn ws)).2.fuse=0:=by
   by_cases u:(qv D (qn ws)).1=true;.exact Classical.byContradiction (λy=>g ⟨u,y⟩)
   .rw [a];exact C (by simpa using u)
  have t:f=0:=by rw [a] at w;exact w
  show (qv D (qn ws)).2.fuse=0/\(qv D (qn ws)).2.bs.length=D.bs.length/\(qv D (qn ws)).2.reads=D.reads/\gR (qv D (qn ws)).2 _;rw [a,t];exact⟨rfl,rfl,rfl,by show ((qn ws).take k).length<=18;have:=n.few;have:=List.length_take_le' k (qn ws);rw [jA] at this;omega,λks=>⟨V,.inl rfl,.inl (b _ (λp c=>aJ (bU _ _ p c)))⟩⟩
theorem Kh(g:D.ps=[])(p:yX D.bs V)(i:Kf D.bs.length ws)(b:21<=D.bs.length)(d:yX (gX D.bs ws) V'):
 ((qp D ws).1=true->∃f,(qp D ws).2={D with bs:=gX D.bs ws,fuse:=f })/\
 ((qp D ws).1=false->(qp D ws).2.fuse=0/\(qp D ws).2.bs.length=D.bs.length/\(qp D ws).2.reads=D.reads/\gR (qp D ws).2 (λm=>m=V\/m=V')):=by
 have a:=Ul i b d;have k:=G0 g p i b a;unfold qp
 cases c:(yb D ws).1 with
 |false=>
  rw [az (by simp)];exact⟨λh=>(by rw [c] at h;cases h),λ_=>k.2 c⟩
 |true=>
  rw [aB rfl];obtain⟨f,e⟩:=k.1 c;rw [e];have j:=Zj (D:={D with bs:=vg D.bs ws,fuse:=f }) (ws:=ws) (V:=V') g a;have n:(vg D.bs ws).length=D.bs.length:=by unfold vg;rw [eQ,zB]
  refine⟨λh=>j.1 h,λh=>?_⟩;obtain⟨s,o,q,l⟩:=j.2 h;exact⟨s,o.trans n,q,l.1,λks=>by obtain⟨m,t,r⟩:=l.2 ks;exact⟨m,.inr t,r⟩⟩
theorem XQ(a:∀f,Fu f->Fu (qG f))(h:Fu D.fuse)(i:Int)(b:List Value):Fu (D.write i b).fuse:=by
 unfold Dk.write;split;.exact a _ h
 .exact h
theorem Zk(a:∀f,Fu f->Fu (qG f))(h:Fu D.fuse):Fu D.flush.fuse:=by
 unfold Dk.flush;split;.exact h
 .exact a _ h
theorem fF(a:∀f,Fu f->Fu (qG f)):∀(ws:List (Nat×List Value)) (D:Dk),Fu D.fuse->Fu (qv D ws).2.fuse
 |[],D,h=>h
 |p::ws,D,h=>by
  unfold qv;split;.exact fF a ws _ (XQ a h _ _)
  .exact h
theorem Zl(a:∀f,Fu f->Fu (qG f)){r:Bool×Dk}(h:Fu r.2.fuse)(b:List Value):Fu (jt r b).2.fuse:=by
 unfold jt;split
 .unfold je;split;.exact Zk a (XQ a (Zk a h) _ _)
  .exact Zk a h
 .exact h
theorem Um(a:∀f,Fu f->Fu (qG f))(h:Fu D.fuse)(ws:List (Nat×List Value)):Fu (qp D ws).2.fuse:=by
 have b:Fu (yb D ws).2.fuse:=Zl a (fF a _ D h) _;unfold qp;split;.exact Zl a (fF a ws _ b) _
 .exact b
def BG(D:Dk)(V V':zP)(bd:Nat)(c kk:Int)(D':Dk)(q:Option Nat):Prop:=
 (c=0/\q=some bd/\∃bs' f,bs'.length=D.bs.length/\yX bs' V'/\D'={D with bs:=bs',reads:=D.reads+kk,fuse:=f })\/
 (c=7/\q=none/\D'.fuse=0/\D'.bs.length=D.bs.length/\D'.reads=D.reads+kk/\gR D' (λU=>U=V\/U=V'))
def XR(D D':Dk):Prop:=∀Fu:Int->Prop,(∀f,Fu f->Fu (qG f))->Fu D.fuse->Fu D'.fuse
theorem XR.refl(D:Dk)(r:Int):XR D {D with reads:=r}:=λ_ _ h=>h
theorem G1{w w':World}{bs bd:Nat}{k:Int}{S:Nat->Prop}{kk c:Int}(j:D.ps=[])(x:64<=D.bs.length)(n:yX D.bs V)(l:Kf D.bs.length ws)(a:yX (gX D.bs ws) V')(h:Z5 w w' bs bd k S (qp {D with reads:=D.reads+kk} ws) c):
 ∃D' q,gk w w' bs bd S D' k q/\BG D V V' bd c kk D' q/\XR D D':=by
 have d:=Kh (D:={D with reads:=D.reads+kk }) (V:=V) (V':=V') j n l (by show 21<=D.bs.length;omega) a;have i:XR D (qp {D with reads:=D.reads+kk} ws).2:=λFu p h=>Um (D:={D with reads:=D.reads+kk }) p h ws;obtain⟨g,m,o,t⟩:=h;generalize qp {D with reads:=D.reads+kk} ws=R at*;obtain⟨b,D'⟩:=R;refine⟨D',_,⟨m,o,t⟩,?_,i⟩
 cases b with
 |true=>
  obtain⟨f,e⟩:=d.1 rfl;exact .inl ⟨g,rfl,_,f,jV _ _,a,e⟩
 |false=>
  obtain⟨r,v,s,u⟩:=d.2 rfl;exact .inr ⟨g,rfl,r,v,s,u⟩
end prog
namespace prog
open Go.RowKit disk ref
open law (zP za zL qx jp yU zD xm J6 OutIs Uc)
open keys (zh)
variable {D D':Dk}{V:zP}{bd:Nat}{q:Option Nat}
variable {Fu:Int->Prop} {Ho:List (List Value)->zP->Prop} {m1:∀f,Fu f->zs f} {m2:Fu (-1)} {m3:∀bs V,yX bs V->Ho bs V} {m4:∀bs V,Ho bs V->law.Good V}
theorem uh.wsok{e n:Nat}{m:List UInt8}{s:List En}{u:List Nat}{bo:Pl->List zv}{i:ByteArray}{g:Bool}{l:List UInt8}{f:Nat}{t:Ck}{m1:List UInt8}{k:List Nat}{a:Nat}{c:Ck}{m2:List UInt8}{x v:List Nat}(h:uh D V e n m s u bo i g l f t m1 k a c m2 x v)(d:((c.put 1 (zo (zx a (n+1)))).full||decide (18<(c.put 1 (zo (zx a (n+1)))).ws.length))=false):Kf D.bs.length (c.put 1 (zo (zx a (n+1)))).ws:=by
 simp only [lw,decide_eq_false_iff_not,qV] at d;obtain⟨j,y⟩:=d;have w:1∈(c.put 1 (zo (zx a (n+1)))).keys:=(xO c 1 _ 1).2 (.inr rfl);have o:=mx w;rw [Ck.keys_len] at o;refine⟨xg h.ins.chn.nodup 1 _,by omega,o,λp r=>?_⟩;have q:p.1∈(c.put 1 (zo (zx a (n+1)))).keys:=av.2 ⟨p,r,rfl⟩;refine⟨h.klt j _ q,?_⟩;rcases aj.1 (h.keys j _ q) with b|b;.simp at b;omega
 .have:21<=p.1:=by
   rcases aj.1 b with b|b;.exact(h.mid b).1
   .rcases aj.1 b with b|b;.exact(h.rep.range _ (ac _ (h.ins.sub _ b))).1
    .exact(h.new b).1
  omega
def BX(D:Dk)(V:zP)(key:ByteArray)(mark:Bool)(l:List UInt8)(bd:Nat)(v c:Int)(D':Dk)(q:Option Nat):Prop:=
 XR D D'/\∃kk:Int,0<=kk/\kk<=19/\((c=6/\v=0/\q=some bd/\xP V.vs (qd l.length) D.bs.length=false/\D'={D with reads:=D.reads+kk })\/
  ((c=0->v=V.n0+1)/\(c≠0->v=0)/\BG D V (V.add key mark l) bd c kk D' q))
theorem BH(w:World)(bs bd:Nat)(S:Nat->Prop)(D:Dk)(an:zt w bs 1 (some bd))(Y:ze w bd S D)(ao:¬S bs)(ad:0<=D.reads)(aE:D.reads<=4611686018427340000)(g:D.ps=[])(ap:zs D.fuse)(G:64<=D.bs.length)(V:zP)(aw:V.n0<=2305843009213693952)(x:yX D.bs V)
 (k:ByteArray) (r:zh k.data.toList=true) (b:Bool) (P:Nat->Prop) (a:Option Addr) (cap:Nat) (l:List UInt8) (N:b=true->l=[]) (aj:zu w P a l) (ak:∀j,P j->¬S j/\j≠bs) (U:l.length<=300) (ai:l.length<=cap) (al:cap<=9223372036854775807):
 Calls Tryz.prog 52 #[.pointer (some ⟨bs,0,none⟩),.string k,.slice a l.length cap,.bool b] w λe w'=>∃v c D' q,e=.returned (.tuple #[.int .i64 v,.int .i64 c])/\gk w w' bs bd S D' 1 q/\BX D V k b l bd v c D' q:=by
 have E:=x;obtain⟨t,n,m,am,Z,bo,R⟩:=x;have O:n<4611686018427387904:=by rw [R.n0] at aw;omega
 have H:yi (D.look 1) t n:=by have:=R.root;rw [<-yl g] at this;exact this
 have u:qP (D.look 2) m:=by have:=R.map;rw [<-yl g] at this;exact this
 rcases hbody:bA.body D.bs.length m (zZ l) with⟨f,F,m1⟩;have Q:JV D bA m:=⟨by rw [y7];exact u,λh=>(by cases h),List.nodup_nil⟩;obtain⟨B,o⟩:=GC Q R.few (zZ l) f F m1 (λp aA=>(cO p aA).2) hbody;have ag:=(cP (C:=bA) (D:=D) (m:=m) (by rw [y7];exact u) R.few (zZ l) f F m1 hbody).2.2;have L:=Yg r
 have s:∀j∈Z,21<=j/\zX m1 (j-21)=true/\j∉B:=λj d=>by have aC:=R.range j (ac _ d);have i:zX m (j-21)=true:=(R.taken (j-21) (by omega)).2 (by rw [show j-21+21=j from by omega];exact ac _ d);exact⟨aC.1,o.stp.grew.keeps i,o.stp.grew.apart i⟩
 have W:=R.forest.congr (λj d=>by
  have i:=s j d;show F.look D (j:Nat)=_
  rw [o.stp.look j (λh=>(by cases h)) i.2.2 (by omega) (by omega),y7,yl g])
 refine(Vc w bs bd S D 1 an Y ao ad (by omega) g ap G R.few t n H O m u k b P a cap l aj ak U ai al am Z f F m1 hbody B o ⟨L.2.1,L.2.2,by show 0<=(n:Int)+1;omega,by show (n:Int)+1<_;omega,U,λh=>by show l.length=0;rw [N h];rfl,ag⟩ (Bd r _) W (aX.1 R.nodup).1 (λj d=>⟨(s j d).1,(s j d).2.1⟩) R.len (λj d=>(R.range j (ac _ d)).2) (λaz X=>(R.low az X).1) (λaz X e=>?_)).mono ?_
 .have i:=(R.low az X).2.2.1;rw [e] at i;simp only at i;omega
 .rintro e w' ⟨I,ay,m2,au,ar,aB,kk,M,K,h⟩;have A:uh D V t n m am Z bo k b l f F m1 B I ay m2 au ar:=⟨R,g,G,o,aB,r,U,N,O⟩;rcases h with⟨y,rfl,ae,J⟩|⟨z,v,c,rfl,ah,ab,_,ax⟩
  .have af:Kept (λj=>S j\/j=bs) w w':=J.mono (λj d=>.inl (by rw [d];exact Y.bdS));refine⟨0,6,_,some bd,rfl,⟨an.kept J (λh=>ao (by rw [h];exact Y.bdS)),⟨S,ae,λ_ h=>.inl h⟩,af⟩,XR.refl _ _,kk,M,K,.inl ⟨rfl,rfl,rfl,?_,rfl⟩⟩
   cases T:xP V.vs (qd l.length) D.bs.length with
   |false=>rfl
   |true=>rw [A.fits T] at y;cases y
  .obtain⟨aD,aF,aa⟩:=A.rest z;obtain⟨D',q,i,aq,av⟩:=G1 g G E (A.wsok z) ⟨_,_,_,_,_,_,aa⟩ ax;exact⟨v,c,D',q,rfl,i,av,kk,M,K,.inr ⟨λh=>by rw [ah h,R.n0],ab,aq⟩⟩
theorem BG.same{V':zP}{c kk:Int}(h:BG D V V' bd c kk D' q):D'.bs.length=D.bs.length/\D'.reads=D.reads+kk:=by
 rcases h with⟨_,_,d,f,a,_,rfl⟩|⟨_,_,_,a,b,_⟩;.exact⟨a,rfl⟩
 .exact⟨a,b⟩
theorem BG.chg{D1:Dk}{V':zP}{o:Nat}{c kk:Int}(j:Fu 0->∀bs V,vC bs V->Ho bs V)(d:D1.ps=[])(k:64<=D1.bs.length)(g:Fu D'.fuse)(h:BG D1 V V' bd c kk D' q):law.Chg (ui Fu Ho m1 m2 m3 m4) D D' V V' bd 0 c o q:=by
 rcases h with⟨rfl,rfl,e,f,m,a,rfl⟩|⟨rfl,rfl,i,m,a,b⟩;.exact⟨.inr (.inl ⟨rfl,rfl,rfl,⟨d,a,by show 64<=e.length;omega⟩⟩)⟩
 .refine⟨.inr (.inr (.inr ⟨rfl,rfl,rfl,i,⟨by have:=b.1;omega,by omega,λks=>?_⟩⟩))⟩;obtain⟨p,l,n⟩:=b.2 ks;exact⟨p,l,j (by rw [<-i];exact g) _ _ n⟩
theorem gk.aft{w w':World}{bs:Nat}{S:Nat->Prop}(h:gk w w' bs bd S D' 0 q)(f:D.reads<=D'.reads)(e:D'.reads<=D.reads+40)(g:D'.bs.length=D.bs.length)(d:Fu D'.fuse):∃S',xm (ui Fu Ho m1 m2 m3 m4) w w' bd bs S S' D D' 40 q:=by
 obtain⟨a,⟨S',b,c⟩,i⟩:=h;exact⟨S',b,c,a,i,f,e,g,d⟩
theorem Zm(T:Fu 0->∀bs V,vC bs V->Ho bs V)(Q:∀f,Fu f->Fu (qG f)):qx (ui Fu Ho m1 m2 m3 m4) where
 live:=λw bd bs S P D V g a cap l F o J N R O L=>by
  have t:=F.fuse;have x:=F.sto;have B:=F.disk;have y:=F.live.ps;have s:=F.live.rest;have K:=F.reads0;have Y:=F.reads1;have r:=F.live.big
  cases d:zh g.data.toList with
  |false=>
   refine(Vd w bs (some bd) x g o d a l.length cap).mono ?_;rintro e w' ⟨j,k,m⟩;exact⟨D,S,2,0,some bd,j,vB B F.apart t k m,⟨.inl ⟨by show (2:Int)≠0;decide,rfl,rfl,F.live⟩⟩,rfl⟩
  |true=>
   by_cases b:300<l.length
   .have i:ue true l.length=3:=aB b;rw [i];refine(Ve w bs (some bd) x g o d a l.length cap b).mono ?_;rintro e w' ⟨j,k,m⟩;exact⟨D,S,3,0,some bd,j,vB B F.apart t k m,⟨.inl ⟨by decide,rfl,rfl,F.live⟩⟩,rfl⟩
   .have i:ue true l.length=0:=az b;rw [i];refine(Bg w bs bd S D x B F.apart g o d P a cap l J N (by omega) (BX D V g false l bd) (λw' j k m=>BH w' bs bd S D j k F.apart K (by omega) y (m1 _ t) r V F.few s g d false P a cap l (λh=>(by cases h)) m N (by omega) O L)).mono ?_;rintro e w' ⟨v,c,D',q,j,⟨H,kk,X,W,z⟩,M⟩;have p:=H Fu Q t;rcases z with⟨rfl,rfl,rfl,C,rfl⟩|⟨G,I,z⟩
    .obtain⟨S',E⟩:=M.aft (D:=D) (by show D.reads<=D.reads+kk;omega) (by show D.reads+kk<=D.reads+40;omega) rfl p;exact⟨_,S',6,0,some bd,j,E,⟨.inr (.inr (.inl ⟨rfl,rfl,rfl,⟨y,s,r⟩,C⟩))⟩,rfl⟩
    .obtain⟨U,Z⟩:=z.same;obtain⟨S',E⟩:=M.aft (D:=D) (by omega) (by omega) U p;refine⟨D',S',c,v,q,j,E,z.chg T y r p,?_⟩;by_cases A:c=0;.rw [aB A];exact G A
     .rw [az A];exact I A
 shut:=λw bs g a n cap x o aa=>by
  have u:=x
  cases d:zh g.data.toList with
  |false=>exact(Vd w bs none u g o d a n cap).mono (λe w' ⟨j,k,m⟩=>⟨j,k,m⟩)
  |true=>
   by_cases b:300<n
   .have i:ue true n=3:=aB b;rw [i];exact(Ve w bs none u g o d a n cap b).mono (λe w' ⟨j,k,m⟩=>⟨j,k,m⟩)
   .have i:ue true n=0:=az b;rw [i];exact(GY w bs u g o d a n cap (by omega)).mono (λe w' ⟨j,k,m⟩=>⟨j,k,m⟩)
theorem Zn{P:Prop}(h:(0:Int)= -1):P:=absurd h (by decide)
theorem uk(f:Int)(h:f= -1):qG f= -1:=by rw [h];rfl
theorem vM:qx GZ:=Zm (λh=>Zn h) uk
end prog
namespace law
open Go.RowKit disk ref book
open keys (zh)
variable {M:za}{w w':World}{R X S T:Nat->Prop}{h:qm}{D:Dk}{V:zP}{last:Int}{bo bd t:Nat}
def yp(b:Nat):Value:=.pointer (some ⟨b,0,none⟩)
structure kH(M:za)(w:World)(R:Nat->Prop)(h:qm)(D:Dk)(V:zP)(last:Int):Prop where
 or_:(∃(mb:Nat) (key:ByteArray) (mark:Bool) (body:List UInt8) (a:Option Addr) (num:Int) (c:Nat),h.mb=yp mb/\h.k0=.string key/\h.k1=.int .i64 num/\h.k2=.bool mark/\h.k3=.slice a body.length c/\key≠ByteArray.empty/\zu w R a body/\M.Could D (λU=>U=V\/U=V.add key mark body)/\V.n0+1<=h.told+h.died)\/ ∃(mb:Nat) (us:List zw) (num:Int) (mark:Bool) (a:Option Addr) (n c:Nat),h.mb=yp mb/\h.k0=.string ByteArray.empty/\h.k1=.int .i64 num/\h.k2=.bool mark/\h.k3=.slice a n c/\qo w R R mb us last/\us.length+1=V.vs.length/\(∀v∈us,v∈V.vs)/\M.Could D (λU=>U=V\/U=⟨us,V.n0⟩)
theorem kH.put(mb:Nat)(d:ByteArray)(b:Bool)(body:List UInt8)(a:Option Addr)(f:Int)(c:Nat)(g:h.mb=yp mb)(l:h.k0=.string d)(k:h.k1=.int .i64 f)(j:h.k2=.bool b)(m:h.k3=.slice a body.length c)(i:d≠ByteArray.empty)(n:zu w R a body)(e:M.Could D (λp=>p=V\/p=V.add d b body))(o:V.n0+1<=h.told+h.died):kH M w R h D V last:=⟨.inl ⟨mb,d,b,body,a,f,c,g,l,k,j,m,i,n,e,o⟩⟩
theorem kH.erase(mb:Nat)(us:List zw)(e:Int)(b:Bool)(a:Option Addr)(n c:Nat)(f:h.mb=yp mb)(l:h.k0=.string ByteArray.empty)(j:h.k1=.int .i64 e)(g:h.k2=.bool b)(m:h.k3=.slice a n c)(i:qo w R R mb us last)(o:us.length+1=V.vs.length)(k:∀v∈us,v∈V.vs)(d:M.Could D (λp=>p=V\/p=⟨us,V.n0⟩)):kH M w R h D V last:=⟨.inr ⟨mb,us,e,b,a,n,c,f,l,j,g,m,i,o,k,d⟩⟩
theorem kH.elim{motive:kH M w R h D V last->Prop}(put:∀mb key mark body a num c hm h0 h1 h2 h3 hk hb could hn,motive (.put mb key mark body a num c hm h0 h1 h2 h3 hk hb could hn))(erase:∀mb us num mark a n c hm h0 h1 h2 h3 hr hu hs could,motive (.erase mb us num mark a n c hm h0 h1 h2 h3 hr hu hs could))(t:kH M w R h D V last):motive t:=by
 rcases t with⟨⟨_,_,_,_,_,_,_,hm,h0,h1,h2,h3,hk,hb,could,hn⟩|⟨_,_,_,_,_,_,_,hm,h0,h1,h2,h3,hr,hu,hs,could⟩⟩;.exact put _ _ _ _ _ _ _ hm h0 h1 h2 h3 hk hb could hn
 .exact erase _ _ _ _ _ _ _ hm h0 h1 h2 h3 hr hu hs could
structure yj(M:za)(w:World)(X S R:Nat->Prop)(bo bd:Nat)(h:qm)(D:Dk)(V:zP)(last:Int):Prop where
 or_:(∃bs,h.s=yp bs/\X bs/\¬S bs/\¬R bs/\bs≠bo/\M.Sto w bs (some bd)/\h.shut=false/\h.mb=.pointer none/\M.Live D V)\/ (∃bs,h.s=yp bs/\X bs/\¬S bs/\¬R bs/\bs≠bo/\M.Sto w bs none/\h.shut=true/\kH M w R h D V last)\/ h.s=.pointer none/\((h.mb=.pointer none/\M.Could D (λU=>U=V))\/kH M w R h D V last)
theorem yj.live(bs:Nat)(f:h.s=yp bs)(g:X bs)(d:¬S bs)(e:¬R bs)(c:bs≠bo)(b:M.Sto w bs (some bd))(shut:h.shut=false)(mb:h.mb=.pointer none)(a:M.Live D V):yj M w X S R bo bd h D V last:=⟨.inl ⟨bs,f,g,d,e,c,b,shut,mb,a⟩⟩
theorem yj.shut(bs:Nat)(f:h.s=yp bs)(g:X bs)(d:¬S bs)(e:¬R bs)(c:bs≠bo)(b:M.Sto w bs none)(shut:h.shut=true)(a:kH M w R h D V last):yj M w X S R bo bd h D V last:=⟨.inr (.inl ⟨bs,f,g,d,e,c,b,shut,a⟩)⟩
theorem yj.gone(b:h.s=.pointer none)(a:(h.mb=.pointer none/\M.Could D (λc=>c=V))\/kH M w R h D V last):yj M w X S R bo bd h D V last:=⟨.inr (.inr ⟨b,a⟩)⟩
theorem yj.elim{motive:yj M w X S R bo bd h D V last->Prop}(live:∀bs hs hX hS hR ho sto shut mb live,motive (.live bs hs hX hS hR ho sto shut mb live))(shut:∀bs hs hX hS hR ho sto shut torn,motive (.shut bs hs hX hS hR ho sto shut torn))(gone:∀hs torn,motive (.gone hs torn))(t:yj M w X S R bo bd h D V last):motive t:=by
 rcases t with⟨⟨_,hs,hX,hS,hR,ho,sto,sh,mb,lv⟩|⟨_,hs,hX,hS,hR,ho,sto,sh,torn⟩|⟨hs,torn⟩⟩;.exact live _ hs hX hS hR ho sto sh mb lv
 .exact shut _ hs hX hS hR ho sto sh torn
 .exact gone hs torn
structure yY (M:za) (w:World) (X:Nat->Prop) (bo t:Nat) (h:qm) (bd:Nat) (D:Dk) (S R:Nat->Prop) (ib:Nat) (V:zP) (last:Int):Prop where
 head:zE w bo h
 hd:h.d=yp bd
 his:h.is=yp ib
 disk:ze w bd S D
 ref:qo w R R ib V.vs last
 sX:∀k,S k->X k
 rX:∀k,R k->X k/\¬S k/\k≠bo
 bX:X bo
 bS:¬S bo
 xlt:∀k,X k->k<w.heap.size
 last0:last<=V.n0
 lastv:∀v∈V.vs,v.num<=last
 told0:0<=h.told
 died0:0<=h.died
 n0t:V.n0<=h.told+h.died
 tt:h.told+h.died<=t
 reads0:0<=D.reads
 reads1:D.reads<=4000000+2000*t
 fu:M.Fu D.fuse
 good:Good V
 big:64<=D.bs.length
 st:yj M w X S R bo bd h D V last
def One(M:za)(w:World)(X:Nat->Prop)(bo t:Nat):Prop:=∃h bd D S R ib V last,yY M w X bo t h bd D S R ib V last
theorem kH.kept(x:kH M w R h D V last)(k:Kept T w w')(l:∀i,R i->¬T i):kH M w' R h D V last:=by
 cases x using kH.elim with
 |put mb p d body a e c m g o f j v s b q=>exact .put mb p d body a e c m g o f j v (s.kept k l) b q
 |erase mb us e d a n c m g o f j r t u b=>exact .erase mb us e d a n c m g o f j (r.kept k l l) t u b
theorem yj.kept(n:yj M w X S R bo bd h D V last)(k:Kept T w w')(f:∀i,X i->¬T i)(m:∀i,R i->X i):yj M w' X S R bo bd h D V last:=by
 cases n using yj.elim with
 |live bs b c l e g d shut mb live=>exact .live bs b c l e g (M.sto_kept _ _ _ _ _ d k (f _ c)) shut mb live
 |shut bs b c l e g d shut a=>exact .shut bs b c l e g (M.sto_kept _ _ _ _ _ d k (f _ c)) shut (a.kept k (λi j=>f i (m i j)))
 |gone b a=>exact .gone b (a.imp id (λh=>h.kept k (λi j=>f i (m i j))))
theorem yY.kept{d:Nat}(c:yY M w X bo t h bd D S R d V last)(k:Kept T w w')(b:∀i,X i->¬T i):yY M w' X bo t h bd D S R d V last:=
 {c with head:=c.head.kept k (b _ c.bX),disk:=c.disk.kept k (λi a=>b i (c.sX i a)),ref:=c.ref.kept k (λi a=>b i (c.rX i a).1) (λi a=>b i (c.rX i a).1),xlt:=λi a=>au (c.xlt i a) k.size,st:=c.st.kept k b (λi a=>(c.rX i a).1)}
theorem One.kept(b:One M w X bo t)(k:Kept T w w')(c:∀i,X i->¬T i):One M w' X bo t:=by
 obtain⟨h,bd,D,S,R,a,V,last,b⟩:=b;exact⟨h,bd,D,S,R,a,V,last,b.kept k c⟩
theorem One.later{a:Nat}(b:One M w X bo t)(d:t<=a):One M w X bo a:=by
 obtain⟨h,bd,D,S,R,c,V,last,b⟩:=b;exact⟨h,bd,D,S,R,c,V,last,{b with tt:=lU b.tt (by omega),reads1:=lU b.reads1 (by omega) }⟩
structure Stepped (M:za) (w w':World) (X:Nat->Prop) (bo t:Nat) (e:Ending):Prop where
 ret:e=.returned (.bool true)
 one:∃X',One M w' X' bo (t+1)/\∀k,X' k->X k\/w.heap.size<=k
 kept:Kept X w w'
end law
namespace law
open Go.RowKit disk ref book
structure qY(h:qm)(D:Dk)(vs:List zw)(c want:Int)(weight:Nat)(next:Value)(nlast:Int)(kk:ByteArray)(kn:Int)(km:Bool)(ka:Option Addr)(kl kc:Nat)(h':qm):Prop where
 or_:(h'=h/\h.shut=true/\(want=0\/want=5)/\c=8)\/(h'=h/\(h.shut=false\/want≠5)/\want≠0/\c=want)\/(h'=h/\h.shut=false/\want=0/\c=6/\xP vs weight D.bs.length=false)\/ (h'=h.okd next weight nlast/\h.shut=false/\want=0/\c=0)\/h'={h with shut:=true,mb:=next,k0:=.string kk,k1:=.int .i64 kn,k2:=.bool km,k3:=.slice ka kl kc,died:=h.died+1}/\h.shut=false/\want=0/\c=7/\D.fuse=0
section
variable {h:qm} {D:Dk} {vs:List zw} {c wa:Int} {weight:Nat} {next:Value} {nlast:Int} {kk:ByteArray} {kn:Int} {km:Bool} {ka:Option Addr} {kl kc:Nat}
theorem qY.shut(a:h.shut=true)(b:wa=0\/wa=5)(d:c=8):qY h D vs c wa weight next nlast kk kn km ka kl kc h:=⟨.inl ⟨rfl,a,b,d⟩⟩
theorem qY.wanted(a:h.shut=false\/wa≠5)(b:wa≠0)(d:c=wa):qY h D vs c wa weight next nlast kk kn km ka kl kc h:=⟨.inr (.inl ⟨rfl,a,b,d⟩)⟩
theorem qY.space(a:h.shut=false)(b:wa=0)(d:c=6)(e:xP vs weight D.bs.length=false):qY h D vs c wa weight next nlast kk kn km ka kl kc h:=⟨.inr (.inr (.inl ⟨rfl,a,b,d,e⟩))⟩
theorem qY.ok(a:h.shut=false)(b:wa=0)(d:c=0):qY h D vs c wa weight next nlast kk kn km ka kl kc (h.okd next weight nlast):=⟨.inr (.inr (.inr (.inl ⟨rfl,a,b,d⟩)))⟩
theorem qY.dead(d:h.shut=false)(a:wa=0)(e:c=7)(b:D.fuse=0):qY h D vs c wa weight next nlast kk kn km ka kl kc {h with shut:=true,mb:=next,k0:=.string kk,k1:=.int .i64 kn,k2:=.bool km,k3:=.slice ka kl kc,died:=h.died+1}:=⟨.inr (.inr (.inr (.inr ⟨rfl,d,a,e,b⟩)))⟩
theorem qY.elim{motive:(x:qm)->qY h D vs c wa weight next nlast kk kn km ka kl kc x->Prop}(shut:∀hs hw hc,motive _ (.shut hs hw hc))(wanted:∀hs hw hc,motive _ (.wanted hs hw hc))(space:∀hs hw hc hf,motive _ (.space hs hw hc hf))(ok:∀hs hw hc,motive _ (.ok hs hw hc))(dead:∀hs hw hc hf,motive _ (.dead hs hw hc hf)){h':qm}(t:qY h D vs c wa weight next nlast kk kn km ka kl kc h'):motive h' t:=by
 rcases t with⟨⟨rfl,a,b,d⟩|⟨rfl,a,b,d⟩|⟨rfl,a,b,d,e⟩|⟨rfl,a,b,d⟩|⟨rfl,a,b,d,e⟩⟩;.exact shut a b d
 .exact wanted a b d
 .exact space a b d e
 .exact ok a b d
 .exact dead a b d e
end
theorem jI(w:World)(bo:Nat)(h:qm)(B:zE w bo h)(bd:Nat)(t:h.d=.pointer (some ⟨bd,0,none⟩))(S:Nat->Prop)(D:Dk)(p:ze w bd S D)(q:Nat)(r:h.is=.pointer (some ⟨q,0,none⟩))(F C:Nat->Prop)(vs:List zw)(last:Int)(x:qo w F C q vs last)(L:vs.length<=6000)(J:∀v∈vs,v.body.length<=300)
 (c want weight:Int) (d:0<=weight) (m:weight<=1125899906842624) (s:Nat) (kk:ByteArray) (kn:Int) (km:Bool) (ka:Option Addr) (kl kc:Nat) (F' G':Nat->Prop) (us:List zw) (nlast:Int) (M:qo w F' G' s us nlast) (H:s≠bo) (z:¬S bo) (I:0<=h.died) (G:h.died<=1152921504606846976)
 (E:qm) (b:qY h D vs c want weight.toNat (.pointer (some ⟨s,0,none⟩)) nlast kk kn km ka kl kc E):
 Calls Tryz.prog 97 #[.pointer (some ⟨bo,0,none⟩),.int .i64 c,.int .i64 want,.int .i64 weight,.pointer (some ⟨s,0,none⟩),.agg #[.string kk,.int .i64 kn,.bool km,.slice ka kl kc]] w λe w'=>
  e=.returned (.bool true)/\zE w' bo E/\(∃S',ze w' bd S' D/\∀k,S' k->S k)/\Kept (λk=>k=bo\/S k) w w':=by
 have a:vs.length<=4398046511104:=by omega
 have n:∀v∈vs,v.body.length<=1000:=λv N=>by have:=J v N;omega
 have o:∀w',Kept (λ_=>False) w w'->zE w' bo h/\(∃S',ze w' bd S' D/\∀k,S' k->S k)/\Kept (λk=>k=bo\/S k) w w':=λw' k=>
  ⟨B.kept k (λu=>u),⟨S,p.kept k nF,λ_ A=>A⟩,k.mono fE⟩
 cases b using qY.elim with
 |shut l j b=>
  refine(Q9 w bo h B bd t S D p q r F C vs last x a n c want weight d m _ kk kn km ka kl kc l j).mono λe w' ⟨g,f⟩=>⟨?_,o w' f⟩;rw [g,b];rfl
 |wanted l j b=>
  refine(Ya w bo h B bd t S D p q r F C vs last x a n c want weight d m _ kk kn km ka kl kc l j).mono λe w' ⟨g,f⟩=>⟨?_,o w' f⟩;rw [g,b];simp
 |space l j b u=>
  refine(Z2 w bo h B bd t S D p q r F C vs last x a n c want weight d m _ kk kn km ka kl kc l j b).mono λe w' ⟨g,f⟩=>⟨?_,o w' f⟩;rw [g,u];rfl
 |ok l j b=>
  refine(J5 w bo h B bd t S D p q r F C vs last x a n c want weight d m _ kk kn km ka kl kc l j b s rfl F' G' us nlast M H).mono λe w' ⟨g,f,y⟩=>⟨g,?_,⟨S,p.kept y (λi r e=>z (by rw [<-e];exact r)),λ_ A=>A⟩,y.mono iL⟩;rw [mH d];exact f
 |dead l j b u=>
  exact(Yb w bo h B bd t S D p q r F C vs last x a n c want weight d m _ kk kn km ka kl kc l j b s rfl u z ⟨I,G⟩).mono λe w' ⟨g,f,y,K⟩=>⟨g,f,y,K⟩
end law
namespace law
open Go.RowKit disk ref book
open keys (zh)
variable {w w':World}{B bc bs bd weight:Nat}{la ba:Option Addr}{l:List UInt8}{M:za}{h:qm}{D D':Dk}{V V':zP}{want c:Int}
structure yC where
 kind:Int
 A:Int
 B:Int
 C:Int
 S:ByteArray
 P:ByteArray
 la:Option Addr
 l:List UInt8
 lc:Nat
 ka:Option Addr
 ks:List Bool
 kc:Nat
def yC.cells(o:yC):List Value:=[.int .i64 o.kind,.int .i64 o.A,.int .i64 o.B,.int .i64 o.C,.string o.S,.string o.P,.slice o.la o.l.length o.lc,.slice o.ka o.ks.length o.kc]
structure yC.Ok (w:World) (Q:Nat->Prop) (o:yC):Prop where
 kind:zs o.kind
 A:zs o.A
 B:zs o.B
 C:zs o.C
 S:o.S.size<=maxLen
 P:o.P.size<=maxLen
 l:zu w Q o.la o.l
 len:o.l.length<=140737488355326
 klen:o.ks.length<=140737488355326
 ks:∀j,j<o.ks.length->∃kb ko,o.ka=some ⟨kb,ko,none⟩/\Q kb/\kb<w.heap.size/\w.cell? ⟨kb,ko+j,none⟩=some (.bool (o.ks.getD j false))
theorem yC.Ok.kept{Q T:Nat->Prop}{n:yC}(h:n.Ok w Q)(k:Kept T w w')(f:∀i,Q i->¬T i):n.Ok w' Q:=
 ⟨h.kind,h.A,h.B,h.C,h.S,h.P,h.l.kept k f,h.len,h.klen,λj g=>by
  obtain⟨b,d,m,c,e,l⟩:=h.ks j g
  exact⟨b,d,m,c,au e k.size,(k.cell (a:=⟨b,d+j,none⟩) e (f b c)).trans l⟩⟩
def jS(w:World)(B:Nat)(la:Option Addr)(l:List UInt8)(ba:Option Addr)(bc:Nat):Prop:=
 (la=none/\l=[]/\ba=none/\bc=0)\/∃ad g,la=some ad/\ba=some ⟨g,0,none⟩/\B<=g/\vf w g l.length bc l
theorem jS.kept{T:Nat->Prop}(h:jS w B la l ba bc)(k:Kept T w w')(e:∀g,(Value.slice ba l.length bc).ownBlock=some g->¬T g):jS w' B la l ba bc:=by
 rcases h with h|⟨f,g,c,a,d,b⟩;.exact .inl h
 .exact .inr ⟨f,g,c,a,d,b.kept k (e g (by rw [a];rfl))⟩
theorem jS.bytes(h:jS w B la l ba bc):zu w (λk=>B<=k) ba l:=by
 rcases h with⟨_,rfl,_⟩|⟨d,g,c,rfl,b,a⟩;.exact .inl rfl
 .exact a.bytes _ b
theorem jS.cap(h:jS w B la l ba bc):l.length<=bc/\bc<=9223372036854775807:=by
 rcases h with⟨_,rfl,_,rfl⟩|⟨n,g,i,rfl,m,a⟩;.simp
 .obtain⟨k,c,j,d,b,f,e⟩:=a;unfold maxLen at b;omega
theorem Un{P:Nat->Prop}(h:zu w P none l):l=[]:=by
 rcases h with h|⟨b,c,a,_⟩;.exact h
 .cases a
theorem G5(w:World)(P:Nat->Prop)(la:Option Addr)(cap:Nat)(l:List UInt8)(c:zu w P la l)(f:l.length<=140737488355326):
 Calls Tryz.prog 91 #[.slice la l.length cap] w λe w'=>∃ba bc,e=.returned (.slice ba l.length bc)/\jS w' w.heap.size la l ba bc/\Kept (λ_=>False) w w':=by
 cases la with
 |none=>
  have:=Un c;subst this;exact(GG w _ cap).mono λe w' ⟨b,a⟩=>⟨none,0,b,.inl ⟨rfl,rfl,rfl,rfl⟩,by rw [a];exact Kept.refl _ _⟩
 |some d=>exact(GF w P d cap l c f).mono λe w' ⟨g,h,b,a,i,j⟩=>⟨_,h,b,.inr ⟨d,g,rfl,rfl,j,a⟩,i⟩
theorem Yo(w:World)(P:Nat->Prop)(B:Nat)(la:Option Addr)(cap:Nat)(l:List UInt8)(d:zu w P la l)(c:l.length<=140737488355326)(ba:Option Addr)(bc:Nat)(h:jS w B la l ba bc)(i:∀k,P k->k<B):
 Calls Tryz.prog 92 #[.slice ba l.length bc,.slice la l.length cap] w λe w'=>e=.returned (.bool true)/\Kept (λk=>(Value.slice ba l.length bc).ownBlock=some k) w w':=by
 rcases h with⟨rfl,rfl,rfl,rfl⟩|⟨n,g,rfl,rfl,o,j⟩;.exact(Q6 w _ cap).mono λe w' ⟨b,a⟩=>⟨b,by rw [a];exact Kept.refl _ _⟩
 .exact(Q7 w P n cap l d c g bc j (λm=>by have:=i g m;omega)).mono λe w' ⟨b,a⟩=>⟨b,a.mono (λk f=>by rw [f];rfl)⟩
structure xw(M:za)(w':World)(bs bd:Nat)(h:qm)(D D':Dk)(V V':zP)(want c:Int)(weight:Nat):Prop where
 or_:(h.shut=true/\M.Sto w' bs none/\c=yH true want/\D'={D with reads:=D'.reads })\/∃q,h.shut=false/\M.Sto w' bs q/\Chg M D D' V V' bd want c weight q
theorem xw.shut(b:h.shut=true)(a:M.Sto w' bs none)(d:c=yH true want)(e:D'={D with reads:=D'.reads }):xw M w' bs bd h D D' V V' want c weight:=⟨.inl ⟨b,a,d,e⟩⟩
theorem xw.live(q:Option Nat)(d:h.shut=false)(a:M.Sto w' bs q)(b:Chg M D D' V V' bd want c weight q):xw M w' bs bd h D D' V V' want c weight:=⟨.inr ⟨q,d,a,b⟩⟩
theorem xw.elim{motive:xw M w' bs bd h D D' V V' want c weight->Prop}(shut:∀hs sto hc hD,motive (.shut hs sto hc hD))(live:∀q hs sto chg,motive (.live q hs sto chg))(t:xw M w' bs bd h D D' V V' want c weight):motive t:=by
 rcases t with⟨⟨a,b,d,e⟩|⟨q,a,b,d⟩⟩;.exact shut a b d e
 .exact live q a b d
structure xx (M:za) (w w':World) (bd bs:Nat) (S S':Nat->Prop) (D D':Dk) (most:Int:=40):Prop where
 disk:ze w' bd S' D'
 foot:∀k,S' k->S k\/w.heap.size<=k
 kept:Kept (λk=>S k\/k=bs) w w'
 reads0:D.reads<=D'.reads
 reads1:D'.reads<=D.reads+most
 size:D'.bs.length=D.bs.length
 fuse:M.Fu D'.fuse
theorem xw.case(n:xw M w' bs bd h D D' V V' want c weight)(j:D'.bs.length=D.bs.length)(next:Value)(nlast:Int)(kk:ByteArray)(kn:Int)(km:Bool)(ka:Option Addr)(kl kc:Nat):
 ∃k,qY h D' V.vs c want weight next nlast kk kn km ka kl kc k:=by
 cases n using xw.elim with
 |shut d f i o=>
  by_cases e:want=0\/want=5;.exact⟨_,.shut d e (by rw [i];show (if want=0\/want=5 then (8:Int) else want)=8;rw [aB e])⟩
  .exact⟨_,.wanted (.inr (λh=>e (.inr h))) (λh=>e (.inl h)) (by rw [i];show (if want=0\/want=5 then (8:Int) else want)=want;rw [az e])⟩
 |live q d f g=>
  rcases g.is with⟨b,a,_⟩|⟨b,a,_⟩|⟨b,a,_,_,m⟩|⟨b,a,_,l,_⟩;.exact⟨_,.wanted (.inl d) b a⟩
  .exact⟨_,.ok d b a⟩
  .exact⟨_,.space d b a (by rw [j];exact m)⟩
  .exact⟨_,.dead d b a l⟩
theorem Bi(M:za)(A:qx M)(w:World)(X:Nat->Prop)(bo t:Nat)(h:qm)(bd:Nat)(D:Dk)(S R:Nat->Prop)(I:Nat)(V:zP)(last:Int)(r:yY M w X bo t h bd D S R I V last)(N:t<=4398046511104)(bs:Nat)(hbs:h.s=yp bs)
 (b:ByteArray) (f:b.size<=maxLen) (a:Option Addr) (cap:Nat) (l:List UInt8) (P:Nat->Prop) (G:zu w P a l) (F:∀k,P k->¬X k) (C:l.length<=140737488355328) (B:l.length<=cap) (E:cap<=9223372036854775807):
 Calls Tryz.prog 27 #[.pointer (some ⟨bs,0,none⟩),.string b,.slice a l.length cap] w λe w'=>∃D' S' c n,e=.returned (.tuple #[.int .i64 n,.int .i64 c])/\xx M w w' bd bs S S' D D'/\
  xw M w' bs bd h D D' V (V.add b false l) (ue (zh b.data.toList) l.length) c (qd l.length)/\n=(if c=0 then V.n0+1 else 0)/\X bs/\¬S bs/\¬R bs/\bs≠bo:=by
 have L:=r.n0t;have K:=r.tt
 cases r.st using yj.elim with
 |live j g s o z x m shut mb live=>
  have e:j=bs:=by rw [g] at hbs;unfold yp at hbs;simpa using hbs
  subst e;refine(A.live w bd j S P D V b a cap l ⟨r.disk,o,m,live,r.fu,r.reads0,by have:=r.reads1;omega,by omega⟩ f G (λk f=>⟨λp=>F k f (r.sX k p),λp=>F k f (by rw [p];exact s)⟩) C B E).mono ?_;rintro e w' ⟨D',S',c,n,q,v,d,u,H⟩;exact⟨D',S',c,n,v,⟨d.disk,d.foot,d.kept,d.reads0,d.reads1,d.size,d.fuse⟩,.live q shut d.sto u,H,s,o,z,x⟩
 |shut j g s o z x m shut y=>
  have e:j=bs:=by rw [g] at hbs;unfold yp at hbs;simpa using hbs
  subst e;refine(A.shut w j b a l.length cap m f C).mono ?_;rintro e w' ⟨v,d,u⟩;refine⟨D,S,_,0,v,⟨r.disk.kept u (λi J p=>o (by rw [<-p];exact J)),λk f=>.inl f,u.mono (λk f=>.inr f),by omega,by omega,rfl,r.fu⟩,.shut shut d rfl rfl,?_,s,o,z,x⟩;rw [az];unfold ue yH;cases zh b.data.toList;.simp
  .simp only;split<;>simp
 |gone g y=>rw [g] at hbs;cases hbs
theorem za.Could.reads{a:Dk}{P:zP->Prop}(h:M.Could D P)(e:a={D with reads:=a.reads }):M.Could a P:=by
 rw [e];exact⟨h.few,h.big,h.all⟩
theorem kH.reads{R:Nat->Prop}{g:Dk}{last:Int}(v:kH M w R h D V last)(e:g={D with reads:=g.reads }):kH M w R h g V last:=by
 cases v using kH.elim with
 |put mb o d body a f c l j m i k u r b p=>exact .put mb o d body a f c l j m i k u r (b.reads e) p
 |erase mb us f d a n c l j m i k q s t b=>exact .erase mb us f d a n c l j m i k q s t (b.reads e)
theorem kH.mono{R q:Nat->Prop}{last:Int}(x:kH M w R h D V last)(l:∀i,R i->i<w.heap.size->q i):kH M w q h D V last:=by
 cases x using kH.elim with
 |put mb p d body a e c m g j f k t s b r=>exact .put mb p d body a e c m g j f k t (s.mono l) b r
 |erase mb us e d a n c m g j f k u v o b=>exact .erase mb us e d a n c m g j f k (u.mono l l) v o b
theorem vN:zh ByteArray.empty.data.toList=false:=rfl
theorem fG(M:za)(w aQ K ar m:World)(X:Nat->Prop)(bo t:Nat)(h:qm)(bd:Nat)(D L:Dk)(S F R:Nat->Prop)(aU:Nat)(V:zP)(last:Int)(a:yY M w X bo t h bd D S R aU V last)(bs:Nat)(hbs:h.s=yp bs)
 (aW:Kept (λ_=>False) w aQ) (bq:w.heap.size<aQ.heap.size) (g:xx M aQ K bd bs S F D L) (i:X bs/\¬S bs/\¬R bs/\bs≠bo) (o:ByteArray) (j:Bool) (l:List UInt8) (want c:Int) (aC:want=0->o≠ByteArray.empty) (weight:Nat) (bv:0<weight)
 (aP:xw M K bs bd h D L V (V.add o j l) want c weight) (n:Int) (a7:n=if c=0 then V.n0+1 else 0) (T:Nat->Prop) (P:Kept T K ar) (aR:∀k,T k->w.heap.size<k/\¬F k) (B:Kept (λk=>k=bo\/F k) ar m)
 (ah:Nat) (aE:Option Addr) (aO:Nat) (I:qm) (ax:zE m bo I) (a6:∃C,ze m bd C L/\∀k,C k->F k) (Y:qY h L V.vs c want weight (yp ah) (max last n) o 0 j aE l.length aO I)
 (a8 a0:Nat->Prop) (a5:qo ar a8 a0 ah (V.vs++[⟨o,n,j,l⟩]) (max last n)) (aX:∀k,a8 k->K.heap.size<=k) (a3:∀k,a0 k->R k\/K.heap.size<=k) (a4:zu ar (λk=>K.heap.size<=k) aE l):
 (∃aY,One M m aY bo (t+1)/\∀k,aY k->X k\/w.heap.size<=k)/\Kept X w m:=by
 have az:=a.xlt;have bu:=az bo a.bX;have bn:=az bs i.1;have am:∀k,F k->k<K.heap.size:=λk b=>g.disk.lt k b;have N:=g.foot;have bm:=g.kept.size;have bh:=P.size;have bc:=B.size
 have aN:¬F bo:=λd=>by
  rcases N bo d with f|f;.exact a.bS f
  .omega
 have ap:¬F bs:=λd=>by
  rcases N bs d with f|f;.exact i.2.1 f
  .omega
 have al:∀k,R k->k<w.heap.size:=λk b=>az k (a.rX k b).1
 have aV:∀k,R k->¬F k:=λk b d=>by
  have f:=al k b;rcases N k d with E|E;.exact(a.rX k b).2.1 E
  .omega
 obtain⟨C,y,ag⟩:=a6
 have a1:=(((aW.mono fE).trans g.kept (λk b=>b.elim (λf=>.inl (a.sX k f)) (λf=>.inl (by rw [f];exact i.1)))).trans P (λk b=>.inr (by have:=(aR k b).1;omega))).trans B (λk b=>by
  rcases b with rfl|b;.exact .inl a.bX
  .rcases N k b with f|f;.exact .inl (a.sX k f)
   .exact .inr (by omega))
 refine⟨⟨λk=>X k\/(w.heap.size<=k/\k<m.heap.size),?_,λk b=>b.imp id (λh=>h.1)⟩,a1⟩
 have an:∀k,R k->¬(S k\/k=bs):=λk b d=>by
  rcases d with d|d;.exact(a.rX k b).2.1 d
  .exact i.2.2.1 (by rw [<-d];exact b)
 have Z:∀k,R k->¬T k:=λk b d=>by have:=(aR k d).1;have:=al k b;omega
 have J:∀k,R k->¬(k=bo\/F k):=λk b d=>d.elim (a.rX k b).2.2 (aV k b);let R':Nat->Prop:=λk=>R k\/(K.heap.size<=k/\k<ar.heap.size);have au:∀k,R k->k<m.heap.size->R' k:=λk b _=>.inl b;have aj:=((((a.ref.kept aW nF nF).kept g.kept an an).kept P Z Z).kept B J J).mono au au
 have r:∀k,R' k->¬(k=bo\/F k):=λk b d=>by
  rcases b with b|b;.exact J k b d
  .rcases d with d|d;.omega
   .have:=am k d;omega
 have aF:=(a5.mono (F':=R') (G':=R') (λk b U=>.inr ⟨aX k b,U⟩) (λk b U=>(a3 k b).imp id (λh=>⟨h,U⟩))).kept B r r;have aA:=(a4.mono (Q:=R') (λk b U=>.inr ⟨b,U⟩)).kept B r
 have aq:∀k,R' k->(X k\/(w.heap.size<=k/\k<m.heap.size))/\¬C k/\k≠bo:=λk b=>by
  refine⟨?_,λd=>r k b (.inr (ag k d)),λd=>r k b (.inl d)⟩;rcases b with b|b;.exact .inl (a.rX k b).1
  .exact .inr ⟨by omega,by omega⟩
 have p:¬R' bs:=λd=>by
  rcases d with d|d;.exact i.2.2.1 d
  .omega
 have A:∀q,M.Sto K bs q->M.Sto m bs q:=λq bi=>M.sto_kept _ _ _ _ _ (M.sto_kept _ _ _ _ _ bi P (λd=>by have:=(aR bs d).1;omega)) B (λd=>d.elim i.2.2.2 ap)
 have ay:∀k,C k->X k\/(w.heap.size<=k/\k<m.heap.size):=λk b=>by
  have f:=ag k b;rcases N k f with E|E;.exact .inl (a.sX k E)
  .exact .inr ⟨by omega,by have:=am k f;omega⟩
 have ac:∀k,(X k\/(w.heap.size<=k/\k<m.heap.size))->k<m.heap.size:=λk b=>by
  rcases b with b|b;.have:=az k b;omega
  .exact b.2
 have ai:¬C bo:=λd=>aN (ag bo d);have x:¬C bs:=λd=>ap (ag bs d);have bt:=a.tt;have bp:=a.reads0;have br:=a.reads1;have bk:=g.reads0;have be:=g.reads1;have aG:=a.last0;have aS:=a.n0t;have af:=a.told0;have aD:=a.died0;have a9:=g.size;have bl:=a.big;have bb:=a.good.n0;have ao:=a.hd;have aJ:=a.his
 have ad:I=h->yj M m (λk=>X k\/(w.heap.size<=k/\k<m.heap.size)) C R' bo bd h L V last->One M m (λk=>X k\/(w.heap.size<=k/\k<m.heap.size)) bo (t+1):=λe st=>by subst e;exact⟨I,bd,L,C,R',aU,V,last,ax,ao,aJ,y,aj,ay,aq,.inl a.bX,ai,ac,aG,a.lastv,af,aD,aS,by omega,by omega,by omega,g.fuse,a.good,by omega,st⟩
 cases aP using xw.elim with
 |shut s H d ba=>
  have e:I=h:=by
   cases Y using qY.elim with
   |shut=>rfl
   |wanted=>rfl
   |space f=>simp [s] at f
   |ok f=>rw [s] at f;cases f
   |dead f=>rw [s] at f;cases f
  refine ad e ?_
  cases a.st using yj.elim with
  |live _ _ _ _ _ _ _ shut=>rw [s] at shut;cases shut
  |gone G=>rw [G] at hbs;cases hbs
  |shut aI G aK aL aH aM ak u aT=>
   exact .shut bs hbs (.inl i.1) x p i.2.2.2 (A _ H) s ((((((aT.kept aW nF).kept g.kept an).kept P Z).kept B J).mono au).reads ba)
 |live q s H aZ=>
  have a2:=a.st
  have aw:h.mb=.pointer none:=by
   cases a2 using yj.elim with
   |live aI G aK aL aH aM ak u mb=>exact mb
   |gone G=>rw [G] at hbs;cases hbs
   |shut aI G aK aL aH aM ak u=>rw [s] at u;cases u
  rcases aZ.is with⟨f,E,ab,aa⟩|⟨f,E,ab,aa⟩|⟨f,E,ab,aa,_⟩|⟨f,E,ab,aa,bj⟩
  .subst ab
   have e:I=h:=by
    cases Y using qY.elim with
    |shut=>rfl
    |wanted=>rfl
    |space=>rfl
    |ok _ z=>exact absurd z f
    |dead _ z=>exact absurd z f
   exact ad e (.live bs hbs (.inl i.1) x p i.2.2.2 (A _ H) s aw aa)
  .subst ab
   have e:I={h with is:=yp ah,died:=0,told:=max last n}:=by
    cases Y using qY.elim with
    |shut O=>rw [s] at O;cases O
    |wanted _ z=>exact absurd f z
    |space _ _ W=>omega
    |ok=>unfold qm.okd;rw [aB (by omega)]
    |dead _ _ W=>omega
   rw [aB E] at a7;have av:max last n=V.n0+1:=by omega
   have bg:(V.add o j l).vs=V.vs++[⟨o,n,j,l⟩]:=by rw [a7];rfl
   have ae:=aa.good;subst e;refine⟨_,bd,L,C,R',ah,V.add o j l,max last n,ax,ao,rfl,y,by rw [bg];exact aF,ay,aq,.inl a.bX,ai,ac,?_,λv bf=>?_,?_,?_,?_,?_,by omega,by omega,g.fuse,ae,by omega,.live bs hbs (.inl i.1) x p i.2.2.2 (A _ H) s aw aa⟩;.rw [av];exact eD _
   .have:=(ae.num v bf).2;rw [av];exact this
   .show 0<=max last n;omega
   .show (0:Int)<=0;omega
   .show V.n0+1<=max last n+0;omega
   .show max last n+0<=((t+1:Nat):Int);omega
  .subst ab
   have e:I=h:=by
    cases Y using qY.elim with
    |shut=>rfl
    |wanted=>rfl
    |space=>rfl
    |ok _ _ W=>omega
    |dead _ _ W=>omega
   exact ad e (.live bs hbs (.inl i.1) x p i.2.2.2 (A _ H) s aw aa)
  .subst ab
   have e:I={h with shut:=true,mb:=yp ah,k0:=.string o,k1:=.int .i64 0,k2:=.bool j,k3:=.slice aE l.length aO,died:=h.died+1}:=by
    cases Y using qY.elim with
    |shut O=>rw [s] at O;cases O
    |wanted _ z=>exact absurd f z
    |space _ _ W=>omega
    |ok _ _ W=>omega
    |dead=>rfl
   subst e
   refine⟨_,bd,L,C,R',aU,V,last,ax,ao,aJ,y,aj,ay,aq,.inl a.bX,ai,ac,aG,a.lastv,af,?_,?_,?_,by omega,by omega,g.fuse,a.good,by omega,
    .shut bs hbs (.inl i.1) x p i.2.2.2 (A _ H) rfl (.put ah o j l aE 0 aO rfl rfl rfl rfl rfl (aC f) aA bj ?_)⟩
   .show 0<=h.died+1;omega
   .show V.n0<=h.told+(h.died+1);omega
   .show h.told+(h.died+1)<=((t+1:Nat):Int);omega
   .show V.n0+1<=h.told+(h.died+1);omega
end law
end Go.Proofs.YtcoengihaobddaaGreatDoor
