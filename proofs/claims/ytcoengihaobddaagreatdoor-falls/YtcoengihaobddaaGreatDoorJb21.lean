/- Part 21 of 36 of a proof: Grow1, Log1, Com1, Ins9, Ins10, Ins11 -/
import Derived.Test.YtcoengihaobddaaGreatDoorJb20
set_option maxHeartbeats 8000000
set_option linter.unusedVariables false
set_option linter.unusedSimpArgs false
set_option maxRecDepth 8000
namespace Go.Proofs.YtcoengihaobddaaGreatDoor
namespace prog
open Go.RowKit disk ref
variable {C C':Ck}{i N:Nat}{m m':List UInt8}{nb:List Nat}{D:Dk}
def Ck.keys(C:Ck):List Nat:=C.ws.map Prod.fst
theorem Ck.keys_len(C:Ck):C.keys.length=C.ws.length:=by simp [Ck.keys]
theorem Q7{k:Nat}(b:List Value)(h:yd C.ws i=some k):(C.put i b).keys=C.keys/\i∈C.keys:=by
 obtain⟨a,e⟩:=jt b h;obtain⟨_,_,c⟩:=xB (D:=⟨[],[],0,0⟩) h;rw [e];unfold Ck.keys;refine⟨?_,?_⟩
 .simp only [lU];have:C.ws[k].1=(C.ws.map Prod.fst)[k]'(by simpa using a):=by simp
  rw [this,List.set_getElem_self]
 .have:i=C.ws[k].1:=by omega
  rw [this];exact au.2 ⟨_,ai a,rfl⟩
theorem gT(b:List Value)(h:yd C.ws i=none):(C.put i b).keys=C.keys++[i]/\i∉C.keys:=by
 rw [jF b h];refine⟨by simp [Ck.keys],λc=>?_⟩;obtain⟨p,a,rfl⟩:=au.1 c;unfold yd at h;rw [im] at h;have:=h p a;simp at this
theorem xh(C:Ck)(i:Nat)(b:List Value):∀k,k∈(C.put i b).keys↔k∈C.keys\/k=i:=λk=>by
 cases a:yd C.ws i with
 |none=>rw [(gT b a).1];simp
 |some j=>
  obtain⟨c,h2⟩:=Q7 b a;rw [c];exact⟨.inl,λh=>h.elim id (λe=>e▸h2)⟩
theorem yJ(h:C.keys.Nodup)(i:Nat)(b:List Value):(C.put i b).keys.Nodup:=by
 cases d:yd C.ws i with
 |none=>
  obtain⟨k,h2⟩:=gT b d;rw [k];exact aN.2 ⟨h,by simp,λa g c f e=>by rw [az.1 f] at e;exact h2 (e▸g)⟩
 |some j=>rw [(Q7 b d).1];exact h
theorem qI(C:Ck)(i:Nat)(b:List Value):(C.put i b).full=C.full:=by
 unfold Ck.put;split<;>rfl
structure ui (N:Nat) (m m':List UInt8) (nb:List Nat):Prop where
 nodup:nb.Nodup
 fresh:∀j∈nb,21<=j/\j<N/\zT m (j-21)=false
 taken:∀i,zT m' i=(zT m i||decide (i+21∈nb))
theorem ui.refl(N:Nat)(m:List UInt8):ui N m m []:=⟨List.nodup_nil,λ_ h=>(nomatch h),λi=>by simp⟩
theorem ui.trans{f g:List UInt8}{a b:List Nat}(h:ui N m f a)(k:ui N f g b):ui N m g (a++b) where
 nodup:=aN.2 ⟨h.nodup,k.nodup,λl o q n e=>by
  subst e;have c:=k.fresh l n;have h2:=h.taken (l-21);rw [c.2.2,show l-21+21=l from by omega] at h2
  simp [o] at h2⟩
 fresh:=λj d=>by
  rcases ah.1 d with d|d;.exact h.fresh j d
  .have c:=k.fresh j d;refine⟨c.1,c.2.1,?_⟩;have h2:=h.taken (j-21);rw [c.2.2] at h2
   cases p:zT m (j-21) with
   |false=>rfl
   |true=>rw [p] at h2;simp at h2
 taken:=λi=>by rw [k.taken,h.taken,Bool.or_assoc];simp
theorem ui.keeps(h:ui N m m' nb)(a:zT m i=true):zT m' i=true:=by rw [h.taken,a];rfl
theorem ui.apart(h:ui N m m' nb){j:Nat}(b:zT m (j-21)=true):j∉nb:=λa=>by
 have:=(h.fresh j a).2.2;rw [b] at this;cases this
def Q8(N:Nat)(m:List UInt8):Prop:=∀i,i+21<N->zT m i=true
theorem UZ(C:Ck)(f:N<=1000)(b:m.length=124):
 (∃i,C.take N m=(i+21,C.put 2 (zl (zR (ue m i))),ue m i)/\ui N m (ue m i) [i+21])\/(C.take N m=(0,{C with full:=true},m)/\Q8 N m):=by
 unfold Ck.take
 cases h:uO N m with
 |some i=>
  obtain⟨c,h2,d⟩:=QX h;refine .inl ⟨i,rfl,by simp,λj a=>?_,λj=>?_⟩
  .rw [az.1 a];exact⟨by omega,by omega,by rw [show i+21-21=i from by omega];exact h2⟩
  .rw [Ko (by rw [b];omega)];congr 1;simp
 |none=>
  refine .inr ⟨rfl,λi e=>?_⟩;unfold uO at h;rw [lz] at h;have:=h i (by simp;omega);simpa using this
structure XC (D:Dk) (C:Ck) (m:List UInt8):Prop where
 map:qF (C.look D 2) m
 full:C.full=true->Q8 D.bs.length m
 nodup:C.keys.Nodup
structure bZ (D:Dk) (C C':Ck) (m m':List UInt8) (pb nb:List Nat):Prop where
 grew:ui D.bs.length m m' nb
 full:C.full=true->C'.full=true
 look:∀j:Nat,j∉pb->j∉nb->j≠2->j≠0->C'.look D j=C.look D j
 keys:∀k∈C'.keys,k∈C.keys\/k∈pb\/k∈nb\/k=2\/(k=0/\C'.full=true)
theorem bZ.refl(D:Dk)(C:Ck)(m:List UInt8):bZ D C C m m [] []:=⟨ui.refl _ _,id,λ_ _ _ _ _=>rfl,λ_ h=>.inl h⟩
theorem bZ.trans{d l:Ck}{n o:List UInt8}{f p g e:List Nat}(h:bZ D C d m n f g)(k:bZ D d l n o p e):bZ D C l m o (f++p) (g++e) where
 grew:=h.grew.trans k.grew
 full:=λb=>k.full (h.full b)
 look:=λj c h2 q i=>by rw [ah,not_or] at c h2;rw [k.look j c.2 h2.2 q i,h.look j c.1 h2.1 q i]
 keys:=λr a=>by
  simp only [ah];rcases k.keys r a with a|a|a|a|⟨a,b⟩
  .rcases h.keys r a with a|a|a|a|⟨a,b⟩;.exact .inl a
   .exact .inr (.inl (.inl a))
   .exact .inr (.inr (.inl (.inl a)))
   .exact .inr (.inr (.inr (.inl a)))
   .exact .inr (.inr (.inr (.inr ⟨a,k.full b⟩)))
  .exact .inr (.inl (.inr a))
  .exact .inr (.inr (.inl (.inr a)))
  .exact .inr (.inr (.inr (.inl a)))
  .exact .inr (.inr (.inr (.inr ⟨a,b⟩)))
theorem bZ.unfull{p n:List Nat}(h:bZ D C C' m m' p n)(a:C'.full=false):C.full=false:=by
 cases b:C.full with
 |false=>rfl
 |true=>rw [h.full b] at a;cases a
theorem bZ.put(D:Dk)(C:Ck)(m:List UInt8)(i:Nat)(b:List Value):bZ D C (C.put i b) m m [i] [] where
 grew:=ui.refl _ _
 full:=λh=>by rw [qI];exact h
 look:=λj a _ _ _=>zZ C D i b j (λe=>a (by rw [az];omega))
 keys:=λk c=>((xh C i b k).1 c).elim .inl (λe=>.inr (.inl (by rw [e];simp)))
theorem XC.put(h:XC D C m)(c:i≠2)(b:List Value):XC D (C.put i b) m:=
 ⟨h.map.put i b c,λa=>h.full (by rw [qI] at a;exact a),yJ h.nodup i b⟩
theorem bZ.taken{f:List Nat}(h:bZ D C C' m m' f nb)(b:List Value)(a:i∈nb\/(i=0/\C'.full=true)):bZ D C (C'.put i b) m m' f nb where
 grew:=h.grew
 full:=λd=>by rw [qI];exact h.full d
 look:=λj n h2 l g=>by rw [zZ C' D i b j (λe=>by rcases a with a|⟨a,_⟩;exact h2 (by rw [show j=i from by omega];exact a);omega)];exact h.look j n h2 l g
 keys:=λk c=>by
  rw [qI];rcases (xh C' i b k).1 c with c|rfl;.exact h.keys k c
  .rcases a with a|⟨a,d⟩;.exact .inr (.inr (.inl a))
   .exact .inr (.inr (.inr (.inr ⟨a,d⟩)))
structure GX (D:Dk) (C:Ck) (m:List UInt8) (ta:Nat) (C':Ck) (m':List UInt8) (nb:List Nat):Prop where
 chn:XC D C' m'
 stp:bZ D C C' m m' [] nb
 len:nb.length<=1
 few:C'.ws.length<=C.ws.length+1
 is:(nb=[ta]/\21<=ta/\ta<D.bs.length/\C'.full=C.full)\/(nb=[]/\ta=0/\C'.full=true)
theorem GX.mem{a:Nat}(h:GX D C m a C' m' nb):a∈nb\/(a=0/\C'.full=true):=by
 rcases h.is with⟨rfl,_⟩|⟨_,b,h2⟩;.exact .inl (by simp)
 .exact .inr ⟨b,h2⟩
theorem GX.lt{a:Nat}(h:GX D C m a C' m' nb)(c:D.bs.length<=1000):a<65536/\a≠2:=by
 rcases h.is with⟨_,b,h2,_⟩|⟨_,b,_⟩;.omega
 .omega
theorem uS(h:XC D C m)(f:D.bs.length<=1000):∃c C' m' nb,C.take D.bs.length m=(c,C',m')/\GX D C m c C' m' nb:=by
 rcases UZ C f h.map.len with⟨i,e,g⟩|⟨e,d⟩
 .refine⟨_,_,_,[i+21],e,⟨⟨?_,λb=>?_,yJ h.nodup _ _⟩,⟨g,λb=>by rw [qI];exact b,λj _ _ h2 _=>zZ C D 2 _ j (by omega),λk a=>?_⟩,by simp,qw _ _ _,.inl ⟨rfl,by omega,(g.fresh _ (by simp)).2.1,qI _ _ _⟩⟩⟩
  .have:=h.map.take (N:=D.bs.length);rw [e] at this;exact this
  .rw [qI] at b;exact λi l=>g.keeps (h.full b i l)
  .rcases (xh C 2 _ k).1 a with a|a;.exact .inl a
   .exact .inr (.inr (.inr (.inl a)))
 .refine⟨_,_,_,[],e,⟨⟨h.map,λ_=>d,h.nodup⟩,⟨ui.refl _ _,λ_=>rfl,λ_ _ _ _ _=>rfl,λk a=>.inl a⟩,by simp,by simp,.inr ⟨rfl,rfl,rfl⟩⟩⟩
structure Dr (D:Dk) (C:Ck) (m:List UInt8) (at_ k:Nat) (es:List En) (f:Bool) (v:List Value) (C':Ck) (m':List UInt8) (nb:List Nat):Prop where
 chn:XC D C' m'
 stp:bZ D C C' m m' [at_] nb
 len:nb.length<=if f then 1 else 0
 few:C'.ws.length<=C.ws.length+3
 one:f=false->es.length<=6/\v=qx/\nb=[]/\C'.look D at_=zl (zc k es)
 two:f=true->6<es.length/\∃ta,ta<65536/\v=qr ⟨(es.getD (es.length/2) gR).pl,false,0,ta⟩/\(C'.full=false->nb=[ta]/\21<=ta/\C'.look D at_=zl (zc k (es.take (es.length/2)))/\C'.look D ta=zl (zc k (es.drop (es.length/2))))
theorem Q9(h:XC D C m)(t:D.bs.length<=1000)(a k:Nat)(d:a≠2)(x:21<=a)(l:zT m (a-21)=true)(b:List En):∃f v C' m' nb,C.more D.bs.length m a k b=(f,v,C',m')/\Dr D C m a k b f v C' m' nb:=by
 unfold Ck.more;by_cases q:b.length<=6
 .rw [aB q];exact⟨_,_,_,_,[],rfl,⟨h.put d _,bZ.put D C m a _,by simp,by have:=qw C a (zl (zc k b));omega,λ_=>⟨q,rfl,rfl,qn _ _ _ _⟩,λh=>by cases h⟩⟩
 .rw [aw q];obtain⟨p,j,w,nb,e,c⟩:=uS h t;simp only [Ck.split,e];have g:=c.lt t;have s:a∉nb:=c.stp.grew.apart l;have r:=c.stp.trans (bZ.put D j w a (zl (zc k (b.take (b.length/2)))));rw [aK,aM] at r;have u:=r.taken (i:=p) (zl (zc k (b.drop (b.length/2)))) (c.mem.imp id (λh=>⟨h.1,by rw [qI];exact h.2⟩));refine⟨_,_,_,_,nb,rfl,⟨(c.chn.put d _).put g.2 _,u,by simpa using c.len,?_,λh=>(by cases h),λ_=>⟨by omega,p,g.1,rfl,λo=>?_⟩⟩⟩
  .have:=qw (j.put a (zl (zc k (b.take (b.length/2))))) p (zl (zc k (b.drop (b.length/2))));have:=qw j a (zl (zc k (b.take (b.length/2))));have:=c.few;omega
  .rw [qI,qI] at o;rcases c.is with⟨rfl,n,_⟩|⟨_,_,n⟩
   .refine⟨rfl,n,?_,qn _ _ _ _⟩;rw [zZ _ _ _ _ _ (λe=>s (by rw [az];omega)),qn]
   .rw [n] at o;cases o
end prog
namespace prog
open Go.ChangeShapes Go.WideShapes Go.ChangeAt Go.RowKit disk ref
open keys (zh zd zx zq)
variable {w:World}{bd:Nat}{S:Nat->Prop}{D:Dk}
def qm(D:Dk):List (Nat×List Value)->Bool×Dk
 |[]=>(true,D)
 |p::ws=>if D.writes p.1=true then qm (D.write p.1 p.2) ws else (false,D)
def xn(D:Dk)(h:List Value):Bool×Dk:=if D.writes 0=true then (!((D.write 0 h).fuse==0),(D.write 0 h).flush) else (false,D)
def xY:List Value:=zl (Pg.new 1)
def xD(r:Bool×Dk)(h:List Value):Bool×Dk:=if r.1=true/\r.2.fuse≠0 then xn r.2.flush h else (false,r.2)
def qL(D:Dk)(ws:List (Nat×List Value)):Bool×Dk:=xD (qm D ws) xY
def qh(ws:List (Nat×List Value)):List (Nat×List Value):=ws.mapIdx λi p=>(3+i,p.2)
def zK(ws:List (Nat×List Value)):Pg:=⟨1,0,ws.map λp=>bytesOf 2 p.1⟩
def qM(D:Dk)(ws:List (Nat×List Value)):Bool×Dk:=xD (qm D (qh ws)) (zl (zK ws))
def qj(D:Dk)(ws:List (Nat×List Value)):Bool×Dk:=if (qM D ws).1=true then qL (qM D ws).2 ws else qM D ws
structure qZ (w w':World) (bd:Nat) (S:Nat->Prop) (D:Dk):Prop where
 disk:∃S',zg w' bd S' D/\∀k,S' k->S k\/w.heap.size<=k
 kept:za S w w'
theorem qZ.refl(h:zg w bd S D):qZ w w bd S D:=⟨⟨S,h,λ_ h=>.inl h⟩,za.refl _ _⟩
theorem qZ.trans{d b:World}{S1:Nat->Prop}{D1:Dk}(c:∀k,S1 k->S k\/w.heap.size<=k)(k1:za S w d)(h:qZ d b bd S1 D):qZ w b bd S D:=by
 obtain⟨⟨S',e,h2⟩,g⟩:=h;refine⟨⟨S',e,λk f=>?_⟩,k1.trans g c⟩;rcases h2 k f with a|a;.exact c k a
 .exact .inr (aD k1.size a)
theorem qZ.kept0{a b:World}(k1:za (λ_=>False) w a)(h:qZ a b bd S D):qZ w b bd S D:=qZ.trans (D1:=D) iL (k1.mono fE) h
theorem jv(a:Int)(b:List Value)(c:zD D.fuse):zD (D.write a b).fuse:=by
 unfold Dk.write;split
 .show zD (qv D.fuse);unfold qv zD at*;split<;>omega
 .exact c
theorem jw(a:zD D.fuse):zD D.flush.fuse:=by
 unfold Dk.flush;split;.exact a
 .show zD (qv D.fuse);unfold qv zD at*;split<;>omega
theorem uT(a:Int)(b:List Value):(D.write a b).ps.length<=D.ps.length+1:=by
 unfold Dk.write;split<;>simp
section
attribute [local go_sem ↓] js
theorem fK(w:World)(bd:Nat)(S:Nat->Prop)(D:Dk)(h:zg w bd S D)(b:List Value)(x:zS b)(i:zD D.fuse)(s:D.ps.length<=68719476736):
 Calls Tryz.prog 147 #[.pointer (some ⟨bd,0,none⟩),.agg b.toArray] w λe w'=>e=.returned (.bool (xn D b).1)/\qZ w w' bd S (xn D b).2:=by
 have z:Hid (zg w bd S D):=h;have r:Hid (zS b):=x;have B:=x.1;have c:Hid (za (λ_=>False) w (w.alloc (.cells b.toArray 154))):=za.alloc _ _ _;have I:(uK (.pointer (some ⟨w.heap.size,0,none⟩))).run Tryz.prog (w.alloc (.cells b.toArray 154))=.ok (.agg b.toArray) (w.alloc (.cells b.toArray 154)):=xI _ _ _ b (zQ (ac w _)) B;clear h x
 cases p:D.writes 0 with
 |true=>
  have a:Hid _:=p;go_enter Tryz.func147,Tryz.ntmps147
  go_wp2_with (first
   |(go_at_call 146;refine(yT _ bd S D (z.kept c nF) 0 (by constructor<;>omega) b r i s).mono ?_;rintro e A ⟨rfl,⟨S1,g,d⟩,f⟩;rw [a.out];have o:Hid (zg A bd S1 (D.write 0 b)):=g;have l:Hid _:=d;have n:Hid _:=f;clear g d f)
   |(go_at_call 40;refine(yU _ bd S1 _ o (jv _ _ i)).mono ?_;rintro e H ⟨rfl,⟨E,u,t⟩,q⟩;have C:Hid (zg H bd E (D.write 0 b).flush):=u;change Hid _ at t q;clear u))
  go_ret;have v:xn D b=(!((D.write 0 b).fuse==0),(D.write 0 b).flush):=aB a.out;rw [v]
  have F:∀k,S1 k->S k\/w.heap.size<=k:=λk m=>by
   rcases l k m with j|j;.exact .inl j
   .right;have:=c.size;omega
  exact⟨rfl,⟨E,C,λk m=>F k (t k m)⟩,((c.mono fE).trans n iL).trans q F⟩
 |false=>
  have a:Hid _:=p;go_enter Tryz.func147,Tryz.ntmps147;go_wp2_with (go_at_call 146;refine(yT _ bd S D (z.kept c nF) 0 (by constructor<;>omega) b r i s).mono ?_;rintro e A ⟨rfl,⟨S1,g,d⟩,f⟩;rw [a.out];have o:Hid _:=g;have l:Hid _:=d;have n:Hid _:=f;clear g d f);go_ret;have v:xn D b=(false,D):=aw (by rw [a.out];simp)
  have G:D.write 0 b=D:=by have:=a.out;unfold Dk.writes at this;unfold Dk.write;rw [aw (iF this)]
  rw [v];have y:=o.out;rw [G] at y;refine⟨rfl,⟨S1,y,λk m=>?_⟩,(c.mono fE).trans n iL⟩;rcases l k m with j|j;.exact .inl j
  .right;have:=c.size;omega
end
end prog
namespace prog
open Go.RowKit disk ref
variable {D:Dk}{i j:Nat}
def fZ:Ck:=⟨[],false⟩
theorem yE(D:Dk)(i:Int):fZ.look D i=D.look i:=j8 rfl
theorem Za:qv (-1)= -1:=by decide
theorem bf(a:D.fuse= -1)(c:i<D.bs.length)(b:List Value):D.writes (i:Int)=true/\D.write (i:Int) b={D with ps:=D.ps++[(i,b)]}:=by
 have h:0<=(i:Int)/\(i:Int)<D.bs.length/\D.fuse≠0:=⟨by omega,by omega,by omega⟩;refine⟨by unfold Dk.writes;simpa using h,?_⟩;unfold Dk.write;rw [aB h,a,Za,<-a];rfl
theorem kx(a:D.fuse= -1):D.flush={D with bs:=zm D.bs D.ps,ps:=[]}:=by
 unfold Dk.flush;rw [aw (by omega),a,Za,<-a]
theorem bg:∀(ws:List (Nat×List Value)) (D:Dk),D.fuse= -1->(∀p∈ws,p.1<D.bs.length)->qm D ws=(true,{D with ps:=D.ps++ws })
 |[],D,_,_=>by simp [qm]
 |p::ws,D,hf,h=>by obtain⟨a,h2⟩:=bf hf (h p (al ..)) p.2;unfold qm;rw [aB a,h2,bg ws {D with ps:=D.ps++[(p.1,p.2)]} hf (λq b=>h q (am _ b))];simp
theorem XD(a:D.fuse= -1)(f:D.ps=[])(g:0<D.bs.length)(b:List Value):xn D b=(true,{D with bs:=D.bs.set 0 b }):=by
 obtain⟨h,h2⟩:=bf a g b;have d:D.writes 0=true:=h;have c:D.write 0 b={D with ps:=D.ps++[(0,b)]}:=h2;unfold xn;rw [aB d,c,kx (D:={D with ps:=D.ps++[(0,b)] }) a,f];have e:(!(D.fuse==0))=true:=by rw [a];rfl
 show (!(D.fuse==0),_)=_;rw [e];simp only [zm,aK,lM,List.foldl_nil]
theorem bh(a:D.fuse= -1)(c:D.ps=[])(d:0<D.bs.length)(ws:List (Nat×List Value))(h:∀p∈ws,p.1<D.bs.length)(b:List Value):xD (qm D ws) b=(true,{D with bs:=(zm D.bs ws).set 0 b }):=by
 rw [bg ws D a h];unfold xD;rw [aB ⟨rfl,by show D.fuse≠0;omega⟩,kx (D:={D with ps:=D.ps++ws }) a,XD (D:={D with bs:=zm D.bs (D.ps++ws),ps:=[] }) a rfl (by show 0<(zm _ _).length;rw [zC];exact d)];rw [c];simp
def un(bs:List (List Value))(ws:List (Nat×List Value)):List (List Value):=(zm ((zm bs (qh ws)).set 0 (zl (zK ws))) ws).set 0 xY
theorem jd(bs:List (List Value))(ws:List (Nat×List Value)):(un bs ws).length=bs.length:=by unfold un;rw [ew,zC,ew,zC]
theorem vg{ws:List (Nat×List Value)}(h:ws.length<=18):∀p∈qh ws,3<=p.1/\p.1<21:=λp a=>by
 unfold qh at a;obtain⟨i,b,rfl⟩:=List.mem_mapIdx.1 a;simp;omega
theorem XE(d:D.fuse= -1)(b:D.ps=[])(f:21<=D.bs.length){ws:List (Nat×List Value)}(h:∀p∈ws,p.1<D.bs.length)(e:ws.length<=18):(qM D ws).1=true/\qj D ws=(true,{D with bs:=un D.bs ws }):=by
 have c:qM D ws=(true,{D with bs:=(zm D.bs (qh ws)).set 0 (zl (zK ws)) }):=bh d b (by omega) _ (λp a=>by have:=vg e p a;omega) _
 have h2:qj D ws=(true,{D with bs:=un D.bs ws }):=by
  unfold qj;rw [c];have g:((zm D.bs (qh ws)).set 0 (zl (zK ws))).length=D.bs.length:=by rw [ew,zC]
  exact bh (D:={D with bs:=(zm D.bs (qh ws)).set 0 (zl (zK ws)) }) d b (by show 0<((zm _ _).set _ _).length;omega) ws (λp a=>by show p.1<((zm _ _).set _ _).length;have:=h p a;omega) _
 exact⟨by rw [c],h2⟩
theorem yl:∀(ws:List (Nat×List Value)) (bs:List (List Value)),j∉ws.map Prod.fst->(zm bs ws)[j]? =bs[j]?
 |[],_,_=>rfl
 |p::ws,bs,h=>by rw [aO,ar,not_or] at h;show (zm (bs.set p.1 p.2) ws)[j]? =_;rw [yl ws _ h.2,iK (λe=>h.1 e.symm)]
theorem jx{b:List Value}:∀(ws:List (Nat×List Value)) (bs:List (List Value)),(ws.map Prod.fst).Nodup->(j,b)∈ws->j<bs.length->(zm bs ws)[j]? =some b
 |[],_,_,h,_=>nomatch h
 |p::ws,bs,hn,h,hj=>by
  rw [aO,iM] at hn;show (zm (bs.set p.1 p.2) ws)[j]? =_;rcases ar.1 h with rfl|h;.rw [yl ws _ hn.1,lA hj]
  .exact jx ws _ hn.2 h (by rw [ew];exact hj)
theorem Ya(g:D.ps=[]){C:Ck}(v:C.keys.Nodup)(o:C.ws.length<=18)(t:∀k∈C.keys,k<D.bs.length)(m:j≠0)(x:j<3\/21<=j):Dk.look {D with bs:=un D.bs C.ws} (j:Nat)=C.look D (j:Nat):=by
 have r:=jd D.bs C.ws;by_cases l:j<D.bs.length
 .have d:Dk.look {D with bs:=un D.bs C.ws} (j:Nat)=(un D.bs C.ws).getD j []:=by
   unfold Dk.look;rw [aB ⟨by omega,by show (j:Int)<(un D.bs C.ws).length;omega⟩,g];rfl
  have c:D.look (j:Nat)=D.bs.getD j []:=by unfold Dk.look;rw [aB ⟨by omega,by omega⟩,g];rfl
  rw [d];have u:(un D.bs C.ws)[j]? =(zm ((zm D.bs (qh C.ws)).set 0 (zl (zK C.ws))) C.ws)[j]? :=by unfold un;rw [iK (λe=>m e.symm)]
  rw [aA,u]
  cases a:yd C.ws (j:Nat) with
  |none=>
   rw [j8 a,c,aA];have w:j∉C.ws.map Prod.fst:=(gT (C:=C) [] a).2;rw [yl _ _ w,iK (λe=>m e.symm),yl];intro n;obtain⟨p,i,e⟩:=au.1 n;have:=vg o p i;omega
  |some k=>
   obtain⟨b,q,s⟩:=xB (D:=D) a;rw [q]
   have f:(j,C.ws[k].2)∈C.ws:=by
    have:(j,C.ws[k].2)=C.ws[k]:=by ext1<;>simp;omega
    rw [this];exact ai b
   rw [jx C.ws _ v f (by rw [ew,zC];exact l)];rfl
 .have d:Dk.look {D with bs:=un D.bs C.ws} (j:Nat)=zW:=by
   unfold Dk.look;rw [aw (λh=>by have h2:(j:Int)<(un D.bs C.ws).length:=h.2;omega)]
  have c:D.look (j:Nat)=zW:=by unfold Dk.look;rw [aw (λh=>by have:=h.2;omega)]
  rw [d]
  cases a:yd C.ws (j:Nat) with
  |none=>rw [j8 a,c]
  |some k=>
   obtain⟨b,q,s⟩:=xB (D:=D) a;have:=t C.ws[k].1 (au.2 ⟨_,ai b,rfl⟩);omega
theorem Yb(c:D.ps=[])(b:0<D.bs.length)(ws:List (Nat×List Value)):Dk.look {D with bs:=un D.bs ws} 0=xY:=by
 have a:=jd D.bs ws;unfold Dk.look;rw [aB ⟨by omega,by show (0:Int)<(un D.bs ws).length;omega⟩,c];show (un D.bs ws).getD 0 []=_;rw [aA];unfold un;rw [lA (by rw [zC,ew,zC];exact b)];rfl
structure vA (bc bd:Nat) (S T:Nat->Prop) (D:Dk) (C:Ck) (h at_:Nat) (e:En) (f:Bool) (v:List Value) (C':Ck):Prop where
 go:∀(w:World) (r:Int),0<=r->r+h<=4611686018427370000->Cw w bc bd S T {D with reads:=r} C->
  Calls Tryz.prog 137 #[.pointer (some ⟨bc,0,none⟩),.int .i64 at_,.agg (qr e).toArray] w λx w'=>x=.returned (.tuple #[.agg v.toArray,.bool f])/\(∃(n:Int) (T':Nat->Prop),0<=n/\n<=(2*(h+1):Nat)/\Cw w' bc bd S T' {D with reads:=r+n} C'/\∀j,T' j->T j\/w.heap.size<=j)/\za (λj=>j=bd\/T j) w w'
theorem vA.below{d bd:Nat}{S T:Nat->Prop}{C:Ck}{h c:Nat}{e:En}{f:Bool}{v:List Value}{C':Ck}(k:vA d bd S T D C h c e f v C')(r:Int)(m:0<=r)(l:r+(h+1:Nat)<=4611686018427370000):
 Below d bd S T {D with reads:=r} C c e (2*(h+1)) f v C':=
 ⟨λg j a b i=>k.go g (r+j) (by omega) (by omega) i⟩
structure GY {h:Nat} (D:Dk) (t:Tr h) (e:En) (C C':Ck) (m m':List UInt8) (f:Bool) (v:List Value) (pb nb:List Nat):Prop where
 chn:XC D C' m'
 stp:bZ D C C' m m' pb nb
 sub:∀j∈pb,j∈t.blocks
 pl:pb.length<=h+1
 nl:nb.length<=h+(if f then 1 else 0)
 few:C'.ws.length<=C.ws.length+3*(h+1)
 one:f=false->v=qx/\(C'.full=false->∃t',dY t e t'/\t'.LayV zl (λj=>C'.look D (j:Nat))/\t'.blocks.Perm (t.blocks++nb))
 two:f=true->∃e1:En,v=qr e1/\e1.Ok/\(C'.full=false->∃t' u q,fJ t e t' u q/\e1=⟨q,false,0,u.blk⟩/\t'.LayV zl (λj=>C'.look D (j:Nat))/\u.LayV zl (λj=>C'.look D (j:Nat))/\(t'.blocks++u.blocks).Perm (t.blocks++nb))
theorem Jq{a:List En}(h:∀c∈a,c.Ok)(b:i<a.length):(a.getD i gR).pl.Ok:=by
 rw [aA,aH b];exact(h _ (ai b)).pl
theorem VY(E bd:Nat)(S T:Nat->Prop)(D:Dk)(J:D.bs.length<=1000)(e:En)(o:e.Ok)(b:Nat)(a:List En)(C:Ck)(m:List UInt8)(g:Tr.Good (h:=0) (b,a))(t:a.length<=6)(q:yL a)
 (p:21<=b/\zT m (b-21)=true) (P:C.look D b=zl (zc 5 a)) (y:XC D C m) (H:∀F∈a,F.pl≠e.pl) (u:C.ws.length<700):
 ∃f v C' m' N nb,GY (h:=0) D (b,a) e C C' m m' f v N nb/\vA E bd S T D C 0 b e f v C':=by
 obtain⟨f,v,C',m',nb,z,c⟩:=Q9 y J b 5 (by omega) p.1 p.2 (yu e a);have A:∀F∈yu e a,F.Ok:=Jp g.2 o;have G:=Q5 e a;refine⟨f,v,C',m',[b],nb,⟨c.chn,c.stp,λj O=>O,by simp,by simpa using c.len,by have:=c.few;omega,λx=>?_,λx=>?_⟩,?_⟩
 .obtain⟨d,h2,i,k⟩:=c.one x;exact⟨h2,λ_=>⟨(b,yu e a),VV g o d,k,by rw [i];exact eR _⟩⟩
 .obtain⟨d,I,h2,i,k⟩:=c.two x;refine⟨_,i,(Jq A (by omega)).en h2,λl=>?_⟩;obtain⟨s,R,Q,M⟩:=k l;refine⟨(b,(yu e a).take ((yu e a).length/2)),(I,(yu e a).drop ((yu e a).length/2)),_,VW g o h2 q H rfl (by omega) gR,rfl,Q,M,by rw [s];exact eR _⟩
 .refine⟨λw r K d B=>?_⟩;refine(Q1 w E bd S T {D with reads:=r} C B m (by rw [zF];exact y.map) K (by show r<=_;omega) b g.1 a g.2 t q (by rw [zF];exact P) e o u (yu e a) (q.ins_at) f v C' m' z).mono ?_;rintro F w' ⟨d,⟨n,L,h2,i,k,s⟩,t⟩;exact⟨d,⟨n,L,h2,by simpa using i,k,s⟩,t⟩
theorem gU{α:Type}{A e B:List α}{b:α}(h:(b::(A++(e++B))).Nodup):b∉A/\b∉e/\b∉B/\A.Nodup/\e.Nodup/\B.Nodup/\(∀j∈A,j∉e)/\(∀j∈B,j∉e):=by
 rw [iM,aN,aN] at h;obtain⟨a,h2,⟨k,f,i⟩,g⟩:=h;simp only [ah,not_or] at a;exact⟨a.1,a.2.1,a.2.2,h2,k,f,λj c d=>g j c j (af _ d) rfl,λj c d=>i j d j c rfl⟩
theorem vB{h:Nat}(A B:List (Pl×Tr h))(q:Pl)(tc:Tr h):((A++(q,tc)::B).map λc=>(⟨c.1,false,0,c.2.blk⟩:En))=(A.map λc=>(⟨c.1,false,0,c.2.blk⟩:En))++⟨q,false,0,tc.blk⟩::(B.map λc=>(⟨c.1,false,0,c.2.blk⟩:En)):=by simp
theorem GZ{X d:List En}{a:En}(b:i=X.length)(c:i<(X++a::d).length):(X++a::d)[i]=a:=by subst b;simp
theorem GB{X b:List En}{a d:En}(c:i=X.length):(X++a::b).take (i+1)++d::(X++a::b).drop (i+1)=X++a::d::b:=by
 subst c;rw [lE,iW];simp
theorem Yc(aF bd:Nat)(S T:Nat->Prop)(D:Dk)(a1:D.bs.length<=1000)(e:En)(aL:e.Ok):∀(h:Nat) (t:Tr h) (C:Ck) (m:List UInt8),h<=100->t.Good->1<=t.items.length->t.items.length<=6->yL t.ents->t.blocks.Nodup->
 (∀j∈t.blocks,21<=j/\zT m (j-21)=true)->t.LayV zl (λj=>C.look D (j:Nat))->XC D C m->(∃p,t.First p/\¬e.pl.lt p=true)->(∀P∈t.ents,P.pl≠e.pl)->C.ws.length+3*(h+1)<700->
 ∃f v C' m' U nb,GY D t e C C' m m' f v U nb/\vA aF bd S T D C h t.blk e f v C'
 |0,(b,I),C,m,_,g,_,h6,hs,_,htk,hl,hc,_,hn,hfew=>VY aF bd S T D a1 e aL b I C m g h6 hs (htk b (az.2 rfl)) hl hc hn (by omega)
 |h+1,(b,cs),C,m,hh,g,h1,h6,hs,hnd,htk,hl,hc,hfirst,hn,hfew=>by
  have aZ:=aD h1 (eE (zy b cs));have bm:=aD (eE (zy b cs).symm) h6;have aN:Kids cs:=g.kids;obtain⟨A,q,tc,B,rfl,bp,bo,a3⟩:=aN.child (λax=>by rw [ax] at aZ;simp at aZ) e.pl;obtain⟨bE,a9,bI,bL,bz,bJ,bH⟩:=aN.mid;have o:(q,tc)∈A++(q,tc)::B:=by simp
  have aJ:¬e.pl.lt q=true:=by
   by_cases aU:A=[]
   .subst aU;obtain⟨p,⟨u,bF,aQ⟩,z⟩:=hfirst;simp only [aK,eH,eS] at aQ;rw [aQ.1.1];exact z
   .exact bo aU
  have aT:=aN.good (q,tc) o;have aI:=g.full
  have a0:(b::(zE A++(tc.blocks++zE B))).Nodup:=by have:(b::zE (A++(q,tc)::B)).Nodup:=hnd;rw [qo,qA] at this;exact this
  obtain⟨bw,bl,bB,bG,bC,bK,bt,bu⟩:=gU a0
  have O:∀j,j=b\/j∈zE (A++(q,tc)::B)->21<=j/\zT m (j-21)=true:=λj a=>htk j (by
   show j∈b::zE (A++(q,tc)::B)
   exact ar.2 a)
  have bf:yL (zI A++(tc.ents++zI B)):=by have:yL (zI (A++(q,tc)::B)):=hs;rw [zA,zr] at this;exact this
  have bn:=(aX.1 (aX.1 bf).2.1).1;have aB:C.look D b=zl (zc 4 ((A++(q,tc)::B).map λc=>(⟨c.1,false,0,c.2.blk⟩:En))):=hl.1;have aS:=hl.2
  obtain⟨bs,bM,X,R,U,nb,y,bD⟩:=Yc aF bd S T D a1 e aL h tc C m (by omega) aT.1 (by have:=aI (q,tc) o;simp only at this;omega) aT.2.1 bn bC
   (λj a=>O j (.inr (zU o a))) (aS (q,tc) o) hc ⟨q,bz,aJ⟩ (λP G=>hn P (by show P∈zI (A++(q,tc)::B);exact vz o G)) (by omega)
  have aw:=aN.items_srt;have ab:∀P∈(A++(q,tc)::B).map (λc=>(⟨c.1,false,0,c.2.blk⟩:En)),P.Ok:=g.items_ok
  have aE:∀P∈(A++(q,tc)::B).map (λc=>(⟨c.1,false,0,c.2.blk⟩:En)),P.mark=false/\P.size=0:=λP G=>by obtain⟨c,_,rfl⟩:=au.1 G;exact⟨rfl,rfl⟩
  have a4:((A++(q,tc)::B).map λc=>(⟨c.1,false,0,c.2.blk⟩:En)).length=(A++(q,tc)::B).length:=by simp
  have x:∀(ba:Ck) (a9:List UInt8) (ay F:List Nat),bZ D C ba m a9 ay F->(∀j∈ay,j=b\/j∈tc.blocks)->∀c,c∈A\/c∈B->c.2.LayV zl (λj=>ba.look D (j:Nat)):=λba a9 ay F st z c i=>by
   have ai:c∈A++(q,tc)::B:=by rcases i with h|h<;>simp [h]
   refine(aS c ai).congr (λj a=>?_);have bi:=O j (.inr (zU ai a));refine st.look j (λaR=>?_) (st.grew.apart bi.2) (by omega) (by omega);rcases i with E|d
   .rcases z j aR with rfl|z;.exact bw (zU E a)
    .exact bt j (zU E a) z
   .rcases z j aR with rfl|z;.exact bB (zU d a)
    .exact bu j (zU d a) z
  have aa:=O b (.inl rfl);generalize bg:((A++(q,tc)::B).map λc=>(⟨c.1,false,0,c.2.blk⟩:En))=I at*;have Y:I=(A.map λc=>(⟨c.1,false,0,c.2.blk⟩:En))++⟨q,false,0,tc.blk⟩::(B.map λc=>(⟨c.1,false,0,c.2.blk⟩:En)):=by rw [<-bg];exact vB A B q tc
  have aY:A.length<I.length:=by rw [a4];simp
  have aW:I[A.length].at_=tc.blk:=by simp only [Y];rw [GZ (by simp)]
  cases bs with
  |false=>
   obtain⟨rfl,a6⟩:=y.one rfl;refine⟨false,qx,X,R,U,nb,⟨y.chn,y.stp,λj a=>?_,by have:=y.pl;omega,by have:=y.nl;simp at this ⊢;omega,by have:=y.few;omega,λ_=>⟨rfl,λaC=>?_⟩,λh=>(by cases h)⟩,?_⟩
   .show j∈b::zE (A++(q,tc)::B);exact am _ (zU o (y.sub j a))
   .obtain⟨tc',Q,ad,L⟩:=a6 aC;refine⟨(b,A++(q,tc')::B),Xz g bm aJ a3 Q,⟨?_,λc i=>?_⟩,uQ L⟩
    .show X.look D b=zl (zc 4 ((A++(q,tc')::B).map λc=>(⟨c.1,false,0,c.2.blk⟩:En)));rw [vB,Q.blk,<-Y,<-aB];exact y.stp.look b (λa=>bl (y.sub b a)) (y.stp.grew.apart aa.2) (by omega) (by omega)
    .have i:=i;rcases ah.1 i with E|d;.exact x X R U nb y.stp (λj a=>.inr (y.sub j a)) c (.inl E)
     .rcases ar.1 d with rfl|d;.exact ad
      .exact x X R U nb y.stp (λj a=>.inr (y.sub j a)) c (.inr d)
   .refine⟨λw r aq bA ak=>?_⟩;have H:=bD.below r aq (by omega);rw [<-aW] at H;refine(Ks w aF bd S T {D with reads:=r} C ak m (by rw [zF];exact hc.map) aq (by show r<=_;omega) b g.1 I ab aE (by omega) aw (by rw [zF];exact aB) e aL (by omega) (2*(h+1)) X A.length bp.symm aY H).mono ?_;rintro P w' ⟨k1,⟨n,a5,k2,k3,W,aG⟩,aO⟩;exact⟨k1,⟨n,a5,k2,by omega,W,aG⟩,aO⟩
  |true=>
   obtain⟨ao,rfl,aV,aj⟩:=y.two rfl;have a7:=y.stp.grew.keeps aa.2;obtain⟨k,N⟩:∃k,I.take (A.length+1)++ao::I.drop (A.length+1)=k:=⟨_,rfl⟩;have br:k.length=I.length+1:=by rw [<-N];simp;omega
   have a2:∀P∈k,P.Ok:=λP G=>by
    rw [<-N] at G;rcases ah.1 G with G|G;.exact ab P (aP G)
    .rcases ar.1 G with rfl|G;.exact aV
     .exact ab P (eK G)
   have ae:k=(A.map λc=>(⟨c.1,false,0,c.2.blk⟩:En))++⟨q,false,0,tc.blk⟩::ao::(B.map λc=>(⟨c.1,false,0,c.2.blk⟩:En)):=by rw [<-N,Y,GB (by simp)]
   obtain⟨f,v,C',m',F,bc,l⟩:=Q9 y.chn a1 b 4 (by omega) aa.1 a7 k;have st:=y.stp.trans l.stp
   have be:∀j,j∈tc.blocks++nb->j≠b/\21<=j/\zT R (j-21)=true:=λj a=>by
    rcases ah.1 a with a|a
    .have:=O j (.inr (zU o a));exact⟨λax=>bl (ax▸a),this.1,y.stp.grew.keeps this.2⟩
    .have:=y.stp.grew.fresh j a;refine⟨λax=>y.stp.grew.apart aa.2 (ax▸a),this.1,?_⟩;rw [y.stp.grew.taken,show j-21+21=j from by omega];simp [a]
   have M:∀(u:Tr h),(∀j∈u.blocks,j∈tc.blocks++nb)->u.LayV zl (λj=>X.look D (j:Nat))->u.LayV zl (λj=>C'.look D (j:Nat)):=λu aQ bq=>bq.congr (λj a=>by
    have:=be j (aQ j a)
    exact l.stp.look j (by rw [az];exact this.1) (l.stp.grew.apart this.2.2) (by omega) (by omega))
   refine⟨f,v,C',m',U++[b],nb++F,⟨l.chn,st,λj a=>?_,by have:=y.pl;simp;omega,?_,by have:=y.few;have:=l.few;omega,λaC=>?_,λaC=>?_⟩,?_⟩
   .show j∈b::zE (A++(q,tc)::B);rcases ah.1 a with a|a;.exact am _ (zU o (y.sub j a))
    .rw [az.1 a];exact al ..
   .have ao:=y.nl;simp at ao;simp only [ag]
    cases f with
    |false=>have bx:F.length<=0:=l.len;show nb.length+F.length<=h+1+0;omega
    |true=>have bx:F.length<=1:=l.len;show nb.length+F.length<=h+1+1;omega
   .obtain⟨k1,k2,k3,W⟩:=l.one aC;refine⟨k2,λZ=>?_⟩;obtain⟨tc',uc,an,Q,V,ad,ul,L⟩:=aj (l.stp.unfull Z);have J:k=((A++(q,tc')::(an,uc)::B).map λc=>(⟨c.1,false,0,c.2.blk⟩:En)):=by rw [ae,V,vB,Q.blk];simp
    refine⟨(b,A++(q,tc')::(an,uc)::B),XA g (by omega) aJ a3 Q,⟨?_,λc i=>?_⟩,?_⟩
    .show C'.look D b=zl (zc 4 ((A++(q,tc')::(an,uc)::B).map λc=>(⟨c.1,false,0,c.2.blk⟩:En)));rw [W,J]
    .have i:=i
     have z:∀j∈U++[b],j=b\/j∈tc.blocks:=λj a=>by
      rcases ah.1 a with a|a;.exact .inr (y.sub j a)
      .exact .inl (az.1 a)
     rcases ah.1 i with E|d;.exact x C' m' _ _ st z c (.inl E)
     .rcases ar.1 d with rfl|d;.exact M tc' (λj a=>L.mem_iff.1 (af _ a)) ad
      .rcases ar.1 d with rfl|d;.exact M uc (λj a=>L.mem_iff.1 (av _ a)) ul
       .exact x C' m' _ _ st z c (.inr d)
    .rw [k3,aM];exact jH L
   .obtain⟨k1,bh,k2,k3,W⟩:=l.two aC;refine⟨_,k3,(Jq a2 (by omega)).en k2,λZ=>?_⟩;obtain⟨aG,aO,bb,bj⟩:=W Z;obtain⟨tc',uc,an,Q,V,ad,ul,L⟩:=aj (l.stp.unfull Z);obtain⟨s,K⟩:∃s,A++(q,tc')::(an,uc)::B=s:=⟨_,rfl⟩;have J:k=(s.map λc=>(⟨c.1,false,0,c.2.blk⟩:En)):=by rw [ae,V,<-K,vB,Q.blk];simp
    have ac:k.length=7:=by omega
    have bv:s.length=7:=by rw [J] at ac;simpa using ac
    have a8:(A++(q,tc)::B).length=6:=by omega
    have bk:(s.map Prod.fst)[3]? =some (k.getD (k.length/2) gR).pl:=by rw [ac,J,aA,l0,l0,aH (by omega)];rfl
    have ap:∀c∈s,c.2.LayV zl (λj=>C'.look D (j:Nat)):=λc i=>by
     rw [<-K] at i
     have z:∀j∈U++[b],j=b\/j∈tc.blocks:=λj a=>by
      rcases ah.1 a with a|a;.exact .inr (y.sub j a)
      .exact .inl (az.1 a)
     rcases ah.1 i with E|d;.exact x C' m' _ _ st z c (.inl E)
     .rcases ar.1 d with rfl|d;.exact M tc' (λj a=>L.mem_iff.1 (af _ a)) ad
      .rcases ar.1 d with rfl|d;.exact M uc (λj a=>L.mem_iff.1 (av _ a)) ul
       .exact x C' m' _ _ st z c (.inr d)
    rw [ac] at bb bj;refine⟨(b,s.take 3),(bh,s.drop 3),_,XB g a8 k2 aJ a3 Q s K _ bk,rfl,⟨?_,λc i=>ap c (aP i)⟩,⟨?_,λc i=>ap c (eK i)⟩,?_⟩
    .show C'.look D b=zl (zc 4 ((s.take 3).map λc=>(⟨c.1,false,0,c.2.blk⟩:En)));rw [bb,J,iP]
    .show C'.look D bh=zl (zc 4 ((s.drop 3).map λc=>(⟨c.1,false,0,c.2.blk⟩:En)));rw [bj,J,ms]
    .rw [aG];refine uR ?_ 3;rw [<-K];exact jH L
   .refine⟨λw r aq bA ak=>?_⟩;have H:=bD.below r aq (by omega);rw [<-aW] at H;refine(Xy w aF bd S T {D with reads:=r} C ak m (by rw [zF];exact hc.map) aq (2*(h+1)) (by omega) (by show r<=_;omega) b g.1 I ab aE (by omega) aw (by rw [zF];exact aB) e aL (by omega) X R (by rw [zF];exact y.chn.map) (by have:=y.few;omega) A.length bp.symm aY ao aV H k N f v C' m' bc).mono ?_;rintro P w' ⟨k1,⟨n,a5,k2,k3,W,aG⟩,aO⟩;exact⟨k1,⟨n,a5,k2,by omega,W,aG⟩,aO⟩
end prog
namespace prog
open Go.ChangeShapes Go.WideShapes Go.ChangeAt Go.RowKit disk ref
open keys (zh zd zx zq)
theorem qe.of_block{w:World}{g:Nat}{t:TypeId}{a:List En}{P:Nat->Prop}(h:w.heap[g]? =some (.cells (zj a).toArray t (0,0)))(i:P g)(n:a.length<=1000):qe w P (some ⟨g,0,none⟩) a:=by
 refine⟨.inr ⟨g,0,rfl,i,(lT h),λk p=>?_⟩,n⟩;intro j v d;have m:∀b∈a.map qr,b.length=5:=λb f=>by obtain⟨e,_,rfl⟩:=au.1 f;rfl
 have l:j<5:=by have:=(et.1 d).1;simpa [qr] using this
 have o:=X9 5 (a.map qr) m k (by simpa using p);rw [aG w g (0+k*5+j) _ _ _ h]
 have c:((a.map qr).flatten.drop (k*5))[j]? =some v:=by
  have:(((a.map qr).flatten.drop (k*5)).take 5)[j]? =some v:=by rw [o];simpa using d
  rw [lN,aB l] at this;exact this
 rw [lO] at c;rw [eT];simpa [zj] using c
theorem XF(w:World)(c bd:Nat)(S T:Nat->Prop)(D:Dk)(C:Ck)(h:Cw w c bd S T D C)(m:List UInt8)(t:qF (C.look D 2) m)(y:0<=D.reads)(K:D.reads<=4611686018427380000)(e:En)(v:e.Ok)(A:C.ws.length<700)(a:Nat)(l:Ck)(p:List UInt8)(g:C.take D.bs.length m=(a,l,p)):
 Calls Tryz.prog 76 #[.pointer (some ⟨c,0,none⟩),.int .i64 0,.agg (qr e).toArray] w λr w'=>r=.returned (.int .i64 (a:Int))/\(∃(n:Int) (q:Nat->Prop),0<=n/\n<=1/\Cw w' c bd S q {D with reads:=D.reads+n} (l.put a (zl (zc 5 [e])))/\∀j,q j->T j\/w.heap.size<=j)/\za (λj=>j=bd\/T j) w w':=by
 have b:Hid _:=h;have F:Hid e.Ok:=v;change Hid _ at t g;clear h v;have I:=b.disk.lt bd b.disk.bdS;have u:Hid _:=b.chg.lt;unfold qr;go_enter Tryz.func76,Tryz.ntmps76;go_wp2_with fail;have i:Hid (za (λ_=>False) w ((w.alloc (.cells #[.string e.pl.key,.int .i64 e.pl.num,.bool e.mark,.int .i64 (e.size:Int),.int .i64 (e.at_:Int)] 109)).alloc (.cells #[.string e.pl.key,.int .i64 e.pl.num,.bool e.mark,.int .i64 (e.size:Int),.int .i64 (e.at_:Int)] 109))):=za.alloc2 _ _ _;have E:Hid (((w.alloc (.cells #[.string e.pl.key,.int .i64 e.pl.num,.bool e.mark,.int .i64 (e.size:Int),.int .i64 (e.at_:Int)] 109)).alloc (.cells #[.string e.pl.key,.int .i64 e.pl.num,.bool e.mark,.int .i64 (e.size:Int),.int .i64 (e.at_:Int)] 109)).heap[w.heap.size+1]? =some (.cells (zj [e]).toArray 109 (0,0))):=eF w _ _;have J:((w.alloc (.cells #[.string e.pl.key,.int .i64 e.pl.num,.bool e.mark,.int .i64 (e.size:Int),.int .i64 (e.at_:Int)] 109)).alloc (.cells #[.string e.pl.key,.int .i64 e.pl.num,.bool e.mark,.int .i64 (e.size:Int),.int .i64 (e.at_:Int)] 109)).heap.size=w.heap.size+2:=by simp
 generalize ((w.alloc (.cells #[.string e.pl.key,.int .i64 e.pl.num,.bool e.mark,.int .i64 (e.size:Int),.int .i64 (e.at_:Int)] 109)).alloc (.cells #[.string e.pl.key,.int .i64 e.pl.num,.bool e.mark,.int .i64 (e.size:Int),.int .i64 (e.at_:Int)] 109))=N at*;refine(Q0 N c bd S T D C (b.kept0 i) m t y (by omega) (λj=>j=w.heap.size+1) (λj o B=>by have:=u.out j B;omega) (λj o L=>by omega) (some ⟨w.heap.size+1,0,none⟩) 1 5 (.inr rfl) [e] 1 rfl (qe.of_block E rfl (by simp)) (λO z=>by rw [az.1 z];exact F) (by simp) (by omega) a l p g).mono ?_;rintro r M ⟨rfl,⟨G,H,x,s,f,k⟩,d⟩;change Hid _ at f k d;go_wp2;go_ret;exact⟨rfl,⟨G,H,x,s,f,λj o=>(k j o).imp id (λh=>by omega)⟩,(i.mono fE).trans d iL⟩
theorem bj(w:World)(b bd:Nat)(S T:Nat->Prop)(D:Dk)(C:Ck)(r:Int)(h:Cw w b bd S T {D with reads:=r} C)(q:0<=r)(e:En)(k a:Nat)(t:a≠0)(p:r+k<=4611686018427370000)(C':Ck)(s:vA b bd S T D C k a e false qx C'):
 Calls Tryz.prog 76 #[.pointer (some ⟨b,0,none⟩),.int .i64 a,.agg (qr e).toArray] w λA w'=>A=.returned (.int .i64 (a:Int))/\(∃(n:Int) (l:Nat->Prop),0<=n/\n<=(2*(k+1):Nat)/\Cw w' b bd S l {D with reads:=r+n} C'/\∀j,l j->T j\/w.heap.size<=j)/\za (λj=>j=bd\/T j) w w':=by
 have u:Hid _:=h;change Hid _ at s;clear h;have E:((a:Int)==0)=false:=by simp;omega
 unfold qr;go_enter Tryz.func76,Tryz.ntmps76;go_wp2_with fail;have g:Hid (za (λ_=>False) w (w.alloc (.cells #[.string e.pl.key,.int .i64 e.pl.num,.bool e.mark,.int .i64 (e.size:Int),.int .i64 (e.at_:Int)] 109))):=za.alloc _ _ _;have B:(w.alloc (.cells #[.string e.pl.key,.int .i64 e.pl.num,.bool e.mark,.int .i64 (e.size:Int),.int .i64 (e.at_:Int)] 109)).heap.size=w.heap.size+1:=by simp
 generalize (w.alloc (.cells #[.string e.pl.key,.int .i64 e.pl.num,.bool e.mark,.int .i64 (e.size:Int),.int .i64 (e.at_:Int)] 109))=F at*;refine(s.go F r q p (u.kept0 g)).mono ?_;rintro A v ⟨rfl,⟨y,z,o,m,f,i⟩,d⟩;change Hid _ at f i d;unfold qx;go_wp2;go_ret;have c:=za.alloc (λ_=>False) v (.cells #[.string ⟨#[]⟩,.int .i64 0,.bool false,.int .i64 0,.int .i64 0] 109);exact⟨rfl,⟨y,z,o,m,f.kept0 c,λj x=>(i j x).imp id (λh=>by omega)⟩,((g.mono fE).trans d iL).trans c fE⟩
theorem da(w:World)(o bd:Nat)(S T:Nat->Prop)(D:Dk)(C:Ck)(r:Int)(h:Cw w o bd S T {D with reads:=r} C)(M:0<=r)(e:En)(s b:Nat)(R:b≠0)(k:b<65536)(U:s<=100)(O:r+s<=4611686018427370000)(d:Ck)(a:En)(v:a.Ok)(P:vA o bd S T D C s b e true (qr a) d)(m:List UInt8)(L:qF (d.look D 2) m)(Z:d.ws.length<700)(q:Nat)(H:Ck)(J:List UInt8)(z:d.take D.bs.length m=(q,H,J)):
 Calls Tryz.prog 76 #[.pointer (some ⟨o,0,none⟩),.int .i64 b,.agg (qr e).toArray] w λQ w'=>Q=.returned (.int .i64 (q:Int))/\(∃(n:Int) (K:Nat->Prop),0<=n/\n<=(2*(s+1)+1:Nat)/\Cw w' o bd S K {D with reads:=r+n} (H.put q (zl (zc 4 [⟨ye,false,0,b⟩,a])))/\∀j,K j->T j\/w.heap.size<=j)/\za (λj=>j=bd\/T j) w w':=by
 have G:Hid _:=h;have I:Hid a.Ok:=v;change Hid _ at P L z;clear h v;have af:=G.disk.lt bd G.disk.bdS;have am:((b:Int)==0)=false:=by simp;omega
 unfold qr;go_enter Tryz.func76,Tryz.ntmps76;go_wp2_with fail;have B:Hid (za (λ_=>False) w (w.alloc (.cells #[.string e.pl.key,.int .i64 e.pl.num,.bool e.mark,.int .i64 (e.size:Int),.int .i64 (e.at_:Int)] 109))):=za.alloc _ _ _;have ah:(w.alloc (.cells #[.string e.pl.key,.int .i64 e.pl.num,.bool e.mark,.int .i64 (e.size:Int),.int .i64 (e.at_:Int)] 109)).heap.size=w.heap.size+1:=by simp
 generalize (w.alloc (.cells #[.string e.pl.key,.int .i64 e.pl.num,.bool e.mark,.int .i64 (e.size:Int),.int .i64 (e.at_:Int)] 109))=an at*;refine(P.go an r M O (G.kept0 B)).mono ?_;rintro Q c ⟨rfl,⟨t,ae,ai,ag,i,p⟩,g⟩;change Hid _ at i p g;unfold qr;go_wp2_with fail;have A:Hid (za (λ_=>False) c ((c.alloc (.cells #[.string a.pl.key,.int .i64 a.pl.num,.bool a.mark,.int .i64 (a.size:Int),.int .i64 (a.at_:Int)] 109)).alloc (.cells #[.string ⟨#[]⟩,.int .i64 0,.bool false,.int .i64 0,.int .i64 (b:Int),.string a.pl.key,.int .i64 a.pl.num,.bool a.mark,.int .i64 (a.size:Int),.int .i64 (a.at_:Int)] 109))):=za.alloc2 _ _ _;have ac:Hid (((c.alloc (.cells #[.string a.pl.key,.int .i64 a.pl.num,.bool a.mark,.int .i64 (a.size:Int),.int .i64 (a.at_:Int)] 109)).alloc (.cells #[.string ⟨#[]⟩,.int .i64 0,.bool false,.int .i64 0,.int .i64 (b:Int),.string a.pl.key,.int .i64 a.pl.num,.bool a.mark,.int .i64 (a.size:Int),.int .i64 (a.at_:Int)] 109)).heap[c.heap.size+1]? =some (.cells (zj [⟨ye,false,0,b⟩,a]).toArray 109 (0,0))):=eF c _ _;have aj:((c.alloc (.cells #[.string a.pl.key,.int .i64 a.pl.num,.bool a.mark,.int .i64 (a.size:Int),.int .i64 (a.at_:Int)] 109)).alloc (.cells #[.string ⟨#[]⟩,.int .i64 0,.bool false,.int .i64 0,.int .i64 (b:Int),.string a.pl.key,.int .i64 a.pl.num,.bool a.mark,.int .i64 (a.size:Int),.int .i64 (a.at_:Int)] 109)).heap.size=c.heap.size+2:=by simp
 generalize ((c.alloc (.cells #[.string a.pl.key,.int .i64 a.pl.num,.bool a.mark,.int .i64 (a.size:Int),.int .i64 (a.at_:Int)] 109)).alloc (.cells #[.string ⟨#[]⟩,.int .i64 0,.bool false,.int .i64 0,.int .i64 (b:Int),.string a.pl.key,.int .i64 a.pl.num,.bool a.mark,.int .i64 (a.size:Int),.int .i64 (a.at_:Int)] 109))=V at*;have Y:=g.size;have F:Hid _:=i.chg.lt;have N:Hid (qF (d.look {D with reads:=r+t} 2) m):=by show qF _ _;rw [zF];exact L.out
 refine(Q0 V o bd S ae _ d (i.kept0 A) m N (by show 0<=r+t;omega) (by show r+t<=_;omega) (λj=>j=c.heap.size+1) (λj l aa=>by have:=F.out j aa;omega) (λj l al=>by omega) (some ⟨c.heap.size+1,0,none⟩) 2 4 (.inl rfl) [⟨ye,false,0,b⟩,a] 2 rfl (qe.of_block ac rfl (by simp)) (λQ E=>by
  rcases ar.1 E with rfl|E;.exact⟨by simp [ye],by simp [ye],by simp [ye],by simp [ye],by simp,by simp,k⟩
  .rw [az.1 E];exact I) (by simp) (by omega) q H J z).mono ?_
 rintro Q ak ⟨rfl,⟨ab,X,ad,W,x,y⟩,u⟩;change Hid _ at x y u;go_wp2;go_ret;refine⟨rfl,⟨t+ab,X,by omega,by omega,?_,λj l=>?_⟩,?_⟩
 .have:=x.out;simp only [a9] at this;exact this
 .rcases y j l with f|f;.exact(p j f).imp id (λh=>by omega)
  .exact .inr (by omega)
 .have k1:=((B.mono fE).trans g iL).trans A fE
  exact k1.trans u (λj l=>by
   rcases l with f|f;.exact .inl (.inl f)
   .rcases p j f with h2|h2;.exact .inl (.inr h2)
    .exact .inr (by omega))
end prog
namespace prog
open Go.RowKit disk ref
variable {e:En}
def qY(rd:Nat->List Value)(root:Nat)(es:List En)(bs:List Nat):Prop:=
 (root=0/\es=[]/\bs=[])\/∃(h:Nat) (t:Tr h),t.Root/\t.LayV zl rd/\t.blk=root/\t.ents=es/\t.blocks=bs
theorem dY.root{h:Nat}{t a:Tr h}(k:dY t e a)(r:t.Root)(b:∀c∈t.ents,c.pl≠e.pl):a.Root where
 good:=k.good
 hi:=k.hi
 one:=aD r.one k.lo
 two:=λh=>aD (r.two h) k.lo
 first:=k.first _ r.first
 srt:=by rw [k.ents];exact r.srt.ins b
theorem U0:ye.Ok:=⟨by simp [ye],by simp [ye],by simp [ye],by simp [ye]⟩
theorem fJ.root{h:Nat}{t a u:Tr h}{q:Pl}(k:fJ t e a u q)(r:t.Root)(s:∀d∈t.ents,d.pl≠e.pl)(j:∀d∈yu e t.ents,¬d.pl.lt ye=true){m:Nat}(l:m<65536):
 Tr.Root (h:=h+1) (m,[(ye,a),(q,u)]):=by
 have w:zI [(ye,a),(q,u)]=yu e t.ents:=by rw [<-k.ents];simp [zI]
 have n:∀d∈a.ents,¬d.pl.lt ye=true:=λd f=>j d (by rw [<-k.ents];exact af _ f);obtain⟨d,f⟩:=k.good.some_ent (by have:=k.lo;omega);have o:ye.lt q=true:=Pl.lt_of_not (n d f) (k.left d f);have v:Kids [(q,u)]:=Kids.nil.cons k.goodu k.hiu k.qok k.firstu k.right (λ_ h=>nomatch h) (λ_ h=>nomatch h);have p:Kids [(ye,a),(q,u)]:=v.cons k.good k.hi U0 (k.first _ r.first) n (λb g=>by rw [az.1 g];exact o) (λb g=>by rw [az.1 g];exact k.left);refine⟨p.node (λc i=>?_) l,?_,?_,λ_=>?_,⟨a,[(q,u)],rfl⟩,?_⟩
 .rcases ar.1 i with rfl|i;.exact k.lo
  .rw [az.1 i];exact k.lou
 .exact aD (eE (zy _ _)) (by simp)
 .exact aD (by simp) (eE (zy _ _).symm)
 .exact aD (by simp) (eE (zy _ _).symm)
 .show yL (zI [(ye,a),(q,u)]);rw [w];exact r.srt.ins s
theorem Kt(c:e.Ok){b:Nat}(a:b<65536):Tr.Root (h:=0) (b,[e]) where
 good:=⟨a,λf d=>by rw [az.1 d];exact c⟩
 hi:=by show 1<=6;omega
 one:=by show 1<=1;omega
 two:=λh=>by omega
 first:=eI
 srt:=List.pairwise_singleton _ _
structure dn (D:Dk) (C C':Ck) (m m':List UInt8) (root':Nat) (e:En) (es:List En) (bs pb nb:List Nat):Prop where
 chn:XC D C' m'
 stp:bZ D C C' m m' pb nb
 sub:∀j∈pb,j∈bs
 nl:nb.length<=bs.length+1
 few:C'.ws.length<=C.ws.length+100
 tree:C'.full=false->∃bs',qY (λj=>C'.look D (j:Nat)) root' (yu e es) bs'/\bs'.Perm (bs++nb)/\∃h,pb.length+nb.length<=2*h+1/\3^h<=bs'.length
 lt:root'<65536
structure XG (bc bd:Nat) (S T:Nat->Prop) (D:Dk) (C:Ck) (root:Nat) (e:En) (root':Nat) (C':Ck):Prop where
 go:∀(w:World) (r:Int),0<=r->r<=4611686018427360000->Cw w bc bd S T {D with reads:=r} C->
  Calls Tryz.prog 76 #[.pointer (some ⟨bc,0,none⟩),.int .i64 root,.agg (qr e).toArray] w λx w'=>x=.returned (.int .i64 (root':Int))/\(∃(n:Int) (T':Nat->Prop),0<=n/\n<=15/\Cw w' bc bd S T' {D with reads:=r+n} C'/\∀j,T' j->T j\/w.heap.size<=j)/\za (λj=>j=bd\/T j) w w'
theorem Yd(N bd:Nat)(S T:Nat->Prop)(D:Dk)(G:D.bs.length<=1000)(e:En)(Z:e.Ok)(F:¬e.pl.lt ye=true)(C:Ck)(m:List UInt8)(M:Nat)(P:List En)(bs:List Nat)(hF:qY (λj=>C.look D (j:Nat)) M P bs)(am:bs.Nodup)
 (p:∀j∈bs,21<=j/\zT m (j-21)=true) (au:bs.length<=979) (x:XC D C m) (ag:∀O∈P,¬O.pl.lt ye=true) (ad:∀O∈P,O.pl≠e.pl) (aF:C.ws.length<500):
 ∃E C' m' U nb,dn D C C' m m' E e P bs U nb/\XG N bd S T D C M e E C':=by
 rcases hF with⟨rfl,rfl,rfl⟩|⟨h,t,k,aD,rfl,rfl,rfl⟩
 .obtain⟨b,y,I,nb,p,a⟩:=uS x G;have i:=a.lt G;refine⟨b,y.put b (zl (zc 5 [e])),I,[],nb,⟨a.chn.put i.2 _,a.stp.taken _ a.mem,λ_ h=>(nomatch h),by have:=a.len;simpa using this,?_,λo=>?_,i.1⟩,⟨λw r J l z=>?_⟩⟩
  .have:=qw y b (zl (zc 5 [e]));have:=a.few;omega
  .rw [qI] at o;rcases a.is with⟨rfl,l,h2,_⟩|⟨_,_,l⟩;.exact⟨[b],.inr ⟨0,(b,[e]),Kt Z i.1,qn _ _ _ _,rfl,rfl,rfl⟩,eR _,0,by simp,by simp⟩
   .rw [l] at o;cases o
  .refine(XF w N bd S T {D with reads:=r} C z m (by rw [zF];exact x.map) J (by show r<=_;omega) e Z (by omega) b y I p).mono ?_;rintro O w' ⟨l,⟨n,K,h2,ao,V,aq⟩,an⟩;exact⟨l,⟨n,K,h2,by omega,V,aq⟩,an⟩
 .have an:=k.low au;obtain⟨f,v,R,X,U,nb,s,aN⟩:=Yc N bd S T D G e Z h t C m (by omega) k.good k.one k.hi k.srt am p aD x ⟨ye,k.first,F⟩ ad (by omega);have aB:=(p t.blk t.blk_mem).1;have aK:=k.many;have aJ:=UY h
  cases f with
  |false=>
   obtain⟨rfl,ai⟩:=s.one rfl;refine⟨t.blk,R,X,U,nb,⟨s.chn,s.stp,s.sub,?_,by have:=s.few;omega,λo=>?_,k.good.blk⟩,⟨λw r J l z=>?_⟩⟩;.have:=s.nl;simp at this;omega
   .obtain⟨g,B,Y,H⟩:=ai o;have A:=B.root k ad;exact⟨g.blocks,.inr ⟨h,g,A,Y,B.blk,B.ents,rfl⟩,H,h,by have:=s.nl;have:=s.pl;simp at *; omega,A.many⟩
   .refine(bj w N bd S T D C r z J e h t.blk (by omega) (by omega) R aN).mono ?_;rintro O w' ⟨k1,⟨n,K,k2,k3,ac,al⟩,aj⟩;exact⟨k1,⟨n,K,k2,by omega,ac,al⟩,aj⟩
  |true=>
   obtain⟨ae,rfl,aw,aa⟩:=s.two rfl;obtain⟨b,y,I,ax,ab,a⟩:=uS s.chn G;have i:=a.lt G;have st:=s.stp.trans a.stp;rw [aM] at st;have aA:=s.few;have aL:=a.len;refine⟨b,y.put b (zl (zc 4 [⟨ye,false,0,t.blk⟩,ae])),I,U,nb++ax,⟨a.chn.put i.2 _,st.taken _ (a.mem.imp (av _) id),s.sub,?_,?_,λo=>?_,i.1⟩,⟨λw r J l z=>?_⟩⟩;.have:=s.nl;simp at this ⊢;omega
   .have:=qw y b (zl (zc 4 [⟨ye,false,0,t.blk⟩,ae]));have:=a.few;omega
   .rw [qI] at o;rcases a.is with⟨rfl,l,h2,_⟩|⟨_,_,l⟩
    .obtain⟨g,u,q,B,rfl,Y,ul,H⟩:=aa (a.stp.unfull o)
     have Q:∀O∈yu e t.ents,¬O.pl.lt ye=true:=λO W=>by
      rcases j6.1 W with rfl|W;.exact F
      .exact ag O W
     have A:=B.root k ad Q i.1
     have ap:∀j,j∈t.blocks++nb->21<=j/\zT X (j-21)=true:=λj d=>by
      rcases ah.1 d with d|d;.exact⟨(p j d).1,s.stp.grew.keeps (p j d).2⟩
      .have:=s.stp.grew.fresh j d;refine⟨this.1,?_⟩;rw [s.stp.grew.taken,show j-21+21=j from by omega];simp [d]
     have L:∀(aC:Tr h),(∀j∈aC.blocks,j∈t.blocks++nb)->aC.LayV zl (λj=>R.look D (j:Nat))->aC.LayV zl (λj=>(y.put b (zl (zc 4 [⟨ye,false,0,t.blk⟩,⟨q,false,0,u.blk⟩]))).look D (j:Nat)):=λaC aI ay=>ay.congr (λj d=>by
      have ao:=ap j (aI j d);have V:=a.stp.grew.apart ao.2;have aq:j≠b:=λaG=>V (by rw [aG];simp);rw [zZ _ _ _ _ _ (by omega)]
      exact a.stp.look j (λh=>nomatch h) V (by omega) (by omega))
     have aH:(Tr.blocks (h:=h+1) (b,[(ye,g),(q,u)])).Perm (t.blocks++(nb++[b])):=by
      show (b::zE [(ye,g),(q,u)]).Perm _;have aE:zE [(ye,g),(q,u)]=g.blocks++u.blocks:=by simp [zE]
      rw [aE,<-ak];exact(H.cons b).trans (eM (l₁:=[b]))
     refine⟨_,.inr ⟨h+1,(b,[(ye,g),(q,u)]),A,⟨?_,λc x=>?_⟩,rfl,?_,rfl⟩,aH,h+1,?_,A.many⟩
     .show (y.put b _).look D b=zl (zc 4 ([(ye,g),(q,u)].map λc=>(⟨c.1,false,0,c.2.blk⟩:En)));rw [qn];simp [B.blk]
     .have x:c∈[(ye,g),(q,u)]:=x;rcases ar.1 x with rfl|x;.exact L g (λj d=>H.mem_iff.1 (af _ d)) Y
      .rw [az.1 x];exact L u (λj d=>H.mem_iff.1 (av _ d)) ul
     .show zI [(ye,g),(q,u)]=_;rw [<-B.ents];simp [zI]
     .have:=s.nl;have:=s.pl;simp at *; omega
    .rw [l] at o;cases o
   .refine(da w N bd S T D C r z J e h t.blk (by omega) k.good.blk (by omega) (by omega) R ae aw aN X s.chn.map (by omega) b y I ab).mono ?_;rintro O w' ⟨k1,⟨n,K,k2,k3,ac,al⟩,aj⟩;exact⟨k1,⟨n,K,k2,by omega,ac,al⟩,aj⟩
end prog
end Go.Proofs.YtcoengihaobddaaGreatDoor
