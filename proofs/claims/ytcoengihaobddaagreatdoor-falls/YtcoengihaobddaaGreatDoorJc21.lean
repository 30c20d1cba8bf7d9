/- Part 21 of 36 of a proof: Grow1, Log1, Com1, Ins9, Ins10, Ins11 -/
import Derived.Test.YtcoengihaobddaaGreatDoorJc20
set_option maxHeartbeats 8000000
set_option linter.unusedVariables false
set_option linter.unusedSimpArgs false
set_option maxRecDepth 8000
namespace Go.Proofs.YtcoengihaobddaaGreatDoor
namespace prog
open Go.RowKit disk ref
variable {C C':Ck}{i N:Nat}{m m':List UInt8}{nb:List Nat}{D:Dk}
def Ck.keys(C:Ck):List Nat:=C.ws.map Prod.fst
theorem Ck.keys_len(C:Ck):C.keys.length=C.ws.length:=by simp [Ck.keys]
theorem Q7{k:Nat}(b:List Value)(h:yg C.ws i=some k):(C.put i b).keys=C.keys/\i∈C.keys:=by
 obtain⟨a,e⟩:=jy b h;obtain⟨_,_,c⟩:=xH (D:=⟨[],[],0,0⟩) h;rw [e];unfold Ck.keys;refine⟨?_,?_⟩
 .simp only [lU];have:C.ws[k].1=(C.ws.map Prod.fst)[k]'(by simpa using a):=by simp
  rw [this,List.set_getElem_self]
 .have:i=C.ws[k].1:=by omega
  rw [this];exact au.2 ⟨_,ai a,rfl⟩
theorem gR(b:List Value)(h:yg C.ws i=none):(C.put i b).keys=C.keys++[i]/\i∉C.keys:=by
 rw [jJ b h];refine⟨by simp [Ck.keys],λc=>?_⟩;obtain⟨p,a,rfl⟩:=au.1 c;unfold yg at h;rw [im] at h;have:=h p a;simp at this
theorem xl(C:Ck)(i:Nat)(b:List Value):∀k,k∈(C.put i b).keys↔k∈C.keys\/k=i:=λk=>by
 cases a:yg C.ws i with
 |none=>rw [(gR b a).1];simp
 |some j=>
  obtain⟨c,h2⟩:=Q7 b a;rw [c];exact⟨.inl,λh=>h.elim id (λe=>e▸h2)⟩
theorem yM(h:C.keys.Nodup)(i:Nat)(b:List Value):(C.put i b).keys.Nodup:=by
 cases d:yg C.ws i with
 |none=>
  obtain⟨g,h2⟩:=gR b d;rw [g];exact aN.2 ⟨h,by simp,λa f c k e=>by rw [az.1 k] at e;exact h2 (e▸f)⟩
 |some j=>rw [(Q7 b d).1];exact h
theorem qJ(C:Ck)(i:Nat)(b:List Value):(C.put i b).full=C.full:=by
 unfold Ck.put;split<;>rfl
structure uk (N:Nat) (m m':List UInt8) (nb:List Nat):Prop where
 nodup:nb.Nodup
 fresh:∀j∈nb,21<=j/\j<N/\zU m (j-21)=false
 taken:∀i,zU m' i=(zU m i||decide (i+21∈nb))
theorem uk.refl(N:Nat)(m:List UInt8):uk N m m []:=⟨List.nodup_nil,λ_ h=>(by cases h),λi=>by simp⟩
theorem uk.trans{g f:List UInt8}{a b:List Nat}(h:uk N m g a)(k:uk N g f b):uk N m f (a++b) where
 nodup:=aN.2 ⟨h.nodup,k.nodup,λl p q n e=>by
  subst e;have d:=k.fresh l n;have h2:=h.taken (l-21);rw [d.2.2,show l-21+21=l from by omega] at h2
  simp [p] at h2⟩
 fresh:=λj c=>by
  rcases ah.1 c with c|c;.exact h.fresh j c
  .have d:=k.fresh j c;refine⟨d.1,d.2.1,?_⟩;have h2:=h.taken (j-21);rw [d.2.2] at h2
   cases o:zU m (j-21) with
   |false=>rfl
   |true=>rw [o] at h2;simp at h2
 taken:=λi=>by rw [k.taken,h.taken,Bool.or_assoc];simp
theorem uk.keeps(h:uk N m m' nb)(a:zU m i=true):zU m' i=true:=by rw [h.taken,a];rfl
theorem uk.apart(h:uk N m m' nb){j:Nat}(b:zU m (j-21)=true):j∉nb:=λa=>by
 have:=(h.fresh j a).2.2;rw [b] at this;cases this
def Q8(N:Nat)(m:List UInt8):Prop:=∀i,i+21<N->zU m i=true
theorem UZ(C:Ck)(e:N<=1000)(a:m.length=124):
 (∃i,C.take N m=(i+21,C.put 2 (zm (zS (uh m i))),uh m i)/\uk N m (uh m i) [i+21])\/(C.take N m=(0,{C with full:=true},m)/\Q8 N m):=by
 unfold Ck.take
 cases h:uP N m with
 |some i=>
  obtain⟨c,h2,d⟩:=QX h;refine .inl ⟨i,rfl,by simp,λj b=>?_,λj=>?_⟩
  .rw [az.1 b];exact⟨by omega,by omega,by rw [show i+21-21=i from by omega];exact h2⟩
  .rw [Ko (by rw [a];omega)];congr 1;simp
 |none=>
  refine .inr ⟨rfl,λi f=>?_⟩;unfold uP at h;rw [lz] at h;have:=h i (by simp;omega);simpa using this
structure XC (D:Dk) (C:Ck) (m:List UInt8):Prop where
 map:qF (C.look D 2) m
 full:C.full=true->Q8 D.bs.length m
 nodup:C.keys.Nodup
structure bZ (D:Dk) (C C':Ck) (m m':List UInt8) (pb nb:List Nat):Prop where
 grew:uk D.bs.length m m' nb
 full:C.full=true->C'.full=true
 look:∀j:Nat,j∉pb->j∉nb->j≠2->j≠0->C'.look D j=C.look D j
 keys:∀k∈C'.keys,k∈C.keys\/k∈pb\/k∈nb\/k=2\/(k=0/\C'.full=true)
theorem bZ.refl(D:Dk)(C:Ck)(m:List UInt8):bZ D C C m m [] []:=⟨uk.refl _ _,id,λ_ _ _ _ _=>rfl,λ_ h=>.inl h⟩
theorem bZ.trans{p n:Ck}{q e:List UInt8}{d i g l:List Nat}(h:bZ D C p m q d g)(k:bZ D p n q e i l):bZ D C n m e (d++i) (g++l) where
 grew:=h.grew.trans k.grew
 full:=λb=>k.full (h.full b)
 look:=λj c h2 o f=>by rw [ah,not_or] at c h2;rw [k.look j c.2 h2.2 o f,h.look j c.1 h2.1 o f]
 keys:=λr a=>by
  simp only [ah];rcases k.keys r a with a|a|a|a|⟨a,b⟩
  .rcases h.keys r a with a|a|a|a|⟨a,b⟩;.exact .inl a
   .exact .inr (.inl (.inl a))
   .exact .inr (.inr (.inl (.inl a)))
   .exact .inr (.inr (.inr (.inl a)))
   .exact .inr (.inr (.inr (.inr ⟨a,k.full b⟩)))
  .exact .inr (.inl (.inr a))
  .exact .inr (.inr (.inl (.inr a)))
  .exact .inr (.inr (.inr (.inl a)))
  .exact .inr (.inr (.inr (.inr ⟨a,b⟩)))
theorem bZ.unfull{p n:List Nat}(h:bZ D C C' m m' p n)(a:C'.full=false):C.full=false:=by
 cases b:C.full with
 |false=>rfl
 |true=>rw [h.full b] at a;cases a
theorem bZ.put(D:Dk)(C:Ck)(m:List UInt8)(i:Nat)(b:List Value):bZ D C (C.put i b) m m [i] [] where
 grew:=uk.refl _ _
 full:=λh=>by rw [qJ];exact h
 look:=λj c _ _ _=>z9 C D i b j (λe=>c (by rw [az];omega))
 keys:=λk a=>((xl C i b k).1 a).elim .inl (λe=>.inr (.inl (by rw [e];simp)))
theorem XC.put(h:XC D C m)(c:i≠2)(b:List Value):XC D (C.put i b) m:=
 ⟨h.map.put i b c,λa=>h.full (by rw [qJ] at a;exact a),yM h.nodup i b⟩
theorem bZ.taken{f:List Nat}(h:bZ D C C' m m' f nb)(b:List Value)(a:i∈nb\/(i=0/\C'.full=true)):bZ D C (C'.put i b) m m' f nb where
 grew:=h.grew
 full:=λd=>by rw [qJ];exact h.full d
 look:=λj l h2 n g=>by rw [z9 C' D i b j (λe=>by rcases a with a|⟨a,_⟩;exact h2 (by rw [show j=i from by omega];exact a);omega)];exact h.look j l h2 n g
 keys:=λk c=>by
  rw [qJ];rcases (xl C' i b k).1 c with c|rfl;.exact h.keys k c
  .rcases a with a|⟨a,d⟩;.exact .inr (.inr (.inl a))
   .exact .inr (.inr (.inr (.inr ⟨a,d⟩)))
structure GX (D:Dk) (C:Ck) (m:List UInt8) (ta:Nat) (C':Ck) (m':List UInt8) (nb:List Nat):Prop where
 chn:XC D C' m'
 stp:bZ D C C' m m' [] nb
 len:nb.length<=1
 few:C'.ws.length<=C.ws.length+1
 is:(nb=[ta]/\21<=ta/\ta<D.bs.length/\C'.full=C.full)\/(nb=[]/\ta=0/\C'.full=true)
theorem GX.mem{a:Nat}(h:GX D C m a C' m' nb):a∈nb\/(a=0/\C'.full=true):=by
 rcases h.is with⟨rfl,_⟩|⟨_,b,h2⟩;.exact .inl (by simp)
 .exact .inr ⟨b,h2⟩
theorem GX.lt{a:Nat}(h:GX D C m a C' m' nb)(c:D.bs.length<=1000):a<65536/\a≠2:=by
 rcases h.is with⟨_,b,h2,_⟩|⟨_,b,_⟩;.omega
 .omega
theorem uT(h:XC D C m)(l:D.bs.length<=1000):∃c C' m' nb,C.take D.bs.length m=(c,C',m')/\GX D C m c C' m' nb:=by
 rcases UZ C l h.map.len with⟨i,e,g⟩|⟨e,d⟩
 .refine⟨_,_,_,[i+21],e,⟨⟨?_,λb=>?_,yM h.nodup _ _⟩,⟨g,λb=>by rw [qJ];exact b,λj _ _ h2 _=>z9 C D 2 _ j (by omega),λk a=>?_⟩,by simp,qy _ _ _,.inl ⟨rfl,by omega,(g.fresh _ (by simp)).2.1,qJ _ _ _⟩⟩⟩
  .have:=h.map.take (N:=D.bs.length);rw [e] at this;exact this
  .rw [qJ] at b;exact λi f=>g.keeps (h.full b i f)
  .rcases (xl C 2 _ k).1 a with a|a;.exact .inl a
   .exact .inr (.inr (.inr (.inl a)))
 .refine⟨_,_,_,[],e,⟨⟨h.map,λ_=>d,h.nodup⟩,⟨uk.refl _ _,λ_=>rfl,λ_ _ _ _ _=>rfl,λk a=>.inl a⟩,by simp,by simp,.inr ⟨rfl,rfl,rfl⟩⟩⟩
structure Dr (D:Dk) (C:Ck) (m:List UInt8) (at_ k:Nat) (es:List En) (f:Bool) (v:List Value) (C':Ck) (m':List UInt8) (nb:List Nat):Prop where
 chn:XC D C' m'
 stp:bZ D C C' m m' [at_] nb
 len:nb.length<=if f then 1 else 0
 few:C'.ws.length<=C.ws.length+3
 one:f=false->es.length<=6/\v=qz/\nb=[]/\C'.look D at_=zm (zc k es)
 two:f=true->6<es.length/\∃ta,ta<65536/\v=qt ⟨(es.getD (es.length/2) gQ).pl,false,0,ta⟩/\(C'.full=false->nb=[ta]/\21<=ta/\C'.look D at_=zm (zc k (es.take (es.length/2)))/\C'.look D ta=zm (zc k (es.drop (es.length/2))))
theorem Q9(h:XC D C m)(t:D.bs.length<=1000)(a k:Nat)(g:a≠2)(x:21<=a)(o:zU m (a-21)=true)(b:List En):∃f v C' m' nb,C.more D.bs.length m a k b=(f,v,C',m')/\Dr D C m a k b f v C' m' nb:=by
 unfold Ck.more;by_cases l:b.length<=6
 .rw [aB l];exact⟨_,_,_,_,[],rfl,⟨h.put g _,bZ.put D C m a _,by simp,by have:=qy C a (zm (zc k b));omega,λ_=>⟨l,rfl,rfl,qn _ _ _ _⟩,λh=>by cases h⟩⟩
 .rw [aw l];obtain⟨q,n,u,nb,e,c⟩:=uT h t;simp only [Ck.split,e];have d:=c.lt t;have r:a∉nb:=c.stp.grew.apart o;have s:=c.stp.trans (bZ.put D n u a (zm (zc k (b.take (b.length/2)))));rw [aK,aM] at s;have w:=s.taken (i:=q) (zm (zc k (b.drop (b.length/2)))) (c.mem.imp id (λh=>⟨h.1,by rw [qJ];exact h.2⟩));refine⟨_,_,_,_,nb,rfl,⟨(c.chn.put g _).put d.2 _,w,by simpa using c.len,?_,λh=>(by cases h),λ_=>⟨by omega,q,d.1,rfl,λj=>?_⟩⟩⟩
  .have:=qy (n.put a (zm (zc k (b.take (b.length/2))))) q (zm (zc k (b.drop (b.length/2))));have:=qy n a (zm (zc k (b.take (b.length/2))));have:=c.few;omega
  .rw [qJ,qJ] at j;rcases c.is with⟨rfl,p,_⟩|⟨_,_,p⟩
   .refine⟨rfl,p,?_,qn _ _ _ _⟩;rw [z9 _ _ _ _ _ (λe=>r (by rw [az];omega)),qn]
   .rw [p] at j;cases j
end prog
namespace prog
open Go.ChangeShapes Go.WideShapes Go.ChangeAt Go.RowKit disk ref
open keys (zh ze zy zs)
variable {w:World}{bd:Nat}{S:Nat->Prop}{D:Dk}
def qm(D:Dk):List (Nat×List Value)->Bool×Dk
 |[]=>(true,D)
 |p::ws=>if D.writes p.1=true then qm (D.write p.1 p.2) ws else (false,D)
def xv(D:Dk)(h:List Value):Bool×Dk:=if D.writes 0=true then (!((D.write 0 h).fuse==0),(D.write 0 h).flush) else (false,D)
def jb:List Value:=zm (Pg.new 1)
def xJ(r:Bool×Dk)(h:List Value):Bool×Dk:=if r.1=true/\r.2.fuse≠0 then xv r.2.flush h else (false,r.2)
def qN(D:Dk)(ws:List (Nat×List Value)):Bool×Dk:=xJ (qm D ws) jb
def qh(ws:List (Nat×List Value)):List (Nat×List Value):=ws.mapIdx λi p=>(3+i,p.2)
def zK(ws:List (Nat×List Value)):Pg:=⟨1,0,ws.map λp=>bytesOf 2 p.1⟩
def qO(D:Dk)(ws:List (Nat×List Value)):Bool×Dk:=xJ (qm D (qh ws)) (zm (zK ws))
def qj(D:Dk)(ws:List (Nat×List Value)):Bool×Dk:=if (qO D ws).1=true then qN (qO D ws).2 ws else qO D ws
structure q9 (w w':World) (bd:Nat) (S:Nat->Prop) (D:Dk):Prop where
 disk:∃S',zg w' bd S' D/\∀k,S' k->S k\/w.heap.size<=k
 kept:za S w w'
theorem q9.refl(h:zg w bd S D):q9 w w bd S D:=⟨⟨S,h,λ_ h=>.inl h⟩,za.refl _ _⟩
theorem q9.trans{b d:World}{S1:Nat->Prop}{D1:Dk}(c:∀k,S1 k->S k\/w.heap.size<=k)(k1:za S w b)(h:q9 b d bd S1 D):q9 w d bd S D:=by
 obtain⟨⟨S',f,h2⟩,g⟩:=h;refine⟨⟨S',f,λk e=>?_⟩,k1.trans g c⟩;rcases h2 k e with a|a;.exact c k a
 .exact .inr (aD k1.size a)
theorem q9.kept0{a b:World}(k1:za (λ_=>False) w a)(h:q9 a b bd S D):q9 w b bd S D:=q9.trans (D1:=D) iL (k1.mono fE) h
theorem jA(a:Int)(b:List Value)(c:zD D.fuse):zD (D.write a b).fuse:=by
 unfold Dk.write;split
 .show zD (qx D.fuse);unfold qx zD at*;split<;>omega
 .exact c
theorem jB(a:zD D.fuse):zD D.flush.fuse:=by
 unfold Dk.flush;split;.exact a
 .show zD (qx D.fuse);unfold qx zD at*;split<;>omega
theorem uU(a:Int)(b:List Value):(D.write a b).ps.length<=D.ps.length+1:=by
 unfold Dk.write;split<;>simp
section
attribute [local go_sem ↓] jx
theorem fJ(w:World)(bd:Nat)(S:Nat->Prop)(D:Dk)(h:zg w bd S D)(b:List Value)(v:zT b)(o:zD D.fuse)(t:D.ps.length<=68719476736):
 Calls Tryz.prog 147 #[.pointer (some ⟨bd,0,none⟩),.agg b.toArray] w λe w'=>e=.returned (.bool (xv D b).1)/\q9 w w' bd S (xv D b).2:=by
 have E:Hid (zg w bd S D):=h;have r:Hid (zT b):=v;have C:=v.1;have c:Hid (za (λ_=>False) w (w.alloc (.cells b.toArray 154))):=za.alloc _ _ _;have I:(uL (.pointer (some ⟨w.heap.size,0,none⟩))).run Tryz.prog (w.alloc (.cells b.toArray 154))=.ok (.agg b.toArray) (w.alloc (.cells b.toArray 154)):=xN _ _ _ b (zR (ac w _)) C;clear h v
 cases u:D.writes 0 with
 |true=>
  have a:Hid _:=u;go_enter Tryz.func147,Tryz.ntmps147
  go_wp2_with (first
   |(go_at_call 146;refine(yX _ bd S D (E.kept c nF) 0 (by constructor<;>omega) b r o t).mono ?_;rintro e z ⟨rfl,⟨S1,g,f⟩,d⟩;rw [a.out];have n:Hid (zg z bd S1 (D.write 0 b)):=g;have j:Hid _:=f;have m:Hid _:=d;clear g f d)
   |(go_at_call 40;refine(yY _ bd S1 _ n (jA _ _ o)).mono ?_;rintro e H ⟨rfl,⟨B,p,s⟩,q⟩;have A:Hid (zg H bd B (D.write 0 b).flush):=p;change Hid _ at s q;clear p))
  go_ret;have x:xv D b=(!((D.write 0 b).fuse==0),(D.write 0 b).flush):=aB a.out;rw [x]
  have F:∀k,S1 k->S k\/w.heap.size<=k:=λk i=>by
   rcases j k i with l|l;.exact .inl l
   .right;have:=c.size;omega
  exact⟨rfl,⟨B,A,λk i=>F k (s k i)⟩,((c.mono fE).trans m iL).trans q F⟩
 |false=>
  have a:Hid _:=u;go_enter Tryz.func147,Tryz.ntmps147;go_wp2_with (go_at_call 146;refine(yX _ bd S D (E.kept c nF) 0 (by constructor<;>omega) b r o t).mono ?_;rintro e z ⟨rfl,⟨S1,g,f⟩,d⟩;rw [a.out];have n:Hid _:=g;have j:Hid _:=f;have m:Hid _:=d;clear g f d);go_ret;have x:xv D b=(false,D):=aw (by rw [a.out];simp)
  have G:D.write 0 b=D:=by have:=a.out;unfold Dk.writes at this;unfold Dk.write;rw [aw (iF this)]
  rw [x];have y:=n.out;rw [G] at y;refine⟨rfl,⟨S1,y,λk i=>?_⟩,(c.mono fE).trans m iL⟩;rcases j k i with l|l;.exact .inl l
  .right;have:=c.size;omega
end
end prog
namespace prog
open Go.RowKit disk ref
variable {D:Dk}{i j:Nat}
def fY:Ck:=⟨[],false⟩
theorem yH(D:Dk)(i:Int):fY.look D i=D.look i:=kg rfl
theorem Za:qx (-1)= -1:=by decide
theorem dZ(a:D.fuse= -1)(c:i<D.bs.length)(b:List Value):D.writes (i:Int)=true/\D.write (i:Int) b={D with ps:=D.ps++[(i,b)]}:=by
 have h:0<=(i:Int)/\(i:Int)<D.bs.length/\D.fuse≠0:=⟨by omega,by omega,by omega⟩;refine⟨by unfold Dk.writes;simpa using h,?_⟩;unfold Dk.write;rw [aB h,a,Za,<-a];rfl
theorem kE(a:D.fuse= -1):D.flush={D with bs:=zn D.bs D.ps,ps:=[]}:=by
 unfold Dk.flush;rw [aw (by omega),a,Za,<-a]
theorem bf:∀(ws:List (Nat×List Value)) (D:Dk),D.fuse= -1->(∀p∈ws,p.1<D.bs.length)->qm D ws=(true,{D with ps:=D.ps++ws })
 |[],D,_,_=>by simp [qm]
 |p::ws,D,hf,h=>by obtain⟨a,h2⟩:=dZ hf (h p (al ..)) p.2;unfold qm;rw [aB a,h2,bf ws {D with ps:=D.ps++[(p.1,p.2)]} hf (λq b=>h q (am _ b))];simp
theorem XD(a:D.fuse= -1)(f:D.ps=[])(h:0<D.bs.length)(b:List Value):xv D b=(true,{D with bs:=D.bs.set 0 b }):=by
 obtain⟨g,h2⟩:=dZ a h b;have d:D.writes 0=true:=g;have c:D.write 0 b={D with ps:=D.ps++[(0,b)]}:=h2;unfold xv;rw [aB d,c,kE (D:={D with ps:=D.ps++[(0,b)] }) a,f];have e:(!(D.fuse==0))=true:=by rw [a];rfl
 show (!(D.fuse==0),_)=_;rw [e];simp only [zn,aK,lM,List.foldl_nil]
theorem bg(a:D.fuse= -1)(c:D.ps=[])(d:0<D.bs.length)(ws:List (Nat×List Value))(h:∀p∈ws,p.1<D.bs.length)(b:List Value):xJ (qm D ws) b=(true,{D with bs:=(zn D.bs ws).set 0 b }):=by
 rw [bf ws D a h];unfold xJ;rw [aB ⟨rfl,by show D.fuse≠0;omega⟩,kE (D:={D with ps:=D.ps++ws }) a,XD (D:={D with bs:=zn D.bs (D.ps++ws),ps:=[] }) a rfl (by show 0<(zn _ _).length;rw [zC];exact d)];rw [c];simp
def up(bs:List (List Value))(ws:List (Nat×List Value)):List (List Value):=(zn ((zn bs (qh ws)).set 0 (zm (zK ws))) ws).set 0 jb
theorem ji(bs:List (List Value))(ws:List (Nat×List Value)):(up bs ws).length=bs.length:=by unfold up;rw [ew,zC,ew,zC]
theorem vi{ws:List (Nat×List Value)}(h:ws.length<=18):∀p∈qh ws,3<=p.1/\p.1<21:=λp a=>by
 unfold qh at a;obtain⟨i,b,rfl⟩:=List.mem_mapIdx.1 a;simp;omega
theorem XE(c:D.fuse= -1)(b:D.ps=[])(f:21<=D.bs.length){ws:List (Nat×List Value)}(h:∀p∈ws,p.1<D.bs.length)(e:ws.length<=18):(qO D ws).1=true/\qj D ws=(true,{D with bs:=up D.bs ws }):=by
 have d:qO D ws=(true,{D with bs:=(zn D.bs (qh ws)).set 0 (zm (zK ws)) }):=bg c b (by omega) _ (λp a=>by have:=vi e p a;omega) _
 have h2:qj D ws=(true,{D with bs:=up D.bs ws }):=by
  unfold qj;rw [d];have g:((zn D.bs (qh ws)).set 0 (zm (zK ws))).length=D.bs.length:=by rw [ew,zC]
  exact bg (D:={D with bs:=(zn D.bs (qh ws)).set 0 (zm (zK ws)) }) c b (by show 0<((zn _ _).set _ _).length;omega) ws (λp a=>by show p.1<((zn _ _).set _ _).length;have:=h p a;omega) _
 exact⟨by rw [d],h2⟩
theorem yq:∀(ws:List (Nat×List Value)) (bs:List (List Value)),j∉ws.map Prod.fst->(zn bs ws)[j]? =bs[j]?
 |[],_,_=>rfl
 |p::ws,bs,h=>by rw [aO,ar,not_or] at h;show (zn (bs.set p.1 p.2) ws)[j]? =_;rw [yq ws _ h.2,iK (λe=>h.1 e.symm)]
theorem jC{b:List Value}:∀(ws:List (Nat×List Value)) (bs:List (List Value)),(ws.map Prod.fst).Nodup->(j,b)∈ws->j<bs.length->(zn bs ws)[j]? =some b
 |[],_,_,h,_=>(by cases h)
 |p::ws,bs,hn,h,hj=>by
  rw [aO,iM] at hn;show (zn (bs.set p.1 p.2) ws)[j]? =_;rcases ar.1 h with rfl|h;.rw [yq ws _ hn.1,lA hj]
  .exact jC ws _ hn.2 h (by rw [ew];exact hj)
theorem Ya(g:D.ps=[]){C:Ck}(t:C.keys.Nodup)(n:C.ws.length<=18)(v:∀k∈C.keys,k<D.bs.length)(l:j≠0)(x:j<3\/21<=j):Dk.look {D with bs:=up D.bs C.ws} (j:Nat)=C.look D (j:Nat):=by
 have s:=ji D.bs C.ws;by_cases i:j<D.bs.length
 .have c:Dk.look {D with bs:=up D.bs C.ws} (j:Nat)=(up D.bs C.ws).getD j []:=by
   unfold Dk.look;rw [aB ⟨by omega,by show (j:Int)<(up D.bs C.ws).length;omega⟩,g];rfl
  have f:D.look (j:Nat)=D.bs.getD j []:=by unfold Dk.look;rw [aB ⟨by omega,by omega⟩,g];rfl
  rw [c];have w:(up D.bs C.ws)[j]? =(zn ((zn D.bs (qh C.ws)).set 0 (zm (zK C.ws))) C.ws)[j]? :=by unfold up;rw [iK (λe=>l e.symm)]
  rw [aA,w]
  cases a:yg C.ws (j:Nat) with
  |none=>
   rw [kg a,f,aA];have u:j∉C.ws.map Prod.fst:=(gR (C:=C) [] a).2;rw [yq _ _ u,iK (λe=>l e.symm),yq];intro o;obtain⟨p,q,e⟩:=au.1 o;have:=vi n p q;omega
  |some k=>
   obtain⟨b,m,r⟩:=xH (D:=D) a;rw [m]
   have d:(j,C.ws[k].2)∈C.ws:=by
    have:(j,C.ws[k].2)=C.ws[k]:=by ext1<;>simp;omega
    rw [this];exact ai b
   rw [jC C.ws _ t d (by rw [ew,zC];exact i)];rfl
 .have c:Dk.look {D with bs:=up D.bs C.ws} (j:Nat)=zX:=by
   unfold Dk.look;rw [aw (λh=>by have h2:(j:Int)<(up D.bs C.ws).length:=h.2;omega)]
  have f:D.look (j:Nat)=zX:=by unfold Dk.look;rw [aw (λh=>by have:=h.2;omega)]
  rw [c]
  cases a:yg C.ws (j:Nat) with
  |none=>rw [kg a,f]
  |some k=>
   obtain⟨b,m,r⟩:=xH (D:=D) a;have:=v C.ws[k].1 (au.2 ⟨_,ai b,rfl⟩);omega
theorem Yb(a:D.ps=[])(c:0<D.bs.length)(ws:List (Nat×List Value)):Dk.look {D with bs:=up D.bs ws} 0=jb:=by
 have b:=ji D.bs ws;unfold Dk.look;rw [aB ⟨by omega,by show (0:Int)<(up D.bs ws).length;omega⟩,a];show (up D.bs ws).getD 0 []=_;rw [aA];unfold up;rw [lA (by rw [zC,ew,zC];exact c)];rfl
structure vD (bc bd:Nat) (S T:Nat->Prop) (D:Dk) (C:Ck) (h at_:Nat) (e:En) (f:Bool) (v:List Value) (C':Ck):Prop where
 go:∀(w:World) (r:Int),0<=r->r+h<=4611686018427370000->Cw w bc bd S T {D with reads:=r} C->
  Calls Tryz.prog 137 #[.pointer (some ⟨bc,0,none⟩),.int .i64 at_,.agg (qt e).toArray] w λx w'=>x=.returned (.tuple #[.agg v.toArray,.bool f])/\(∃(n:Int) (T':Nat->Prop),0<=n/\n<=(2*(h+1):Nat)/\Cw w' bc bd S T' {D with reads:=r+n} C'/\∀j,T' j->T j\/w.heap.size<=j)/\za (λj=>j=bd\/T j) w w'
theorem vD.below{d bd:Nat}{S T:Nat->Prop}{C:Ck}{h c:Nat}{e:En}{f:Bool}{v:List Value}{C':Ck}(k:vD d bd S T D C h c e f v C')(r:Int)(l:0<=r)(m:r+(h+1:Nat)<=4611686018427370000):
 Below d bd S T {D with reads:=r} C c e (2*(h+1)) f v C':=
 ⟨λg i a b j=>k.go g (r+i) (by omega) (by omega) j⟩
structure GY {h:Nat} (D:Dk) (t:Tr h) (e:En) (C C':Ck) (m m':List UInt8) (f:Bool) (v:List Value) (pb nb:List Nat):Prop where
 chn:XC D C' m'
 stp:bZ D C C' m m' pb nb
 sub:∀j∈pb,j∈t.blocks
 pl:pb.length<=h+1
 nl:nb.length<=h+(if f then 1 else 0)
 few:C'.ws.length<=C.ws.length+3*(h+1)
 one:f=false->v=qz/\(C'.full=false->∃t',dX t e t'/\t'.LayV zm (λj=>C'.look D (j:Nat))/\t'.blocks.Perm (t.blocks++nb))
 two:f=true->∃e1:En,v=qt e1/\e1.Ok/\(C'.full=false->∃t' u q,fI t e t' u q/\e1=⟨q,false,0,u.blk⟩/\t'.LayV zm (λj=>C'.look D (j:Nat))/\u.LayV zm (λj=>C'.look D (j:Nat))/\(t'.blocks++u.blocks).Perm (t.blocks++nb))
theorem Jq{a:List En}(h:∀c∈a,c.Ok)(b:i<a.length):(a.getD i gQ).pl.Ok:=by
 rw [aA,aH b];exact(h _ (ai b)).pl
theorem VY(z bd:Nat)(S T:Nat->Prop)(D:Dk)(Q:D.bs.length<=1000)(e:En)(l:e.Ok)(b:Nat)(a:List En)(C:Ck)(m:List UInt8)(g:Tr.Good (h:=0) (b,a))(u:a.length<=6)(t:yO a)
 (p:21<=b/\zU m (b-21)=true) (M:C.look D b=zm (zc 5 a)) (E:XC D C m) (N:∀F∈a,F.pl≠e.pl) (x:C.ws.length<700):
 ∃f v C' m' K nb,GY (h:=0) D (b,a) e C C' m m' f v K nb/\vD z bd S T D C 0 b e f v C':=by
 obtain⟨f,v,C',m',nb,B,c⟩:=Q9 E Q b 5 (by omega) p.1 p.2 (yx e a);have A:∀F∈yx e a,F.Ok:=Jp g.2 l;have J:=Q5 e a;refine⟨f,v,C',m',[b],nb,⟨c.chn,c.stp,λj O=>O,by simp,by simpa using c.len,by have:=c.few;omega,λs=>?_,λs=>?_⟩,?_⟩
 .obtain⟨i,h2,k,d⟩:=c.one s;exact⟨h2,λ_=>⟨(b,yx e a),VV g l i,d,by rw [k];exact eR _⟩⟩
 .obtain⟨i,I,h2,k,d⟩:=c.two s;refine⟨_,k,(Jq A (by omega)).en h2,λo=>?_⟩;obtain⟨q,R,H,L⟩:=d o;refine⟨(b,(yx e a).take ((yx e a).length/2)),(I,(yx e a).drop ((yx e a).length/2)),_,VW g l h2 t N rfl (by omega) gQ,rfl,H,L,by rw [q];exact eR _⟩
 .refine⟨λw r G i y=>?_⟩;refine(Q1 w z bd S T {D with reads:=r} C y m (by rw [zF];exact E.map) G (by show r<=_;omega) b g.1 a g.2 u t (by rw [zF];exact M) e l x (yx e a) (t.ins_at) f v C' m' B).mono ?_;rintro F w' ⟨i,⟨n,P,h2,k,d,q⟩,u⟩;exact⟨i,⟨n,P,h2,by simpa using k,d,q⟩,u⟩
theorem gT{α:Type}{A e B:List α}{b:α}(h:(b::(A++(e++B))).Nodup):b∉A/\b∉e/\b∉B/\A.Nodup/\e.Nodup/\B.Nodup/\(∀j∈A,j∉e)/\(∀j∈B,j∉e):=by
 rw [iM,aN,aN] at h;obtain⟨a,h2,⟨k,g,i⟩,f⟩:=h;simp only [ah,not_or] at a;exact⟨a.1,a.2.1,a.2.2,h2,k,g,λj d c=>f j d j (af _ c) rfl,λj d c=>i j c j d rfl⟩
theorem vE{h:Nat}(A B:List (Pl×Tr h))(q:Pl)(tc:Tr h):((A++(q,tc)::B).map λc=>(⟨c.1,false,0,c.2.blk⟩:En))=(A.map λc=>(⟨c.1,false,0,c.2.blk⟩:En))++⟨q,false,0,tc.blk⟩::(B.map λc=>(⟨c.1,false,0,c.2.blk⟩:En)):=by simp
theorem GZ{X d:List En}{a:En}(b:i=X.length)(c:i<(X++a::d).length):(X++a::d)[i]=a:=by subst b;simp
theorem GB{X c:List En}{a d:En}(b:i=X.length):(X++a::c).take (i+1)++d::(X++a::c).drop (i+1)=X++a::d::c:=by
 subst b;rw [lE,iW];simp
theorem Yc(an bd:Nat)(S T:Nat->Prop)(D:Dk)(ba:D.bs.length<=1000)(e:En)(aL:e.Ok):∀(h:Nat) (t:Tr h) (C:Ck) (m:List UInt8),h<=100->t.Good->1<=t.items.length->t.items.length<=6->yO t.ents->t.blocks.Nodup->
 (∀j∈t.blocks,21<=j/\zU m (j-21)=true)->t.LayV zm (λj=>C.look D (j:Nat))->XC D C m->(∃p,t.First p/\¬e.pl.lt p=true)->(∀U∈t.ents,U.pl≠e.pl)->C.ws.length+3*(h+1)<700->
 ∃f v C' m' Q nb,GY D t e C C' m m' f v Q nb/\vD an bd S T D C h t.blk e f v C'
 |0,(b,I),C,m,_,g,_,h6,hs,_,htk,hl,hc,_,hn,hfew=>VY an bd S T D ba e aL b I C m g h6 hs (htk b (az.2 rfl)) hl hc hn (by omega)
 |h+1,(b,cs),C,m,hh,g,h1,h6,hs,hnd,htk,hl,hc,hfirst,hn,hfew=>by
  have aY:=aD h1 (eE (zx b cs));have bo:=aD (eE (zx b cs).symm) h6;have aI:Kids cs:=g.kids;obtain⟨A,q,tc,B,rfl,bn,bf,a9⟩:=aI.child (λad=>by rw [ad] at aY;simp at aY) e.pl;obtain⟨bH,a4,bE,bI,bw,bJ,bG⟩:=aI.mid;have s:(q,tc)∈A++(q,tc)::B:=by simp
  have aN:¬e.pl.lt q=true:=by
   by_cases aW:A=[]
   .subst aW;obtain⟨p,⟨u,bL,aJ⟩,z⟩:=hfirst;simp only [aK,eH,eS] at aJ;rw [aJ.1.1];exact z
   .exact bf aW
  have aU:=aI.good (q,tc) s;have aQ:=g.full
  have a3:(b::(zE A++(tc.blocks++zE B))).Nodup:=by have:(b::zE (A++(q,tc)::B)).Nodup:=hnd;rw [qo,qB] at this;exact this
  obtain⟨bC,bq,bs,bK,bz,bM,bv,bx⟩:=gT a3
  have N:∀j,j=b\/j∈zE (A++(q,tc)::B)->21<=j/\zU m (j-21)=true:=λj a=>htk j (by
   show j∈b::zE (A++(q,tc)::B)
   exact ar.2 a)
  have bb:yO (zJ A++(tc.ents++zJ B)):=by have:yO (zJ (A++(q,tc)::B)):=hs;rw [zA,zr] at this;exact this
  have bh:=(aX.1 (aX.1 bb).2.1).1;have ap:C.look D b=zm (zc 4 ((A++(q,tc)::B).map λc=>(⟨c.1,false,0,c.2.blk⟩:En))):=hl.1;have aR:=hl.2
  obtain⟨bt,bF,Y,R,Q,nb,y,bD⟩:=Yc an bd S T D ba e aL h tc C m (by omega) aU.1 (by have:=aQ (q,tc) s;simp only at this;omega) aU.2.1 bh bz
   (λj a=>N j (.inr (zV s a))) (aR (q,tc) s) hc ⟨q,bw,aN⟩ (λU G=>hn U (by show U∈zJ (A++(q,tc)::B);exact vC s G)) (by omega)
  have ax:=aI.items_srt;have aa:∀U∈(A++(q,tc)::B).map (λc=>(⟨c.1,false,0,c.2.blk⟩:En)),U.Ok:=g.items_ok
  have ai:∀U∈(A++(q,tc)::B).map (λc=>(⟨c.1,false,0,c.2.blk⟩:En)),U.mark=false/\U.size=0:=λU G=>by obtain⟨c,_,rfl⟩:=au.1 G;exact⟨rfl,rfl⟩
  have a0:((A++(q,tc)::B).map λc=>(⟨c.1,false,0,c.2.blk⟩:En)).length=(A++(q,tc)::B).length:=by simp
  have x:∀(a5:Ck) (a4:List UInt8) (ae F:List Nat),bZ D C a5 m a4 ae F->(∀j∈ae,j=b\/j∈tc.blocks)->∀c,c∈A\/c∈B->c.2.LayV zm (λj=>a5.look D (j:Nat)):=λa5 a4 ae F st z c i=>by
   have aF:c∈A++(q,tc)::B:=by rcases i with h|h<;>simp [h]
   refine(aR c aF).congr (λj a=>?_);have be:=N j (.inr (zV aF a));refine st.look j (λaS=>?_) (st.grew.apart be.2) (by omega) (by omega);rcases i with E|d
   .rcases z j aS with rfl|z;.exact bC (zV E a)
    .exact bv j (zV E a) z
   .rcases z j aS with rfl|z;.exact bs (zV d a)
    .exact bx j (zV d a) z
  have ab:=N b (.inl rfl);generalize bc:((A++(q,tc)::B).map λc=>(⟨c.1,false,0,c.2.blk⟩:En))=I at*;have V:I=(A.map λc=>(⟨c.1,false,0,c.2.blk⟩:En))++⟨q,false,0,tc.blk⟩::(B.map λc=>(⟨c.1,false,0,c.2.blk⟩:En)):=by rw [<-bc];exact vE A B q tc
  have aZ:A.length<I.length:=by rw [a0];simp
  have aV:I[A.length].at_=tc.blk:=by simp only [V];rw [GZ (by simp)]
  cases bt with
  |false=>
   obtain⟨rfl,a1⟩:=y.one rfl;refine⟨false,qz,Y,R,Q,nb,⟨y.chn,y.stp,λj a=>?_,by have:=y.pl;omega,by have:=y.nl;simp at this ⊢;omega,by have:=y.few;omega,λ_=>⟨rfl,λaC=>?_⟩,λh=>(by cases h)⟩,?_⟩
   .show j∈b::zE (A++(q,tc)::B);exact am _ (zV s (y.sub j a))
   .obtain⟨tc',P,aq,O⟩:=a1 aC;refine⟨(b,A++(q,tc')::B),Xz g bo aN a9 P,⟨?_,λc i=>?_⟩,uR O⟩
    .show Y.look D b=zm (zc 4 ((A++(q,tc')::B).map λc=>(⟨c.1,false,0,c.2.blk⟩:En)));rw [vE,P.blk,<-V,<-ap];exact y.stp.look b (λa=>bq (y.sub b a)) (y.stp.grew.apart ab.2) (by omega) (by omega)
    .have i:=i;rcases ah.1 i with E|d;.exact x Y R Q nb y.stp (λj a=>.inr (y.sub j a)) c (.inl E)
     .rcases ar.1 d with rfl|d;.exact aq
      .exact x Y R Q nb y.stp (λj a=>.inr (y.sub j a)) c (.inr d)
   .refine⟨λw r ay bB aw=>?_⟩;have H:=bD.below r ay (by omega);rw [<-aV] at H;refine(Ks w an bd S T {D with reads:=r} C aw m (by rw [zF];exact hc.map) ay (by show r<=_;omega) b g.1 I aa ai (by omega) ax (by rw [zF];exact ap) e aL (by omega) (2*(h+1)) Y A.length bn.symm aZ H).mono ?_;rintro U w' ⟨k1,⟨n,a2,k2,k3,X,ak⟩,aO⟩;exact⟨k1,⟨n,a2,k2,by omega,X,ak⟩,aO⟩
  |true=>
   obtain⟨ao,rfl,aT,aG⟩:=y.two rfl;have a7:=y.stp.grew.keeps ab.2;obtain⟨k,K⟩:∃k,I.take (A.length+1)++ao::I.drop (A.length+1)=k:=⟨_,rfl⟩;have br:k.length=I.length+1:=by rw [<-K];simp;omega
   have a6:∀U∈k,U.Ok:=λU G=>by
    rw [<-K] at G;rcases ah.1 G with G|G;.exact aa U (aP G)
    .rcases ar.1 G with rfl|G;.exact aT
     .exact aa U (eK G)
   have aj:k=(A.map λc=>(⟨c.1,false,0,c.2.blk⟩:En))++⟨q,false,0,tc.blk⟩::ao::(B.map λc=>(⟨c.1,false,0,c.2.blk⟩:En)):=by rw [<-K,V,GB (by simp)]
   obtain⟨f,v,C',m',F,bp,o⟩:=Q9 y.chn ba b 4 (by omega) ab.1 a7 k;have st:=y.stp.trans o.stp
   have bl:∀j,j∈tc.blocks++nb->j≠b/\21<=j/\zU R (j-21)=true:=λj a=>by
    rcases ah.1 a with a|a
    .have:=N j (.inr (zV s a));exact⟨λad=>bq (ad▸a),this.1,y.stp.grew.keeps this.2⟩
    .have:=y.stp.grew.fresh j a;refine⟨λad=>y.stp.grew.apart ab.2 (ad▸a),this.1,?_⟩;rw [y.stp.grew.taken,show j-21+21=j from by omega];simp [a]
   have M:∀(u:Tr h),(∀j∈u.blocks,j∈tc.blocks++nb)->u.LayV zm (λj=>Y.look D (j:Nat))->u.LayV zm (λj=>C'.look D (j:Nat)):=λu aJ bg=>bg.congr (λj a=>by
    have:=bl j (aJ j a)
    exact o.stp.look j (by rw [az];exact this.1) (o.stp.grew.apart this.2.2) (by omega) (by omega))
   refine⟨f,v,C',m',Q++[b],nb++F,⟨o.chn,st,λj a=>?_,by have:=y.pl;simp;omega,?_,by have:=y.few;have:=o.few;omega,λaC=>?_,λaC=>?_⟩,?_⟩
   .show j∈b::zE (A++(q,tc)::B);rcases ah.1 a with a|a;.exact am _ (zV s (y.sub j a))
    .rw [az.1 a];exact al ..
   .have ao:=y.nl;simp at ao;simp only [ag]
    cases f with
    |false=>have bu:F.length<=0:=o.len;show nb.length+F.length<=h+1+0;omega
    |true=>have bu:F.length<=1:=o.len;show nb.length+F.length<=h+1+1;omega
   .obtain⟨k1,k2,k3,X⟩:=o.one aC;refine⟨k2,λac=>?_⟩;obtain⟨tc',uc,aB,P,W,aq,ul,O⟩:=aG (o.stp.unfull ac);have J:k=((A++(q,tc')::(aB,uc)::B).map λc=>(⟨c.1,false,0,c.2.blk⟩:En)):=by rw [aj,W,vE,P.blk];simp
    refine⟨(b,A++(q,tc')::(aB,uc)::B),XA g (by omega) aN a9 P,⟨?_,λc i=>?_⟩,?_⟩
    .show C'.look D b=zm (zc 4 ((A++(q,tc')::(aB,uc)::B).map λc=>(⟨c.1,false,0,c.2.blk⟩:En)));rw [X,J]
    .have i:=i
     have z:∀j∈Q++[b],j=b\/j∈tc.blocks:=λj a=>by
      rcases ah.1 a with a|a;.exact .inr (y.sub j a)
      .exact .inl (az.1 a)
     rcases ah.1 i with E|d;.exact x C' m' _ _ st z c (.inl E)
     .rcases ar.1 d with rfl|d;.exact M tc' (λj a=>O.mem_iff.1 (af _ a)) aq
      .rcases ar.1 d with rfl|d;.exact M uc (λj a=>O.mem_iff.1 (av _ a)) ul
       .exact x C' m' _ _ st z c (.inr d)
    .rw [k3,aM];exact jL O
   .obtain⟨k1,bm,k2,k3,X⟩:=o.two aC;refine⟨_,k3,(Jq a6 (by omega)).en k2,λac=>?_⟩;obtain⟨ak,aO,bk,bj⟩:=X ac;obtain⟨tc',uc,aB,P,W,aq,ul,O⟩:=aG (o.stp.unfull ac);obtain⟨l,L⟩:∃l,A++(q,tc')::(aB,uc)::B=l:=⟨_,rfl⟩;have J:k=(l.map λc=>(⟨c.1,false,0,c.2.blk⟩:En)):=by rw [aj,W,<-L,vE,P.blk];simp
    have Z:k.length=7:=by omega
    have bA:l.length=7:=by rw [J] at Z;simpa using Z
    have a8:(A++(q,tc)::B).length=6:=by omega
    have bi:(l.map Prod.fst)[3]? =some (k.getD (k.length/2) gQ).pl:=by rw [Z,J,aA,l0,l0,aH (by omega)];rfl
    have aE:∀c∈l,c.2.LayV zm (λj=>C'.look D (j:Nat)):=λc i=>by
     rw [<-L] at i
     have z:∀j∈Q++[b],j=b\/j∈tc.blocks:=λj a=>by
      rcases ah.1 a with a|a;.exact .inr (y.sub j a)
      .exact .inl (az.1 a)
     rcases ah.1 i with E|d;.exact x C' m' _ _ st z c (.inl E)
     .rcases ar.1 d with rfl|d;.exact M tc' (λj a=>O.mem_iff.1 (af _ a)) aq
      .rcases ar.1 d with rfl|d;.exact M uc (λj a=>O.mem_iff.1 (av _ a)) ul
       .exact x C' m' _ _ st z c (.inr d)
    rw [Z] at bk bj;refine⟨(b,l.take 3),(bm,l.drop 3),_,XB g a8 k2 aN a9 P l L _ bi,rfl,⟨?_,λc i=>aE c (aP i)⟩,⟨?_,λc i=>aE c (eK i)⟩,?_⟩
    .show C'.look D b=zm (zc 4 ((l.take 3).map λc=>(⟨c.1,false,0,c.2.blk⟩:En)));rw [bk,J,iP]
    .show C'.look D bm=zm (zc 4 ((l.drop 3).map λc=>(⟨c.1,false,0,c.2.blk⟩:En)));rw [bj,J,ms]
    .rw [ak];refine uS ?_ 3;rw [<-L];exact jL O
   .refine⟨λw r ay bB aw=>?_⟩;have H:=bD.below r ay (by omega);rw [<-aV] at H;refine(Xy w an bd S T {D with reads:=r} C aw m (by rw [zF];exact hc.map) ay (2*(h+1)) (by omega) (by show r<=_;omega) b g.1 I aa ai (by omega) ax (by rw [zF];exact ap) e aL (by omega) Y R (by rw [zF];exact y.chn.map) (by have:=y.few;omega) A.length bn.symm aZ ao aT H k K f v C' m' bp).mono ?_;rintro U w' ⟨k1,⟨n,a2,k2,k3,X,ak⟩,aO⟩;exact⟨k1,⟨n,a2,k2,by omega,X,ak⟩,aO⟩
end prog
namespace prog
open Go.ChangeShapes Go.WideShapes Go.ChangeAt Go.RowKit disk ref
open keys (zh ze zy zs)
theorem qg.of_block{w:World}{g:Nat}{t:TypeId}{a:List En}{P:Nat->Prop}(h:w.heap[g]? =some (.cells (zj a).toArray t (0,0)))(o:P g)(f:a.length<=1000):qg w P (some ⟨g,0,none⟩) a:=by
 refine⟨.inr ⟨g,0,rfl,o,(lT h),λk l=>?_⟩,f⟩;intro j v d;have p:∀b∈a.map qt,b.length=5:=λb i=>by obtain⟨e,_,rfl⟩:=au.1 i;rfl
 have n:j<5:=by have:=(et.1 d).1;simpa [qt] using this
 have m:=X9 5 (a.map qt) p k (by simpa using l);rw [aG w g (0+k*5+j) _ _ _ h]
 have c:((a.map qt).flatten.drop (k*5))[j]? =some v:=by
  have:(((a.map qt).flatten.drop (k*5)).take 5)[j]? =some v:=by rw [m];simpa using d
  rw [lN,aB n] at this;exact this
 rw [lO] at c;rw [eT];simpa [zj] using c
theorem XF(w:World)(b bd:Nat)(S T:Nat->Prop)(D:Dk)(C:Ck)(h:Cw w b bd S T D C)(m:List UInt8)(s:qF (C.look D 2) m)(q:0<=D.reads)(I:D.reads<=4611686018427380000)(e:En)(u:e.Ok)(G:C.ws.length<700)(a:Nat)(l:Ck)(t:List UInt8)(f:C.take D.bs.length m=(a,l,t)):
 Calls Tryz.prog 76 #[.pointer (some ⟨b,0,none⟩),.int .i64 0,.agg (qt e).toArray] w λr w'=>r=.returned (.int .i64 (a:Int))/\(∃(n:Int) (x:Nat->Prop),0<=n/\n<=1/\Cw w' b bd S x {D with reads:=D.reads+n} (l.put a (zm (zc 5 [e])))/\∀j,x j->T j\/w.heap.size<=j)/\za (λj=>j=bd\/T j) w w':=by
 have c:Hid _:=h;have H:Hid e.Ok:=u;change Hid _ at s f;clear h u;have J:=c.disk.lt bd c.disk.bdS;have y:Hid _:=c.chg.lt;unfold qt;go_enter Tryz.func76,Tryz.ntmps76;go_wp2_with fail;have i:Hid (za (λ_=>False) w ((w.alloc (.cells #[.string e.pl.key,.int .i64 e.pl.num,.bool e.mark,.int .i64 (e.size:Int),.int .i64 (e.at_:Int)] 109)).alloc (.cells #[.string e.pl.key,.int .i64 e.pl.num,.bool e.mark,.int .i64 (e.size:Int),.int .i64 (e.at_:Int)] 109))):=za.alloc2 _ _ _;have A:Hid (((w.alloc (.cells #[.string e.pl.key,.int .i64 e.pl.num,.bool e.mark,.int .i64 (e.size:Int),.int .i64 (e.at_:Int)] 109)).alloc (.cells #[.string e.pl.key,.int .i64 e.pl.num,.bool e.mark,.int .i64 (e.size:Int),.int .i64 (e.at_:Int)] 109)).heap[w.heap.size+1]? =some (.cells (zj [e]).toArray 109 (0,0))):=eF w _ _;have K:((w.alloc (.cells #[.string e.pl.key,.int .i64 e.pl.num,.bool e.mark,.int .i64 (e.size:Int),.int .i64 (e.at_:Int)] 109)).alloc (.cells #[.string e.pl.key,.int .i64 e.pl.num,.bool e.mark,.int .i64 (e.size:Int),.int .i64 (e.at_:Int)] 109)).heap.size=w.heap.size+2:=by simp
 generalize ((w.alloc (.cells #[.string e.pl.key,.int .i64 e.pl.num,.bool e.mark,.int .i64 (e.size:Int),.int .i64 (e.at_:Int)] 109)).alloc (.cells #[.string e.pl.key,.int .i64 e.pl.num,.bool e.mark,.int .i64 (e.size:Int),.int .i64 (e.at_:Int)] 109))=N at*;refine(Q0 N b bd S T D C (c.kept0 i) m s q (by omega) (λj=>j=w.heap.size+1) (λj o B=>by have:=y.out j B;omega) (λj o M=>by omega) (some ⟨w.heap.size+1,0,none⟩) 1 5 (.inr rfl) [e] 1 rfl (qg.of_block A rfl (by simp)) (λO E=>by rw [az.1 E];exact H) (by simp) (by omega) a l t f).mono ?_;rintro r L ⟨rfl,⟨F,z,v,p,k,g⟩,d⟩;change Hid _ at k g d;go_wp2;go_ret;exact⟨rfl,⟨F,z,v,p,k,λj o=>(g j o).imp id (λh=>by omega)⟩,(i.mono fE).trans d iL⟩
theorem bh(w:World)(b bd:Nat)(S T:Nat->Prop)(D:Dk)(C:Ck)(r:Int)(h:Cw w b bd S T {D with reads:=r} C)(o:0<=r)(e:En)(k a:Nat)(t:a≠0)(p:r+k<=4611686018427370000)(C':Ck)(m:vD b bd S T D C k a e false qz C'):
 Calls Tryz.prog 76 #[.pointer (some ⟨b,0,none⟩),.int .i64 a,.agg (qt e).toArray] w λA w'=>A=.returned (.int .i64 (a:Int))/\(∃(n:Int) (q:Nat->Prop),0<=n/\n<=(2*(k+1):Nat)/\Cw w' b bd S q {D with reads:=r+n} C'/\∀j,q j->T j\/w.heap.size<=j)/\za (λj=>j=bd\/T j) w w':=by
 have x:Hid _:=h;change Hid _ at m;clear h;have F:((a:Int)==0)=false:=by simp;omega
 unfold qt;go_enter Tryz.func76,Tryz.ntmps76;go_wp2_with fail;have g:Hid (za (λ_=>False) w (w.alloc (.cells #[.string e.pl.key,.int .i64 e.pl.num,.bool e.mark,.int .i64 (e.size:Int),.int .i64 (e.at_:Int)] 109))):=za.alloc _ _ _;have B:(w.alloc (.cells #[.string e.pl.key,.int .i64 e.pl.num,.bool e.mark,.int .i64 (e.size:Int),.int .i64 (e.at_:Int)] 109)).heap.size=w.heap.size+1:=by simp
 generalize (w.alloc (.cells #[.string e.pl.key,.int .i64 e.pl.num,.bool e.mark,.int .i64 (e.size:Int),.int .i64 (e.at_:Int)] 109))=E at*;refine(m.go E r o p (x.kept0 g)).mono ?_;rintro A u ⟨rfl,⟨z,v,s,l,i,f⟩,d⟩;change Hid _ at i f d;unfold qz;go_wp2;go_ret;have c:=za.alloc (λ_=>False) u (.cells #[.string ⟨#[]⟩,.int .i64 0,.bool false,.int .i64 0,.int .i64 0] 109);exact⟨rfl,⟨z,v,s,l,i.kept0 c,λj y=>(f j y).imp id (λh=>by omega)⟩,((g.mono fE).trans d iL).trans c fE⟩
theorem fZ(w:World)(k bd:Nat)(S T:Nat->Prop)(D:Dk)(C:Ck)(r:Int)(h:Cw w k bd S T {D with reads:=r} C)(K:0<=r)(e:En)(s b:Nat)(U:b≠0)(o:b<65536)(Q:s<=100)(L:r+s<=4611686018427370000)(f:Ck)(a:En)(x:a.Ok)(J:vD k bd S T D C s b e true (qt a) f)(m:List UInt8)(M:qF (f.look D 2) m)(ae:f.ws.length<700)(q:Nat)(E:Ck)(N:List UInt8)(u:f.take D.bs.length m=(q,E,N)):
 Calls Tryz.prog 76 #[.pointer (some ⟨k,0,none⟩),.int .i64 b,.agg (qt e).toArray] w λR w'=>R=.returned (.int .i64 (q:Int))/\(∃(n:Int) (O:Nat->Prop),0<=n/\n<=(2*(s+1)+1:Nat)/\Cw w' k bd S O {D with reads:=r+n} (E.put q (zm (zc 4 [⟨yh,false,0,b⟩,a])))/\∀j,O j->T j\/w.heap.size<=j)/\za (λj=>j=bd\/T j) w w':=by
 have H:Hid _:=h;have P:Hid a.Ok:=x;change Hid _ at J M u;clear h x;have ai:=H.disk.lt bd H.disk.bdS;have an:((b:Int)==0)=false:=by simp;omega
 unfold qt;go_enter Tryz.func76,Tryz.ntmps76;go_wp2_with fail;have A:Hid (za (λ_=>False) w (w.alloc (.cells #[.string e.pl.key,.int .i64 e.pl.num,.bool e.mark,.int .i64 (e.size:Int),.int .i64 (e.at_:Int)] 109))):=za.alloc _ _ _;have aj:(w.alloc (.cells #[.string e.pl.key,.int .i64 e.pl.num,.bool e.mark,.int .i64 (e.size:Int),.int .i64 (e.at_:Int)] 109)).heap.size=w.heap.size+1:=by simp
 generalize (w.alloc (.cells #[.string e.pl.key,.int .i64 e.pl.num,.bool e.mark,.int .i64 (e.size:Int),.int .i64 (e.at_:Int)] 109))=am at*;refine(J.go am r K L (H.kept0 A)).mono ?_;rintro R c ⟨rfl,⟨t,W,ah,af,p,i⟩,g⟩;change Hid _ at p i g;unfold qt;go_wp2_with fail;have v:Hid (za (λ_=>False) c ((c.alloc (.cells #[.string a.pl.key,.int .i64 a.pl.num,.bool a.mark,.int .i64 (a.size:Int),.int .i64 (a.at_:Int)] 109)).alloc (.cells #[.string ⟨#[]⟩,.int .i64 0,.bool false,.int .i64 0,.int .i64 (b:Int),.string a.pl.key,.int .i64 a.pl.num,.bool a.mark,.int .i64 (a.size:Int),.int .i64 (a.at_:Int)] 109))):=za.alloc2 _ _ _;have Y:Hid (((c.alloc (.cells #[.string a.pl.key,.int .i64 a.pl.num,.bool a.mark,.int .i64 (a.size:Int),.int .i64 (a.at_:Int)] 109)).alloc (.cells #[.string ⟨#[]⟩,.int .i64 0,.bool false,.int .i64 0,.int .i64 (b:Int),.string a.pl.key,.int .i64 a.pl.num,.bool a.mark,.int .i64 (a.size:Int),.int .i64 (a.at_:Int)] 109)).heap[c.heap.size+1]? =some (.cells (zj [⟨yh,false,0,b⟩,a]).toArray 109 (0,0))):=eF c _ _;have ag:((c.alloc (.cells #[.string a.pl.key,.int .i64 a.pl.num,.bool a.mark,.int .i64 (a.size:Int),.int .i64 (a.at_:Int)] 109)).alloc (.cells #[.string ⟨#[]⟩,.int .i64 0,.bool false,.int .i64 0,.int .i64 (b:Int),.string a.pl.key,.int .i64 a.pl.num,.bool a.mark,.int .i64 (a.size:Int),.int .i64 (a.at_:Int)] 109)).heap.size=c.heap.size+2:=by simp
 generalize ((c.alloc (.cells #[.string a.pl.key,.int .i64 a.pl.num,.bool a.mark,.int .i64 (a.size:Int),.int .i64 (a.at_:Int)] 109)).alloc (.cells #[.string ⟨#[]⟩,.int .i64 0,.bool false,.int .i64 0,.int .i64 (b:Int),.string a.pl.key,.int .i64 a.pl.num,.bool a.mark,.int .i64 (a.size:Int),.int .i64 (a.at_:Int)] 109))=V at*;have ac:=g.size;have G:Hid _:=p.chg.lt;have I:Hid (qF (f.look {D with reads:=r+t} 2) m):=by show qF _ _;rw [zF];exact M.out
 refine(Q0 V k bd S W _ f (p.kept0 v) m I (by show 0<=r+t;omega) (by show r+t<=_;omega) (λj=>j=c.heap.size+1) (λj l Z=>by have:=G.out j Z;omega) (λj l ak=>by omega) (some ⟨c.heap.size+1,0,none⟩) 2 4 (.inl rfl) [⟨yh,false,0,b⟩,a] 2 rfl (qg.of_block Y rfl (by simp)) (λR F=>by
  rcases ar.1 F with rfl|F;.exact⟨by simp [yh],by simp [yh],by simp [yh],by simp [yh],by simp,by simp,o⟩
  .rw [az.1 F];exact P) (by simp) (by omega) q E N u).mono ?_
 rintro R al ⟨rfl,⟨X,aa,ab,ad,B,y⟩,z⟩;change Hid _ at B y z;go_wp2;go_ret;refine⟨rfl,⟨t+X,aa,by omega,by omega,?_,λj l=>?_⟩,?_⟩
 .have:=B.out;simp only [a9] at this;exact this
 .rcases y j l with d|d;.exact(i j d).imp id (λh=>by omega)
  .exact .inr (by omega)
 .have k1:=((A.mono fE).trans g iL).trans v fE
  exact k1.trans z (λj l=>by
   rcases l with d|d;.exact .inl (.inl d)
   .rcases i j d with h2|h2;.exact .inl (.inr h2)
    .exact .inr (by omega))
end prog
namespace prog
open Go.RowKit disk ref
variable {e:En}
def q8(rd:Nat->List Value)(root:Nat)(es:List En)(bs:List Nat):Prop:=
 (root=0/\es=[]/\bs=[])\/∃(h:Nat) (t:Tr h),t.Root/\t.LayV zm rd/\t.blk=root/\t.ents=es/\t.blocks=bs
theorem dX.root{h:Nat}{t a:Tr h}(k:dX t e a)(r:t.Root)(b:∀c∈t.ents,c.pl≠e.pl):a.Root where
 good:=k.good
 hi:=k.hi
 one:=aD r.one k.lo
 two:=λh=>aD (r.two h) k.lo
 first:=k.first _ r.first
 srt:=by rw [k.ents];exact r.srt.ins b
theorem U0:yh.Ok:=⟨by simp [yh],by simp [yh],by simp [yh],by simp [yh]⟩
theorem fI.root{h:Nat}{t a u:Tr h}{q:Pl}(k:fI t e a u q)(r:t.Root)(s:∀d∈t.ents,d.pl≠e.pl)(g:∀d∈yx e t.ents,¬d.pl.lt yh=true){o:Nat}(n:o<65536):
 Tr.Root (h:=h+1) (o,[(yh,a),(q,u)]):=by
 have p:zJ [(yh,a),(q,u)]=yx e t.ents:=by rw [<-k.ents];simp [zJ]
 have l:∀d∈a.ents,¬d.pl.lt yh=true:=λd f=>g d (by rw [<-k.ents];exact af _ f);obtain⟨d,f⟩:=k.good.some_ent (by have:=k.lo;omega);have m:yh.lt q=true:=Pl.lt_of_not (l d f) (k.left d f);have v:Kids [(q,u)]:=Kids.nil.cons k.goodu k.hiu k.qok k.firstu k.right (λ_ h=>(by cases h)) (λ_ h=>(by cases h));have w:Kids [(yh,a),(q,u)]:=v.cons k.good k.hi U0 (k.first _ r.first) l (λb i=>by rw [az.1 i];exact m) (λb i=>by rw [az.1 i];exact k.left);refine⟨w.node (λc j=>?_) n,?_,?_,λ_=>?_,⟨a,[(q,u)],rfl⟩,?_⟩
 .rcases ar.1 j with rfl|j;.exact k.lo
  .rw [az.1 j];exact k.lou
 .exact aD (eE (zx _ _)) (by simp)
 .exact aD (by simp) (eE (zx _ _).symm)
 .exact aD (by simp) (eE (zx _ _).symm)
 .show yO (zJ [(yh,a),(q,u)]);rw [p];exact r.srt.ins s
theorem Kt(c:e.Ok){a:Nat}(b:a<65536):Tr.Root (h:=0) (a,[e]) where
 good:=⟨b,λf d=>by rw [az.1 d];exact c⟩
 hi:=by show 1<=6;omega
 one:=by show 1<=1;omega
 two:=λh=>by omega
 first:=eI
 srt:=List.pairwise_singleton _ _
structure dm (D:Dk) (C C':Ck) (m m':List UInt8) (root':Nat) (e:En) (es:List En) (bs pb nb:List Nat):Prop where
 chn:XC D C' m'
 stp:bZ D C C' m m' pb nb
 sub:∀j∈pb,j∈bs
 nl:nb.length<=bs.length+1
 few:C'.ws.length<=C.ws.length+100
 tree:C'.full=false->∃bs',q8 (λj=>C'.look D (j:Nat)) root' (yx e es) bs'/\bs'.Perm (bs++nb)/\∃h,pb.length+nb.length<=2*h+1/\3^h<=bs'.length
 lt:root'<65536
structure XG (bc bd:Nat) (S T:Nat->Prop) (D:Dk) (C:Ck) (root:Nat) (e:En) (root':Nat) (C':Ck):Prop where
 go:∀(w:World) (r:Int),0<=r->r<=4611686018427360000->Cw w bc bd S T {D with reads:=r} C->
  Calls Tryz.prog 76 #[.pointer (some ⟨bc,0,none⟩),.int .i64 root,.agg (qt e).toArray] w λx w'=>x=.returned (.int .i64 (root':Int))/\(∃(n:Int) (T':Nat->Prop),0<=n/\n<=15/\Cw w' bc bd S T' {D with reads:=r+n} C'/\∀j,T' j->T j\/w.heap.size<=j)/\za (λj=>j=bd\/T j) w w'
theorem Yd(G bd:Nat)(S T:Nat->Prop)(D:Dk)(N:D.bs.length<=1000)(e:En)(ad:e.Ok)(E:¬e.pl.lt yh=true)(C:Ck)(m:List UInt8)(H:Nat)(R:List En)(bs:List Nat)(hF:q8 (λj=>C.look D (j:Nat)) H R bs)(ax:bs.Nodup)
 (s:∀j∈bs,21<=j/\zU m (j-21)=true) (am:bs.length<=979) (x:XC D C m) (W:∀O∈R,¬O.pl.lt yh=true) (aj:∀O∈R,O.pl≠e.pl) (aI:C.ws.length<500):
 ∃F C' m' Q nb,dm D C C' m m' F e R bs Q nb/\XG G bd S T D C H e F C':=by
 rcases hF with⟨rfl,rfl,rfl⟩|⟨h,t,k,aF,rfl,rfl,rfl⟩
 .obtain⟨b,y,I,nb,s,a⟩:=uT x N;have i:=a.lt N;refine⟨b,y.put b (zm (zc 5 [e])),I,[],nb,⟨a.chn.put i.2 _,a.stp.taken _ a.mem,λ_ h=>(by cases h),by have:=a.len;simpa using this,?_,λo=>?_,i.1⟩,⟨λw r L l A=>?_⟩⟩
  .have:=qy y b (zm (zc 5 [e]));have:=a.few;omega
  .rw [qJ] at o;rcases a.is with⟨rfl,l,h2,_⟩|⟨_,_,l⟩;.exact⟨[b],.inr ⟨0,(b,[e]),Kt ad i.1,qn _ _ _ _,rfl,rfl,rfl⟩,eR _,0,by simp,by simp⟩
   .rw [l] at o;cases o
  .refine(XF w G bd S T {D with reads:=r} C A m (by rw [zF];exact x.map) L (by show r<=_;omega) e ad (by omega) b y I s).mono ?_;rintro O w' ⟨l,⟨n,J,h2,an,P,aw⟩,ay⟩;exact⟨l,⟨n,J,h2,by omega,P,aw⟩,ay⟩
 .have ay:=k.low am;obtain⟨f,v,U,aa,Q,nb,p,aL⟩:=Yc G bd S T D N e ad h t C m (by omega) k.good k.one k.hi k.srt ax s aF x ⟨yh,k.first,E⟩ aj (by omega);have aA:=(s t.blk t.blk_mem).1;have aK:=k.many;have aJ:=UY h
  cases f with
  |false=>
   obtain⟨rfl,Z⟩:=p.one rfl;refine⟨t.blk,U,aa,Q,nb,⟨p.chn,p.stp,p.sub,?_,by have:=p.few;omega,λo=>?_,k.good.blk⟩,⟨λw r L l A=>?_⟩⟩;.have:=p.nl;simp at this;omega
   .obtain⟨g,B,ag,M⟩:=Z o;have z:=B.root k aj;exact⟨g.blocks,.inr ⟨h,g,z,ag,B.blk,B.ents,rfl⟩,M,h,by have:=p.nl;have:=p.pl;simp at *; omega,z.many⟩
   .refine(bh w G bd S T D C r A L e h t.blk (by omega) (by omega) U aL).mono ?_;rintro O w' ⟨k1,⟨n,J,k2,k3,ae,X⟩,ai⟩;exact⟨k1,⟨n,J,k2,by omega,ae,X⟩,ai⟩
  |true=>
   obtain⟨ac,rfl,ao,al⟩:=p.two rfl;obtain⟨b,y,I,au,Y,a⟩:=uT p.chn N;have i:=a.lt N;have st:=p.stp.trans a.stp;rw [aM] at st;have aC:=p.few;have aN:=a.len;refine⟨b,y.put b (zm (zc 4 [⟨yh,false,0,t.blk⟩,ac])),I,Q,nb++au,⟨a.chn.put i.2 _,st.taken _ (a.mem.imp (av _) id),p.sub,?_,?_,λo=>?_,i.1⟩,⟨λw r L l A=>?_⟩⟩;.have:=p.nl;simp at this ⊢;omega
   .have:=qy y b (zm (zc 4 [⟨yh,false,0,t.blk⟩,ac]));have:=a.few;omega
   .rw [qJ] at o;rcases a.is with⟨rfl,l,h2,_⟩|⟨_,_,l⟩
    .obtain⟨g,u,q,B,rfl,ag,ul,M⟩:=al (a.stp.unfull o)
     have V:∀O∈yx e t.ents,¬O.pl.lt yh=true:=λO ab=>by
      rcases ke.1 ab with rfl|ab;.exact E
      .exact W O ab
     have z:=B.root k aj V i.1
     have aq:∀j,j∈t.blocks++nb->21<=j/\zU aa (j-21)=true:=λj d=>by
      rcases ah.1 d with d|d;.exact⟨(s j d).1,p.stp.grew.keeps (s j d).2⟩
      .have:=p.stp.grew.fresh j d;refine⟨this.1,?_⟩;rw [p.stp.grew.taken,show j-21+21=j from by omega];simp [d]
     have K:∀(aB:Tr h),(∀j∈aB.blocks,j∈t.blocks++nb)->aB.LayV zm (λj=>U.look D (j:Nat))->aB.LayV zm (λj=>(y.put b (zm (zc 4 [⟨yh,false,0,t.blk⟩,⟨q,false,0,u.blk⟩]))).look D (j:Nat)):=λaB aG ap=>ap.congr (λj d=>by
      have an:=aq j (aG j d);have P:=a.stp.grew.apart an.2;have aw:j≠b:=λaD=>P (by rw [aD];simp);rw [z9 _ _ _ _ _ (by omega)]
      exact a.stp.look j (λh=>(by cases h)) P (by omega) (by omega))
     have aH:(Tr.blocks (h:=h+1) (b,[(yh,g),(q,u)])).Perm (t.blocks++(nb++[b])):=by
      show (b::zE [(yh,g),(q,u)]).Perm _;have aE:zE [(yh,g),(q,u)]=g.blocks++u.blocks:=by simp [zE]
      rw [aE,<-ak];exact(M.cons b).trans (eM (l₁:=[b]))
     refine⟨_,.inr ⟨h+1,(b,[(yh,g),(q,u)]),z,⟨?_,λc x=>?_⟩,rfl,?_,rfl⟩,aH,h+1,?_,z.many⟩
     .show (y.put b _).look D b=zm (zc 4 ([(yh,g),(q,u)].map λc=>(⟨c.1,false,0,c.2.blk⟩:En)));rw [qn];simp [B.blk]
     .have x:c∈[(yh,g),(q,u)]:=x;rcases ar.1 x with rfl|x;.exact K g (λj d=>M.mem_iff.1 (af _ d)) ag
      .rw [az.1 x];exact K u (λj d=>M.mem_iff.1 (av _ d)) ul
     .show zJ [(yh,g),(q,u)]=_;rw [<-B.ents];simp [zJ]
     .have:=p.nl;have:=p.pl;simp at *; omega
    .rw [l] at o;cases o
   .refine(fZ w G bd S T D C r A L e h t.blk (by omega) k.good.blk (by omega) (by omega) U ac ao aL aa p.chn.map (by omega) b y I Y).mono ?_;rintro O w' ⟨k1,⟨n,J,k2,k3,ae,X⟩,ai⟩;exact⟨k1,⟨n,J,k2,by omega,ae,X⟩,ai⟩
end prog
end Go.Proofs.YtcoengihaobddaaGreatDoor
