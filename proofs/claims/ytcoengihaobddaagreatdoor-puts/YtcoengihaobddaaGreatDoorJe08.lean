/- Part 8 of 50 of a proof: Grow1, Log1, Com1, Ins9, Ins10, Ins11, Append2 -/
import Derived.Test.YtcoengihaobddaaGreatDoorJe07
set_option maxHeartbeats 8000000
set_option linter.unusedVariables false
set_option linter.unusedSimpArgs false
set_option maxRecDepth 8000
namespace Go.Proofs.YtcoengihaobddaaGreatDoor
namespace prog
open Go.RowKit disk ref
variable {C C':Ck}{i N:Nat}{m m':List UInt8}{nb:List Nat}{D:Dk}
def Ck.keys(C:Ck):List Nat:=C.ws.map Prod.fst
theorem Ck.keys_len(C:Ck):C.keys.length=C.ws.length:=by simp [Ck.keys]
theorem Xm{k:Nat}(b:List Value)(h:yy C.ws i=some k):(C.put i b).keys=C.keys/\i∈C.keys:=by
 obtain⟨a,e⟩:=ki b h;obtain⟨_,_,c⟩:=jo (D:=⟨[],[],0,0⟩) h;rw [e];unfold Ck.keys;refine⟨?_,?_⟩
 .simp only [mf];have:C.ws[k].1=(C.ws.map Prod.fst)[k]'(by simpa using a):=by simp
  rw [this,List.set_getElem_self]
 .have:i=C.ws[k].1:=by omega
  rw [this];exact av.2 ⟨_,ag a,rfl⟩
theorem di(b:List Value)(h:yy C.ws i=none):(C.put i b).keys=C.keys++[i]/\i∉C.keys:=by
 rw [kO b h];refine⟨by simp [Ck.keys],λc=>?_⟩;obtain⟨p,a,rfl⟩:=av.1 c;unfold yy at h;rw [iE] at h;have:=h p a;simp at this
theorem xO(C:Ck)(i:Nat)(b:List Value):∀k,k∈(C.put i b).keys↔k∈C.keys\/k=i:=λk=>by
 cases a:yy C.ws i with
 |none=>rw [(di b a).1];simp
 |some j=>
  obtain⟨d,c⟩:=Xm b a;rw [d];exact⟨.inl,λh=>h.elim id (λe=>e▸c)⟩
theorem xg(h:C.keys.Nodup)(i:Nat)(b:List Value):(C.put i b).keys.Nodup:=by
 cases d:yy C.ws i with
 |none=>
  obtain⟨k,g⟩:=di b d;rw [k];exact aX.2 ⟨h,by simp,λa f c l e=>by rw [aD.1 l] at e;exact g (e▸f)⟩
 |some j=>rw [(Xm b d).1];exact h
theorem qV(C:Ck)(i:Nat)(b:List Value):(C.put i b).full=C.full:=by
 unfold Ck.put;split<;>rfl
structure gL (N:Nat) (m m':List UInt8) (nb:List Nat):Prop where
 nodup:nb.Nodup
 fresh:∀j∈nb,21<=j/\j<N/\zX m (j-21)=false
 taken:∀i,zX m' i=(zX m i||decide (i+21∈nb))
theorem gL.refl(N:Nat)(m:List UInt8):gL N m m []:=⟨List.nodup_nil,λ_ h=>(by cases h),λi=>by simp⟩
theorem gL.trans{l g:List UInt8}{a b:List Nat}(h:gL N m l a)(k:gL N l g b):gL N m g (a++b) where
 nodup:=aX.2 ⟨h.nodup,k.nodup,λn q r o e=>by
  subst e;have f:=k.fresh n o;have c:=h.taken (n-21);rw [f.2.2,show n-21+21=n from by omega] at c
  simp [q] at c⟩
 fresh:=λj d=>by
  rcases aj.1 d with d|d;.exact h.fresh j d
  .have f:=k.fresh j d;refine⟨f.1,f.2.1,?_⟩;have c:=h.taken (j-21);rw [f.2.2] at c
   cases p:zX m (j-21) with
   |false=>rfl
   |true=>rw [p] at c;simp at c
 taken:=λi=>by rw [k.taken,h.taken,Bool.or_assoc];simp
theorem gL.keeps(h:gL N m m' nb)(a:zX m i=true):zX m' i=true:=by rw [h.taken,a];rfl
theorem gL.apart(h:gL N m m' nb){j:Nat}(b:zX m (j-21)=true):j∉nb:=λa=>by
 have:=(h.fresh j a).2.2;rw [b] at this;cases this
def Xn(N:Nat)(m:List UInt8):Prop:=∀i,i+21<N->zX m i=true
theorem DV(C:Ck)(f:N<=1000)(a:m.length=124):
 (∃i,C.take N m=(i+21,C.put 2 (zo (zV (gI m i))),gI m i)/\gL N m (gI m i) [i+21])\/(C.take N m=(0,{C with full:=true},m)/\Xn N m):=by
 unfold Ck.take
 cases h:fj N m with
 |some i=>
  obtain⟨d,c,e⟩:=Xf h;refine .inl ⟨i,rfl,by simp,λj b=>?_,λj=>?_⟩
  .rw [aD.1 b];exact⟨by omega,by omega,by rw [show i+21-21=i from by omega];exact c⟩
  .rw [VO (by rw [a];omega)];congr 1;simp
 |none=>
  refine .inr ⟨rfl,λi g=>?_⟩;unfold fj at h;rw [lG] at h;have:=h i (by simp;omega);simpa using this
structure JV (D:Dk) (C:Ck) (m:List UInt8):Prop where
 map:qP (C.look D 2) m
 full:C.full=true->Xn D.bs.length m
 nodup:C.keys.Nodup
structure ZN (D:Dk) (C C':Ck) (m m':List UInt8) (pb nb:List Nat):Prop where
 grew:gL D.bs.length m m' nb
 full:C.full=true->C'.full=true
 look:∀j:Nat,j∉pb->j∉nb->j≠2->j≠0->C'.look D j=C.look D j
 keys:∀k∈C'.keys,k∈C.keys\/k∈pb\/k∈nb\/k=2\/(k=0/\C'.full=true)
theorem ZN.refl(D:Dk)(C:Ck)(m:List UInt8):ZN D C C m m [] []:=⟨gL.refl _ _,id,λ_ _ _ _ _=>rfl,λ_ h=>.inl h⟩
theorem ZN.trans{q o:Ck}{r f:List UInt8}{e l i n:List Nat}(h:ZN D C q m r e i)(k:ZN D q o r f l n):ZN D C o m f (e++l) (i++n) where
 grew:=h.grew.trans k.grew
 full:=λb=>k.full (h.full b)
 look:=λj d c p g=>by rw [aj,not_or] at d c;rw [k.look j d.2 c.2 p g,h.look j d.1 c.1 p g]
 keys:=λs a=>by
  simp only [aj];rcases k.keys s a with a|a|a|a|⟨a,b⟩
  .rcases h.keys s a with a|a|a|a|⟨a,b⟩;.exact .inl a
   .exact .inr (.inl (.inl a))
   .exact .inr (.inr (.inl (.inl a)))
   .exact .inr (.inr (.inr (.inl a)))
   .exact .inr (.inr (.inr (.inr ⟨a,k.full b⟩)))
  .exact .inr (.inl (.inr a))
  .exact .inr (.inr (.inl (.inr a)))
  .exact .inr (.inr (.inr (.inl a)))
  .exact .inr (.inr (.inr (.inr ⟨a,b⟩)))
theorem ZN.unfull{p n:List Nat}(h:ZN D C C' m m' p n)(a:C'.full=false):C.full=false:=by
 cases b:C.full with
 |false=>rfl
 |true=>rw [h.full b] at a;cases a
theorem ZN.put(D:Dk)(C:Ck)(m:List UInt8)(i:Nat)(b:List Value):ZN D C (C.put i b) m m [i] [] where
 grew:=gL.refl _ _
 full:=λh=>by rw [qV];exact h
 look:=λj c _ _ _=>qe C D i b j (λe=>c (by rw [aD];omega))
 keys:=λk a=>((xO C i b k).1 a).elim .inl (λe=>.inr (.inl (by rw [e];simp)))
theorem JV.put(h:JV D C m)(c:i≠2)(b:List Value):JV D (C.put i b) m:=
 ⟨h.map.put i b c,λa=>h.full (by rw [qV] at a;exact a),xg h.nodup i b⟩
theorem ZN.taken{f:List Nat}(h:ZN D C C' m m' f nb)(b:List Value)(a:i∈nb\/(i=0/\C'.full=true)):ZN D C (C'.put i b) m m' f nb where
 grew:=h.grew
 full:=λd=>by rw [qV];exact h.full d
 look:=λj n g o l=>by rw [qe C' D i b j (λe=>by rcases a with a|⟨a,_⟩;exact g (by rw [show j=i from by omega];exact a);omega)];exact h.look j n g o l
 keys:=λk c=>by
  rw [qV];rcases (xO C' i b k).1 c with c|rfl;.exact h.keys k c
  .rcases a with a|⟨a,d⟩;.exact .inr (.inr (.inl a))
   .exact .inr (.inr (.inr (.inr ⟨a,d⟩)))
structure Wc (D:Dk) (C:Ck) (m:List UInt8) (ta:Nat) (C':Ck) (m':List UInt8) (nb:List Nat):Prop where
 chn:JV D C' m'
 stp:ZN D C C' m m' [] nb
 len:nb.length<=1
 few:C'.ws.length<=C.ws.length+1
 is:(nb=[ta]/\21<=ta/\ta<D.bs.length/\C'.full=C.full)\/(nb=[]/\ta=0/\C'.full=true)
theorem Wc.mem{a:Nat}(h:Wc D C m a C' m' nb):a∈nb\/(a=0/\C'.full=true):=by
 rcases h.is with⟨rfl,_⟩|⟨_,b,c⟩;.exact .inl (by simp)
 .exact .inr ⟨b,c⟩
theorem Wc.lt{a:Nat}(h:Wc D C m a C' m' nb)(d:D.bs.length<=1000):a<65536/\a≠2:=by
 rcases h.is with⟨_,b,c,_⟩|⟨_,b,_⟩;.omega
 .omega
theorem fo(h:JV D C m)(l:D.bs.length<=1000):∃c C' m' nb,C.take D.bs.length m=(c,C',m')/\Wc D C m c C' m' nb:=by
 rcases DV C l h.map.len with⟨i,e,g⟩|⟨e,d⟩
 .refine⟨_,_,_,[i+21],e,⟨⟨?_,λb=>?_,xg h.nodup _ _⟩,⟨g,λb=>by rw [qV];exact b,λj _ _ n _=>qe C D 2 _ j (by omega),λk a=>?_⟩,by simp,qH _ _ _,.inl ⟨rfl,by omega,(g.fresh _ (by simp)).2.1,qV _ _ _⟩⟩⟩
  .have:=h.map.take (N:=D.bs.length);rw [e] at this;exact this
  .rw [qV] at b;exact λi f=>g.keeps (h.full b i f)
  .rcases (xO C 2 _ k).1 a with a|a;.exact .inl a
   .exact .inr (.inr (.inr (.inl a)))
 .refine⟨_,_,_,[],e,⟨⟨h.map,λ_=>d,h.nodup⟩,⟨gL.refl _ _,λ_=>rfl,λ_ _ _ _ _=>rfl,λk a=>.inl a⟩,by simp,by simp,.inr ⟨rfl,rfl,rfl⟩⟩⟩
structure WF (D:Dk) (C:Ck) (m:List UInt8) (at_ k:Nat) (es:List En) (f:Bool) (v:List Value) (C':Ck) (m':List UInt8) (nb:List Nat):Prop where
 chn:JV D C' m'
 stp:ZN D C C' m m' [at_] nb
 len:nb.length<=if f then 1 else 0
 few:C'.ws.length<=C.ws.length+3
 one:f=false->es.length<=6/\v=qI/\nb=[]/\C'.look D at_=zo (zc k es)
 two:f=true->6<es.length/\∃ta,ta<65536/\v=qE ⟨(es.getD (es.length/2) dh).pl,false,0,ta⟩/\(C'.full=false->nb=[ta]/\21<=ta/\C'.look D at_=zo (zc k (es.take (es.length/2)))/\C'.look D ta=zo (zc k (es.drop (es.length/2))))
theorem Xo(h:JV D C m)(t:D.bs.length<=1000)(a k:Nat)(g:a≠2)(x:21<=a)(o:zX m (a-21)=true)(b:List En):∃f v C' m' nb,C.more D.bs.length m a k b=(f,v,C',m')/\WF D C m a k b f v C' m' nb:=by
 unfold Ck.more;by_cases l:b.length<=6
 .rw [aB l];exact⟨_,_,_,_,[],rfl,⟨h.put g _,ZN.put D C m a _,by simp,by have:=qH C a (zo (zc k b));omega,λ_=>⟨l,rfl,rfl,qw _ _ _ _⟩,λh=>by cases h⟩⟩
 .rw [az l];obtain⟨q,n,u,nb,e,c⟩:=fo h t;simp only [Ck.split,e];have d:=c.lt t;have r:a∉nb:=c.stp.grew.apart o;have s:=c.stp.trans (ZN.put D n u a (zo (zc k (b.take (b.length/2)))));rw [aH,aM] at s;have w:=s.taken (i:=q) (zo (zc k (b.drop (b.length/2)))) (c.mem.imp id (λh=>⟨h.1,by rw [qV];exact h.2⟩));refine⟨_,_,_,_,nb,rfl,⟨(c.chn.put g _).put d.2 _,w,by simpa using c.len,?_,λh=>(by cases h),λ_=>⟨by omega,q,d.1,rfl,λj=>?_⟩⟩⟩
  .have:=qH (n.put a (zo (zc k (b.take (b.length/2))))) q (zo (zc k (b.drop (b.length/2))));have:=qH n a (zo (zc k (b.take (b.length/2))));have:=c.few;omega
  .rw [qV,qV] at j;rcases c.is with⟨rfl,p,_⟩|⟨_,_,p⟩
   .refine⟨rfl,p,?_,qw _ _ _ _⟩;rw [qe _ _ _ _ _ (λe=>r (by rw [aD];omega)),qw]
   .rw [p] at j;cases j
end prog
namespace prog
open Go.ChangeShapes Go.WideShapes Go.ChangeAt Go.RowKit disk ref
open keys (zg zd zq zl)
variable {w:World}{bd:Nat}{S:Nat->Prop}{D:Dk}
def qv(D:Dk):List (Nat×List Value)->Bool×Dk
 |[]=>(true,D)
 |p::ws=>if D.writes p.1=true then qv (D.write p.1 p.2) ws else (false,D)
def je(D:Dk)(h:List Value):Bool×Dk:=if D.writes 0=true then (!((D.write 0 h).fuse==0),(D.write 0 h).flush) else (false,D)
def jN:List Value:=zo (Pg.new 1)
def jt(r:Bool×Dk)(h:List Value):Bool×Dk:=if r.1=true/\r.2.fuse≠0 then je r.2.flush h else (false,r.2)
def q8(D:Dk)(ws:List (Nat×List Value)):Bool×Dk:=jt (qv D ws) jN
def qn(ws:List (Nat×List Value)):List (Nat×List Value):=ws.mapIdx λi p=>(3+i,p.2)
def zN(ws:List (Nat×List Value)):Pg:=⟨1,0,ws.map λp=>bytesOf 2 p.1⟩
def yb(D:Dk)(ws:List (Nat×List Value)):Bool×Dk:=jt (qv D (qn ws)) (zo (zN ws))
def qp(D:Dk)(ws:List (Nat×List Value)):Bool×Dk:=if (yb D ws).1=true then q8 (yb D ws).2 ws else yb D ws
structure yq (w w':World) (bd:Nat) (S:Nat->Prop) (D:Dk):Prop where
 disk:∃S',ze w' bd S' D/\∀k,S' k->S k\/w.heap.size<=k
 kept:Kept S w w'
theorem yq.refl(h:ze w bd S D):yq w w bd S D:=⟨⟨S,h,λ_ h=>.inl h⟩,Kept.refl _ _⟩
theorem yq.trans{b d:World}{S1:Nat->Prop}{D1:Dk}(c:∀k,S1 k->S k\/w.heap.size<=k)(k1:Kept S w b)(h:yq b d bd S1 D):yq w d bd S D:=by
 obtain⟨⟨S',g,f⟩,i⟩:=h;refine⟨⟨S',g,λk e=>?_⟩,k1.trans i c⟩;rcases f k e with a|a;.exact c k a
 .exact .inr (aF k1.size a)
theorem yq.kept0{a b:World}(k1:Kept (λ_=>False) w a)(h:yq a b bd S D):yq w b bd S D:=yq.trans (D1:=D) iL (k1.mono fE) h
theorem kw(a:Int)(b:List Value)(c:zs D.fuse):zs (D.write a b).fuse:=by
 unfold Dk.write;split
 .show zs (qG D.fuse);unfold qG zs at*;split<;>omega
 .exact c
theorem kx(a:zs D.fuse):zs D.flush.fuse:=by
 unfold Dk.flush;split;.exact a
 .show zs (qG D.fuse);unfold qG zs at*;split<;>omega
theorem fp(a:Int)(b:List Value):(D.write a b).ps.length<=D.ps.length+1:=by
 unfold Dk.write;split<;>simp
section
attribute [local go_sem ↓] kh
theorem dS(w:World)(bd:Nat)(S:Nat->Prop)(D:Dk)(h:ze w bd S D)(b:List Value)(v:zW b)(o:zs D.fuse)(t:D.ps.length<=68719476736):
 Calls Tryz.prog 147 #[.pointer (some ⟨bd,0,none⟩),.agg b.toArray] w λe w'=>e=.returned (.bool (je D b).1)/\yq w w' bd S (je D b).2:=by
 have E:Hid (ze w bd S D):=h;have r:Hid (zW b):=v;have C:=v.1;have c:Hid (Kept (λ_=>False) w (w.alloc (.cells b.toArray 154))):=Kept.alloc _ _ _;have I:(fe (.pointer (some ⟨w.heap.size,0,none⟩))).run Tryz.prog (w.alloc (.cells b.toArray 154))=.ok (.agg b.toArray) (w.alloc (.cells b.toArray 154)):=jw _ _ _ b (zU (heap_alloc_new w _)) C;clear h v
 cases u:D.writes 0 with
 |true=>
  have a:Hid _:=u;go_enter Tryz.func147,Tryz.ntmps147
  go_wp2_with (first
   |(go_at_call 146;refine(xA _ bd S D (E.kept c nF) 0 (by constructor<;>omega) b r o t).mono ?_;rintro e z ⟨rfl,⟨S1,g,f⟩,d⟩;rw [a.out];have n:Hid (ze z bd S1 (D.write 0 b)):=g;have j:Hid _:=f;have m:Hid _:=d;clear g f d)
   |(go_at_call 40;refine(yS _ bd S1 _ n (kw _ _ o)).mono ?_;rintro e H ⟨rfl,⟨B,p,s⟩,q⟩;have A:Hid (ze H bd B (D.write 0 b).flush):=p;change Hid _ at s q;clear p))
  go_ret;have x:je D b=(!((D.write 0 b).fuse==0),(D.write 0 b).flush):=aB a.out;rw [x]
  have F:∀k,S1 k->S k\/w.heap.size<=k:=λk i=>by
   rcases j k i with l|l;.exact .inl l
   .right;have:=c.size;omega
  exact⟨rfl,⟨B,A,λk i=>F k (s k i)⟩,((c.mono fE).trans m iL).trans q F⟩
 |false=>
  have a:Hid _:=u;go_enter Tryz.func147,Tryz.ntmps147;go_wp2_with (go_at_call 146;refine(xA _ bd S D (E.kept c nF) 0 (by constructor<;>omega) b r o t).mono ?_;rintro e z ⟨rfl,⟨S1,g,f⟩,d⟩;rw [a.out];have n:Hid _:=g;have j:Hid _:=f;have m:Hid _:=d;clear g f d);go_ret;have x:je D b=(false,D):=az (by rw [a.out];simp)
  have G:D.write 0 b=D:=by have:=a.out;unfold Dk.writes at this;unfold Dk.write;rw [az (iS this)]
  rw [x];have y:=n.out;rw [G] at y;refine⟨rfl,⟨S1,y,λk i=>?_⟩,(c.mono fE).trans m iL⟩;rcases j k i with l|l;.exact .inl l
  .right;have:=c.size;omega
end
end prog
namespace prog
open Go.RowKit disk ref
variable {D:Dk}{i j:Nat}
def bA:Ck:=⟨[],false⟩
theorem y7(D:Dk)(i:Int):bA.look D i=D.look i:=vt rfl
theorem Qo:qG (-1)= -1:=by decide
theorem cJ(a:D.fuse= -1)(c:i<D.bs.length)(b:List Value):D.writes (i:Int)=true/\D.write (i:Int) b={D with ps:=D.ps++[(i,b)]}:=by
 have h:0<=(i:Int)/\(i:Int)<D.bs.length/\D.fuse≠0:=⟨by omega,by omega,by omega⟩;refine⟨by unfold Dk.writes;simpa using h,?_⟩;unfold Dk.write;rw [aB h,a,Qo,<-a];rfl
theorem kt(a:D.fuse= -1):D.flush={D with bs:=zk D.bs D.ps,ps:=[]}:=by
 unfold Dk.flush;rw [az (by omega),a,Qo,<-a]
theorem cK:∀(ws:List (Nat×List Value)) (D:Dk),D.fuse= -1->(∀p∈ws,p.1<D.bs.length)->qv D ws=(true,{D with ps:=D.ps++ws })
 |[],D,_,_=>by simp [qv]
 |p::ws,D,hf,h=>by obtain⟨a,c⟩:=cJ hf (h p (am ..)) p.2;unfold qv;rw [aB a,c,cK ws {D with ps:=D.ps++[(p.1,p.2)]} hf (λq b=>h q (al _ b))];simp
theorem JW(a:D.fuse= -1)(f:D.ps=[])(i:0<D.bs.length)(b:List Value):je D b=(true,{D with bs:=D.bs.set 0 b }):=by
 obtain⟨h,g⟩:=cJ a i b;have d:D.writes 0=true:=h;have c:D.write 0 b={D with ps:=D.ps++[(0,b)]}:=g;unfold je;rw [aB d,c,kt (D:={D with ps:=D.ps++[(0,b)] }) a,f];have e:(!(D.fuse==0))=true:=by rw [a];rfl
 show (!(D.fuse==0),_)=_;rw [e];simp only [zk,aH,l5,List.foldl_nil]
theorem cL(a:D.fuse= -1)(c:D.ps=[])(d:0<D.bs.length)(ws:List (Nat×List Value))(h:∀p∈ws,p.1<D.bs.length)(b:List Value):jt (qv D ws) b=(true,{D with bs:=(zk D.bs ws).set 0 b }):=by
 rw [cK ws D a h];unfold jt;rw [aB ⟨rfl,by show D.fuse≠0;omega⟩,kt (D:={D with ps:=D.ps++ws }) a,JW (D:={D with bs:=zk D.bs (D.ps++ws),ps:=[] }) a rfl (by show 0<(zk _ _).length;rw [zB];exact d)];rw [c];simp
def gX(bs:List (List Value))(ws:List (Nat×List Value)):List (List Value):=(zk ((zk bs (qn ws)).set 0 (zo (zN ws))) ws).set 0 jN
theorem jV(bs:List (List Value))(ws:List (Nat×List Value)):(gX bs ws).length=bs.length:=by unfold gX;rw [eQ,zB,eQ,zB]
theorem v9{ws:List (Nat×List Value)}(h:ws.length<=18):∀p∈qn ws,3<=p.1/\p.1<21:=λp a=>by
 unfold qn at a;obtain⟨i,b,rfl⟩:=List.mem_mapIdx.1 a;simp;omega
theorem JX(c:D.fuse= -1)(b:D.ps=[])(g:21<=D.bs.length){ws:List (Nat×List Value)}(h:∀p∈ws,p.1<D.bs.length)(e:ws.length<=18):(yb D ws).1=true/\qp D ws=(true,{D with bs:=gX D.bs ws }):=by
 have d:yb D ws=(true,{D with bs:=(zk D.bs (qn ws)).set 0 (zo (zN ws)) }):=cL c b (by omega) _ (λp a=>by have:=v9 e p a;omega) _
 have f:qp D ws=(true,{D with bs:=gX D.bs ws }):=by
  unfold qp;rw [d];have i:((zk D.bs (qn ws)).set 0 (zo (zN ws))).length=D.bs.length:=by rw [eQ,zB]
  exact cL (D:={D with bs:=(zk D.bs (qn ws)).set 0 (zo (zN ws)) }) c b (by show 0<((zk _ _).set _ _).length;omega) ws (λp a=>by show p.1<((zk _ _).set _ _).length;have:=h p a;omega) _
 exact⟨by rw [d],f⟩
theorem yE:∀(ws:List (Nat×List Value)) (bs:List (List Value)),j∉ws.map Prod.fst->(zk bs ws)[j]? =bs[j]?
 |[],_,_=>rfl
 |p::ws,bs,h=>by rw [aT,aq,not_or] at h;show (zk (bs.set p.1 p.2) ws)[j]? =_;rw [yE ws _ h.2,iV (λe=>h.1 e.symm)]
theorem kz{b:List Value}:∀(ws:List (Nat×List Value)) (bs:List (List Value)),(ws.map Prod.fst).Nodup->(j,b)∈ws->j<bs.length->(zk bs ws)[j]? =some b
 |[],_,_,h,_=>(by cases h)
 |p::ws,bs,hn,h,hj=>by
  rw [aT,iW] at hn;show (zk (bs.set p.1 p.2) ws)[j]? =_;rcases aq.1 h with rfl|h;.rw [yE ws _ hn.1,lM hj]
  .exact kz ws _ hn.2 h (by rw [eQ];exact hj)
theorem Xp(g:D.ps=[]){C:Ck}(t:C.keys.Nodup)(n:C.ws.length<=18)(v:∀k∈C.keys,k<D.bs.length)(l:j≠0)(y:j<3\/21<=j):Dk.look {D with bs:=gX D.bs C.ws} (j:Nat)=C.look D (j:Nat):=by
 have s:=jV D.bs C.ws;by_cases i:j<D.bs.length
 .have c:Dk.look {D with bs:=gX D.bs C.ws} (j:Nat)=(gX D.bs C.ws).getD j []:=by
   unfold Dk.look;rw [aB ⟨by omega,by show (j:Int)<(gX D.bs C.ws).length;omega⟩,g];rfl
  have f:D.look (j:Nat)=D.bs.getD j []:=by unfold Dk.look;rw [aB ⟨by omega,by omega⟩,g];rfl
  rw [c];have w:(gX D.bs C.ws)[j]? =(zk ((zk D.bs (qn C.ws)).set 0 (zo (zN C.ws))) C.ws)[j]? :=by unfold gX;rw [iV (λe=>l e.symm)]
  rw [aE,w]
  cases a:yy C.ws (j:Nat) with
  |none=>
   rw [vt a,f,aE];have u:j∉C.ws.map Prod.fst:=(di (C:=C) [] a).2;rw [yE _ _ u,iV (λe=>l e.symm),yE];intro o;obtain⟨p,q,e⟩:=av.1 o;have:=v9 n p q;omega
  |some k=>
   obtain⟨b,m,r⟩:=jo (D:=D) a;rw [m]
   have d:(j,C.ws[k].2)∈C.ws:=by
    have:(j,C.ws[k].2)=C.ws[k]:=by ext1<;>simp;omega
    rw [this];exact ag b
   rw [kz C.ws _ t d (by rw [eQ,zB];exact i)];rfl
 .have c:Dk.look {D with bs:=gX D.bs C.ws} (j:Nat)=z9:=by
   unfold Dk.look;rw [az (λh=>by have x:(j:Int)<(gX D.bs C.ws).length:=h.2;omega)]
  have f:D.look (j:Nat)=z9:=by unfold Dk.look;rw [az (λh=>by have:=h.2;omega)]
  rw [c]
  cases a:yy C.ws (j:Nat) with
  |none=>rw [vt a,f]
  |some k=>
   obtain⟨b,m,r⟩:=jo (D:=D) a;have:=v C.ws[k].1 (av.2 ⟨_,ag b,rfl⟩);omega
theorem Xq(a:D.ps=[])(c:0<D.bs.length)(ws:List (Nat×List Value)):Dk.look {D with bs:=gX D.bs ws} 0=jN:=by
 have b:=jV D.bs ws;unfold Dk.look;rw [aB ⟨by omega,by show (0:Int)<(gX D.bs ws).length;omega⟩,a];show (gX D.bs ws).getD 0 []=_;rw [aE];unfold gX;rw [lM (by rw [zB,eQ,zB];exact c)];rfl
structure uL (bc bd:Nat) (S T:Nat->Prop) (D:Dk) (C:Ck) (h at_:Nat) (e:En) (f:Bool) (v:List Value) (C':Ck):Prop where
 go:∀(w:World) (r:Int),0<=r->r+h<=4611686018427370000->Cw w bc bd S T {D with reads:=r} C->
  Calls Tryz.prog 137 #[.pointer (some ⟨bc,0,none⟩),.int .i64 at_,.agg (qE e).toArray] w λx w'=>x=.returned (.tuple #[.agg v.toArray,.bool f])/\(∃(n:Int) (T':Nat->Prop),0<=n/\n<=(2*(h+1):Nat)/\Cw w' bc bd S T' {D with reads:=r+n} C'/\∀j,T' j->T j\/w.heap.size<=j)/\Kept (λj=>j=bd\/T j) w w'
theorem uL.below{d bd:Nat}{S T:Nat->Prop}{C:Ck}{h c:Nat}{e:En}{f:Bool}{v:List Value}{C':Ck}(k:uL d bd S T D C h c e f v C')(r:Int)(j:0<=r)(l:r+(h+1:Nat)<=4611686018427370000):
 Below d bd S T {D with reads:=r} C c e (2*(h+1)) f v C':=
 ⟨λw0 g a b i=>k.go w0 (r+g) (by omega) (by omega) i⟩
structure Wd {h:Nat} (D:Dk) (t:Tr h) (e:En) (C C':Ck) (m m':List UInt8) (f:Bool) (v:List Value) (pb nb:List Nat):Prop where
 chn:JV D C' m'
 stp:ZN D C C' m m' pb nb
 sub:∀j∈pb,j∈t.blocks
 pl:pb.length<=h+1
 nl:nb.length<=h+(if f then 1 else 0)
 few:C'.ws.length<=C.ws.length+3*(h+1)
 one:f=false->v=qI/\(C'.full=false->∃t',cH t e t'/\t'.LayV zo (λj=>C'.look D (j:Nat))/\t'.blocks.Perm (t.blocks++nb))
 two:f=true->∃e1:En,v=qE e1/\e1.Ok/\(C'.full=false->∃t' u q,dR t e t' u q/\e1=⟨q,false,0,u.blk⟩/\t'.LayV zo (λj=>C'.look D (j:Nat))/\u.LayV zo (λj=>C'.look D (j:Nat))/\(t'.blocks++u.blocks).Perm (t.blocks++nb))
theorem K1{a:List En}(h:∀c∈a,c.Ok)(b:i<a.length):(a.getD i dh).pl.Ok:=by
 rw [aE,aI b];exact(h _ (ag b)).pl
theorem Gy(A bd:Nat)(S T:Nat->Prop)(D:Dk)(R:D.bs.length<=1000)(e:En)(o:e.Ok)(b:Nat)(a:List En)(C:Ck)(m:List UInt8)(g:Tr.Good (h:=0) (b,a))(x:a.length<=6)(u:xi a)
 (q:21<=b/\zX m (b-21)=true) (N:C.look D b=zo (zc 5 a)) (F:JV D C m) (O:∀G∈a,G.pl≠e.pl) (y:C.ws.length<700):
 ∃f v C' m' L nb,Wd (h:=0) D (b,a) e C C' m m' f v L nb/\uL A bd S T D C 0 b e f v C':=by
 obtain⟨f,v,C',m',nb,E,c⟩:=Xo F R b 5 (by omega) q.1 q.2 (yP e a);have B:∀G∈yP e a,G.Ok:=K0 g.2 o;have K:=Xk e a;refine⟨f,v,C',m',[b],nb,⟨c.chn,c.stp,λj P=>P,by simp,by simpa using c.len,by have:=c.few;omega,λt=>?_,λt=>?_⟩,?_⟩
 .obtain⟨k,d,l,i⟩:=c.one t;exact⟨d,λ_=>⟨(b,yP e a),Gv g o k,i,by rw [l];exact eN _⟩⟩
 .obtain⟨k,J,d,l,i⟩:=c.two t;refine⟨_,l,(K1 B (by omega)).en d,λp=>?_⟩;obtain⟨s,U,I,M⟩:=i p;refine⟨(b,(yP e a).take ((yP e a).length/2)),(J,(yP e a).drop ((yP e a).length/2)),_,Gw g o d u O rfl (by omega) dh,rfl,I,M,by rw [s];exact eN _⟩
 .refine⟨λw r H k z=>?_⟩;refine(Xj w A bd S T {D with reads:=r} C z m (by rw [zH];exact F.map) H (by show r<=_;omega) b g.1 a g.2 x u (by rw [zH];exact N) e o y (yP e a) (u.ins_at) f v C' m' E).mono ?_;rintro G w' ⟨k,⟨n,Q,d,l,i,s⟩,x⟩;exact⟨k,⟨n,Q,d,by simpa using l,i,s⟩,x⟩
theorem dj{α:Type}{A M B:List α}{b:α}(h:(b::(A++(M++B))).Nodup):b∉A/\b∉M/\b∉B/\A.Nodup/\M.Nodup/\B.Nodup/\(∀j∈A,j∉M)/\(∀j∈B,j∉M):=by
 rw [iW,aX,aX] at h;obtain⟨a,f,⟨k,g,i⟩,e⟩:=h;simp only [aj,not_or] at a;exact⟨a.1,a.2.1,a.2.2,f,k,g,λj d c=>e j d j (ac _ c) rfl,λj d c=>i j c j d rfl⟩
theorem uM{h:Nat}(A B:List (Pl×Tr h))(q:Pl)(tc:Tr h):((A++(q,tc)::B).map λc=>(⟨c.1,false,0,c.2.blk⟩:En))=(A.map λc=>(⟨c.1,false,0,c.2.blk⟩:En))++⟨q,false,0,tc.blk⟩::(B.map λc=>(⟨c.1,false,0,c.2.blk⟩:En)):=by simp
theorem We{X d:List En}{a:En}(b:i=X.length)(c:i<(X++a::d).length):(X++a::d)[i]=a:=by subst b;simp
theorem BO{X c:List En}{a d:En}(b:i=X.length):(X++a::c).take (i+1)++d::(X++a::c).drop (i+1)=X++a::d::c:=by
 subst b;rw [lV,lh];simp
theorem Xr(ao bd:Nat)(S T:Nat->Prop)(D:Dk)(a9:D.bs.length<=1000)(e:En)(aN:e.Ok):∀(h:Nat) (t:Tr h) (C:Ck) (m:List UInt8),h<=100->t.Good->1<=t.items.length->t.items.length<=6->xi t.ents->t.blocks.Nodup->
 (∀j∈t.blocks,21<=j/\zX m (j-21)=true)->t.LayV zo (λj=>C.look D (j:Nat))->JV D C m->(∃p,t.First p/\¬e.pl.lt p=true)->(∀U∈t.ents,U.pl≠e.pl)->C.ws.length+3*(h+1)<700->
 ∃f v C' m' Q nb,Wd D t e C C' m m' f v Q nb/\uL ao bd S T D C h t.blk e f v C'
 |0,(b,I),C,m,_,g,_,h6,hs,_,htk,hl,hc,_,hn,hfew=>Gy ao bd S T D a9 e aN b I C m g h6 hs (htk b (aD.2 rfl)) hl hc hn (by omega)
 |h+1,(b,cs),C,m,hh,g,h1,h6,hs,hnd,htk,hl,hc,hfirst,hn,hfew=>by
  have aX:=aF h1 (eV (zA b cs));have bn:=aF (eV (zA b cs).symm) h6;have aK:Kids cs:=g.kids;obtain⟨A,q,tc,B,rfl,bm,be,a8⟩:=aK.child (λae=>by rw [ae] at aX;simp at aX) e.pl;obtain⟨bG,a3,bD,bH,bv,bI,bF⟩:=aK.mid;have s:(q,tc)∈A++(q,tc)::B:=by simp
  have aO:¬e.pl.lt q=true:=by
   by_cases aW:A=[]
   .subst aW;obtain⟨p,⟨u,bK,aL⟩,z⟩:=hfirst;simp only [aH,ee,eK] at aL;rw [aL.1.1];exact z
   .exact be aW
  have aU:=aK.good (q,tc) s;have aQ:=g.full
  have a2:(b::(zF A++(tc.blocks++zF B))).Nodup:=by have:(b::zF (A++(q,tc)::B)).Nodup:=hnd;rw [qz,qM] at this;exact this
  obtain⟨bB,bp,br,bJ,bx,bL,bu,bw⟩:=dj a2
  have N:∀j,j=b\/j∈zF (A++(q,tc)::B)->21<=j/\zX m (j-21)=true:=λj a=>htk j (by
   show j∈b::zF (A++(q,tc)::B)
   exact aq.2 a)
  have ba:xi (zM A++(tc.ents++zM B)):=by have:xi (zM (A++(q,tc)::B)):=hs;rw [zC,zp] at this;exact this
  have bg:=(ep.1 (ep.1 ba).2.1).1;have ar:C.look D b=zo (zc 4 ((A++(q,tc)::B).map λc=>(⟨c.1,false,0,c.2.blk⟩:En))):=hl.1;have aR:=hl.2
  obtain⟨bs,bE,Y,R,Q,nb,y,bC⟩:=Xr ao bd S T D a9 e aN h tc C m (by omega) aU.1 (by have:=aQ (q,tc) s;simp only at this;omega) aU.2.1 bg bx
   (λj a=>N j (.inr (zY s a))) (aR (q,tc) s) hc ⟨q,bv,aO⟩ (λU G=>hn U (by show U∈zM (A++(q,tc)::B);exact uK s G)) (by omega)
  have ax:=aK.items_srt;have aa:∀U∈(A++(q,tc)::B).map (λc=>(⟨c.1,false,0,c.2.blk⟩:En)),U.Ok:=g.items_ok
  have ai:∀U∈(A++(q,tc)::B).map (λc=>(⟨c.1,false,0,c.2.blk⟩:En)),U.mark=false/\U.size=0:=λU G=>by obtain⟨c,_,rfl⟩:=av.1 G;exact⟨rfl,rfl⟩
  have aZ:((A++(q,tc)::B).map λc=>(⟨c.1,false,0,c.2.blk⟩:En)).length=(A++(q,tc)::B).length:=by simp
  have x:∀(a4:Ck) (a3:List UInt8) (ag F:List Nat),ZN D C a4 m a3 ag F->(∀j∈ag,j=b\/j∈tc.blocks)->∀c,c∈A\/c∈B->c.2.LayV zo (λj=>a4.look D (j:Nat)):=λa4 a3 ag F st z c i=>by
   have aC:c∈A++(q,tc)::B:=by rcases i with h|h<;>simp [h]
   refine(aR c aC).congr (λj a=>?_);have bc:=N j (.inr (zY aC a));refine st.look j (λaS=>?_) (st.grew.apart bc.2) (by omega) (by omega);rcases i with E|d
   .rcases z j aS with rfl|z;.exact bB (zY E a)
    .exact bu j (zY E a) z
   .rcases z j aS with rfl|z;.exact br (zY d a)
    .exact bw j (zY d a) z
  have ab:=N b (.inl rfl);generalize bb:((A++(q,tc)::B).map λc=>(⟨c.1,false,0,c.2.blk⟩:En))=I at*;have V:I=(A.map λc=>(⟨c.1,false,0,c.2.blk⟩:En))++⟨q,false,0,tc.blk⟩::(B.map λc=>(⟨c.1,false,0,c.2.blk⟩:En)):=by rw [<-bb];exact uM A B q tc
  have aY:A.length<I.length:=by rw [aZ];simp
  have aV:I[A.length].at_=tc.blk:=by simp only [V];rw [We (by simp)]
  cases bs with
  |false=>
   obtain⟨rfl,a0⟩:=y.one rfl;refine⟨false,qI,Y,R,Q,nb,⟨y.chn,y.stp,λj a=>?_,by have:=y.pl;omega,by have:=y.nl;simp at this ⊢;omega,by have:=y.few;omega,λ_=>⟨rfl,λaA=>?_⟩,λh=>(by cases h)⟩,?_⟩
   .show j∈b::zF (A++(q,tc)::B);exact al _ (zY s (y.sub j a))
   .obtain⟨tc',P,au,O⟩:=a0 aA;refine⟨(b,A++(q,tc')::B),JR g bn aO a8 P,⟨?_,λc i=>?_⟩,fl O⟩
    .show Y.look D b=zo (zc 4 ((A++(q,tc')::B).map λc=>(⟨c.1,false,0,c.2.blk⟩:En)));rw [uM,P.blk,<-V,<-ar];exact y.stp.look b (λa=>bp (y.sub b a)) (y.stp.grew.apart ab.2) (by omega) (by omega)
    .have i:=i;rcases aj.1 i with E|d;.exact x Y R Q nb y.stp (λj a=>.inr (y.sub j a)) c (.inl E)
     .rcases aq.1 d with rfl|d;.exact au
      .exact x Y R Q nb y.stp (λj a=>.inr (y.sub j a)) c (.inr d)
   .refine⟨λw r ay bA aw=>?_⟩;have H:=bC.below r ay (by omega);rw [<-aV] at H;refine(VS w ao bd S T {D with reads:=r} C aw m (by rw [zH];exact hc.map) ay (by show r<=_;omega) b g.1 I aa ai (by omega) ax (by rw [zH];exact ar) e aN (by omega) (2*(h+1)) Y A.length bm.symm aY H).mono ?_;rintro U w' ⟨k1,⟨n,a1,k2,k3,X,an⟩,aP⟩;exact⟨k1,⟨n,a1,k2,by omega,X,an⟩,aP⟩
  |true=>
   obtain⟨ap,rfl,aT,aG⟩:=y.two rfl;have a6:=y.stp.grew.keeps ab.2;obtain⟨k,K⟩:∃k,I.take (A.length+1)++ap::I.drop (A.length+1)=k:=⟨_,rfl⟩;have bq:k.length=I.length+1:=by rw [<-K];simp;omega
   have a5:∀U∈k,U.Ok:=λU G=>by
    rw [<-K] at G;rcases aj.1 G with G|G;.exact aa U (aJ G)
    .rcases aq.1 G with rfl|G;.exact aT
     .exact aa U (eJ G)
   have ak:k=(A.map λc=>(⟨c.1,false,0,c.2.blk⟩:En))++⟨q,false,0,tc.blk⟩::ap::(B.map λc=>(⟨c.1,false,0,c.2.blk⟩:En)):=by rw [<-K,V,BO (by simp)]
   obtain⟨f,v,C',m',F,bo,o⟩:=Xo y.chn a9 b 4 (by omega) ab.1 a6 k;have st:=y.stp.trans o.stp
   have bk:∀j,j∈tc.blocks++nb->j≠b/\21<=j/\zX R (j-21)=true:=λj a=>by
    rcases aj.1 a with a|a
    .have:=N j (.inr (zY s a));exact⟨λae=>bp (ae▸a),this.1,y.stp.grew.keeps this.2⟩
    .have:=y.stp.grew.fresh j a;refine⟨λae=>y.stp.grew.apart ab.2 (ae▸a),this.1,?_⟩;rw [y.stp.grew.taken,show j-21+21=j from by omega];simp [a]
   have M:∀(u:Tr h),(∀j∈u.blocks,j∈tc.blocks++nb)->u.LayV zo (λj=>Y.look D (j:Nat))->u.LayV zo (λj=>C'.look D (j:Nat)):=λu aL bf=>bf.congr (λj a=>by
    have:=bk j (aL j a)
    exact o.stp.look j (by rw [aD];exact this.1) (o.stp.grew.apart this.2.2) (by omega) (by omega))
   refine⟨f,v,C',m',Q++[b],nb++F,⟨o.chn,st,λj a=>?_,by have:=y.pl;simp;omega,?_,by have:=y.few;have:=o.few;omega,λaA=>?_,λaA=>?_⟩,?_⟩
   .show j∈b::zF (A++(q,tc)::B);rcases aj.1 a with a|a;.exact al _ (zY s (y.sub j a))
    .rw [aD.1 a];exact am ..
   .have ap:=y.nl;simp at ap;simp only [ah]
    cases f with
    |false=>have bt:F.length<=0:=o.len;show nb.length+F.length<=h+1+0;omega
    |true=>have bt:F.length<=1:=o.len;show nb.length+F.length<=h+1+1;omega
   .obtain⟨k1,k2,k3,X⟩:=o.one aA;refine⟨k2,λad=>?_⟩;obtain⟨tc',uc,az,P,W,au,ul,O⟩:=aG (o.stp.unfull ad);have J:k=((A++(q,tc')::(az,uc)::B).map λc=>(⟨c.1,false,0,c.2.blk⟩:En)):=by rw [ak,W,uM,P.blk];simp
    refine⟨(b,A++(q,tc')::(az,uc)::B),JS g (by omega) aO a8 P,⟨?_,λc i=>?_⟩,?_⟩
    .show C'.look D b=zo (zc 4 ((A++(q,tc')::(az,uc)::B).map λc=>(⟨c.1,false,0,c.2.blk⟩:En)));rw [X,J]
    .have i:=i
     have z:∀j∈Q++[b],j=b\/j∈tc.blocks:=λj a=>by
      rcases aj.1 a with a|a;.exact .inr (y.sub j a)
      .exact .inl (aD.1 a)
     rcases aj.1 i with E|d;.exact x C' m' _ _ st z c (.inl E)
     .rcases aq.1 d with rfl|d;.exact M tc' (λj a=>O.mem_iff.1 (ac _ a)) au
      .rcases aq.1 d with rfl|d;.exact M uc (λj a=>O.mem_iff.1 (af _ a)) ul
       .exact x C' m' _ _ st z c (.inr d)
    .rw [k3,aM];exact kR O
   .obtain⟨k1,bl,k2,k3,X⟩:=o.two aA;refine⟨_,k3,(K1 a5 (by omega)).en k2,λad=>?_⟩;obtain⟨an,aP,bj,bi⟩:=X ad;obtain⟨tc',uc,az,P,W,au,ul,O⟩:=aG (o.stp.unfull ad);obtain⟨l,L⟩:∃l,A++(q,tc')::(az,uc)::B=l:=⟨_,rfl⟩;have J:k=(l.map λc=>(⟨c.1,false,0,c.2.blk⟩:En)):=by rw [ak,W,<-L,uM,P.blk];simp
    have Z:k.length=7:=by omega
    have bz:l.length=7:=by rw [J] at Z;simpa using Z
    have a7:(A++(q,tc)::B).length=6:=by omega
    have bh:(l.map Prod.fst)[3]? =some (k.getD (k.length/2) dh).pl:=by rw [Z,J,aE,mp,mp,aI (by omega)];rfl
    have aB:∀c∈l,c.2.LayV zo (λj=>C'.look D (j:Nat)):=λc i=>by
     rw [<-L] at i
     have z:∀j∈Q++[b],j=b\/j∈tc.blocks:=λj a=>by
      rcases aj.1 a with a|a;.exact .inr (y.sub j a)
      .exact .inl (aD.1 a)
     rcases aj.1 i with E|d;.exact x C' m' _ _ st z c (.inl E)
     .rcases aq.1 d with rfl|d;.exact M tc' (λj a=>O.mem_iff.1 (ac _ a)) au
      .rcases aq.1 d with rfl|d;.exact M uc (λj a=>O.mem_iff.1 (af _ a)) ul
       .exact x C' m' _ _ st z c (.inr d)
    rw [Z] at bj bi;refine⟨(b,l.take 3),(bl,l.drop 3),_,JT g a7 k2 aO a8 P l L _ bh,rfl,⟨?_,λc i=>aB c (aJ i)⟩,⟨?_,λc i=>aB c (eJ i)⟩,?_⟩
    .show C'.look D b=zo (zc 4 ((l.take 3).map λc=>(⟨c.1,false,0,c.2.blk⟩:En)));rw [bj,J,i4]
    .show C'.look D bl=zo (zc 4 ((l.drop 3).map λc=>(⟨c.1,false,0,c.2.blk⟩:En)));rw [bi,J,my]
    .rw [an];refine fm ?_ 3;rw [<-L];exact kR O
   .refine⟨λw r ay bA aw=>?_⟩;have H:=bC.below r ay (by omega);rw [<-aV] at H;refine(JQ w ao bd S T {D with reads:=r} C aw m (by rw [zH];exact hc.map) ay (2*(h+1)) (by omega) (by show r<=_;omega) b g.1 I aa ai (by omega) ax (by rw [zH];exact ar) e aN (by omega) Y R (by rw [zH];exact y.chn.map) (by have:=y.few;omega) A.length bm.symm aY ap aT H k K f v C' m' bo).mono ?_;rintro U w' ⟨k1,⟨n,a1,k2,k3,X,an⟩,aP⟩;exact⟨k1,⟨n,a1,k2,by omega,X,an⟩,aP⟩
end prog
namespace prog
open Go.ChangeShapes Go.WideShapes Go.ChangeAt Go.RowKit disk ref
open keys (zg zd zq zl)
theorem ql.of_block{w:World}{g:Nat}{t:TypeId}{a:List En}{P:Nat->Prop}(h:w.heap[g]? =some (.cells (zj a).toArray t (0,0)))(o:P g)(f:a.length<=1000):ql w P (some ⟨g,0,none⟩) a:=by
 refine⟨.inr ⟨g,0,rfl,o,(lT h),λk l=>?_⟩,f⟩;intro j v d;have p:∀b∈a.map qE,b.length=5:=λb i=>by obtain⟨e,_,rfl⟩:=av.1 i;rfl
 have n:j<5:=by have:=(aW.1 d).1;simpa [qE] using this
 have m:=KQ 5 (a.map qE) p k (by simpa using l);rw [ak w g (0+k*5+j) _ _ _ h]
 have c:((a.map qE).flatten.drop (k*5))[j]? =some v:=by
  have:(((a.map qE).flatten.drop (k*5)).take 5)[j]? =some v:=by rw [m];simpa using d
  rw [ma,aB n] at this;exact this
 rw [mc] at c;rw [aV];simpa [zj] using c
theorem JY(w:World)(b bd:Nat)(S T:Nat->Prop)(D:Dk)(C:Ck)(h:Cw w b bd S T D C)(m:List UInt8)(s:qP (C.look D 2) m)(q:0<=D.reads)(I:D.reads<=4611686018427380000)(e:En)(u:e.Ok)(G:C.ws.length<700)(a:Nat)(l:Ck)(t:List UInt8)(f:C.take D.bs.length m=(a,l,t)):
 Calls Tryz.prog 76 #[.pointer (some ⟨b,0,none⟩),.int .i64 0,.agg (qE e).toArray] w λr w'=>r=.returned (.int .i64 (a:Int))/\(∃(n:Int) (x:Nat->Prop),0<=n/\n<=1/\Cw w' b bd S x {D with reads:=D.reads+n} (l.put a (zo (zc 5 [e])))/\∀j,x j->T j\/w.heap.size<=j)/\Kept (λj=>j=bd\/T j) w w':=by
 have c:Hid _:=h;have H:Hid e.Ok:=u;change Hid _ at s f;clear h u;have J:=c.disk.lt bd c.disk.bdS;have y:Hid _:=c.chg.lt;unfold qE;go_enter Tryz.func76,Tryz.ntmps76;go_wp2_with fail;have i:Hid (Kept (λ_=>False) w ((w.alloc (.cells #[.string e.pl.key,.int .i64 e.pl.num,.bool e.mark,.int .i64 (e.size:Int),.int .i64 (e.at_:Int)] 109)).alloc (.cells #[.string e.pl.key,.int .i64 e.pl.num,.bool e.mark,.int .i64 (e.size:Int),.int .i64 (e.at_:Int)] 109))):=Kept.alloc2 _ _ _;have A:Hid (((w.alloc (.cells #[.string e.pl.key,.int .i64 e.pl.num,.bool e.mark,.int .i64 (e.size:Int),.int .i64 (e.at_:Int)] 109)).alloc (.cells #[.string e.pl.key,.int .i64 e.pl.num,.bool e.mark,.int .i64 (e.size:Int),.int .i64 (e.at_:Int)] 109)).heap[w.heap.size+1]? =some (.cells (zj [e]).toArray 109 (0,0))):=heap_alloc2_new w _ _;have K:((w.alloc (.cells #[.string e.pl.key,.int .i64 e.pl.num,.bool e.mark,.int .i64 (e.size:Int),.int .i64 (e.at_:Int)] 109)).alloc (.cells #[.string e.pl.key,.int .i64 e.pl.num,.bool e.mark,.int .i64 (e.size:Int),.int .i64 (e.at_:Int)] 109)).heap.size=w.heap.size+2:=by simp
 generalize ((w.alloc (.cells #[.string e.pl.key,.int .i64 e.pl.num,.bool e.mark,.int .i64 (e.size:Int),.int .i64 (e.at_:Int)] 109)).alloc (.cells #[.string e.pl.key,.int .i64 e.pl.num,.bool e.mark,.int .i64 (e.size:Int),.int .i64 (e.at_:Int)] 109))=N at*;refine(Xi N b bd S T D C (c.kept0 i) m s q (by omega) (λj=>j=w.heap.size+1) (λj o B=>by have:=y.out j B;omega) (λj o M=>by omega) (some ⟨w.heap.size+1,0,none⟩) 1 5 (.inr rfl) [e] 1 rfl (ql.of_block A rfl (by simp)) (λO E=>by rw [aD.1 E];exact H) (by simp) (by omega) a l t f).mono ?_;rintro r L ⟨rfl,⟨F,z,v,p,k,g⟩,d⟩;change Hid _ at k g d;go_wp2;go_ret;exact⟨rfl,⟨F,z,v,p,k,λj o=>(g j o).imp id (λh=>by omega)⟩,(i.mono fE).trans d iL⟩
theorem cM(w:World)(b bd:Nat)(S T:Nat->Prop)(D:Dk)(C:Ck)(r:Int)(h:Cw w b bd S T {D with reads:=r} C)(o:0<=r)(e:En)(k a:Nat)(t:a≠0)(p:r+k<=4611686018427370000)(C':Ck)(m:uL b bd S T D C k a e false qI C'):
 Calls Tryz.prog 76 #[.pointer (some ⟨b,0,none⟩),.int .i64 a,.agg (qE e).toArray] w λA w'=>A=.returned (.int .i64 (a:Int))/\(∃(n:Int) (q:Nat->Prop),0<=n/\n<=(2*(k+1):Nat)/\Cw w' b bd S q {D with reads:=r+n} C'/\∀j,q j->T j\/w.heap.size<=j)/\Kept (λj=>j=bd\/T j) w w':=by
 have x:Hid _:=h;change Hid _ at m;clear h;have F:((a:Int)==0)=false:=by simp;omega
 unfold qE;go_enter Tryz.func76,Tryz.ntmps76;go_wp2_with fail;have g:Hid (Kept (λ_=>False) w (w.alloc (.cells #[.string e.pl.key,.int .i64 e.pl.num,.bool e.mark,.int .i64 (e.size:Int),.int .i64 (e.at_:Int)] 109))):=Kept.alloc _ _ _;have B:(w.alloc (.cells #[.string e.pl.key,.int .i64 e.pl.num,.bool e.mark,.int .i64 (e.size:Int),.int .i64 (e.at_:Int)] 109)).heap.size=w.heap.size+1:=by simp
 generalize (w.alloc (.cells #[.string e.pl.key,.int .i64 e.pl.num,.bool e.mark,.int .i64 (e.size:Int),.int .i64 (e.at_:Int)] 109))=E at*;refine(m.go E r o p (x.kept0 g)).mono ?_;rintro A u ⟨rfl,⟨z,v,s,l,i,f⟩,d⟩;change Hid _ at i f d;unfold qI;go_wp2;go_ret;have c:=Kept.alloc (λ_=>False) u (.cells #[.string ⟨#[]⟩,.int .i64 0,.bool false,.int .i64 0,.int .i64 0] 109);exact⟨rfl,⟨z,v,s,l,i.kept0 c,λj y=>(f j y).imp id (λh=>by omega)⟩,((g.mono fE).trans d iL).trans c fE⟩
theorem bB(w:World)(k bd:Nat)(S T:Nat->Prop)(D:Dk)(C:Ck)(r:Int)(h:Cw w k bd S T {D with reads:=r} C)(L:0<=r)(e:En)(s b:Nat)(W:b≠0)(o:b<65536)(R:s<=100)(M:r+s<=4611686018427370000)(f:Ck)(a:En)(x:a.Ok)(K:uL k bd S T D C s b e true (qE a) f)(m:List UInt8)(N:qP (f.look D 2) m)(af:f.ws.length<700)(q:Nat)(E:Ck)(O:List UInt8)(u:f.take D.bs.length m=(q,E,O)):
 Calls Tryz.prog 76 #[.pointer (some ⟨k,0,none⟩),.int .i64 b,.agg (qE e).toArray] w λU w'=>U=.returned (.int .i64 (q:Int))/\(∃(n:Int) (P:Nat->Prop),0<=n/\n<=(2*(s+1)+1:Nat)/\Cw w' k bd S P {D with reads:=r+n} (E.put q (zo (zc 4 [⟨yz,false,0,b⟩,a])))/\∀j,P j->T j\/w.heap.size<=j)/\Kept (λj=>j=bd\/T j) w w':=by
 have H:Hid _:=h;have Q:Hid a.Ok:=x;change Hid _ at K N u;clear h x;have aj:=H.disk.lt bd H.disk.bdS;have ao:((b:Int)==0)=false:=by simp;omega
 unfold qE;go_enter Tryz.func76,Tryz.ntmps76;go_wp2_with fail;have A:Hid (Kept (λ_=>False) w (w.alloc (.cells #[.string e.pl.key,.int .i64 e.pl.num,.bool e.mark,.int .i64 (e.size:Int),.int .i64 (e.at_:Int)] 109))):=Kept.alloc _ _ _;have ak:(w.alloc (.cells #[.string e.pl.key,.int .i64 e.pl.num,.bool e.mark,.int .i64 (e.size:Int),.int .i64 (e.at_:Int)] 109)).heap.size=w.heap.size+1:=by simp
 generalize (w.alloc (.cells #[.string e.pl.key,.int .i64 e.pl.num,.bool e.mark,.int .i64 (e.size:Int),.int .i64 (e.at_:Int)] 109))=an at*;refine(K.go an r L M (H.kept0 A)).mono ?_;rintro U c ⟨rfl,⟨t,X,ai,ag,p,i⟩,g⟩;change Hid _ at p i g;unfold qE;go_wp2_with fail;have v:Hid (Kept (λ_=>False) c ((c.alloc (.cells #[.string a.pl.key,.int .i64 a.pl.num,.bool a.mark,.int .i64 (a.size:Int),.int .i64 (a.at_:Int)] 109)).alloc (.cells #[.string ⟨#[]⟩,.int .i64 0,.bool false,.int .i64 0,.int .i64 (b:Int),.string a.pl.key,.int .i64 a.pl.num,.bool a.mark,.int .i64 (a.size:Int),.int .i64 (a.at_:Int)] 109))):=Kept.alloc2 _ _ _;have Z:Hid (((c.alloc (.cells #[.string a.pl.key,.int .i64 a.pl.num,.bool a.mark,.int .i64 (a.size:Int),.int .i64 (a.at_:Int)] 109)).alloc (.cells #[.string ⟨#[]⟩,.int .i64 0,.bool false,.int .i64 0,.int .i64 (b:Int),.string a.pl.key,.int .i64 a.pl.num,.bool a.mark,.int .i64 (a.size:Int),.int .i64 (a.at_:Int)] 109)).heap[c.heap.size+1]? =some (.cells (zj [⟨yz,false,0,b⟩,a]).toArray 109 (0,0))):=heap_alloc2_new c _ _;have ah:((c.alloc (.cells #[.string a.pl.key,.int .i64 a.pl.num,.bool a.mark,.int .i64 (a.size:Int),.int .i64 (a.at_:Int)] 109)).alloc (.cells #[.string ⟨#[]⟩,.int .i64 0,.bool false,.int .i64 0,.int .i64 (b:Int),.string a.pl.key,.int .i64 a.pl.num,.bool a.mark,.int .i64 (a.size:Int),.int .i64 (a.at_:Int)] 109)).heap.size=c.heap.size+2:=by simp
 generalize ((c.alloc (.cells #[.string a.pl.key,.int .i64 a.pl.num,.bool a.mark,.int .i64 (a.size:Int),.int .i64 (a.at_:Int)] 109)).alloc (.cells #[.string ⟨#[]⟩,.int .i64 0,.bool false,.int .i64 0,.int .i64 (b:Int),.string a.pl.key,.int .i64 a.pl.num,.bool a.mark,.int .i64 (a.size:Int),.int .i64 (a.at_:Int)] 109))=V at*;have ad:=g.size;have G:Hid _:=p.chg.lt;have J:Hid (qP (f.look {D with reads:=r+t} 2) m):=by show qP _ _;rw [zH];exact N.out
 refine(Xi V k bd S X _ f (p.kept0 v) m J (by show 0<=r+t;omega) (by show r+t<=_;omega) (λj=>j=c.heap.size+1) (λj l aa=>by have:=G.out j aa;omega) (λj l al=>by omega) (some ⟨c.heap.size+1,0,none⟩) 2 4 (.inl rfl) [⟨yz,false,0,b⟩,a] 2 rfl (ql.of_block Z rfl (by simp)) (λU F=>by
  rcases aq.1 F with rfl|F;.exact⟨by simp [yz],by simp [yz],by simp [yz],by simp [yz],by simp,by simp,o⟩
  .rw [aD.1 F];exact Q) (by simp) (by omega) q E O u).mono ?_
 rintro U am ⟨rfl,⟨Y,ab,ac,ae,B,y⟩,z⟩;change Hid _ at B y z;go_wp2;go_ret;refine⟨rfl,⟨t+Y,ab,by omega,by omega,?_,λj l=>?_⟩,?_⟩
 .have:=B.out;simp only [eG] at this;exact this
 .rcases y j l with d|d;.exact(i j d).imp id (λh=>by omega)
  .exact .inr (by omega)
 .have k1:=((A.mono fE).trans g iL).trans v fE
  exact k1.trans z (λj l=>by
   rcases l with d|d;.exact .inl (.inl d)
   .rcases i j d with I|I;.exact .inl (.inr I)
    .exact .inr (by omega))
end prog
namespace prog
open Go.RowKit disk ref
variable {e:En}
def yo(rd:Nat->List Value)(root:Nat)(es:List En)(bs:List Nat):Prop:=
 (root=0/\es=[]/\bs=[])\/∃(h:Nat) (t:Tr h),t.Root/\t.LayV zo rd/\t.blk=root/\t.ents=es/\t.blocks=bs
theorem cH.root{h:Nat}{t a:Tr h}(k:cH t e a)(r:t.Root)(b:∀c∈t.ents,c.pl≠e.pl):a.Root where
 good:=k.good
 hi:=k.hi
 one:=aF r.one k.lo
 two:=λh=>aF (r.two h) k.lo
 first:=k.first _ r.first
 srt:=by rw [k.ents];exact r.srt.ins b
theorem DW:yz.Ok:=⟨by simp [yz],by simp [yz],by simp [yz],by simp [yz]⟩
theorem dR.root{h:Nat}{t a u:Tr h}{q:Pl}(k:dR t e a u q)(r:t.Root)(s:∀d∈t.ents,d.pl≠e.pl)(g:∀d∈yP e t.ents,¬d.pl.lt yz=true){o:Nat}(n:o<65536):
 Tr.Root (h:=h+1) (o,[(yz,a),(q,u)]):=by
 have p:zM [(yz,a),(q,u)]=yP e t.ents:=by rw [<-k.ents];simp [zM]
 have l:∀d∈a.ents,¬d.pl.lt yz=true:=λd f=>g d (by rw [<-k.ents];exact ac _ f);obtain⟨d,f⟩:=k.good.some_ent (by have:=k.lo;omega);have m:yz.lt q=true:=Pl.lt_of_not (l d f) (k.left d f);have v:Kids [(q,u)]:=Kids.nil.cons k.goodu k.hiu k.qok k.firstu k.right (λ_ h=>(by cases h)) (λ_ h=>(by cases h));have w:Kids [(yz,a),(q,u)]:=v.cons k.good k.hi DW (k.first _ r.first) l (λb i=>by rw [aD.1 i];exact m) (λb i=>by rw [aD.1 i];exact k.left);refine⟨w.node (λc j=>?_) n,?_,?_,λ_=>?_,⟨a,[(q,u)],rfl⟩,?_⟩
 .rcases aq.1 j with rfl|j;.exact k.lo
  .rw [aD.1 j];exact k.lou
 .exact aF (eV (zA _ _)) (by simp)
 .exact aF (by simp) (eV (zA _ _).symm)
 .exact aF (by simp) (eV (zA _ _).symm)
 .show xi (zM [(yz,a),(q,u)]);rw [p];exact r.srt.ins s
theorem VT(c:e.Ok){a:Nat}(b:a<65536):Tr.Root (h:=0) (a,[e]) where
 good:=⟨b,λf d=>by rw [aD.1 d];exact c⟩
 hi:=by show 1<=6;omega
 one:=by show 1<=1;omega
 two:=λh=>by omega
 first:=eR
 srt:=ml _ _
structure bT (D:Dk) (C C':Ck) (m m':List UInt8) (root':Nat) (e:En) (es:List En) (bs pb nb:List Nat):Prop where
 chn:JV D C' m'
 stp:ZN D C C' m m' pb nb
 sub:∀j∈pb,j∈bs
 nl:nb.length<=bs.length+1
 few:C'.ws.length<=C.ws.length+100
 tree:C'.full=false->∃bs',yo (λj=>C'.look D (j:Nat)) root' (yP e es) bs'/\bs'.Perm (bs++nb)/\∃h,pb.length+nb.length<=2*h+1/\3^h<=bs'.length
 lt:root'<65536
structure JZ (bc bd:Nat) (S T:Nat->Prop) (D:Dk) (C:Ck) (root:Nat) (e:En) (root':Nat) (C':Ck):Prop where
 go:∀(w:World) (r:Int),0<=r->r<=4611686018427360000->Cw w bc bd S T {D with reads:=r} C->
  Calls Tryz.prog 76 #[.pointer (some ⟨bc,0,none⟩),.int .i64 root,.agg (qE e).toArray] w λx w'=>x=.returned (.int .i64 (root':Int))/\(∃(n:Int) (T':Nat->Prop),0<=n/\n<=15/\Cw w' bc bd S T' {D with reads:=r+n} C'/\∀j,T' j->T j\/w.heap.size<=j)/\Kept (λj=>j=bd\/T j) w w'
theorem Xs(G bd:Nat)(S T:Nat->Prop)(D:Dk)(N:D.bs.length<=1000)(e:En)(ag:e.Ok)(E:¬e.pl.lt yz=true)(C:Ck)(m:List UInt8)(H:Nat)(R:List En)(bs:List Nat)(hF:yo (λj=>C.look D (j:Nat)) H R bs)(ay:bs.Nodup)
 (s:∀j∈bs,21<=j/\zX m (j-21)=true) (ao:bs.length<=979) (x:JV D C m) (W:∀O∈R,¬O.pl.lt yz=true) (al:∀O∈R,O.pl≠e.pl) (aJ:C.ws.length<500):
 ∃F C' m' Q nb,bT D C C' m m' F e R bs Q nb/\JZ G bd S T D C H e F C':=by
 rcases hF with⟨rfl,rfl,rfl⟩|⟨h,t,k,aG,rfl,rfl,rfl⟩
 .obtain⟨b,y,I,nb,s,a⟩:=fo x N;have i:=a.lt N;refine⟨b,y.put b (zo (zc 5 [e])),I,[],nb,⟨a.chn.put i.2 _,a.stp.taken _ a.mem,λ_ h=>(by cases h),by have:=a.len;simpa using this,?_,λo=>?_,i.1⟩,⟨λw r L l A=>?_⟩⟩
  .have:=qH y b (zo (zc 5 [e]));have:=a.few;omega
  .rw [qV] at o;rcases a.is with⟨rfl,l,X,_⟩|⟨_,_,l⟩;.exact⟨[b],.inr ⟨0,(b,[e]),VT ag i.1,qw _ _ _ _,rfl,rfl,rfl⟩,eN _,0,by simp,by simp⟩
   .rw [l] at o;cases o
  .refine(JY w G bd S T {D with reads:=r} C A m (by rw [zH];exact x.map) L (by show r<=_;omega) e ag (by omega) b y I s).mono ?_;rintro O w' ⟨l,⟨n,J,X,ap,P,ax⟩,az⟩;exact⟨l,⟨n,J,X,by omega,P,ax⟩,az⟩
 .have az:=k.low ao;obtain⟨f,v,U,ab,Q,nb,p,aN⟩:=Xr G bd S T D N e ag h t C m (by omega) k.good k.one k.hi k.srt ay s aG x ⟨yz,k.first,E⟩ al (by omega);have aA:=(s t.blk t.blk_mem).1;have aL:=k.many;have aK:=DU h
  cases f with
  |false=>
   obtain⟨rfl,aa⟩:=p.one rfl;refine⟨t.blk,U,ab,Q,nb,⟨p.chn,p.stp,p.sub,?_,by have:=p.few;omega,λo=>?_,k.good.blk⟩,⟨λw r L l A=>?_⟩⟩;.have:=p.nl;simp at this;omega
   .obtain⟨g,B,ai,M⟩:=aa o;have z:=B.root k al;exact⟨g.blocks,.inr ⟨h,g,z,ai,B.blk,B.ents,rfl⟩,M,h,by have:=p.nl;have:=p.pl;simp at *; omega,z.many⟩
   .refine(cM w G bd S T D C r A L e h t.blk (by omega) (by omega) U aN).mono ?_;rintro O w' ⟨k1,⟨n,J,k2,k3,ah,Y⟩,ak⟩;exact⟨k1,⟨n,J,k2,by omega,ah,Y⟩,ak⟩
  |true=>
   obtain⟨ae,rfl,ar,am⟩:=p.two rfl;obtain⟨b,y,I,aw,Z,a⟩:=fo p.chn N;have i:=a.lt N;have st:=p.stp.trans a.stp;rw [aM] at st;have aC:=p.few;have aO:=a.len;refine⟨b,y.put b (zo (zc 4 [⟨yz,false,0,t.blk⟩,ae])),I,Q,nb++aw,⟨a.chn.put i.2 _,st.taken _ (a.mem.imp (af _) id),p.sub,?_,?_,λo=>?_,i.1⟩,⟨λw r L l A=>?_⟩⟩;.have:=p.nl;simp at this ⊢;omega
   .have:=qH y b (zo (zc 4 [⟨yz,false,0,t.blk⟩,ae]));have:=a.few;omega
   .rw [qV] at o;rcases a.is with⟨rfl,l,X,_⟩|⟨_,_,l⟩
    .obtain⟨g,u,q,B,rfl,ai,ul,M⟩:=am (a.stp.unfull o)
     have V:∀O∈yP e t.ents,¬O.pl.lt yz=true:=λO ad=>by
      rcases vp.1 ad with rfl|ad;.exact E
      .exact W O ad
     have z:=B.root k al V i.1
     have av:∀j,j∈t.blocks++nb->21<=j/\zX ab (j-21)=true:=λj d=>by
      rcases aj.1 d with d|d;.exact⟨(s j d).1,p.stp.grew.keeps (s j d).2⟩
      .have:=p.stp.grew.fresh j d;refine⟨this.1,?_⟩;rw [p.stp.grew.taken,show j-21+21=j from by omega];simp [d]
     have K:∀(aB:Tr h),(∀j∈aB.blocks,j∈t.blocks++nb)->aB.LayV zo (λj=>U.look D (j:Nat))->aB.LayV zo (λj=>(y.put b (zo (zc 4 [⟨yz,false,0,t.blk⟩,⟨q,false,0,u.blk⟩]))).look D (j:Nat)):=λaB aH au=>au.congr (λj d=>by
      have ap:=av j (aH j d);have P:=a.stp.grew.apart ap.2;have ax:j≠b:=λaE=>P (by rw [aE];simp);rw [qe _ _ _ _ _ (by omega)]
      exact a.stp.look j (λh=>(by cases h)) P (by omega) (by omega))
     have aI:(Tr.blocks (h:=h+1) (b,[(yz,g),(q,u)])).Perm (t.blocks++(nb++[b])):=by
      show (b::zF [(yz,g),(q,u)]).Perm _;have aF:zF [(yz,g),(q,u)]=g.blocks++u.blocks:=by simp [zF]
      rw [aF,<-an];exact(M.cons b).trans (eZ (l₁:=[b]))
     refine⟨_,.inr ⟨h+1,(b,[(yz,g),(q,u)]),z,⟨?_,λc x=>?_⟩,rfl,?_,rfl⟩,aI,h+1,?_,z.many⟩
     .show (y.put b _).look D b=zo (zc 4 ([(yz,g),(q,u)].map λc=>(⟨c.1,false,0,c.2.blk⟩:En)));rw [qw];simp [B.blk]
     .have x:c∈[(yz,g),(q,u)]:=x;rcases aq.1 x with rfl|x;.exact K g (λj d=>M.mem_iff.1 (ac _ d)) ai
      .rw [aD.1 x];exact K u (λj d=>M.mem_iff.1 (af _ d)) ul
     .show zM [(yz,g),(q,u)]=_;rw [<-B.ents];simp [zM]
     .have:=p.nl;have:=p.pl;simp at *; omega
    .rw [l] at o;cases o
   .refine(bB w G bd S T D C r A L e h t.blk (by omega) k.good.blk (by omega) (by omega) U ae ar aN ab p.chn.map (by omega) b y I Z).mono ?_;rintro O w' ⟨k1,⟨n,J,k2,k3,ah,Y⟩,ak⟩;exact⟨k1,⟨n,J,k2,by omega,ah,Y⟩,ak⟩
end prog
namespace book
open Go.RowKit disk ref
structure US (w w':World) (e:TypeId) (size:Nat) (v:Value) (n m:Nat) (xs:List Value) (r:Value):Prop where
 keeps:w'.ownsRow 0 e size v n xs
 kept:Kept (λk=>v.ownBlock=some k) w w'
 res:(∃g cx,v=.slice (some ⟨g,0,none⟩) n cx/\r=.slice (some ⟨g,0,none⟩) (n+m) cx/\n+m<=cx)\/
  (∃cap cur,r=.slice (some ⟨w.heap.size,0,none⟩) (n+m) cap/\w'.heap[w.heap.size]? =some (.cells cur e (0,0))/\(n+m)*size<=cur.size)
theorem vw{P:Program}(w:World)(t C e:TypeId)(i:TypeInfo)(z:Value)(f bytes:Nat)(D:P.underlying t=some (.slice e))(F:P.info? e=some i)(K:i.zero=some z)
 (y:i.size=f) (L:i.bytes=bytes) (V:z.cells.size=f) (v:Value) (n:Nat) (q:List Value) (b:w.ownsRow 0 e f v n q)
 (a:Addr) (m c:Nat) (d:List Value) (p:d.length=m*f) (l:∀j u,d[j]? =some u->w.cell? (a.add j)=some u) (T:∀u∈d,u.oneCell'=true) (W:0<m)
 (J:n+m<=maxLen) (o:(n+m)*bytes<=140737488355328):
 ∃r w',(Builtin.append_ #[t,t] C #[v,.slice (some a) m c]).run P w=.ok r w'/\US w w' e f v n m q r:=by
 subst y;subst L;have G:n+m<=9223372036854775807:=by simp only [maxLen] at J;omega
 rcases b.2 with⟨rfl,rfl⟩|⟨g,cap,s,rfl,M,I,N,H,O,B⟩
 .have U:q=[]:=ed (by simpa using b.1);subst U;have x:=run_append_nil (P:=P) w t C e i z D F K a m c d p l (by omega) (by omega) (by have Q:=o;simp only [aV] at Q;omega);refine⟨_,_,x,aP _ _ _ _,(Kept.drew _ w).trans (Kept.alloc _ _ _) iL,.inr ⟨_,_,by rw [aV],heap_alloc_new w.drew _,?_⟩⟩;simp only [Array.size_append,aw,p,aV];omega
 .by_cases h:n+m<=cap
  .have E:n*i.size+d.length<=s.size:=by rw [p,O,<-eS];exact eH _ h
   have x:=run_append_room (P:=P) w t C e i D F g n cap s I a m c d p l T h E;refine⟨_,_,x,⟨b.1,.inr ⟨g,cap,_,rfl,M,setRow_heap w g s _ e _ I,N,H,?_,?_⟩⟩,⟨rfl,rfl,rfl,by simp,λk _ R=>setRow_other w g k _ (λe=>R (by simp [Value.ownBlock,e]))⟩,.inl ⟨g,cap,rfl,rfl,h⟩⟩
   .simp only [aw,ah,ay,aU,iC];omega
   .rw [i6,B,an,<-b.1];exact iR
  .have A:∀j u,q[j]? =some u->w.cell? ((⟨g,0,none⟩:Addr).add j)=some u:=b.cells (g:=g) rfl;have x:=run_append_grow (P:=P) w t C e i z D F K ⟨g,0,none⟩ n cap q b.1 A a m c d p l (by omega) (by omega) (growslice_fits (by omega) o);have k:∀S:Nat->Prop,Kept S w (w.drew.alloc (.cells (q.toArray++d.toArray++Builtin.zeroCells z.cells (grownCap w (n+m) cap e-(n+m))) e)):=λS=>(Kept.drew _ w).trans (Kept.alloc _ _ _) iL;refine⟨_,_,x,(k (λ_=>False)).owns b nF,k _,.inr ⟨_,_,rfl,heap_alloc_new w.drew _,?_⟩⟩;simp only [Array.size_append,aw,p,b.1,eS];omega
theorem xJ{P:Program}{w:World}{l:Array Oper}{rest:List Oper}{y:Oper}{a:Act}{Q:Exit->Act->World->Prop}(x:y.guard=none)(s R:Operand)(t:TypeId)
 (I:y.op=.call {callee:=.builtin .append,args:=#[s,R],argTypes:=#[t,t] })
 (e:TypeId) (i:TypeInfo) (z:Value) (b bytes:Nat) (E:P.underlying t=some (.slice e)) (M:P.info? e=some i) (H:i.zero=some z)
 (g:i.size=b) (B:i.bytes=bytes) (C:z.cells.size=b) (v:Value) (n:Nat) (q:List Value) (L:a.eval s=v) (o:w.ownsRow 0 e b v n q)
 (p:Addr) (m c:Nat) (d:List Value) (N:a.eval R=.slice (some p) m c) (J:d.length=m*b) (k:∀j u,d[j]? =some u->w.cell? (p.add j)=some u) (G:∀u∈d,u.oneCell'=true) (O:0<m)
 (A:n+m<=maxLen) (f:(n+m)*bytes<=140737488355328)
 (h:∀r w',US w w' e b v n m q r->wpList P l Q rest (a.put y.dst r) w'):wpList P l Q (y::rest) a w:=by
 refine md x λS F=>?_;obtain⟨r,w',K,D⟩:=vw (P:=P) w t y.type e i z b bytes E M H g B C v n q o p m c d J k G O A f;unfold Oper.wp execOp;simp only [I,resolve,invoke,builtin,il,iI,eM,iQ,aT,im,L,N,K];exact F _ _ (h r w' D)
theorem US.form{w w':World}{e:TypeId}{b:Nat}{v:Value}{n m:Nat}{k:List Value}{r:Value}(h:US w w' e b v n m k r):∃g c,r=.slice (some ⟨g,0,none⟩) (n+m) c/\
 ((v=.slice (some ⟨g,0,none⟩) n c/\n+m<=c)\/(g=w.heap.size/\∃a,w'.heap[g]? =some (.cells a e (0,0))/\(n+m)*b<=a.size)):=by
 rcases h.res with⟨g,j,f,d,i⟩|⟨cap,a,f,d,i⟩;.exact⟨g,j,d,.inl ⟨f,i⟩⟩
 .exact⟨w.heap.size,cap,f,.inr ⟨rfl,a,d,i⟩⟩
end book
end Go.Proofs.YtcoengihaobddaaGreatDoor
