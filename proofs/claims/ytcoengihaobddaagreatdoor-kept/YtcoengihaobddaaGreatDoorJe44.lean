/- Part 44 of 50 of a proof: Keep18, Keep19, Keep20, Keep21, Keep22, Keep23 -/
import Derived.Test.YtcoengihaobddaaGreatDoorJe42
import Derived.Test.YtcoengihaobddaaGreatDoorJe43
set_option maxHeartbeats 8000000
set_option linter.unusedVariables false
set_option linter.unusedSimpArgs false
set_option maxRecDepth 8000
namespace Go.Proofs.YtcoengihaobddaaGreatDoor
namespace keep
open disk ref
open law (zP)
variable {α:Type}
theorem UN(l:List α)(i:Nat)(h:i<l.length):l=l.take i++l[i]::l.drop (i+1):=by
 rw [<-aL h,aA]
theorem jX(vs us:List zw):weight (vs++us)=weight vs+weight us:=by unfold weight;rw [eh,lJ]
theorem uD(v:zw)(vs:List zw):weight (v::vs)=qd v.body.length+weight vs:=by unfold weight;rw [aT,mz]
theorem jK(vs:List zw)(i:Nat)(h:i<vs.length):weight (cut vs i)+qd vs[i].body.length=weight vs:=by
 have e:weight vs=weight (vs.take i++vs[i]::vs.drop (i+1)):=et weight (UN vs i h);rw [e,jX,uD];unfold cut;rw [jX];omega
theorem YG(l:List α)(i:Nat):(cut l i).Sublist l:=by
 unfold cut
 have h:((l.take i)++l.drop (i+1)).Sublist (l.take i++l.drop i):=(List.Sublist.refl _).append (by
  rw [<-eI]
  exact List.drop_sublist _ _)
 rwa [aA] at h
theorem BA(l:List α)(i j:Nat)(b:j<l.length)(a:j≠i):l[j]∈cut l i:=by
 unfold cut;by_cases h:j<i;.exact ac _ (iT.2 ⟨j,by omega,rfl⟩)
 .exact af _ (l9.2 ⟨j-(i+1),by omega,by congr 1;omega⟩)
theorem UO{vs:List zw}(h:xt vs){i j:Nat}(c:i<vs.length)(b:j<vs.length)(e:vs[i].key=vs[j].key/\vs[i].num=vs[j].num):i=j:=by
 unfold xt at h;rw [eB] at h;rcases mo i j with a|a|a;.exact absurd e (h i j c b a)
 .exact a
 .exact absurd ⟨e.1.symm,e.2.symm⟩ (h j i b c a)
structure y6 (V:zP) (vs:List zw) (last:Int) (lost:Nat):Prop where
 sub:∀v∈vs,v∈V.vs
 apart:xt vs
 plain:∀v∈vs,v.mark=false
 last:last<=V.n0
 wt:weight V.vs<=weight vs+lost
def fR(V:zP)(vs:List zw)(i:Nat)(last:Int)(lost:Nat):Prop:=y6 V vs last lost\/∃h:i<vs.length,y6 V (cut vs i) last lost/\qK V.vs vs[i].key vs[i].num=none
section
variable {V U:zP} {vs:List zw} {last:Int} {lost:Nat}
theorem y6.none(n:Int)(h:0<=n):y6 ⟨[],n⟩ [] 0 0:=⟨λ_ h=>(by cases h),List.Pairwise.nil,λ_ h=>(by cases h),h,ai _⟩
theorem y6.put(h:y6 V vs last lost)(g:law.Good V)(d:ByteArray)(B:List UInt8):y6 (V.add d false B) (vs++[⟨d,V.n0+1,false,B⟩]) (V.n0+1) lost:=by
 refine⟨λv f=>?_,?_,λv f=>?_,eD _,?_⟩
 .rcases aj.1 f with c|c;.exact ac _ (h.sub v c)
  .exact af _ c
 .refine ep.2 ⟨h.apart,ml _ _,λa i b j e=>?_⟩;rw [aD.1 j] at e;have:=(g.num a (h.sub a i)).2;have k:a.num=V.n0+1:=e.2;omega
 .rcases aj.1 f with c|c;.exact h.plain v c
  .rw [aD.1 c]
 .rw [ja,jX,uD];have:=h.wt;show _+qd B.length<=weight vs+(qd B.length+0)+lost;omega
theorem y6.lose(h:y6 V vs last lost)(a:ByteArray)(B:List UInt8)(b:U=V\/U=V.add a false B):y6 U vs last (lost+qd B.length):=by
 rcases b with rfl|rfl;.exact⟨h.sub,h.apart,h.plain,h.last,by have:=h.wt;omega⟩
 .refine⟨λv c=>ac _ (h.sub v c),h.apart,h.plain,by have:=h.last;show last<=V.n0+1;omega,?_⟩;rw [ja];have:=h.wt;omega
theorem y6.erase(h:y6 V vs last lost)(g:law.Good V)(i:Nat)(a:i<vs.length):y6 (V.sub vs[i].key vs[i].num) (cut vs i) last lost:=by
 have m:=h.sub _ (ag a);obtain⟨j,f,e⟩:=ei m;have q:qF V.vs vs[i].key vs[i].num=cut V.vs j:=by rw [<-e];exact uB V.vs j f g.apart
 refine⟨λv b=>?_,h.apart.sub (YG _ _),λv b=>h.plain v ((YG vs i).mem b),h.last,?_⟩
 .show v∈qF V.vs vs[i].key vs[i].num;refine eA.2 ⟨h.sub v ((YG vs i).mem b),?_⟩;obtain⟨k,n,rfl⟩:=ei b;obtain⟨l,d,o,s⟩:=YF vs i k n a;rw [o]
  have c:¬(vs[l].key=vs[i].key/\vs[l].num=vs[i].num):=λr=>by have:=UO h.apart d a r;split at s<;>omega
  simp only [ij,Bool.and_eq_false_iff,decide_eq_false_iff_not];exact Classical.not_and_iff_not_or_not.1 c
 .show weight (qF V.vs vs[i].key vs[i].num)<=_;have p:=jK V.vs j f;have t:=jK vs i a;have u:=h.wt;rw [q];rw [e] at p;omega
theorem y6.gone(h:y6 V vs last lost)(g:law.Good V)(i:Nat)(a:i<vs.length)(j:U=V\/U=V.sub vs[i].key vs[i].num):fR U vs i last lost:=by
 rcases j with rfl|rfl;.exact .inl h
 .refine .inr ⟨a,h.erase g i a,?_⟩
  cases b:qK (V.sub vs[i].key vs[i].num).vs vs[i].key vs[i].num with
  |none=>rfl
  |some u=>
   obtain⟨e,c,f⟩:=jv b;have d:=(eA.1 f).2;simp [e,c] at d
end
end keep
namespace keep
open Go.ChangeShapes Go.WideShapes Go.ChangeAt Go.RowKit disk ref book
open law (zP za zL qx qr zD xm J6 Chg)
open keys (zg zd zq zl zh)
def yt(d s l:Value)(last gone lost:Int):Obj:=.cells #[d,s,l,.int .i64 last,.int .i64 gone,.int .i64 lost,.bool true] 33 (0,0)
theorem qA{w:World}{bp:Nat}{a s l:Value}{last gone lost:Int}(h:w.heap[bp]? =some (yt a s l last gone lost)):w.cell? ⟨bp,0,none⟩=some a/\w.cell? ⟨bp,1,none⟩=some s/\w.cell? ⟨bp,2,none⟩=some l/\w.cell? ⟨bp,3,none⟩=some (.int .i64 last)/\w.cell? ⟨bp,4,none⟩=some (.int .i64 gone)/\w.cell? ⟨bp,5,none⟩=some (.int .i64 lost)/\w.cell? ⟨bp,6,none⟩=some (.bool true)/\∀i,w.frozen? ⟨bp,i,none⟩=false:=by
 unfold yt at h;refine⟨?_,?_,?_,?_,?_,?_,?_,λi=>aa w bp i _ _ h⟩<;>rw [ak w bp _ _ _ _ h]<;>rfl
structure zG (w:World) (X:Nat->Prop) (bp bd bs:Nat) (S:Nat->Prop) (vs:List zw) (last gone:Int) (lost:Nat) (a:Option Addr) (cap:Nat) (cs:List (List Value)) (G:Nat->Prop):Prop where
 head:w.heap[bp]? =some (yt (.pointer (some ⟨bd,0,none⟩)) (.pointer (some ⟨bs,0,none⟩)) (.slice a vs.length cap) last gone (lost:Nat))
 row:w.ownsRow 0 85 3 (.slice a vs.length cap) vs.length cs.flatten
 told:Told w G cs vs
 xlt:∀k,X k->k<w.heap.size
 xS:∀k,S k->X k
 xb:X bs
 xp:X bp
 xr:∀k,(Value.slice a vs.length cap).ownBlock=some k->X k
 xG:∀k,G k->X k
 pS:¬S bp
 pb:bp≠bs
 rS:∀k,(Value.slice a vs.length cap).ownBlock=some k->¬S k/\k≠bs/\k≠bp
 gS:∀k,G k->¬S k/\k≠bs/\k≠bp/\(Value.slice a vs.length cap).ownBlock≠some k
section
variable {M:za} {w w':World} {X T:Nat->Prop} {bp bd bs:Nat} {S:Nat->Prop} {D:Dk} {V:zP} {vs:List zw} {last gone:Int} {lost:Nat} {a:Option Addr} {cap:Nat} {cs:List (List Value)} {G:Nat->Prop}
theorem yk.gen(h:yk M w X bp bd bs S D V a cap cs G):zG w X bp bd bs S V.vs V.n0 (-1) 0 a cap cs G:=⟨h.head,h.row,h.told,h.xlt,h.xS,h.xb,h.xp,h.xr,h.xG,h.pS,h.pb,h.rS,h.gS⟩
theorem zG.lt(h:zG w X bp bd bs S vs last gone lost a cap cs G):bp<w.heap.size:=h.xlt bp h.xp
theorem zG.kept(h:zG w X bp bd bs S vs last gone lost a cap cs G)(k:Kept T w w')(c:∀i,X i->¬T i):zG w' X bp bd bs S vs last gone lost a cap cs G:=
 ⟨(k.block bp h.lt (c bp h.xp)).trans h.head,k.owns h.row (λi b=>c i (h.xr i b)),h.told.kept k (λi b=>c i (h.xG i b)),
   λi b=>au (h.xlt i b) k.size,h.xS,h.xb,h.xp,h.xr,h.xG,h.pS,h.pb,h.rS,h.gS⟩
theorem zG.aft(h:zG w X bp bd bs S vs last gone lost a cap cs G){n w2:World}{S2:Nat->Prop}{g j:Int}{f:Nat}(k1:Kept (λk=>S k\/k=bs) w n)(m:∀k,S2 k->(S k\/w.heap.size<=k)/\k<n.heap.size)(k2:Kept (λk=>k=bp) n w2)
 (o:w2.heap[bp]? =some (yt (.pointer (some ⟨bd,0,none⟩)) (.pointer (some ⟨bs,0,none⟩)) (.slice a vs.length cap) g j (f:Nat))):zG w2 (λk=>X k\/(w.heap.size<=k/\k<w2.heap.size)) bp bd bs S2 vs g j f a cap cs G:=by
 have s:=k1.size;have t:=k2.size
 have e:∀k,X k->¬S k->¬S2 k:=λk p q d=>by
  rcases (m k d).1 with l|l;.exact q l
  .have:=h.xlt k p;omega
 refine⟨o,k2.owns (k1.owns h.row (λi c d=>?_)) (λi c d=>(h.rS i c).2.2 d),(h.told.kept k1 (λi c d=>?_)).kept k2 (λi c d=>(h.gS i c).2.2.1 d),λk b=>?_,λk b=>?_,.inl h.xb,.inl h.xp,λk b=>.inl (h.xr k b),λk b=>.inl (h.xG k b),e bp h.xp h.pS,h.pb,λk b=>?_,λk b=>?_⟩;.exact d.elim (h.rS i c).1 (h.rS i c).2.1
 .exact d.elim (h.gS i c).1 (h.gS i c).2.1
 .rcases b with b|b;.have:=h.xlt k b;omega
  .exact b.2
 .rcases m k b with⟨l|l,r⟩;.exact .inl (h.xS k l)
  .exact .inr ⟨l,by omega⟩
 .exact⟨e k (h.xr k b) (h.rS k b).1,(h.rS k b).2⟩
 .exact⟨e k (h.xG k b) (h.gS k b).1,(h.gS k b).2⟩
theorem zG.rowAt(h:zG w X bp bd bs S vs last gone lost a cap cs G)(i:0<vs.length):∃g,a=some ⟨g,0,none⟩:=by
 rcases h.row.2 with⟨d,f⟩|⟨g,c,e,b,_⟩;.simp at d;omega
 .cases b;exact⟨g,rfl⟩
theorem zG.cells{g:Nat}(h:zG w X bp bd bs S vs last gone lost (some ⟨g,0,none⟩) cap cs G)(i:Nat)(f:i<vs.length):
 w.cell? ⟨g,i*3,none⟩=some (.string vs[i].key)/\w.cell? ⟨g,i*3+1,none⟩=some (.int .i64 vs[i].num)/\∃b a,w.cell? ⟨g,i*3+2,none⟩=some (.slice b vs[i].body.length a)/\zu w G b vs[i].body:=by
 have d:=h.told.len;have j:=h.row;rw [<-d] at j;have c:=q9 j h.told.three i (by rw [d];exact f);obtain⟨b,a,e,k⟩:=(h.told.each i (by rw [d];exact f) f).at_;rw [e] at c;exact⟨c 0 _ rfl,c 1 _ rfl,b,a,c 2 _ rfl,k⟩
theorem bt(h:zG w X bp bd bs S vs last gone lost a cap cs G)(n:∀v∈vs,v.body.length<=300)(r:vs.length<=6000)(y:lost<=1000000000):Calls Tryz.prog 32 #[.pointer (some ⟨bp,0,none⟩)] w λe w'=>e=.returned (.int .i64 ((lost+weight vs:Nat):Int))/\w'=w:=by
 obtain⟨_,_,x,_,_,A,_,_⟩:=qA h.head;have m:Hid (∀v∈vs,v.body.length<=300):=n;have l:Hid (zG w X bp bd bs S vs last gone lost a cap cs G):=h;clear h n;go_enter Tryz.func32,Tryz.ntmps32;go_wp2;go_loop [3,4] (λt i=>∃k:Nat,k<=vs.length/\i=.int .i64 k/\t=.int .i64 ((lost+weight (vs.take k):Nat):Int)) (λ_ i=>vs.length-(intOf i).toNat)
 case atStart=>exact⟨0,ai _,rfl,by simp [weight]⟩
 case round=>
  obtain⟨k,D,rfl,rfl⟩:=hrel;have c:=dp (vs:=vs.take k) (λv q=>by have:=m.out v (aJ q);omega);have d:(vs.take k).length<=vs.length:=by rw [ay];omega
  generalize j:weight (vs.take k)=z at*;have f:Hid _:=j;clear j;have s:z<=100000:=by omega
  clear c d;by_cases b:k<vs.length
  .have p:Hid _:=ub vs k b;obtain⟨g,rfl⟩:=l.out.rowAt (by omega);obtain⟨_,_,F,o,C,_⟩:=l.out.cells k b;have B:=m.out vs[k] (ag b);have u:(k:Int)<(vs.length:Int):=by omega
   go_wp2;go_round
   case rel=>exact⟨k+1,by omega,by go_num,by rw [p.out,f.out];unfold qd;go_num⟩
   case measure=>simp [intOf];omega
  .have E:weight vs=z:=by
    have e:vs.take k=vs:=ao (by omega);rw [<-f.out,e]
   go_wp2;go_ret;exact⟨zg rfl,rfl⟩
end
end keep
namespace keep
open Go.ChangeShapes Go.WideShapes Go.ChangeAt Go.RowKit disk ref book
open law (zP za zL qx zD xm J6 Chg Uc)
open keys (zg zd zq zl zh)
section
variable {M:za} {w w':World} {X T:Nat->Prop} {bp bd bs:Nat} {S:Nat->Prop} {D:Dk} {V:zP} {vs:List zw} {last gone:Int} {lost:Nat} {a:Option Addr} {cap:Nat} {cs:List (List Value)} {G:Nat->Prop}
theorem zG.pushed(h:zG w X bp bd bs S vs last gone lost a cap cs G){l n d:World}{S2:Nat->Prop}(v:zw){t:Int}(k3:Kept (λk=>S k\/k=bs\/k=bp) w l)(u:∀k,S2 k->(S k\/w.heap.size<=k)/\k<l.heap.size)
 (O:l.heap[bp]? =some (yt (.pointer (some ⟨bd,0,none⟩)) (.pointer (some ⟨bs,0,none⟩)) (.slice a vs.length cap) t gone (lost:Nat)))
 (Q:Kept (λ_=>False) l n) (s:Option Addr) (q:Nat) (A:n.ownsRow 0 5 1 (.slice s v.body.length q) v.body.length (v.body.map qk)) (R:∀k,(Value.slice s v.body.length q).ownBlock=some k->l.heap.size<=k)
 (ae:Obj) (g j:Nat) (z:d.ownsRow 0 85 3 (.slice (some ⟨g,0,none⟩) (vs.length+1) j) (vs.length+1) (cs.flatten++[.string v.key,.int .i64 v.num,.slice s v.body.length q])) (x:(n.alloc ae).grownBy d (Value.slice a vs.length cap).ownBlock) (o:(Value.slice a vs.length cap).ownBlock=some g\/g=n.heap.size+1):
 zG (d.setCell ⟨bp,2,none⟩ (.slice (some ⟨g,0,none⟩) (vs.length+1) j)) (λk=>X k\/(w.heap.size<=k/\k<(d.setCell ⟨bp,2,none⟩ (.slice (some ⟨g,0,none⟩) (vs.length+1) j)).heap.size)) bp bd bs S2 (vs++[v]) t gone lost (some ⟨g,0,none⟩) j (cs++[[.string v.key,.int .i64 v.num,.slice s v.body.length q]]) (λk=>G k\/(Value.slice s v.body.length q).ownBlock=some k)/\
  Kept X w (d.setCell ⟨bp,2,none⟩ (.slice (some ⟨g,0,none⟩) (vs.length+1) j))/\∀M K J,zD M l bd bs S2 K J->zD M (d.setCell ⟨bp,2,none⟩ (.slice (some ⟨g,0,none⟩) (vs.length+1) j)) bd bs S2 K J:=by
 have I:=h.lt;have hbs:=h.xlt bs h.xb;have am:=k3.size;have ai:=Q.size;have D:Kept (λk=>(Value.slice a vs.length cap).ownBlock=some k) n d:=(Kept.alloc _ n ae).trans (Kept.grown x (λk b=>b)) iL;have H:Kept (λk=>(Value.slice a vs.length cap).ownBlock=some k) l d:=(Q.mono fE).trans D iL;have r:=Kept.setCell (S:=λk=>k=bp) d ⟨bp,2,none⟩ (.slice (some ⟨g,0,none⟩) (vs.length+1) j) rfl;have B:Kept (λk=>(Value.slice a vs.length cap).ownBlock=some k\/k=bp) l (d.setCell ⟨bp,2,none⟩ (.slice (some ⟨g,0,none⟩) (vs.length+1) j)):=(H.mono iL).trans r (λ_ h=>.inl (.inr h));have an:=D.size;have T:(vs++[v]).length=vs.length+1:=by simp
 have aj:n.heap.size+1<=d.heap.size:=by have:=x.size;simpa using this
 have ag:g<d.heap.size:=by
  rcases z.2 with⟨V,_⟩|⟨al,U,af,ac,_,W,_⟩;.cases V
  .cases ac;exact(lT W)
 have m:∀k,(Value.slice a vs.length cap).ownBlock=some k->k<w.heap.size:=λk b=>h.xlt k (h.xr k b);have ab:∀k,G k->k<w.heap.size:=λk b=>h.xlt k (h.xG k b);have f:∀k,(Value.slice s v.body.length q).ownBlock=some k->l.heap.size<=k/\k<n.heap.size:=λk b=>⟨R k b,(A.lt k b).2⟩
 have ah:g≠bp:=by
  rcases o with e|e;.exact λp=>(h.rS g e).2.2 p
  .omega
 have C:∀k,(Value.slice (some ⟨g,0,none⟩) (vs++[v]).length j).ownBlock=some k->k=g:=λk b=>by simpa [Value.ownBlock,eq_comm] using b
 have i:∀k,k<w.heap.size->¬S k->¬S2 k:=λk y E aa=>by rcases (u k aa).1 with P|P;exact E P;omega
 refine⟨⟨?_,?_,?_,?_,?_,.inl h.xb,.inl h.xp,?_,?_,i bp I h.pS,h.pb,?_,?_⟩,?_,λM K J ad=>?_⟩
 .have e:d.heap[bp]? =_:=(H.block bp (by omega) (λe=>(h.rS bp e).2.2 rfl)).trans O;rw [heap_setCell_same d bp 2 _ _ _ e,T];rfl
 .rw [T];have:=r.owns z (λk b e=>by simp [Value.ownBlock] at b;omega);simpa using this
 .refine Told.snoc (((h.told.kept k3 (λk b c=>?_)).kept B (λk b c=>?_)).mono (λk b _=>.inl b)) ⟨s,q,rfl,?_⟩
  .have:=h.gS k b;rcases c with c|c|c;.exact this.1 c
   .exact this.2.1 c
   .exact this.2.2.1 c
  .have:=h.gS k b;rcases c with c|c;.exact this.2.2.2 c
   .exact this.2.2.1 c
  .have Z:=D.owns A (λk b e=>by have:=f k b;have:=m k e;omega);have Y:=r.owns Z (λk b e=>by have:=f k b;omega);exact zu.of_own 5 Y rfl _ (λk b=>.inr b)
 .intro k b;rcases b with b|⟨_,b⟩;.have:=h.xlt k b;have:=r.size;omega
  .exact b
 .intro k b;rcases u k b with⟨y|y,E⟩;.exact .inl (h.xS k y)
  .exact .inr ⟨y,by have:=r.size;omega⟩
 .intro k b;rw [C k b];rcases o with e|e;.exact .inl (h.xr g e)
  .exact .inr ⟨by omega,by have:=r.size;omega⟩
 .intro k b;rcases b with b|b;.exact .inl (h.xG k b)
  .have:=f k b;exact .inr ⟨by omega,by have:=r.size;omega⟩
 .intro k b;rw [C k b];rcases o with e|e
  .have:=h.rS g e;exact⟨i g (m g e) this.1,this.2.1,this.2.2⟩
  .exact⟨λL=>by have:=(u g L).2;omega,by omega,by omega⟩
 .intro k b;have F:k≠g->(Value.slice (some ⟨g,0,none⟩) (vs++[v]).length j).ownBlock≠some k:=λy E=>y (C k E);rcases b with b|b
  .have:=h.gS k b;have N:=ab k b
   exact⟨i k N this.1,this.2.1,this.2.2.1,F (λe=>by
    rcases o with p|p;.exact this.2.2.2 (by rw [e];exact p)
    .omega)⟩
  .have ak:=f k b
   exact⟨λL=>by have:=(u k L).2;omega,by omega,by omega,F (λe=>by
    rcases o with p|p;.have:=m g p;omega
    .omega)⟩
 .refine(k3.mono (λk b=>?_)).trans B (λk b=>.inl ?_)
  .rcases b with b|rfl|rfl;.exact h.xS k b
   .exact h.xb
   .exact h.xp
  .rcases b with b|rfl;.exact h.xr k b
   .exact h.xp
 .refine zD.kept ad B (λk b c=>?_) (λc=>c.elim (λe=>(h.rS bs e).2.1 rfl) (λe=>h.pb e.symm));rcases c with e|rfl;.exact i k (m k e) (h.rS k e).1 b
  .exact i k I h.pS b
theorem B4(lost n:Nat)(g:lost<=1000000)(f:n<=300):IntKind.i64.wrap (IntKind.i64.wrap ((lost:Int)+1)+IntKind.i64.wrap ((IntKind.i64.wrap ((n:Int)+99)).tdiv 100))=((lost+qd n:Nat):Int):=by
 have b:IntKind.i64.wrap ((lost:Int)+1)=(lost:Int)+1:=IntWalk.i64_in _ (by omega);have e:IntKind.i64.wrap ((n:Int)+99)=(n:Int)+99:=IntWalk.i64_in _ (by omega);have c:((n:Int)+99).tdiv 100=(((n+99)/100:Nat):Int):=by rw [Int.tdiv_eq_ediv_of_nonneg (by omega)];omega
 have d:IntKind.i64.wrap (((n+99)/100:Nat):Int)=(((n+99)/100:Nat):Int):=IntWalk.i64_in _ (by omega);have a:IntKind.i64.wrap ((lost:Int)+1+(((n+99)/100:Nat):Int))=(lost:Int)+1+(((n+99)/100:Nat):Int):=IntWalk.i64_in _ (by omega);rw [b,e,c,d,a];unfold qd;omega
theorem DK(A:qx M)(h:zG w X bp bd bs S vs last gone lost a cap cs G)(F:zD M w bd bs S D V)(an:D.bs.length=1000)(aQ:y6 V vs last lost)(cv:lost+weight vs<470)(ci:vs.length<=6000)(cn:V.n0<=1000000000000000000)(cp:D.reads<=1000000000000000000)(j:ByteArray)(aC:zh j.data.toList=true)(cr:j.size<=8)(P:Nat->Prop)(bu:∀k,P k->¬X k)(am:Option Addr)(aS:Nat)(l:List UInt8)(bi:zu w P am l)(ca:l.length<=140737488355326)(p:l.length<=aS):
 Calls Tryz.prog 15 #[.pointer (some ⟨bp,0,none⟩),.string j,.slice am l.length aS] w λe w'=>∃S' D',Kept X w w'/\D'.reads<=D.reads+40/\D'.bs.length=1000/\
  ((e=.returned (.bool true)/\zD M w' bd bs S' D' (V.add j false (l.take 300))/\∃aA bk bB G',zG w' (λk=>X k\/(w.heap.size<=k/\k<w'.heap.size)) bp bd bs S' (vs++[⟨j,V.n0+1,false,l.take 300⟩]) (V.n0+1) gone lost aA bk bB G')\/
   (e=.returned (.bool false)/\ze w' bd S' D'/\M.Could D' (λU=>U=V\/U=V.add j false (l.take 300))/\zG w' (λk=>X k\/(w.heap.size<=k/\k<w'.heap.size)) bp bd bs S' vs last gone (lost+qd (l.take 300).length) a cap cs G)):=by
 obtain⟨a6,aZ,a3,a5,a0,bf,a4,bM⟩:=qA h.head;have aW:Hid (zD M w bd bs S D V):=F;have cj:Hid (y6 V vs last lost):=aQ;have f:Hid (zG w X bp bd bs S vs last gone lost a cap cs G):=h;have cy:Hid (zu w P am l):=bi;have ck:Hid (∀k,P k->¬X k):=bu;have bS:=h.lt;have cf:=F.reads0;have ct:weight V.vs<=weight vs+lost:=aQ.wt;have bZ:last<=V.n0:=aQ.last;have bz:Hid (zh j.data.toList=true):=aC;have aj:Hid (∀w',Kept X w w'->Calls Tryz.prog 28 #[.slice am l.length aS] w' λe a9=>∃aA bw,e=.returned (.slice aA (l.take 300).length bw)/\a9.ownsRow 0 5 1 (.slice aA (l.take 300).length bw) (l.take 300).length ((l.take 300).map qk)/\Kept (λ_=>False) w' a9/\∀k,(Value.slice aA (l.take 300).length bw).ownBlock=some k->w'.heap.size<=k):=λw' k=>vA w' P am aS l (bi.kept k bu) ca p;have b1:(l.take 300).length<=300:=by rw [ay];omega
 generalize l.take 300=B at*;clear h bi bu aC bM F aQ;go_enter Tryz.func15,Tryz.ntmps15;go_wp2_with fail
 go_region_held3 (λw'=>w'.cell? ⟨bp,1,none⟩=some (.pointer (some ⟨bs,0,none⟩))) (go_keep) ((first
  |(go_at_call 28;refine(aj.out _ (by exact Kept.drew X w)).mono ?_;rintro e ah ⟨bq,bm,rfl,aH,y,bh⟩;have W:Kept (λ_=>False) w ah:=⟨y.os,y.tape,y.output,y.size,y.block⟩;have bC:Hid (ah.ownsRow 0 5 1 (.slice bq B.length bm) B.length (B.map qk)):=aH;have H:Hid (Kept (λ_=>False) w ah):=W;have bD:Hid (∀k,(Value.slice bq B.length bm).ownBlock=some k->w.heap.size<=k):=bh;have ac:=YB aH;have Q:ah.cell? ⟨bp,1,none⟩=some (.pointer (some ⟨bs,0,none⟩)):=(qA (f.out.kept W nF).head).2.1;clear aH y bh W)
  |(go_at_call 27;refine(A.live ah bd bs S (λk=>w.heap.size<=k) D V j bq bm B (zD.kept aW.out H.out nF (λs=>s)) (by unfold maxLen;omega) (zu.of_own 5 bC.out rfl _ (λk b=>bD.out k b)) (λk b=>⟨λch=>by have:=f.out.xlt k (f.out.xS k ch);omega,λe=>by have:=f.out.xlt bs f.out.xb;omega⟩) (by omega) ac.1 (by have:=ac.2;unfold maxLen at this;omega)).mono ?_;rintro e w2 ⟨o,S2,c,n,q,rfl,T,aq,aO⟩;have d:Hid (xm M ah w2 bd bs S S2 D o 40 q):=T;have bv:Hid _:=aq;have cb:Hid (n=if c=0 then V.n0+1 else 0):=aO;have aN:w2.cell? ⟨bp,1,none⟩=some (.pointer (some ⟨bs,0,none⟩)):=(T.kept.cell (a:=⟨bp,1,none⟩) (by have:=H.out.size;show bp<_;omega) (λp=>p.elim f.out.pS f.out.pb)).trans Q;clear T aq aO)))
 have bT:ue (zh j.data.toList) B.length=0:=by rw [bz.out];unfold ue;first|rfl|(rw [az (by omega)])|(simp;omega)
 have bt:xP V.vs (qd B.length) D.bs.length=true:=by unfold xP qd;rw [an];refine aG ?_;omega
 have aP:(c=0/\q=some bd/\M.Live o (V.add j false B))\/(c=7/\o.fuse=0/\M.Could o (λU=>U=V\/U=V.add j false B)):=by
  rcases bv.out.is with h|h|h|h;.exact absurd bT h.1
  .exact .inl h.2
  .rw [bt] at h;exact absurd h.2.2.2.2 (by simp)
  .exact .inr ⟨h.2.1,h.2.2.2⟩
 have k2:Kept (λk=>S k\/k=bs) w w2:=(H.out.mono fE).trans d.out.kept (λk b=>.inl b);have aE:Hid (Kept (λk=>S k\/k=bs) w w2):=k2;have ax:w2.heap[bp]? =_:=(k2.block bp bS (λp=>p.elim f.out.pS f.out.pb)).trans f.out.head;have aT:Hid (w2.heap[bp]? =some (yt (.pointer (some ⟨bd,0,none⟩)) (.pointer (some ⟨bs,0,none⟩)) (.slice a vs.length cap) last gone (lost:Nat))):=ax;obtain⟨ap,_,_,al,_,aM,aL,aw⟩:=qA ax;have aD:=aw 6;have au:=aw 3;have bj:bp<w2.heap.size:=by have:=k2.size;omega
 clear ax aw k2;rcases aP with⟨rfl,rfl,ab⟩|⟨rfl,R,K⟩
 .have aO:=cb.out;rw [aB rfl] at aO;subst aO;have bX:Hid (M.Live o (V.add j false B)):=ab;have b5:decide (last<V.n0+1)=true:=aG (by omega);clear ab;go_wp2_with fail
  have u:((w2.setCell ⟨bp,6,none⟩ (.bool true)).setCell ⟨bp,3,none⟩ (.int .i64 (V.n0+1))).heap[bp]? =some (yt (.pointer (some ⟨bd,0,none⟩)) (.pointer (some ⟨bs,0,none⟩)) (.slice a vs.length cap) (V.n0+1) gone (lost:Nat)):=by have b3:=heap_setCell_same w2 bp 6 _ _ (.bool true) aT.out;exact heap_setCell_same _ bp 3 _ _ (.int .i64 (V.n0+1)) b3
  have af:Kept (λk=>k=bp) w2 ((w2.setCell ⟨bp,6,none⟩ (.bool true)).setCell ⟨bp,3,none⟩ (.int .i64 (V.n0+1))):=(Kept.setCell (S:=λk=>k=bp) w2 ⟨bp,6,none⟩ _ rfl).trans (Kept.setCell (S:=λk=>k=bp) _ ⟨bp,3,none⟩ _ rfl) iL;generalize (w2.setCell ⟨bp,6,none⟩ (.bool true)).setCell ⟨bp,3,none⟩ (.int .i64 (V.n0+1))=i at*;have I:Hid (i.heap[bp]? =some (yt (.pointer (some ⟨bd,0,none⟩)) (.pointer (some ⟨bs,0,none⟩)) (.slice a vs.length cap) (V.n0+1) gone (lost:Nat))):=u;have ak:Hid (Kept (λk=>k=bp) w2 i):=af;have x:Hid (Kept (λk=>S k\/k=bs\/k=bp) w i):=(aE.out.mono (λk b=>b.imp id .inl)).trans af (λk b=>.inl (.inr (.inr b)))
  have bN:Hid (Kept X w i):=x.out.mono (λk b=>by
   rcases b with b|rfl|rfl;.exact f.out.xS k b
   .exact f.out.xb
   .exact f.out.xp)
  have bx:i.cell? ⟨bp,2,none⟩=some (.slice a vs.length cap):=(qA u).2.2.1;have O:bp<i.heap.size:=by have:=af.size;omega
  have bO:Hid (i.ownsRow 0 85 3 (.slice a vs.length cap) vs.length cs.flatten):=x.out.owns f.out.row (λk b p=>by
   have:=f.out.rS k b;rcases p with p|p|p;.exact this.1 p
   .exact this.2.1 p
   .exact this.2.2 p)
  obtain⟨av,bc,aY,bg,a7⟩:=qU Tryz.infoKp;have ag:Hid (Tryz.prog.info? 85=some av/\av.zero=some (.agg #[.string ⟨#[]⟩,.int .i64 0,.slice none 0 0])/\av.size=3/\av.bytes=48):=⟨bc,aY,bg,a7⟩;clear bc aY bg a7 u af a6 aZ a3 a5 a0 bf a4 Q aN ap aM aL al aD au
  go_region_law ((first
   |(go_simp;go_at_call 28;refine(aj.out _ (by exact bN.out.trans (Kept.drew X i) iL)).mono ?_;rintro e m ⟨aJ,ao,rfl,ad,z,a1⟩;have C:Kept (λ_=>False) i m:=⟨z.os,z.tape,z.output,z.size,z.block⟩;have bL:Hid (m.ownsRow 0 5 1 (.slice aJ B.length ao) B.length (B.map qk)):=ad;have N:Hid (Kept (λ_=>False) i m):=C;have bP:Hid (∀k,(Value.slice aJ B.length ao).ownBlock=some k->i.heap.size<=k):=a1;have br:m.cell? ⟨bp,2,none⟩=some (.slice a vs.length cap):=(C.cell (a:=⟨bp,2,none⟩) O (λs=>s)).trans bx;have E:bp<m.heap.size:=(by have:=C.size;omega);clear ad z a1 C;dsimp only)
   |(refine step_append_lies _ rfl (.tmp 46) (.tmp 52) 31 rfl 0 85 av _ 3 48 Tryz.underlying31 ag.out.1 ag.out.2.1 ag.out.2.2.1 ag.out.2.2.2 rfl (by omega) (.slice a vs.length cap) vs.length cs.flatten (by rfl) (by exact World.ownsRow.alloc (N.out.owns bO.out nF) _) ⟨m.heap.size,0,none⟩ 1 1 [.string j,.int .i64 (V.n0+1),.slice aJ B.length ao] (by rfl) (by rfl) (by exact World.news_of_block (heap_alloc_new m _)) (by simp [Value.oneCell']) (by omega) (by unfold maxLen;omega) (by omega) (ai _) (m.heap.size+1) (by simp) ?_;intro g b8 t aK r be cc;have bQ:Hid _:=aK;have bH:Hid _:=r;have bG:Hid ((Value.slice a vs.length cap).ownBlock=some g\/g=m.heap.size+1):=be;have cq:t.cell? ⟨bp,2,none⟩=some (.slice a vs.length cap):=(r.cell_far ⟨bp,2,none⟩ (by simp;omega) (λe=>(f.out.rS bp e.symm).2.2 rfl)).trans (((Kept.alloc (λ_=>False) m _).cell (a:=⟨bp,2,none⟩) E (λs=>s)).trans br);have cm:t.frozen? ⟨bp,2,none⟩=false:=(r.frozen_far ⟨bp,2,none⟩ (by simp;omega) (λe=>(f.out.rS bp e.symm).2.2 rfl)).trans (aa _ bp 2 _ _ (((Kept.alloc (λ_=>False) m _).block bp E (λs=>s)).trans ((N.out.block bp O (λs=>s)).trans I.out)));clear aK r be)))
  all_goals
   go_wp2;go_ret;have cw:=H.out.size;have aF:∀k,S2 k->(S k\/w.heap.size<=k)/\k<i.heap.size:=λk b=>⟨(d.out.foot k b).imp id (λh=>by omega),by have:=d.out.disk.lt k b;have:=ak.out.size;omega⟩;have hbs:=f.out.xlt bs f.out.xb
   have bA:¬S2 bs:=λb=>by
    rcases (aF bs b).1 with h|h;.exact aW.out.apart h
    .omega
   have bY:¬S2 bp:=λb=>by
    rcases (aF bp b).1 with h|h;.exact f.out.pS h
    .omega
   have cu:=d.out.reads0;have cx:=d.out.reads1;have b2:zD M w2 bd bs S2 o (V.add j false B):=⟨d.out.disk,bA,d.out.sto,bX.out,d.out.fuse,by omega,by omega,by show V.n0+1<=_;omega⟩;have cg:=zD.kept b2 ak.out (λk b e=>bY (by rw [<-show k=bp from e];exact b)) (λe=>f.out.pb e.symm);have ar:=zG.pushed f.out ⟨j,V.n0+1,false,B⟩ x.out aF I.out N.out aJ ao bL.out bP.out _ g b8 bQ.out bH.out bG.out;exact⟨S2,o,ar.2.1,by omega,d.out.size.trans an,.inl ⟨rfl,ar.2.2 M o _ cg,_,_,_,_,ar.1⟩⟩
 .have b4:Hid ((o.fuse==0)=true):=by show _=_;rw [R];rfl
  have bR:Hid (M.Could o (λU=>U=V\/U=V.add j false B)):=K;have bE:zs o.fuse:=by rw [R];constructor<;>omega
  have co:=H.out.size;have Z:Hid (∀k,S2 k->(S k\/w.heap.size<=k)/\k<w2.heap.size):=λk b=>⟨(d.out.foot k b).imp id (λh=>by omega),d.out.disk.lt k b⟩
  have ba:Hid (¬S2 bp):=λb=>by
   rcases (Z.out bp b).1 with h|h;.exact f.out.pS h
   .omega
  clear K;go_wp2_with (go_at_call 40;refine(yS w2 bd S2 o d.out.disk bE).mono ?_;rintro e i ⟨rfl,⟨bo,u,aV⟩,aI⟩;rw [b4.out];have I:Hid (ze i bd bo o.flush):=u;have a2:Hid (∀k,bo k->S2 k):=aV;have x:Hid (Kept S2 w2 i):=aI;have L:i.heap[bp]? =some (yt (.pointer (some ⟨bd,0,none⟩)) (.pointer (some ⟨bs,0,none⟩)) (.slice a vs.length cap) last gone (lost:Nat)):=(aI.block bp bj ba.out).trans aT.out;have bJ:Hid (i.heap[bp]? =some (yt (.pointer (some ⟨bd,0,none⟩)) (.pointer (some ⟨bs,0,none⟩)) (.slice a vs.length cap) last gone (lost:Nat))):=L;have bl:i.cell? ⟨bp,6,none⟩=some (.bool true):=(qA L).2.2.2.2.2.2.1;have bn:=(qA L).2.2.2.2.2.2.2 6;have O:bp<i.heap.size:=(lT L);clear u aV aI L);have ae:(i.setCell ⟨bp,6,none⟩ (.bool true)).heap[bp]? =some (yt (.pointer (some ⟨bd,0,none⟩)) (.pointer (some ⟨bs,0,none⟩)) (.slice a vs.length cap) last gone (lost:Nat)):=heap_setCell_same i bp 6 _ _ (.bool true) bJ.out;have aR:Kept (λk=>k=bp) i (i.setCell ⟨bp,6,none⟩ (.bool true)):=Kept.setCell (S:=λk=>k=bp) i ⟨bp,6,none⟩ _ rfl;generalize i.setCell ⟨bp,6,none⟩ (.bool true)=m at*;have bI:Hid (m.heap[bp]? =some (yt (.pointer (some ⟨bd,0,none⟩)) (.pointer (some ⟨bs,0,none⟩)) (.slice a vs.length cap) last gone (lost:Nat))):=ae;have N:Hid (Kept (λk=>k=bp) i m):=aR
  have bb:Hid (Kept X w m):=((aE.out.mono (λk b=>(by
   rcases b with b|rfl;.exact f.out.xS k b
   .exact f.out.xb))).trans x.out (λk b=>(Z.out k b).1.imp (f.out.xS k) id)).trans aR (λk b=>.inl (by rw [show k=bp from b];exact f.out.xp))
  have ce:m.cell? ⟨bp,5,none⟩=some (.int .i64 (lost:Nat)):=(qA ae).2.2.2.2.2.1;have b7:=(qA ae).2.2.2.2.2.2.2 5;have E:bp<m.heap.size:=by have:=aR.size;omega
  have cl:lost<470:=by omega
  clear ae aR bl bn a6 aZ a3 a5 a0 bf a4 Q aN ap aM aL al aD au
  go_region_law ((go_simp;go_at_call 28;refine(aj.out _ (by exact bb.out.trans (Kept.drew X m) iL)).mono ?_;rintro e t ⟨aJ,ao,rfl,ad,v,bK⟩;have Y:Kept (λ_=>False) m t:=⟨v.os,v.tape,v.output,v.size,v.block⟩;have a8:Hid (Kept (λ_=>False) m t):=Y;have J:t.heap[bp]? =some (yt (.pointer (some ⟨bd,0,none⟩)) (.pointer (some ⟨bs,0,none⟩)) (.slice a vs.length cap) last gone (lost:Nat)):=(Y.block bp E (λs=>s)).trans bI.out;have bV:Hid (t.heap[bp]? =some (yt (.pointer (some ⟨bd,0,none⟩)) (.pointer (some ⟨bs,0,none⟩)) (.slice a vs.length cap) last gone (lost:Nat))):=J;have b9:t.cell? ⟨bp,5,none⟩=some (.int .i64 (lost:Nat)):=(qA J).2.2.2.2.2.1;have cd:=(qA J).2.2.2.2.2.2.2 5;have b6:bp<t.heap.size:=(lT J);clear ad v bK Y J;dsimp only))
  all_goals
   go_wp2;go_ret;rw [B4 lost B.length (by omega) b1];have bF:=heap_setCell_same t bp 5 _ _ (.int .i64 ((lost+qd B.length:Nat):Int)) bV.out;have bW:=Kept.setCell (S:=λk=>k=bp) t ⟨bp,5,none⟩ (.int .i64 ((lost+qd B.length:Nat):Int)) rfl;have aX:=(N.out.trans a8.out fE).trans bW iL;have b0:=(bb.out.trans a8.out fE).trans bW (λk b=>.inl (by rw [show k=bp from b];exact f.out.xp));have bU:Kept (λk=>S k\/k=bs) w i:=aE.out.trans x.out (λk b=>(Z.out k b).1.imp .inl id);have ar:=zG.aft f.out bU (λk b=>⟨(Z.out k (a2.out k b)).1,I.out.lt k b⟩) aX bF;have aU:=I.out.kept aX (λk b e=>ba.out (by rw [<-show k=bp from e];exact a2.out k b));rw [show o.flush=o from aB R] at aU;exact⟨bo,o,b0,d.out.reads1,d.out.size.trans an,.inr ⟨rfl,aU,bR.out,ar⟩⟩
end
end keep
namespace keep
open Go.ChangeShapes Go.WideShapes Go.ChangeAt Go.RowKit disk ref book
open law (zP za zL yU zD xm J6 Uc OutIs)
open keys (zg zd zq zl zh)
variable {P:zP->Prop}
section
variable {M:za} {w w':World} {bp bd bs:Nat} {S S':Nat->Prop} {D D':Dk} {V V':zP}
theorem KF(h:M.Could D P):M.Could {D with reads:=0} P:=⟨h.few,h.big,h.all⟩
theorem KG(h:M.Could D P)(ks:List Bool):M.Could {D with bs:=zk D.bs (sel D.ps ks),ps:=[],fuse:= -1} P:=
 ⟨ai _,by show 64<=(zk D.bs (sel D.ps ks)).length;rw [zB];exact h.big,λ_=>h.all ks⟩
theorem KH(A:zL M)(o:∀f,M.Fu f->f≠0)(j:ze w bd S D)(n:M.Could D P)(l:M.Fu D.fuse)(g:0<=D.reads)(r:D.reads<=1000000000000)(i:D.bs.length=1000)(q:∀V,P V->V.n0<=1000000000000000000):
 Calls Tryz.prog 35 #[.pointer (some ⟨bd,0,none⟩)] w λe w'=>∃bs S' D' V,e=.returned (.tuple #[.pointer (some ⟨bs,0,none⟩),.int .i64 0])/\P V/\zD M w' bd bs S' D' V/\w.heap.size<=bs/\(∀k,S' k->S k\/w.heap.size<=k)/\Kept S w w'/\D'.reads<=D.reads+2000/\D'.bs.length=1000:=by
 refine(A.big w bd S D P j n l g (by omega)).mono ?_;rintro e w' ⟨D',S',a,⟨bs,U,rfl,hbs,d,c,h,b⟩|⟨rfl,p,u⟩⟩
 .have t:=a.reads0;have m:=a.reads1;have s:=q U h;rw [i] at m;exact⟨bs,S',D',U,rfl,h,⟨a.disk,d,c,b,a.fuse,by omega,by omega,by omega⟩,hbs,a.foot,a.kept,by omega,a.size.trans i⟩
 .exact absurd p (o _ a.fuse)
theorem Ju(A:zL M)(aN:∀f,M.Fu f->f≠0)(P:zP->Prop)(s l:Value)(last gone lost:Int)(B:w.heap[bp]? =some (yt (.pointer (some ⟨bd,0,none⟩)) s l last gone lost))(aZ:ze w bd S D)(ap:M.Could D P)(aL:¬S bp)(aS:D.bs.length=1000)(a7:∀V,P V->V.n0<=1000000000000000000)(Q:Nat->Prop)(y:Option Addr)(aJ:Nat)(ks:List Bool)(b:uC w Q y ks)(aA:∀k,Q k->¬S k)(bh:ks.length<=140737488355326):
 Calls Tryz.prog 16 #[.pointer (some ⟨bp,0,none⟩),.slice y ks.length aJ] w λe w'=>e=.returned (.tuple #[])/\∃X c S' D' V,P V/\w'.heap[bp]? =some (yt (.pointer (some ⟨X,0,none⟩)) (.pointer (some ⟨c,0,none⟩)) l last gone lost)/\zD M w' X c S' D' V/\w.heap.size<=c/\(∀k,S' k->w.heap.size<=k)/\Kept (λk=>S k\/k=bp) w w'/\D'.reads<=2000/\D'.bs.length=1000:=by
 have ar:bp<w.heap.size:=(lT B);have a8:Hid (w.heap[bp]? =some (yt (.pointer (some ⟨bd,0,none⟩)) s l last gone lost)):=B;have aT:Hid (M.Could D P):=ap;have af:Hid (¬S bp):=aL;obtain⟨bb,_,_,_,_,_,_,_⟩:=qA B;obtain⟨aE,av,am,aH,U⟩:=aZ;have ah:Hid (zn w bd S D aE av am aH):=U
 have aq:Hid (∀j,j<ks.length->∃g z,y=some ⟨g,z,none⟩/\¬S g/\g<w.heap.size/\w.cell? ⟨g,z+j,none⟩=some (.bool (ks.getD j false))):=λj aX=>by obtain⟨g,z,a2,aM,aV,aP⟩:=b j aX;exact⟨g,z,a2,aA g aM,aV,aP⟩
 clear B ap aL U b aA;go_enter Tryz.func16,Tryz.ntmps16;go_wp2_with fail;refine(K8 w bd S D aE av am aH ah.out y ks aJ (by omega) aq.out).mono ?_;rintro e a ⟨rfl,⟨S1,ao,aG⟩,o⟩;have t:a.heap[bp]? =_:=(o.block bp ar af.out).trans a8.out;obtain⟨aQ,_,_,_,_,_,_,_⟩:=qA t;have ak:Hid (a.heap[bp]? =some (yt (.pointer (some ⟨bd,0,none⟩)) s l last gone lost)):=t;have aj:Hid (Kept S w a):=o;have be:=o.size;have K:=KG aT.out ks;have R:(zk D.bs (sel D.ps ks)).length=1000:=by rw [zB];exact aS
 have W:M.Fu (-1):=M.fu_neg;generalize m:({D with bs:=zk D.bs (sel D.ps ks),ps:=[],fuse:= -1}:Dk)=D1 at*;have aa:D1.bs.length=1000:=by rw [<-m];exact R
 have ab:M.Fu D1.fuse:=by rw [<-m];exact W
 have ax:D1.ps.length<=68719476736:=by rw [<-m];simp
 obtain⟨Y,J,L,T,r⟩:=ao;have aK:Hid (zn a bd S1 D1 Y J L T):=r;have aI:Hid (M.Could D1 P):=K;have au:Hid (M.Fu D1.fuse):=ab;clear t o K R W r m aG;go_wp2_with fail;refine(QY a bd S1 D1 Y J L T aK.out ax).mono ?_;rintro e w2 ⟨rfl,⟨S2,C,H⟩,n⟩;have u:w2.heap[bp]? =_:=(n.block bp (by omega) (λa5=>a5)).trans ak.out;obtain⟨aR,_,_,_,_,_,_,x⟩:=qA u;have a0:=x 0;have aB:Hid (w2.heap[bp]? =some (yt (.pointer (some ⟨bd,0,none⟩)) s l last gone lost)):=u;have an:Hid (Kept (λ_=>False) a w2):=n;have bf:=n.size;have ag:Hid (ze w2 a.heap.size S2 {D1 with reads:=0 }):=C;have p:Hid (∀k,S2 k->a.heap.size<=k):=H;clear u n C H x;go_wp2_with fail;have O:(w2.setCell ⟨bp,0,none⟩ (.pointer (some ⟨a.heap.size,0,none⟩))).heap[bp]? =some (yt (.pointer (some ⟨a.heap.size,0,none⟩)) s l last gone lost):=heap_setCell_same w2 bp 0 _ _ _ aB.out;have k3:=Kept.setCell (S:=λk=>k=bp) w2 ⟨bp,0,none⟩ (.pointer (some ⟨a.heap.size,0,none⟩)) rfl;generalize w2.setCell ⟨bp,0,none⟩ (.pointer (some ⟨a.heap.size,0,none⟩))=ac at*;have F:ze ac a.heap.size S2 {D1 with reads:=0}:=ag.out.kept k3 (λk b e=>by have:=p.out k b;have a4:k=bp:=e;omega);have aw:Hid (Kept (λk=>k=bp) w2 ac):=k3;have ba:=k3.size;refine(KH A aN F (KF aI.out) (by exact au.out) (by show (0:Int)<=0;omega) (by show (0:Int)<=_;omega) (by exact aa) a7).mono ?_;rintro e d ⟨c,ad,Z,V,rfl,G,I,a1,N,q,bg,aF⟩;have v:d.heap[bp]? =_:=(q.block bp (by omega) (λaY=>by have:=p.out bp aY;omega)).trans O;obtain⟨a3,aO,_,_,_,_,a9,i⟩:=qA v;have a6:=i 1;have aU:=i 6;have aD:Hid (d.heap[bp]? =some (yt (.pointer (some ⟨a.heap.size,0,none⟩)) s l last gone lost)):=v;have ai:Hid (zD M d a.heap.size c ad Z V):=I;have aC:Hid (Kept S2 ac d):=q;have ay:Hid (P V):=G;have E:Hid (∀k,ad k->a.heap.size<=k):=λk b=>(N k b).elim (p.out k) (λh=>by omega);have bc:=q.size;have ae:Z.reads<=2000:=by have e:({D1 with reads:=0}:Dk).reads=0:=rfl;omega
 clear G v I q N i F k3 O;go_wp2_with fail;go_end0
 have az:((d.setCell ⟨bp,1,none⟩ (.pointer (some ⟨c,0,none⟩))).setCell ⟨bp,6,none⟩ (.bool true)).heap[bp]? =some (yt (.pointer (some ⟨a.heap.size,0,none⟩)) (.pointer (some ⟨c,0,none⟩)) l last gone lost):=by have aW:=heap_setCell_same d bp 1 _ _ (.pointer (some ⟨c,0,none⟩)) aD.out;exact heap_setCell_same _ bp 6 _ _ (.bool true) aW
 have al:Kept (λk=>k=bp) d ((d.setCell ⟨bp,1,none⟩ (.pointer (some ⟨c,0,none⟩))).setCell ⟨bp,6,none⟩ (.bool true)):=(Kept.setCell (S:=λk=>k=bp) d ⟨bp,1,none⟩ _ rfl).trans (Kept.setCell (S:=λk=>k=bp) _ ⟨bp,6,none⟩ _ rfl) iL;refine⟨rfl,a.heap.size,c,ad,Z,V,ay.out,az,zD.kept ai.out al (λk b e=>by have:=E.out k b;have a4:k=bp:=e;omega) (λe=>by omega),by omega,λk b=>by have:=E.out k b;omega,?_,ae,aF⟩;refine(((((aj.out.mono iL).trans an.out fE).trans aw.out (λk b=>.inl (.inr b))).trans aC.out (λk b=>.inr ?_))).trans al (λk b=>.inl (.inr b));have:=p.out k b;omega
end
end keep
namespace keep
open Go.ChangeShapes Go.WideShapes Go.ChangeAt Go.RowKit disk ref book
section
variable {w w' w2:World} {X T:Nat->Prop} {bp bd bs:Nat} {S S2:Nat->Prop} {vs:List zw} {last gone:Int} {lost:Nat} {a:Option Addr} {cap:Nat} {cs:List (List Value)} {G:Nat->Prop}
theorem zG.erased(h:zG w X bp bd bs S vs last gone lost a cap cs G)(k2:Kept (λk=>S k\/k=bs) w w2)(l:∀k,S2 k->(S k\/w.heap.size<=k)/\k<w2.heap.size)(i:Nat)(z:i<vs.length)
 (c:World) (u:Kept (λ_=>False) w2 c) (f:Option Addr) (g d:Nat) (E:d+1=vs.length) (m:c.ownsRow 0 85 3 (.slice f d g) d (cut cs i).flatten) (q:∀k,(Value.slice f d g).ownBlock=some k->w2.heap.size<=k):
 zG (c.setCell ⟨bp,2,none⟩ (.slice f d g)) (λk=>X k\/(w.heap.size<=k/\k<(c.setCell ⟨bp,2,none⟩ (.slice f d g)).heap.size)) bp bd bs S2 (cut vs i) last gone lost f g (cut cs i) G/\Kept X w (c.setCell ⟨bp,2,none⟩ (.slice f d g))/\Kept (λk=>k=bp) w2 (c.setCell ⟨bp,2,none⟩ (.slice f d g)):=by
 have r:=h.lt;have hbs:=h.xlt bs h.xb;have I:=k2.size;have H:=u.size;have s:(cut vs i).length=d:=by have:=vP vs i z;omega
 have t:=Kept.setCell (S:=λk=>k=bp) c ⟨bp,2,none⟩ (.slice f d g) rfl;have n:Kept (λk=>k=bp) w2 (c.setCell ⟨bp,2,none⟩ (.slice f d g)):=(u.mono fE).trans t iL;have F:=t.size;have o:∀k,k<w.heap.size->¬S k->¬S2 k:=λk p y C=>by rcases (l k C).1 with A|A;exact y A;omega
 have j:∀k,(Value.slice f (cut vs i).length g).ownBlock=some k->w2.heap.size<=k/\k<c.heap.size:=λk b=>by rw [s] at b;exact⟨q k b,(m.lt k b).2⟩
 refine⟨⟨?_,?_,?_,?_,?_,.inl h.xb,.inl h.xp,?_,λk b=>.inl (h.xG k b),o bp r h.pS,h.pb,?_,?_⟩,?_,n⟩
 .have e:c.heap[bp]? =_:=(u.block bp (by omega) (λB=>B)).trans ((k2.block bp r (λv=>v.elim h.pS h.pb)).trans h.head);rw [heap_setCell_same c bp 2 _ _ _ e,s];rfl
 .rw [s];exact t.owns m (λk b e=>by have:=q k b;omega)
 .refine((h.told.kept k2 (λk b v=>?_)).kept n (λk b e=>(h.gS k b).2.2.1 e)).cut i z;have:=h.gS k b;exact v.elim this.1 this.2.1
 .intro k b;rcases b with b|⟨_,b⟩;.have:=h.xlt k b;omega
  .exact b
 .intro k b;rcases l k b with⟨p|p,y⟩;.exact .inl (h.xS k p)
  .exact .inr ⟨p,by omega⟩
 .intro k b;have:=j k b;exact .inr ⟨by omega,by omega⟩
 .intro k b;have:=j k b;exact⟨λD=>by have:=(l k D).2;omega,by omega,by omega⟩
 .intro k b;have:=h.gS k b;have x:=h.xlt k (h.xG k b);exact⟨o k x this.1,this.2.1,this.2.2.1,λe=>by have:=j k e;omega⟩
 .refine(k2.mono (λk b=>?_)).trans n (λk b=>.inl (by rw [show k=bp from b];exact h.xp));rcases b with b|rfl;.exact h.xS k b
  .exact h.xb
end
end keep
namespace keep
open Go.ChangeShapes Go.WideShapes Go.ChangeAt Go.RowKit disk ref book
open law (zP za zL qr zD xm J6 Chg Uc)
open keys (zg zd zq zl zh)
section
variable {M:za} {w w':World} {X T:Nat->Prop} {bp bd bs:Nat} {S:Nat->Prop} {D:Dk} {V:zP} {vs:List zw} {last gone:Int} {lost:Nat} {a:Option Addr} {cap:Nat} {cs:List (List Value)} {G:Nat->Prop}
set_option maxRecDepth 60000 in
theorem KI(A:qr M)(h:zG w X bp bd bs S vs last gone lost a cap cs G)(F:zD M w bd bs S D V)(ah:D.bs.length=1000)(bC:y6 V vs last lost)(cj:D.reads<=1000000000000000000)(cg:V.n0<=1000000000000000000)(cq:vs.length<=6000)(cm:weight V.vs<=480)(i:Nat)(aD:i<vs.length):
 Calls Tryz.prog 33 #[.pointer (some ⟨bp,0,none⟩),.int .i64 (i:Int)] w λe w'=>∃S' D',Kept X w w'/\D'.reads<=D.reads+40/\D'.bs.length=1000/\
  ((e=.returned (.bool true)/\zD M w' bd bs S' D' (V.sub vs[i].key vs[i].num)/\∃b3 aq bt G',zG w' (λk=>X k\/(w.heap.size<=k/\k<w'.heap.size)) bp bd bs S' (cut vs i) last gone lost b3 aq bt G')\/
   (e=.returned (.bool false)/\ze w' bd S' D'/\M.Could D' (λU=>U=V\/U=V.sub vs[i].key vs[i].num)/\zG w' (λk=>X k\/(w.heap.size<=k/\k<w'.heap.size)) bp bd bs S' vs last i lost a cap cs G)):=by
 obtain⟨bH,co,ce,bG,bB,bL,bE,bF⟩:=qA h.head;have aM:Hid (zD M w bd bs S D V):=F;have b8:=F.reads0;obtain⟨g,rfl⟩:=h.rowAt (by omega);obtain⟨k0,k1,_⟩:=h.cells i aD;have z:Hid (zG w X bp bd bs S vs last gone lost (some ⟨g,0,none⟩) cap cs G):=h;have ax:=F.live.good;have N:=bC.sub _ (ag aD);have aF:Hid (zh vs[i].key.data.toList=true):=ax.key _ N;have bq:=ax.num _ N;have bz:Hid (zs vs[i].num):=⟨by omega,by omega⟩;have ck:=jr aF.out;have bI:Hid (QX (zh vs[i].key.data.toList) (qK V.vs vs[i].key vs[i].num)=0):=by show _=_;rw [aF.out,gh ax.apart N];rfl
 generalize vs[i].key=Q at*;generalize vs[i].num=O at*;have cl:(i:Int)<(vs.length:Int):=by omega
 have bK:=h.lt;have hbs:=h.xlt bs h.xb;have am:=h.rS g rfl;have aO:=h.xlt g (h.xr g rfl);have bO:=h.told.len
 have bf:vs.length<=cap/\cap<=maxLen:=by
  rcases h.row.2 with⟨b5,aE⟩|⟨cp,aq,ca,b4,_,_,b2,bU,_⟩;.cases b5
  .cases b4;exact⟨b2,bU⟩
 have bQ:cap<=9223372036854775807:=by have:=bf.2;unfold maxLen at this;omega
 have bP:(vs.length:Int)<=(cap:Int):=by omega
 have cc:(i:Int)+1<=(vs.length:Int):=by omega
 have ch:IntKind.i64.wrap ((i:Int)+1)=(i:Int)+1:=IntWalk.i64_in _ (by omega);obtain⟨T,a4,aR,a6,a2⟩:=qU Tryz.infoKp;have l:Hid (Tryz.prog.info? 85=some T/\T.zero=some (.agg #[.string ⟨#[]⟩,.int .i64 0,.slice none 0 0])/\T.size=3/\T.bytes=48):=⟨a4,aR,a6,a2⟩;have au:=h.told.one;have a7:=h.told.three;have bk:Hid (∀c∈cs,c.length=3):=a7;have br:Hid (∀u∈cs.flatten,u.oneCell'=true):=au;clear h ax a4 aR a6 a2 bH bG bB bL bE bF au a7 bq N F bC;go_enter Tryz.func33,Tryz.ntmps33;go_wp2_with fail;go_region_held3 (λw'=>w'.cell? ⟨bp,1,none⟩=some (.pointer (some ⟨bs,0,none⟩))/\w'.cell? ⟨bp,2,none⟩=some (.slice (some ⟨g,0,none⟩) vs.length cap)/\w'.cell? ⟨g,i*3,none⟩=some (.string Q)/\w'.cell? ⟨g,i*3+1,none⟩=some (.int .i64 O)) (go_keep) ((go_at_call 31;refine(A.live w.drew bd bs S D V Q O (zD.kept aM.out (Kept.drew (λ_=>False) w) nF (λar=>ar)) (by unfold maxLen;omega) bz.out).mono ?_;rw [bI.out];rintro e w2 ⟨r,S2,c,q,rfl,y,an⟩;have n:Hid (xm M w.drew w2 bd bs S S2 D r 40 q):=y;have bn:Hid (Chg M D r V (V.sub Q O) bd 0 c 0 q):=an;have x:Hid (Kept (λk=>S k\/k=bs) w w2):=⟨y.kept.os,y.kept.tape,y.kept.output,y.kept.size,y.kept.block⟩;have L:Hid (∀k,S2 k->(S k\/w.heap.size<=k)/\k<w2.heap.size):=(λk b=>⟨y.foot k b,y.disk.lt k b⟩);have ai:w2.heap[bp]? =_:=(x.out.block bp bK (λB=>B.elim z.out.pS z.out.pb)).trans z.out.head;have al:Hid (w2.heap[bp]? =some (yt (.pointer (some ⟨bd,0,none⟩)) (.pointer (some ⟨bs,0,none⟩)) (.slice (some ⟨g,0,none⟩) vs.length cap) last gone (lost:Nat))):=ai;have b9:w2.cell? ⟨bp,1,none⟩=some (.pointer (some ⟨bs,0,none⟩)):=(ak w2 bp 1 _ _ _ ai).trans rfl;have b7:w2.cell? ⟨bp,2,none⟩=some (.slice (some ⟨g,0,none⟩) vs.length cap):=(ak w2 bp 2 _ _ _ ai).trans rfl;have cf:w2.cell? ⟨g,i*3,none⟩=some (.string Q):=(x.out.cell (a:=⟨g,i*3,none⟩) aO (λB=>B.elim am.1 am.2.1)).trans k0;have cn:w2.cell? ⟨g,i*3+1,none⟩=some (.int .i64 O):=(x.out.cell (a:=⟨g,i*3+1,none⟩) aO (λB=>B.elim am.1 am.2.1)).trans k1;clear y an ai))
 have aj:Hid (¬S2 bp):=λb=>by
  rcases (L.out bp b).1 with h|h;.exact z.out.pS h
  .omega
 have ci:=n.out.reads0;have ao:=n.out.reads1
 have aw:(c=7/\r.fuse=0/\M.Could r (λU=>U=V\/U=V.sub Q O))\/(c=0/\q=some bd/\M.Live r (V.sub Q O)):=by
  rcases bn.out.is with h|h|h|h;.exact absurd rfl h.1
  .exact .inr h.2
  .exact absurd h.2.2.2.2 (by unfold xP;rw [ah];simp only [decide_eq_false_iff_not];omega)
  .exact .inl ⟨h.2.1,h.2.2.2⟩
 rcases aw with⟨rfl,Z,W⟩|⟨rfl,rfl,az⟩
 .have bX:Hid ((r.fuse==0)=true):=by show _=_;rw [Z];rfl
  have bJ:Hid (M.Could r (λU=>U=V\/U=V.sub Q O)):=W;have bv:zs r.fuse:=by rw [Z];constructor<;>omega
  have bT:=(qA al.out).1;have bb:bp<w2.heap.size:=by have:=x.out.size;omega
  clear W;go_wp2_with (go_at_call 40;refine(yS w2 bd S2 r n.out.disk bv).mono ?_;rintro e d ⟨rfl,⟨bi,aG,aK⟩,av⟩;rw [bX.out];have aQ:Hid (ze d bd bi r.flush):=aG;have aZ:Hid (∀k,bi k->S2 k):=aK;have o:Hid (Kept S2 w2 d):=av;have f:d.heap[bp]? =some (yt (.pointer (some ⟨bd,0,none⟩)) (.pointer (some ⟨bs,0,none⟩)) (.slice (some ⟨g,0,none⟩) vs.length cap) last gone (lost:Nat)):=(av.block bp bb aj.out).trans al.out;have R:Hid (d.heap[bp]? =some (yt (.pointer (some ⟨bd,0,none⟩)) (.pointer (some ⟨bs,0,none⟩)) (.slice (some ⟨g,0,none⟩) vs.length cap) last gone (lost:Nat))):=f;have bZ:d.cell? ⟨bp,6,none⟩=some (.bool true):=(qA f).2.2.2.2.2.2.1;have b1:d.cell? ⟨bp,4,none⟩=some (.int .i64 gone):=(qA f).2.2.2.2.1;have b0:=(qA f).2.2.2.2.2.2.2 6;have bY:=(qA f).2.2.2.2.2.2.2 4;have bR:bp<d.heap.size:=(lT f);clear aG aK av f);go_ret;have bW:=heap_setCell_same d bp 6 _ _ (.bool true) R.out;have bx:=heap_setCell_same _ bp 4 _ _ (.int .i64 (i:Int)) bW;have ap:Kept (λk=>k=bp) d ((d.setCell ⟨bp,6,none⟩ (.bool true)).setCell ⟨bp,4,none⟩ (.int .i64 (i:Int))):=(Kept.setCell (S:=λk=>k=bp) d ⟨bp,6,none⟩ _ rfl).trans (Kept.setCell (S:=λk=>k=bp) _ ⟨bp,4,none⟩ _ rfl) iL;have a3:Kept (λk=>S k\/k=bs) w d:=x.out.trans o.out (λk b=>(L.out k b).1.imp .inl id)
  have bS:Kept X w ((d.setCell ⟨bp,6,none⟩ (.bool true)).setCell ⟨bp,4,none⟩ (.int .i64 (i:Int))):=(a3.mono (λk b=>by
   rcases b with b|rfl;.exact z.out.xS k b
   .exact z.out.xb)).trans ap (λk b=>.inl (by rw [show k=bp from b];exact z.out.xp))
  have bV:=zG.aft z.out a3 (λk b=>⟨(L.out k (aZ.out k b)).1,aQ.out.lt k b⟩) ap bx;have aI:=aQ.out.kept ap (λk b e=>aj.out (by rw [<-show k=bp from e];exact aZ.out k b));rw [show r.flush=r from aB Z] at aI;exact⟨bi,r,bS,ao,n.out.size.trans ah,.inr ⟨rfl,aI,bJ.out,bV⟩⟩
 have a8:Hid (zD M w2 bd bs S2 r (V.sub Q O)):=⟨n.out.disk,λb=>by
  rcases (L.out bs b).1 with h|h;.exact aM.out.apart h
  .omega,n.out.sto,az,n.out.fuse,by omega,by omega,by show V.n0<=_;omega⟩
 have aS:Hid (w2.ownsRow 0 85 3 (.slice (some ⟨g,0,none⟩) vs.length cap) vs.length cs.flatten):=x.out.owns z.out.row (λk b B=>by have:=z.out.rS k b;exact B.elim this.1 this.2.1);have cb:=x.out.size;have a5:(cs.take i).length=i:=by rw [ay];omega
 have ba:Hid (∀c∈cs.take i,c.length=3):=λc B=>bk.out c (aJ B);have aT:Hid (cs.flatten=(cs.take i).flatten++(cs.drop i).flatten):=by show cs.flatten=_;rw [<-aY,aA]
 have aX:Hid (∀(j:Nat) (u:Value),(cs.take i).flatten[j]? =some u->w2.cell? ((⟨g,0,none⟩:Addr).add j)=some u):=λj u E=>aS.out.cells (g:=g) rfl j u (by
  rw [aT.out,eW (aW.1 E).1];exact E)
 have aL:Hid (∀u∈(cs.take i).flatten,u.oneCell'=true):=λu E=>br.out u (by rw [aT.out];exact ac _ E);have a1:Hid ((cut cs i).flatten=(cs.take i).flatten++(cs.drop (i+1)).flatten):=by show (cut cs i).flatten=_;unfold cut;rw [aY]
 have bD:(cs.drop (i+1)).length=vs.length-(i+1):=by rw [aU,bO]
 have bN:Hid (∀c∈cs.drop (i+1),c.length=3):=λc B=>bk.out c (eJ B);have a0:Hid (cs.flatten=(cs.take (i+1)).flatten++(cs.drop (i+1)).flatten):=by show cs.flatten=_;rw [<-aY,aA]
 have a9:(cs.take (i+1)).flatten.length=(i+1)*3:=by rw [qQ (λc B=>bk.out c (aJ B)),ay];omega
 have aN:Hid ((cs.take (i+1)).flatten.length=(i+1)*3):=a9
 have bw:Hid (∀bj:World,Kept (λ_=>False) w2 bj->∀(j:Nat) (u:Value),(cs.drop (i+1)).flatten[j]? =some u->bj.cell? ((⟨g,(i+1)*3,none⟩:Addr).add j)=some u):=λbj b6 j u E=>by
  have aE:=(b6.owns aS.out nF).cells (g:=g) rfl ((i+1)*3+j) u (by
   rw [a0.out,ia (by rw [aN.out];omega),aN.out,iy];exact E)
  rw [eO] at aE ⊢;rw [aV] at aE;exact aE
 have bA:Hid (∀u∈(cs.drop (i+1)).flatten,u.oneCell'=true):=λu E=>br.out u (by rw [a0.out];exact af _ E);clear a9;by_cases bM:cap=i+1
 .subst bM;have cd:vs.length<=i+1:=by omega
  have bu:Hid ((cs.drop (i+1)).flatten=[]):=by show _=_;rw [eb (by omega)];rfl
  go_wp2_with (first
   |(refine wpList_append_own rfl (.tmp 31) (.tmp 37) 31 rfl 85 T _ 3 48 Tryz.underlying31 l.out.1 l.out.2.1 l.out.2.2.1 l.out.2.2.2 rfl (by omega) (.slice none 0 0) 0 [] (by rfl) (aP _ _ _ _) ⟨g,0,none⟩ i (i+1) (cs.take i).flatten (by rfl) (by rw [qQ ba.out,a5]) aX.out aL.out (by unfold maxLen;omega) (by omega) ?_;intro ad Y d v p I;have ab:Hid (d.ownsRow 0 85 3 (.slice ad i Y) i (cs.take i).flatten):=(by have K:=v;rw [aV,aH] at K;exact K);have o:Hid (Kept (λ_=>False) w2 d):=Kept.grown p (λk b=>by cases b);have s:Hid (∀k,(Value.slice ad i Y).ownBlock=some k->w2.heap.size<=k):=(λk b=>xT (by have K:=I;rw [aV] at K;exact K) (aC _) (λj bg=>by cases bg) b);have f:d.heap[bp]? =_:=(o.out.block bp (by omega) (λar=>ar)).trans al.out;have R:Hid (d.heap[bp]? =some (yt (.pointer (some ⟨bd,0,none⟩)) (.pointer (some ⟨bs,0,none⟩)) (.slice (some ⟨g,0,none⟩) vs.length (i+1)) last gone (lost:Nat))):=f;have be:d.cell? ⟨bp,2,none⟩=some (.slice (some ⟨g,0,none⟩) vs.length (i+1)):=(ak d bp 2 _ _ _ f).trans rfl;have bh:=aa d bp 2 _ _ f;clear v p I f)
   |(refine wpList_append_own rfl (.tmp 40) (.tmp 47) 31 rfl 85 T _ 3 48 Tryz.underlying31 l.out.1 l.out.2.1 l.out.2.2.1 l.out.2.2.2 rfl (by omega) (.slice ad i Y) i (cs.take i).flatten (by rfl) (by exact ab.out) ⟨g,0,none⟩ 0 0 [] (by rfl) (by rfl) (λj u E=>by cases E) (λu E=>by cases E) (by unfold maxLen;omega) (by omega) ?_;intro bl bm C t m H;have ae:Hid _:=zG.erased z.out x.out L.out i aD C (by exact(o.out.trans (Kept.grown (S:=λk=>w2.heap.size<=k) m (λk b=>s.out k b)) (λk b=>.inr b))) bl bm (i+0) (by omega) (by rw [a1.out,bu.out];exact t) (λk b=>xT H o.out.size s.out b);have P:Kept (λk=>w2.heap.size<=k) d C:=Kept.grown m (λk b=>s.out k b);have J:C.heap[bp]? =_:=(P.block bp (by have:=o.out.size;omega) (by omega)).trans R.out;have bc:C.cell? ⟨bp,2,none⟩=some (.slice (some ⟨g,0,none⟩) vs.length (i+1)):=(ak C bp 2 _ _ _ J).trans rfl;have bo:=aa C bp 2 _ _ J;clear t m H P J))
  all_goals
   go_ret;exact⟨S2,r,ae.out.2.1,ao,n.out.size.trans ah,.inl ⟨rfl,zD.kept a8.out ae.out.2.2 (λk b e=>aj.out (by rw [<-show k=bp from e];exact b)) (λe=>z.out.pb e.symm),_,_,_,_,ae.out.1⟩⟩
 .go_wp2_with (first
   |(refine wpList_append_own rfl (.tmp 31) (.tmp 37) 31 rfl 85 T _ 3 48 Tryz.underlying31 l.out.1 l.out.2.1 l.out.2.2.1 l.out.2.2.2 rfl (by omega) (.slice none 0 0) 0 [] (by rfl) (aP _ _ _ _) ⟨g,0,none⟩ i cap (cs.take i).flatten (by rfl) (by rw [qQ ba.out,a5]) aX.out aL.out (by unfold maxLen;omega) (by omega) ?_;intro ad Y d v p I;have ab:Hid (d.ownsRow 0 85 3 (.slice ad i Y) i (cs.take i).flatten):=(by have K:=v;rw [aV,aH] at K;exact K);have o:Hid (Kept (λ_=>False) w2 d):=Kept.grown p (λk b=>by cases b);have s:Hid (∀k,(Value.slice ad i Y).ownBlock=some k->w2.heap.size<=k):=(λk b=>xT (by have K:=I;rw [aV] at K;exact K) (aC _) (λj bg=>by cases bg) b);have f:d.heap[bp]? =_:=(o.out.block bp (by omega) (λar=>ar)).trans al.out;have R:Hid (d.heap[bp]? =some (yt (.pointer (some ⟨bd,0,none⟩)) (.pointer (some ⟨bs,0,none⟩)) (.slice (some ⟨g,0,none⟩) vs.length cap) last gone (lost:Nat))):=f;have be:d.cell? ⟨bp,2,none⟩=some (.slice (some ⟨g,0,none⟩) vs.length cap):=(ak d bp 2 _ _ _ f).trans rfl;have bh:=aa d bp 2 _ _ f;clear v p I f)
   |(refine wpList_append_own rfl (.tmp 40) (.tmp 47) 31 rfl 85 T _ 3 48 Tryz.underlying31 l.out.1 l.out.2.1 l.out.2.2.1 l.out.2.2.2 rfl (by omega) (.slice ad i Y) i (cs.take i).flatten (by rfl) (by exact ab.out) ⟨g,(i+1)*3,none⟩ (vs.length-(i+1)) (cap-(i+1)) (cs.drop (i+1)).flatten (by rfl) (by rw [qQ bN.out,bD]) (by exact bw.out _ o.out) bA.out (by unfold maxLen;omega) (by omega) ?_;intro bl bm C t m H;have ae:Hid _:=zG.erased z.out x.out L.out i aD C (by exact(o.out.trans (Kept.grown (S:=λk=>w2.heap.size<=k) m (λk b=>s.out k b)) (λk b=>.inr b))) bl bm (i+(vs.length-(i+1))) (by omega) (by rw [a1.out];exact t) (λk b=>xT H o.out.size s.out b);have P:Kept (λk=>w2.heap.size<=k) d C:=Kept.grown m (λk b=>s.out k b);have J:C.heap[bp]? =_:=(P.block bp (by have:=o.out.size;omega) (by omega)).trans R.out;have bc:C.cell? ⟨bp,2,none⟩=some (.slice (some ⟨g,0,none⟩) vs.length cap):=(ak C bp 2 _ _ _ J).trans rfl;have bo:=aa C bp 2 _ _ J;clear t m H P J))
  all_goals
   go_ret;exact⟨S2,r,ae.out.2.1,ao,n.out.size.trans ah,.inl ⟨rfl,zD.kept a8.out ae.out.2.2 (λk b e=>aj.out (by rw [<-show k=bp from e];exact b)) (λe=>z.out.pb e.symm),_,_,_,_,ae.out.1⟩⟩
end
end keep
end Go.Proofs.YtcoengihaobddaaGreatDoor
