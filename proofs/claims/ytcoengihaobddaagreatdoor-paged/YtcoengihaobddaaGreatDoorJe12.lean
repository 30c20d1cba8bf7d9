/- Part 12 of 50 of a proof: Lent, Law1, Law2, Api, Rep1, Rep2, Tr5 -/
import Derived.Test.YtcoengihaobddaaGreatDoorJe11
import Derived.Lib.SliceRun
set_option maxHeartbeats 8000000
set_option linter.unusedVariables false
set_option linter.unusedSimpArgs false
set_option maxRecDepth 8000
namespace Go.Proofs.YtcoengihaobddaaGreatDoor
namespace book
open Go.ChangeShapes Go.WideShapes Go.ChangeAt Go.RowKit disk ref
open keys (zg zd zq zl)
variable {w:World}{g n cap:Nat}{l:List UInt8}
theorem Q5(w:World)(P:Nat->Prop)(a:Option Addr)(cap:Nat)(l:List UInt8)(q:zu w P a l)(t:l.length<=140737488355326):
 Calls Tryz.prog 99 #[.slice a l.length cap] w λe w'=>∃p o,e=.returned (.slice p l.length o)/\w'.ownsRow 0 5 1 (.slice p l.length o) l.length (l.map qk)/\Kept (λ_=>False) w w'/\∀k,(Value.slice p l.length o).ownBlock=some k->w.heap.size<=k:=by
 obtain⟨f,n,j,m,i⟩:=qU Tryz.infoU8;have d:Hid (Tryz.prog.info? 5=some f/\f.zero=some (.int .u8 0)/\f.size=1/\f.bytes=1):=⟨n,j,m,i⟩;change Hid _ at q;clear n j m i;go_enter Tryz.func99,Tryz.ntmps99;go_wp2_with (refine xk P rfl (.tmp 4) (.tmp 5) 35 rfl 5 f _ Tryz.underlying35 d.1 d.2.1 d.2.2.1 d.2.2.2 rfl a cap l (by rfl) (by rfl) (by exact q) (by omega) ?_;intro r s u c b g;change Hid _ at c b g);go_ret;exact⟨r,s,rfl,c,Kept.grown (S:=λ_=>False) b (λk h=>by cases h),λk h=>by rcases g.out with e|e<;>rw [e] at h<;>simp at h;omega⟩
theorem fw(w:World)(a:Option Addr)(n c:Nat):(binOp .eql 35 (.slice a n c) (.slice none 0 0)).run Tryz.prog w=.ok (.bool a.isNone) w:=Go.Lib.run_eql_slice_nil w 35 5 a n c 0 0 Tryz.underlying35
structure vf (w:World) (g n cap:Nat) (l:List UInt8):Prop where
 len:n=l.length
 at_:∃cur,w.heap[g]? =some (.cells cur 5 (0,0))/\n+2<=cap/\cap<=maxLen/\cur.size=cap/\cur.toList.take (n+2)=l.map qk++[.int .u8 77,.int .u8 77]
theorem vf.kept{w':World}{T:Nat->Prop}(h:vf w g n cap l)(k:Kept T w w')(e:¬T g):vf w' g n cap l:=by
 obtain⟨d,a,b,c⟩:=h;exact⟨d,a,(k.block g (lT b) e).trans b,c⟩
theorem vf.bytes(h:vf w g n cap l)(P:Nat->Prop)(d:P g):zu w P (some ⟨g,0,none⟩) l:=by
 obtain⟨i,a,b,k,o,m,f⟩:=h;subst i;refine .inr ⟨g,0,rfl,d,(lT b),λj c=>?_⟩;rw [ak w g (0+j) _ _ _ b];have e:a.toList[0+j]? =(a.toList.take (l.length+2))[0+j]? :=by rw [ma,aB (by omega)]
 rw [<-lm,e,f];rw [eW (by simp;omega)];simp [c,qk]
theorem vf.cells(h:vf w g n cap l):(∀j (a:j<l.length),w.cell? ⟨g,j,none⟩=some (.int .u8 (l[j].toNat:Int)))/\w.cell? ⟨g,l.length,none⟩=some (.int .u8 77)/\w.cell? ⟨g,l.length+1,none⟩=some (.int .u8 77)/\∀i,w.frozen? ⟨g,i,none⟩=false:=by
 obtain⟨d,e,b,f,m,k,c⟩:=h;subst d
 have key:∀j,j<l.length+2->w.cell? ⟨g,j,none⟩=(l.map qk++[.int .u8 77,.int .u8 77])[j]? :=λj a=>by rw [ak w g j _ _ _ b,<-lm,<-c,ma,aB a]
 refine⟨λj a=>?_,?_,?_,λi=>aa w g i _ _ b⟩;.rw [key j (by omega),eW (by simpa using a)];simp [a,qk]
 .rw [key _ (by omega),ia (by simp)];simp
 .rw [key _ (by omega),ia (by simp)];simp
theorem GF(w:World)(P:Nat->Prop)(t:Addr)(cap:Nat)(l:List UInt8)(x:zu w P (some t) l)(G:l.length<=140737488355326):
 Calls Tryz.prog 91 #[.slice (some t) l.length cap] w λe w'=>∃g v,e=.returned (.slice (some ⟨g,0,none⟩) l.length v)/\vf w' g l.length v l/\Kept (λ_=>False) w w'/\w.heap.size<=g:=by
 obtain⟨n,r,o,p,q⟩:=qU Tryz.infoU8;have f:Hid (Tryz.prog.info? 5=some n/\n.zero=some (.int .u8 0)/\n.size=1/\n.bytes=1):=⟨r,o,p,q⟩;change Hid _ at x;clear r o p q;have F:=λw=>fw w (some t) l.length cap;go_enter Tryz.func91,Tryz.ntmps91;go_wp2_with fail;refine(Q5 _ P _ cap l x G).mono ?_;rintro e i ⟨J,E,rfl,j,h,d⟩;have A:Hid _:=h;change Hid _ at j d;clear h;go_wp2_with (refine wpList_append_lies _ rfl (.tmp 8) (.tmp 9) 35 rfl 0 5 n _ 1 1 Tryz.underlying35 f.1 f.2.1 f.2.2.1 f.2.2.2 rfl (by omega) (.slice J l.length E) l.length (l.map qk) (by rfl) (by exact World.ownsRow.alloc j _) ⟨i.heap.size,0,none⟩ 2 2 [.int .u8 77,.int .u8 77] (by rfl) (by rfl) (by exact World.news_of_block (heap_alloc_new i _)) (by simp [Value.oneCell']) (by omega) (by unfold maxLen;omega) (by omega) (ai _) (i.heap.size+1) (by simp) ?_;intro g u K a b m I;have D:l.length+2<=u/\u<=9223372036854775807:=by {rcases a.2 with⟨c,_⟩|⟨_,_,_,c,_,_,y,s,_⟩;cases c;cases c;unfold maxLen at s;omega};change Hid _ at a b m);go_ret;have k1:Kept (λk=>w.heap.size<=k) i K:=(Kept.alloc _ i _).trans (Kept.grown (S:=λk=>w.heap.size<=k) b (λk h=>d k h)) iL;refine⟨g,u,rfl,⟨rfl,?_⟩,A.trans k1 (λk h=>.inr h),?_⟩
 .rcases a.2 with⟨c,_⟩|⟨M,B,z,c,_,y,s,H,L,C⟩;.cases c
  .cases c;exact⟨z,y,s,H,by omega,by simpa using C⟩
 .rcases m.out with e|e;.exact d g e
  .have:=A.size;omega
theorem GG(w:World)(n cap:Nat):Calls Tryz.prog 91 #[.slice none n cap] w λe w'=>e=.returned (.slice none 0 0)/\w'=w:=by
 have a:=λw=>fw w none n cap;go_enter Tryz.func91,Tryz.ntmps91;go_wp2;go_ret;exact⟨rfl,rfl⟩
theorem Q6(w:World)(n cap:Nat):Calls Tryz.prog 92 #[.slice none 0 0,.slice none n cap] w λe w'=>e=.returned (.bool true)/\w'=w:=by
 have b:=λw=>fw w none n cap;have a:=λw=>fw w none 0 0;go_enter Tryz.func92,Tryz.ntmps92;go_wp2;go_ret;exact⟨rfl,rfl⟩
theorem Q7(w:World)(P:Nat->Prop)(q:Addr)(cap:Nat)(l:List UInt8)(s:zu w P (some q) l)(N:l.length<=140737488355326)(g c:Nat)(h:vf w g l.length c l)(J:¬P g):
 Calls Tryz.prog 92 #[.slice (some ⟨g,0,none⟩) l.length c,.slice (some q) l.length cap] w λe w'=>e=.returned (.bool true)/\Kept (λk=>k=g) w w':=by
 have E:Hid _:=h;have A:=λw=>fw w (some q) l.length cap;obtain⟨p,B,y,v⟩:=h.cells
 have z:l.length+2<=c/\c<=9223372036854775807:=by obtain⟨_,a,_,o,r,_⟩:=h;unfold maxLen at r;omega
 change Hid _ at s p v;clear h;go_enter Tryz.func92,Tryz.ntmps92;go_wp2;go_loopw [6,7] (λC i wr=>∃k:Nat,k<=l.length/\i=.int .i64 k/\C=.bool true/\∃n,wr=w.drewN n) (λ_ i _=>l.length-(intOf i).toNat)
 case atStart=>exact⟨0,ai _,rfl,rfl,0,rfl⟩
 case round=>
  obtain⟨k,K,rfl,rfl,n,rfl⟩:=hrel;by_cases m:k<l.length
  .have G:=p.out k m;rcases s.out with x|⟨b,Q,d,o,r,t⟩;.rw [x] at m;simp at m
   .have F:=t k m;cases d;go_wp2;go_quiet (fail);go_wp2;go_roundw
    case rel=>exact⟨k+1,by omega,by go_num,rfl,_,rfl⟩
    case measure=>simp [intOf];omega
  .go_wp2;go_loopw [8] (λi wr=>∃k:Nat,k<=l.length+2/\i=.int .i64 k/\(∃a,wr.heap[g]? =some (.cells a 5 (0,0))/\l.length+2<=a.size)/\Kept (λk=>k=g) w wr) (λi _=>l.length+2-(intOf i).toNat)
   case atStart=>
    obtain⟨_,a,d,o,r,t,L⟩:=E.out;exact⟨0,ai _,rfl,⟨a,d,by omega⟩,kD⟩
   case round=>
    obtain⟨j,O,rfl,⟨a,d,o⟩,f⟩:=hrel;have u:Hid _:=d;change Hid _ at f;by_cases D:j<l.length+2
    .have H:wr.cell? ⟨g,j,none⟩=some (a[j]'(by omega)):=by rw [ak wr g j _ _ _ d];simp
     have I:=aa wr g j _ _ d;generalize a[j]'(by omega)=M at*;clear d;go_wp2;go_roundw
     case rel=>exact⟨j+1,by omega,by go_num,⟨_,heap_setCell_same wr g j _ _ _ u,by simpa using o⟩,f.trans (Kept.setCell (S:=λk=>k=g) wr ⟨g,j,none⟩ _ rfl) iL⟩
     case measure=>simp [intOf];omega
    .clear d;go_wp2;go_ret;exact⟨rfl,f⟩
theorem gy(w:World)(P Q:Nat->Prop)(a b:Option Addr)(q o:Nat)(l:List UInt8)(j:zu w P a l)(h:zu w Q b l)(u:l.length<=140737488355326):
 Calls Tryz.prog 105 #[.slice a l.length q,.slice b l.length o] w λe w'=>e=.returned (.bool true)/\∃n,w'=w.drewN n:=by
 change Hid _ at j h;go_enter Tryz.func105,Tryz.ntmps105;go_wp2;go_loopw [5] (λi wr=>∃k:Nat,k<=l.length/\i=.int .i64 k/\∃n,wr=w.drewN n) (λi _=>l.length-(intOf i).toNat)
 case atStart=>exact⟨0,ai _,rfl,0,rfl⟩
 case round=>
  obtain⟨k,x,rfl,n,rfl⟩:=hrel;by_cases c:k<l.length
  .rcases j.out with f|⟨t,z,p,_,_,m⟩;.rw [f] at c;simp at c
   rcases h.out with f|⟨v,y,g,_,_,d⟩;.rw [f] at c;simp at c
   have s:=m k c;have r:=d k c;subst p g;clear m d;go_wp2;go_quiet (fail);go_wp2;go_roundw
   case rel=>exact⟨k+1,by omega,by go_num,_,rfl⟩
   case measure=>simp [intOf];omega
  .go_wp2;go_ret;exact⟨rfl,_,rfl⟩
end book
namespace law
open Go.ChangeShapes Go.WideShapes Go.ChangeAt Go.RowKit disk ref book
open keys (zg zd zq zl)
variable {w:World}{bo:Nat}
structure qm where
 d:Value
 s:Value
 is:Value
 mb:Value
 k0:Value
 k1:Value
 k2:Value
 k3:Value
 died:Int
 told:Int
 shut:Bool
def qm.cells(h:qm):Array Value:=#[h.d,h.s,h.is,h.mb,h.k0,h.k1,h.k2,h.k3,.int .i64 h.died,.int .i64 h.told,.bool h.shut]
structure zE (w:World) (bo:Nat) (h:qm):Prop where
 head:w.heap[bo]? =some (.cells h.cells 125 (0,0))
theorem zE.lt{h:qm}(a:zE w bo h):bo<w.heap.size:=(lT a.head)
theorem zE.kept{w':World}{T:Nat->Prop}{h:qm}(b:zE w bo h)(k:Kept T w w')(a:¬T bo):zE w' bo h:=⟨(k.block bo b.lt a).trans b.head⟩
theorem zE.at_{h:qm}(b:zE w bo h){i:Nat}{v:Value}(a:h.cells[i]? =some v):w.cell? ⟨bo,i,none⟩=some v:=by
 rw [ak w bo i _ _ _ b.head];exact a
theorem zE.fz{h:qm}(a:zE w bo h)(i:Nat):w.frozen? ⟨bo,i,none⟩=false:=aa w bo i _ _ a.head
theorem zE.c0{h:qm}(a:zE w bo h):w.cell? ⟨bo,0,none⟩=some h.d:=a.at_ rfl
theorem zE.c1{h:qm}(a:zE w bo h):w.cell? ⟨bo,1,none⟩=some h.s:=a.at_ rfl
theorem zE.c2{h:qm}(a:zE w bo h):w.cell? ⟨bo,2,none⟩=some h.is:=a.at_ rfl
theorem zE.c8{h:qm}(a:zE w bo h):w.cell? ⟨bo,8,none⟩=some (.int .i64 h.died):=a.at_ rfl
theorem zE.c9{h:qm}(a:zE w bo h):w.cell? ⟨bo,9,none⟩=some (.int .i64 h.told):=a.at_ rfl
theorem zE.c10{h:qm}(a:zE w bo h):w.cell? ⟨bo,10,none⟩=some (.bool h.shut):=a.at_ rfl
theorem zE.set{h:qm}(b:zE w bo h)(i:Nat)(v:Value)(a:qm)(e:a.cells=h.cells.setIfInBounds i v):zE (w.setCell ⟨bo,i,none⟩ v) bo a:=
 ⟨by rw [heap_setCell_same w bo i _ _ _ b.head,e]⟩
theorem xX(w:World)(bo:Nat)(h:qm)(j:zE w bo h)(bd:Nat)(b:h.d=.pointer (some ⟨bd,0,none⟩))(S:Nat->Prop)(D:Dk)(a:ze w bd S D):
 Calls Tryz.prog 149 #[.pointer (some ⟨bo,0,none⟩)] w λe w'=>e=.returned (.int .i64 D.bs.length)/\w'=w:=by
 have d:=j.c0;rw [b] at d;obtain⟨g,c,i,f,a⟩:=a;change Hid _ at a;clear b;go_enter Tryz.func149,Tryz.ntmps149;go_wp2_with (go_at_call 54;refine(ke _ bd S D g c i f a).mono ?_;rintro e w' ⟨rfl,rfl⟩);go_ret;exact⟨rfl,rfl⟩
theorem GH(w:World)(bo:Nat)(h:qm)(l:zE w bo h)(bd:Nat)(d:h.d=.pointer (some ⟨bd,0,none⟩))(S:Nat->Prop)(D:Dk)(g:ze w bd S D)(a:D.fuse=0):
 Calls Tryz.prog 87 #[.pointer (some ⟨bo,0,none⟩)] w λe w'=>e=.returned (.bool true)/\(∃S',ze w' bd S' D/\∀k,S' k->S k)/\Kept S w w':=by
 have i:=l.c0;rw [d] at i
 have b:D.flush=D:=by cases D;simp only at a;subst a;rfl
 change Hid _ at g a b;clear d;go_enter Tryz.func87,Tryz.ntmps87;go_wp2_with fail;refine(yS _ bd S D g (by rw [a.out];exact⟨by omega,by omega⟩)).mono ?_;rintro e j ⟨rfl,c,f⟩;rw [a.out];rw [b.out] at c;change Hid _ at c f;go_wp2;go_ret;exact⟨rfl,c,f⟩
def yH:Bool->Int->Int
 |false,c=>c
 |true,c=>if c=0\/c=5 then 8 else c
theorem ug(w:World)(bo:Nat)(h:qm)(j:zE w bo h)(f:Int):
 Calls Tryz.prog 104 #[.pointer (some ⟨bo,0,none⟩),.int .i64 f] w λe w'=>e=.returned (.int .i64 (yH h.shut f))/\w'=w:=by
 have d:=j.c10;cases c:h.shut
 .rw [c] at d;clear c;go_enter Tryz.func104,Tryz.ntmps104;go_wp2;go_ret;exact⟨rfl,rfl⟩
 .rw [c] at d;clear c;by_cases b:f=0
  .subst b;go_enter Tryz.func104,Tryz.ntmps104;go_wp2;go_ret;exact⟨rfl,rfl⟩
  .have g:(f==0)=false:=by simpa using b
   by_cases a:f=5
   .subst a;go_enter Tryz.func104,Tryz.ntmps104;go_wp2;go_ret;exact⟨rfl,rfl⟩
   .have i:(f==5)=false:=by simpa using a
    change Hid _ at b a;go_enter Tryz.func104,Tryz.ntmps104;go_wp2;go_ret;exact⟨zg (by show f=if f=0\/f=5 then 8 else f;rw [az (λh=>h.elim b.out a.out)]),rfl⟩
def Q8(n last told died:Int):Bool:=decide (last<n/\n<=told+1+died)
theorem fx(w:World)(bo:Nat)(h:qm)(j:zE w bo h)(g:Nat)(i:h.is=.pointer (some ⟨g,0,none⟩))(F u:Nat->Prop)(vs:List zw)(b:Int)(c:qo w F u g vs b)(n:Int)(r:0<=h.told)(p:h.told<=4611686018427387904)(t:0<=h.died)(l:h.died<=1152921504606846976):
 Calls Tryz.prog 96 #[.pointer (some ⟨bo,0,none⟩),.int .i64 n] w λe w'=>e=.returned (.bool (Q8 n b h.told h.died))/\∃m,w'=w.drewN m:=by
 have f:=j.c2;have q:=j.c8;have o:=j.c9;rw [i] at f;obtain⟨a,cap,v,c⟩:=c;have s:=c.c1;clear c i;by_cases d:b<n
 .have k:decide (b<n)=true:=aG d;go_enter Tryz.func96,Tryz.ntmps96;go_wp2;go_quiet (fail);go_wp2;go_ret;exact⟨zd (by unfold Q8;simp [d]),_,rfl⟩
 .have k:decide (b<n)=false:=decide_eq_false d;go_enter Tryz.func96,Tryz.ntmps96;go_wp2;go_quiet (fail);go_wp2;go_ret;exact⟨zd (by unfold Q8;rw [decide_eq_false (by omega)]),_,rfl⟩
theorem Q9(w:World)(bo:Nat)(h:qm)(H:zE w bo h)(bd:Nat)(u:h.d=.pointer (some ⟨bd,0,none⟩))(S:Nat->Prop)(D:Dk)(y:ze w bd S D)(i:Nat)(E:h.is=.pointer (some ⟨i,0,none⟩))(F I:Nat->Prop)(vs:List zw)(b:Int)(A:qo w F I i vs b)(o:vs.length<=4398046511104)(x:∀v∈vs,v.body.length<=1000)
 (c d weight:Int) (G:0<=weight) (B:weight<=1125899906842624) (next:Value) (m:ByteArray) (l:Int) (s:Bool) (k:Option Addr) (t r:Nat) (C:h.shut=true) (g:d=0\/d=5):
 Calls Tryz.prog 97 #[.pointer (some ⟨bo,0,none⟩),.int .i64 c,.int .i64 d,.int .i64 weight,next,.agg #[.string m,.int .i64 l,.bool s,.slice k t r]] w λe w'=>e=.returned (.bool (c==8))/\Kept (λ_=>False) w w':=by
 have J:Hid (qo w F I i vs b):=A;have K:Hid (ze w bd S D):=y;have a:∀n,Kept (λ_=>False) w ((w.alloc (.cells #[.string m,.int .i64 l,.bool s,.slice k t r] 123)).drewN n):=λn=>(Kept.alloc _ _ _).trans kD iL;have f:zE (w.alloc (.cells #[.string m,.int .i64 l,.bool s,.slice k t r] 123)) bo h:=H.kept (Kept.alloc (λ_=>False) _ _) (λp=>p);have z:=f.c2;rw [E] at z;have q:=f.c10;have L:=f.c8;have j:h.d=.pointer (some ⟨bd,0,none⟩):=u;change Hid _ at H x a j;clear A y f u E;rw [C] at q;clear C;rcases g with rfl|rfl
 all_goals
  go_enter Tryz.func97,Tryz.ntmps97;go_wp2_with fail
  go_quiet ((first
   |(go_at_call 149;exact Calls.quiet_of_same (xX _ bo h (by exact H.kept (a _) (λp=>p)) bd j S D (by exact K.kept (a _) nF)))
   |(go_at_call 151;exact Calls.quiet_of_same (kC _ F I i vs b (by exact J.kept (a _) nF nF) o x _ G B _))))
  go_wp2;go_ret;exact⟨rfl,a _⟩
theorem Ya(w:World)(bo:Nat)(h:qm)(K:zE w bo h)(bd:Nat)(B:h.d=.pointer (some ⟨bd,0,none⟩))(S:Nat->Prop)(D:Dk)(C:ze w bd S D)(l:Nat)(I:h.is=.pointer (some ⟨l,0,none⟩))(F L:Nat->Prop)(vs:List zw)(d:Int)(H:qo w F L l vs d)(j:vs.length<=4398046511104)(t:∀v∈vs,v.body.length<=1000)
 (c a weight:Int) (r:0<=weight) (p:weight<=1125899906842624) (next:Value) (x:ByteArray) (u:Int) (z:Bool) (s:Option Addr) (A y:Nat) (g:h.shut=false\/a≠5) (f:a≠0):
 Calls Tryz.prog 97 #[.pointer (some ⟨bo,0,none⟩),.int .i64 c,.int .i64 a,.int .i64 weight,next,.agg #[.string x,.int .i64 u,.bool z,.slice s A y]] w λe w'=>e=.returned (.bool (c==a))/\Kept (λ_=>False) w w':=by
 have E:Hid (qo w F L l vs d):=H;have J:Hid (ze w bd S D):=C;have b:∀n,Kept (λ_=>False) w ((w.alloc (.cells #[.string x,.int .i64 u,.bool z,.slice s A y] 123)).drewN n):=λn=>(Kept.alloc _ _ _).trans kD iL;have i:zE (w.alloc (.cells #[.string x,.int .i64 u,.bool z,.slice s A y] 123)) bo h:=K.kept (Kept.alloc (λ_=>False) _ _) (λk=>k);have G:=i.c2;rw [I] at G;have m:=i.c10;have M:=i.c8;have o:h.d=.pointer (some ⟨bd,0,none⟩):=B;change Hid _ at K t b o;clear H C i B I;have N:(a==0)=false:=by simpa using f
 have P:(a !=0)=true:=by simpa using f
 clear f;rcases g with g|g
 .rw [g] at m;clear g;go_enter Tryz.func97,Tryz.ntmps97;go_wp2_with fail
  go_quiet ((first
   |(go_at_call 149;exact Calls.quiet_of_same (xX _ bo h (by exact K.kept (b _) (λk=>k)) bd o S D (by exact J.kept (b _) nF)))
   |(go_at_call 151;exact Calls.quiet_of_same (kC _ F L l vs d (by exact E.kept (b _) nF nF) j t _ r p _))))
  go_wp2;go_ret;exact⟨rfl,b _⟩
 .have O:(a==5)=false:=by simpa using g
  clear g;cases q:h.shut
  all_goals
   rw [q] at m;clear q;go_enter Tryz.func97,Tryz.ntmps97;go_wp2_with fail
   go_quiet ((first
    |(go_at_call 149;exact Calls.quiet_of_same (xX _ bo h (by exact K.kept (b _) (λk=>k)) bd o S D (by exact J.kept (b _) nF)))
    |(go_at_call 151;exact Calls.quiet_of_same (kC _ F L l vs d (by exact E.kept (b _) nF nF) j t _ r p _))))
   go_wp2;go_ret;exact⟨rfl,b _⟩
theorem Z2(w:World)(bo:Nat)(h:qm)(H:zE w bo h)(bd:Nat)(u:h.d=.pointer (some ⟨bd,0,none⟩))(S:Nat->Prop)(D:Dk)(y:ze w bd S D)(i:Nat)(E:h.is=.pointer (some ⟨i,0,none⟩))(F I:Nat->Prop)(vs:List zw)(b:Int)(A:qo w F I i vs b)(o:vs.length<=4398046511104)(x:∀v∈vs,v.body.length<=1000)
 (c f weight:Int) (G:0<=weight) (B:weight<=1125899906842624) (next:Value) (m:ByteArray) (l:Int) (s:Bool) (k:Option Addr) (t r:Nat) (C:h.shut=false) (g:f=0) (J:c=6):
 Calls Tryz.prog 97 #[.pointer (some ⟨bo,0,none⟩),.int .i64 c,.int .i64 f,.int .i64 weight,next,.agg #[.string m,.int .i64 l,.bool s,.slice k t r]] w λe w'=>e=.returned (.bool (!xP vs weight.toNat D.bs.length))/\Kept (λ_=>False) w w':=by
 have K:Hid (qo w F I i vs b):=A;have L:Hid (ze w bd S D):=y;have a:∀n,Kept (λ_=>False) w ((w.alloc (.cells #[.string m,.int .i64 l,.bool s,.slice k t r] 123)).drewN n):=λn=>(Kept.alloc _ _ _).trans kD iL;have d:zE (w.alloc (.cells #[.string m,.int .i64 l,.bool s,.slice k t r] 123)) bo h:=H.kept (Kept.alloc (λ_=>False) _ _) (λp=>p);have z:=d.c2;rw [E] at z;have q:=d.c10;have M:=d.c8;have j:h.d=.pointer (some ⟨bd,0,none⟩):=u;change Hid _ at H x a j;clear A y d u E;subst g J;rw [C] at q;clear C;go_enter Tryz.func97,Tryz.ntmps97;go_wp2_with fail
 go_quiet ((first
  |(go_at_call 149;exact Calls.quiet_of_same (xX _ bo h (by exact H.kept (a _) (λp=>p)) bd j S D (by exact L.kept (a _) nF)))
  |(go_at_call 151;exact Calls.quiet_of_same (kC _ F I i vs b (by exact K.kept (a _) nF nF) o x _ G B _))))
 go_wp2;go_ret;exact⟨rfl,a _⟩
def qm.okd(h:qm)(next:Value)(weight nlast:Int):qm:=if 0<weight then {h with is:=next,died:=0,told:=nlast} else {h with is:=next}
theorem J5(w:World)(bo:Nat)(h:qm)(G:zE w bo h)(bd:Nat)(H:h.d=.pointer (some ⟨bd,0,none⟩))(S:Nat->Prop)(D:Dk)(J:ze w bd S D)(l:Nat)(O:h.is=.pointer (some ⟨l,0,none⟩))(F Q:Nat->Prop)(vs:List zw)(f:Int)(M:qo w F Q l vs f)(j:vs.length<=4398046511104)(B:∀v∈vs,v.body.length<=1000)
 (c i weight:Int) (A:0<=weight) (z:weight<=1125899906842624) (next:Value) (s:ByteArray) (r:Int) (x:Bool) (p:Option Addr) (y u:Nat) (N:h.shut=false) (q:i=0) (R:c=0) (nb:Nat) (t:next=.pointer (some ⟨nb,0,none⟩)) (F' G':Nat->Prop) (us:List zw) (d:Int) (m:qo w F' G' nb us d) (ab:nb≠bo):
 Calls Tryz.prog 97 #[.pointer (some ⟨bo,0,none⟩),.int .i64 c,.int .i64 i,.int .i64 weight,next,.agg #[.string s,.int .i64 r,.bool x,.slice p y u]] w λe w'=>e=.returned (.bool true)/\zE w' bo (h.okd next weight d)/\Kept (λk=>k=bo) w w':=by
 have K:Hid (qo w F Q l vs f):=M;have P:Hid (ze w bd S D):=J;have a:∀n,Kept (λ_=>False) w ((w.alloc (.cells #[.string s,.int .i64 r,.bool x,.slice p y u] 123)).drewN n):=λn=>(Kept.alloc _ _ _).trans kD iL;have b:zE (w.alloc (.cells #[.string s,.int .i64 r,.bool x,.slice p y u] 123)) bo h:=G.kept (Kept.alloc (λ_=>False) _ _) (λg=>g);have L:=b.c2;rw [O] at L;have E:=b.c10;have Y:=b.c8;have o:h.d=.pointer (some ⟨bd,0,none⟩):=H;have aa:=b.fz 2;have Z:=b.fz 8;have V:=b.fz 9;have W:=b.c9;obtain⟨ac,ad,T,m⟩:=m;have U:=(m.kept (Kept.alloc (λ_=>False) w (.cells #[.string s,.int .i64 r,.bool x,.slice p y u] 123)) nF nF).c1;have X:=m.lt;change Hid _ at G B a o b;clear M J H O;clear m;subst q R t;rw [N] at E;clear N;by_cases C:0<weight
 .have I:decide (0<weight)=true:=aG C;go_enter Tryz.func97,Tryz.ntmps97;go_wp2_with fail
  go_quiet ((first
   |(go_at_call 149;exact Calls.quiet_of_same (xX _ bo h (by exact G.kept (a _) (λg=>g)) bd o S D (by exact P.kept (a _) nF)))
   |(go_at_call 151;exact Calls.quiet_of_same (kC _ F Q l vs f (by exact K.kept (a _) nF nF) j B _ A z _))))
  go_wp2;go_ret;refine⟨rfl,?_,?_⟩
  .unfold qm.okd;rw [aB C];exact((((G.kept (a _) (λg=>g)).set 2 _ {h with is:=.pointer (some ⟨nb,0,none⟩)} rfl).set 8 (.int .i64 0) {h with is:=.pointer (some ⟨nb,0,none⟩),died:=0} rfl).set 9 (.int .i64 d) {h with is:=.pointer (some ⟨nb,0,none⟩),died:=0,told:=d} rfl)
  .exact((((a _).mono fE).trans (Kept.setCell (S:=λk=>k=bo) _ ⟨bo,2,none⟩ _ rfl) iL).trans (Kept.setCell (S:=λk=>k=bo) _ ⟨bo,8,none⟩ _ rfl) iL).trans (Kept.setCell (S:=λk=>k=bo) _ ⟨bo,9,none⟩ _ rfl) iL
 .have I:=decide_eq_false C;go_enter Tryz.func97,Tryz.ntmps97;go_wp2_with fail
  go_quiet ((first
   |(go_at_call 149;exact Calls.quiet_of_same (xX _ bo h (by exact G.kept (a _) (λg=>g)) bd o S D (by exact P.kept (a _) nF)))
   |(go_at_call 151;exact Calls.quiet_of_same (kC _ F Q l vs f (by exact K.kept (a _) nF nF) j B _ A z _))))
  go_wp2;go_ret;refine⟨rfl,?_,?_⟩
  .unfold qm.okd;rw [az (by omega)];exact(G.kept (a _) (λg=>g)).set 2 _ {h with is:=.pointer (some ⟨nb,0,none⟩)} rfl
  .exact((a _).mono fE).trans (Kept.setCell (S:=λk=>k=bo) _ ⟨bo,2,none⟩ _ rfl) iL
theorem Yb(w:World)(bo:Nat)(h:qm)(s:zE w bo h)(bd:Nat)(R:h.d=.pointer (some ⟨bd,0,none⟩))(S:Nat->Prop)(D:Dk)(K:ze w bd S D)(y:Nat)(u:h.is=.pointer (some ⟨y,0,none⟩))(F af:Nat->Prop)(vs:List zw)(o:Int)(Z:qo w F af y vs o)(E:vs.length<=4398046511104)(J:∀v∈vs,v.body.length<=1000)
 (c q weight:Int) (P:0<=weight) (O:weight<=1125899906842624) (next:Value) (a:ByteArray) (b:Int) (d:Bool) (g:Option Addr) (j l:Nat) (aa:h.shut=false) (x:q=0) (ae:c=7) (nb:Nat) (t:next=.pointer (some ⟨nb,0,none⟩)) (A:D.fuse=0) (z:¬S bo) (aj:0<=h.died/\h.died<=1152921504606846976):
 Calls Tryz.prog 97 #[.pointer (some ⟨bo,0,none⟩),.int .i64 c,.int .i64 q,.int .i64 weight,next,.agg #[.string a,.int .i64 b,.bool d,.slice g j l]] w λe w'=>e=.returned (.bool true)/\zE w' bo {h with shut:=true,mb:=next,k0:=.string a,k1:=.int .i64 b,k2:=.bool d,k3:=.slice g j l,died:=h.died+1}/\(∃S',ze w' bd S' D/\∀k,S' k->S k)/\Kept (λk=>k=bo\/S k) w w':=by
 have am:=s.lt;have ag:Hid (qo w F af y vs o):=Z;have ad:Hid (ze w bd S D):=K;have f:∀n,Kept (λ_=>False) w ((w.alloc (.cells #[.string a,.int .i64 b,.bool d,.slice g j l] 123)).drewN n):=λn=>(Kept.alloc _ _ _).trans kD iL;have m:zE (w.alloc (.cells #[.string a,.int .i64 b,.bool d,.slice g j l] 123)) bo h:=s.kept (Kept.alloc (λ_=>False) _ _) (λr=>r);have X:=m.c2;rw [u] at X;have G:=m.c10;have ao:=m.c8;have p:h.d=.pointer (some ⟨bd,0,none⟩):=R;have ap:=m.fz;have ah:w.cell? ⟨bo,3,none⟩=some h.mb:=s.at_ rfl;have ai:w.cell? ⟨bo,4,none⟩=some h.k0:=s.at_ rfl;have an:w.cell? ⟨bo,5,none⟩=some h.k1:=s.at_ rfl;have ak:w.cell? ⟨bo,6,none⟩=some h.k2:=s.at_ rfl;have al:w.cell? ⟨bo,7,none⟩=some h.k3:=s.at_ rfl;change Hid _ at s J f p;clear Z K m R u;change Hid _ at A;subst x ae t;rw [aa] at G;clear aa;go_enter Tryz.func97,Tryz.ntmps97;go_wp2_with fail
 go_quiet ((first
  |(go_at_call 149;exact Calls.quiet_of_same (xX _ bo h (by exact s.kept (f _) (λr=>r)) bd p S D (by exact ad.kept (f _) nF)))
  |(go_at_call 151;exact Calls.quiet_of_same (kC _ F af y vs o (by exact ag.kept (f _) nF nF) E J _ P O _))))
 go_wp2_with fail;have k0:Kept (λk=>k=bo) w ((w.alloc (.cells #[.string a,.int .i64 b,.bool d,.slice g j l] 123)).drewN nq):=(f nq).mono fE;have ac:=s.kept (f nq) (λr=>r);have V:=ac.set 10 (.bool true) {h with shut:=true} rfl;have k1:=k0.trans (Kept.setCell (S:=λk=>k=bo) _ ⟨bo,10,none⟩ (.bool true) rfl) iL;have U:=V.set 3 (.pointer (some ⟨nb,0,none⟩)) {h with shut:=true,mb:=.pointer (some ⟨nb,0,none⟩)} rfl;have k2:=k1.trans (Kept.setCell (S:=λk=>k=bo) _ ⟨bo,3,none⟩ (.pointer (some ⟨nb,0,none⟩)) rfl) iL;have N:=U.set 4 (.string a) {h with shut:=true,mb:=.pointer (some ⟨nb,0,none⟩),k0:=.string a} rfl;have k3:=k2.trans (Kept.setCell (S:=λk=>k=bo) _ ⟨bo,4,none⟩ (.string a) rfl) iL;have ab:=N.set 5 (.int .i64 b) {h with shut:=true,mb:=.pointer (some ⟨nb,0,none⟩),k0:=.string a,k1:=.int .i64 b} rfl;have Q:=k3.trans (Kept.setCell (S:=λk=>k=bo) _ ⟨bo,5,none⟩ (.int .i64 b) rfl) iL;have L:=ab.set 6 (.bool d) {h with shut:=true,mb:=.pointer (some ⟨nb,0,none⟩),k0:=.string a,k1:=.int .i64 b,k2:=.bool d} rfl;have M:=Q.trans (Kept.setCell (S:=λk=>k=bo) _ ⟨bo,6,none⟩ (.bool d) rfl) iL;have I:=L.set 7 (.slice g j l) {h with shut:=true,mb:=.pointer (some ⟨nb,0,none⟩),k0:=.string a,k1:=.int .i64 b,k2:=.bool d,k3:=.slice g j l} rfl;have Y:=M.trans (Kept.setCell (S:=λk=>k=bo) _ ⟨bo,7,none⟩ (.slice g j l) rfl) iL;have C:=I.set 8 (.int .i64 (h.died+1)) {h with shut:=true,mb:=.pointer (some ⟨nb,0,none⟩),k0:=.string a,k1:=.int .i64 b,k2:=.bool d,k3:=.slice g j l,died:=h.died+1} rfl;have H:=Y.trans (Kept.setCell (S:=λk=>k=bo) _ ⟨bo,8,none⟩ (.int .i64 (h.died+1)) rfl) iL;clear ac V U N ab L I k0 k1 k2 k3 Q M Y;have W:=ad.kept H (λi u e=>z (by rw [<-e];exact u));change Hid _ at C H W;refine(GH _ bo _ C bd p S D W A).mono ?_;rintro e aq ⟨rfl,T,B⟩;change Hid _ at T B;go_wp2;go_ret;exact⟨rfl,C.kept B z,T,(H.mono iL).trans (B.mono (λ_ h=>.inr h)) iL⟩
end law
namespace law
open Go.RowKit disk ref book
open keys (zh)
structure zP where
 vs:List zw
 n0:Int
def zP.add(V:zP)(key:ByteArray)(mark:Bool)(body:List UInt8):zP:=⟨V.vs++[⟨key,V.n0+1,mark,body⟩],V.n0+1⟩
def zP.sub(V:zP)(key:ByteArray)(n:Int):zP:=⟨qF V.vs key n,V.n0⟩
structure Good (V:zP):Prop where
 apart:xt V.vs
 num:∀v∈V.vs,1<=v.num/\v.num<=V.n0
 key:∀v∈V.vs,zh v.key.data.toList=true
 body:∀v∈V.vs,v.body.length<=300
 mark:∀v∈V.vs,v.mark=true->v.body=[]
 few:V.vs.length<=6000
 n0:0<=V.n0
structure za where
 Rest:List (List Value)->zP->Prop
 Holds:List (List Value)->zP->Prop
 Sto:World->Nat->Option Nat->Prop
 Fu:Int->Prop
 rest_holds:∀bs V,Rest bs V->Holds bs V
 good:∀bs V,Holds bs V->Good V
 zeros:∀n:Nat,64<=n->n<=1000->Holds (List.replicate n z9) ⟨[],0⟩
 sto_lt:∀w b q,Sto w b q->b<w.heap.size
 sto_kept:∀w w' b q (T:Nat->Prop),Sto w b q->Kept T w w'->¬T b->Sto w' b q
 fu_int:∀f,Fu f->zs f
 fu_neg:Fu (-1)
structure za.Live (M:za) (D:Dk) (V:zP):Prop where
 ps:D.ps=[]
 rest:M.Rest D.bs V
 big:64<=D.bs.length
structure za.Could (M:za) (D:Dk) (P:zP->Prop):Prop where
 few:D.ps.length<=1000
 big:64<=D.bs.length
 all:∀ks,∃V,P V/\M.Holds (zk D.bs (sel D.ps ks)) V
theorem za.Live.could{M:za}{D:Dk}{V:zP}(h:M.Live D V):M.Could D (λa=>a=V):=
 ⟨by rw [h.ps];simp,h.big,λks=>⟨V,rfl,by rw [h.ps];exact M.rest_holds _ _ h.rest⟩⟩
theorem za.Live.good{M:za}{D:Dk}{V:zP}(h:M.Live D V):Good V:=M.good _ _ (M.rest_holds _ _ h.rest)
structure xm (M:za) (w w':World) (bd bs:Nat) (S S':Nat->Prop) (D D':Dk) (most:Int) (q:Option Nat):Prop where
 disk:ze w' bd S' D'
 foot:∀k,S' k->S k\/w.heap.size<=k
 sto:M.Sto w' bs q
 kept:Kept (λk=>S k\/k=bs) w w'
 reads0:D.reads<=D'.reads
 reads1:D'.reads<=D.reads+most
 size:D'.bs.length=D.bs.length
 fuse:M.Fu D'.fuse
structure zD (M:za) (w:World) (bd bs:Nat) (S:Nat->Prop) (D:Dk) (V:zP):Prop where
 disk:ze w bd S D
 apart:¬S bs
 sto:M.Sto w bs (some bd)
 live:M.Live D V
 fuse:M.Fu D.fuse
 reads0:0<=D.reads
 reads1:D.reads<=2305843009213693952
 few:V.n0<=2305843009213693952
structure Chg (M:za) (D D':Dk) (V V':zP) (bd:Nat) (want c:Int) (weight:Nat) (q:Option Nat):Prop where
 is:(want≠0/\c=want/\q=some bd/\M.Live D' V)\/(want=0/\c=0/\q=some bd/\M.Live D' V')\/(want=0/\c=6/\q=some bd/\M.Live D' V/\xP V.vs weight D.bs.length=false)\/
  (want=0/\c=7/\q=none/\D'.fuse=0/\M.Could D' (λU=>U=V\/U=V'))
structure qx (M:za):Prop where
 live:∀(w:World) (bd bs:Nat) (S P:Nat->Prop) (D:Dk) (V:zP) (key:ByteArray) (a:Option Addr) (cap:Nat) (l:List UInt8),zD M w bd bs S D V->key.size<=maxLen->zu w P a l->(∀k,P k->¬S k/\k≠bs)->l.length<=140737488355328->l.length<=cap->cap<=9223372036854775807->
  Calls Tryz.prog 27 #[.pointer (some ⟨bs,0,none⟩),.string key,.slice a l.length cap] w λe w'=>∃D' S' c n q,e=.returned (.tuple #[.int .i64 n,.int .i64 c])/\xm M w w' bd bs S S' D D' 40 q/\
   Chg M D D' V (V.add key false l) bd (ue (zh key.data.toList) l.length) c (qd l.length) q/\n=if c=0 then V.n0+1 else 0
 shut:∀(w:World) (bs:Nat) (key:ByteArray) (a:Option Addr) (n cap:Nat),M.Sto w bs none->key.size<=maxLen->n<=140737488355328->
  Calls Tryz.prog 27 #[.pointer (some ⟨bs,0,none⟩),.string key,.slice a n cap] w λe w'=>e=.returned (.tuple #[.int .i64 0,.int .i64 (yH true (ue (zh key.data.toList) n))])/\M.Sto w' bs none/\Kept (λk=>k=bs) w w'
structure Uc (w w':World) (x:Value) (l:List UInt8):Prop where
 at_:∃a cap,x=.slice a l.length cap/\w'.ownsRow 0 5 1 (.slice a l.length cap) l.length (l.map qk)/\∀k,(Value.slice a l.length cap).ownBlock=some k->w.heap.size<=k
def OutIs(w w':World)(o:Option zw)(x:Value)(c:Int):Prop:=(c=0->∃u,o=some u/\Uc w w' x u.body)/\(c≠0->∃a cap,x=.slice a 0 cap)
structure jp (M:za):Prop where
 live:∀(w:World) (bd bs:Nat) (S:Nat->Prop) (D:Dk) (V:zP) (key:ByteArray),zD M w bd bs S D V->key.size<=maxLen->
  Calls Tryz.prog 26 #[.pointer (some ⟨bs,0,none⟩),.string key] w λe w'=>∃D' x n S',e=.returned (.tuple #[x,.int .i64 n,.int .i64 (yF (zh key.data.toList) (zO V.vs key))])/\xm M w w' bd bs S S' D D' 40 (some bd)/\M.Live D' V/\
   OutIs w w' (zO V.vs key) x (yF (zh key.data.toList) (zO V.vs key))/\(∀k,x.ownBlock=some k->¬S' k)/\(yF (zh key.data.toList) (zO V.vs key)≠0->n=0)/\∀u,yF (zh key.data.toList) (zO V.vs key)=0->zO V.vs key=some u->n=u.num
 shut:∀(w:World) (bs:Nat) (key:ByteArray),M.Sto w bs none->key.size<=maxLen->
  Calls Tryz.prog 26 #[.pointer (some ⟨bs,0,none⟩),.string key] w λe w'=>∃a cap,e=.returned (.tuple #[.slice a 0 cap,.int .i64 0,.int .i64 (if zh key.data.toList=true then 8 else 2)])/\M.Sto w' bs none/\Kept (λk=>k=bs) w w'
structure yU (M:za):Prop where
 live:∀(w:World) (bd bs:Nat) (S:Nat->Prop) (D:Dk) (V:zP) (key:ByteArray) (num:Int),zD M w bd bs S D V->key.size<=maxLen->zs num->
  Calls Tryz.prog 42 #[.pointer (some ⟨bs,0,none⟩),.string key,.int .i64 num] w λe w'=>∃D' x S',e=.returned (.tuple #[x,.int .i64 (yF (zh key.data.toList) (qK V.vs key num))])/\xm M w w' bd bs S S' D D' 40 (some bd)/\M.Live D' V/\
   OutIs w w' (qK V.vs key num) x (yF (zh key.data.toList) (qK V.vs key num))/\∀k,x.ownBlock=some k->¬S' k
 shut:∀(w:World) (bs:Nat) (key:ByteArray) (num:Int),M.Sto w bs none->key.size<=maxLen->
  Calls Tryz.prog 42 #[.pointer (some ⟨bs,0,none⟩),.string key,.int .i64 num] w λe w'=>∃a cap,e=.returned (.tuple #[.slice a 0 cap,.int .i64 (if zh key.data.toList=true then 8 else 2)])/\M.Sto w' bs none/\Kept (λk=>k=bs) w w'
structure J6 (M:za) (w w':World) (bd:Nat) (S S':Nat->Prop) (D D':Dk):Prop where
 disk:ze w' bd S' D'
 foot:∀k,S' k->S k\/w.heap.size<=k
 kept:Kept S w w'
 reads0:D.reads<=D'.reads
 reads1:D'.reads<=D.reads+2*D.bs.length
 size:D'.bs.length=D.bs.length
 fuse:M.Fu D'.fuse
structure zL (M:za):Prop where
 small:∀(w:World) (bd:Nat) (S:Nat->Prop) (D:Dk),ze w bd S D->D.bs.length<64->
  Calls Tryz.prog 35 #[.pointer (some ⟨bd,0,none⟩)] w λe w'=>e=.returned (.tuple #[.pointer none,.int .i64 1])/\ze w' bd S D/\Kept (λ_=>False) w w'
 big:∀(w:World) (bd:Nat) (S:Nat->Prop) (D:Dk) (P:zP->Prop),ze w bd S D->M.Could D P->M.Fu D.fuse->0<=D.reads->D.reads<=2305843009213693952->
  Calls Tryz.prog 35 #[.pointer (some ⟨bd,0,none⟩)] w λe w'=>∃D' S',J6 M w w' bd S S' D D'/\
   ((∃bs V,e=.returned (.tuple #[.pointer (some ⟨bs,0,none⟩),.int .i64 0])/\w.heap.size<=bs/\¬S' bs/\M.Sto w' bs (some bd)/\P V/\M.Live D' V)\/
     (e=.returned (.tuple #[.pointer none,.int .i64 7])/\D'.fuse=0/\M.Could D' P))
end law
namespace prog
open Go.RowKit disk ref
open law (zP)
open keys (zh)
variable {rd:Nat->List Value}{es:List En}{bo:Pl->List zv}{j:Nat}
def Yc(bs:List (List Value))(j:Nat):List Value:=Dk.look ⟨bs,[], -1,0⟩ (j:Nat)
theorem yl{D:Dk}(a:D.ps=[])(j:Nat):D.look (j:Nat)=Yc D.bs j:=by unfold Yc Dk.look;rw [a]
def yB(es:List En)(bo:Pl->List zv):List Nat:=(es.map λx=>(bo x.pl).map zv.at_).flatten
def xF(bo:Pl->List zv)(x:En):zw:=⟨x.pl.key,x.pl.num,x.mark,((bo x.pl).map zv.l).flatten⟩
structure GI (rd:Nat->List Value) (bo:Pl->List zv) (x:En):Prop where
 chain:xE rd (bo x.pl)
 head:jf (bo x.pl)=x.at_
 size:((bo x.pl).map zv.l).flatten.length=x.size
 few:(bo x.pl).length<=(x.size+99)/100
structure gA (bs:List (List Value)) (V:zP) (tree n:Nat) (m:List UInt8) (es:List En) (bl:List Nat) (bo:Pl->List zv):Prop where
 few:bs.length<=1000
 root:yi (Yc bs 1) tree n
 n0:V.n0=n
 map:qP (Yc bs 2) m
 forest:yo (Yc bs) tree es bl
 body:∀x∈es,GI (Yc bs) bo x
 nodup:(bl++yB es bo).Nodup
 range:∀j∈bl++yB es bo,21<=j/\j<bs.length
 taken:∀i,i+21<bs.length->(zX m i=true↔i+21∈bl++yB es bo)
 vers:V.vs.Perm (es.map (xF bo))
 head:∃p:Pg,p.Ok/\Yc bs 0=zo p/\p.items.length=0
 good:law.Good V
theorem vz:∀(l r:List Nat),l.Nodup->(∀d∈l,d∈r)->l.length<=r.length
 |[],_,_,_=>by simp
 |a::l,r,hn,hs=>by rw [iW] at hn;have f:=vz l (r.erase a) hn.2 (λd c=>(List.mem_erase_of_ne (show d≠a from λe=>hn.1 (e▸c))).2 (hs d (al _ c)));have b:=hs a (am ..);have g:=mx b;rw [List.length_erase_of_mem b] at f;rw [ae];omega
theorem du{l:List Nat}{N:Nat}(a:l.Nodup)(c:∀j∈l,21<=j/\j<N):l.length<=N-21:=by
 have:=vz l (List.range' 21 (N-21)) a (λd b=>by rw [List.mem_range'_1];have:=c d b;omega);simpa using this
theorem XA{h:Nat}:∀(a:List (Pl×Tr h)),(∀c∈a,c.2.ents.length<=6*c.2.blocks.length)->(zM a).length<=6*(zF a).length
 |[],_=>by simp [zF,zM]
 |c::a,hc=>by have d:=hc c (am ..);have f:=XA a (λe b=>hc e (al _ b));rw [qM,zp,ah,ah];omega
theorem Tr.Good.six:∀{h:Nat} {t:Tr h},t.Good->t.items.length<=6->t.ents.length<=6*t.blocks.length
 |0,t,_,hl=>by show t.2.length<=6*1;have b:t.2.length=t.items.length:=rfl;omega
 |h+1,t,g,hl=>by have:=XA t.2 (λc a=>(g.kids.good c a).1.six (g.kids.good c a).2.1);rw [Tr.blocks_succ,Tr.ents_succ,ae];omega
theorem yo.six{b:Nat}{bs:List Nat}(h:yo rd b es bs):es.length<=6*bs.length/\2*bs.length<=es.length+1/\xi es:=by
 rcases h with⟨rfl,rfl,rfl⟩|⟨h,t,a,c,rfl,rfl,rfl⟩;.exact⟨by simp,by simp,List.Pairwise.nil⟩
 .exact⟨a.good.six a.hi,a.few,a.srt⟩
theorem yo.congr{b:Nat->List Value}{a:Nat}{bs:List Nat}(h:yo rd a es bs)(e:∀j∈bs,b j=rd j):yo b a es bs:=by
 rcases h with h|⟨h,t,d,c,rfl,rfl,rfl⟩;.exact .inl h
 .exact .inr ⟨h,t,d,c.congr e,rfl,rfl,rfl⟩
theorem XB:∀(es:List En),(∀x∈es,GI rd bo x)->es.length+(yB es bo).length<=weight (es.map (xF bo))
 |[],_=>by simp [yB]
 |x::es,h=>by
  have a:=h x (am ..);have f:=XB es (λe c=>h e (al _ c));have g:=a.few
  have b:weight ((x::es).map (xF bo))=qd x.size+weight (es.map (xF bo)):=by unfold weight;rw [aT,aT,mz];show qd ((bo x.pl).map zv.l).flatten.length+_=_;rw [a.size]
  have d:(yB (x::es) bo).length=(bo x.pl).length+(yB es bo).length:=by simp [yB]
  rw [b,d,ae];unfold qd;omega
theorem gA.len{bs:List (List Value)}{V:zP}{tree n:Nat}{m:List UInt8}{bl:List Nat}(h:gA bs V tree n m es bl bo):bl.length<=979:=by
 have a:=du h.nodup h.range;have:=h.few;rw [ah] at a;omega
theorem fA:j∈yB es bo↔∃c∈es,j∈(bo c.pl).map zv.at_:=by
 unfold yB;rw [ii];constructor
 .rintro⟨l,d,a⟩;obtain⟨c,b,rfl⟩:=av.1 d;exact⟨c,b,a⟩
 .rintro⟨c,b,a⟩;exact⟨_,av.2 ⟨c,b,rfl⟩,a⟩
theorem gA.low{bs:List (List Value)}{V:zP}{tree n:Nat}{m:List UInt8}{bl:List Nat}(h:gA bs V tree n m es bl bo):∀b∈es,(¬b.pl.lt yz=true)/\1<=b.pl.num/\b.pl.num<=n/\zh b.pl.key.data.toList=true:=λb j=>by
 have f:xF bo b∈V.vs:=h.vers.mem_iff.2 (av.2 ⟨b,j,rfl⟩);have e:=h.good.key _ f;have d:=h.good.num _ f;rw [h.n0] at d;refine⟨λa=>?_,d.1,d.2,e⟩;rw [Pl.lt_iff] at a;have g:zh (yz.key).data.toList=false:=by decide
 rcases a with a|⟨a,_⟩
 .have i:∀k:ByteArray,qD k yz.key=false:=by
   intro k;show qN k.data.toList []=false;cases k.data.toList<;>rfl
  rw [i] at a;cases a
 .have c:zh b.pl.key.data.toList=true:=e;rw [a,g] at c;cases c
structure uh (D:Dk) (V:zP) (tree n:Nat) (m:List UInt8) (es:List En) (bl:List Nat) (bo:Pl->List zv) (key:ByteArray) (mark:Bool) (l:List UInt8) (f:Nat) (C1:Ck) (m1:List UInt8) (nb1:List Nat) (root':Nat) (C2:Ck) (m2:List UInt8) (pb nb:List Nat):Prop where
 rep:gA D.bs V tree n m es bl bo
 ps:D.ps=[]
 big:64<=D.bs.length
 body:K6 D bA C1 m m1 f (zZ l) nb1
 ins:bT D C1 C2 m1 m2 root' ⟨⟨key,(n:Int)+1⟩,mark,l.length,f⟩ es bl pb nb
 key:zh key.data.toList=true
 len:l.length<=300
 bare:mark=true->l=[]
 num:n<4611686018427387904
section
variable {D:Dk} {V:zP} {tree n:Nat} {m:List UInt8} {es:List En} {bl:List Nat} {bo:Pl->List zv} {key:ByteArray} {mark:Bool} {l:List UInt8} {f:Nat} {C1:Ck} {m1:List UInt8} {nb1:List Nat} {root':Nat} {C2:Ck} {m2:List UInt8} {pb nb:List Nat}
theorem uh.old(h:uh D V tree n m es bl bo key mark l f C1 m1 nb1 root' C2 m2 pb nb)(b:j∈bl++yB es bo):zX m (j-21)=true/\zX m1 (j-21)=true/\j∉nb1/\j∉nb:=by
 have d:=h.rep.range j b;have a:=(h.rep.taken (j-21) (by omega)).2 (by rw [show j-21+21=j from by omega];exact b);have c:=h.body.stp.grew.keeps a;exact⟨a,c,h.body.stp.grew.apart a,h.ins.stp.grew.apart c⟩
theorem uh.mid(h:uh D V tree n m es bl bo key mark l f C1 m1 nb1 root' C2 m2 pb nb)(a:j∈nb1):21<=j/\j<D.bs.length/\j∉bl++yB es bo/\j∉nb:=by
 have b:=h.body.stp.grew.fresh j a;refine⟨b.1,b.2.1,λc=>(h.old c).2.2.1 a,?_⟩;refine h.ins.stp.grew.apart ?_;rw [h.body.stp.grew.taken,show j-21+21=j from by omega];simp [a]
theorem uh.new(h:uh D V tree n m es bl bo key mark l f C1 m1 nb1 root' C2 m2 pb nb)(b:j∈nb):21<=j/\j<D.bs.length:=by
 have a:=h.ins.stp.grew.fresh j b;exact⟨a.1,a.2.1⟩
theorem uh.keys(h:uh D V tree n m es bl bo key mark l f C1 m1 nb1 root' C2 m2 pb nb)(b:C2.full=false):∀k∈(C2.put 1 (zo (zx root' (n+1)))).keys,k∈[1,2]++(nb1++(pb++nb)):=λk d=>by
 have c:C1.full=false:=by
  cases a:C1.full with
  |false=>rfl
  |true=>rw [h.ins.stp.full a] at b;cases b
 rcases (xO C2 1 _ k).1 d with a|a
 .rcases h.ins.stp.keys k a with a|a|a|a|a
  .rcases h.body.stp.keys k a with a|a|a|a|a;.exact(by cases a)
   .exact(by cases a)
   .simp [a]
   .simp [a]
   .rw [c] at a;exact(by cases a.2)
  .simp [a]
  .simp [a]
  .simp [a]
  .rw [b] at a;exact(by cases a.2)
 .simp [a]
theorem uh.klt(h:uh D V tree n m es bl bo key mark l f C1 m1 nb1 root' C2 m2 pb nb)(c:C2.full=false):∀k∈(C2.put 1 (zo (zx root' (n+1)))).keys,k<D.bs.length:=λk b=>by
 have:=h.keys c k b;have d:=h.big;rcases aj.1 this with a|a;.simp at a;omega
 .rcases aj.1 a with a|a;.exact(h.mid a).2.1
  .rcases aj.1 a with a|a;.exact(h.rep.range k (ac _ (h.ins.sub k a))).2
   .exact(h.new a).2
theorem D0{h:Nat}(b:3^h<=979):h<=6:=by
 rcases iZ 6 h with a|a
 .have:3^7<=3^h:=lr (by omega) a;omega
 .exact a
theorem uh.fits(h:uh D V tree n m es bl bo key mark l f C1 m1 nb1 root' C2 m2 pb nb)(d:xP V.vs (qd l.length) D.bs.length=true):((C2.put 1 (zo (zx root' (n+1)))).full||decide (18<(C2.put 1 (zo (zx root' (n+1)))).ws.length))=false:=by
 have t:=h.body.nl;rw [xu] at t;have z:=h.len
 cases i:C2.full with
 |true=>
  exfalso;have p:=h.ins.chn.full i
  have k:=vz (List.range' 21 (D.bs.length-21)) ((bl++yB es bo)++(nb1++nb)) List.nodup_range' (λq w=>by
   rw [List.mem_range'_1] at w;have c:=p (q-21) (by omega);rw [h.ins.stp.grew.taken,h.body.stp.grew.taken,show q-21+21=q from by omega] at c;simp only [lj,aO] at c;rcases c with(c|c)|c
   .have:=(h.rep.taken (q-21) (by omega)).1 c;rw [show q-21+21=q from by omega] at this;exact ac _ this
   .exact af _ (ac _ c)
   .exact af _ (af _ c))
  rw [List.length_range',ah,ah,ah] at k;have B:=h.rep.forest.six.2.1;have E:=h.ins.nl;have y:=XB es h.rep.body;rw [<-YO h.rep.vers] at y;unfold xP qd at d;simp only [aO] at d;omega
 |false=>
  rw [qV,i,Bool.false_or,decide_eq_false_iff_not];obtain⟨o,hF,r,C,A,u⟩:=h.ins.tree i;have k:=vz _ _ (xg h.ins.chn.nodup 1 (zo (zx root' (n+1)))) (h.keys i);rw [Ck.keys_len] at k;simp only [ah,ae,ix] at k
  have s:o.length<=979:=by
   have:=du (l:=o) (N:=D.bs.length) (r.nodup_iff.2 (aX.2 ⟨(aX.1 h.rep.nodup).1,h.ins.stp.grew.nodup,λa x b v e=>(h.old (ac _ x)).2.2.2 (e▸v)⟩)) (λj g=>by
    rcases aj.1 (r.mem_iff.1 g) with g|g;.exact h.rep.range j (ac _ g)
    .exact h.new g)
   have:=h.rep.few;omega
  have:=D0 (aF u s);omega
theorem Yd(a:D.ps=[]){ws:List (Nat×List Value)}:Yc (gX D.bs ws) j=Dk.look {D with bs:=gX D.bs ws} (j:Nat):=by
 unfold Yc Dk.look;rw [a]
theorem uh.rest(h:uh D V tree n m es bl bo key mark l f C1 m1 nb1 root' C2 m2 pb nb)(W:((C2.put 1 (zo (zx root' (n+1)))).full||decide (18<(C2.put 1 (zo (zx root' (n+1)))).ws.length))=false):∃u c,gA (gX D.bs (C2.put 1 (zo (zx root' (n+1)))).ws) (V.add key mark l) root' (n+1) m2 (yP ⟨⟨key,(n:Int)+1⟩,mark,l.length,f⟩ es) u c:=by
 simp only [lw,decide_eq_false_iff_not,qV] at W;obtain⟨T,ay⟩:=W
 have ag:C1.full=false:=by
  cases w:C1.full with
  |false=>rfl
  |true=>rw [h.ins.stp.full w] at T;cases T
 obtain⟨u,hF,S,_⟩:=h.ins.tree T;obtain⟨ps,am,ao,ab,ai⟩:=h.body.chain ag;have aq:=h.big;have Y:=xg h.ins.chn.nodup 1 (zo (zx root' (n+1)))
 have J:∀j:Nat,j≠0->(j<3\/21<=j)->Yc (gX D.bs (C2.put 1 (zo (zx root' (n+1)))).ws) j=(C2.put 1 (zo (zx root' (n+1)))).look D (j:Nat):=λj X d=>by rw [Yd h.ps];exact Xp h.ps Y (by omega) (h.klt T) X d
 have r:∀j:Nat,j≠0->j≠1->(j<3\/21<=j)->Yc (gX D.bs (C2.put 1 (zo (zx root' (n+1)))).ws) j=C2.look D (j:Nat):=λj X w d=>by rw [J j X d,qe _ _ _ _ _ (by omega)]
 have Z:∀t∈es,t.pl≠⟨key,(n:Int)+1⟩:=λt o e=>by have:=(h.rep.low t o).2.2.1;rw [e] at this;simp only at this;omega
 haveI:=Pl.dec;refine⟨u,λp=>if p=⟨key,(n:Int)+1⟩ then ps else bo p,?_⟩;have K:∀t∈es,(λp=>if p=(⟨key,(n:Int)+1⟩:Pl) then ps else bo p) t.pl=bo t.pl:=λt o=>az (Z t o);have q:(λp=>if p=(⟨key,(n:Int)+1⟩:Pl) then ps else bo p) ⟨key,(n:Int)+1⟩=ps:=aB rfl;generalize (λp=>if p=(⟨key,(n:Int)+1⟩:Pl) then ps else bo p)=c at*
 have I:yB es c=yB es bo:=by unfold yB;congr 1;exact mG (λt o=>by rw [K t o])
 have U:(yB (yP ⟨⟨key,(n:Int)+1⟩,mark,l.length,f⟩ es) c).Perm (nb1++yB es bo):=by
  have w:(yB (yP ⟨⟨key,(n:Int)+1⟩,mark,l.length,f⟩ es) c).Perm (yB (⟨⟨key,(n:Int)+1⟩,mark,l.length,f⟩::es) c):=((vr _ es).map _).flatten
  have y:yB (⟨⟨key,(n:Int)+1⟩,mark,l.length,f⟩::es) c=ps.map zv.at_++yB es bo:=by rw [<-I];unfold yB;rw [aT,eo,q]
  rw [y] at w;exact w.trans (ai.append_right _)
 have O:(u++yB (yP ⟨⟨key,(n:Int)+1⟩,mark,l.length,f⟩ es) c).Perm ((bl++yB es bo)++(nb1++nb)):=by refine(S.append U).trans ?_;rw [an,an];refine ln bl ?_;have ar:(nb++(nb1++yB es bo)).Perm ((nb1++yB es bo)++nb):=eZ;refine ar.trans ?_;rw [<-an];exact List.Perm.append_right nb eZ
 have P:∀j,j∈u++yB (yP ⟨⟨key,(n:Int)+1⟩,mark,l.length,f⟩ es) c↔(j∈bl++yB es bo\/j∈nb1\/j∈nb):=λj=>by rw [O.mem_iff,aj (s:=bl++yB es bo),aj (s:=nb1)]
 have E:∀t:Nat,21<=t->t≠0/\t≠1/\(t<3\/21<=t):=λt o=>⟨by omega,by omega,.inr o⟩;have H:(ps.map zv.l).flatten=l:=by rw [ab,Xv]
 have R:ps.length=(l.length+123)/124:=by have:=et List.length ab;rw [eF,xu] at this;exact this
 have aw:=h.len;refine⟨by rw [jV];exact h.rep.few,?_,?_,?_,?_,?_,?_,?_,?_,?_,?_,?_⟩
 .have:=J 1 (by omega) (by omega);rw [this];have y:(C2.put 1 (zo (zx root' (n+1)))).look D ((1:Nat):Int)=zo (zx root' (n+1)):=qw _ _ _ _;rw [y];exact⟨.inl rfl,h.ins.lt,by have:=h.num;omega⟩
 .show V.n0+1=_;rw [h.rep.n0];omega
 .rw [r 2 (by omega) (by omega) (by omega)];exact h.ins.chn.map
 .refine hF.congr (λj d=>?_)
  have ak:21<=j:=by
   rcases aj.1 (S.mem_iff.1 d) with d|d;.exact(h.rep.range j (ac _ d)).1
   .exact(h.new d).1
  obtain⟨B,Q,M⟩:=E j ak;exact r j B Q M
 .intro t o;rcases vp.1 o with rfl|o
  .refine⟨?_,?_,?_,?_⟩
   .show xE _ (c ⟨key,(n:Int)+1⟩);rw [q];refine am.congr (λp L=>?_);have A:p.at_∈nb1:=ai.mem_iff.1 (av.2 ⟨p,L,rfl⟩);have x:=h.mid A;obtain⟨B,Q,M⟩:=E p.at_ x.1;rw [r _ B Q M];exact h.ins.stp.look _ (λz=>x.2.2.1 (ac _ (h.ins.sub _ z))) x.2.2.2 (by omega) B
   .show jf (c ⟨key,(n:Int)+1⟩)=f;rw [q];exact ao
   .show ((c ⟨key,(n:Int)+1⟩).map zv.l).flatten.length=l.length;rw [q,H]
   .show (c ⟨key,(n:Int)+1⟩).length<=(l.length+99)/100;rw [q,R];omega
  .have k:=h.rep.body t o;have G:=K t o;refine⟨?_,by rw [G];exact k.head,by rw [G];exact k.size,by rw [G];exact k.few⟩;rw [G];refine k.chain.congr (λp L=>?_);have A:p.at_∈yB es bo:=fA.2 ⟨t,o,av.2 ⟨p,L,rfl⟩⟩;have x:=h.old (af bl A);have aa:=h.rep.range p.at_ (af _ A);obtain⟨B,Q,M⟩:=E p.at_ aa.1;have al:p.at_∉pb:=λz=>(aX.1 h.rep.nodup).2.2 _ (h.ins.sub _ z) _ A rfl;rw [r _ B Q M,h.ins.stp.look _ al x.2.2.2 (by omega) B,h.body.stp.look _ (λz=>(by cases z)) x.2.2.1 (by omega) B,y7,yl h.ps]
 .refine O.nodup_iff.2 (aX.2 ⟨h.rep.nodup,aX.2 ⟨h.body.stp.grew.nodup,h.ins.stp.grew.nodup,λa C b k e=>(h.mid C).2.2.2 (e▸k)⟩,λa C b k e=>?_⟩);rcases aj.1 k with k|k;.exact(h.old C).2.2.1 (e▸k)
  .exact(h.old C).2.2.2 (e▸k)
 .intro j d;rw [jV];rcases (P j).1 d with d|d|d;.exact h.rep.range j d
  .exact⟨(h.mid d).1,(h.mid d).2.1⟩
  .exact h.new d
 .intro i ad;rw [jV] at ad;rw [P,h.ins.stp.grew.taken,h.body.stp.grew.taken];simp only [lj,aO];rw [h.rep.taken i ad,or_assoc]
 .show (V.vs++[(⟨key,V.n0+1,mark,l⟩:zw)]).Perm _;have w:((yP ⟨⟨key,(n:Int)+1⟩,mark,l.length,f⟩ es).map (xF c)).Perm ((⟨⟨key,(n:Int)+1⟩,mark,l.length,f⟩::es).map (xF c)):=(vr _ es).map _
  have y:(⟨⟨key,(n:Int)+1⟩,mark,l.length,f⟩::es).map (xF c)=⟨key,V.n0+1,mark,l⟩::es.map (xF bo):=by
   rw [aT];congr 1
   .show (⟨key,(n:Int)+1,mark,((c ⟨key,(n:Int)+1⟩).map zv.l).flatten⟩:zw)=_;rw [q,H,h.rep.n0]
   .refine mG (λt o=>?_);unfold xF;rw [K t o]
  rw [y] at w;refine List.Perm.trans ?_ w.symm;refine eZ.trans ?_;show ((⟨key,V.n0+1,mark,l⟩:zw)::V.vs).Perm _;exact h.rep.vers.cons _
 .refine⟨Pg.new 1,Pg.new_ok 1 (by omega),?_,rfl⟩;rw [Yd h.ps];exact Xq h.ps (by omega) _
 .have F:=h.rep.good;have ax:=h.rep.n0;refine⟨?_,?_,?_,?_,?_,?_,?_⟩
  .show (V.vs++[(⟨key,V.n0+1,mark,l⟩:zw)]).Pairwise _;refine ep.2 ⟨F.apart,ml _ _,λa C b k z=>?_⟩;rw [aD.1 k] at z;have:=(F.num a C).2;have y:a.num=V.n0+1:=z.2;omega
  .intro v g;show 1<=v.num/\v.num<=V.n0+1;rcases aj.1 g with g|g;.have:=F.num v g;omega
   .rw [aD.1 g];show 1<=V.n0+1/\V.n0+1<=V.n0+1;omega
  .intro v g;rcases aj.1 g with g|g;.exact F.key v g
   .rw [aD.1 g];exact h.key
  .intro v g;rcases aj.1 g with g|g;.exact F.body v g
   .rw [aD.1 g];exact h.len
  .intro v g;rcases aj.1 g with g|g;.exact F.mark v g
   .rw [aD.1 g];exact h.bare
  .have w:(V.vs++[(⟨key,V.n0+1,mark,l⟩:zw)]).length<=6000:=by
    have y:=hF.six.1;rw [(vr _ es).length_eq,ae] at y;have ap:=h.rep.vers.length_eq;rw [eF] at ap
    have au:u.length<=979:=by
     have:=du (l:=u) (N:=D.bs.length) (S.nodup_iff.2 (aX.2 ⟨(aX.1 h.rep.nodup).1,h.ins.stp.grew.nodup,λa C b k e=>(h.old (ac _ C)).2.2.2 (e▸k)⟩)) (λj d=>by
      rcases aj.1 (S.mem_iff.1 d) with d|d;.exact h.rep.range j (ac _ d)
      .exact h.new d)
     have:=h.rep.few;omega
    rw [ah,iG];omega
   exact w
  .show 0<=V.n0+1;have:=F.n0;omega
end
end prog
namespace prog
open ref
variable {l:List En}
def xn(p:Pl)(l:List En):List En:=l.filter λx=> !x.pl.lt p
theorem vL(p:Pl)(A B:List En):xn p (A++B)=xn p A++xn p B:=by simp [xn]
theorem GJ{p:Pl}(h:∀a∈l,a.pl.lt p=true):xn p l=[]:=iO.2 (λa b=>by rw [h a b];simp)
theorem Ye{p:Pl}(h:∀a∈l,a.pl.lt p=false):xn p l=l:=eT.2 (λa b=>by rw [h a b];rfl)
theorem GK(h:xi l)(p:Pl):l.drop (zr l p)=xn p l:=(h.cut p).2
theorem Kids.walk{h:Nat}{a:List (Pl×Tr h)}(k:Kids a)(r:a≠[])(p:Pl)(c:Nat)(v:c=zK (a.map λc=>(⟨c.1,false,0,c.2.blk⟩:En)) p):
 xn p (zM a)=xn p (zM (a.drop c))/\∃q t B,a.drop c=(q,t)::B/\(q,t)∈a/\∀b∈B,b∈a/\∀g∈b.2.ents,g.pl.lt p=false:=by
 obtain⟨A,q,t,B,rfl,l,s,u⟩:=k.child r p;obtain⟨m1,m2,o,y,x,w,m⟩:=k.mid;rw [<-v] at l;have i:(A++(q,t)::B).drop c=(q,t)::B:=by rw [<-l];exact i8
 refine⟨?_,q,t,B,i,by simp,λb f=>⟨by simp [f],λg d=>?_⟩⟩
 .rw [i,zC,vL]
  have:xn p (zM A)=[]:=GJ (λg d=>by
   have j:A≠[]:=λe=>by rw [e] at d;simp [zM] at d
   exact Pl.lt_of_lt_not (o g d) (s j))
  rw [this,aH]
 .cases n:g.pl.lt p with
  |false=>rfl
  |true=>exact absurd (Pl.trans n (u b f)) (m b f g d)
def Ud:List (Nat×Bool)->Nat
 |[]=>0
 |x::l=>x.1+if x.2 then Ud l else 0
def Tr.fy(p:Pl):{h:Nat}->Tr h->Nat
 |0,_=>1
 |h+1,t=>1+Ud ((t.2.drop (zK (Tr.items (h:=h+1) t) p)).map λc=>(Tr.fy p (h:=h) c.2,(xn p c.2.ents).isEmpty))
theorem fB(n:Nat)(b:Bool)(l:List (Nat×Bool)):Ud ((n,b)::l)=n+if b then Ud l else 0:=rfl
theorem Tr.fy_succ{h:Nat}(p:Pl)(t:Tr (h+1)):t.fy p=1+Ud ((t.2.drop (zK t.items p)).map λc=>(c.2.fy p,(xn p c.2.ents).isEmpty)):=rfl
theorem cW{b:En}(h:b∈l):l.isEmpty=false:=by cases l with
 |nil=>cases h
 |cons a l=>rfl
theorem Tr.Good.fy_all:∀{h:Nat} {t:Tr h} (p:Pl),t.Good->1<=t.items.length->(∀f∈t.ents,f.pl.lt p=false)->t.fy p<=h+1
 |0,t,p,_,_,_=>aC 1
 |h+1,t,p,g,hl,ha=>by rw [xf] at hl;obtain⟨_,q,u,B,j,b,k⟩:=g.kids.walk (λe=>by rw [e] at hl;simp at hl) p _ rfl;have i:u.Good:=(g.kids.good _ b).1;have l:3<=u.items.length:=g.full _ b;have a:∀f∈u.ents,f.pl.lt p=false:=λf d=>ha f (uK b d);obtain⟨f,d⟩:=i.some_ent (by omega);have:=i.fy_all p (by omega) a;rw [Tr.fy_succ];show 1+Ud (((t.2.drop (zK (t.2.map λc=>(⟨c.1,false,0,c.2.blk⟩:En)) p))).map _)<=_;rw [j,aT,fB,az (by rw [Ye a,cW d];simp)];show 1+(u.fy p+0)<=_;omega
theorem Tr.Good.fy_none:∀{h:Nat} {t:Tr h} (p:Pl),t.Good->1<=t.items.length->xn p t.ents=[]->t.fy p<=h+1
 |0,t,p,_,_,_=>aC 1
 |h+1,t,p,g,hl,ha=>by
  rw [xf] at hl;obtain⟨m,q,u,B,d,k,o⟩:=g.kids.walk (λe=>by rw [e] at hl;simp at hl) p _ rfl;rw [Tr.ents_succ,m,d,zp,vL,lg] at ha;have n:u.Good:=(g.kids.good _ k).1;have r:3<=u.items.length:=g.full _ k;have:=n.fy_none p (by omega) ha.1
  have f:B=[]:=by
   cases B with
   |nil=>rfl
   |cons b B=>
    obtain⟨a,i⟩:=o b (am ..);have s:=g.full _ a;obtain⟨v,j⟩:=(g.kids.good _ a).1.some_ent (by omega);have l:xn p (zM (b::B))=[]:=ha.2;rw [zp,vL,lg,Ye i] at l;rw [l.1] at j;cases j
  rw [Tr.fy_succ];show 1+Ud (((t.2.drop (zK (t.2.map λc=>(⟨c.1,false,0,c.2.blk⟩:En)) p))).map _)<=_;rw [d,f,aT,fB,im];simp only [Ud];split<;>omega
theorem Tr.Good.fy_le:∀{h:Nat} {t:Tr h} (p:Pl),t.Good->1<=t.items.length->t.fy p<=2*h+1
 |0,t,p,_,_=>aC 1
 |h+1,t,p,g,hl=>by
  rw [xf] at hl;obtain⟨r,q,u,B,k,j,n⟩:=g.kids.walk (λe=>by rw [e] at hl;simp at hl) p _ rfl;have i:u.Good:=(g.kids.good _ j).1;have s:3<=u.items.length:=g.full _ j;have w:u.fy p<=2*h+1:=i.fy_le p (by omega);rw [Tr.fy_succ];show 1+Ud (((t.2.drop (zK (t.2.map λc=>(⟨c.1,false,0,c.2.blk⟩:En)) p))).map _)<=_;rw [k,aT,fB]
  cases m:(xn p u.ents).isEmpty with
  |false=>simp;omega
  |true=>
   have o:u.fy p<=h+1:=i.fy_none p (by omega) (List.isEmpty_iff.1 m);rw [aB rfl]
   cases B with
   |nil=>simp [Ud];omega
   |cons b B=>
    obtain⟨f,a⟩:=n b (am ..);have v:=g.full _ f;have d:=(g.kids.good _ f).1;obtain⟨y,l⟩:=d.some_ent (by omega);have x:=d.fy_all p (by omega) a;rw [aT,fB,az (by rw [Ye a,cW l];simp)];show 1+(u.fy p+(b.2.fy p+0))<=_;omega
end prog
end Go.Proofs.YtcoengihaobddaaGreatDoor
