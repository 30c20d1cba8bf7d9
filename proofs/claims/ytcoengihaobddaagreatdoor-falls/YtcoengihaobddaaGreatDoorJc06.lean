/- Part 6 of 36 of a proof: Law2, Api, Ord1, One, Law3, Law4, Law4b -/
import Derived.Test.YtcoengihaobddaaGreatDoorJc05
set_option maxHeartbeats 8000000
set_option linter.unusedVariables false
set_option linter.unusedSimpArgs false
set_option maxRecDepth 8000
namespace Go.Proofs.YtcoengihaobddaaGreatDoor
namespace law
open Go.ChangeShapes Go.WideShapes Go.ChangeAt Go.RowKit disk ref book
open keys (zh ze zy zs)
theorem ZB(w:World)(bo:Nat)(h:zQ)(x:zp w bo h)(bd:Nat)(l:h.d=.pointer (some ⟨bd,0,none⟩))(S:Nat->Prop)(D:Dk)(o:zg w bd S D)(f:Nat)(t:h.is=.pointer (some ⟨f,0,none⟩))(F y:Nat->Prop)(vs:List zB)(last:Int)(q:zG w F y f vs last)(i:vs.length<=4398046511104)(m:∀v∈vs,v.body.length<=1000)
 (c want zl:Int) (u:0<=zl) (r:zl<=1125899906842624) (next:Value) (kk:ByteArray) (kn:Int) (km:Bool) (ka:Option Addr) (kl kc:Nat) (s:h.shut=true) (d:want=0\/want=5):
 Calls Tryz.prog 97 #[.pointer (some ⟨bo,0,none⟩),.int .i64 c,.int .i64 want,.int .i64 zl,next,.agg #[.string kk,.int .i64 kn,.bool km,.slice ka kl kc]] w λe w'=>e=.returned (.bool (c==8))/\za (λ_=>False) w w':=by
 have z:Hid (zG w F y f vs last):=q;have A:Hid (zg w bd S D):=o;have a:∀n,za (λ_=>False) w ((w.alloc (.cells #[.string kk,.int .i64 kn,.bool km,.slice ka kl kc] 123)).drewN n):=λn=>(za.alloc _ _ _).trans kD iL;have b:zp (w.alloc (.cells #[.string kk,.int .i64 kn,.bool km,.slice ka kl kc] 123)) bo h:=x.kept (za.alloc (λ_=>False) _ _) (λj=>j);have p:=b.c2;rw [t] at p;have k:=b.c10;have B:=b.c8;have g:h.d=.pointer (some ⟨bd,0,none⟩):=l;change Hid _ at x m a g;clear q o b l t;rw [s] at k;clear s;rcases d with rfl|rfl
 all_goals
  go_enter Tryz.func97,Tryz.ntmps97;go_wp2_with fail
  go_quiet ((first
   |(go_at_call 149;exact Calls.quiet_of_same (yF _ bo h (by exact x.kept (a _) (λj=>j)) bd g S D (by exact A.kept (a _) nF)))
   |(go_at_call 151;exact Calls.quiet_of_same (jt _ F y f vs last (by exact z.kept (a _) nF nF) i m _ u r _))))
  go_wp2;go_ret;exact⟨rfl,a _⟩
theorem ZC(w:World)(bo:Nat)(h:zQ)(A:zp w bo h)(bd:Nat)(r:h.d=.pointer (some ⟨bd,0,none⟩))(S:Nat->Prop)(D:Dk)(s:zg w bd S D)(j:Nat)(y:h.is=.pointer (some ⟨j,0,none⟩))(F B:Nat->Prop)(vs:List zB)(last:Int)(x:zG w F B j vs last)(g:vs.length<=4398046511104)(q:∀v∈vs,v.body.length<=1000)
 (c want zl:Int) (p:0<=zl) (m:zl<=1125899906842624) (next:Value) (kk:ByteArray) (kn:Int) (km:Bool) (ka:Option Addr) (kl kc:Nat) (d:h.shut=false\/want≠5) (b:want≠0):
 Calls Tryz.prog 97 #[.pointer (some ⟨bo,0,none⟩),.int .i64 c,.int .i64 want,.int .i64 zl,next,.agg #[.string kk,.int .i64 kn,.bool km,.slice ka kl kc]] w λe w'=>e=.returned (.bool (c==want))/\za (λ_=>False) w w':=by
 have t:Hid (zG w F B j vs last):=x;have z:Hid (zg w bd S D):=s;have a:∀n,za (λ_=>False) w ((w.alloc (.cells #[.string kk,.int .i64 kn,.bool km,.slice ka kl kc] 123)).drewN n):=λn=>(za.alloc _ _ _).trans kD iL;have f:zp (w.alloc (.cells #[.string kk,.int .i64 kn,.bool km,.slice ka kl kc] 123)) bo h:=A.kept (za.alloc (λ_=>False) _ _) (λi=>i);have u:=f.c2;rw [y] at u;have k:=f.c10;have C:=f.c8;have l:h.d=.pointer (some ⟨bd,0,none⟩):=r;change Hid _ at A q a l;clear x s f r y;have E:(want==0)=false:=by simpa using b
 have H:(want !=0)=true:=by simpa using b
 clear b;rcases d with d|d
 .rw [d] at k;clear d;go_enter Tryz.func97,Tryz.ntmps97;go_wp2_with fail
  go_quiet ((first
   |(go_at_call 149;exact Calls.quiet_of_same (yF _ bo h (by exact A.kept (a _) (λi=>i)) bd l S D (by exact z.kept (a _) nF)))
   |(go_at_call 151;exact Calls.quiet_of_same (jt _ F B j vs last (by exact t.kept (a _) nF nF) g q _ p m _))))
  go_wp2;go_ret;exact⟨rfl,a _⟩
 .have G:(want==5)=false:=by simpa using d
  clear d;cases o:h.shut
  all_goals
   rw [o] at k;clear o;go_enter Tryz.func97,Tryz.ntmps97;go_wp2_with fail
   go_quiet ((first
    |(go_at_call 149;exact Calls.quiet_of_same (yF _ bo h (by exact A.kept (a _) (λi=>i)) bd l S D (by exact z.kept (a _) nF)))
    |(go_at_call 151;exact Calls.quiet_of_same (jt _ F B j vs last (by exact t.kept (a _) nF nF) g q _ p m _))))
   go_wp2;go_ret;exact⟨rfl,a _⟩
theorem cg(w:World)(bo:Nat)(h:zQ)(x:zp w bo h)(bd:Nat)(l:h.d=.pointer (some ⟨bd,0,none⟩))(S:Nat->Prop)(D:Dk)(o:zg w bd S D)(f:Nat)(t:h.is=.pointer (some ⟨f,0,none⟩))(F y:Nat->Prop)(vs:List zB)(last:Int)(q:zG w F y f vs last)(i:vs.length<=4398046511104)(m:∀v∈vs,v.body.length<=1000)
 (c want zl:Int) (u:0<=zl) (r:zl<=1125899906842624) (next:Value) (kk:ByteArray) (kn:Int) (km:Bool) (ka:Option Addr) (kl kc:Nat) (s:h.shut=false) (d:want=0) (z:c=6):
 Calls Tryz.prog 97 #[.pointer (some ⟨bo,0,none⟩),.int .i64 c,.int .i64 want,.int .i64 zl,next,.agg #[.string kk,.int .i64 kn,.bool km,.slice ka kl kc]] w λe w'=>e=.returned (.bool (!vW vs zl.toNat D.bs.length))/\za (λ_=>False) w w':=by
 have A:Hid (zG w F y f vs last):=q;have B:Hid (zg w bd S D):=o;have a:∀n,za (λ_=>False) w ((w.alloc (.cells #[.string kk,.int .i64 kn,.bool km,.slice ka kl kc] 123)).drewN n):=λn=>(za.alloc _ _ _).trans kD iL;have b:zp (w.alloc (.cells #[.string kk,.int .i64 kn,.bool km,.slice ka kl kc] 123)) bo h:=x.kept (za.alloc (λ_=>False) _ _) (λj=>j);have p:=b.c2;rw [t] at p;have k:=b.c10;have C:=b.c8;have g:h.d=.pointer (some ⟨bd,0,none⟩):=l;change Hid _ at x m a g;clear q o b l t;subst d z;rw [s] at k;clear s;go_enter Tryz.func97,Tryz.ntmps97;go_wp2_with fail
 go_quiet ((first
  |(go_at_call 149;exact Calls.quiet_of_same (yF _ bo h (by exact x.kept (a _) (λj=>j)) bd g S D (by exact B.kept (a _) nF)))
  |(go_at_call 151;exact Calls.quiet_of_same (jt _ F y f vs last (by exact A.kept (a _) nF nF) i m _ u r _))))
 go_wp2;go_ret;exact⟨rfl,a _⟩
def zQ.okd(h:zQ)(next:Value)(zl nlast:Int):zQ:=if 0<zl then {h with is:=next,died:=0,told:=nlast} else {h with is:=next}
theorem Y8(w:World)(bo:Nat)(h:zQ)(u:zp w bo h)(bd:Nat)(x:h.d=.pointer (some ⟨bd,0,none⟩))(S:Nat->Prop)(D:Dk)(z:zg w bd S D)(i:Nat)(G:h.is=.pointer (some ⟨i,0,none⟩))(F I:Nat->Prop)(vs:List zB)(last:Int)(C:zG w F I i vs last)(g:vs.length<=4398046511104)(r:∀v∈vs,v.body.length<=1000)
 (c want zl:Int) (q:0<=zl) (p:zl<=1125899906842624) (next:Value) (kk:ByteArray) (kn:Int) (km:Bool) (ka:Option Addr) (kl kc:Nat) (E:h.shut=false) (m:want=0) (J:c=0) (f:Nat) (o:next=.pointer (some ⟨f,0,none⟩)) (F' G':Nat->Prop) (us:List zB) (nlast:Int) (j:zG w F' G' f us nlast) (T:f≠bo):
 Calls Tryz.prog 97 #[.pointer (some ⟨bo,0,none⟩),.int .i64 c,.int .i64 want,.int .i64 zl,next,.agg #[.string kk,.int .i64 kn,.bool km,.slice ka kl kc]] w λe w'=>e=.returned (.bool true)/\zp w' bo (h.okd next zl nlast)/\za (λk=>k=bo) w w':=by
 have A:Hid (zG w F I i vs last):=C;have H:Hid (zg w bd S D):=z;have a:∀n,za (λ_=>False) w ((w.alloc (.cells #[.string kk,.int .i64 kn,.bool km,.slice ka kl kc] 123)).drewN n):=λn=>(za.alloc _ _ _).trans kD iL;have b:zp (w.alloc (.cells #[.string kk,.int .i64 kn,.bool km,.slice ka kl kc] 123)) bo h:=u.kept (za.alloc (λ_=>False) _ _) (λd=>d);have B:=b.c2;rw [G] at B;have t:=b.c10;have P:=b.c8;have l:h.d=.pointer (some ⟨bd,0,none⟩):=x;have R:=b.fz 2;have Q:=b.fz 8;have M:=b.fz 9;have N:=b.c9;obtain⟨U,V,K,j⟩:=j;have L:=(j.kept (za.alloc (λ_=>False) w (.cells #[.string kk,.int .i64 kn,.bool km,.slice ka kl kc] 123)) nF nF).c1;have O:=j.lt;change Hid _ at u r a l b;clear C z x G;clear j;subst m J o;rw [E] at t;clear E;by_cases s:0<zl
 .have y:decide (0<zl)=true:=aJ s;go_enter Tryz.func97,Tryz.ntmps97;go_wp2_with fail
  go_quiet ((first
   |(go_at_call 149;exact Calls.quiet_of_same (yF _ bo h (by exact u.kept (a _) (λd=>d)) bd l S D (by exact H.kept (a _) nF)))
   |(go_at_call 151;exact Calls.quiet_of_same (jt _ F I i vs last (by exact A.kept (a _) nF nF) g r _ q p _))))
  go_wp2;go_ret;refine⟨rfl,?_,?_⟩
  .unfold zQ.okd;rw [aB s];exact((((u.kept (a _) (λd=>d)).set 2 _ {h with is:=.pointer (some ⟨f,0,none⟩)} rfl).set 8 (.int .i64 0) {h with is:=.pointer (some ⟨f,0,none⟩),died:=0} rfl).set 9 (.int .i64 nlast) {h with is:=.pointer (some ⟨f,0,none⟩),died:=0,told:=nlast} rfl)
  .exact((((a _).mono fE).trans (za.setCell (S:=λk=>k=bo) _ ⟨bo,2,none⟩ _ rfl) iL).trans (za.setCell (S:=λk=>k=bo) _ ⟨bo,8,none⟩ _ rfl) iL).trans (za.setCell (S:=λk=>k=bo) _ ⟨bo,9,none⟩ _ rfl) iL
 .have y:=decide_eq_false s;go_enter Tryz.func97,Tryz.ntmps97;go_wp2_with fail
  go_quiet ((first
   |(go_at_call 149;exact Calls.quiet_of_same (yF _ bo h (by exact u.kept (a _) (λd=>d)) bd l S D (by exact H.kept (a _) nF)))
   |(go_at_call 151;exact Calls.quiet_of_same (jt _ F I i vs last (by exact A.kept (a _) nF nF) g r _ q p _))))
  go_wp2;go_ret;refine⟨rfl,?_,?_⟩
  .unfold zQ.okd;rw [aw (by omega)];exact(u.kept (a _) (λd=>d)).set 2 _ {h with is:=.pointer (some ⟨f,0,none⟩)} rfl
  .exact((a _).mono fE).trans (za.setCell (S:=λk=>k=bo) _ ⟨bo,2,none⟩ _ rfl) iL
theorem ZD(w:World)(bo:Nat)(h:zQ)(j:zp w bo h)(bd:Nat)(J:h.d=.pointer (some ⟨bd,0,none⟩))(S:Nat->Prop)(D:Dk)(A:zg w bd S D)(p:Nat)(m:h.is=.pointer (some ⟨p,0,none⟩))(F X:Nat->Prop)(vs:List zB)(last:Int)(Q:zG w F X p vs last)(t:vs.length<=4398046511104)(z:∀v∈vs,v.body.length<=1000)
 (c want zl:Int) (H:0<=zl) (G:zl<=1125899906842624) (next:Value) (kk:ByteArray) (kn:Int) (km:Bool) (ka:Option Addr) (kl kc:Nat) (R:h.shut=false) (o:want=0) (W:c=7) (b:Nat) (l:next=.pointer (some ⟨b,0,none⟩)) (r:D.fuse=0) (q:¬S bo) (ab:0<=h.died/\h.died<=1152921504606846976):
 Calls Tryz.prog 97 #[.pointer (some ⟨bo,0,none⟩),.int .i64 c,.int .i64 want,.int .i64 zl,next,.agg #[.string kk,.int .i64 kn,.bool km,.slice ka kl kc]] w λe w'=>e=.returned (.bool true)/\zp w' bo {h with shut:=true,mb:=next,k0:=.string kk,k1:=.int .i64 kn,k2:=.bool km,k3:=.slice ka kl kc,died:=h.died+1}/\(∃S',zg w' bd S' D/\∀k,S' k->S k)/\za (λk=>k=bo\/S k) w w':=by
 have ae:=j.lt;have Y:Hid (zG w F X p vs last):=Q;have V:Hid (zg w bd S D):=A;have a:∀n,za (λ_=>False) w ((w.alloc (.cells #[.string kk,.int .i64 kn,.bool km,.slice ka kl kc] 123)).drewN n):=λn=>(za.alloc _ _ _).trans kD iL;have d:zp (w.alloc (.cells #[.string kk,.int .i64 kn,.bool km,.slice ka kl kc] 123)) bo h:=j.kept (za.alloc (λ_=>False) _ _) (λg=>g);have O:=d.c2;rw [m] at O;have u:=d.c10;have ag:=d.c8;have f:h.d=.pointer (some ⟨bd,0,none⟩):=J;have ah:=d.fz;have Z:w.cell? ⟨bo,3,none⟩=some h.mb:=j.at_ rfl;have aa:w.cell? ⟨bo,4,none⟩=some h.k0:=j.at_ rfl;have af:w.cell? ⟨bo,5,none⟩=some h.k1:=j.at_ rfl;have ac:w.cell? ⟨bo,6,none⟩=some h.k2:=j.at_ rfl;have ad:w.cell? ⟨bo,7,none⟩=some h.k3:=j.at_ rfl;change Hid _ at j z a f;clear Q A d J m;change Hid _ at r;subst o W l;rw [R] at u;clear R;go_enter Tryz.func97,Tryz.ntmps97;go_wp2_with fail
 go_quiet ((first
  |(go_at_call 149;exact Calls.quiet_of_same (yF _ bo h (by exact j.kept (a _) (λg=>g)) bd f S D (by exact V.kept (a _) nF)))
  |(go_at_call 151;exact Calls.quiet_of_same (jt _ F X p vs last (by exact Y.kept (a _) nF nF) t z _ H G _))))
 go_wp2_with fail;have k0:za (λk=>k=bo) w ((w.alloc (.cells #[.string kk,.int .i64 kn,.bool km,.slice ka kl kc] 123)).drewN nq):=(a nq).mono fE;have U:=j.kept (a nq) (λg=>g);have M:=U.set 10 (.bool true) {h with shut:=true} rfl;have k1:=k0.trans (za.setCell (S:=λk=>k=bo) _ ⟨bo,10,none⟩ (.bool true) rfl) iL;have L:=M.set 3 (.pointer (some ⟨b,0,none⟩)) {h with shut:=true,mb:=.pointer (some ⟨b,0,none⟩)} rfl;have k2:=k1.trans (za.setCell (S:=λk=>k=bo) _ ⟨bo,3,none⟩ (.pointer (some ⟨b,0,none⟩)) rfl) iL;have E:=L.set 4 (.string kk) {h with shut:=true,mb:=.pointer (some ⟨b,0,none⟩),k0:=.string kk} rfl;have k3:=k2.trans (za.setCell (S:=λk=>k=bo) _ ⟨bo,4,none⟩ (.string kk) rfl) iL;have T:=E.set 5 (.int .i64 kn) {h with shut:=true,mb:=.pointer (some ⟨b,0,none⟩),k0:=.string kk,k1:=.int .i64 kn} rfl;have I:=k3.trans (za.setCell (S:=λk=>k=bo) _ ⟨bo,5,none⟩ (.int .i64 kn) rfl) iL;have B:=T.set 6 (.bool km) {h with shut:=true,mb:=.pointer (some ⟨b,0,none⟩),k0:=.string kk,k1:=.int .i64 kn,k2:=.bool km} rfl;have C:=I.trans (za.setCell (S:=λk=>k=bo) _ ⟨bo,6,none⟩ (.bool km) rfl) iL;have y:=B.set 7 (.slice ka kl kc) {h with shut:=true,mb:=.pointer (some ⟨b,0,none⟩),k0:=.string kk,k1:=.int .i64 kn,k2:=.bool km,k3:=.slice ka kl kc} rfl;have P:=C.trans (za.setCell (S:=λk=>k=bo) _ ⟨bo,7,none⟩ (.slice ka kl kc) rfl) iL;have s:=y.set 8 (.int .i64 (h.died+1)) {h with shut:=true,mb:=.pointer (some ⟨b,0,none⟩),k0:=.string kk,k1:=.int .i64 kn,k2:=.bool km,k3:=.slice ka kl kc,died:=h.died+1} rfl;have x:=P.trans (za.setCell (S:=λk=>k=bo) _ ⟨bo,8,none⟩ (.int .i64 (h.died+1)) rfl) iL;clear U M L E T B y k0 k1 k2 k3 I C P;have N:=V.kept x (λi m e=>q (by rw [<-e];exact m));change Hid _ at s x N;refine(dA _ bo _ s bd f S D N r).mono ?_;rintro e ai ⟨rfl,K,h2⟩;change Hid _ at K h2;go_wp2;go_ret;exact⟨rfl,s.kept h2 q,K,(x.mono iL).trans (h2.mono (λ_ h=>.inr h)) iL⟩
end law
namespace law
open Go.RowKit disk ref book
open keys (zq)
structure qq where
 vs:List zB
 n0:Int
def qq.add(V:qq)(key:ByteArray)(mark:Bool)(body:List UInt8):qq:=⟨V.vs++[⟨key,V.n0+1,mark,body⟩],V.n0+1⟩
def qq.sub(V:qq)(key:ByteArray)(n:Int):qq:=⟨ym V.vs key n,V.n0⟩
structure Good (V:qq):Prop where
 apart:jp V.vs
 num:∀v∈V.vs,1<=v.num/\v.num<=V.n0
 key:∀v∈V.vs,zq v.key.data.toList=true
 body:∀v∈V.vs,v.body.length<=300
 mark:∀v∈V.vs,v.mark=true->v.body=[]
 few:V.vs.length<=6000
 n0:0<=V.n0
structure zd where
 Rest:List (List Value)->qq->Prop
 Holds:List (List Value)->qq->Prop
 Sto:World->Nat->Option Nat->Prop
 Fu:Int->Prop
 rest_holds:∀bs V,Rest bs V->Holds bs V
 good:∀bs V,Holds bs V->Good V
 zeros:∀n:Nat,64<=n->n<=1000->Holds (List.replicate n zX) ⟨[],0⟩
 sto_lt:∀w b q,Sto w b q->b<w.heap.size
 sto_kept:∀w w' b q (T:Nat->Prop),Sto w b q->za T w w'->¬T b->Sto w' b q
 fu_int:∀f,Fu f->zD f
 fu_neg:Fu (-1)
structure zd.Live (M:zd) (D:Dk) (V:qq):Prop where
 ps:D.ps=[]
 rest:M.Rest D.bs V
 big:64<=D.bs.length
structure zd.Could (M:zd) (D:Dk) (P:qq->Prop):Prop where
 few:D.ps.length<=1000
 big:64<=D.bs.length
 all:∀ks,∃V,P V/\M.Holds (zn D.bs (sel D.ps ks)) V
theorem zd.Live.could{a:zd}{D:Dk}{V:qq}(h:a.Live D V):a.Could D (λb=>b=V):=
 ⟨by rw [h.ps];simp,h.big,λks=>⟨V,rfl,by rw [h.ps];exact a.rest_holds _ _ h.rest⟩⟩
theorem zd.Live.good{a:zd}{D:Dk}{V:qq}(h:a.Live D V):Good V:=a.good _ _ (a.rest_holds _ _ h.rest)
structure bY (M:zd) (w w':World) (bd bs:Nat) (S S':Nat->Prop) (D D':Dk) (most:Int) (q:Option Nat):Prop where
 disk:zg w' bd S' D'
 foot:∀k,S' k->S k\/w.heap.size<=k
 sto:M.Sto w' bs q
 kept:za (λk=>S k\/k=bs) w w'
 reads0:D.reads<=D'.reads
 reads1:D'.reads<=D.reads+most
 size:D'.bs.length=D.bs.length
 fuse:M.Fu D'.fuse
structure xI (M:zd) (w:World) (bd bs:Nat) (S:Nat->Prop) (D:Dk) (V:qq):Prop where
 disk:zg w bd S D
 apart:¬S bs
 sto:M.Sto w bs (some bd)
 live:M.Live D V
 fuse:M.Fu D.fuse
 reads0:0<=D.reads
 reads1:D.reads<=2305843009213693952
 few:V.n0<=2305843009213693952
structure Chg (M:zd) (D D':Dk) (V V':qq) (bd:Nat) (want c:Int) (zl:Nat) (q:Option Nat):Prop where
 is:(want≠0/\c=want/\q=some bd/\M.Live D' V)\/(want=0/\c=0/\q=some bd/\M.Live D' V')\/(want=0/\c=6/\q=some bd/\M.Live D' V/\vW V.vs zl D.bs.length=false)\/
  (want=0/\c=7/\q=none/\D'.fuse=0/\M.Could D' (λU=>U=V\/U=V'))
structure xo (M:zd):Prop where
 live:∀(w:World) (bd bs:Nat) (S P:Nat->Prop) (D:Dk) (V:qq) (key:ByteArray) (a:Option Addr) (cap:Nat) (l:List UInt8),xI M w bd bs S D V->key.size<=maxLen->zL w P a l->(∀k,P k->¬S k/\k≠bs)->l.length<=140737488355328->l.length<=cap->cap<=9223372036854775807->
  Calls Tryz.prog 27 #[.pointer (some ⟨bs,0,none⟩),.string key,.slice a l.length cap] w λe w'=>∃D' S' c n q,e=.returned (.tuple #[.int .i64 n,.int .i64 c])/\bY M w w' bd bs S S' D D' 40 q/\
   Chg M D D' V (V.add key false l) bd (fR (zq key.data.toList) l.length) c (yP l.length) q/\n=if c=0 then V.n0+1 else 0
 shut:∀(w:World) (bs:Nat) (key:ByteArray) (a:Option Addr) (n cap:Nat),M.Sto w bs none->key.size<=maxLen->n<=140737488355328->
  Calls Tryz.prog 27 #[.pointer (some ⟨bs,0,none⟩),.string key,.slice a n cap] w λe w'=>e=.returned (.tuple #[.int .i64 0,.int .i64 (yo true (fR (zq key.data.toList) n))])/\M.Sto w' bs none/\za (λk=>k=bs) w w'
structure G8 (w w':World) (x:Value) (l:List UInt8):Prop where
 at_:∃a cap,x=.slice a l.length cap/\w'.ownsRow 0 5 1 (.slice a l.length cap) l.length (l.map qA)/\∀k,(Value.slice a l.length cap).ownBlock=some k->w.heap.size<=k
def OutIs(w w':World)(o:Option zB)(x:Value)(c:Int):Prop:=(c=0->∃u,o=some u/\G8 w w' x u.body)/\(c≠0->∃a cap,x=.slice a 0 cap)
structure gz (M:zd):Prop where
 live:∀(w:World) (bd bs:Nat) (S:Nat->Prop) (D:Dk) (V:qq) (key:ByteArray),xI M w bd bs S D V->key.size<=maxLen->
  Calls Tryz.prog 26 #[.pointer (some ⟨bs,0,none⟩),.string key] w λe w'=>∃D' x n S',e=.returned (.tuple #[x,.int .i64 n,.int .i64 (yG (zq key.data.toList) (qe V.vs key))])/\bY M w w' bd bs S S' D D' 40 (some bd)/\M.Live D' V/\
   OutIs w w' (qe V.vs key) x (yG (zq key.data.toList) (qe V.vs key))/\(∀k,x.ownBlock=some k->¬S' k)/\(yG (zq key.data.toList) (qe V.vs key)≠0->n=0)/\∀u,yG (zq key.data.toList) (qe V.vs key)=0->qe V.vs key=some u->n=u.num
 shut:∀(w:World) (bs:Nat) (key:ByteArray),M.Sto w bs none->key.size<=maxLen->
  Calls Tryz.prog 26 #[.pointer (some ⟨bs,0,none⟩),.string key] w λe w'=>∃a cap,e=.returned (.tuple #[.slice a 0 cap,.int .i64 0,.int .i64 (if zq key.data.toList=true then 8 else 2)])/\M.Sto w' bs none/\za (λk=>k=bs) w w'
structure cI (M:zd):Prop where
 live:∀(w:World) (bd bs:Nat) (S:Nat->Prop) (D:Dk) (V:qq) (key:ByteArray) (num:Int),xI M w bd bs S D V->key.size<=maxLen->zD num->
  Calls Tryz.prog 42 #[.pointer (some ⟨bs,0,none⟩),.string key,.int .i64 num] w λe w'=>∃D' x S',e=.returned (.tuple #[x,.int .i64 (yG (zq key.data.toList) (yl V.vs key num))])/\bY M w w' bd bs S S' D D' 40 (some bd)/\M.Live D' V/\
   OutIs w w' (yl V.vs key num) x (yG (zq key.data.toList) (yl V.vs key num))/\∀k,x.ownBlock=some k->¬S' k
 shut:∀(w:World) (bs:Nat) (key:ByteArray) (num:Int),M.Sto w bs none->key.size<=maxLen->
  Calls Tryz.prog 42 #[.pointer (some ⟨bs,0,none⟩),.string key,.int .i64 num] w λe w'=>∃a cap,e=.returned (.tuple #[.slice a 0 cap,.int .i64 (if zq key.data.toList=true then 8 else 2)])/\M.Sto w' bs none/\za (λk=>k=bs) w w'
structure GS (M:zd) (w w':World) (bd:Nat) (S S':Nat->Prop) (D D':Dk):Prop where
 disk:zg w' bd S' D'
 foot:∀k,S' k->S k\/w.heap.size<=k
 kept:za S w w'
 reads0:D.reads<=D'.reads
 reads1:D'.reads<=D.reads+2*D.bs.length
 size:D'.bs.length=D.bs.length
 fuse:M.Fu D'.fuse
structure yb (M:zd):Prop where
 small:∀(w:World) (bd:Nat) (S:Nat->Prop) (D:Dk),zg w bd S D->D.bs.length<64->
  Calls Tryz.prog 35 #[.pointer (some ⟨bd,0,none⟩)] w λe w'=>e=.returned (.tuple #[.pointer none,.int .i64 1])/\zg w' bd S D/\za (λ_=>False) w w'
 big:∀(w:World) (bd:Nat) (S:Nat->Prop) (D:Dk) (P:qq->Prop),zg w bd S D->M.Could D P->M.Fu D.fuse->0<=D.reads->D.reads<=2305843009213693952->
  Calls Tryz.prog 35 #[.pointer (some ⟨bd,0,none⟩)] w λe w'=>∃D' S',GS M w w' bd S S' D D'/\
   ((∃bs V,e=.returned (.tuple #[.pointer (some ⟨bs,0,none⟩),.int .i64 0])/\w.heap.size<=bs/\¬S' bs/\M.Sto w' bs (some bd)/\P V/\M.Live D' V)\/
     (e=.returned (.tuple #[.pointer none,.int .i64 7])/\D'.fuse=0/\M.Could D' P))
end law
namespace book
open Go.RowKit disk ref
variable {listed:Array Bool}
section
variable {P:Program} {ops:Array Oper} {Q:Exit->Act->World->Prop}
def leftOf(n:Nat)(listed:Array Bool):List Nat:=(List.range n).filter λi=> !listed.getD i true
theorem ub{n i:Nat}:i∈leftOf n listed↔i<n/\listed.getD i true=false:=by
 unfold leftOf;rw [ei,List.mem_range];simp
theorem Y9{n i:Nat}(h:i∈leftOf n listed):(leftOf n (listed.setIfInBounds i true)).length<(leftOf n listed).length:=by
 have a:leftOf n (listed.setIfInBounds i true)=(leftOf n listed).filter λj=> !decide (j=i):=by
  unfold leftOf;rw [mp];refine lX λj _=>?_;by_cases e:i=j
  .subst e;have h2:=(ub.1 h).2
   have b:i<listed.size:=by
    rcases iJ i listed.size with h'|h';.exact h'
    .simp [Array.getElem?_eq_none h'] at h2
   simp [b]
  .rw [getD_set_ne true e];simp [iw e]
 rw [a];refine List.length_filter_lt_length_iff_exists.2 ⟨i,h,by simp⟩
def ZE(ops:Array Oper):Bool:=(List.range ops.size).all λi=>((ops[i]?).map λo=>o.after.all λe=> !Region.binds .any e||decide (e.on<i)).getD true
theorem dB(c:ZE ops=true)(m:listed.size=ops.size)(j:Region.ready .any ops listed=[]):∀i,i<ops.size->listed.getD i false=true:=by
 intro i
 induction i using Nat.strongRecOn with
 |ind i f=>
  intro b
  cases h:listed.getD i false with
  |true=>rfl
  |false=>
   have g:listed.getD i true=false:=by simp only [Array.getD,m,b, ↓reduceDIte] at h ⊢;exact h
   have a:i∈Region.ready .any ops listed:=mem_ready.2 ⟨g,ops[i],by simp [b],λe d l=>by
    have h2:=iD.1 c i (List.mem_range.2 b);rw [i7 b] at h2;simp only [Option.map_some,iT,Array.all_eq_true_iff_forall_mem,iY,iy,aR] at h2;have k:=(h2 e d).resolve_left (by rw [l];decide)
    exact f e.on k (by omega)⟩
   rw [j] at a;cases a
theorem JZ(q:ZE ops=true)(v:(Nat->Bool)->Act->World->Prop)
 (k:∀(L:Nat->Bool) (a:Act) (w:World) (i:Nat) (t:Oper),ops[i]? =some t->L i=false->(∀e∈t.after,Region.binds .any e=true->L e.on=true)->v L a w->wpOp P ops Q i (λn w'=>v (λj=>decide (j=i)||L j) n w') a w)
 (c:∀(L:Nat->Bool) (a:Act) (w:World),(∀i,i<ops.size->L i=true)->v L a w->Q .normal a w):
 ∀(b:Nat) (listed:Array Bool) (a:Act) (w:World),listed.size=ops.size->(leftOf ops.size listed).length<=b->v (λj=>listed.getD j false) a w->wpAny P .any ops Q b listed a w:=by
 intro b
 induction b with
 |zero=>
  intro listed a w m o f
  have g:Region.ready .any ops listed=[]:=by
   cases u:Region.ready .any ops listed with
   |nil=>rfl
   |cons i l=>
    obtain⟨d,t,h2,_⟩:=mem_ready.1 (show i∈Region.ready .any ops listed by rw [u];simp);have:i∈leftOf ops.size listed:=ub.2 ⟨(lT h2),d⟩;rw [aY (Nat.le_zero.1 o)] at this;cases this
  exact⟨g,c _ a w (dB q m g) f⟩
 |succ b A=>
  intro listed a w m o f;refine⟨λg=>c _ a w (dB q m g) f,λi y=>?_⟩;obtain⟨d,t,h2,x⟩:=mem_ready.1 y;have p:=(lT h2);have r:i<listed.size:=by omega
  have s:listed.getD i false=false:=by simp only [Array.getD,r, ↓reduceDIte] at d ⊢;exact d
  have z:i∈leftOf ops.size listed:=ub.2 ⟨p,d⟩;have B:=Y9 z;refine wpOp_mono (λn w' h=>A (listed.setIfInBounds i true) n w' (by simpa using m) (by omega) ?_) (k _ a w i t h2 s x f)
  have e:(λj=>(listed.setIfInBounds i true).getD j false)=(λj=>decide (j=i)||listed.getD j false):=by
   funext j;by_cases e:i=j
   .subst e;simp [r]
   .rw [getD_set_ne false e];simp [iw e]
  rw [e];exact h
theorem xj{id:Nat}{a:Act}{w:World}(f:P.follows .mixedOrders=true)(g:ZE ops=true)(d:(Nat->Bool)->Act->World->Prop)(k:d (λ_=>false) a w.drew)
 (b:∀(L:Nat->Bool) (a:Act) (w:World) (i:Nat) (l:Oper),ops[i]? =some l->L i=false->(∀e∈l.after,Region.binds .any e=true->L e.on=true)->d L a w->wpOp P ops Q i (λh w'=>d (λj=>decide (j=i)||L j) h w') a w)
 (c:∀(L:Nat->Bool) (a:Act) (w:World),(∀i,i<ops.size->L i=true)->d L a w->Q .normal a w):(Code.region id ops true).wp P Q a w:=by
 refine wp_region_any f (JZ g d b c ops.size _ a _ (by simp) ?_ ?_)
 .unfold leftOf;exact aD (ip _ _) (by simp)
 .have e:(λj=>(Array.replicate ops.size false).getD j false)=λ_=>false:=by
   funext j;simp only [Array.getD,Array.size_replicate];split<;>simp
  rw [e];exact k
theorem xC{w:World}{o:Oper}{a:Act}{N:Act->World->Prop}{R:Prop}(x:o.guard=none)(s O:Operand)(t:TypeId)
 (G:o.op=.call {callee:=.builtin .append,args:=#[s,O],argTypes:=#[t,t] })
 (e:TypeId) (i:TypeInfo) (z:Value) (b bytes:Nat) (C:P.underlying t=some (.slice e)) (K:P.info? e=some i) (E:i.zero=some z)
 (g:i.size=b) (A:i.bytes=bytes) (B:z.cells.size=b) (v:Value) (n:Nat) (q:List Value) (J:a.eval s=v) (l:w.ownsRow 0 e b v n q)
 (p:Addr) (m c:Nat) (d:List Value) (L:a.eval O=.slice (some p) m c) (H:d.length=m*b) (k:∀j u,d[j]? =some u->w.cell? (p.add j)=some u) (D:∀u∈d,u.oneCell'=true) (M:0<m)
 (y:n+m<=maxLen) (f:(n+m)*bytes<=140737488355328)
 (h:∀r w',KV w w' e b v n m q r->N (a.put o.dst r) w'):if Region.wanted o (yielded ops a.tmps)=true then Oper.wp P o a w N Q else R:=by
 have F:Region.wanted o (yielded ops a.tmps)=true:=by simp [Region.wanted,x]
 rw [aB F];obtain⟨r,w',I,h2⟩:=jX (P:=P) w t o.type e i z b bytes C K E g A B v n q l p m c d H k D M y f;unfold Oper.wp execOp;simp only [G,resolve,invoke,builtin,ie,iI,eD,li,aO,ig,J,L,I];exact h r w' h2
end
end book
namespace law
open Go.RowKit disk ref book
open keys (zq)
variable {w w':World}{R X S T:Nat->Prop}{h:zQ}{D:Dk}{last:Int}{bo bd t:Nat}
def qu(b:Nat):Value:=.pointer (some ⟨b,0,none⟩)
structure xy(M:zd)(w:World)(R:Nat->Prop)(h:zQ)(D:Dk)(V:qq)(last:Int):Prop where
 or_:(∃(mb:Nat) (key:ByteArray) (mark:Bool) (body:List UInt8) (a:Option Addr) (num:Int) (c:Nat),h.mb=qu mb/\h.k0=.string key/\h.k1=.int .i64 num/\h.k2=.bool mark/\h.k3=.slice a body.length c/\key≠ByteArray.empty/\zL w R a body/\M.Could D (λU=>U=V\/U=V.add key mark body)/\V.n0+1<=h.told+h.died)\/ ∃(mb:Nat) (us:List zB) (num:Int) (mark:Bool) (a:Option Addr) (n c:Nat),h.mb=qu mb/\h.k0=.string ByteArray.empty/\h.k1=.int .i64 num/\h.k2=.bool mark/\h.k3=.slice a n c/\zG w R R mb us last/\us.length+1=V.vs.length/\(∀v∈us,v∈V.vs)/\M.Could D (λU=>U=V\/U=⟨us,V.n0⟩)
theorem xy.put{o:zd}{V:qq}(mb:Nat)(d:ByteArray)(b:Bool)(body:List UInt8)(a:Option Addr)(e:Int)(c:Nat)(k:h.mb=qu mb)(f:h.k0=.string d)(m:h.k1=.int .i64 e)(h2:h.k2=.bool b)(g:h.k3=.slice a body.length c)(l:d≠ByteArray.empty)(i:zL w R a body)(could:o.Could D (λn=>n=V\/n=V.add d b body))(j:V.n0+1<=h.told+h.died):xy o w R h D V last:=⟨.inl ⟨mb,d,b,body,a,e,c,k,f,m,h2,g,l,i,could,j⟩⟩
theorem xy.erase{o:zd}{V:qq}(mb:Nat)(us:List zB)(d:Int)(b:Bool)(a:Option Addr)(n c:Nat)(k:h.mb=qu mb)(f:h.k0=.string ByteArray.empty)(l:h.k1=.int .i64 d)(h2:h.k2=.bool b)(g:h.k3=.slice a n c)(e:zG w R R mb us last)(i:us.length+1=V.vs.length)(j:∀v∈us,v∈V.vs)(could:o.Could D (λm=>m=V\/m=⟨us,V.n0⟩)):xy o w R h D V last:=⟨.inr ⟨mb,us,d,b,a,n,c,k,f,l,h2,g,e,i,j,could⟩⟩
theorem xy.elim{M:zd}{V:qq}{motive:xy M w R h D V last->Prop}(put:∀mb key mark body a num c hm h0 h1 h2 h3 hk hb could hn,motive (.put mb key mark body a num c hm h0 h1 h2 h3 hk hb could hn))(erase:∀mb us num mark a n c hm h0 h1 h2 h3 hr hu hs could,motive (.erase mb us num mark a n c hm h0 h1 h2 h3 hr hu hs could))(t:xy M w R h D V last):motive t:=by
 rcases t with⟨⟨_,_,_,_,_,_,_,hm,h0,h1,h2,h3,hk,hb,could,hn⟩|⟨_,_,_,_,_,_,_,hm,h0,h1,h2,h3,hr,hu,hs,could⟩⟩;.exact put _ _ _ _ _ _ _ hm h0 h1 h2 h3 hk hb could hn
 .exact erase _ _ _ _ _ _ _ hm h0 h1 h2 h3 hr hu hs could
structure qI(M:zd)(w:World)(X S R:Nat->Prop)(bo bd:Nat)(h:zQ)(D:Dk)(V:qq)(last:Int):Prop where
 or_:(∃bs,h.s=qu bs/\X bs/\¬S bs/\¬R bs/\bs≠bo/\M.Sto w bs (some bd)/\h.shut=false/\h.mb=.pointer none/\M.Live D V)\/ (∃bs,h.s=qu bs/\X bs/\¬S bs/\¬R bs/\bs≠bo/\M.Sto w bs none/\h.shut=true/\xy M w R h D V last)\/ h.s=.pointer none/\((h.mb=.pointer none/\M.Could D (λU=>U=V))\/xy M w R h D V last)
theorem qI.live{f:zd}{V:qq}(bs:Nat)(g:h.s=qu bs)(i:X bs)(d:¬S bs)(e:¬R bs)(c:bs≠bo)(b:f.Sto w bs (some bd))(shut:h.shut=false)(mb:h.mb=.pointer none)(a:f.Live D V):qI f w X S R bo bd h D V last:=⟨.inl ⟨bs,g,i,d,e,c,b,shut,mb,a⟩⟩
theorem qI.shut{e:zd}{V:qq}(bs:Nat)(f:h.s=qu bs)(g:X bs)(c:¬S bs)(d:¬R bs)(b:bs≠bo)(a:e.Sto w bs none)(shut:h.shut=true)(torn:xy e w R h D V last):qI e w X S R bo bd h D V last:=⟨.inr (.inl ⟨bs,f,g,c,d,b,a,shut,torn⟩)⟩
theorem qI.gone{a:zd}{V:qq}(b:h.s=.pointer none)(torn:(h.mb=.pointer none/\a.Could D (λc=>c=V))\/xy a w R h D V last):qI a w X S R bo bd h D V last:=⟨.inr (.inr ⟨b,torn⟩)⟩
theorem qI.elim{M:zd}{V:qq}{motive:qI M w X S R bo bd h D V last->Prop}(live:∀bs hs hX hS hR ho sto shut mb live,motive (.live bs hs hX hS hR ho sto shut mb live))(shut:∀bs hs hX hS hR ho sto shut torn,motive (.shut bs hs hX hS hR ho sto shut torn))(gone:∀hs torn,motive (.gone hs torn))(t:qI M w X S R bo bd h D V last):motive t:=by
 rcases t with⟨⟨_,hs,hX,hS,hR,ho,sto,sh,mb,lv⟩|⟨_,hs,hX,hS,hR,ho,sto,sh,torn⟩|⟨hs,torn⟩⟩;.exact live _ hs hX hS hR ho sto sh mb lv
 .exact shut _ hs hX hS hR ho sto sh torn
 .exact gone hs torn
structure yw (M:zd) (w:World) (X:Nat->Prop) (bo t:Nat) (h:zQ) (bd:Nat) (D:Dk) (S R:Nat->Prop) (ib:Nat) (V:qq) (last:Int):Prop where
 head:zp w bo h
 hd:h.d=qu bd
 his:h.is=qu ib
 disk:zg w bd S D
 ref:zG w R R ib V.vs last
 sX:∀k,S k->X k
 rX:∀k,R k->X k/\¬S k/\k≠bo
 bX:X bo
 bS:¬S bo
 xlt:∀k,X k->k<w.heap.size
 last0:last<=V.n0
 lastv:∀v∈V.vs,v.num<=last
 told0:0<=h.told
 died0:0<=h.died
 n0t:V.n0<=h.told+h.died
 tt:h.told+h.died<=t
 reads0:0<=D.reads
 reads1:D.reads<=4000000+2000*t
 fu:M.Fu D.fuse
 good:Good V
 big:64<=D.bs.length
 st:qI M w X S R bo bd h D V last
def One(M:zd)(w:World)(X:Nat->Prop)(bo t:Nat):Prop:=∃h bd D S R ib V last,yw M w X bo t h bd D S R ib V last
theorem xy.kept{u:zd}{V:qq}(v:xy u w R h D V last)(k:za T w w')(j:∀i,R i->¬T i):xy u w' R h D V last:=by
 cases v using xy.elim with
 |put mb m b body a d c l e f h2 g q p could o=>exact .put mb m b body a d c l e f h2 g q (p.kept k j) could o
 |erase mb us d b a n c l e f h2 g r s t could=>exact .erase mb us d b a n c l e f h2 g (r.kept k j j) s t could
theorem qI.kept{m:zd}{V:qq}(n:qI m w X S R bo bd h D V last)(k:za T w w')(e:∀i,X i->¬T i)(l:∀i,R i->X i):qI m w' X S R bo bd h D V last:=by
 cases n using qI.elim with
 |live bs a b j d f c shut mb live=>exact .live bs a b j d f (m.sto_kept _ _ _ _ _ c k (e _ b)) shut mb live
 |shut bs a b j d f c shut torn=>exact .shut bs a b j d f (m.sto_kept _ _ _ _ _ c k (e _ b)) shut (torn.kept k (λi g=>e i (l i g)))
 |gone a torn=>exact .gone a (torn.imp id (λh=>h.kept k (λi g=>e i (l i g))))
theorem yw.kept{e:zd}{d:Nat}{V:qq}(c:yw e w X bo t h bd D S R d V last)(k:za T w w')(b:∀i,X i->¬T i):yw e w' X bo t h bd D S R d V last:=
 {c with head:=c.head.kept k (b _ c.bX),disk:=c.disk.kept k (λi a=>b i (c.sX i a)),ref:=c.ref.kept k (λi a=>b i (c.rX i a).1) (λi a=>b i (c.rX i a).1),xlt:=λi a=>ay (c.xlt i a) k.size,st:=c.st.kept k b (λi a=>(c.rX i a).1)}
theorem One.kept{d:zd}(b:One d w X bo t)(k:za T w w')(c:∀i,X i->¬T i):One d w' X bo t:=by
 obtain⟨h,bd,D,S,R,a,V,last,b⟩:=b;exact⟨h,bd,D,S,R,a,V,last,b.kept k c⟩
theorem One.later{d:zd}{a:Nat}(b:One d w X bo t)(e:t<=a):One d w X bo a:=by
 obtain⟨h,bd,D,S,R,c,V,last,b⟩:=b;exact⟨h,bd,D,S,R,c,V,last,{b with tt:=lC b.tt (by omega),reads1:=lC b.reads1 (by omega) }⟩
structure Stepped (M:zd) (w w':World) (X:Nat->Prop) (bo t:Nat) (e:Ending):Prop where
 ret:e=.returned (.bool true)
 one:∃X',One M w' X' bo (t+1)/\∀k,X' k->X k\/w.heap.size<=k
 kept:za X w w'
end law
namespace law
open Go.RowKit disk ref book
structure qL(h:zQ)(D:Dk)(vs:List zB)(c want:Int)(zl:Nat)(next:Value)(nlast:Int)(kk:ByteArray)(kn:Int)(km:Bool)(ka:Option Addr)(kl kc:Nat)(h':zQ):Prop where
 or_:(h'=h/\h.shut=true/\(want=0\/want=5)/\c=8)\/(h'=h/\(h.shut=false\/want≠5)/\want≠0/\c=want)\/(h'=h/\h.shut=false/\want=0/\c=6/\vW vs zl D.bs.length=false)\/ (h'=h.okd next zl nlast/\h.shut=false/\want=0/\c=0)\/h'={h with shut:=true,mb:=next,k0:=.string kk,k1:=.int .i64 kn,k2:=.bool km,k3:=.slice ka kl kc,died:=h.died+1}/\h.shut=false/\want=0/\c=7/\D.fuse=0
section
variable {h:zQ} {D:Dk} {vs:List zB} {c wa:Int} {zl:Nat} {next:Value} {nlast:Int} {kk:ByteArray} {kn:Int} {km:Bool} {ka:Option Addr} {kl kc:Nat}
theorem qL.shut(a:h.shut=true)(b:wa=0\/wa=5)(d:c=8):qL h D vs c wa zl next nlast kk kn km ka kl kc h:=⟨.inl ⟨rfl,a,b,d⟩⟩
theorem qL.wanted(a:h.shut=false\/wa≠5)(b:wa≠0)(d:c=wa):qL h D vs c wa zl next nlast kk kn km ka kl kc h:=⟨.inr (.inl ⟨rfl,a,b,d⟩)⟩
theorem qL.space(a:h.shut=false)(b:wa=0)(d:c=6)(e:vW vs zl D.bs.length=false):qL h D vs c wa zl next nlast kk kn km ka kl kc h:=⟨.inr (.inr (.inl ⟨rfl,a,b,d,e⟩))⟩
theorem qL.ok(a:h.shut=false)(b:wa=0)(d:c=0):qL h D vs c wa zl next nlast kk kn km ka kl kc (h.okd next zl nlast):=⟨.inr (.inr (.inr (.inl ⟨rfl,a,b,d⟩)))⟩
theorem qL.dead(d:h.shut=false)(a:wa=0)(e:c=7)(b:D.fuse=0):qL h D vs c wa zl next nlast kk kn km ka kl kc {h with shut:=true,mb:=next,k0:=.string kk,k1:=.int .i64 kn,k2:=.bool km,k3:=.slice ka kl kc,died:=h.died+1}:=⟨.inr (.inr (.inr (.inr ⟨rfl,d,a,e,b⟩)))⟩
theorem qL.elim{motive:(x:zQ)->qL h D vs c wa zl next nlast kk kn km ka kl kc x->Prop}(shut:∀hs hw hc,motive _ (.shut hs hw hc))(wanted:∀hs hw hc,motive _ (.wanted hs hw hc))(space:∀hs hw hc hf,motive _ (.space hs hw hc hf))(ok:∀hs hw hc,motive _ (.ok hs hw hc))(dead:∀hs hw hc hf,motive _ (.dead hs hw hc hf)){h':zQ}(t:qL h D vs c wa zl next nlast kk kn km ka kl kc h'):motive h' t:=by
 rcases t with⟨⟨rfl,a,b,d⟩|⟨rfl,a,b,d⟩|⟨rfl,a,b,d,e⟩|⟨rfl,a,b,d⟩|⟨rfl,a,b,d,e⟩⟩;.exact shut a b d
 .exact wanted a b d
 .exact space a b d e
 .exact ok a b d
 .exact dead a b d e
end
theorem xT(w:World)(bo:Nat)(h:zQ)(A:zp w bo h)(bd:Nat)(s:h.d=.pointer (some ⟨bd,0,none⟩))(S:Nat->Prop)(D:Dk)(o:zg w bd S D)(p:Nat)(q:h.is=.pointer (some ⟨p,0,none⟩))(F B:Nat->Prop)(vs:List zB)(last:Int)(u:zG w F B p vs last)(J:vs.length<=6000)(H:∀v∈vs,v.body.length<=300)
 (c want zl:Int) (d:0<=zl) (l:zl<=1125899906842624) (r:Nat) (kk:ByteArray) (kn:Int) (km:Bool) (ka:Option Addr) (kl kc:Nat) (F' G':Nat->Prop) (us:List zB) (nlast:Int) (K:zG w F' G' r us nlast) (E:r≠bo) (y:¬S bo) (G:0<=h.died) (C:h.died<=1152921504606846976)
 (h':zQ) (b:qL h D vs c want zl.toNat (.pointer (some ⟨r,0,none⟩)) nlast kk kn km ka kl kc h'):
 Calls Tryz.prog 97 #[.pointer (some ⟨bo,0,none⟩),.int .i64 c,.int .i64 want,.int .i64 zl,.pointer (some ⟨r,0,none⟩),.agg #[.string kk,.int .i64 kn,.bool km,.slice ka kl kc]] w λe w'=>
  e=.returned (.bool true)/\zp w' bo h'/\(∃S',zg w' bd S' D/\∀k,S' k->S k)/\za (λk=>k=bo\/S k) w w':=by
 have a:vs.length<=4398046511104:=by omega
 have m:∀v∈vs,v.body.length<=1000:=λv L=>by have:=H v L;omega
 have n:∀w',za (λ_=>False) w w'->zp w' bo h/\(∃S',zg w' bd S' D/\∀k,S' k->S k)/\za (λk=>k=bo\/S k) w w':=λw' k=>
  ⟨A.kept k (λt=>t),⟨S,o.kept k nF,λ_ z=>z⟩,k.mono fE⟩
 cases b using qL.elim with
 |shut j g b=>
  refine(ZB w bo h A bd s S D o p q F B vs last u a m c want zl d l _ kk kn km ka kl kc j g).mono λe w' ⟨f,h2⟩=>⟨?_,n w' h2⟩;rw [f,b];rfl
 |wanted j g b=>
  refine(ZC w bo h A bd s S D o p q F B vs last u a m c want zl d l _ kk kn km ka kl kc j g).mono λe w' ⟨f,h2⟩=>⟨?_,n w' h2⟩;rw [f,b];simp
 |space j g b t=>
  refine(cg w bo h A bd s S D o p q F B vs last u a m c want zl d l _ kk kn km ka kl kc j g b).mono λe w' ⟨f,h2⟩=>⟨?_,n w' h2⟩;rw [f,t];rfl
 |ok j g b=>
  refine(Y8 w bo h A bd s S D o p q F B vs last u a m c want zl d l _ kk kn km ka kl kc j g b r rfl F' G' us nlast K E).mono λe w' ⟨f,h2,x⟩=>⟨f,?_,⟨S,o.kept x (λi q e=>y (by rw [<-e];exact q)),λ_ z=>z⟩,x.mono iL⟩;rw [mh d];exact h2
 |dead j g b t=>
  exact(ZD w bo h A bd s S D o p q F B vs last u a m c want zl d l _ kk kn km ka kl kc j g b r rfl t y ⟨G,C⟩).mono λe w' ⟨f,h2,x,I⟩=>⟨f,h2,x,I⟩
end law
namespace law
open Go.RowKit disk ref book
open keys (zq)
variable {w w':World}{B bc bs bd zl:Nat}{la ba:Option Addr}{l:List UInt8}{h:zQ}{D D':Dk}{want c:Int}
structure xk where
 kind:Int
 A:Int
 B:Int
 C:Int
 S:ByteArray
 P:ByteArray
 la:Option Addr
 l:List UInt8
 lc:Nat
 ka:Option Addr
 ks:List Bool
 kc:Nat
def xk.cells(o:xk):List Value:=[.int .i64 o.kind,.int .i64 o.A,.int .i64 o.B,.int .i64 o.C,.string o.S,.string o.P,.slice o.la o.l.length o.lc,.slice o.ka o.ks.length o.kc]
structure xk.Ok (w:World) (Q:Nat->Prop) (o:xk):Prop where
 kind:zD o.kind
 A:zD o.A
 B:zD o.B
 C:zD o.C
 S:o.S.size<=maxLen
 P:o.P.size<=maxLen
 l:zL w Q o.la o.l
 len:o.l.length<=140737488355326
 klen:o.ks.length<=140737488355326
 ks:∀j,j<o.ks.length->∃kb ko,o.ka=some ⟨kb,ko,none⟩/\Q kb/\kb<w.heap.size/\w.cell? ⟨kb,ko+j,none⟩=some (.bool (o.ks.getD j false))
theorem xk.Ok.kept{Q T:Nat->Prop}{m:xk}(h:m.Ok w Q)(k:za T w w')(e:∀i,Q i->¬T i):m.Ok w' Q:=
 ⟨h.kind,h.A,h.B,h.C,h.S,h.P,h.l.kept k e,h.len,h.klen,λj f=>by
  obtain⟨b,c,l,h2,d,g⟩:=h.ks j f
  exact⟨b,c,l,h2,ay d k.size,(k.cell (a:=⟨b,c+j,none⟩) d (e b h2)).trans g⟩⟩
def je(w:World)(B:Nat)(la:Option Addr)(l:List UInt8)(ba:Option Addr)(bc:Nat):Prop:=
 (la=none/\l=[]/\ba=none/\bc=0)\/∃ad g,la=some ad/\ba=some ⟨g,0,none⟩/\B<=g/\jO w g l.length bc l
theorem je.kept{T:Nat->Prop}(h:je w B la l ba bc)(k:za T w w')(d:∀g,(Value.slice ba l.length bc).ownBlock=some g->¬T g):je w' B la l ba bc:=by
 rcases h with h|⟨e,g,b,h2,c,a⟩;.exact .inl h
 .exact .inr ⟨e,g,b,h2,c,a.kept k (d g (by rw [h2];rfl))⟩
theorem je.bytes(h:je w B la l ba bc):zL w (λk=>B<=k) ba l:=by
 rcases h with⟨_,rfl,_⟩|⟨d,g,c,rfl,b,a⟩;.exact .inl rfl
 .exact a.bytes _ b
theorem je.cap(h:je w B la l ba bc):l.length<=bc/\bc<=9223372036854775807:=by
 rcases h with⟨_,rfl,_,rfl⟩|⟨n,g,i,rfl,m,a⟩;.simp
 .obtain⟨k,c,j,d,b,f,e⟩:=a;unfold maxLen at b;omega
theorem J0{P:Nat->Prop}(h:zL w P none l):l=[]:=by
 rcases h with h|⟨b,c,a,_⟩;.exact h
 .cases a
theorem Vd(w:World)(P:Nat->Prop)(la:Option Addr)(a:Nat)(l:List UInt8)(c:zL w P la l)(f:l.length<=140737488355326):
 Calls Tryz.prog 91 #[.slice la l.length a] w λe w'=>∃ba bc,e=.returned (.slice ba l.length bc)/\je w' w.heap.size la l ba bc/\za (λ_=>False) w w':=by
 cases la with
 |none=>
  have:=J0 c;subst this;exact(Vc w _ a).mono λe w' ⟨b,h2⟩=>⟨none,0,b,.inl ⟨rfl,rfl,rfl,rfl⟩,by rw [h2];exact za.refl _ _⟩
 |some d=>exact(Vb w P d a l c f).mono λe w' ⟨g,h,b,h2,i,j⟩=>⟨_,h,b,.inr ⟨d,g,rfl,rfl,j,h2⟩,i⟩
theorem ZF(w:World)(P:Nat->Prop)(B:Nat)(la:Option Addr)(a:Nat)(l:List UInt8)(d:zL w P la l)(c:l.length<=140737488355326)(ba:Option Addr)(bc:Nat)(h:je w B la l ba bc)(i:∀k,P k->k<B):
 Calls Tryz.prog 92 #[.slice ba l.length bc,.slice la l.length a] w λe w'=>e=.returned (.bool true)/\za (λk=>(Value.slice ba l.length bc).ownBlock=some k) w w':=by
 rcases h with⟨rfl,rfl,rfl,rfl⟩|⟨n,g,rfl,rfl,o,j⟩;.exact(Zy w _ a).mono λe w' ⟨b,h2⟩=>⟨b,by rw [h2];exact za.refl _ _⟩
 .exact(Zz w P n a l d c g bc j (λm=>by have:=i g m;omega)).mono λe w' ⟨b,h2⟩=>⟨b,h2.mono (λk f=>by rw [f];rfl)⟩
structure yU(M:zd)(w':World)(bs bd:Nat)(h:zQ)(D D':Dk)(V V':qq)(want c:Int)(zl:Nat):Prop where
 or_:(h.shut=true/\M.Sto w' bs none/\c=yo true want/\D'={D with reads:=D'.reads })\/∃q,h.shut=false/\M.Sto w' bs q/\Chg M D D' V V' bd want c zl q
theorem yU.shut{f:zd}{V V':qq}(b:h.shut=true)(a:f.Sto w' bs none)(d:c=yo true want)(e:D'={D with reads:=D'.reads }):yU f w' bs bd h D D' V V' want c zl:=⟨.inl ⟨b,a,d,e⟩⟩
theorem yU.live{e:zd}{V V':qq}(q:Option Nat)(d:h.shut=false)(a:e.Sto w' bs q)(b:Chg e D D' V V' bd want c zl q):yU e w' bs bd h D D' V V' want c zl:=⟨.inr ⟨q,d,a,b⟩⟩
theorem yU.elim{M:zd}{V V':qq}{motive:yU M w' bs bd h D D' V V' want c zl->Prop}(shut:∀hs sto hc hD,motive (.shut hs sto hc hD))(live:∀q hs sto chg,motive (.live q hs sto chg))(t:yU M w' bs bd h D D' V V' want c zl):motive t:=by
 rcases t with⟨⟨a,b,d,e⟩|⟨q,a,b,d⟩⟩;.exact shut a b d e
 .exact live q a b d
structure yV (M:zd) (w w':World) (bd bs:Nat) (S S':Nat->Prop) (D D':Dk) (most:Int:=40):Prop where
 disk:zg w' bd S' D'
 foot:∀k,S' k->S k\/w.heap.size<=k
 kept:za (λk=>S k\/k=bs) w w'
 reads0:D.reads<=D'.reads
 reads1:D'.reads<=D.reads+most
 size:D'.bs.length=D.bs.length
 fuse:M.Fu D'.fuse
theorem yU.case{l:zd}{V V':qq}(m:yU l w' bs bd h D D' V V' want c zl)(i:D'.bs.length=D.bs.length)(next:Value)(nlast:Int)(kk:ByteArray)(kn:Int)(km:Bool)(ka:Option Addr)(kl kc:Nat):
 ∃h',qL h D' V.vs c want zl next nlast kk kn km ka kl kc h':=by
 cases m using yU.elim with
 |shut b e g n=>
  by_cases d:want=0\/want=5;.exact⟨_,.shut b d (by rw [g];show (if want=0\/want=5 then (8:Int) else want)=8;rw [aB d])⟩
  .exact⟨_,.wanted (.inr (λh=>d (.inr h))) (λh=>d (.inl h)) (by rw [g];show (if want=0\/want=5 then (8:Int) else want)=want;rw [aw d])⟩
 |live q b e f=>
  rcases f.is with⟨a,h2,_⟩|⟨a,h2,_⟩|⟨a,h2,_,_,k⟩|⟨a,h2,_,j,_⟩;.exact⟨_,.wanted (.inl b) a h2⟩
  .exact⟨_,.ok b a h2⟩
  .exact⟨_,.space b a h2 (by rw [i];exact k)⟩
  .exact⟨_,.dead b a h2 j⟩
theorem UI(F:zd)(A:xo F)(w:World)(X:Nat->Prop)(bo t:Nat)(h:zQ)(bd:Nat)(D:Dk)(S R:Nat->Prop)(I:Nat)(V:qq)(last:Int)(r:yw F w X bo t h bd D S R I V last)(M:t<=4398046511104)(bs:Nat)(hbs:h.s=qu bs)
 (b:ByteArray) (d:b.size<=maxLen) (a:Option Addr) (g:Nat) (l:List UInt8) (P:Nat->Prop) (G:zL w P a l) (E:∀k,P k->¬X k) (B:l.length<=140737488355328) (z:l.length<=g) (C:g<=9223372036854775807):
 Calls Tryz.prog 27 #[.pointer (some ⟨bs,0,none⟩),.string b,.slice a l.length g] w λe w'=>∃D' S' c n,e=.returned (.tuple #[.int .i64 n,.int .i64 c])/\yV F w w' bd bs S S' D D'/\
  yU F w' bs bd h D D' V (V.add b false l) (fR (zq b.data.toList) l.length) c (yP l.length)/\n=(if c=0 then V.n0+1 else 0)/\X bs/\¬S bs/\¬R bs/\bs≠bo:=by
 have L:=r.n0t;have K:=r.tt
 cases r.st using qI.elim with
 |live j f s o y x m shut mb live=>
  have e:j=bs:=by rw [f] at hbs;unfold qu at hbs;simpa using hbs
  subst e;refine(A.live w bd j S P D V b a g l ⟨r.disk,o,m,live,r.fu,r.reads0,by have:=r.reads1;omega,by omega⟩ d G (λk d=>⟨λp=>E k d (r.sX k p),λp=>E k d (by rw [p];exact s)⟩) B z C).mono ?_;rintro e w' ⟨D',S',c,n,q,v,h2,u,H⟩;exact⟨D',S',c,n,v,⟨h2.disk,h2.foot,h2.kept,h2.reads0,h2.reads1,h2.size,h2.fuse⟩,.live q shut h2.sto u,H,s,o,y,x⟩
 |shut j f s o y x m shut torn=>
  have e:j=bs:=by rw [f] at hbs;unfold qu at hbs;simpa using hbs
  subst e;refine(A.shut w j b a l.length g m d B).mono ?_;rintro e w' ⟨v,h2,u⟩;refine⟨D,S,_,0,v,⟨r.disk.kept u (λi J p=>o (by rw [<-p];exact J)),λk d=>.inl d,u.mono (λk d=>.inr d),by omega,by omega,rfl,r.fu⟩,.shut shut h2 rfl rfl,?_,s,o,y,x⟩;rw [aw];unfold fR yo;cases zq b.data.toList;.simp
  .simp only;split<;>simp
 |gone f torn=>rw [f] at hbs;cases hbs
theorem zd.Could.reads{b:zd}{a:Dk}{P:qq->Prop}(h:b.Could D P)(e:a={D with reads:=a.reads }):b.Could a P:=by
 rw [e];exact⟨h.few,h.big,h.all⟩
theorem xy.reads{t:zd}{R:Nat->Prop}{i:Dk}{V:qq}{last:Int}(u:xy t w R h D V last)(e:i={D with reads:=i.reads }):xy t w R h i V last:=by
 cases u using xy.elim with
 |put mb l b body a d c k f g h2 j p o could m=>exact .put mb l b body a d c k f g h2 j p o (could.reads e) m
 |erase mb us d b a n c k f g h2 j q r s could=>exact .erase mb us d b a n c k f g h2 j q r s (could.reads e)
theorem xy.mono{t:zd}{R R':Nat->Prop}{V:qq}{last:Int}(u:xy t w R h D V last)(j:∀i,R i->i<w.heap.size->R' i):xy t w R' h D V last:=by
 cases u using xy.elim with
 |put mb m b body a d c k e f h2 g q p could o=>exact .put mb m b body a d c k e f h2 g q (p.mono j) could o
 |erase mb us d b a n c k e f h2 g r s l could=>exact .erase mb us d b a n c k e f h2 g (r.mono j j) s l could
theorem kF:zq ByteArray.empty.data.toList=false:=rfl
theorem uB(aw:zd)(w aO I ao m:World)(X:Nat->Prop)(bo t:Nat)(h:zQ)(bd:Nat)(D J:Dk)(S E R:Nat->Prop)(aR:Nat)(V:qq)(last:Int)(a:yw aw w X bo t h bd D S R aR V last)(bs:Nat)(hbs:h.s=qu bs)
 (aT:za (λ_=>False) w aO) (bl:w.heap.size<aO.heap.size) (g:yV aw aO I bd bs S E D J) (i:X bs/\¬S bs/\¬R bs/\bs≠bo) (o:ByteArray) (j:Bool) (l:List UInt8) (want c:Int) (az:want=0->o≠ByteArray.empty) (zl:Nat) (bq:0<zl)
 (aN:yU aw I bs bd h D J V (V.add o j l) want c zl) (n:Int) (a3:n=if c=0 then V.n0+1 else 0) (T:Nat->Prop) (M:za T I ao) (aP:∀k,T k->w.heap.size<k/\¬E k) (B:za (λk=>k=bo\/E k) ao m)
 (ae:Nat) (aC:Option Addr) (aM:Nat) (h':zQ) (au:zp m bo h') (a2:∃C,zg m bd C J/\∀k,C k->E k) (P:qL h J V.vs c want zl (qu ae) (max last n) o 0 j aC l.length aM h')
 (a4 aW:Nat->Prop) (a1:zG ao a4 aW ae (V.vs++[⟨o,n,j,l⟩]) (max last n)) (aU:∀k,a4 k->I.heap.size<=k) (aZ:∀k,aW k->R k\/I.heap.size<=k) (a0:zL ao (λk=>I.heap.size<=k) aC l):
 (∃X',One aw m X' bo (t+1)/\∀k,X' k->X k\/w.heap.size<=k)/\za X w m:=by
 have ax:=a.xlt;have bp:=ax bo a.bX;have bj:=ax bs i.1;have aj:∀k,E k->k<I.heap.size:=λk b=>g.disk.lt k b;have K:=g.foot;have bi:=g.kept.size;have bc:=M.size;have a8:=B.size
 have aL:¬E bo:=λd=>by
  rcases K bo d with f|f;.exact a.bS f
  .omega
 have am:¬E bs:=λd=>by
  rcases K bs d with f|f;.exact i.2.1 f
  .omega
 have ai:∀k,R k->k<w.heap.size:=λk b=>ax k (a.rX k b).1
 have aS:∀k,R k->¬E k:=λk b d=>by
  have f:=ai k b;rcases K k d with h2|h2;.exact(a.rX k b).2.1 h2
  .omega
 obtain⟨C,y,ad⟩:=a2
 have aX:=(((aT.mono fE).trans g.kept (λk b=>b.elim (λf=>.inl (a.sX k f)) (λf=>.inl (by rw [f];exact i.1)))).trans M (λk b=>.inr (by have:=(aP k b).1;omega))).trans B (λk b=>by
  rcases b with rfl|b;.exact .inl a.bX
  .rcases K k b with f|f;.exact .inl (a.sX k f)
   .exact .inr (by omega))
 refine⟨⟨λk=>X k\/(w.heap.size<=k/\k<m.heap.size),?_,λk b=>b.imp id (λh=>h.1)⟩,aX⟩
 have ak:∀k,R k->¬(S k\/k=bs):=λk b d=>by
  rcases d with d|d;.exact(a.rX k b).2.1 d
  .exact i.2.2.1 (by rw [<-d];exact b)
 have U:∀k,R k->¬T k:=λk b d=>by have:=(aP k d).1;have:=ai k b;omega
 have H:∀k,R k->¬(k=bo\/E k):=λk b d=>d.elim (a.rX k b).2.2 (aS k b);let R':Nat->Prop:=λk=>R k\/(I.heap.size<=k/\k<ao.heap.size);have ap:∀k,R k->k<m.heap.size->R' k:=λk b _=>.inl b;have ag:=((((a.ref.kept aT nF nF).kept g.kept ak ak).kept M U U).kept B H H).mono ap ap
 have r:∀k,R' k->¬(k=bo\/E k):=λk b d=>by
  rcases b with b|b;.exact H k b d
  .rcases d with d|d;.omega
   .have:=aj k d;omega
 have aD:=(a1.mono (F':=R') (G':=R') (λk b N=>.inr ⟨aU k b,N⟩) (λk b N=>(aZ k b).imp id (λh=>⟨h,N⟩))).kept B r r;have ay:=(a0.mono (Q:=R') (λk b N=>.inr ⟨b,N⟩)).kept B r
 have an:∀k,R' k->(X k\/(w.heap.size<=k/\k<m.heap.size))/\¬C k/\k≠bo:=λk b=>by
  refine⟨?_,λd=>r k b (.inr (ad k d)),λd=>r k b (.inl d)⟩;rcases b with b|b;.exact .inl (a.rX k b).1
  .exact .inr ⟨by omega,by omega⟩
 have p:¬R' bs:=λd=>by
  rcases d with d|d;.exact i.2.2.1 d
  .omega
 have A:∀q,aw.Sto I bs q->aw.Sto m bs q:=λq be=>aw.sto_kept _ _ _ _ _ (aw.sto_kept _ _ _ _ _ be M (λd=>by have:=(aP bs d).1;omega)) B (λd=>d.elim i.2.2.2 am)
 have av:∀k,C k->X k\/(w.heap.size<=k/\k<m.heap.size):=λk b=>by
  have f:=ad k b;rcases K k f with h2|h2;.exact .inl (a.sX k h2)
  .exact .inr ⟨by omega,by have:=aj k f;omega⟩
 have Z:∀k,(X k\/(w.heap.size<=k/\k<m.heap.size))->k<m.heap.size:=λk b=>by
  rcases b with b|b;.have:=ax k b;omega
  .exact b.2
 have af:¬C bo:=λd=>aL (ad bo d);have x:¬C bs:=λd=>am (ad bs d);have bn:=a.tt;have bk:=a.reads0;have bm:=a.reads1;have bg:=g.reads0;have a9:=g.reads1;have aE:=a.last0;have aQ:=a.n0t;have ac:=a.told0;have aA:=a.died0;have a5:=g.size;have bh:=a.big;have a7:=a.good.n0;have al:=a.hd;have aH:=a.his
 have aa:h'=h->qI aw m (λk=>X k\/(w.heap.size<=k/\k<m.heap.size)) C R' bo bd h J V last->One aw m (λk=>X k\/(w.heap.size<=k/\k<m.heap.size)) bo (t+1):=λe st=>by subst e;exact⟨h',bd,J,C,R',aR,V,last,au,al,aH,y,ag,av,an,.inl a.bX,af,Z,aE,a.lastv,ac,aA,aQ,by omega,by omega,by omega,g.fuse,a.good,by omega,st⟩
 cases aN using yU.elim with
 |shut s G d a6=>
  have e:h'=h:=by
   cases P using qL.elim with
   |shut=>rfl
   |wanted=>rfl
   |space f=>simp [s] at f
   |ok f=>rw [s] at f;cases f
   |dead f=>rw [s] at f;cases f
  refine aa e ?_
  cases a.st using qI.elim with
  |live _ _ _ _ _ _ _ shut=>rw [s] at shut;cases shut
  |gone F=>rw [F] at hbs;cases hbs
  |shut aG F aI aJ aF aK ah u torn=>
   exact .shut bs hbs (.inl i.1) x p i.2.2.2 (A _ G) s ((((((torn.kept aT nF).kept g.kept ak).kept M U).kept B H).mono ap).reads a6)
 |live q s G aV=>
  have aY:=a.st
  have ar:h.mb=.pointer none:=by
   cases aY using qI.elim with
   |live aG F aI aJ aF aK ah u mb=>exact mb
   |gone F=>rw [F] at hbs;cases hbs
   |shut aG F aI aJ aF aK ah u=>rw [s] at u;cases u
  rcases aV.is with⟨f,h2,Y,W⟩|⟨f,h2,Y,W⟩|⟨f,h2,Y,W,_⟩|⟨f,h2,Y,W,bf⟩
  .subst Y
   have e:h'=h:=by
    cases P using qL.elim with
    |shut=>rfl
    |wanted=>rfl
    |space=>rfl
    |ok _ z=>exact absurd z f
    |dead _ z=>exact absurd z f
   exact aa e (.live bs hbs (.inl i.1) x p i.2.2.2 (A _ G) s ar W)
  .subst Y
   have e:h'={h with is:=qu ae,died:=0,told:=max last n}:=by
    cases P using qL.elim with
    |shut L=>rw [s] at L;cases L
    |wanted _ z=>exact absurd f z
    |space _ _ O=>omega
    |ok=>unfold zQ.okd;rw [aB (by omega)]
    |dead _ _ O=>omega
   rw [aB h2] at a3;have aq:max last n=V.n0+1:=by omega
   have bb:(V.add o j l).vs=V.vs++[⟨o,n,j,l⟩]:=by rw [a3];rfl
   have ab:=W.good;subst e;refine⟨_,bd,J,C,R',ae,V.add o j l,max last n,au,al,rfl,y,by rw [bb];exact aD,av,an,.inl a.bX,af,Z,?_,λv ba=>?_,?_,?_,?_,?_,by omega,by omega,g.fuse,ab,by omega,.live bs hbs (.inl i.1) x p i.2.2.2 (A _ G) s ar W⟩;.rw [aq];exact eb _
   .have:=(ab.num v ba).2;rw [aq];exact this
   .show 0<=max last n;omega
   .show (0:Int)<=0;omega
   .show V.n0+1<=max last n+0;omega
   .show max last n+0<=((t+1:Nat):Int);omega
  .subst Y
   have e:h'=h:=by
    cases P using qL.elim with
    |shut=>rfl
    |wanted=>rfl
    |space=>rfl
    |ok _ _ O=>omega
    |dead _ _ O=>omega
   exact aa e (.live bs hbs (.inl i.1) x p i.2.2.2 (A _ G) s ar W)
  .subst Y
   have e:h'={h with shut:=true,mb:=qu ae,k0:=.string o,k1:=.int .i64 0,k2:=.bool j,k3:=.slice aC l.length aM,died:=h.died+1}:=by
    cases P using qL.elim with
    |shut L=>rw [s] at L;cases L
    |wanted _ z=>exact absurd f z
    |space _ _ O=>omega
    |ok _ _ O=>omega
    |dead=>rfl
   subst e
   refine⟨_,bd,J,C,R',aR,V,last,au,al,aH,y,ag,av,an,.inl a.bX,af,Z,aE,a.lastv,ac,?_,?_,?_,by omega,by omega,g.fuse,a.good,by omega,
    .shut bs hbs (.inl i.1) x p i.2.2.2 (A _ G) rfl (.put ae o j l aC 0 aM rfl rfl rfl rfl rfl (az f) ay bf ?_)⟩
   .show 0<=h.died+1;omega
   .show V.n0<=h.told+(h.died+1);omega
   .show h.told+(h.died+1)<=((t+1:Nat):Int);omega
   .show V.n0+1<=h.told+(h.died+1);omega
end law
end Go.Proofs.YtcoengihaobddaaGreatDoor
