/- Part 6 of 36 of a proof: Law2, Api, Ord1, One, Law3, Law4, Law4b -/
import Derived.Test.YtcoengihaobddaaGreatDoorJb05
set_option maxHeartbeats 8000000
set_option linter.unusedVariables false
set_option linter.unusedSimpArgs false
set_option maxRecDepth 8000
namespace Go.Proofs.YtcoengihaobddaaGreatDoor
namespace law
open Go.ChangeShapes Go.WideShapes Go.ChangeAt Go.RowKit disk ref book
open keys (zh zd zx zq)
theorem ZB(w:World)(bo:Nat)(h:qg)(J:zo w bo h)(bd:Nat)(u:h.d=.pointer (some ⟨bd,0,none⟩))(S:Nat->Prop)(D:Dk)(y:zg w bd S D)(f:Nat)(C:h.is=.pointer (some ⟨f,0,none⟩))(F G:Nat->Prop)(vs:List zB)(last:Int)(z:zJ w F G f vs last)(k:vs.length<=4398046511104)(A:∀v∈vs,v.body.length<=1000)
 (c b zs:Int) (E:0<=zs) (x:zs<=1125899906842624) (next:Value) (m:ByteArray) (r:Int) (l:Bool) (j:Option Addr) (o s:Nat) (t:h.shut=true) (g:b=0\/b=5):
 Calls Tryz.prog 97 #[.pointer (some ⟨bo,0,none⟩),.int .i64 c,.int .i64 b,.int .i64 zs,next,.agg #[.string m,.int .i64 r,.bool l,.slice j o s]] w λe w'=>e=.returned (.bool (c==8))/\za (λ_=>False) w w':=by
 have H:Hid (zJ w F G f vs last):=z;have I:Hid (zg w bd S D):=y;have a:∀n,za (λ_=>False) w ((w.alloc (.cells #[.string m,.int .i64 r,.bool l,.slice j o s] 123)).drewN n):=λn=>(za.alloc _ _ _).trans kD iL;have d:zo (w.alloc (.cells #[.string m,.int .i64 r,.bool l,.slice j o s] 123)) bo h:=J.kept (za.alloc (λ_=>False) _ _) (λq=>q);have B:=d.c2;rw [C] at B;have p:=d.c10;have K:=d.c8;have i:h.d=.pointer (some ⟨bd,0,none⟩):=u;change Hid _ at J A a i;clear z y d u C;rw [t] at p;clear t;rcases g with rfl|rfl
 all_goals
  go_enter Tryz.func97,Tryz.ntmps97;go_wp2_with fail
  go_quiet ((first
   |(go_at_call 149;exact Calls.quiet_of_same (yC _ bo h (by exact J.kept (a _) (λq=>q)) bd i S D (by exact I.kept (a _) nF)))
   |(go_at_call 151;exact Calls.quiet_of_same (jo _ F G f vs last (by exact H.kept (a _) nF nF) k A _ E x _))))
  go_wp2;go_ret;exact⟨rfl,a _⟩
theorem ZC(w:World)(bo:Nat)(h:qg)(K:zo w bo h)(bd:Nat)(A:h.d=.pointer (some ⟨bd,0,none⟩))(S:Nat->Prop)(D:Dk)(B:zg w bd S D)(m:Nat)(I:h.is=.pointer (some ⟨m,0,none⟩))(F J:Nat->Prop)(vs:List zB)(last:Int)(E:zJ w F J m vs last)(i:vs.length<=4398046511104)(t:∀v∈vs,v.body.length<=1000)
 (c a zs:Int) (q:0<=zs) (o:zs<=1125899906842624) (next:Value) (u:ByteArray) (y:Int) (s:Bool) (r:Option Addr) (x z:Nat) (f:h.shut=false\/a≠5) (d:a≠0):
 Calls Tryz.prog 97 #[.pointer (some ⟨bo,0,none⟩),.int .i64 c,.int .i64 a,.int .i64 zs,next,.agg #[.string u,.int .i64 y,.bool s,.slice r x z]] w λe w'=>e=.returned (.bool (c==a))/\za (λ_=>False) w w':=by
 have C:Hid (zJ w F J m vs last):=E;have G:Hid (zg w bd S D):=B;have b:∀n,za (λ_=>False) w ((w.alloc (.cells #[.string u,.int .i64 y,.bool s,.slice r x z] 123)).drewN n):=λn=>(za.alloc _ _ _).trans kD iL;have g:zo (w.alloc (.cells #[.string u,.int .i64 y,.bool s,.slice r x z] 123)) bo h:=K.kept (za.alloc (λ_=>False) _ _) (λk=>k);have H:=g.c2;rw [I] at H;have j:=g.c10;have L:=g.c8;have l:h.d=.pointer (some ⟨bd,0,none⟩):=A;change Hid _ at K t b l;clear E B g A I;have O:(a==0)=false:=by simpa using d
 have N:(a !=0)=true:=by simpa using d
 clear d;rcases f with f|f
 .rw [f] at j;clear f;go_enter Tryz.func97,Tryz.ntmps97;go_wp2_with fail
  go_quiet ((first
   |(go_at_call 149;exact Calls.quiet_of_same (yC _ bo h (by exact K.kept (b _) (λk=>k)) bd l S D (by exact G.kept (b _) nF)))
   |(go_at_call 151;exact Calls.quiet_of_same (jo _ F J m vs last (by exact C.kept (b _) nF nF) i t _ q o _))))
  go_wp2;go_ret;exact⟨rfl,b _⟩
 .have M:(a==5)=false:=by simpa using f
  clear f;cases p:h.shut
  all_goals
   rw [p] at j;clear p;go_enter Tryz.func97,Tryz.ntmps97;go_wp2_with fail
   go_quiet ((first
    |(go_at_call 149;exact Calls.quiet_of_same (yC _ bo h (by exact K.kept (b _) (λk=>k)) bd l S D (by exact G.kept (b _) nF)))
    |(go_at_call 151;exact Calls.quiet_of_same (jo _ F J m vs last (by exact C.kept (b _) nF nF) i t _ q o _))))
   go_wp2;go_ret;exact⟨rfl,b _⟩
theorem cg(w:World)(bo:Nat)(h:qg)(K:zo w bo h)(bd:Nat)(u:h.d=.pointer (some ⟨bd,0,none⟩))(S:Nat->Prop)(D:Dk)(y:zg w bd S D)(f:Nat)(C:h.is=.pointer (some ⟨f,0,none⟩))(F G:Nat->Prop)(vs:List zB)(last:Int)(z:zJ w F G f vs last)(k:vs.length<=4398046511104)(A:∀v∈vs,v.body.length<=1000)
 (c d zs:Int) (E:0<=zs) (x:zs<=1125899906842624) (next:Value) (m:ByteArray) (r:Int) (l:Bool) (j:Option Addr) (o s:Nat) (t:h.shut=false) (g:d=0) (H:c=6):
 Calls Tryz.prog 97 #[.pointer (some ⟨bo,0,none⟩),.int .i64 c,.int .i64 d,.int .i64 zs,next,.agg #[.string m,.int .i64 r,.bool l,.slice j o s]] w λe w'=>e=.returned (.bool (!uv vs zs.toNat D.bs.length))/\za (λ_=>False) w w':=by
 have I:Hid (zJ w F G f vs last):=z;have J:Hid (zg w bd S D):=y;have a:∀n,za (λ_=>False) w ((w.alloc (.cells #[.string m,.int .i64 r,.bool l,.slice j o s] 123)).drewN n):=λn=>(za.alloc _ _ _).trans kD iL;have b:zo (w.alloc (.cells #[.string m,.int .i64 r,.bool l,.slice j o s] 123)) bo h:=K.kept (za.alloc (λ_=>False) _ _) (λq=>q);have B:=b.c2;rw [C] at B;have p:=b.c10;have L:=b.c8;have i:h.d=.pointer (some ⟨bd,0,none⟩):=u;change Hid _ at K A a i;clear z y b u C;subst g H;rw [t] at p;clear t;go_enter Tryz.func97,Tryz.ntmps97;go_wp2_with fail
 go_quiet ((first
  |(go_at_call 149;exact Calls.quiet_of_same (yC _ bo h (by exact K.kept (a _) (λq=>q)) bd i S D (by exact J.kept (a _) nF)))
  |(go_at_call 151;exact Calls.quiet_of_same (jo _ F G f vs last (by exact I.kept (a _) nF nF) k A _ E x _))))
 go_wp2;go_ret;exact⟨rfl,a _⟩
def qg.okd(h:qg)(next:Value)(zs nlast:Int):qg:=if 0<zs then {h with is:=next,died:=0,told:=nlast} else {h with is:=next}
theorem Y8(w:World)(bo:Nat)(h:qg)(G:zo w bo h)(bd:Nat)(I:h.d=.pointer (some ⟨bd,0,none⟩))(S:Nat->Prop)(D:Dk)(J:zg w bd S D)(o:Nat)(O:h.is=.pointer (some ⟨o,0,none⟩))(F Q:Nat->Prop)(vs:List zB)(last:Int)(L:zJ w F Q o vs last)(i:vs.length<=4398046511104)(B:∀v∈vs,v.body.length<=1000)
 (c l zs:Int) (A:0<=zs) (z:zs<=1125899906842624) (next:Value) (r:ByteArray) (t:Int) (q:Bool) (p:Option Addr) (s y:Nat) (H:h.shut=false) (u:l=0) (R:c=0) (g:Nat) (x:next=.pointer (some ⟨g,0,none⟩)) (F' G':Nat->Prop) (us:List zB) (d:Int) (j:zJ w F' G' g us d) (U:g≠bo):
 Calls Tryz.prog 97 #[.pointer (some ⟨bo,0,none⟩),.int .i64 c,.int .i64 l,.int .i64 zs,next,.agg #[.string r,.int .i64 t,.bool q,.slice p s y]] w λe w'=>e=.returned (.bool true)/\zo w' bo (h.okd next zs d)/\za (λk=>k=bo) w w':=by
 have K:Hid (zJ w F Q o vs last):=L;have M:Hid (zg w bd S D):=J;have a:∀n,za (λ_=>False) w ((w.alloc (.cells #[.string r,.int .i64 t,.bool q,.slice p s y] 123)).drewN n):=λn=>(za.alloc _ _ _).trans kD iL;have b:zo (w.alloc (.cells #[.string r,.int .i64 t,.bool q,.slice p s y] 123)) bo h:=G.kept (za.alloc (λ_=>False) _ _) (λf=>f);have N:=b.c2;rw [O] at N;have C:=b.c10;have Z:=b.c8;have m:h.d=.pointer (some ⟨bd,0,none⟩):=I;have W:=b.fz 2;have V:=b.fz 8;have T:=b.fz 9;have aa:=b.c9;obtain⟨ad,ac,Y,j⟩:=j;have X:=(j.kept (za.alloc (λ_=>False) w (.cells #[.string r,.int .i64 t,.bool q,.slice p s y] 123)) nF nF).c1;have ab:=j.lt;change Hid _ at G B a m b;clear L J I O;clear j;subst u R x;rw [H] at C;clear H;by_cases E:0<zs
 .have P:decide (0<zs)=true:=aJ E;go_enter Tryz.func97,Tryz.ntmps97;go_wp2_with fail
  go_quiet ((first
   |(go_at_call 149;exact Calls.quiet_of_same (yC _ bo h (by exact G.kept (a _) (λf=>f)) bd m S D (by exact M.kept (a _) nF)))
   |(go_at_call 151;exact Calls.quiet_of_same (jo _ F Q o vs last (by exact K.kept (a _) nF nF) i B _ A z _))))
  go_wp2;go_ret;refine⟨rfl,?_,?_⟩
  .unfold qg.okd;rw [aB E];exact((((G.kept (a _) (λf=>f)).set 2 _ {h with is:=.pointer (some ⟨g,0,none⟩)} rfl).set 8 (.int .i64 0) {h with is:=.pointer (some ⟨g,0,none⟩),died:=0} rfl).set 9 (.int .i64 d) {h with is:=.pointer (some ⟨g,0,none⟩),died:=0,told:=d} rfl)
  .exact((((a _).mono fE).trans (za.setCell (S:=λk=>k=bo) _ ⟨bo,2,none⟩ _ rfl) iL).trans (za.setCell (S:=λk=>k=bo) _ ⟨bo,8,none⟩ _ rfl) iL).trans (za.setCell (S:=λk=>k=bo) _ ⟨bo,9,none⟩ _ rfl) iL
 .have P:=decide_eq_false E;go_enter Tryz.func97,Tryz.ntmps97;go_wp2_with fail
  go_quiet ((first
   |(go_at_call 149;exact Calls.quiet_of_same (yC _ bo h (by exact G.kept (a _) (λf=>f)) bd m S D (by exact M.kept (a _) nF)))
   |(go_at_call 151;exact Calls.quiet_of_same (jo _ F Q o vs last (by exact K.kept (a _) nF nF) i B _ A z _))))
  go_wp2;go_ret;refine⟨rfl,?_,?_⟩
  .unfold qg.okd;rw [aw (by omega)];exact(G.kept (a _) (λf=>f)).set 2 _ {h with is:=.pointer (some ⟨g,0,none⟩)} rfl
  .exact((a _).mono fE).trans (za.setCell (S:=λk=>k=bo) _ ⟨bo,2,none⟩ _ rfl) iL
theorem ZD(w:World)(bo:Nat)(h:qg)(s:zo w bo h)(bd:Nat)(U:h.d=.pointer (some ⟨bd,0,none⟩))(S:Nat->Prop)(D:Dk)(W:zg w bd S D)(y:Nat)(t:h.is=.pointer (some ⟨y,0,none⟩))(F af:Nat->Prop)(vs:List zB)(last:Int)(X:zJ w F af y vs last)(E:vs.length<=4398046511104)(K:∀v∈vs,v.body.length<=1000)
 (c q zs:Int) (ab:0<=zs) (V:zs<=1125899906842624) (next:Value) (a:ByteArray) (b:Int) (d:Bool) (g:Option Addr) (j m:Nat) (P:h.shut=false) (u:q=0) (ad:c=7) (l:Nat) (x:next=.pointer (some ⟨l,0,none⟩)) (z:D.fuse=0) (A:¬S bo) (an:0<=h.died/\h.died<=1152921504606846976):
 Calls Tryz.prog 97 #[.pointer (some ⟨bo,0,none⟩),.int .i64 c,.int .i64 q,.int .i64 zs,next,.agg #[.string a,.int .i64 b,.bool d,.slice g j m]] w λe w'=>e=.returned (.bool true)/\zo w' bo {h with shut:=true,mb:=next,k0:=.string a,k1:=.int .i64 b,k2:=.bool d,k3:=.slice g j m,died:=h.died+1}/\(∃S',zg w' bd S' D/\∀k,S' k->S k)/\za (λk=>k=bo\/S k) w w':=by
 have aj:=s.lt;have ae:Hid (zJ w F af y vs last):=X;have J:Hid (zg w bd S D):=W;have f:∀n,za (λ_=>False) w ((w.alloc (.cells #[.string a,.int .i64 b,.bool d,.slice g j m] 123)).drewN n):=λn=>(za.alloc _ _ _).trans kD iL;have o:zo (w.alloc (.cells #[.string a,.int .i64 b,.bool d,.slice g j m] 123)) bo h:=s.kept (za.alloc (λ_=>False) _ _) (λr=>r);have M:=o.c2;rw [t] at M;have C:=o.c10;have al:=o.c8;have p:h.d=.pointer (some ⟨bd,0,none⟩):=U;have ah:=o.fz;have am:w.cell? ⟨bo,3,none⟩=some h.mb:=s.at_ rfl;have ak:w.cell? ⟨bo,4,none⟩=some h.k0:=s.at_ rfl;have ag:w.cell? ⟨bo,5,none⟩=some h.k1:=s.at_ rfl;have ao:w.cell? ⟨bo,6,none⟩=some h.k2:=s.at_ rfl;have ai:w.cell? ⟨bo,7,none⟩=some h.k3:=s.at_ rfl;change Hid _ at s K f p;clear X W o U t;change Hid _ at z;subst u ad x;rw [P] at C;clear P;go_enter Tryz.func97,Tryz.ntmps97;go_wp2_with fail
 go_quiet ((first
  |(go_at_call 149;exact Calls.quiet_of_same (yC _ bo h (by exact s.kept (f _) (λr=>r)) bd p S D (by exact J.kept (f _) nF)))
  |(go_at_call 151;exact Calls.quiet_of_same (jo _ F af y vs last (by exact ae.kept (f _) nF nF) E K _ ab V _))))
 go_wp2_with fail;have k0:za (λk=>k=bo) w ((w.alloc (.cells #[.string a,.int .i64 b,.bool d,.slice g j m] 123)).drewN nq):=(f nq).mono fE;have Y:=s.kept (f nq) (λr=>r);have T:=Y.set 10 (.bool true) {h with shut:=true} rfl;have k1:=k0.trans (za.setCell (S:=λk=>k=bo) _ ⟨bo,10,none⟩ (.bool true) rfl) iL;have L:=T.set 3 (.pointer (some ⟨l,0,none⟩)) {h with shut:=true,mb:=.pointer (some ⟨l,0,none⟩)} rfl;have k2:=k1.trans (za.setCell (S:=λk=>k=bo) _ ⟨bo,3,none⟩ (.pointer (some ⟨l,0,none⟩)) rfl) iL;have H:=L.set 4 (.string a) {h with shut:=true,mb:=.pointer (some ⟨l,0,none⟩),k0:=.string a} rfl;have k3:=k2.trans (za.setCell (S:=λk=>k=bo) _ ⟨bo,4,none⟩ (.string a) rfl) iL;have aa:=H.set 5 (.int .i64 b) {h with shut:=true,mb:=.pointer (some ⟨l,0,none⟩),k0:=.string a,k1:=.int .i64 b} rfl;have N:=k3.trans (za.setCell (S:=λk=>k=bo) _ ⟨bo,5,none⟩ (.int .i64 b) rfl) iL;have O:=aa.set 6 (.bool d) {h with shut:=true,mb:=.pointer (some ⟨l,0,none⟩),k0:=.string a,k1:=.int .i64 b,k2:=.bool d} rfl;have ac:=N.trans (za.setCell (S:=λk=>k=bo) _ ⟨bo,6,none⟩ (.bool d) rfl) iL;have Q:=O.set 7 (.slice g j m) {h with shut:=true,mb:=.pointer (some ⟨l,0,none⟩),k0:=.string a,k1:=.int .i64 b,k2:=.bool d,k3:=.slice g j m} rfl;have Z:=ac.trans (za.setCell (S:=λk=>k=bo) _ ⟨bo,7,none⟩ (.slice g j m) rfl) iL;have G:=Q.set 8 (.int .i64 (h.died+1)) {h with shut:=true,mb:=.pointer (some ⟨l,0,none⟩),k0:=.string a,k1:=.int .i64 b,k2:=.bool d,k3:=.slice g j m,died:=h.died+1} rfl;have B:=Z.trans (za.setCell (S:=λk=>k=bo) _ ⟨bo,8,none⟩ (.int .i64 (h.died+1)) rfl) iL;clear Y T L H aa O Q k0 k1 k2 k3 N ac Z;have I:=J.kept B (λi t e=>A (by rw [<-e];exact t));change Hid _ at G B I;refine(dB _ bo _ G bd p S D I z).mono ?_;rintro e ap ⟨rfl,R,h2⟩;change Hid _ at R h2;go_wp2;go_ret;exact⟨rfl,G.kept h2 A,R,(B.mono iL).trans (h2.mono (λ_ h=>.inr h)) iL⟩
end law
namespace law
open Go.RowKit disk ref book
open keys (zp)
structure qE where
 vs:List zB
 n0:Int
def qE.add(V:qE)(key:ByteArray)(mark:Bool)(body:List UInt8):qE:=⟨V.vs++[⟨key,V.n0+1,mark,body⟩],V.n0+1⟩
def qE.sub(V:qE)(key:ByteArray)(n:Int):qE:=⟨yj V.vs key n,V.n0⟩
structure Good (V:qE):Prop where
 apart:ji V.vs
 num:∀v∈V.vs,1<=v.num/\v.num<=V.n0
 key:∀v∈V.vs,zp v.key.data.toList=true
 body:∀v∈V.vs,v.body.length<=300
 mark:∀v∈V.vs,v.mark=true->v.body=[]
 few:V.vs.length<=6000
 n0:0<=V.n0
structure ze where
 Rest:List (List Value)->qE->Prop
 Holds:List (List Value)->qE->Prop
 Sto:World->Nat->Option Nat->Prop
 Fu:Int->Prop
 rest_holds:∀bs V,Rest bs V->Holds bs V
 good:∀bs V,Holds bs V->Good V
 zeros:∀n:Nat,64<=n->n<=1000->Holds (List.replicate n zW) ⟨[],0⟩
 sto_lt:∀w b q,Sto w b q->b<w.heap.size
 sto_kept:∀w w' b q (T:Nat->Prop),Sto w b q->za T w w'->¬T b->Sto w' b q
 fu_int:∀f,Fu f->zD f
 fu_neg:Fu (-1)
structure ze.Live (M:ze) (D:Dk) (V:qE):Prop where
 ps:D.ps=[]
 rest:M.Rest D.bs V
 big:64<=D.bs.length
structure ze.Could (M:ze) (D:Dk) (P:qE->Prop):Prop where
 few:D.ps.length<=1000
 big:64<=D.bs.length
 all:∀ks,∃V,P V/\M.Holds (zm D.bs (sel D.ps ks)) V
theorem ze.Live.could{a:ze}{D:Dk}{V:qE}(h:a.Live D V):a.Could D (λb=>b=V):=
 ⟨by rw [h.ps];simp,h.big,λks=>⟨V,rfl,by rw [h.ps];exact a.rest_holds _ _ h.rest⟩⟩
theorem ze.Live.good{a:ze}{D:Dk}{V:qE}(h:a.Live D V):Good V:=a.good _ _ (a.rest_holds _ _ h.rest)
structure dC (M:ze) (w w':World) (bd bs:Nat) (S S':Nat->Prop) (D D':Dk) (most:Int) (q:Option Nat):Prop where
 disk:zg w' bd S' D'
 foot:∀k,S' k->S k\/w.heap.size<=k
 sto:M.Sto w' bs q
 kept:za (λk=>S k\/k=bs) w w'
 reads0:D.reads<=D'.reads
 reads1:D'.reads<=D.reads+most
 size:D'.bs.length=D.bs.length
 fuse:M.Fu D'.fuse
structure xw (M:ze) (w:World) (bd bs:Nat) (S:Nat->Prop) (D:Dk) (V:qE):Prop where
 disk:zg w bd S D
 apart:¬S bs
 sto:M.Sto w bs (some bd)
 live:M.Live D V
 fuse:M.Fu D.fuse
 reads0:0<=D.reads
 reads1:D.reads<=2305843009213693952
 few:V.n0<=2305843009213693952
structure Chg (M:ze) (D D':Dk) (V V':qE) (bd:Nat) (want c:Int) (zs:Nat) (q:Option Nat):Prop where
 is:(want≠0/\c=want/\q=some bd/\M.Live D' V)\/(want=0/\c=0/\q=some bd/\M.Live D' V')\/(want=0/\c=6/\q=some bd/\M.Live D' V/\uv V.vs zs D.bs.length=false)\/
  (want=0/\c=7/\q=none/\D'.fuse=0/\M.Could D' (λU=>U=V\/U=V'))
structure xk (M:ze):Prop where
 live:∀(w:World) (bd bs:Nat) (S P:Nat->Prop) (D:Dk) (V:qE) (key:ByteArray) (a:Option Addr) (cap:Nat) (l:List UInt8),xw M w bd bs S D V->key.size<=maxLen->zO w P a l->(∀k,P k->¬S k/\k≠bs)->l.length<=140737488355328->l.length<=cap->cap<=9223372036854775807->
  Calls Tryz.prog 27 #[.pointer (some ⟨bs,0,none⟩),.string key,.slice a l.length cap] w λe w'=>∃D' S' c n q,e=.returned (.tuple #[.int .i64 n,.int .i64 c])/\dC M w w' bd bs S S' D D' 40 q/\
   Chg M D D' V (V.add key false l) bd (fS (zp key.data.toList) l.length) c (yM l.length) q/\n=if c=0 then V.n0+1 else 0
 shut:∀(w:World) (bs:Nat) (key:ByteArray) (a:Option Addr) (n cap:Nat),M.Sto w bs none->key.size<=maxLen->n<=140737488355328->
  Calls Tryz.prog 27 #[.pointer (some ⟨bs,0,none⟩),.string key,.slice a n cap] w λe w'=>e=.returned (.tuple #[.int .i64 0,.int .i64 (ys true (fS (zp key.data.toList) n))])/\M.Sto w' bs none/\za (λk=>k=bs) w w'
structure G8 (w w':World) (x:Value) (l:List UInt8):Prop where
 at_:∃a cap,x=.slice a l.length cap/\w'.ownsRow 0 5 1 (.slice a l.length cap) l.length (l.map qy)/\∀k,(Value.slice a l.length cap).ownBlock=some k->w.heap.size<=k
def OutIs(w w':World)(o:Option zB)(x:Value)(c:Int):Prop:=(c=0->∃u,o=some u/\G8 w w' x u.body)/\(c≠0->∃a cap,x=.slice a 0 cap)
structure gy (M:ze):Prop where
 live:∀(w:World) (bd bs:Nat) (S:Nat->Prop) (D:Dk) (V:qE) (key:ByteArray),xw M w bd bs S D V->key.size<=maxLen->
  Calls Tryz.prog 26 #[.pointer (some ⟨bs,0,none⟩),.string key] w λe w'=>∃D' x n S',e=.returned (.tuple #[x,.int .i64 n,.int .i64 (yD (zp key.data.toList) (qd V.vs key))])/\dC M w w' bd bs S S' D D' 40 (some bd)/\M.Live D' V/\
   OutIs w w' (qd V.vs key) x (yD (zp key.data.toList) (qd V.vs key))/\(∀k,x.ownBlock=some k->¬S' k)/\(yD (zp key.data.toList) (qd V.vs key)≠0->n=0)/\∀u,yD (zp key.data.toList) (qd V.vs key)=0->qd V.vs key=some u->n=u.num
 shut:∀(w:World) (bs:Nat) (key:ByteArray),M.Sto w bs none->key.size<=maxLen->
  Calls Tryz.prog 26 #[.pointer (some ⟨bs,0,none⟩),.string key] w λe w'=>∃a cap,e=.returned (.tuple #[.slice a 0 cap,.int .i64 0,.int .i64 (if zp key.data.toList=true then 8 else 2)])/\M.Sto w' bs none/\za (λk=>k=bs) w w'
structure cI (M:ze):Prop where
 live:∀(w:World) (bd bs:Nat) (S:Nat->Prop) (D:Dk) (V:qE) (key:ByteArray) (num:Int),xw M w bd bs S D V->key.size<=maxLen->zD num->
  Calls Tryz.prog 42 #[.pointer (some ⟨bs,0,none⟩),.string key,.int .i64 num] w λe w'=>∃D' x S',e=.returned (.tuple #[x,.int .i64 (yD (zp key.data.toList) (yi V.vs key num))])/\dC M w w' bd bs S S' D D' 40 (some bd)/\M.Live D' V/\
   OutIs w w' (yi V.vs key num) x (yD (zp key.data.toList) (yi V.vs key num))/\∀k,x.ownBlock=some k->¬S' k
 shut:∀(w:World) (bs:Nat) (key:ByteArray) (num:Int),M.Sto w bs none->key.size<=maxLen->
  Calls Tryz.prog 42 #[.pointer (some ⟨bs,0,none⟩),.string key,.int .i64 num] w λe w'=>∃a cap,e=.returned (.tuple #[.slice a 0 cap,.int .i64 (if zp key.data.toList=true then 8 else 2)])/\M.Sto w' bs none/\za (λk=>k=bs) w w'
structure GS (M:ze) (w w':World) (bd:Nat) (S S':Nat->Prop) (D D':Dk):Prop where
 disk:zg w' bd S' D'
 foot:∀k,S' k->S k\/w.heap.size<=k
 kept:za S w w'
 reads0:D.reads<=D'.reads
 reads1:D'.reads<=D.reads+2*D.bs.length
 size:D'.bs.length=D.bs.length
 fuse:M.Fu D'.fuse
structure q8 (M:ze):Prop where
 small:∀(w:World) (bd:Nat) (S:Nat->Prop) (D:Dk),zg w bd S D->D.bs.length<64->
  Calls Tryz.prog 35 #[.pointer (some ⟨bd,0,none⟩)] w λe w'=>e=.returned (.tuple #[.pointer none,.int .i64 1])/\zg w' bd S D/\za (λ_=>False) w w'
 big:∀(w:World) (bd:Nat) (S:Nat->Prop) (D:Dk) (P:qE->Prop),zg w bd S D->M.Could D P->M.Fu D.fuse->0<=D.reads->D.reads<=2305843009213693952->
  Calls Tryz.prog 35 #[.pointer (some ⟨bd,0,none⟩)] w λe w'=>∃D' S',GS M w w' bd S S' D D'/\
   ((∃bs V,e=.returned (.tuple #[.pointer (some ⟨bs,0,none⟩),.int .i64 0])/\w.heap.size<=bs/\¬S' bs/\M.Sto w' bs (some bd)/\P V/\M.Live D' V)\/
     (e=.returned (.tuple #[.pointer none,.int .i64 7])/\D'.fuse=0/\M.Could D' P))
end law
namespace book
open Go.RowKit disk ref
variable {listed:Array Bool}
section
variable {P:Program} {ops:Array Oper} {Q:Exit->Act->World->Prop}
def leftOf(n:Nat)(listed:Array Bool):List Nat:=(List.range n).filter λi=> !listed.getD i true
theorem v8{n i:Nat}:i∈leftOf n listed↔i<n/\listed.getD i true=false:=by
 unfold leftOf;rw [ei,List.mem_range];simp
theorem Y9{n i:Nat}(h:i∈leftOf n listed):(leftOf n (listed.setIfInBounds i true)).length<(leftOf n listed).length:=by
 have a:leftOf n (listed.setIfInBounds i true)=(leftOf n listed).filter λj=> !decide (j=i):=by
  unfold leftOf;rw [mp];refine lX λj _=>?_;by_cases e:i=j
  .subst e;have h2:=(v8.1 h).2
   have b:i<listed.size:=by
    rcases iJ i listed.size with h'|h';.exact h'
    .simp [Array.getElem?_eq_none h'] at h2
   simp [b]
  .rw [getD_set_ne true e];simp [iw e]
 rw [a];refine List.length_filter_lt_length_iff_exists.2 ⟨i,h,by simp⟩
def ZE(ops:Array Oper):Bool:=(List.range ops.size).all λi=>((ops[i]?).map λo=>o.after.all λe=> !Region.binds .any e||decide (e.on<i)).getD true
theorem dD(d:ZE ops=true)(f:listed.size=ops.size)(g:Region.ready .any ops listed=[]):∀i,i<ops.size->listed.getD i false=true:=by
 intro i
 induction i using Nat.strongRecOn with
 |ind i j=>
  intro b
  cases h:listed.getD i false with
  |true=>rfl
  |false=>
   have k:listed.getD i true=false:=by simp only [Array.getD,f,b, ↓reduceDIte] at h ⊢;exact h
   have a:i∈Region.ready .any ops listed:=mem_ready.2 ⟨k,ops[i],by simp [b],λe l c=>by
    have h2:=iD.1 d i (List.mem_range.2 b);rw [i7 b] at h2;simp only [Option.map_some,iT,Array.all_eq_true_iff_forall_mem,iY,iy,aR] at h2;have m:=(h2 e l).resolve_left (by rw [c];decide)
    exact j e.on m (by omega)⟩
   rw [g] at a;cases a
theorem JZ(s:ZE ops=true)(v:(Nat->Bool)->Act->World->Prop)
 (k:∀(L:Nat->Bool) (a:Act) (w:World) (i:Nat) (o:Oper),ops[i]? =some o->L i=false->(∀e∈o.after,Region.binds .any e=true->L e.on=true)->v L a w->wpOp P ops Q i (λn w'=>v (λj=>decide (j=i)||L j) n w') a w)
 (c:∀(L:Nat->Bool) (a:Act) (w:World),(∀i,i<ops.size->L i=true)->v L a w->Q .normal a w):
 ∀(b:Nat) (listed:Array Bool) (a:Act) (w:World),listed.size=ops.size->(leftOf ops.size listed).length<=b->v (λj=>listed.getD j false) a w->wpAny P .any ops Q b listed a w:=by
 intro b
 induction b with
 |zero=>
  intro listed a w f p m
  have g:Region.ready .any ops listed=[]:=by
   cases u:Region.ready .any ops listed with
   |nil=>rfl
   |cons i l=>
    obtain⟨d,o,h2,_⟩:=mem_ready.1 (show i∈Region.ready .any ops listed by rw [u];simp);have:i∈leftOf ops.size listed:=v8.2 ⟨(lT h2),d⟩;rw [aY (Nat.le_zero.1 p)] at this;cases this
  exact⟨g,c _ a w (dD s f g) m⟩
 |succ b y=>
  intro listed a w f p m;refine⟨λg=>c _ a w (dD s f g) m,λi x=>?_⟩;obtain⟨d,o,h2,z⟩:=mem_ready.1 x;have t:=(lT h2);have q:i<listed.size:=by omega
  have r:listed.getD i false=false:=by simp only [Array.getD,q, ↓reduceDIte] at d ⊢;exact d
  have A:i∈leftOf ops.size listed:=v8.2 ⟨t,d⟩;have B:=Y9 A;refine wpOp_mono (λn w' h=>y (listed.setIfInBounds i true) n w' (by simpa using f) (by omega) ?_) (k _ a w i o h2 r z m)
  have e:(λj=>(listed.setIfInBounds i true).getD j false)=(λj=>decide (j=i)||listed.getD j false):=by
   funext j;by_cases e:i=j
   .subst e;simp [q]
   .rw [getD_set_ne false e];simp [iw e]
  rw [e];exact h
theorem xf{id:Nat}{a:Act}{w:World}(h:P.follows .mixedOrders=true)(k:ZE ops=true)(d:(Nat->Bool)->Act->World->Prop)(g:d (λ_=>false) a w.drew)
 (b:∀(L:Nat->Bool) (a:Act) (w:World) (i:Nat) (l:Oper),ops[i]? =some l->L i=false->(∀e∈l.after,Region.binds .any e=true->L e.on=true)->d L a w->wpOp P ops Q i (λf w'=>d (λj=>decide (j=i)||L j) f w') a w)
 (c:∀(L:Nat->Bool) (a:Act) (w:World),(∀i,i<ops.size->L i=true)->d L a w->Q .normal a w):(Code.region id ops true).wp P Q a w:=by
 refine wp_region_any h (JZ k d b c ops.size _ a _ (by simp) ?_ ?_)
 .unfold leftOf;exact aD (ip _ _) (by simp)
 .have e:(λj=>(Array.replicate ops.size false).getD j false)=λ_=>false:=by
   funext j;simp only [Array.getD,Array.size_replicate];split<;>simp
  rw [e];exact g
theorem xx{w:World}{o:Oper}{a:Act}{O:Act->World->Prop}{R:Prop}(B:o.guard=none)(s N:Operand)(t:TypeId)
 (J:o.op=.call {callee:=.builtin .append,args:=#[s,N],argTypes:=#[t,t] })
 (e:TypeId) (i:TypeInfo) (z:Value) (b bytes:Nat) (K:P.underlying t=some (.slice e)) (I:P.info? e=some i) (M:i.zero=some z)
 (g:i.size=b) (x:i.bytes=bytes) (y:z.cells.size=b) (v:Value) (n:Nat) (l:List Value) (C:a.eval s=v) (q:w.ownsRow 0 e b v n l)
 (p:Addr) (m c:Nat) (d:List Value) (D:a.eval N=.slice (some p) m c) (H:d.length=m*b) (k:∀j u,d[j]? =some u->w.cell? (p.add j)=some u) (E:∀u∈d,u.oneCell'=true) (G:0<m)
 (A:n+m<=maxLen) (f:(n+m)*bytes<=140737488355328)
 (h:∀r w',KV w w' e b v n m l r->O (a.put o.dst r) w'):if Region.wanted o (yielded ops a.tmps)=true then Oper.wp P o a w O Q else R:=by
 have L:Region.wanted o (yielded ops a.tmps)=true:=by simp [Region.wanted,B]
 rw [aB L];obtain⟨r,w',F,h2⟩:=jT (P:=P) w t o.type e i z b bytes K I M g x y v n l q p m c d H k E G A f;unfold Oper.wp execOp;simp only [J,resolve,invoke,builtin,ie,iI,eD,li,aO,ig,C,D,F];exact h r w' h2
end
end book
namespace law
open Go.RowKit disk ref book
open keys (zp)
variable {w w':World}{R T X:Nat->Prop}{h:qg}{D:Dk}{last:Int}{bo t:Nat}
def qz(b:Nat):Value:=.pointer (some ⟨b,0,none⟩)
inductive vN (M:ze) (w:World) (R:Nat->Prop) (h:qg) (D:Dk) (V:qE) (last:Int):Prop
 |put (mb:Nat) (key:ByteArray) (mark:Bool) (body:List UInt8) (a:Option Addr) (num:Int) (c:Nat) (hm:h.mb=qz mb) (h0:h.k0=.string key) (h1:h.k1=.int .i64 num) (h2:h.k2=.bool mark) (h3:h.k3=.slice a body.length c) (hk:key≠ByteArray.empty) (hb:zO w R a body)
  (could:M.Could D (λU=>U=V\/U=V.add key mark body)) (hn:V.n0+1<=h.told+h.died)
 |erase (mb:Nat) (us:List zB) (num:Int) (mark:Bool) (a:Option Addr) (n c:Nat) (hm:h.mb=qz mb) (h0:h.k0=.string ByteArray.empty) (h1:h.k1=.int .i64 num) (h2:h.k2=.bool mark) (h3:h.k3=.slice a n c) (hr:zJ w R R mb us last) (hu:us.length+1=V.vs.length) (hs:∀v∈us,v∈V.vs)
  (could:M.Could D (λU=>U=V\/U=⟨us,V.n0⟩))
inductive kI (M:ze) (w:World) (X S R:Nat->Prop) (bo bd:Nat) (h:qg) (D:Dk) (V:qE) (last:Int):Prop
 |live (bs:Nat) (hs:h.s=qz bs) (hX:X bs) (hS:¬S bs) (hR:¬R bs) (ho:bs≠bo) (sto:M.Sto w bs (some bd)) (shut:h.shut=false) (mb:h.mb=.pointer none) (live:M.Live D V)
 |shut (bs:Nat) (hs:h.s=qz bs) (hX:X bs) (hS:¬S bs) (hR:¬R bs) (ho:bs≠bo) (sto:M.Sto w bs none) (shut:h.shut=true) (torn:vN M w R h D V last)
 |gone (hs:h.s=.pointer none) (torn:(h.mb=.pointer none/\M.Could D (λU=>U=V))\/vN M w R h D V last)
structure yt (M:ze) (w:World) (X:Nat->Prop) (bo t:Nat) (h:qg) (bd:Nat) (D:Dk) (S R:Nat->Prop) (ib:Nat) (V:qE) (last:Int):Prop where
 head:zo w bo h
 hd:h.d=qz bd
 his:h.is=qz ib
 disk:zg w bd S D
 ref:zJ w R R ib V.vs last
 sX:∀k,S k->X k
 rX:∀k,R k->X k/\¬S k/\k≠bo
 bX:X bo
 bS:¬S bo
 xlt:∀k,X k->k<w.heap.size
 last0:last<=V.n0
 lastv:∀v∈V.vs,v.num<=last
 told0:0<=h.told
 died0:0<=h.died
 n0t:V.n0<=h.told+h.died
 tt:h.told+h.died<=t
 reads0:0<=D.reads
 reads1:D.reads<=4000000+2000*t
 fu:M.Fu D.fuse
 good:Good V
 big:64<=D.bs.length
 st:kI M w X S R bo bd h D V last
def One(M:ze)(w:World)(X:Nat->Prop)(bo t:Nat):Prop:=∃h bd D S R ib V last,yt M w X bo t h bd D S R ib V last
theorem vN.kept{u:ze}{V:qE}(v:vN u w R h D V last)(k:za T w w')(l:∀i,R i->¬T i):vN u w' R h D V last:=by
 cases v with
 |put mb m b body a d c j f e h2 g q s could o=>exact .put mb m b body a d c j f e h2 g q (s.kept k l) could o
 |erase mb us d b a n c j f e h2 g r t p could=>exact .erase mb us d b a n c j f e h2 g (r.kept k l l) t p could
theorem kI.kept{m:ze}{S:Nat->Prop}{bd:Nat}{V:qE}(n:kI m w X S R bo bd h D V last)(k:za T w w')(e:∀i,X i->¬T i)(l:∀i,R i->X i):kI m w' X S R bo bd h D V last:=by
 cases n with
 |live bs a b j d g c shut mb live=>exact .live bs a b j d g (m.sto_kept _ _ _ _ _ c k (e _ b)) shut mb live
 |shut bs a b j d g c shut torn=>exact .shut bs a b j d g (m.sto_kept _ _ _ _ _ c k (e _ b)) shut (torn.kept k (λi f=>e i (l i f)))
 |gone a torn=>exact .gone a (torn.imp id (λh=>h.kept k (λi f=>e i (l i f))))
theorem yt.kept{e:ze}{bd:Nat}{S:Nat->Prop}{d:Nat}{V:qE}(b:yt e w X bo t h bd D S R d V last)(k:za T w w')(c:∀i,X i->¬T i):yt e w' X bo t h bd D S R d V last:=
 {b with head:=b.head.kept k (c _ b.bX),disk:=b.disk.kept k (λi a=>c i (b.sX i a)),ref:=b.ref.kept k (λi a=>c i (b.rX i a).1) (λi a=>c i (b.rX i a).1),xlt:=λi a=>ay (b.xlt i a) k.size,st:=b.st.kept k c (λi a=>(b.rX i a).1)}
theorem One.kept{d:ze}(b:One d w X bo t)(k:za T w w')(c:∀i,X i->¬T i):One d w' X bo t:=by
 obtain⟨h,bd,D,S,R,a,V,last,b⟩:=b;exact⟨h,bd,D,S,R,a,V,last,b.kept k c⟩
theorem One.later{d:ze}{a:Nat}(b:One d w X bo t)(e:t<=a):One d w X bo a:=by
 obtain⟨h,bd,D,S,R,c,V,last,b⟩:=b;exact⟨h,bd,D,S,R,c,V,last,{b with tt:=lC b.tt (by omega),reads1:=lC b.reads1 (by omega) }⟩
structure Stepped (M:ze) (w w':World) (X:Nat->Prop) (bo t:Nat) (e:Ending):Prop where
 ret:e=.returned (.bool true)
 one:∃X',One M w' X' bo (t+1)/\∀k,X' k->X k\/w.heap.size<=k
 kept:za X w w'
end law
namespace law
open Go.RowKit disk ref book
inductive kz (h:qg) (D:Dk) (vs:List zB) (c want:Int) (zs:Nat) (next:Value) (nlast:Int) (kk:ByteArray) (kn:Int) (km:Bool) (ka:Option Addr) (kl kc:Nat):qg->Prop
 |shut (hs:h.shut=true) (hw:want=0\/want=5) (hc:c=8):kz h D vs c want zs next nlast kk kn km ka kl kc h
 |want (hs:h.shut=false\/want≠5) (hw:want≠0) (hc:c=want):kz h D vs c want zs next nlast kk kn km ka kl kc h
 |space (hs:h.shut=false) (hw:want=0) (hc:c=6) (hf:uv vs zs D.bs.length=false):kz h D vs c want zs next nlast kk kn km ka kl kc h
 |ok (hs:h.shut=false) (hw:want=0) (hc:c=0):kz h D vs c want zs next nlast kk kn km ka kl kc (h.okd next zs nlast)
 |dead (hs:h.shut=false) (hw:want=0) (hc:c=7) (hf:D.fuse=0):kz h D vs c want zs next nlast kk kn km ka kl kc {h with shut:=true,mb:=next,k0:=.string kk,k1:=.int .i64 kn,k2:=.bool km,k3:=.slice ka kl kc,died:=h.died+1}
theorem xN(w:World)(bo:Nat)(h:qg)(K:zo w bo h)(bd:Nat)(B:h.d=.pointer (some ⟨bd,0,none⟩))(S:Nat->Prop)(D:Dk)(q:zg w bd S D)(y:Nat)(u:h.is=.pointer (some ⟨y,0,none⟩))(F J:Nat->Prop)(vs:List zB)(last:Int)(C:zJ w F J y vs last)(O:vs.length<=6000)(R:∀v∈vs,v.body.length<=300)
 (c want zs:Int) (d:0<=zs) (m:zs<=1125899906842624) (A:Nat) (r:ByteArray) (t:Int) (p:Bool) (o:Option Addr) (s z:Nat) (F' G':Nat->Prop) (us:List zB) (f:Int) (Q:zJ w F' G' A us f) (L:A≠bo) (H:¬S bo) (M:0<=h.died) (N:h.died<=1152921504606846976)
 (h':qg) (b:kz h D vs c want zs.toNat (.pointer (some ⟨A,0,none⟩)) f r t p o s z h'):
 Calls Tryz.prog 97 #[.pointer (some ⟨bo,0,none⟩),.int .i64 c,.int .i64 want,.int .i64 zs,.pointer (some ⟨A,0,none⟩),.agg #[.string r,.int .i64 t,.bool p,.slice o s z]] w λe w'=>
  e=.returned (.bool true)/\zo w' bo h'/\(∃S',zg w' bd S' D/\∀k,S' k->S k)/\za (λk=>k=bo\/S k) w w':=by
 have a:vs.length<=4398046511104:=by omega
 have n:∀v∈vs,v.body.length<=1000:=λv P=>by have:=R v P;omega
 have x:∀w',za (λ_=>False) w w'->zo w' bo h/\(∃S',zg w' bd S' D/\∀k,S' k->S k)/\za (λk=>k=bo\/S k) w w':=λw' k=>
  ⟨K.kept k (λE=>E),⟨S,q.kept k nF,λ_ I=>I⟩,k.mono fE⟩
 cases b with
 |shut g l b=>
  refine(ZB w bo h K bd B S D q y u F J vs last C a n c want zs d m _ r t p o s z g l).mono λe w' ⟨j,h2⟩=>⟨?_,x w' h2⟩;rw [j,b];rfl
 |want g l b=>
  refine(ZC w bo h K bd B S D q y u F J vs last C a n c want zs d m _ r t p o s z g l).mono λe w' ⟨j,h2⟩=>⟨?_,x w' h2⟩;rw [j,b];simp
 |space g l b E=>
  refine(cg w bo h K bd B S D q y u F J vs last C a n c want zs d m _ r t p o s z g l b).mono λe w' ⟨j,h2⟩=>⟨?_,x w' h2⟩;rw [j,E];rfl
 |ok g l b=>
  refine(Y8 w bo h K bd B S D q y u F J vs last C a n c want zs d m _ r t p o s z g l b A rfl F' G' us f Q L).mono λe w' ⟨j,h2,G⟩=>⟨j,?_,⟨S,q.kept G (λi u e=>H (by rw [<-e];exact u)),λ_ I=>I⟩,G.mono iL⟩;rw [mh d];exact h2
 |dead g l b E=>
  exact(ZD w bo h K bd B S D q y u F J vs last C a n c want zs d m _ r t p o s z g l b A rfl E H ⟨M,N⟩).mono λe w' ⟨j,h2,G,T⟩=>⟨j,h2,G,T⟩
end law
namespace law
open Go.RowKit disk ref book
open keys (zp)
variable {w w':World}{B bc:Nat}{la ba:Option Addr}{l:List UInt8}{h:qg}{D:Dk}
structure xg where
 kind:Int
 A:Int
 B:Int
 C:Int
 S:ByteArray
 P:ByteArray
 la:Option Addr
 l:List UInt8
 lc:Nat
 ka:Option Addr
 ks:List Bool
 kc:Nat
def xg.cells(o:xg):List Value:=[.int .i64 o.kind,.int .i64 o.A,.int .i64 o.B,.int .i64 o.C,.string o.S,.string o.P,.slice o.la o.l.length o.lc,.slice o.ka o.ks.length o.kc]
structure xg.Ok (w:World) (Q:Nat->Prop) (o:xg):Prop where
 kind:zD o.kind
 A:zD o.A
 B:zD o.B
 C:zD o.C
 S:o.S.size<=maxLen
 P:o.P.size<=maxLen
 l:zO w Q o.la o.l
 len:o.l.length<=140737488355326
 klen:o.ks.length<=140737488355326
 ks:∀j,j<o.ks.length->∃kb ko,o.ka=some ⟨kb,ko,none⟩/\Q kb/\kb<w.heap.size/\w.cell? ⟨kb,ko+j,none⟩=some (.bool (o.ks.getD j false))
theorem xg.Ok.kept{Q T:Nat->Prop}{m:xg}(h:m.Ok w Q)(k:za T w w')(d:∀i,Q i->¬T i):m.Ok w' Q:=
 ⟨h.kind,h.A,h.B,h.C,h.S,h.P,h.l.kept k d,h.len,h.klen,λj l=>by
  obtain⟨b,c,g,h2,e,f⟩:=h.ks j l
  exact⟨b,c,g,h2,ay e k.size,(k.cell (a:=⟨b,c+j,none⟩) e (d b h2)).trans f⟩⟩
def x9(w:World)(B:Nat)(la:Option Addr)(l:List UInt8)(ba:Option Addr)(bc:Nat):Prop:=
 (la=none/\l=[]/\ba=none/\bc=0)\/∃ad g,la=some ad/\ba=some ⟨g,0,none⟩/\B<=g/\jK w g l.length bc l
theorem x9.kept{T:Nat->Prop}(h:x9 w B la l ba bc)(k:za T w w')(c:∀g,(Value.slice ba l.length bc).ownBlock=some g->¬T g):x9 w' B la l ba bc:=by
 rcases h with h|⟨e,g,b,h2,d,a⟩;.exact .inl h
 .exact .inr ⟨e,g,b,h2,d,a.kept k (c g (by rw [h2];rfl))⟩
theorem x9.bytes(h:x9 w B la l ba bc):zO w (λk=>B<=k) ba l:=by
 rcases h with⟨_,rfl,_⟩|⟨d,g,c,rfl,b,a⟩;.exact .inl rfl
 .exact a.bytes _ b
theorem x9.cap(h:x9 w B la l ba bc):l.length<=bc/\bc<=9223372036854775807:=by
 rcases h with⟨_,rfl,_,rfl⟩|⟨n,g,e,rfl,k,b⟩;.simp
 .obtain⟨d,c,j,i,a,m,f⟩:=b;unfold maxLen at a;omega
theorem J0{P:Nat->Prop}(h:zO w P none l):l=[]:=by
 rcases h with h|⟨b,c,a,_⟩;.exact h
 .cases a
theorem Vd(w:World)(P:Nat->Prop)(la:Option Addr)(a:Nat)(l:List UInt8)(c:zO w P la l)(h:l.length<=140737488355326):
 Calls Tryz.prog 91 #[.slice la l.length a] w λe w'=>∃ba bc,e=.returned (.slice ba l.length bc)/\x9 w' w.heap.size la l ba bc/\za (λ_=>False) w w':=by
 cases la with
 |none=>
  have:=J0 c;subst this;exact(Vc w _ a).mono λe w' ⟨b,h2⟩=>⟨none,0,b,.inl ⟨rfl,rfl,rfl,rfl⟩,by rw [h2];exact za.refl _ _⟩
 |some d=>exact(Vb w P d a l c h).mono λe w' ⟨g,f,b,h2,j,i⟩=>⟨_,f,b,.inr ⟨d,g,rfl,rfl,i,h2⟩,j⟩
theorem ZF(w:World)(P:Nat->Prop)(B:Nat)(la:Option Addr)(a:Nat)(l:List UInt8)(c:zO w P la l)(f:l.length<=140737488355326)(ba:Option Addr)(bc:Nat)(h:x9 w B la l ba bc)(d:∀k,P k->k<B):
 Calls Tryz.prog 92 #[.slice ba l.length bc,.slice la l.length a] w λe w'=>e=.returned (.bool true)/\za (λk=>(Value.slice ba l.length bc).ownBlock=some k) w w':=by
 rcases h with⟨rfl,rfl,rfl,rfl⟩|⟨i,g,rfl,rfl,o,m⟩;.exact(Zy w _ a).mono λe w' ⟨b,h2⟩=>⟨b,by rw [h2];exact za.refl _ _⟩
 .exact(Zz w P i a l c f g bc m (λj=>by have:=d g j;omega)).mono λe w' ⟨b,h2⟩=>⟨b,h2.mono (λk n=>by rw [n];rfl)⟩
inductive v9 (M:ze) (w':World) (bs bd:Nat) (h:qg) (D D':Dk) (V V':qE) (want c:Int) (zs:Nat):Prop
 |shut (hs:h.shut=true) (sto:M.Sto w' bs none) (hc:c=ys true want) (hD:D'={D with reads:=D'.reads })
 |live (q:Option Nat) (hs:h.shut=false) (sto:M.Sto w' bs q) (chg:Chg M D D' V V' bd want c zs q)
structure yR (M:ze) (w w':World) (bd bs:Nat) (S S':Nat->Prop) (D D':Dk) (most:Int:=40):Prop where
 disk:zg w' bd S' D'
 foot:∀k,S' k->S k\/w.heap.size<=k
 kept:za (λk=>S k\/k=bs) w w'
 reads0:D.reads<=D'.reads
 reads1:D'.reads<=D.reads+most
 size:D'.bs.length=D.bs.length
 fuse:M.Fu D'.fuse
theorem v9.case{w:ze}{bs bd:Nat}{D':Dk}{V V':qE}{a c:Int}{zs:Nat}(u:v9 w w' bs bd h D D' V V' a c zs)(k:D'.bs.length=D.bs.length)(next:Value)(f:Int)(m:ByteArray)(o:Int)(p:Bool)(l:Option Addr)(n t:Nat):
 ∃h',kz h D' V.vs c a zs next f m o p l n t h':=by
 cases u with
 |shut d g i v=>
  by_cases e:a=0\/a=5;.exact⟨_,.shut d e (by rw [i];show (if a=0\/a=5 then (8:Int) else a)=8;rw [aB e])⟩
  .exact⟨_,.want (.inr (λh=>e (.inr h))) (λh=>e (.inl h)) (by rw [i];show (if a=0\/a=5 then (8:Int) else a)=a;rw [aw e])⟩
 |live q d g j=>
  rcases j.is with⟨b,h2,_⟩|⟨b,h2,_⟩|⟨b,h2,_,_,r⟩|⟨b,h2,_,s,_⟩;.exact⟨_,.want (.inl d) b h2⟩
  .exact⟨_,.ok d b h2⟩
  .exact⟨_,.space d b h2 (by rw [k];exact r)⟩
  .exact⟨_,.dead d b h2 s⟩
theorem UI(F:ze)(A:xk F)(w:World)(X:Nat->Prop)(bo t:Nat)(h:qg)(bd:Nat)(D:Dk)(S R:Nat->Prop)(I:Nat)(V:qE)(last:Int)(r:yt F w X bo t h bd D S R I V last)(M:t<=4398046511104)(bs:Nat)(hbs:h.s=qz bs)
 (b:ByteArray) (d:b.size<=maxLen) (a:Option Addr) (f:Nat) (l:List UInt8) (P:Nat->Prop) (G:zO w P a l) (C:∀k,P k->¬X k) (E:l.length<=140737488355328) (z:l.length<=f) (B:f<=9223372036854775807):
 Calls Tryz.prog 27 #[.pointer (some ⟨bs,0,none⟩),.string b,.slice a l.length f] w λe w'=>∃D' S' c n,e=.returned (.tuple #[.int .i64 n,.int .i64 c])/\yR F w w' bd bs S S' D D'/\
  v9 F w' bs bd h D D' V (V.add b false l) (fS (zp b.data.toList) l.length) c (yM l.length)/\n=(if c=0 then V.n0+1 else 0)/\X bs/\¬S bs/\¬R bs/\bs≠bo:=by
 have L:=r.n0t;have K:=r.tt
 cases r.st with
 |live j g u p x y m shut mb live=>
  have e:j=bs:=by rw [g] at hbs;unfold qz at hbs;simpa using hbs
  subst e;refine(A.live w bd j S P D V b a f l ⟨r.disk,p,m,live,r.fu,r.reads0,by have:=r.reads1;omega,by omega⟩ d G (λk d=>⟨λo=>C k d (r.sX k o),λo=>C k d (by rw [o];exact u)⟩) E z B).mono ?_;rintro e w' ⟨D',S',c,n,q,v,h2,s,J⟩;exact⟨D',S',c,n,v,⟨h2.disk,h2.foot,h2.kept,h2.reads0,h2.reads1,h2.size,h2.fuse⟩,.live q shut h2.sto s,J,u,p,x,y⟩
 |shut j g u p x y m shut torn=>
  have e:j=bs:=by rw [g] at hbs;unfold qz at hbs;simpa using hbs
  subst e;refine(A.shut w j b a l.length f m d E).mono ?_;rintro e w' ⟨v,h2,s⟩;refine⟨D,S,_,0,v,⟨r.disk.kept s (λi H o=>p (by rw [<-o];exact H)),λk d=>.inl d,s.mono (λk d=>.inr d),by omega,by omega,rfl,r.fu⟩,.shut shut h2 rfl rfl,?_,u,p,x,y⟩;rw [aw];unfold fS ys;cases zp b.data.toList;.simp
  .simp only;split<;>simp
 |gone g torn=>rw [g] at hbs;cases hbs
theorem ze.Could.reads{b:ze}{a:Dk}{P:qE->Prop}(h:b.Could D P)(e:a={D with reads:=a.reads }):b.Could a P:=by
 rw [e];exact⟨h.few,h.big,h.all⟩
theorem vN.reads{t:ze}{R:Nat->Prop}{k:Dk}{V:qE}{last:Int}(u:vN t w R h D V last)(e:k={D with reads:=k.reads }):vN t w R h k V last:=by
 cases u with
 |put mb l b body a d c j g f h2 i p r could m=>exact .put mb l b body a d c j g f h2 i p r (could.reads e) m
 |erase mb us d b a n c j g f h2 i q s o could=>exact .erase mb us d b a n c j g f h2 i q s o (could.reads e)
theorem vN.mono{t:ze}{R R':Nat->Prop}{V:qE}{last:Int}(u:vN t w R h D V last)(e:∀i,R i->i<w.heap.size->R' i):vN t w R' h D V last:=by
 cases u with
 |put mb l b body a d c k g f h2 j p r could o=>exact .put mb l b body a d c k g f h2 j p (r.mono e) could o
 |erase mb us d b a n c k g f h2 j q s m could=>exact .erase mb us d b a n c k g f h2 j (q.mono e e) s m could
theorem kB:zp ByteArray.empty.data.toList=false:=rfl
theorem uA(aw:ze)(w aM I av m:World)(X:Nat->Prop)(bo t:Nat)(h:qg)(bd:Nat)(D P:Dk)(S E R:Nat->Prop)(aT:Nat)(V:qE)(last:Int)(a:yt aw w X bo t h bd D S R aT V last)(bs:Nat)(hbs:h.s=qz bs)
 (aS:za (λ_=>False) w aM) (bm:w.heap.size<aM.heap.size) (g:yR aw aM I bd bs S E D P) (i:X bs/\¬S bs/\¬R bs/\bs≠bo) (p:ByteArray) (j:Bool) (l:List UInt8) (want c:Int) (aA:want=0->p≠ByteArray.empty) (zs:Nat) (bq:0<zs)
 (aR:v9 aw I bs bd h D P V (V.add p j l) want c zs) (n:Int) (aX:n=if c=0 then V.n0+1 else 0) (T:Nat->Prop) (N:za T I av) (aL:∀k,T k->w.heap.size<k/\¬E k) (x:za (λk=>k=bo\/E k) av m)
 (ae:Nat) (aD:Option Addr) (aO:Nat) (h':qg) (aj:zo m bo h') (aU:∃y,zg m bd y P/\∀k,y k->E k) (J:kz h P V.vs c want zs (qz ae) (max last n) p 0 j aD l.length aO h')
 (aV a0:Nat->Prop) (aY:zJ av aV a0 ae (V.vs++[⟨p,n,j,l⟩]) (max last n)) (a2:∀k,aV k->I.heap.size<=k) (a1:∀k,a0 k->R k\/I.heap.size<=k) (a3:zO av (λk=>I.heap.size<=k) aD l):
 (∃X',One aw m X' bo (t+1)/\∀k,X' k->X k\/w.heap.size<=k)/\za X w m:=by
 have ay:=a.xlt;have bk:=ay bo a.bX;have bf:=ay bs i.1;have ar:∀k,E k->k<I.heap.size:=λk b=>g.disk.lt k b;have M:=g.foot;have a7:=g.kept.size;have a6:=N.size;have a8:=x.size
 have aN:¬E bo:=λd=>by
  rcases M bo d with f|f;.exact a.bS f
  .omega
 have ag:¬E bs:=λd=>by
  rcases M bs d with f|f;.exact i.2.1 f
  .omega
 have am:∀k,R k->k<w.heap.size:=λk b=>ay k (a.rX k b).1
 have aQ:∀k,R k->¬E k:=λk b d=>by
  have f:=am k b;rcases M k d with h2|h2;.exact(a.rX k b).2.1 h2
  .omega
 obtain⟨y,z,ac⟩:=aU
 have aZ:=(((aS.mono fE).trans g.kept (λk b=>b.elim (λf=>.inl (a.sX k f)) (λf=>.inl (by rw [f];exact i.1)))).trans N (λk b=>.inr (by have:=(aL k b).1;omega))).trans x (λk b=>by
  rcases b with rfl|b;.exact .inl a.bX
  .rcases M k b with f|f;.exact .inl (a.sX k f)
   .exact .inr (by omega))
 refine⟨⟨λk=>X k\/(w.heap.size<=k/\k<m.heap.size),?_,λk b=>b.imp id (λh=>h.1)⟩,aZ⟩
 have aq:∀k,R k->¬(S k\/k=bs):=λk b d=>by
  rcases d with d|d;.exact(a.rX k b).2.1 d
  .exact i.2.2.1 (by rw [<-d];exact b)
 have Z:∀k,R k->¬T k:=λk b d=>by have:=(aL k d).1;have:=am k b;omega
 have H:∀k,R k->¬(k=bo\/E k):=λk b d=>d.elim (a.rX k b).2.2 (aQ k b);let R':Nat->Prop:=λk=>R k\/(I.heap.size<=k/\k<av.heap.size);have ai:∀k,R k->k<m.heap.size->R' k:=λk b _=>.inl b;have ap:=((((a.ref.kept aS nF nF).kept g.kept aq aq).kept N Z Z).kept x H H).mono ai ai
 have o:∀k,R' k->¬(k=bo\/E k):=λk b d=>by
  rcases b with b|b;.exact H k b d
  .rcases d with d|d;.omega
   .have:=ar k d;omega
 have aC:=(aY.mono (F':=R') (G':=R') (λk b L=>.inr ⟨a2 k b,L⟩) (λk b L=>(a1 k b).imp id (λh=>⟨h,L⟩))).kept x o o;have az:=(a3.mono (Q:=R') (λk b L=>.inr ⟨b,L⟩)).kept x o
 have ah:∀k,R' k->(X k\/(w.heap.size<=k/\k<m.heap.size))/\¬y k/\k≠bo:=λk b=>by
  refine⟨?_,λd=>o k b (.inr (ac k d)),λd=>o k b (.inl d)⟩;rcases b with b|b;.exact .inl (a.rX k b).1
  .exact .inr ⟨by omega,by omega⟩
 have r:¬R' bs:=λd=>by
  rcases d with d|d;.exact i.2.2.1 d
  .omega
 have A:∀q,aw.Sto I bs q->aw.Sto m bs q:=λq bb=>aw.sto_kept _ _ _ _ _ (aw.sto_kept _ _ _ _ _ bb N (λd=>by have:=(aL bs d).1;omega)) x (λd=>d.elim i.2.2.2 ag)
 have ao:∀k,y k->X k\/(w.heap.size<=k/\k<m.heap.size):=λk b=>by
  have f:=ac k b;rcases M k f with h2|h2;.exact .inl (a.sX k h2)
  .exact .inr ⟨by omega,by have:=ar k f;omega⟩
 have W:∀k,(X k\/(w.heap.size<=k/\k<m.heap.size))->k<m.heap.size:=λk b=>by
  rcases b with b|b;.have:=ay k b;omega
  .exact b.2
 have ak:¬y bo:=λd=>aN (ac bo d);have B:¬y bs:=λd=>ag (ac bs d);have bl:=a.tt;have bp:=a.reads0;have bn:=a.reads1;have a9:=g.reads0;have bj:=g.reads1;have aG:=a.last0;have aP:=a.n0t;have ad:=a.told0;have ax:=a.died0;have a5:=g.size;have bc:=a.big;have ba:=a.good.n0;have al:=a.hd;have aE:=a.his
 have Y:h'=h->kI aw m (λk=>X k\/(w.heap.size<=k/\k<m.heap.size)) y R' bo bd h P V last->One aw m (λk=>X k\/(w.heap.size<=k/\k<m.heap.size)) bo (t+1):=λe st=>by subst e;exact⟨h',bd,P,y,R',aT,V,last,aj,al,aE,z,ap,ao,ah,.inl a.bX,ak,W,aG,a.lastv,ad,ax,aP,by omega,by omega,by omega,g.fuse,a.good,by omega,st⟩
 cases aR with
 |shut s F d bi=>
  have e:h'=h:=by
   cases J with
   |shut=>rfl
   |want=>rfl
   |space f=>simp [s] at f
   |ok f=>rw [s] at f;cases f
   |dead f=>rw [s] at f;cases f
  refine Y e ?_
  cases a.st with
  |live _ _ _ _ _ _ _ shut=>rw [s] at shut;cases shut
  |gone G=>rw [G] at hbs;cases hbs
  |shut aI G aH aK aJ aF au u torn=>
   exact .shut bs hbs (.inl i.1) B r i.2.2.2 (A _ F) s ((((((torn.kept aS nF).kept g.kept aq).kept N Z).kept x H).mono ai).reads bi)
 |live q s F a4=>
  have aW:=a.st
  have an:h.mb=.pointer none:=by
   cases aW with
   |live aI G aH aK aJ aF au u mb=>exact mb
   |gone G=>rw [G] at hbs;cases hbs
   |shut aI G aH aK aJ aF au u=>rw [s] at u;cases u
  rcases a4.is with⟨f,h2,U,aa⟩|⟨f,h2,U,aa⟩|⟨f,h2,U,aa,_⟩|⟨f,h2,U,aa,bh⟩
  .subst U
   have e:h'=h:=by
    cases J with
    |shut=>rfl
    |want=>rfl
    |space=>rfl
    |ok _ C=>exact absurd C f
    |dead _ C=>exact absurd C f
   exact Y e (.live bs hbs (.inl i.1) B r i.2.2.2 (A _ F) s an aa)
  .subst U
   have e:h'={h with is:=qz ae,died:=0,told:=max last n}:=by
    cases J with
    |shut O=>rw [s] at O;cases O
    |want _ C=>exact absurd f C
    |space _ _ K=>omega
    |ok=>unfold qg.okd;rw [aB (by omega)]
    |dead _ _ K=>omega
   rw [aB h2] at aX;have af:max last n=V.n0+1:=by omega
   have be:(V.add p j l).vs=V.vs++[⟨p,n,j,l⟩]:=by rw [aX];rfl
   have ab:=aa.good;subst e;refine⟨_,bd,P,y,R',ae,V.add p j l,max last n,aj,al,rfl,z,by rw [be];exact aC,ao,ah,.inl a.bX,ak,W,?_,λv bg=>?_,?_,?_,?_,?_,by omega,by omega,g.fuse,ab,by omega,.live bs hbs (.inl i.1) B r i.2.2.2 (A _ F) s an aa⟩;.rw [af];exact eb _
   .have:=(ab.num v bg).2;rw [af];exact this
   .show 0<=max last n;omega
   .show (0:Int)<=0;omega
   .show V.n0+1<=max last n+0;omega
   .show max last n+0<=((t+1:Nat):Int);omega
  .subst U
   have e:h'=h:=by
    cases J with
    |shut=>rfl
    |want=>rfl
    |space=>rfl
    |ok _ _ K=>omega
    |dead _ _ K=>omega
   exact Y e (.live bs hbs (.inl i.1) B r i.2.2.2 (A _ F) s an aa)
  .subst U
   have e:h'={h with shut:=true,mb:=qz ae,k0:=.string p,k1:=.int .i64 0,k2:=.bool j,k3:=.slice aD l.length aO,died:=h.died+1}:=by
    cases J with
    |shut O=>rw [s] at O;cases O
    |want _ C=>exact absurd f C
    |space _ _ K=>omega
    |ok _ _ K=>omega
    |dead=>rfl
   subst e
   refine⟨_,bd,P,y,R',aT,V,last,aj,al,aE,z,ap,ao,ah,.inl a.bX,ak,W,aG,a.lastv,ad,?_,?_,?_,by omega,by omega,g.fuse,a.good,by omega,
    .shut bs hbs (.inl i.1) B r i.2.2.2 (A _ F) rfl (.put ae p j l aD 0 aO rfl rfl rfl rfl rfl (aA f) az bh ?_)⟩
   .show 0<=h.died+1;omega
   .show V.n0<=h.told+(h.died+1);omega
   .show h.told+(h.died+1)<=((t+1:Nat):Int);omega
   .show V.n0+1<=h.told+(h.died+1);omega
end law
end Go.Proofs.YtcoengihaobddaaGreatDoor
