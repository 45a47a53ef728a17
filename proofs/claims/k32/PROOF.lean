import PyProof.Rows.All
import Wide.All
import OpenK.AllK
import Wide.FinOn
import Lean
import PyProof.EqAt
import PyProof.EqKinds
import PyProof.TupleCall
import PyProof.NeKinds
import KE.KDictOf
import PyProof.AttrMissSeq
import PyProof.DictList
import PyProof.WalksMore
import KE.KDictList
import PyProof.FactsAll.dict_4
import PyProof.ZipIter
import PyProof.ListRange
import OpenK.KOwn
import PyProof.Rows.CatchOwn
import KE.KIsNot
import KE.KRevIter
import PyProof.DictWalks
import PyProof.ConsumeWalk
import PyProof.TupleOfStr
import PyProof.StrOps2
import PyProof.SliceStr2
import PyProof.StrBlockI
import PyProof.Rows.StrClose5
import PyProof.Rows.CatFin
import KE.KIsAll
import KE.KSortTup
import PyProof.MeetsStr
import PyProof.MeetsStr2
import PyProof.StrLawsIn
import PyProof.Rows.StrLawsPart
import PyProof.Rows.StrRev
import PyProof.Draws
import PyProof.EnumMake
import PyProof.Rows.CountFlat
import PyProof.CallStr
import PyProof.FitsInt
import PyProof.WalkInts
import PyProof.Rows.CallKwBuiltin
import KE.KMinBuiltin
import PySem.Challenge.RW_linegrow_k32_fast_books
set_option Elab.async false
set_option linter.all false
set_option maxRecDepth 100000
set_option maxHeartbeats 4000000
namespace L2
open PySem PySem.Spec PyProof.Rows
abbrev Key:=Sum Int Str
def keyIs:Key->Value->Bool
 | .inl k,v=>Value.isInt k v
 | .inr x,v=>Value.isStrOf x v
def keyH (w:World):Key->Int
 | .inl k=>hashInt k
 | .inr x=>hashStr w x
theorem qw:∀ {k:Key} {v:Value},keyIs k v=true->(∃ i t,k=Sum.inl i/\v=Value.int i t)\/(∃ x t,k=Sum.inr x/\v=Value.str x t)
 | .inl i,v,h=>by
  obtain ⟨t,e⟩:=Value.isInt_shape (k:=i) (v:=v) h
  exact .inl ⟨i,t,rfl,e⟩
 | .inr x,v,h=>by
  obtain ⟨t,e⟩:=Value.isStrOf_shape (x:=x) (v:=v) h
  exact .inr ⟨x,t,rfl,e⟩
theorem qbm (i:Int) (t:Tok):keyIs (.inl i) (.int i t)=true:=by simp [keyIs,Value.isInt]
theorem qbn (x:Str) (t:Tok):keyIs (.inr x) (.str x t)=true:=by simp [keyIs,Value.isStrOf]
theorem qhh (a b:Int):decide ((Sum.inl a:Key)=Sum.inl b)=(a == b):=by
 by_cases e:a=b
 ·subst e;simp
 ·have h:¬ (Sum.inl a:Key)=Sum.inl b:=fun q=>e (Sum.inl.inj q)
  rw [decide_eq_false h]
  exact (beq_eq_false_iff_ne.mpr e).symm
theorem qhi (a b:Str):decide ((Sum.inr a:Key)=Sum.inr b)=decide (a=b):=by
 by_cases e:a=b
 ·subst e;simp
 ·have h:¬ (Sum.inr a:Key)=Sum.inr b:=fun q=>e (Sum.inr.inj q)
  rw [decide_eq_false h,decide_eq_false e]
theorem qhj (a:Int) (b:Str):decide ((Sum.inl a:Key)=Sum.inr b)=false:=decide_eq_false (fun q=>nomatch q)
theorem qhk (a:Str) (b:Int):decide ((Sum.inr a:Key)=Sum.inl b)=false:=decide_eq_false (fun q=>nomatch q)
def mixKind (prog:Program) (w:World):PySem.KeyKind prog w Key where
 is:=keyIs
 hash:=keyH w
 inj:=fun v a b ha hb=>by
  rcases qw ha with ⟨i,t,rfl,rfl⟩ | ⟨x,t,rfl,rfl⟩
  ·rcases qw hb with ⟨j,u,rfl,e⟩ | ⟨y,u,rfl,e⟩
   ·injection e with e1 _;rw [e1]
   ·exact nomatch e
  ·rcases qw hb with ⟨j,u,rfl,e⟩ | ⟨y,u,rfl,e⟩
   ·exact nomatch e
   ·injection e with e1 _;rw [e1]
 byValue:=fun k v h=>by
  rcases qw h with ⟨i,t,rfl,rfl⟩ | ⟨x,t,rfl,rfl⟩ <;> rfl
 pyHash:=fun hv h=>by
  rcases qw hv with ⟨i,t,rfl,rfl⟩ | ⟨x,t,rfl,rfl⟩
  ·exact wpAny_pyHash_int h
  ·exact wpAny_pyHash_str h
 eqBool:=fun hu hv h=>by
  rcases qw hu with ⟨i,t,rfl,rfl⟩ | ⟨x,t,rfl,rfl⟩
  ·rcases qw hv with ⟨j,u,rfl,rfl⟩ | ⟨y,u,rfl,rfl⟩
   ·rw [qhh] at h;exact wpAny_eqBool_int h
   ·rw [qhj] at h;exact SeqAt.EqAt.int_str i t y u _ _ _ _ h
  ·rcases qw hv with ⟨j,u,rfl,rfl⟩ | ⟨y,u,rfl,rfl⟩
   ·rw [qhk] at h;exact SeqAt.EqAt.str_int x t j u _ _ _ _ h
   ·rw [qhi] at h;exact wpAny_eqBool_str h
 «strs»:=fun k x t v h=>by
  rcases qw h with ⟨i,u,rfl,e⟩ | ⟨y,u,rfl,e⟩
  ·exact nomatch e
  ·injection e with e1 _
   subst e1
   cases v <;> rfl
theorem Z2 (prog:Program) (w:World) (i:Int) (t:Tok):(mixKind prog w).is (.inl i) (.int i t)=true:=qbm i t
theorem Z3 (prog:Program) (w:World) (x:Str) (t:Tok):(mixKind prog w).is (.inr x) (.str x t)=true:=qbn x t
end L2
namespace L2
open PySem PySem.Spec PyProof.Rows
inductive V where
 | non | bl (b:Bool) | int (i:Int) | str (x:Str) | byt (b:Array UInt8) | flt (b:UInt64) | ref (a:Addr) | ty (n:String)
 deriving DecidableEq
def RelV:V->Value->Prop
 | .non,u=>u=Value.none
 | .bl b,u=>u=Value.bool b
 | .int i,u=>∃ t,u=Value.int i t
 | .str x,u=>∃ t,u=Value.str x t
 | .byt b,u=>∃ t,u=Value.bytes b t
 | .flt b,u=>∃ t,u=Value.float b t
 | .ref a,u=>u=Value.ref a
 | .ty n,u=>u=Value.type n
abbrev Vals:List V->List Value->Prop:=Paired RelV
theorem Vals.length {xs:List V} {us:List Value} (r:Vals xs us):xs.length=us.length:=Paired.length r
theorem Vals.get:∀ {xs:List V} {us:List Value} {i:Nat} {x:V},Vals xs us->xs[i]? = some x->∃ u,us[i]? = some u/\RelV x u
 | _,_,_,_,.nil,e=>by simp at e
 | _,_,0,_,.cons r _,e=>by simp at e;subst e;exact ⟨_,rfl,r⟩
 | _,_,i+1,x,.cons _ t,e=>by
  obtain ⟨u,h1,h2⟩:=Vals.get (i:=i) (x:=x) t (by simpa using e)
  exact ⟨u,by simpa using h1,h2⟩
theorem Vals.set {x:V} {u:Value} (r:RelV x u):∀ {xs:List V} {us:List Value} (i:Nat),Vals xs us->Vals (xs.set i x) (us.set i u)
 | _,_,_,.nil=>.nil
 | _,_,0,.cons _ t=>.cons r t
 | _,_,i+1,.cons q t=>.cons q (Vals.set r i t)
theorem Vals.append:∀ {xs ys:List V} {us ws:List Value},Vals xs us->Vals ys ws->Vals (xs++ys) (us++ws)
 | _,_,_,_,.nil,s=>s
 | _,_,_,_,.cons r t,s=>.cons r (Vals.append t s)
theorem Vals.take:∀ {xs:List V} {us:List Value} (n:Nat),Vals xs us->Vals (xs.take n) (us.take n)
 | _,_,0,_=>.nil
 | _,_,_+1,.nil=>.nil
 | _,_,n+1,.cons r t=>.cons r (Vals.take n t)
theorem Vals.drop:∀ {xs:List V} {us:List Value} (n:Nat),Vals xs us->Vals (xs.drop n) (us.drop n)
 | _,_,0,r=>r
 | _,_,_+1,.nil=>.nil
 | _,_,n+1,.cons _ t=>Vals.drop n t
def RelO:Option V->Option Value->Prop
 | some v,some u=>RelV v u
 | none,none=>True
 | _,_=>False
def KV {κ:Type}:List (κ × V)->List (κ × Value)->Prop:=Paired fun (p:κ × V) (q:κ × Value)=>p.1=q.1/\RelV p.2 q.2
def kV:Key->V
 | .inl i=>.int i
 | .inr x=>.str x
inductive HO where
 /-- a list -/
 | lst (xs:List V)
 /-- a tuple (never changes) -/
 | tup (xs:List V)
 /-- a dict whose keys are ints and texts;one whose keys are tuples of ints and texts (the empty one is both) -/
 | dK (kvs:List (Key × V)) | dT (kvs:List (List Key × V))
 /-- a set of ints: its members,its size -/
 | set (S:Int->Bool) (n:Nat)
 /-- an instance of the class at C,its dict at dx,its attributes -/
 | ins (C dx:Addr) (fs:List (Str × V))
 /-- the dict of the instance at x -/
 | own (x:Addr)
 /-- the dict of an exception -/
 | xd (fs:List (Str × V))
 /-- a bound method,f of x -/
 | met (f x:Addr)
 /-- a range object lo,lo+1,.. below hi -/
 | rng (lo hi:Int)
 /-- a thing that is known to the object (the script;a dict while a loop walks it): read,never written while it is so -/
 | frz (o:Obj) (u:HO)
 /-- a code object's table -/
 | tbl (ps:Array Value)
 /-- any other thing,by what is true of its one object (a def of one's own: SetO a S n:=HO.ext fun h=>..) -/
 | ext (φ:Heap->Prop)
abbrev Hp:=Addr->Option HO
def upd (H:Hp) (a:Addr) (o:HO):Hp:=fun b=>if b=a then some o else H b
theorem upd_same {H:Hp} {a:Addr} {o:HO}:upd H a o a=some o:=by unfold upd;rw [if_pos rfl]
theorem qg {H:Hp} {a b:Addr} {o:HO} (h:b≠a):upd H a o b=H b:=by unfold upd;rw [if_neg h]
theorem ne_of {H:Hp} {a b:Addr} {o u:HO} (h:H a=some o) (h':H b=some u) (d:o≠u):a≠b:=by
 intro e;subst e;rw [h] at h';exact d (Option.some.inj h')
theorem ne_of_none {H:Hp} {a b:Addr} {o:HO} (h:H a=some o) (h':H b=none):a≠b:=by
 intro e;subst e;rw [h] at h';cases h'
section
variable (P:Program) (w:World)
def Bare (h:Heap) (a:Addr):Prop:=∃ o,h.get? a=some o/\o.dict=none
def ObjOk (H:Hp) (h:Heap) (a:Addr):HO->Prop
 | .lst xs=>xs.length<=sizeLine/\∃ (its:List Value) (n:Nat),Vals xs its/\h.get? a=some { cls:=.type "list",data:=.seq its.toArray n }
 | .tup xs=>xs.length<=sizeLine/\∃ its:List Value,Vals xs its/\IsTup h a its.toArray/\Bare h a
 | .dK kvs=>kvs.length<=sizeLine/\(a == sysModules)=false/\∃ vs,KV kvs vs/\h.DictOf (mixKind P w) a vs
 | .dT kvs=>kvs.length<=sizeLine/\(a == sysModules)=false/\∃ xs:List (List Key × Addr × Value),
   Paired (fun (p:List Key × V) (q:List Key × Addr × Value)=>p.1=q.1/\H q.2.1=some (.tup (p.1.map kV))/\RelV p.2 q.2.2) kvs xs /\
   ∃ o es ep,h.get? a=some o/\o.ExactDict/\o.data=.dict es ep/\es.toList=xs.map (entryOfKey (tupleKind (mixKind P w)))/\(xs.map (·.1)).Nodup
 | .set S n=>h.SetOf (intKind P w) a S n
 | .ins C dx fs=>H dx=some (.own a)/\fs.length<=1000/\dx≠a/\h.get? a=some (W.instObj C dx) /\
   ∃ mA,h.Ns1 dx mA/\(∀ f,RelO (fs.lookup f) (mA f))/\PySem.Within mA (fs.map (·.1))
 | .own _=>∃ o,h.get? a=some o
 | .xd fs=>∃ mA,h.Ns1 a mA/\∀ f,RelO (fs.lookup f) (mA f)
 | .rng lo hi=>∃ t u v,h.get? a=some { cls:=.type "range",data:=.fields #[.int lo t,.int hi u,.int 1 v] }
 | .frz o u=>h.get? a=some o/\ObjOk H h a u
 | .tbl ps=>h.get? a=some { cls:=.none,data:=.fields ps }
 | .met f x=>h.get? a=some (W.methodObj (.ref f) (.ref x))
 | .ext φ=>φ h/\(∃ o,h.get? a=some o)/\∀ h1 h2:Heap,φ h1->(∀ o,h1.get? a=some o->h2.get? a=some o)->φ h2
def HOk (H:Hp) (h:Heap):Prop:=∀ a o,H a=some o->ObjOk P w H h a o
end
section
variable {P:Program} {w:World} {H H':Hp} {h h':Heap} {a:Addr} {o:HO}
theorem ObjOk.lt (x:ObjOk P w H h a o):a < h.objs.size:=by
 cases o with
 | lst xs=>obtain ⟨_,_,_,_,e⟩:=x;exact Heap.lt_size e
 | tup xs=>obtain ⟨_,_,_,p,_⟩:=x;exact p.lt
 | dK kvs=>obtain ⟨_,_,_,_,o,_,_,e,_⟩:=x;exact Heap.lt_size e
 | dT kvs=>obtain ⟨_,_,_,_,o,_,_,e,_⟩:=x;exact Heap.lt_size e
 | set S n=>obtain ⟨o,_,_,_,e,_⟩:=x;exact Heap.lt_size e
 | ins C dx fs=>obtain ⟨_,_,_,e,_⟩:=x;exact Heap.lt_size e
 | own y=>obtain ⟨_,e⟩:=x;exact Heap.lt_size e
 | xd fs=>obtain ⟨_,⟨_,_,_,e,_⟩,_⟩:=x;exact Heap.lt_size e
 | rng lo hi=>obtain ⟨_,_,_,e⟩:=x;exact Heap.lt_size e
 | frz ob u=>obtain ⟨e,_⟩:=x;exact Heap.lt_size e
 | tbl ps=>exact Heap.lt_size (show h.get? a=some _ from x)
 | met f y=>exact Heap.lt_size (show h.get? a=some _ from x)
 | ext φ=>obtain ⟨_,⟨_,e⟩,_⟩:=x;exact Heap.lt_size e
theorem Paired.mapP {α β:Type} {F G:α->β->Prop}:∀ {l₁:List α} {l₂:List β},Paired F l₁ l₂->(∀ a b,F a b->G a b)->Paired G l₁ l₂
 | _,_,.nil,_=>.nil
 | _,_,.cons r t,f=>.cons (f _ _ r) (Paired.mapP t f)
theorem ObjOk.stay (x:ObjOk P w H h a o) (k:∀ b u,(b=a\/H b=some (.own a))->h.get? b=some u->h'.get? b=some u)
  (ho:∀ b,H b=some (.own a)->H' b=some (.own a)) (ht:∀ b xs,H b=some (.tup xs)->H' b=some (.tup xs)):ObjOk P w H' h' a o:=by
 induction o with
 | lst xs=>obtain ⟨z,its,n,r,e⟩:=x;exact ⟨z,its,n,r,k _ _ (.inl rfl) e⟩
 | tup xs=>obtain ⟨z,its,r,⟨ob,e,c⟩,o2,e2,c2⟩:=x;exact ⟨z,its,r,⟨ob,k _ _ (.inl rfl) e,c⟩,o2,k _ _ (.inl rfl) e2,c2⟩
 | dK kvs=>obtain ⟨z,y,vs,r,ob,es,ep,e,c⟩:=x;exact ⟨z,y,vs,r,ob,es,ep,k _ _ (.inl rfl) e,c⟩
 | dT kvs =>
  obtain ⟨z,y,xs,r,ob,es,ep,e,c⟩:=x
  exact ⟨z,y,xs,Paired.mapP r fun p q z=>⟨z.1,ht _ _ z.2.1,z.2.2⟩,ob,es,ep,k _ _ (.inl rfl) e,c⟩
 | set S n=>obtain ⟨ob,es,ep,t,e,c⟩:=x;exact ⟨ob,es,ep,t,k _ _ (.inl rfl) e,c⟩
 | ins C dx fs =>
  obtain ⟨d,z,ne,e,mA,⟨od,es,ep,e2,c⟩,r⟩:=x
  exact ⟨ho _ d,z,ne,k _ _ (.inl rfl) e,mA,⟨od,es,ep,k _ _ (.inr d) e2,c⟩,r⟩
 | own y=>obtain ⟨ob,e⟩:=x;exact ⟨ob,k _ _ (.inl rfl) e⟩
 | xd fs=>obtain ⟨mA,⟨od,es,ep,e,c⟩,r⟩:=x;exact ⟨mA,⟨od,es,ep,k _ _ (.inl rfl) e,c⟩,r⟩
 | rng lo hi=>obtain ⟨t,u,v,e⟩:=x;exact ⟨t,u,v,k _ _ (.inl rfl) e⟩
 | frz ob u ih=>obtain ⟨e,q⟩:=x;exact ⟨k _ _ (.inl rfl) e,ih q⟩
 | tbl ps =>
  have e:h.get? a=some { cls:=.none,data:=.fields ps }:=x
  show h'.get? a=some { cls:=.none,data:=.fields ps }
  exact k a _ (.inl rfl) e
 | met f y =>
  have e:h.get? a=some (W.methodObj (.ref f) (.ref y)):=x
  show h'.get? a=some (W.methodObj (.ref f) (.ref y))
  exact k a _ (.inl rfl) e
 | ext φ=>obtain ⟨p,⟨o,e⟩,st⟩:=x;exact ⟨st _ _ p fun o q=>k _ _ (.inl rfl) q,⟨o,k _ _ (.inl rfl) e⟩,st⟩
theorem HOk.lt (x:HOk P w H h) (e:H a=some o):a < h.objs.size:=(x a o e).lt
theorem HOk.fresh (x:HOk P w H h) (e:h.objs.size<=a):H a=none:=by
 cases q:H a with
 | none=>rfl
 | some u=>exact absurd (Nat.lt_of_lt_of_le (x.lt q) e) (Nat.lt_irrefl _)
theorem HOk.kept (x:HOk P w H h) (k:∀ b u,h.get? b=some u->h'.get? b=some u):HOk P w H h':=fun a o e =>
 (x a o e).stay (fun b u _ q=>k b u q) (fun _ q=>q) fun _ _ q=>q
theorem HOk.laid (x:HOk P w H h) (k:∀ b u,h.get? b=some u->h'.get? b=some u) (hp:h.objs.size<=a) (new:ObjOk P w (upd H a o) h' a o):HOk P w (upd H a o) h':=fun b u e=>by
 have hn:=x.fresh hp
 by_cases hb:b=a
 ·subst hb;rw [upd_same] at e;cases e;exact new
 ·rw [qg hb] at e
  exact (x b u e).stay (fun c v _ q=>k c v q) (fun c q=>by rw [qg (ne_of_none q hn)];exact q) fun c xs q=>by rw [qg (ne_of_none q hn)];exact q
end
def Rd (H:Hp) (a:Addr) (u:HO):Prop:=H a=some u\/∃ o,H a=some (.frz o u)
theorem Rd.of {H:Hp} {a:Addr} {u:HO} (h:H a=some u):Rd H a u:=.inl h
theorem Rd.ok {P:Program} {w:World} {H:Hp} {h:Heap} {a:Addr} {u:HO} (r:Rd H a u) (x:HOk P w H h):ObjOk P w H h a u:=by
 rcases r with r | ⟨o,r⟩
 ·exact x a u r
 ·obtain ⟨_,q⟩:=x a _ r
  exact q
def Mut:Option HO->Prop
 | some (.lst _)=>True
 | some (.dK _)=>True
 | some (.dT _)=>True
 | some (.set _ _)=>True
 | some (.ins _ _ _)=>True
 | some (.ext _)=>True
 | _=>False
section
variable {P:Program} {w:World} {H:Hp} {h h':Heap} {x e:Addr} {o':HO}
theorem HOk.write (ok:HOk P w H h) (mu:Mut (H x)) (he:e=x\/H e=some (.own x)) (k:∀ b u,b≠e->h.get? b=some u->h'.get? b=some u) (heo:∃ u,h'.get? e=some u)
  (new:ObjOk P w (upd H x o') h' x o'):HOk P w (upd H x o') h':=fun b u q=>by
 have nown:∀ c y,H c=some (.own y)->c≠x:=fun c y r z=>by subst z;rw [r] at mu;exact mu
 have ntup:∀ c xs,H c=some (.tup xs)->c≠x:=fun c xs r z=>by subst z;rw [r] at mu;exact mu
 by_cases hb:b=x
 ·subst hb;rw [upd_same] at q;cases q;exact new
 ·rw [qg hb] at q
  by_cases hbe:b=e
  ·have q':H b=some (.own x):=by
    rcases he with z | z
    ·exact absurd (hbe.trans z) hb
    ·rw [hbe];exact z
   rw [q] at q';cases q'
   obtain ⟨v,hv⟩:=heo
   exact ⟨v,by rw [hbe];exact hv⟩
  ·refine (ok b u q).stay (fun c v hc r=>k c v ?_ r) (fun c r=>by rw [qg (nown c b r)];exact r) fun c xs r=>by rw [qg (ntup c xs r)];exact r
   rcases hc with rfl | hc
   ·exact hbe
   ·rintro rfl
    rcases he with z | z
    ·exact nown c b hc z
    ·rw [hc] at z;cases z;exact hb rfl
end
structure Un (fs ex:List Addr) (H H':Hp) (h h':Heap):Prop where
 keep:∀ b o,h.get? b=some o->H b=none->b ∉ fs->b ∉ ex->h'.get? b=some o
 slot:∀ b o,h.get? b=some o->H b=none->b∈fs->b ∉ ex->∃ sl,h'.get? b=some { o with slots:=sl }
 free:∀ b o,h.get? b=some o->H b=none->b ∉ ex->H' b=none
 there:∀ b o,h.get? b=some o->b ∉ ex->∃ o',h'.get? b=some o'
 tups:∀ b xs,H b=some (.tup xs)->H' b=some (.tup xs)
 frzs:∀ b o u,H b=some (.frz o u)->H' b=some (.frz o u)
 tbls:∀ b ps,H b=some (.tbl ps)->∃ more,H' b=some (.tbl (ps++more))
section
variable {fs fs' ex ex':List Addr} {H H1 H2:Hp} {h h1 h2 h':Heap} {a x e:Addr} {o:HO}
theorem Un.any (u:Un fs ex H H1 h h1) {b:Addr} {ob:Obj} (q:h.get? b=some ob) (n:H b=none) (hx:b ∉ ex):∃ sl,h1.get? b=some { ob with slots:=sl }:=by
 by_cases hb:b∈fs
 ·exact u.slot b ob q n hb hx
 ·exact ⟨ob.slots,u.keep b ob q n hb hx⟩
theorem Un.trans (a:Un fs ex H H1 h h1) (b:Un fs ex H1 H2 h1 h2):Un fs ex H H2 h h2 where
 keep:=fun c ob q n hc hx=>b.keep c ob (a.keep c ob q n hc hx) (a.free c ob q n hx) hc hx
 slot:=fun c ob q n hc hx=>by
  obtain ⟨sl,e1⟩:=a.slot c ob q n hc hx
  obtain ⟨sl',e2⟩:=b.slot c _ e1 (a.free c ob q n hx) hc hx
  exact ⟨sl',e2⟩
 free:=fun c ob q n hx=>by
  obtain ⟨o',e1⟩:=a.there c ob q hx
  exact b.free c o' e1 (a.free c ob q n hx) hx
 there:=fun c ob q hx=>by
  obtain ⟨o',e1⟩:=a.there c ob q hx
  exact b.there c o' e1 hx
 tups:=fun c xs q=>b.tups c xs (a.tups c xs q)
 frzs:=fun c ob xs q=>b.frzs c ob xs (a.frzs c ob xs q)
 tbls:=fun c ps q=>by
  obtain ⟨m1,e1⟩:=a.tbls c ps q
  obtain ⟨m2,e2⟩:=b.tbls c _ e1
  exact ⟨m1++m2,by rw [e2,Array.append_assoc]⟩
theorem Un.kept (k:∀ b u,h.get? b=some u->h'.get? b=some u):Un fs ex H H h h' :=
 ⟨fun b ob q _ _ _=>k b ob q,fun b ob q _ _ _=>⟨ob.slots,k b ob q⟩,fun _ _ _ n _=>n,fun b ob q _=>⟨ob,k b ob q⟩,fun _ _ q=>q,fun _ _ _ q=>q,fun _ ps q=>⟨#[],by rw [q];simp⟩⟩
theorem Un.refl:Un fs ex H H h h:=Un.kept fun _ _ q=>q
theorem Un.laid (k:∀ b u,h.get? b=some u->h'.get? b=some u) (hp:h.objs.size<=a) (hn:H a=none):Un fs ex H (upd H a o) h h' where
 keep:=fun b u q _ _ _=>k b u q
 slot:=fun b u q _ _ _=>⟨u.slots,k b u q⟩
 free:=fun b u q n _=>by rw [qg (Nat.ne_of_lt (Nat.lt_of_lt_of_le (Heap.lt_size q) hp))];exact n
 there:=fun b u q _=>⟨u,k b u q⟩
 tups:=fun b xs q=>by rw [qg (ne_of_none q hn)];exact q
 frzs:=fun b u xs q=>by rw [qg (ne_of_none q hn)];exact q
 tbls:=fun b ps q=>⟨#[],by rw [qg (ne_of_none q hn),q];simp⟩
theorem Un.write (mu:Mut (H x)) (he:e=x\/H e=some (.own x)) (k:∀ b u,b≠e->h.get? b=some u->h'.get? b=some u) (heo:∃ u,h'.get? e=some u):Un fs ex H (upd H x o) h h':=by
 have hx:∀ b,H b=none->b≠x:=fun b n z=>by subst z;rw [n] at mu;exact mu
 have hb:∀ b,H b=none->b≠e:=fun b n z=>by
  subst z
  rcases he with r | r
  ·exact hx b n r
  ·rw [n] at r;cases r
 have hm:∀ b u,H b=some u->¬ Mut (some u)->b≠x:=fun b u q nm z=>by subst z;rw [q] at mu;exact nm mu
 refine ⟨fun b u q n _ _=>k b u (hb b n) q,fun b u q n _ _=>⟨u.slots,k b u (hb b n) q⟩,fun b u q n _=>by rw [qg (hx b n)];exact n,fun b u q _=>?_,
  fun b xs q=>by rw [qg (hm b _ q fun z=>z)];exact q,fun b u xs q=>by rw [qg (hm b _ q fun z=>z)];exact q,fun b ps q=>⟨#[],by rw [qg (hm b _ q fun z=>z),q];simp⟩⟩
 by_cases hbe:b=e
 ·subst hbe;exact heo
 ·exact ⟨u,k b u hbe q⟩
theorem Un.mono (u:Un fs ex H H1 h h1) (hs:∀ b∈fs,b∈fs') (hx:∀ b∈ex,b∈ex'):Un fs' ex' H H1 h h1 :=
 ⟨fun b ob q n hb he=>u.keep b ob q n (fun z=>hb (hs b z)) fun z=>he (hx b z),fun _ _ q n _ he=>u.any q n fun z=>he (hx _ z),fun b ob q n he=>u.free b ob q n fun z=>he (hx b z),fun b ob q he=>u.there b ob q fun z=>he (hx b z),u.tups,u.frzs,u.tbls⟩
end
def trk (h:Heap) (H:Hp):List Addr:=(List.range h.objs.size).filter fun a=>(H a).isSome
def hidT (h:Heap) (H:Hp):Heap:=W.hideAll h (trk h H)
theorem qbo (h:Heap) (H:Hp):(hidT h H).objs.size=h.objs.size:=W.hideAll_size _ _
theorem qdr {h:Heap} {H:Hp} {b:Addr} {o:Obj} (e:h.get? b=some o) (n:H b=none):(hidT h H).get? b=some o :=
 W.hideAll_get _ e fun hm=>by
  have q:(H b).isSome=true:=(List.mem_filter.mp hm).2
  rw [n] at q;simp at q
theorem qfy {h:Heap} {H:Hp} {b:Addr} {o:Obj} (e:(hidT h H).get? b=some o):h.get? b=some o/\H b=none:=by
 have e':h.get? b=some o:=W.of_hideAll (trk h H) e
 refine ⟨e',?_⟩
 cases q:H b with
 | none=>rfl
 | some x =>
  have hm:b∈trk h H:=List.mem_filter.mpr ⟨List.mem_range.mpr (Heap.lt_size e'),by simp [q]⟩
  have z:(hidT h H).get? b=none:=W.hideAll_none (trk h H) hm
  rw [z] at e;cases e
def allNews (g h:Heap) (L:Addr):List (Addr × Obj):=(List.range h.objs.size).filterMap fun a=>if a=L\/(g.get? a).isSome=true then none else (h.get? a).map fun o=>(a,o)
def rest (g h:Heap) (L d:Addr):List (Addr × Obj):=(allNews g h L).filter fun p=>decide (p.1≠d)
end L2
namespace L2
open PySem PySem.Spec PyProof.Rows
structure Mod (K:W.Frag) (mg:Str->Option Value) (base:Heap):Prop where
 kin:K.In base
 glob:base.Ns mainGlobals mg
 blt:∃ mb,base.Ns builtinsNs mb/\∀ x:Str,x≠"__name__"->mb x=bootBuiltins x
 nolimit:base.NoLimit
structure Cx where
 prog:Program
 w:World
 K:W.Frag
 mg:Str->Option Value
 base:Heap
 A:Around
 N:List Str
 s₀:Shared
 H₀:Hp
 env:Env
 outer:List Env
 stack:List Env
 ex:List Addr
 fn:Str->Bool
 calm:Bool
 pn:List (Addr × Obj)
 xe:Value->Shared->Prop
def frs (l:List Env):List Addr:=l.filterMap (·.frame)
abbrev Cx.fs (X:Cx):List Addr:=frs X.outer
def Vis (sc:Scope) (x:Str):Prop:=sc.names.lookup x=some .local\/sc.names.lookup x=some .cell\/sc.names.lookup x=some .free
def Loc (sc:Scope) (x:Str):Prop:=sc.names.lookup x=some .local\/sc.names.lookup x=some .cell
def Look (env:Env) (h:Heap) (m:Str->Option Value) (x:Str) (u:Value):Prop :=
 (env.kindOf x=some .local/\m x=some u)\/((env.kindOf x=some .cell\/env.kindOf x=some .free)/\∃ c,env.cells.lookup x=some c/\h.IsCell c (some u))
structure Cx.Ok (X:Cx):Prop where
 mod:Mod X.K X.mg X.base
 kind:X.env.scope.kind=.function
 glob:X.env.globals=mainGlobals
 blt:X.env.builtins=builtinsNs
 above:X.s₀.heap.objs.size<=X.env.locals
 inj:∀ x y c,X.env.cells.lookup x=some c->X.env.cells.lookup y=some c->x=y
 has:∀ x,(X.env.kindOf x=some .cell\/X.env.kindOf x=some .free)->∃ c,X.env.cells.lookup x=some c
 cab:∀ x c,X.fn x=true->X.env.cells.lookup x=some c->X.s₀.heap.objs.size<=c
 hd:X.calm=true->X.A.handled=none
 frames:X.A.frames=some X.stack
 stk:X.stack=X.outer\/(X.stack=X.env :: X.outer/\X.env.frame=some X.env.locals)
 exf:∀ b∈X.ex,b≠X.env.locals/\∀ x c,X.env.cells.lookup x=some c->c≠b
 bs:∀ b o,X.base.get? b=some o->X.s₀.heap.get? b=some o/\X.H₀ b=none
 bsz:X.base.objs.size<=X.s₀.heap.objs.size
 noex:∀ b o,X.base.get? b=some o->b ∉ X.ex
 exfs:∀ b∈X.ex,b ∉ X.fs
 funs:X.s₀.heap.FunFrames X.base X.outer
 frf:∀ b∈X.fs,X.H₀ b=none
structure Inv (X:Cx) (pins:List (Addr × Obj)) (σ:List (Option V)) (H:Hp) (s:Shared):Prop where
 ok:X.Ok
 os:s.os=X.s₀.os
 bare:AllBare s.gens
 base:Un X.fs X.ex X.H₀ H X.s₀.heap s.heap
 loc:∃ m,s.heap.Ns X.env.locals m/\∀ (i:Nat) (x:Str) (v:V),X.N[i]? = some x->σ[i]? = some (some v)->Vis X.env.scope x->∃ u,RelV v u/\Look X.env s.heap m x u
 cell:∀ x c,X.env.cells.lookup x=some c->∃ v,s.heap.IsCell c v
 free:H X.env.locals=none
 freeC:∀ x c,X.env.cells.lookup x=some c->H c=none
 pin:∀ p∈X.pn++pins,s.heap.get? p.1=some p.2/\H p.1=none/\p.1≠X.env.locals/\p.1 ∉ X.fs/\∀ v,p.2.data≠.cell v
 hok:HOk X.prog X.w H s.heap
 len:σ.length=X.N.length
section
variable {X:Cx} {pins:List (Addr × Obj)} {σ:List (Option V)} {H H':Hp} {s:Shared} {h':Heap}
theorem Cx.Ok.nofr (ok:X.Ok) {b:Addr} {o:Obj} (e:X.base.get? b=some o):b ∉ X.fs:=fun hb=>by
 have:=(ok.funs.mem hb).1
 rw [e] at this;cases this
theorem Inv.bs (I:Inv X pins σ H s):∀ b o,X.base.get? b=some o->s.heap.get? b=some o/\H b=none:=fun b o e =>
 ⟨I.base.keep b o (I.ok.bs b o e).1 (I.ok.bs b o e).2 (I.ok.nofr e) (I.ok.noex b o e),I.base.free b o (I.ok.bs b o e).1 (I.ok.bs b o e).2 (I.ok.noex b o e)⟩
theorem Inv.bk (I:Inv X pins σ H s):∀ b o,X.base.get? b=some o->s.heap.get? b=some o:=fun b o e=>(I.bs b o e).1
theorem Inv.mod (I:Inv X pins σ H s):Mod X.K X.mg X.base:=I.ok.mod
theorem Inv.kIn (I:Inv X pins σ H s):X.K.In s.heap:=I.ok.mod.kin.keeps I.bk
theorem Inv.nolimit (I:Inv X pins σ H s):s.heap.NoLimit:=I.ok.mod.nolimit.keeps I.bk
theorem Inv.fr (I:Inv X pins σ H s):∃ m,Fr X.base X.env.locals s.heap m :=
 let ⟨m,hn,_⟩:=I.loc
 ⟨m,hn,I.bk,Nat.le_trans I.ok.bsz I.ok.above⟩
theorem Inv.lt (I:Inv X pins σ H s):X.env.locals < s.heap.objs.size:=let ⟨_,hn,_⟩:=I.loc;hn.lt
theorem Inv.sz (I:Inv X pins σ H s):X.s₀.heap.objs.size<=s.heap.objs.size:=Nat.le_trans I.ok.above (Nat.le_of_lt I.lt)
theorem Inv.nofs (I:Inv X pins σ H s) {a:Addr} (h:s.heap.objs.size<=a):a ∉ X.fs:=fun hb=>by
 obtain ⟨_,o,ho,_⟩:=I.ok.funs.mem hb
 exact absurd (Nat.lt_of_lt_of_le (Heap.lt_size ho) (Nat.le_trans I.sz h)) (Nat.lt_irrefl _)
theorem Inv.cne (I:Inv X pins σ H s):∀ x c,X.env.cells.lookup x=some c->c≠X.env.locals:=fun x c e z=>by
 obtain ⟨v,o,ho,hd⟩:=I.cell x c e
 obtain ⟨m,⟨o',es,ep,ho',hd',_⟩,_⟩:=I.loc
 rw [z,ho'] at ho;cases ho;rw [hd'] at hd;cases hd
theorem Inv.funs (I:Inv X pins σ H s):s.heap.FunFrames X.base X.outer:=by
 have all:∀ (l:List Env),(∀ b∈frs l,b∈X.fs)->X.s₀.heap.FunFrames X.base l->s.heap.FunFrames X.base l:=by
  intro l
  induction l with
  | nil=>intro _ _;trivial
  | cons env r ih =>
   intro hs hl
   obtain ⟨hk,⟨L,o,hf,hn,ho,hd⟩,hr⟩:=hl
   have hL:L∈X.fs:=hs L (by unfold frs;rw [List.filterMap_cons,hf];exact List.mem_cons_self)
   obtain ⟨sl,e⟩:=I.base.slot L o ho (I.ok.frf L hL) hL fun z=>I.ok.exfs L z hL
   exact ⟨hk,⟨L,_,hf,hn,e,hd⟩,ih (fun b hb=>hs b (by unfold frs;rw [List.filterMap_cons,hf];exact List.mem_cons_of_mem _ hb)) hr⟩
 exact all X.outer (fun _ hb=>hb) I.ok.funs
theorem Inv.stack (I:Inv X pins σ H s):s.heap.FunFrames X.base X.stack:=by
 rcases I.ok.stk with e | ⟨e,hf⟩
 ·rw [e];exact I.funs
 ·rw [e]
  obtain ⟨m,hn,_⟩:=I.loc
  refine .cons (by rw [I.ok.kind];decide) hf hn ?_ I.funs
  exact Heap.get?_none_of_le (Nat.le_trans I.ok.bsz I.ok.above)
theorem Inv.stkSub (I:Inv X pins σ H s):∀ b∈frs X.stack,b∈X.env.locals :: X.fs:=fun b hb=>by
 rcases I.ok.stk with e | ⟨e,hf⟩
 ·rw [e] at hb;exact List.mem_cons_of_mem _ hb
 ·rw [e] at hb
  unfold frs at hb
  rw [List.filterMap_cons,hf] at hb
  exact hb
theorem Inv.stkFree (I:Inv X pins σ H s):∀ b∈frs X.stack,H b=none:=fun b hb=>by
 rcases List.mem_cons.mp (I.stkSub b hb) with e | hb
 ·rw [e];exact I.free
 ·obtain ⟨_,o,ho,_⟩:=I.ok.funs.mem hb
  exact I.base.free b o ho (I.ok.frf b hb) fun z=>I.ok.exfs b z hb
theorem Inv.step {g':Array GenState} {t':Nat} {d':Drawn} {ch:List Addr} (I:Inv X pins σ H s)
  (hch:∀ b∈ch,(b∈X.ex\/X.s₀.heap.objs.size<=b)/\b≠X.env.locals/\(∀ x c,X.env.cells.lookup x=some c->c≠b)/\∀ p∈X.pn++pins,p.1≠b)
  (keep:∀ b o,b≠X.env.locals->b ∉ X.fs->b ∉ ch->s.heap.get? b=some o->H b=none->h'.get? b=some o)
  (slot:∀ b o,b≠X.env.locals->b∈X.fs->b ∉ ch->s.heap.get? b=some o->H b=none->∃ sl,h'.get? b=some { o with slots:=sl }) (free:∀ b o,b ∉ ch->s.heap.get? b=some o->H b=none->H' b=none)
  (there:∀ b o,b ∉ ch->s.heap.get? b=some o->∃ o',h'.get? b=some o')
  (tups:∀ b xs,H b=some (.tup xs)->H' b=some (.tup xs)) (frzs:∀ b o u,H b=some (.frz o u)->H' b=some (.frz o u)) (tbls:∀ b ps,H b=some (.tbl ps)->∃ more,H' b=some (.tbl (ps++more)))
  (ns:∀ m,s.heap.Ns X.env.locals m->h'.Ns X.env.locals m) (hok:HOk X.prog X.w H' h') (hg:AllBare g') :
  Inv X pins σ H' { s with heap:=h',gens:=g',drawn:=d',toks:=t' }:=by
 have neL:∀ b o,X.s₀.heap.get? b=some o->b≠X.env.locals:=fun b o e=>Nat.ne_of_lt (Nat.lt_of_lt_of_le (Heap.lt_size e) I.ok.above)
 have neC:∀ b o,X.s₀.heap.get? b=some o->b ∉ X.ex->b ∉ ch:=fun b o e hx hb=>by
  rcases (hch b hb).1 with z | z
  ·exact hx z
  ·exact absurd (Nat.lt_of_lt_of_le (Heap.lt_size e) z) (Nat.lt_irrefl _)
 have cellK:∀ x c,X.env.cells.lookup x=some c->∀ v,s.heap.IsCell c v->h'.IsCell c v:=fun x c e v ⟨o,ho,hd⟩=>by
  have nch:c ∉ ch:=fun z=>(hch c z).2.2.1 x c e rfl
  by_cases hc:c∈X.fs
  ·obtain ⟨sl,q⟩:=slot c o (I.cne x c e) hc nch ho (I.freeC x c e)
   exact ⟨_,q,hd⟩
  ·exact ⟨o,keep c o (I.cne x c e) hc nch ho (I.freeC x c e),hd⟩
 refine ⟨I.ok,I.os,hg,⟨fun b o e n hb hx=>?_,fun b o e n hb hx=>?_,fun b o e n hx=>?_,fun b o e hx=>?_,fun b xs e=>tups b xs (I.base.tups b xs e),fun b o xs e=>frzs b o xs (I.base.frzs b o xs e),fun b ps e=>?_⟩,?_,fun x c e=>?_,?_,fun x c e=>?_,fun p hp=>?_,hok,I.len⟩
 ·exact keep b o (neL b o e) hb (neC b o e hx) (I.base.keep b o e n hb hx) (I.base.free b o e n hx)
 ·obtain ⟨sl,e1⟩:=I.base.slot b o e n hb hx
  obtain ⟨sl',e2⟩:=slot b _ (neL b o e) hb (neC b o e hx) e1 (I.base.free b o e n hx)
  exact ⟨sl',e2⟩
 ·obtain ⟨o',e1⟩:=I.base.there b o e hx
  exact free b o' (neC b o e hx) e1 (I.base.free b o e n hx)
 ·obtain ⟨o',e1⟩:=I.base.there b o e hx
  exact there b o' (neC b o e hx) e1
 ·obtain ⟨m1,e1⟩:=I.base.tbls b ps e
  obtain ⟨m2,e2⟩:=tbls b _ e1
  exact ⟨m1++m2,by rw [e2,Array.append_assoc]⟩
 ·obtain ⟨m,hn,hl⟩:=I.loc
  refine ⟨m,ns m hn,fun i x v e1 e2 e3=>?_⟩
  obtain ⟨u,r,l⟩:=hl i x v e1 e2 e3
  refine ⟨u,r,?_⟩
  rcases l with l | ⟨k,c,e,z⟩
  ·exact .inl l
  ·exact .inr ⟨k,c,e,cellK x c e _ z⟩
 ·obtain ⟨v,z⟩:=I.cell x c e
  exact ⟨v,cellK x c e v z⟩
 ·obtain ⟨m,⟨o,_,_,ho,_⟩,_⟩:=I.loc
  exact free _ o (fun z=>(hch _ z).2.1 rfl) ho I.free
 ·obtain ⟨v,o,ho,hd⟩:=I.cell x c e
  exact free c o (fun z=>(hch c z).2.2.1 x c e rfl) ho (I.freeC x c e)
 ·obtain ⟨e,n,ne,nf,d⟩:=I.pin p hp
  have nch:p.1 ∉ ch:=fun z=>(hch p.1 z).2.2.2 p hp rfl
  exact ⟨keep p.1 p.2 ne nf nch e n,free p.1 p.2 nch e n,ne,nf,d⟩
theorem Inv.un {t':Nat} (I:Inv X pins σ H s) (u:Un X.fs [] H H' s.heap h') (hok:HOk X.prog X.w H' h'):Inv X pins σ H' { s with heap:=h',toks:=t' }:=by
 obtain ⟨m,⟨o,es,ep,ho,r⟩,_⟩:=id I.loc
 obtain ⟨sl,hL⟩:=u.any ho I.free (by simp)
 exact I.step (g':=s.gens) (d':=s.drawn) (ch:=[]) (fun _ z=>nomatch z) (fun b o _ hb _ e n=>u.keep b o e n hb (by simp)) (fun b o _ hb _ e n=>u.slot b o e n hb (by simp)) (fun b o _ e n=>u.free b o e n (by simp)) (fun b o _ e=>u.there b o e (by simp)) u.tups u.frzs u.tbls (fun m' hm=>by
  obtain ⟨o',es',ep',ho',r'⟩:=hm
  rw [ho] at ho';cases ho'
  exact ⟨_,es',ep',hL,r'⟩) hok I.bare
theorem Inv.call {g':Array GenState} {t':Nat} {d':Drawn} {ch:List Addr} (I:Inv X pins σ H s) (u:Un (frs X.stack) ch H H' s.heap h') (hok:HOk X.prog X.w H' h') (hg:AllBare g')
  (hch:∀ b∈ch,(b∈X.ex\/X.s₀.heap.objs.size<=b)/\b≠X.env.locals/\(∀ x c,X.env.cells.lookup x=some c->c≠b)/\∀ p∈X.pn++pins,p.1≠b) :
  Inv X pins σ H' { s with heap:=h',gens:=g',drawn:=d',toks:=t' }:=by
 obtain ⟨m,⟨o,es,ep,ho,r⟩,_⟩:=id I.loc
 obtain ⟨sl,hL⟩:=u.any ho I.free fun z=>(hch _ z).2.1 rfl
 exact I.step (ch:=ch) hch (fun b o hL hb hc e n=>u.keep b o e n (fun z=>(List.mem_cons.mp (I.stkSub b z)).elim hL hb) hc) (fun b o _ _ hc e n=>u.any e n hc) (fun b o hc e n=>u.free b o e n hc) (fun b o hc e=>u.there b o e hc) u.tups u.frzs u.tbls (fun m' hm=>by
  obtain ⟨o',es',ep',ho',r'⟩:=hm
  rw [ho] at ho';cases ho'
  exact ⟨_,es',ep',hL,r'⟩) hok hg
theorem Inv.turned {t':Nat} {it:Addr} (I:Inv X pins σ H s) (k:∀ b o,b≠it->s.heap.get? b=some o->h'.get? b=some o) (hn:H it=none) (hL:it≠X.env.locals)
  (h1:it∈X.ex\/X.s₀.heap.objs.size<=it) (h2:∀ x c,X.env.cells.lookup x=some c->c≠it) (h3:∀ p∈X.pn++pins,p.1≠it):Inv X pins σ H { s with heap:=h',toks:=t' }:=by
 have nit:∀ b u,H b=some u->b≠it:=fun b u e z=>by rw [z,hn] at e;cases e
 refine I.step (g':=s.gens) (d':=s.drawn) (ch:=[it]) (fun b hb=>?_) (fun b o _ _ hc e _=>k b o (fun z=>hc (by simp [z])) e) (fun b o _ _ hc e _=>⟨o.slots,k b o (fun z=>hc (by simp [z])) e⟩) (fun _ _ _ _ n=>n)
  (fun b o hc e=>⟨o,k b o (fun z=>hc (by simp [z])) e⟩) (fun _ _ e=>e) (fun _ _ _ e=>e) (fun b ps e=>⟨#[],by rw [e];simp⟩) (fun m hm=>?_) (fun b u e=>?_) I.bare
 ·have e:b=it:=by simpa using hb
  subst e
  exact ⟨h1,hL,h2,h3⟩
 ·obtain ⟨o,es,ep,ho,r⟩:=hm
  exact ⟨o,es,ep,k _ o (Ne.symm hL) ho,r⟩
 ·refine (I.hok b u e).stay (fun c v hc q=>k c v ?_ q) (fun _ q=>q) fun _ _ q=>q
  rcases hc with z | z
  ·rw [z];exact nit b u e
  ·exact nit c _ z
theorem Inv.tok (I:Inv X pins σ H s) (t:Nat):Inv X pins σ H { s with toks:=t }:=I.un (h':=s.heap) (t':=t) Un.refl I.hok
theorem Inv.kept {t':Nat} (I:Inv X pins σ H s) (k:∀ b u,s.heap.get? b=some u->h'.get? b=some u):Inv X pins σ H { s with heap:=h',toks:=t' }:=I.un (Un.kept k) (I.hok.kept k)
theorem Inv.laid {a:Addr} {o:HO} {t':Nat} (I:Inv X pins σ H s) (k:∀ b u,s.heap.get? b=some u->h'.get? b=some u) (hp:s.heap.objs.size<=a) (new:ObjOk X.prog X.w (upd H a o) h' a o) :
  Inv X pins σ (upd H a o) { s with heap:=h',toks:=t' }:=I.un (Un.laid k hp (I.hok.fresh hp)) (I.hok.laid k hp new)
theorem Inv.write {x e:Addr} {o:HO} {t':Nat} (I:Inv X pins σ H s) (mu:Mut (H x)) (he:e=x\/H e=some (.own x)) (k:∀ b u,b≠e->s.heap.get? b=some u->h'.get? b=some u) (heo:∃ u,h'.get? e=some u)
  (new:ObjOk X.prog X.w (upd H x o) h' x o):Inv X pins σ (upd H x o) { s with heap:=h',toks:=t' }:=I.un (Un.write mu he k heo) (I.hok.write mu he k heo new)
theorem Inv.pins_of {pins':List (Addr × Obj)} (I:Inv X pins σ H s) (h:∀ p∈pins',s.heap.get? p.1=some p.2/\H p.1=none/\p.1≠X.env.locals/\p.1 ∉ X.fs/\∀ v,p.2.data≠.cell v):Inv X pins' σ H s :=
 ⟨I.ok,I.os,I.bare,I.base,I.loc,I.cell,I.free,I.freeC,fun p hp=>(List.mem_append.mp hp).elim (fun z=>I.pin p (List.mem_append_left _ z)) (h p),I.hok,I.len⟩
theorem J4 {N:List Str} (hN:N.Nodup) {i j:Nat} {x:Str} (a:N[i]? = some x) (b:N[j]? = some x):i=j:=by
 obtain ⟨h1,e1⟩:=List.getElem?_eq_some_iff.mp a
 obtain ⟨h2,e2⟩:=List.getElem?_eq_some_iff.mp b
 exact (List.getElem_inj hN).mp (e1.trans e2.symm)
theorem yk {M:Model} {A:Around} {E:Value->Shared->Prop} {i:Nat} {x:Str} {v:V} {u:Value} {Q:Unit->Shared->Prop} (I:Inv X pins σ H s) (hN:X.N.Nodup) (hi:X.N[i]? = some x) (hx:Loc X.env.scope x) (r:RelV v u)
  (h:∀ s',Inv X pins (σ.set i (some v)) H s'->(∃ a,Heap.SameBut a s.heap s'.heap/\(a=X.env.locals\/X.env.cells.lookup x=some a))->Q () s') (hf:X.fn x=true\/X.env.scope.names.lookup x=some .local:=by first | exact .inl rfl | exact .inr rfl | assumption):wpAny M A (storeName X.env x u) Q E s:=by
 obtain ⟨m,hn,hl⟩:=id I.loc
 have hcls:(X.env.scope.kind == .class || (X.env.scope.kind == .module && X.env.locals != X.env.globals))=false:=by rw [I.ok.kind];rfl
 have hiσ:i < σ.length:=by rw [I.len];exact (List.getElem?_eq_some_iff.mp hi).1
 have cne:=I.cne
 have tracked:∀ {a:Addr} {h':Heap},(∃ o,s.heap.get? a=some o/\H a=none)->Heap.SameBut a s.heap h'->HOk X.prog X.w H h':=fun {a h'} ha hs b ob e=>by
  obtain ⟨_,_,hfree⟩:=ha
  refine (I.hok b ob e).stay (fun c w' hc q=>(hs.2 c ?_).trans q) (fun _ q=>q) fun _ _ q=>q
  rintro rfl
  rcases hc with rfl | hc
  ·rw [hfree] at e;cases e
  ·rw [hfree] at hc;cases hc
 rcases hx with hk | hk
 ·refine wpAny_storeName_local hk hn (fun h' hn' hs=>?_) hcls
  obtain ⟨oL,_,_,hoL,_⟩:=id hn
  refine h _ ⟨I.ok,I.os,I.bare,⟨fun b o e n hb hx=>?_,fun b o e n hb hx=>?_,I.base.free,fun b o e hx=>?_,I.base.tups,I.base.frzs,I.base.tbls⟩,⟨_,hn',fun j y v' e1 e2 e3=>?_⟩,fun y c e=>?_,I.free,I.freeC,fun p hp=>?_,tracked ⟨oL,hoL,I.free⟩ hs,by simpa using I.len⟩ ⟨_,hs,.inl rfl⟩
  ·exact (hs.2 b (Nat.ne_of_lt (Nat.lt_of_lt_of_le (Heap.lt_size e) I.ok.above))).trans (I.base.keep b o e n hb hx)
  ·obtain ⟨sl,e1⟩:=I.base.slot b o e n hb hx
   exact ⟨sl,(hs.2 b (Nat.ne_of_lt (Nat.lt_of_lt_of_le (Heap.lt_size e) I.ok.above))).trans e1⟩
  ·obtain ⟨o',e1⟩:=I.base.there b o e hx
   exact ⟨o',(hs.2 b (Nat.ne_of_lt (Nat.lt_of_lt_of_le (Heap.lt_size e) I.ok.above))).trans e1⟩
  ·by_cases hj:j=i
   ·subst hj
    rw [hi] at e1;cases e1
    rw [List.getElem?_set_self hiσ] at e2
    cases e2
    exact ⟨u,r,.inl ⟨hk,by simp⟩⟩
   ·rw [List.getElem?_set_ne (Ne.symm hj)] at e2
    obtain ⟨u',r',q⟩:=hl j y v' e1 e2 e3
    refine ⟨u',r',?_⟩
    rcases q with ⟨k,e⟩ | ⟨k,c,e,z⟩
    ·refine .inl ⟨k,?_⟩
     have:y≠x:=fun e=>hj (J4 hN e1 (e ▸ hi))
     simp [this,e]
    ·exact .inr ⟨k,c,e,z.sameBut hs (cne y c e)⟩
  ·obtain ⟨w',z⟩:=I.cell y c e
   exact ⟨w',z.sameBut hs (cne y c e)⟩
  ·obtain ⟨e,n,ne,nf,d⟩:=I.pin p hp
   exact ⟨(hs.2 p.1 ne).trans e,n,ne,nf,d⟩
 ·have hfn:X.fn x=true:=by
   rcases hf with z | z
   ·exact z
   ·rw [z] at hk;cases hk
  obtain ⟨c,hc⟩:=I.ok.has x (.inl hk)
  obtain ⟨w',z⟩:=I.cell x c hc
  refine wpAny_storeName_cell I.ok.kind hk hc z (fun h' hc' hs=>?_)
  obtain ⟨oc,hoc,hocd⟩:=id z
  refine h { s with heap:=h' } ⟨I.ok,I.os,I.bare,⟨fun b o e n hb hx=>?_,fun b o e n hb hx=>?_,I.base.free,fun b o e hx=>?_,I.base.tups,I.base.frzs,I.base.tbls⟩,⟨m,hn.sameBut hs (Ne.symm (cne x c hc)),fun j y v' e1 e2 e3=>?_⟩,fun y c' e=>?_,I.free,I.freeC,fun p hp=>?_,tracked ⟨oc,hoc,I.freeC x c hc⟩ hs,by simpa using I.len⟩ ⟨c,hs,.inr hc⟩
  ·exact (hs.2 b (Nat.ne_of_lt (Nat.lt_of_lt_of_le (Heap.lt_size e) (I.ok.cab x c hfn hc)))).trans (I.base.keep b o e n hb hx)
  ·obtain ⟨sl,e1⟩:=I.base.slot b o e n hb hx
   exact ⟨sl,(hs.2 b (Nat.ne_of_lt (Nat.lt_of_lt_of_le (Heap.lt_size e) (I.ok.cab x c hfn hc)))).trans e1⟩
  ·obtain ⟨o',e1⟩:=I.base.there b o e hx
   exact ⟨o',(hs.2 b (Nat.ne_of_lt (Nat.lt_of_lt_of_le (Heap.lt_size e) (I.ok.cab x c hfn hc)))).trans e1⟩
  ·by_cases hj:j=i
   ·subst hj
    rw [hi] at e1;cases e1
    rw [List.getElem?_set_self hiσ] at e2
    cases e2
    exact ⟨u,r,.inr ⟨.inl hk,c,hc,hc'⟩⟩
   ·rw [List.getElem?_set_ne (Ne.symm hj)] at e2
    obtain ⟨u',r',q⟩:=hl j y v' e1 e2 e3
    refine ⟨u',r',?_⟩
    rcases q with q | ⟨k,c',e,z'⟩
    ·exact .inl q
    ·refine .inr ⟨k,c',e,z'.sameBut hs ?_⟩
     rintro rfl
     exact hj (J4 hN e1 (I.ok.inj _ _ _ e hc ▸ hi))
  ·by_cases hcc:c'=c
   ·subst hcc;exact ⟨_,hc'⟩
   ·obtain ⟨w2,z2⟩:=I.cell y c' e
    exact ⟨w2,z2.sameBut hs hcc⟩
  ·obtain ⟨e,n,ne,nf,d⟩:=I.pin p hp
   refine ⟨(hs.2 p.1 ?_).trans e,n,ne,nf,d⟩
   intro q
   rw [q,hoc] at e
   have q':oc=p.2:=Option.some.inj e
   exact d w' (by rw [<- q'];exact hocd)
theorem store_ok {M:Model} {A:Around} {E:Value->Shared->Prop} {i:Nat} {x:Str} {v:V} {u:Value} {Q:Unit->Shared->Prop} (I:Inv X pins σ H s) (hN:X.N.Nodup) (hi:X.N[i]? = some x) (hx:Loc X.env.scope x) (r:RelV v u)
  (h:∀ s',Inv X pins (σ.set i (some v)) H s'->Q () s') (hf:X.fn x=true\/X.env.scope.names.lookup x=some .local:=by first | exact .inl rfl | exact .inr rfl | assumption):wpAny M A (storeName X.env x u) Q E s :=
 yk I hN hi hx r (fun s' I' _=>h s' I') hf
theorem Inv.call' {s':Shared} {ch:List Addr} (I:Inv X pins σ H s) (ho:s'.os=s.os) (u:Un (frs X.stack) ch H H' s.heap s'.heap) (hok:HOk X.prog X.w H' s'.heap) (hg:AllBare s'.gens)
  (hch:∀ b∈ch,(b∈X.ex\/X.s₀.heap.objs.size<=b)/\b≠X.env.locals/\(∀ x c,X.env.cells.lookup x=some c->c≠b)/\∀ p∈X.pn++pins,p.1≠b):Inv X pins σ H' s':=by
 obtain ⟨h',g',d',t',o'⟩:=s'
 have e:o'=s.os:=ho
 subst e
 exact I.call (g':=g') (t':=t') (d':=d') u hok hg hch
end
abbrev XK:=Value->Option Addr->Hp->Prop
abbrev St:=List (Option V)
abbrev VK:=V->Hp->Prop
abbrev TE:=St->Hp->VK->Prop
abbrev TT:=St->Hp->(Bool->Hp->Prop)->Prop
abbrev TA:=St->Hp->(List V->Hp->Prop)->Prop
structure Ends where
 nx:St->Hp->Prop
 rt:VK
 bk:St->Hp->Prop:=fun _ _=>False
 ct:St->Hp->Prop:=fun _ _=>False
abbrev TS:=Ends->St->Hp->Prop
def EP (X:Cx) (pins:List (Addr × Obj)) (σ:St) (Q:VK) (u:Value) (s':Shared):Prop:=∃ v H',Inv X pins σ H' s'/\RelV v u/\Q v H'
def TP (X:Cx) (pins:List (Addr × Obj)) (σ:St) (Q:Bool->Hp->Prop) (b:Bool) (s':Shared):Prop:=∃ H',Inv X pins σ H' s'/\Q b H'
def AP (X:Cx) (pins:List (Addr × Obj)) (σ:St) (Q:List V->Hp->Prop) (us:List Value) (s':Shared):Prop:=∃ vs H',Inv X pins σ H' s'/\Vals vs us/\Q vs H'
def SP (X:Cx) (pins:List (Addr × Obj)) (D:Ends) (f:Flow) (s':Shared):Prop :=
 match f with
 | .next=>∃ σ' H',Inv X pins σ' H' s'/\D.nx σ' H'
 | .brk=>∃ σ' H',Inv X pins σ' H' s'/\D.bk σ' H'
 | .cont=>∃ σ' H',Inv X pins σ' H' s'/\D.ct σ' H'
 | .ret u=>∃ v σ' H',Inv X pins σ' H' s'/\RelV v u/\D.rt v H'
def PE (X:Cx) (e:Expr) (t:TE):Prop :=
 ∀ (pins:List (Addr × Obj)) (s:Shared) (σ:St) (H:Hp) (Q:VK),Inv X pins σ H s->t σ H Q->wpAny (model X.prog X.w) X.A (eval e X.env) (EP X pins σ Q) X.xe s
def PT (X:Cx) (e:Expr) (t:TT):Prop :=
 ∀ (pins:List (Addr × Obj)) (s:Shared) (σ:St) (H:Hp) (Q:Bool->Hp->Prop),Inv X pins σ H s->t σ H Q->wpAny (model X.prog X.w) X.A (isTrue e X.env (eval e X.env)) (TP X pins σ Q) X.xe s
def PW (X:Cx) (e:Expr) (t:TT):Prop :=
 ∀ (whole:Sem Value) (pins:List (Addr × Obj)) (s:Shared) (σ:St) (H:Hp) (Q:Bool->Hp->Prop),Inv X pins σ H s->t σ H Q->wpAny (model X.prog X.w) X.A (isTrue e X.env whole) (TP X pins σ Q) X.xe s
theorem PW.pt {X:Cx} {e:Expr} {t:TT} (h:PW X e t):PT X e t:=h _
def PA (X:Cx) (es:List Expr) (t:TA):Prop :=
 ∀ (pos:Pos) (pins:List (Addr × Obj)) (s:Shared) (σ:St) (H:Hp) (Q:List V->Hp->Prop),Inv X pins σ H s->t σ H Q->wpAny (model X.prog X.w) X.A (spliced (backTo pos (starEach es X.env))) (AP X pins σ Q) X.xe s
def PS (X:Cx) (st:Stmt) (t:TS):Prop :=
 ∀ (pins:List (Addr × Obj)) (s:Shared) (σ:St) (H:Hp) (D:Ends),Inv X pins σ H s->t D σ H->wpAny (model X.prog X.w) X.A (exec st X.env) (SP X pins D) X.xe s
def PSs (X:Cx) (st:List Stmt) (t:TS):Prop :=
 ∀ (pins:List (Addr × Obj)) (s:Shared) (σ:St) (H:Hp) (D:Ends),Inv X pins σ H s->t D σ H->wpAny (model X.prog X.w) X.A (execs st X.env) (SP X pins D) X.xe s
theorem thn {α:Type} {t:Sem α} {Q Q':α->Shared->Prop} {M:Model} {A:Around} {E:Value->Shared->Prop} {s:Shared} (h:wpAny M A t Q E s) (hQ:∀ a s,Q a s->Q' a s):wpAny M A t Q' E s:=wpAny_mono h hQ fun _ _ x=>x
end L2
namespace L2
open PySem PySem.Spec PyProof.Rows
section
variable {X:Cx}
def tVar (i:Nat):TE:=fun σ H Q=>∃ v,σ[i]? = some (some v)/\Q v H
def tC (v:V):TE:=fun _ H Q=>Q v H
theorem qhl {i:Nat} {x:Str} {pos:Pos} (hN:X.N[i]? = some x) (hv:Vis X.env.scope x) (hd:(x == ("__debug__" : Str))=false:=by decide) (hcd:(x == ("__classdict__" : Str))=false:=by decide):PE X (.Name x pos) (tVar i):=by
 intro pins s σ H Q I h
 obtain ⟨v,e,h⟩:=h
 obtain ⟨m,hn,hl⟩:=I.loc
 obtain ⟨u,r,l⟩:=hl i x v hN e hv
 have fin:EP X pins σ Q u s:=⟨v,H,I,r,h⟩
 rcases l with ⟨hk,hm⟩ | ⟨hk,c,hc,hcell⟩
 ·exact wpAny_Name (wpAny_loadName_local I.ok.kind hk hn hm fin) hd
 ·rcases hk with hk | hk
  ·exact wpAny_Name (wpAny_loadName_cell I.ok.kind hk hc hcell fin) hd
  ·exact wpAny_Name (wpAny_loadName_free I.ok.kind hk hc hcell fin hcd) hd
theorem qd {i j pos}:PE X (.Constant (.int i) j pos) (tC (.int i)):=fun _ _ _ H _ I h=>wpAny_Constant_int ⟨.int i,H,I.tok _,⟨_,rfl⟩,h⟩
theorem j4 {b j pos}:PE X (.Constant (.bool b) j pos) (tC (.bl b)):=fun _ _ _ H _ I h=>Constant_bool ⟨.bl b,H,I,rfl,h⟩
theorem qe8 {j pos}:PE X (.Constant .none j pos) (tC .non):=fun _ _ _ H _ I h=>Constant_none ⟨.non,H,I,rfl,h⟩
theorem jz {x j pos}:PE X (.Constant (.str x) j pos) (tC (.str x)):=fun _ _ _ H _ I h=>Calls.Constant_str ⟨.str x,H,I.tok _,⟨_,rfl⟩,h⟩
def Gl (X:Cx) (x:Str):Prop:=X.env.kindOf x=some .globalImplicit
theorem ld_glob {E:Value->Shared->Prop} {pins:List (Addr × Obj)} {s:Shared} {σ:St} {H:Hp} {x:Str} {u:Value} {pos:Pos} {Q:Value->Shared->Prop} (I:Inv X pins σ H s) (hg:Gl X x) (hm:X.mg x=some u) (h:Q u s)
  (hd:(x == ("__debug__" : Str))=false:=by decide):wpAny (model X.prog X.w) X.A (eval (.Name x pos) X.env) Q E s :=
 Calls.Name_function_global I.ok.kind hg (Calls.loadGlobal_global (by rw [I.ok.glob];exact I.mod.glob.keeps I.bk) hm h) hd
theorem ld_blt {E:Value->Shared->Prop} {pins:List (Addr × Obj)} {s:Shared} {σ:St} {H:Hp} {x:Str} {u:Value} {pos:Pos} {Q:Value->Shared->Prop} (I:Inv X pins σ H s) (hg:Gl X x) (hm:X.mg x=none) (hv:bootBuiltins x=some u) (h:Q u s)
  (hn:x≠"__name__":=by decide) (hd:(x == ("__debug__" : Str))=false:=by decide):wpAny (model X.prog X.w) X.A (eval (.Name x pos) X.env) Q E s:=by
 obtain ⟨mb,h1,h2⟩:=I.mod.blt
 exact Calls.Name_function_global I.ok.kind hg (Calls.loadGlobal_builtin (by rw [I.ok.glob];exact I.mod.glob.keeps I.bk) hm (by rw [I.ok.blt];exact h1.keeps I.bk) ((h2 x hn).trans hv) h) hd
theorem jk {x:Str} {v:V} {u:Value} {pos:Pos} (hg:Gl X x) (hm:X.mg x=some u) (r:RelV v u) (hd:(x == ("__debug__" : Str))=false:=by decide):PE X (.Name x pos) (tC v) :=
 fun _ _ _ H _ I h=>ld_glob I hg hm ⟨v,H,I,r,h⟩ hd
theorem vp {x:Str} {v:V} {u:Value} {pos:Pos} (hg:Gl X x) (hm:X.mg x=none) (hv:bootBuiltins x=some u) (r:RelV v u) (hn:x≠"__name__":=by decide) (hd:(x == ("__debug__" : Str))=false:=by decide):PE X (.Name x pos) (tC v) :=
 fun _ _ _ H _ I h=>ld_blt I hg hm hv ⟨v,H,I,r,h⟩ hn hd
variable {a b:Expr} {ta tb:TE} {pos:Pos}
def tB (t:TE):TT:=fun σ H Q=>t σ H fun x H1=>∃ c,x=.bl c/\Q c H1
theorem j0 {e:Expr} {t:TE} (h:PE X e t) (he:∀ whole,isTrue e X.env whole=(do let v <- whole;standAt e.pos;holding [v] (truthy v)):=by intro _;rfl):PT X e (tB t):=by
 intro pins s σ H Q I hw
 refine isTrue_plain (thn (h pins s σ H _ I hw) fun v s1 ⟨x,H1,I1,r1,q1⟩=>?_) (he _)
 obtain ⟨d,rfl,q⟩:=q1
 cases r1
 exact wpAny_truthy_bool ⟨H1,I1,q⟩
variable {tA tB':TT} {rest:List Expr}
def tAnd (t u:TT):TT:=fun σ H Q=>t σ H fun c H1=>if c=true then u σ H1 Q else Q false H1
def tOr (t u:TT):TT:=fun σ H Q=>t σ H fun c H1=>if c=true then Q true H1 else u σ H1 Q
def tNot (t:TT):TT:=fun σ H Q=>t σ H fun c H1=>Q (!c) H1
theorem qfz (ha:PT X a tA):PW X (.BoolOp .And [a] pos) tA:=by
 intro wh pins s σ H Q I h
 refine isTrue_and (thn (ha pins s σ H Q I h) fun c s1 e=>?_)
 cases c with
 | true=>exact isTrue_and_nil e
 | false=>exact e
theorem Vz (ha:PT X a tA):PW X (.BoolOp .Or [a] pos) tA:=by
 intro wh pins s σ H Q I h
 refine isTrue_or (thn (ha pins s σ H Q I h) fun c s1 e=>?_)
 cases c with
 | false=>exact isTrue_or_nil e
 | true=>exact e
theorem qhm (ha:PT X a tA) (hb:PW X (.BoolOp .And (b :: rest) pos) tB'):PW X (.BoolOp .And (a :: b :: rest) pos) (tAnd tA tB'):=by
 intro wh pins s σ H Q I h
 refine isTrue_and (thn (ha pins s σ H _ I h) fun c s1 ⟨H1,I1,q1⟩=>?_)
 cases c with
 | true=>exact hb wh pins s1 σ H1 Q I1 q1
 | false=>exact ⟨H1,I1,q1⟩
theorem qat (ha:PT X a tA) (hb:PW X (.BoolOp .Or (b :: rest) pos) tB'):PW X (.BoolOp .Or (a :: b :: rest) pos) (tOr tA tB'):=by
 intro wh pins s σ H Q I h
 refine isTrue_or (thn (ha pins s σ H _ I h) fun c s1 ⟨H1,I1,q1⟩=>?_)
 cases c with
 | true=>exact ⟨H1,I1,q1⟩
 | false=>exact hb wh pins s1 σ H1 Q I1 q1
theorem jw (ha:PT X a tA):PT X (.UnaryOp .Not a pos) (tNot tA):=by
 intro pins s σ H Q I h
 exact isTrue_not (ha pins s σ H (fun c H1=>Q (!c) H1) I h)
def tAndV (ta tb:TE):TE:=fun σ H Q=>ta σ H fun x H1=>∃ c,x=.bl c/\if c=true then tb σ H1 Q else Q (.bl false) H1
def tNotV (ta:TE):TE:=fun σ H Q=>ta σ H fun x H1=>∃ c,x=.bl c/\Q (.bl (!c)) H1
theorem yl {op} {t:TE} (h:PE X a t):PE X (.BoolOp op [a] pos) t:=fun pins s σ H Q I hw=>BoolOp_one (h pins s σ H Q I hw)
theorem vx (ha:PE X a ta) (hb:PE X (.BoolOp .And (b :: rest) pos) tb):PE X (.BoolOp .And (a :: b :: rest) pos) (tAndV ta tb):=by
 intro pins s σ H Q I h
 refine BoolOp_and (thn (ha pins s σ H _ I h) fun v s1 ⟨x,H1,I1,r1,q1⟩=>?_)
 obtain ⟨c,rfl,q1⟩:=q1
 cases r1
 refine wpAny_truthy_bool ?_
 cases c with
 | true=>exact hb pins s1 σ H1 Q I1 q1
 | false=>exact ⟨.bl false,H1,I1,rfl,q1⟩
theorem qhn (ha:PE X a ta):PE X (.UnaryOp .Not a pos) (tNotV ta):=by
 intro pins s σ H Q I h
 refine UnaryOp_ (thn (ha pins s σ H _ I h) fun v s1 ⟨x,H1,I1,r1,q1⟩=>?_)
 obtain ⟨c,rfl,q1⟩:=q1
 cases r1
 exact not_of (wpAny_truthy_bool ⟨.bl (!c),H1,I1,rfl,q1⟩)
end
end L2
namespace L2
open PySem PySem.Spec PyProof.Rows
def SqL (K:W.Frag) (H:Hp) (a:Addr) (xs:List V):Prop :=
 Rd H a (.lst xs) \/
  ∃ (o:Obj) (its:Array Value) (n:Nat),K.lookup a=some o/\o.cls=.type "list"/\o.dict=none/\o.data=.seq its n/\its.size<=sizeLine/\Vals xs its.toList
def SqT (K:W.Frag) (H:Hp) (a:Addr) (xs:List V):Prop :=
 Rd H a (.tup xs) \/
  ∃ (o:Obj) (its:Array Value) (n:Nat),K.lookup a=some o/\o.cls=.type "tuple"/\o.data=.seq its n/\its.size<=sizeLine/\Vals xs its.toList
def absV:Value->Option V
 | .none=>some .non
 | .bool b=>some (.bl b)
 | .int i _=>some (.int i)
 | .str x _=>some (.str x)
 | .bytes b _=>some (.byt b)
 | .float b _=>some (.flt b)
 | .ref a=>some (.ref a)
 | .type n=>some (.ty n)
 | _=>none
theorem RelV.abs {x:V} {u:Value} (r:RelV x u):absV u=some x:=by
 cases x with
 | non=>cases r;rfl
 | bl _=>cases r;rfl
 | int _=>obtain ⟨t,rfl⟩:=r;rfl
 | str _=>obtain ⟨t,rfl⟩:=r;rfl
 | byt _=>obtain ⟨t,rfl⟩:=r;rfl
 | flt _=>obtain ⟨t,rfl⟩:=r;rfl
 | ref _=>cases r;rfl
 | ty _=>cases r;rfl
theorem RelV.inj {x y:V} {u:Value} (r:RelV x u) (q:RelV y u):x=y:=Option.some.inj (r.abs.symm.trans q.abs)
theorem Vals.inj:∀ {xs ys:List V} {us:List Value},Vals xs us->Vals ys us->xs=ys
 | _,_,_,.nil,.nil=>rfl
 | _,_,_,.cons r t,.cons r' t'=>by rw [r.inj r',Vals.inj t t']
section
variable {X:Cx} {pins:List (Addr × Obj)} {σ:St} {H:Hp} {s:Shared} {a:Addr} {xs ys:List V}
theorem SqL.of {K:W.Frag} (h:H a=some (.lst xs)):SqL K H a xs:=.inl (.inl h)
theorem SqT.of {K:W.Frag} (h:H a=some (.tup xs)):SqT K H a xs:=.inl (.inl h)
theorem Inv.list (I:Inv X pins σ H s) (h:SqL X.K H a xs):∃ its:List Value,Vals xs its/\PlainL s.heap a its.toArray/\xs.length<=sizeLine:=by
 rcases h with h | ⟨o,its,n,hk,hc,hd,hs,hz,r⟩
 ·obtain ⟨z,its,n,r,e⟩:=h.ok I.hok
  exact ⟨its,r,⟨_,n,e,rfl,rfl,rfl⟩,z⟩
 ·refine ⟨its.toList,r,⟨o,n,I.kIn a o hk,hc,hd,by simpa using hs⟩,?_⟩
  have e:=r.length
  simp only [Array.length_toList] at e
  omega
theorem Inv.tuple (I:Inv X pins σ H s) (h:SqT X.K H a xs):∃ its:List Value,Vals xs its/\IsTup s.heap a its.toArray/\xs.length<=sizeLine:=by
 rcases h with h | ⟨o,its,n,hk,hc,hs,hz,r⟩
 ·obtain ⟨z,its,r,p,_⟩:=h.ok I.hok
  exact ⟨its,r,p,z⟩
 ·refine ⟨its.toList,r,⟨o,I.kIn a o hk,hc,n,by simpa using hs⟩,?_⟩
  have e:=r.length
  simp only [Array.length_toList] at e
  omega
theorem Inv.list_inj (I:Inv X pins σ H s) (h:SqL X.K H a xs) (h':SqL X.K H a ys):xs=ys:=by
 obtain ⟨its,r,⟨o,n,e,_,_,d⟩,_⟩:=I.list h
 obtain ⟨its',r',⟨o',n',e',_,_,d'⟩,_⟩:=I.list h'
 rw [e] at e';cases e'
 rw [d] at d'
 injection d' with d1 _
 have:its=its':=by simpa using congrArg Array.toList d1
 subst this
 exact r.inj r'
theorem Inv.tuple_inj (I:Inv X pins σ H s) (h:SqT X.K H a xs) (h':SqT X.K H a ys):xs=ys:=by
 obtain ⟨its,r,⟨o,e,_,n,d⟩,_⟩:=I.tuple h
 obtain ⟨its',r',⟨o',e',_,n',d'⟩,_⟩:=I.tuple h'
 rw [e] at e';cases e'
 rw [d] at d'
 injection d' with d1 _
 have:its=its':=by simpa using congrArg Array.toList d1
 subst this
 exact r.inj r'
end
abbrev Cx.wish (X:Cx) (E:Value->Shared->Prop):Cx:={ X with xe:=E }
abbrev Cx.nox (X:Cx):Cx:=X.wish fun _ _=>False
theorem Cx.Ok.wish {X:Cx} (ok:X.Ok) (E:Value->Shared->Prop):(X.wish E).Ok :=
 ⟨ok.mod,ok.kind,ok.glob,ok.blt,ok.above,ok.inj,ok.has,ok.cab,ok.hd,ok.frames,ok.stk,ok.exf,ok.bs,ok.bsz,ok.noex,ok.exfs,ok.funs,ok.frf⟩
theorem Cx.Ok.unwish {X:Cx} {E:Value->Shared->Prop} (ok:(X.wish E).Ok):X.Ok :=
 ⟨ok.mod,ok.kind,ok.glob,ok.blt,ok.above,ok.inj,ok.has,ok.cab,ok.hd,ok.frames,ok.stk,ok.exf,ok.bs,ok.bsz,ok.noex,ok.exfs,ok.funs,ok.frf⟩
section
variable {X:Cx} {pins:List (Addr × Obj)} {σ:St} {H:Hp} {s:Shared} {E:Value->Shared->Prop}
theorem Inv.wish (I:Inv X pins σ H s) (E:Value->Shared->Prop):Inv (X.wish E) pins σ H s:=⟨I.ok.wish E,I.os,I.bare,I.base,I.loc,I.cell,I.free,I.freeC,I.pin,I.hok,I.len⟩
theorem Inv.unwish (I:Inv (X.wish E) pins σ H s):Inv X pins σ H s:=⟨I.ok.unwish,I.os,I.bare,I.base,I.loc,I.cell,I.free,I.freeC,I.pin,I.hok,I.len⟩
theorem SP.unwish {D:Ends} {f:Flow} {s':Shared} (h:SP (X.wish E) pins D f s'):SP X pins D f s':=by
 cases f with
 | next=>obtain ⟨σ',H',I,q⟩:=h;exact ⟨σ',H',I.unwish,q⟩
 | brk=>obtain ⟨σ',H',I,q⟩:=h;exact ⟨σ',H',I.unwish,q⟩
 | cont=>obtain ⟨σ',H',I,q⟩:=h;exact ⟨σ',H',I.unwish,q⟩
 | ret u=>obtain ⟨v,σ',H',I,r,q⟩:=h;exact ⟨v,σ',H',I.unwish,r,q⟩
theorem PE.nox {e:Expr} {t:TE} (h:PE X.nox e t):PE X e t:=fun pins s σ H Q I hw =>
 wpAny_mono (h pins s σ H Q (I.wish _) hw) (fun _ _ ⟨v,H',I',r,q⟩=>⟨v,H',I'.unwish,r,q⟩) fun _ _ z=>False.elim z
theorem PT.nox {e:Expr} {t:TT} (h:PT X.nox e t):PT X e t:=fun pins s σ H Q I hw =>
 wpAny_mono (h pins s σ H Q (I.wish _) hw) (fun _ _ ⟨H',I',q⟩=>⟨H',I'.unwish,q⟩) fun _ _ z=>False.elim z
theorem PSs.nox {st:List Stmt} {t:TS} (h:PSs X.nox st t):PSs X st t:=fun pins s σ H D I hw =>
 wpAny_mono (h pins s σ H D (I.wish _) hw) (fun _ _ q=>q.unwish) fun _ _ z=>False.elim z
end
section
variable {X:Cx} {st:Stmt} {rest:List Stmt} {t u:TS} {e:Expr} {te:TE} {pos:Pos}
def tNext:TS:=fun D σ H=>D.nx σ H
def tSeq (t u:TS):TS:=fun D σ H=>t { D with nx:=u D } σ H
theorem qm:PSs X [] tNext:=fun _ _ σ H _ I h=>wpAny_execs_nil ⟨σ,H,I,h⟩
theorem qc (h1:PS X st t) (h2:PSs X rest u):PSs X (st :: rest) (tSeq t u):=by
 intro pins s σ H D I h
 refine wpAny_execs_cons (thn (h1 pins s σ H { D with nx:=u D } I h) fun f s1 q=>?_)
 cases f with
 | next =>
  obtain ⟨σ',H',I',q⟩:=q
  exact h2 pins s1 σ' H' D I' q
 | ret v=>exact q
 | brk=>exact q
 | cont=>exact q
theorem qf (h1:PS X st t):PSs X [st] t:=by
 intro pins s σ H D I h
 refine wpAny_execs_cons (thn (h1 pins s σ H D I h) fun f s1 q=>?_)
 cases f with
 | next=>exact wpAny_execs_nil q
 | ret v=>exact q
 | brk=>exact q
 | cont=>exact q
theorem Inv.quiet {pins:List (Addr × Obj)} {σ:St} {H:Hp} {s:Shared} (I:Inv X pins σ H s):interactive X.env=false:=by simp [interactive,I.ok.kind]
def tDrop (te:TE):TS:=fun D σ H=>te σ H fun _ H1=>D.nx σ H1
theorem jo (he:PE X e te) (hs:swapsWith e none pos.line X.env=pure false:=by rfl):PS X (.Expr e pos) (tDrop te):=by
 intro pins s σ H D I h
 exact wpAny_Expr_any (thn (he pins s σ H _ I h) fun v s1 ⟨x,H1,I1,r1,q1⟩=>⟨σ,H1,I1,q1⟩) I.quiet hs
def tRet (te:TE):TS:=fun D σ H=>te σ H D.rt
theorem qh (he:PE X e te):PS X (.Return (some e) pos) (tRet te):=by
 intro pins s σ H D I h
 exact wpAny_Return_some (thn (he pins s σ H _ I h) fun v s1 ⟨x,H1,I1,r1,q1⟩=>⟨x,σ,H1,I1,r1,q1⟩)
def tIfS (c:TT) (t u:TS):TS:=fun D σ H=>c σ H fun b H1=>if b=true then t D σ H1 else u D σ H1
theorem jd {c:Expr} {a b:List Stmt} {tc:TT} (hc:PT X c tc) (ha:PSs X a t) (hb:PSs X b u):PS X (.If c a b pos) (tIfS tc t u):=by
 intro pins s σ H D I h
 refine wpAny_If (thn (hc pins s σ H _ I h) fun d s1 ⟨H1,I1,q1⟩=>?_)
 cases d with
 | true=>exact ha pins s1 σ H1 D I1 q1
 | false=>exact hb pins s1 σ H1 D I1 q1
def tNever:TS:=fun _ _ _=>False
theorem j7 {sts:List Stmt}:PSs X sts tNever:=fun _ _ _ _ _ _ h=>h.elim
end
abbrev TG:=V->St->Hp->(St->Hp->Prop)->Prop
abbrev TGs:=List V->St->Hp->(St->Hp->Prop)->Prop
def PG (X:Cx) (target:Expr) (t:TG):Prop :=
 ∀ (pins:List (Addr × Obj)) (s:Shared) (σ:St) (H:Hp) (v:V) (u:Value) (Q:St->Hp->Prop),Inv X pins σ H s->RelV v u->t v σ H Q ->
  wpAny (model X.prog X.w) X.A (assign target X.env u) (fun _ s'=>∃ σ' H',Inv X pins σ' H' s'/\Q σ' H') X.xe s
def PGs (X:Cx) (ts:List Expr) (t:TGs):Prop :=
 ∀ (pins:List (Addr × Obj)) (s:Shared) (σ:St) (H:Hp) (vs:List V) (us:List Value) (Q:St->Hp->Prop),Inv X pins σ H s->Vals vs us->t vs σ H Q ->
  wpAny (model X.prog X.w) X.A (assignInOrder ((assignEach ts X.env).map (·.2)) us) (fun _ s'=>∃ σ' H',Inv X pins σ' H' s'/\Q σ' H') X.xe s
abbrev TSet:=V->V->V->Hp->(Hp->Prop)->Prop
def PSet (X:Cx) (t:TSet):Prop :=
 ∀ (pins:List (Addr × Obj)) (s:Shared) (σ:St) (H:Hp) (o i v:V) (ov iv u:Value) (Q:Hp->Prop),Inv X pins σ H s->RelV o ov->RelV i iv->RelV v u->t o i v H Q ->
  wpAny (model X.prog X.w) X.A (setItem ov iv u) (fun _ s'=>∃ H',Inv X pins σ H' s'/\Q H') X.xe s
abbrev TIp:=V->V->Hp->VK->Prop
def PIp (X:Cx) (op:Operator) (t:TIp):Prop :=
 ∀ (pins:List (Addr × Obj)) (s:Shared) (σ:St) (H:Hp) (x y:V) (v u:Value) (Q:VK),Inv X pins σ H s->RelV x v->RelV y u->t x y H Q ->
  wpAny (model X.prog X.w) X.A (inplaceOp op v u) (EP X pins σ Q) X.xe s
section
variable {X:Cx} {pos:Pos}
def gName (i:Nat):TG:=fun v σ H Q=>Q (σ.set i (some v)) H
theorem qj {i:Nat} {x:Str} (hN:X.N.Nodup) (hi:X.N[i]? = some x) (hx:Loc X.env.scope x) (hf:X.fn x=true\/X.env.scope.names.lookup x=some .local:=by first | exact .inl rfl | exact .inr rfl | assumption):PG X (.Name x pos) (gName i):=by
 intro pins s σ H v u Q I r h
 exact wpAny_assign_Name (store_ok I hN hi hx r (fun s' I'=>⟨_,H,I',h⟩) hf)
def gNil:TGs:=fun vs σ H Q=>vs=[]/\Q σ H
def gCons (t:TG) (u:TGs):TGs:=fun vs σ H Q=>∃ v r,vs=v :: r/\t v σ H fun σ' H'=>u r σ' H' Q
theorem vb:PGs X [] gNil:=by
 intro pins s σ H vs us Q I r h
 obtain ⟨e,h⟩:=h
 subst e
 cases r
 exact assignInOrder_nil ⟨σ,H,I,h⟩
theorem qo {e:Expr} {es:List Expr} {t:TG} {u:TGs} (h1:PG X e t) (h2:PGs X es u)
  (hs:(assignEach (e :: es) X.env).map (·.2)=assign e X.env :: (assignEach es X.env).map (·.2):=by rfl):PGs X (e :: es) (gCons t u):=by
 intro pins s σ H vs us Q I r h
 obtain ⟨v,vr,e1,h⟩:=h
 subst e1
 cases r with
 | cons r rr =>
  rw [hs]
  refine assignInOrder_cons (thn (h1 pins s σ H _ _ _ I r h) fun _ s1 ⟨σ1,H1,I1,q1⟩=>?_)
  exact h2 pins s1 σ1 H1 _ _ Q I1 rr q1
def gTup (K:W.Frag) (n:Nat) (t:TGs):TG:=fun v σ H Q=>∃ a xs,v=.ref a/\SqT K H a xs/\xs.length=n/\t xs σ H Q
theorem qe9 {es:List Expr} {k:Nat} {t:TGs} {n:Nat} (hc:X.calm=true) (h:PGs X es t)
  (hn:(assignEach es X.env).length=n:=by rfl) (hst:(assignEach es X.env).findIdx? (·.1)=none:=by rfl):PG X (.Tuple es k pos) (gTup X.K n t):=by
 intro pins s σ H v u Q I r hw
 obtain ⟨a,xs,e1,hq,hl,hw⟩:=hw
 subst e1
 cases r
 obtain ⟨its,rv,ht,hz⟩:=I.tuple hq
 refine assign_Tuple_tuple (I.ok.hd hc) ht (by simp [hn,<- hl,rv.length]) hst fun h' hx=>?_
 have I1:Inv X pins σ H { s with heap:=h' }:=I.kept (t':=s.toks) fun b o e=>hx b o (Nat.ne_of_lt (Heap.lt_size e)) e
 exact h pins _ σ H xs _ Q I1 (by simpa using rv) hw
def gSub (to ti:TE) (t:TSet):TG:=fun v σ H Q=>to σ H fun o H1=>ti σ H1 fun i H2=>t o i v H2 fun H3=>Q σ H3
theorem qfa {o i:Expr} {to ti:TE} {t:TSet} (ho:PE X o to) (hi:PE X i ti) (hs:PSet X t)
  (ha:∀ v,assign (.Subscript o i pos) X.env v=(do
   let ov <- holding [v] (eval o X.env)
   let iv <- holding [v,ov] (eval i X.env)
   standAt pos
   holding [v,ov,iv] (setItem ov iv v)
   release [v,ov,iv] []):=by intro _;rfl):PG X (.Subscript o i pos) (gSub to ti t):=by
 intro pins s σ H v u Q I r h
 rw [ha]
 refine wpAny_bind (wpAny_holding (thn (ho pins s σ H _ I h) fun ov s1 ⟨x,H1,I1,r1,q1⟩=>?_))
 refine wpAny_bind (wpAny_holding (thn (hi pins s1 σ H1 _ I1 q1) fun iv s2 ⟨y,H2,I2,r2,q2⟩=>?_))
 refine wpAny_bind (wpAny_standAt (wpAny_bind (wpAny_holding (thn (hs pins s2 σ H2 x y v ov iv u _ I2 r1 r2 r q2) fun _ s3 ⟨H3,I3,q3⟩=>?_))))
 exact wpAny_release ⟨σ,H3,I3,q3⟩
def tAsg (te:TE) (g:TG):TS:=fun D σ H=>te σ H fun x H1=>g x σ H1 D.nx
theorem Yq {tg e:Expr} {te:TE} {g:TG} (he:PE X e te) (hg:PG X tg g) (hs:swapsWithSole [tg] e pos.line X.env=pure false:=by rfl) (hw:swappedStores [tg] e X.env=pure none:=by rfl)
  (h1:(assignEach [tg] X.env).map (·.2)=[assign tg X.env]:=by rfl):PS X (.Assign [tg] e pos) (tAsg te g):=by
 intro pins s σ H D I h
 refine wpAny_Assign_stores (thn (he pins s σ H _ I h) fun v s1 ⟨x,H1,I1,r1,q1⟩=>?_) hs hw
 rw [h1]
 exact thn (hg pins s1 σ H1 x v _ I1 r1 q1) fun _ s2 q=>q
theorem ql {i:Nat} {x:Str} {e:Expr} {te:TE} {pos':Pos} (hN:X.N.Nodup) (hi:X.N[i]? = some x) (hx:Loc X.env.scope x) (he:PE X e te) (hs:swapsWith e (some (.Name x pos')) pos.line X.env=pure false:=by rfl) (hf:X.fn x=true\/X.env.scope.names.lookup x=some .local:=by first | exact .inl rfl | exact .inr rfl | assumption) :
  PS X (.Assign [.Name x pos'] e pos) (tAsg te (gName i)):=by
 intro pins s σ H D I h
 refine wpAny_Assign_Name (thn (he pins s σ H _ I h) fun v s1 ⟨y,H1,I1,r1,q1⟩=>?_) hs
 exact store_ok I1 hN hi hx r1 (fun s2 I2=>⟨_,H1,I2,q1⟩) hf
def tAug (i:Nat) (te:TE) (ti:TIp):TS:=fun D σ H=>∃ x,σ[i]? = some (some x)/\te σ H fun y H1=>ti x y H1 fun z H2=>D.nx (σ.set i (some z)) H2
theorem qfb {i:Nat} {x:Str} {e:Expr} {te:TE} {op:Operator} {ti:TIp} {pos':Pos} (hN:X.N.Nodup) (hi:X.N[i]? = some x) (hx:Loc X.env.scope x) (he:PE X e te) (ho:PIp X op ti) (hf:X.fn x=true\/X.env.scope.names.lookup x=some .local:=by first | exact .inl rfl | exact .inr rfl | assumption) :
  PS X (.AugAssign (.Name x pos') op e pos) (tAug i te ti):=by
 intro pins s σ H D I h
 obtain ⟨v,e1,h⟩:=h
 obtain ⟨m,hn,hl⟩:=I.loc
 have vis:Vis X.env.scope x:=by rcases hx with k | k;exact .inl k;exact .inr (.inl k)
 obtain ⟨u,r,l⟩:=hl i x v hi e1 vis
 refine wpAny_AugAssign_Name ?_
 have go:wpAny (model X.prog X.w) X.A (eval e X.env) (fun w s₂=>wpAny (model X.prog X.w) X.A (inplaceOp op u w) (fun r s₃=>wpAny (model X.prog X.w) X.A (storeName X.env x r) (fun _=>SP X pins D .next) X.xe s₃) X.xe s₂) X.xe s:=by
  refine thn (he pins s σ H _ I h) fun w s1 ⟨y,H1,I1,r1,q1⟩=>?_
  refine thn (ho pins s1 σ H1 v y u w _ I1 r r1 q1) fun z s2 ⟨zv,H2,I2,r2,q2⟩=>?_
  exact store_ok I2 hN hi hx r2 (fun s3 I3=>⟨_,H2,I3,q2⟩) hf
 rcases l with ⟨hk,hm⟩ | ⟨hk,c,hc,hcell⟩
 ·exact wpAny_loadName_local I.ok.kind hk hn hm go
 ·rcases hk with hk | hk
  ·exact wpAny_loadName_cell I.ok.kind hk hc hcell go
  ·rcases hx with k | k
   ·have:X.env.scope.names.lookup x=some .free:=hk
    rw [k] at this;cases this
   ·have:X.env.scope.names.lookup x=some .free:=hk
    rw [k] at this;cases this
def ipI (f:Int->Int->Int):TIp:=fun x y H Q=>∃ i j,x=.int i/\y=.int j/\Q (.int (f i j)) H
theorem qho:PIp X .Add (ipI fun i j=>i+j):=by
 intro pins s σ H x y v u Q I r1 r2 h
 obtain ⟨i,j,e1,e2,q⟩:=h
 subst e1;subst e2
 obtain ⟨t,rfl⟩:=r1
 obtain ⟨t',rfl⟩:=r2
 exact iadd_int ⟨.int _,H,I.tok _,⟨_,rfl⟩,q⟩
theorem qhp:PIp X .Sub (ipI fun i j=>i - j):=by
 intro pins s σ H x y v u Q I r1 r2 h
 obtain ⟨i,j,e1,e2,q⟩:=h
 subst e1;subst e2
 obtain ⟨t,rfl⟩:=r1
 obtain ⟨t',rfl⟩:=r2
 exact isub_int ⟨.int _,H,I.tok _,⟨_,rfl⟩,q⟩
end
section
variable {X:Cx} {pos:Pos}
def tWhile (c:TT) (tb:TS):TS:=fun D σ H=>∃ W:Nat->St->Hp->Prop,(∃ m,W m σ H)/\∀ m σ H,W m σ H ->
 c σ H fun b H1=>if b=true then ∃ N:St->Hp->Prop,(∀ σ' H',N σ' H'->∃ m',m' < m/\W m' σ' H')/\tb { D with nx:=N,ct:=N,bk:=D.nx } σ H1 else D.nx σ H1
theorem Yr {c:Expr} {body:List Stmt} {tc:TT} {tb:TS} (hp:PassesOwn (model X.prog X.w) X.A X.env X.xe) (hc:PT X c tc) (hb:PSs X body tb):PS X (.While c body [] pos) (tWhile tc tb):=by
 intro pins s σ H D I h
 obtain ⟨W,⟨m0,w0⟩,turn⟩:=h
 refine wpAny_While (codeAny_whileLoop (fun n s'=>∃ σ' H',Inv X pins σ' H' s'/\W n σ' H') ?_ m0 ⟨σ,H,I,w0⟩)
 rintro n s1 ⟨σ1,H1,I1,w1⟩
 refine wpAny_passesOwn hp (thn (hc pins s1 σ1 H1 _ I1 (turn n σ1 H1 w1)) fun b s2 ⟨H2,I2,q2⟩=>?_)
 cases b with
 | true =>
  obtain ⟨N,hN,q2⟩:=q2
  rw [if_pos rfl]
  refine wpAny_passesOwn hp (thn (hb pins s2 σ1 H2 _ I2 q2) fun f s3 q3=>?_)
  cases f with
  | next =>
   obtain ⟨σ3,H3,I3,n3⟩:=q3
   obtain ⟨m',hm,w3⟩:=hN σ3 H3 n3
   exact ⟨m',hm,σ3,H3,I3,w3⟩
  | cont =>
   obtain ⟨σ3,H3,I3,n3⟩:=q3
   obtain ⟨m',hm,w3⟩:=hN σ3 H3 n3
   exact ⟨m',hm,σ3,H3,I3,w3⟩
  | brk=>exact q3
  | ret v=>exact q3
 | false =>
  rw [if_neg Bool.false_ne_true]
  exact wpAny_execs_nil ⟨σ1,H2,I2,q2⟩
end
structure It where
 go:Nat->Hp->Prop
 yld:Nat->Hp->V->Hp->Prop
 stop:Nat->Hp->Prop
def FpOk (X:Cx) (pins:List (Addr × Obj)) (H:Hp) (b:Addr):Prop :=
 H b=none/\b≠X.env.locals/\b ∉ X.fs/\(b∈X.ex\/X.s₀.heap.objs.size<=b)/\(∀ x c,X.env.cells.lookup x=some c->c≠b)/\∀ p∈X.pn++pins,p.1≠b
theorem Inv.fpOk {X:Cx} {pins:List (Addr × Obj)} {σ:St} {H H':Hp} {s:Shared} {b:Addr} (I:Inv X pins σ H s) (hb:s.heap.objs.size<=b) (hn:H' b=none):FpOk X pins H' b:=by
 refine ⟨hn,Nat.ne_of_gt (Nat.lt_of_lt_of_le I.lt hb),I.nofs hb,.inr (Nat.le_trans I.sz hb),fun x c e z=>?_,fun p hp z=>?_⟩
 ·obtain ⟨v,q⟩:=I.cell x c e
  exact absurd (Nat.lt_of_lt_of_le q.lt (by rw [z];exact hb)) (Nat.lt_irrefl _)
 ·exact absurd (Nat.lt_of_lt_of_le (Heap.lt_size (I.pin p hp).1) (by rw [z];exact hb)) (Nat.lt_irrefl _)
structure Turn (P:Program) (w:World) (K:W.Frag) (tg:Expr) (J:It) (fp:List Addr) (it:Addr) (tn:Nat->Heap->Prop):Prop where
 mem:it∈fp
 obj:∀ i h,tn i h->∀ b∈fp,∃ o,h.get? b=some o/\∀ v,o.data≠.cell v
 keep:∀ i h h',tn i h->(∀ b∈fp,∀ o,h.get? b=some o->h'.get? b=some o)->tn i h'
 item:∀ (X:Cx),X.prog=P->X.w=w->X.K=K->X.calm=true->∀ (i:Nat) (pins:List (Addr × Obj)) (s:Shared) (σ:St) (H:Hp) (E:Value->Shared->Prop),Inv X pins σ H s->(∀ b∈fp,FpOk X pins H b)->tn i s.heap->J.go i H ->
  wpAny (model P w) X.A (pyNext (.ref it)) (fun r s1=>∃ u,r=some u /\
   wpAny (model P w) X.A (letOwnedTupleGo tg (.ref it) u) (fun _ s2=>∃ x H',Inv X pins σ H' s2/\RelV x u/\J.yld i H x H'/\tn (i+1) s2.heap/\∀ b∈fp,H' b=none) E s1) E s
 done:∀ (X:Cx),X.prog=P->X.w=w->X.K=K->X.calm=true->∀ (i:Nat) (pins:List (Addr × Obj)) (s:Shared) (σ:St) (H:Hp) (E:Value->Shared->Prop),Inv X pins σ H s->(∀ b∈fp,FpOk X pins H b)->tn i s.heap->J.stop i H ->
  wpAny (model P w) X.A (pyNext (.ref it)) (fun r s1=>r=none/\Inv X pins σ H s1) E s
 self:∀ (A:Around) (i:Nat) (s:Shared) (Q:Value->Shared->Prop) (E:Value->Shared->Prop),tn i s.heap->Q (.ref it) s->wpAny (model P w) A (pyIter (.ref it)) Q E s
abbrev TI:=St->Hp->(It->Hp->Prop)->Prop
def PIE (X:Cx) (pins:List (Addr × Obj)) (σ:St) (tg:Expr) (R:It->Hp->Prop) (itv:Value) (s2:Shared):Prop :=
 ∃ (it:Addr) (fp:List Addr) (tn:Nat->Heap->Prop) (J:It) (H':Hp),itv=.ref it/\Inv X pins σ H' s2/\Turn X.prog X.w X.K tg J fp it tn/\tn 0 s2.heap/\(∀ b∈fp,FpOk X pins H' b)/\R J H'
def PI (X:Cx) (tg iter:Expr) (wi:TI):Prop :=
 ∀ (pins:List (Addr × Obj)) (s:Shared) (σ:St) (H:Hp) (R:It->Hp->Prop),Inv X pins σ H s->wi σ H R ->
  wpAny (model X.prog X.w) X.A (eval iter X.env) (fun v s1=>wpAny (model X.prog X.w) X.A (pyIter v) (PIE X pins σ tg R) X.xe s1) X.xe s
theorem qau {M:Model} {A:Around} {E:Value->Shared->Prop} {s:Shared} {tg:Expr} {it:Addr} {u:Value} {o:Obj} {n:String} {vs:Array Value} {Q:Unit->Shared->Prop} (ho:s.heap.get? it=some o) (hc:o.cls=.type n) (hd:o.data=.fields vs)
  (hn:["enumerate","zip","dict_itemiterator","dict_reverseitemiterator","odict_iterator","itertools.zip_longest","itertools.pairwise"].contains n=false) (hQ:Q () s):wpAny M A (letOwnedTupleGo tg (.ref it) u) Q E s:=by
 unfold letOwnedTupleGo
 cases tg <;> first
  | exact wpAny_pure hQ
  | (cases u <;> first
    | exact wpAny_pure hQ
    | (refine wpAny_bind (wpAny_load ho ?_)
       rw [hc,hd]
       show wpAny M A (if (["enumerate","zip","dict_itemiterator","dict_reverseitemiterator","odict_iterator","itertools.zip_longest","itertools.pairwise"].contains n && vs[0]? == some (rawInt _))=true then _ else _) Q E s
       rw [if_neg (by intro h;rw [hn,Bool.false_and] at h;cases h)]
       exact wpAny_pure hQ))
def Itl (K:W.Frag) (a:Addr):It :=
 ⟨fun i H=>∃ xs x,SqL K H a xs/\xs[i]? = some x,fun i H x H'=>H'=H/\∀ xs,SqL K H a xs->xs[i]? = some x,fun i H=>∃ xs,SqL K H a xs/\xs.length<=i⟩
def Itt (K:W.Frag) (a:Addr):It :=
 ⟨fun i H=>∃ xs x,SqT K H a xs/\xs[i]? = some x,fun i H x H'=>H'=H/\∀ xs,SqT K H a xs->xs[i]? = some x,fun i H=>∃ xs,SqT K H a xs/\xs.length<=i⟩
def Itr (lo:Int) (n:Nat):It:=⟨fun i _=>i < n,fun i H x H'=>H'=H/\x=.int (lo+i),fun i _=>n<=i⟩
theorem V0 {P:Program} {w:World} {K:W.Frag} {tg:Expr} (a it:Addr):Turn P w K tg (Itl K a) [it] it (fun i h=>h.IsListIter it a i) where
 mem:=by simp
 obj:=fun i h st b hb=>by
  have e:b=it:=by simpa using hb
  subst e
  obtain ⟨o,e,c,d⟩:=st
  exact ⟨o,e,fun v z=>by rw [d] at z;cases z⟩
 keep:=fun i h h' st k=>st.at fun o e=>k it (by simp) o e
 item:=by
  intro X hP hw hK hc i pins s σ H E I hf st hg
  subst hP hw hK
  obtain ⟨xs,x,hq,hx⟩:=hg
  obtain ⟨its,rv,p,hz⟩:=I.list hq
  obtain ⟨u,hu,ru⟩:=rv.get hx
  obtain ⟨f0,f1,f2,f3,f4,f5⟩:=hf it (by simp)
  refine wpAny_pyNext_list_item st p.isList (x:=u) (by simpa using hu) fun h' st' sb=>?_
  have I1:Inv X pins σ H { s with heap:=h' }:=I.turned (t':=s.toks) (fun b o hb e=>(sb.2 b hb).trans e) f0 f1 f3 f4 f5
  obtain ⟨o,e,c,d⟩:=id st'
  exact ⟨u,rfl,qau (s:={ s with heap:=h' }) e c d (by decide) ⟨x,H,I1,ru,⟨rfl,fun ys hy=>by rw [I.list_inj hy hq];exact hx⟩,st',fun b hb=>(hf b hb).1⟩⟩
 done:=by
  intro X hP hw hK hc i pins s σ H E I hf st hg
  subst hP hw hK
  obtain ⟨xs,hq,hx⟩:=hg
  obtain ⟨its,rv,p,hz⟩:=I.list hq
  obtain ⟨f0,f1,f2,f3,f4,f5⟩:=hf it (by simp)
  have hl:=rv.length
  exact wpAny_pyNext_list_end (I.ok.hd hc) st p.isList (by simp;omega) fun h' eb=>⟨rfl,I.turned (t':=s.toks) (fun b o hb e=>eb b o hb e) f0 f1 f3 f4 f5⟩
 self:=fun _ _ _ _ _ st h=>wpAny_pyIter_listiter st h
theorem Jp {P:Program} {w:World} {K:W.Frag} {tg:Expr} (a it:Addr):Turn P w K tg (Itt K a) [it] it (fun i h=>h.IsTupleIter it a i) where
 mem:=by simp
 obj:=fun i h st b hb=>by
  have e:b=it:=by simpa using hb
  subst e
  obtain ⟨o,e,c,d⟩:=st
  exact ⟨o,e,fun v z=>by rw [d] at z;cases z⟩
 keep:=fun i h h' st k=>st.at fun o e=>k it (by simp) o e
 item:=by
  intro X hP hw hK hc i pins s σ H E I hf st hg
  subst hP hw hK
  obtain ⟨xs,x,hq,hx⟩:=hg
  obtain ⟨its,rv,p,hz⟩:=I.tuple hq
  obtain ⟨u,hu,ru⟩:=rv.get hx
  obtain ⟨f0,f1,f2,f3,f4,f5⟩:=hf it (by simp)
  refine wpAny_pyNext_tuple_item st (show s.heap.IsTuple a its.toArray from p) (x:=u) (by simpa using hu) fun h' st' sb=>?_
  have I1:Inv X pins σ H { s with heap:=h' }:=I.turned (t':=s.toks) (fun b o hb e=>(sb.2 b hb).trans e) f0 f1 f3 f4 f5
  obtain ⟨o,e,c,d⟩:=id st'
  exact ⟨u,rfl,qau (s:={ s with heap:=h' }) e c d (by decide) ⟨x,H,I1,ru,⟨rfl,fun ys hy=>by rw [I.tuple_inj hy hq];exact hx⟩,st',fun b hb=>(hf b hb).1⟩⟩
 done:=by
  intro X hP hw hK hc i pins s σ H E I hf st hg
  subst hP hw hK
  obtain ⟨xs,hq,hx⟩:=hg
  obtain ⟨its,rv,p,hz⟩:=I.tuple hq
  obtain ⟨f0,f1,f2,f3,f4,f5⟩:=hf it (by simp)
  have hl:=rv.length
  exact wpAny_pyNext_tuple_end (I.ok.hd hc) st (show s.heap.IsTuple a its.toArray from p) (by simp;omega) fun h' eb=>⟨rfl,I.turned (t':=s.toks) (fun b o hb e=>eb b o hb e) f0 f1 f3 f4 f5⟩
 self:=fun _ _ _ _ _ st h=>wpAny_pyIter_tupleiter st h
theorem qav {P:Program} {w:World} {K:W.Frag} {tg:Expr} (it:Addr) (lo:Int) (n:Nat):Turn P w K tg (Itr lo n) [it] it (fun i h=>IsRangeIter h it (lo+(i:Nat) * 1) ((n:Int) - (i:Nat)) 1) where
 mem:=by simp
 obj:=fun i h st b hb=>by
  have e:b=it:=by simpa using hb
  subst e
  exact ⟨_,st,fun v z=>by
   have z':Data.fields _=Data.cell v:=z
   cases z'⟩
 keep:=fun i h h' st k=>k it (by simp) _ st
 item:=by
  intro X hP hw hK hc i pins s σ H E I hf st hg
  subst hP hw hK
  obtain ⟨f0,f1,f2,f3,f4,f5⟩:=hf it (by simp)
  have W:=Walks.range (prog:=X.prog) (w:=X.w) (I.ok.hd hc) it lo 1 n
  refine W.item i s _ _ hg st fun v h' tk hv st' kk=>?_
  obtain ⟨t,rfl⟩:=hv
  have I1:Inv X pins σ H { s with heap:=h',toks:=tk }:=I.turned (fun b o hb e=>kk b o (by simpa using hb) e) f0 f1 f3 f4 f5
  refine ⟨_,rfl,qau (s:={ s with heap:=h',toks:=tk }) (n:="range_iterator") st' rfl rfl (by decide) ⟨.int (lo+i),H,I1,⟨t,?_⟩,⟨rfl,rfl⟩,st',fun b hb=>(hf b hb).1⟩⟩
  rw [Int.mul_one]
 done:=by
  intro X hP hw hK hc i pins s σ H E I hf st hg
  subst hP hw hK
  obtain ⟨f0,f1,f2,f3,f4,f5⟩:=hf it (by simp)
  exact wpAny_pyNext_range_end (I.ok.hd hc) st (by have:n<=i:=hg;omega) fun h' eb=>⟨rfl,I.turned (t':=s.toks) (fun b o hb e=>eb b o hb e) f0 f1 f3 f4 f5⟩
 self:=fun _ _ _ _ _ st h=>wpAny_pyIter_rangeiter st h
end L2
namespace L2
open PySem PySem.Spec PyProof.Rows
section
variable {X:Cx} {tg:Expr}
def iList (K:W.Frag) (tl:TE):TI:=fun σ H R=>tl σ H fun x H1=>∃ a,x=.ref a/\(∃ xs,SqL K H1 a xs)/\R (Itl K a) H1
def iTup (K:W.Frag) (tl:TE):TI:=fun σ H R=>tl σ H fun x H1=>∃ a,x=.ref a/\(∃ xs,SqT K H1 a xs)/\R (Itt K a) H1
theorem pi_list {l:Expr} {tl:TE} (hl:PE X l tl):PI X tg l (iList X.K tl):=by
 intro pins s σ H R I h
 refine thn (hl pins s σ H _ I h) fun v s1 ⟨x,H1,I1,r1,q1⟩=>?_
 obtain ⟨a,e,⟨xs,hq⟩,q⟩:=q1
 subst e
 cases r1
 obtain ⟨its,rv,p,hz⟩:=I1.list hq
 refine wpAny_pyIter_list p.isList ?_
 refine ⟨s1.heap.objs.size,[s1.heap.objs.size],_,_,H1,rfl,I1.kept (t':=s1.toks) fun b o e=>Heap.get?_push_of_some _ e,V0 a _,⟨_,Heap.get?_push_size _ rfl,rfl,rfl⟩,fun b hb=>?_,q⟩
 have e:b=s1.heap.objs.size:=by simpa using hb
 subst e
 exact I1.fpOk (Nat.le_refl _) (I1.hok.fresh (Nat.le_refl _))
theorem qfc {l:Expr} {tl:TE} (hl:PE X l tl):PI X tg l (iTup X.K tl):=by
 intro pins s σ H R I h
 refine thn (hl pins s σ H _ I h) fun v s1 ⟨x,H1,I1,r1,q1⟩=>?_
 obtain ⟨a,e,⟨xs,hq⟩,q⟩:=q1
 subst e
 cases r1
 obtain ⟨its,rv,p,hz⟩:=I1.tuple hq
 refine wpAny_pyIter_tuple (show s1.heap.IsTuple a its.toArray from p) ?_
 refine ⟨s1.heap.objs.size,[s1.heap.objs.size],_,_,H1,rfl,I1.kept (t':=s1.toks) fun b o e=>Heap.get?_push_of_some _ e,Jp a _,⟨_,Heap.get?_push_size _ rfl,rfl,rfl⟩,fun b hb=>?_,q⟩
 have e:b=s1.heap.objs.size:=by simpa using hb
 subst e
 exact I1.fpOk (Nat.le_refl _) (I1.hok.fresh (Nat.le_refl _))
theorem qds {pins:List (Addr × Obj)} {σ:St} {H:Hp} {s:Shared} {R:It->Hp->Prop} {E:Value->Shared->Prop} {lo hi:Int} {t u v:Tok} {tk:Nat} (I:Inv X pins σ H s) (h1:-(2 ^ 62)<=lo) (h2:lo < 2 ^ 62) (h3:-(2 ^ 62)<=hi) (h4:hi < 2 ^ 62)
  (q:R (Itr lo (hi - lo).toNat) H):wpAny (model X.prog X.w) X.A (pyIter (.ref s.heap.objs.size)) (PIE X pins σ tg R) E { s with heap:=s.heap.push { cls:=.type "range",data:=.fields #[.int lo t,.int hi u,.int 1 v] },toks:=tk }:=by
 refine wpAny_pyIter_range (IsRange.new ..) (small_one h1 h2 h3 h4) ?_
 have I1:Inv X pins σ H { s with heap:=s.heap.push { cls:=.type "range",data:=.fields #[.int lo t,.int hi u,.int 1 v] },toks:=tk }:=I.kept fun b o e=>Heap.get?_push_of_some _ e
 refine ⟨(s.heap.push { cls:=.type "range",data:=.fields #[.int lo t,.int hi u,.int 1 v] }).objs.size,[(s.heap.push { cls:=.type "range",data:=.fields #[.int lo t,.int hi u,.int 1 v] }).objs.size],_,_,H,rfl,
  I1.kept (t':=tk) fun b o e=>Heap.get?_push_of_some _ e,qav _ lo (hi - lo).toNat,?_,fun b hb=>?_,q⟩
 ·have e1:lo+((0:Nat):Int) * 1=lo:=by simp
  have e2:(((hi - lo).toNat:Nat):Int) - ((0:Nat):Int)=Builtin.Range.rangeSize lo hi 1:=by rw [rangeSize_one];split <;> omega
  show IsRangeIter _ _ (lo+((0:Nat):Int) * 1) ((((hi - lo).toNat:Nat):Int) - ((0:Nat):Int)) 1
  rw [e1,e2]
  exact Heap.get?_push_size _ rfl
 ·have e:b=(s.heap.push { cls:=.type "range",data:=.fields #[.int lo t,.int hi u,.int 1 v] }).objs.size:=by simpa using hb
  subst e
  exact I1.fpOk (Nat.le_refl _) (I1.hok.fresh (Nat.le_refl _))
def iRng1 (ta:TA):TI:=fun σ H R=>ta σ H fun vs H1=>∃ j:Int,vs=[.int j]/\-(2 ^ 62)<=j/\j < 2 ^ 62/\R (Itr 0 j.toNat) H1
theorem vy {a:Expr} {ta:TA} {p pos:Pos} (hg:Gl X "range") (hm:X.mg "range" = none) (ha:PA X [a] ta) (hs:starEach [a] X.env=[(false,eval a X.env)]:=by rfl):PI X tg (.Call (.Name "range" p) [a] [] pos) (iRng1 ta):=by
 intro pins s σ H R I h
 refine Call_ (ld_blt I hg hm boot_range (PyProof.Rows.callWith_type1 (thn (ha pos pins s σ H _ I h) fun us s1 ⟨vs,H1,I1,r1,q1⟩=>?_) hs rfl))
 obtain ⟨j,e,q1,q2,q⟩:=q1
 subst e
 cases r1 with
 | cons r rr =>
  cases rr
  obtain ⟨t,rfl⟩:=r
  exact call_range_1 (qds I1 (by omega) (by omega) q1 q2 (by simpa using q))
def tFor (wi:TI) (g:TG) (tb:TS):TS:=fun D σ H=>wi σ H fun J H1=>∃ W:Nat->Nat->St->Hp->Prop,(∃ m,W 0 m σ H1)/\∀ i m σ H,W i m σ H ->
 (J.stop i H/\D.nx σ H)\/(J.go i H/\∃ N:St->Hp->Prop,(∀ σ' H',N σ' H'->∃ m',m' < m/\W (i+1) m' σ' H')/\∀ x H',J.yld i H x H'->g x σ H' fun σ2 H2=>tb { D with nx:=N,ct:=N,bk:=D.nx } σ2 H2)
def pinsAt (fp:List Addr) (h:Heap):List (Addr × Obj):=fp.filterMap fun b=>(h.get? b).map fun o=>(b,o)
theorem jj {fp:List Addr} {h:Heap} {b:Addr} {o:Obj} (hb:b∈fp) (e:h.get? b=some o):(b,o)∈pinsAt fp h:=List.mem_filterMap.mpr ⟨b,hb,by rw [e];rfl⟩
theorem vz {fp:List Addr} {h:Heap} {p:Addr × Obj} (hp:p∈pinsAt fp h):p.1∈fp/\h.get? p.1=some p.2:=by
 obtain ⟨b,hb,e⟩:=List.mem_filterMap.mp hp
 cases q:h.get? b with
 | none=>rw [q] at e;cases e
 | some o =>
  rw [q] at e
  have e':(b,o)=p:=Option.some.inj e
  subst e'
  exact ⟨hb,q⟩
theorem Inv.pinned {pins:List (Addr × Obj)} {σ:St} {H:Hp} {s:Shared} {fp:List Addr} (I:Inv X pins σ H s) (hf:∀ b∈fp,FpOk X pins H b) (ho:∀ b∈fp,∃ o,s.heap.get? b=some o/\∀ v,o.data≠.cell v):Inv X (pins++pinsAt fp s.heap) σ H s :=
 I.pins_of fun p hp=>(List.mem_append.mp hp).elim (fun z=>I.pin p (List.mem_append_right _ z)) fun z=>by
  obtain ⟨hb,e⟩:=vz z
  obtain ⟨f0,f1,f2,_⟩:=hf p.1 hb
  obtain ⟨o,e',d⟩:=ho p.1 hb
  rw [e] at e';cases e'
  exact ⟨e,f0,f1,f2,d⟩
theorem Inv.unpinned {pins pl:List (Addr × Obj)} {σ:St} {H:Hp} {s:Shared} (I:Inv X (pins++pl) σ H s):Inv X pins σ H s:=I.pins_of fun p hp=>I.pin p (List.mem_append_right _ (List.mem_append_left _ hp))
theorem za {iter:Expr} {body:List Stmt} {wi:TI} {g:TG} {tb:TS} {pos:Pos} (hp:PassesOwn (model X.prog X.w) X.A X.env X.xe) (hc:X.calm=true) (hi:PI X tg iter wi) (hg:PG X tg g) (hb:PSs X body tb)
  (hs:∀ x,foldedSetIterable iter X.env x=pure x:=by intro _;rfl):PS X (.For tg iter body [] pos) (tFor wi g tb):=by
 intro pins s σ H D I h
 refine wpAny_For (thn (hi pins s σ H _ I h) fun v s1 h1=>thn h1 fun itv s2 h2=>?_) hs
 obtain ⟨it,fp,tn,J,H2,e,I2,T,st2,f2,W,⟨m0,w0⟩,turn⟩:=h2
 subst e
 -- what stays true of the iterator's objects through the loop
 have stat:∀ {H':Hp},(∀ b∈fp,H' b=none)->∀ b∈fp,FpOk X pins H' b:=fun hn b hb=>⟨hn b hb,(f2 b hb).2⟩
 refine codeAny_forLoop_any (fun n s'=>∃ i σ' H',Inv X pins σ' H' s'/\tn i s'.heap/\(∀ b∈fp,H' b=none)/\W i n σ' H') ?_ m0 ⟨0,σ,H2,I2,st2,fun b hb=>(f2 b hb).1,w0⟩
 rintro n s3 ⟨i,σ3,H3,I3,st3,fr3,w3⟩
 rcases turn i n σ3 H3 w3 with ⟨stop,qn⟩ | ⟨go,N,hN,step⟩
 ·refine wpAny_passesOwn hp (thn (T.done X rfl rfl rfl hc i pins s3 σ3 H3 X.xe I3 (stat fr3) st3 stop) fun r s4 ⟨hr,I4⟩=>?_)
  subst hr
  exact wpAny_execs_nil ⟨σ3,H3,I4,qn⟩
 ·refine wpAny_passesOwn hp (thn (T.item X rfl rfl rfl hc i pins s3 σ3 H3 X.xe I3 (stat fr3) st3 go) fun r s4 ⟨u,hr,h4⟩=>?_)
  subst hr
  refine wpAny_passesOwn hp (thn h4 fun _ s5 ⟨x,H5,I5,r5,y5,st5,fr5⟩=>?_)
  have I5':=I5.pinned (stat fr5) (T.obj _ _ st5)
  refine wpAny_passesOwn hp (thn (hg _ s5 σ3 H5 x u _ I5' r5 (step x H5 y5)) fun _ s6 ⟨σ6,H6,I6,q6⟩=>?_)
  refine wpAny_passesOwn hp (thn (hb _ s6 σ6 H6 _ I6 q6) fun f s7 q7=>?_)
  have again:∀ {σ7:St} {H7:Hp},Inv X (pins++pinsAt fp s5.heap) σ7 H7 s7->N σ7 H7->∃ m,m < n/\∃ i σ' H',Inv X pins σ' H' s7/\tn i s7.heap/\(∀ b∈fp,H' b=none)/\W i m σ' H':=fun {σ7 H7} I7 n7=>by
   obtain ⟨m',hm,w7⟩:=hN σ7 H7 n7
   refine ⟨m',hm,i+1,σ7,H7,I7.unpinned,T.keep _ _ _ st5 fun b hb o e=>(I7.pin (b,o) (List.mem_append_right _ (List.mem_append_right _ (jj hb e)))).1,fun b hb=>?_,w7⟩
   obtain ⟨o,e,d⟩:=T.obj _ _ st5 b hb
   exact (I7.pin (b,o) (List.mem_append_right _ (List.mem_append_right _ (jj hb e)))).2.1
  cases f with
  | next=>obtain ⟨σ7,H7,I7,n7⟩:=q7;exact again I7 n7
  | cont=>obtain ⟨σ7,H7,I7,n7⟩:=q7;exact again I7 n7
  | brk=>obtain ⟨σ7,H7,I7,q7⟩:=q7;exact ⟨σ7,H7,I7.unpinned,q7⟩
  | ret v=>obtain ⟨x7,σ7,H7,I7,r7,q7⟩:=q7;exact ⟨x7,σ7,H7,I7.unpinned,r7,q7⟩
end
end L2
namespace L2
open PySem PySem.Spec PyProof.Rows
abbrev R2:=V->V->Hp->VK->Prop
def OpR (X:Cx) (f:Value->Value->Sem Value) (r:R2):Prop :=
 ∀ (pins:List (Addr × Obj)) (s:Shared) (σ:St) (H:Hp) (x y:V) (v u:Value) (Q:VK),Inv X pins σ H s->RelV x v->RelV y u->r x y H Q ->
  wpAny (model X.prog X.w) X.A (f v u) (EP X pins σ Q) X.xe s
def UnR (X:Cx) (f:Value->Sem Value) (r:V->Hp->VK->Prop):Prop :=
 ∀ (pins:List (Addr × Obj)) (s:Shared) (σ:St) (H:Hp) (x:V) (v:Value) (Q:VK),Inv X pins σ H s->RelV x v->r x H Q ->
  wpAny (model X.prog X.w) X.A (f v) (EP X pins σ Q) X.xe s
def CallR (X:Cx) (f:Value) (r:List V->Hp->VK->Prop):Prop :=
 ∀ (pins:List (Addr × Obj)) (s:Shared) (σ:St) (H:Hp) (xs:List V) (us:List Value) (Q:VK),Inv X pins σ H s->Vals xs us->r xs H Q ->
  wpAny (model X.prog X.w) X.A (call f us) (EP X pins σ Q) X.xe s
def TruR (X:Cx) (r:V->Hp->(Bool->Hp->Prop)->Prop):Prop :=
 ∀ (pins:List (Addr × Obj)) (s:Shared) (σ:St) (H:Hp) (x:V) (v:Value) (Q:Bool->Hp->Prop),Inv X pins σ H s->RelV x v->r x H Q ->
  wpAny (model X.prog X.w) X.A (truthy v) (TP X pins σ Q) X.xe s
def tOp (r:R2) (ta tb:TE):TE:=fun σ H Q=>ta σ H fun x H1=>tb σ H1 fun y H2=>r x y H2 Q
def tUn (r:V->Hp->VK->Prop) (ta:TE):TE:=fun σ H Q=>ta σ H fun x H1=>r x H1 Q
def rI (C:Int->Int->Prop) (g:Int->Int->V):R2:=fun x y H Q=>∃ i j,x=.int i/\y=.int j/\C i j/\Q (g i j) H
def rI0 (g:Int->Int->V):R2:=fun x y H Q=>∃ i j,x=.int i/\y=.int j/\Q (g i j) H
def rU (g:Int->V):V->Hp->VK->Prop:=fun x H Q=>∃ i,x=.int i/\Q (g i) H
section
variable {X:Cx} {a b c:Expr} {ta tb tc:TE} {pos:Pos}
theorem binT (ha:PE X a ta) (hb:PE X b tb) {pins:List (Addr × Obj)} {s:Shared} {σ:St} {H:Hp} {R:V->V->Hp->Prop} (I:Inv X pins σ H s)
  (h:ta σ H fun x H1=>tb σ H1 fun y H2=>R x y H2) {Q:Value->Shared->Prop} {f:Value->Value->Sem Value}
  (hf:∀ v u s2 x y H2,Inv X pins σ H2 s2->RelV x v->RelV y u->R x y H2->wpAny (model X.prog X.w) X.A (f v u) Q X.xe s2) :
  wpAny (model X.prog X.w) X.A (eval a X.env) (fun v s₁=>wpAny (model X.prog X.w) X.A (eval b X.env) (fun u s₂=>wpAny (model X.prog X.w) X.A (f v u) Q X.xe s₂) X.xe s₁) X.xe s:=by
 refine thn (ha pins s σ H _ I h) fun v s1 ⟨x,H1,I1,r1,q1⟩=>?_
 refine thn (hb pins s1 σ H1 _ I1 q1) fun u s2 ⟨y,H2,I2,r2,q2⟩=>?_
 exact hf v u s2 x y H2 I2 r1 r2 q2
theorem qp {op:Operator} {r:R2} (ho:OpR X (binaryOp op) r) (ha:PE X a ta) (hb:PE X b tb):PE X (.BinOp a op b pos) (tOp r ta tb):=by
 intro pins s σ H Q I h
 exact wpAny_BinOp (binT ha hb I h fun v u s2 x y H2 I2 rx ry q=>ho pins s2 σ H2 x y v u Q I2 rx ry q)
theorem V1 {op:UnaryOp} {r:V->Hp->VK->Prop} (ho:UnR X (unaryOp op) r) (ha:PE X a ta):PE X (.UnaryOp op a pos) (tUn r ta):=by
 intro pins s σ H Q I h
 exact UnaryOp_ (thn (ha pins s σ H _ I h) fun v s1 ⟨x,H1,I1,r1,q1⟩=>ho pins s1 σ H1 x v Q I1 r1 q1)
theorem opI {f:Value->Value->Sem Value} {C:Int->Int->Prop} {g:Int->Int->Int}
  (rule:∀ (i j:Int) (t u:Tok) (s:Shared) (Q:Value->Shared->Prop) (E:Value->Shared->Prop),C i j->Q (.int (g i j) s.toks) { s with toks:=s.toks+1 }->wpAny (model X.prog X.w) X.A (f (.int i t) (.int j u)) Q E s) :
  OpR X f (rI C fun i j=>.int (g i j)):=by
 intro pins s σ H x y v u Q I rx ry h
 obtain ⟨i,j,rfl,rfl,hc,q⟩:=h
 obtain ⟨t,rfl⟩:=rx
 obtain ⟨t',rfl⟩:=ry
 exact rule i j t t' s _ _ hc ⟨.int (g i j),H,I.tok _,⟨_,rfl⟩,q⟩
theorem opI0 {f:Value->Value->Sem Value} {g:Int->Int->Int}
  (rule:∀ (i j:Int) (t u:Tok) (s:Shared) (Q:Value->Shared->Prop) (E:Value->Shared->Prop),Q (.int (g i j) s.toks) { s with toks:=s.toks+1 }->wpAny (model X.prog X.w) X.A (f (.int i t) (.int j u)) Q E s) :
  OpR X f (rI0 fun i j=>.int (g i j)):=by
 intro pins s σ H x y v u Q I rx ry h
 obtain ⟨i,j,rfl,rfl,q⟩:=h
 obtain ⟨t,rfl⟩:=rx
 obtain ⟨t',rfl⟩:=ry
 exact rule i j t t' s _ _ ⟨.int (g i j),H,I.tok _,⟨_,rfl⟩,q⟩
theorem opB0 {f:Value->Value->Sem Value} {g:Int->Int->Bool}
  (rule:∀ (i j:Int) (t u:Tok) (s:Shared) (Q:Value->Shared->Prop) (E:Value->Shared->Prop),Q (.bool (g i j)) s->wpAny (model X.prog X.w) X.A (f (.int i t) (.int j u)) Q E s) :
  OpR X f (rI0 fun i j=>.bl (g i j)):=by
 intro pins s σ H x y v u Q I rx ry h
 obtain ⟨i,j,rfl,rfl,q⟩:=h
 obtain ⟨t,rfl⟩:=rx
 obtain ⟨t',rfl⟩:=ry
 exact rule i j t t' s _ _ ⟨.bl (g i j),H,I,rfl,q⟩
def CDiv (i j:Int):Prop:=0 < j/\j < 1073741824
def CPow (i j:Int):Prop:=0<=j/\j<=1000000/\i.natAbs < 2 ^ 64
def CMul (i j:Int):Prop:=(-(2 ^ 64) < i/\i < 2 ^ 64)\/(-(2 ^ 64) < j/\j < 2 ^ 64)
theorem CMul.ok {i j:Int} (h:CMul i j):IntMulOk i j:=by
 rcases h with ⟨h1,h2⟩ | ⟨h1,h2⟩
 ·exact .of_left (intBits_le_64 h1 h2)
 ·exact .of_right (intBits_le_64 h1 h2)
theorem jr:OpR X (binaryOp .Add) (rI0 fun i j=>.int (i+j)):=opI0 fun _ _ _ _ _ _ _ q=>add_int q
theorem Ys:OpR X (binaryOp .Sub) (rI0 fun i j=>.int (i - j)):=opI0 fun _ _ _ _ _ _ _ q=>sub_int q
theorem yb:OpR X (binaryOp .Mult) (rI CMul fun i j=>.int (i * j)):=opI fun _ _ _ _ _ _ _ hc q=>mul_int q hc.ok
theorem qbp:OpR X (binaryOp .FloorDiv) (rI CDiv fun i j=>.int (i / j)):=opI fun i j _ _ _ _ _ hc q=>by
 have h1:(0:Int) < j:=hc.1
 have h2:j < 1073741824:=hc.2
 exact floordiv_int (by omega) (by rw [Int.fdiv_eq_ediv_of_nonneg i (by omega)];exact q) (.inl (PyProof.noPylong_small (by omega)))
theorem yc:OpR X (binaryOp .Mod) (rI (fun _ j=>0 < j) fun i j=>.int (i % j)):=opI fun i j _ _ _ _ _ hc q=>by
 have h1:(0:Int) < j:=hc
 exact mod_int' (by omega) (by rw [Int.fmod_eq_emod_of_nonneg i (by omega)];exact q)
theorem ym:OpR X (binaryOp .Pow) (rI CPow fun i j=>.int (i ^ j.toNat)):=opI fun _ _ _ _ _ _ _ hc q=>pow_int_small hc.1 hc.2.1 hc.2.2 q
theorem unI {f:Value->Sem Value} {g:Int->Int}
  (rule:∀ (i:Int) (t:Tok) (s:Shared) (Q:Value->Shared->Prop) (E:Value->Shared->Prop),Q (.int (g i) s.toks) { s with toks:=s.toks+1 }->wpAny (model X.prog X.w) X.A (f (.int i t)) Q E s) :
  UnR X f (rU fun i=>.int (g i)):=by
 intro pins s σ H x v Q I rx h
 obtain ⟨i,rfl,q⟩:=h
 obtain ⟨t,rfl⟩:=rx
 exact rule i t s _ _ ⟨.int (g i),H,I.tok _,⟨_,rfl⟩,q⟩
theorem yd:UnR X (unaryOp .USub) (rU fun i=>.int (-i)):=unI fun _ _ _ _ _ q=>neg_int q
end
def scal:V->V->Bool
 | .non,.non=>true | .non,.int _=>true | .int _,.non=>true | .non,.bl _=>true | .bl _,.non=>true | .non,.str _=>true | .str _,.non=>true
 | .int _,.int _=>true | .bl _,.bl _=>true | .str _,.str _=>true | .byt _,.byt _=>true
 | .int _,.str _=>true | .str _,.int _=>true | .bl _,.str _=>true | .str _,.bl _=>true
 | _,_=>false
def rEq:R2:=fun x y H Q=>scal x y=true/\Q (.bl (decide (x=y))) H
def rNe:R2:=fun x y H Q=>scal x y=true/\Q (.bl (!decide (x=y))) H
theorem qbq {i j:Int}:decide (V.int i=V.int j)=(i == j):=by
 rw [Bool.eq_iff_iff]
 simp
theorem qfd {i j:Bool}:decide (V.bl i=V.bl j)=(i == j):=by
 rw [Bool.eq_iff_iff]
 simp
theorem qbr {i j:Str}:decide (V.str i=V.str j)=(i == j):=by
 rw [Bool.eq_iff_iff]
 simp
theorem qbs {i j:Array UInt8}:decide (V.byt i=V.byt j)=(i.toList == j.toList):=by
 rw [Bool.eq_iff_iff]
 cases i
 cases j
 simp
section
variable {X:Cx} {a b c:Expr} {ta tb tc:TE} {pos:Pos}
theorem qv {pins:List (Addr × Obj)} {σ:St} {H:Hp} {s:Shared} {Q:VK} {k k':Bool} (I:Inv X pins σ H s) (q:Q (.bl k) H) (e:k=k'):EP X pins σ Q (.bool k') s:=by
 subst e
 exact ⟨.bl k,H,I,rfl,q⟩
theorem V2:OpR X (compareOp .Eq) rEq:=by
 intro pins s σ H x y v u Q I rx ry h
 obtain ⟨hs,q⟩:=h
 cases x with
 | non =>
  cases rx
  cases y with
  | non=>cases ry;exact PySem.EqNone.eq_none_none (qv I q (by simp))
  | bl j=>cases ry;exact PySem.EqNone.eq_none_bool (qv I q (by simp))
  | int j=>obtain ⟨t',rfl⟩:=ry;exact PySem.EqNone.eq_none_int (qv I q (by simp))
  | str j=>obtain ⟨t',rfl⟩:=ry;exact PySem.EqNone.eq_none_str (qv I q (by simp))
  | _=>exact absurd (show false=true from hs) Bool.false_ne_true
 | bl i =>
  cases rx
  cases y with
  | non=>cases ry;exact PySem.EqNone.eq_bool_none (qv I q (by simp))
  | bl j=>cases ry;exact eq_bool (qv I q qfd)
  | str j=>obtain ⟨t',rfl⟩:=ry;exact PySem.EqMixed.eq_bool_str (qv I q (by simp))
  | _=>exact absurd (show false=true from hs) Bool.false_ne_true
 | int i =>
  obtain ⟨t,rfl⟩:=rx
  cases y with
  | non=>cases ry;exact PySem.EqNone.eq_int_none (qv I q (by simp))
  | int j=>obtain ⟨t',rfl⟩:=ry;exact eq_int (qv I q qbq)
  | str j=>obtain ⟨t',rfl⟩:=ry;exact PySem.EqMixed.eq_int_str (qv I q (by simp))
  | _=>exact absurd (show false=true from hs) Bool.false_ne_true
 | str i =>
  obtain ⟨t,rfl⟩:=rx
  cases y with
  | non=>cases ry;exact PySem.EqNone.eq_str_none (qv I q (by simp))
  | bl j=>cases ry;exact PySem.EqMixed.eq_str_bool (qv I q (by simp))
  | int j=>obtain ⟨t',rfl⟩:=ry;exact PySem.EqMixed.eq_str_int (qv I q (by simp))
  | str j=>obtain ⟨t',rfl⟩:=ry;exact eq_str (qv I q qbr)
  | _=>exact absurd (show false=true from hs) Bool.false_ne_true
 | byt i =>
  obtain ⟨t,rfl⟩:=rx
  cases y with
  | byt j=>obtain ⟨t',rfl⟩:=ry;exact W.eq_bytes (qv I q qbs)
  | _=>exact absurd (show false=true from hs) Bool.false_ne_true
 | _=>cases y <;> exact absurd (show false=true from hs) Bool.false_ne_true
theorem qaw:OpR X (compareOp .NotEq) rNe:=by
 intro pins s σ H x y v u Q I rx ry h
 obtain ⟨hs,q⟩:=h
 cases x with
 | non =>
  cases rx
  cases y with
  | non=>cases ry;exact PySem.EqNone.ne_none_none (qv I q (by simp))
  | bl j=>cases ry;exact PySem.EqNone.ne_none_bool (qv I q (by simp))
  | int j=>obtain ⟨t',rfl⟩:=ry;exact PySem.EqNone.ne_none_int (qv I q (by simp))
  | str j=>obtain ⟨t',rfl⟩:=ry;exact PySem.EqNone.ne_none_str (qv I q (by simp))
  | _=>exact absurd (show false=true from hs) Bool.false_ne_true
 | bl i =>
  cases rx
  cases y with
  | non=>cases ry;exact PySem.EqNone.ne_bool_none (qv I q (by simp))
  | bl j=>cases ry;exact ne_bool (qv I q (congrArg not qfd))
  | str j=>obtain ⟨t',rfl⟩:=ry;exact PySem.EqMixed.ne_bool_str (qv I q (by simp))
  | _=>exact absurd (show false=true from hs) Bool.false_ne_true
 | int i =>
  obtain ⟨t,rfl⟩:=rx
  cases y with
  | non=>cases ry;exact PySem.EqNone.ne_int_none (qv I q (by simp))
  | int j=>obtain ⟨t',rfl⟩:=ry;exact ne_int (qv I q (congrArg not qbq))
  | str j=>obtain ⟨t',rfl⟩:=ry;exact PySem.EqMixed.ne_int_str (qv I q (by simp))
  | _=>exact absurd (show false=true from hs) Bool.false_ne_true
 | str i =>
  obtain ⟨t,rfl⟩:=rx
  cases y with
  | non=>cases ry;exact PySem.EqNone.ne_str_none (qv I q (by simp))
  | bl j=>cases ry;exact PySem.EqMixed.ne_str_bool (qv I q (by simp))
  | int j=>obtain ⟨t',rfl⟩:=ry;exact PySem.EqMixed.ne_str_int (qv I q (by simp))
  | str j=>obtain ⟨t',rfl⟩:=ry;exact ne_str (qv I q (congrArg not qbr))
  | _=>exact absurd (show false=true from hs) Bool.false_ne_true
 | byt i =>
  obtain ⟨t,rfl⟩:=rx
  cases y with
  | byt j=>obtain ⟨t',rfl⟩:=ry;exact W.ne_bytes (qv I q (congrArg not qbs))
  | _=>exact absurd (show false=true from hs) Bool.false_ne_true
 | _=>cases y <;> exact absurd (show false=true from hs) Bool.false_ne_true
theorem qbt:OpR X (compareOp .Lt) (rI0 fun i j=>.bl (decide (i < j))):=opB0 fun _ _ _ _ _ _ _ q=>lt_int q
theorem qdt:OpR X (compareOp .LtE) (rI0 fun i j=>.bl (decide (i<=j))):=opB0 fun _ _ _ _ _ _ _ q=>le_int q
theorem V3:OpR X (compareOp .Gt) (rI0 fun i j=>.bl (decide (j < i))):=opB0 fun _ _ _ _ _ _ _ q=>gt_int q
theorem op_ge:OpR X (compareOp .GtE) (rI0 fun i j=>.bl (decide (j<=i))):=opB0 fun _ _ _ _ _ _ _ q=>ge_int q
theorem qbu:OpR X (compareOp .In) (fun x y H Q=>∃ i j,x=.str i/\y=.str j/\Q (.bl (!(Builtin.Str.occurrences j i 0 j.length 1).isEmpty)) H):=by
 intro pins s σ H x y v u Q I rx ry h
 obtain ⟨i,j,rfl,rfl,q⟩:=h
 obtain ⟨t,rfl⟩:=rx
 obtain ⟨t',rfl⟩:=ry
 exact in_str (qv I q rfl)
theorem OpR.or {f:Value->Value->Sem Value} {r r':R2} (h:OpR X f r) (h':OpR X f r'):OpR X f (fun x y H Q=>r x y H Q\/r' x y H Q):=by
 intro pins s σ H x y v u Q I rx ry q
 rcases q with q | q
 ·exact h pins s σ H x y v u Q I rx ry q
 ·exact h' pins s σ H x y v u Q I rx ry q
theorem nomark (b:Expr) {op:CmpOp} (h:op≠.In:=by decide) (h2:op≠.NotIn:=by decide):behindInMarks op b=false:=by
 have e1:(op == CmpOp.In)=false:=by cases op <;> first | rfl | exact absurd rfl h
 have e2:(op == CmpOp.NotIn)=false:=by cases op <;> first | rfl | exact absurd rfl h2
 cases b <;> simp [behindInMarks,e1,e2]
theorem j5 {op:CmpOp} {r:R2} (ho:OpR X (compareOp op) r) (ha:PE X a ta) (hb:PE X b tb) (hm:behindInMarks op b=false):PE X (.Compare a [op] [b] pos) (tOp r ta tb):=by
 intro pins s σ H Q I h
 exact wpAny_Compare1 (binT ha hb I h fun v u s2 x y H2 I2 rx ry q=>ho pins s2 σ H2 x y v u Q I2 rx ry q) hm
def tTest (t:TE):TT:=fun σ H Q=>t σ H fun x H'=>∃ k,x=.bl k/\Q k H'
theorem qr {op:CmpOp} {r:R2} (ho:OpR X (compareOp op) r) (ha:PE X a ta) (hb:PE X b tb) (hm:behindInMarks op b=false):PT X (.Compare a [op] [b] pos) (tTest (tOp r ta tb)):=by
 intro pins s σ H Q I h
 refine wpAny_isTrue_Compare1 (thn (ha pins s σ H _ I h) fun v s1 ⟨x,H1,I1,r1,q1⟩=>thn (hb pins s1 σ H1 _ I1 q1) fun u s2 ⟨y,H2,I2,r2,q2⟩ =>
  thn (ho pins s2 σ H2 x y v u _ I2 r1 r2 q2) fun c s3 ⟨z,H3,I3,r3,k,e,q3⟩=>?_) hm
 subst e
 cases r3
 exact wpAny_truthy_bool ⟨H3,I3,q3⟩
def tChain (r r':R2) (ta tb tc:TE):TE:=fun σ H Q=>ta σ H fun x H1=>tb σ H1 fun y H2=>r x y H2 fun z H3=>∃ k,z=.bl k /\
 (if k=true then tc σ H3 fun w' H4=>r' y w' H4 Q else Q (.bl false) H3)
theorem qdu {op op':CmpOp} {r r':R2} (ho:OpR X (compareOp op) r) (ho':OpR X (compareOp op') r') (ha:PE X a ta) (hb:PE X b tb) (hc:PE X c tc)
  (hm:lastMarks [op,op'] [b,c]=false:=by with_unfolding_all rfl):PE X (.Compare a [op,op'] [b,c] pos) (tChain r r' ta tb tc):=by
 intro pins s σ H Q I h
 refine Compare_chain (thn (ha pins s σ H _ I h) fun v s1 ⟨x,H1,I1,r1,q1⟩=>chain_link (thn (hb pins s1 σ H1 _ I1 q1) fun u s2 ⟨y,H2,I2,r2,q2⟩ =>
  thn (ho pins s2 σ H2 x y v u _ I2 r1 r2 q2) fun d s3 ⟨z,H3,I3,r3,k,e,q3⟩=>?_)) hm
 subst e
 cases r3
 refine wpAny_truthy_bool ?_
 cases k with
 | false=>exact ite_ff ⟨.bl false,H3,I3,rfl,q3⟩
 | true=>exact ite_tt (chain_last (thn (hc pins s3 σ H3 _ I3 q3) fun w' s4 ⟨z',H4,I4,r4,q4⟩=>ho' pins s4 σ H4 y z' u w' Q I4 r2 r4 q4))
def TruV (K:W.Frag) (x:V) (H:Hp) (k:Bool):Prop :=
 match x with
 | .non=>k=false
 | .bl b=>k=b
 | .int i=>k=(i != 0)
 | .str y=>y.length<=sizeLine/\k=((y.length:Int) != 0)
 | .byt y=>y.size<=sizeLine/\k=((y.size:Int) != 0)
 | .ref p=>(∃ xs,SqL K H p xs/\k = !xs.isEmpty)\/(∃ xs,SqT K H p xs/\k = !xs.isEmpty)\/∃ kvs,H p=some (.dK kvs)/\k = !kvs.isEmpty
 | _=>False
theorem qax {κ:Type} {kvs:List (κ × V)} {vs:List (κ × Value)} (r:KV kvs vs):(!vs.isEmpty) = !kvs.isEmpty:=by
 cases r <;> rfl
theorem Jq {xs:List V} {its:List Value} (r:Vals xs its):(!its.toArray.isEmpty) = !xs.isEmpty:=by
 cases r <;> simp
theorem line63:(sizeLine:Nat) < 2 ^ 63:=by rw [sizeLine_eq];decide
theorem qhq:TruR X (fun x H Q=>∃ k,TruV X.K x H k/\Q k H):=by
 intro pins s σ H x v Q I rx h
 obtain ⟨k,e,q⟩:=h
 have hl:=line63
 have hs:sizeLine=16777216:=sizeLine_eq
 cases x with
 | non =>
  cases rx
  have e':k=false:=e
  subst e'
  exact truthy_none ⟨H,I,q⟩
 | bl b =>
  cases rx
  have e':k=b:=e
  subst e'
  exact wpAny_truthy_bool ⟨H,I,q⟩
 | int i =>
  obtain ⟨t,rfl⟩:=rx
  have e':k=(i != 0):=e
  subst e'
  exact PySem.P.truthy_int ⟨H,I,q⟩
 | str y =>
  obtain ⟨t,rfl⟩:=rx
  obtain ⟨hy,e'⟩:y.length<=sizeLine/\k=((y.length:Int) != 0):=e
  subst e'
  exact PySem.P.truthy_str (by omega) ⟨H,I.tok _,q⟩
 | byt y =>
  obtain ⟨t,rfl⟩:=rx
  obtain ⟨hy,e'⟩:y.size<=sizeLine/\k=((y.size:Int) != 0):=e
  subst e'
  exact W.truthy_bytes (by omega) ⟨H,I.tok _,q⟩
 | ref p =>
  cases rx
  have e':(∃ xs,SqL X.K H p xs/\k = !xs.isEmpty)\/(∃ xs,SqT X.K H p xs/\k = !xs.isEmpty)\/∃ kvs,H p=some (.dK kvs)/\k = !kvs.isEmpty:=e
  rcases e' with ⟨xs,hx,e'⟩ | ⟨xs,hx,e'⟩ | ⟨kvs,hx,e'⟩
  ·subst e'
   obtain ⟨its,r,pl,hz⟩:=I.list hx
   have hlen:=r.length
   exact wpAny_truthy_list pl.isList (by simp only [List.size_toArray];omega) ⟨H,I.tok _,by rw [Jq r];exact q⟩
  ·subst e'
   obtain ⟨its,r,pl,hz⟩:=I.tuple hx
   have hlen:=r.length
   exact truthy_tuple pl (by simp only [List.size_toArray];omega) ⟨H,I.tok _,by rw [Jq r];exact q⟩
  ·subst e'
   obtain ⟨hz,hS,vs,r,m⟩:kvs.length<=sizeLine/\(p == sysModules)=false/\∃ vs,KV kvs vs/\s.heap.DictOf (mixKind X.prog X.w) p vs:=I.hok p _ hx
   have hlen:kvs.length=vs.length:=Paired.length r
   exact wpAny_truthy_dict hS m (by omega) ⟨H,I.tok _,by rw [qax r];exact q⟩
 | _=>exact (show False from e).elim
theorem qdv (ha:PE X a ta) (he:∀ whole,isTrue a X.env whole=(do let v <- whole;standAt a.pos;holding [v] (truthy v))) :
  PT X a (fun σ H Q=>ta σ H fun x H'=>∃ k,TruV X.K x H' k/\Q k H'):=by
 intro pins s σ H Q I h
 exact isTrue_plain (thn (ha pins s σ H _ I h) fun v s1 ⟨x,H1,I1,r1,q1⟩=>qhq pins s1 σ H1 x v Q I1 r1 q1) (he _)
theorem jb:OpR X (binaryOp .Add) (fun x y H Q=>∃ i j,x=.str i/\y=.str j/\i.length+j.length<=sizeLine/\Q (.str (i++j)) H):=by
 intro pins s σ H x y v u Q I rx ry h
 obtain ⟨i,j,rfl,rfl,hz,q⟩:=h
 obtain ⟨t,rfl⟩:=rx
 obtain ⟨t',rfl⟩:=ry
 exact add_str (fun t' tk=>⟨.str (i++j),H,I.tok _,⟨_,rfl⟩,q⟩) hz
theorem vals1 {x:V} {us:List Value} (r:Vals [x] us):∃ u,us=[u]/\RelV x u:=by
 cases r with
 | cons r1 r2=>cases r2;exact ⟨_,rfl,r1⟩
theorem vals2 {x y:V} {us:List Value} (r:Vals [x,y] us):∃ u w',us=[u,w']/\RelV x u/\RelV y w':=by
 cases r with
 | cons r1 r2 =>
  cases r2 with
  | cons r3 r4=>cases r4;exact ⟨_,_,rfl,r1,r3⟩
theorem qbv (hc:X.calm=true):CallR X (.builtin "max") (fun xs H Q=>∃ i j,xs=[.int i,.int j]/\Q (.int (if j > i then j else i)) H):=by
 intro pins s σ H xs us Q I r h
 obtain ⟨i,j,rfl,q⟩:=h
 obtain ⟨u,w',rfl,⟨t,rfl⟩,⟨t',rfl⟩⟩:=vals2 r
 refine max_two_ints (I.ok.hd hc) fun h' tk k=>⟨_,H,I.kept k,?_,q⟩
 by_cases hj:j > i
 ·rw [if_pos hj,if_pos hj];exact ⟨_,rfl⟩
 ·rw [if_neg hj,if_neg hj];exact ⟨_,rfl⟩
theorem qbw (hc:X.calm=true):CallR X (.builtin "min") (fun xs H Q=>∃ i j,xs=[.int i,.int j]/\Q (.int (if j < i then j else i)) H):=by
 intro pins s σ H xs us Q I r h
 obtain ⟨i,j,rfl,q⟩:=h
 obtain ⟨u,w',rfl,⟨t,rfl⟩,⟨t',rfl⟩⟩:=vals2 r
 refine min_two_ints (I.ok.hd hc) fun h' tk k=>⟨_,H,I.kept k,?_,q⟩
 by_cases hj:j < i
 ·rw [if_pos hj,if_pos hj];exact ⟨_,rfl⟩
 ·rw [if_neg hj,if_neg hj];exact ⟨_,rfl⟩
theorem V4:CallR X (.type "int") (fun xs H Q=>(∃ i,xs=[.int i]/\Q (.int i) H)\/∃ k,xs=[.bl k]/\Q (.int (if k then 1 else 0)) H):=by
 intro pins s σ H xs us Q I r h
 rcases h with ⟨i,rfl,q⟩ | ⟨k,rfl,q⟩
 ·obtain ⟨u,rfl,t,rfl⟩:=vals1 r
  exact call_int_int ⟨.int i,H,I,⟨_,rfl⟩,q⟩
 ·obtain ⟨u,rfl,r1⟩:=vals1 r
  cases r1
  exact call_int_bool ⟨.int (if k then 1 else 0),H,I.tok _,⟨_,rfl⟩,q⟩
end
end L2
namespace L2
open PySem PySem.Spec PyProof.Rows
structure ObjM (h:Heap) (x dx C:Addr) (mA:Str->Option Value):Prop where
 obj:h.get? x=some (W.instObj C dx)
 ns:h.Ns1 dx mA
 ne:dx≠x
theorem qbx {h:Heap} {dx:Addr} {mA:Str->Option Value} (n:h.Ns1 dx mA):∃ od,h.get? dx=some od/\∀ name,W.lookIn name od=some (mA name):=by
 obtain ⟨o,es,ep,ho,hd,hk,_,hm⟩:=n
 refine ⟨o,ho,fun name=>?_⟩
 have e:=hm name
 unfold nsFind findBy at e
 rw [<- Array.find?_toList] at e
 unfold W.lookIn
 rw [hd]
 dsimp only
 split
 ·rename_i y q
  rw [q] at e
  exact congrArg some e
 ·rename_i q
  rw [q] at e
  have a:es.toList.any (·.refKey)=false:=by
   rw [List.any_eq_false]
   intro y hy
   obtain ⟨z,t,hkey⟩:=hk y (Array.mem_toList_iff.mp hy)
   simp [DictEntry.refKey,hkey]
  have a':¬ es.toList.any (·.refKey)=true:=by rw [a];exact Bool.false_ne_true
  rw [if_neg a']
  exact congrArg some e
theorem ObjM.look {h:Heap} {x dx C:Addr} {mA:Str->Option Value} (I:ObjM h x dx C mA):∃ od,PySem.W.InstAt h x (W.instObj C dx) C (some od)/\∀ name,W.lookIn name od=some (mA name) :=
 let ⟨od,ho,hl⟩:=qbx I.ns
 ⟨od,⟨I.obj,rfl,rfl,ho⟩,hl⟩
section
variable {prog:Program} {w:World} {A:Around} {E:Value->Shared->Prop} {s:Shared} {K:W.Frag} {x dx C f:Addr} {mA:Str->Option Value} {name:Str} {v:Value}
end
theorem RelO.some_of {v:V} {o:Option Value} (r:RelO (some v) o):∃ u,o=some u/\RelV v u:=by
 cases o with
 | none=>exact (show False from r).elim
 | some u=>exact ⟨u,rfl,r⟩
section
variable {P:Program} {w:World} {H H':Hp} {h h':Heap} {a C dx:Addr} {fs fs':List (Str × V)}
theorem qby (hok:HOk P w H h) (e:H a=some (.ins C dx fs)):∃ mA,ObjM h a dx C mA/\(∀ f,RelO (fs.lookup f) (mA f))/\PySem.Within mA (fs.map (·.1))/\fs.length<=1000/\H dx=some (.own a):=by
 obtain ⟨d,z,ne,ob,mA,n,r,q⟩:=(show ObjOk P w H h a (.ins C dx fs) from hok a _ e)
 exact ⟨mA,⟨ob,n,ne⟩,r,q,z,d⟩
end
structure Cls (K:W.Frag) (C:Addr):Prop where
 pg:W.plainGet K C Str.empty=true
 hd:W.hasDictIn K C=true
 po:W.plainOver K C=true
 sa:W.findIn K (.ref C) "__setattr__" = some (some (.builtin "object.__setattr__"))
theorem Cls.get {K:W.Frag} {C:Addr} (c:Cls K C) (f:Str):W.plainGet K C f=true:=c.pg
structure Con (K:W.Frag) (C:Addr) (f:Str) (v:V) (u:Value):Prop where
 at_:W.findIn K (.ref C) f=some (some u)
 rel:RelV v u
 get:W.specialIn K u "__get__" = some none
 cp:W.copiedNames.contains f=false
structure Meth (K:W.Frag) (C:Addr) (m:Str) (f:Addr):Prop where
 at_:W.findIn K (.ref C) m=some (some (.ref f))
 fn:W.isFn K (.ref f)=true
 kp:W.keepIn K (.ref f)=true
section
variable {X:Cx} {pins:List (Addr × Obj)} {σ:St} {H:Hp} {s:Shared} {a C dx:Addr} {fs:List (Str × V)} {f:Str} {v:V} {A:Around} {E:Value->Shared->Prop}
theorem Inv.made (I:Inv X pins σ H s):Inv X pins σ (upd (upd H s.heap.objs.size (.own (s.heap.objs.size+1))) (s.heap.objs.size+1) (.ins C s.heap.objs.size []))
  { s with heap:=(s.heap.push W.emptyDict).push (W.instObj C s.heap.objs.size) }:=by
 have e1:(s.heap.push W.emptyDict).get? s.heap.objs.size=some W.emptyDict:=Heap.get?_push_size s.heap rfl
 have e2:((s.heap.push W.emptyDict).push (W.instObj C s.heap.objs.size)).get? (s.heap.objs.size+1)=some (W.instObj C s.heap.objs.size):=by
  have:=Heap.get?_push_size (s.heap.push W.emptyDict) (o:=W.instObj C s.heap.objs.size) rfl
  rwa [Heap.size_push] at this
 have e3:(s.heap.push W.emptyDict).Ns s.heap.objs.size (fun _=>none):=⟨W.emptyDict,#[],_,e1,rfl,(fun e he=>absurd he (by simp)),fun _=>rfl⟩
 have I1:=I.laid (a:=s.heap.objs.size) (o:=.own (s.heap.objs.size+1)) (h':=s.heap.push W.emptyDict) (t':=s.toks) (fun b u q=>Heap.get?_push_of_some _ q) (Nat.le_refl _) ⟨_,e1⟩
 refine I1.laid (a:=s.heap.objs.size+1) (o:=.ins C s.heap.objs.size []) (t':=s.toks) (fun b u q=>Heap.get?_push_of_some _ q) (Nat.le_of_eq (Heap.size_push _ _)) ?_
 have ne:s.heap.objs.size≠s.heap.objs.size+1:=Nat.ne_of_lt (Nat.lt_succ_self _)
 refine ⟨by rw [qg ne,upd_same],Nat.zero_le _,ne,e2,fun _=>none,(Heap.Ns1.of_empty e3).at fun o q=>Heap.get?_push_of_some _ q,fun _=>True.intro,fun y hy=>absurd rfl hy⟩
end
section
variable {X:Cx} {o e value:Expr} {f:Str} {pos pos' tpos:Pos} {ta tv:TE}
end
section
variable {X:Cx} {pins:List (Addr × Obj)} {σ:St} {H:Hp} {s:Shared} {A:Around} {E:Value->Shared->Prop} {Q:Value->Shared->Prop} {c:Value} {b:Bool}
inductive TyOf (K:W.Frag) (H:Hp):V->Value->Prop where
 | non:TyOf K H .non (.type "NoneType")
 | bl (x:Bool):TyOf K H (.bl x) (.type "bool")
 | int (i:Int):TyOf K H (.int i) (.type "int")
 | str (x:Str):TyOf K H (.str x) (.type "str")
 | flt (x:UInt64):TyOf K H (.flt x) (.type "float")
 | lst {a:Addr} {xs:List V} (e:H a=some (.lst xs)):TyOf K H (.ref a) (.type "list")
 | frz {a:Addr} {o:Obj} {xs:List V} (e:H a=some (.frz o (.lst xs))):TyOf K H (.ref a) (.type "list")
 | tup {a:Addr} {xs:List V} (e:H a=some (.tup xs)):TyOf K H (.ref a) (.type "tuple")
 | dK {a:Addr} {kvs:List (Key × V)} (e:H a=some (.dK kvs)):TyOf K H (.ref a) (.type "dict")
 | dT {a:Addr} {kvs:List (List Key × V)} (e:H a=some (.dT kvs)):TyOf K H (.ref a) (.type "dict")
 | ins {a C dx:Addr} {fs:List (Str × V)} (e:H a=some (.ins C dx fs)) (cl:Cls K C) (ha:W.findIn K (.ref C) "__class__" = some (some (.builtin "object.__class__")))
   (hn:W.specialIn K (.builtin "object.__class__") "__get__" = some (some (.builtin "getset_descriptor.__get__"))) (htk:W.takesIn K (.builtin "object.__class__")=some true)
   (hm:W.mroIn K C (.type "object")=some true):TyOf K H (.ref a) (.ref C)
theorem qbz {x:V} {u t:Value} (I:Inv X pins σ H s) (rx:RelV x u) (ty:TyOf X.K H x t) (e:W.kitOne X.K t c=some b) (h:∀ tk,Q (.bool b) { s with toks:=tk }) :
  wpAny (model X.prog X.w) A (call (.builtin "isinstance") [u,c]) Q E s:=by
 cases ty with
 | non=>cases (show u=Value.none from rx);exact W.kia_one W.kitx_none I.kIn True.intro e (fun z=>nomatch z) h
 | bl y=>cases (show u=Value.bool y from rx);exact W.kia_one W.kitx_bool I.kIn True.intro e (fun z=>nomatch z) h
 | int i=>obtain ⟨t,q⟩:=(show ∃ t,u=Value.int i t from rx);cases q;exact W.kia_one W.kitx_int I.kIn True.intro e (fun z=>nomatch z) h
 | str y=>obtain ⟨t,q⟩:=(show ∃ t,u=Value.str y t from rx);cases q;exact W.kia_one W.kitx_str I.kIn True.intro e (fun z=>nomatch z) h
 | flt y=>obtain ⟨t,q⟩:=(show ∃ t,u=Value.float y t from rx);cases q;exact W.kia_one W.kitx_float I.kIn True.intro e (fun z=>nomatch z) h
 | @lst a xs ea =>
  cases (show u=Value.ref a from rx)
  obtain ⟨_,_,n,_,h1⟩:=(show ObjOk X.prog X.w H s.heap a (.lst xs) from I.hok a _ ea)
  exact W.kia_one W.kitx_list I.kIn ⟨_,h1,rfl⟩ e (fun z=>nomatch z) h
 | @frz a ob xs ea =>
  cases (show u=Value.ref a from rx)
  obtain ⟨_,_,_,n,_,h1⟩:=(show ObjOk X.prog X.w H s.heap a (.frz ob (.lst xs)) from I.hok a _ ea)
  exact W.kia_one W.kitx_list I.kIn ⟨_,h1,rfl⟩ e (fun z=>nomatch z) h
 | @tup a xs ea =>
  cases (show u=Value.ref a from rx)
  obtain ⟨_,_,_,p,_⟩:=(show ObjOk X.prog X.w H s.heap a (.tup xs) from I.hok a _ ea)
  obtain ⟨o,h1,h2,_⟩:=p
  exact W.kia_one W.kitx_tuple I.kIn ⟨o,h1,h2⟩ e (fun z=>nomatch z) h
 | @dK a kvs ea =>
  cases (show u=Value.ref a from rx)
  obtain ⟨_,_,vs,_,p⟩:=(show ObjOk X.prog X.w H s.heap a (.dK kvs) from I.hok a _ ea)
  obtain ⟨o,es,ep,h1,h2,_⟩:=p
  exact W.kia_one W.kitx_dict I.kIn ⟨o,h1,h2.1⟩ e (fun z=>nomatch z) h
 | @dT a kvs ea =>
  cases (show u=Value.ref a from rx)
  obtain ⟨_,_,xs,_,o,es,ep,h1,h2,_⟩:=(show ObjOk X.prog X.w H s.heap a (.dT kvs) from I.hok a _ ea)
  exact W.kia_one W.kitx_dict I.kIn ⟨o,h1,h2.1⟩ e (fun z=>nomatch z) h
 | @ins a C dx fs ea cl ha hn htk hm =>
  cases (show u=Value.ref a from rx)
  obtain ⟨mA,O,_⟩:=qby I.hok ea
  obtain ⟨od,J,_⟩:=O.look
  exact W.kia_one (W.kitx_own (cl.get _) cl.hd ha hn htk hm) I.kIn J e (fun z=>nomatch z) h
end
end L2
namespace L2
open PySem PySem.Spec PyProof.Rows
structure Room (k:Nat) (A:Around):Prop where
 hd:A.handled=none
 dp:A.depth+3 * k+5 < recursionLimit
 un:A.units+16 * k+200 < cLine
theorem Room.mono {j k:Nat} {A:Around} (r:Room k A) (h:j<=k):Room j A:=⟨r.hd,by have:=r.dp;omega,by have:=r.un;omega⟩
theorem Room.deeper {k:Nat} {A:Around} (r:Room (k+1) A) (env:Env):Room k (A.deeper env) :=
 ⟨r.hd,by have:=r.dp;show A.depth+1+3 * k+5 < _;omega,by have:=r.un;show A.units+3+16 * k+200 < _;omega⟩
theorem Room.in1 {k:Nat} {A:Around} (r:Room (k+1) A):Room k A.in1 :=
 ⟨r.hd,by have:=r.dp;show A.depth+3 * k+5 < _;omega,by have:=r.un;show A.units+1+16 * k+200 < _;omega⟩
theorem qay {A:Around} {C:Addr} {us:List Value} {kw:List (Str × Value)}:(A.under (.builtin "type.__call__" ⟨.ref C :: us,kw⟩)).depth=A.depth+1:=by
 first | rfl | simp [Around.under,Code.weight,Code.isCreation,Code.isGuard,Code.isCaller,Code.frames,Code.isFrame,guardIds]
theorem qaz {A:Around} {C:Addr} {us:List Value} {kw:List (Str × Value)}:(A.under (.builtin "type.__call__" ⟨.ref C :: us,kw⟩)).units=A.units+1:=by
 first | rfl | simp [Around.under,Code.cUnits,Code.frames,Code.isFrame]
theorem Room.make {k:Nat} {A:Around} (r:Room (k+1) A) (C:Addr) (us:List Value) (kw:List (Str × Value)):Room k (A.under (.builtin "type.__call__" ⟨.ref C :: us,kw⟩)) :=
 ⟨r.hd,by have:=r.dp;rw [qay];omega,by have:=r.un;rw [qaz];omega⟩
theorem Room.depth {k:Nat} {A:Around} (r:Room k A):A.depth < recursionLimit:=by have:=r.dp;omega
theorem Room.units {k:Nat} {A:Around} (r:Room k A):A.units+64 < cLine:=by have:=r.un;omega
def tNil:TA:=fun _ H Q=>Q [] H
def tCons (ta:TE) (tr:TA):TA:=fun σ H Q=>ta σ H fun x H1=>tr σ H1 fun xs H2=>Q (x :: xs) H2
section
variable {X:Cx} {e:Expr} {es:List Expr} {te:TE} {t:TA} {pos:Pos}
theorem qb:PA X [] tNil:=fun _ _ _ _ H Q I h=>Calls.spliced_nil ⟨[],H,I,.nil,h⟩
theorem qa (ha:PE X e te) (hr:PA X es t) (hs:starEach (e :: es) X.env=(false,eval e X.env) :: starEach es X.env:=by rfl):PA X (e :: es) (tCons te t):=by
 intro pos pins s σ H Q I h
 rw [hs]
 show wpAny _ _ (spliced ((false,eval e X.env) :: backTo pos (starEach es X.env))) _ _ s
 refine Calls.spliced_cons (thn (ha pins s σ H _ I h) fun u s1 ⟨x,H1,I1,r1,q1⟩=>?_)
 exact thn (hr pos pins s1 σ H1 _ I1 q1) fun us s2 ⟨xs,H2,I2,r2,q2⟩=>⟨x :: xs,H2,I2,.cons r1 r2,q2⟩
def tTup (t:TA):TE:=fun σ H Q=>t σ H fun xs H1=>xs.length<=sizeLine/\∀ p,H1 p=none->Q (.ref p) (upd H1 p (.tup xs))
def tLst (t:TA):TE:=fun σ H Q=>t σ H fun xs H1=>xs.length<=sizeLine/\∀ p,H1 p=none->Q (.ref p) (upd H1 p (.lst xs))
theorem ja {x1} (h:PA X es t):PE X (.Tuple es x1 pos) (tTup t):=by
 intro pins s σ H Q I hq
 refine wpAny_Tuple_spliced (thn (h pos pins s σ H _ I hq) fun us s1 ⟨xs,H1,I1,r,z,q⟩=>⟨by rw [<- r.length];exact z,?_⟩)
 have hf:H1 s1.heap.objs.size=none:=I1.hok.fresh (Nat.le_refl _)
 refine ⟨.ref s1.heap.objs.size,upd H1 s1.heap.objs.size (.tup xs),I1.laid (t':=s1.toks) (fun b u e=>Heap.get?_push_of_some _ e) (Nat.le_refl _) ?_,rfl,q _ hf⟩
 exact ⟨z,us,r,⟨_,Heap.get?_push_size _ rfl,rfl,_,rfl⟩,_,Heap.get?_push_size _ rfl,rfl⟩
theorem j9 (h:PA X es t):PE X (.List es pos) (tLst t):=by
 intro pins s σ H Q I hq
 refine wpAny_List_spliced (thn (h pos pins s σ H _ I hq) fun us s1 ⟨xs,H1,I1,r,z,q⟩=>⟨by rw [<- r.length];exact z,?_⟩)
 have hf:H1 s1.heap.objs.size=none:=I1.hok.fresh (Nat.le_refl _)
 refine ⟨.ref s1.heap.objs.size,upd H1 s1.heap.objs.size (.lst xs),I1.laid (t':=s1.toks) (fun b u e=>Heap.get?_push_of_some _ e) (Nat.le_refl _) ?_,rfl,q _ hf⟩
 exact ⟨z,us,0,r,Heap.get?_push_size _ rfl⟩
end
abbrev Sp:=List V->Hp->VK->XK->Prop
abbrev CXT:=List Env->Hp->Shared->XK->Value->Shared->Prop
structure Env0 (P:Program) (w:World) (K:W.Frag) (mg:Str->Option Value) (base:Heap) (A:Around) (outer:List Env) (s:Shared) (H:Hp):Prop where
 frames:A.frames=some outer
 mod:Mod K mg base
 bs:∀ b o,base.get? b=some o->s.heap.get? b=some o/\H b=none
 bsz:base.objs.size<=s.heap.objs.size
 funs:s.heap.FunFrames base outer
 frf:∀ b∈frs outer,H b=none
 hok:HOk P w H s.heap
 bare:AllBare s.gens
def CE (outer:List Env) (P:Program) (w:World) (H:Hp) (s:Shared) (Q:VK) (u:Value) (s':Shared):Prop :=
 ∃ v H',s'.os=s.os/\AllBare s'.gens/\Un (frs outer) [] H H' s.heap s'.heap/\HOk P w H' s'.heap/\RelV v u/\Q v H'
def CR (CX:CXT) (outer:List Env) (P:Program) (w:World) (H:Hp) (s:Shared) (Q:VK) (E:XK) (r:Result) (s':Shared):Prop :=
 match r with
 | .ok (.ret u)=>CE outer P w H s Q u s'
 | .ok _=>False
 | .error e=>CX outer H s E e s'
structure FnOk (P:Program) (w:World) (K:W.Frag) (mg:Str->Option Value) (base:Heap) (CX:CXT) (k:Nat) (f:Addr) (fd:FuncData) (ps:List Str) (sp:Sp):Prop where
 len:∀ vs H Q E,sp vs H Q E->vs.length=ps.length
 run:∀ (A:Around) (outer:List Env) (s:Shared) (H:Hp) (args:Args) (us:List Value) (vs:List V) (Q:VK) (E:XK),Room k A->Env0 P w K mg base A outer s H->BindsTo s fd args (ps.zip us)->Vals vs us->sp vs H Q E ->
  codeAny (model P w) A (.call (.ref f) args) (CR CX outer P w H s Q E) s
theorem FnOk.mono {P:Program} {w:World} {K:W.Frag} {mg:Str->Option Value} {base:Heap} {CX:CXT} {j k:Nat} {f:Addr} {fd:FuncData} {ps:List Str} {sp:Sp} (F:FnOk P w K mg base CX j f fd ps sp) (h:j<=k) :
  FnOk P w K mg base CX k f fd ps sp:=⟨F.len,fun A outer s H args us vs Q E hr=>F.run A outer s H args us vs Q E (hr.mono h)⟩
theorem FnOk.imp {P:Program} {w:World} {K:W.Frag} {mg:Str->Option Value} {base:Heap} {CX:CXT} {k:Nat} {f:Addr} {fd:FuncData} {ps:List Str} {sp sp':Sp} (F:FnOk P w K mg base CX k f fd ps sp)
  (h:∀ vs H Q E,sp' vs H Q E->sp vs H Q E):FnOk P w K mg base CX k f fd ps sp' :=
 ⟨fun vs H Q E q=>F.len vs H Q E (h _ _ _ _ q),fun A outer s H args us vs Q E hr he hb hv hs=>F.run A outer s H args us vs Q E hr he hb hv (h _ _ _ _ hs)⟩
theorem Env0.make {P:Program} {w:World} {K:W.Frag} {mg:Str->Option Value} {base:Heap} {A:Around} {outer:List Env} {s:Shared} {H:Hp} (e:Env0 P w K mg base A outer s H) (C:Addr) (us:List Value) (kw:List (Str × Value)) :
  Env0 P w K mg base (A.under (.builtin "type.__call__" ⟨.ref C :: us,kw⟩)) outer s H:=⟨by first | exact e.frames | (simpa [Around.under,Code.envs,Code.isFrame,pushEnvs] using e.frames),e.mod,e.bs,e.bsz,e.funs,e.frf,e.hok,e.bare⟩
theorem Env0.in1 {P:Program} {w:World} {K:W.Frag} {mg:Str->Option Value} {base:Heap} {A:Around} {outer:List Env} {s:Shared} {H:Hp} (e:Env0 P w K mg base A outer s H) :
  Env0 P w K mg base A.in1 outer s H:=⟨e.frames,e.mod,e.bs,e.bsz,e.funs,e.frf,e.hok,e.bare⟩
section
variable {X:Cx} {pins:List (Addr × Obj)} {σ:St} {H:Hp} {s s':Shared}
theorem Inv.env0 (I:Inv X pins σ H s):Env0 X.prog X.w X.K X.mg X.base X.A X.stack s H :=
 ⟨I.ok.frames,I.ok.mod,I.bs,Nat.le_trans I.ok.bsz I.sz,I.stack,I.stkFree,I.hok,I.bare⟩
theorem Inv.after {Q:VK} {u:Value} (I:Inv X pins σ H s) (h:CE X.stack X.prog X.w H s Q u s'):EP X pins σ Q u s':=by
 obtain ⟨v,H',os,bare,un,hok,r,q⟩:=h
 obtain ⟨hh,g,d,t,os'⟩:=s'
 obtain rfl:os'=s.os:=os
 exact ⟨v,H',I.call (h':=hh) (g':=g) (d':=d) (t':=t) (ch:=[]) un hok bare (fun b z=>absurd z (by simp)),r,q⟩
end
def tCall (sp:Sp) (dvs:List V) (E:XK) (t:TA):TE:=fun σ H Q=>t σ H fun vs H1=>sp (vs++dvs) H1 Q E
def Binds (K:W.Frag) (fd:FuncData) (ps:List Str) (ds:List Value):Prop :=
 ∀ (s:Shared) (us:List Value),K.In s.heap->(us++ds).length=ps.length->BindsTo s fd ⟨us,[]⟩ (ps.zip (us++ds))
theorem Binds.all {K:W.Frag} {fd:FuncData} {ps:List Str} (h:∀ us:List Value,us.length=ps.length->bindArgs fd ⟨us,[]⟩=pure (ps.zip us)):Binds K fd ps []:=fun s us _ hl=>by
 rw [List.append_nil] at hl ⊢
 exact .of_eq (h us hl)
def Passes (CX:CXT) (X:Cx) (E:XK):Prop:=∀ (pins:List (Addr × Obj)) (σ:St) (H:Hp) (s:Shared) (e:Value) (s':Shared),Inv X pins σ H s->CX X.stack H s E e s'->X.xe e s'
section
variable {X:Cx} {CX:CXT} {k:Nat} {f C:Addr} {fd:FuncData} {ps:List Str} {sp:Sp} {dvs:List V} {ds:List Value} {E:XK} {x m:Str} {p pos apos:Pos} {e o:Expr} {es:List Expr} {ta:TE} {t:TA}
theorem qhr {pins:List (Addr × Obj)} {σ:St} {H:Hp} {s:Shared} {Q:VK} {us:List Value} {vs:List V} (F:FnOk X.prog X.w X.K X.mg X.base CX k f fd ps sp) (hr:Room k X.A) (hb:Binds X.K fd ps ds) (hd:Vals dvs ds) (hx:Passes CX X E)
  (I:Inv X pins σ H s) (r:Vals vs us) (h:sp (vs++dvs) H Q E):wpAny (model X.prog X.w) X.A (call (.ref f) us) (EP X pins σ Q) X.xe s:=by
 have r2:Vals (vs++dvs) (us++ds):=r.append hd
 have hl:(us++ds).length=ps.length:=by rw [<- r2.length];exact F.len _ _ _ _ h
 refine wpAny_call (codeAny_mono (F.run X.A X.stack s H ⟨us,[]⟩ (us++ds) (vs++dvs) Q E hr I.env0 (hb s us I.kIn hl) r2 h) fun r s' hq=>?_)
 cases r with
 | error e=>exact hx pins σ H s e s' I hq
 | ok fl =>
  cases fl with
  | ret u=>exact I.after hq
  | next=>exact False.elim hq
  | brk=>exact False.elim hq
  | cont=>exact False.elim hq
theorem qe (F:FnOk X.prog X.w X.K X.mg X.base CX k f fd ps sp) (hr:Room k X.A) (hg:Gl X x) (hm:X.mg x=some (.ref f)) (hk:W.keepIn X.K (.ref f)=true) (hb:Binds X.K fd ps ds) (hd:Vals dvs ds) (hx:Passes CX X E)
  (ha:PA X (e :: es) t) (hdb:(x == ("__debug__" : Str))=false:=by decide) (he:starEach (e :: es) X.env=(false,eval e X.env) :: starEach es X.env:=by rfl) (hpl:(backTo pos (starEach es X.env)).any (·.1)=false:=by rfl) :
  PE X (.Call (.Name x p) (e :: es) [] pos) (tCall sp dvs E t):=by
 intro pins s σ H Q I h
 refine wpAny_Call_Name_kw (ld_glob I hg hm ?_ hdb)
 refine W.callWith_K (h₀:=X.base) I.ok.mod.kin hk (thn (ha pos pins s σ H _ I h) fun us s1 ⟨vs,H1,I1,r,q⟩=>⟨I1.kIn,?_⟩) he hpl
 exact qhr F hr hb hd hx I1 r q
structure Mk (K:W.Frag) (C f:Addr):Prop where
 makes:W.makesIn K C=true
 init:W.findIn K (.ref C) "__init__" = some (some (.ref f))
 fn:W.isFn K (.ref f)=true
 kp:W.keepIn K (.ref C)=true
end
section
variable {X:Cx} {CX:CXT} {k:Nat} {f C:Addr} {fd:FuncData} {ps ks:List Str} {sp:Sp} {E:XK} {x m:Str} {p pos apos kpos:Pos} {e o:Expr} {es:List Expr} {kws:List Keyword} {te ta:TE} {t tk:TA} {nm:Option Str}
structure KBinds (K:W.Frag) (fd:FuncData) (ps ks:List Str) (g:List Value->List Value->List Value) (gV:List V->List V->List V):Prop where
 to:∀ (s:Shared) (us ws:List Value),K.In s.heap->(g us ws).length=ps.length->BindsTo s fd ⟨us,ks.zip ws⟩ (ps.zip (g us ws))
 rel:∀ {vs:List V} {us:List Value} {zs:List V} {ws:List Value},Vals vs us->Vals zs ws->Vals (gV vs zs) (g us ws)
variable {g:List Value->List Value->List Value} {gV:List V->List V->List V}
end
structure FnScope (N P:List Str) (sc:Scope):Prop where
 kind:sc.kind=.function
 co:sc.isCoroutine=false
 gen:sc.isGenerator=false
 nd:N.Nodup
 pre:N.take P.length=P
 par:∀ x∈P,sc.names.lookup x=some .local\/sc.names.lookup x=some .cell
 nofree:∀ y∈sc.names,y.2≠.free
theorem bindL_out {kindOf:Str->Option NameKind} {x:Str}:∀ {binds:List (Str × Value)} {m:Str->Option Value},(∀ v,(x,v) ∉ binds)->bindL kindOf binds m x=m x
 | [],_,_=>rfl
 | (n,v) :: r,m,h=>by
  unfold bindL
  rw [bindL_out fun w hw=>h w (List.mem_cons_of_mem _ hw)]
  split
  ·have:x≠n:=by rintro rfl;exact h v List.mem_cons_self
   simp [this]
  ·rfl
theorem bindC_out {kindOf:Str->Option NameKind} {x:Str}:∀ {binds:List (Str × Value)} {m:Str->Option Value},(∀ v,(x,v) ∉ binds)->bindC kindOf binds m x=m x
 | [],_,_=>rfl
 | (n,v) :: r,m,h=>by
  unfold bindC
  rw [bindC_out fun w hw=>h w (List.mem_cons_of_mem _ hw)]
  split
  ·rfl
  ·have:x≠n:=by rintro rfl;exact h v List.mem_cons_self
   simp [this]
theorem bindL_get {kindOf:Str->Option NameKind} {x:Str} {v:Value}:∀ {P:List Str} {vs:List Value} {i:Nat} {m:Str->Option Value},P.Nodup->P[i]? = some x->vs[i]? = some v->kindOf x=some .local ->
  bindL kindOf (P.zip vs) m x=some v
 | [],_,_,_,_,h,_,_=>by simp at h
 | _ :: _,[],_,_,_,_,h,_=>by simp at h
 | p :: P,w :: vs,0,m,nd,h1,h2,hk=>by
  simp at h1 h2;subst h1;subst h2
  show bindL kindOf ((p,w) :: P.zip vs) m p=_
  unfold bindL
  rw [bindL_out fun v hv=>(List.nodup_cons.mp nd).1 (List.of_mem_zip hv).1,if_pos hk]
  simp
 | p :: P,w :: vs,i+1,m,nd,h1,h2,hk=>by
  show bindL kindOf ((p,w) :: P.zip vs) m x=_
  unfold bindL
  exact bindL_get (i:=i) (List.nodup_cons.mp nd).2 (by simpa using h1) (by simpa using h2) hk
theorem V5 {kindOf:Str->Option NameKind} {x:Str} {v:Value}:∀ {P:List Str} {vs:List Value} {i:Nat} {m:Str->Option Value},P.Nodup->P[i]? = some x->vs[i]? = some v->kindOf x≠some .local ->
  bindC kindOf (P.zip vs) m x=some v
 | [],_,_,_,_,h,_,_=>by simp at h
 | _ :: _,[],_,_,_,_,h,_=>by simp at h
 | p :: P,w :: vs,0,m,nd,h1,h2,hk=>by
  simp at h1 h2;subst h1;subst h2
  show bindC kindOf ((p,w) :: P.zip vs) m p=_
  unfold bindC
  rw [bindC_out fun v hv=>(List.nodup_cons.mp nd).1 (List.of_mem_zip hv).1,if_neg hk]
  simp
 | p :: P,w :: vs,i+1,m,nd,h1,h2,hk=>by
  show bindC kindOf ((p,w) :: P.zip vs) m x=_
  unfold bindC
  exact V5 (i:=i) (List.nodup_cons.mp nd).2 (by simpa using h1) (by simpa using h2) hk
def start (N:List Str) (vs:List V):St:=vs.map some++List.replicate (N.length - vs.length) none
def cxOf (CX:CXT) (P:Program) (w:World) (K:W.Frag) (mg:Str->Option Value) (base:Heap) (N:List Str) (qual:Str) (scope:Scope) (f:Addr) (cd:Value) (A:Around) (outer:List Env) (s:Shared) (H:Hp) (E:XK):Cx where
 prog:=P
 w:=w
 K:=K
 mg:=mg
 base:=base
 A:=A.deeper (envOfC qual scope s.heap.objs.size f cd)
 N:=N
 s₀:=s
 H₀:=H
 env:=envOfC qual scope s.heap.objs.size f cd
 outer:=outer
 stack:=envOfC qual scope s.heap.objs.size f cd :: outer
 ex:=[]
 calm:=true
 fn:=fun _=>true
 pn:=[]
 xe:=fun e s'=>wpAny (model P w) (A.deeper (envOfC qual scope s.heap.objs.size f cd)) (leaving (envOfC qual scope s.heap.objs.size f cd) e) (fun _ s''=>CX outer H s E e s'') (fun e' s''=>CX outer H s E e' s'') s'
theorem Yt {sc:Scope} {n:Nat} {x:Str} (h:sc.names.lookup x=some .cell):∃ c,(cellsFrom n sc.names []).lookup x=some c:=by
 have q:=W.cellsFrom_some sc.names n [] (.inl h)
 exact Option.isSome_iff_exists.mp q
theorem qb0 {CX:CXT} {P:Program} {w:World} {K:W.Frag} {mg:Str->Option Value} {base:Heap} {N ps:List Str} {qual:Str} {scope:Scope} {f:Addr} {cd:Value} {A:Around} {outer:List Env} {s s1:Shared} {H:Hp} {E:XK} {us:List Value} {vs:List V}
  (S:FnScope N ps scope) (hd:A.handled=none) (e0:Env0 P w K mg base A outer s H) (hl:vs.length=ps.length) (r:Vals vs us)
  (x:InCallC s s.heap.objs.size (bindL (envOfC qual scope s.heap.objs.size f cd).kindOf (ps.zip us) fun _=>none) (cellsFrom (s.heap.objs.size+1) scope.names []) (bindC (envOfC qual scope s.heap.objs.size f cd).kindOf (ps.zip us) fun _=>none) s1) :
  Inv (cxOf CX P w K mg base N qual scope f cd A outer s H E) [] (start N vs) H s1:=by
 have hpl:ps.length<=N.length:=by have:=congrArg List.length S.pre;rw [List.length_take] at this;omega
 obtain ⟨h1,tk,rfl,hk⟩:=x.done
 have noA:∀ b:Addr,b ∉ (cxOf CX P w K mg base N qual scope f cd A outer s H E).ex:=fun b z=>absurd (show b∈([]:List Addr) from z) (by simp)
 refine ⟨⟨e0.mod,S.kind,rfl,rfl,Nat.le_refl _,fun y z c h1 h2=>?_,fun y hy=>?_,fun y c _ h=>?_,fun _=>hd,Around.frames_deeper e0.frames,.inr ⟨rfl,rfl⟩,fun b z=>absurd z (noA b),e0.bs,e0.bsz,fun b _ _=>noA b,fun b z=>absurd z (noA b),e0.funs,e0.frf⟩,
  rfl,e0.bare,Un.kept hk,⟨_,x.toInCall.ns,fun i y v h1 h2 h3=>?_⟩,fun y c h=>⟨_,x.cell y c h⟩,e0.hok.fresh (Nat.le_refl _),fun y c h=>?_,fun p hp=>absurd (show p∈([]:List (Addr × Obj)) from hp) (by simp),e0.hok.kept hk,?_⟩
 ·exact name_of_addr x.apart (PySem.mem_of_lookup h1) (PySem.mem_of_lookup h2)
 ·have hy:scope.names.lookup y=some .cell\/scope.names.lookup y=some .free:=hy
  rcases hy with hy | hy
  ·exact Yt hy
  ·exact absurd rfl (S.nofree _ (PySem.mem_of_lookup hy))
 ·exact Nat.le_of_lt (x.above y c (PySem.mem_of_lookup h))
 ·have hi:i < vs.length:=by
   unfold start at h2
   by_cases hi:i < vs.length
   ·exact hi
   ·rw [List.getElem?_append_right (by simpa using hi)] at h2
    rw [List.getElem?_replicate] at h2
    split at h2 <;> cases h2
  have ha:vs[i]? = some v:=by
   unfold start at h2
   rw [List.getElem?_append_left (by simpa using hi),List.getElem?_map] at h2
   cases e:vs[i]? with
   | none=>rw [e] at h2;cases h2
   | some a=>rw [e] at h2;cases h2;rfl
  obtain ⟨u,hu,rv⟩:=r.get ha
  have hp:ps[i]? = some y:=by
   rw [<- S.pre,List.getElem?_take_of_lt (by omega)];exact h1
  have ndP:ps.Nodup:=by rw [<- S.pre];exact S.nd.sublist (List.take_sublist _ _)
  refine ⟨u,rv,?_⟩
  rcases S.par y (List.mem_of_getElem? hp) with k | k
  ·exact .inl ⟨k,bindL_get ndP hp hu k⟩
  ·obtain ⟨c,e⟩:=Yt (n:=s.heap.objs.size+1) k
   refine .inr ⟨.inl k,c,e,?_⟩
   have q:=x.cell y c e
   rw [V5 ndP hp hu (by show scope.names.lookup y≠_;rw [k];decide)] at q
   exact q
 ·exact e0.hok.fresh (Nat.le_of_lt (x.above y c (PySem.mem_of_lookup h)))
 ·unfold start
  show _=N.length
  rw [List.length_append,List.length_map,List.length_replicate]
  omega
theorem qhs {CX:CXT} {P:Program} {w:World} {K:W.Frag} {mg:Str->Option Value} {base:Heap} {k:Nat} {f:Addr} {name qual:Str} {params:Arguments} {body:List Stmt} {scope:Scope} {dV kV doc pm cdv ct oc:Value} {an od:Option Addr}
  {osl:Array (Option Value)} {N ps:List Str} {sp:Sp} (lk:K.lookup f=some ⟨oc,od,.func (W.fnOf name qual params body scope dV kV doc pm an cdv ct),osl⟩) (hcd:W.codeIn K cdv qual=true) (S:FnScope N ps scope)
  (len:∀ vs H Q E,sp vs H Q E->vs.length=ps.length)
  (hbody:∀ (A:Around) (outer:List Env) (s:Shared) (H:Hp) (vs:List V) (Q:VK) (E:XK),Room k (A.deeper (envOfC qual scope s.heap.objs.size f cdv))->sp vs H Q E ->
   ∃ t,PSs (cxOf CX P w K mg base N qual scope f cdv A outer s H E) body t/\t { nx:=fun _ H'=>Q .non H',rt:=Q } (start N vs) H) :
  FnOk P w K mg base CX (k+1) f (W.fnOf name qual params body scope dV kV doc pm an cdv ct) ps sp:=by
 refine ⟨len,fun A outer s H args us vs Q E hr e0 hb r hsp=>?_⟩
 have hl:=len _ _ _ _ hsp
 have KX:K.In s.heap:=e0.mod.kin.keeps fun b o e=>(e0.bs b o e).1
 have lim:s.heap.NoLimit:=e0.mod.nolimit.keeps fun b o e=>(e0.bs b o e).1
 have hkind:∀ y∈ps.zip us,scope.names.lookup y.1=some .local\/(scope.names.lookup y.1=some .cell/\((cellsFrom (s.heap.objs.size+1) scope.names []).lookup y.1).isSome=true):=fun ⟨n,v⟩ hy=>by
  rcases S.par n (List.of_mem_zip hy).1 with q | q
  ·exact .inl q
  ·exact .inr ⟨q,W.cellsFrom_some _ _ _ (.inl q)⟩
 refine codeAny_call_function hr.depth (KX _ _ lk) rfl S.co S.gen rfl (W.codeRec_of KX hcd) (hb _ _ _ _ ?_)
 refine wpAny_newFunctionEnv_cells S.kind hkind fun env he s1 x=>?_
 subst he
 refine ⟨lim.keeps x.toInCall.keep,codeAny_func ?_⟩
 obtain ⟨t,ht,hq⟩:=hbody A outer s H vs Q E (hr.deeper _) hsp
 have I:Inv (cxOf CX P w K mg base N qual scope f cdv A outer s H E) [] (start N vs) H s1:=qb0 S hr.hd e0 hl r x
 refine wpAny_mono (ht [] s1 (start N vs) H _ I hq) (fun fl s' hs=>?_) fun e s' hs=>hs
 have fin:∀ {σ':St} {H':Hp} {v:V} {u:Value},Inv (cxOf CX P w K mg base N qual scope f cdv A outer s H E) [] σ' H' s'->RelV v u->Q v H'->CE outer P w H s Q u s' :=
  fun {σ' H' v u} J rv q=>⟨v,H',J.os,J.bare,J.base,J.hok,rv,q⟩
 cases fl with
 | ret u =>
  obtain ⟨v,σ',H',J,rv,q⟩:=hs
  exact fin J rv q
 | next =>
  obtain ⟨σ',H',J,q⟩:=hs
  exact fin (v:=V.non) (u:=Value.none) J rfl q
 | brk =>
  obtain ⟨_,_,_,q⟩:=hs
  exact False.elim q
 | cont =>
  obtain ⟨_,_,_,q⟩:=hs
  exact False.elim q
end L2
namespace L2
open PySem PySem.Spec PyProof.Rows
section
variable {X:Cx} {x:Str} {p pos:Pos} {e:Expr} {es:List Expr} {t:TA} {id T:String} {r:List V->Hp->VK->Prop}
def tCB (r:List V->Hp->VK->Prop) (t:TA):TE:=fun σ H Q=>t σ H fun vs H1=>r vs H1 Q
theorem qi (hc:CallR X (.builtin id) r) (hg:Gl X x) (hm:X.mg x=none) (hv:bootBuiltins x=some (.builtin id)) (ha:PA X (e :: es) t) (hn:x≠"__name__":=by decide) (hdb:(x == ("__debug__" : Str))=false:=by decide)
  (he:starEach (e :: es) X.env=(false,eval e X.env) :: starEach es X.env:=by rfl) (hpl:(backTo pos (starEach es X.env)).any (·.1)=false:=by rfl):PE X (.Call (.Name x p) (e :: es) [] pos) (tCB r t):=by
 intro pins s σ H Q I h
 refine wpAny_Call_Name_kw (ld_blt I hg hm hv ?_ hn hdb)
 exact PyProof.Rows.callWith_builtin1 (thn (ha pos pins s σ H _ I h) fun us s1 ⟨vs,H1,I1,r1,q1⟩=>hc pins s1 σ H1 vs us Q I1 r1 q1) he hpl
theorem qy (hc:CallR X (.type T) r) (hg:Gl X x) (hm:X.mg x=none) (hv:bootBuiltins x=some (.type T)) (ha:PA X (e :: es) t) (hn:x≠"__name__":=by decide) (hdb:(x == ("__debug__" : Str))=false:=by decide)
  (he:starEach (e :: es) X.env=(false,eval e X.env) :: starEach es X.env:=by rfl) (hpl:(backTo pos (starEach es X.env)).any (·.1)=false:=by rfl):PE X (.Call (.Name x p) (e :: es) [] pos) (tCB r t):=by
 intro pins s σ H Q I h
 refine wpAny_Call_Name_kw (ld_blt I hg hm hv ?_ hn hdb)
 exact PyProof.Rows.callWith_type1 (thn (ha pos pins s σ H _ I h) fun us s1 ⟨vs,H1,I1,r1,q1⟩=>hc pins s1 σ H1 vs us Q I1 r1 q1) he hpl
end
end L2
namespace HT
open PySem PyProof.Rows
section
open PySem.SeqAt
open PySem.AutoSeq1 (wpAny_loadPart')
open PySem.MeetsSeq PySem.MeetsSeq2 PySem.MeetsSeq3
end
section
variable {prog:Program} {w:World} {A:Around} {E:Value->Shared->Prop} {s:Shared}
def sIx (n d:Nat):Option Int->Nat
 | none=>d
 | some v=>if v < 0 then (v+(n:Int)).toNat else min v.toNat n
end
end HT
namespace L2
open PySem PySem.Spec PyProof.Rows
abbrev TO:=St->Hp->(Option Int->Hp->Prop)->Prop
def PO (X:Cx) (e:Option Expr) (t:TO):Prop :=
 ∀ (pins:List (Addr × Obj)) (s:Shared) (σ:St) (H:Hp) (Q:Option Int->Hp->Prop),Inv X pins σ H s->t σ H Q ->
  wpAny (model X.prog X.w) X.A (evalPart e X.env) (fun u s'=>∃ o H',Inv X pins σ H' s'/\IsPart u o/\Q o H') X.xe s
def tNoPart:TO:=fun _ H Q=>Q none H
def tPart (t:TE):TO:=fun σ H Q=>t σ H fun x H1=>∃ i,x=.int i/\Q (some i) H1
theorem qa0 {ns:List Int}:∀ {us:List Value},Vals (ns.map V.int) us->IntsAre us ns:=by
 induction ns with
 | nil=>intro us r;rw [List.map_nil] at r;cases r;exact .nil
 | cons n ns ih =>
  intro us r
  rw [List.map_cons] at r
  cases r with
  | cons r1 r2 =>
   obtain ⟨t,e⟩:=r1
   subst e
   exact .cons n t (ih r2)
section
variable {X:Cx} {e:Expr} {te:TE} {lo hi:Option Expr} {tl th:TO} {pos p2:Pos}
theorem vq:PO X none tNoPart:=by
 intro pins s σ H Q I h
 rw [evalPart_none]
 exact wpAny_pure ⟨none,H,I,.none,h⟩
theorem po_some (h:PE X e te):PO X (some e) (tPart te):=by
 intro pins s σ H Q I hw
 rw [evalPart_some]
 refine thn (h pins s σ H _ I hw) fun u s1 ⟨x,H1,I1,r1,q1⟩=>?_
 obtain ⟨i,rfl,q⟩:=q1
 obtain ⟨t,rfl⟩:=r1
 exact ⟨some i,H1,I1,.int i t,q⟩
def SlR (X:Cx) (r:V->Option Int->Option Int->Hp->VK->Prop):Prop :=
 ∀ (pins:List (Addr × Obj)) (s:Shared) (σ:St) (H:Hp) (x:V) (v vl vu:Value) (lo hi:Option Int) (sl:Addr) (Q:VK),Inv X pins σ H s->RelV x v->s.heap.IsSliceOf sl vl vu .none->IsPart vl lo->IsPart vu hi->r x lo hi H Q ->
  ∃ T id,typeLookup (.type T) "__getitem__" = pure (some (.builtin id))/\s.TypeIs v T/\wpAny (model X.prog X.w) X.A (getItem v (.ref sl)) (EP X pins σ Q) X.xe s
theorem SlR.or {r r':V->Option Int->Option Int->Hp->VK->Prop} (h:SlR X r) (h':SlR X r'):SlR X (fun x lo hi H Q=>r x lo hi H Q\/r' x lo hi H Q):=by
 intro pins s σ H x v vl vu lo hi sl Q I rx hs pl pu q
 rcases q with q | q
 ·exact h pins s σ H x v vl vu lo hi sl Q I rx hs pl pu q
 ·exact h' pins s σ H x v vl vu lo hi sl Q I rx hs pl pu q
def tSl (r:V->Option Int->Option Int->Hp->VK->Prop) (te:TE) (tl th:TO):TE:=fun σ H Q=>te σ H fun x H1=>tl σ H1 fun l H2=>th σ H2 fun u H3=>r x l u H3 Q
theorem vc {r:V->Option Int->Option Int->Hp->VK->Prop} (hr:SlR X r) (he:PE X e te) (hl:PO X lo tl) (hu:PO X hi th):PE X (.Subscript e (.Slice lo hi none p2) pos) (tSl r te tl th):=by
 intro pins s σ H Q I h
 refine Subscript_ (thn (he pins s σ H _ I h) fun v s1 ⟨x,H1,I1,r1,q1⟩=>?_)
 refine wpAny_Slice (thn (hl pins s1 σ H1 _ I1 q1) fun vl s2 ⟨l,H2,I2,pl,q2⟩=>thn (hu pins s2 σ H2 _ I2 q2) fun vu s3 ⟨u,H3,I3,pu,q3⟩=>?_)
 rw [evalPart_none]
 refine wpAny_pure ?_
 have I4:Inv X pins σ H3 { s3 with heap:=s3.heap.push { cls:=.type "slice",data:=.fields #[vl,vu,.none] } }:=I3.kept (t':=s3.toks) fun b ob q=>Heap.get?_push_of_some _ q
 obtain ⟨T,id,hT,ht,hg⟩:=hr pins { s3 with heap:=s3.heap.push { cls:=.type "slice",data:=.fields #[vl,vu,.none] } } σ H3 x v vl vu l u s3.heap.objs.size Q I4 r1 (Heap.IsSliceOf.new ..) pl pu q3
 show wpAny (model X.prog X.w) X.A (subscriptTail e (.Slice lo hi none p2) v (.ref s3.heap.objs.size)) (EP X pins σ Q) X.xe { s3 with heap:=s3.heap.push { cls:=.type "slice",data:=.fields #[vl,vu,.none] } }
 exact tail_any (ops:=[.ref s3.heap.objs.size,v]) ht hT hg (by with_unfolding_all rfl)
def cutV (xs:List V) (lo hi:Option Int):List V:=(xs.drop (HT.sIx xs.length 0 lo)).take (HT.sIx xs.length xs.length hi - HT.sIx xs.length 0 lo)
theorem Z4 (xs:List V) (lo hi:Option Int):(cutV xs lo hi).length<=xs.length:=by
 unfold cutV
 rw [List.length_take,List.length_drop]
 omega
end
end L2
namespace L2
open PySem PySem.Spec PyProof.Rows
def ixN (n:Nat) (i:Int):Option Nat:=if 0<=i then (if i < n then some i.toNat else none) else if -(n:Int)<=i then some (i+n).toNat else none
def atI {α:Type} (xs:List α) (i:Int):Option α:=(ixN xs.length i).bind fun j=>xs[j]?
theorem Z5 {n:Nat} {i:Int} {j:Nat} (h:ixN n i=some j):seqIndex? i n=some j/\j < n/\-(n:Int)<=i/\i < n:=by
 unfold ixN at h
 by_cases h0:0<=i
 ·rw [if_pos h0] at h
  by_cases h1:i < n
  ·rw [if_pos h1] at h
   have e:i.toNat=j:=Option.some.inj h
   exact ⟨by rw [seqIndex_of h0 h1,e],by omega,by omega,h1⟩
  ·rw [if_neg h1] at h;cases h
 ·rw [if_neg h0] at h
  by_cases h1:-(n:Int)<=i
  ·rw [if_pos h1] at h
   have e:(i+n).toNat=j:=Option.some.inj h
   exact ⟨by rw [seqIndex_neg (by omega) h1,e],by omega,h1,by omega⟩
  ·rw [if_neg h1] at h;cases h
theorem J5 {α:Type} {xs:List α} {i:Int} {v:α} (h:atI xs i=some v):∃ j,seqIndex? i xs.length=some j/\xs[j]? = some v/\j < xs.length/\-(xs.length:Int)<=i/\i < xs.length:=by
 unfold atI at h
 cases e:ixN xs.length i with
 | none=>rw [e] at h;cases h
 | some j =>
  rw [e] at h
  obtain ⟨h1,h2,h3,h4⟩:=Z5 e
  exact ⟨j,h1,h,h2,h3,h4⟩
theorem atI_nat {α:Type} {xs:List α} {j:Nat} {v:α} (h:xs[j]? = some v):atI xs (j:Int)=some v:=by
 have hj:j < xs.length:=(List.getElem?_eq_some_iff.mp h).1
 have e:ixN xs.length (j:Int)=some j:=by
  unfold ixN
  rw [if_pos (by omega),if_pos (by omega)];simp
 unfold atI;rw [e];exact h
theorem atI_last {α:Type} (xs:List α) (v:α):atI (xs++[v]) (-1)=some v:=by
 have hl:(xs++[v]).length=xs.length+1:=by simp
 have e:ixN (xs++[v]).length (-1)=some xs.length:=by
  unfold ixN
  rw [hl,if_neg (by decide),if_pos (by omega)]
  congr 1
  omega
 unfold atI
 rw [e]
 show (xs++[v])[xs.length]? = some v
 simp
def PlainIx (b:Expr):Prop:=∀ o i,subscripted b false o i=operate [o,i] (getItem o i)
def IxR (X:Cx) (r:R2):Prop :=
 ∀ (value slice:Expr) (pins:List (Addr × Obj)) (s:Shared) (σ:St) (H:Hp) (x y:V) (v u:Value) (Q:VK),Inv X pins σ H s->RelV x v->RelV y u->r x y H Q ->
  subscripted slice false v u=operate [v,u] (getItem v u)->wpAny (model X.prog X.w) X.A (subscriptTail value slice v u) (EP X pins σ Q) X.xe s
def MtR (X:Cx) (id:String) (r:V->List V->Hp->VK->Prop):Prop :=
 ∀ (pins:List (Addr × Obj)) (s:Shared) (σ:St) (H:Hp) (x:V) (xs:List V) (v:Value) (us:List Value) (Q:VK),Inv X pins σ H s->RelV x v->Vals xs us->r x xs H Q ->
  wpAny (model X.prog X.w) X.A (call (.builtin id) (v :: us)) (EP X pins σ Q) X.xe s
section
variable {X:Cx} {a b:Expr} {ta tb:TE} {pos:Pos}
theorem IxR.or {r r':R2} (h:IxR X r) (h':IxR X r'):IxR X (fun x y H Q=>r x y H Q\/r' x y H Q):=by
 intro value slice pins s σ H x y v u Q I rx ry q hs
 rcases q with q | q
 ·exact h value slice pins s σ H x y v u Q I rx ry q hs
 ·exact h' value slice pins s σ H x y v u Q I rx ry q hs
theorem MtR.or {id:String} {r r':V->List V->Hp->VK->Prop} (h:MtR X id r) (h':MtR X id r'):MtR X id (fun x xs H Q=>r x xs H Q\/r' x xs H Q):=by
 intro pins s σ H x xs v us Q I rx rs q
 rcases q with q | q
 ·exact h pins s σ H x xs v us Q I rx rs q
 ·exact h' pins s σ H x xs v us Q I rx rs q
theorem pe_ix {r:R2} (hr:IxR X r) (ha:PE X a ta) (hb:PE X b tb) (hs:PlainIx b):PE X (.Subscript a b pos) (tOp r ta tb):=by
 intro pins s σ H Q I h
 exact Subscript_ (binT ha hb I h fun v u s2 x y H2 I2 rx ry q=>hr a b pins s2 σ H2 x y v u Q I2 rx ry q (hs _ _))
def rIxL (K:W.Frag):R2:=fun x y H Q=>∃ p xs i v,x=.ref p/\y=.int i/\SqL K H p xs/\atI xs i=some v/\Q v H
def rIxT (K:W.Frag):R2:=fun x y H Q=>∃ p xs i v,x=.ref p/\y=.int i/\SqT K H p xs/\atI xs i=some v/\Q v H
def rIxS:R2:=fun x y H Q=>∃ z i c,x=.str z/\y=.int i/\z.length<=sizeLine/\atI z.cps.toList i=some c/\Q (.str ⟨#[c]⟩) H
theorem ji:IxR X (rIxL X.K):=by
 intro value slice pins s σ H x y v u Q I rx ry h hs
 obtain ⟨p,xs,i,z,rfl,rfl,hq,he,q⟩:=h
 cases rx
 obtain ⟨t,rfl⟩:=ry
 obtain ⟨its,r,pl,hz⟩:=I.list hq
 obtain ⟨j,h1,h2,h3,h4,h5⟩:=J5 he
 obtain ⟨w,ew,rw'⟩:=r.get h2
 have hl:=r.length
 have hn:=line63
 have fin:EP X pins σ Q w s:=⟨z,H,I,rw',q⟩
 by_cases h0:0<=i
 ·have hj:i.toNat=j:=by
   rw [seqIndex_of h0 h5] at h1
   exact Option.some.inj h1
  exact item_listR pl.isList h0 (by omega) (by rw [hj];simpa using ew) fin hs
 ·have hj:(i+(its.toArray.size:Int)).toNat=j:=by
   rw [seqIndex_neg (by omega) h4] at h1
   rw [List.size_toArray,<- hl]
   exact Option.some.inj h1
  exact subscriptTail_builtinR (x:=w) pl.isList.typeIs slot_list_getitem.lookup
   (wpAny_getItem_list_neg (Q:=fun r s'=>r=w/\EP X pins σ Q r s') pl.isList (by omega) (by rw [List.size_toArray] <;> omega) (by omega) (by rw [hj];simpa using ew) ⟨rfl,fin⟩) hs
theorem V6:IxR X (rIxT X.K):=by
 intro value slice pins s σ H x y v u Q I rx ry h hs
 obtain ⟨p,xs,i,z,rfl,rfl,hq,he,q⟩:=h
 cases rx
 obtain ⟨t,rfl⟩:=ry
 obtain ⟨its,r,pl,hz⟩:=I.tuple hq
 obtain ⟨j,h1,h2,h3,h4,h5⟩:=J5 he
 obtain ⟨w,ew,rw'⟩:=r.get h2
 have hl:=r.length
 have hn:=line63
 have fin:EP X pins σ Q w s:=⟨z,H,I,rw',q⟩
 exact subscriptTail_builtinR (x:=w) pl.typeIs slot_tuple_getitem.lookup
  (getItem_tuple (j:=j) (Q:=fun r s'=>r=w/\EP X pins σ Q r s') pl (by omega) (by omega) (by rw [List.size_toArray,<- hl];exact h1) (by simpa using ew) ⟨rfl,fin⟩) hs
theorem Yu:IxR X rIxS:=by
 intro value slice pins s σ H x y v u Q I rx ry h hs
 obtain ⟨z,i,c,rfl,rfl,hz,he,q⟩:=h
 obtain ⟨t,rfl⟩:=rx
 obtain ⟨t',rfl⟩:=ry
 obtain ⟨j,h1,h2,h3,h4,h5⟩:=J5 he
 have hl:z.cps.toList.length=z.length:=by simp [Str.length]
 rw [hl] at h1 h4 h5
 have hn:=line63
 exact tail_any (typeIs_str s z t) slot_str_getitem.lookup (getItem_str (c:=c) (by
  have e1:decide (i < -(2 ^ 63:Int))=false:=decide_eq_false (by omega)
  have e2:decide (i ≥ 2 ^ 63)=false:=decide_eq_false (by omega)
  rw [e1,e2,Bool.or_false]) (by rw [h1];simpa using h2) ⟨.str ⟨#[c]⟩,H,I.tok _,⟨_,rfl⟩,q⟩) hs
theorem qa1 (its:List Value) (n j:Nat) (u:Value):Obj.mapSeq (·.setIfInBounds j u) { cls:=.type "list",data:=.seq its.toArray n } = { cls:=.type "list",data:=.seq (its.set j u).toArray n }:=by
 simp [Obj.mapSeq]
theorem Inv.lst {pins:List (Addr × Obj)} {σ:St} {H:Hp} {s:Shared} {p:Addr} {xs:List V} (I:Inv X pins σ H s) (h:H p=some (.lst xs)) :
  ∃ (its:List Value) (n:Nat),Vals xs its/\s.heap.get? p=some { cls:=.type "list",data:=.seq its.toArray n }/\xs.length<=sizeLine:=by
 obtain ⟨z,its,n,r,e⟩:=I.hok p _ h
 exact ⟨its,n,r,e,z⟩
theorem Inv.lstUpd {pins:List (Addr × Obj)} {σ:St} {H:Hp} {s:Shared} {p:Addr} {xs ys:List V} {its its':List Value} {n n':Nat} {f:Obj->Obj} (I:Inv X pins σ H s) (h:H p=some (.lst xs))
  (ho:s.heap.get? p=some { cls:=.type "list",data:=.seq its.toArray n }) (hf:f { cls:=.type "list",data:=.seq its.toArray n } = { cls:=.type "list",data:=.seq its'.toArray n' }) (r:Vals ys its') (hz:ys.length<=sizeLine) (t:Nat) :
  Inv X pins σ (upd H p (.lst ys)) { s with heap:=s.heap.update p f,toks:=t }:=by
 have e:(s.heap.update p f).get? p=some { cls:=.type "list",data:=.seq its'.toArray n' }:=by
  rw [Heap.get?_update_self f ho (by rw [hf] <;> rfl),hf]
 refine I.write (x:=p) (e:=p) (by rw [h];trivial) (.inl rfl) (fun b u hb q=>(Heap.get?_update_other _ _ (Ne.symm hb)).trans q) ⟨_,e⟩ ?_
 exact ⟨hz,its',n',r,e⟩
def rSetL:V->V->V->Hp->(Hp->Prop)->Prop:=fun o i v H Q=>∃ p xs k j,o=.ref p/\i=.int k/\H p=some (.lst xs)/\ixN xs.length k=some j/\Q (upd H p (.lst (xs.set j v)))
theorem Yv:PSet X rSetL:=by
 intro pins s σ H o i v ov iv u Q I ro ri rv h
 obtain ⟨p,xs,k,j,rfl,rfl,hp,hj,q⟩:=h
 cases ro
 obtain ⟨t,rfl⟩:=ri
 obtain ⟨its,n,r,ho,hz⟩:=I.lst hp
 obtain ⟨h1,h2,h3,h4⟩:=Z5 hj
 have hl:=r.length
 have hn:=line63
 have I':Inv X pins σ (upd H p (.lst (xs.set j v))) { s with heap:=s.heap.update p (Obj.mapSeq (·.setIfInBounds j u)) } :=
  I.lstUpd hp ho (qa1 its n j u) (r.set rv j) (by rw [List.length_set];exact hz) s.toks
 by_cases h0:0<=k
 ·have hk:k.toNat=j:=by
   rw [seqIndex_of h0 h4] at h1
   exact Option.some.inj h1
  exact W.ki_setAt ho h0 (by omega) (by rw [List.size_toArray,<- hl];exact h4) (by rw [hk];exact ⟨_,I',q⟩)
 ·have hk:(k+(its.toArray.size:Int)).toNat=j:=by
   rw [seqIndex_neg (by omega) h3] at h1
   rw [List.size_toArray,<- hl]
   exact Option.some.inj h1
  exact W.ki_setBack ho (by omega) (by rw [List.size_toArray,<- hl];exact h3) (by omega) (by rw [hk];exact ⟨_,I',q⟩)
theorem V7 (lo hi:Option Int) (n:Nat):(sliceBounds lo hi none n).1=((HT.sIx n 0 lo:Nat):Int)/\(sliceBounds lo hi none n).2.1=((HT.sIx n n hi:Nat):Int)/\(sliceBounds lo hi none n).2.2=1:=by
 refine ⟨?_,?_,rfl⟩
 ·cases lo with
  | none=>simp [sliceBounds,HT.sIx]
  | some i =>
   simp only [sliceBounds,HT.sIx,Option.getD_none,show (1:Int) > 0 by decide,if_true]
   by_cases h:i < 0
   ·simp only [h,if_true] <;> omega
   ·simp only [h,if_false] <;> omega
 ·cases hi with
  | none=>simp [sliceBounds,HT.sIx]
  | some i =>
   simp only [sliceBounds,HT.sIx,Option.getD_none,show (1:Int) > 0 by decide,if_true]
   by_cases h:i < 0
   ·simp only [h,if_true] <;> omega
   ·simp only [h,if_false] <;> omega
theorem J6 (its:List Value) (lo hi:Option Int):slicePick its.toArray lo hi none=((its.drop (HT.sIx its.length 0 lo)).take (HT.sIx its.length its.length hi - HT.sIx its.length 0 lo)).toArray:=by
 obtain ⟨h1,h2,h3⟩:=V7 lo hi its.toArray.size
 unfold slicePick
 rw [h1,h2,h3]
 simp only [sliceRange_one,pick_run,List.size_toArray] <;> rfl
def rSlL (K:W.Frag):V->Option Int->Option Int->Hp->VK->Prop:=fun x lo hi H Q=>∃ a xs,x=.ref a/\SqL K H a xs/\∀ p,H p=none->Q (.ref p) (upd H p (.lst (cutV xs lo hi)))
theorem yn:SlR X (rSlL X.K):=by
 intro pins s σ H x v vl vu lo hi sl Q I rx hs pl pu h
 obtain ⟨a,xs,rfl,hx,q⟩:=h
 cases rx
 obtain ⟨its,r,ht,hz⟩:=I.list hx
 have hlen:=r.length
 refine ⟨"list",_,slot_list_getitem.lookup,ht.isList.typeIs,?_⟩
 refine wpAny_getItem_list_slice ht.isList hs pl pu .none (by simp) ?_ (by rw [List.size_toArray] <;> omega)
 rw [J6,<- hlen]
 refine ⟨.ref s.heap.objs.size,_,I.laid (t':=s.toks) (o:=.lst (cutV xs lo hi)) (fun b ob q=>Heap.get?_push_of_some _ q) (Nat.le_refl _) ?_,rfl,q _ (I.hok.fresh (Nat.le_refl _))⟩
 exact ⟨Nat.le_trans (Z4 xs lo hi) hz,_,0,(r.drop (HT.sIx xs.length 0 lo)).take (HT.sIx xs.length xs.length hi - HT.sIx xs.length 0 lo),Heap.get?_push_size _ rfl⟩
def flatV:V->Bool
 | .non=>true
 | .bl _=>true
 | .int _=>true
 | .str _=>true
 | _=>false
def eqV:V->V->Bool
 | .non,.non=>true
 | .bl a,.bl b=>a == b
 | .bl a,.int b=>(if a then 1 else 0) == b
 | .int a,.bl b=>a == (if b then 1 else 0)
 | .int a,.int b=>a == b
 | .str a,.str b=>a == b
 | _,_=>false
theorem qfe {A:Around} {s:Shared} {y x:V} {u v:Value} (ry:RelV y u) (rx:RelV x v) (fy:flatV y=true) (fx:flatV x=true):SeqAt.EqAt A s u v (eqV y x):=by
 cases y with
 | non =>
  cases ry
  cases x with
  | non=>cases rx;exact SeqAt.EqAt.same _
  | bl b=>cases rx;exact SeqAt.EqAt.none_bool b
  | int b=>obtain ⟨t,rfl⟩:=rx;exact SeqAt.EqAt.none_int b t
  | str b=>obtain ⟨t,rfl⟩:=rx;exact SeqAt.EqAt.none_str b t
  | _=>exact absurd (show false=true from fx) Bool.false_ne_true
 | bl a =>
  cases ry
  cases x with
  | non=>cases rx;exact SeqAt.EqAt.bool_none a
  | bl b=>cases rx;exact SeqAt.EqAt.bool_bool a b
  | int b=>obtain ⟨t,rfl⟩:=rx;exact SeqAt.EqAt.bool_int a b t
  | str b=>obtain ⟨t,rfl⟩:=rx;exact SeqAt.EqAt.bool_str a b t
  | _=>exact absurd (show false=true from fx) Bool.false_ne_true
 | int a =>
  obtain ⟨t',rfl⟩:=ry
  cases x with
  | non=>cases rx;exact SeqAt.EqAt.int_none a t'
  | bl b=>cases rx;exact SeqAt.EqAt.int_bool a t' b
  | int b=>obtain ⟨t,rfl⟩:=rx;exact SeqAt.EqAt.int_int a t' b t
  | str b=>obtain ⟨t,rfl⟩:=rx;exact SeqAt.EqAt.int_str a t' b t
  | _=>exact absurd (show false=true from fx) Bool.false_ne_true
 | str a =>
  obtain ⟨t',rfl⟩:=ry
  cases x with
  | non=>cases rx;exact SeqAt.EqAt.str_none a t'
  | bl b=>cases rx;exact SeqAt.EqAt.str_bool a t' b
  | int b=>obtain ⟨t,rfl⟩:=rx;exact SeqAt.EqAt.str_int a t' b t
  | str b=>obtain ⟨t,rfl⟩:=rx;exact SeqAt.EqAt.str_str a t' b t
  | _=>exact absurd (show false=true from fx) Bool.false_ne_true
 | _=>exact absurd (show false=true from fy) Bool.false_ne_true
def eqU (x:V) (u:Value):Bool:=match u with
 | .none=>eqV .non x
 | .bool b=>eqV (.bl b) x
 | .int i _=>eqV (.int i) x
 | .str z _=>eqV (.str z) x
 | _=>false
theorem qff {x y:V} {u:Value} (r:RelV y u) (f:flatV y=true):eqU x u=eqV y x:=by
 cases y with
 | non=>cases r;rfl
 | bl b=>cases r;rfl
 | int i=>obtain ⟨t,rfl⟩:=r;rfl
 | str z=>obtain ⟨t,rfl⟩:=r;rfl
 | _=>exact absurd (show false=true from f) Bool.false_ne_true
theorem Z6 {x:V}:∀ {xs:List V} {us:List Value},Vals xs us->xs.all flatV=true->us.any (eqU x)=xs.any fun y=>eqV y x
 | _,_,.nil,_=>rfl
 | y :: xs,u :: us,.cons r t,f=>by
  rw [List.all_cons,Bool.and_eq_true] at f
  rw [List.any_cons,List.any_cons,qff r f.1,Z6 t f.2]
theorem J7 {A:Around} {s:Shared} {x:V} {v:Value} (rx:RelV x v) (fx:flatV x=true):∀ {xs:List V} {us:List Value},Vals xs us->xs.all flatV=true->∀ u∈us,SeqAt.EqAt A s u v (eqU x u)
 | _,_,.nil,_=>fun u hu=>by cases hu
 | y :: xs,u :: us,.cons r t,f=>fun u' hu=>by
  rw [List.all_cons,Bool.and_eq_true] at f
  rcases List.mem_cons.mp hu with rfl | hu
  ·rw [qff r f.1];exact qfe r rx f.1 fx
  ·exact J7 rx fx t f.2 u' hu
def inV (x:V) (xs:List V):Bool:=xs.any fun y=>eqV y x
def rIn (K:W.Frag) (neg:Bool):R2:=fun x y H Q=>∃ p xs,y=.ref p/\(SqL K H p xs\/SqT K H p xs)/\flatV x=true/\xs.all flatV=true/\Q (.bl (if neg then !inV x xs else inV x xs)) H
theorem qb1:OpR X (compareOp .In) (rIn X.K false):=by
 intro pins s σ H x y v u Q I rx ry h
 obtain ⟨p,xs,rfl,hq,fx,fs,q⟩:=h
 cases ry
 rcases hq with hq | hq
 ·obtain ⟨its,r,pl,hz⟩:=I.list hq
  refine SeqAt.in_listAt (eqU x) pl.isList (fun w hw=>J7 rx fx r fs w (by simpa using hw)) ⟨.bl _,H,I,rfl,?_⟩
  rw [show its.toArray.any (eqU x)=its.any (eqU x) by simp,Z6 r fs]
  exact q
 ·obtain ⟨its,r,pl,hz⟩:=I.tuple hq
  refine SeqAt.in_tupleAt (eqU x) pl (fun w hw=>J7 rx fx r fs w (by simpa using hw)) ⟨.bl _,H,I,rfl,?_⟩
  rw [show its.toArray.any (eqU x)=its.any (eqU x) by simp,Z6 r fs]
  exact q
theorem js:CallR X (.builtin "len") (fun xs H Q=>∃ p ys,xs=[.ref p]/\(SqL X.K H p ys\/SqT X.K H p ys)/\Q (.int ys.length) H):=by
 intro pins s σ H xs us Q I r h
 obtain ⟨p,ys,rfl,hq,q⟩:=h
 obtain ⟨u,rfl,rx⟩:=vals1 r
 cases rx
 have hn:=line63
 rcases hq with hq | hq
 ·obtain ⟨its,r',pl,hz⟩:=I.list hq
  have hlen:=r'.length
  exact Calls.call_len_list pl.isList (by simp only [List.size_toArray] <;> omega) ⟨.int ys.length,H,I.tok _,⟨s.toks+1,by rw [List.size_toArray,hlen]⟩,q⟩
 ·obtain ⟨its,r',pl,hz⟩:=I.tuple hq
  have hlen:=r'.length
  exact len_tuple pl (by simp only [List.size_toArray] <;> omega) ⟨.int ys.length,H,I.tok _,⟨s.toks+1,by rw [List.size_toArray,hlen]⟩,q⟩
theorem vg:CallR X (.builtin "len") (fun xs H Q=>∃ z,xs=[.str z]/\z.length<=sizeLine/\Q (.int z.length) H):=by
 intro pins s σ H xs us Q I r h
 obtain ⟨z,rfl,hz,q⟩:=h
 obtain ⟨u,rfl,t,rfl⟩:=vals1 r
 have hn:=line63
 exact len_str (by omega) ⟨.int z.length,H,I.tok _,⟨_,rfl⟩,q⟩
theorem CallR.or {f:Value} {r r':List V->Hp->VK->Prop} (h:CallR X f r) (h':CallR X f r'):CallR X f (fun xs H Q=>r xs H Q\/r' xs H Q):=by
 intro pins s σ H xs us Q I rs q
 rcases q with q | q
 ·exact h pins s σ H xs us Q I rs q
 ·exact h' pins s σ H xs us Q I rs q
theorem call_tuple_of:CallR X (.type "tuple") (fun xs H Q=>∃ p ys,xs=[.ref p]/\((SqL X.K H p ys/\∀ l,H l=none->Q (.ref l) (upd H l (.tup ys)))\/(SqT X.K H p ys/\Q (.ref p) H))):=by
 intro pins s σ H xs us Q I r h
 obtain ⟨p,ys,rfl,h⟩:=h
 obtain ⟨u,rfl,rx⟩:=vals1 r
 cases rx
 rcases h with ⟨hq,q⟩ | ⟨hq,q⟩
 ·obtain ⟨its,r',pl,hz⟩:=I.list hq
  have hlen:=r'.length
  refine call_tuple_list pl.isList (fun h' kp=>?_) (by simp only [List.size_toArray] <;> omega)
  have I1:Inv X pins σ H { s with heap:=h' }:=I.kept (t':=s.toks) kp
  have I2:Inv X pins σ (upd H h'.objs.size (.tup ys)) { s with heap:=h'.push { cls:=.type "tuple",data:=.seq its.toArray } } :=
   I1.laid (t':=s.toks) (fun b o e=>Heap.get?_push_of_some _ e) (Nat.le_refl _) (show ObjOk X.prog X.w _ _ _ (.tup ys) from ⟨hz,its,r',IsTup.new _ _,_,Heap.get?_push_size _ rfl,rfl⟩)
  exact ⟨.ref h'.objs.size,_,I2,rfl,q _ (I1.hok.fresh (Nat.le_refl _))⟩
 ·obtain ⟨its,r',pl,hz⟩:=I.tuple hq
  exact call_tuple_same pl ⟨.ref p,H,I,rfl,q⟩
def tyV (K:W.Frag) (T:String) (x:V) (H:Hp):Prop:=match x with
 | .str _=>T = "str"
 | .int _=>T = "int"
 | .ref p=>(T = "list"/\∃ xs,SqL K H p xs)\/(T = "tuple"/\∃ o,K.lookup p=some o/\o.cls=.type "tuple"/\o.dict=none) \/
   (T = "dict"/\((∃ kvs,H p=some (.dK kvs))\/∃ kvs,H p=some (.dT kvs)))\/(T = "set"/\∃ S n,H p=some (.set S n))
 | _=>False
theorem qfg {pins:List (Addr × Obj)} {σ:St} {H:Hp} {s:Shared} {T:String} {x:V} {v:Value} (I:Inv X pins σ H s) (r:RelV x v) (ty:tyV X.K T x H) :
  s.TypeIs v T/\∀ a,v=.ref a->∃ ob,s.heap.get? a=some ob/\ob.dict=none:=by
 cases x with
 | str z =>
  obtain ⟨t,rfl⟩:=r
  cases (show T = "str" from ty)
  exact ⟨typeIs_str s z t,fun _ e=>nomatch e⟩
 | int i =>
  obtain ⟨t,rfl⟩:=r
  cases (show T = "int" from ty)
  exact ⟨typeIs_int s i t,fun _ e=>nomatch e⟩
 | ref p =>
  cases r
  rcases ty with ⟨rfl,xs,hq⟩ | ⟨rfl,o,hk,hc,hd⟩ | ⟨rfl,hk⟩ | ⟨rfl,S,n,hk⟩
  ·obtain ⟨its,_,pl,_⟩:=I.list hq
   refine ⟨pl.isList.typeIs,fun a e=>?_⟩
   cases e
   obtain ⟨o,n,e,c,hd,_⟩:=pl
   exact ⟨o,e,hd⟩
  ·refine ⟨⟨o,I.kIn p o hk,hc⟩,fun a e=>?_⟩
   cases e
   exact ⟨o,I.kIn _ o hk,hd⟩
  ·have z:∃ o,s.heap.get? p=some o/\o.ExactDict:=by
    rcases hk with ⟨kvs,hk⟩ | ⟨kvs,hk⟩
    ·obtain ⟨_,_,_,_,o,_,_,e,ex,_⟩:=I.hok p _ hk
     exact ⟨o,e,ex⟩
    ·obtain ⟨_,_,_,_,o,_,_,e,ex,_⟩:=I.hok p _ hk
     exact ⟨o,e,ex⟩
   obtain ⟨o,e,ex⟩:=z
   refine ⟨⟨o,e,ex.1⟩,fun a e2=>?_⟩
   cases e2
   exact ⟨o,e,ex.2.1⟩
  ·obtain ⟨o,_,_,_,e,ex,_⟩:=I.hok p _ hk
   refine ⟨⟨o,e,ex.1⟩,fun a e2=>?_⟩
   cases e2
   exact ⟨o,e,ex.2.1⟩
 | _=>exact False.elim ty
def tBM0 (K:W.Frag) (T:String) (r:V->List V->Hp->VK->Prop) (to:TE):TE:=fun σ H Q=>to σ H fun x H1=>tyV K T x H1/\r x [] H1 Q
def tBM (K:W.Frag) (T:String) (r:V->List V->Hp->VK->Prop) (to:TE) (t:TA):TE:=fun σ H Q=>to σ H fun x H1=>tyV K T x H1/\t σ H1 fun xs H2=>r x xs H2 Q
variable {o e:Expr} {es:List Expr} {to:TE} {t:TA} {name:Str} {apos cpos:Pos} {T id:String} {r:V->List V->Hp->VK->Prop}
theorem qht (pa:PlainAttrs T) (slot:Slot T name id) (hty:typeOf (.builtin id)=pure (.type "method_descriptor")) (hm:MtR X id r) (ho:PE X o to)
  (hbase:attributeBase o name X.env (eval o X.env)=eval o X.env:=by rfl) (hline:(apos.endLine == cpos.line)=true:=by rfl):PE X (.Call (.Attribute o name apos) [] [] cpos) (tBM0 X.K T r to):=by
 intro pins s σ H Q I h
 refine wpAny_Call_method0_late hbase hline (thn (ho pins s σ H _ I h) fun v s1 ⟨x,H1,I1,r1,ty,q1⟩=>?_)
 obtain ⟨h1,h2⟩:=qfg I1 r1 ty
 exact ⟨T,id,pa,slot,hty,h1,h2,Calls.callWith_builtin rfl (PySem.evalArgs_none (hm pins s1 σ H1 x [] v [] Q I1 r1 .nil q1))⟩
theorem qb2 (pa:PlainAttrs T) (slot:Slot T name id) (hty:typeOf (.builtin id)=pure (.type "method_descriptor")) (hm:MtR X id r) (ho:PE X o to) (ha:PA X (e :: es) t)
  (hbase:attributeBase o name X.env (eval o X.env)=eval o X.env:=by rfl)
  (hfew:((backTo cpos (starEach (e :: es) X.env)).all (fun x=>!x.1) && (backToKw cpos (keywordEach [] X.env)).all (fun x=>x.1.isSome)
   && decide ((e :: es).length+([]:List Keyword).length+(if ([]:List Keyword).isEmpty then 0 else 1) < 30))=true:=by rfl)
  (hline:(apos.endLine == cpos.line)=true:=by rfl) (hs:starEach (e :: es) X.env=(false,eval e X.env) :: starEach es X.env:=by rfl) (hplain:(backTo cpos (starEach es X.env)).any (·.1)=false:=by rfl) :
  PE X (.Call (.Attribute o name apos) (e :: es) [] cpos) (tBM X.K T r to t):=by
 intro pins s σ H Q I h
 refine wpAny_Call_method_late hbase hfew hline rfl (thn (ho pins s σ H _ I h) fun v s1 ⟨x,H1,I1,r1,ty,q1⟩=>?_)
 obtain ⟨h1,h2⟩:=qfg I1 r1 ty
 refine ⟨T,id,pa,slot,hty,h1,h2,?_⟩
 have hA:=ha cpos pins s1 σ H1 _ I1 q1
 rw [hs] at hA ⊢
 refine Calls.callWith_builtin (by show (false || (backTo cpos (starEach es X.env)).any (·.1))=false;rw [hplain] <;> rfl) (Calls.evalArgs_plain ?_)
 exact thn hA fun us s2 ⟨vs,H2,I2,r2,q2⟩=>hm pins s2 σ H2 x vs v us Q I2 r1 r2 q2
/- xs.append(e),list.index on a module's tuple .. are MtR facts of 06m -/
end
end L2
namespace L2
open PySem PySem.Spec PyProof.Rows
def MtM (X:Cx) (id:String) (r:V->List V->Hp->VK->Prop):Prop :=
 ∀ (pins:List (Addr × Obj)) (s:Shared) (σ:St) (H:Hp) (x:V) (xs:List V) (v:Value) (us:List Value) (Q:VK),Inv X pins σ H s->RelV x v->Vals xs us->r x xs H Q ->
  wpAny (model X.prog X.w) X.A (call (.builtin id) (v :: us)) (EP X pins σ Q) X.xe s
theorem Vals.one:∀ {x:V} {us:List Value},Vals [x] us->∃ u,us=[u]/\RelV x u
 | _,_,.cons r .nil=>⟨_,rfl,r⟩
theorem Vals.two:∀ {x y:V} {us:List Value},Vals [x,y] us->∃ u v,us=[u,v]/\RelV x u/\RelV y v
 | _,_,_,.cons r (.cons q .nil)=>⟨_,_,rfl,r,q⟩
theorem Vals.zero:∀ {us:List Value},Vals [] us->us=[]
 | _,.nil=>rfl
theorem Vals.eraseIdx:∀ {xs:List V} {us:List Value} (i:Nat),Vals xs us->Vals (xs.eraseIdx i) (us.eraseIdx i)
 | _,_,_,.nil=>.nil
 | _,_,0,.cons _ t=>t
 | _,_,i+1,.cons r t=>.cons r (Vals.eraseIdx i t)
theorem Vals.reverse {xs:List V} {us:List Value} (h:Vals xs us):Vals xs.reverse us.reverse:=by
 induction h with
 | nil=>exact .nil
 | cons r t ih=>rw [List.reverse_cons,List.reverse_cons];exact Vals.append ih (.cons r .nil)
theorem Vals.rep {xs:List V} {us:List Value} (h:Vals xs us):∀ k:Nat,Vals (List.replicate k xs).flatten (List.replicate k us).flatten
 | 0=>.nil
 | k+1=>by
  rw [List.replicate_succ,List.replicate_succ,List.flatten_cons,List.flatten_cons]
  exact Vals.append h (Vals.rep h k)
theorem V8 {α:Type}:∀ (l:List α) (i:Nat),(l.eraseIdx i).length<=l.length
 | [],_=>Nat.le_refl _
 | _ :: _,0=>Nat.le_succ _
 | _ :: r,i+1=>Nat.succ_le_succ (V8 r i)
theorem V9 (its:List Value):∀ (k:Nat) (acc:List Value),
  List.foldl (fun x1 x2=>x1++x2) acc.toArray (List.replicate k its.toArray)=(acc++(List.replicate k its).flatten).toArray
 | 0,acc=>by simp
 | k+1,acc=>by
  have e:acc.toArray++its.toArray=(acc++its).toArray:=by simp
  have e2:(acc++its)++(List.replicate k its).flatten=acc++(List.replicate (k+1) its).flatten:=by
   rw [List.replicate_succ,List.flatten_cons,List.append_assoc]
  rw [<- e2,<- V9 its k (acc++its),<- e,List.replicate_succ,List.foldl_cons]
section
variable {X:Cx} {pins:List (Addr × Obj)} {σ:St} {H:Hp} {s:Shared} {l b:Addr} {xs ys zs:List V}
theorem Inv.lset {its its':List Value} {n:Nat} {f:Array Value->Array Value} {t':Nat} (I:Inv X pins σ H s) (hH:H l=some (.lst xs))
  (e:s.heap.get? l=some { cls:=.type "list",data:=.seq its.toArray n }) (hf:f its.toArray=its'.toArray) (hv:Vals ys its') (hz:ys.length<=sizeLine) :
  Inv X pins σ (upd H l (.lst ys)) { s with heap:=s.heap.update l (Obj.mapSeq f),toks:=t' }:=by
 have q:=PySem.IsL.update e f
 rw [hf] at q
 refine I.write (x:=l) (e:=l) (by rw [hH];exact trivial) (.inl rfl) (fun b' u hb hu=>(Heap.get?_update_other s.heap (Obj.mapSeq f) (Ne.symm hb)).trans hu) ⟨_,q⟩ ?_
 exact ⟨hz,its',_,hv,q⟩
theorem Inv.lnew {its:List Value} {t':Nat} (I:Inv X pins σ H s) (hv:Vals ys its) (hz:ys.length<=sizeLine) :
  Inv X pins σ (upd H s.heap.objs.size (.lst ys)) { s with heap:=s.heap.push { cls:=.type "list",data:=.seq its.toArray },toks:=t' } :=
 I.laid (fun _ _ q=>Heap.get?_push_of_some _ q) (Nat.le_refl _) ⟨hz,its,0,hv,Heap.get?_push_size _ rfl⟩
theorem Inv.fresh (I:Inv X pins σ H s):H s.heap.objs.size=none:=I.hok.fresh (Nat.le_refl _)
theorem Inv.lstM (I:Inv X pins σ H s) (hH:H l=some (.lst xs)):xs.length<=sizeLine/\∃ (its:List Value) (n:Nat),Vals xs its/\xs.length=its.length/\s.heap.get? l=some { cls:=.type "list",data:=.seq its.toArray n }:=by
 obtain ⟨z,its,n,r,e⟩:=I.hok l _ hH
 exact ⟨z,its,n,r,r.length,e⟩
theorem notLongL {n:Nat} (h:n<=sizeLine):Builtin.List.listTooLong n=false:=by
 unfold Builtin.List.listTooLong
 exact decide_eq_false (by omega)
end
section
variable {X:Cx}
def rAppend:V->List V->Hp->VK->Prop:=fun x vs H Q=>∃ l xs y,x=.ref l/\vs=[y]/\H l=some (.lst xs)/\xs.length < sizeLine/\Q .non (upd H l (.lst (xs++[y])))
theorem zb:MtM X "list.append" rAppend:=by
 intro pins s σ H x vs v us Q I rx rv h
 obtain ⟨l,xs,y,rfl,rfl,hH,hz,q⟩:=h
 cases rx
 obtain ⟨u,rfl,ru⟩:=rv.one
 obtain ⟨z,its,n,r,hl,e⟩:=I.lstM hH
 refine call_meets F.slot_list_append ⟨_,e,rfl⟩ F.entry_list_append (F.args_list_append_2 _ _) (PySem.list_append l its.toArray n u (by rw [List.size_toArray];omega)) ⟨e,?_⟩
 refine ⟨.non,_,I.lset (its':=its++[u]) hH e (by simp) (r.append (.cons ru .nil)) ?_,rfl,q⟩
 rw [List.length_append,List.length_singleton]
 omega
def rPopAt:V->List V->Hp->VK->Prop:=fun x vs H Q=>∃ l xs i k y,x=.ref l/\vs=[.int i]/\H l=some (.lst xs)/\-(2 ^ 63)<=i/\i < 2 ^ 63/\seqIndex? i xs.length=some k/\xs[k]? = some y/\Q y (upd H l (.lst (xs.eraseIdx k)))
theorem qdw:MtM X "list.pop" rPopAt:=by
 intro pins s σ H x vs v us Q I rx rv h
 obtain ⟨l,xs,i,k,y,rfl,rfl,hH,h1,h2,hk,hy,q⟩:=h
 cases rx
 obtain ⟨u,rfl,ru⟩:=rv.one
 obtain ⟨t,rfl⟩:=ru
 obtain ⟨z,its,n,r,hl,e⟩:=I.lstM hH
 obtain ⟨w,hw,rw'⟩:=r.get hy
 refine call_meets F.slot_list_pop ⟨_,e,rfl⟩ F.entry_list_pop (F.args_list_pop_2 _ _)
  (MeetsSeq.list_pop_at l its.toArray n i t k w (fitsIndex_both h1 h2) (by rw [List.size_toArray,<- hl];exact hk) (by rw [<- Array.getElem?_toList];exact hw) (by rw [List.size_toArray];omega)) ⟨e,?_⟩
 refine ⟨y,_,I.lset (its':=its.eraseIdx k) hH e ?_ (r.eraseIdx k) ?_,rw',q⟩
 ·show its.toArray.eraseIdxIfInBounds k=(its.eraseIdx k).toArray
  rw [List.eraseIdxIfInBounds_toArray]
 ·have:=V8 xs k
  omega
def rRep:R2:=fun x y H Q=>∃ l k xs,x=.ref l/\y=.int k/\H l=some (.lst xs)/\-(2 ^ 63)<=k/\k < 2 ^ 63/\xs.length * k.toNat<=sizeLine /\
 ∀ p,H p=none->Q (.ref p) (upd H p (.lst (List.replicate k.toNat xs).flatten))
theorem qb3 {α:Type} (xs:List α) (k:Nat):(List.replicate k xs).flatten.length=k * xs.length:=by
 induction k with
 | zero=>simp
 | succ k ih=>rw [List.replicate_succ,List.flatten_cons,List.length_append,ih,Nat.succ_mul,Nat.add_comm]
theorem qhu:OpR X (binaryOp .Mult) rRep:=by
 intro pins s σ H x y v u Q I rx ry h
 obtain ⟨l,k,xs,rfl,rfl,hH,h1,h2,hz,q⟩:=h
 cases rx
 obtain ⟨t,rfl⟩:=ry
 obtain ⟨z,its,n,r,hl,e⟩:=I.lstM hH
 have hlen:its.toArray.size * k.toNat<=sizeLine:=by rw [List.size_toArray,<- hl];exact hz
 have hcap:¬ its.toArray.size * k.toNat > (2 ^ 63 - 1) / 8:=by
  have:(sizeLine:Nat)<=(2 ^ 63 - 1) / 8:=by decide
  omega
 have hfit:¬ (!Builtin.List.listFitsIndex k)=true:=by
  rw [fitsIndex_both h1 h2]
  exact Bool.false_ne_true
 have hlong:¬ Builtin.List.listTooLong (its.toArray.size * k.toNat)=true:=by
  rw [notLongL hlen]
  exact Bool.false_ne_true
 have hnew:List.foldl (fun x1 x2=>x1++x2) #[] (List.replicate (if its.toArray.isEmpty=true then 0 else k.toNat) its.toArray)=(List.replicate k.toNat its).flatten.toArray:=by
  have f0:∀ m:Nat,List.foldl (fun x1 x2=>x1++x2) #[] (List.replicate m its.toArray)=(List.replicate m its).flatten.toArray:=fun m=>by
   have:=V9 its m []
   rw [List.nil_append] at this
   exact this
  rw [f0]
  cases its with
  | nil=>simp
  | cons a r'=>rw [if_neg (by simp)]
 refine wpAny_binaryOp_repeat_ref (T:="list") (U:="int") (by decide) ⟨_,e,rfl⟩ (fun s'=>typeIs_int s' k t) noFill_list_mul F.fills_int_mul F.slot_int_rmul repeat_list F.slot_int_index.lookup
  (call_meets F.slot_int_rmul (typeIs_int s k t) F.entry_int_rmul (F.args_int_rmul_2 _ _) (int___rmul___int_list k t l its.toArray n)
   ⟨e,rfl,⟨_,e,rfl⟩,call_meets F.slot_list_mul ⟨_,e,rfl⟩ F.entry_list_mul (F.args_list_mul_2 _ _) (AutoListH.list___mul___list_int_3 l its.toArray n k t hfit hcap hlong) ⟨e,?_⟩⟩)
 rw [hnew]
 exact ⟨.ref _,_,I.lnew (t':=s.toks) (r.rep k.toNat) (by rw [qb3,Nat.mul_comm];exact hz),rfl,q _ I.fresh⟩
end
section
variable {prog:Program} {w:World} {A:Around} {E:Value->Shared->Prop} {s:Shared}
set_option maxRecDepth 100000 in
end
section
variable {X:Cx}
end
end L2
namespace L2
open PySem PySem.Spec PyProof.Rows
section
variable {κ:Type} [DecidableEq κ]
def valV (kvs:List (κ × V)) (k:κ):Option V:=(kvs.find? fun kv=>decide (kv.1=k)).map (·.2)
def putK (kvs:List (κ × V)) (k:κ) (v:V):List (κ × V) :=
 if (kvs.any fun kv=>decide (kv.1=k))=true then kvs.map (fun kv=>if kv.1=k then (kv.1,v) else kv) else kvs++[(k,v)]
def dropK (kvs:List (κ × V)) (k:κ):List (κ × V):=kvs.filter fun kv=>decide (kv.1≠k)
theorem J8 {p:κ × V} {r:List (κ × V)} {k:κ} (e:p.1=k):valV (p :: r) k=some p.2:=by simp [valV,List.find?_cons,e]
theorem J9 {p:κ × V} {r:List (κ × V)} {k:κ} (e:¬ p.1=k):valV (p :: r) k=valV r k:=by simp [valV,List.find?_cons,e]
theorem Va (k:κ):∀ kvs:List (κ × V),(kvs.any fun kv=>decide (kv.1=k))=(valV kvs k).isSome
 | []=>rfl
 | p :: r=>by
  rw [List.any_cons]
  by_cases e:p.1=k
  ·simp only [J8 e,decide_eq_true e,Bool.true_or,Option.isSome_some]
  ·rw [J9 e,decide_eq_false e,Bool.false_or];exact Va k r
theorem vt (kvs:List (κ × V)) (k:κ) (v:V):(putK kvs k v).length<=kvs.length+1:=by
 unfold putK
 split
 ·rw [List.length_map];omega
 ·rw [List.length_append,List.length_cons,List.length_nil];omega
theorem qdx {kvs:List (κ × V)} {k:κ} (v:V) (h:valV kvs k=none):putK kvs k v=kvs++[(k,v)]:=by
 unfold putK
 rw [Va,h]
 exact if_neg (by decide)
theorem RelO.isSome_eq {o:Option V} {u:Option Value} (r:RelO o u):o.isSome=u.isSome:=by
 cases o with
 | none=>cases u with
  | none=>rfl
  | some _=>exact (show False from r).elim
 | some _=>cases u with
  | none=>exact (show False from r).elim
  | some _=>rfl
theorem RelO.getD {o:Option V} {u:Option Value} {d:V} {d':Value} (r:RelO o u) (rd:RelV d d'):RelV (o.getD d) (u.getD d'):=by
 cases o with
 | none=>cases u with
  | none=>exact rd
  | some _=>exact (show False from r).elim
 | some _=>cases u with
  | none=>exact (show False from r).elim
  | some _=>exact r
theorem KV.val {kvs:List (κ × V)} {vs:List (κ × Value)} (r:KV kvs vs) (k:κ):RelO (valV kvs k) (valueAt vs k):=by
 unfold KV at r
 induction r with
 | nil=>exact True.intro
 | @cons p q ps qs h t ih =>
  obtain ⟨h1,h2⟩:=h
  by_cases e:p.1=k
  ·have e':q.1=k:=h1.symm.trans e
   have b:valueAt (q :: qs) k=some q.2:=by simp [valueAt,List.find?_cons,e']
   rw [J8 e,b];exact h2
  ·have e':¬ q.1=k:=fun z=>e (h1.trans z)
   have b:valueAt (q :: qs) k=valueAt qs k:=by simp [valueAt,List.find?_cons,e']
   rw [J9 e,b];exact ih
theorem KV.any {kvs:List (κ × V)} {vs:List (κ × Value)} (r:KV kvs vs) (k:κ):(kvs.any fun kv=>decide (kv.1=k))=vs.any fun kv=>decide (kv.1=k):=by
 unfold KV at r
 induction r with
 | nil=>rfl
 | cons h t ih=>rw [List.any_cons,List.any_cons,ih,h.1]
theorem KV.repl {kvs:List (κ × V)} {vs:List (κ × Value)} (r:KV kvs vs) (k:κ) {y:V} {u:Value} (ry:RelV y u) :
  KV (kvs.map fun kv=>if kv.1=k then (kv.1,y) else kv) (vs.map fun kv=>if kv.1=k then (kv.1,u) else kv):=by
 unfold KV at r ⊢
 induction r with
 | nil=>exact .nil
 | @cons p q ps qs h t ih =>
  rw [List.map_cons,List.map_cons]
  refine .cons ?_ ih
  obtain ⟨h1,h2⟩:=h
  by_cases e:p.1=k
  ·rw [if_pos e,if_pos (h1.symm.trans e)];exact ⟨h1,ry⟩
  ·rw [if_neg e,if_neg (fun z=>e (h1.trans z))];exact ⟨h1,h2⟩
theorem KV.put {kvs:List (κ × V)} {vs:List (κ × Value)} (r:KV kvs vs) (k:κ) {y:V} {u:Value} (ry:RelV y u):KV (putK kvs k y) (stored vs k u):=by
 unfold putK stored
 rw [r.any k]
 by_cases e:(vs.any fun kv=>decide (kv.1=k))=true
 ·rw [if_pos e,if_pos e];exact r.repl k ry
 ·rw [if_neg e,if_neg e];exact Paired.snoc r ⟨rfl,ry⟩
theorem KV.drop {kvs:List (κ × V)} {vs:List (κ × Value)} (r:KV kvs vs) (k:κ):KV (dropK kvs k) (without vs k):=by
 unfold KV at r ⊢
 unfold dropK without
 induction r with
 | nil=>exact .nil
 | @cons p q ps qs h t ih =>
  obtain ⟨h1,h2⟩:=h
  rw [List.filter_cons,List.filter_cons]
  by_cases e:p.1=k
  ·have a:¬ decide (p.1≠k)=true:=by simp [e]
   have b:¬ decide (q.1≠k)=true:=by simp [h1.symm.trans e]
   rw [if_neg a,if_neg b];exact ih
  ·have e':¬ q.1=k:=fun z=>e (h1.trans z)
   have a:decide (p.1≠k)=true:=by simp [e]
   have b:decide (q.1≠k)=true:=by simp [e']
   rw [if_pos a,if_pos b];exact .cons ⟨h1,h2⟩ ih
theorem KV.keys {kvs:List (κ × V)} {vs:List (κ × Value)} (r:KV kvs vs):kvs.map (·.1)=vs.map (·.1):=by
 unfold KV at r
 induction r with
 | nil=>rfl
 | cons h t ih=>rw [List.map_cons,List.map_cons,ih,h.1]
theorem KV.length {kvs:List (κ × V)} {vs:List (κ × Value)} (r:KV kvs vs):kvs.length=vs.length:=Paired.length r
end
theorem Z7 {P:Program} {w:World} {k:Key} {u:Value} (r:RelV (kV k) u):(mixKind P w).is k u=true:=by
 cases k with
 | inl i=>obtain ⟨t,e⟩:=(show ∃ t,u=Value.int i t from r);subst e;exact Z2 P w i t
 | inr x=>obtain ⟨t,e⟩:=(show ∃ t,u=Value.str x t from r);subst e;exact Z3 P w x t
theorem Za {P:Program} {w:World}:∀ {ks:List Key} {us:List Value},Vals (ks.map kV) us->ItemsAre (mixKind P w) ks us
 | [],_,r=>by rw [List.map_nil] at r;cases r;exact .nil
 | k :: ks,_,r=>by
  rw [List.map_cons] at r
  cases r with
  | cons h t=>exact .cons (Z7 h) (Za t)
abbrev KT (H:Hp):List (List Key × V)->List (List Key × Addr × Value)->Prop:=Paired fun p q=>p.1=q.1/\H q.2.1=some (.tup (p.1.map kV))/\RelV p.2 q.2.2
theorem KT.val {H:Hp} {kvs:List (List Key × V)} {xs:List (List Key × Addr × Value)} (r:KT H kvs xs) (k:List Key):RelO (valV kvs k) ((atKey xs k).map (·.2)):=by
 induction r with
 | nil=>exact True.intro
 | @cons p q ps qs h t ih =>
  obtain ⟨h1,_,h2⟩:=h
  by_cases e:p.1=k
  ·have e':q.1=k:=h1.symm.trans e
   have b:atKey (q :: qs) k=some q.2:=by simp [atKey,List.find?_cons,e']
   rw [J8 e,b];exact h2
  ·have e':¬ q.1=k:=fun z=>e (h1.trans z)
   have b:atKey (q :: qs) k=atKey qs k:=by simp [atKey,List.find?_cons,e']
   rw [J9 e,b];exact ih
theorem KT.repl {H:Hp} {kvs:List (List Key × V)} {xs:List (List Key × Addr × Value)} (r:KT H kvs xs) (k:List Key) {y:V} {u:Value} (ry:RelV y u) :
  KT H (kvs.map fun kv=>if kv.1=k then (kv.1,y) else kv) (xs.map (putAt k u)):=by
 induction r with
 | nil=>exact .nil
 | @cons p q ps qs h t ih =>
  rw [List.map_cons,List.map_cons]
  refine .cons ?_ ih
  obtain ⟨h1,h2,h3⟩:=h
  unfold putAt
  by_cases e:p.1=k
  ·rw [if_pos e,if_pos (h1.symm.trans e)];exact ⟨h1,h2,ry⟩
  ·rw [if_neg e,if_neg (fun z=>e (h1.trans z))];exact ⟨h1,h2,h3⟩
theorem KT.put {H:Hp} {kvs:List (List Key × V)} {xs:List (List Key × Addr × Value)} (r:KT H kvs xs) (k:List Key) {b:Addr} {y:V} {u:Value} (hb:H b=some (.tup (k.map kV))) (ry:RelV y u) :
  KT H (putK kvs k y) (storedH xs k b u):=by
 have e:(kvs.any fun kv=>decide (kv.1=k))=(atKey xs k).isSome:=by
  rw [Va,(r.val k).isSome_eq,Option.isSome_map]
 unfold putK storedH
 rw [e]
 by_cases q:(atKey xs k).isSome=true
 ·rw [if_pos q,if_pos q];exact r.repl k ry
 ·rw [if_neg q,if_neg q];exact Paired.snoc r ⟨rfl,hb,ry⟩
theorem KT.keeps {H H':Hp} {kvs:List (List Key × V)} {xs:List (List Key × Addr × Value)} (r:KT H kvs xs) (ht:∀ b ys,H b=some (.tup ys)->H' b=some (.tup ys)):KT H' kvs xs :=
 Paired.mapP r fun _ _ z=>⟨z.1,ht _ _ z.2.1,z.2.2⟩
section
variable {P:Program} {w:World} {H:Hp} {h:Heap} {a:Addr}
theorem qhv {u:HO} (ok:HOk P w H h) (e:Rd H a u):ObjOk P w H h a u:=e.ok ok
theorem qf0 {kvs:List (Key × V)} (ok:HOk P w H h) (e:Rd H a (.dK kvs)):kvs.length<=sizeLine/\(a == sysModules)=false/\∃ vs,KV kvs vs/\h.DictOf (mixKind P w) a vs :=
 show ObjOk P w H h a (.dK kvs) from qhv ok e
theorem qdy {kvs:List (Key × V)} (ok:HOk P w H h) (e:H a=some (.dK kvs)):kvs.length<=sizeLine/\(a == sysModules)=false/\∃ vs,KV kvs vs/\h.DictOf (mixKind P w) a vs:=qf0 ok (.inl e)
theorem key_of {ks:List Key} (ok:HOk P w H h) (e:H a=some (.tup (ks.map kV))):(tupleKind (mixKind P w)).is h ks a:=by
 obtain ⟨_,its,r,⟨o,h1,h2,n,h3⟩,_⟩:=(show ObjOk P w H h a (.tup (ks.map kV)) from ok a _ e)
 exact ⟨o,its.toArray,n,h1,h2,h3,by simpa using Za r⟩
theorem qf1 {kvs:List (List Key × V)} (ok:HOk P w H h) (e:Rd H a (.dT kvs)):kvs.length<=sizeLine/\(a == sysModules)=false /\
  ∃ xs,KT H kvs xs/\h.DictOfH (tupleKind (mixKind P w)) a xs:=by
 obtain ⟨z,y,xs,r,o,es,ep,h1,h2,h3,h4,h5⟩:=(show ObjOk P w H h a (.dT kvs) from qhv ok e)
 refine ⟨z,y,xs,r,o,es,ep,h1,h2,h3,h4,fun x hx=>?_,h5⟩
 have all:∀ {l:List (List Key × V)} {m:List (List Key × Addr × Value)},KT H l m->∀ x∈m,(tupleKind (mixKind P w)).is h x.1 x.2.1:=by
  intro l m q
  induction q with
  | nil=>intro x hx;exact nomatch hx
  | @cons p q ps qs hq t ih =>
   intro x hx
   rcases List.mem_cons.mp hx with e | hx
   ·subst e
    exact key_of ok (by rw [<- hq.1];exact hq.2.1)
   ·exact ih x hx
 exact all r x hx
theorem dt_of {kvs:List (List Key × V)} (ok:HOk P w H h) (e:H a=some (.dT kvs)):kvs.length<=sizeLine/\(a == sysModules)=false /\
  ∃ xs,KT H kvs xs/\h.DictOfH (tupleKind (mixKind P w)) a xs:=qf1 ok (.inl e)
end
def DGet (H:Hp) (a:Addr) (y:V) (r:Option V):Prop :=
 (∃ kvs k,Rd H a (.dK kvs)/\y=kV k/\r=valV kvs k)\/∃ kvs k b,Rd H a (.dT kvs)/\y=.ref b/\H b=some (.tup (k.map kV))/\r=valV kvs k
def DPut (H:Hp) (a:Addr) (y v:V) (H':Hp):Prop :=
 (∃ kvs k,H a=some (.dK kvs)/\y=kV k/\kvs.length < sizeLine/\H'=upd H a (.dK (putK kvs k v))) \/
 ∃ kvs k b,H a=some (.dT kvs)/\y=.ref b/\H b=some (.tup (k.map kV))/\kvs.length < sizeLine/\H'=upd H a (.dT (putK kvs k v))
theorem DGet.k {H:Hp} {a:Addr} {kvs:List (Key × V)} {k:Key} (e:H a=some (.dK kvs)):DGet H a (kV k) (valV kvs k):=.inl ⟨kvs,k,.inl e,rfl,rfl⟩
theorem DGet.t {H:Hp} {a b:Addr} {kvs:List (List Key × V)} {k:List Key} (e:H a=some (.dT kvs)) (eb:H b=some (.tup (k.map kV))):DGet H a (.ref b) (valV kvs k):=.inr ⟨kvs,k,b,.inl e,rfl,eb,rfl⟩
theorem DPut.k {H:Hp} {a:Addr} {kvs:List (Key × V)} {k:Key} {v:V} (e:H a=some (.dK kvs)) (hl:kvs.length < sizeLine):DPut H a (kV k) v (upd H a (.dK (putK kvs k v))):=.inl ⟨kvs,k,e,rfl,hl,rfl⟩
theorem DPut.t {H:Hp} {a b:Addr} {kvs:List (List Key × V)} {k:List Key} {v:V} (e:H a=some (.dT kvs)) (eb:H b=some (.tup (k.map kV))) (hl:kvs.length < sizeLine) :
  DPut H a (.ref b) v (upd H a (.dT (putK kvs k v))):=.inr ⟨kvs,k,b,e,rfl,eb,hl,rfl⟩
section
variable {X:Cx} {pins:List (Addr × Obj)} {σ:St} {H:Hp} {s:Shared} {a:Addr} {y v:V} {u r:Value} {o:Option V} {A:Around} {E:Value->Shared->Prop}
theorem Inv.big (I:Inv X pins σ H s):sysModules < s.heap.objs.size:=by
 have h:mainGlobals < s.heap.objs.size:=(I.mod.glob.keeps I.bk).lt
 exact Nat.lt_trans (by decide) h
theorem qb4 {Q:Value->Shared->Prop} (hu:A.units+1 < cLine) (I:Inv X pins σ H s) (g:DGet H a y (some v)) (ry:RelV y u) (h:∀ w' s',Inv X pins σ H s'->RelV v w'->Q w' s') :
  wpAny (model X.prog X.w) A (getItem (.ref a) u) Q E s:=by
 rcases g with ⟨kvs,k,e,ey,l⟩ | ⟨kvs,k,b,e,ey,eb,l⟩
 ·subst ey
  obtain ⟨z,hd,vs,rel,dd⟩:=qf0 I.hok e
  obtain ⟨w',hw,rw'⟩:=RelO.some_of (v:=v) (o:=valueAt vs k) (by rw [l];exact rel.val k)
  exact wpAny_getItem_of (Z7 ry) dd.mapOf hw (h w' _ (I.tok _) rw')
 ·subst ey
  cases (show u=Value.ref b from ry)
  obtain ⟨z,hd,xs,rel,dd⟩:=qf1 I.hok e
  obtain ⟨w',hw,rw'⟩:=RelO.some_of (v:=v) (o:=(atKey xs k).map (·.2)) (by rw [l];exact rel.val k)
  obtain ⟨p,hp,hp2⟩:=Option.map_eq_some_iff.mp hw
  refine wpAny_getItem_heap (tupleKind_room_in1 hu) (key_of I.hok eb) dd hp ?_
  rw [hp2]
  exact h w' _ (I.tok _) rw'
theorem Z8 {h':Heap} {t':Nat} {ob:HO} (I:Inv X pins σ H s) (mu:Mut (H a)) (hs:Heap.SameBut a s.heap h') (he:∃ q,h'.get? a=some q) (new:ObjOk X.prog X.w (upd H a ob) h' a ob) :
  Inv X pins σ (upd H a ob) { s with heap:=h',toks:=t' } :=
 I.write (x:=a) (e:=a) mu (.inl rfl) (fun b q hb z=>(hs.2 b hb).trans z) he new
theorem qfh {P:Program} {w:World} {H':Hp} {h':Heap} {kvs:List (Key × V)} {vs:List (Key × Value)} (z:kvs.length<=sizeLine) (hd:(a == sysModules)=false) (rel:KV kvs vs) (dd:h'.DictOf (mixKind P w) a vs) :
  ObjOk P w H' h' a (.dK kvs):=⟨z,hd,vs,rel,dd⟩
theorem qb5 {H':Hp} {Q:Unit->Shared->Prop} (hu:A.units+1 < cLine) (I:Inv X pins σ H s) (g:DPut H a y v H') (ry:RelV y u) (rv:RelV v r) (h:∀ s',Inv X pins σ H' s'->Q () s') :
  wpAny (model X.prog X.w) A (setItem (.ref a) u r) Q E s:=by
 rcases g with ⟨kvs,k,e,ey,l,eH⟩ | ⟨kvs,k,b,e,ey,eb,l,eH⟩
 ·subst ey eH
  obtain ⟨z,hd,vs,rel,dd⟩:=qdy I.hok e
  have hz:vs.length<=sizeLine:=by rw [<- rel.length];exact z
  have hl:(putK kvs k v).length<=sizeLine:=by have:=vt kvs k v;omega
  refine wpAny_setItem_pairs (hsz:=hz) (Z7 ry) dd fun h' dd' hs=>h _ ?_
  have he:∃ q,h'.get? a=some q:=let ⟨q,_,_,hq,_⟩:=dd';⟨q,hq⟩
  exact Z8 I (by rw [e];exact True.intro) hs he (qfh hl hd (rel.put k rv) dd')
 ·subst ey eH
  cases (show u=Value.ref b from ry)
  obtain ⟨z,hd,xs,rel,dd⟩:=dt_of I.hok e
  have hz:xs.length<=sizeLine:=by rw [<- Paired.length rel];exact z
  have hl:(putK kvs k v).length<=sizeLine:=by have:=vt kvs k v;omega
  refine wpAny_setItem_heap (hsz:=hz) (tupleKind_room_in1 hu) (key_of I.hok eb) dd fun h' dd' hs=>h _ ?_
  obtain ⟨q,es,ep,hq,h2,h3,h4,_,h5⟩:=dd'
  refine Z8 I (by rw [e];exact True.intro) hs ⟨q,hq⟩ ⟨hl,hd,_,(rel.put k eb rv).keeps fun c ys ec=>?_,q,es,ep,hq,h2,h3,h4,h5⟩
  rw [qg (ne_of ec e (fun z=>nomatch z))]
  exact ec
end
section
variable {X:Cx} {pins:List (Addr × Obj)} {σ:St} {H:Hp} {s:Shared} {a:Addr} {kvs:List (Key × V)} {k:Key} {u:Value} {A:Around} {E:Value->Shared->Prop}
end
def NoSl (i:Expr):Prop:=∀ ov iv,subscripted i false ov iv=operate [ov,iv] (getItem ov iv)
theorem subD_of {prog:Program} {w:World} {A:Around} {E:Value->Shared->Prop} {s:Shared} {env:Env} {value slice:Expr} {pos:Pos} {T id:String} {Q:Value->Shared->Prop}
  (hl:typeLookup (.type T) "__getitem__" = pure (some (.builtin id))) (hs:NoSl slice)
  (h:wpAny (model prog w) A (eval value env) (fun o s₁=>wpAny (model prog w) A (eval slice env) (fun i s₂=>s₂.TypeIs o T/\wpAny (model prog w) A (getItem o i) Q E s₂) E s₁) E s) :
  wpAny (model prog w) A (eval (.Subscript value slice pos) env) Q E s:=by
 refine Subscript_ (wpAny_mono h (fun o s₁ h₁=>wpAny_mono h₁ (fun i s₂ h₂=>?_) fun _ _ x=>x) fun _ _ x=>x)
 obtain ⟨hT,h₂⟩:=h₂
 unfold subscriptTail
 refine wpAny_bind ?_
 rw [getitemInPython_of_ne hT.not_modules]
 refine wpAny_bind (wpAny_specialOf hT hl ?_)
 have fin:wpAny (model prog w) A (subscripted slice false o i) (fun r s₃=>wpAny (model prog w) A (letTemporaryGo value o r >>= fun _=>pure r) Q E s₃) E s₂:=by
  rw [hs o i]
  exact wpAny_operating (wpAny_mono h₂ (fun r s₃ h₃=>wpAny_bind (wpAny_letTemporaryGo (wpAny_pure h₃))) fun _ _ x=>x)
 first
  | exact wpAny_pure (wpAny_bind fin)
  | exact wpAny_bind (wpAny_pure (wpAny_bind fin))
  | exact wpAny_bind fin
theorem Z9 {X:Cx} {pins:List (Addr × Obj)} {σ:St} {H:Hp} {s:Shared} {a:Addr} {y:V} {o:Option V} (I:Inv X pins σ H s) (g:DGet H a y o):s.TypeIs (.ref a) "dict":=by
 rcases g with ⟨kvs,k,e,_,_⟩ | ⟨kvs,k,b,e,_,_,_⟩
 ·obtain ⟨_,_,vs,_,dd⟩:=qf0 I.hok e
  exact dd.typeIs
 ·obtain ⟨_,_,xs,_,dd⟩:=qf1 I.hok e
  exact dd.typeIs
def tDGet (td ty:TE):TE:=fun σ H Q=>td σ H fun x H1=>ty σ H1 fun y H2=>∃ a v,x=.ref a/\DGet H2 a y (some v)/\Q v H2
def sDPut (td ty tv:TE):TS:=fun D σ H=>tv σ H fun v H1=>td σ H1 fun x H2=>ty σ H2 fun y H3=>∃ a H4,x=.ref a/\DPut H3 a y v H4/\D.nx σ H4
section
variable {X:Cx} {o i e value:Expr} {pos pos' tpos:Pos} {td ty tv:TE}
theorem j6 (hu:X.A.units+1 < cLine) (ho:PE X o td) (hi:PE X i ty) (hs:NoSl i):PE X (.Subscript o i pos) (tDGet td ty):=by
 intro pins s σ H Q I h
 refine subD_of PySem.F.slot_dict_getitem.lookup hs (thn (ho pins s σ H _ I h) fun u s1 ⟨x,H1,I1,rx,q1⟩=>thn (hi pins s1 σ H1 _ I1 q1) fun iv s2 ⟨y,H2,I2,ry,a,v,ex,g,q2⟩=>?_)
 subst ex
 obtain rfl:u=Value.ref a:=rx
 exact ⟨Z9 I2 g,qb4 hu I2 g ry fun w' s3 I3 rw'=>⟨v,H2,I3,rw',q2⟩⟩
theorem qf2 (hu:X.A.units+1 < cLine) (ho:PE X o td) (hi:PE X i ty) (hv:PE X value tv) (hs:swapsWith value (some (.Subscript o i pos')) pos.line X.env=pure false) :
  PS X (.Assign [.Subscript o i pos'] value pos) (sDPut td ty tv):=by
 intro pins s σ H D I h
 refine wpAny_Assign_Subscript (thn (hv pins s σ H _ I h) fun r s1 ⟨v,H1,I1,rv,q1⟩=>thn (ho pins s1 σ H1 _ I1 q1) fun u s2 ⟨x,H2,I2,rx,q2⟩=>thn (hi pins s2 σ H2 _ I2 q2) fun iv s3 ⟨y,H3,I3,ry,a,H4,ex,g,q3⟩=>?_) hs
 subst ex
 obtain rfl:u=Value.ref a:=rx
 exact qb5 hu I3 g ry rv fun s4 I4=>⟨σ,H4,I4,q3⟩
end
theorem Yw {P:Program} {w:World} {H:Hp} (h:Heap) (hb:sysModules < h.objs.size):ObjOk P w H (h.push { cls:=.type "dict",data:=.dict #[] }) h.objs.size (.dK []) :=
 ⟨Nat.zero_le _,beq_eq_false_iff_ne.mpr (Ne.symm (Nat.ne_of_lt hb)),[],.nil,Heap.DictOf.new h⟩
def tDNewK:TE:=fun _ H Q=>∀ p,H p=none->Q (.ref p) (upd H p (.dK []))
section
variable {X:Cx} {pos:Pos}
theorem qdz:PE X (.Dict [] [] pos) tDNewK:=fun pins s σ H Q I h =>
 wpAny_Dict_empty ⟨.ref s.heap.objs.size,_,I.laid (a:=s.heap.objs.size) (o:=.dK []) (t':=s.toks) (fun _ _ q=>Heap.get?_push_of_some _ q) (Nat.le_refl _) (Yw s.heap I.big),rfl,h _ (I.hok.fresh (Nat.le_refl _))⟩
end
def tPairs:List (TE × TE)->St->Hp->(List (V × V)->Hp->Prop)->Prop
 | [],_,H,Q=>Q [] H
 | (tk,tv) :: r,σ,H,Q=>tk σ H fun x H1=>tv σ H1 fun y H2=>tPairs r σ H2 fun ps H3=>Q ((x,y) :: ps) H3
abbrev VV:List (V × V)->List (Value × Value)->Prop:=Paired fun p q=>RelV p.1 q.1/\RelV p.2 q.2
def PPs (X:Cx) (pos:Pos) (keys:List (Option Expr)) (values:List Expr) (trs:List (TE × TE)):Prop :=
 ∀ (pins:List (Addr × Obj)) (s:Shared) (σ:St) (H:Hp) (Q:List (V × V)->Hp->Prop),Inv X pins σ H s->tPairs trs σ H Q ->
  wpAny (model X.prog X.w) X.A (evalPairs (pairTrees keys values X.env pos)) (fun vs s'=>∃ ps H',Inv X pins σ H' s'/\VV ps vs/\Q ps H') X.xe s
theorem pps_nil {X:Cx} {pos:Pos}:PPs X pos [] [] []:=fun pins s σ H Q I h=>pairTrees_nil_walk ⟨[],H,I,.nil,h⟩
theorem jp {X:Cx} {pos:Pos} {k v:Expr} {ks:List (Option Expr)} {vs:List Expr} {tk tv:TE} {trs:List (TE × TE)} (hk:PE X k tk) (hv:PE X v tv) (hr:PPs X pos ks vs trs) :
  PPs X pos (some k :: ks) (v :: vs) ((tk,tv) :: trs):=fun pins s σ H Q I h =>
 pairTrees_cons_walk (thn (hk pins s σ H _ I h) fun u s1 ⟨x,H1,I1,rx,q1⟩=>thn (hv pins s1 σ H1 _ I1 q1) fun w2 s2 ⟨y,H2,I2,ry,q2⟩ =>
  thn (hr pins s2 σ H2 _ I2 q2) fun ws s3 ⟨ps,H3,I3,rel,q3⟩=>⟨(x,y) :: ps,H3,I3,.cons ⟨rx,ry⟩ rel,q3⟩)
def mergeK (kvs more:List (Key × V)):List (Key × V):=more.foldl (fun acc kv=>putK acc kv.1 kv.2) kvs
theorem KV.merge:∀ {more:List (Key × V)} {rs:List (Key × Value)} {kvs:List (Key × V)} {vs:List (Key × Value)},KV more rs->KV kvs vs->KV (mergeK kvs more) (merged vs rs):=by
 intro more rs kvs vs r
 unfold KV at r
 induction r generalizing kvs vs with
 | nil=>intro q;exact q
 | @cons p q ps qs h t ih =>
  intro r0
  have e:KV (putK kvs p.1 p.2) (stored vs q.1 q.2):=by
   have:=r0.put p.1 h.2
   rw [<- h.1];exact this
  exact ih e
theorem zc:∀ (more kvs:List (Key × V)),(mergeK kvs more).length<=kvs.length+more.length
 | [],kvs=>by show kvs.length<=kvs.length+0;omega
 | p :: r,kvs=>by
  have h1:=zc r (putK kvs p.1 p.2)
  have h2:=vt kvs p.1 p.2
  show (mergeK (putK kvs p.1 p.2) r).length<=_
  rw [List.length_cons];omega
theorem Jr {P:Program} {w:World}:∀ {kvs:List (Key × V)} {ws:List (Value × Value)},VV (kvs.map fun kv=>(kV kv.1,kv.2)) ws->∃ rs,Carries (mixKind P w) ws rs/\KV kvs rs
 | [],_,r=>by rw [List.map_nil] at r;cases r;exact ⟨[],True.intro,.nil⟩
 | p :: kvs,_,r=>by
  rw [List.map_cons] at r
  cases r with
  | @cons a b as bs h t =>
   obtain ⟨rs,c,q⟩:=Jr (P:=P) (w:=w) t
   obtain ⟨b1,b2⟩:=b
   exact ⟨(p.1,b2) :: rs,⟨Z7 h.1,rfl,c⟩,.cons ⟨rfl,h.2⟩ q⟩
def tDisp (trs:List (TE × TE)):TE:=fun σ H Q=>∀ p,H p=none->tPairs trs σ (upd H p (.dK [])) fun ps H2=>H2 p=some (.dK [])/\∃ kvs:List (Key × V),ps=kvs.map (fun kv=>(kV kv.1,kv.2))/\kvs.length<=15/\Q (.ref p) (upd H2 p (.dK (mergeK [] kvs)))
theorem qb6 {X:Cx} {pos:Pos} {keys:List (Option Expr)} {values:List Expr} {trs:List (TE × TE)} (h:PPs X pos keys values trs) (hall:keys.all (·.isSome)=true) (hl:keys.length=values.length) (h0:keys≠[])
  (h15:keys.length<=15):PE X (.Dict keys values pos) (tDisp trs):=by
 intro pins s σ H Q I q
 have hn:=I.hok.fresh (Nat.le_refl s.heap.objs.size)
 have I1:=I.laid (a:=s.heap.objs.size) (o:=.dK []) (h':=s.heap.push { cls:=.type "dict",data:=.dict #[] }) (t':=s.toks) (fun _ _ q=>Heap.get?_push_of_some _ q) (Nat.le_refl _) (Yw s.heap I.big)
 refine wpAny_Dict_walk (knd:=mixKind X.prog X.w) hall hl h0 h15 (thn (h pins _ σ _ _ I1 (q _ hn)) fun ws s2 ⟨ps,H2,I2,rel,e,kvs,ep,lk,q2⟩=>?_)
 subst ep
 obtain ⟨rs,c,rk⟩:=Jr (P:=X.prog) (w:=X.w) rel
 obtain ⟨z,hd,vs0,r0,dd⟩:=qdy I2.hok e
 cases r0
 refine ⟨rs,c,dd,fun h' dd' hs=>⟨.ref s.heap.objs.size,_,?_,rfl,q2⟩⟩
 have hz:(mergeK [] kvs).length<=sizeLine:=by
  have h1:=zc kvs []
  rw [List.length_nil] at h1
  rw [sizeLine_eq];omega
 have he:∃ q,h'.get? s.heap.objs.size=some q:=let ⟨q,_,_,hq,_⟩:=dd';⟨q,hq⟩
 exact Z8 I2 (by rw [e];exact True.intro) hs he (qfh hz hd (rk.merge .nil) dd')
structure M1 (X:Cx) (o:Expr) (m:Str) (apos:Pos) (e:Expr) (cpos:Pos):Prop where
 base:attributeBase o m X.env (eval o X.env)=eval o X.env
 few:((backTo cpos (starEach [e] X.env)).all (fun x=>!x.1) && (backToKw cpos (keywordEach [] X.env)).all (fun x=>x.1.isSome)
  && decide (([e]:List Expr).length+([]:List Keyword).length+(if ([]:List Keyword).isEmpty then 0 else 1) < 30))=true
 line:(apos.endLine == cpos.line)=true
 trees:backTo cpos (starEach [e] X.env)=[(false,eval e X.env)]
structure M2 (X:Cx) (o:Expr) (m:Str) (apos:Pos) (e f:Expr) (cpos:Pos):Prop where
 base:attributeBase o m X.env (eval o X.env)=eval o X.env
 few:((backTo cpos (starEach [e,f] X.env)).all (fun x=>!x.1) && (backToKw cpos (keywordEach [] X.env)).all (fun x=>x.1.isSome)
  && decide (([e,f]:List Expr).length+([]:List Keyword).length+(if ([]:List Keyword).isEmpty then 0 else 1) < 30))=true
 line:(apos.endLine == cpos.line)=true
 trees:backTo cpos (starEach [e,f] X.env)=[(false,eval e X.env),(false,eval f X.env)]
section
variable {X:Cx} {pins:List (Addr × Obj)} {σ:St} {H:Hp} {s:Shared} {a:Addr} {y d:V} {u r:Value} {o:Option V} {A:Around} {E:Value->Shared->Prop}
end
section
variable {X:Cx} {o e f:Expr} {apos cpos:Pos} {td ty tx:TE}
end
section
variable {X:Cx} {pins:List (Addr × Obj)} {σ:St} {H:Hp} {s:Shared} {a:Addr} {kvs:List (Key × V)} {A:Around} {E:Value->Shared->Prop}
end
section
variable {X:Cx} {pins:List (Addr × Obj)} {σ:St} {H:Hp} {s:Shared} {a:Addr} {y:V} {u:Value} {A:Around} {E:Value->Shared->Prop}
end
end L2
namespace Att
open PySem PySem.W PySem.Calls PyProof.Rows
theorem yo {P:Params} {h:Heap}:∀ (ns:List Int) (vs:List Value),WellAll P h vs (ns.map WData.int)->IntsAre vs ns:=by
 intro ns
 induction ns with
 | nil =>
  intro vs w
  rw [List.map_nil] at w
  cases w
  exact .nil
 | cons n ns ih =>
  intro vs w
  rw [List.map_cons] at w
  cases w with
  | cons a b =>
   cases a
   exact .cons _ _ (ih _ b)
theorem qb7 {l:OpenLaw} {n:Nat} (hn:l.most=some n) {P:Params} {h:Heap} {args:List WData} {vals:List Value}
  (hpre:l.row.toRowW.claim.pre args=true) (hwl:WellAll P h vals args) :
  ∃ a vs ns,vals=[Value.ref a]/\args=[WData.list (ns.map WData.int)]/\h.get? a=some { cls:=.type "list",data:=.seq vs.toArray }/\IntsAre vs ns/\ns.length<=n:=by
 have hsh:WShape.hasAll [] args [.list .int]=true:=(pre_splitW hpre).1
 have hc:l.pre.holds [] { args:=args }=true:=(pre_splitW hpre).2
 obtain ⟨d,r,rfl,h1,h2⟩:=hasAllW_cons hsh
 obtain rfl:=hasAllW_nil h2
 obtain ⟨xs,rfl,h3⟩:=hasW_list h1
 obtain ⟨ns,rfl⟩:=items_int h3
 have hlen:ns.length<=n:=by
  unfold OpenLaw.pre at hc
  have h4:(WTm.not (.lt (.lit (.int (n:Int))) (.len (.arg 0)))).holds [] { args:=[.list (ns.map .int)] }=true:=by
   have h4:=(holds_andW hc).1
   rw [hn] at h4
   exact h4
  have h5:=condW_of h4 (w_not (w_lt w_lit (w_len_list (w_arg rfl))))
  rw [List.length_map] at h5
  refine Nat.le_of_not_lt fun q=>?_
  have q':(n:Int) < ((ns.length:Nat):Int):=by omega
  first
   | (rw [decide_eq_true q'] at h5;exact absurd h5 (by decide))
   | (simp at h5;omega)
 cases hwl with
 | cons w1 w2 =>
  cases w2
  cases w1 with
  | list ho hall=>exact ⟨_,_,ns,rfl,rfl,ho,yo ns _ hall,hlen⟩
theorem qb8 (l:OpenLaw) (args:List WData):l.row.toRowW.claim.post args (.bool true) args=true :=
 postW_of (r:=l.row.toRowW) (X:=(true == true))
  (show WShape.has [] (.bool true) .bool=true by first | rfl | decide | simp [WShape.has,WShape.arms,WShape.armsAll])
  (show (WTm.eq .res (.lit (.bool true))).value [] { args:=args,res:=some (.bool true),after:=args }=some (.bool (true == true)) from w_eq_bool (w_res rfl) w_lit) rfl
theorem attach_call {l:OpenLaw} {n:Nat} {q:Program} {loose:List Str} {XP:(Str->Option Value)->Heap->Prop} {YP:World->Heap->Prop} {d:DefRec}
  (hn:l.most=some n) (hdf:d.params.defaults=[])
  (call:∀ (w:World) (s₀ s₁:Shared) (mg mb:Str->Option Value) (fa:Addr) (o:Obj) (pm cd doc:Value) (a:Addr) (vs:List Value) (ns:List Int),
   Ground q loose [] XP w s₀ mg mb s₁.heap->YP w s₁.heap ->
   s₁.heap.get? fa=some o->o.data=.func (docDef d.name d.params d.body d.scope pm cd doc)->s₁.heap.CodeRec cd d.name->mg d.name=some (.ref fa) ->
   s₁.heap.get? a=some { cls:=.type "list",data:=.seq vs.toArray }->IntsAre vs ns->ns.length<=n->s₁.gens = #[] ->
   codeAny (model l.prog w) callerA (.call (.ref fa) ⟨[.ref a],[]⟩) (fun r s'=>r=.ok (.ret (.bool true))/\OldK s₁.heap s'.heap/\s'.os=s₁.os/\AllBare s'.gens) s₁) :
  WalkO q loose XP YP l.row.toRowW d [] (fun f vs=>PySem.call f vs):=by
 intro w s₀ s₁ mg mb G Y fa o pm cd doc dV kV ho hd hcd hD hmg hg args vals as hpre hlay hrd hwl hlo
 obtain rfl:dV=.none:=Dflts.none hD hdf
 obtain rfl:kV=.none:=Dflts.noKw hD
 obtain ⟨a,vs,ns,rfl,rfl,hobj,hints,hlen⟩:=qb7 hn hpre hwl
 refine enter_call (codeAny_mono (call w s₀ s₁ mg mb fa o pm cd doc a vs ns G Y ho (fd_plain hd) hcd hmg hobj hints hlen hg) fun r s' hq=>?_)
 obtain ⟨rfl,h2,h3,h4⟩:=hq
 exact ⟨.inl ⟨.bool true,.bool true,[],rfl,fun _=>rfl,.bool true,qb8 l _,fun _=>⟨List.Pairwise.nil,fun _ hm=>(nomatch hm)⟩⟩,h2,h3,h4⟩
section
variable {prog:Program} {w:World} {A:Around} {E:Value->Shared->Prop} {s:Shared} {K:Frag}
def ledger (h:Heap) (L d:Addr):List (Addr × Obj):=(List.range h.objs.size).filterMap fun a=>if a=L\/a=d then none else (h.get? a).map fun o=>(a,o)
end
end Att
namespace L2
open PySem PySem.Spec PyProof.Rows
theorem Zb:∀ {vs:List Value} {ns:List Int},IntsAre vs ns->Vals (ns.map V.int) vs
 | _,_,.nil=>.nil
 | _,_,.cons n t h=>.cons ⟨t,rfl⟩ (Zb h)
def Only (H:Hp):Prop:=∀ b,H b=none\/∃ o xs,H b=some (.frz o (.lst xs))
theorem qd0 {P:Program} {w:World} {K:W.Frag} {mg mb:Str->Option Value} {CX:CXT} {k:Nat} {fa a:Addr} {fd:FuncData} {x:Str} {sp:Sp} {s₁:Shared} {vs:List Value} {ns:List Int}
  (KX:K.In s₁.heap) (hns:s₁.heap.Ns mainGlobals mg) (hb:s₁.heap.Ns builtinsNs mb) (hbb:∀ x:Str,x≠"__name__"->mb x=bootBuiltins x) (hlim:s₁.heap.NoLimit) (hg:s₁.gens = #[])
  (ha:s₁.heap.get? a=some { cls:=.type "list",data:=.seq vs.toArray }) (hi:IntsAre vs ns) (hl:ns.length<=sizeLine) (hr:Room k callerA)
  (F:∀ base:Heap,K.In base->base.Ns mainGlobals mg->FnOk P w K mg base CX k fa fd [x] sp) (hbind:∀ (s:Shared) (u:Value),BindsTo s fd ⟨[u],[]⟩ [(x,u)])
  (hsp:∀ H:Hp,Only H->SqL K H a (ns.map V.int)->sp [.ref a] H (fun v _=>v=.bl true) fun _ _ _=>False)
  (hCX:∀ H e s',CX [] H s₁ (fun _ _ _=>False) e s'->False) :
  codeAny (model P w) callerA (.call (.ref fa) ⟨[.ref a],[]⟩) (fun r s'=>r=.ok (.ret (.bool true))/\OldK s₁.heap s'.heap/\s'.os=s₁.os/\AllBare s'.gens) s₁:=by
 have rv:=Zb hi
 have lenV:=hi.length
 -- from an abstract heap in which nothing but the script may be tracked
 have core:∀ H:Hp,Only H->SqL K H a (ns.map V.int)->HOk P w H s₁.heap->(∀ b,H b≠none->b=a)->(H a≠none->K.lookup a=none) ->
   codeAny (model P w) callerA (.call (.ref fa) ⟨[.ref a],[]⟩) (fun r s'=>r=.ok (.ret (.bool true))/\OldK s₁.heap s'.heap/\s'.os=s₁.os/\AllBare s'.gens) s₁:=by
  intro H hO hS hok hA hK
  have base_of:∀ {b:Addr} {o:Obj},s₁.heap.get? b=some o->H b=none->(hidT s₁.heap H).get? b=some o:=fun e n=>qdr e n
  have noA:∀ {b:Addr} {o:Obj} {es:Array DictEntry} {ep:Nat},s₁.heap.get? b=some o->o.data=.dict es ep->H b=none:=fun {b o es ep} e d=>by
   cases q:H b with
   | none=>rfl
   | some u =>
    have e':b=a:=hA b (by rw [q];simp)
    subst e'
    rw [ha] at e;cases e
    have d':Data.seq vs.toArray _=Data.dict es ep:=d
    cases d'
  have nsK:∀ {b:Addr} {m:Str->Option Value},s₁.heap.Ns b m->(hidT s₁.heap H).Ns b m:=fun {b m} ⟨o,es,ep,e,d,r⟩=>⟨o,es,ep,base_of e (noA e d),d,r⟩
  have hKb:K.In (hidT s₁.heap H):=fun b o e=>base_of (KX b o e) (by
   cases q:H b with
   | none=>rfl
   | some u =>
    have e':b=a:=hA b (by rw [q];simp)
    subst e'
    rw [hK (by rw [q];simp)] at e;cases e)
  have hM:Mod K mg (hidT s₁.heap H):=⟨hKb,nsK hns,⟨mb,nsK hb,hbb⟩,let ⟨mc,h1,h2⟩:=hlim;⟨mc,nsK h1,h2⟩⟩
  have e0:Env0 P w K mg (hidT s₁.heap H) callerA [] s₁ H:=⟨rfl,hM,fun b o e=>qfy e,Nat.le_of_eq (qbo _ _),trivial,fun b hb=>absurd (show b∈([]:List Addr) from hb) (by simp),hok,.of_eq hg⟩
  refine codeAny_mono ((F _ hKb (nsK hns)).run callerA [] s₁ H ⟨[.ref a],[]⟩ [.ref a] [.ref a] _ _ hr e0 (hbind s₁ (.ref a)) (.cons rfl .nil) (hsp H hO hS)) fun r s' h=>?_
  cases r with
  | error e=>exact (hCX H e s' h).elim
  | ok fl =>
   cases fl with
   | next=>exact False.elim h
   | brk=>exact False.elim h
   | cont=>exact False.elim h
   | ret u =>
    obtain ⟨v,H',os,bare,un,hok',r',q⟩:=h
    have q':v=.bl true:=q
    subst q'
    obtain rfl:u=Value.bool true:=r'
    refine ⟨rfl,OldK.of_keep fun b o e=>?_,os,bare⟩
    cases q:H b with
    | none=>exact un.keep b o e q (by intro z;exact absurd (show b∈([]:List Addr) from z) (by simp)) (by simp)
    | some u =>
     rcases hO b with z | ⟨ob,xs,z⟩
     ·rw [q] at z;cases z
     ·have z2:=un.frzs b ob _ z
      obtain ⟨e1,_⟩:=hok b _ z
      obtain ⟨e2,_⟩:=hok' b _ z2
      rw [e] at e1;cases e1
      exact e2
 cases hk:K.lookup a with
 | some o =>
  -- the script is one of the module's own objects
  have e:=KX a o hk
  rw [ha] at e
  cases e
  refine core (fun _=>none) (fun _=>.inl rfl) (.inr ⟨_,vs.toArray,_,hk,rfl,rfl,rfl,by rw [List.size_toArray,lenV];exact hl,by simpa using rv⟩) (fun b u z=>by have z':(none:Option HO)=some u:=z;cases z') (fun b z=>absurd rfl z) fun z=>absurd rfl z
 | none =>
  refine core (fun b=>if b=a then some (.frz { cls:=.type "list",data:=.seq vs.toArray } (.lst (ns.map V.int))) else none) (fun b=>?_) (.inl (.inr ⟨{ cls:=.type "list",data:=.seq vs.toArray },if_pos rfl⟩)) (fun b u z=>?_) (fun b z=>?_) fun _=>hk
  ·by_cases hb:b=a
   ·exact .inr ⟨_,_,if_pos hb⟩
   ·exact .inl (if_neg hb)
  ·by_cases hb:b=a
   ·have z':=(if_pos hb).symm.trans z
    cases z'
    subst hb
    exact ⟨ha,by rw [List.length_map];exact hl,vs,_,rv,ha⟩
   ·have z':=(if_neg hb).symm.trans z
    cases z'
  ·by_cases hb:b=a
   ·exact hb
   ·exact absurd (if_neg hb) z
end L2
namespace L2
open PySem PySem.Spec PyProof.Rows
theorem qf3 {l:W.OpenLaw} {n k:Nat} {q:Program} {loose:List Str} {XP:(Str->Option Value)->Heap->Prop} {YP:World->Heap->Prop} {d:DefRec} {K:Params->W.Frag} {CX:World->CXT} {sp:World->Sp} {x:Str}
  (hn:l.most=some n) (hn2:n<=sizeLine) (hdf:d.params.defaults=[]) (hr:Room k callerA)
  (hY:∀ (w:World) (h:Heap),YP w h->(K w.params).In h)
  (F : ∀ (w:World) (mg:Str->Option Value) (fa:Addr) (h:Heap),(K w.params).In h->h.Ns mainGlobals mg->mg d.name=some (.ref fa) ->
   ∃ fd:FuncData,(∀ (s:Shared) (u:Value),BindsTo s fd ⟨[u],[]⟩ [(x,u)]) /\
    ∀ base:Heap,(K w.params).In base->base.Ns mainGlobals mg->FnOk l.prog w (K w.params) mg base (CX w) k fa fd [x] (sp w))
  (hsp:∀ (w:World) (H:Hp) (a:Addr) (ns:List Int),ns.length<=n->Only H->SqL (K w.params) H a (ns.map V.int)->sp w [.ref a] H (fun v _=>v=.bl true) fun _ _ _=>False)
  (hCX:∀ (w:World) (H:Hp) (s:Shared) (e:Value) (s':Shared),CX w [] H s (fun _ _ _=>False) e s'->False) :
  PySem.W.WalkO q loose XP YP l.row.toRowW d [] (fun f vs=>PySem.call f vs):=by
 refine Att.attach_call hn hdf fun w s₀ s₁ mg mb fa o pm cd doc a vs ns G Y ho hd hcd hmg hobj hints hlen hg=>?_
 have KX:=hY w _ Y
 obtain ⟨fd,hb,hF⟩:=F w mg fa _ KX G.T.g hmg
 exact qd0 KX G.T.g G.T.b G.T.builtins G.T.nolimit hg hobj hints (Nat.le_trans hlen hn2) hr hF hb (fun H hO hS=>hsp w H a ns hlen hO hS) fun H e s'=>hCX w H s₁ e s'
end L2
namespace L2
open PySem PySem.Spec PyProof.Rows
def defArgs (s:Stmt):Arguments:=match s with
 | .FunctionDef _ a _ _ _ _ _ _ _ _=>a
 | _=>{ posonlyargs:=[],args:=[],vararg:=none,kwonlyargs:=[],kw_defaults:=[],kwarg:=none,defaults:=[] }
def defBody (s:Stmt):List Stmt:=match s with
 | .FunctionDef _ _ b _ _ _ _ _ _ _=>b
 | _=>[]
def defScope (s:Stmt):Scope:=match s with
 | .FunctionDef _ _ _ _ _ _ sc _ _ _=>sc
 | _=>{ kind:=.function,names:=[],isGenerator:=false,isCoroutine:=false }
abbrev CX0:CXT:=fun _ _ _ _ _ _=>False
abbrev E0:XK:=fun _ _ _=>False
theorem pass0 {X:Cx}:Passes CX0 X E0:=fun _ _ _ _ _ _ _ h=>h.elim
structure Fun (K:W.Frag) (x qual:Str) (st:Stmt) (f:Addr) (fd:FuncData):Prop where
 ex : ∃ (oc:Value) (od:Option Addr) (kV doc pm:Value) (an:Option Addr) (cdv ct:Value) (osl:Array (Option Value)),
  fd=W.fnOf x qual (defArgs st) (defBody st) (defScope st) .none kV doc pm an cdv ct/\K.lookup f=some ⟨oc,od,.func fd,osl⟩/\W.codeIn K cdv qual=true
 kp:W.keepIn K (.ref f)=true
section
variable {P:Program} {w:World} {K:W.Frag} {mg:Str->Option Value} {base:Heap}
theorem Fun.ok {x qual:Str} {st:Stmt} {f:Addr} {fd:FuncData} {N ps:List Str} {k:Nat} {sp:Sp} (F:Fun K x qual st f fd) (S:FnScope N ps (defScope st)) (len:∀ vs H Q E,sp vs H Q E->vs.length=ps.length)
  (hbody:∀ (cdv:Value) (A:Around) (outer:List Env) (s:Shared) (H:Hp) (vs:List V) (Q:VK) (E:XK),Room k (A.deeper (envOfC qual (defScope st) s.heap.objs.size f cdv))->sp vs H Q E ->
   ∃ t,PSs (cxOf CX0 P w K mg base N qual (defScope st) f cdv A outer s H E).nox (defBody st) t/\t { nx:=fun _ H'=>Q .non H',rt:=Q } (start N vs) H):FnOk P w K mg base CX0 (k+1) f fd ps sp:=by
 obtain ⟨oc,od,kV,doc,pm,an,cdv,ct,osl,rfl,lk,hcd⟩:=F.ex
 refine qhs lk hcd S len fun A outer s H vs Q E hr hsp=>?_
 obtain ⟨t,h,q⟩:=hbody cdv A outer s H vs Q E hr hsp
 exact ⟨t,h.nox,q⟩
theorem Fun.binds {x qual:Str} {st:Stmt} {f:Addr} {fd:FuncData} {ps:List Str} (F:Fun K x qual st f fd)
  (h:∀ (kV doc pm:Value) (an:Option Addr) (cdv ct:Value) (us:List Value),us.length=ps.length->bindArgs (W.fnOf x qual (defArgs st) (defBody st) (defScope st) .none kV doc pm an cdv ct) ⟨us,[]⟩=pure (ps.zip us)):Binds K fd ps []:=by
 obtain ⟨oc,od,kV,doc,pm,an,cdv,ct,osl,rfl,lk,hcd⟩:=F.ex
 exact .all (h kV doc pm an cdv ct)
theorem qk {x qual:Str} {st:Stmt} {f:Addr} {oc:Value} {od an:Option Addr} {osl:Array (Option Value)} {kV doc pm cdv ct:Value} (l:K.lookup f=some ⟨oc,od,.func (W.fnOf x qual (defArgs st) (defBody st) (defScope st) .none kV doc pm an cdv ct),osl⟩)
  (c:W.codeIn K cdv qual=true) (k:W.keepIn K (.ref f)=true):Fun K x qual st f (W.fnOf x qual (defArgs st) (defBody st) (defScope st) .none kV doc pm an cdv ct):=⟨⟨oc,od,kV,doc,pm,an,cdv,ct,osl,rfl,l,c⟩,k⟩
end
theorem Vb {A:Around} {k:Nat} (hr:Room k A):A.units+1 < cLine:=Nat.lt_of_le_of_lt (Nat.add_le_add_left (by decide:1<=64) _) hr.units
theorem small1000 {n:Nat} (h:n<=1000):n < sizeLine:=Nat.lt_of_le_of_lt h (by decide)
section
variable {X:Cx}
theorem pv (i:Nat) {x:Str} {pos:Pos} (hN:X.N[i]? = some x:=by rfl) (hv:Vis X.env.scope x:=by first | exact Or.inl rfl | exact Or.inr (Or.inl rfl) | exact Or.inr (Or.inr rfl)) (hd:(x == ("__debug__" : Str))=false:=by decide)
  (hcd:(x == ("__classdict__" : Str))=false:=by decide):PE X (.Name x pos) (tVar i):=qhl hN hv hd hcd
end
theorem iteF {A B:Prop} (h:B):if false=true then A else B:=by
 rw [if_neg Bool.false_ne_true]
 exact h
theorem iteT {A B:Prop} (h:A):if true=true then A else B:=by
 rw [if_pos rfl]
 exact h
theorem ite2 {c A B:Prop} [Decidable c] (h1:c->A) (h2:¬ c->B):if c then A else B:=by
 by_cases h:c
 ·rw [if_pos h]
  exact h1 h
 ·rw [if_neg h]
  exact h2 h
theorem iteNS {c A B:Prop} [Decidable c] (hc:c) (h:B):if (!decide c)=true then A else B:=by
 rw [decide_eq_true hc]
 exact iteF h
def Same (H H':Hp):Prop:=∀ b o,H b=some o->H' b=some o
theorem Same.refl (H:Hp):Same H H:=fun _ _ h=>h
theorem Same.trans {H H1 H2:Hp} (a:Same H H1) (b:Same H1 H2):Same H H2:=fun c o h=>b c o (a c o h)
theorem Same.free {H H':Hp} (e:Same H H') {l:Addr} (h:H' l=Option.none):H l=Option.none:=by
 cases q:H l with
 | none=>rfl
 | some o =>
  rw [e l o q] at h
  cases h
theorem Same.seq {K:W.Frag} {H H':Hp} {a:Addr} {xs:List V} (e:Same H H') (h:SqL K H a xs):SqL K H' a xs:=by
 rcases h with (h | ⟨o,h⟩) | h
 ·exact .inl (.inl (e _ _ h))
 ·exact .inl (.inr ⟨o,e _ _ h⟩)
 ·exact .inr h
section
variable {X:Cx}
end
section
variable {κ:Type} [DecidableEq κ]
theorem qb9:∀ {l:List κ} {k:κ},l.Nodup->¬ k∈l->(l++[k]).Nodup
 | [],k,_,_=>by simp
 | a :: r,k,h,hk=>by
  obtain ⟨h1,h2⟩:=List.nodup_cons.mp h
  show (a :: (r++[k])).Nodup
  refine List.nodup_cons.mpr ⟨fun m=>?_,qb9 h2 fun m=>hk (List.mem_cons.mpr (Or.inr m))⟩
  rcases List.mem_append.mp m with q | q
  ·exact h1 q
  ·exact hk (List.mem_cons.mpr (Or.inl (List.mem_singleton.mp q).symm))
end
end L2
namespace L2
open PySem PySem.Spec PyProof.Rows
theorem zj {env:Env} (f:Str × NameKind->List (Str × Addr)->Sem (ForInStep (List (Str × Addr))))
  (hf:∀ name kind cs,f (name,kind) cs=if kind == .free then (do let a <- cellOf env name;pure (.yield ((name,a) :: cs))) else pure (.yield cs)) :
  ∀ (names:List (Str × NameKind)) (acc:List (Str × Addr)),(∀ p∈names,p.2=.free->∃ c,env.cells.lookup p.1=some c) ->
   (∀ x c,acc.lookup x=some c->env.cells.lookup x=some c) ->
   ∃ cl,(forIn names acc f:Sem _)=pure cl/\(∀ x c,cl.lookup x=some c->env.cells.lookup x=some c)/\(∀ p∈names,p.2=.free->(cl.lookup p.1).isSome=true)/\(∀ x,(acc.lookup x).isSome=true->(cl.lookup x).isSome=true)
 | [],acc,_,ha=>⟨acc,by rw [List.forIn_nil],ha,(fun _ h=>by cases h),fun _ h=>h⟩
 | (n,k) :: r,acc,hn,ha=>by
  rw [List.forIn_cons,hf]
  by_cases hk:k=.free
  ·subst hk
   obtain ⟨c,hc⟩:=hn (n,.free) List.mem_cons_self rfl
   obtain ⟨cl,e,h1,h2,h3⟩:=zj f hf r ((n,c) :: acc) (fun p hp=>hn p (List.mem_cons_of_mem _ hp)) (fun x d hx=>by
    rw [List.lookup_cons] at hx
    cases hb:x == n with
    | true=>rw [hb] at hx;cases hx;rw [beq_iff_eq.mp hb];exact hc
    | false=>rw [hb] at hx;exact ha x d hx)
   refine ⟨cl,?_,h1,fun p hp hpf=>?_,fun x hx=>h3 x ?_⟩
   ·have ec:cellOf env n=pure c:=by unfold cellOf;rw [hc]
    rw [if_pos (by rfl),ec]
    simpa using e
   ·rcases List.mem_cons.mp hp with z | z
    ·subst z;exact h3 n (by rw [List.lookup_cons];simp)
    ·exact h2 p z hpf
   ·rw [List.lookup_cons]
    cases hb:x == n with
    | true=>rfl
    | false=>exact hx
  ·obtain ⟨cl,e,h1,h2,h3⟩:=zj f hf r acc (fun p hp=>hn p (List.mem_cons_of_mem _ hp)) ha
   refine ⟨cl,?_,h1,fun p hp hpf=>?_,h3⟩
   ·have hb:(k == NameKind.free)=false:=by simpa using hk
    rw [hb]
    simpa using e
   ·rcases List.mem_cons.mp hp with z | z
    ·subst z;exact absurd hpf hk
    ·exact h2 p z hpf
theorem zk {env:Env} {scope:Scope} (h:∀ p∈scope.names,p.2=.free->∃ c,env.cells.lookup p.1=some c) :
  ∃ cl,closureFor scope env=pure cl/\(∀ x c,cl.lookup x=some c->env.cells.lookup x=some c)/\(∀ p∈scope.names,p.2=.free->(cl.lookup p.1).isSome=true):=by
 unfold closureFor
 obtain ⟨cl,e,h1,h2,_⟩:=zj (env:=env) (fun x r=>match x,r with
  | (name,kind),cs=>if kind == .free then (do let a <- cellOf env name;pure (.yield ((name,a) :: cs))) else pure (.yield cs)) (fun _ _ _=>rfl) scope.names [] h (fun _ _ z=>nomatch z)
 refine ⟨cl,?_,h1,h2⟩
 have e':=congrArg (fun t:Sem (List (Str × Addr))=>t >>= fun cs=>pure cs) e
 first
  | simpa using e'
  | (simp only [pure_bind,bind_pure] at e' ⊢;exact e')
theorem yp:∀ (names:List (Str × NameKind)) (n:Nat) (acc:List (Str × Addr)),(∀ (x y:Str) (c:Nat),acc.lookup x=some c->acc.lookup y=some c->x=y)->(∀ (x:Str) (c:Nat),acc.lookup x=some c->c < n) ->
  (∀ (x y:Str) (c:Nat),(cellsFrom n names acc).lookup x=some c->(cellsFrom n names acc).lookup y=some c->x=y)/\(∀ (x:Str) (c:Nat),(cellsFrom n names acc).lookup x=some c->acc.lookup x=some c\/n<=c)
 | [],n,acc,h,hl=>⟨h,fun _ _ z=>.inl z⟩
 | (nm,k) :: r,n,acc,h,hl=>by
  unfold cellsFrom
  split
  ·have lt:∀ (x:Str) (c:Nat),List.lookup x ((nm,n) :: acc)=some c->(x=nm/\c=n)\/(x≠nm/\acc.lookup x=some c):=fun x c e=>by
    rw [List.lookup_cons] at e
    cases hb:x == nm with
    | true=>rw [hb] at e;cases e;exact .inl ⟨beq_iff_eq.mp hb,rfl⟩
    | false=>rw [hb] at e;exact .inr ⟨by simpa using hb,e⟩
   obtain ⟨a,b⟩:=yp r (n+1) ((nm,n) :: acc) (fun x y c e1 e2=>by
    rcases lt x c e1 with ⟨z1,z2⟩ | ⟨z1,z2⟩ <;> rcases lt y c e2 with ⟨w1,w2⟩ | ⟨w1,w2⟩
    ·rw [z1,w1]
    ·have:=hl y c w2;omega
    ·have:=hl x c z2;omega
    ·exact h x y c z2 w2) (fun x c e=>by
    rcases lt x c e with ⟨z1,z2⟩ | ⟨z1,z2⟩
    ·omega
    ·have:=hl x c z2;omega)
   refine ⟨a,fun x c e=>?_⟩
   rcases b x c e with z | z
   ·rcases lt x c z with ⟨z1,z2⟩ | ⟨z1,z2⟩
    ·exact .inr (by omega)
    ·exact .inl z2
   ·exact .inr (by omega)
  ·exact yp r n acc h hl
theorem yq {x:Str}:∀ (names:List (Str × NameKind)) (n:Nat) (acc:List (Str × Addr)),(∀ p∈names,p.1=x->p.2≠.cell)->(cellsFrom n names acc).lookup x=acc.lookup x
 | [],_,_,_=>rfl
 | (nm,k) :: r,n,acc,h=>by
  unfold cellsFrom
  split
  ·rename_i hk
   have hk':k=.cell:=by simpa using hk
   have ne:x≠nm:=fun e=>h (nm,k) List.mem_cons_self e.symm hk'
   rw [yq r (n+1) ((nm,n) :: acc) fun p hp=>h p (List.mem_cons_of_mem _ hp),List.lookup_cons]
   have:(x == nm)=false:=by simpa using ne
   rw [this]
  ·exact yq r n acc fun p hp=>h p (List.mem_cons_of_mem _ hp)
theorem yf {x:Str} {c:Nat}:∀ (names:List (Str × NameKind)) (n:Nat) (acc:List (Str × Addr)) (d:Nat),acc.lookup x=some d->d<=n->(cellsFrom n names acc).lookup x=some c->d<=c
 | [],_,_,_,h,_,e=>by
  have e':_=some c:=e
  unfold cellsFrom at e'
  rw [h] at e';cases e';exact Nat.le_refl _
 | (nm,k) :: r,n,acc,d,h,hd,e=>by
  unfold cellsFrom at e
  split at e
  ·cases hb:x == nm with
   | true =>
    have:=yf r (n+1) ((nm,n) :: acc) n (by rw [List.lookup_cons,hb]) (Nat.le_succ _) e
    omega
   | false=>exact yf r (n+1) ((nm,n) :: acc) d (by rw [List.lookup_cons,hb];exact h) (Nat.le_succ_of_le hd) e
  ·exact yf r n acc d h hd e
theorem Vc {x:Str} {c:Nat}:∀ (names:List (Str × NameKind)) (n:Nat) (acc:List (Str × Addr)),(∀ (y:Str) (d:Nat),acc.lookup y=some d->d < n)->names.lookup x=some .cell->(cellsFrom n names acc).lookup x=some c->n<=c
 | [],_,_,_,h,_=>by cases h
 | (nm,k) :: r,n,acc,ha,h,e=>by
  rw [List.lookup_cons] at h
  unfold cellsFrom at e
  cases hb:x == nm with
  | true =>
   rw [hb] at h
   cases h
   rw [if_pos (by rfl)] at e
   by_cases hr:r.lookup x=some .cell
   ·have:=Vc r (n+1) ((nm,n) :: acc) (fun y d z=>by
     rw [List.lookup_cons] at z
     cases hy:y == nm with
     | true=>rw [hy] at z;cases z;omega
     | false=>rw [hy] at z;have:=ha y d z;omega) hr e
    omega
   ·exact yf r (n+1) ((nm,n) :: acc) n (by rw [List.lookup_cons,hb]) (Nat.le_succ _) e
  | false =>
   rw [hb] at h
   split at e
   ·have:=Vc r (n+1) ((nm,n) :: acc) (fun y d z=>by
     rw [List.lookup_cons] at z
     cases hy:y == nm with
     | true=>rw [hy] at z;cases z;omega
     | false=>rw [hy] at z;have:=ha y d z;omega) h e
    omega
   ·exact Vc r n acc ha h e
theorem yr:∀ (names:List (Str × NameKind)) (h:Heap) (acc:List (Str × Addr)) (x:Str) (c:Addr),(∀ x c,acc.lookup x=some c->∃ v,h.IsCell c v)->(cellsFrom h.objs.size names acc).lookup x=some c->∃ v,(pushCells h names).IsCell c v
 | [],h,acc,x,c,ha,e=>ha x c e
 | (nm,k) :: r,h,acc,x,c,ha,e=>by
  unfold cellsFrom at e
  unfold pushCells
  split at e
  ·rename_i hk
   rw [if_pos hk]
   refine yr r (h.push { cls:=.type "cell",data:=.cell none }) ((nm,h.objs.size) :: acc) x c (fun y d z=>?_) (by rw [Heap.size_push];exact e)
   rw [List.lookup_cons] at z
   cases hb:y == nm with
   | true=>rw [hb] at z;cases z;exact ⟨none,_,Heap.get?_push_size _ rfl,rfl⟩
   | false =>
    rw [hb] at z
    obtain ⟨v,q⟩:=ha y d z
    exact ⟨v,q.keeps fun b o e=>Heap.get?_push_of_some _ e⟩
  ·rename_i hk
   rw [if_neg hk]
   exact yr r h acc x c ha e
end L2
namespace L2
open PySem PySem.Spec PyProof.Rows
section
variable {prog:Program} {w:World} {A:Around} {E:Value->Shared->Prop} {R:Result->Shared->Prop} {s:Shared}
theorem yt {elt target iter:Expr} {ifs:List Expr} {scope:Scope} {pos:Pos} {it acc:Value} {env:Env} (I:Nat->Shared->Prop)
  (turn:∀ n s,I n s->wpAny (model prog w) A (pyNext it) (fun r s₁=>match r with
   | none=>R (.ok .next) s₁
   | some v=>wpAny (model prog w) A (letOwnedTupleGo target it v) (fun _ s₁=>wpAny (model prog w) A (assign target env v) (fun _ s₂ =>
     wpAny (model prog w) A (forIn ifs true fun c r=>if r=true then do let ok <- isTrue c env (eval c env);pure (ForInStep.yield ok) else pure (ForInStep.yield r)) (fun ok s₃ =>
      if ok=true then wpAny (model prog w) A (eval elt env) (fun x s₄ =>
       wpAny (model prog w) A (call (.builtin "list.append") [acc,x]) (fun _ s₅=>∃ m,m < n/\I m s₅) (fun _ _=>False) s₄) (fun _ _=>False) s₃
      else ∃ m,m < n/\I m s₃) (fun _ _=>False) s₂) (fun _ _=>False) s₁) (fun _ _=>False) s₁) (fun _ _=>False) s)
  (n:Nat) (h:I n s) :
  codeAny (model prog w) A (.compLoop (.ListComp elt [⟨target,iter,ifs,0⟩] scope pos) 0 it acc env) R s:=by
 refine codeAny_loop rfl I (fun n s hI=>?_) n h
 show wpAny _ A ((compTurn (.ListComp elt [⟨target,iter,ifs,0⟩] scope pos) 0 it acc env).onRaise (fun x=>do noteFrame x env;theTreesLotGoes x)) _ _ s
 refine wpAny_noted ?_
 rw [compTurn_list]
 refine wpAny_bind (wpAny_standAt (wpAny_bind (wpAny_mono (turn n s hI) (fun r s₁ h₁=>?_) fun _ _ h'=>h'.elim)))
 cases r with
 | none=>exact wpAny_pure h₁
 | some v =>
  refine wpAny_bind (wpAny_mono h₁ (fun _ s₁ h₁=>?_) fun _ _ h'=>h'.elim)
  refine wpAny_bind (wpAny_mono h₁ (fun _ s₂ h₂=>wpAny_bind (wpAny_mono h₂ (fun ok s₃ h₃=>?_) fun _ _ h'=>h'.elim)) fun _ _ h'=>h'.elim)
  cases ok with
  | false=>exact wpAny_pure ⟨rfl,h₃⟩
  | true =>
   exact wpAny_bind (wpAny_bind (wpAny_mono h₃ (fun x s₄ h₄=>wpAny_bind (wpAny_mono h₄ (fun _ s₅ h₅=>wpAny_pure (wpAny_pure ⟨rfl,h₅⟩)) fun _ _ h'=>h'.elim)) fun _ _ h'=>h'.elim))
end
abbrev compCx (X:Cx) (scope:Scope) (N':List Str) (cells:List (Str × Addr)) (C:Addr) (s₀:Shared) (H₀:Hp) (ex:List Addr) (pn:List (Addr × Obj)):Cx where
 prog:=X.prog
 w:=X.w
 K:=X.K
 mg:=X.mg
 base:=X.base
 A:=X.A
 N:=N'
 s₀:=s₀
 H₀:=H₀
 env:={ scope:=relabel scope X.env,locals:=C,globals:=X.env.globals,cells:=cells,qual:=X.env.qual,func:=none,code:=X.env.code,frame:=X.env.frame,builtins:=X.env.builtins }
 outer:=X.stack
 stack:=X.stack
 ex:=ex
 fn:=fun x=>scope.names.lookup x == some .cell
 calm:=X.calm
 pn:=pn
 xe:=fun _ _=>False
def cst (ix:List (Option Nat)) (σ:St):St:=ix.map fun o=>o.bind fun j=>(σ[j]?).bind id
def compChk (X:Cx) (scope:Scope) (N':List Str) (ix:List (Option Nat)):Bool :=
 scope.names.all (fun p=>scope.names.lookup p.1 == some p.2) &&
 scope.names.all (fun p=>!(p.2 == .free) || X.env.scope.names.lookup p.1 == some .cell || X.env.scope.names.lookup p.1 == some .free) &&
 ix.length == N'.length &&
 (N'.zip ix).all (fun p=>match p.2 with | none=>true | some j=>X.N[j]? == some p.1 && scope.names.lookup p.1 == some .free) && scope.kind == .function
def PTs (X:Cx) (ifs:List Expr) (t:TT):Prop :=
 ∀ (pins:List (Addr × Obj)) (s:Shared) (σ:St) (H:Hp) (Q:Bool->Hp->Prop),Inv X pins σ H s->t σ H Q ->
  wpAny (model X.prog X.w) X.A (forIn ifs true fun c r=>if r=true then do let ok <- isTrue c X.env (eval c X.env);pure (ForInStep.yield ok) else pure (ForInStep.yield r)) (TP X pins σ Q) X.xe s
def tAll:TT:=fun _ H Q=>Q true H
theorem qx {X:Cx}:PTs X [] tAll:=fun _ _ _ H _ I h=>wpAny_tests_nil ⟨H,I,h⟩
def tComp (ix:List (Option Nat)) (wi:TI) (g:TG) (tc:TT) (te:TE):TE:=fun σ H Q=>wi σ H fun J H1=>∃ W:Nat->Nat->List V->St->Hp->Prop,(∃ m,W 0 m [] (cst ix σ) H1)/\∀ i m ys τ H,W i m ys τ H ->
 (J.stop i H/\∀ D,H D=none->Q (.ref D) (upd H D (.lst ys))) \/
 (J.go i H/\ys.length < sizeLine/\∃ N:List V->St->Hp->Prop,(∀ ys' τ' H',N ys' τ' H'->∃ m',m' < m/\W (i+1) m' ys' τ' H') /\
  ∀ x H',J.yld i H x H'->g x τ H' fun τ2 H2=>tc τ2 H2 fun b H3=>if b=true then te τ2 H3 (fun y H4=>N (ys++[y]) τ2 H4) else N ys τ2 H3)
def rlF (env:Env) (p:Str × NameKind):Str × NameKind:=if (p.2 == NameKind.free && env.scope.kind == .function && env.kindOf p.1 == some .cell)=true then (p.1,NameKind.cell) else (p.1,p.2)
theorem qf4 (env:Env) (p:Str × NameKind):(rlF env p).1=p.1:=by unfold rlF;split <;> rfl
theorem Js {f:Str × NameKind->Str × NameKind} (hf:∀ p,(f p).1=p.1) (x:Str):∀ names:List (Str × NameKind),(names.map f).lookup x=(names.lookup x).map fun k=>(f (x,k)).2
 | []=>rfl
 | (n,k) :: r=>by
  rw [List.map_cons]
  obtain ⟨a,b,e⟩:∃ a b,f (n,k)=(a,b):=⟨_,_,rfl⟩
  have ha:a=n:=by have:=hf (n,k);rw [e] at this;exact this
  subst ha
  rw [e,List.lookup_cons,List.lookup_cons,Js hf x r]
  cases hb:x == a with
  | true =>
   have:x=a:=beq_iff_eq.mp hb
   subst this
   show some b=some (f (x,k)).2
   rw [e]
  | false=>rfl
theorem vn (scope:Scope) (env:Env) (x:Str):(relabel scope env).names.lookup x=(scope.names.lookup x).map fun k=>(rlF env (x,k)).2:=Js (qf4 env) x scope.names
theorem Zc {scope:Scope} {env:Env} {x:Str} (h:scope.names.lookup x=some .free):(relabel scope env).names.lookup x=some .cell\/(relabel scope env).names.lookup x=some .free:=by
 rw [vn,h]
 show some (rlF env (x,.free)).2=_\/some (rlF env (x,.free)).2=_
 unfold rlF
 by_cases hc:((x,NameKind.free).snd == NameKind.free && env.scope.kind == ScopeKind.function && env.kindOf (x,NameKind.free).fst == some NameKind.cell)=true
 ·rw [if_pos hc];exact .inl rfl
 ·rw [if_neg hc];exact .inr rfl
theorem Zd {scope:Scope} {env:Env} {x:Str} (h:(relabel scope env).names.lookup x=some .cell\/(relabel scope env).names.lookup x=some .free):scope.names.lookup x=some .cell\/scope.names.lookup x=some .free:=by
 rw [vn] at h
 cases e:scope.names.lookup x with
 | none=>rw [e] at h;rcases h with h | h <;> cases h
 | some k =>
  rw [e] at h
  have h':(rlF env (x,k)).2=.cell\/(rlF env (x,k)).2=.free:=by
   rcases h with h | h
   ·exact .inl (Option.some.inj h)
   ·exact .inr (Option.some.inj h)
  unfold rlF at h'
  split at h'
  ·rename_i hc
   have:k=.free:=by
    have:=(Bool.and_eq_true_iff.mp (Bool.and_eq_true_iff.mp hc).1).1
    simpa using this
   exact .inr (by rw [this])
  ·rcases h' with z | z
   ·have z':k=.cell:=z
    exact .inl (by rw [z'])
   ·have z':k=.free:=z
    exact .inr (by rw [z'])
end L2
namespace L2
open PySem PySem.Spec PyProof.Rows
abbrev lobj (its:List Value) (n:Nat):Obj:={ cls:=.type "list",data:=.seq its.toArray n }
section
variable {X:Cx} {pins:List (Addr × Obj)} {σ:St} {H:Hp} {s:Shared}
theorem HOk.add {P:Program} {w:World} {h:Heap} {D:Addr} {o:HO} (x:HOk P w H h) (hn:H D=none) (new:ObjOk P w (upd H D o) h D o):HOk P w (upd H D o) h:=fun b u e=>by
 by_cases hb:b=D
 ·subst hb;rw [upd_same] at e;cases e;exact new
 ·rw [qg hb] at e
  exact (x b u e).stay (fun c v _ q=>q) (fun c q=>by rw [qg (ne_of_none q hn)];exact q) fun c xs q=>by rw [qg (ne_of_none q hn)];exact q
theorem HOk.but {P:Program} {w:World} {h h':Heap} {C:Addr} (x:HOk P w H h) (hn:H C=none) (sb:Heap.SameBut C h h'):HOk P w H h':=fun b u e=>by
 refine (x b u e).stay (fun c v hc q=>(sb.2 c ?_).trans q) (fun _ q=>q) fun _ _ q=>q
 rintro rfl
 rcases hc with rfl | hc
 ·rw [hn] at e;cases e
 ·rw [hn] at hc;cases hc
end
theorem comp_inv {X:Cx} {pins:List (Addr × Obj)} {σ:St} {H2:Hp} {s2:Shared} {scope:Scope} {N':List Str} {ix:List (Option Nat)} {cl:List (Str × Addr)} {fp:List Addr}
  (c1:∀ p∈scope.names,scope.names.lookup p.1=some p.2) (c3:ix.length=N'.length)
  (c2:∀ p∈scope.names,p.2=.free->X.env.scope.names.lookup p.1=some .cell\/X.env.scope.names.lookup p.1=some .free)
  (c4:∀ (i:Nat) (x:Str) (j:Nat),N'[i]? = some x->ix[i]? = some (some j)->X.N[j]? = some x/\scope.names.lookup x=some .free) (ck:scope.kind=.function)
  (cl1:∀ x c,cl.lookup x=some c->X.env.cells.lookup x=some c) (cl2:∀ p∈scope.names,p.2=.free->(cl.lookup p.1).isSome=true)
  (I2:Inv X pins σ H2 s2) (f2:∀ b∈fp,FpOk X pins H2 b) (o2:∀ b∈fp,∃ o,s2.heap.get? b=some o/\∀ v,o.data≠.cell v) :
  Inv (compCx X scope N' (cellsFrom (s2.heap.objs.size+2) scope.names cl) (s2.heap.objs.size+1) s2 H2 fp []) [(s2.heap.objs.size,lobj [] 0)] (cst ix σ) H2
   { s2 with heap:=pushCells ((s2.heap.push (lobj [] 0)).push { cls:=.type "dict",data:=.dict #[] }) scope.names }:=by
 have sz3:(s2.heap.push (lobj [] 0)).objs.size=s2.heap.objs.size+1:=Heap.size_push ..
 have sz4:((s2.heap.push (lobj [] 0)).push { cls:=.type "dict",data:=.dict #[] }).objs.size=s2.heap.objs.size+2:=by rw [Heap.size_push,sz3]
 have keep:∀ b o,s2.heap.get? b=some o->(pushCells ((s2.heap.push (lobj [] 0)).push { cls:=.type "dict",data:=.dict #[] }) scope.names).get? b=some o:=fun b o e =>
  pushCells_keeps _ _ b o (Heap.get?_push_of_some _ (Heap.get?_push_of_some _ e))
 have cllt:∀ (x:Str) (c:Nat),cl.lookup x=some c->c < s2.heap.objs.size:=fun x c e=>by
  obtain ⟨v,q⟩:=I2.cell x c (cl1 x c e)
  exact q.lt
 obtain ⟨ci,cc⟩:=yp scope.names (s2.heap.objs.size+2) cl (fun x y c e1 e2=>I2.ok.inj x y c (cl1 x c e1) (cl1 y c e2)) (fun x c e=>by have:=cllt x c e;omega)
 have cell:∀ x c,(cellsFrom (s2.heap.objs.size+2) scope.names cl).lookup x=some c->∃ v,(pushCells ((s2.heap.push (lobj [] 0)).push { cls:=.type "dict",data:=.dict #[] }) scope.names).IsCell c v:=fun x c e=>by
  refine yr scope.names _ cl x c (fun y d z=>?_) (by rw [sz4];exact e)
  obtain ⟨v,q⟩:=I2.cell y d (cl1 y d z)
  exact ⟨v,q.keeps fun b o e=>Heap.get?_push_of_some _ (Heap.get?_push_of_some _ e)⟩
 have lt2:∀ (b:Nat),b∈fp->b < s2.heap.objs.size:=fun b hb=>by
  obtain ⟨o,e,_⟩:=o2 b hb
  exact Heap.lt_size e
 refine ⟨⟨I2.ok.mod,ck,I2.ok.glob,I2.ok.blt,Nat.le_succ _,ci,fun x hx=>?_,fun x c hf e=>?_,I2.ok.hd,I2.ok.frames,.inl rfl,fun b hb=>⟨?_,fun x c e=>?_⟩,I2.bs,Nat.le_trans I2.ok.bsz I2.sz,fun b o e hb=>?_,fun b hb z=>?_,I2.stack,I2.stkFree⟩,
  rfl,I2.bare,Un.kept keep,⟨fun _=>none,?_,fun i x v e1 e2 e3=>?_⟩,cell,?_,fun x c e=>?_,fun p hp=>?_,I2.hok.kept keep,?_⟩
 ·-- has
  have hx':=Zd (scope:=scope) (env:=X.env) (x:=x) hx
  rcases hx' with z | z
  ·exact Option.isSome_iff_exists.mp (W.cellsFrom_some scope.names _ cl (.inl z))
  ·exact Option.isSome_iff_exists.mp (W.cellsFrom_some scope.names _ cl (.inr (cl2 (x,.free) (PySem.mem_of_lookup z) rfl)))
 ·-- cab
  have hf':scope.names.lookup x=some .cell:=by simpa using hf
  have:=Vc scope.names (s2.heap.objs.size+2) cl (fun x c e=>by have:=cllt x c e;omega) hf' e
  show s2.heap.objs.size<=c
  omega
 ·-- ex: not the frame
  exact Nat.ne_of_lt (Nat.lt_succ_of_lt (lt2 b hb))
 ·-- ex: no cell
  rcases cc x c e with z | z
  ·exact (f2 b hb).2.2.2.2.1 x c (cl1 x c z)
  ·exact Nat.ne_of_gt (Nat.lt_of_lt_of_le (lt2 b hb) (Nat.le_trans (Nat.le_add_right _ 2) z))
 ·-- base objects are not iterators
  rcases (f2 b hb).2.2.2.1 with z | z
  ·exact I2.ok.noex b o e z
  ·exact absurd (Nat.lt_of_lt_of_le (Nat.lt_of_lt_of_le (Heap.lt_size e) I2.ok.bsz) z) (Nat.lt_irrefl _)
 ·rcases List.mem_cons.mp (I2.stkSub b z) with q | q
  ·exact (f2 b hb).2.1 q
  ·exact (f2 b hb).2.2.1 q
 ·-- the new frame
  have:=Heap.Ns.new (s2.heap.push (lobj [] 0)) (.type "dict")
  rw [sz3] at this
  exact this.keeps (pushCells_keeps _ _)
 ·-- what is seen
  unfold cst at e2
  rw [List.getElem?_map] at e2
  cases ej:ix[i]? with
  | none=>rw [ej] at e2;cases e2
  | some o =>
   rw [ej] at e2
   cases o with
   | none=>cases e2
   | some j =>
    obtain ⟨n1,n2⟩:=c4 i x j e1 ej
    have e2':((σ[j]?).bind id)=some v:=Option.some.inj e2
    have eσ:σ[j]? = some (some v):=by
     cases q:σ[j]? with
     | none=>rw [q] at e2';cases e2'
     | some q'=>rw [q] at e2';cases q' with
      | none=>cases e2'
      | some q''=>cases e2';rfl
    have hv:Vis X.env.scope x:=by
     rcases c2 (x,.free) (PySem.mem_of_lookup n2) rfl with z | z
     ·exact .inr (.inl z)
     ·exact .inr (.inr z)
    obtain ⟨m,hn,hl⟩:=I2.loc
    obtain ⟨u,ru,lk⟩:=hl j x v n1 eσ hv
    refine ⟨u,ru,.inr ⟨Zc (scope:=scope) (env:=X.env) n2,?_⟩⟩
    rcases lk with ⟨z,_⟩ | ⟨_,c,ec,q⟩
    ·exfalso
     rcases c2 (x,.free) (PySem.mem_of_lookup n2) rfl with z' | z' <;> (have z2:X.env.scope.names.lookup x=some .local:=z;rw [z2] at z';cases z')
    ·refine ⟨c,?_,q.keeps keep⟩
     show (cellsFrom (s2.heap.objs.size+2) scope.names cl).lookup x=some c
     rw [yq scope.names _ cl fun p hp e hpc=>by
      have q1:=c1 p hp
      rw [e,n2,hpc] at q1
      cases q1]
     obtain ⟨d,ed⟩:=Option.isSome_iff_exists.mp (cl2 (x,.free) (PySem.mem_of_lookup n2) rfl)
     have:=cl1 x d ed
     rw [ec] at this
     cases this
     exact ed
 ·exact I2.hok.fresh (Nat.le_succ _)
 ·rcases cc x c e with z | z
  ·exact I2.freeC x c (cl1 x c z)
  ·exact I2.hok.fresh (by omega)
 ·have e:p=(s2.heap.objs.size,lobj [] 0):=by simpa using hp
  subst e
  refine ⟨pushCells_keeps _ _ _ _ (Heap.get?_push_of_some _ (Heap.get?_push_size _ rfl)),I2.hok.fresh (Nat.le_refl _),Nat.ne_of_lt (Nat.lt_succ_self _),fun z=>?_,fun v z=>by cases z⟩
  rcases List.mem_cons.mp (I2.stkSub _ z) with q | q
  ·have:=I2.lt;exact absurd (q ▸ this) (Nat.lt_irrefl _)
  ·exact I2.nofs (Nat.le_refl _) q
 ·show (cst ix σ).length=N'.length
  unfold cst
  rw [List.length_map,c3]
end L2
namespace L2
open PySem PySem.Spec PyProof.Rows
theorem Vd {X:Cx} {pins pins':List (Addr × Obj)} {σ τ:St} {H2 H':Hp} {s2 s':Shared} {scope:Scope} {N':List Str} {cells:List (Str × Addr)} {fp:List Addr} {C D:Addr} {ys:List V} {its:List Value} {k:Nat} {h':Heap}
  (I2:Inv X pins σ H2 s2) (f2:∀ b∈fp,FpOk X pins H2 b) (I':Inv (compCx X scope N' cells C s2 H2 fp []) pins' τ H' s') (hC:s2.heap.objs.size<=C) (hD:s2.heap.objs.size<=D) (hDC:D≠C)
  (hn:H' D=none) (e:s'.heap.get? D=some (lobj its k)) (hv:Vals ys its) (hz:ys.length<=sizeLine) (sb:Heap.SameBut C s'.heap h'):Inv X pins σ (upd H' D (.lst ys)) { s' with heap:=h' }:=by
 have ne:∀ b o,s2.heap.get? b=some o->b≠C/\b≠D:=fun b o q=>by
  have:=Heap.lt_size q
  exact ⟨Nat.ne_of_lt (Nat.lt_of_lt_of_le this hC),Nat.ne_of_lt (Nat.lt_of_lt_of_le this hD)⟩
 have ok1:HOk X.prog X.w H' h':=HOk.but I'.hok I'.free sb
 have eD:h'.get? D=some (lobj its k):=(sb.2 D hDC).trans e
 have U:=I'.base
 refine I2.call' (s':={ s' with heap:=h' }) (ch:=fp) I'.os ⟨fun b o q n hb hx=>?_,fun b o q n hb hx=>?_,fun b o q n hx=>?_,fun b o q hx=>?_,fun b xs q=>?_,fun b o u q=>?_,fun b ps q=>?_⟩ (HOk.add ok1 hn ⟨hz,its,k,hv,eD⟩) I'.bare fun b hb=>?_
 ·exact (sb.2 b (ne b o q).1).trans (U.keep b o q n hb hx)
 ·obtain ⟨sl,z⟩:=U.slot b o q n hb hx
  exact ⟨sl,(sb.2 b (ne b o q).1).trans z⟩
 ·rw [qg (ne b o q).2];exact U.free b o q n hx
 ·obtain ⟨o',z⟩:=U.there b o q hx
  exact ⟨o',(sb.2 b (ne b o q).1).trans z⟩
 ·have z:=U.tups b xs q
  rw [qg (ne_of_none z hn)];exact z
 ·have z:=U.frzs b o u q
  rw [qg (ne_of_none z hn)];exact z
 ·obtain ⟨more,z⟩:=U.tbls b ps q
  exact ⟨more,by rw [qg (ne_of_none z hn)];exact z⟩
 ·obtain ⟨_,a1,_,a2,a3,a4⟩:=f2 b hb
  exact ⟨a2,a1,a3,a4⟩
theorem yu {X:Cx} {τ:St} {H':Hp} {s:Shared} {D:Addr} {its:List Value} {k:Nat} {u:Value} {E:Value->Shared->Prop} {Q:Value->Shared->Prop} (hz:its.length < sizeLine) (e:s.heap.get? D=some (lobj its k))
  (h:∀ h' k',h'.get? D=some (lobj (its++[u]) k')->(∀ b o,b≠D->s.heap.get? b=some o->h'.get? b=some o)->Q .none { s with heap:=h' }) :
  wpAny (model X.prog X.w) X.A (call (.builtin "list.append") [.ref D,u]) Q E s:=by
 refine call_meets F.slot_list_append ⟨_,e,rfl⟩ F.entry_list_append (F.args_list_append_2 _ _) (PySem.list_append D its.toArray k u (by rw [List.size_toArray];omega)) ⟨e,?_⟩
 have q:=PySem.IsL.update e (·.push u)
 have e2:(its++[u]).toArray=its.toArray.push u:=by simp
 refine h _ _ (by show _=some ({ cls:=.type "list",data:=.seq (its++[u]).toArray _ }:Obj);rw [e2];exact q) fun b o hb eb=>(Heap.get?_update_other s.heap _ (Ne.symm hb)).trans eb
theorem qz {X:Cx} {tg iter elt:Expr} {ifs:List Expr} {scope:Scope} {pos:Pos} {N':List Str} {ix:List (Option Nat)} {wi:TI} {g:TG} {tc:TT} {te:TE}
  (hc:X.calm=true) (chk:compChk X scope N' ix=true) (hi:PI X tg iter wi)
  (hg:∀ cells C s₀ H₀ ex pn,PG (compCx X scope N' cells C s₀ H₀ ex pn) tg g)
  (ht:∀ cells C s₀ H₀ ex pn,PTs (compCx X scope N' cells C s₀ H₀ ex pn) ifs tc)
  (he:∀ cells C s₀ H₀ ex pn,PE (compCx X scope N' cells C s₀ H₀ ex pn) elt te)
  (hs:∀ x,foldedSetIterable iter X.env x=pure x:=by intro _;rfl) :
  PE X (.ListComp elt [⟨tg,iter,ifs,0⟩] scope pos) (tComp ix wi g tc te):=by
 intro pins s σ H Q I h
 unfold compChk at chk
 obtain ⟨chk,k5⟩:=Bool.and_eq_true_iff.mp chk
 obtain ⟨chk,k4⟩:=Bool.and_eq_true_iff.mp chk
 obtain ⟨chk,k3⟩:=Bool.and_eq_true_iff.mp chk
 obtain ⟨k1,k2⟩:=Bool.and_eq_true_iff.mp chk
 have c1:∀ p∈scope.names,scope.names.lookup p.1=some p.2:=fun p hp=>by simpa using List.all_eq_true.mp k1 p hp
 have c2:∀ p∈scope.names,p.2=.free->X.env.scope.names.lookup p.1=some .cell\/X.env.scope.names.lookup p.1=some .free:=fun p hp hf=>by
  have:=List.all_eq_true.mp k2 p hp
  rw [hf] at this
  simpa using this
 have c3:ix.length=N'.length:=by simpa using k3
 have ck:scope.kind=.function:=by simpa using k5
 have c4:∀ (i:Nat) (x:Str) (j:Nat),N'[i]? = some x->ix[i]? = some (some j)->X.N[j]? = some x/\scope.names.lookup x=some .free:=fun i x j e1 e2=>by
  have m:(x,some j)∈N'.zip ix:=by
   refine List.mem_of_getElem? (i:=i) ?_
   rw [List.getElem?_zip_eq_some]
   exact ⟨e1,e2⟩
  have:=List.all_eq_true.mp k4 _ m
  have:=Bool.and_eq_true_iff.mp this
  exact ⟨by simpa using this.1,by simpa using this.2⟩
 obtain ⟨cl,ecl,cl1,cl2⟩:=zk (env:=X.env) (scope:=scope) (fun p hp hf=>I.ok.has p.1 (c2 p hp hf))
 rw [eval_ListComp]
 refine wpAny_comprehension_free (use:=none) rfl hs ecl ck (fun y hy hl=>by rw [c1 y hy,hl]) (thn (hi pins s σ H _ I h) fun v s1 h1=>thn h1 fun itv s2 h2=>?_)
 obtain ⟨it,fp,tn,J,H2,e,I2,T,st2,f2,W,⟨m0,w0⟩,turn⟩:=h2
 subst e
 have I5:=comp_inv (N':=N') (ix:=ix) (fp:=fp) c1 c3 c2 c4 ck cl1 cl2 I2 f2 (T.obj _ _ st2)
 refine wpAny_newObj_type ?_
 unfold newFunctionEnv
 refine wpAny_bind (wpAny_alloc ?_)
 refine wpAny_bind (wpAny_layCells _ (fun name kind cells=>by cases hkc:kind == NameKind.cell <;> simp [hkc]) _ _ _ _ ?_)
 refine wpAny_bind ?_
 rw [List.forIn_nil]
 refine wpAny_pure (wpAny_pure ?_)
 have sz3:(s2.heap.push (lobj [] 0)).objs.size=s2.heap.objs.size+1:=Heap.size_push ..
 have sz4:((s2.heap.push (lobj [] 0)).push { cls:=.type "dict",data:=.dict #[] }).objs.size=s2.heap.objs.size+2:=by rw [Heap.size_push,sz3]
 show codeAny (model X.prog X.w) X.A (.compStart (.ListComp elt [⟨tg,iter,ifs,0⟩] scope pos) 0 (.ref it) (.ref s2.heap.objs.size)
  (compCx X scope N' (cellsFrom ((s2.heap.push (lobj [] 0)).push { cls:=.type "dict",data:=.dict #[] }).objs.size scope.names cl) (s2.heap.push (lobj [] 0)).objs.size s2 H2 fp []).env)
  (compPost (model X.prog X.w) X.A X.xe none (EP X pins σ Q) (.ref s2.heap.objs.size) (s2.heap.push (lobj [] 0)).objs.size)
  { s2 with heap:=pushCells ((s2.heap.push (lobj [] 0)).push { cls:=.type "dict",data:=.dict #[] }) scope.names }
 rw [sz4,sz3]
 generalize hcells:cellsFrom (s2.heap.objs.size+2) scope.names cl=cells at I5 ⊢
 have keep5:∀ b o,s2.heap.get? b=some o->(pushCells ((s2.heap.push (lobj [] 0)).push { cls:=.type "dict",data:=.dict #[] }) scope.names).get? b=some o:=fun b o e =>
  pushCells_keeps _ _ b o (Heap.get?_push_of_some _ (Heap.get?_push_of_some _ e))
 generalize hh5:({ s2 with heap:=pushCells ((s2.heap.push (lobj [] 0)).push { cls:=.type "dict",data:=.dict #[] }) scope.names }:Shared)=s5 at I5 ⊢
 have keep5:∀ b o,s2.heap.get? b=some o->s5.heap.get? b=some o:=by rw [<- hh5];exact keep5
 have st5:tn 0 s5.heap:=T.keep _ _ _ st2 fun b hb o e=>keep5 b o e
 have lt2:∀ (b:Nat),b∈fp->b < s2.heap.objs.size:=fun b hb=>by
  obtain ⟨o,e,_⟩:=T.obj _ _ st2 b hb
  exact Heap.lt_size e
 -- the iterator within the block
 have stat:∀ {H':Hp} {o:Obj},(∀ b∈fp,H' b=none)->∀ b∈fp,FpOk (compCx X scope N' cells (s2.heap.objs.size+1) s2 H2 fp []) [(s2.heap.objs.size,o)] H' b:=fun {H' o} hn b hb =>
  ⟨hn b hb,(I5.ok.exf b hb).1,I5.ok.exfs b hb,.inl hb,(I5.ok.exf b hb).2,fun p hp=>by
   have e:p=(s2.heap.objs.size,o):=by simpa using hp
   subst e
   exact Nat.ne_of_gt (lt2 b hb)⟩
 have loop:codeAny (model X.prog X.w) X.A (.compLoop (.ListComp elt [⟨tg,iter,ifs,0⟩] scope pos) 0 (.ref it) (.ref s2.heap.objs.size)
   (compCx X scope N' cells (s2.heap.objs.size+1) s2 H2 fp []).env) (compPost (model X.prog X.w) X.A X.xe none (EP X pins σ Q) (.ref s2.heap.objs.size) (s2.heap.objs.size+1)) s5:=by
  refine yt (fun n s'=>∃ i ys τ H' its k,Inv (compCx X scope N' cells (s2.heap.objs.size+1) s2 H2 fp []) [(s2.heap.objs.size,lobj its k)] τ H' s'/\tn i s'.heap/\(∀ b∈fp,H' b=none)/\Vals ys its/\ys.length<=sizeLine/\W i n ys τ H') ?_ m0
   ⟨0,[],_,H2,[],0,I5,st5,fun b hb=>(f2 b hb).1,.nil,Nat.zero_le _,w0⟩
  rintro n s3 ⟨i,ys,τ,H3,its,k,I3,st3,fr3,hv3,hz3,w3⟩
  rcases turn i n ys τ H3 w3 with ⟨stop,qn⟩ | ⟨go,hlen,N,hN,step⟩
  ·refine thn (T.done (compCx X scope N' cells (s2.heap.objs.size+1) s2 H2 fp []) rfl rfl rfl hc i _ s3 τ H3 (fun _ _=>False) I3 (stat fr3) st3 stop) fun r s4 ⟨hr,I4⟩=>?_
   subst hr
   obtain ⟨m,hn,_⟩:=id I4.loc
   obtain ⟨eD,nD,_,_,_⟩:=I4.pin (s2.heap.objs.size,lobj its k) (by simp)
   refine ⟨m,hn,fun h' sb=>⟨.ref s2.heap.objs.size,upd H3 s2.heap.objs.size (.lst ys),?_,rfl,qn _ nD⟩⟩
   exact Vd I2 f2 I4 (Nat.le_succ _) (Nat.le_refl _) (Nat.ne_of_lt (Nat.lt_succ_self _)) nD eD hv3 hz3 sb
  ·refine thn (T.item (compCx X scope N' cells (s2.heap.objs.size+1) s2 H2 fp []) rfl rfl rfl hc i _ s3 τ H3 (fun _ _=>False) I3 (stat fr3) st3 go) fun r s4 ⟨u,hr,h4⟩=>?_
   subst hr
   refine thn h4 fun _ s5' ⟨x,H5,I5',r5,y5,st5',fr5⟩=>?_
   have I6:=I5'.pinned (stat fr5) (T.obj _ _ st5')
   refine thn (hg cells _ s2 H2 fp [] _ s5' τ H5 x u _ I6 r5 (step x H5 y5)) fun _ s6 ⟨τ6,H6,I7,q6⟩=>?_
   refine thn (ht cells _ s2 H2 fp [] _ s6 τ6 H6 _ I7 q6) fun ok s7 ⟨H7,I8,q7⟩=>?_
   have fin:∀ {s8:Shared} {H8:Hp} {its':List Value} {k':Nat} {ys':List V},Inv (compCx X scope N' cells (s2.heap.objs.size+1) s2 H2 fp []) ([(s2.heap.objs.size,lobj its' k')]++pinsAt fp s5'.heap) τ6 H8 s8->Vals ys' its'->ys'.length<=sizeLine->N ys' τ6 H8 ->
     ∃ m,m < n/\∃ i ys τ H' its k,Inv (compCx X scope N' cells (s2.heap.objs.size+1) s2 H2 fp []) [(s2.heap.objs.size,lobj its k)] τ H' s8/\tn i s8.heap/\(∀ b∈fp,H' b=none)/\Vals ys its/\ys.length<=sizeLine/\W i m ys τ H':=fun {s8 H8 its' k' ys'} I9 hv hz n9=>by
    obtain ⟨m',hm,w9⟩:=hN ys' τ6 H8 n9
    refine ⟨m',hm,i+1,ys',τ6,H8,its',k',I9.unpinned,T.keep _ _ _ st5' fun b hb o e=>(I9.pin (b,o) (List.mem_append_right _ (List.mem_append_right _ (jj hb e)))).1,fun b hb=>?_,hv,hz,w9⟩
    obtain ⟨o,e,d⟩:=T.obj _ _ st5' b hb
    exact (I9.pin (b,o) (List.mem_append_right _ (List.mem_append_right _ (jj hb e)))).2.1
   cases ok with
   | false=>exact fin I8 hv3 hz3 q7
   | true =>
    refine thn (he cells _ s2 H2 fp [] _ s7 τ6 H7 _ I8 q7) fun y s8 ⟨v8,H8,I9,r8,q8⟩=>?_
    obtain ⟨eD,nD,dL,dF,_⟩:=I9.pin (s2.heap.objs.size,lobj its k) (by simp)
    have hl:=hv3.length
    refine yu (X:=X) (τ:=τ) (H':=H8) (by omega) eD fun h' k' eD' kp=>?_
    -- the pin on the list is let go,the list turns,and is pinned anew
    have hx:∀ p∈pinsAt fp s5'.heap,p.1≠s2.heap.objs.size:=fun p hp=>by
     have:=lt2 p.1 (vz hp).1
     exact Nat.ne_of_lt this
    have J1:Inv (compCx X scope N' cells (s2.heap.objs.size+1) s2 H2 fp []) (pinsAt fp s5'.heap) τ6 H8 s8:=I9.pins_of fun p hp=>I9.pin p (List.mem_append_right _ (List.mem_append_right _ hp))
    have J2:Inv (compCx X scope N' cells (s2.heap.objs.size+1) s2 H2 fp []) (pinsAt fp s5'.heap) τ6 H8 { s8 with heap:=h' }:=J1.turned (t':=s8.toks) (it:=s2.heap.objs.size) kp nD dL (.inr (Nat.le_refl _)) (fun x c e z=>by
     obtain ⟨v,o,ho,hd⟩:=J1.cell x c e
     rw [z,eD] at ho
     cases ho
     cases hd) fun p hp=>hx p (by simpa using hp)
    have J3:Inv (compCx X scope N' cells (s2.heap.objs.size+1) s2 H2 fp []) ([(s2.heap.objs.size,lobj (its++[y]) k')]++pinsAt fp s5'.heap) τ6 H8 { s8 with heap:=h' }:=J2.pins_of fun p hp=>by
     rcases List.mem_append.mp hp with z | z
     ·have e:p=(s2.heap.objs.size,lobj (its++[y]) k'):=by simpa using z
      subst e
      exact ⟨eD',nD,dL,dF,fun v z=>by cases z⟩
     ·exact J2.pin p (List.mem_append_right _ z)
    exact fin J3 (hv3.append (.cons r8 .nil)) (by rw [List.length_append,List.length_singleton];omega) q8
 exact codeAny_compStart_list loop (T.self X.A 0 s5 _ _ st5 loop)
end L2
namespace L2
open PySem PySem.Spec PyProof.Rows
structure Sure (J:It) (xs:List V) (ok:Hp->Prop):Prop where
 go:∀ i H,i < xs.length->ok H->J.go i H
 yld:∀ i H x H',i < xs.length->ok H->J.yld i H x H'->H'=H/\xs[i]? = some x
 stop:∀ H,ok H->J.stop xs.length H
theorem sure_list {K:W.Frag} {a:Addr} {xs:List V}:Sure (Itl K a) xs (fun H=>SqL K H a xs) where
 go:=fun i H hi h=>⟨xs,xs[i],h,by simp [hi]⟩
 yld:=fun i H x H' _ h y=>⟨y.1,y.2 xs h⟩
 stop:=fun H h=>⟨xs,h,Nat.le_refl _⟩
theorem Ve {K:W.Frag} {a:Addr} {xs:List V}:Sure (Itt K a) xs (fun H=>SqT K H a xs) where
 go:=fun i H hi h=>⟨xs,xs[i],h,by simp [hi]⟩
 yld:=fun i H x H' _ h y=>⟨y.1,y.2 xs h⟩
 stop:=fun H h=>⟨xs,h,Nat.le_refl _⟩
def rngV (lo:Int) (n:Nat):List V:=(List.range n).map fun (k:Nat)=>V.int (lo+k)
theorem qt (lo:Int) (n:Nat):(rngV lo n).length=n:=by unfold rngV;simp
theorem vi {lo:Int} {n:Nat}:Sure (Itr lo n) (rngV lo n) (fun _=>True) where
 go:=fun i H hi h=>by rw [qt] at hi;exact hi
 yld:=fun i H x H' hi h y=>⟨y.1,by
  obtain ⟨_,rfl⟩:=y
  rw [qt] at hi
  unfold rngV
  rw [List.getElem?_map,List.getElem?_range hi]
  rfl⟩
 stop:=fun H h=>by rw [qt];exact Nat.le_refl n
def sign (c:Nat):V:=.str ⟨#[c]⟩
def Its (x:Str):It:=⟨fun i _=>i < x.cps.size,fun i H v H'=>H'=H/\∃ c,x.cps[i]? = some c/\v=sign c,fun i _=>i=x.cps.size⟩
theorem sure_str {x:Str}:Sure (Its x) (x.cps.toList.map sign) (fun _=>True) where
 go:=fun i H hi h=>by
  rw [List.length_map] at hi
  exact hi
 yld:=fun i H v H' _ h y=>⟨y.1,by
  obtain ⟨_,c,e,rfl⟩:=y
  rw [List.getElem?_map,Array.getElem?_toList,e]
  rfl⟩
 stop:=fun H h=>by
  rw [List.length_map]
  rfl
theorem Ze {P:Program} {w:World} (it:Addr) (x:Str) (t:Tok) {A:Around} (hA:A.handled=none):Walks P w A it [it] [it] x.cps.size (SignAt x) (fun i h=>h.IsStrIter it (strIterType x) x t i):=by
 unfold strIterType
 split
 ·exact Walks.strAscii hA it x t
 ·exact Walks.strWide hA it x t
theorem qd1 {P:Program} {w:World} {it:Addr} {x:Str} {t:Tok} {A:Around} {i:Nat} {s:Shared} {Q:Value->Shared->Prop} {E:Value->Shared->Prop} (st:s.heap.IsStrIter it (strIterType x) x t i) (h:Q (.ref it) s):wpAny (model P w) A (pyIter (.ref it)) Q E s:=by
 unfold strIterType at st
 split at st
 ·exact wpAny_pyIter_striter_ascii st h
 ·exact wpAny_pyIter_striter_wide st h
theorem qf5 (x:Str):["enumerate","zip","dict_itemiterator","dict_reverseitemiterator","odict_iterator","itertools.zip_longest","itertools.pairwise"].contains (strIterType x)=false:=by
 unfold strIterType
 split <;> decide
theorem qd2 {P:Program} {w:World} {K:W.Frag} {tg:Expr} (it:Addr) (x:Str) (t:Tok):Turn P w K tg (Its x) [it] it (fun i h=>h.IsStrIter it (strIterType x) x t i) where
 mem:=by simp
 obj:=fun i h st b hb=>by
  have e:b=it:=by simpa using hb
  subst e
  obtain ⟨o,e,c,d⟩:=st
  exact ⟨o,e,fun v z=>by rw [d] at z;cases z⟩
 keep:=fun i h h' st k=>by
  obtain ⟨o,e,r⟩:=st
  exact ⟨o,k it (by simp) o e,r⟩
 item:=by
  intro X hP hw hK hc i pins s σ H E I hf st hg
  subst hP hw hK
  obtain ⟨f0,f1,f2,f3,f4,f5⟩:=hf it (by simp)
  refine (Ze it x t (I.ok.hd hc)).item i s _ _ hg st fun v h' tk hv st' kk=>?_
  obtain ⟨c,u,hcc,rfl⟩:=hv
  have I1:Inv X pins σ H { s with heap:=h',toks:=tk }:=I.turned (fun b o hb e=>kk b o (by simpa using hb) e) f0 f1 f3 f4 f5
  obtain ⟨o,e,cc,d⟩:=id st'
  exact ⟨_,rfl,qau (s:={ s with heap:=h',toks:=tk }) e cc d (qf5 x) ⟨sign c,H,I1,⟨u,rfl⟩,⟨rfl,c,hcc,rfl⟩,st',fun b hb=>(hf b hb).1⟩⟩
 done:=by
  intro X hP hw hK hc i pins s σ H E I hf st hg
  subst hP hw hK
  obtain ⟨f0,f1,f2,f3,f4,f5⟩:=hf it (by simp)
  have e:i=x.cps.size:=hg
  subst e
  exact (Ze it x t (I.ok.hd hc)).done s _ _ st fun h' tk kk=>⟨rfl,I.turned (fun b o hb e=>kk b o (by simpa using hb) e) f0 f1 f3 f4 f5⟩
 self:=fun _ _ _ _ _ st h=>qd1 st h
def iStr (tl:TE):TI:=fun σ H R=>tl σ H fun x H1=>∃ z,x=.str z/\R (Its z) H1
theorem yv {X:Cx} {tg l:Expr} {tl:TE} (hl:PE X l tl):PI X tg l (iStr tl):=by
 intro pins s σ H R I h
 refine thn (hl pins s σ H _ I h) fun v s1 ⟨x,H1,I1,r1,q1⟩=>?_
 obtain ⟨z,e,q⟩:=q1
 subst e
 obtain ⟨t,rfl⟩:=r1
 refine wpAny_pyIter_strU ?_
 refine ⟨s1.heap.objs.size,[s1.heap.objs.size],_,_,H1,rfl,I1.kept (t':=s1.toks) fun b o e=>Heap.get?_push_of_some _ e,qd2 _ z t,⟨_,Heap.get?_push_size _ rfl,rfl,rfl⟩,fun b hb=>?_,q⟩
 have e:b=s1.heap.objs.size:=by simpa using hb
 subst e
 exact I1.fpOk (Nat.le_refl _) (I1.hok.fresh (Nat.le_refl _))
theorem for_by {J:It} {xs:List V} {ok:Hp->Prop} {g:TG} {tb:TS} {D:Ends} {σ:St} {H:Hp} (S:Sure J xs ok) (Pv:Nat->St->Hp->Prop) (h0:Pv 0 σ H) (hl:∀ i σ H,i<=xs.length->Pv i σ H->ok H)
  (hs:∀ i x σ H,xs[i]? = some x->Pv i σ H->g x σ H fun σ2 H2=>tb { D with nx:=Pv (i+1),ct:=Pv (i+1),bk:=D.nx } σ2 H2) (hd:∀ σ H,Pv xs.length σ H->D.nx σ H) :
  ∃ W:Nat->Nat->St->Hp->Prop,(∃ m,W 0 m σ H)/\∀ i m σ H,W i m σ H ->
   (J.stop i H/\D.nx σ H)\/(J.go i H/\∃ N:St->Hp->Prop,(∀ σ' H',N σ' H'->∃ m',m' < m/\W (i+1) m' σ' H')/\∀ x H',J.yld i H x H'->g x σ H' fun σ2 H2=>tb { D with nx:=N,ct:=N,bk:=D.nx } σ2 H2):=by
 refine ⟨fun i m σ H=>m=xs.length - i/\i<=xs.length/\Pv i σ H,⟨xs.length,by simp,Nat.zero_le _,h0⟩,?_⟩
 rintro i m σ H ⟨rfl,hi,p⟩
 have q:=hl i σ H hi p
 by_cases hlt:i < xs.length
 ·refine .inr ⟨S.go i H hlt q,Pv (i+1),fun σ' H' p'=>⟨xs.length - (i+1),by omega,rfl,hlt,p'⟩,fun x H' y=>?_⟩
  obtain ⟨e,y'⟩:=S.yld i H x H' hlt q y
  subst e
  exact hs i x σ _ y' p
 ·have e:i=xs.length:=by omega
  subst e
  exact .inl ⟨S.stop H q,hd σ H p⟩
theorem qf6 {J:It} {xs:List V} {ok:Hp->Prop} {g:TG} {tc:TT} {te:TE} {Q:VK} {τ0:St} {H:Hp} (S:Sure J xs ok) (hz:xs.length<=10000) (Pv:Nat->List V->St->Hp->Prop) (h0:Pv 0 [] τ0 H)
  (hl:∀ i ys τ H,i<=xs.length->Pv i ys τ H->ok H/\ys.length<=i)
  (hs:∀ i x ys τ H,xs[i]? = some x->Pv i ys τ H->g x τ H fun τ2 H2=>tc τ2 H2 fun b H3=>if b=true then te τ2 H3 (fun y H4=>Pv (i+1) (ys++[y]) τ2 H4) else Pv (i+1) ys τ2 H3)
  (hd:∀ ys τ H D,Pv xs.length ys τ H->H D=none->Q (.ref D) (upd H D (.lst ys))) :
  ∃ W:Nat->Nat->List V->St->Hp->Prop,(∃ m,W 0 m [] τ0 H)/\∀ i m ys τ H,W i m ys τ H ->
   (J.stop i H/\∀ D,H D=none->Q (.ref D) (upd H D (.lst ys))) \/
   (J.go i H/\ys.length < sizeLine/\∃ N:List V->St->Hp->Prop,(∀ ys' τ' H',N ys' τ' H'->∃ m',m' < m/\W (i+1) m' ys' τ' H') /\
    ∀ x H',J.yld i H x H'->g x τ H' fun τ2 H2=>tc τ2 H2 fun b H3=>if b=true then te τ2 H3 (fun y H4=>N (ys++[y]) τ2 H4) else N ys τ2 H3):=by
 refine ⟨fun i m ys τ H=>m=xs.length - i/\i<=xs.length/\Pv i ys τ H,⟨xs.length,by simp,Nat.zero_le _,h0⟩,?_⟩
 rintro i m ys τ H ⟨rfl,hi,p⟩
 obtain ⟨q,hy⟩:=hl i ys τ H hi p
 by_cases hlt:i < xs.length
 ·refine .inr ⟨S.go i H hlt q,Nat.lt_of_lt_of_le (show ys.length < 10000 by omega) (by decide),Pv (i+1),fun ys' τ' H' p'=>⟨xs.length - (i+1),by omega,rfl,hlt,p'⟩,fun x H' y=>?_⟩
  obtain ⟨e,y'⟩:=S.yld i H x H' hlt q y
  subst e
  exact hs i x ys τ _ y' p
 ·have e:i=xs.length:=by omega
  subst e
  exact .inl ⟨S.stop H q,fun D hD=>hd ys τ H D p hD⟩
end L2
namespace L2
open PySem PySem.Spec PyProof.Rows
theorem Inv.newTup {X:Cx} {pins:List (Addr × Obj)} {σ:St} {H:Hp} {s:Shared} {ch:List Addr} {T:Addr} {xs:List V} {its:List Value} {h':Heap} {t':Nat} (I:Inv X pins σ H s) (hch:∀ b∈ch,FpOk X pins H b)
  (k:∀ b o,b ∉ ch->s.heap.get? b=some o->h'.get? b=some o) (hT:s.heap.objs.size<=T) (hv:Vals xs its) (ht:IsTup h' T its.toArray/\Bare h' T) (hz:xs.length<=sizeLine) :
  Inv X pins σ (upd H T (.tup xs)) { s with heap:=h',toks:=t' }:=by
 have neT:∀ b o,s.heap.get? b=some o->b≠T:=fun b o e=>Nat.ne_of_lt (Nat.lt_of_lt_of_le (Heap.lt_size e) hT)
 have neH:∀ b u,H b=some u->b≠T:=fun b u e=>Nat.ne_of_lt (Nat.lt_of_lt_of_le (I.hok.lt e) hT)
 have nch:∀ b u,H b=some u->b ∉ ch:=fun b u e hb=>by rw [(hch b hb).1] at e;cases e
 refine I.step (g':=s.gens) (d':=s.drawn) (ch:=ch) (fun b hb=>?_) (fun b o _ _ hc e _=>k b o hc e) (fun b o _ _ hc e _=>⟨o.slots,k b o hc e⟩) (fun b o _ e n=>?_) (fun b o hc e=>⟨o,k b o hc e⟩)
  (fun b ys e=>?_) (fun b o u e=>?_) (fun b ps e=>⟨#[],?_⟩) (fun m hm=>?_) (fun b u e=>?_) I.bare
 ·obtain ⟨_,a1,_,a2,a3,a4⟩:=hch b hb
  exact ⟨a2,a1,a3,a4⟩
 ·rw [qg (neT b o e)];exact n
 ·rw [qg (neH b _ e)];exact e
 ·rw [qg (neH b _ e)];exact e
 ·rw [qg (neH b _ e),e];simp
 ·obtain ⟨o,es,ep,ho,r⟩:=hm
  exact ⟨o,es,ep,k _ o (fun z=>(hch _ z).2.1 rfl) ho,r⟩
 ·by_cases hb:b=T
  ·subst hb
   rw [upd_same] at e
   cases e
   exact ⟨hz,its,hv,ht⟩
  ·rw [qg hb] at e
   refine (I.hok b u e).stay (fun c v hc q=>k c v ?_ q) (fun c q=>by rw [qg (neH c _ q)];exact q) fun c ys q=>by rw [qg (neH c _ q)];exact q
   rcases hc with z | z
   ·rw [z];exact nch b u e
   ·exact nch c _ z
def ItP (go:Nat->Hp->Prop) (stop:Nat->Hp->Prop) (at_:Nat->Hp->List V->Prop):It:=⟨go,fun i H v H'=>∃ T ys,H T=none/\v=.ref T/\at_ i H ys/\H'=upd H T (.tup ys),stop⟩
def Ite (K:W.Frag) (l:Addr):It:=ItP (fun i H=>∃ xs x,SqL K H l xs/\xs[i]? = some x) (fun i H=>∃ xs,SqL K H l xs/\xs.length=i) (fun i H ys=>∃ x,(∀ xs,SqL K H l xs->xs[i]? = some x)/\ys=[.int i,x])
def Itz (K:W.Frag) (l1 l2:Addr):It:=ItP (fun i H=>∃ xs x ys y,SqL K H l1 xs/\xs[i]? = some x/\SqL K H l2 ys/\ys[i]? = some y) (fun i H=>∃ xs ys,SqL K H l1 xs/\SqL K H l2 ys/\min xs.length ys.length=i)
 (fun i H vs=>∃ x y,(∀ xs,SqL K H l1 xs->xs[i]? = some x)/\(∀ ys,SqL K H l2 ys->ys[i]? = some y)/\vs=[x,y])
structure Sure2 (J:It) (xs:List (List V)) (ok:Hp->Prop):Prop where
 go:∀ i H,i < xs.length->ok H->J.go i H
 yld:∀ i H x H',i < xs.length->ok H->J.yld i H x H'->∃ T ys,H T=none/\x=.ref T/\H'=upd H T (.tup ys)/\xs[i]? = some ys
 stop:∀ H,ok H->J.stop xs.length H
theorem sure_enum {K:W.Frag} {l:Addr} {xs:List V}:Sure2 (Ite K l) (xs.zipIdx.map fun p=>[.int (p.2:Nat),p.1]) (fun H=>SqL K H l xs) where
 go:=fun i H hi h=>by
  have hi':i < xs.length:=by simpa using hi
  exact ⟨xs,xs[i],h,by simp [hi']⟩
 yld:=fun i H v H' hi h y=>by
  obtain ⟨T,ys,hT,rfl,⟨x,hx,rfl⟩,rfl⟩:=y
  exact ⟨T,_,hT,rfl,rfl,by rw [List.getElem?_map,List.getElem?_zipIdx,hx xs h];simp⟩
 stop:=fun H h=>⟨xs,h,by simp⟩
theorem qd3 {K:W.Frag} {l1 l2:Addr} {xs ys:List V}:Sure2 (Itz K l1 l2) ((xs.zip ys).map fun p=>[p.1,p.2]) (fun H=>SqL K H l1 xs/\SqL K H l2 ys) where
 go:=fun i H hi h=>by
  have hi':i < xs.length/\i < ys.length:=by simpa [Nat.lt_min] using hi
  exact ⟨xs,xs[i],ys,ys[i],h.1,by simp [hi'.1],h.2,by simp [hi'.2]⟩
 yld:=fun i H v H' hi h z=>by
  obtain ⟨T,vs,hT,rfl,⟨x,y,hx,hy,rfl⟩,rfl⟩:=z
  refine ⟨T,_,hT,rfl,rfl,?_⟩
  have e:(xs.zip ys)[i]? = some (x,y):=List.getElem?_zip_eq_some.mpr ⟨hx xs h.1,hy ys h.2⟩
  rw [List.getElem?_map,e]
  rfl
 stop:=fun H h=>⟨xs,ys,h.1,h.2,by simp⟩
theorem for_by2 {J:It} {xs:List (List V)} {ok:Hp->Prop} {g:TG} {tb:TS} {D:Ends} {σ:St} {H:Hp} (S:Sure2 J xs ok) (Pv:Nat->St->Hp->Prop) (h0:Pv 0 σ H) (hl:∀ i σ H,i<=xs.length->Pv i σ H->ok H)
  (hs:∀ i ys σ H T,xs[i]? = some ys->Pv i σ H->H T=none->g (.ref T) σ (upd H T (.tup ys)) fun σ2 H2=>tb { D with nx:=Pv (i+1),ct:=Pv (i+1),bk:=D.nx } σ2 H2) (hd:∀ σ H,Pv xs.length σ H->D.nx σ H) :
  ∃ W:Nat->Nat->St->Hp->Prop,(∃ m,W 0 m σ H)/\∀ i m σ H,W i m σ H ->
   (J.stop i H/\D.nx σ H)\/(J.go i H/\∃ N:St->Hp->Prop,(∀ σ' H',N σ' H'->∃ m',m' < m/\W (i+1) m' σ' H')/\∀ x H',J.yld i H x H'->g x σ H' fun σ2 H2=>tb { D with nx:=N,ct:=N,bk:=D.nx } σ2 H2):=by
 refine ⟨fun i m σ H=>m=xs.length - i/\i<=xs.length/\Pv i σ H,⟨xs.length,by simp,Nat.zero_le _,h0⟩,?_⟩
 rintro i m σ H ⟨rfl,hi,p⟩
 have q:=hl i σ H hi p
 by_cases hlt:i < xs.length
 ·refine .inr ⟨S.go i H hlt q,Pv (i+1),fun σ' H' p'=>⟨xs.length - (i+1),by omega,rfl,hlt,p'⟩,fun x H' y=>?_⟩
  obtain ⟨T,ys,hT,rfl,rfl,y'⟩:=S.yld i H x H' hlt q y
  exact hs i ys σ H T y' p hT
 ·have e:i=xs.length:=by omega
  subst e
  exact .inl ⟨S.stop H q,hd σ H p⟩
theorem qd4 {J:It} {xs:List (List V)} {ok:Hp->Prop} {g:TG} {tc:TT} {te:TE} {Q:VK} {τ0:St} {H:Hp} (S:Sure2 J xs ok) (hz:xs.length<=10000) (Pv:Nat->List V->St->Hp->Prop) (h0:Pv 0 [] τ0 H)
  (hl:∀ i ys τ H,i<=xs.length->Pv i ys τ H->ok H/\ys.length<=i)
  (hs:∀ i zs ys τ H T,xs[i]? = some zs->Pv i ys τ H->H T=none->g (.ref T) τ (upd H T (.tup zs)) fun τ2 H2=>tc τ2 H2 fun b H3=>if b=true then te τ2 H3 (fun y H4=>Pv (i+1) (ys++[y]) τ2 H4) else Pv (i+1) ys τ2 H3)
  (hd:∀ ys τ H D,Pv xs.length ys τ H->H D=none->Q (.ref D) (upd H D (.lst ys))) :
  ∃ W:Nat->Nat->List V->St->Hp->Prop,(∃ m,W 0 m [] τ0 H)/\∀ i m ys τ H,W i m ys τ H ->
   (J.stop i H/\∀ D,H D=none->Q (.ref D) (upd H D (.lst ys))) \/
   (J.go i H/\ys.length < sizeLine/\∃ N:List V->St->Hp->Prop,(∀ ys' τ' H',N ys' τ' H'->∃ m',m' < m/\W (i+1) m' ys' τ' H') /\
    ∀ x H',J.yld i H x H'->g x τ H' fun τ2 H2=>tc τ2 H2 fun b H3=>if b=true then te τ2 H3 (fun y H4=>N (ys++[y]) τ2 H4) else N ys τ2 H3):=by
 refine ⟨fun i m ys τ H=>m=xs.length - i/\i<=xs.length/\Pv i ys τ H,⟨xs.length,by simp,Nat.zero_le _,h0⟩,?_⟩
 rintro i m ys τ H ⟨rfl,hi,p⟩
 obtain ⟨q,hy⟩:=hl i ys τ H hi p
 by_cases hlt:i < xs.length
 ·refine .inr ⟨S.go i H hlt q,Nat.lt_of_lt_of_le (show ys.length < 10000 by omega) (by decide),Pv (i+1),fun ys' τ' H' p'=>⟨xs.length - (i+1),by omega,rfl,hlt,p'⟩,fun x H' y=>?_⟩
  obtain ⟨T,zs,hT,rfl,rfl,y'⟩:=S.yld i H x H' hlt q y
  exact hs i zs ys τ H T y' p hT
 ·have e:i=xs.length:=by omega
  subst e
  exact .inl ⟨S.stop H q,fun D hD=>hd ys τ H D p hD⟩
theorem qa2 {P:Program} {w:World} {A:Around} (e it l:Addr) (hei:e≠it) (hle:l≠e) (hli:l≠it) (its:Array Value) (i:Nat) (s:Shared) (Q:Option Value->Shared->Prop) (E:Value->Shared->Prop) (hi:i < its.size)
  (st:(∃ old,IsEnum s.heap e it i old)/\s.heap.IsListIter it l i/\s.heap.IsList l its)
  (q : ∀ T vals h' tk,(∃ t x,its[i]? = some x/\vals = #[.int i t,x])->s.heap.objs.size<=T->h'.IsTuple T vals/\Bare h' T ->
   ((∃ x,IsEnumOut h' e it ((i:Int)+1) x T)/\h'.IsListIter it l (i+1)/\h'.IsList l its/\T≠e/\T≠it)->(∀ b o,b ∉ [e,it]->s.heap.get? b=some o->h'.get? b=some o)->Q (some (.ref T)) { s with heap:=h',toks:=tk }) :
  wpAny (model P w) A (pyNext (.ref e)) Q E s:=by
 obtain ⟨⟨old,st1⟩,st2,st3⟩:=st
 have hu:its[i]? = some its[i]:=Array.getElem?_eq_getElem hi
 refine wpAny_pyNext_enum_item st1 st2 st3 hu hei fun g y1 y2 y3 y4 y5=>?_
 have n1:e < s.heap.objs.size:=Heap.lt_size st1
 have n2:it < s.heap.objs.size:=by
  obtain ⟨_,z,_⟩:=st2
  exact Heap.lt_size z
 refine q s.heap.objs.size #[.int i s.toks,its[i]] g (s.toks+1) ⟨_,_,hu,rfl⟩ (Nat.le_refl _) ⟨⟨_,y3,rfl,_,rfl⟩,_,y3,rfl⟩ ⟨⟨_,y1⟩,y2,st3.at fun o z=>y5 l o hle hli z,Nat.ne_of_gt n1,Nat.ne_of_gt n2⟩ fun b o nb z=>y5 b o (fun c=>nb ?_) (fun c=>nb ?_) z
 ·rw [c];exact List.mem_cons_self
 ·rw [c];exact List.mem_cons_of_mem _ List.mem_cons_self
theorem qca {P:Program} {w:World} {A:Around} (z TI TO i1 i2 l1 l2:Addr) (D:ZipApart z TI TO i1 i2 l1 l2) (xs ys:Array Value) (i:Nat) (s:Shared) (Q:Option Value->Shared->Prop) (E:Value->Shared->Prop) (hi:i < min xs.size ys.size)
  (st:IsZip s.heap z TI TO .none/\IsPair s.heap TI (.ref i1) (.ref i2)/\(∃ a b,IsPair s.heap TO a b)/\s.heap.IsListIter i1 l1 i/\s.heap.IsListIter i2 l2 i/\s.heap.IsList l1 xs/\s.heap.IsList l2 ys)
  (q : ∀ T vals h' tk,(∃ x y,xs[i]? = some x/\ys[i]? = some y/\vals = #[x,y])->s.heap.objs.size<=T->h'.IsTuple T vals/\Bare h' T ->
   (IsZip h' z TI TO (rawInt T)/\IsPair h' TI (.ref i1) (.ref i2)/\(∃ a b,IsPair h' TO a b)/\h'.IsListIter i1 l1 (i+1)/\h'.IsListIter i2 l2 (i+1)/\h'.IsList l1 xs/\h'.IsList l2 ys/\T≠z/\T≠TO/\T≠i1/\T≠i2) ->
   (∀ b o,b ∉ [z,TO,i1,i2]->s.heap.get? b=some o->h'.get? b=some o)->Q (some (.ref T)) { s with heap:=h',toks:=tk }) :
  wpAny (model P w) A (pyNext (.ref z)) Q E s:=by
 obtain ⟨k1,k2,⟨a,b,k3⟩,k4,k5,k6,k7⟩:=st
 have e1:xs[i]? = some (xs[i]'(by omega)):=Array.getElem?_eq_getElem (by omega)
 have e2:ys[i]? = some (ys[i]'(by omega)):=Array.getElem?_eq_getElem (by omega)
 refine wpAny_pyNext_zip_item D k1 k2 k3 k4 k5 k6 k7 e1 e2 fun g y1 y2 y3 y4 y5 y6 y7=>?_
 have nn:∀ {c o},s.heap.get? c=some o->s.heap.objs.size≠c:=fun m=>Nat.ne_of_gt (Heap.lt_size m)
 have n3:s.heap.objs.size≠i1:=by
  obtain ⟨_,m,_⟩:=k4
  exact nn m
 have n4:s.heap.objs.size≠i2:=by
  obtain ⟨_,m,_⟩:=k5
  exact nn m
 refine q s.heap.objs.size _ g s.toks ⟨_,_,e1,e2,rfl⟩ (Nat.le_refl _) ⟨⟨_,y5,rfl,_,rfl⟩,_,y5,rfl⟩ ⟨y1,y7 _ _ D.TIz D.TITO D.TIi1 D.TIi2 k2,⟨_,_,y2⟩,y3,y4,k6.at fun o m=>y7 _ o D.l1z D.l1TO D.l1i1 D.l1i2 m,k7.at fun o m=>y7 _ o D.l2z D.l2TO D.l2i1 D.l2i2 m,nn k1,nn k3,n3,n4⟩ fun c o nc m=>?_
 simp only [List.mem_cons,List.not_mem_nil,or_false,not_or] at nc
 exact y7 c o nc.1 nc.2.1 nc.2.2.1 nc.2.2.2 m
theorem qcb {P:Program} {w:World} {K:W.Frag} {elts:List Expr} {k:Nat} {pos:Pos} (l e it:Addr) (hei:e≠it):Turn P w K (.Tuple elts k pos) (Ite K l) [e,it] e (fun i h=>(∃ old,IsEnum h e it i old)/\h.IsListIter it l i) where
 mem:=by simp
 obj:=fun i h st b hb=>by
  obtain ⟨⟨old,he⟩,o,ho,c,d⟩:=st
  rcases List.mem_cons.mp hb with z | z
  ·subst z;exact ⟨_,he,fun v z=>by cases z⟩
  ·have z:b=it:=by simpa using z
   subst z
   exact ⟨o,ho,fun v z=>by rw [d] at z;cases z⟩
 keep:=fun i h h' st kk=>by
  obtain ⟨⟨old,he⟩,hit⟩:=st
  exact ⟨⟨old,kk e (by simp) _ he⟩,hit.at fun o x=>kk it (by simp) o x⟩
 item:=by
  intro X hP hw hK hc i pins s σ H E I hf st hg
  subst hP hw hK
  obtain ⟨xs,x,hq,hx⟩:=hg
  obtain ⟨its,rv,p,hz⟩:=I.list hq
  obtain ⟨u,hu,ru⟩:=rv.get hx
  obtain ⟨st1,st2⟩:=st
  have hll:∃ o,s.heap.get? l=some o:=let ⟨o,ho,_⟩:=p.isList;⟨o,ho⟩
  have hle:l≠e:=fun z=>by
   obtain ⟨old,he⟩:=st1
   obtain ⟨o,ho,hc,_⟩:=p.isList
   rw [z,he] at ho;cases ho;exact absurd (Value.type.inj hc) (by decide)
  have hli:l≠it:=fun z=>by
   obtain ⟨o',ho',hc',_⟩:=st2
   obtain ⟨o,ho,hc,_⟩:=p.isList
   rw [z,ho'] at ho;cases ho;rw [hc'] at hc;exact absurd (Value.type.inj hc) (by decide)
  have W:=WalksT.enumerate (prog:=X.prog) (w:=X.w) (I.ok.hd hc) e it l hei hle hli its.toArray
  refine qa2 e it l hei hle hli its.toArray i s _ _ (by have:=(List.getElem?_eq_some_iff.mp hu).1;simpa using this) ⟨st1,st2,p.isList⟩ fun T vals h' tk hP hT hTu hM kk=>?_
  obtain ⟨t,x',hx',rfl⟩:=hP
  refine ⟨_,rfl,?_⟩
  refine W.go elts k pos i T { s with heap:=h',toks:=tk } _ _ hM fun h2 st' kk2=>?_
  have eu:x'=u:=by
   have:its[i]? = some x':=by simpa using hx'
   rw [hu] at this;exact (Option.some.inj this).symm
  subst eu
  have nT:T ∉ [e,it]:=W.apart i T h' hM
  refine ⟨.ref T,upd H T (.tup [.int i,x]),I.newTup (ch:=[e,it]) (its:=[.int i t,x']) hf (fun b o hb eb=>kk2 b o hb (kk b o hb eb)) hT (.cons ⟨t,rfl⟩ (.cons ru .nil)) ?_ (by show 2<=sizeLine;decide),rfl,
   ⟨T,_,I.hok.fresh hT,rfl,⟨x,fun ys hy=>by rw [I.list_inj hy hq];exact hx,rfl⟩,rfl⟩,⟨by simpa using st'.1,st'.2.1⟩,fun b hb=>?_⟩
  ·obtain ⟨⟨o,ho,r⟩,o',ho',r'⟩:=hTu
   exact ⟨⟨o,kk2 T o nT ho,r⟩,o',kk2 T o' nT ho',r'⟩
  ·have nb:b≠T:=fun z=>nT (by rw [<- z];exact hb)
   rw [qg nb];exact (hf b hb).1
 done:=by
  intro X hP hw hK hc i pins s σ H E I hf st hg
  subst hP hw hK
  obtain ⟨xs,hq,hx⟩:=hg
  obtain ⟨its,rv,p,hz⟩:=I.list hq
  obtain ⟨⟨old,he⟩,st2⟩:=st
  have hl:=rv.length
  refine wpAny_pyNext_enum_end (I.ok.hd hc) he st2 p.isList (by simp;omega) fun h' kk=>⟨rfl,?_⟩
  obtain ⟨f0,f1,f2,f3,f4,f5⟩:=hf it (by simp)
  exact I.turned (t':=s.toks) (fun b o hb e=>kk b o hb e) f0 f1 f3 f4 f5
 self:=fun _ _ _ _ _ st h=>by
  obtain ⟨⟨old,he⟩,_⟩:=st
  exact wpAny_pyIter_enum he h
def iEnum (K:W.Frag) (ta:TA):TI:=fun σ H R=>ta σ H fun vs H1=>∃ a,vs=[.ref a]/\(∃ xs,SqL K H1 a xs)/\R (Ite K a) H1
theorem pi_enum {X:Cx} {l:Expr} {ta:TA} {elts:List Expr} {k:Nat} {tp p pos:Pos} (hg:Gl X "enumerate") (hm:X.mg "enumerate" = none) (hl:PA X [l] ta) (hs:starEach [l] X.env=[(false,eval l X.env)]:=by rfl) :
  PI X (.Tuple elts k tp) (.Call (.Name "enumerate" p) [l] [] pos) (iEnum X.K ta):=by
 intro pins s σ H R I h
 refine Call_ (ld_blt I hg hm (by first | exact boot_enumerate | decide +kernel) (PyProof.Rows.callWith_type1 (thn (hl pos pins s σ H _ I h) fun us s1 ⟨vs,H1,I1,r1,q1⟩=>?_) hs rfl))
 obtain ⟨a,e,⟨xs,hq⟩,q⟩:=q1
 subst e
 cases r1 with
 | cons r rr =>
  cases rr
  cases r
  obtain ⟨its,rv,p,hz⟩:=I1.list hq
  refine call_enumerate_list p.isList fun h' he hi hsz kk=>?_
  have I2:Inv X pins σ H1 { s1 with heap:=h' }:=I1.kept (t':=s1.toks) kk
  refine wpAny_pyIter_enum (s:={ s1 with heap:=h' }) he ?_
  refine ⟨s1.heap.objs.size+1,[s1.heap.objs.size+1,s1.heap.objs.size],_,_,H1,rfl,I2,qcb a _ _ (Nat.succ_ne_self _),⟨⟨_,he⟩,hi⟩,fun b hb=>?_,q⟩
  have:s1.heap.objs.size<=b:=by
   rcases List.mem_cons.mp hb with z | z
   ·rw [z];exact Nat.le_succ _
   ·have z:b=s1.heap.objs.size:=by simpa using z
    rw [z];exact Nat.le_refl _
  exact I1.fpOk this (I1.hok.fresh this)
theorem qd5 {P:Program} {w:World} {K:W.Frag} {elts:List Expr} {k:Nat} {pos:Pos} (l1 l2 z TI TO i1 i2:Addr) (d1:TI≠z) (d2:TO≠z) (d3:i1≠z) (d4:i2≠z) (d5:TI≠TO) (d6:TI≠i1) (d7:TI≠i2) (d8:TO≠i1) (d9:TO≠i2) (d10:i1≠i2) :
  Turn P w K (.Tuple elts k pos) (Itz K l1 l2) [z,TI,TO,i1,i2] z (fun i h=>IsZip h z TI TO .none/\IsPair h TI (.ref i1) (.ref i2)/\(∃ a b,IsPair h TO a b)/\h.IsListIter i1 l1 i/\h.IsListIter i2 l2 i):=by
 have ap:∀ {h:Heap} {i:Nat} {xs:Array Value} {l:Addr},h.IsList l xs->IsZip h z TI TO .none->IsPair h TI (.ref i1) (.ref i2)->(∃ a b,IsPair h TO a b)->h.IsListIter i1 l1 i->h.IsListIter i2 l2 i->l≠z/\l≠TO/\l≠i1/\l≠i2:=by
  intro h i xs l hl h1 h2 h3 h4 h5
  obtain ⟨o,ho,hc,_⟩:=hl
  refine ⟨fun e=>?_,fun e=>?_,fun e=>?_,fun e=>?_⟩
  ·rw [e,h1] at ho;cases ho;exact absurd (Value.type.inj hc) (by decide)
  ·obtain ⟨a,b,h3⟩:=h3
   rw [e,h3] at ho;cases ho;exact absurd (Value.type.inj hc) (by decide)
  ·obtain ⟨o',ho',hc',_⟩:=h4
   rw [e,ho'] at ho;cases ho;rw [hc'] at hc;exact absurd (Value.type.inj hc) (by decide)
  ·obtain ⟨o',ho',hc',_⟩:=h5
   rw [e,ho'] at ho;cases ho;rw [hc'] at hc;exact absurd (Value.type.inj hc) (by decide)
 exact {
  mem:=by simp
  obj:=fun i h st b hb=>by
   obtain ⟨h1,h2,⟨a,b',h3⟩,⟨o4,e4,c4,q4⟩,⟨o5,e5,c5,q5⟩⟩:=st
   have hb':b=z\/b=TI\/b=TO\/b=i1\/b=i2:=by simpa using hb
   rcases hb' with e | e | e | e | e
   ·rw [e];exact ⟨_,h1,fun v z=>by cases z⟩
   ·rw [e];exact ⟨_,h2,fun v z=>by cases z⟩
   ·rw [e];exact ⟨_,h3,fun v z=>by cases z⟩
   ·rw [e];exact ⟨o4,e4,fun v z=>by rw [q4] at z;cases z⟩
   ·rw [e];exact ⟨o5,e5,fun v z=>by rw [q5] at z;cases z⟩
  keep:=fun i h h' st kk=>by
   obtain ⟨h1,h2,⟨a,b',h3⟩,h4,h5⟩:=st
   exact ⟨kk z (by simp) _ h1,kk TI (by simp) _ h2,⟨a,b',kk TO (by simp) _ h3⟩,h4.at fun o x=>kk i1 (by simp) o x,h5.at fun o x=>kk i2 (by simp) o x⟩
  item:=by
   intro X hP hw hK hc i pins s σ H E I hf st hg
   subst hP hw hK
   obtain ⟨xs,x,ys,y,hq1,hx,hq2,hy⟩:=hg
   obtain ⟨its1,rv1,p1,hz1⟩:=I.list hq1
   obtain ⟨its2,rv2,p2,hz2⟩:=I.list hq2
   obtain ⟨u,hu,ru⟩:=rv1.get hx
   obtain ⟨v,hv,rv⟩:=rv2.get hy
   obtain ⟨h1,h2,h3,h4,h5⟩:=st
   obtain ⟨n1,n2,n3,n4⟩:=ap p1.isList h1 h2 h3 h4 h5
   obtain ⟨m1,m2,m3,m4⟩:=ap p2.isList h1 h2 h3 h4 h5
   have W:=WalksT.zip2 (prog:=X.prog) (w:=X.w) (I.ok.hd hc) z TI TO i1 i2 l1 l2 ⟨d1,d2,d3,d4,d5,d6,d7,d8,d9,d10,n1,n2,n3,n4,m1,m2,m3,m4⟩ its1.toArray its2.toArray
   refine qca z TI TO i1 i2 l1 l2 ⟨d1,d2,d3,d4,d5,d6,d7,d8,d9,d10,n1,n2,n3,n4,m1,m2,m3,m4⟩ its1.toArray its2.toArray i s _ _ (by have a1:=(List.getElem?_eq_some_iff.mp hu).1;have a2:=(List.getElem?_eq_some_iff.mp hv).1;simp;omega) ⟨h1,h2,h3,h4,h5,p1.isList,p2.isList⟩ fun T vals h' tk hP hT hTu hM kk=>?_
   obtain ⟨x',y',hx',hy',rfl⟩:=hP
   refine ⟨_,rfl,?_⟩
   refine W.go elts k pos i T { s with heap:=h',toks:=tk } _ _ hM fun h2' st' kk2=>?_
   have eu:x'=u:=by
    have:its1[i]? = some x':=by simpa using hx'
    rw [hu] at this;exact (Option.some.inj this).symm
   have ev:y'=v:=by
    have:its2[i]? = some y':=by simpa using hy'
    rw [hv] at this;exact (Option.some.inj this).symm
   subst eu ev
   have nT:T ∉ [z,TO,i1,i2]:=W.apart i T h' hM
   have sub:∀ b,b ∉ [z,TI,TO,i1,i2]->b ∉ [z,TO,i1,i2]:=fun b hb hb'=>hb (W.sub b hb' |> fun q=>by
    simp at hb' ⊢
    rcases hb' with e | e | e | e <;> simp [e])
   have nTI:T≠TI:=Nat.ne_of_gt (Nat.lt_of_lt_of_le (Heap.lt_size h2) hT)
   refine ⟨.ref T,upd H T (.tup [x,y]),I.newTup (ch:=[z,TI,TO,i1,i2]) (its:=[x',y']) hf (fun b o hb eb=>kk2 b o (sub b hb) (kk b o (sub b hb) eb)) hT (.cons ru (.cons rv .nil)) ?_ (by show 2<=sizeLine;decide),rfl,
    ⟨T,_,I.hok.fresh hT,rfl,⟨x,y,fun zs hz=>by rw [I.list_inj hz hq1];exact hx,fun zs hz=>by rw [I.list_inj hz hq2];exact hy,rfl⟩,rfl⟩,⟨st'.1,st'.2.1,st'.2.2.1,st'.2.2.2.1,st'.2.2.2.2.1⟩,fun b hb=>?_⟩
   ·obtain ⟨⟨o,ho,r⟩,o',ho',r'⟩:=hTu
    exact ⟨⟨o,kk2 T o nT ho,r⟩,o',kk2 T o' nT ho',r'⟩
   ·have nb:b≠T:=fun q=>by
     have hb':b=z\/b=TI\/b=TO\/b=i1\/b=i2:=by simpa using hb
     rw [q] at hb'
     rcases hb' with e | e | e | e | e
     ·exact nT (by simp [e])
     ·exact nTI e
     ·exact nT (by simp [e])
     ·exact nT (by simp [e])
     ·exact nT (by simp [e])
    rw [qg nb];exact (hf b hb).1
  done:=by
   intro X hP hw hK hc i pins s σ H E I hf st hg
   subst hP hw hK
   obtain ⟨xs,ys,hq1,hq2,hi⟩:=hg
   obtain ⟨its1,rv1,p1,hz1⟩:=I.list hq1
   obtain ⟨its2,rv2,p2,hz2⟩:=I.list hq2
   obtain ⟨h1,h2,h3,h4,h5⟩:=st
   obtain ⟨n1,n2,n3,n4⟩:=ap p1.isList h1 h2 h3 h4 h5
   obtain ⟨m1,m2,m3,m4⟩:=ap p2.isList h1 h2 h3 h4 h5
   have W:=WalksT.zip2 (prog:=X.prog) (w:=X.w) (I.ok.hd hc) z TI TO i1 i2 l1 l2 ⟨d1,d2,d3,d4,d5,d6,d7,d8,d9,d10,n1,n2,n3,n4,m1,m2,m3,m4⟩ its1.toArray its2.toArray
   have e:i=min its1.toArray.size its2.toArray.size:=by
    have:=rv1.length;have:=rv2.length;simp;omega
   subst e
   refine W.done s _ _ ⟨h1,h2,h3,h4,h5,p1.isList,p2.isList⟩ fun h' tk kk=>⟨rfl,?_⟩
   refine I.step (g':=s.gens) (d':=s.drawn) (ch:=[z,TO,i1,i2]) (fun b hb=>?_) (fun b o _ _ hc e _=>kk b o hc e) (fun b o _ _ hc e _=>⟨o.slots,kk b o hc e⟩) (fun _ _ _ _ n=>n)
    (fun b o hc e=>⟨o,kk b o hc e⟩) (fun _ _ e=>e) (fun _ _ _ e=>e) (fun b ps e=>⟨#[],by rw [e];simp⟩) (fun m hm=>?_) (fun b u e=>?_) I.bare
   ·obtain ⟨_,a1,_,a2,a3,a4⟩:=hf b (by simp at hb ⊢;rcases hb with e | e | e | e <;> simp [e])
    exact ⟨a2,a1,a3,a4⟩
   ·obtain ⟨o,es,ep,ho,r⟩:=hm
    exact ⟨o,es,ep,kk _ o (fun q=>(hf _ (by simp at q ⊢;rcases q with e | e | e | e <;> simp [e])).2.1 rfl) ho,r⟩
   ·have nch:∀ b u,H b=some u->b ∉ [z,TO,i1,i2]:=fun b u e hb=>by
     rw [(hf b (by simp at hb ⊢;rcases hb with e | e | e | e <;> simp [e])).1] at e;cases e
    refine (I.hok b u e).stay (fun c v hc q=>kk c v ?_ q) (fun _ q=>q) fun _ _ q=>q
    rcases hc with z' | z'
    ·rw [z'];exact nch b u e
    ·exact nch c _ z'
  self:=fun _ _ _ _ _ st h=>wpAny_pyIter_zip st.1 h }
def iZip (K:W.Frag) (ta:TA):TI:=fun σ H R=>ta σ H fun vs H1=>∃ a b,vs=[.ref a,.ref b]/\(∃ xs,SqL K H1 a xs)/\(∃ ys,SqL K H1 b ys)/\R (Itz K a b) H1
theorem pi_zip {X:Cx} {l l':Expr} {ta:TA} {elts:List Expr} {k:Nat} {tp p pos:Pos} (hg:Gl X "zip") (hm:X.mg "zip" = none) (hl:PA X [l,l'] ta) (hs:starEach [l,l'] X.env=[(false,eval l X.env),(false,eval l' X.env)]:=by rfl) (hs2:starEach [l'] X.env=[(false,eval l' X.env)]:=by rfl) :
  PI X (.Tuple elts k tp) (.Call (.Name "zip" p) [l,l'] [] pos) (iZip X.K ta):=by
 intro pins s σ H R I h
 refine Call_ (ld_blt I hg hm (by first | exact boot_zip | decide +kernel) (PyProof.Rows.callWith_type1 (thn (hl pos pins s σ H _ I h) fun us s1 ⟨vs,H1,I1,r1,q1⟩=>?_) (by rw [hs,hs2]) (by rw [hs2];rfl)))
 obtain ⟨a,b,e,⟨xs,hq1⟩,⟨ys,hq2⟩,q⟩:=q1
 subst e
 cases r1 with
 | cons r rr =>
  cases rr with
  | cons r' rr =>
   cases rr
   cases r
   cases r'
   obtain ⟨its,rv,p,hz⟩:=I1.list hq1
   obtain ⟨its2,rv2,p2,hz2⟩:=I1.list hq2
   refine call_zip_2 p.isList p2.isList fun h' hz' hTI hTO hi1 hi2 hsz kk=>?_
   have I2:Inv X pins σ H1 { s1 with heap:=h' }:=I1.kept (t':=s1.toks) kk
   refine wpAny_pyIter_zip (s:={ s1 with heap:=h' }) hz' ?_
   refine ⟨s1.heap.objs.size+4,[s1.heap.objs.size+4,s1.heap.objs.size+2,s1.heap.objs.size+3,s1.heap.objs.size,s1.heap.objs.size+1],_,_,H1,rfl,I2,
    qd5 a b _ _ _ _ _ (by simp) (by simp) (by simp) (by simp) (by simp) (by simp) (by simp) (by simp) (by simp) (by simp),⟨hz',hTI,⟨_,_,hTO⟩,hi1,hi2⟩,fun c hb=>?_,q⟩
   have:s1.heap.objs.size<=c:=by
    have hb':c=s1.heap.objs.size+4\/c=s1.heap.objs.size+2\/c=s1.heap.objs.size+3\/c=s1.heap.objs.size\/c=s1.heap.objs.size+1:=by simpa using hb
    rcases hb' with e | e | e | e | e <;> rw [e] <;> first | exact Nat.le_refl _ | exact Nat.le_add_right _ _
   exact I1.fpOk this (I1.hok.fresh this)
theorem jq {J:It} {xs:List V} {ok:Hp->Prop} {g:TG} {te:TE} {Q:VK} {τ0:St} {H:Hp} (S:Sure J xs ok) (hz:xs.length<=10000) (Pv:Nat->List V->St->Hp->Prop) (h0:Pv 0 [] τ0 H)
  (hl:∀ i ys τ H,i<=xs.length->Pv i ys τ H->ok H/\ys.length<=i)
  (hs:∀ i x ys τ H,xs[i]? = some x->Pv i ys τ H->g x τ H fun τ2 H2=>te τ2 H2 (fun y H4=>Pv (i+1) (ys++[y]) τ2 H4))
  (hd:∀ ys τ H D,Pv xs.length ys τ H->H D=none->Q (.ref D) (upd H D (.lst ys))) :
  ∃ W:Nat->Nat->List V->St->Hp->Prop,(∃ m,W 0 m [] τ0 H)/\∀ i m ys τ H,W i m ys τ H ->
   (J.stop i H/\∀ D,H D=none->Q (.ref D) (upd H D (.lst ys))) \/
   (J.go i H/\ys.length < sizeLine/\∃ N:List V->St->Hp->Prop,(∀ ys' τ' H',N ys' τ' H'->∃ m',m' < m/\W (i+1) m' ys' τ' H') /\
    ∀ x H',J.yld i H x H'->g x τ H' fun τ2 H2=>tAll τ2 H2 fun b H3=>if b=true then te τ2 H3 (fun y H4=>N (ys++[y]) τ2 H4) else N ys τ2 H3) :=
 qf6 S hz Pv h0 hl (fun i x ys τ H e p=>by
  have:=hs i x ys τ H e p
  have e2:(fun (τ2:St) (H2:Hp)=>tAll τ2 H2 fun b H3=>if b=true then te τ2 H3 (fun y H4=>Pv (i+1) (ys++[y]) τ2 H4) else Pv (i+1) ys τ2 H3)=fun τ2 H2=>te τ2 H2 (fun y H4=>Pv (i+1) (ys++[y]) τ2 H4):=by
   funext τ2 H2
   unfold tAll
   exact if_pos rfl
  rw [e2]
  exact this) hd
theorem qcc {J:It} {xs:List (List V)} {ok:Hp->Prop} {g:TG} {te:TE} {Q:VK} {τ0:St} {H:Hp} (S:Sure2 J xs ok) (hz:xs.length<=10000) (Pv:Nat->List V->St->Hp->Prop) (h0:Pv 0 [] τ0 H)
  (hl:∀ i ys τ H,i<=xs.length->Pv i ys τ H->ok H/\ys.length<=i)
  (hs:∀ i zs ys τ H T,xs[i]? = some zs->Pv i ys τ H->H T=none->g (.ref T) τ (upd H T (.tup zs)) fun τ2 H2=>te τ2 H2 (fun y H4=>Pv (i+1) (ys++[y]) τ2 H4))
  (hd:∀ ys τ H D,Pv xs.length ys τ H->H D=none->Q (.ref D) (upd H D (.lst ys))) :
  ∃ W:Nat->Nat->List V->St->Hp->Prop,(∃ m,W 0 m [] τ0 H)/\∀ i m ys τ H,W i m ys τ H ->
   (J.stop i H/\∀ D,H D=none->Q (.ref D) (upd H D (.lst ys))) \/
   (J.go i H/\ys.length < sizeLine/\∃ N:List V->St->Hp->Prop,(∀ ys' τ' H',N ys' τ' H'->∃ m',m' < m/\W (i+1) m' ys' τ' H') /\
    ∀ x H',J.yld i H x H'->g x τ H' fun τ2 H2=>tAll τ2 H2 fun b H3=>if b=true then te τ2 H3 (fun y H4=>N (ys++[y]) τ2 H4) else N ys τ2 H3) :=
 qd4 S hz Pv h0 hl (fun i zs ys τ H T e p hT=>by
  have:=hs i zs ys τ H T e p hT
  have e2:(fun (τ2:St) (H2:Hp)=>tAll τ2 H2 fun b H3=>if b=true then te τ2 H3 (fun y H4=>Pv (i+1) (ys++[y]) τ2 H4) else Pv (i+1) ys τ2 H3)=fun τ2 H2=>te τ2 H2 (fun y H4=>Pv (i+1) (ys++[y]) τ2 H4):=by
   funext τ2 H2
   unfold tAll
   exact if_pos rfl
  rw [e2]
  exact this) hd
end L2
namespace L2
open PySem PySem.Spec PyProof.Rows
section
variable {X:Cx}
theorem zo:∀ {ss:List Str} {us:List Value},Vals (ss.map V.str) us->StrsAre us ss
 | [],_,r=>by cases r;exact .nil
 | x :: ss,_,r=>by
  cases r with
  | cons h r =>
   obtain ⟨t,rfl⟩:=h
   exact .cons x t (zo r)
theorem Zf:∀ {ss:List Str} {us:List Value},StrsAre us ss->Vals (ss.map V.str) us
 | _,_,.nil=>.nil
 | _,_,.cons y t r=>.cons ⟨t,rfl⟩ (Zf r)
theorem Vf:∀ {xs:List V} {us:List Value},xs.length=us.length->(∀ (i:Nat) x u,xs[i]? = some x->us[i]? = some u->RelV x u)->Vals xs us
 | [],[],_,_=>.nil
 | [],_ :: _,h,_=>by cases h
 | _ :: _,[],h,_=>by cases h
 | x :: xs,u :: us,h,k=>.cons (k 0 x u rfl rfl) (Vf (Nat.succ.inj h) fun i y v e1 e2=>k (i+1) y v e1 e2)
theorem qf7:∀ {kvs:List (Key × V)} {vs:List (Key × Value)} {i:Nat} {k:Key} {x:Value},KV kvs vs->vs[i]? = some (k,x)->∃ k' v',kvs[i]? = some (k',v')/\k'=k
 | [],[],i,_,_,_,e=>by cases i <;> cases e
 | p :: kvs,q :: vs,0,k,x,h,e=>by
  cases h with
  | cons h1 h2 =>
   have e':q=(k,x):=Option.some.inj e
   subst e'
   exact ⟨p.1,p.2,rfl,h1.1⟩
 | p :: kvs,q :: vs,i+1,k,x,h,e=>by
  cases h with
  | cons h1 h2=>exact qf7 (i:=i) h2 e
theorem ObjOk.there {P:Program} {w:World} {H:Hp} {h:Heap} {a:Addr} {o:HO} (x:ObjOk P w H h a o):∃ ob,h.get? a=some ob:=by
 cases o with
 | lst xs=>obtain ⟨_,_,_,_,e⟩:=x;exact ⟨_,e⟩
 | tup xs=>obtain ⟨_,_,_,⟨ob,e,_⟩,_⟩:=x;exact ⟨_,e⟩
 | dK kvs=>obtain ⟨_,_,_,_,ob,_,_,e,_⟩:=x;exact ⟨_,e⟩
 | dT kvs=>obtain ⟨_,_,_,_,ob,_,_,e,_⟩:=x;exact ⟨_,e⟩
 | set S n=>obtain ⟨ob,_,_,_,e,_⟩:=x;exact ⟨_,e⟩
 | ins C dx fs=>obtain ⟨_,_,_,e,_⟩:=x;exact ⟨_,e⟩
 | own _=>exact x
 | xd fs=>obtain ⟨mA,⟨ob,_,_,e,_⟩,_⟩:=x;exact ⟨_,e⟩
 | rng lo hi=>obtain ⟨_,_,_,e⟩:=x;exact ⟨_,e⟩
 | frz ob u=>exact ⟨_,x.1⟩
 | tbl ps=>exact ⟨_,x⟩
 | met f y=>exact ⟨_,x⟩
 | ext φ=>exact x.2.1
theorem Inv.laid2 {pins:List (Addr × Obj)} {σ:St} {H:Hp} {s:Shared} {h':Heap} {a:Addr} {o:HO} {t':Nat} (I:Inv X pins σ H s) (k:∀ b u,s.heap.get? b=some u->h'.get? b=some u/\b≠a) (hn:H a=none)
  (new:ObjOk X.prog X.w (upd H a o) h' a o):Inv X pins σ (upd H a o) { s with heap:=h',toks:=t' } :=
 I.un ⟨fun b o e _ _ _=>(k b o e).1,fun b o e _ _ _=>⟨o.slots,(k b o e).1⟩,fun b o e n _=>by rw [qg (k b o e).2];exact n,fun b o e _=>⟨o,(k b o e).1⟩,fun b xs e=>by rw [qg (ne_of_none e hn)];exact e,
  fun b o u e=>by rw [qg (ne_of_none e hn)];exact e,fun b ps e=>⟨#[],by rw [qg (ne_of_none e hn),e];simp⟩⟩ (HOk.add (I.hok.kept fun b u e=>(k b u e).1) hn new)
def rJoin (K:W.Frag):V->List V->Hp->VK->Prop:=fun x vs H Q=>∃ sep l ss,x=.str sep/\vs=[.ref l]/\SqL K H l (ss.map V.str)/\(ss.map (·.length)).sum+ss.length * sep.length<=16777216/\Q (.str (Txt.join sep ss)) H
theorem Ya:MtR X "str.join" (rJoin X.K):=by
 intro pins s σ H x vs v us Q I rx rv h
 obtain ⟨sep,l,ss,rfl,rfl,hq,hz,q⟩:=h
 obtain ⟨t,rfl⟩:=rx
 obtain ⟨u,rfl,ru⟩:=vals1 rv
 cases ru
 obtain ⟨its,r',pl,_⟩:=I.list hq
 refine join_list pl.isList (by simpa using zo r') hz fun t' k=>⟨.str _,H,I.tok _,⟨t',rfl⟩,q⟩
def rCount:V->List V->Hp->VK->Prop:=fun x vs H Q=>∃ a b,x=.str a/\vs=[.str b]/\Q (.int (Txt.count a b)) H
theorem qd6:MtR X "str.count" rCount:=by
 intro pins s σ H x vs v us Q I rx rv h
 obtain ⟨a,b,rfl,rfl,q⟩:=h
 obtain ⟨t,rfl⟩:=rx
 obtain ⟨u,rfl,t',rfl⟩:=vals1 rv
 exact SC.count ⟨.int _,H,I.tok _,⟨_,rfl⟩,q⟩
theorem Jj (hc:X.calm=true):CallR X (.type "list") (fun xs H Q=>∃ z:Str,xs=[.str z]/\z.cps.size<=10000/\∀ l,H l=none->Q (.ref l) (upd H l (.lst (z.cps.toList.map sign)))):=by
 intro pins s σ H xs us Q I r h
 obtain ⟨z,rfl,hz,q⟩:=h
 obtain ⟨u,rfl,t,rfl⟩:=vals1 r
 refine call_list_str (I.ok.hd hc) z t (fun h' tk acc' c' hk hS hacc=>?_) (Nat.le_trans hz (by decide))
 have hv:Vals (z.cps.toList.map sign) acc'.toList:=by
  have hl:acc'.toList.length=z.cps.size:=by rw [Array.length_toList];exact hacc.1
  refine Vf (by rw [List.length_map,Array.length_toList,hl]) fun i x u e1 e2=>?_
  obtain ⟨c,t',e3,rfl⟩:=hacc.2 i u (by rw [<- Array.getElem?_toList];exact e2)
  rw [List.getElem?_map,Array.getElem?_toList,e3] at e1
  cases e1
  exact ⟨t',rfl⟩
 exact ⟨.ref s.heap.objs.size,_,I.laid hk (Nat.le_refl _) (show ObjOk X.prog X.w _ h' _ (.lst _) from ⟨by rw [List.length_map,Array.length_toList];exact Nat.le_trans hz (by decide),acc'.toList,c',hv,by simpa using hS⟩),rfl,q _ (I.hok.fresh (Nat.le_refl _))⟩
theorem qd7 (hc:X.calm=true):CallR X (.builtin "sum") (fun xs H Q=>∃ (l:Addr) (ns:List Int),xs=[.ref l]/\SqL X.K H l (ns.map V.int)/\Q (.int ns.sum) H):=by
 intro pins s σ H xs us Q I r h
 obtain ⟨l,ns,rfl,hq,q⟩:=h
 obtain ⟨u,rfl,ru⟩:=vals1 r
 cases ru
 obtain ⟨its,r',pl,_⟩:=I.list hq
 obtain ⟨m,F⟩:=I.fr
 have hi:=qa0 r'
 obtain ⟨xs,e⟩:=hi.allInts.items
 have hl:s.heap.IsList l (intItems xs):=by rw [<- e];exact pl.isList
 refine sum_intListG (I.ok.hd hc) hl fun h' tk t' hk=>?_
 have es:preSum (numAt xs) xs.size=ns.sum:=by
  have:=hi.numsOf
  rw [show its=(intItems xs).toList by rw [<- e]] at this
  rw [nums_intItems] at this
  rw [preSum_eq,List.take_of_length_le (by simp),this]
 rw [es]
 exact ⟨.int _,H,I.kept hk,⟨t',rfl⟩,q⟩
theorem Yb:CallR X (.builtin "isinstance") (fun xs H Q=>∃ x T t b,xs=[x,.ty T]/\TyOf X.K H x t/\W.kitOne X.K t (.type T)=some b/\Q (.bl b) H):=by
 intro pins s σ H xs us Q I r h
 obtain ⟨x,T,t,b,rfl,ty,e,q⟩:=h
 obtain ⟨u,v,rfl,ru,rv⟩:=vals2 r
 cases (show v=Value.type T from rv)
 exact qbz I ru ty e fun tk=>⟨.bl b,H,I.tok _,rfl,q⟩
theorem jv (hc:X.calm=true):CallR X (.builtin "sorted") (fun xs H Q=>∃ (d:Addr) (kvs:List (Key × V)) (ss:List Str),xs=[.ref d]/\H d=some (.dK kvs)/\kvs.map (·.1)=ss.map Sum.inr/\kvs.length < 64 /\
  ∀ l ss',H l=none->ss'.Perm ss->sortedS ss'=true->Q (.ref l) (upd H l (.lst (ss'.map V.str)))):=by
 intro pins s σ H xs us Q I r h
 obtain ⟨d,kvs,ss,rfl,hd,hk,h64,q⟩:=h
 obtain ⟨u,rfl,ru⟩:=vals1 r
 cases ru
 obtain ⟨hz,lo,vs,hkv,hD⟩:=(show ObjOk X.prog X.w H s.heap d (.dK kvs) from I.hok d _ hd)
 obtain ⟨ep,hat⟩:=hD.dictAt
 have hvl:vs.length=kvs.length:=(Paired.length hkv).symm
 refine Calls.call_function_entry kind_sorted plain_sorted entry_sorted (args_sorted1 _) ?_
 unfold Builtin.«sorted»
 refine wpAny_bind (m:=checkCount "sorted" 1 1 _) (wpAny_pure ?_)
 refine wpAny_bind (W.kdu_collect (A:=X.A.in1) (W.kdl_dict (knd:=mixKind X.prog X.w) (kvs:=vs) (ep:=ep) lo) (I.ok.hd hc) hat (by rw [hvl];exact hz) fun h' tk acc hkp hacc=>?_)
 have hal:acc.toList.length=vs.length:=by rw [Array.length_toList];exact hacc.1
 have hS:StrsAre acc.toList ss:=by
  have hsl:ss.length=kvs.length:=by have:=congrArg List.length hk;simpa using this.symm
  refine zo (Vf (by rw [List.length_map,hal,hvl,hsl]) fun i x u e1 e2=>?_)
  obtain ⟨k,x',e3,hkk⟩:=hacc.2 i u (by rw [<- Array.getElem?_toList];exact e2)
  obtain ⟨k',v',e4,e5⟩:=qf7 hkv e3
  have e6:(kvs.map (·.1))[i]? = some k:=by rw [List.getElem?_map,e4];exact congrArg some e5
  rw [hk,List.getElem?_map] at e6
  rw [List.getElem?_map] at e1
  cases e7:ss[i]? with
  | none=>rw [e7] at e1;cases e1
  | some z =>
   rw [e7] at e1 e6
   cases e1
   have e8:Sum.inr z=k:=Option.some.inj e6
   subst e8
   rcases qw (show keyIs (Sum.inr z) u=true from hkk) with ⟨_,_,q1,_⟩ | ⟨y,t,q1,q2⟩
   ·cases q1
   ·cases q1
    exact ⟨t,q2⟩
 refine wpAny_bind (wpAny_newList ?_ (by rw [hal,hvl];exact hz))
 have hoL:(h'.push { cls:=.type "list",data:=.seq acc.toList.toArray }).get? h'.objs.size=some (seqObj "list" acc.toList.toArray 0):=Heap.get?_push_size _ rfl
 refine wpAny_bind (wpAny_holding (wpAny_call_entry slot_list_sort ⟨_,hoL,rfl⟩ entry_list_sort (list_sort_treeK strKind_oneLt hoL hS.keysOf (fun v₁ v₂ rest e=>keyKind_strs (by rw [<- e];exact hS)) (by rw [hal,hvl];exact h64) fun st' a1 a2=>⟨_,rfl,?_⟩) (args_list_sort _)))
 obtain ⟨ss',b1,b2,b3⟩:=sorted_out_str hS a1 a2
 refine wpAny_pure ⟨_,rfl,?_⟩
 have keep:∀ b o,s.heap.get? b=some o->(sortedHeap (h'.push { cls:=.type "list",data:=.seq acc.toList.toArray }) h'.objs.size acc.toList ((arrOf st').map (·.2))).get? b=some o/\b≠h'.objs.size:=fun b o e=>by
  have e1:=hkp b o e
  have lt:=Heap.lt_size e1
  refine ⟨?_,Nat.ne_of_lt lt⟩
  rw [sortedHeap_old (Nat.ne_of_lt lt) (by rw [Heap.size_push];exact Nat.lt_succ_of_lt lt)]
  exact Heap.get?_push_of_some _ e1
 have hn:H h'.objs.size=none:=by
  cases e:H h'.objs.size with
  | none=>rfl
  | some o =>
   obtain ⟨ob,e1⟩:=(I.hok _ _ e).there
   exact absurd (Heap.lt_size (hkp _ _ e1)) (Nat.lt_irrefl _)
 obtain ⟨n',hat'⟩:∃ n',(sortedHeap (h'.push { cls:=.type "list",data:=.seq acc.toList.toArray }) h'.objs.size acc.toList ((arrOf st').map (·.2))).get? h'.objs.size=some (seqObj "list" ((arrOf st').map (·.2)) n'):=sortedHeap_at hoL
 have hsl:ss'.length<=sizeLine:=by
  have h1:=b2.length_eq
  have h2:ss.length=kvs.length:=by have:=congrArg List.length hk;simpa using this.symm
  rw [h1,h2];exact hz
 refine ⟨.ref h'.objs.size,upd H h'.objs.size (.lst (ss'.map V.str)),?_,rfl,q _ _ hn b2 b3⟩
 have J:=Inv.laid2 (X:=X) (t':=tk) (o:=.lst (ss'.map V.str)) I keep hn ⟨by rw [List.length_map];exact hsl,((arrOf st').map (·.2)).toList,n',Zf b1,by rw [hat']⟩
 exact J
end
end L2
namespace L2
open PySem PySem.Spec PyProof.Rows
theorem qcd {X:Cx} {pins:List (Addr × Obj)} {s:Shared} {σ:St} {H:Hp} {Q:VK} {use:Option (Value->Sem Unit)} {Q':Value->Shared->Prop} {cpos:Pos} {tg iter elt:Expr} {ifs:List Expr} {scope:Scope} {pos:Pos} {N':List Str} {ix:List (Option Nat)} {wi:TI} {g:TG} {tc:TT} {te:TE}
  (hc:X.calm=true) (chk:compChk X scope N' ix=true) (hi:PI X tg iter wi)
  (hg:∀ cells C s₀ H₀ ex pn,PG (compCx X scope N' cells C s₀ H₀ ex pn) tg g)
  (ht:∀ cells C s₀ H₀ ex pn,PTs (compCx X scope N' cells C s₀ H₀ ex pn) ifs tc)
  (he:∀ cells C s₀ H₀ ex pn,PE (compCx X scope N' cells C s₀ H₀ ex pn) elt te)
  (hs:∀ x,foldedSetIterable iter X.env x=pure x) (I:Inv X pins σ H s) (h:tComp ix wi g tc te σ H Q)
  (hend:∀ (s2 s4:Shared) (H2 H3:Hp) (C D:Addr) (fp:List Addr) (cells:List (Str × Addr)) (τ:St) (ys:List V) (its:List Value) (k:Nat),Inv X pins σ H2 s2->(∀ b∈fp,FpOk X pins H2 b) ->
   Inv (compCx X scope N' cells C s2 H2 fp []) [(D,lobj its k)] τ H3 s4->s2.heap.objs.size<=C->s2.heap.objs.size<=D->D≠C->Vals ys its->ys.length<=sizeLine->Q (.ref D) (upd H3 D (.lst ys)) ->
   compPost (model X.prog X.w) X.A X.xe use Q' (.ref D) C (.ok .next) s4) :
  wpAny (model X.prog X.w) X.A (comprehension (.ListComp elt [⟨tg,iter,ifs,0⟩] scope pos) scope X.env cpos (newList []) false (eval iter X.env) use) Q' X.xe s:=by
 unfold compChk at chk
 obtain ⟨chk,k5⟩:=Bool.and_eq_true_iff.mp chk
 obtain ⟨chk,k4⟩:=Bool.and_eq_true_iff.mp chk
 obtain ⟨chk,k3⟩:=Bool.and_eq_true_iff.mp chk
 obtain ⟨k1,k2⟩:=Bool.and_eq_true_iff.mp chk
 have c1:∀ p∈scope.names,scope.names.lookup p.1=some p.2:=fun p hp=>by simpa using List.all_eq_true.mp k1 p hp
 have c2:∀ p∈scope.names,p.2=.free->X.env.scope.names.lookup p.1=some .cell\/X.env.scope.names.lookup p.1=some .free:=fun p hp hf=>by
  have:=List.all_eq_true.mp k2 p hp
  rw [hf] at this
  simpa using this
 have c3:ix.length=N'.length:=by simpa using k3
 have ck:scope.kind=.function:=by simpa using k5
 have c4:∀ (i:Nat) (x:Str) (j:Nat),N'[i]? = some x->ix[i]? = some (some j)->X.N[j]? = some x/\scope.names.lookup x=some .free:=fun i x j e1 e2=>by
  have m:(x,some j)∈N'.zip ix:=by
   refine List.mem_of_getElem? (i:=i) ?_
   rw [List.getElem?_zip_eq_some]
   exact ⟨e1,e2⟩
  have:=List.all_eq_true.mp k4 _ m
  have:=Bool.and_eq_true_iff.mp this
  exact ⟨by simpa using this.1,by simpa using this.2⟩
 obtain ⟨cl,ecl,cl1,cl2⟩:=zk (env:=X.env) (scope:=scope) (fun p hp hf=>I.ok.has p.1 (c2 p hp hf))
 refine wpAny_comprehension_free (use:=use) rfl hs ecl ck (fun y hy hl=>by rw [c1 y hy,hl]) (thn (hi pins s σ H _ I h) fun v s1 h1=>thn h1 fun itv s2 h2=>?_)
 obtain ⟨it,fp,tn,J,H2,e,I2,T,st2,f2,W,⟨m0,w0⟩,turn⟩:=h2
 subst e
 have I5:=comp_inv (N':=N') (ix:=ix) (fp:=fp) c1 c3 c2 c4 ck cl1 cl2 I2 f2 (T.obj _ _ st2)
 refine wpAny_newObj_type ?_
 unfold newFunctionEnv
 refine wpAny_bind (wpAny_alloc ?_)
 refine wpAny_bind (wpAny_layCells _ (fun name kind cells=>by cases hkc:kind == NameKind.cell <;> simp [hkc]) _ _ _ _ ?_)
 refine wpAny_bind ?_
 rw [List.forIn_nil]
 refine wpAny_pure (wpAny_pure ?_)
 have sz3:(s2.heap.push (lobj [] 0)).objs.size=s2.heap.objs.size+1:=Heap.size_push ..
 have sz4:((s2.heap.push (lobj [] 0)).push { cls:=.type "dict",data:=.dict #[] }).objs.size=s2.heap.objs.size+2:=by rw [Heap.size_push,sz3]
 show codeAny (model X.prog X.w) X.A (.compStart (.ListComp elt [⟨tg,iter,ifs,0⟩] scope pos) 0 (.ref it) (.ref s2.heap.objs.size)
  (compCx X scope N' (cellsFrom ((s2.heap.push (lobj [] 0)).push { cls:=.type "dict",data:=.dict #[] }).objs.size scope.names cl) (s2.heap.push (lobj [] 0)).objs.size s2 H2 fp []).env)
  (compPost (model X.prog X.w) X.A X.xe use Q' (.ref s2.heap.objs.size) (s2.heap.push (lobj [] 0)).objs.size)
  { s2 with heap:=pushCells ((s2.heap.push (lobj [] 0)).push { cls:=.type "dict",data:=.dict #[] }) scope.names }
 rw [sz4,sz3]
 generalize hcells:cellsFrom (s2.heap.objs.size+2) scope.names cl=cells at I5 ⊢
 have keep5:∀ b o,s2.heap.get? b=some o->(pushCells ((s2.heap.push (lobj [] 0)).push { cls:=.type "dict",data:=.dict #[] }) scope.names).get? b=some o:=fun b o e =>
  pushCells_keeps _ _ b o (Heap.get?_push_of_some _ (Heap.get?_push_of_some _ e))
 generalize hh5:({ s2 with heap:=pushCells ((s2.heap.push (lobj [] 0)).push { cls:=.type "dict",data:=.dict #[] }) scope.names }:Shared)=s5 at I5 ⊢
 have keep5:∀ b o,s2.heap.get? b=some o->s5.heap.get? b=some o:=by rw [<- hh5];exact keep5
 have st5:tn 0 s5.heap:=T.keep _ _ _ st2 fun b hb o e=>keep5 b o e
 have lt2:∀ (b:Nat),b∈fp->b < s2.heap.objs.size:=fun b hb=>by
  obtain ⟨o,e,_⟩:=T.obj _ _ st2 b hb
  exact Heap.lt_size e
 -- the iterator within the block
 have stat:∀ {H':Hp} {o:Obj},(∀ b∈fp,H' b=none)->∀ b∈fp,FpOk (compCx X scope N' cells (s2.heap.objs.size+1) s2 H2 fp []) [(s2.heap.objs.size,o)] H' b:=fun {H' o} hn b hb =>
  ⟨hn b hb,(I5.ok.exf b hb).1,I5.ok.exfs b hb,.inl hb,(I5.ok.exf b hb).2,fun p hp=>by
   have e:p=(s2.heap.objs.size,o):=by simpa using hp
   subst e
   exact Nat.ne_of_gt (lt2 b hb)⟩
 have loop:codeAny (model X.prog X.w) X.A (.compLoop (.ListComp elt [⟨tg,iter,ifs,0⟩] scope pos) 0 (.ref it) (.ref s2.heap.objs.size)
   (compCx X scope N' cells (s2.heap.objs.size+1) s2 H2 fp []).env) (compPost (model X.prog X.w) X.A X.xe use Q' (.ref s2.heap.objs.size) (s2.heap.objs.size+1)) s5:=by
  refine yt (fun n s'=>∃ i ys τ H' its k,Inv (compCx X scope N' cells (s2.heap.objs.size+1) s2 H2 fp []) [(s2.heap.objs.size,lobj its k)] τ H' s'/\tn i s'.heap/\(∀ b∈fp,H' b=none)/\Vals ys its/\ys.length<=sizeLine/\W i n ys τ H') ?_ m0
   ⟨0,[],_,H2,[],0,I5,st5,fun b hb=>(f2 b hb).1,.nil,Nat.zero_le _,w0⟩
  rintro n s3 ⟨i,ys,τ,H3,its,k,I3,st3,fr3,hv3,hz3,w3⟩
  rcases turn i n ys τ H3 w3 with ⟨stop,qn⟩ | ⟨go,hlen,N,hN,step⟩
  ·refine thn (T.done (compCx X scope N' cells (s2.heap.objs.size+1) s2 H2 fp []) rfl rfl rfl hc i _ s3 τ H3 (fun _ _=>False) I3 (stat fr3) st3 stop) fun r s4 ⟨hr,I4⟩=>?_
   subst hr
   obtain ⟨eD,nD,_,_,_⟩:=I4.pin (s2.heap.objs.size,lobj its k) (by simp)
   exact hend s2 s4 H2 H3 _ _ fp cells τ ys its k I2 f2 I4 (Nat.le_succ _) (Nat.le_refl _) (Nat.ne_of_lt (Nat.lt_succ_self _)) hv3 hz3 (qn _ nD)
  ·refine thn (T.item (compCx X scope N' cells (s2.heap.objs.size+1) s2 H2 fp []) rfl rfl rfl hc i _ s3 τ H3 (fun _ _=>False) I3 (stat fr3) st3 go) fun r s4 ⟨u,hr,h4⟩=>?_
   subst hr
   refine thn h4 fun _ s5' ⟨x,H5,I5',r5,y5,st5',fr5⟩=>?_
   have I6:=I5'.pinned (stat fr5) (T.obj _ _ st5')
   refine thn (hg cells _ s2 H2 fp [] _ s5' τ H5 x u _ I6 r5 (step x H5 y5)) fun _ s6 ⟨τ6,H6,I7,q6⟩=>?_
   refine thn (ht cells _ s2 H2 fp [] _ s6 τ6 H6 _ I7 q6) fun ok s7 ⟨H7,I8,q7⟩=>?_
   have fin:∀ {s8:Shared} {H8:Hp} {its':List Value} {k':Nat} {ys':List V},Inv (compCx X scope N' cells (s2.heap.objs.size+1) s2 H2 fp []) ([(s2.heap.objs.size,lobj its' k')]++pinsAt fp s5'.heap) τ6 H8 s8->Vals ys' its'->ys'.length<=sizeLine->N ys' τ6 H8 ->
     ∃ m,m < n/\∃ i ys τ H' its k,Inv (compCx X scope N' cells (s2.heap.objs.size+1) s2 H2 fp []) [(s2.heap.objs.size,lobj its k)] τ H' s8/\tn i s8.heap/\(∀ b∈fp,H' b=none)/\Vals ys its/\ys.length<=sizeLine/\W i m ys τ H':=fun {s8 H8 its' k' ys'} I9 hv hz n9=>by
    obtain ⟨m',hm,w9⟩:=hN ys' τ6 H8 n9
    refine ⟨m',hm,i+1,ys',τ6,H8,its',k',I9.unpinned,T.keep _ _ _ st5' fun b hb o e=>(I9.pin (b,o) (List.mem_append_right _ (List.mem_append_right _ (jj hb e)))).1,fun b hb=>?_,hv,hz,w9⟩
    obtain ⟨o,e,d⟩:=T.obj _ _ st5' b hb
    exact (I9.pin (b,o) (List.mem_append_right _ (List.mem_append_right _ (jj hb e)))).2.1
   cases ok with
   | false=>exact fin I8 hv3 hz3 q7
   | true =>
    refine thn (he cells _ s2 H2 fp [] _ s7 τ6 H7 _ I8 q7) fun y s8 ⟨v8,H8,I9,r8,q8⟩=>?_
    obtain ⟨eD,nD,dL,dF,_⟩:=I9.pin (s2.heap.objs.size,lobj its k) (by simp)
    have hl:=hv3.length
    refine yu (X:=X) (τ:=τ) (H':=H8) (by omega) eD fun h' k' eD' kp=>?_
    -- the pin on the list is let go,the list turns,and is pinned anew
    have hx:∀ p∈pinsAt fp s5'.heap,p.1≠s2.heap.objs.size:=fun p hp=>by
     have:=lt2 p.1 (vz hp).1
     exact Nat.ne_of_lt this
    have J1:Inv (compCx X scope N' cells (s2.heap.objs.size+1) s2 H2 fp []) (pinsAt fp s5'.heap) τ6 H8 s8:=I9.pins_of fun p hp=>I9.pin p (List.mem_append_right _ (List.mem_append_right _ hp))
    have J2:Inv (compCx X scope N' cells (s2.heap.objs.size+1) s2 H2 fp []) (pinsAt fp s5'.heap) τ6 H8 { s8 with heap:=h' }:=J1.turned (t':=s8.toks) (it:=s2.heap.objs.size) kp nD dL (.inr (Nat.le_refl _)) (fun x c e z=>by
     obtain ⟨v,o,ho,hd⟩:=J1.cell x c e
     rw [z,eD] at ho
     cases ho
     cases hd) fun p hp=>hx p (by simpa using hp)
    have J3:Inv (compCx X scope N' cells (s2.heap.objs.size+1) s2 H2 fp []) ([(s2.heap.objs.size,lobj (its++[y]) k')]++pinsAt fp s5'.heap) τ6 H8 { s8 with heap:=h' }:=J2.pins_of fun p hp=>by
     rcases List.mem_append.mp hp with z | z
     ·have e:p=(s2.heap.objs.size,lobj (its++[y]) k'):=by simpa using z
      subst e
      exact ⟨eD',nD,dL,dF,fun v z=>by cases z⟩
     ·exact J2.pin p (List.mem_append_right _ z)
    exact fin J3 (hv3.append (.cons r8 .nil)) (by rw [List.length_append,List.length_singleton];omega) q8
 exact codeAny_compStart_list loop (T.self X.A 0 s5 _ _ st5 loop)
theorem qf8 {X:Cx} {tg iter elt:Expr} {ifs:List Expr} {scope:Scope} {pos px spos:Pos} {N':List Str} {ix:List (Option Nat)} {wi:TI} {g:TG} {tc:TT} {te:TE} {i:Nat} {x:Str}
  (hN:X.N.Nodup) (hi0:X.N[i]? = some x) (hx:X.env.scope.names.lookup x=some .local)
  (hc:X.calm=true) (chk:compChk X scope N' ix=true) (hi:PI X tg iter wi)
  (hg:∀ cells C s₀ H₀ ex pn,PG (compCx X scope N' cells C s₀ H₀ ex pn) tg g)
  (ht:∀ cells C s₀ H₀ ex pn,PTs (compCx X scope N' cells C s₀ H₀ ex pn) ifs tc)
  (he:∀ cells C s₀ H₀ ex pn,PE (compCx X scope N' cells C s₀ H₀ ex pn) elt te)
  (hs:∀ x,foldedSetIterable iter X.env x=pure x:=by intro _;rfl)
  (hsw:swapsWith (.ListComp elt [⟨tg,iter,ifs,0⟩] scope pos) (some (.Name x px)) spos.line X.env=pure true:=by rfl) :
  PS X (.Assign [.Name x px] (.ListComp elt [⟨tg,iter,ifs,0⟩] scope pos) spos) (fun D σ H=>tComp ix wi g tc te σ H fun v H1=>D.nx (σ.set i (some v)) H1):=by
 intro pins s σ H D I h
 rw [exec_Assign_Name_used _ _ _ _ hsw]
 refine wpAny_bind (wpAny_standAt (wpAny_bind ?_))
 show wpAny _ X.A (comprehension (.ListComp elt [⟨tg,iter,ifs,0⟩] scope pos) scope X.env _ (newList []) false (eval iter X.env) (some (assign (.Name x px) X.env)) >>= fun _=>pure ()) _ _ s
 refine wpAny_bind (wpAny_mono (qcd (use:=some (assign (.Name x px) X.env)) (Q':=fun _ s'=>SP X pins D .next s') hc chk hi hg ht he hs I h ?_) (fun _ s' hq=>wpAny_pure (wpAny_pure hq)) fun _ _ e=>e)
 intro s2 s4 H2 H3 C Da fp cells τ ys its k I2 f2 I4 hC hD hDC hv hz q
 obtain ⟨eD,nD,_,_,_⟩:=I4.pin (Da,lobj its k) (by simp)
 have I5:Inv X pins σ (upd H3 Da (.lst ys)) s4:=Vd I2 f2 I4 hC hD hDC nD eD hv hz (Heap.SameBut.refl _ _)
 show wpAny _ X.A (assign (.Name x px) X.env (.ref Da)) _ _ s4
 refine wpAny_assign_Name (yk I5 hN hi0 (.inl hx) (show RelV (.ref Da) (.ref Da) from rfl) (fun s6 I6 ⟨a,sb,ha⟩=>?_) (.inr hx))
 obtain ⟨m,hn,_⟩:=I4.loc
 have neL:C≠X.env.locals:=Nat.ne_of_gt (Nat.lt_of_lt_of_le I2.lt hC)
 have cne:∀ y c,X.env.cells.lookup y=some c->c≠C:=fun y c e=>by
  obtain ⟨v,z⟩:=I2.cell y c e
  exact Nat.ne_of_lt (Nat.lt_of_lt_of_le z.lt hC)
 have nea:C≠a:=by
  rcases ha with e | e
  ·rw [e];exact neL
  ·exact (cne x a e).symm
 refine ⟨m,hn.sameBut sb nea,fun h' sb'=>⟨σ.set i (some (.ref Da)),upd H3 Da (.lst ys),?_,q⟩⟩
 have nC:upd H3 Da (.lst ys) C=none:=by rw [qg hDC.symm];exact I4.free
 refine I6.turned (t':=s6.toks) (it:=C) (fun b o hb e=>(sb'.2 b hb).trans e) nC neL (.inr (Nat.le_trans I2.sz hC)) cne fun p hp z=>?_
 have:=Heap.lt_size (I2.pin p hp).1
 rw [z] at this
 exact absurd (Nat.lt_of_lt_of_le this hC) (Nat.lt_irrefl _)
end L2
namespace L2
open PySem PySem.Spec PyProof.Rows
theorem qf9 {X:Cx}:OpR X (binaryOp .Mult) (rI (fun i j=>Builtin.Int.intBits i<=2 ^ 20/\Builtin.Int.intBits j<=2 ^ 20) fun i j=>.int (i * j)):=opI fun _ _ _ _ _ _ _ hc q=>mul_int q (IntMulOk.of_bits hc.1 hc.2)
end L2
namespace L2
open PySem PySem.Spec PyProof.Rows
theorem je {J:It} {xs:List V} {ok:Hp->Prop} {g:TG} {te:TE} {R:Addr->List V->Hp->Prop} {τ0:St} {H:Hp} (S:Sure J xs ok) (hz:xs.length<=10000) (Pv:Nat->List V->St->Hp->Prop) (h0:Pv 0 [] τ0 H)
  (hl:∀ i ys τ H,i<=xs.length->Pv i ys τ H->ok H/\ys.length<=i)
  (hs:∀ i x ys τ H,xs[i]? = some x->Pv i ys τ H->g x τ H fun τ2 H2=>te τ2 H2 (fun y H4=>Pv (i+1) (ys++[y]) τ2 H4))
  (hd:∀ ys τ H D,Pv xs.length ys τ H->H D=none->R D ys H) :
  ∃ W:Nat->Nat->List V->St->Hp->Prop,(∃ m,W 0 m [] τ0 H)/\∀ i m ys τ H,W i m ys τ H ->
   (J.stop i H/\∀ D,H D=none->R D ys H) \/
   (J.go i H/\ys.length < sizeLine/\∃ N:List V->St->Hp->Prop,(∀ ys' τ' H',N ys' τ' H'->∃ m',m' < m/\W (i+1) m' ys' τ' H') /\
    ∀ x H',J.yld i H x H'->g x τ H' fun τ2 H2=>tAll τ2 H2 fun b H3=>if b=true then te τ2 H3 (fun y H4=>N (ys++[y]) τ2 H4) else N ys τ2 H3):=by
 refine ⟨fun i m ys τ H=>m=xs.length - i/\i<=xs.length/\Pv i ys τ H,⟨xs.length,by simp,Nat.zero_le _,h0⟩,?_⟩
 rintro i m ys τ H ⟨rfl,hi,p⟩
 obtain ⟨q,hy⟩:=hl i ys τ H hi p
 by_cases hlt:i < xs.length
 ·refine .inr ⟨S.go i H hlt q,Nat.lt_of_lt_of_le (show ys.length < 10000 by omega) (by decide),Pv (i+1),fun ys' τ' H' p'=>⟨xs.length - (i+1),by omega,rfl,hlt,p'⟩,fun x H' y=>?_⟩
  obtain ⟨e,y'⟩:=S.yld i H x H' hlt q y
  subst e
  have e2:(fun (τ2:St) (H2:Hp)=>tAll τ2 H2 fun b H3=>if b=true then te τ2 H3 (fun y H4=>Pv (i+1) (ys++[y]) τ2 H4) else Pv (i+1) ys τ2 H3)=fun τ2 H2=>te τ2 H2 (fun y H4=>Pv (i+1) (ys++[y]) τ2 H4):=by
   funext τ2 H2
   unfold tAll
   exact if_pos rfl
  rw [e2]
  exact hs i x ys τ _ y' p
 ·have e:i=xs.length:=by omega
  subst e
  exact .inl ⟨S.stop H q,fun D hD=>hd ys τ H D p hD⟩
end L2
namespace L2
open PySem PySem.Spec PyProof.Rows
section
variable {X:Cx} (K:W.Frag)
theorem yg {tg l:Expr} {tl:TE} (hl:PE X l tl) (hK:X.K=K:=by rfl):PI X tg l (iList K tl):=by subst hK;exact pi_list hl
theorem jc (hK:X.K=K:=by rfl):IxR X (rIxL K):=by subst hK;exact ji
theorem qq (hK:X.K=K:=by rfl):IxR X (rIxT K):=by subst hK;exact V6
theorem Vg (hK:X.K=K:=by rfl):SlR X (rSlL K):=by subst hK;exact yn
theorem qa3 (hK:X.K=K:=by rfl):OpR X (compareOp .In) (rIn K false):=by subst hK;exact qb1
def rLen (K:W.Frag):List V->Hp->VK->Prop:=fun xs H Q=>∃ p ys,xs=[.ref p]/\(SqL K H p ys\/SqT K H p ys)/\Q (.int ys.length) H
theorem jx (hK:X.K=K:=by rfl):CallR X (.builtin "len") (rLen K):=by subst hK;exact js
def rSum (K:W.Frag):List V->Hp->VK->Prop:=fun xs H Q=>∃ (l:Addr) (ns:List Int),xs=[.ref l]/\SqL K H l (ns.map V.int)/\Q (.int ns.sum) H
theorem zq (hc:X.calm=true) (hK:X.K=K:=by rfl):CallR X (.builtin "sum") (rSum K):=by subst hK;exact qd7 hc
def rIsi (K:W.Frag):List V->Hp->VK->Prop:=fun xs H Q=>∃ x T t b,xs=[x,.ty T]/\TyOf K H x t/\W.kitOne K t (.type T)=some b/\Q (.bl b) H
theorem jt (hK:X.K=K:=by rfl):CallR X (.builtin "isinstance") (rIsi K):=by subst hK;exact Yb
def rTupOf (K:W.Frag):List V->Hp->VK->Prop:=fun xs H Q=>∃ p ys,xs=[.ref p]/\((SqL K H p ys/\∀ l,H l=none->Q (.ref l) (upd H l (.tup ys)))\/(SqT K H p ys/\Q (.ref p) H))
theorem jf (hK:X.K=K:=by rfl):CallR X (.type "tuple") (rTupOf K):=by subst hK;exact call_tuple_of
theorem Yx (hK:X.K=K:=by rfl):MtR X "str.join" (rJoin K):=by subst hK;exact Ya
def tTru (K:W.Frag) (ta:TE):TT:=fun σ H Q=>ta σ H fun x H'=>∃ k,TruV K x H' k/\Q k H'
theorem pt_truthK {a:Expr} {ta:TE} (ha:PE X a ta) (he:∀ whole,isTrue a X.env whole=(do let v <- whole;standAt a.pos;holding [v] (truthy v))) (hK:X.K=K:=by rfl):PT X a (tTru K ta):=by subst hK;exact qdv ha he
theorem zr {es:List Expr} {k:Nat} {t:TGs} {n:Nat} {pos:Pos} (hc:X.calm=true) (h:PGs X es t) (hn:(assignEach es X.env).length=n:=by rfl) (hst:(assignEach es X.env).findIdx? (·.1)=none:=by rfl) (hK:X.K=K:=by rfl):PG X (.Tuple es k pos) (gTup K n t):=by
 subst hK;exact qe9 hc h hn hst
theorem qga {l l':Expr} {ta:TA} {elts:List Expr} {k:Nat} {tp p pos:Pos} (hg:Gl X "zip") (hm:X.mg "zip" = none) (hl:PA X [l,l'] ta) (hs:starEach [l,l'] X.env=[(false,eval l X.env),(false,eval l' X.env)]:=by rfl) (hs2:starEach [l'] X.env=[(false,eval l' X.env)]:=by rfl) (hK:X.K=K:=by rfl) :
  PI X (.Tuple elts k tp) (.Call (.Name "zip" p) [l,l'] [] pos) (iZip K ta):=by
 subst hK;exact pi_zip hg hm hl hs hs2
theorem qgb {o:Expr} {to:TE} {name:Str} {apos cpos:Pos} {T id:String} {r:V->List V->Hp->VK->Prop} (pa:PlainAttrs T) (slot:Slot T name id) (hty:typeOf (.builtin id)=pure (.type "method_descriptor")) (hm:MtR X id r) (ho:PE X o to)
  (hbase:attributeBase o name X.env (eval o X.env)=eval o X.env:=by rfl) (hline:(apos.endLine == cpos.line)=true:=by rfl) (hK:X.K=K:=by rfl):PE X (.Call (.Attribute o name apos) [] [] cpos) (tBM0 K T r to):=by
 subst hK;exact qht pa slot hty hm ho hbase hline
theorem Jt {o e:Expr} {es:List Expr} {to:TE} {t:TA} {name:Str} {apos cpos:Pos} {T id:String} {r:V->List V->Hp->VK->Prop} (pa:PlainAttrs T) (slot:Slot T name id) (hty:typeOf (.builtin id)=pure (.type "method_descriptor")) (hm:MtR X id r) (ho:PE X o to) (ha:PA X (e :: es) t)
  (hbase:attributeBase o name X.env (eval o X.env)=eval o X.env:=by rfl)
  (hfew:((backTo cpos (starEach (e :: es) X.env)).all (fun x=>!x.1) && (backToKw cpos (keywordEach [] X.env)).all (fun x=>x.1.isSome) && decide ((e :: es).length+([]:List Keyword).length+(if ([]:List Keyword).isEmpty then 0 else 1) < 30))=true:=by rfl)
  (hline:(apos.endLine == cpos.line)=true:=by rfl) (hs:starEach (e :: es) X.env=(false,eval e X.env) :: starEach es X.env:=by rfl) (hplain:(backTo cpos (starEach es X.env)).any (·.1)=false:=by rfl) (hK:X.K=K:=by rfl) :
  PE X (.Call (.Attribute o name apos) (e :: es) [] cpos) (tBM K T r to t):=by
 subst hK;exact qb2 pa slot hty hm ho ha hbase hfew hline hs hplain
end
def CDivB (i j:Int):Prop:=0 < j/\j<=100000000000000000000000000000000000000000000000000000000000000000000000000000000
theorem qd8 {X:Cx}:OpR X (binaryOp .FloorDiv) (rI CDivB fun i j=>.int (i / j)):=opI fun i j _ _ _ _ _ hc q=>by
 rw [<- Int.fdiv_eq_ediv_of_nonneg i (Int.le_of_lt hc.1)] at q
 refine floordiv_int (by have:=hc.1;omega) q (.inl (PyProof.noPylong_of_log2 ?_))
 obtain ⟨h1,h2⟩:=hc
 have h0:j.natAbs≠0:=by omega
 have h3:j.natAbs < 2 ^ 300:=Nat.lt_of_le_of_lt (show j.natAbs<=100000000000000000000000000000000000000000000000000000000000000000000000000000000 by omega) (by decide +kernel)
 exact Nat.lt_trans ((Nat.log2_lt h0).mpr h3) (by decide)
end L2
namespace L2
open PySem PySem.Spec PyProof.Rows
theorem Yc:typeLookup (.type "list") "keys" = pure none:=by rw [typeLookup_type,builtinLookup_eq_fast];kernel_rfl
theorem Zg {P:Program} {w:World} {A:Around} {E:Value->Shared->Prop} {s:Shared} {a:Addr} {o:Obj} {xs:Array Value} {k:Nat} {Q:Option Value->Shared->Prop}
  (ho:s.heap.get? a=some o) (hc:o.cls=.type "list") (hs:o.data=.seq xs k) (hd:o.dict=none) (hA:A.handled=none)
  (q:∀ h' tk,(∀ b u,s.heap.get? b=some u->h'.get? b=some u)->Q none { s with heap:=h',toks:=tk }):wpAny (model P w) A (getAttr? (.ref a) "keys") Q E s:=by
 obtain ⟨c,dct,dat,sl⟩:=o
 simp only at hc hs hd
 subst hc hs hd
 obtain ⟨hp,g,d,tk,os⟩:=s
 have ty:∀ tk',(⟨hp,g,d,tk',os⟩:Shared).TypeIs (.ref a) "list":=fun _=>⟨_,ho,rfl⟩
 have z1:=sub_AttributeError
 have z3:=F.slot_list_getattribute.lookup
 have z4:=F.slot_list_getattribute.bind (.ref a)
 have z5:=am_list_getattr_none
 unfold getAttr? getAttrBy? getAttrBy
 repeat (any_goals (first | assumption | exact ty _ | ((with_reducible show wpAny _ _ (call (Value.builtin "list.__getattribute__") _ _) _ _ _);refine call_meets F.slot_list_getattribute (ty _) am_entry_list_getattribute (F.args_list_getattribute_2 _ _) (meets_getattribute_miss_list a xs k sl "keys" _ Yc (by decide +kernel) (by decide +kernel)) ⟨ho,hA,fun h' tk' e hx'=>?_⟩) | wp_step))
 obtain ⟨t',u',he⟩:=hx'.there
 have tE:(⟨h',g,d,tk',os⟩:Shared).TypeIs (.ref e) "AttributeError":=⟨_,he,rfl⟩
 show wpAny _ _ (getattributeRaised _ _ _ _ _ _ _) _ _ _
 unfold getattributeRaised
 repeat (any_goals (first | assumption | wp_step))
 exact q h' tk' hx'.keeps
theorem vd {P:Program} {w:World} {κ:Type} [DecidableEq κ] {knd:KeyKind P w κ} {d:Addr} {kvs:List (κ × Value)} {h h':Heap} (m:h.DictOf knd d kvs) (e:∀ o,h.get? d=some o->h'.get? d=some o):h'.DictOf knd d kvs:=by
 obtain ⟨o,es,ep,ho,r⟩:=m
 exact ⟨o,es,ep,e o ho,r⟩
theorem vo:entryFor table "dict.update.loop" = some Builtin.«dict.update.loop»:=entryFor_of_tree (by kernel_rfl)
theorem jg:plainId "dict.update.loop" = true:=by decide +kernel
theorem Vh {P:Program} {w:World} {A:Around} {κ:Type} [DecidableEq κ] {knd:KeyKind P w κ} {it d:Addr} {fp wr:List Addr} {n:Nat} {Pv:Nat->Value->Prop} {St:Nat->Heap->Prop} {R:Result->Shared->Prop}
  (W:Walks P w A.in1 it fp wr n Pv St) (hd:d ∉ fp) (kvs:List (κ × Value)) (hn:kvs.length=n) (nd:(kvs.map (·.1)).Nodup) (ads:Nat->Addr) (hP:∀ i v,i < n->Pv i v->v=.ref (ads i)) (hw:∀ i,i < n->ads i ∉ wr/\ads i≠d) (hz:n<=sizeLine) :
  ∀ (m i:Nat) (s:Shared),i+m=n->St i s.heap->s.heap.DictOf knd d (kvs.take i)->(∀ j p,kvs[j]? = some p->∃ key,knd.is p.1 key=true/\IsTup s.heap (ads j) #[key,p.2]) ->
   (∀ h' tk,h'.DictOf knd d kvs->(∀ b o,b ∉ wr->b≠d->s.heap.get? b=some o->h'.get? b=some o)->R (.ok (.ret .none)) { s with heap:=h',toks:=tk }) ->
   codeAny (model P w) A (.builtin "dict.update.loop" ⟨[.ref d,.ref it,.int i 0,.none],[]⟩) R s
 | 0,i,s,hi,st,hD,hT,q=>by
  refine codeAny_builtin vo ?_
  rw [Around.under_plainId jg]
  have e:i=n:=by omega
  subst e
  unfold Builtin.«dict.update.loop»
  show wpAny _ _ (pyNext (.ref it) >>= _) _ _ _
  refine wpAny_bind (W.done s _ _ st fun h' tk kk=>?_)
  show wpAny _ _ (Builtin.Dict.addKeywords d [] >>= _) _ _ _
  refine wpAny_bind (wpAny_pure (wpAny_pure ?_))
  have hdw:d ∉ wr:=fun z=>hd (W.sub d z)
  refine q h' tk ?_ fun b o hb _ e=>kk b o hb e
  have hD':=vd (h':=h') hD fun o e=>kk d o hdw e
  rw [<- hn,List.take_length] at hD'
  exact hD'
 | m+1,i,s,hi,st,hD,hT,q=>by
  refine codeAny_builtin vo ?_
  rw [Around.under_plainId jg]
  unfold Builtin.«dict.update.loop»
  show wpAny _ _ (pyNext (.ref it) >>= _) _ _ _
  refine wpAny_bind (W.item i s _ _ (by omega) st fun v h' tk hv st' kk=>?_)
  have ev:=hP i v (by omega) hv
  subst ev
  have hil:i < kvs.length:=by omega
  obtain ⟨key,hk,ht⟩:=hT i kvs[i] (List.getElem?_eq_getElem hil)
  have ht':IsTup h' (ads i) #[key,kvs[i].2]:=by
   obtain ⟨o,ho,r⟩:=ht
   exact ⟨o,kk _ o (hw i (by omega)).1 ho,r⟩
  obtain ⟨o,ho,hoc,no,hod⟩:=id ht'
  have tT:({ s with heap:=h',toks:=tk }:Shared).TypeIs (.ref (ads i)) "tuple":=⟨o,ho,hoc⟩
  refine wpAny_bind (wpAny_holding ?_)
  refine wpAny_bind (wpAny_tryCatch ?_)
  unfold Builtin.Dict.pairItems
  refine wpAny_bind (wpAny_typeOf tT ?_)
  rw [if_pos (by decide)]
  refine wpAny_bind (wpAny_seqItems ho hod (wpAny_pure ?_))
  show wpAny _ _ (holding [key,kvs[i].2] (dictSet d key kvs[i].2)) _ _ _
  have hdw:d ∉ wr:=fun z=>hd (W.sub d z)
  have hD':=vd (h':=h') hD fun o e=>kk d o hdw e
  refine wpAny_holding (wpAny_dictSet_pairs (s:={ s with heap:=h',toks:=tk }) hk hD' (fun h2 hD2 hs2=>?_) (by rw [List.length_take];omega))
  have en:stored (kvs.take i) kvs[i].1 kvs[i].2=kvs.take (i+1):=by
   unfold stored
   rw [if_neg,List.take_add_one,List.getElem?_eq_getElem hil]
   ·rfl
   ·intro z
    obtain ⟨p,hp,hpe⟩:=List.any_eq_true.mp z
    have hpe':p.1=kvs[i].1:=of_decide_eq_true hpe
    have:=nd
    rw [<- List.take_append_drop i kvs,List.map_append] at this
    obtain ⟨_,_,dis⟩:=List.nodup_append.mp this
    refine dis p.1 (List.mem_map_of_mem hp) kvs[i].1 ?_ hpe'
    rw [List.drop_eq_getElem_cons hil]
    exact List.mem_map_of_mem List.mem_cons_self
  rw [en] at hD2
  refine wpAny_pure ⟨plainId_quiet jg _,?_⟩
  have st2:St (i+1) h2:=W.frame (i+1) h' h2 st' fun b hb o e=>hs2.extBut _ _ (fun z=>hd (by rw [<- z];exact hb)) e
  have ei:rawInt ((i:Int)+1)=.int ((i+1:Nat):Int) 0:=by unfold rawInt;push_cast;rfl
  rw [ei]
  refine Vh W hd kvs hn nd ads hP hw hz m (i+1) { s with heap:=h2,toks:=tk+1 } (by omega) st2 hD2 (fun j p hj=>?_) fun h3 tk3 hD3 k3=>q h3 tk3 hD3 fun b o hb hbd e=>k3 b o hb hbd (hs2.extBut _ _ hbd (kk b o hb e))
  obtain ⟨key',hk',o',ho',r'⟩:=hT j p hj
  have hj':j < n:=by rw [<- hn];exact (List.getElem?_eq_some_iff.mp hj).1
  exact ⟨key',hk',o',hs2.extBut _ _ (hw j hj').2 (kk _ _ (hw j hj').1 ho'),r'⟩
inductive PairsAt (H:Hp):List Addr->List (Key × V)->Prop where
 | nil:PairsAt H [] []
 | cons {p:Addr} {ps:List Addr} {k:Key} {v:V} {kvs:List (Key × V)}:H p=some (.tup [kV k,v])->PairsAt H ps kvs->PairsAt H (p :: ps) ((k,v) :: kvs)
theorem PairsAt.len {H:Hp}:∀ {ps:List Addr} {kvs:List (Key × V)},PairsAt H ps kvs->ps.length=kvs.length
 | _,_,.nil=>rfl
 | _,_,.cons _ r=>congrArg (· + 1) r.len
theorem PairsAt.mem {H:Hp}:∀ {ps:List Addr} {kvs:List (Key × V)},PairsAt H ps kvs->∀ p∈ps,∃ o,H p=some o
 | _,_,.nil,p,h=>by simp at h
 | _,_,.cons e r,p,h=>by
  rcases List.mem_cons.mp h with z | z
  ·rw [z];exact ⟨_,e⟩
  ·exact r.mem p z
theorem PairsAt.real {X:Cx} {pins:List (Addr × Obj)} {σ:St} {H:Hp} {s:Shared} (I:Inv X pins σ H s):∀ {ps:List Addr} {kvs:List (Key × V)},PairsAt H ps kvs ->
  ∃ vs:List (Key × Value),KV kvs vs/\∀ (j:Nat) p,vs[j]? = some p->∃ key,(mixKind X.prog X.w).is p.1 key=true/\IsTup s.heap (ps.getD j 0) #[key,p.2]
 | _,_,.nil=>⟨[],.nil,fun j p e=>by simp at e⟩
 | _,_,.cons (p:=a) (k:=k) (v:=v) e r=>by
  obtain ⟨vs,hv,h⟩:=r.real I
  obtain ⟨its,rv,ht,_⟩:=I.tuple (SqT.of e)
  cases rv with
  | cons r1 rr =>
   rename_i key its1
   cases rr with
   | cons r2 rr2 =>
    rename_i val its2
    cases rr2
    refine ⟨(k,val) :: vs,.cons ⟨rfl,r2⟩ hv,fun j p ep=>?_⟩
    cases j with
    | zero =>
     cases ep
     exact ⟨key,Z7 r1,ht⟩
    | succ j=>exact h j p ep
def rDictL (K:W.Frag):List V->Hp->VK->Prop:=fun xs H Q=>∃ (l:Addr) (ps:List Addr) (kvs:List (Key × V)),xs=[.ref l]/\SqL K H l (ps.map V.ref)/\PairsAt H ps kvs/\(kvs.map (·.1)).Nodup/\kvs.length<=1000 /\
 ∀ d,H d=none->Q (.ref d) (upd H d (.dK kvs))
theorem Yd {κ:Type}:∀ {kvs:List (κ × V)} {vs:List (κ × Value)},KV kvs vs->vs.map (·.1)=kvs.map (·.1)
 | _,_,.nil=>rfl
 | _,_,.cons h r=>by
  rw [List.map_cons,List.map_cons,Yd r,h.1]
theorem Jk {X:Cx} (hc:X.calm=true):CallR X (.type "dict") (rDictL X.K):=by
 intro pins s σ H xs us Q I r h
 obtain ⟨l,ps,kvs,rfl,hL,hP,nd,hz,q⟩:=h
 obtain ⟨u,rfl,ru⟩:=vals1 r
 cases ru
 obtain ⟨its,rv,pl,hl⟩:=I.list hL
 obtain ⟨ol,nl,hol,hcl,hdl,hsl⟩:=id pl
 obtain ⟨vs,hv,hT⟩:=hP.real I
 have hA:=I.ok.hd hc
 refine callType_codes (Q₁:=fun ob s1=>ob=.ref s.heap.objs.size/\s1 = { s with heap:=s.heap.push { cls:=.type "dict",data:=.dict #[] } }) F.kt_called_dict (F.kt_typeCall_dict_1 _) F.entry_dict_init (kt_code_dict_new _ ⟨rfl,rfl⟩) ?_
 rintro ob s1 ⟨rfl,rfl⟩
 have hnew:(s.heap.push { cls:=.type "dict",data:=.dict #[] }).DictOf (mixKind X.prog X.w) s.heap.objs.size []:=Heap.DictOf.new s.heap
 have hol1:(s.heap.push { cls:=.type "dict",data:=.dict #[] }).get? l=some ol:=Heap.get?_push_of_some _ hol
 refine ⟨hnew.typeIs,F.args_dict_init_2 _ _,?_⟩
 unfold Builtin.«dict.__init__» ;unfold Builtin.Dict.selfAndRest
 refine wpAny_bind (wpAny_bind (wpAny_notOrdered_dict hnew.typeIs ?_))
 show wpAny _ _ (pure (s.heap.objs.size,[Value.ref l])) _ _ _
 refine wpAny_pure ?_
 show wpAny _ _ (Builtin.Dict.updateFrom "dict.__init__" s.heap.objs.size (.ref l) [] .none) _ _ _
 unfold Builtin.Dict.updateFrom
 refine wpAny_bind (wpAny_typeOf (T:="list") ⟨ol,hol1,hcl⟩ ?_)
 rw [if_pos (by decide)]
 refine wpAny_bind (Zg (s:={ s with heap:=s.heap.push { cls:=.type "dict",data:=.dict #[] } }) hol1 hcl hsl hdl hA fun h1 tk1 k1=>?_)
 rw [if_pos (by rfl)]
 refine wpAny_bind (wpAny_rule ?_)
 have L1:h1.IsList l its.toArray:=⟨ol,k1 _ _ hol1,hcl,nl,hsl⟩
 refine wpAny_bind (wpAny_pyIter_list (s:={ s with heap:=h1,toks:=tk1 }) L1 ?_)
 refine wpAny_pure ⟨plainId_quiet jg _,?_⟩
 have hdlt:s.heap.objs.size < h1.objs.size:=Heap.lt_size (k1 _ _ (Heap.get?_push_size _ rfl))
 have llt:l < s.heap.objs.size:=Heap.lt_size hol
 have up:∀ b o,s.heap.get? b=some o->h1.get? b=some o:=fun b o e=>k1 b o (Heap.get?_push_of_some _ e)
 have lenp:ps.length=its.length:=by have:=rv.length;rwa [List.length_map] at this
 have lenv:vs.length=kvs.length:=(Paired.length hv).symm
 have n1:l≠h1.objs.size:=Nat.ne_of_lt (Nat.lt_trans llt hdlt)
 have W:=Walks.list (prog:=X.prog) (w:=X.w) (A:=X.A.in1.in1) hA h1.objs.size l n1 its.toArray
 have ei:rawInt 0=.int ((0:Nat):Int) 0:=rfl
 rw [ei]
 have old:∀ j,j < its.toArray.size->ps.getD j 0 < s.heap.objs.size:=fun j hj=>by
  have hj':j < ps.length:=by rw [lenp];simpa using hj
  have hm:ps.getD j 0∈ps:=by rw [List.getD_eq_getElem?_getD,List.getElem?_eq_getElem hj'];exact List.getElem_mem hj'
  obtain ⟨o,ho⟩:=hP.mem _ hm
  exact I.hok.lt ho
 refine Vh (κ:=Key) (knd:=mixKind X.prog X.w) (n:=its.toArray.size) W (d:=s.heap.objs.size) ?_ vs ?_ ?_ (fun j=>ps.getD j 0) ?_ ?_ ?_ its.toArray.size 0 _ (Nat.zero_add _) ⟨⟨_,Heap.get?_push_size _ rfl,rfl,rfl⟩,L1.push _⟩ ?_ ?_ ?_
 ·intro z
  have z':s.heap.objs.size=h1.objs.size\/s.heap.objs.size=l:=by simpa using z
  exact z'.elim (Nat.ne_of_lt hdlt) (Nat.ne_of_gt llt)
 ·rw [lenv,<- hP.len,lenp];simp
 ·rw [Yd hv];exact nd
 ·intro i v hi e
  have e':its[i]? = some v:=by simpa using e
  have hi':i < ps.length:=by rw [lenp];simpa using hi
  obtain ⟨u,hu,ru⟩:=rv.get (i:=i) (x:=V.ref ps[i]) (by rw [List.getElem?_map,List.getElem?_eq_getElem hi'];rfl)
  rw [hu] at e'
  cases e'
  rw [List.getD_eq_getElem?_getD,List.getElem?_eq_getElem hi']
  exact ru
 ·intro i hi
  have hlt:=old i hi
  refine ⟨fun z=>?_,Nat.ne_of_lt hlt⟩
  have z':ps.getD i 0=h1.objs.size:=by simpa using z
  exact Nat.ne_of_lt (Nat.lt_trans hlt hdlt) z'
 ·have:=hP.len
  exact Nat.le_of_lt (small1000 (by simp;omega))
 ·rw [List.take_zero]
  exact (vd hnew fun o e=>k1 _ o e).push _
 ·intro j p hj
  obtain ⟨key,hk,o,ho,r⟩:=hT j p hj
  exact ⟨key,hk,o,Heap.get?_push_of_some _ (up _ _ ho),r⟩
 ·intro h3 tk3 hD k3
  refine ⟨rfl,.ref s.heap.objs.size,upd H s.heap.objs.size (.dK kvs),I.laid (a:=s.heap.objs.size) (o:=.dK kvs) (t':=tk3) (fun b o e=>?_) (Nat.le_refl _) ⟨Nat.le_of_lt (small1000 hz),?_,vs,hv,hD⟩,rfl,q _ (I.hok.fresh (Nat.le_refl _))⟩
  ·have hlt:=Heap.lt_size e
   refine k3 b o (fun z=>?_) (Nat.ne_of_lt hlt) (Heap.get?_push_of_some _ (up _ _ e))
   have z':b=h1.objs.size:=by simpa using z
   exact Nat.ne_of_lt (Nat.lt_trans hlt hdlt) z'
  ·exact beq_eq_false_iff_ne.mpr (Nat.ne_of_gt I.big)
theorem vf {X:Cx} (K:W.Frag) (hc:X.calm=true) (hu:X.A.units+1 < cLine) (hK:X.K=K:=by rfl):CallR X (.type "dict") (rDictL K):=by subst hK;exact Jk hc
end L2
namespace L2
open PySem PySem.Spec PyProof.Rows
def viewO (v d:Addr):HO:=.ext fun h=>h.IsValuesView v d
def rValues:V->List V->Hp->VK->Prop:=fun x vs H Q=>∃ (d:Addr) (kvs:List (Key × V)),x=.ref d/\vs=[]/\H d=some (.dK kvs)/\∀ v,H v=none->Q (.ref v) (upd H v (viewO v d))
theorem qce {X:Cx}:MtR X "dict.values" rValues:=by
 intro pins s σ H x vs v us Q I rx rv h
 obtain ⟨d,kvs,rfl,rfl,hd,q⟩:=h
 cases rx
 cases rv
 obtain ⟨z,hS,ws,rel,dd⟩:=qdy I.hok hd
 refine call_meetsIn PySem.F.slot_dict_values dd.typeIs PySem.F.entry_dict_values (PySem.F.args_dict_values_1 _) (meets_dict_values (mixKind X.prog X.w) d hS) ⟨⟨_,dd⟩,?_⟩
 refine ⟨.ref s.heap.objs.size,_,I.laid (a:=s.heap.objs.size) (o:=viewO s.heap.objs.size d) (t':=s.toks) (fun _ _ e=>Heap.get?_push_of_some _ e) (Nat.le_refl _) ⟨⟨_,Heap.get?_push_size _ rfl,rfl,rfl⟩,⟨_,Heap.get?_push_size _ rfl⟩,?_⟩,rfl,q _ (I.hok.fresh (Nat.le_refl _))⟩
 rintro h1 h2 ⟨o,ho,r⟩ e
 exact ⟨o,e o ho,r⟩
theorem kv_get {κ:Type}:∀ {kvs:List (κ × V)} {vs:List (κ × Value)} {i:Nat} {p:κ × V},KV kvs vs->kvs[i]? = some p->∃ q,vs[i]? = some q/\p.1=q.1/\RelV p.2 q.2
 | _,_,i,p,.nil,e=>by simp at e
 | _,_,0,p,.cons h r,e=>by cases e;exact ⟨_,rfl,h⟩
 | _,_,i+1,p,.cons h r,e=>kv_get (i:=i) r e
def rListVals:List V->Hp->VK->Prop:=fun xs H Q=>∃ (v d:Addr) (kvs:List (Key × V)),xs=[.ref v]/\H v=some (viewO v d)/\H d=some (.dK kvs)/\∀ l,H l=none->Q (.ref l) (upd H l (.lst (kvs.map (·.2))))
theorem ye {X:Cx} (hc:X.calm=true):CallR X (.type "list") rListVals:=by
 intro pins s σ H xs us Q I r h
 obtain ⟨v,d,kvs,rfl,hv,hd,q⟩:=h
 obtain ⟨u,rfl,ru⟩:=vals1 r
 cases ru
 obtain ⟨z,hS,ws,rel,dd⟩:=qdy I.hok hd
 have hw:s.heap.IsValuesView v d:=(show ObjOk X.prog X.w H s.heap v (viewO v d) from I.hok v _ hv).1
 obtain ⟨ep,hat⟩:=dd.dictAt
 have lw:kvs.length=ws.length:=Paired.length rel
 refine W.kdl_call (W.kdl_values (knd:=mixKind X.prog X.w) (kvs:=ws) (ep:=ep)) (I.ok.hd hc) ⟨hw,hat⟩ (by rw [<- lw];exact z) fun h' tk acc' c' kk hl hI=>?_
 have hvs:Vals (kvs.map (·.2)) acc'.toList:=by
  have hlen:acc'.toList.length=ws.length:=by rw [Array.length_toList];exact hI.1
  refine Vf (by rw [List.length_map,hlen,lw]) fun i x u e1 e2=>?_
  obtain ⟨k,e3⟩:=hI.2 i u (by rw [<- Array.getElem?_toList];exact e2)
  rw [List.getElem?_map] at e1
  cases e4:kvs[i]? with
  | none=>rw [e4] at e1;cases e1
  | some p =>
   rw [e4] at e1
   cases e1
   obtain ⟨p',e5,r5⟩:=kv_get rel e4
   rw [e3] at e5
   cases e5
   exact r5.2
 exact ⟨.ref s.heap.objs.size,_,I.laid kk (Nat.le_refl _) (show ObjOk X.prog X.w _ h' _ (.lst _) from ⟨by rw [List.length_map];exact z,acc'.toList,c',hvs,by simpa using hl⟩),rfl,q _ (I.hok.fresh (Nat.le_refl _))⟩
theorem zt {X:Cx} (K:W.Frag) (hc:X.calm=true):CallR X (.type "list") rListVals:=ye hc
end L2
namespace L2
open PySem PySem.Spec PyProof.Rows
section
variable {P:Program} {w:World} {A:Around} {E:Value->Shared->Prop} {s:Shared}
theorem qa4 {it t:Addr} {k:Nat} {xs:Array Value} {x:Value} {Q:Value->Shared->Prop} (hi:IsTupIter s.heap it t k) (ht:IsTup s.heap t xs) (hx:xs[k]? = some x)
  (q:∀ h',IsTupIter h' it t (k+1)->Heap.SameBut it s.heap h'->Q x { s with heap:=h' }):wpAny (model P w) A (Builtin.SmallTypes.nextOf (.ref it)) Q E s:=by
 obtain ⟨oi,hoi,ci,di⟩:=id hi
 obtain ⟨ot,hot,_,nt,dt⟩:=ht
 unfold Builtin.SmallTypes.nextOf
 refine wpAny_bind (wpAny_callSpecial?_slot (name:=Str.ofString "__next__") hi.typeIs slot_tupleiter_next (wpAny_call_entry slot_tupleiter_next hi.typeIs entry_tupleiter_next ?_ (args_tupleiter_next _)))
 show wpAny _ _ (field (.ref it) 0 >>= _) _ _ _
 refine wpAny_bind (wpAny_field hoi di (x:=.ref t) rfl ?_)
 show wpAny _ _ (if (Value.ref t == Value.none)=true then _ else _) _ _ _
 rw [if_neg (show ¬ ((Value.ref t == Value.none)=true) by intro z;cases z)]
 show wpAny _ _ (field (.ref it) 1 >>= _) _ _ _
 refine wpAny_bind (wpAny_field hoi di (x:=.int k 0) rfl ?_)
 show wpAny _ _ (seqItems? (.ref t) >>= _) _ _ _
 refine wpAny_bind (wpAny_seqItems hot dt ?_)
 simp only [Int.toNat_natCast,hx]
 refine wpAny_bind (wpAny_setField hoi di (by simp) (wpAny_pure ⟨x,rfl,wpAny_pure (q _ ?_ (Heap.SameBut.update ..))⟩))
 refine ⟨_,Heap.get?_update_self _ hoi (Obj.isFreed_of_fields (Obj.data_mapFields di _)),(Obj.cls_mapFields ..).trans ci,?_⟩
 rw [Obj.data_mapFields di]
 simp [rawInt]
theorem Jl {it t:Addr} {k:Nat} {xs:Array Value} {Q:Value->Shared->Prop} (hA:A.handled=none) (hi:IsTupIter s.heap it t k) (ht:IsTup s.heap t xs) (hx:xs[k]? = none)
  (q:∀ h' e,Heap.ExtBut it s.heap h'->(∃ o,h'.get? e=some o/\o.cls=.type "StopIteration")->E (.ref e) { s with heap:=h' }):wpAny (model P w) A (Builtin.SmallTypes.nextOf (.ref it)) Q E s:=by
 obtain ⟨oi,hoi,ci,di⟩:=id hi
 obtain ⟨ot,hot,_,nt,dt⟩:=ht
 unfold Builtin.SmallTypes.nextOf
 refine wpAny_bind (wpAny_callSpecial?_slot (name:=Str.ofString "__next__") hi.typeIs slot_tupleiter_next (wpAny_call_entry slot_tupleiter_next hi.typeIs entry_tupleiter_next ?_ (args_tupleiter_next _)))
 show wpAny _ _ (field (.ref it) 0 >>= _) _ _ _
 refine wpAny_bind (wpAny_field hoi di (x:=.ref t) rfl ?_)
 show wpAny _ _ (if (Value.ref t == Value.none)=true then _ else _) _ _ _
 rw [if_neg (show ¬ ((Value.ref t == Value.none)=true) by intro z;cases z)]
 show wpAny _ _ (field (.ref it) 1 >>= _) _ _ _
 refine wpAny_bind (wpAny_field hoi di (x:=.int k 0) rfl ?_)
 show wpAny _ _ (seqItems? (.ref t) >>= _) _ _ _
 refine wpAny_bind (wpAny_seqItems hot dt ?_)
 simp only [Int.toNat_natCast,hx]
 refine wpAny_bind (wpAny_rule (wpAny_bind (wpAny_setField hoi di (by simp) ?_)))
 show wpAny _ _ (newExc (.type "StopIteration") [] >>= _) _ _ _
 simp only [newExc,newTuple]
 refine wpAny_bind (wpAny_bind (wpAny_newObj_type ?_ (by size_fits)))
 refine wpAny_bind (m:=firstArgMember _ _) (wpAny_of_eq (a:=Value.none) (by first | rfl | (simp only [firstArgMember] ;rfl)) ?_)
 refine wpAny_newObj_type ?_ (by size_fits)
 simp only [raiseNew]
 refine wpAny_bind (wpAny_handled ?_)
 first | rw [show A.in1.handled=none from hA] | rw [hA]
 refine wpAny_bind (wpAny_pure (wpAny_throw ?_))
 exact q _ _ (((Heap.SameBut.update ..).extBut.push _).push _) ⟨_,Heap.get?_push_size _ rfl,rfl⟩
end
structure Src (P:Program) (w:World) (it sq:Addr) (xs:Array Value) (St:Nat->Heap->Prop):Prop where
 keep:∀ k h h',St k h->(∀ b,b=it\/b=sq->∀ o,h.get? b=some o->h'.get? b=some o)->St k h'
 obj:∀ k h,St k h->∃ o vs,h.get? it=some o/\o.data=.fields vs
 item:∀ (A:Around) (E:Value->Shared->Prop) (k:Nat) (s:Shared) (x:Value) (Q:Value->Shared->Prop),St k s.heap->xs[k]? = some x ->
  (∀ h',St (k+1) h'->Heap.SameBut it s.heap h'->Q x { s with heap:=h' })->wpAny (model P w) A (Builtin.SmallTypes.nextOf (.ref it)) Q E s
 fin:∀ (A:Around) (E:Value->Shared->Prop) (k:Nat) (s:Shared) (Q:Value->Shared->Prop),A.handled=none->St k s.heap->xs[k]? = none ->
  (∀ h' e,Heap.ExtBut it s.heap h'->(∃ o,h'.get? e=some o/\o.cls=.type "StopIteration")->E (.ref e) { s with heap:=h' })->wpAny (model P w) A (Builtin.SmallTypes.nextOf (.ref it)) Q E s
theorem Src.off {P:Program} {w:World} {it sq:Addr} {xs:Array Value} {St:Nat->Heap->Prop} (S:Src P w it sq xs St) {k:Nat} {h h':Heap} {b:Addr} (st:St k h) (e:Heap.ExtBut b h h') (n1:it≠b) (n2:sq≠b):St k h' :=
 S.keep k h h' st fun c hc o ho=>e c o (by rcases hc with z | z <;> rw [z] <;> assumption) ho
theorem qd9 {P:Program} {w:World} (it l:Addr) (ne:l≠it) (xs:Array Value):Src P w it l xs (fun k h=>h.IsListIter it l k/\h.IsList l xs) where
 keep:=fun k h h' st e=>⟨st.1.at fun o x=>e it (.inl rfl) o x,st.2.at fun o x=>e l (.inr rfl) o x⟩
 obj:=fun k h st=>by
  obtain ⟨o,ho,_,d⟩:=st.1
  exact ⟨o,_,ho,d⟩
 item:=fun A E k s x Q st hx q=>wpAny_nextOf_list_item st.1 st.2 hx fun h' a b=>q h' ⟨a,st.2.extBut b.extBut ne⟩ b
 fin:=fun A E k s Q hA st hx q=>wpAny_nextOf_list_end hA st.1 st.2 hx q
theorem qgc {P:Program} {w:World} (it t:Addr) (ne:t≠it) (xs:Array Value):Src P w it t xs (fun k h=>IsTupIter h it t k/\IsTup h t xs) where
 keep:=fun k h h' st e=>by
  obtain ⟨⟨o,ho,r⟩,o2,ho2,r2⟩:=st
  exact ⟨⟨o,e it (.inl rfl) o ho,r⟩,o2,e t (.inr rfl) o2 ho2,r2⟩
 obj:=fun k h st=>by
  obtain ⟨o,ho,_,d⟩:=st.1
  exact ⟨o,_,ho,d⟩
 item:=fun A E k s x Q st hx q=>qa4 st.1 st.2 hx fun h' a b=>q h' ⟨a,st.2.extBut b.extBut ne⟩ b
 fin:=fun A E k s Q hA st hx q=>Jl hA st.1 st.2 hx q
section
variable {P:Program} {w:World} {A:Around} {E:Value->Shared->Prop} {s:Shared} {z TI TO i1 i2 l1 l2:Addr} {xs ys:Array Value} {S1 S2:Nat->Heap->Prop}
theorem qcf {k:Nat} {x y a b:Value} {Q:Value->Shared->Prop} (c1:Src P w i1 l1 xs S1) (c2:Src P w i2 l2 ys S2) (D:ZipApart z TI TO i1 i2 l1 l2) (hz:IsZip s.heap z TI TO .none) (hTI:IsPair s.heap TI (.ref i1) (.ref i2)) (hTO:IsPair s.heap TO a b)
  (st1:S1 k s.heap) (st2:S2 k s.heap) (hx:xs[k]? = some x) (hy:ys[k]? = some y)
  (q : ∀ (h':Heap) (T:Addr),IsZip h' z TI TO (rawInt T)->IsPair h' TO x y->S1 (k+1) h'->S2 (k+1) h'->IsPair h' T x y->s.heap.objs.size<=T->T≠z->T≠TO->T≠i1->T≠i2 ->
   (∀ c o,c≠z->c≠TO->c≠i1->c≠i2->s.heap.get? c=some o->h'.get? c=some o)->Q (.ref T) { s with heap:=h' }) :
  wpAny (model P w) A (Builtin.«zip.__next__» ⟨[.ref z],[]⟩) (fun fn s'=>∃ v,fn=.done (.ret v)/\Q v s') E s:=by
 show wpAny _ _ (field (.ref z) 2 >>= _) _ _ _
 refine wpAny_bind (wpAny_field hz rfl (x:=.bool false) rfl ?_)
 show wpAny _ _ (field (.ref z) 3 >>= _) _ _ _
 refine wpAny_bind (wpAny_field hz rfl (x:=.ref TI) rfl (wpAny_bind (wpAny_seqItems hTI rfl ?_)))
 show wpAny _ _ (Builtin.SmallTypes.ownedTupleIsFree (.ref z) >>= _) _ _ _
 unfold Builtin.SmallTypes.ownedTupleIsFree
 refine wpAny_bind (wpAny_bind (wpAny_field hz rfl (x:=.none) rfl (wpAny_pure ?_)))
 simp only [if_true]
 refine wpAny_bind (wpAny_rule (wpAny_bind (wpAny_field hz rfl (x:=.ref TO) rfl ?_)))
 refine wpAny_bind (wpAny_setField_rec hz (by simp) fun g1 hz1 u1=>wpAny_bind ?_)
 replace hz1:IsZip g1 z TI TO .ellipsis:=hz1
 simp only [List.zipIdx_cons,List.zipIdx_nil,List.forIn_cons,List.forIn_nil]
 have a1:=c1.off st1 u1.extBut D.i1z D.l1z
 have a2:=c2.off st2 u1.extBut D.i2z D.l2z
 refine wpAny_bind (wpAny_bind (wpAny_onRaise ?_))
 show wpAny _ _ (Builtin.SmallTypes.nextOf (.ref i1) >>= _) _ _ _
 refine wpAny_bind (c1.item _ _ k { s with heap:=g1 } x _ a1 hx fun g2 b1 u2=>wpAny_pure ?_)
 have b2:=c2.off a2 u2.extBut D.i12.symm D.l2i1
 have hT2:IsPair g2 TO a b:=u2.extBut _ _ D.TOi1 (u1.extBut _ _ D.TOz hTO)
 refine wpAny_bind (wpAny_seqItems hT2 rfl (wpAny_bind (wpAny_updateSeq_pair hT2 fun g3 hT3 u3=>?_)))
 replace hT3:IsPair g3 TO x b:=hT3
 refine wpAny_bind (wpAny_letGo (wpAny_pure ?_))
 have d1:=c1.off b1 u3.extBut D.TOi1.symm D.l1TO
 have d2:=c2.off b2 u3.extBut D.TOi2.symm D.l2TO
 refine wpAny_bind (wpAny_bind (wpAny_onRaise ?_))
 show wpAny _ _ (Builtin.SmallTypes.nextOf (.ref i2) >>= _) _ _ _
 refine wpAny_bind (c2.item _ _ k { s with heap:=g3 } y _ d2 hy fun g4 e2 u4=>wpAny_pure ?_)
 have e1:=c1.off d1 u4.extBut D.i12 D.l1i2
 have hT4:IsPair g4 TO x b:=u4.extBut _ _ D.TOi2 hT3
 refine wpAny_bind (wpAny_seqItems hT4 rfl (wpAny_bind (wpAny_updateSeq_pair hT4 fun g5 hT5 u5=>?_)))
 replace hT5:IsPair g5 TO x y:=hT5
 refine wpAny_bind (wpAny_letGo (wpAny_pure (wpAny_pure ?_)))
 have f1:=c1.off e1 u5.extBut D.TOi1.symm D.l1TO
 have f2:=c2.off e2 u5.extBut D.TOi2.symm D.l2TO
 refine wpAny_bind (wpAny_seqItems hT5 rfl (wpAny_bind (wpAny_newTuple ?_)))
 have sz:g5.objs.size=s.heap.objs.size:=by rw [u5.1,u4.1,u3.1,u2.1,u1.1]
 have hz5:IsZip g5 z TI TO .ellipsis:=u5.extBut _ _ D.TOz.symm (u4.extBut _ _ D.i2z.symm (u3.extBut _ _ D.TOz.symm (u2.extBut _ _ D.i1z.symm hz1)))
 have k5:∀ c o,c≠z->c≠TO->c≠i1->c≠i2->s.heap.get? c=some o->g5.get? c=some o:=fun c o n1 n2 n3 n4 e =>
  u5.extBut _ _ n2 (u4.extBut _ _ n4 (u3.extBut _ _ n2 (u2.extBut _ _ n3 (u1.extBut _ _ n1 e))))
 have zl:z < g5.objs.size:=Heap.lt_size hz5
 show wpAny _ _ (Builtin.SmallTypes.ownedTupleHandOut (.ref z) (.ref g5.objs.size) >>= _) _ _ _
 unfold Builtin.SmallTypes.ownedTupleHandOut
 have hz6:IsZip (g5.push { cls:=.type "tuple",data:=.seq #[x,y] }) z TI TO .ellipsis:=Heap.get?_push_of_some _ hz5
 refine wpAny_bind (wpAny_bind (wpAny_setField_rec hz6 (by simp) fun g7 hz7 u7=>?_))
 replace hz7:IsZip g7 z TI TO (rawInt g5.objs.size):=hz7
 refine wpAny_setField_rec hz7 (by simp) fun g8 hz8 u8=>?_
 replace hz8:IsZip g8 z TI TO (rawInt g5.objs.size):=hz8
 have up:∀ c o,c≠z->g5.get? c=some o->g8.get? c=some o:=fun c o n e=>u8.extBut _ _ n (u7.extBut _ _ n (Heap.get?_push_of_some _ e))
 have hN:IsPair g8 g5.objs.size x y:=u8.extBut _ _ (Nat.ne_of_gt zl) (u7.extBut _ _ (Nat.ne_of_gt zl) (Heap.get?_push_size _ rfl))
 have o1:g5.objs.size≠i1:=by obtain ⟨o,_,ho,_⟩:=c1.obj _ _ f1;exact Nat.ne_of_gt (Heap.lt_size ho)
 have o2:g5.objs.size≠i2:=by obtain ⟨o,_,ho,_⟩:=c2.obj _ _ f2;exact Nat.ne_of_gt (Heap.lt_size ho)
 refine wpAny_pure ⟨_,rfl,q g8 g5.objs.size hz8 (up _ _ D.TOz hT5) ?_ ?_ hN (Nat.le_of_eq sz.symm) (Nat.ne_of_gt zl) (Nat.ne_of_gt (Heap.lt_size hT5)) o1 o2 fun c o n1 n2 n3 n4 e=>up c o n1 (k5 c o n1 n2 n3 n4 e)⟩
 ·exact c1.keep _ _ _ f1 fun c hc o ho=>up c o (by rcases hc with q | q <;> rw [q] <;> first | exact D.i1z | exact D.l1z) ho
 ·exact c2.keep _ _ _ f2 fun c hc o ho=>up c o (by rcases hc with q | q <;> rw [q] <;> first | exact D.i2z | exact D.l2z) ho
theorem qea {k:Nat} {a b:Value} {Q:Fin->Shared->Prop} (hA:A.handled=none) (c1:Src P w i1 l1 xs S1) (c2:Src P w i2 l2 ys S2) (D:ZipApart z TI TO i1 i2 l1 l2) (hz:IsZip s.heap z TI TO .none) (hTI:IsPair s.heap TI (.ref i1) (.ref i2)) (hTO:IsPair s.heap TO a b)
  (st1:S1 k s.heap) (st2:S2 k s.heap) (hn:xs[k]? = none\/ys[k]? = none)
  (q:∀ h' e,(∀ c o,c≠z->c≠TO->c≠i1->c≠i2->s.heap.get? c=some o->h'.get? c=some o)->(∃ o,h'.get? e=some o/\o.cls=.type "StopIteration")->E (.ref e) { s with heap:=h' }) :
  wpAny (model P w) A (Builtin.«zip.__next__» ⟨[.ref z],[]⟩) Q E s:=by
 show wpAny _ _ (field (.ref z) 2 >>= _) _ _ _
 refine wpAny_bind (wpAny_field hz rfl (x:=.bool false) rfl ?_)
 show wpAny _ _ (field (.ref z) 3 >>= _) _ _ _
 refine wpAny_bind (wpAny_field hz rfl (x:=.ref TI) rfl (wpAny_bind (wpAny_seqItems hTI rfl ?_)))
 show wpAny _ _ (Builtin.SmallTypes.ownedTupleIsFree (.ref z) >>= _) _ _ _
 unfold Builtin.SmallTypes.ownedTupleIsFree
 refine wpAny_bind (wpAny_bind (wpAny_field hz rfl (x:=.none) rfl (wpAny_pure ?_)))
 simp only [if_true]
 refine wpAny_bind (wpAny_rule (wpAny_bind (wpAny_field hz rfl (x:=.ref TO) rfl ?_)))
 refine wpAny_bind (wpAny_setField_rec hz (by simp) fun g1 hz1 u1=>wpAny_bind ?_)
 replace hz1:IsZip g1 z TI TO .ellipsis:=hz1
 simp only [List.zipIdx_cons,List.zipIdx_nil,List.forIn_cons,List.forIn_nil]
 have a1:=c1.off st1 u1.extBut D.i1z D.l1z
 have a2:=c2.off st2 u1.extBut D.i2z D.l2z
 refine wpAny_bind (wpAny_bind (wpAny_onRaise ?_))
 show wpAny _ _ (Builtin.SmallTypes.nextOf (.ref i1) >>= _) _ _ _
 cases hx:xs[k]? with
 | none =>
  refine wpAny_bind (c1.fin _ _ k { s with heap:=g1 } _ hA a1 hx fun g2 e u2 he=>?_)
  obtain ⟨oe,hoe,ce⟩:=he
  have hz2:IsZip g2 z TI TO .ellipsis:=u2 _ _ D.i1z.symm hz1
  have ez:e≠z:=fun q=>by subst q;rw [hz2] at hoe;cases hoe;simp at ce
  exact wpAny_setField_rec hz2 (by simp) fun g3 _ u3=>q g3 e (fun c o n1 _ n3 _ ho=>u3.extBut _ _ n1 (u2 _ _ n3 (u1.extBut _ _ n1 ho))) ⟨oe,u3.extBut _ _ ez hoe,ce⟩
 | some x =>
  have hy:ys[k]? = none:=by
   rcases hn with h | h
   ·rw [hx] at h;cases h
   ·exact h
  refine wpAny_bind (c1.item _ _ k { s with heap:=g1 } x _ a1 hx fun g2 b1 u2=>wpAny_pure ?_)
  have b2:=c2.off a2 u2.extBut D.i12.symm D.l2i1
  have hT2:IsPair g2 TO a b:=u2.extBut _ _ D.TOi1 (u1.extBut _ _ D.TOz hTO)
  refine wpAny_bind (wpAny_seqItems hT2 rfl (wpAny_bind (wpAny_updateSeq_pair hT2 fun g3 hT3 u3=>?_)))
  refine wpAny_bind (wpAny_letGo (wpAny_pure ?_))
  have d2:=c2.off b2 u3.extBut D.TOi2.symm D.l2TO
  refine wpAny_bind (wpAny_bind (wpAny_onRaise ?_))
  show wpAny _ _ (Builtin.SmallTypes.nextOf (.ref i2) >>= _) _ _ _
  refine wpAny_bind (c2.fin _ _ k { s with heap:=g3 } _ hA d2 hy fun g4 e u4 he=>?_)
  obtain ⟨oe,hoe,ce⟩:=he
  have hz4:IsZip g4 z TI TO .ellipsis:=u4 _ _ D.i2z.symm (u3.extBut _ _ D.TOz.symm (u2.extBut _ _ D.i1z.symm hz1))
  have ez:e≠z:=fun q=>by subst q;rw [hz4] at hoe;cases hoe;simp at ce
  exact wpAny_setField_rec hz4 (by simp) fun g5 _ u5=>q g5 e (fun c o n1 n2 n3 n4 ho=>u5.extBut _ _ n1 (u4 _ _ n4 (u3.extBut _ _ n2 (u2.extBut _ _ n3 (u1.extBut _ _ n1 ho))))) ⟨oe,u5.extBut _ _ ez hoe,ce⟩
end
def SqA (K:W.Frag) (H:Hp) (a:Addr) (xs:List V):Bool->Prop
 | true=>SqT K H a xs
 | false=>SqL K H a xs
def ItA (h:Heap) (it l:Addr) (k:Nat):Bool->Prop
 | true=>IsTupIter h it l k
 | false=>h.IsListIter it l k
def HasA (h:Heap) (l:Addr) (xs:Array Value):Bool->Prop
 | true=>IsTup h l xs
 | false=>h.IsList l xs
theorem srcA {P:Program} {w:World} (it l:Addr) (ne:l≠it) (xs:Array Value):∀ b,Src P w it l xs (fun k h=>ItA h it l k b/\HasA h l xs b)
 | true=>qgc it l ne xs
 | false=>qd9 it l ne xs
theorem ItA.at {h h':Heap} {it l:Addr} {k:Nat} (e:∀ o,h.get? it=some o->h'.get? it=some o):∀ {b:Bool},ItA h it l k b->ItA h' it l k b
 | true,x=>let ⟨o,ho,r⟩:=(show IsTupIter h it l k from x);⟨o,e o ho,r⟩
 | false,x=>let ⟨o,ho,r⟩:=(show h.IsListIter it l k from x);⟨o,e o ho,r⟩
theorem ItA.obj {h:Heap} {it l:Addr} {k:Nat}:∀ {b:Bool},ItA h it l k b->∃ o,h.get? it=some o/\o.data=.fields #[.ref l,.int k 0]/\(o.cls=.type "tuple_iterator"\/o.cls=.type "list_iterator")
 | true,x=>let ⟨o,ho,c,d⟩:=(show IsTupIter h it l k from x);⟨o,ho,d,.inl c⟩
 | false,x=>let ⟨o,ho,c,d⟩:=(show h.IsListIter it l k from x);⟨o,ho,d,.inr c⟩
theorem HasA.obj {h:Heap} {l:Addr} {xs:Array Value}:∀ {b:Bool},HasA h l xs b->∃ o,h.get? l=some o/\(o.cls=.type "tuple"\/o.cls=.type "list")/\∃ n,o.data=.seq xs n
 | true,x=>let ⟨o,ho,c,n,d⟩:=(show IsTup h l xs from x);⟨o,ho,.inl c,n,d⟩
 | false,x=>let ⟨o,ho,c,n,d⟩:=(show h.IsList l xs from x);⟨o,ho,.inr c,n,d⟩
theorem Inv.seqA {X:Cx} {pins:List (Addr × Obj)} {σ:St} {H:Hp} {s:Shared} {a:Addr} {xs:List V} (I:Inv X pins σ H s):∀ {b:Bool},SqA X.K H a xs b->∃ its:List Value,Vals xs its/\HasA s.heap a its.toArray b/\xs.length<=sizeLine
 | true,h=>let ⟨its,r,p,z⟩:=I.tuple h;⟨its,r,p,z⟩
 | false,h=>let ⟨its,r,p,z⟩:=I.list h;⟨its,r,p.isList,z⟩
theorem Inv.seqA_inj {X:Cx} {pins:List (Addr × Obj)} {σ:St} {H:Hp} {s:Shared} {a:Addr} {xs ys:List V} {i:Nat} {x:V} (I:Inv X pins σ H s) {b:Bool} (h:SqA X.K H a xs b) (h':SqA X.K H a ys b) (e:xs[i]? = some x):ys[i]? = some x:=by
 cases b with
 | true=>rw [I.tuple_inj h' h];exact e
 | false=>rw [I.list_inj h' h];exact e
def itO (l:Addr):Bool->Obj
 | true=>{ cls:=.type "tuple_iterator",data:=.fields #[.ref l,.int 0 0] }
 | false=>{ cls:=.type "list_iterator",data:=.fields #[.ref l,.int 0 0] }
theorem pyIterA {P:Program} {w:World} {A:Around} {E:Value->Shared->Prop} {s:Shared} {l:Addr} {xs:Array Value} {Q:Value->Shared->Prop}:∀ {b:Bool},HasA s.heap l xs b->Q (.ref s.heap.objs.size) { s with heap:=s.heap.push (itO l b) }->wpAny (model P w) A (pyIter (.ref l)) Q E s
 | true,h,q=>iter_tuple h q
 | false,h,q=>wpAny_pyIter_list h q
theorem HasA.keep {h h':Heap} {l:Addr} {xs:Array Value} (e:∀ o,h.get? l=some o->h'.get? l=some o):∀ {b:Bool},HasA h l xs b->HasA h' l xs b
 | true,x=>let ⟨o,ho,r⟩:=(show IsTup h l xs from x);⟨o,e o ho,r⟩
 | false,x=>let ⟨o,ho,r⟩:=(show h.IsList l xs from x);⟨o,e o ho,r⟩
theorem Yy {h:Heap} {l:Addr} {k:Addr}:∀ {b:Bool},h.get? k=some (itO l b)->ItA h k l 0 b
 | true,e=>⟨_,e,rfl,rfl⟩
 | false,e=>⟨_,e,rfl,rfl⟩
end L2
namespace L2
open PySem PySem.Spec PyProof.Rows
inductive VSame (K:W.Frag) (H:Hp):Nat->V->V->Prop where
 | flat {n:Nat} {x:V} (h:flatV x=true):VSame K H n x x
 | seq {n:Nat} {a b:Addr} {xs ys:List V} (t:Bool) (ha:SqA K H a xs t) (hb:SqA K H b ys t) (hl:xs.length=ys.length) (h:∀ (i:Nat) x y,xs[i]? = some x->ys[i]? = some y->VSame K H n x y):VSame K H (n+1) (.ref a) (.ref b)
theorem qeb {x:V} (h:flatV x=true):eqV x x=true:=by
 cases x <;> first | (cases h;done) | (simp [eqV])
section
variable {X:Cx} {pins:List (Addr × Obj)} {σ:St} {H:Hp} {s:Shared}
theorem yh (n:Nat):((List.range n).all fun _=>true)=true:=by simp
theorem zu {n:Nat} {A:Around} {xs ys:List V} {i1 i2:List Value} (r1:Vals xs i1) (r2:Vals ys i2) (ih:∀ (i:Nat) x y u v,xs[i]? = some x->ys[i]? = some y->RelV x u->RelV y v->SeqAt.EqAt A s u v true) :
  ∀ j (h1:j < i1.toArray.size) (h2:j < i2.toArray.size),SeqAt.EqAt A s i1.toArray[j] i2.toArray[j] true:=fun j h1 h2=>by
 have l1:=r1.length
 have l2:=r2.length
 have h1':j < xs.length:=by simpa [l1] using h1
 have h2':j < ys.length:=by simpa [l2] using h2
 obtain ⟨u1,f1,g1⟩:=r1.get (List.getElem?_eq_getElem h1')
 obtain ⟨u2,f2,g2⟩:=r2.get (List.getElem?_eq_getElem h2')
 have k1:i1.toArray[j]=u1:=by
  have:=(List.getElem?_eq_some_iff.mp f1).2
  simpa using this
 have k2:i2.toArray[j]=u2:=by
  have:=(List.getElem?_eq_some_iff.mp f2).2
  simpa using this
 rw [k1,k2]
 exact ih j _ _ _ _ (List.getElem?_eq_getElem h1') (List.getElem?_eq_getElem h2') g1 g2
theorem qfi {A:Around} {t:Bool} {a b:Addr} {i1 i2:List Value} (p1:HasA s.heap a i1.toArray t) (p2:HasA s.heap b i2.toArray t) (hl:i1.length=i2.length) (hu:A.units < cLine)
  (h:∀ j (h1:j < i1.toArray.size) (h2:j < i2.toArray.size),SeqAt.EqAt A.in1 s i1.toArray[j] i2.toArray[j] true):SeqAt.RcAt A s (.ref a) (.ref b) true:=by
 cases t with
 | false =>
  have:=SeqAt.RcAt.lists (e:=fun _=>true) p1 p2 (by simpa using hl) hu h
  rwa [yh] at this
 | true =>
  have:=SeqAt.RcAt.tuples (e:=fun _=>true) p1 p2 hu h
  rw [yh] at this
  simpa [hl] using this
theorem qec {A:Around} {t:Bool} {a b:Addr} {i1 i2:List Value} (p1:HasA s.heap a i1.toArray t) (p2:HasA s.heap b i2.toArray t) (hl:i1.length=i2.length) (hu:A.units < cLine)
  (h:∀ j (h1:j < i1.toArray.size) (h2:j < i2.toArray.size),SeqAt.EqAt A.in1 s i1.toArray[j] i2.toArray[j] true):SeqAt.RcNeAt A s (.ref a) (.ref b) false:=by
 cases t with
 | false =>
  have:=SeqAt.RcNeAt.lists (e:=fun _=>true) p1 p2 (by simpa using hl) hu h
  rwa [yh] at this
 | true =>
  have:=SeqAt.RcNeAt.tuples (e:=fun _=>true) p1 p2 hu h
  rw [yh] at this
  simpa [hl] using this
theorem qcg (I:Inv X pins σ H s):∀ {n:Nat} {x y:V},VSame X.K H n x y->∀ {u v:Value} (A:Around),RelV x u->RelV y v->A.units+n < cLine->SeqAt.EqAt A s u v true:=by
 intro n x y h
 induction h with
 | flat h =>
  intro u v A ru rv _
  have:=qfe (A:=A) (s:=s) ru rv h h
  rwa [qeb h] at this
 | seq t ha hb hl h ih =>
  rename_i n a b xs ys
  intro u v A ru rv hu
  cases ru
  cases rv
  by_cases e:a=b
  ·subst e
   exact SeqAt.EqAt.same _
  ·obtain ⟨i1,r1,p1,_⟩:=I.seqA ha
   obtain ⟨i2,r2,p2,_⟩:=I.seqA hb
   refine SeqAt.EqAt.of_refs e (qfi p1 p2 (by rw [<- r1.length,<- r2.length,hl]) (by omega) (zu (n:=n) r1 r2 fun i x y u v e1 e2 g1 g2=>ih i x y e1 e2 A.in1 g1 g2 ?_))
   show A.units+1+n < cLine
   omega
end
def rSameV (K:W.Frag) (b:Bool):R2:=fun x y H Q=>∃ (n:Nat) (a c:Addr),x=.ref a/\y=.ref c/\VSame K H (n+1) x y/\n<=30/\Q (.bl b) H
theorem qhw {X:Cx} (hu:X.A.units+64 < cLine):OpR X (compareOp .Eq) (rSameV X.K true):=by
 intro pins s σ H x y u v Q I rx ry h
 obtain ⟨n,a,c,rfl,rfl,hv,hn,q⟩:=h
 cases rx
 cases ry
 cases hv with
 | flat h=>cases h
 | seq t ha hb hl h =>
  obtain ⟨i1,r1,p1,_⟩:=I.seqA ha
  obtain ⟨i2,r2,p2,_⟩:=I.seqA hb
  refine qfi p1 p2 (by rw [<- r1.length,<- r2.length,hl]) (by omega) (zu (n:=n) r1 r2 fun i x y u v e1 e2 g1 g2=>qcg I (h i x y e1 e2) X.A.in1 g1 g2 ?_) X.prog X.w _ _ ⟨.bl true,H,I,rfl,q⟩
  show X.A.units+1+n < cLine
  omega
theorem qhx {X:Cx} (hu:X.A.units+64 < cLine):OpR X (compareOp .NotEq) (rSameV X.K false):=by
 intro pins s σ H x y u v Q I rx ry h
 obtain ⟨n,a,c,rfl,rfl,hv,hn,q⟩:=h
 cases rx
 cases ry
 cases hv with
 | flat h=>cases h
 | seq t ha hb hl h =>
  obtain ⟨i1,r1,p1,_⟩:=I.seqA ha
  obtain ⟨i2,r2,p2,_⟩:=I.seqA hb
  refine qec p1 p2 (by rw [<- r1.length,<- r2.length,hl]) (by omega) (zu (n:=n) r1 r2 fun i x y u v e1 e2 g1 g2=>qcg I (h i x y e1 e2) X.A.in1 g1 g2 ?_) X.prog X.w _ _ ⟨.bl false,H,I,rfl,q⟩
  show X.A.units+1+n < cLine
  omega
theorem qch {X:Cx} (K:W.Frag) (hu:X.A.units+64 < cLine) (hK:X.K=K:=by rfl):OpR X (compareOp .Eq) (rSameV K true):=by subst hK;exact qhw hu
theorem qgd {X:Cx} (K:W.Frag) (hu:X.A.units+64 < cLine) (hK:X.K=K:=by rfl):OpR X (compareOp .NotEq) (rSameV K false):=by subst hK;exact qhx hu
end L2
namespace L2
open PySem PySem.Spec PyProof.Rows
end L2
namespace L2
open PySem PySem.Spec PyProof.Rows
def hide (h:Heap) (fs:List Addr):Heap:=⟨((List.range h.objs.size).map fun i=>if i∈fs then (⟨.none,none,.freed,#[]⟩:Obj) else (h.objs[i]?).getD ⟨.none,none,.freed,#[]⟩).toArray,h.life⟩
theorem vj (h:Heap) (fs:List Addr) (b:Addr):(hide h fs).get? b=if b∈fs then none else h.get? b:=by
 unfold Heap.get? hide
 by_cases hb:b < h.objs.size
 ·have e:((List.range h.objs.size).map fun i=>if i∈fs then (⟨.none,none,.freed,#[]⟩:Obj) else (h.objs[i]?).getD ⟨.none,none,.freed,#[]⟩).toArray[b]? = some (if b∈fs then (⟨.none,none,.freed,#[]⟩:Obj) else (h.objs[b]?).getD ⟨.none,none,.freed,#[]⟩):=by
   rw [List.getElem?_toArray,List.getElem?_map,List.getElem?_range hb]
   rfl
  show (match (((List.range h.objs.size).map fun i=>if i∈fs then (⟨.none,none,.freed,#[]⟩:Obj) else (h.objs[i]?).getD ⟨.none,none,.freed,#[]⟩).toArray[b]?) with | some ⟨_,_,.freed,_⟩=>none | o=>o)=_
  rw [e]
  by_cases hf:b∈fs
  ·rw [if_pos hf,if_pos hf]
  ·rw [if_neg hf,if_neg hf,Array.getElem?_eq_getElem hb]
   rfl
 ·have e:((List.range h.objs.size).map fun i=>if i∈fs then (⟨.none,none,.freed,#[]⟩:Obj) else (h.objs[i]?).getD ⟨.none,none,.freed,#[]⟩).toArray[b]? = none:=by
   rw [List.getElem?_toArray]
   exact List.getElem?_eq_none (by rw [List.length_map,List.length_range];exact Nat.le_of_not_lt hb)
  show (match (((List.range h.objs.size).map fun i=>if i∈fs then (⟨.none,none,.freed,#[]⟩:Obj) else (h.objs[i]?).getD ⟨.none,none,.freed,#[]⟩).toArray[b]?) with | some ⟨_,_,.freed,_⟩=>none | o=>o)=_
  rw [e,Array.getElem?_eq_none (Nat.le_of_not_lt hb)]
  by_cases hf:b∈fs
  ·rw [if_pos hf]
  ·rw [if_neg hf]
theorem Ye {h:Heap} {fs:List Addr} {b:Addr} {o:Obj} (e:h.get? b=some o) (n:b ∉ fs):(hide h fs).get? b=some o:=by rw [vj,if_neg n];exact e
theorem qa5 (h:Heap) (fs:List Addr):(hide h fs).StaysIn h:=fun b o e=>by
 rw [vj] at e
 split at e
 ·cases e
 ·exact e
theorem qed {h:Heap} {fs:List Addr} {b:Addr} (n:b∈fs):(hide h fs).get? b=none:=by rw [vj,if_pos n]
theorem yw {h b:Heap} {fs:List Addr}:∀ {l:List Env},(∀ x∈frs l,x∈fs)->h.FunFrames b l->h.FunFrames (hide h fs) l
 | [],_,_=>trivial
 | env :: l,hs,⟨hk,⟨L,o,hf,hn,ho,hd⟩,hr⟩ =>
  ⟨hk,⟨L,o,hf,qed (hs L (by unfold frs;rw [List.filterMap_cons,hf];exact List.mem_cons_self)),ho,hd⟩,yw (fun x hx=>hs x (by unfold frs;rw [List.filterMap_cons,hf];exact List.mem_cons_of_mem _ hx)) hr⟩
theorem HOk.keptAt {P:Program} {w:World} {H:Hp} {h h':Heap} (x:HOk P w H h) (k:∀ b o u,H b=some o->h.get? b=some u->h'.get? b=some u):HOk P w H h':=fun a o e =>
 (x a o e).stay (fun b u hb q=>by
  rcases hb with rfl | hb
  ·exact k b o u e q
  ·exact k b _ u hb q) (fun _ q=>q) fun _ _ q=>q
theorem ObjOk.there' {P:Program} {w:World} {H:Hp} {h:Heap} {a:Addr} {o:HO} (x:ObjOk P w H h a o):∃ u,h.get? a=some u:=by
 cases o with
 | lst xs=>obtain ⟨_,_,_,_,e⟩:=x;exact ⟨_,e⟩
 | tup xs=>obtain ⟨_,_,_,⟨ob,e,_⟩,_⟩:=x;exact ⟨_,e⟩
 | dK kvs=>obtain ⟨_,_,_,_,o,_,_,e,_⟩:=x;exact ⟨_,e⟩
 | dT kvs=>obtain ⟨_,_,_,_,o,_,_,e,_⟩:=x;exact ⟨_,e⟩
 | set S n=>obtain ⟨o,_,_,_,e,_⟩:=x;exact ⟨_,e⟩
 | ins C dx fs=>obtain ⟨_,_,_,e,_⟩:=x;exact ⟨_,e⟩
 | own y=>obtain ⟨_,e⟩:=x;exact ⟨_,e⟩
 | xd fs=>obtain ⟨_,⟨_,_,_,e,_⟩,_⟩:=x;exact ⟨_,e⟩
 | rng lo hi=>obtain ⟨_,_,_,e⟩:=x;exact ⟨_,e⟩
 | frz ob u=>obtain ⟨e,_⟩:=x;exact ⟨_,e⟩
 | tbl ps=>exact ⟨_,(show h.get? a=some _ from x)⟩
 | met f y=>exact ⟨_,(show h.get? a=some _ from x)⟩
 | ext φ=>obtain ⟨_,⟨_,e⟩,_⟩:=x;exact ⟨_,e⟩
def CX1 (P:Program) (w:World):CXT:=fun outer H s E u s'=>∃ (e t:Addr) (cls:Value) (H':Hp) (b1:Heap),u=.ref e/\s'.os=s.os/\AllBare s'.gens/\Un (frs outer) [] H H' s.heap s'.heap/\HOk P w H' s'.heap/\H' e=none/\s.heap.get? e=none /\
 Heap.FlyingW b1 outer e cls (.ref t) s'.heap/\(∀ b o,((∃ u,s.heap.get? b=some u)\/∃ u,H' b=some u)->b ∉ frs outer->s'.heap.get? b=some o->b1.get? b=some o)/\E cls none H'
section
variable {P:Program} {w:World} {K:W.Frag} {mg:Str->Option Value} {base:Heap} {N:List Str} {qual:Str} {scope:Scope} {f:Addr} {cdv:Value} {A:Around} {outer:List Env} {s:Shared} {H:Hp} {E:XK}
theorem Yz {env:Env} {l:List Env} {L:Addr} (h:env.frame=some L):frs (env :: l)=L :: frs l:=by unfold frs;rw [List.filterMap_cons,h]
theorem qa6 {pins:List (Addr × Obj)} {σ:St} {H1:Hp} {s1:Shared} {h2:Heap} {e:Addr} {cls:Value} {vs:List Value} (I:Inv (cxOf (CX1 P w) P w K mg base N qual scope f cdv A outer s H E) pins σ H1 s1)
  (hx:Heap.MadeExcOf s1.heap h2 e cls vs) (q:E cls none H1):(cxOf (CX1 P w) P w K mg base N qual scope f cdv A outer s H E).xe (.ref e) { s1 with heap:=h2 }:=by
 have hL:(envOfC qual scope s.heap.objs.size f cdv).frame=some s.heap.objs.size:=rfl
 have hfr:=Yz (l:=outer) hL
 have hst:=I.stack
 have hfree:=I.stkFree
 refine wpAny_leaves_madeW (base:=hide s1.heap (frs (envOfC qual scope s.heap.objs.size f cdv :: outer))) (h:=s1.heap) I.ok.frames hL (qa5 _ _) (yw (fun x hx=>hx) hst) hx fun h' t hfl htup hnew hsm=>?_
 have ne:∀ b u,s.heap.get? b=some u->b≠s.heap.objs.size:=fun b u h=>Nat.ne_of_lt (Heap.lt_size h)
 have keepS:∀ b o,s1.heap.get? b=some o->b ∉ frs (envOfC qual scope s.heap.objs.size f cdv :: outer)->h'.get? b=some o:=fun b o h n=>hfl.1 b o (Ye h n)
 have nin:∀ b u,s.heap.get? b=some u->b ∉ frs outer->b ∉ frs (envOfC qual scope s.heap.objs.size f cdv :: outer):=fun b u h n z=>by
  rw [hfr] at z
  rcases List.mem_cons.mp z with z | z
  ·exact ne b u h z
  ·exact n z
 have slotS:∀ b o,s1.heap.get? b=some o->b∈frs (envOfC qual scope s.heap.objs.size f cdv :: outer)->∃ sl,h'.get? b=some { o with slots:=sl }:=fun b o h n=>by
  obtain ⟨_,o',ho',hd⟩:=hst.mem n
  rw [h] at ho'
  cases ho'
  exact hsm b o (hx.keeps b o h) hd
 have trk:∀ b o,H1 b=some o->b ∉ frs (envOfC qual scope s.heap.objs.size f cdv :: outer):=fun b o h z=>by
  have:=hfree b z
  rw [h] at this
  cases this
 refine ⟨e,t,cls,H1,hide s1.heap (frs (envOfC qual scope s.heap.objs.size f cdv :: outer)),rfl,I.os,I.bare,⟨fun b o h n hb _=>?_,fun b o h n hb _=>?_,fun b o h n _=>I.base.free b o h n (by simp [cxOf]),fun b o h _=>?_,I.base.tups,I.base.frzs,I.base.tbls⟩,?_,?_,?_,hfl,fun b o h n h'=>?_,q⟩
 ·exact keepS b o (I.base.keep b o h n hb (by simp [cxOf])) (nin b o h hb)
 ·obtain ⟨sl,e1⟩:=I.base.slot b o h n hb (by simp [cxOf])
  obtain ⟨sl2,e2⟩:=slotS b _ e1 (by rw [hfr];exact List.mem_cons_of_mem _ hb)
  exact ⟨sl2,e2⟩
 ·obtain ⟨o',e1⟩:=I.base.there b o h (by simp [cxOf])
  by_cases hb:b∈frs (envOfC qual scope s.heap.objs.size f cdv :: outer)
  ·obtain ⟨sl,e2⟩:=slotS b _ e1 hb
   exact ⟨_,e2⟩
  ·exact ⟨_,keepS b o' e1 hb⟩
 ·exact I.hok.keptAt fun b o u h1 h2=>keepS b u h2 (trk b o h1)
 ·cases z:H1 e with
  | none=>rfl
  | some o =>
   obtain ⟨u,hu⟩:=(I.hok e o z).there'
   rw [hx.new] at hu
   cases hu
 ·cases z:s.heap.get? e with
  | none=>rfl
  | some o =>
   obtain ⟨u,hu⟩:=I.base.there e o z (by simp [cxOf])
   rw [hx.new] at hu
   cases hu
 ·have:∃ u,s1.heap.get? b=some u/\b ∉ frs (envOfC qual scope s.heap.objs.size f cdv :: outer):=by
   rcases h with ⟨u,h⟩ | ⟨u,h⟩
   ·obtain ⟨o',e1⟩:=I.base.there b u h (by simp [cxOf])
    exact ⟨o',e1,nin b u h n⟩
   ·obtain ⟨o',e1⟩:=(I.hok b u h).there'
    exact ⟨o',e1,trk b u h⟩
  obtain ⟨u,h1,h2⟩:=this
  have h3:=keepS b u h1 h2
  rw [h'] at h3
  cases h3
  exact Ye h1 h2
theorem Fun.ok1 {x:Str} {st:Stmt} {fd:FuncData} {ps:List Str} {k:Nat} {sp:Sp} (F:Fun K x qual st f fd) (S:FnScope N ps (defScope st)) (len:∀ vs H Q E,sp vs H Q E->vs.length=ps.length)
  (hbody:∀ (cdv:Value) (A:Around) (outer:List Env) (s:Shared) (H:Hp) (vs:List V) (Q:VK) (E:XK),Room k (A.deeper (envOfC qual (defScope st) s.heap.objs.size f cdv))->sp vs H Q E ->
   ∃ t,PSs (cxOf (CX1 P w) P w K mg base N qual (defScope st) f cdv A outer s H E) (defBody st) t/\t { nx:=fun _ H'=>Q .non H',rt:=Q } (start N vs) H):FnOk P w K mg base (CX1 P w) (k+1) f fd ps sp:=by
 obtain ⟨oc,od,kV,doc,pm,an,cdv,ct,osl,rfl,lk,hcd⟩:=F.ex
 exact qhs lk hcd S len fun A outer s H vs Q E hr hsp=>hbody cdv A outer s H vs Q E hr hsp
theorem FnOk.calm {k:Nat} {fd:FuncData} {ps:List Str} {sp sp':Sp} (F:FnOk P w K mg base (CX1 P w) k f fd ps sp) (h:∀ vs H Q E,sp' vs H Q E->sp vs H Q E0):FnOk P w K mg base CX0 k f fd ps sp' :=
 ⟨fun vs H Q E q=>F.len vs H Q E0 (h _ _ _ _ q),fun A outer s H args us vs Q E hr he hb hv hs=>codeAny_mono (F.run A outer s H args us vs Q E0 hr he hb hv (h _ _ _ _ hs)) fun r s' hq=>by
  cases r with
  | error e =>
   obtain ⟨_,_,_,_,_,_,_,_,_,_,_,_,_,_,q⟩:=hq
   exact q.elim
  | ok fl=>cases fl <;> exact hq⟩
def tRaise (C:Addr) (E:XK) (t:TA):TS:=fun D σ H=>t σ H fun vs H1=>vs.length<=sizeLine/\E (.ref C) none H1
theorem Y0 {x:Str} {C:Addr} {bm:List Value} {B newId initId:String} {e₀:Expr} {rest:List Expr} {t:TA} {np cpos pos:Pos} (O:OwnCls x C bm newId mg base) (FB:ExcBaseFacts B newId initId bm)
  (hg:Gl (cxOf (CX1 P w) P w K mg base N qual scope f cdv A outer s H E) x) (ha:PA (cxOf (CX1 P w) P w K mg base N qual scope f cdv A outer s H E) (e₀ :: rest) t)
  (he:starEach (e₀ :: rest) (envOfC qual scope s.heap.objs.size f cdv)=(false,eval e₀ (envOfC qual scope s.heap.objs.size f cdv)) :: starEach rest (envOfC qual scope s.heap.objs.size f cdv):=by rfl)
  (hplain:(backTo cpos (starEach rest (envOfC qual scope s.heap.objs.size f cdv))).any (·.1)=false:=by rfl) (hdb:(x == ("__debug__" : Str))=false:=by decide) :
  PS (cxOf (CX1 P w) P w K mg base N qual scope f cdv A outer s H E) (.Raise (some (.Call (.Name x np) (e₀ :: rest) [] cpos)) none pos) (tRaise C E t):=by
 intro pins s1 σ H1 D I h
 obtain ⟨tl,NN,nm,q,bs,hdct,sn,sub,ab,col,dd,k0,k1,k2,k3,k5,mN,hC,hN,hni,T⟩:=O.obj
 refine wpAny_Raise_call_subT (C:=C) (nm:=nm) (q:=q) (N:=NN) (bs:=bs) (bm:=tl) (hdct:=hdct) (sn:=sn) (sub:=sub) (ab:=ab) (col:=col) (dd:=dd) (k0:=k0) (k1:=k1) (k2:=k2) (k3:=k3) (k5:=k5)
  FB (mN:=mN) (T.hasType FB.hasBase) (I.ok.hd rfl) (by show (backTo cpos (starEach (e₀ :: rest) (envOfC qual scope s.heap.objs.size f cdv))).any (·.1)=false;rw [he];show (false || (backTo cpos (starEach rest (envOfC qual scope s.heap.objs.size f cdv))).any (·.1))=false;rw [hplain];rfl) hni (ld_glob I hg O.bound ⟨rfl,?_⟩ hdb)
 have ha':=ha cpos pins s1 σ H1 _ I h
 have he':starEach (e₀ :: rest) (cxOf (CX1 P w) P w K mg base N qual scope f cdv A outer s H E).env=(false,eval e₀ (envOfC qual scope s.heap.objs.size f cdv)) :: starEach rest (envOfC qual scope s.heap.objs.size f cdv):=he
 rw [he'] at ha' ⊢
 refine Calls.evalArgs_plain (wpAny_mono ha' (fun vs s2 h2=>?_) fun _ _ y=>y)
 obtain ⟨us,H2,I2,r,hz,hq⟩:=h2
 have hk:=I2.bk
 exact ⟨rfl,by rw [<- r.length];exact hz,hk _ _ hC,hN.keeps hk,T.keeps hk,fun h' e hx=>qa6 I2 hx hq⟩
end
end L2
namespace L2
open PySem PySem.Spec PySem.Calls PyProof.Rows PySem.W
section
variable {prog:Program} {w:World} {A:Around} {E:Value->Shared->Prop} {s:Shared} {K:W.Frag} {x D:Addr} {ox:Obj}
structure XAt (h:Heap) (x:Addr) (ox:Obj) (D:Addr):Prop where
 at_:h.get? x=some ox
 cls:ox.cls=.ref D
theorem XAt.type {M:Model} {h:Heap} (I:XAt h x ox D):Looks M h (typeOf (.ref x)) (.ref D):=by
 have:=I.cls
 exact this ▸ (Looks.ld I.at_).andThen Looks.now
theorem qge {M:Model} {h:Heap} (X:K.In h) (ha:findIn K (.ref D) "__class__" = some (some (.builtin "object.__class__"))) (hn:specialIn K (.builtin "object.__class__") "__get__" = some (some (.builtin "getset_descriptor.__get__")))
  (ht:takesIn K (.builtin "object.__class__")=some true):Looks M h (Builtin.ObjectAttr.find (.ref x) (.ref D) "__class__") (.bind (.builtin "getset_descriptor.__get__") (.builtin "object.__class__")):=by
 have l1:=looks_findIn (M:=M) X ha
 have l2:Looks M h (Builtin.ObjectAttr.getOf (some (.builtin "object.__class__"))) (some (.builtin "getset_descriptor.__get__")):=looks_specialIn X hn
 have l3:=looks_takesIn (M:=M) X ht
 have l4:Looks M h (Builtin.ObjectAttr.dataDescriptor? (some (.builtin "object.__class__")) (some (.builtin "getset_descriptor.__get__"))) (some (.builtin "getset_descriptor.__get__",.builtin "object.__class__")):=l3.andThen Looks.now
 exact l1.andThen (l2.andThen (l4.andThen (Looks.tag Looks.now)))
theorem qhy {tp:Value} {R:Result->Shared->Prop} (X:K.In s.heap) (I:XAt s.heap x ox D) (hm:mroIn K D (.type "object")=some true)
  (h:R (.ok (.ret (.ref D))) s):codeAny (model prog w) A (.call (.builtin "getset_descriptor.__get__") ⟨[.builtin "object.__class__",.ref x,tp],[]⟩) R s:=by
 obtain ⟨hh,g,dr,t,os⟩:=s
 have L0:=I.type (M:=model prog w)
 have L1:=looks_mroIn (M:=model prog w) X hm
 refine codeAny_call_builtin KF.slot_gs.plain KF.entry_gs (KF.slot_gs.check _ _ _ _ _ _ _ _ KF.type_class (KF.args_gs _ _ _) ?_)
 unfold Builtin.«getset_descriptor.__get__» Builtin.Getset_descriptor.descrGet
 rw [dga_obj]
 refine wpAny_bind (wpAny_pure ?_)
 unfold Builtin.Getset_descriptor.descrGetter Builtin.Getset_descriptor.descrCheckInstance Builtin.Getset_descriptor.descrNameAndClass isInstance
 simp only [KF.owner_class]
 repeat lk
 refine ⟨Code.quiet_builtin _ (by decide +kernel),codeAny_builtin KF.entry_class ?_⟩
 unfold Builtin.«object.__class__» shownTypeOf
 repeat lk
 exact h
theorem qee {tk:Tok} {Q:Fin->Shared->Prop} (X:K.In s.heap) (I:XAt s.heap x ox D) (hf:∀ M:Model,Looks M s.heap (Builtin.ObjectAttr.find (.ref x) (.ref D) "__class__") (.bind (.builtin "getset_descriptor.__get__") (.builtin "object.__class__")))
  (hm:mroIn K D (.type "object")=some true) (h:Q (.done (.ret (.ref D))) s):wpAny (model prog w) A (Builtin.«object.__getattribute__» ⟨[.ref x,.str "__class__" tk],[]⟩) Q E s:=by
 obtain ⟨hh,g,d,t,os⟩:=s
 have L0:=I.type (M:=model prog w)
 have L1:=hf (model prog w)
 unfold Builtin.«object.__getattribute__»
 refine wpAny_bind (wpAny_pure (wpAny_bind (wpAny_pure (wpAny_bind (L0.at (wpAny_bind (L1.at ?_)))))))
 show wpAny _ _ (holding [.builtin "object.__class__"] (call (.builtin "getset_descriptor.__get__") [.builtin "object.__class__",.ref x,.ref D]) >>= ret) _ _ _
 exact wpAny_bind (wpAny_holding (wpAny_call (qhy (s:=⟨hh,g,d,t,os⟩) X I hm (wpAny_pure h))))
theorem xi_by {B:String} (FX:ExcAttrFacts B) {tk:Tok} {Q:Value->Shared->Prop} (X:K.In s.heap) (I:XAt s.heap x ox D) (hf:∀ M:Model,Looks M s.heap (Builtin.ObjectAttr.find (.ref x) (.ref D) "__class__") (.bind (.builtin "getset_descriptor.__get__") (.builtin "object.__class__")))
  (hm:mroIn K D (.type "object")=some true) (hmB:mroIn K D (.type "BaseException")=some true) (hga:findIn K (.ref D) "__getattribute__" = some (some (.builtin "BaseException.__getattribute__"))) (hgt:findIn K (.ref D) "__getattr__" = some none)
  (h:Q (.ref D) s):wpAny (model prog w) A (getAttrBy (.ref x) (.str "__class__" tk) false false) Q E s:=by
 obtain ⟨hh,g,d,t,os⟩:=s
 have L0:=I.type (M:=model prog w)
 have L1:=looks_findIn (M:=model prog w) X hga
 have L2:=looks_findIn (M:=model prog w) X hgt
 unfold getAttrBy
 refine wpAny_holding (wpAny_bind (L0.at (wpAny_bind (L1.at ?_))))
 show wpAny _ _ (getAttrByItsOwn _ _ _ _ _ _) _ _ _
 unfold getAttrByItsOwn hookBefore
 refine wpAny_bind (L2.at ?_)
 have L3:Looks (model prog w) hh (isInstance (.ref x) (.type "BaseException")) true:=L0.andThen (looks_mroIn X hmB)
 have hk:builtinKind "BaseException.__getattribute__" = some .slot:=by decide +kernel
 have hsplit:splitId "BaseException.__getattribute__" = some ("BaseException","__getattribute__"):=by decide +kernel
 have hargs:=PySem.F.args_bexc_ga (.ref x) (.str "__class__" tk)
 refine wpAny_bind (wpAny_attempt (wpAny_holding ?_))
 show wpAny _ _ (boundAndCalled _ _ _) _ _ _
 unfold boundAndCalled
 rw [FX.ga.bind (.ref x)]
 refine wpAny_bind (wpAny_pure ?_)
 refine wpAny_call (codeAny_call_builtin FX.ga.plain PySem.F.entry_bexc_ga ?_)
 simp only [checkBuiltinCall,hk,hsplit]
 refine wpAny_bind (L3.at ?_)
 rw [if_neg (by decide)]
 have hgo:wpAny (model prog w) A.in1 (Builtin.«object.__getattribute__» ⟨[.ref x]++[.str "__class__" tk],[]⟩) (fun fin s'=>match fin with
   | .done (.ret v)=>wpAny (model prog w) A (handedOut v) Q E s'
   | _=>False) (fun _ _=>False) ⟨hh,g,d,t,os⟩:=qee X I hf hm (handed_on rfl h)
 cases hsig:Manifest.signature? "BaseException.__getattribute__" with
 | none =>
  refine wpAny_pure ?_
  refine wpAny_mono hgo (fun fin s' z=>?_) fun _ _ z=>z.elim
  rcases fin with (_ | _ | _ | _) | _ <;> first | exact z | exact z.elim
 | some sig =>
  simp only [argsOk,hsig] at hargs
  have hargs':Bind.checkArgs "BaseException.__getattribute__" sig ⟨[.ref x]++[.str "__class__" tk],[]⟩=pure ():=hargs
  show wpAny _ _ (Bind.checkArgs "BaseException.__getattribute__" sig ⟨[.ref x]++[.str "__class__" tk],[]⟩) _ _ _
  rw [hargs']
  refine wpAny_pure ?_
  refine wpAny_mono hgo (fun fin s' z=>?_) fun _ _ z=>z.elim
  rcases fin with (_ | _ | _ | _) | _ <;> first | exact z | exact z.elim
theorem qef {B:String} (FX:ExcAttrFacts B) {Q:Option Value->Shared->Prop} (X:K.In s.heap) (I:XAt s.heap x ox D) (hf:∀ M:Model,Looks M s.heap (Builtin.ObjectAttr.find (.ref x) (.ref D) "__class__") (.bind (.builtin "getset_descriptor.__get__") (.builtin "object.__class__")))
  (hm:mroIn K D (.type "object")=some true) (hmB:mroIn K D (.type "BaseException")=some true) (hga:findIn K (.ref D) "__getattribute__" = some (some (.builtin "BaseException.__getattribute__"))) (hgt:findIn K (.ref D) "__getattr__" = some none)
  (h:Q (some (.ref D)) { s with toks:=s.toks+1 }):wpAny (model prog w) A (getAttr? (.ref x) "__class__") Q E s:=by
 unfold getAttr? getAttrBy?
 refine wpAny_bind (wpAny_mkText (wpAny_bind (wpAny_attempt ?_)))
 exact xi_by (s:={ s with toks:=s.toks+1 }) FX X I hf hm hmB hga hgt (wpAny_pure h)
structure ExcK (K:W.Frag) (D:Addr):Prop where
 cls:(clsIn K D).isSome=true
 find:findIn K (.ref D) "__class__" = some (some (.builtin "object.__class__"))
 get:specialIn K (.builtin "object.__class__") "__get__" = some (some (.builtin "getset_descriptor.__get__"))
 takes:takesIn K (.builtin "object.__class__")=some true
 obj:mroIn K D (.type "object")=some true
 bexc:mroIn K D (.type "BaseException")=some true
 ga:findIn K (.ref D) "__getattribute__" = some (some (.builtin "BaseException.__getattribute__"))
 gt:findIn K (.ref D) "__getattr__" = some none
theorem yx {C:Addr} {M:Model} {h:Heap} (X:K.In h) (e:(clsIn K C).isSome=true):Looks M h (isType (.ref C)) true:=by
 unfold clsIn at e
 split at e
 ·rename_i ho
  intro A' Q' E' s' k q
  unfold isType loadHead
  exact wpAny_bind (wpAny_loadPart (k _ _ (X _ _ ho)) (wpAny_pure q))
 ·cases e
theorem xi_nested {B:String} (FX:ExcAttrFacts B) (EK:ExcK K D) {c:Value} {b:Bool} {dep:Int} {tk:Tok} {Q:Fin->Shared->Prop} (X:K.In s.heap) (I:XAt s.heap x ox D) (hty:Looks (model prog w) s.heap (typeOf c) (.type "type")) (his:Looks (model prog w) s.heap (isType c) true)
  (hsub:Looks (model prog w) s.heap (isSubtype (.ref D) c) b) (hself:(Value.ref D == c)=true->b=true) (h:∀ t,Q (.done (.ret (.bool b))) { s with toks:=t }) :
  wpAny (model prog w) A (Builtin.«isinstance.nested» ⟨[.ref x,c,.int dep tk],[]⟩) Q E s:=by
 have hisD:=yx (M:=model prog w) X EK.cls
 obtain ⟨h0,g,d,tt,os⟩:=s
 have L0:=I.type (M:=model prog w)
 have LI:Looks (model prog w) h0 (isInstance (.ref x) c) b:=L0.andThen hsub
 unfold Builtin.«isinstance.nested»
 refine wpAny_bind (L0.at ?_)
 by_cases hq:(Value.ref D == c)=true
 ·rw [if_pos hq]
  have hb:=hself hq
  subst hb
  refine wpAny_bind (wpAny_rule ?_)
  exact wpAny_pure (h tt)
 ·rw [if_neg hq]
  refine wpAny_bind (hty.at ?_)
  rw [if_pos (by decide)]
  k_delta "plainIsInstance"
  refine wpAny_bind (wpAny_bind (his.at ?_))
  simp only [Bool.not_true,Bool.false_eq_true,if_false]
  refine wpAny_bind (LI.at ?_)
  cases b with
  | true =>
   simp only [if_true]
   exact wpAny_pure (wpAny_pure (h tt))
  | false =>
   simp only [Bool.false_eq_true,if_false]
   refine wpAny_bind (qef FX X I (fun _=>qge X EK.find EK.get EK.takes) EK.obj EK.bexc EK.ga EK.gt ?_)
   refine wpAny_bind (hisD.at ?_)
   simp only [Bool.not_true,Bool.false_eq_true,if_false]
   refine wpAny_bind (wpAny_rule ?_)
   refine hsub.at ?_
   first
    | exact wpAny_pure (h _)
    | exact wpAny_pure (wpAny_pure (h _))
    | exact wpAny_bind (wpAny_pure (wpAny_pure (h _)))
theorem qci {B:String} (FX:ExcAttrFacts B) (EK:ExcK K D) {c:Value} {b:Bool} {Q:Value->Shared->Prop} (X:K.In s.heap) (I:XAt s.heap x ox D) (hty:∀ (M:Model) h',K.In h'->Looks M h' (typeOf c) (.type "type")) (his:∀ (M:Model) h',K.In h'->Looks M h' (isType c) true)
  (hsub:∀ (M:Model) h',K.In h'->Looks M h' (isSubtype (.ref D) c) b) (hself:(Value.ref D == c)=true->b=true) (h:∀ t,Q (.bool b) { s with toks:=t }):wpAny (model prog w) A (call (.builtin "isinstance") [.ref x,c]) Q E s :=
 call_isinstance (S:=fun _ R s=>(K.In s.heap/\XAt s.heap x ox D)/\∀ t,R (.ok (.ret (.bool b))) { s with toks:=t })
  (fun _ _ _ _ _ hs=>isinstance_outer (xi_nested FX EK hs.1.1 hs.1.2 (hty _ _ hs.1.1) (his _ _ hs.1.1) (hsub _ _ hs.1.1) hself hs.2) (by intro q;cases q)) ⟨⟨X,I⟩,h⟩
end
end L2
namespace L2
open PySem PySem.Spec PySem.Calls PyProof.Rows PySem.W
section
variable {prog:Program} {w:World} {A:Around} {E:Value->Shared->Prop} {s:Shared} {K:W.Frag} {x C D:Addr} {ox:Obj}
theorem qeg {b:Bool} {Q:Bool->Shared->Prop} (X:K.In s.heap) (I:XAt s.heap x ox D) (hC:(clsIn K C).isSome=true) (hnt:instIn K (.ref C) (.type "tuple")=some false) (hb:mroIn K C (.type "BaseException")=some true) (hsub:mroIn K D (.ref C)=some b)
  (h:Q b s):wpAny (model prog w) A (excMatches (.ref x) (.ref C)) Q E s:=by
 obtain ⟨hh,g,d,t,os⟩:=s
 have L0:=I.type (M:=model prog w)
 have L1:=looks_instIn (M:=model prog w) X hnt
 have L2:=yx (M:=model prog w) X hC
 have L3:=looks_mroIn (M:=model prog w) X hb
 have L4:=looks_mroIn (M:=model prog w) X hsub
 have L5:Looks (model prog w) hh (isExcClass (.ref C)) true:=L2.andThen L3
 unfold excMatches
 refine wpAny_bind (L1.at ?_)
 rw [if_neg (by decide)]
 refine wpAny_bind (wpAny_pure ?_)
 simp only [List.forIn_cons,List.forIn_nil]
 refine wpAny_bind (wpAny_bind (wpAny_bind (L5.at ?_)))
 rw [if_neg (by decide)]
 refine wpAny_pure (wpAny_pure ?_)
 refine wpAny_bind (L0.at ?_)
 refine wpAny_bind (wpAny_bind (wpAny_bind (L4.at ?_)))
 cases b with
 | true =>
  rw [if_pos rfl]
  exact wpAny_pure (wpAny_pure (wpAny_pure h))
 | false =>
  rw [if_neg (by decide)]
  exact wpAny_pure (wpAny_pure (wpAny_pure h))
end
def excO (e D:Addr):HO:=.ext fun h=>∃ ox,XAt h e ox D
section
variable {X:Cx} {pins:List (Addr × Obj)} {σ:St} {H:Hp} {s:Shared} {e:Addr} {o:HO}
theorem Inv.track (I:Inv X pins σ H s) (he:H e=none) (hs0:X.s₀.heap.get? e=none) (nl:e≠X.env.locals) (nc:∀ x c,X.env.cells.lookup x=some c->c≠e) (np:∀ p∈X.pn++pins,p.1≠e)
  (ho:ObjOk X.prog X.w (upd H e o) s.heap e o):Inv X pins σ (upd H e o) s:=by
 have ne:∀ b u,H b=some u->b≠e:=fun b u h z=>by rw [z,he] at h;cases h
 refine ⟨I.ok,I.os,I.bare,⟨I.base.keep,I.base.slot,fun b u h n hx=>?_,I.base.there,fun b xs h=>?_,fun b u v h=>?_,fun b ps h=>?_⟩,I.loc,I.cell,by rw [qg (Ne.symm nl)];exact I.free,fun x c h=>by rw [qg (nc x c h)];exact I.freeC x c h,fun p hp=>?_,fun a u h=>?_,I.len⟩
 ·rw [qg fun z=>by rw [z,hs0] at h;cases h]
  exact I.base.free b u h n hx
 ·have:=I.base.tups b xs h
  rw [qg (ne b _ this)]
  exact this
 ·have:=I.base.frzs b u v h
  rw [qg (ne b _ this)]
  exact this
 ·obtain ⟨more,h1⟩:=I.base.tbls b ps h
  exact ⟨more,by rw [qg (ne b _ h1)];exact h1⟩
 ·obtain ⟨a1,a2,a3⟩:=I.pin p hp
  exact ⟨a1,by rw [qg (np p hp)];exact a2,a3⟩
 ·by_cases ha:a=e
  ·subst ha
   rw [upd_same] at h
   cases h
   exact ho
  ·rw [qg ha] at h
   exact (I.hok a u h).stay (fun b w' _ q=>q) (fun b q=>by rw [qg (ne b _ q)];exact q) fun b xs q=>by rw [qg (ne b _ q)];exact q
theorem zd {M:Model} {A:Around} {E:Value->Shared->Prop} {i:Nat} {n:Str} {pos:Pos} {Q:Unit->Shared->Prop} (I:Inv X pins σ H s) (hN:X.N.Nodup) (hi:X.N[i]? = some n) (hk:X.env.kindOf n=some .local)
  (h:∀ s',Inv X pins (σ.set i none) H s'->Q () s'):wpAny M A (do bindName X.env n .none;unbindBehindTheSuite X.env n pos) Q E s:=by
 obtain ⟨m,hn,hl⟩:=id I.loc
 have hcls:(X.env.scope.kind == .class || (X.env.scope.kind == .module && X.env.locals != X.env.globals))=false:=by rw [I.ok.kind];rfl
 have cne:=I.cne
 obtain ⟨oL,_,_,hoL,_⟩:=id hn
 have lo:∀ b o,X.s₀.heap.get? b=some o->b≠X.env.locals:=fun b o e=>Nat.ne_of_lt (Nat.lt_of_lt_of_le (Heap.lt_size e) I.ok.above)
 refine wpAny_nameGoes_keeps hk hn hcls fun h' v hn' hs=>h _ ⟨I.ok,I.os,I.bare,⟨fun b o e n hb hx=>(hs.2 b (lo b o e)).trans (I.base.keep b o e n hb hx),fun b o e n hb hx=>?_,I.base.free,fun b o e hx=>?_,I.base.tups,I.base.frzs,I.base.tbls⟩,⟨_,hn',fun j y v' e1 e2 e3=>?_⟩,fun y c e=>?_,I.free,I.freeC,fun p hp=>?_,?_,by simpa using I.len⟩
 ·obtain ⟨sl,e1⟩:=I.base.slot b o e n hb hx
  exact ⟨sl,(hs.2 b (lo b o e)).trans e1⟩
 ·obtain ⟨o',e1⟩:=I.base.there b o e hx
  exact ⟨o',(hs.2 b (lo b o e)).trans e1⟩
 ·by_cases hj:j=i
  ·subst hj
   rw [List.getElem?_set] at e2
   split at e2
   ·split at e2 <;> cases e2
   ·rename_i hz
    exact absurd rfl hz
  ·rw [List.getElem?_set_ne (Ne.symm hj)] at e2
   obtain ⟨u',r',q⟩:=hl j y v' e1 e2 e3
   refine ⟨u',r',?_⟩
   rcases q with ⟨k,e⟩ | ⟨k,c,e,z⟩
   ·refine .inl ⟨k,?_⟩
    have:y≠n:=fun e=>hj (J4 hN e1 (e ▸ hi))
    simp [this,e]
   ·exact .inr ⟨k,c,e,z.sameBut hs (cne y c e)⟩
 ·obtain ⟨w',z⟩:=I.cell y c e
  exact ⟨w',z.sameBut hs (cne y c e)⟩
 ·obtain ⟨e,n,ne,nf,d⟩:=I.pin p hp
  exact ⟨(hs.2 p.1 ne).trans e,n,ne,nf,d⟩
 ·exact I.hok.keptAt fun b o u h1 h2=>(hs.2 b fun z=>by rw [z,I.free] at h1;cases h1).trans h2
end
structure Fl (X:Cx) (pins:List (Addr × Obj)) (σ:St) (H0:Hp) (s0:Shared) (H':Hp) (e:Addr) (b1:Heap) (s':Shared):Prop where
 I0:Inv X pins σ H0 s0
 os:s'.os=s0.os
 bare:AllBare s'.gens
 un:Un (frs X.stack) [] H0 H' s0.heap s'.heap
 hok:HOk X.prog X.w H' s'.heap
 he:H' e=none
 hes:s0.heap.get? e=none
 stay:b1.StaysIn s'.heap
 ff:s'.heap.FunFrames b1 X.stack
 cov:∀ b o,((∃ u,s0.heap.get? b=some u)\/∃ u,H' b=some u)->b ∉ frs X.stack->s'.heap.get? b=some o->b1.get? b=some o
section
variable {X:Cx} {pins:List (Addr × Obj)} {σ:St} {H0 H':Hp} {s0 s':Shared} {e:Addr} {b1 h':Heap}
theorem Fl.inv (F:Fl X pins σ H0 s0 H' e b1 s'):Inv X pins σ H' s':=F.I0.call' (ch:=[]) F.os F.un F.hok F.bare fun b z=>absurd z (by simp)
theorem Fl.move (F:Fl X pins σ H0 s0 H' e b1 s') (st:b1.StaysIn h') (ff:h'.FunFrames b1 X.stack) (us:s'.heap.UpToSlots h'):Fl X pins σ H0 s0 H' e b1 { s' with heap:=h' }:=by
 have keepC:∀ b o,((∃ u,s0.heap.get? b=some u)\/∃ u,H' b=some u)->s'.heap.get? b=some o->b ∉ frs X.stack->b1.get? b=some o/\h'.get? b=some o:=fun b o h1 h2 n=>by
  have:=F.cov b o h1 n h2
  exact ⟨this,st b o this⟩
 have slotS:∀ b o,s'.heap.get? b=some o->b∈frs X.stack->∃ sl,h'.get? b=some { o with slots:=sl }:=fun b o h n=>by
  obtain ⟨_,o',ho',hd⟩:=F.ff.mem n
  rw [h] at ho'
  cases ho'
  exact us b o h hd
 have trk:∀ b o,H' b=some o->b ∉ frs X.stack:=fun b o h z=>by
  obtain ⟨_,o',ho',_⟩:=F.I0.stack.mem z
  have:=F.un.free b o' ho' (F.I0.stkFree b z) (by simp)
  rw [h] at this
  cases this
 refine ⟨F.I0,F.os,F.bare,⟨fun b o h n hb hx=>?_,fun b o h n hb hx=>?_,F.un.free,fun b o h hx=>?_,F.un.tups,F.un.frzs,F.un.tbls⟩,?_,F.he,F.hes,st,ff,fun b o h n h2=>?_⟩
 ·exact (keepC b o (.inl ⟨_,h⟩) (F.un.keep b o h n hb hx) hb).2
 ·obtain ⟨sl,e1⟩:=F.un.slot b o h n hb hx
  obtain ⟨sl2,e2⟩:=slotS b _ e1 hb
  exact ⟨sl2,e2⟩
 ·obtain ⟨o1,e1⟩:=F.un.there b o h hx
  by_cases hb:b∈frs X.stack
  ·obtain ⟨sl,e2⟩:=slotS b _ e1 hb
   exact ⟨_,e2⟩
  ·exact ⟨_,(keepC b o1 (.inl ⟨_,h⟩) e1 hb).2⟩
 ·exact F.hok.keptAt fun b o u h1 h2=>(keepC b u (.inr ⟨_,h1⟩) h2 (trk b o h1)).2
 ·have:∃ u,s'.heap.get? b=some u:=by
   rcases h with ⟨u,h⟩ | ⟨u,h⟩
   ·exact F.un.there b u h (by simp)
   ·exact (F.hok b u h).there'
  obtain ⟨u,h1⟩:=this
  obtain ⟨h4,h5⟩:=keepC b u h h1 n
  have h2':h'.get? b=some o:=h2
  rw [h2'] at h5
  cases h5
  exact h4
end
end L2
namespace L2
open PySem PySem.Spec PySem.Calls PyProof.Rows PySem.W
abbrev Cx.inSuite (X:Cx) (Ax:Around):Cx:={ X with A:=Ax,calm:=false,xe:=fun _ _=>False }
abbrev Cx.tried (X:Cx) (pn:List (Addr × Obj)) (Ex:Value->Shared->Prop):Cx:={ X with pn:=pn,xe:=Ex }
section
variable {X:Cx} {pins pn:List (Addr × Obj)} {σ:St} {H:Hp} {s:Shared} {Ax:Around} {Ex:Value->Shared->Prop}
theorem Inv.suite (I:Inv X pins σ H s) (hA:Ax.frames=X.A.frames):Inv (X.inSuite Ax) pins σ H s :=
 ⟨⟨I.ok.mod,I.ok.kind,I.ok.glob,I.ok.blt,I.ok.above,I.ok.inj,I.ok.has,I.ok.cab,fun z=>Bool.noConfusion z,hA.trans I.ok.frames,I.ok.stk,I.ok.exf,I.ok.bs,I.ok.bsz,I.ok.noex,I.ok.exfs,I.ok.funs,I.ok.frf⟩,I.os,I.bare,I.base,I.loc,I.cell,I.free,I.freeC,I.pin,I.hok,I.len⟩
theorem Inv.unsuite (I:Inv (X.inSuite Ax) pins σ H s) (ok:X.Ok):Inv X pins σ H s:=⟨ok,I.os,I.bare,I.base,I.loc,I.cell,I.free,I.freeC,I.pin,I.hok,I.len⟩
theorem Inv.tried (I:Inv X pins σ H s):Inv (X.tried (X.pn++pins) Ex) [] σ H s :=
 ⟨⟨I.ok.mod,I.ok.kind,I.ok.glob,I.ok.blt,I.ok.above,I.ok.inj,I.ok.has,I.ok.cab,I.ok.hd,I.ok.frames,I.ok.stk,I.ok.exf,I.ok.bs,I.ok.bsz,I.ok.noex,I.ok.exfs,I.ok.funs,I.ok.frf⟩,I.os,I.bare,I.base,I.loc,I.cell,I.free,I.freeC,fun p hp=>I.pin p (by simpa using hp),I.hok,I.len⟩
theorem Inv.untried {pins':List (Addr × Obj)} (I:Inv (X.tried (X.pn++pins) Ex) pins' σ H s):Inv X pins σ H s :=
 ⟨⟨I.ok.mod,I.ok.kind,I.ok.glob,I.ok.blt,I.ok.above,I.ok.inj,I.ok.has,I.ok.cab,I.ok.hd,I.ok.frames,I.ok.stk,I.ok.exf,I.ok.bs,I.ok.bsz,I.ok.noex,I.ok.exfs,I.ok.funs,I.ok.frf⟩,I.os,I.bare,I.base,I.loc,I.cell,I.free,I.freeC,fun p hp=>I.pin p (List.mem_append_left _ hp),I.hok,I.len⟩
end
def PHs (X:Cx) (hs:List ExceptHandler) (th:Addr->TS):Prop :=
 ∀ (pins:List (Addr × Obj)) (σ:St) (H0:Hp) (s0:Shared) (H':Hp) (e C t:Addr) (b1:Heap) (s':Shared) (D:Ends),Fl X pins σ H0 s0 H' e b1 s'->Heap.FlyingW b1 X.stack e (.ref C) (.ref t) s'.heap->th C D σ H' ->
  wpAny (model X.prog X.w) X.A (handleBy (.ref e) X.env hs) (SP X pins D) X.xe s'
theorem qgf {X:Cx}:PHs X [] fun _ _ _ _=>False:=fun _ _ _ _ _ _ _ _ _ _ _ _ _ h=>h.elim
def Ends.as (D:Ends) (i:Nat):Ends:={ nx:=fun σ H=>D.nx (σ.set i none) H,rt:=D.rt,bk:=fun σ H=>D.bk (σ.set i none) H,ct:=fun σ H=>D.ct (σ.set i none) H }
def tExc (K:W.Frag) (C':Addr) (i:Nat) (tb:TS) (tr:Addr->TS):Addr->TS:=fun C D σ H=>∃ b,mroIn K C (.ref C')=some b/\if b=true then ∀ e,H e=none->tb (D.as i) (σ.set i (some (.ref e))) (upd H e (excO e C)) else tr C D σ H
theorem qfj {X:Cx} {x n:Str} {C':Addr} {np pos:Pos} {i:Nat} {b₀:Stmt} {suite:List Stmt} {rest:List ExceptHandler} {tb:TS} {tr:Addr->TS} (K:W.Frag) (hN:X.N.Nodup) (hi:X.N[i]? = some n) (hk:X.env.kindOf n=some .local)
  (hg:Gl X x) (hm:X.mg x=some (.ref C')) (hC:(clsIn K C').isSome=true) (hnt:instIn K (.ref C') (.type "tuple")=some false) (hbx:mroIn K C' (.type "BaseException")=some true)
  (hb:∀ Ax:Around,PSs (X.inSuite Ax) (b₀ :: suite) tb) (hr:PHs X rest tr) (hK:X.K=K:=by rfl) (hex:X.ex=[]:=by rfl) (hdb:(x == ("__debug__" : Str))=false:=by decide) :
  PHs X (.ExceptHandler (some (.Name x np)) (some n) (b₀ :: suite) pos :: rest) (tExc K C' i tb tr):=by
 subst hK
 intro pins σ H0 s0 H' e C t b1 s' D F fly h
 obtain ⟨b,hb1,h⟩:=h
 have I:=F.inv
 have IS:Inv (X.inSuite (X.A.mark (some (.ref e)))) pins σ H' s':=I.suite rfl
 refine wpAny_handleBy_cons (codeAny_handlers_test ?_) (by intro q;cases q)
 refine ld_glob (X:=X.inSuite (X.A.mark (some (.ref e)))) IS hg hm ?_ hdb
 obtain ⟨oe,vs,he,hc,_⟩:=fly.first
 refine qeg (x:=e) (D:=C) (ox:=oe) I.kIn ⟨he,hc⟩ hC hnt hbx hb1 ?_
 cases b with
 | false =>
  show wpAny _ _ (handleBy _ _ _) _ _ _
  exact hr pins σ H0 s0 H' e C t b1 s' D F fly h
 | true =>
  have h1:=h
  rw [if_pos rfl] at h1
  show codeAny _ _ (.handlers _ _ _) _ _
  refine codeAny_handlers_suite_as ?_
  refine lands_againW fly fun h6 fly6 sm6=>?_
  have F6:=F.move fly6.1 fly6.2.2.1 sm6
  have I6:=F6.inv
  obtain ⟨oe6,vs6,he6,hc6,_⟩:=fly6.first
  have live:∀ b o,s0.heap.get? b=some o->b≠e:=fun b o h z=>by rw [z,F.hes] at h;cases h
  have I7:Inv X pins σ (upd H' e (excO e C)) { s' with heap:=h6 }:=by
   refine I6.track F.he ?_ ?_ (fun y c hy=>?_) (fun p hp=>?_) ⟨⟨oe6,he6,hc6⟩,⟨oe6,he6⟩,?_⟩
   ·cases z:X.s₀.heap.get? e with
    | none=>rfl
    | some o =>
     obtain ⟨u,hu⟩:=F.I0.base.there e o z (by rw [hex];simp)
     rw [F.hes] at hu
     cases hu
   ·obtain ⟨m,⟨o,_,_,ho,_⟩,_⟩:=F.I0.loc
    exact (live _ o ho).symm
   ·obtain ⟨v,o,ho,_⟩:=F.I0.cell y c hy
    exact live c o ho
   ·exact live p.1 p.2 (F.I0.pin p hp).1
   ·rintro h1' h2' ⟨ox,a1,a2⟩ k
    exact ⟨ox,k ox a1,a2⟩
  refine store_ok (X:=X) (v:=.ref e) I7 hN hi (.inl hk) rfl (fun s8 I8=>?_) (.inr hk)
  have I8':Inv (X.inSuite (X.A.mark (some (.ref e)))) pins (σ.set i (some (.ref e))) (upd H' e (excO e C)) s8:=I8.suite rfl
  refine wpAny_mono (hb (X.A.mark (some (.ref e))) pins s8 _ _ (D.as i) I8' (h1 e F.he)) (fun f s9 h9=>?_) fun _ _ z=>z.elim
  show wpAny _ _ (do bindName X.env n .none;unbindBehindTheSuite X.env n pos) _ _ _
  cases f with
  | next =>
   obtain ⟨σ',H9,I9,q⟩:=h9
   exact zd (I9.unsuite I.ok) hN hi hk fun s10 I10=>⟨_,_,I10,q⟩
  | brk =>
   obtain ⟨σ',H9,I9,q⟩:=h9
   exact zd (I9.unsuite I.ok) hN hi hk fun s10 I10=>⟨_,_,I10,q⟩
  | cont =>
   obtain ⟨σ',H9,I9,q⟩:=h9
   exact zd (I9.unsuite I.ok) hN hi hk fun s10 I10=>⟨_,_,I10,q⟩
  | ret u =>
   obtain ⟨v,σ',H9,I9,r,q⟩:=h9
   exact zd (I9.unsuite I.ok) hN hi hk fun s10 I10=>⟨v,_,_,I10,r,q⟩
def xTry (N:Nat) (th:Addr->TS) (D:Ends):XK:=fun c _ H'=>∃ C,c=.ref C/\∀ σ':St,σ'.length=N->th C D σ' H'
def tTry (N:Nat) (tb:XK->TS) (th:Addr->TS):TS:=fun D σ H=>tb (xTry N th D) D σ H
theorem qhz {X:Cx} {body:List Stmt} {h₀:ExceptHandler} {hs:List ExceptHandler} {pos:Pos} {tb:XK->TS} {th:Addr->TS} (hst:X.stack=X.env :: X.outer) (hfr:X.env.frame=some X.env.locals)
  (hb:∀ (pn:List (Addr × Obj)) (Ex:Value->Shared->Prop) (E1:XK),Passes (CX1 X.prog X.w) (X.tried pn Ex) E1->PSs (X.tried pn Ex) body (tb E1)) (hh:PHs X (h₀ :: hs) th) :
  PS X (.Try body (h₀ :: hs) [] [] pos) (tTry X.N.length tb th):=by
 intro pins s σ H D I h
 refine wpAny_Try_except ?_
 have hp:Passes (CX1 X.prog X.w) (X.tried (X.pn++pins) fun e s₁=>wpAny (model X.prog X.w) X.A (noteFrame e X.env) (fun _ s₂=>wpAny (model X.prog X.w) X.A (setFlight e none) (fun _ s₃=>wpAny (model X.prog X.w) X.A (handleBy e X.env (h₀ :: hs)) (SP X pins D) X.xe s₃) X.xe s₂) X.xe s₁) (xTry X.N.length th D):=by
  intro pins' σ' H0 s0 u s' I' hx
  obtain ⟨e,t,cls,H',b1,rfl,hos,hbare,un,hok,he,hes,hfl,cov,C,rfl,q⟩:=hx
  have I2:Inv X pins σ' H0 s0:=I'.untried
  have F:Fl X pins σ' H0 s0 H' e b1 s':=⟨I2,hos,hbare,un,hok,he,hes,hfl.1,hfl.2.2.1,cov⟩
  have hfl':Heap.FlyingW b1 (X.env :: X.outer) e (.ref C) (.ref t) s'.heap:=by
   have:=hfl
   rw [show (X.tried (X.pn++pins) fun e s₁=>wpAny (model X.prog X.w) X.A (noteFrame e X.env) (fun _ s₂=>wpAny (model X.prog X.w) X.A (setFlight e none) (fun _ s₃=>wpAny (model X.prog X.w) X.A (handleBy e X.env (h₀ :: hs)) (SP X pins D) X.xe s₃) X.xe s₂) X.xe s₁).stack=X.stack from rfl,hst] at this
   exact this
  refine wpAny_looks_onW (by rw [I.ok.frames,hst]) hfr hfl' fun h4 held4 sm4=>?_
  have F4:=F.move held4.1 (by rw [hst];exact held4.2.2.1) sm4
  refine wpAny_landsW held4 fun h5 fly5 sm5=>?_
  have F5:=F4.move fly5.1 (by rw [hst];exact fly5.2.2.1) sm5
  exact hh pins σ' H0 s0 H' e C t b1 _ D F5 (by rw [hst];exact fly5) (q σ' I2.len)
 refine wpAny_mono (hb (X.pn++pins) _ (xTry X.N.length th D) hp [] s σ H D I.tried h) (fun f s1 h1=>?_) fun _ _ z=>z
 cases f with
 | next =>
  obtain ⟨σ',H',I1,q⟩:=h1
  exact wpAny_execs_nil ⟨σ',H',I1.untried,q⟩
 | brk =>
  obtain ⟨σ',H',I1,q⟩:=h1
  exact ⟨σ',H',I1.untried,q⟩
 | cont =>
  obtain ⟨σ',H',I1,q⟩:=h1
  exact ⟨σ',H',I1.untried,q⟩
 | ret u =>
  obtain ⟨v,σ',H',I1,r,q⟩:=h1
  exact ⟨v,σ',H',I1.untried,r,q⟩
def rIsExc (K:W.Frag):List V->Hp->VK->Prop:=fun xs H Q=>∃ (e D:Addr) (c:V) (b:Bool),xs=[.ref e,c]/\H e=some (excO e D)/\ExcK K D /\
 ((∃ C,c=.ref C/\(clsIn K C).isSome=true/\typeIn K (.ref C)=some (.type "type")/\mroIn K D (.ref C)=some b/\(D=C->b=true))\/(∃ T,c=.ty T/\typeOf (.type T)=pure (.type "type")/\mroIn K D (.type T)=some b))/\Q (.bl b) H
theorem ve {X:Cx} (K:W.Frag) {B:String} (FX:ExcAttrFacts B) (hK:X.K=K:=by rfl):CallR X (.builtin "isinstance") (rIsExc K):=by
 subst hK
 intro pins s σ H xs us Q I r h
 obtain ⟨e,D,c,b,rfl,he,EK,hc,q⟩:=h
 cases r with
 | cons r1 rr =>
  cases rr with
  | cons r2 rr =>
   cases rr
   cases r1
   obtain ⟨ox,hx⟩:=(show ObjOk X.prog X.w H s.heap e (excO e D) from I.hok e _ he).1
   have fin:∀ t,EP X pins σ Q (.bool b) { s with toks:=t }:=fun t=>⟨.bl b,H,I.tok t,rfl,q⟩
   rcases hc with ⟨C,rfl,h1,h2,h3,h4⟩ | ⟨T,rfl,h1,h2⟩
   ·cases r2
    refine qci FX EK I.kIn hx (fun _ _ X'=>looks_typeIn X' h2) (fun _ _ X'=>yx X' h1) (fun _ _ X'=>looks_mroIn X' h3) (fun z=>h4 ?_) fin
    exact Value.ref.inj (beq_iff_eq.mp z)
   ·cases r2
    refine qci FX EK I.kIn hx (fun _ _ _=>Looks.of_pure h1) (fun _ _ _=>Looks.of_pure rfl) (fun _ _ X'=>looks_mroIn X' h2) (fun z=>?_) fin
    cases beq_iff_eq.mp z
end L2
namespace L2
open PySem PySem.Spec PySem.Calls PyProof.Rows PySem.W
theorem FnOk.or {P:Program} {w:World} {K:W.Frag} {mg:Str->Option Value} {base:Heap} {CX:CXT} {k:Nat} {f:Addr} {fd:FuncData} {ps:List Str} {sp sp':Sp} (F:FnOk P w K mg base CX k f fd ps sp) (G:FnOk P w K mg base CX k f fd ps sp') :
  FnOk P w K mg base CX k f fd ps fun vs H Q E=>sp vs H Q E\/sp' vs H Q E :=
 ⟨fun vs H Q E h=>h.elim (F.len vs H Q E) (G.len vs H Q E),fun A outer s H args us vs Q E hr e hb hv h=>h.elim (F.run A outer s H args us vs Q E hr e hb hv) (G.run A outer s H args us vs Q E hr e hb hv)⟩
theorem FnOk.up {P:Program} {w:World} {K:W.Frag} {mg:Str->Option Value} {base:Heap} {CX:CXT} {k:Nat} {f:Addr} {fd:FuncData} {ps:List Str} {sp:Sp} (F:FnOk P w K mg base CX0 k f fd ps sp):FnOk P w K mg base CX k f fd ps sp :=
 ⟨F.len,fun A outer s H args us vs Q E hr e hb hv h=>codeAny_mono (F.run A outer s H args us vs Q E hr e hb hv h) fun r s' hq=>by
  cases r with
  | error e=>exact False.elim hq
  | ok fl=>cases fl <;> exact hq⟩
end L2
namespace L2
open PySem PySem.Spec PyProof.Rows
theorem Zh:typeLookup (.type "tuple") "keys" = pure none:=by rw [typeLookup_type,builtinLookup_eq_fast];kernel_rfl
theorem Vi {P:Program} {w:World} {A:Around} {E:Value->Shared->Prop} {s:Shared} {a:Addr} {o:Obj} {xs:Array Value} {k:Nat} {Q:Option Value->Shared->Prop}
  (ho:s.heap.get? a=some o) (hc:o.cls=.type "tuple") (hs:o.data=.seq xs k) (hd:o.dict=none) (hA:A.handled=none)
  (q:∀ h' tk,(∀ b u,s.heap.get? b=some u->h'.get? b=some u)->Q none { s with heap:=h',toks:=tk }):wpAny (model P w) A (getAttr? (.ref a) "keys") Q E s:=by
 obtain ⟨c,dct,dat,sl⟩:=o
 simp only at hc hs hd
 subst hc hs hd
 obtain ⟨hp,g,d,tk,os⟩:=s
 have ty:∀ tk',(⟨hp,g,d,tk',os⟩:Shared).TypeIs (.ref a) "tuple":=fun _=>⟨_,ho,rfl⟩
 have z1:=sub_AttributeError
 have z3:=F.slot_tuple_getattribute.lookup
 have z4:=F.slot_tuple_getattribute.bind (.ref a)
 have z5:=am_tuple_getattr_none
 unfold getAttr? getAttrBy? getAttrBy
 repeat (any_goals (first | assumption | exact ty _ | ((with_reducible show wpAny _ _ (call (Value.builtin "tuple.__getattribute__") _ _) _ _ _);refine call_meets F.slot_tuple_getattribute (ty _) am_entry_tuple_getattribute (F.args_tuple_getattribute_2 _ _) (meets_getattribute_miss_tuple a xs k sl "keys" _ Zh (by decide +kernel) (by decide +kernel)) ⟨ho,hA,fun h' tk' e hx'=>?_⟩) | wp_step))
 obtain ⟨t',u',he⟩:=hx'.there
 have tE:(⟨h',g,d,tk',os⟩:Shared).TypeIs (.ref e) "AttributeError":=⟨_,he,rfl⟩
 show wpAny _ _ (getattributeRaised _ _ _ _ _ _ _) _ _ _
 unfold getattributeRaised
 repeat (any_goals (first | assumption | wp_step))
 exact q h' tk' hx'.keeps
def rDictT:List V->Hp->VK->Prop:=fun xs H Q=>∃ (l:Addr) (ps:List Addr) (kvs:List (Key × V)),xs=[.ref l]/\H l=some (.tup (ps.map V.ref))/\PairsAt H ps kvs/\(kvs.map (·.1)).Nodup/\kvs.length<=1000 /\
 ∀ d,H d=none->Q (.ref d) (upd H d (.dK kvs))
theorem Vj {X:Cx} (hc:X.calm=true):CallR X (.type "dict") rDictT:=by
 intro pins s σ H xs us Q I r h
 obtain ⟨l,ps,kvs,rfl,hL,hP,nd,hz,q⟩:=h
 obtain ⟨u,rfl,ru⟩:=vals1 r
 cases ru
 obtain ⟨hl,its,rv,pl,ol',hol',hdl⟩:=(show ObjOk X.prog X.w H s.heap l (.tup _) from I.hok l _ hL)
 obtain ⟨ol,hol,hcl,nl,hsl⟩:=id pl
 rw [hol] at hol'
 have e0:=Option.some.inj hol'
 subst e0
 obtain ⟨vs,hv,hT⟩:=hP.real I
 have hA:=I.ok.hd hc
 refine callType_codes (Q₁:=fun ob s1=>ob=.ref s.heap.objs.size/\s1 = { s with heap:=s.heap.push { cls:=.type "dict",data:=.dict #[] } }) F.kt_called_dict (F.kt_typeCall_dict_1 _) F.entry_dict_init (kt_code_dict_new _ ⟨rfl,rfl⟩) ?_
 rintro ob s1 ⟨rfl,rfl⟩
 have hnew:(s.heap.push { cls:=.type "dict",data:=.dict #[] }).DictOf (mixKind X.prog X.w) s.heap.objs.size []:=Heap.DictOf.new s.heap
 have hol1:(s.heap.push { cls:=.type "dict",data:=.dict #[] }).get? l=some ol:=Heap.get?_push_of_some _ hol
 refine ⟨hnew.typeIs,F.args_dict_init_2 _ _,?_⟩
 unfold Builtin.«dict.__init__» ;unfold Builtin.Dict.selfAndRest
 refine wpAny_bind (wpAny_bind (wpAny_notOrdered_dict hnew.typeIs ?_))
 show wpAny _ _ (pure (s.heap.objs.size,[Value.ref l])) _ _ _
 refine wpAny_pure ?_
 show wpAny _ _ (Builtin.Dict.updateFrom "dict.__init__" s.heap.objs.size (.ref l) [] .none) _ _ _
 unfold Builtin.Dict.updateFrom
 refine wpAny_bind (wpAny_typeOf (T:="tuple") ⟨ol,hol1,hcl⟩ ?_)
 rw [if_pos (by decide)]
 refine wpAny_bind (Vi (s:={ s with heap:=s.heap.push { cls:=.type "dict",data:=.dict #[] } }) hol1 hcl hsl hdl hA fun h1 tk1 k1=>?_)
 rw [if_pos (by rfl)]
 refine wpAny_bind (wpAny_rule ?_)
 have L1:h1.IsTuple l its.toArray:=⟨ol,k1 _ _ hol1,hcl,nl,hsl⟩
 refine wpAny_bind (wpAny_pyIter_tuple (s:={ s with heap:=h1,toks:=tk1 }) L1 ?_)
 refine wpAny_pure ⟨plainId_quiet jg _,?_⟩
 have hdlt:s.heap.objs.size < h1.objs.size:=Heap.lt_size (k1 _ _ (Heap.get?_push_size _ rfl))
 have llt:l < s.heap.objs.size:=Heap.lt_size hol
 have up:∀ b o,s.heap.get? b=some o->h1.get? b=some o:=fun b o e=>k1 b o (Heap.get?_push_of_some _ e)
 have lenp:ps.length=its.length:=by have:=rv.length;rwa [List.length_map] at this
 have lenv:vs.length=kvs.length:=(Paired.length hv).symm
 have n1:l≠h1.objs.size:=Nat.ne_of_lt (Nat.lt_trans llt hdlt)
 have W:=Walks.tuple (prog:=X.prog) (w:=X.w) (A:=X.A.in1.in1) hA h1.objs.size l n1 its.toArray
 have ei:rawInt 0=.int ((0:Nat):Int) 0:=rfl
 rw [ei]
 have old:∀ j,j < its.toArray.size->ps.getD j 0 < s.heap.objs.size:=fun j hj=>by
  have hj':j < ps.length:=by rw [lenp];simpa using hj
  have hm:ps.getD j 0∈ps:=by rw [List.getD_eq_getElem?_getD,List.getElem?_eq_getElem hj'];exact List.getElem_mem hj'
  obtain ⟨o,ho⟩:=hP.mem _ hm
  exact I.hok.lt ho
 refine Vh (κ:=Key) (knd:=mixKind X.prog X.w) (n:=its.toArray.size) W (d:=s.heap.objs.size) ?_ vs ?_ ?_ (fun j=>ps.getD j 0) ?_ ?_ ?_ its.toArray.size 0 _ (Nat.zero_add _) ⟨⟨_,Heap.get?_push_size _ rfl,rfl,rfl⟩,?_⟩ ?_ ?_ ?_
 ·intro z
  have z':s.heap.objs.size=h1.objs.size\/s.heap.objs.size=l:=by simpa using z
  exact z'.elim (Nat.ne_of_lt hdlt) (Nat.ne_of_gt llt)
 ·rw [lenv,<- hP.len,lenp];simp
 ·rw [Yd hv];exact nd
 ·intro i v hi e
  have e':its[i]? = some v:=by simpa using e
  have hi':i < ps.length:=by rw [lenp];simpa using hi
  obtain ⟨u,hu,ru⟩:=rv.get (i:=i) (x:=V.ref ps[i]) (by rw [List.getElem?_map,List.getElem?_eq_getElem hi'];rfl)
  rw [hu] at e'
  cases e'
  rw [List.getD_eq_getElem?_getD,List.getElem?_eq_getElem hi']
  exact ru
 ·intro i hi
  have hlt:=old i hi
  refine ⟨fun z=>?_,Nat.ne_of_lt hlt⟩
  have z':ps.getD i 0=h1.objs.size:=by simpa using z
  exact Nat.ne_of_lt (Nat.lt_trans hlt hdlt) z'
 ·have:=hP.len
  exact Nat.le_of_lt (small1000 (by simp;omega))
 ·exact ⟨ol,Heap.get?_push_of_some _ (k1 _ _ hol1),hcl,nl,hsl⟩
 ·rw [List.take_zero]
  exact (vd hnew fun o e=>k1 _ o e).push _
 ·intro j p hj
  obtain ⟨key,hk,o,ho,r⟩:=hT j p hj
  exact ⟨key,hk,o,Heap.get?_push_of_some _ (up _ _ ho),r⟩
 ·intro h3 tk3 hD k3
  refine ⟨rfl,.ref s.heap.objs.size,upd H s.heap.objs.size (.dK kvs),I.laid (a:=s.heap.objs.size) (o:=.dK kvs) (t':=tk3) (fun b o e=>?_) (Nat.le_refl _) ⟨Nat.le_of_lt (small1000 hz),?_,vs,hv,hD⟩,rfl,q _ (I.hok.fresh (Nat.le_refl _))⟩
  ·have hlt:=Heap.lt_size e
   refine k3 b o (fun z=>?_) (Nat.ne_of_lt hlt) (Heap.get?_push_of_some _ (up _ _ e))
   have z':b=h1.objs.size:=by simpa using z
   exact Nat.ne_of_lt (Nat.lt_trans hlt hdlt) z'
  ·exact beq_eq_false_iff_ne.mpr (Nat.ne_of_gt I.big)
def ItV (K:W.Frag) (a:Addr) (n:Nat):It :=
 ⟨fun i H=>∃ xs x,SqL K H a xs/\xs.length=n/\xs.reverse[i]? = some x,fun i H x H'=>H'=H/\∀ xs,SqL K H a xs->xs.reverse[i]? = some x,fun i H=>∃ xs,SqL K H a xs/\xs.length=n/\i=n⟩
theorem qeh {K:W.Frag} {a:Addr} {xs:List V}:Sure (ItV K a xs.length) xs.reverse (fun H=>SqL K H a xs) where
 go:=fun i H hi h=>⟨xs,xs.reverse[i],h,rfl,List.getElem?_eq_getElem hi⟩
 yld:=fun i H x H' _ h y=>⟨y.1,y.2 xs h⟩
 stop:=fun H h=>⟨xs,h,rfl,List.length_reverse⟩
theorem qei {P:Program} {w:World} {K:W.Frag} {tg:Expr} (a it:Addr) (n:Nat):Turn P w K tg (ItV K a n) [it] it (fun i h=>h.IsRevIter it a ((n:Int) - 1 - (i:Int))) where
 mem:=by simp
 obj:=fun i h st b hb=>by
  have e:b=it:=by simpa using hb
  subst e
  obtain ⟨o,e,c,d⟩:=st
  exact ⟨o,e,fun v z=>by rw [d] at z;cases z⟩
 keep:=fun i h h' st k=>st.at fun o e=>k it (by simp) o e
 item:=by
  intro X hP hw hK hc i pins s σ H E I hf st hg
  subst hP hw hK
  obtain ⟨xs,x,hq,hn,hx⟩:=hg
  obtain ⟨its,rv,p,hz⟩:=I.list hq
  have hi:i < xs.length:=by have:=(List.getElem?_eq_some_iff.mp hx).1;rwa [List.length_reverse] at this
  have hx':xs[n - 1 - i]? = some x:=by rw [List.getElem?_reverse hi,hn] at hx;exact hx
  obtain ⟨u,hu,ru⟩:=rv.get hx'
  obtain ⟨f0,f1,f2,f3,f4,f5⟩:=hf it (by simp)
  have e1:(n:Int) - 1 - (i:Int)=((n - 1 - i:Nat):Int):=by omega
  rw [e1] at st
  refine wpAny_pyNext_rev_item st p.isList (x:=u) (by simpa using hu) fun h' st' sb=>?_
  have I1:Inv X pins σ H { s with heap:=h' }:=I.turned (t':=s.toks) (fun b o hb e=>(sb.2 b hb).trans e) f0 f1 f3 f4 f5
  have e2:((n - 1 - i:Nat):Int) - 1=(n:Int) - 1 - ((i+1:Nat):Int):=by omega
  rw [e2] at st'
  obtain ⟨o,e,c,d⟩:=id st'
  exact ⟨u,rfl,qau (s:={ s with heap:=h' }) e c d (by decide) ⟨x,H,I1,ru,⟨rfl,fun ys hy=>by rw [I.list_inj hy hq];exact hx⟩,st',fun b hb=>(hf b hb).1⟩⟩
 done:=by
  intro X hP hw hK hc i pins s σ H E I hf st hg
  subst hP hw hK
  obtain ⟨xs,hq,hn,hx⟩:=hg
  obtain ⟨f0,f1,f2,f3,f4,f5⟩:=hf it (by simp)
  have e1:(n:Int) - 1 - (i:Int) = -1:=by omega
  rw [e1] at st
  exact wpAny_pyNext_rev_end (I.ok.hd hc) st fun h' eb=>⟨rfl,I.turned (t':=s.toks) (fun b o hb e=>eb b o hb e) f0 f1 f3 f4 f5⟩
 self:=fun _ _ _ _ _ st h=>wpAny_pyIter_revIter st h
def iRev (K:W.Frag) (ta:TA):TI:=fun σ H R=>ta σ H fun vs H1=>∃ a xs,vs=[.ref a]/\SqL K H1 a xs/\R (ItV K a xs.length) H1
theorem qh0 {X:Cx} {tg l:Expr} {ta:TA} {p pos:Pos} (hg:Gl X "reversed") (hm:X.mg "reversed" = none) (ha:PA X [l] ta) (hs:starEach [l] X.env=[(false,eval l X.env)]:=by rfl):PI X tg (.Call (.Name "reversed" p) [l] [] pos) (iRev X.K ta):=by
 intro pins s σ H R I h
 refine Call_ (ld_blt I hg hm (show bootBuiltins "reversed" = some (.type "reversed") by decide +kernel) (PyProof.Rows.callWith_type1 (thn (ha pos pins s σ H _ I h) fun us s1 ⟨vs,H1,I1,r1,q1⟩=>?_) hs rfl))
 obtain ⟨a,xs,e,hq,q⟩:=q1
 subst e
 cases r1 with
 | cons r rr =>
  cases rr
  cases r
  obtain ⟨its,rv,pl,hz⟩:=I1.list hq
  refine call_reversed_list pl.isList ?_
  have st:(s1.heap.push (revObj a ((its.toArray.size:Int) - 1))).IsRevIter s1.heap.objs.size a ((xs.length:Int) - 1 - ((0:Nat):Int)):=by
   refine ⟨_,Heap.get?_push_size _ rfl,rfl,?_⟩
   have e1:((its.toArray.size:Nat):Int) - 1=(xs.length:Int) - 1 - ((0:Nat):Int):=by rw [List.size_toArray,<- rv.length];simp
   show Data.fields #[.ref a,rawInt (((its.toArray.size:Nat):Int) - 1)]=_
   rw [e1]
  refine wpAny_pyIter_revIter st ?_
  refine ⟨s1.heap.objs.size,[s1.heap.objs.size],_,_,H1,rfl,I1.kept (t':=s1.toks) fun b o e=>Heap.get?_push_of_some _ e,qei a _ xs.length,st,fun b hb=>?_,q⟩
  have e:b=s1.heap.objs.size:=by simpa using hb
  subst e
  exact I1.fpOk (Nat.le_refl _) (I1.hok.fresh (Nat.le_refl _))
theorem qgg {X:Cx} (K:W.Frag) {tg l:Expr} {ta:TA} {p pos:Pos} (hg:Gl X "reversed") (hm:X.mg "reversed" = none) (ha:PA X [l] ta) (hs:starEach [l] X.env=[(false,eval l X.env)]:=by rfl) (hK:X.K=K:=by rfl):PI X tg (.Call (.Name "reversed" p) [l] [] pos) (iRev K ta):=by subst hK;exact qh0 hg hm ha hs
theorem Inv.swap {X:Cx} {pins:List (Addr × Obj)} {σ:St} {H:Hp} {s:Shared} {d:Addr} {u u':HO} (I:Inv X pins σ H s) (e:H d=some u) (n1:∀ y,u≠.own y) (n2:∀ xs,u≠.tup xs)
  (h1:∀ xs,X.H₀ d≠some (.tup xs)) (h2:∀ o v,X.H₀ d≠some (.frz o v)) (h3:∀ ps,X.H₀ d≠some (.tbl ps)) (new:ObjOk X.prog X.w (upd H d u') s.heap d u'):Inv X pins σ (upd H d u') s:=by
 have ne:∀ b,H b=none->b≠d:=fun b z y=>by rw [y,e] at z;cases z
 refine ⟨I.ok,I.os,I.bare,⟨I.base.keep,I.base.slot,fun b o a1 a2 a3=>?_,I.base.there,fun b xs a1=>?_,fun b o v a1=>?_,fun b ps a1=>?_⟩,I.loc,I.cell,?_,fun x c a1=>?_,fun p hp=>?_,fun b v a1=>?_,I.len⟩
 ·have z:=I.base.free b o a1 a2 a3
  rw [qg (ne b z)];exact z
 ·have z:=I.base.tups b xs a1
  rw [qg (fun y=>h1 xs (by rw [<- y];exact a1))];exact z
 ·have z:=I.base.frzs b o v a1
  rw [qg (fun y=>h2 o v (by rw [<- y];exact a1))];exact z
 ·have z:=I.base.tbls b ps a1
  rw [qg (fun y=>h3 ps (by rw [<- y];exact a1))];exact z
 ·rw [qg (ne _ I.free)];exact I.free
 ·rw [qg (ne _ (I.freeC x c a1))];exact I.freeC x c a1
 ·obtain ⟨a1,a2,a3⟩:=I.pin p hp
  exact ⟨a1,by rw [qg (ne _ a2)];exact a2,a3⟩
 ·by_cases y:b=d
  ·subst y
   rw [upd_same] at a1
   cases a1
   exact new
  ·rw [qg y] at a1
   refine (I.hok b v a1).stay (fun c z _ q=>q) (fun c q=>?_) fun c xs q=>?_
   ·rw [qg (fun y=>n1 b (by rw [y,e] at q;exact Option.some.inj q))];exact q
   ·rw [qg (fun y=>n2 xs (by rw [y,e] at q;exact Option.some.inj q))];exact q
theorem Inv.freeze {X:Cx} {pins:List (Addr × Obj)} {σ:St} {H:Hp} {s:Shared} {d:Addr} {kvs:List (Key × V)} (I:Inv X pins σ H s) (e:H d=some (.dK kvs)) :
  ∃ ob,Inv X pins σ (upd H d (.frz ob (.dK kvs))) s/\∀ (σ':St) (H':Hp) (s':Shared),Inv X pins σ' H' s'->H' d=some (.frz ob (.dK kvs))->Inv X pins σ' (upd H' d (.dK kvs)) s':=by
 obtain ⟨hz,lo,vs,hkv,hD⟩:=(show ObjOk X.prog X.w H s.heap d (.dK kvs) from I.hok d _ e)
 obtain ⟨ob,es,ep,ho,rr⟩:=id hD
 have h1:∀ xs,X.H₀ d≠some (.tup xs):=fun xs z=>by have:=I.base.tups d xs z;rw [e] at this;cases this
 have h2:∀ o v,X.H₀ d≠some (.frz o v):=fun o v z=>by have:=I.base.frzs d o v z;rw [e] at this;cases this
 have h3:∀ ps,X.H₀ d≠some (.tbl ps):=fun ps z=>by obtain ⟨m,q⟩:=I.base.tbls d ps z;rw [e] at q;cases q
 refine ⟨ob,I.swap e (fun y z=>by cases z) (fun xs z=>by cases z) h1 h2 h3 ⟨ho,hz,lo,vs,hkv,hD⟩,fun σ' H' s' J q=>?_⟩
 obtain ⟨_,c1,c2,ws,c3,c4⟩:=(show ObjOk X.prog X.w H' s'.heap d (.frz ob (.dK kvs)) from J.hok d _ q)
 exact J.swap q (fun y z=>by cases z) (fun xs z=>by cases z) h1 h2 h3 ⟨c1,c2,ws,c3,c4⟩
def tFrz (t:TE):TE:=fun σ H Q=>∃ d kvs,H d=some (.dK kvs)/\∀ ob,t σ (upd H d (.frz ob (.dK kvs))) fun v H'=>H' d=some (.frz ob (.dK kvs))/\Q v (upd H' d (.dK kvs))
theorem qfk {X:Cx} {e:Expr} {t:TE} (h:PE X e t):PE X e (tFrz t):=by
 intro pins s σ H Q I hq
 obtain ⟨d,kvs,hd,q⟩:=hq
 obtain ⟨ob,I1,back⟩:=I.freeze hd
 refine thn (h pins s σ _ _ I1 (q ob)) fun v s1 ⟨x,H1,J,r,q1,q2⟩=>⟨x,_,back σ H1 s1 J q1,r,q2⟩
def ItD (d:Addr) (ob:Obj) (kvs:List (Key × V)):It :=
 ⟨fun i H=>H d=some (.frz ob (.dK kvs))/\i < kvs.length,fun i H x H'=>H'=H/\(kvs.map fun p=>kV p.1)[i]? = some x,fun i H=>H d=some (.frz ob (.dK kvs))/\i=kvs.length⟩
theorem Zi {d:Addr} {ob:Obj} {kvs:List (Key × V)}:Sure (ItD d ob kvs) (kvs.map fun p=>kV p.1) (fun H=>H d=some (.frz ob (.dK kvs))) where
 go:=fun i H hi h=>⟨h,by rwa [List.length_map] at hi⟩
 yld:=fun i H x H' _ h y=>y
 stop:=fun H h=>⟨h,List.length_map ..⟩
theorem qgh {P:Program} {w:World} {k:Key} {u:Value} (h:(mixKind P w).is k u=true):RelV (kV k) u:=by
 rcases qw (show keyIs k u=true from h) with ⟨i,t,rfl,rfl⟩ | ⟨x,t,rfl,rfl⟩
 ·exact ⟨t,rfl⟩
 ·exact ⟨t,rfl⟩
theorem qfl {X:Cx} {pins:List (Addr × Obj)} {σ:St} {H:Hp} {s:Shared} {d:Addr} {ob:Obj} {kvs:List (Key × V)} {es:Array DictEntry} {ep:Nat} (I:Inv X pins σ H s) (e:H d=some (.frz ob (.dK kvs))) (hd:ob.data=.dict es ep) :
  (d == sysModules)=false/\kvs.length<=sizeLine/\∃ vs,KV kvs vs/\s.heap.DictAt (mixKind X.prog X.w) d vs ep:=by
 obtain ⟨c0,c1,c2,vs,c3,o,es',ep',ho,x1,x2,x3⟩:=(show ObjOk X.prog X.w H s.heap d (.frz ob (.dK kvs)) from I.hok d _ e)
 rw [c0] at ho
 cases ho
 rw [hd] at x2
 cases x2
 exact ⟨c2,c1,vs,c3,ob,es,c0,x1,hd,x3⟩
theorem qcj {P:Program} {w:World} {K:W.Frag} {tg:Expr} (d it:Addr) (ob:Obj) (kvs:List (Key × V)) (es:Array DictEntry) (ep:Nat) (hd:ob.data=.dict es ep):Turn P w K tg (ItD d ob kvs) [it] it (fun i h=>h.IsKeyIter it d i kvs.length ep) where
 mem:=by simp
 obj:=fun i h st b hb=>by
  have e:b=it:=by simpa using hb
  subst e
  obtain ⟨o,e,c,d⟩:=st
  exact ⟨o,e,fun v z=>by rw [d] at z;cases z⟩
 keep:=fun i h h' st k=>st.at fun o e=>k it (by simp) o e
 item:=by
  intro X hP hw hK hc i pins s σ H E I hf st hg
  subst hP hw hK
  obtain ⟨hq,hi⟩:=hg
  obtain ⟨lo,hz,vs,hkv,hat⟩:=qfl I hq hd
  have hl:vs.length=kvs.length:=(Paired.length hkv).symm
  rw [<- hl] at st hi
  obtain ⟨f0,f1,f2,f3,f4,f5⟩:=hf it (by simp)
  have e3:vs[i]? = some (vs[i].1,vs[i].2):=List.getElem?_eq_getElem hi
  refine wpAny_pyNext_dict_item st hat e3 fun u h' hu st' sb=>?_
  have I1:Inv X pins σ H { s with heap:=h' }:=I.turned (t':=s.toks) (fun b o hb e=>(sb.2 b hb).trans e) f0 f1 f3 f4 f5
  obtain ⟨k',v',e4,e5⟩:=qf7 hkv e3
  rw [hl] at st'
  obtain ⟨o,e,c,dd⟩:=id st'
  refine ⟨u,rfl,qau (s:={ s with heap:=h' }) e c dd (by decide) ⟨kV vs[i].1,H,I1,qgh hu,⟨rfl,?_⟩,st',fun b hb=>(hf b hb).1⟩⟩
  rw [List.getElem?_map,e4,<- e5]
  rfl
 done:=by
  intro X hP hw hK hc i pins s σ H E I hf st hg
  subst hP hw hK
  obtain ⟨hq,hi⟩:=hg
  obtain ⟨lo,hz,vs,hkv,hat⟩:=qfl I hq hd
  have hl:vs.length=kvs.length:=(Paired.length hkv).symm
  rw [<- hl] at st hi
  obtain ⟨f0,f1,f2,f3,f4,f5⟩:=hf it (by simp)
  exact wpAny_pyNext_dict_end (I.ok.hd hc) st hat (by rw [hi];simp) fun h' eb=>⟨rfl,I.turned (t':=s.toks) (fun b o hb e=>eb b o hb e) f0 f1 f3 f4 f5⟩
 self:=fun _ _ _ _ _ st h=>wpAny_pyIter_keyiter st h
def iDict (tl:TE):TI:=fun σ H R=>tl σ H fun x H1=>∃ d ob kvs,x=.ref d/\H1 d=some (.frz ob (.dK kvs))/\R (ItD d ob kvs) H1
theorem qck {X:Cx} {tg l:Expr} {tl:TE} (hl:PE X l tl):PI X tg l (iDict tl):=by
 intro pins s σ H R I h
 refine thn (hl pins s σ H _ I h) fun v s1 ⟨x,H1,I1,r1,q1⟩=>?_
 obtain ⟨d,ob,kvs,e,hq,q⟩:=q1
 subst e
 cases r1
 obtain ⟨c0,c1,c2,vs,c3,o,es,ep,ho,x1,x2,x3⟩:=(show ObjOk X.prog X.w H1 s1.heap d (.frz ob (.dK kvs)) from I1.hok d _ hq)
 rw [c0] at ho
 cases ho
 have hvl:vs.length=kvs.length:=(Paired.length c3).symm
 refine wpAny_pyIter_dict (knd:=mixKind X.prog X.w) (kvs:=vs) (ep:=ep) c2 ⟨ob,es,c0,x1,x2,x3⟩ ?_
 refine ⟨s1.heap.objs.size,[s1.heap.objs.size],_,_,H1,rfl,I1.kept (t':=s1.toks) fun b o e=>Heap.get?_push_of_some _ e,qcj d _ ob kvs es ep x2,⟨_,Heap.get?_push_size _ rfl,rfl,by rw [hvl];rfl⟩,fun b hb=>?_,q⟩
 have e:b=s1.heap.objs.size:=by simpa using hb
 subst e
 exact I1.fpOk (Nat.le_refl _) (I1.hok.fresh (Nat.le_refl _))
end L2
namespace L2
open PySem PySem.Spec PyProof.Rows
def rAll (K:W.Frag):List V->Hp->VK->Prop:=fun xs H Q=>∃ (l:Addr) (bs:List Bool),xs=[.ref l]/\SqL K H l (bs.map V.bl)/\Q (.bl (bs.all id)) H
theorem Jm {X:Cx} (hc:X.calm=true):CallR X (.builtin "all") (rAll X.K):=by
 intro pins s σ H xs us Q I r h
 obtain ⟨l,bs,rfl,hq,q⟩:=h
 obtain ⟨u,rfl,ru⟩:=vals1 r
 cases ru
 obtain ⟨its,rv,pl,hz⟩:=I.list hq
 have hA:=I.ok.hd hc
 have lb:its.length=bs.length:=by have:=rv.length;rw [List.length_map] at this;exact this.symm
 refine call_all_walk (wpAny_pyIter_list pl.isList ?_)
 have hlt:l < s.heap.objs.size:=by obtain ⟨o,ho,_⟩:=pl.isList;exact Heap.lt_size ho
 refine ⟨s.heap.objs.size,_,_,_,_,_,fun i=>bs.getD i false,rfl,Walks.list (prog:=X.prog) (w:=X.w) (A:=X.A.in1) hA s.heap.objs.size l (Nat.ne_of_lt hlt) its.toArray,⟨⟨_,Heap.get?_push_size _ rfl,rfl,rfl⟩,pl.isList.push _⟩,fun i v s' Q' E' hv hQ=>?_,fun h' tk kk=>?_⟩
 ·have hv':its[i]? = some v:=by simpa using hv
  have hi:i < bs.length:=by rw [<- lb];exact (List.getElem?_eq_some_iff.mp hv').1
  obtain ⟨u,hu,ru⟩:=rv.get (i:=i) (x:=V.bl bs[i]) (by rw [List.getElem?_map,List.getElem?_eq_getElem hi];rfl)
  rw [hu] at hv'
  cases hv'
  cases (show v=Value.bool bs[i] from ru)
  refine wpAny_truthy_bool ?_
  have e:bs.getD i false=bs[i]:=by rw [List.getD_eq_getElem?_getD,List.getElem?_eq_getElem hi];rfl
  exact e ▸ hQ
 ·have e:((List.range its.toArray.size).all fun i=>bs.getD i false)=bs.all id:=by
   have e1:its.toArray.size=bs.length:=by rw [List.size_toArray,lb]
   rw [e1]
   clear kk q hq rv lb pl hz
   rw [Bool.eq_iff_iff,List.all_eq_true,List.all_eq_true]
   constructor
   ·intro h b hb
    obtain ⟨i,hi⟩:=List.mem_iff_getElem?.mp hb
    have:=h i (List.mem_range.mpr (List.getElem?_eq_some_iff.mp hi).1)
    rw [List.getD_eq_getElem?_getD,hi] at this
    exact this
   ·intro h i hi
    have hi':=List.mem_range.mp hi
    rw [List.getD_eq_getElem?_getD,List.getElem?_eq_getElem hi']
    exact h _ (List.getElem_mem hi')
  rw [e]
  exact ⟨.bl _,H,I.kept (t':=tk) fun b o eb=>kk b o (fun z=>by
   have z':b=s.heap.objs.size:=by simpa using z
   exact absurd (Heap.lt_size eb) (by rw [z'];exact Nat.lt_irrefl _)) (Heap.get?_push_of_some _ eb),rfl,q⟩
theorem jy {X:Cx} (K:W.Frag) (hc:X.calm=true) (hK:X.K=K:=by rfl):CallR X (.builtin "all") (rAll K):=by subst hK;exact Jm hc
theorem Ju (z:List Nat):∀ (k:Nat) (acc:List Nat),List.foldl (fun x1 x2=>x1++x2) acc.toArray (List.replicate k z.toArray)=(acc++(List.replicate k z).flatten).toArray
 | 0,acc=>by simp
 | k+1,acc=>by
  have h:=Ju z k (acc++z)
  rw [List.replicate_succ,List.foldl_cons,List.replicate_succ,List.flatten_cons,<- List.append_assoc,<- h]
  congr 1
  simp
def rMulS:R2:=fun x y H Q=>∃ (z:List Nat) (n:Nat),x=.str ⟨z.toArray⟩/\y=.int (n:Int)/\2<=n/\n<=1000/\z.length<=1000/\Q (.str ⟨(List.replicate n z).flatten.toArray⟩) H
theorem qgi {X:Cx}:OpR X (binaryOp .Mult) rMulS:=by
 intro pins s σ H x y v u Q I rx ry h
 obtain ⟨z,n,rfl,rfl,h2,hn,hz,q⟩:=h
 obtain ⟨t,rfl⟩:=rx
 obtain ⟨t',rfl⟩:=ry
 have hm:z.length * n<=1000 * 1000:=Nat.mul_le_mul hz hn
 refine P.mul_str ?_ ?_ ?_ ?_
 ·rw [decide_eq_false (by omega),decide_eq_false (by omega)];rfl
 ·intro _ _ hgt
  have h3:((z.length:Nat):Int)<=(2 ^ 63 - 1) / (n:Int):=Int.le_ediv_of_mul_le (by omega) (by
   have h4:((z.length * n:Nat):Int)<=1000 * 1000:=by omega
   push_cast at h4
   omega)
  have h5:(((⟨z.toArray⟩:Str).length:Nat):Int)=((z.length:Nat):Int):=rfl
  rw [h5] at hgt
  omega
 ·intro _ _
  refine decide_eq_false ?_
  have h5:(⟨z.toArray⟩:Str).length=z.length:=rfl
  have h6:((n:Int)).toNat=n:=by omega
  rw [h5,h6]
  have:1000000<=sizeLine:=by decide
  omega
 ·rw [if_neg (by omega)]
  have e1:(⟨z.toArray⟩:Str).length=z.length:=rfl
  have e2:((n:Int) == 1)=false:=beq_eq_false_iff_ne.mpr (by omega)
  have e3:((n:Int)).toNat=n:=by omega
  rw [e2,Bool.false_or,e3]
  by_cases e:z=[]
  ·subst e
   rw [if_pos (by rfl)]
   have e4:(List.replicate n ([]:List Nat)).flatten=[]:=by
    clear q hm e2 e3 h2 hn
    induction n with
    | zero=>rfl
    | succ n ih=>rw [List.replicate_succ,List.flatten_cons,ih];rfl
   rw [e4] at q
   exact ⟨.str ⟨#[]⟩,H,I,⟨t,rfl⟩,q⟩
  ·rw [if_neg (by
    rw [e1]
    intro hh
    exact e (List.length_eq_zero_iff.mp (by simpa using hh)))]
   have e5:=Ju z n []
   rw [List.nil_append] at e5
   refine ⟨?_,.str ⟨(List.replicate n z).flatten.toArray⟩,H,I.tok _,⟨s.toks,?_⟩,q⟩
   ·show (Array.size (List.foldl (fun x1 x2=>x1++x2) #[] (List.replicate n z.toArray)))<=sizeLine
    rw [show List.foldl (fun x1 x2=>x1++x2) #[] (List.replicate n z.toArray)=(List.replicate n z).flatten.toArray from e5,List.size_toArray,qb3,Nat.mul_comm]
    have:1000000<=sizeLine:=by decide
    omega
   ·show Value.str ⟨List.foldl (fun x1 x2=>x1++x2) #[] (List.replicate n z.toArray)⟩ _=_
    rw [show List.foldl (fun x1 x2=>x1++x2) #[] (List.replicate n z.toArray)=(List.replicate n z).flatten.toArray from e5]
end L2
namespace L2
open PySem PySem.Spec PyProof.Rows
section
variable {P:Program} {w:World} {A:Around} {E:Value->Shared->Prop}
theorem Y1 {it l:Addr} {its:Array Value} (hne:l≠it):∀ (n i:Nat) (s:Shared) (Q:List Value->Shared->Prop),s.heap.IsListIter it l i->s.heap.IsList l its->i+n<=its.size ->
  (∀ g,g.IsListIter it l (i+n)->Heap.SameBut it s.heap g->Q ((its.toList.drop i).take n) { s with heap:=g })->wpAny (model P w) A (draw (.ref it) n) Q E s
 | 0,i,s,Q,a1,a2,a3,q=>by
  show wpAny _ _ (pure []) Q E s
  refine wpAny_pure ?_
  have q':=q s.heap a1 (Heap.SameBut.refl ..)
  simpa using q'
 | n+1,i,s,Q,a1,a2,a3,q=>by
  have hi:i < its.size:=by omega
  show wpAny _ _ (pyNext (.ref it) >>= _) Q E s
  refine wpAny_bind (wpAny_pyNext_list_item a1 a2 (x:=its[i]) (by simp [hi]) fun g1 b1 b2=>?_)
  refine wpAny_bind (wpAny_holding (Y1 hne n (i+1) { s with heap:=g1 } _ b1 (a2.at fun o e=>(b2.2 l hne).trans e) (by omega) fun g2 c1 c2=>wpAny_pure ?_))
  have e:its.toList.drop i=its[i] :: its.toList.drop (i+1):=by simp [List.drop_eq_getElem_cons,hi]
  have q':=q g2 (by rw [show i+(n+1)=i+1+n by omega];exact c1) (b2.trans c2)
  rw [e,List.take_succ_cons] at q'
  exact q'
theorem yy {l:Addr} {its:Array Value} {s:Shared} {Q:List Value->Shared->Prop} (hh:A.handled=none) (hl:s.heap.IsList l its)
  (q:∀ g,(∀ b o,b≠s.heap.objs.size->s.heap.get? b=some o->g.get? b=some o)->Q its.toList { s with heap:=g }):wpAny (model P w) A (unpackItems (.ref l) its.size none) Q E s:=by
 have hne:l≠s.heap.objs.size:=by
  obtain ⟨o,ho,_⟩:=hl
  exact Nat.ne_of_lt (Heap.lt_size ho)
 unfold unpackItems
 refine wpAny_bind ?_
 unfold notIterableAtAll
 refine wpAny_bind (wpAny_specialOf hl.typeIs F.slot_list_iter.lookup ?_)
 refine wpAny_pure ?_
 simp only [Bool.false_eq_true,if_false]
 refine wpAny_bind (wpAny_holding (wpAny_pyIter_list hl ?_))
 refine wpAny_bind (wpAny_holding (Y1 hne its.size 0 _ _ ⟨_,Heap.get?_push_size _ rfl,rfl,rfl⟩ (hl.push _) (by omega) fun g1 b1 b2=>?_))
 have e:List.take its.size (List.drop 0 its.toList)=its.toList:=by
  rw [List.drop_zero]
  exact List.take_of_length_le (by simp)
 rw [e,if_neg (by simp)]
 have hl1:g1.IsList l its:=(hl.push _).at fun o eo=>(b2.2 l hne).trans eo
 refine wpAny_bind (wpAny_holding (wpAny_pyNext_list_end (s:={ s with heap:=g1 }) hh b1 hl1 (by simp) fun g2 c=>?_))
 simp only [Option.isSome_none,Bool.false_eq_true,if_false]
 exact wpAny_pure (q g2 fun b o hb eo=>c b o hb ((b2.2 b hb).trans (Heap.get?_push_of_some _ eo)))
end
def gLst (K:W.Frag) (n:Nat) (t:TGs):TG:=fun v σ H Q=>∃ a xs,v=.ref a/\SqL K H a xs/\xs.length=n/\t xs σ H Q
theorem qh1 {X:Cx} {es:List Expr} {k:Nat} {pos:Pos} {t:TGs} {n:Nat} (hc:X.calm=true) (h:PGs X es t)
  (hn:(assignEach es X.env).length=n:=by rfl) (hst:(assignEach es X.env).findIdx? (·.1)=none:=by rfl):PG X (.Tuple es k pos) (gLst X.K n t):=by
 intro pins s σ H v u Q I r hw
 obtain ⟨a,xs,e1,hq,hl,hw⟩:=hw
 subst e1
 cases r
 obtain ⟨its,rv,pl,hz⟩:=I.list hq
 rw [assign_Tuple]
 refine wpAny_bind (wpAny_standAt ?_)
 unfold unpack
 have e2:(assignEach es X.env).length=its.toArray.size:=by simp [hn,<- hl,rv.length]
 rw [e2,hst]
 refine wpAny_bind (wpAny_holding (yy (I.ok.hd hc) pl.isList fun g kk=>?_))
 have I1:Inv X pins σ H { s with heap:=g }:=I.kept (t':=s.toks) fun b o e=>kk b o (Nat.ne_of_lt (Heap.lt_size e)) e
 exact h pins _ σ H xs _ Q I1 (by simpa using rv) hw
theorem qcl {X:Cx} (K:W.Frag) {es:List Expr} {k:Nat} {pos:Pos} {t:TGs} {n:Nat} (hc:X.calm=true) (h:PGs X es t)
  (hn:(assignEach es X.env).length=n:=by rfl) (hst:(assignEach es X.env).findIdx? (·.1)=none:=by rfl) (hK:X.K=K:=by rfl):PG X (.Tuple es k pos) (gLst K n t):=by subst hK;exact qh1 hc h hn hst
def rMul0:R2:=fun x y H Q=>∃ (z:List Nat) (n:Nat),x=.str ⟨z.toArray⟩/\y=.int (n:Int)/\n<=1000/\z.length<=1000/\Q (.str ⟨(List.replicate n z).flatten.toArray⟩) H
theorem zw {X:Cx}:OpR X (binaryOp .Mult) rMul0:=by
 intro pins s σ H x y v u Q I rx ry h
 obtain ⟨z,n,rfl,rfl,hn,hz,q⟩:=h
 by_cases h2:2<=n
 ·exact qgi pins s σ H _ _ v u Q I rx ry ⟨z,n,rfl,rfl,h2,hn,hz,q⟩
 obtain ⟨t,rfl⟩:=rx
 obtain ⟨t',rfl⟩:=ry
 by_cases h0:n=0
 ·subst h0
  refine P.mul_str_none (by decide) (by decide) ?_
  exact ⟨.str ⟨#[]⟩,H,I.tok _,⟨_,rfl⟩,q⟩
 ·have h1:n=1:=by omega
  subst h1
  refine P.mul_str (by decide) (fun _ h=>by cases h) (fun _ h=>by cases h) ?_
  rw [if_neg (by decide),if_pos (by rfl)]
  have e:(List.replicate 1 z).flatten=z:=by simp
  rw [e] at q
  exact ⟨.str ⟨z.toArray⟩,H,I,⟨t,rfl⟩,q⟩
end L2
namespace L2
open PySem PySem.Spec PyProof.Rows
abbrev iK (z:Str):Key:=Sum.inr z
def Cnt (ss:List Str) (c:Nat):Prop:=c<=ss.length/\(c=ss.length ↔ ss.Nodup)
theorem Cnt.nil:Cnt [] 0:=⟨Nat.le_refl _,by simp⟩
theorem Cnt.snoc {ss:List Str} {z:Str} {c:Nat} (h:Cnt ss c):Cnt (ss++[z]) (if z∈ss then c else c+1):=by
 obtain ⟨h1,h2⟩:=h
 by_cases hz:z∈ss
 ·rw [if_pos hz]
  refine ⟨by rw [List.length_append];omega,⟨fun e=>?_,fun e=>?_⟩⟩
  ·rw [List.length_append,List.length_singleton] at e
   omega
  ·exact absurd rfl ((List.nodup_append.mp e).2.2 z hz z (by simp))
 ·rw [if_neg hz]
  refine ⟨by rw [List.length_append,List.length_singleton];omega,⟨fun e=>?_,fun e=>?_⟩⟩
  ·rw [List.length_append,List.length_singleton] at e
   have:=h2.mp (by omega)
   refine List.nodup_append.mpr ⟨this,by simp,fun a ha b hb e=>?_⟩
   have:b=z:=by simpa using hb
   exact hz (by rw [<- this,<- e];exact ha)
  ·rw [List.length_append,List.length_singleton]
   have:=h2.mpr (List.nodup_append.mp e).1
   omega
def kin (ss:List Str) (k:Key):Bool:=ss.any fun z=>decide (k=iK z)
theorem qej (ss:List Str) (z:Str) (k:Key):kin (ss++[z]) k=(kin ss k || decide (k=iK z)):=by
 unfold kin
 rw [List.any_append]
 simp
theorem qcm (ss:List Str) (z:Str):(kin ss (iK z)=true)=(z∈ss):=by
 unfold kin
 rw [List.any_eq_true]
 refine propext ⟨fun ⟨y,hy,e⟩=>?_,fun h=>⟨z,h,decide_eq_true rfl⟩⟩
 have e':=of_decide_eq_true e
 rw [Sum.inr.inj e']
 exact hy
theorem Y2 {P:Program} {w:World} {A:Around} {it d:Addr} {fp wr:List Addr} {n:Nat} {Pv:Nat->Value->Prop} {St:Nat->Heap->Prop} {R:Result->Shared->Prop}
  (W:Walks P w A.in1 it fp wr n Pv St) (hd:d ∉ fp) (ss:List Str) (hn:ss.length=n) (hP:∀ i v,i < n->Pv i v->∃ z t,ss[i]? = some z/\v=.str z t) (hz:n+1 < scanBound) :
  ∀ (m i c:Nat) (s:Shared),i+m=n->St i s.heap->s.heap.SetOf (mixKind P w) d (kin (ss.take i)) c->Cnt (ss.take i) c ->
   (∀ h' tk c',h'.SetOf (mixKind P w) d (kin ss) c'->Cnt ss c'->(∀ b o,b ∉ wr->b≠d->s.heap.get? b=some o->h'.get? b=some o)->R (.ok (.ret .none)) { s with heap:=h',toks:=tk }) ->
   codeAny (model P w) A (.builtin "set.update.loop" ⟨[.ref d,.ref it],[]⟩) R s
 | 0,i,c,s,hi,st,hD,hC,q=>by
  refine codeAny_builtin F.entry_set_update_loop ?_
  rw [Around.under_plainId F.plain_set_update_loop]
  have e:i=n:=by omega
  subst e
  unfold Builtin.«set.update.loop»
  show wpAny _ _ (pyNext (.ref it) >>= _) _ _ _
  refine wpAny_bind (W.done s _ _ st fun h' tk kk=>?_)
  refine wpAny_pure ?_
  have hdw:d ∉ wr:=fun z=>hd (W.sub d z)
  rw [<- hn,List.take_length] at hD hC
  obtain ⟨o,es,ep,t,h1,h2⟩:=hD
  exact q h' tk c ⟨o,es,ep,t,kk d o hdw h1,h2⟩ hC fun b o hb _ e=>kk b o hb e
 | m+1,i,c,s,hi,st,hD,hC,q=>by
  refine codeAny_builtin F.entry_set_update_loop ?_
  rw [Around.under_plainId F.plain_set_update_loop]
  unfold Builtin.«set.update.loop»
  show wpAny _ _ (pyNext (.ref it) >>= _) _ _ _
  refine wpAny_bind (W.item i s _ _ (by omega) st fun v h' tk hv st' kk=>?_)
  obtain ⟨z,t,hz1,rfl⟩:=hP i v (by omega) hv
  have hdw:d ∉ wr:=fun z=>hd (W.sub d z)
  have hD':h'.SetOf (mixKind P w) d (kin (ss.take i)) c:=by
   obtain ⟨o,es,ep,t,h1,h2⟩:=hD
   exact ⟨o,es,ep,t,kk d o hdw h1,h2⟩
  have hk:(mixKind P w).is (Sum.inr z:Key) (.str z t)=true:=Z7 (k:=(Sum.inr z:Key)) ⟨t,rfl⟩
  have hcn:c<=i:=by
   have:=hC.1
   rw [List.length_take] at this
   omega
  show wpAny _ _ (holding [.str z t] (setAdd d (.str z t)) >>= _) _ _ _
  refine wpAny_bind (wpAny_holding ?_)
  unfold setAdd
  refine wpAny_holding (wpAny_bind ((mixKind P w).pyHash hk ?_))
  refine wpAny_setAddHashed_of (s:={ s with heap:=h',toks:=tk+1 }) hk rfl hD' (by omega) fun h2 sb hD2=>?_
  refine wpAny_pure ⟨plainId_quiet F.plain_set_update_loop _,?_⟩
  have et:ss.take (i+1)=ss.take i++[z]:=by
   rw [List.take_add_one,hz1]
   rfl
  have st2:St (i+1) h2:=W.frame (i+1) h' h2 st' fun b hb o e=>sb.extBut _ _ (fun z=>hd (by rw [<- z];exact hb)) e
  refine Y2 W hd ss hn hP hz m (i+1) (if z∈ss.take i then c else c+1) { s with heap:=h2,toks:=tk+1 } (by omega) st2 ?_ (by rw [et];exact hC.snoc) fun h3 tk3 c3 hD3 hC3 k3=>q h3 tk3 c3 hD3 hC3 fun b o hb hbd e=>k3 b o hb hbd (sb.extBut _ _ hbd (kk b o hb e))
  have e2:kin (ss.take (i+1))=fun k'=>kin (ss.take i) k' || decide (k'=iK z):=by
   funext k
   rw [et,qej]
  rw [e2]
  have e3:(if z∈ss.take i then c else c+1)=if kin (ss.take i) (iK z)=true then c else c+1:=by
   by_cases hh:z∈ss.take i
   ·rw [if_pos hh,if_pos (by rw [qcm];exact hh)]
   ·rw [if_neg hh,if_neg (by rw [qcm];exact hh)]
  rw [e3]
  exact hD2
theorem Jn {P:Program} {w:World} {A:Around} {E:Value->Shared->Prop} {s:Shared} {l:Addr} {its:Array Value} {ss:List Str} {Q:Value->Shared->Prop} (hh:A.handled=none) (hl:s.heap.IsList l its)
  (hi:Vals (ss.map V.str) its.toList) (hz:its.size+1 < scanBound)
  (q:∀ h' tk c,h'.SetOf (mixKind P w) s.heap.objs.size (kin ss) c->Cnt ss c->(∀ b o,s.heap.get? b=some o->h'.get? b=some o)->Q (.ref s.heap.objs.size) { s with heap:=h',toks:=tk }) :
  wpAny (model P w) A (call (.type "set") [.ref l]) Q E s:=by
 obtain ⟨c0,tl,hmro⟩:=F.called_set.mro
 have hmade:=F.called_set.made
 have hsub:=F.called_set.sub
 have h1:=F.called_set.notType
 have h2:=F.called_set.canCreate
 have hct:=F.typeCall_set_1 (.ref l)
 refine wpAny_call (codeAny_of_tree (wpAny_pure ⟨Code.quiet_builtin _ (by decide +kernel),codeAny_builtin F.entry_type_call ?_⟩))
 rw [Around.under_plain (weight_type_call_type "set" [.ref l] []) rfl]
 unfold Builtin.«type.__call__»
 repeat (any_goals (first | assumption | ((with_reducible show wpAny _ _ (call (Value.builtin "set.__new__") _ _) _ _ _);refine wpAny_call (codeAny_mono (code_set_new_1 (Q₁:=fun ob s1=>∃ led,ob=Value.ref s.heap.objs.size/\s1 = { s with heap:=s.heap.push { cls:=.type "set",data:=.set #[] 0 (SetTable.fresh 0 0 led) } }) (.ref l) fun led=>⟨led,rfl,rfl⟩) ?_)) | wp_step))
 refine codeAny_mono (code_set_new_1 (Q₁:=fun ob s1=>∃ led,ob=Value.ref s.heap.objs.size/\s1 = { s with heap:=s.heap.push { cls:=.type "set",data:=.set #[] 0 (SetTable.fresh 0 0 led) } }) (E:=E) (.ref l) fun led=>⟨led,rfl,rfl⟩) fun r s1 hr=>?_
 cases r with
 | error e=>exact hr
 | ok fl =>
  cases fl with
  | ret v =>
   obtain ⟨led,rfl,rfl⟩:=hr
   have hS:(s.heap.push { cls:=.type "set",data:=.set #[] 0 (SetTable.fresh 0 0 led) }).get? s.heap.objs.size=some { cls:=.type "set",data:=.set #[] 0 (SetTable.fresh 0 0 led) }:=Heap.get?_push_size _ rfl
   have hT:({ s with heap:=s.heap.push { cls:=.type "set",data:=.set #[] 0 (SetTable.fresh 0 0 led) } }:Shared).TypeIs (.ref s.heap.objs.size) "set":=⟨_,hS,rfl⟩
   have hli:=F.called_set.init.lookup
   have hbi:=F.called_set.init.bind (.ref s.heap.objs.size)
   obtain ⟨ol,hol,hcl,nl,hsl⟩:=id hl
   obtain ⟨oc,od,odt,osl⟩:=ol
   simp only at hcl hsl
   subst hcl hsl
   have hol':(s.heap.push { cls:=.type "set",data:=.set #[] 0 (SetTable.fresh 0 0 led) }).get? l=some _:=Heap.get?_push_of_some _ hol
   have hL':({ s with heap:=s.heap.push { cls:=.type "set",data:=.set #[] 0 (SetTable.fresh 0 0 led) } }:Shared).TypeIs (.ref l) "list":=⟨_,hol',rfl⟩
   have hsls:=F.sub_list_set
   have hslf:=F.sub_list_frozenset
   have hl1:(s.heap.push { cls:=.type "set",data:=.set #[] 0 (SetTable.fresh 0 0 led) }).IsList l its:=⟨_,hol',rfl,nl,rfl⟩
   dsimp only
   repeat (any_goals (first | assumption | wp_step))
   refine codeAny_mono (codeAny_call_builtin (R:=fun r s2=>∃ h' tk c,r=.ok (.ret .none)/\s2 = { s with heap:=h',toks:=tk }/\h'.SetOf (mixKind P w) s.heap.objs.size (kin ss) c/\Cnt ss c/\∀ b o,s.heap.get? b=some o->h'.get? b=some o) F.called_set.init.plain F.entry_set_init (check_set_init_1 hT ?_)) fun r s2 hr=>?_
   ·unfold Builtin.«set.__init__» Builtin.Frozenset.updateFrom
    repeat (any_goals (first | assumption | ((with_reducible show wpAny _ _ (pyIter (Value.ref l)) _ _ _);refine wpAny_pyIter_list hl1 ?_) | wp_step))
    have hlS:l < s.heap.objs.size:=Heap.lt_size hol
    have hpz:(s.heap.push { cls:=.type "set",data:=.set #[] 0 (SetTable.fresh 0 0 led) }).objs.size=s.heap.objs.size+1:=Heap.size_push _ _
    have W:=Walks.list (prog:=P) (w:=w) (A:=A.in1.in1.in1) hh (s.heap.objs.size+1) l (Nat.ne_of_lt (Nat.lt_succ_of_lt hlS)) its
    rw [hpz]
    refine Y2 W (d:=s.heap.objs.size) ?_ ss ?_ ?_ hz its.size 0 0 _ (Nat.zero_add _) ⟨⟨_,by rw [<- hpz];exact Heap.get?_push_size _ rfl,rfl,rfl⟩,hl1.push _⟩ ?_ Cnt.nil ?_
    ·intro z
     have z':s.heap.objs.size=s.heap.objs.size+1\/s.heap.objs.size=l:=by simpa using z
     exact z'.elim (Nat.ne_of_lt (Nat.lt_succ_self _)) (Nat.ne_of_gt hlS)
    ·have:=hi.length
     simpa using this
    ·intro i v hlt e
     have e':its.toList[i]? = some v:=by simpa using e
     have hlt':i < ss.length:=by
      have:=hi.length
      rw [List.length_map] at this
      have h2:its.toList.length=its.size:=Array.length_toList
      omega
     obtain ⟨u,hu,t,ru⟩:=hi.get (i:=i) (x:=V.str ss[i]) (by rw [List.getElem?_map,List.getElem?_eq_getElem hlt'];rfl)
     rw [hu] at e'
     cases e'
     exact ⟨ss[i],t,List.getElem?_eq_getElem hlt',ru⟩
    ·refine ⟨_,#[],0,_,Heap.get?_push_of_some _ hS,?_,rfl,?_,?_,by decide,?_,rfl⟩
     ·exact ⟨rfl,rfl,rfl⟩
     ·intro e he
      cases he
     ·intro k
      simp [kin]
     ·rfl
    ·intro h' tk c a1 a2 a3
     refine wpAny_pure (wpAny_pure ⟨h',tk,c,rfl,rfl,a1,a2,fun b o e=>?_⟩)
     have hb:=Heap.lt_size e
     refine a3 b o (fun z=>?_) (Nat.ne_of_lt hb) (Heap.get?_push_of_some _ (Heap.get?_push_of_some _ e))
     have z':b=s.heap.objs.size+1:=by simpa using z
     exact Nat.ne_of_lt (Nat.lt_succ_of_lt hb) z'
   ·obtain ⟨h',tk,c,rfl,rfl,a1,a2,a3⟩:=hr
    repeat (any_goals (first | assumption | wp_step))
    exact q h' tk c a1 a2 a3
  | _=>exact hr.elim
def setHO (P:Program) (w:World) (a:Addr) (ss:List Str) (c:Nat):HO:=.ext fun h=>h.SetOf (mixKind P w) a (kin ss) c
def rSetT (P:Program) (w:World) (K:W.Frag):List V->Hp->VK->Prop:=fun xs H Q=>∃ (l:Addr) (ss:List Str),xs=[.ref l]/\SqL K H l (ss.map V.str)/\ss.length<=1000/\∀ a c,H a=none->Cnt ss c->Q (.ref a) (upd H a (setHO P w a ss c))
theorem qcn {X:Cx} (hc:X.calm=true):CallR X (.type "set") (rSetT X.prog X.w X.K):=by
 intro pins s σ H xs us Q I r h
 obtain ⟨l,ss,rfl,hL,hz,q⟩:=h
 obtain ⟨u,rfl,ru⟩:=vals1 r
 cases ru
 obtain ⟨its,rv,pl,hl⟩:=I.list hL
 have hlen:=rv.length
 rw [List.length_map] at hlen
 refine Jn (I.ok.hd hc) pl.isList (ss:=ss) (by simpa using rv) (by show its.toArray.size+1 < 4096;rw [List.size_toArray];omega) fun h' tk c a1 a2 a3=>?_
 refine ⟨.ref s.heap.objs.size,upd H s.heap.objs.size (setHO X.prog X.w s.heap.objs.size ss c),I.laid (t':=tk) a3 (Nat.le_refl _) ⟨a1,?_,fun h1 h2 b1 b2=>?_⟩,rfl,q _ c (I.hok.fresh (Nat.le_refl _)) a2⟩
 ·obtain ⟨o,es,ep,t,ho,_⟩:=a1
  exact ⟨o,ho⟩
 ·obtain ⟨o,es,ep,t,ho,rr⟩:=b1
  exact ⟨o,es,ep,t,b2 o ho,rr⟩
theorem qa7 {X:Cx} (P:Program) (w:World) (K:W.Frag) (hc:X.calm=true) (hP:X.prog=P:=by rfl) (hw:X.w=w:=by rfl) (hK:X.K=K:=by rfl):CallR X (.type "set") (rSetT P w K):=by subst hP;subst hw;subst hK;exact qcn hc
def rLenSet (P:Program) (w:World):List V->Hp->VK->Prop:=fun xs H Q=>∃ (a:Addr) (ss:List Str) (c:Nat),xs=[.ref a]/\H a=some (setHO P w a ss c)/\c<=1000/\Q (.int c) H
theorem Yf {X:Cx}:CallR X (.builtin "len") (rLenSet X.prog X.w):=by
 intro pins s σ H xs us Q I r h
 obtain ⟨a,ss,c,rfl,ha,hz,q⟩:=h
 obtain ⟨u,rfl,ru⟩:=vals1 r
 cases ru
 obtain ⟨⟨o,es,ep,t,ho,hE,hd,_,_,_,hf,hn⟩,_⟩:=(show ObjOk X.prog X.w H s.heap a (setHO X.prog X.w a ss c) from I.hok a _ ha)
 refine call_len_set ho hE hd hf (by rw [hn];exact Int.lt_of_le_of_lt (Int.ofNat_le.mpr hz) (by decide)) ?_
 rw [hn]
 exact ⟨.int c,H,I.tok _,⟨_,rfl⟩,q⟩
theorem Zj {X:Cx} (P:Program) (w:World) (hP:X.prog=P:=by rfl) (hw:X.w=w:=by rfl):CallR X (.builtin "len") (rLenSet P w):=by subst hP;subst hw;exact Yf
end L2
namespace L2
open PySem PySem.Spec PyProof.Rows
def ItQ (K:W.Frag) (b:Bool) (a:Addr):It:=if b=true then Itt K a else Itl K a
theorem yz {K:W.Frag} {b:Bool} {a:Addr} {xs:List V}:Sure (ItQ K b a) xs (fun H=>SqA K H a xs b):=by
 cases b with
 | true=>exact Ve
 | false=>exact sure_list
def iSeqA (K:W.Frag) (tl:TE):TI:=fun σ H R=>tl σ H fun x H1=>∃ a b,x=.ref a/\(∃ xs,SqA K H1 a xs b)/\R (ItQ K b a) H1
theorem pi_seqA {X:Cx} {tg l:Expr} {tl:TE} (hl:PE X l tl):PI X tg l (iSeqA X.K tl):=by
 intro pins s σ H R I h
 refine thn (hl pins s σ H _ I h) fun v s1 ⟨x,H1,I1,r1,q1⟩=>?_
 obtain ⟨a,b,e,⟨xs,hq⟩,q⟩:=q1
 subst e
 cases r1
 cases b with
 | false =>
  obtain ⟨its,rv,p,hz⟩:=I1.list (show SqL X.K H1 a xs from hq)
  refine wpAny_pyIter_list p.isList ?_
  refine ⟨s1.heap.objs.size,[s1.heap.objs.size],_,_,H1,rfl,I1.kept (t':=s1.toks) fun b o e=>Heap.get?_push_of_some _ e,V0 a _,⟨_,Heap.get?_push_size _ rfl,rfl,rfl⟩,fun b hb=>?_,q⟩
  have e:b=s1.heap.objs.size:=by simpa using hb
  subst e
  exact I1.fpOk (Nat.le_refl _) (I1.hok.fresh (Nat.le_refl _))
 | true =>
  obtain ⟨its,rv,p,hz⟩:=I1.tuple (show SqT X.K H1 a xs from hq)
  refine wpAny_pyIter_tuple (show s1.heap.IsTuple a its.toArray from p) ?_
  refine ⟨s1.heap.objs.size,[s1.heap.objs.size],_,_,H1,rfl,I1.kept (t':=s1.toks) fun b o e=>Heap.get?_push_of_some _ e,Jp a _,⟨_,Heap.get?_push_size _ rfl,rfl,rfl⟩,fun b hb=>?_,q⟩
  have e:b=s1.heap.objs.size:=by simpa using hb
  subst e
  exact I1.fpOk (Nat.le_refl _) (I1.hok.fresh (Nat.le_refl _))
theorem Vk {X:Cx} (K:W.Frag) {tg l:Expr} {tl:TE} (hl:PE X l tl) (hK:X.K=K:=by rfl):PI X tg l (iSeqA K tl):=by subst hK;exact pi_seqA hl
theorem qgj {X:Cx}:OpR X (compareOp .IsNot) (fun x y H Q=>∃ a b,x=.bl a/\y=.bl b/\Q (.bl (!(a == b))) H):=by
 intro pins s σ H x y v u Q I rx ry h
 obtain ⟨a,b,rfl,rfl,q⟩:=h
 cases rx
 cases ry
 refine wpAny_bind (wpAny_pure (wpAny_pure (qv I q ?_)))
 cases a <;> cases b <;> rfl
theorem qa8 {X:Cx} {pins:List (Addr × Obj)} {σ:St} {H:Hp} {s:Shared} {A:Around} {E:Value->Shared->Prop} {Q:Value->Shared->Prop} {b:Bool} {x:V} {u t:Value} {tp:Addr} {dd:Option Addr} {its:List Value} {n:Nat} {sl:Array (Option Value)}
  (I:Inv X pins σ H s) (rx:RelV x u) (ty:TyOf X.K H x t) (ht:s.heap.get? tp=some { cls:=.type "tuple",dict:=dd,data:=.seq its.toArray n,slots:=sl }) (e:W.kitAny X.K t its=some b) (h:∀ tk,Q (.bool b) { s with toks:=tk }) :
  wpAny (model X.prog X.w) A (call (.builtin "isinstance") [u,.ref tp]) Q E s:=by
 cases ty with
 | non=>cases (show u=Value.none from rx);exact W.kia_tup W.kitx_none I.kIn True.intro ht e (fun z=>nomatch z) h
 | bl y=>cases (show u=Value.bool y from rx);exact W.kia_tup W.kitx_bool I.kIn True.intro ht e (fun z=>nomatch z) h
 | int i=>obtain ⟨t,q⟩:=(show ∃ t,u=Value.int i t from rx);cases q;exact W.kia_tup W.kitx_int I.kIn True.intro ht e (fun z=>nomatch z) h
 | str y=>obtain ⟨t,q⟩:=(show ∃ t,u=Value.str y t from rx);cases q;exact W.kia_tup W.kitx_str I.kIn True.intro ht e (fun z=>nomatch z) h
 | flt y=>obtain ⟨t,q⟩:=(show ∃ t,u=Value.float y t from rx);cases q;exact W.kia_tup W.kitx_float I.kIn True.intro ht e (fun z=>nomatch z) h
 | @lst a xs ea =>
  cases (show u=Value.ref a from rx)
  obtain ⟨_,_,n,_,h1⟩:=(show ObjOk X.prog X.w H s.heap a (.lst xs) from I.hok a _ ea)
  exact W.kia_tup W.kitx_list I.kIn ⟨_,h1,rfl⟩ ht e (fun z=>nomatch z) h
 | @frz a ob xs ea =>
  cases (show u=Value.ref a from rx)
  obtain ⟨_,_,_,n,_,h1⟩:=(show ObjOk X.prog X.w H s.heap a (.frz ob (.lst xs)) from I.hok a _ ea)
  exact W.kia_tup W.kitx_list I.kIn ⟨_,h1,rfl⟩ ht e (fun z=>nomatch z) h
 | @tup a xs ea =>
  cases (show u=Value.ref a from rx)
  obtain ⟨_,_,_,p,_⟩:=(show ObjOk X.prog X.w H s.heap a (.tup xs) from I.hok a _ ea)
  obtain ⟨o,h1,h2,_⟩:=p
  exact W.kia_tup W.kitx_tuple I.kIn ⟨o,h1,h2⟩ ht e (fun z=>nomatch z) h
 | @dK a kvs ea =>
  cases (show u=Value.ref a from rx)
  obtain ⟨_,_,vs,_,p⟩:=(show ObjOk X.prog X.w H s.heap a (.dK kvs) from I.hok a _ ea)
  obtain ⟨o,es,ep,h1,h2,_⟩:=p
  exact W.kia_tup W.kitx_dict I.kIn ⟨o,h1,h2.1⟩ ht e (fun z=>nomatch z) h
 | @dT a kvs ea =>
  cases (show u=Value.ref a from rx)
  obtain ⟨_,_,xs,_,o,es,ep,h1,h2,_⟩:=(show ObjOk X.prog X.w H s.heap a (.dT kvs) from I.hok a _ ea)
  exact W.kia_tup W.kitx_dict I.kIn ⟨o,h1,h2.1⟩ ht e (fun z=>nomatch z) h
 | @ins a C dx fs ea cl ha hn htk hm =>
  cases (show u=Value.ref a from rx)
  obtain ⟨mA,O,_⟩:=qby I.hok ea
  obtain ⟨od,J,_⟩:=O.look
  exact W.kia_tup (W.kitx_own (cl.get _) cl.hd ha hn htk hm) I.kIn J ht e (fun z=>nomatch z) h
theorem qco:∀ {Ts:List String} {its:List Value},Vals (Ts.map V.ty) its->its=Ts.map Value.type
 | [],_,.nil=>rfl
 | T :: Ts,_,.cons h r=>by
  cases (show _=Value.type T from h)
  rw [qco r]
  rfl
def rIsiT (K:W.Frag):List V->Hp->VK->Prop:=fun xs H Q=>∃ (x:V) (tp:Addr) (Ts:List String) (t:Value) (b:Bool),xs=[x,.ref tp]/\H tp=some (.tup (Ts.map V.ty))/\TyOf K H x t/\W.kitAny K t (Ts.map Value.type)=some b/\Q (.bl b) H
theorem Zk {X:Cx}:CallR X (.builtin "isinstance") (rIsiT X.K):=by
 intro pins s σ H xs us Q I r h
 obtain ⟨x,tp,Ts,t,b,rfl,htp,ty,e,q⟩:=h
 obtain ⟨u,v,rfl,ru,rv⟩:=vals2 r
 cases (show v=Value.ref tp from rv)
 obtain ⟨_,its,rv',p,_⟩:=(show ObjOk X.prog X.w H s.heap tp (.tup (Ts.map V.ty)) from I.hok tp _ htp)
 obtain ⟨o,h1,h2,n,h3⟩:=p
 obtain ⟨oc,od,odt,osl⟩:=o
 simp only at h2 h3
 subst h2 h3
 have ei:=qco rv'
 subst ei
 exact qa8 I ru ty h1 e fun tk=>⟨.bl b,H,I.tok _,rfl,q⟩
theorem Vl {X:Cx} (K:W.Frag) (hK:X.K=K:=by rfl):CallR X (.builtin "isinstance") (rIsiT K):=by subst hK;exact Zk
end L2
namespace L2
open PySem PySem.Spec PyProof.Rows PySem.W
def Ends' {α:Type} (b:Nat->Nat->Bool) (n:Nat) (R:α->Prop):KasT α->Prop
 | .ret a=>R a
 | .ask i j k=>i < n/\j < n/\Ends' b n R (k (b i j))
theorem Ja {α β:Type} {b:Nat->Nat->Bool} {n:Nat} {R:β->Prop} {f:α->KasT β}:∀ {t:KasT α},Ends' b n (fun a=>Ends' b n R (f a)) t->Ends' b n R (t.bind f)
 | .ret a,h=>h
 | .ask i j k,h=>⟨h.1,h.2.1,Ja h.2.2⟩
theorem Jb {α:Type} {b:Nat->Nat->Bool} {n:Nat} {R R':α->Prop} (hR:∀ a,R a->R' a):∀ {t:KasT α},Ends' b n R t->Ends' b n R' t
 | .ret a,h=>hR a h
 | .ask i j k,h=>⟨h.1,h.2.1,Jb hR h.2.2⟩
theorem Jv {α:Type} {b:Nat->Nat->Bool} {n:Nat} {R:α->Prop} {cmp:Nat->Nat->(Bool->Shared->Prop)->Shared->Prop} {s:Shared} {Q:α->Shared->Prop} (hc:∀ i j C,i < n->j < n->C (b i j) s->cmp i j C s) (hQ:∀ a,R a->Q a s) :
  ∀ {t:KasT α},Ends' b n R t->KasT.kasWp cmp t Q s
 | .ret a,h=>hQ a h
 | .ask i j k,h=>hc i j _ h.1 h.2.1 (Jv hc hQ h.2.2)
abbrev Fcts:=List (Nat × Nat)
def has (L:Fcts) (i j:Nat):Bool:=L.any fun p=>p.1 == i && p.2 == j
def addF (L:Fcts) (i j:Nat):Fcts:=((i :: (L.filter (·.2 == i)).map (·.1)).flatMap fun a=>(j :: (L.filter (·.1 == j)).map (·.2)).map fun c=>(a,c))++L
def chainF (L:Fcts):List Nat->Bool
 | []=>true
 | [_]=>true
 | a :: b :: r=>has L a b && chainF L (b :: r)
def ndF:List Nat->Bool
 | []=>true
 | a :: r=>!(r.any (· == a)) && ndF r
def okC (n:Nat):KasT (Nat × Array Nat)->Fcts->Bool
 | .ret q,L=>decide (1<=q.1) && decide (q.1<=n) && q.2.toList.length == n && q.2.toList.all (fun x=>decide (x < n)) && ndF q.2.toList && chainF L (q.2.toList.take q.1)
 | .ask i j k,L=>decide (i < n) && decide (j < n) && (if i == j then okC n (k false) L else if has L i j then okC n (k true) L else if has L j i then okC n (k false) L else okC n (k true) (addF L i j) && okC n (k false) (addF L j i))
structure Ord (b:Nat->Nat->Bool) (n:Nat):Prop where
 irr:∀ i,b i i=false
 trans:∀ i j k,b i j=true->b j k=true->b i k=true
 tot:∀ i j,i < n->j < n->i≠j->b i j=false->b j i=true
def Hold (b:Nat->Nat->Bool) (L:Fcts):Prop:=∀ p∈L,b p.1 p.2=true
theorem Vm {b:Nat->Nat->Bool} {L:Fcts} (h:Hold b L) {i j:Nat} (e:has L i j=true):b i j=true:=by
 obtain ⟨p,hp,e⟩:=List.any_eq_true.mp e
 rw [Bool.and_eq_true,beq_iff_eq,beq_iff_eq] at e
 rw [<- e.1,<- e.2]
 exact h p hp
theorem Y3 {b:Nat->Nat->Bool} {n:Nat} (O:Ord b n) {L:Fcts} (h:Hold b L) {i j:Nat} (e:b i j=true):Hold b (addF L i j):=by
 intro p hp
 rcases List.mem_append.mp hp with hp | hp
 ·obtain ⟨a,ha,hp⟩:=List.mem_flatMap.mp hp
  obtain ⟨c,hc,rfl⟩:=List.mem_map.mp hp
  have h1:b a j=true:=by
   rcases List.mem_cons.mp ha with z | z
   ·rw [z];exact e
   ·obtain ⟨q,hq,rfl⟩:=List.mem_map.mp z
    obtain ⟨q1,q2⟩:=List.mem_filter.mp hq
    rw [beq_iff_eq] at q2
    have:=h q q1
    rw [q2] at this
    exact O.trans _ _ _ this e
  rcases List.mem_cons.mp hc with z | z
  ·rw [z];exact h1
  ·obtain ⟨q,hq,rfl⟩:=List.mem_map.mp z
   obtain ⟨q1,q2⟩:=List.mem_filter.mp hq
   rw [beq_iff_eq] at q2
   have:=h q q1
   rw [q2] at this
   exact O.trans _ _ _ h1 this
 ·exact h p hp
theorem Jw {b:Nat->Nat->Bool} {n:Nat} (O:Ord b n) {L:Fcts} (h:Hold b L):∀ {xs:List Nat},chainF L xs=true->xs.Pairwise fun x y=>b x y=true
 | [],_=>.nil
 | [_],_=>by simp
 | x :: y :: r,e=>by
  have e':(has L x y && chainF L (y :: r))=true:=e
  rw [Bool.and_eq_true] at e'
  have ih:=Jw O h e'.2
  have hxy:=Vm h e'.1
  refine List.pairwise_cons.mpr ⟨fun z hz=>?_,ih⟩
  rcases List.mem_cons.mp hz with rfl | hz
  ·exact hxy
  ·exact O.trans _ _ _ hxy ((List.pairwise_cons.mp ih).1 z hz)
theorem qh2:∀ {xs:List Nat},ndF xs=true->xs.Nodup
 | [],_=>.nil
 | x :: r,e=>by
  have e':(!(r.any (· == x)) && ndF r)=true:=e
  rw [Bool.and_eq_true] at e'
  refine List.nodup_cons.mpr ⟨fun hx=>?_,qh2 e'.2⟩
  have:r.any (· == x)=true:=List.any_eq_true.mpr ⟨x,hx,by simp⟩
  rw [this] at e'
  cases e'.1
structure Sor (b:Nat->Nat->Bool) (n m:Nat) (p:Array Nat):Prop where
 size:p.size=n
 lt:∀ x∈p.toList,x < n
 nd:p.toList.Nodup
 up:(p.toList.take m).Pairwise fun x y=>b x y=true
theorem vk {b:Nat->Nat->Bool} {n:Nat} (O:Ord b n):∀ {t:KasT (Nat × Array Nat)} {L:Fcts},Hold b L->okC n t L=true->Ends' b n (fun q=>1<=q.1/\q.1<=n/\Sor b n q.1 q.2) t
 | .ret q,L,h,e=>by
  have e':(decide (1<=q.1) && decide (q.1<=n) && q.2.toList.length == n && q.2.toList.all (fun x=>decide (x < n)) && ndF q.2.toList && chainF L (q.2.toList.take q.1))=true:=e
  simp only [Bool.and_eq_true,decide_eq_true_eq,beq_iff_eq] at e'
  obtain ⟨⟨⟨⟨⟨e1,e2⟩,e3⟩,e4⟩,e5⟩,e6⟩:=e'
  exact ⟨e1,e2,⟨by simpa using e3,fun x hx=>of_decide_eq_true (List.all_eq_true.mp e4 x hx),qh2 e5,Jw O h e6⟩⟩
 | .ask i j k,L,h,e=>by
  have e':(decide (i < n) && decide (j < n) && (if (i == j)=true then okC n (k false) L else if has L i j=true then okC n (k true) L else if has L j i=true then okC n (k false) L else okC n (k true) (addF L i j) && okC n (k false) (addF L j i)))=true:=e
  rw [Bool.and_eq_true,Bool.and_eq_true] at e'
  obtain ⟨⟨e1,e2⟩,e3⟩:=e'
  have hi:=of_decide_eq_true e1
  have hj:=of_decide_eq_true e2
  refine ⟨hi,hj,?_⟩
  by_cases c1:i=j
  ·rw [if_pos (by simpa using c1)] at e3
   subst c1
   rw [O.irr]
   exact vk O h e3
  rw [if_neg (by simpa using c1)] at e3
  by_cases c2:has L i j=true
  ·rw [if_pos c2] at e3
   rw [Vm h c2]
   exact vk O h e3
  rw [if_neg c2] at e3
  by_cases c3:has L j i=true
  ·rw [if_pos c3] at e3
   have:b i j=false:=by
    cases q:b i j with
    | false=>rfl
    | true=>have:=O.trans _ _ _ q (Vm h c3);rw [O.irr] at this;cases this
   rw [this]
   exact vk O h e3
  rw [if_neg c3,Bool.and_eq_true] at e3
  cases q:b i j with
  | true=>exact vk O (Y3 O h q) e3.1
  | false=>exact vk O (Y3 O h (O.tot i j hi hj c1 q)) e3.2
theorem qh3:∀ n,2<=n->n<=8->okC n (kas_count n (List.range n).toArray) []=true
 | 2,_,_=>by decide +kernel
 | 3,_,_=>by decide +kernel
 | 4,_,_=>by decide +kernel
 | 5,_,_=>by decide +kernel
 | 6,_,_=>by decide +kernel
 | 7,_,_=>by decide +kernel
 | 8,_,_=>by decide +kernel
theorem zx {p:Array Nat} {i:Nat} (h:i < p.size):p.toList[i]? = some (p.getD i 0):=by
 rw [Array.getElem?_toList,Array.getD,dif_pos h]
 exact Array.getElem?_eq_getElem h
theorem Sor.below {b:Nat->Nat->Bool} {n m:Nat} {p:Array Nat} (S:Sor b n m p) {i j:Nat} (hij:i < j) (hj:j < m) (hm:m<=n):b (p.getD i 0) (p.getD j 0)=true:=by
 have hs:=S.size
 have h1:(p.toList.take m)[i]? = some (p.getD i 0):=by rw [List.getElem?_take_of_lt (by omega)];exact zx (by omega)
 have h2:(p.toList.take m)[j]? = some (p.getD j 0):=by rw [List.getElem?_take_of_lt hj];exact zx (by omega)
 obtain ⟨l1,e1⟩:=List.getElem?_eq_some_iff.mp h1
 obtain ⟨l2,e2⟩:=List.getElem?_eq_some_iff.mp h2
 have:=List.pairwise_iff_getElem.mp S.up i j l1 l2 hij
 rw [e1,e2] at this
 exact this
theorem Sor.mem {b:Nat->Nat->Bool} {n m:Nat} {p:Array Nat} (S:Sor b n m p) {i:Nat} (h:i < n):p.getD i 0 < n:=S.lt _ (List.mem_of_getElem? (zx (by rw [S.size];exact h)))
theorem Sor.ne {b:Nat->Nat->Bool} {n m:Nat} {p:Array Nat} (S:Sor b n m p) {i j:Nat} (hij:i < j) (h:j < n):p.getD i 0≠p.getD j 0:=by
 have hs:=S.size
 obtain ⟨l1,e1⟩:=List.getElem?_eq_some_iff.mp (zx (p:=p) (i:=i) (by omega))
 obtain ⟨l2,e2⟩:=List.getElem?_eq_some_iff.mp (zx (p:=p) (i:=j) (by omega))
 have:=List.pairwise_iff_getElem.mp S.nd i j l1 l2 hij
 rw [e1,e2] at this
 exact this
theorem Vn {b:Nat->Nat->Bool} {n:Nat} (O:Ord b n) {p:Array Nat} {k:Nat} (hk:k < n) (S:Sor b n k p):∀ (f l r:Nat),l<=r->r<=k->r - l<=f->(∀ i,i < l->b (p.getD i 0) (p.getD k 0)=true)->(∀ i,r<=i->i < k->b (p.getD k 0) (p.getD i 0)=true) ->
  Ends' b n (fun l'=>l'<=k/\(∀ i,i < l'->b (p.getD i 0) (p.getD k 0)=true)/\∀ i,l'<=i->i < k->b (p.getD k 0) (p.getD i 0)=true) (kas_place p k f l r)
 | 0,l,r,hlr,hr,hf,h1,h2=>by
  have e:l=r:=by omega
  subst e
  exact ⟨hr,h1,h2⟩
 | f+1,l,r,hlr,hr,hf,h1,h2=>by
  show Ends' b n _ (if l ≥ r then KasT.ret l else _)
  by_cases c:l ≥ r
  ·rw [if_pos c]
   have e:l=r:=by omega
   subst e
   exact ⟨hr,h1,h2⟩
  rw [if_neg c]
  refine ⟨S.mem hk,S.mem (by omega),?_⟩
  have hm:(l+r) / 2 < k:=by omega
  cases q:b (p.getD k 0) (p.getD ((l+r) / 2) 0) with
  | true =>
   show Ends' b n _ (kas_place p k f l ((l+r) / 2))
   refine Vn O hk S f l ((l+r) / 2) (by omega) (by omega) (by omega) h1 fun i hi hik=>?_
   by_cases e:i=(l+r) / 2
   ·rw [e];exact q
   ·exact O.trans _ _ _ q (S.below (by omega) hik (by omega))
  | false =>
   show Ends' b n _ (kas_place p k f ((l+r) / 2+1) r)
   have q':=O.tot _ _ (S.mem hk) (S.mem (by omega)) (S.ne hm hk).symm q
   refine Vn O hk S f ((l+r) / 2+1) r (by omega) hr (by omega) (fun i hi=>?_) h2
   by_cases e:i=(l+r) / 2
   ·rw [e];exact q'
   ·exact O.trans _ _ _ (S.below (i:=i) (j:=(l+r) / 2) (by omega) hm (by omega)) q'
theorem qa9 {b:Nat->Nat->Bool} {n:Nat} (O:Ord b n) {p:Array Nat} {k l:Nat} (hk:k < n) (S:Sor b n k p) (hl:l<=k) (h1:∀ i,i < l->b (p.getD i 0) (p.getD k 0)=true) (h2:∀ i,l<=i->i < k->b (p.getD k 0) (p.getD i 0)=true) :
  Sor b n (k+1) (bubble p k (k - l)):=by
 have hs:=S.size
 have pm:(bubble p k (k - l)).toList.Perm p.toList:=Array.perm_iff_toList_perm.mp (bubble_perm p k (k - l))
 refine ⟨by rw [bubble_size];exact hs,fun x hx=>S.lt x (pm.mem_iff.mp hx),pm.nodup_iff.mpr S.nd,?_⟩
 have at':∀ i,i<=k->(bubble p k (k - l))[i]? = some (if i=l then p.getD k 0 else if l < i then p.getD (i - 1) 0 else p.getD i 0):=fun i hi=>by
  rw [getElem?_bubble (by omega) (k - l) (by omega) i]
  have e0:k - (k - l)=l:=by omega
  rw [e0]
  have g:∀ j,j < n->p[j]? = some (p.getD j 0):=fun j hj=>by have:=zx (p:=p) (i:=j) (by omega);rwa [Array.getElem?_toList] at this
  by_cases c1:i=l
  ·rw [if_pos c1,if_pos c1];exact g k hk
  ·rw [if_neg c1,if_neg c1]
   by_cases c2:l < i
   ·rw [if_pos ⟨c2,hi⟩,if_pos c2];exact g _ (by omega)
   ·rw [if_neg (fun z=>c2 z.1),if_neg c2];exact g _ (by omega)
 refine List.pairwise_iff_getElem.mpr fun i j l1 l2 hij=>?_
 rw [List.length_take,Array.length_toList,bubble_size] at l1 l2
 have a1:=at' i (by omega)
 have a2:=at' j (by omega)
 rw [<- Array.getElem?_toList] at a1 a2
 rw [List.getElem_take,List.getElem_take]
 obtain ⟨_,e1⟩:=List.getElem?_eq_some_iff.mp a1
 obtain ⟨_,e2⟩:=List.getElem?_eq_some_iff.mp a2
 rw [e1,e2]
 by_cases c1:i=l
 ·rw [if_pos c1,if_neg (by omega),if_pos (by omega)]
  exact h2 _ (by omega) (by omega)
 ·rw [if_neg c1]
  by_cases c2:l < i
  ·rw [if_pos c2,if_neg (by omega),if_pos (by omega)]
   exact S.below (by omega) (by omega) (by omega)
  ·rw [if_neg c2]
   by_cases c3:j=l
   ·rw [if_pos c3];exact h1 i (by omega)
   ·rw [if_neg c3]
    by_cases c4:l < j
    ·rw [if_pos c4]
     exact S.below (by omega) (by omega) (by omega)
    ·rw [if_neg c4]
     exact S.below hij (by omega) (by omega)
theorem qfm {b:Nat->Nat->Bool} {n:Nat} (O:Ord b n):∀ (f k:Nat) (p:Array Nat),k+f=n->Sor b n k p->Ends' b n (Sor b n n) (kas_bin f p k)
 | 0,k,p,hk,S=>by
  have e:k=n:=by omega
  subst e
  exact S
 | f+1,k,p,hk,S=>by
  show Ends' b n _ ((kas_place p k k 0 k).bind fun l=>kas_bin f (bubble p k (k - l)) (k+1))
  refine Ja (Jb (fun l h=>?_) (Vn O (by omega) S k 0 k (by omega) (Nat.le_refl _) (by omega) (fun i hi=>by omega) fun i hi hik=>by omega))
  exact qfm O f (k+1) _ (by omega) (qa9 O (by omega) S h.1 h.2.1 h.2.2)
theorem qgk {b:Nat->Nat->Bool} {n:Nat} (O:Ord b n) (h2:2<=n) (h8:n<=8):Ends' b n (Sor b n n) (kas_sort n):=by
 unfold kas_sort
 refine Ja (Jb (fun q h=>?_) (vk O (L:=[]) (fun _ z=>nomatch z) (qh3 n h2 h8)))
 obtain ⟨h1,h3,S⟩:=h
 have em:max q.1 1=q.1:=by omega
 by_cases c:q.1 < n
 ·show Ends' b n _ (if q.1 < n then _ else _)
  rw [if_pos c,em]
  exact qfm O _ _ _ (by omega) S
 ·show Ends' b n _ (if q.1 < n then _ else _)
  rw [if_neg c]
  have e:q.1=n:=by omega
  rw [e] at S
  exact S
end L2
namespace L2
open PySem PySem.Spec PyProof.Rows PySem.W
abbrev Tri:=Addr × Str × Str
def PairT (h:Heap) (q:Tri):Prop:=∃ o t u k,h.get? q.1=some o/\o.cls=.type "tuple"/\o.data=.seq #[.str q.2.1 t,.str q.2.2 u] k
def ltT (p q:Tri):Bool:=decide (p.2.1.cps.toList < q.2.1.cps.toList)
theorem qgl {a b:Str} (h:a.cps.toList=b.cps.toList):a=b:=by
 cases a;cases b
 exact congrArg Str.mk (Array.ext' h)
theorem qgm {P:Program} {w:World} {A:Around} {E:Value->Shared->Prop} {s:Shared} {Q:Bool->Shared->Prop} {p q:Tri} (hp:PairT s.heap p) (hq:PairT s.heap q) (hw:p.2.1=q.2.1->p.2.2=q.2.2) (h:Q (ltT p q) s) :
  wpAny (model P w) A (keyLt' (tuples' true) (.ref p.1) (.ref q.1)) Q E s:=by
 obtain ⟨o,t,u,k,h1,h2,h3⟩:=hp
 obtain ⟨o',t',u',k',h1',h2',h3'⟩:=hq
 refine kat_lt h1 h3 h1' h3' ?_
 have hk:∀ (z:Str) (t:Tok),(mixKind P w).is (Sum.inr z:Key) (.str z t)=true:=fun z t=>Z7 (k:=(Sum.inr z:Key)) ⟨t,rfl⟩
 refine kat_cons ((mixKind P w).eqBool (hk p.2.1 t) (hk q.2.1 t') ?_)
 by_cases e:p.2.1=q.2.1
 ·have ed:decide ((Sum.inr p.2.1:Key)=Sum.inr q.2.1)=true:=decide_eq_true (by rw [e])
  rw [ed]
  refine kat_yes (kat_cons ((mixKind P w).eqBool (hk p.2.2 u) (hk q.2.2 u') ?_))
  have ed2:decide ((Sum.inr p.2.2:Key)=Sum.inr q.2.2)=true:=decide_eq_true (by rw [hw e])
  rw [ed2]
  refine kat_yes (kat_nil ?_)
  unfold ltT at h
  rw [e] at h
  have:decide (q.2.1.cps.toList < q.2.1.cps.toList)=false:=strKind.irrefl _
  rw [this] at h
  exact h
 ·have ed:decide ((Sum.inr p.2.1:Key)=Sum.inr q.2.1)=false:=decide_eq_false (fun z=>e (Sum.inr.inj z))
  rw [ed]
  refine kat_no ?_
  exact strKind_oneLt P w A _ s (.str p.2.1 t) (.str q.2.1 t') p.2.1.cps.toList q.2.1.cps.toList rfl rfl h
abbrev d0:Tri:=(0,⟨#[]⟩,⟨#[]⟩)
theorem qh4 {ts:List Tri} (nd:(ts.map (·.2.1)).Nodup):Ord (fun i j=>ltT (ts.getD i d0) (ts.getD j d0)) ts.length where
 irr:=fun i=>strKind.irrefl _
 trans:=fun i j k h1 h2=>strKind.trans _ _ _ h1 h2
 tot:=fun i j hi hj hij h=>by
  cases q:ltT (ts.getD j d0) (ts.getD i d0) with
  | true=>rfl
  | false =>
   have e:(ts.getD i d0).2.1=(ts.getD j d0).2.1:=qgl (strKind.total _ _ h q)
   rw [List.getD_eq_getElem?_getD,List.getElem?_eq_getElem hi,List.getD_eq_getElem?_getD,List.getElem?_eq_getElem hj] at e
   have e':(ts.map (·.2.1))[i]'(by rw [List.length_map];exact hi)=(ts.map (·.2.1))[j]'(by rw [List.length_map];exact hj):=by rw [List.getElem_map,List.getElem_map];exact e
   exact absurd ((List.getElem_inj nd).mp e') hij
theorem qcp {ts:List Tri}:(List.range ts.length).map (fun i=>ts.getD i d0)=ts:=by
 refine List.ext_getElem? fun i=>?_
 rw [List.getElem?_map]
 by_cases h:i < ts.length
 ·rw [List.getElem?_range h,List.getElem?_eq_getElem h]
  show some (ts.getD i d0)=_
  rw [List.getD_eq_getElem?_getD,List.getElem?_eq_getElem h]
  rfl
 ·rw [List.getElem?_eq_none (by rw [List.length_range];omega),List.getElem?_eq_none (by omega)]
  rfl
theorem Y4:∀ {l r:List Nat},l.Nodup->(∀ x∈l,x∈r)->r.length<=l.length->l.Perm r
 | [],r,_,_,h=>by
  have:r=[]:=List.eq_nil_of_length_eq_zero (Nat.le_zero.mp h)
  rw [this]
 | x :: l,r,nd,sub,h=>by
  have hx:=sub x List.mem_cons_self
  have pe:=List.perm_cons_erase hx
  have nd':=List.nodup_cons.mp nd
  refine ((Y4 nd'.2 (fun y hy=>?_) ?_).cons x).trans pe.symm
  ·refine (List.mem_erase_of_ne fun z=>?_).mpr (sub y (List.mem_cons_of_mem _ hy))
   rw [z] at hy
   exact nd'.1 hy
  ·rw [List.length_erase_of_mem hx]
   rw [List.length_cons] at h
   omega
theorem qba {n:Nat} {l:List Nat} (nd:l.Nodup) (lt:∀ x∈l,x < n) (len:l.length=n):l.Perm (List.range n) :=
 Y4 nd (fun x hx=>List.mem_range.mpr (lt x hx)) (by rw [List.length_range,len];exact Nat.le_refl _)
theorem qcq {ts:List Tri} {p:Array Nat} (S:Sor (fun i j=>ltT (ts.getD i d0) (ts.getD j d0)) ts.length ts.length p) :
  (p.toList.map fun i=>ts.getD i d0).Perm ts/\(p.toList.map fun i=>ts.getD i d0).Pairwise fun x y=>ltT x y=true:=by
 have len:p.toList.length=ts.length:=by rw [Array.length_toList];exact S.size
 refine ⟨?_,?_⟩
 ·have:=(qba S.nd S.lt len).map fun i=>ts.getD i d0
  rw [qcp] at this
  exact this
 ·have:=S.up
  rw [List.take_of_length_le (by omega)] at this
  exact List.pairwise_map.mpr this
theorem Jc {P:Program} {w:World} {A:Around} {E:Value->Shared->Prop} {s:Shared} {F:PySem.Fin->Shared->Prop} {a:Addr} {ts:List Tri} {n:Nat} (ho:s.heap.get? a=some (seqObj "list" (ts.map fun q=>Value.ref q.1).toArray n)) (ha:∀ q∈ts,q.1≠a) (hp:∀ q∈ts,PairT s.heap q)
  (nd:(ts.map (·.2.1)).Nodup) (h8:ts.length<=8)
  (hq:∀ ts':List Tri,ts'.Perm ts->(ts'.Pairwise fun x y=>ltT x y=true)->F (.done (.ret .none)) { s with heap:=sortedHeap s.heap a (ts.map fun q=>Value.ref q.1) (ts'.map fun q=>Value.ref q.1).toArray }) :
  wpAny (model P w) A (Builtin.«list.sort» { pos:=[.ref a] }) F E s:=by
 rw [list_sort_plain]
 have hsz:(ts.map fun q=>Value.ref q.1).toArray.size=ts.length:=by simp
 have hbig:1000<=sizeLine:=by decide
 refine wpAny_bind (listItems_at ho rfl ?_)
 refine wpAny_bind (listUpdate_at ho rfl ?_ (by rw [hsz];omega) (by show 0<=_;omega))
 obtain ⟨e1,ho1⟩:∃ e1,(s.heap.update a (Obj.mapSeq fun _=>#[])).get? a=some (seqObj "list" #[] e1):=⟨_,get?_update_seq ho _⟩
 refine wpAny_bind (seqEpoch_at ho1 rfl ?_)
 refine wpAny_bind (wpAny_newTuple ?_ (by simp;omega))
 refine wpAny_bind (wpAny_newList ?_ (by show 0<=_;omega))
 refine wpAny_holding ?_
 have hlt:=Heap.lt_size ho1
 have ho3:(((s.heap.update a (Obj.mapSeq fun _=>#[])).push { cls:=.type "tuple",data:=.seq (ts.map fun q=>Value.ref q.1).toArray.toList.toArray }).push { cls:=.type "list",data:=.seq ([]:List Value).toArray }).get? a=some (seqObj "list" #[] e1):=Heap.get?_push_of_some _ (Heap.get?_push_of_some _ ho1)
 by_cases c:ts.length < 2
 ·have c':(ts.map fun q=>Value.ref q.1).toArray.size < 2:=by rw [hsz];exact c
  rw [if_pos c',if_pos c']
  refine wpAny_bind (wpAny_pure ?_)
  dsimp only
  rw [StateT.run_pure]
  refine wpAny_bind (wpAny_pure ?_)
  dsimp only
  have hm:Array.map (fun x:Keyed=>x.snd) (arrOf (SortSt.mk' general' ((ts.map fun q=>Value.ref q.1).toArray.zip (ts.map fun q=>Value.ref q.1).toArray) #[] 7 none))=(ts.map fun q=>Value.ref q.1).toArray:=by
   show Array.map (fun x:Keyed=>x.snd) ((ts.map fun q=>Value.ref q.1).toArray.zip (ts.map fun q=>Value.ref q.1).toArray)=_
   exact Array.map_snd_zip (Nat.le_refl _)
  rw [hm]
  refine wpAny_bind (seqEpoch_at ho3 rfl ?_)
  refine wpAny_bind (listUpdate_at ho3 rfl ?_ (by show 0<=_;omega) (by rw [hsz];omega))
  simp only [bne_self_eq_false,Bool.false_eq_true,if_false]
  refine wpAny_pure (hq ts (List.Perm.refl _) ?_)
  match ts,c with
  | [],_=>exact .nil
  | [_],_=>simp
 ·have c':¬ (ts.map fun q=>Value.ref q.1).toArray.size < 2:=by rw [hsz];exact c
  rw [if_neg c',if_neg c']
  refine wpAny_bind ?_
  have hp3:∀ q∈ts,PairT (((s.heap.update a (Obj.mapSeq fun _=>#[])).push { cls:=.type "tuple",data:=.seq (ts.map fun q=>Value.ref q.1).toArray.toList.toArray }).push { cls:=.type "list",data:=.seq ([]:List Value).toArray }) q:=fun q hq'=>by
   obtain ⟨o,t,u,k,h1,h2⟩:=hp q hq'
   refine ⟨o,t,u,k,Heap.get?_push_of_some _ (Heap.get?_push_of_some _ ?_),h2⟩
   exact ((Heap.SameBut.update _ _ _).2 _ (ha q hq')).trans h1
  have hT:∀ {us:List Tri},(∀ q∈us,q∈ts)->∃ fs,KatTups (((s.heap.update a (Obj.mapSeq fun _=>#[])).push { cls:=.type "tuple",data:=.seq (ts.map fun q=>Value.ref q.1).toArray.toList.toArray }).push { cls:=.type "list",data:=.seq ([]:List Value).toArray }) (us.map fun q=>Value.ref q.1) fs/\fs.length=us.length/\∀ v∈fs,∃ z t,v=.str z t:=by
   intro us
   induction us with
   | nil=>intro _;exact ⟨[],KatTups.nil,rfl,fun _ z=>nomatch z⟩
   | cons q us ih =>
    intro hs
    obtain ⟨fs,i1,i2,i3⟩:=ih fun x hx=>hs x (List.mem_cons_of_mem _ hx)
    obtain ⟨o,t,u,k,h1,h2,h3⟩:=hp3 q (hs q List.mem_cons_self)
    refine ⟨.str q.2.1 t :: fs,KatTups.cons h1 h2 h3 rfl i1,by simp [i2],fun v hv=>?_⟩
    rcases List.mem_cons.mp hv with z | z
    ·exact ⟨_,_,z⟩
    ·exact i3 v z
  obtain ⟨fs,k1,k2,k3⟩:=hT (us:=ts) fun _ z=>z
  refine kat_kind (T:=.type "str") k1 (by omega) (fun v hv=>?_) (by decide) ?_
  ·obtain ⟨z,t,rfl⟩:=k3 v hv
   intro A' Q' E' s' _ hQ
   exact wpAny_typeOf (T:="str") rfl hQ
  show wpAny _ _ _ _ _ _
  dsimp only
  have et:tuples' (Value.type "str" != Value.type "tuple")=tuples' true:=by rfl
  rw [et]
  refine wpAny_bind ?_
  have hlen:(ts.map fun q=>Value.ref q.1).length=ts.length:=List.length_map _
  refine wpAny_mono (kat_run (ks:=ts.map fun q=>Value.ref q.1) (vs:=ts.map fun q=>Value.ref q.1) (E:=E)
   (Q:=fun st s'=>s' = { s with heap:=((s.heap.update a (Obj.mapSeq fun _=>#[])).push { cls:=.type "tuple",data:=.seq (ts.map fun q=>Value.ref q.1).toArray.toList.toArray }).push { cls:=.type "list",data:=.seq ([]:List Value).toArray } }/\failedOf st=none/\∃ ts':List Tri,ts'.Perm ts/\(ts'.Pairwise fun x y=>ltT x y=true)/\Array.map (fun x:Keyed=>x.snd) (arrOf st)=(ts'.map fun q=>Value.ref q.1).toArray)
   (G:=fun p s'=>s' = { s with heap:=((s.heap.update a (Obj.mapSeq fun _=>#[])).push { cls:=.type "tuple",data:=.seq (ts.map fun q=>Value.ref q.1).toArray.toList.toArray }).push { cls:=.type "list",data:=.seq ([]:List Value).toArray } }/\Sor (fun i j=>ltT (ts.getD i d0) (ts.getD j d0)) ts.length ts.length p) rfl (by rw [hlen];omega) (by rw [hlen];omega) ?_ ?_) ?_ ?_
  ·rintro p st' s' hs ha' hf ⟨rfl,S⟩
   refine ⟨rfl,hf,p.toList.map (fun i=>ts.getD i d0),(qcq S).1,(qcq S).2,?_⟩
   rw [kat_snds rfl ha',List.map_map]
   congr 1
   refine List.map_congr_left fun i hi=>?_
   have:=S.lt i hi
   show (ts.map fun q=>Value.ref q.1).getD i Value.none=Value.ref (ts.getD i d0).1
   rw [List.getD_eq_getElem?_getD,List.getElem?_map,List.getD_eq_getElem?_getD,List.getElem?_eq_getElem this]
   rfl
  ·rw [hlen]
   refine Jv (R:=Sor (fun i j=>ltT (ts.getD i d0) (ts.getD j d0)) ts.length ts.length) (fun i j C hi hj hC=>?_) (fun p S=>⟨rfl,S⟩) (qgk (qh4 nd) (by omega) h8)
   have g:∀ i,i < ts.length->(ts.map fun q=>Value.ref q.1).getD i Value.none=Value.ref (ts.getD i d0).1:=fun i hi=>by
    rw [List.getD_eq_getElem?_getD,List.getElem?_map,List.getD_eq_getElem?_getD,List.getElem?_eq_getElem hi]
    rfl
   have m:∀ i,i < ts.length->ts.getD i d0∈ts:=fun i hi=>by
    rw [List.getD_eq_getElem?_getD,List.getElem?_eq_getElem hi]
    exact List.getElem_mem hi
   unfold kas_ask
   rw [g i hi,g j hj]
   refine qgm (hp3 _ (m i hi)) (hp3 _ (m j hj)) (fun e=>?_) hC
   rw [List.getD_eq_getElem?_getD,List.getElem?_eq_getElem hi,List.getD_eq_getElem?_getD,List.getElem?_eq_getElem hj] at e ⊢
   have e':(ts.map (·.2.1))[i]'(by rw [List.length_map];exact hi)=(ts.map (·.2.1))[j]'(by rw [List.length_map];exact hj):=by rw [List.getElem_map,List.getElem_map];exact e
   have:=(List.getElem_inj nd).mp e'
   subst this
   rfl
  ·rintro r s' ⟨rfl,hf,ts',q1,q2,q3⟩
   have hl':=q1.length_eq
   rw [q3]
   refine wpAny_bind (seqEpoch_at ho3 rfl ?_)
   refine wpAny_bind (listUpdate_at ho3 rfl ?_ (by show 0<=_;omega) (by simp;omega))
   rw [hf]
   simp only [bne_self_eq_false,Bool.false_eq_true,if_false]
   exact wpAny_pure (hq ts' q1 q2)
  ·exact fun _ _ h=>h
def rSortP (K:W.Frag):List V->Hp->VK->Prop:=fun xs H Q=>∃ (p:Addr) (b:Bool) (ts:List Tri),xs=[.ref p]/\SqA K H p (ts.map fun q=>V.ref q.1) b/\(∀ q∈ts,H q.1=some (.tup [.str q.2.1,.str q.2.2]))/\(ts.map (·.2.1)).Nodup/\ts.length<=8 /\
 ∀ l (ts':List Tri),H l=none->ts'.Perm ts->(ts'.Pairwise fun x y=>ltT x y=true)->Q (.ref l) (upd H l (.lst (ts'.map fun q=>V.ref q.1)))
theorem Zl:∀ {ts:List Tri} {its:List Value},Vals (ts.map fun q=>V.ref q.1) its->its=ts.map fun q=>Value.ref q.1
 | [],_,.nil=>rfl
 | q :: ts,_,.cons h r=>by
  cases (show _=Value.ref q.1 from h)
  rw [Zl r]
  rfl
theorem Zm:∀ (ts:List Tri),Vals (ts.map fun q=>V.ref q.1) (ts.map fun q=>Value.ref q.1)
 | []=>.nil
 | q :: ts=>.cons rfl (Zm ts)
theorem qbb {X:Cx}:CallR X (.builtin "sorted") (rSortP X.K):=by
 intro pins s σ H xs us Q I r h
 obtain ⟨p,b,ts,rfl,hS,hT,nd,h8,q⟩:=h
 obtain ⟨u,rfl,ru⟩:=vals1 r
 cases ru
 obtain ⟨its,rv,pA,hz⟩:=I.seqA hS
 have ei:=Zl rv
 subst ei
 obtain ⟨T,o,hT',ho,hc,k,hd⟩:∃ T o,(T = "list"\/T = "tuple")/\s.heap.get? p=some o/\o.cls=.type T/\∃ k,o.data=.seq (ts.map fun q=>Value.ref q.1).toArray k:=by
  cases b with
  | false =>
   obtain ⟨o,h1,h2,k,h3⟩:=(show s.heap.IsList p _ from pA)
   exact ⟨"list",o,.inl rfl,h1,h2,k,h3⟩
  | true =>
   obtain ⟨o,h1,h2,k,h3⟩:=(show IsTup s.heap p _ from pA)
   exact ⟨"tuple",o,.inr rfl,h1,h2,k,h3⟩
 have hbig:1000<=sizeLine:=by decide
 refine Calls.call_function_entry kind_sorted plain_sorted entry_sorted (args_sorted1 _) ?_
 unfold Builtin.«sorted»
 refine wpAny_bind (m:=checkCount "sorted" 1 1 _) (wpAny_pure ?_)
 refine wpAny_bind (wpAny_collect_seq p hT' ho hc hd (fun h' hkp=>?_) (by simp;omega))
 refine wpAny_bind (wpAny_newList ?_ (by simp;omega))
 have hoL:(h'.push { cls:=.type "list",data:=.seq (ts.map fun q=>Value.ref q.1).toArray.toList.toArray }).get? h'.objs.size=some (seqObj "list" (ts.map fun q=>Value.ref q.1).toArray 0):=Heap.get?_push_size _ rfl
 have hlt:∀ b o,s.heap.get? b=some o->b≠h'.objs.size:=fun b o e=>Nat.ne_of_lt (Heap.lt_size (hkp b o e))
 have hpT:∀ q∈ts,PairT s.heap q:=fun q hq=>by
  obtain ⟨_,its,rv',pt,_⟩:=(show ObjOk X.prog X.w H s.heap q.1 (.tup [.str q.2.1,.str q.2.2]) from I.hok _ _ (hT q hq))
  obtain ⟨o,h1,h2,k,h3⟩:=pt
  cases rv' with
  | cons r1 rr =>
   cases rr with
   | cons r2 rr2 =>
    cases rr2
    obtain ⟨t,rfl⟩:=r1
    obtain ⟨u,rfl⟩:=r2
    exact ⟨o,t,u,k,h1,h2,h3⟩
 refine wpAny_bind (wpAny_holding (wpAny_call_entry slot_list_sort ⟨_,hoL,rfl⟩ entry_list_sort (Jc (ts:=ts) hoL (fun q hq=>?_) (fun q hq=>?_) nd h8 fun ts' q1 q2=>⟨_,rfl,?_⟩) (args_list_sort _)))
 ·obtain ⟨o,_,_,_,h1,_⟩:=hpT q hq
  exact hlt _ _ h1
 ·obtain ⟨o,t,u,k,h1,h2⟩:=hpT q hq
  exact ⟨o,t,u,k,Heap.get?_push_of_some _ (hkp _ _ h1),h2⟩
 refine wpAny_pure ⟨_,rfl,?_⟩
 have keep:∀ b o,s.heap.get? b=some o->(sortedHeap (h'.push { cls:=.type "list",data:=.seq (ts.map fun q=>Value.ref q.1).toArray.toList.toArray }) h'.objs.size (ts.map fun q=>Value.ref q.1) (ts'.map fun q=>Value.ref q.1).toArray).get? b=some o/\b≠h'.objs.size:=fun b o e=>by
  have e1:=hkp b o e
  have lt:=Heap.lt_size e1
  refine ⟨?_,Nat.ne_of_lt lt⟩
  rw [sortedHeap_old (Nat.ne_of_lt lt) (by rw [Heap.size_push];exact Nat.lt_succ_of_lt lt)]
  exact Heap.get?_push_of_some _ e1
 have hn:H h'.objs.size=none:=by
  cases e:H h'.objs.size with
  | none=>rfl
  | some o =>
   obtain ⟨ob,e1⟩:=(I.hok _ _ e).there
   exact absurd (Heap.lt_size (hkp _ _ e1)) (Nat.lt_irrefl _)
 obtain ⟨n',hat'⟩:∃ n',(sortedHeap (h'.push { cls:=.type "list",data:=.seq (ts.map fun q=>Value.ref q.1).toArray.toList.toArray }) h'.objs.size (ts.map fun q=>Value.ref q.1) (ts'.map fun q=>Value.ref q.1).toArray).get? h'.objs.size=some (seqObj "list" (ts'.map fun q=>Value.ref q.1).toArray n'):=sortedHeap_at hoL
 have hl':=q1.length_eq
 refine ⟨.ref h'.objs.size,upd H h'.objs.size (.lst (ts'.map fun q=>V.ref q.1)),?_,rfl,q _ _ hn q1 q2⟩
 exact Inv.laid2 (X:=X) (t':=s.toks) (o:=.lst (ts'.map fun q=>V.ref q.1)) I keep hn ⟨by rw [List.length_map];omega,ts'.map fun q=>Value.ref q.1,n',Zm _,by rw [hat']⟩
theorem Yg {X:Cx} (K:W.Frag) (hK:X.K=K:=by rfl):CallR X (.builtin "sorted") (rSortP K):=by subst hK;exact qbb
end L2
namespace L2
open PySem PySem.Spec PyProof.Rows
abbrev ts (x:List Nat):Str:=⟨x.toArray⟩
end L2
namespace L2
open PySem PyProof.Rows
section
variable {X:Cx} {e est:Expr} {te ts:TE} {p2 pos:Pos}
end
end L2
namespace L2
open PySem PySem.Spec PyProof.Rows
theorem drawsS {P:Program} {w:World} {A:Around} (hh:A.handled=none) (it:Addr) (x:Str) (t:Tok):Draws P w A it [it] x.cps.size (fun i v=>∃ c u,x.cps[i]? = some c/\v=.str ⟨#[c]⟩ u) (fun i h=>h.IsStrIter it (strIterType x) x t i):=by
 unfold strIterType
 split
 ·exact Draws.strAscii hh it x t
 ·exact Draws.strWide hh it x t
def IteS (x:Str):It:=ItP (fun i _=>i < x.cps.size) (fun i _=>i=x.cps.size) (fun i _ ys=>∃ c,x.cps[i]? = some c/\ys=[.int i,sign c])
theorem sure_enumS {x:Str}:Sure2 (IteS x) (x.cps.toList.zipIdx.map fun p=>[.int (p.2:Nat),sign p.1]) (fun _=>True) where
 go:=fun i H hi h=>by
  show i < x.cps.size
  simpa using hi
 yld:=fun i H v H' hi h y=>by
  obtain ⟨T,ys,hT,rfl,⟨c,hc,rfl⟩,rfl⟩:=y
  refine ⟨T,_,hT,rfl,rfl,?_⟩
  rw [List.getElem?_map,List.getElem?_zipIdx,Array.getElem?_toList,hc]
  simp
 stop:=fun H h=>by
  show _=x.cps.size
  simp
theorem qbc {P:Program} {w:World} {K:W.Frag} {elts:List Expr} {k:Nat} {pos:Pos} (x:Str) (t:Tok) (e it:Addr) (hei:e≠it):Turn P w K (.Tuple elts k pos) (IteS x) [e,it] e (fun i h=>(∃ old,IsEnum h e it i old)/\h.IsStrIter it (strIterType x) x t i) where
 mem:=by simp
 obj:=fun i h st b hb=>by
  obtain ⟨⟨old,he⟩,o,ho,c,d⟩:=st
  rcases List.mem_cons.mp hb with z | z
  ·subst z;exact ⟨_,he,fun v z=>by cases z⟩
  ·have z:b=it:=by simpa using z
   subst z
   exact ⟨o,ho,fun v z=>by rw [d] at z;cases z⟩
 keep:=fun i h h' st kk=>by
  obtain ⟨⟨old,he⟩,o,ho,r⟩:=st
  exact ⟨⟨old,kk e (by simp) _ he⟩,o,kk it (by simp) o ho,r⟩
 item:=by
  intro X hP hw hK hc i pins s σ H E I hf st hg
  subst hP hw hK
  obtain ⟨⟨old,he⟩,st2⟩:=st
  have hil:i < x.cps.size:=hg
  have D:=drawsS (P:=X.prog) (w:=X.w) (A:=X.A.in1) (I.ok.hd hc) it x t
  have hef:e ∉ [it]:=by simp [hei]
  have W:=WalksT.enumerateD D e hei hef (by simp)
  have elt:e < s.heap.objs.size:=Heap.lt_size he
  have ilt:it < s.heap.objs.size:=by
   obtain ⟨_,z,_⟩:=st2
   exact Heap.lt_size z
  refine wpAny_pyNext_enum_itemD D he st2 hil hei hef fun x' h' tk hP ho hs' hT hsz hk=>?_
  obtain ⟨c,u,hc1,rfl⟩:=hP
  refine ⟨_,rfl,?_⟩
  refine W.go elts k pos i s.heap.objs.size { s with heap:=h',toks:=tk+1 } _ _ ⟨⟨_,ho⟩,hs',Nat.ne_of_gt elt,Nat.ne_of_gt ilt⟩ fun h2 st' kk2=>?_
  have nT:s.heap.objs.size ∉ [e,it]:=by simp [Nat.ne_of_gt elt,Nat.ne_of_gt ilt]
  have kk:∀ b o,b ∉ [e,it]->s.heap.get? b=some o->h'.get? b=some o:=fun b o hb=>hk b o (fun z=>hb (by simp [z])) (fun z=>hb (by simp [z]))
  refine ⟨.ref s.heap.objs.size,upd H s.heap.objs.size (.tup [.int i,sign c]),I.newTup (ch:=[e,it]) (its:=[.int i tk,.str ⟨#[c]⟩ u]) hf (fun b o hb eb=>kk2 b o hb (kk b o hb eb)) (Nat.le_refl _) (.cons ⟨tk,rfl⟩ (.cons ⟨u,rfl⟩ .nil)) ?_ (by show 2<=sizeLine;decide),rfl,
   ⟨s.heap.objs.size,_,I.hok.fresh (Nat.le_refl _),rfl,⟨c,hc1,rfl⟩,rfl⟩,⟨by simpa using st'.1,st'.2⟩,fun b hb=>?_⟩
  ·have hT2:=kk2 _ _ nT hT
   exact ⟨⟨_,hT2,rfl,_,rfl⟩,_,hT2,rfl⟩
  ·have nb:b≠s.heap.objs.size:=fun z=>nT (by rw [<- z];exact hb)
   rw [qg nb];exact (hf b hb).1
 done:=by
  intro X hP hw hK hc i pins s σ H E I hf st hg
  subst hP hw hK
  obtain ⟨⟨old,he⟩,st2⟩:=st
  have ei:i=x.cps.size:=hg
  subst ei
  have D:=drawsS (P:=X.prog) (w:=X.w) (A:=X.A.in1) (I.ok.hd hc) it x t
  refine wpAny_pyNext_enum_endD D he st2 fun h' kk=>⟨rfl,?_⟩
  obtain ⟨f0,f1,f2,f3,f4,f5⟩:=hf it (by simp)
  exact I.turned (t':=s.toks) (fun b o hb e=>kk b o hb e) f0 f1 f3 f4 f5
 self:=fun _ _ _ _ _ st h=>by
  obtain ⟨⟨old,he⟩,_⟩:=st
  exact wpAny_pyIter_enum he h
open AutoSeq1 (wpAny_loadPart')
section
variable {X:Cx} {l:Expr} {ta:TA} {elts:List Expr} {k:Nat} {tp p pos:Pos}
def iEnumS (ta:TA):TI:=fun σ H R=>ta σ H fun vs H1=>∃ x,vs=[.str x]/\R (IteS x) H1
theorem qek (hg:Gl X "enumerate") (hm:X.mg "enumerate" = none) (hl:PA X [l] ta) (hs:starEach [l] X.env=[(false,eval l X.env)]:=by rfl) :
  PI X (.Tuple elts k tp) (.Call (.Name "enumerate" p) [l] [] pos) (iEnumS ta):=by
 intro pins s σ H R I h
 refine Call_ (ld_blt I hg hm (by first | exact boot_enumerate | decide +kernel) (PyProof.Rows.callWith_type1 (thn (hl pos pins s σ H _ I h) fun us s1 ⟨vs,H1,I1,r1,q1⟩=>?_) hs rfl))
 obtain ⟨x,e,q⟩:=q1
 subst e
 cases r1 with
 | cons r rr =>
  cases rr
  obtain ⟨t,rfl⟩:=r
  refine call_enumerate_str fun h' he hi hsz kk=>?_
  have I2:Inv X pins σ H1 { s1 with heap:=h' }:=I1.kept (t':=s1.toks) kk
  refine wpAny_pyIter_enum (s:={ s1 with heap:=h' }) he ?_
  refine ⟨s1.heap.objs.size+1,[s1.heap.objs.size+1,s1.heap.objs.size],_,_,H1,rfl,I2,qbc x t _ _ (Nat.succ_ne_self _),⟨⟨_,he⟩,hi⟩,fun b hb=>?_,q⟩
  have:s1.heap.objs.size<=b:=by
   rcases List.mem_cons.mp hb with z | z
   ·rw [z];exact Nat.le_succ _
   ·have z:b=s1.heap.objs.size:=by simpa using z
    rw [z];exact Nat.le_refl _
  exact I1.fpOk this (I1.hok.fresh this)
end
end L2
namespace L2
open PySem PySem.Spec PyProof.Rows PySem.W
section
variable {K:W.Frag} {x D:Addr} {ox:Obj}
end
end L2
namespace L2
open PySem PySem.Spec PySem.Calls PyProof.Rows PySem.W
end L2
namespace L2
open PySem PySem.Spec PyProof.Rows
end L2
namespace L2
end L2
namespace L2
open PySem PySem.Spec PyProof.Rows
section
variable {P:Program} {w:World} {A:Around} {E:Value->Shared->Prop} {s:Shared}
theorem qbd {it l:Addr} {i:Nat} {items:Array Value} {x:Value} {Q:Value->Shared->Prop} (hit:s.heap.IsRevIter it l (i:Int)) (hl:s.heap.IsList l items) (hx:items[i]? = some x)
  (hQ:∀ h',h'.IsRevIter it l ((i:Int) - 1)->Heap.SameBut it s.heap h'->Q x { s with heap:=h' }):wpAny (model P w) A (Builtin.SmallTypes.nextOf (.ref it)) Q E s:=by
 obtain ⟨o,ho,hc,hd⟩:=id hit
 obtain ⟨ol,hol,_,nl,hdl⟩:=hl
 unfold Builtin.SmallTypes.nextOf
 refine wpAny_bind (wpAny_callSpecial?_slot (name:=Str.ofString "__next__") hit.typeIs F.slot_lri_next (wpAny_call_entry F.slot_lri_next hit.typeIs F.entry_lri_next ?_ (F.args_lri_next_1 _)))
 unfold Builtin.«list_reverseiterator.__next__»
 refine wpAny_bind (wpAny_of_eq (a:=(Value.ref it,[])) rfl ?_)
 try dsimp only
 refine wpAny_bind (wpAny_field ho hd (x:=rawInt (i:Int)) rfl ?_)
 show wpAny _ _ (if (i:Int) < 0 then _ else _) _ _ s
 rw [if_neg (by omega)]
 show wpAny _ _ (field (.ref it) 0 >>= _) _ _ s
 refine wpAny_bind (wpAny_field ho hd (x:=.ref l) rfl ?_)
 show wpAny _ _ (seqItems? (.ref l) >>= _) _ _ s
 refine wpAny_bind (wpAny_seqItems hol hdl ?_)
 simp only [Int.toNat_natCast,hx]
 refine wpAny_bind (wpAny_setField ho hd (by simp) ?_)
 first
 | refine wpAny_pure ⟨x,rfl,wpAny_pure (hQ _ ?_ (Heap.SameBut.update ..))⟩
 | refine wpAny_bind (wpAny_pure (wpAny_pure ⟨x,rfl,wpAny_pure (hQ _ ?_ (Heap.SameBut.update ..))⟩))
 exact ⟨_,Heap.get?_update_self _ ho (Obj.isFreed_of_fields (Obj.data_mapFields hd _)),(Obj.cls_mapFields ..).trans hc,by
  rw [Obj.data_mapFields hd];simp⟩
theorem Jo {it l:Addr} {i:Int} {Q:Value->Shared->Prop} (hh:A.handled=none) (hi:i < 0) (hit:s.heap.IsRevIter it l i)
  (hQ:∀ h' e,Heap.ExtBut it s.heap h'->(∃ o,h'.get? e=some o/\o.cls=.type "StopIteration")->E (.ref e) { s with heap:=h' }):wpAny (model P w) A (Builtin.SmallTypes.nextOf (.ref it)) Q E s:=by
 obtain ⟨o,ho,hc,hd⟩:=id hit
 unfold Builtin.SmallTypes.nextOf
 refine wpAny_bind (wpAny_callSpecial?_slot (name:=Str.ofString "__next__") hit.typeIs F.slot_lri_next (wpAny_call_entry F.slot_lri_next hit.typeIs F.entry_lri_next ?_ (F.args_lri_next_1 _)))
 unfold Builtin.«list_reverseiterator.__next__»
 refine wpAny_bind (wpAny_of_eq (a:=(Value.ref it,[])) rfl ?_)
 try dsimp only
 refine wpAny_bind (wpAny_field ho hd (x:=rawInt i) rfl ?_)
 show wpAny _ _ (if i < 0 then _ else _) _ _ s
 rw [if_pos hi]
 refine wpAny_bind (wpAny_rule ?_)
 first
 | show wpAny _ _ (newExc (.type "StopIteration") [] >>= _) _ _ _
 | (refine wpAny_bind ?_;show wpAny _ _ (newExc (.type "StopIteration") [] >>= _) _ _ _)
 refine wpAny_bind ?_
 simp only [newExc,newTuple]
 refine wpAny_bind (wpAny_newObj_type ?_ (by size_fits))
 refine wpAny_bind (m:=firstArgMember _ _) (wpAny_of_eq (a:=Value.none) (by first | rfl | (simp only [firstArgMember];rfl)) ?_)
 refine wpAny_newObj_type ?_ (by size_fits)
 simp only [raiseNew]
 refine wpAny_bind (wpAny_handled ?_)
 first | rw [show A.in1.handled=none from hh] | rw [hh]
 refine wpAny_bind (wpAny_pure (wpAny_throw ?_))
 exact hQ _ _ (((Heap.ExtBut.refl _ _).push _).push _) ⟨_,Heap.get?_push_size _ rfl,rfl⟩
end
theorem qcr {P:Program} {w:World} (it l:Addr) (ne:l≠it) (n:Nat) (xs:Array Value) (hn:xs.size=n):Src P w it l xs.reverse (fun k h=>h.IsRevIter it l ((n:Int) - 1 - (k:Int))/\h.IsList l xs) where
 keep:=fun k h h' st e=>⟨st.1.at fun o x=>e it (.inl rfl) o x,st.2.at fun o x=>e l (.inr rfl) o x⟩
 obj:=fun k h st=>by
  obtain ⟨o,ho,_,d⟩:=st.1
  exact ⟨o,_,ho,d⟩
 item:=fun A E k s x Q st hx q=>by
  have hk:k < xs.size:=by have:=(Array.getElem?_eq_some_iff.mp hx).1;rwa [Array.size_reverse] at this
  have hx':xs[n - 1 - k]? = some x:=by
   rw [Array.getElem?_reverse hk,hn] at hx
   exact hx
  have e1:(n:Int) - 1 - (k:Int)=((n - 1 - k:Nat):Int):=by omega
  have st1:=st.1
  rw [e1] at st1
  refine qbd st1 st.2 hx' fun h' a b=>q h' ⟨?_,st.2.extBut b.extBut ne⟩ b
  have e2:((n - 1 - k:Nat):Int) - 1=(n:Int) - 1 - ((k+1:Nat):Int):=by omega
  rw [e2] at a
  exact a
 fin:=fun A E k s Q hA st hx q=>by
  have hk:xs.size<=k:=by
   have:=Array.getElem?_eq_none_iff.mp hx
   rwa [Array.size_reverse] at this
  exact Jo hA (by omega) st.1 q
theorem qgn {its:List Value} {n i:Nat} {u:Value} (hn:its.toArray.size=n) (hi:i < n) (hu:its[n - 1 - i]? = some u):its.toArray.reverse[i]? = some u:=by
 rw [Array.getElem?_reverse (by omega),hn]
 simpa using hu
def ItzR (K:W.Frag) (n:Nat) (l1 l2:Addr):It:=ItP (fun i H=>∃ xs x ys y,SqL K H l1 xs/\xs.length=n/\xs.reverse[i]? = some x/\SqL K H l2 ys/\ys[i]? = some y) (fun i H=>∃ xs ys,SqL K H l1 xs/\xs.length=n/\SqL K H l2 ys/\min xs.length ys.length=i)
 (fun i H vs=>∃ x y,(∀ xs,SqL K H l1 xs->xs.reverse[i]? = some x)/\(∀ ys,SqL K H l2 ys->ys[i]? = some y)/\vs=[x,y])
theorem Zn {K:W.Frag} {l1 l2:Addr} {xs ys:List V}:Sure2 (ItzR K xs.length l1 l2) ((xs.reverse.zip ys).map fun p=>[p.1,p.2]) (fun H=>SqL K H l1 xs/\SqL K H l2 ys) where
 go:=fun i H hi h=>by
  have hi':i < xs.length/\i < ys.length:=by simpa [Nat.lt_min] using hi
  exact ⟨xs,xs.reverse[i]'(by rw [List.length_reverse];exact hi'.1),ys,ys[i],h.1,rfl,List.getElem?_eq_getElem _,h.2,by simp [hi'.2]⟩
 yld:=fun i H v H' hi h z=>by
  obtain ⟨T,vs,n,rfl,⟨x,y,h1,h2,rfl⟩,rfl⟩:=z
  refine ⟨T,_,n,rfl,rfl,?_⟩
  rw [List.getElem?_map,List.getElem?_zip_eq_some.mpr (show xs.reverse[i]? = some (x,y).1/\ys[i]? = some (x,y).2 from ⟨h1 xs h.1,h2 ys h.2⟩)]
  rfl
 stop:=fun H h=>⟨xs,ys,h.1,rfl,h.2,by simp⟩
theorem qcs {P:Program} {w:World} {K:W.Frag} {elts:List Expr} {k:Nat} {pos:Pos} (n:Nat) (l1 l2 z TI TO i1 i2:Addr) (d1:TI≠z) (d2:TO≠z) (d3:i1≠z) (d4:i2≠z) (d5:TI≠TO) (d6:TI≠i1) (d7:TI≠i2) (d8:TO≠i1) (d9:TO≠i2) (d10:i1≠i2)
  (hTOl:∀ h:Heap,True) (hl1:l1≠TO/\l1≠z/\l1≠i1/\l1≠i2) (hl2:l2≠TO/\l2≠z/\l2≠i1/\l2≠i2) :
  Turn P w K (.Tuple elts k pos) (ItzR K n l1 l2) [z,TI,TO,i1,i2] z (fun i h=>IsZip h z TI TO .none/\IsPair h TI (.ref i1) (.ref i2)/\(∃ a b,IsPair h TO a b)/\h.IsRevIter i1 l1 ((n:Int) - 1 - (i:Int))/\ItA h i2 l2 i false):=by
 have D:ZipApart z TI TO i1 i2 l1 l2:=⟨d1,d2,d3,d4,d5,d6,d7,d8,d9,d10,hl1.2.1,hl1.1,hl1.2.2.1,hl1.2.2.2,hl2.2.1,hl2.1,hl2.2.2.1,hl2.2.2.2⟩
 exact {
  mem:=by simp
  obj:=fun i h st b hb=>by
   obtain ⟨h1,h2,⟨a,b',h3⟩,h4,h5⟩:=st
   obtain ⟨o4,e4,_,q4⟩:=h4
   obtain ⟨o5,e5,q5,_⟩:=h5.obj
   have hb':b=z\/b=TI\/b=TO\/b=i1\/b=i2:=by simpa using hb
   rcases hb' with e | e | e | e | e
   ·rw [e];exact ⟨_,h1,fun v z=>by cases z⟩
   ·rw [e];exact ⟨_,h2,fun v z=>by cases z⟩
   ·rw [e];exact ⟨_,h3,fun v z=>by cases z⟩
   ·rw [e];exact ⟨o4,e4,fun v z=>by rw [q4] at z;cases z⟩
   ·rw [e];exact ⟨o5,e5,fun v z=>by rw [q5] at z;cases z⟩
  keep:=fun i h h' st kk=>by
   obtain ⟨h1,h2,⟨a,b',h3⟩,h4,h5⟩:=st
   exact ⟨kk z (by simp) _ h1,kk TI (by simp) _ h2,⟨a,b',kk TO (by simp) _ h3⟩,h4.at fun o x=>kk i1 (by simp) o x,ItA.at (fun o x=>kk i2 (by simp) o x) h5⟩
  item:=by
   intro X hP hw hK hc i pins s σ H E I hf st hg
   subst hP hw hK
   obtain ⟨xs,x,ys,y,hq1,hn,hx,hq2,hy⟩:=hg
   obtain ⟨its1,rv1,p1,hz1⟩:=I.list hq1
   have hn1:its1.toArray.size=n:=by rw [List.size_toArray,<- rv1.length];exact hn
   obtain ⟨its2,rv2,p2,hz2⟩:=I.seqA (b:=false) hq2
   have hi:i < xs.length:=by have:=(List.getElem?_eq_some_iff.mp hx).1;rwa [List.length_reverse] at this
   have hx':xs[n - 1 - i]? = some x:=by rw [List.getElem?_reverse hi,hn] at hx;exact hx
   obtain ⟨u,hu,ru⟩:=rv1.get hx'
   obtain ⟨v,hv,rv⟩:=rv2.get hy
   obtain ⟨h1,h2,⟨a0,b0,h3⟩,h4,h5⟩:=st
   have hT:s.TypeIs (.ref z) "zip":=⟨_,h1,rfl⟩
   unfold pyNext
   refine wpAny_bind (wpAny_attempt (wpAny_callSpecial?_slot (name:=Str.ofString "__next__") hT F.slot_zip_next (wpAny_call_entry F.slot_zip_next hT F.entry_zip_next
    (qcf (qcr i1 l1 D.l1i1 n its1.toArray hn1) (srcA i2 l2 D.l2i2 its2.toArray false) D h1 h2 h3 ⟨h4,p1.isList⟩ ⟨h5,p2⟩ (qgn hn1 (by omega) hu) (by simpa using hv) fun h' T y1 y2 y3 y4 y5 y6 y7 y8 y9 y10 kk=>wpAny_pure ?_) (F.args_zip_next_1 _))))
   refine ⟨_,rfl,?_⟩
   refine wpAny_letOwnedTupleGo_zip (s:={ s with heap:=h' }) y1 fun h2' y11 u11=>?_
   have nTI:T≠TI:=Nat.ne_of_gt (Nat.lt_of_lt_of_le (Heap.lt_size h2) y6)
   have kk2:∀ b o,b ∉ [z,TI,TO,i1,i2]->s.heap.get? b=some o->h2'.get? b=some o:=fun b o hb e=>by
    have hb':b≠z/\b≠TI/\b≠TO/\b≠i1/\b≠i2:=by simpa using hb
    exact u11.extBut _ _ hb'.1 (kk b o hb'.1 hb'.2.2.1 hb'.2.2.2.1 hb'.2.2.2.2 e)
   refine ⟨.ref T,upd H T (.tup [x,y]),I.newTup (ch:=[z,TI,TO,i1,i2]) (t':=s.toks) (its:=[u,v]) hf kk2 y6 (.cons ru (.cons rv .nil)) ⟨⟨_,u11.extBut _ _ y7 y5,rfl,_,rfl⟩,_,u11.extBut _ _ y7 y5,rfl⟩ (by show 2<=sizeLine;decide),rfl,
    ⟨T,_,I.hok.fresh y6,rfl,⟨x,y,fun zs hz=>by rw [I.list_inj hz hq1];exact hx,fun zs hz=>I.seqA_inj (b:=false) hq2 hz hy,rfl⟩,rfl⟩,⟨y11,u11.extBut _ _ d1 (kk _ _ d1 d5 d6 d7 h2),⟨_,_,u11.extBut _ _ d2 y2⟩,y3.1.at fun o e=>u11.extBut _ _ d3 e,ItA.at (fun o e=>u11.extBut _ _ d4 e) y4.1⟩,fun b hb=>?_⟩
   have nb:b≠T:=fun q=>by
    have hb':b=z\/b=TI\/b=TO\/b=i1\/b=i2:=by simpa using hb
    rw [q] at hb'
    rcases hb' with e | e | e | e | e
    ·exact y7 e
    ·exact nTI e
    ·exact y8 e
    ·exact y9 e
    ·exact y10 e
   rw [qg nb];exact (hf b hb).1
  done:=by
   intro X hP hw hK hc i pins s σ H E I hf st hg
   subst hP hw hK
   obtain ⟨xs,ys,hq1,hn,hq2,hi⟩:=hg
   obtain ⟨its1,rv1,p1,hz1⟩:=I.list hq1
   have hn1:its1.toArray.size=n:=by rw [List.size_toArray,<- rv1.length];exact hn
   obtain ⟨its2,rv2,p2,hz2⟩:=I.seqA (b:=false) hq2
   obtain ⟨h1,h2,⟨a0,b0,h3⟩,h4,h5⟩:=st
   have hT:s.TypeIs (.ref z) "zip":=⟨_,h1,rfl⟩
   have hend:its1.toArray.reverse[i]? = none\/its2.toArray[i]? = none:=by
    have e1:=rv1.length
    have e2:=rv2.length
    rcases Nat.le_total xs.length ys.length with h | h
    ·exact .inl (by simp;omega)
    ·exact .inr (by simp;omega)
   unfold pyNext
   refine wpAny_bind (wpAny_attempt (wpAny_callSpecial?_slot (name:=Str.ofString "__next__") hT F.slot_zip_next (wpAny_call_entry F.slot_zip_next hT F.entry_zip_next
    (qea (I.ok.hd hc) (qcr i1 l1 D.l1i1 n its1.toArray hn1) (srcA i2 l2 D.l2i2 its2.toArray false) D h1 h2 h3 ⟨h4,p1.isList⟩ ⟨h5,p2⟩ hend fun h' e kk he=>?_) (F.args_zip_next_1 _))))
   obtain ⟨oe,hoe,ce⟩:=he
   refine wpAny_bind (wpAny_isInstance (T:="StopIteration") (b:=true) ⟨oe,hoe,ce⟩ isSubtype_stop (wpAny_pure ⟨rfl,?_⟩))
   have kk':∀ b o,b ∉ [z,TO,i1,i2]->s.heap.get? b=some o->h'.get? b=some o:=fun b o hb e=>by
    have hb':b≠z/\b≠TO/\b≠i1/\b≠i2:=by simpa using hb
    exact kk b o hb'.1 hb'.2.1 hb'.2.2.1 hb'.2.2.2 e
   refine I.step (t':=s.toks) (g':=s.gens) (d':=s.drawn) (ch:=[z,TO,i1,i2]) (fun b hb=>?_) (fun b o _ _ hc e _=>kk' b o hc e) (fun b o _ _ hc e _=>⟨o.slots,kk' b o hc e⟩) (fun _ _ _ _ n=>n)
    (fun b o hc e=>⟨o,kk' b o hc e⟩) (fun _ _ e=>e) (fun _ _ _ e=>e) (fun b ps e=>⟨#[],by rw [e];simp⟩) (fun m hm=>?_) (fun b u e=>?_) I.bare
   ·obtain ⟨_,a1,_,a2,a3,a4⟩:=hf b (by simp at hb ⊢;rcases hb with e | e | e | e <;> simp [e])
    exact ⟨a2,a1,a3,a4⟩
   ·obtain ⟨o,es,ep,ho,r⟩:=hm
    exact ⟨o,es,ep,kk' _ o (fun q=>(hf _ (by simp at q ⊢;rcases q with e | e | e | e <;> simp [e])).2.1 rfl) ho,r⟩
   ·have nch:∀ b u,H b=some u->b ∉ [z,TO,i1,i2]:=fun b u e hb=>by
     rw [(hf b (by simp at hb ⊢;rcases hb with e | e | e | e <;> simp [e])).1] at e;cases e
    refine (I.hok b u e).stay (fun c v hc q=>kk' c v ?_ q) (fun _ q=>q) fun _ _ q=>q
    rcases hc with z' | z'
    ·rw [z'];exact nch b u e
    ·exact nch c _ z'
  self:=fun _ _ _ _ _ st h=>wpAny_pyIter_zip st.1 h }
end L2
namespace L2
open PySem PySem.Spec PyProof.Rows
abbrev yh1 (h:Heap) (l2:Addr):Heap:=h.push (itO l2 false)
abbrev yh2 (h:Heap) (r l2:Addr):Heap:=(yh1 h l2).push { cls:=.type "tuple",data:=.seq #[.ref r,.ref h.objs.size] }
abbrev yh3 (h:Heap) (r l2:Addr):Heap:=(yh2 h r l2).push { cls:=.type "tuple",data:=.seq #[.none,.none] }
abbrev yh4 (h:Heap) (r l2:Addr):Heap:=(yh3 h r l2).push { cls:=.type "zip",data:=.fields #[.none,.bool false,.bool false,.ref (yh1 h l2).objs.size,.ref (yh2 h r l2).objs.size] }
theorem qbe (r l1 l2:Addr) (k:Int) (ys:Array Value) :
  Meets (Builtin.«zip.__new__» ⟨[.type "zip",.ref r,.ref l2],[]⟩) (fun _ R s=>s.heap.IsRevIter r l1 k/\HasA s.heap l2 ys false/\R (.ok (.ret (.ref (yh3 s.heap r l2).objs.size))) { s with heap:=yh4 s.heap r l2 }) :=
 .of_wp fun prog w A R s h=>by
  obtain ⟨hp,g,d,tk,os⟩:=s
  obtain ⟨m1,m2,h⟩:=h
  have hsub:=sub_zip
  have n1:Heap.IsRevIter (Shared.heap ⟨hp,g,d,tk,os⟩) r l1 k:=m1
  have n2:HasA (Shared.heap ⟨hp,g,d,tk,os⟩) l2 ys false:=m2
  wp_walk using wpAny_pyIter_revIter n1,pyIterA n2
  exact ⟨_,rfl,h⟩
theorem qct {P:Program} {w:World} {A:Around} {E:Value->Shared->Prop} {s:Shared} {r l1 l2:Addr} {k:Int} {ys:Array Value} {Q:Value->Shared->Prop} (m1:s.heap.IsRevIter r l1 k) (m2:HasA s.heap l2 ys false)
  (q : ∀ h',IsZip h' (s.heap.objs.size+3) (s.heap.objs.size+1) (s.heap.objs.size+2) .none->IsPair h' (s.heap.objs.size+1) (.ref r) (.ref s.heap.objs.size) ->
   IsPair h' (s.heap.objs.size+2) .none .none->ItA h' s.heap.objs.size l2 0 false->(∀ c o,s.heap.get? c=some o->h'.get? c=some o)->Q (.ref (s.heap.objs.size+3)) { s with heap:=h' }) :
  wpAny (model P w) A (call (.type "zip") [.ref r,.ref l2]) Q E s:=by
 refine callType_new F.called_zip (by decide) (F.typeCall_zip_2 _ _) (F.newCall_zip_2 _ _) (fun ob=>F.args_object_init_3 ob _ _) F.entry_zip_new (qbe r l1 l2 k ys) ⟨m1,m2,?_⟩
 have k1:(yh1 s.heap l2).objs.size=s.heap.objs.size+1:=Heap.size_push ..
 have k2:(yh2 s.heap r l2).objs.size=s.heap.objs.size+2:=by rw [Heap.size_push,k1]
 have k3:(yh3 s.heap r l2).objs.size=s.heap.objs.size+3:=by rw [Heap.size_push,k2]
 have t5:(yh4 s.heap r l2).get? (yh3 s.heap r l2).objs.size=some _:=Heap.get?_push_size _ rfl
 have t4:(yh4 s.heap r l2).get? (yh2 s.heap r l2).objs.size=some _:=Heap.get?_push_of_some _ (Heap.get?_push_size _ rfl)
 have t3:(yh4 s.heap r l2).get? (yh1 s.heap l2).objs.size=some _:=Heap.get?_push_of_some _ (Heap.get?_push_of_some _ (Heap.get?_push_size _ rfl))
 have fr:∀ b l,(itO l b).isFreed=false:=fun b l=>by cases b <;> rfl
 have t2:(yh4 s.heap r l2).get? s.heap.objs.size=some (itO l2 false):=Heap.get?_push_of_some _ (Heap.get?_push_of_some _ (Heap.get?_push_of_some _ (Heap.get?_push_size _ (fr _ _))))
 show _/\_
 rw [k1,k2,k3] at t5
 rw [k1] at t3
 rw [k2] at t4
 rw [k3]
 exact ⟨⟨_,t5,rfl⟩,q _ t5 t3 t4 (Yy t2) fun c o e=>Heap.get?_push_of_some _ (Heap.get?_push_of_some _ (Heap.get?_push_of_some _ (Heap.get?_push_of_some _ e)))⟩
def iZipR (K:W.Frag) (ta tb:TA):TI:=fun σ H R=>ta σ H fun vs H1=>∃ a xs,vs=[.ref a]/\SqL K H1 a xs/\tb σ H1 fun us H2=>∃ b ys,us=[.ref b]/\SqL K H2 b ys/\SqL K H2 a xs/\R (ItzR K xs.length a b) H2
theorem qgo {X:Cx} {l l':Expr} {ta tb:TA} {elts:List Expr} {k:Nat} {tp p pr pos pos':Pos} (hg:Gl X "zip") (hm:X.mg "zip" = none) (hgr:Gl X "reversed") (hmr:X.mg "reversed" = none) (hl:PA X [l] ta) (hl':PA X [l'] tb)
  (hs:starEach [.Call (.Name "reversed" pr) [l] [] pos',l'] X.env=(false,eval (.Call (.Name "reversed" pr) [l] [] pos') X.env) :: starEach [l'] X.env:=by rfl) (hs2:starEach [l'] X.env=[(false,eval l' X.env)]:=by rfl) (hs3:starEach [l] X.env=[(false,eval l X.env)]:=by rfl) :
  PI X (.Tuple elts k tp) (.Call (.Name "zip" p) [.Call (.Name "reversed" pr) [l] [] pos',l'] [] pos) (iZipR X.K ta tb):=by
 intro pins s σ H R I h
 refine Call_ (ld_blt I hg hm (by first | exact boot_zip | decide +kernel) (PyProof.Rows.callWith_type1 ?_ hs (by rw [hs2];rfl)))
 rw [hs]
 show wpAny _ _ (spliced ((false,eval (.Call (.Name "reversed" pr) [l] [] pos') X.env) :: backTo pos (starEach [l'] X.env))) _ _ s
 refine Calls.spliced_cons ?_
 refine Call_ (ld_blt I hgr hmr (show bootBuiltins "reversed" = some (.type "reversed") by decide +kernel) (PyProof.Rows.callWith_type1 (thn (hl pos' pins s σ H _ I h) fun us s1 ⟨vs,H1,I1,r1,q1⟩=>?_) hs3 rfl))
 obtain ⟨a,xs,e,hq,q⟩:=q1
 subst e
 cases r1 with
 | cons r rr =>
  cases rr
  cases r
  obtain ⟨its,rv,pl,hz⟩:=I1.list hq
  refine call_reversed_list pl.isList ?_
  have e1:((its.toArray.size:Nat):Int) - 1=(xs.length:Int) - 1 - ((0:Nat):Int):=by rw [List.size_toArray,<- rv.length];simp
  rw [e1]
  have hf0:H1 s1.heap.objs.size=none:=I1.hok.fresh (Nat.le_refl _)
  have fp:=I1.fpOk (H':=H1) (Nat.le_refl _) hf0
  have I2:Inv X pins σ H1 { s1 with heap:=s1.heap.push (revObj a ((xs.length:Int) - 1 - ((0:Nat):Int))) }:=I1.kept (t':=s1.toks) fun b o e=>Heap.get?_push_of_some _ e
  have I3:Inv X ((s1.heap.objs.size,revObj a ((xs.length:Int) - 1 - ((0:Nat):Int))) :: pins) σ H1 { s1 with heap:=s1.heap.push (revObj a ((xs.length:Int) - 1 - ((0:Nat):Int))) }:=I2.pins_of fun p hp=>by
   rcases List.mem_cons.mp hp with rfl | hp
   ·exact ⟨Heap.get?_push_size _ rfl,hf0,fp.2.1,fp.2.2.1,fun v z=>by cases z⟩
   ·exact I2.pin p (List.mem_append_right _ hp)
  refine thn (hl' pos _ _ σ H1 _ I3 q) fun us s2 ⟨vs,H2,I4,r2,b,ys,e,hq2,hq3,q2⟩=>?_
  subst e
  cases r2 with
  | cons r rr =>
   cases rr
   cases r
   have hpin:=I4.pin (s1.heap.objs.size,revObj a ((xs.length:Int) - 1 - ((0:Nat):Int))) (List.mem_append_right _ List.mem_cons_self)
   have I5:Inv X pins σ H2 s2:=I4.pins_of fun p hp=>I4.pin p (List.mem_append_right _ (List.mem_cons_of_mem _ hp))
   have st:s2.heap.IsRevIter s1.heap.objs.size a ((xs.length:Int) - 1 - ((0:Nat):Int)):=⟨_,hpin.1,rfl,rfl⟩
   obtain ⟨its2,rv2,p2,hz2⟩:=I5.seqA (b:=false) hq2
   obtain ⟨its3,rv3,p3,hz3⟩:=I5.seqA (b:=false) hq3
   obtain ⟨oa,hoa,ca,_⟩:=p3.obj
   obtain ⟨ob,hob,cb,_⟩:=p2.obj
   have la:=Heap.lt_size hoa
   have lb:=Heap.lt_size hob
   have lr:=Heap.lt_size hpin.1
   have nar:a≠s1.heap.objs.size:=fun z=>by
    rw [z] at hoa
    rw [hpin.1] at hoa
    have hoa':=Option.some.inj hoa
    rw [<- hoa'] at ca
    rcases ca with ca | ca <;> (replace ca:Value.type "list_reverseiterator" = Value.type _:=ca;injection ca with ca;exact absurd ca (by decide))
   have nbr:b≠s1.heap.objs.size:=fun z=>by
    rw [z] at hob
    rw [hpin.1] at hob
    have hob':=Option.some.inj hob
    rw [<- hob'] at cb
    rcases cb with cb | cb <;> (replace cb:Value.type "list_reverseiterator" = Value.type _:=cb;injection cb with cb;exact absurd cb (by decide))
   refine qct st p2 fun h' hz' hTI hTO hi2 kk=>?_
   have I6:Inv X pins σ H2 { s2 with heap:=h' }:=I5.kept (t':=s2.toks) kk
   refine wpAny_pyIter_zip (s:={ s2 with heap:=h' }) hz' ?_
   have nn:∀ {c:Addr} (j:Nat),c < s2.heap.objs.size->c≠s2.heap.objs.size+j:=fun j hc=>Nat.ne_of_lt (Nat.lt_of_lt_of_le hc (Nat.le_add_right _ _))
   have st':Heap.IsRevIter h' s1.heap.objs.size a ((xs.length:Int) - 1 - ((0:Nat):Int)):=st.at fun o e=>kk _ _ e
   refine ⟨s2.heap.objs.size+3,[s2.heap.objs.size+3,s2.heap.objs.size+1,s2.heap.objs.size+2,s1.heap.objs.size,s2.heap.objs.size],_,_,H2,rfl,I6,
    qcs xs.length a b _ _ _ _ _ (by simp) (by simp) (nn 3 lr) (by simp) (by simp) (nn 1 lr).symm (by simp) (nn 2 lr).symm (by simp) (nn 0 lr) (fun _=>trivial) ⟨nn 2 la,nn 3 la,nar,nn 0 la⟩ ⟨nn 2 lb,nn 3 lb,nbr,nn 0 lb⟩,⟨hz',hTI,⟨_,_,hTO⟩,st',hi2⟩,fun c hb=>?_,q2⟩
   have hb':c=s2.heap.objs.size+3\/c=s2.heap.objs.size+1\/c=s2.heap.objs.size+2\/c=s1.heap.objs.size\/c=s2.heap.objs.size:=by simpa using hb
   have fresh:s2.heap.objs.size<=c->FpOk X pins H2 c:=fun hc=>I5.fpOk hc (I5.hok.fresh hc)
   rcases hb' with e | e | e | e | e
   ·exact fresh (by rw [e];exact Nat.le_add_right _ _)
   ·exact fresh (by rw [e];exact Nat.le_add_right _ _)
   ·exact fresh (by rw [e];exact Nat.le_add_right _ _)
   ·rw [e];exact ⟨hpin.2.1,fp.2⟩
   ·exact fresh (by rw [e];exact Nat.le_refl _)
theorem Y5 {X:Cx} (K:W.Frag) {l l':Expr} {ta tb:TA} {elts:List Expr} {k:Nat} {tp p pr pos pos':Pos} (hg:Gl X "zip") (hm:X.mg "zip" = none) (hgr:Gl X "reversed") (hmr:X.mg "reversed" = none) (hl:PA X [l] ta) (hl':PA X [l'] tb)
  (hs:starEach [.Call (.Name "reversed" pr) [l] [] pos',l'] X.env=(false,eval (.Call (.Name "reversed" pr) [l] [] pos') X.env) :: starEach [l'] X.env:=by rfl) (hs2:starEach [l'] X.env=[(false,eval l' X.env)]:=by rfl) (hs3:starEach [l] X.env=[(false,eval l X.env)]:=by rfl) (hK:X.K=K:=by rfl) :
  PI X (.Tuple elts k tp) (.Call (.Name "zip" p) [.Call (.Name "reversed" pr) [l] [] pos',l'] [] pos) (iZipR K ta tb):=by subst hK;exact qgo hg hm hgr hmr hl hl' hs hs2 hs3
end L2
namespace L2
open PySem PySem.SeqAt PySem.Spec PyProof.Rows
end L2
namespace L2
open PySem PySem.Spec PyProof.Rows
end L2
namespace L2
open PySem PySem.Spec PyProof.Rows
abbrev IsTri (h:Heap) (T:Addr) (a b c:Value):Prop:=h.get? T=some { cls:=.type "tuple",data:=.seq #[a,b,c] }
structure Apart3 (z TI TO i1 i2 i3 l1 l2 l3:Addr):Prop where
 TIz:TI≠z
 TOz:TO≠z
 i1z:i1≠z
 i2z:i2≠z
 i3z:i3≠z
 TITO:TI≠TO
 TIi1:TI≠i1
 TIi2:TI≠i2
 TIi3:TI≠i3
 TOi1:TO≠i1
 TOi2:TO≠i2
 TOi3:TO≠i3
 i12:i1≠i2
 i13:i1≠i3
 i23:i2≠i3
 l1z:l1≠z
 l1TO:l1≠TO
 l1i1:l1≠i1
 l1i2:l1≠i2
 l1i3:l1≠i3
 l2z:l2≠z
 l2TO:l2≠TO
 l2i1:l2≠i1
 l2i2:l2≠i2
 l2i3:l2≠i3
 l3z:l3≠z
 l3TO:l3≠TO
 l3i1:l3≠i1
 l3i2:l3≠i2
 l3i3:l3≠i3
theorem jm {prog:Program} {w:World} {A:Around} {E:Value->Shared->Prop} {s:Shared} {T:Addr} {a b c x:Value} {k:Nat} {Q:Unit->Shared->Prop} (hT:IsTri s.heap T a b c)
  (h:∀ h',h'.get? T=some { cls:=.type "tuple",data:=.seq ((#[a,b,c]:Array Value).setIfInBounds k x) }->Heap.SameBut T s.heap h'->Q () { s with heap:=h' }) :
  wpAny (model prog w) A (updateSeq T (·.setIfInBounds k x)) Q E s:=by
 refine wpAny_updateSeq hT rfl (h _ ?_ (Heap.SameBut.update ..))
 rw [Heap.get?_update_self _ hT rfl]
 simp [Obj.mapSeq]
section
variable {P:Program} {w:World} {A:Around} {E:Value->Shared->Prop} {s:Shared} {z TI TO i1 i2 i3 l1 l2 l3:Addr} {xs ys zs:Array Value} {S1 S2 S3:Nat->Heap->Prop}
theorem qcu {k:Nat} {x y v a b c:Value} {Q:Value->Shared->Prop} (c1:Src P w i1 l1 xs S1) (c2:Src P w i2 l2 ys S2) (c3:Src P w i3 l3 zs S3) (D:Apart3 z TI TO i1 i2 i3 l1 l2 l3) (hz:IsZip s.heap z TI TO .none) (hTI:IsTri s.heap TI (.ref i1) (.ref i2) (.ref i3)) (hTO:IsTri s.heap TO a b c)
  (st1:S1 k s.heap) (st2:S2 k s.heap) (st3:S3 k s.heap) (hx:xs[k]? = some x) (hy:ys[k]? = some y) (hv:zs[k]? = some v)
  (q : ∀ (h':Heap) (T:Addr),IsZip h' z TI TO (rawInt T)->IsTri h' TO x y v->S1 (k+1) h'->S2 (k+1) h'->S3 (k+1) h'->IsTri h' T x y v->s.heap.objs.size<=T->T≠z->T≠TO->T≠i1->T≠i2->T≠i3 ->
   (∀ c o,c≠z->c≠TO->c≠i1->c≠i2->c≠i3->s.heap.get? c=some o->h'.get? c=some o)->Q (.ref T) { s with heap:=h' }) :
  wpAny (model P w) A (Builtin.«zip.__next__» ⟨[.ref z],[]⟩) (fun fn s'=>∃ v,fn=.done (.ret v)/\Q v s') E s:=by
 show wpAny _ _ (field (.ref z) 2 >>= _) _ _ _
 refine wpAny_bind (wpAny_field hz rfl (x:=.bool false) rfl ?_)
 show wpAny _ _ (field (.ref z) 3 >>= _) _ _ _
 refine wpAny_bind (wpAny_field hz rfl (x:=.ref TI) rfl (wpAny_bind (wpAny_seqItems hTI rfl ?_)))
 show wpAny _ _ (Builtin.SmallTypes.ownedTupleIsFree (.ref z) >>= _) _ _ _
 unfold Builtin.SmallTypes.ownedTupleIsFree
 refine wpAny_bind (wpAny_bind (wpAny_field hz rfl (x:=.none) rfl (wpAny_pure ?_)))
 simp only [if_true]
 refine wpAny_bind (wpAny_rule (wpAny_bind (wpAny_field hz rfl (x:=.ref TO) rfl ?_)))
 refine wpAny_bind (wpAny_setField_rec hz (by simp) fun g1 hz1 u1=>wpAny_bind ?_)
 replace hz1:IsZip g1 z TI TO .ellipsis:=hz1
 simp only [List.zipIdx_cons,List.zipIdx_nil,List.forIn_cons,List.forIn_nil]
 have a1:=c1.off st1 u1.extBut D.i1z D.l1z
 have a2:=c2.off st2 u1.extBut D.i2z D.l2z
 have a3:=c3.off st3 u1.extBut D.i3z D.l3z
 refine wpAny_bind (wpAny_bind (wpAny_onRaise ?_))
 show wpAny _ _ (Builtin.SmallTypes.nextOf (.ref i1) >>= _) _ _ _
 refine wpAny_bind (c1.item _ _ k { s with heap:=g1 } x _ a1 hx fun g2 b1 u2=>wpAny_pure ?_)
 have b2:=c2.off a2 u2.extBut D.i12.symm D.l2i1
 have b3:=c3.off a3 u2.extBut D.i13.symm D.l3i1
 have hT2:IsTri g2 TO a b c:=u2.extBut _ _ D.TOi1 (u1.extBut _ _ D.TOz hTO)
 refine wpAny_bind (wpAny_seqItems hT2 rfl (wpAny_bind (jm hT2 fun g3 hT3 u3=>?_)))
 replace hT3:IsTri g3 TO x b c:=hT3
 refine wpAny_bind (wpAny_letGo (wpAny_pure ?_))
 have d1:=c1.off b1 u3.extBut D.TOi1.symm D.l1TO
 have d2:=c2.off b2 u3.extBut D.TOi2.symm D.l2TO
 have d3:=c3.off b3 u3.extBut D.TOi3.symm D.l3TO
 refine wpAny_bind (wpAny_bind (wpAny_onRaise ?_))
 show wpAny _ _ (Builtin.SmallTypes.nextOf (.ref i2) >>= _) _ _ _
 refine wpAny_bind (c2.item _ _ k { s with heap:=g3 } y _ d2 hy fun g4 e2 u4=>wpAny_pure ?_)
 have e1:=c1.off d1 u4.extBut D.i12 D.l1i2
 have e3:=c3.off d3 u4.extBut D.i23.symm D.l3i2
 have hT4:IsTri g4 TO x b c:=u4.extBut _ _ D.TOi2 hT3
 refine wpAny_bind (wpAny_seqItems hT4 rfl (wpAny_bind (jm hT4 fun g5 hT5 u5=>?_)))
 replace hT5:IsTri g5 TO x y c:=hT5
 refine wpAny_bind (wpAny_letGo (wpAny_pure ?_))
 have f1:=c1.off e1 u5.extBut D.TOi1.symm D.l1TO
 have f2:=c2.off e2 u5.extBut D.TOi2.symm D.l2TO
 have f3:=c3.off e3 u5.extBut D.TOi3.symm D.l3TO
 refine wpAny_bind (wpAny_bind (wpAny_onRaise ?_))
 show wpAny _ _ (Builtin.SmallTypes.nextOf (.ref i3) >>= _) _ _ _
 refine wpAny_bind (c3.item _ _ k { s with heap:=g5 } v _ f3 hv fun g6 m3 u6=>wpAny_pure ?_)
 have m1:=c1.off f1 u6.extBut D.i13 D.l1i3
 have m2:=c2.off f2 u6.extBut D.i23 D.l2i3
 have hT6:IsTri g6 TO x y c:=u6.extBut _ _ D.TOi3 hT5
 refine wpAny_bind (wpAny_seqItems hT6 rfl (wpAny_bind (jm hT6 fun g7 hT7 u7=>?_)))
 replace hT7:IsTri g7 TO x y v:=hT7
 refine wpAny_bind (wpAny_letGo (wpAny_pure (wpAny_pure ?_)))
 have n1:=c1.off m1 u7.extBut D.TOi1.symm D.l1TO
 have n2:=c2.off m2 u7.extBut D.TOi2.symm D.l2TO
 have n3:=c3.off m3 u7.extBut D.TOi3.symm D.l3TO
 refine wpAny_bind (wpAny_seqItems hT7 rfl (wpAny_bind (wpAny_newTuple ?_)))
 have sz:g7.objs.size=s.heap.objs.size:=by rw [u7.1,u6.1,u5.1,u4.1,u3.1,u2.1,u1.1]
 have hz7:IsZip g7 z TI TO .ellipsis:=u7.extBut _ _ D.TOz.symm (u6.extBut _ _ D.i3z.symm (u5.extBut _ _ D.TOz.symm (u4.extBut _ _ D.i2z.symm (u3.extBut _ _ D.TOz.symm (u2.extBut _ _ D.i1z.symm hz1)))))
 have k7:∀ c o,c≠z->c≠TO->c≠i1->c≠i2->c≠i3->s.heap.get? c=some o->g7.get? c=some o:=fun c o n1 n2 n3 n4 n5 e =>
  u7.extBut _ _ n2 (u6.extBut _ _ n5 (u5.extBut _ _ n2 (u4.extBut _ _ n4 (u3.extBut _ _ n2 (u2.extBut _ _ n3 (u1.extBut _ _ n1 e))))))
 have zl:z < g7.objs.size:=Heap.lt_size hz7
 show wpAny _ _ (Builtin.SmallTypes.ownedTupleHandOut (.ref z) (.ref g7.objs.size) >>= _) _ _ _
 unfold Builtin.SmallTypes.ownedTupleHandOut
 have hz8:IsZip (g7.push { cls:=.type "tuple",data:=.seq #[x,y,v] }) z TI TO .ellipsis:=Heap.get?_push_of_some _ hz7
 refine wpAny_bind (wpAny_bind (wpAny_setField_rec hz8 (by simp) fun g9 hz9 u9=>?_))
 replace hz9:IsZip g9 z TI TO (rawInt g7.objs.size):=hz9
 refine wpAny_setField_rec hz9 (by simp) fun g10 hz10 u10=>?_
 replace hz10:IsZip g10 z TI TO (rawInt g7.objs.size):=hz10
 have up:∀ c o,c≠z->g7.get? c=some o->g10.get? c=some o:=fun c o n e=>u10.extBut _ _ n (u9.extBut _ _ n (Heap.get?_push_of_some _ e))
 have hN:IsTri g10 g7.objs.size x y v:=u10.extBut _ _ (Nat.ne_of_gt zl) (u9.extBut _ _ (Nat.ne_of_gt zl) (Heap.get?_push_size _ rfl))
 have o1:g7.objs.size≠i1:=by obtain ⟨o,_,ho,_⟩:=c1.obj _ _ n1;exact Nat.ne_of_gt (Heap.lt_size ho)
 have o2:g7.objs.size≠i2:=by obtain ⟨o,_,ho,_⟩:=c2.obj _ _ n2;exact Nat.ne_of_gt (Heap.lt_size ho)
 have o3:g7.objs.size≠i3:=by obtain ⟨o,_,ho,_⟩:=c3.obj _ _ n3;exact Nat.ne_of_gt (Heap.lt_size ho)
 refine wpAny_pure ⟨_,rfl,q g10 g7.objs.size hz10 (up _ _ D.TOz hT7) ?_ ?_ ?_ hN (Nat.le_of_eq sz.symm) (Nat.ne_of_gt zl) (Nat.ne_of_gt (Heap.lt_size hT7)) o1 o2 o3 fun c o n1 n2 n3 n4 n5 e=>up c o n1 (k7 c o n1 n2 n3 n4 n5 e)⟩
 ·exact c1.keep _ _ _ n1 fun c hc o ho=>up c o (by rcases hc with q | q <;> rw [q] <;> first | exact D.i1z | exact D.l1z) ho
 ·exact c2.keep _ _ _ n2 fun c hc o ho=>up c o (by rcases hc with q | q <;> rw [q] <;> first | exact D.i2z | exact D.l2z) ho
 ·exact c3.keep _ _ _ n3 fun c hc o ho=>up c o (by rcases hc with q | q <;> rw [q] <;> first | exact D.i3z | exact D.l3z) ho
theorem qel {k:Nat} {a b c:Value} {Q:Fin->Shared->Prop} (hA:A.handled=none) (c1:Src P w i1 l1 xs S1) (c2:Src P w i2 l2 ys S2) (c3:Src P w i3 l3 zs S3) (D:Apart3 z TI TO i1 i2 i3 l1 l2 l3) (hz:IsZip s.heap z TI TO .none) (hTI:IsTri s.heap TI (.ref i1) (.ref i2) (.ref i3)) (hTO:IsTri s.heap TO a b c)
  (st1:S1 k s.heap) (st2:S2 k s.heap) (st3:S3 k s.heap) (hn:xs[k]? = none\/ys[k]? = none\/zs[k]? = none)
  (q:∀ h' e,(∀ c o,c≠z->c≠TO->c≠i1->c≠i2->c≠i3->s.heap.get? c=some o->h'.get? c=some o)->(∃ o,h'.get? e=some o/\o.cls=.type "StopIteration")->E (.ref e) { s with heap:=h' }) :
  wpAny (model P w) A (Builtin.«zip.__next__» ⟨[.ref z],[]⟩) Q E s:=by
 show wpAny _ _ (field (.ref z) 2 >>= _) _ _ _
 refine wpAny_bind (wpAny_field hz rfl (x:=.bool false) rfl ?_)
 show wpAny _ _ (field (.ref z) 3 >>= _) _ _ _
 refine wpAny_bind (wpAny_field hz rfl (x:=.ref TI) rfl (wpAny_bind (wpAny_seqItems hTI rfl ?_)))
 show wpAny _ _ (Builtin.SmallTypes.ownedTupleIsFree (.ref z) >>= _) _ _ _
 unfold Builtin.SmallTypes.ownedTupleIsFree
 refine wpAny_bind (wpAny_bind (wpAny_field hz rfl (x:=.none) rfl (wpAny_pure ?_)))
 simp only [if_true]
 refine wpAny_bind (wpAny_rule (wpAny_bind (wpAny_field hz rfl (x:=.ref TO) rfl ?_)))
 refine wpAny_bind (wpAny_setField_rec hz (by simp) fun g1 hz1 u1=>wpAny_bind ?_)
 replace hz1:IsZip g1 z TI TO .ellipsis:=hz1
 simp only [List.zipIdx_cons,List.zipIdx_nil,List.forIn_cons,List.forIn_nil]
 have a1:=c1.off st1 u1.extBut D.i1z D.l1z
 have a2:=c2.off st2 u1.extBut D.i2z D.l2z
 have a3:=c3.off st3 u1.extBut D.i3z D.l3z
 refine wpAny_bind (wpAny_bind (wpAny_onRaise ?_))
 show wpAny _ _ (Builtin.SmallTypes.nextOf (.ref i1) >>= _) _ _ _
 cases hx:xs[k]? with
 | none =>
  refine wpAny_bind (c1.fin _ _ k { s with heap:=g1 } _ hA a1 hx fun g2 e u2 he=>?_)
  obtain ⟨oe,hoe,ce⟩:=he
  have hz2:IsZip g2 z TI TO .ellipsis:=u2 _ _ D.i1z.symm hz1
  have ez:e≠z:=fun q=>by subst q;rw [hz2] at hoe;cases hoe;simp at ce
  exact wpAny_setField_rec hz2 (by simp) fun g3 _ u3=>q g3 e (fun c o n1 _ n3 _ _ ho=>u3.extBut _ _ n1 (u2 _ _ n3 (u1.extBut _ _ n1 ho))) ⟨oe,u3.extBut _ _ ez hoe,ce⟩
 | some x =>
  refine wpAny_bind (c1.item _ _ k { s with heap:=g1 } x _ a1 hx fun g2 b1 u2=>wpAny_pure ?_)
  have b2:=c2.off a2 u2.extBut D.i12.symm D.l2i1
  have b3:=c3.off a3 u2.extBut D.i13.symm D.l3i1
  have hT2:IsTri g2 TO a b c:=u2.extBut _ _ D.TOi1 (u1.extBut _ _ D.TOz hTO)
  refine wpAny_bind (wpAny_seqItems hT2 rfl (wpAny_bind (jm hT2 fun g3 hT3 u3=>?_)))
  replace hT3:IsTri g3 TO x b c:=hT3
  refine wpAny_bind (wpAny_letGo (wpAny_pure ?_))
  have d2:=c2.off b2 u3.extBut D.TOi2.symm D.l2TO
  have d3:=c3.off b3 u3.extBut D.TOi3.symm D.l3TO
  refine wpAny_bind (wpAny_bind (wpAny_onRaise ?_))
  show wpAny _ _ (Builtin.SmallTypes.nextOf (.ref i2) >>= _) _ _ _
  cases hy:ys[k]? with
  | none =>
   refine wpAny_bind (c2.fin _ _ k { s with heap:=g3 } _ hA d2 hy fun g4 e u4 he=>?_)
   obtain ⟨oe,hoe,ce⟩:=he
   have hz4:IsZip g4 z TI TO .ellipsis:=u4 _ _ D.i2z.symm (u3.extBut _ _ D.TOz.symm (u2.extBut _ _ D.i1z.symm hz1))
   have ez:e≠z:=fun q=>by subst q;rw [hz4] at hoe;cases hoe;simp at ce
   exact wpAny_setField_rec hz4 (by simp) fun g5 _ u5=>q g5 e (fun c o n1 n2 n3 n4 _ ho=>u5.extBut _ _ n1 (u4 _ _ n4 (u3.extBut _ _ n2 (u2.extBut _ _ n3 (u1.extBut _ _ n1 ho))))) ⟨oe,u5.extBut _ _ ez hoe,ce⟩
  | some y =>
   have hv:zs[k]? = none:=by
    rcases hn with h | h | h
    ·rw [hx] at h;cases h
    ·rw [hy] at h;cases h
    ·exact h
   refine wpAny_bind (c2.item _ _ k { s with heap:=g3 } y _ d2 hy fun g4 e2 u4=>wpAny_pure ?_)
   have e3:=c3.off d3 u4.extBut D.i23.symm D.l3i2
   have hT4:IsTri g4 TO x b c:=u4.extBut _ _ D.TOi2 hT3
   refine wpAny_bind (wpAny_seqItems hT4 rfl (wpAny_bind (jm hT4 fun g5 hT5 u5=>?_)))
   refine wpAny_bind (wpAny_letGo (wpAny_pure ?_))
   have f3:=c3.off e3 u5.extBut D.TOi3.symm D.l3TO
   refine wpAny_bind (wpAny_bind (wpAny_onRaise ?_))
   show wpAny _ _ (Builtin.SmallTypes.nextOf (.ref i3) >>= _) _ _ _
   refine wpAny_bind (c3.fin _ _ k { s with heap:=g5 } _ hA f3 hv fun g6 e u6 he=>?_)
   obtain ⟨oe,hoe,ce⟩:=he
   have hz6:IsZip g6 z TI TO .ellipsis:=u6 _ _ D.i3z.symm (u5.extBut _ _ D.TOz.symm (u4.extBut _ _ D.i2z.symm (u3.extBut _ _ D.TOz.symm (u2.extBut _ _ D.i1z.symm hz1))))
   have ez:e≠z:=fun q=>by subst q;rw [hz6] at hoe;cases hoe;simp at ce
   exact wpAny_setField_rec hz6 (by simp) fun g7 _ u7=>q g7 e (fun c o n1 n2 n3 n4 n5 ho=>u7.extBut _ _ n1 (u6 _ _ n5 (u5.extBut _ _ n2 (u4.extBut _ _ n4 (u3.extBut _ _ n2 (u2.extBut _ _ n3 (u1.extBut _ _ n1 ho))))))) ⟨oe,u7.extBut _ _ ez hoe,ce⟩
end
end L2
namespace L2
open PySem PySem.Spec PyProof.Rows
theorem Vo (a b c:Value):checkTypeCall "zip" ⟨[a,b,c],[]⟩=pure ():=by kernel_rfl
theorem Zo (a b c:Value):checkBuiltinCall "zip.__new__" ⟨[.type "zip",a,b,c],[]⟩=pure ():=by kernel_rfl
theorem zy (a b c d:Value):argsOk "object.__init__" ⟨[a,b,c,d],[]⟩:=by
 unfold argsOk;rw [signature?_of (id:="object.__init__") (n:=['_','_','t','i','n','i','_','_']) (o:=['t','c','e','j','b','o']) (by kernel_rfl) F.owner_object];kernel_rfl
end L2
namespace L2
open PySem PySem.Spec PyProof.Rows
end L2
namespace L2
open PySem PySem.Spec PyProof.Rows PySem.SeqAt
end L2
namespace L2
open PySem PySem.Spec PyProof.Rows PySem.SeqAt
end L2
namespace L2
open PySem PySem.Spec PyProof.Rows
inductive VDec (K:W.Frag) (H:Hp):Nat->V->V->Bool->Prop where
 | flat {n:Nat} {x y:V} (hx:flatV x=true) (hy:flatV y=true):VDec K H n x y (eqV x y)
 | same {n:Nat} {a:Addr}:VDec K H n (.ref a) (.ref a) true
 | lt {n:Nat} {a b:Addr} {xs ys:List V} (ha:SqL K H a xs) (hb:SqT K H b ys):VDec K H n (.ref a) (.ref b) false
 | tup {n:Nat} {a b:Addr} {xs ys:List V} (e:Nat->Bool) (hne:a≠b) (ha:SqT K H a xs) (hb:SqT K H b ys) (h:∀ (i:Nat) x y,xs[i]? = some x->ys[i]? = some y->VDec K H n x y (e i)):VDec K H (n+1) (.ref a) (.ref b) ((List.range (min xs.length ys.length)).all e && xs.length == ys.length)
section
variable {X:Cx} {pins:List (Addr × Obj)} {σ:St} {H:Hp} {s:Shared}
end
end L2
set_option maxHeartbeats 800000
namespace L2
open PySem PySem.Spec PyProof.Rows
def TopOf (n:Nat) (val:Nat->Int) (d0 v:Value):Prop:=(n=0/\v=d0)\/∃ z t,v=.int z t/\(∃ j,j < n/\z=val j)/\∀ j,j < n->val j<=z
def BestIs (i:Nat) (val:Nat->Int) (bs:Array Value):Prop:=(i=0/\bs = #[])\/∃ z t,bs = #[.int z t,.int z t]/\(∃ j,j < i/\z=val j)/\∀ j,j < i->val j<=z
theorem mx_loop {P:Program} {w:World} {A:Around} {I:Addr} {fp wr:List Addr} {n:Nat} {Pv:Nat->Value->Prop} {St:Nat->Heap->Prop} {R:Result->Shared->Prop}
  (W:Walks P w A.in1 I fp wr n Pv St) (val:Nat->Int) (hval:∀ i v,Pv i v->∃ t,v=.int (val i) t) (S:Addr) (hSf:S ∉ fp) (d0:Value) :
  ∀ (m i:Nat) (s:Shared) (bs:Array Value) (c:Nat),i+m=n->St i s.heap->s.heap.get? S=some { cls:=.type "list",dict:=none,data:=.seq bs c,slots:=#[] }->BestIs i val bs ->
   (∀ v h' tk,TopOf n val d0 v->(∀ b o,b ∉ wr->b≠S->s.heap.get? b=some o->h'.get? b=some o)->R (.ok (.ret v)) { s with heap:=h',toks:=tk }) ->
   codeAny (model P w) A (.builtin "max.loop" ⟨[.ref I,.none,.ref S],[(Str.ofString "default",d0)]⟩) R s
 | 0,i,s,bs,c,hi,hst,hS,hb,hR=>by
  have hSw:S ∉ wr:=fun h=>hSf (W.sub _ h)
  have e:i=n:=by omega
  subst e
  refine codeAny_builtin F.entry_max_loop ?_;rw [Around.under_plainId F.plain_max_loop _]
  show wpAny _ _ (seqItems? (.ref S) >>= _) _ _ s;refine wpAny_bind (wpAny_seqItems hS rfl ?_)
  show wpAny _ _ (tryCatch (pyNext (.ref I)) _ >>= _) _ _ s;refine wpAny_bind (wpAny_tryCatch (W.done s _ _ hst fun h' tk hk'=>?_))
  have hS':=hk' S _ hSw hS
  rcases hb with ⟨h0,rfl⟩ | ⟨z,t,rfl,hz1,hz2⟩
  ·show wpAny _ _ (rule _ >>= _) _ _ _;refine wpAny_bind (wpAny_rule (wpAny_pure ?_))
   exact hR d0 h' tk (.inl ⟨h0,rfl⟩) fun b o hbw _ e=>hk' b o hbw e
  ·show wpAny _ _ (updateSeq S (fun _=>#[]) >>= _) _ _ _;refine wpAny_bind (wpAny_updateSeq hS' rfl (wpAny_bind (wpAny_letGo (wpAny_pure ?_))))
   refine hR _ _ tk (.inr ⟨z,t,rfl,hz1,hz2⟩) fun b o hbw hbS e=>?_
   rw [Heap.get?_update_other _ _ (Ne.symm hbS)];exact hk' b o hbw e
 | m+1,i,s,bs,c,hi,hst,hS,hb,hR=>by
  have hSw:S ∉ wr:=fun h=>hSf (W.sub _ h)
  have hlt:i < n:=by omega
  have hname:(toString "max"++toString ".loop" : String) = "max.loop":=by decide
  refine codeAny_builtin F.entry_max_loop ?_;rw [Around.under_plainId F.plain_max_loop _]
  show wpAny _ _ (seqItems? (.ref S) >>= _) _ _ s;refine wpAny_bind (wpAny_seqItems hS rfl ?_)
  show wpAny _ _ (tryCatch (pyNext (.ref I)) _ >>= _) _ _ s;refine wpAny_bind (wpAny_tryCatch (W.item i s _ _ hlt hst fun v h' tk hP hst' hk'=>?_))
  have hS':=hk' S _ hSw hS
  obtain ⟨t2,rfl⟩:=hval i v hP
  rcases hb with ⟨h0,rfl⟩ | ⟨z,t,rfl,⟨j,hj,hzj⟩,hz2⟩
  ·show wpAny _ _ (updateSeq S (fun _=>#[.int (val i) t2,.int (val i) t2]) >>= _) _ _ _
   refine wpAny_bind (wpAny_updateSeq hS' rfl ?_);rw [hname]
   refine wpAny_pure ⟨plainId_quiet F.plain_max_loop _,mx_loop W val hval S hSf d0 m (i+1) _ _ _ (by omega) (W.frame _ _ _ hst' fun b hbf o e=>?_) (Heap.get?_update_self _ hS' rfl) (.inr ⟨val i,t2,rfl,⟨i,by omega,rfl⟩,fun j hj=>?_⟩) fun v' h'' tk'' hv' hk''=>?_⟩
   ·rw [Heap.get?_update_other _ _ (fun h:S=b=>hSf (by rw [h];exact hbf))];exact e
   ·have:j=i:=by omega
    rw [this];exact Int.le_refl _
   ·refine hR v' h'' tk'' hv' fun b o hbw hbS e=>hk'' b o hbw hbS ?_
    rw [Heap.get?_update_other _ _ (Ne.symm hbS)];exact hk' b o hbw e
  ·show wpAny _ _ (tryCatch (holding [.int (val i) t2,.int (val i) t2] (richCompare .Gt (.int (val i) t2) (.int z t) >>= _)) _ >>= _) _ _ _
   have cmp:∀ (Q':Value->Shared->Prop) (E':Value->Shared->Prop) (s':Shared),Q' (.bool (decide (val i > z))) s'->wpAny (model P w) A.in1 (richCompare .Gt (.int (val i) t2) (.int z t)) Q' E' s':=fun Q' E' s' q =>
    richCompare_gives (op:=.Gt) (typeIs_int s' _ t2) (typeIs_int s' _ t) F.slot_int_gt F.entry_int_gt (F.args_int_gt_2 _ _) (gives_int_gt _ _ t2 t) (fun x=>nomatch x) q
   refine wpAny_bind (wpAny_tryCatch (wpAny_holding (wpAny_bind (cmp _ _ _ ?_))))
   refine wpAny_bind (wpAny_holding (wpAny_truthy_bool ?_));refine wpAny_bind (wpAny_letGo (wpAny_pure ?_))
   by_cases hgt:val i > z
   ·rw [decide_eq_true hgt,if_pos rfl]
    refine wpAny_bind (wpAny_updateSeq hS' rfl (wpAny_bind (wpAny_letGo ?_)));rw [hname]
    refine wpAny_pure ⟨plainId_quiet F.plain_max_loop _,mx_loop W val hval S hSf d0 m (i+1) _ _ _ (by omega) (W.frame _ _ _ hst' fun b hbf o e=>?_) (Heap.get?_update_self _ hS' rfl) (.inr ⟨val i,t2,rfl,⟨i,by omega,rfl⟩,fun j hj=>?_⟩) fun v' h'' tk'' hv' hk''=>?_⟩
    ·rw [Heap.get?_update_other _ _ (fun h:S=b=>hSf (by rw [h];exact hbf))];exact e
    ·by_cases h:j < i
     ·have:=hz2 j h
      omega
     ·have:j=i:=by omega
      rw [this];exact Int.le_refl _
    ·refine hR v' h'' tk'' hv' fun b o hbw hbS e=>hk'' b o hbw hbS ?_
     rw [Heap.get?_update_other _ _ (Ne.symm hbS)];exact hk' b o hbw e
   ·rw [decide_eq_false hgt,if_neg (by decide)]
    refine wpAny_bind (wpAny_letGo ?_);rw [hname]
    refine wpAny_pure ⟨plainId_quiet F.plain_max_loop _,mx_loop W val hval S hSf d0 m (i+1) _ _ c (by omega) hst' hS' (.inr ⟨z,t,rfl,⟨j,by omega,hzj⟩,fun j hj=>?_⟩) fun v' h'' tk'' hv' hk''=>?_⟩
    ·by_cases h:j < i
     ·exact hz2 j h
     ·have:j=i:=by omega
      rw [this];omega
    ·exact hR v' h'' tk'' hv' fun b o hbw hbS e=>hk'' b o hbw hbS (hk' b o hbw e)
theorem qcv (a d:Value):argsOk "max" ⟨[a],[(Str.ofString "default",d)]⟩:=by unfold argsOk;kernel_rfl
def MaxIs (ns:List Int) (d m:Int):Prop:=(ns=[]/\m=d)\/(m∈ns/\∀ x∈ns,x<=m)
def rMaxD (K:W.Frag) (d:Int):List V->Hp->VK->Prop:=fun xs H Q=>∃ (a:Addr) (ns:List Int),xs=[.ref a]/\SqL K H a (ns.map V.int)/\∀ m,MaxIs ns d m->Q (.int m) H
theorem call_maxD {P:Program} {w:World} {A:Around} {E:Value->Shared->Prop} {s:Shared} {l:Addr} {its:List Value} {ns:List Int} {d:Int} {t:Tok} {Q:Value->Shared->Prop} (hh:A.in1.handled=none) (hl:s.heap.IsList l its.toArray) (hn:its.length=ns.length)
  (hv:∀ i v,its[i]? = some v->∃ t,v=Value.int (ns.getD i 0) t) (h:∀ m t' h' tk,MaxIs ns d m->(∀ b o,s.heap.get? b=some o->h'.get? b=some o)->Q (.int m t') { s with heap:=h',toks:=tk }) :
  wpAny (model P w) A (call (.builtin "max") [.ref l] [(Str.ofString "default",Value.int d t)]) Q E s:=by
 have hlt:l < s.heap.objs.size:=by obtain ⟨o,ho,_⟩:=hl;exact Heap.lt_size ho
 have hname:(toString "max"++toString ".loop" : String) = "max.loop":=by decide
 refine kmb_tree F.kind_max F.plain_max F.entry_max (qcv _ _) ?_
 show wpAny _ A.in1 (Builtin.Builtins.bindParams "max" ["key","default"] 0 ⟨[],[(Str.ofString "default",Value.int d t)]⟩ >>= _) _ _ s
 refine wpAny_bind (wpAny_of_eq (show Builtin.Builtins.bindParams "max" ["key","default"] 0 ⟨[],[(Str.ofString "default",Value.int d t)]⟩=pure [none,some (Value.int d t)] from rfl) ?_)
 refine wpAny_bind (wpAny_pure (wpAny_bind (wpAny_pyIter_list hl ?_)))
 refine wpAny_bind (wpAny_newObj_type ?_);rw [hname]
 have hSf:(s.heap.push { cls:=.type "list_iterator",data:=.fields #[.ref l,.int 0 0] }).objs.size ∉ [s.heap.objs.size,l]:=by
  rw [Heap.size_push]
  intro hm
  rcases List.mem_cons.mp hm with e | hm
  ·exact absurd e (Nat.succ_ne_self _)
  ·rw [List.mem_singleton] at hm
   rw [<- hm] at hlt
   exact absurd hlt (Nat.not_lt.mpr (Nat.le_succ _))
 refine wpAny_pure ⟨plainId_quiet F.plain_max_loop _,mx_loop (Walks.list (prog:=P) (w:=w) (A:=A.in1) hh s.heap.objs.size l (Nat.ne_of_lt hlt) its.toArray) (fun i=>ns.getD i 0) (fun i v e=>hv i v (by simpa using e)) _ hSf (.int d t) its.toArray.size 0 _ #[] 0 (by omega) ⟨⟨_,Heap.get?_push_of_some _ (Heap.get?_push_size _ rfl),rfl,rfl⟩,(hl.push _).push _⟩ (Heap.get?_push_size _ rfl) (.inl ⟨rfl,rfl⟩) fun v h' tk hT hk=>?_⟩
 have hk':∀ b o,s.heap.get? b=some o->h'.get? b=some o:=fun b o e=>by
  have lt:=Heap.lt_size e
  refine hk b o (fun z=>?_) ?_ (Heap.get?_push_of_some _ (Heap.get?_push_of_some _ e))
  ·rw [List.mem_singleton] at z
   rw [z] at lt
   exact absurd lt (Nat.lt_irrefl _)
  ·rw [Heap.size_push]
   exact Nat.ne_of_lt (Nat.lt_succ_of_lt lt)
 have hsz:its.toArray.size=ns.length:=by rw [List.size_toArray,hn]
 rw [hsz] at hT
 rcases hT with ⟨h0,rfl⟩ | ⟨z,t',rfl,⟨j,hj,hz⟩,hz2⟩
 ·exact h d t h' tk (.inl ⟨List.eq_nil_of_length_eq_zero h0,rfl⟩) hk'
 ·refine h z t' h' tk (.inr ⟨?_,fun x hx=>?_⟩) hk'
  ·rw [hz]
   show ns.getD j 0∈ns
   rw [List.getD_eq_getElem?_getD,List.getElem?_eq_getElem hj]
   exact List.getElem_mem hj
  ·obtain ⟨i,hi⟩:=List.mem_iff_getElem?.mp hx
   have:ns.getD i 0<=z:=hz2 i (List.getElem?_eq_some_iff.mp hi).1
   rw [List.getD_eq_getElem?_getD,hi] at this
   exact this
theorem qgp {X:Cx} {e:Expr} {t:TA} {d:Int} {j:Nat} {p p1 p2 pos:Pos} (hc:X.calm=true) (hg:Gl X "max") (hm:X.mg "max" = none) (ha:PA X [e] t)
  (hb:backTo pos (starEach [e] X.env)=(false,eval e X.env) :: backTo pos (starEach [] X.env):=by rfl) (hp:(backTo pos (starEach [e] X.env)).any (·.1)=false:=by rfl) :
  PE X (.Call (.Name "max" p) [e] [⟨some "default",.Constant (.int d) j p1,p2⟩] pos) (tCB (rMaxD X.K d) t):=by
 intro pins s σ H Q I h
 refine wpAny_Call_Name_kw (ld_blt I hg hm (show bootBuiltins "max" = some (.builtin "max") by decide +kernel) ?_)
 refine callWith_kw (thn (ha pos pins s σ H _ I h) fun us s1 ⟨vs,H1,I1,r1,q1⟩=>?_) hb hp
 refine kws_cons (wpAny_Constant_int (kws_nil ?_))
 obtain ⟨a,ns,rfl,hq,q⟩:=q1
 obtain ⟨u,rfl,ru⟩:=vals1 r1
 cases ru
 obtain ⟨its,rv,pl,hz⟩:=I1.list hq
 have lb:its.length=ns.length:=by have:=rv.length;rw [List.length_map] at this;exact this.symm
 show wpAny _ _ (call (.builtin "max") [.ref a] [(Str.ofString "default",Value.int d s1.toks)]) _ _ _
 refine call_maxD (I1.ok.hd hc) pl.isList lb (fun i v e=>?_) fun m t' h' tk hM hk=>?_
 ·have hi:i < ns.length:=by rw [<- lb];exact (List.getElem?_eq_some_iff.mp e).1
  obtain ⟨u,hu,ru⟩:=rv.get (i:=i) (x:=V.int ns[i]) (by rw [List.getElem?_map,List.getElem?_eq_getElem hi];rfl)
  rw [e] at hu
  cases hu
  obtain ⟨t,rfl⟩:=ru
  exact ⟨t,by rw [List.getD_eq_getElem?_getD,List.getElem?_eq_getElem hi];rfl⟩
 ·exact ⟨.int m,H1,I1.kept (t':=tk) hk,⟨t',rfl⟩,q m hM⟩
theorem qem {X:Cx} (K:W.Frag) {e:Expr} {t:TA} {d:Int} {j:Nat} {p p1 p2 pos:Pos} (hc:X.calm=true) (hg:Gl X "max") (hm:X.mg "max" = none) (ha:PA X [e] t) (hK:X.K=K:=by rfl)
  (hb:backTo pos (starEach [e] X.env)=(false,eval e X.env) :: backTo pos (starEach [] X.env):=by rfl) (hp:(backTo pos (starEach [e] X.env)).any (·.1)=false:=by rfl) :
  PE X (.Call (.Name "max" p) [e] [⟨some "default",.Constant (.int d) j p1,p2⟩] pos) (tCB (rMaxD K d) t):=by subst hK;exact qgp hc hg hm ha hb hp
end L2
namespace L2
open PySem PySem.Spec PyProof.Rows
abbrev ah1 (h:Heap) (l1:Addr) (b1:Bool):Heap:=h.push (itO l1 b1)
abbrev ah2 (h:Heap) (l1 l2:Addr) (b1 b2:Bool):Heap:=(ah1 h l1 b1).push (itO l2 b2)
abbrev ah3 (h:Heap) (l1 l2 l3:Addr) (b1 b2 b3:Bool):Heap:=(ah2 h l1 l2 b1 b2).push (itO l3 b3)
abbrev ah4 (h:Heap) (l1 l2 l3:Addr) (b1 b2 b3:Bool):Heap:=(ah3 h l1 l2 l3 b1 b2 b3).push { cls:=.type "tuple",data:=.seq #[.ref h.objs.size,.ref (ah1 h l1 b1).objs.size,.ref (ah2 h l1 l2 b1 b2).objs.size] }
abbrev ah5 (h:Heap) (l1 l2 l3:Addr) (b1 b2 b3:Bool):Heap:=(ah4 h l1 l2 l3 b1 b2 b3).push { cls:=.type "tuple",data:=.seq #[.none,.none,.none] }
abbrev ah6 (h:Heap) (l1 l2 l3:Addr) (b1 b2 b3:Bool):Heap:=(ah5 h l1 l2 l3 b1 b2 b3).push { cls:=.type "zip",data:=.fields #[.none,.bool false,.bool false,.ref (ah3 h l1 l2 l3 b1 b2 b3).objs.size,.ref (ah4 h l1 l2 l3 b1 b2 b3).objs.size] }
theorem Yh (l1 l2 l3:Addr) (b1 b2 b3:Bool) (xs ys zs:Array Value) :
  Meets (Builtin.«zip.__new__» ⟨[.type "zip",.ref l1,.ref l2,.ref l3],[]⟩) (fun _ R s=>HasA s.heap l1 xs b1/\HasA s.heap l2 ys b2/\HasA s.heap l3 zs b3/\R (.ok (.ret (.ref (ah5 s.heap l1 l2 l3 b1 b2 b3).objs.size))) { s with heap:=ah6 s.heap l1 l2 l3 b1 b2 b3 }) :=
 .of_wp fun prog w A R s h=>by
  obtain ⟨hp,g,d,tk,os⟩:=s
  obtain ⟨m1,m2,m3,h⟩:=h
  have hsub:=sub_zip
  have n1:HasA (Shared.heap ⟨hp,g,d,tk,os⟩) l1 xs b1:=m1
  have n2:HasA (ah1 hp l1 b1) l2 ys b2:=HasA.keep (fun o e=>Heap.get?_push_of_some _ e) m2
  have n3:HasA (ah2 hp l1 l2 b1 b2) l3 zs b3:=HasA.keep (fun o e=>Heap.get?_push_of_some _ (Heap.get?_push_of_some _ e)) m3
  wp_walk using pyIterA n1,pyIterA n2,pyIterA n3
  exact ⟨_,rfl,h⟩
theorem qbf {P:Program} {w:World} {A:Around} {E:Value->Shared->Prop} {s:Shared} {l1 l2 l3:Addr} {b1 b2 b3:Bool} {xs ys zs:Array Value} {Q:Value->Shared->Prop} (m1:HasA s.heap l1 xs b1) (m2:HasA s.heap l2 ys b2) (m3:HasA s.heap l3 zs b3)
  (q : ∀ h',IsZip h' (s.heap.objs.size+5) (s.heap.objs.size+3) (s.heap.objs.size+4) .none->IsTri h' (s.heap.objs.size+3) (.ref s.heap.objs.size) (.ref (s.heap.objs.size+1)) (.ref (s.heap.objs.size+2)) ->
   IsTri h' (s.heap.objs.size+4) .none .none .none->ItA h' s.heap.objs.size l1 0 b1->ItA h' (s.heap.objs.size+1) l2 0 b2->ItA h' (s.heap.objs.size+2) l3 0 b3->(∀ c o,s.heap.get? c=some o->h'.get? c=some o)->Q (.ref (s.heap.objs.size+5)) { s with heap:=h' }) :
  wpAny (model P w) A (call (.type "zip") [.ref l1,.ref l2,.ref l3]) Q E s:=by
 refine callType_new F.called_zip (by decide) (Vo _ _ _) (Zo _ _ _) (fun ob=>zy ob _ _ _) F.entry_zip_new (Yh l1 l2 l3 b1 b2 b3 xs ys zs) ⟨m1,m2,m3,?_⟩
 have k1:(ah1 s.heap l1 b1).objs.size=s.heap.objs.size+1:=Heap.size_push ..
 have k2:(ah2 s.heap l1 l2 b1 b2).objs.size=s.heap.objs.size+2:=by rw [Heap.size_push,k1]
 have k3:(ah3 s.heap l1 l2 l3 b1 b2 b3).objs.size=s.heap.objs.size+3:=by rw [Heap.size_push,k2]
 have k4:(ah4 s.heap l1 l2 l3 b1 b2 b3).objs.size=s.heap.objs.size+4:=by rw [Heap.size_push,k3]
 have k5:(ah5 s.heap l1 l2 l3 b1 b2 b3).objs.size=s.heap.objs.size+5:=by rw [Heap.size_push,k4]
 have fr:∀ b l,(itO l b).isFreed=false:=fun b l=>by cases b <;> rfl
 have t6:(ah6 s.heap l1 l2 l3 b1 b2 b3).get? (ah5 s.heap l1 l2 l3 b1 b2 b3).objs.size=some _:=Heap.get?_push_size _ rfl
 have t5:(ah6 s.heap l1 l2 l3 b1 b2 b3).get? (ah4 s.heap l1 l2 l3 b1 b2 b3).objs.size=some _:=Heap.get?_push_of_some _ (Heap.get?_push_size _ rfl)
 have t4:(ah6 s.heap l1 l2 l3 b1 b2 b3).get? (ah3 s.heap l1 l2 l3 b1 b2 b3).objs.size=some _:=Heap.get?_push_of_some _ (Heap.get?_push_of_some _ (Heap.get?_push_size _ rfl))
 have t3:(ah6 s.heap l1 l2 l3 b1 b2 b3).get? (ah2 s.heap l1 l2 b1 b2).objs.size=some (itO l3 b3):=Heap.get?_push_of_some _ (Heap.get?_push_of_some _ (Heap.get?_push_of_some _ (Heap.get?_push_size _ (fr _ _))))
 have t2:(ah6 s.heap l1 l2 l3 b1 b2 b3).get? (ah1 s.heap l1 b1).objs.size=some (itO l2 b2):=Heap.get?_push_of_some _ (Heap.get?_push_of_some _ (Heap.get?_push_of_some _ (Heap.get?_push_of_some _ (Heap.get?_push_size _ (fr _ _)))))
 have t1:(ah6 s.heap l1 l2 l3 b1 b2 b3).get? s.heap.objs.size=some (itO l1 b1):=Heap.get?_push_of_some _ (Heap.get?_push_of_some _ (Heap.get?_push_of_some _ (Heap.get?_push_of_some _ (Heap.get?_push_of_some _ (Heap.get?_push_size _ (fr _ _))))))
 show _/\_
 rw [k3,k4,k5] at t6
 rw [k1,k2,k3] at t4
 rw [k4] at t5
 rw [k2] at t3
 rw [k1] at t2
 rw [k5]
 exact ⟨⟨_,t6,rfl⟩,q _ t6 t4 t5 (Yy t1) (Yy t2) (Yy t3) fun c o e=>Heap.get?_push_of_some _ (Heap.get?_push_of_some _ (Heap.get?_push_of_some _ (Heap.get?_push_of_some _ (Heap.get?_push_of_some _ (Heap.get?_push_of_some _ e)))))⟩
def Itz3A (K:W.Frag) (b1 b2 b3:Bool) (l1 l2 l3:Addr):It:=ItP (fun i H=>∃ xs x ys y zs v,SqA K H l1 xs b1/\xs[i]? = some x/\SqA K H l2 ys b2/\ys[i]? = some y/\SqA K H l3 zs b3/\zs[i]? = some v) (fun i H=>∃ xs ys zs,SqA K H l1 xs b1/\SqA K H l2 ys b2/\SqA K H l3 zs b3/\min xs.length (min ys.length zs.length)=i)
 (fun i H vs=>∃ x y v,(∀ xs,SqA K H l1 xs b1->xs[i]? = some x)/\(∀ ys,SqA K H l2 ys b2->ys[i]? = some y)/\(∀ zs,SqA K H l3 zs b3->zs[i]? = some v)/\vs=[x,y,v])
theorem qbg {K:W.Frag} {b1 b2 b3:Bool} {l1 l2 l3:Addr} {xs ys zs:List V}:Sure2 (Itz3A K b1 b2 b3 l1 l2 l3) ((xs.zip (ys.zip zs)).map fun p=>[p.1,p.2.1,p.2.2]) (fun H=>SqA K H l1 xs b1/\SqA K H l2 ys b2/\SqA K H l3 zs b3) where
 go:=fun i H hi h=>by
  have hi':i < xs.length/\i < ys.length/\i < zs.length:=by simpa [Nat.lt_min] using hi
  exact ⟨xs,xs[i],ys,ys[i],zs,zs[i],h.1,by simp [hi'.1],h.2.1,by simp [hi'.2.1],h.2.2,by simp [hi'.2.2]⟩
 yld:=fun i H v H' hi h z=>by
  obtain ⟨T,vs,n,rfl,⟨x,y,v,h1,h2,h3,rfl⟩,rfl⟩:=z
  refine ⟨T,_,n,rfl,rfl,?_⟩
  have e2:(ys.zip zs)[i]? = some (y,v):=List.getElem?_zip_eq_some.mpr (show ys[i]? = some (y,v).1/\zs[i]? = some (y,v).2 from ⟨h2 ys h.2.1,h3 zs h.2.2⟩)
  rw [List.getElem?_map,List.getElem?_zip_eq_some.mpr (show xs[i]? = some (x,(y,v)).1/\(ys.zip zs)[i]? = some (x,(y,v)).2 from ⟨h1 xs h.1,e2⟩)]
  rfl
 stop:=fun H h=>⟨xs,ys,zs,h.1,h.2.1,h.2.2,by simp⟩
theorem qbh {P:Program} {w:World} {K:W.Frag} {b1 b2 b3:Bool} {elts:List Expr} {k:Nat} {pos:Pos} (l1 l2 l3 z TI TO i1 i2 i3:Addr) (D:Apart3 z TI TO i1 i2 i3 l1 l2 l3) :
  Turn P w K (.Tuple elts k pos) (Itz3A K b1 b2 b3 l1 l2 l3) [z,TI,TO,i1,i2,i3] z (fun i h=>IsZip h z TI TO .none/\IsTri h TI (.ref i1) (.ref i2) (.ref i3)/\(∃ a b c,IsTri h TO a b c)/\ItA h i1 l1 i b1/\ItA h i2 l2 i b2/\ItA h i3 l3 i b3):=by
 exact {
  mem:=by simp
  obj:=fun i h st b hb=>by
   obtain ⟨h1,h2,⟨a,b',c',h3⟩,h4,h5,h6⟩:=st
   obtain ⟨o4,e4,q4,_⟩:=h4.obj
   obtain ⟨o5,e5,q5,_⟩:=h5.obj
   obtain ⟨o6,e6,q6,_⟩:=h6.obj
   have hb':b=z\/b=TI\/b=TO\/b=i1\/b=i2\/b=i3:=by simpa using hb
   rcases hb' with e | e | e | e | e | e
   ·rw [e];exact ⟨_,h1,fun v z=>by cases z⟩
   ·rw [e];exact ⟨_,h2,fun v z=>by cases z⟩
   ·rw [e];exact ⟨_,h3,fun v z=>by cases z⟩
   ·rw [e];exact ⟨o4,e4,fun v z=>by rw [q4] at z;cases z⟩
   ·rw [e];exact ⟨o5,e5,fun v z=>by rw [q5] at z;cases z⟩
   ·rw [e];exact ⟨o6,e6,fun v z=>by rw [q6] at z;cases z⟩
  keep:=fun i h h' st kk=>by
   obtain ⟨h1,h2,⟨a,b',c',h3⟩,h4,h5,h6⟩:=st
   exact ⟨kk z (by simp) _ h1,kk TI (by simp) _ h2,⟨a,b',c',kk TO (by simp) _ h3⟩,ItA.at (fun o x=>kk i1 (by simp) o x) h4,ItA.at (fun o x=>kk i2 (by simp) o x) h5,ItA.at (fun o x=>kk i3 (by simp) o x) h6⟩
  item:=by
   intro X hP hw hK hc i pins s σ H E I hf st hg
   subst hP hw hK
   obtain ⟨xs,x,ys,y,zs,v,hq1,hx,hq2,hy,hq3,hv3⟩:=hg
   obtain ⟨its1,rv1,p1,hz1⟩:=I.seqA hq1
   obtain ⟨its2,rv2,p2,hz2⟩:=I.seqA hq2
   obtain ⟨its3,rv3,p3,hz3⟩:=I.seqA hq3
   obtain ⟨u,hu,ru⟩:=rv1.get hx
   obtain ⟨v2,hv2,rvy⟩:=rv2.get hy
   obtain ⟨v3,hv3',rvv⟩:=rv3.get hv3
   obtain ⟨h1,h2,⟨a0,b0,c0,h3⟩,h4,h5,h6⟩:=st
   have hT:s.TypeIs (.ref z) "zip":=⟨_,h1,rfl⟩
   unfold pyNext
   refine wpAny_bind (wpAny_attempt (wpAny_callSpecial?_slot (name:=Str.ofString "__next__") hT F.slot_zip_next (wpAny_call_entry F.slot_zip_next hT F.entry_zip_next
    (qcu (srcA i1 l1 D.l1i1 its1.toArray b1) (srcA i2 l2 D.l2i2 its2.toArray b2) (srcA i3 l3 D.l3i3 its3.toArray b3) D h1 h2 h3 ⟨h4,p1⟩ ⟨h5,p2⟩ ⟨h6,p3⟩ (by simpa using hu) (by simpa using hv2) (by simpa using hv3') fun h' T y1 y2 y3 y4 y4b y5 y6 y7 y8 y9 y10 y10b kk=>wpAny_pure ?_) (F.args_zip_next_1 _))))
   refine ⟨_,rfl,?_⟩
   refine wpAny_letOwnedTupleGo_zip (s:={ s with heap:=h' }) y1 fun h2' y11 u11=>?_
   have nTI:T≠TI:=Nat.ne_of_gt (Nat.lt_of_lt_of_le (Heap.lt_size h2) y6)
   have kk2:∀ b o,b ∉ [z,TI,TO,i1,i2,i3]->s.heap.get? b=some o->h2'.get? b=some o:=fun b o hb e=>by
    have hb':b≠z/\b≠TI/\b≠TO/\b≠i1/\b≠i2/\b≠i3:=by simpa using hb
    exact u11.extBut _ _ hb'.1 (kk b o hb'.1 hb'.2.2.1 hb'.2.2.2.1 hb'.2.2.2.2.1 hb'.2.2.2.2.2 e)
   refine ⟨.ref T,upd H T (.tup [x,y,v]),I.newTup (ch:=[z,TI,TO,i1,i2,i3]) (t':=s.toks) (its:=[u,v2,v3]) hf kk2 y6 (.cons ru (.cons rvy (.cons rvv .nil))) ⟨⟨_,u11.extBut _ _ y7 y5,rfl,_,rfl⟩,_,u11.extBut _ _ y7 y5,rfl⟩ (by show 3<=sizeLine;decide),rfl,
    ⟨T,_,I.hok.fresh y6,rfl,⟨x,y,v,fun zs hz=>I.seqA_inj hq1 hz hx,fun zs hz=>I.seqA_inj hq2 hz hy,fun zs hz=>I.seqA_inj hq3 hz hv3,rfl⟩,rfl⟩,⟨y11,u11.extBut _ _ D.TIz (kk _ _ D.TIz D.TITO D.TIi1 D.TIi2 D.TIi3 h2),⟨_,_,_,u11.extBut _ _ D.TOz y2⟩,ItA.at (fun o e=>u11.extBut _ _ D.i1z e) y3.1,ItA.at (fun o e=>u11.extBut _ _ D.i2z e) y4.1,ItA.at (fun o e=>u11.extBut _ _ D.i3z e) y4b.1⟩,fun b hb=>?_⟩
   have nb:b≠T:=fun q=>by
    have hb':b=z\/b=TI\/b=TO\/b=i1\/b=i2\/b=i3:=by simpa using hb
    rw [q] at hb'
    rcases hb' with e | e | e | e | e | e
    ·exact y7 e
    ·exact nTI e
    ·exact y8 e
    ·exact y9 e
    ·exact y10 e
    ·exact y10b e
   rw [qg nb];exact (hf b hb).1
  done:=by
   intro X hP hw hK hc i pins s σ H E I hf st hg
   subst hP hw hK
   obtain ⟨xs,ys,zs,hq1,hq2,hq3,hi⟩:=hg
   obtain ⟨its1,rv1,p1,hz1⟩:=I.seqA hq1
   obtain ⟨its2,rv2,p2,hz2⟩:=I.seqA hq2
   obtain ⟨its3,rv3,p3,hz3⟩:=I.seqA hq3
   obtain ⟨h1,h2,⟨a0,b0,c0,h3⟩,h4,h5,h6⟩:=st
   have hT:s.TypeIs (.ref z) "zip":=⟨_,h1,rfl⟩
   have hend:its1.toArray[i]? = none\/its2.toArray[i]? = none\/its3.toArray[i]? = none:=by
    have e1:=rv1.length
    have e2:=rv2.length
    have e3:=rv3.length
    have:xs.length<=i\/ys.length<=i\/zs.length<=i:=by omega
    rcases this with h | h | h
    ·exact .inl (by simp;omega)
    ·exact .inr (.inl (by simp;omega))
    ·exact .inr (.inr (by simp;omega))
   unfold pyNext
   refine wpAny_bind (wpAny_attempt (wpAny_callSpecial?_slot (name:=Str.ofString "__next__") hT F.slot_zip_next (wpAny_call_entry F.slot_zip_next hT F.entry_zip_next
    (qel (I.ok.hd hc) (srcA i1 l1 D.l1i1 its1.toArray b1) (srcA i2 l2 D.l2i2 its2.toArray b2) (srcA i3 l3 D.l3i3 its3.toArray b3) D h1 h2 h3 ⟨h4,p1⟩ ⟨h5,p2⟩ ⟨h6,p3⟩ hend fun h' e kk he=>?_) (F.args_zip_next_1 _))))
   obtain ⟨oe,hoe,ce⟩:=he
   refine wpAny_bind (wpAny_isInstance (T:="StopIteration") (b:=true) ⟨oe,hoe,ce⟩ isSubtype_stop (wpAny_pure ⟨rfl,?_⟩))
   have kk':∀ b o,b ∉ [z,TO,i1,i2,i3]->s.heap.get? b=some o->h'.get? b=some o:=fun b o hb e=>by
    have hb':b≠z/\b≠TO/\b≠i1/\b≠i2/\b≠i3:=by simpa using hb
    exact kk b o hb'.1 hb'.2.1 hb'.2.2.1 hb'.2.2.2.1 hb'.2.2.2.2 e
   have inf:∀ b,b∈[z,TO,i1,i2,i3]->b∈[z,TI,TO,i1,i2,i3]:=fun b hb=>by simp at hb ⊢;rcases hb with e | e | e | e | e <;> simp [e]
   refine I.step (t':=s.toks) (g':=s.gens) (d':=s.drawn) (ch:=[z,TO,i1,i2,i3]) (fun b hb=>?_) (fun b o _ _ hc e _=>kk' b o hc e) (fun b o _ _ hc e _=>⟨o.slots,kk' b o hc e⟩) (fun _ _ _ _ n=>n)
    (fun b o hc e=>⟨o,kk' b o hc e⟩) (fun _ _ e=>e) (fun _ _ _ e=>e) (fun b ps e=>⟨#[],by rw [e];simp⟩) (fun m hm=>?_) (fun b u e=>?_) I.bare
   ·obtain ⟨_,a1,_,a2,a3,a4⟩:=hf b (inf b hb)
    exact ⟨a2,a1,a3,a4⟩
   ·obtain ⟨o,es,ep,ho,r⟩:=hm
    exact ⟨o,es,ep,kk' _ o (fun q=>(hf _ (inf _ q)).2.1 rfl) ho,r⟩
   ·have nch:∀ b u,H b=some u->b ∉ [z,TO,i1,i2,i3]:=fun b u e hb=>by
     rw [(hf b (inf b hb)).1] at e;cases e
    refine (I.hok b u e).stay (fun c v hc q=>kk' c v ?_ q) (fun _ q=>q) fun _ _ q=>q
    rcases hc with z' | z'
    ·rw [z'];exact nch b u e
    ·exact nch c _ z'
  self:=fun _ _ _ _ _ st h=>wpAny_pyIter_zip st.1 h }
def iZip3A (K:W.Frag) (b1 b2 b3:Bool) (ta:TA):TI:=fun σ H R=>ta σ H fun vs H1=>∃ a b c,vs=[.ref a,.ref b,.ref c]/\(∃ xs,SqA K H1 a xs b1)/\(∃ ys,SqA K H1 b ys b2)/\(∃ zs,SqA K H1 c zs b3)/\R (Itz3A K b1 b2 b3 a b c) H1
theorem pi_zip3A {X:Cx} (b1 b2 b3:Bool) {l l' l'':Expr} {ta:TA} {elts:List Expr} {k:Nat} {tp p pos:Pos} (hg:Gl X "zip") (hm:X.mg "zip" = none) (hl:PA X [l,l',l''] ta) (hs:starEach [l,l',l''] X.env=(false,eval l X.env) :: starEach [l',l''] X.env:=by rfl) (hs2:starEach [l',l''] X.env=[(false,eval l' X.env),(false,eval l'' X.env)]:=by rfl) :
  PI X (.Tuple elts k tp) (.Call (.Name "zip" p) [l,l',l''] [] pos) (iZip3A X.K b1 b2 b3 ta):=by
 intro pins s σ H R I h
 refine Call_ (ld_blt I hg hm (by first | exact boot_zip | decide +kernel) (PyProof.Rows.callWith_type1 (thn (hl pos pins s σ H _ I h) fun us s1 ⟨vs,H1,I1,r1,q1⟩=>?_) hs (by rw [hs2];rfl)))
 obtain ⟨a,b,c,e,⟨xs,hq1⟩,⟨ys,hq2⟩,⟨zs,hq3⟩,q⟩:=q1
 subst e
 cases r1 with
 | cons ra rr =>
 cases rr with
 | cons rb rr =>
 cases rr with
 | cons rc rr =>
 cases rr
 cases ra
 cases rb
 cases rc
 obtain ⟨its,rv,p,hz⟩:=I1.seqA hq1
 obtain ⟨its2,rv2,p2,hz2⟩:=I1.seqA hq2
 obtain ⟨its3,rv3,p3,hz3⟩:=I1.seqA hq3
 obtain ⟨oa,hoa,_⟩:=p.obj
 obtain ⟨ob,hob,_⟩:=p2.obj
 obtain ⟨oc,hoc,_⟩:=p3.obj
 have la:=Heap.lt_size hoa
 have lb:=Heap.lt_size hob
 have lc:=Heap.lt_size hoc
 refine qbf p p2 p3 fun h' hz' hTI hTO hi1 hi2 hi3 kk=>?_
 have I2:Inv X pins σ H1 { s1 with heap:=h' }:=I1.kept (t':=s1.toks) kk
 refine wpAny_pyIter_zip (s:={ s1 with heap:=h' }) hz' ?_
 have nn:∀ {c:Addr} (j:Nat),c < s1.heap.objs.size->c≠s1.heap.objs.size+j:=fun j hc=>Nat.ne_of_lt (Nat.lt_of_lt_of_le hc (Nat.le_add_right _ _))
 have D:Apart3 (s1.heap.objs.size+5) (s1.heap.objs.size+3) (s1.heap.objs.size+4) s1.heap.objs.size (s1.heap.objs.size+1) (s1.heap.objs.size+2) a b c :=
  ⟨by simp,by simp,by simp,by simp,by simp,by simp,by simp,by simp,by simp,by simp,by simp,by simp,by simp,by simp,by simp,nn 5 la,nn 4 la,nn 0 la,nn 1 la,nn 2 la,nn 5 lb,nn 4 lb,nn 0 lb,nn 1 lb,nn 2 lb,nn 5 lc,nn 4 lc,nn 0 lc,nn 1 lc,nn 2 lc⟩
 refine ⟨s1.heap.objs.size+5,[s1.heap.objs.size+5,s1.heap.objs.size+3,s1.heap.objs.size+4,s1.heap.objs.size,s1.heap.objs.size+1,s1.heap.objs.size+2],_,_,H1,rfl,I2,
  qbh a b c _ _ _ _ _ _ D,⟨hz',hTI,⟨_,_,_,hTO⟩,hi1,hi2,hi3⟩,fun c hb=>?_,q⟩
 have:s1.heap.objs.size<=c:=by
  have hb':c=s1.heap.objs.size+5\/c=s1.heap.objs.size+3\/c=s1.heap.objs.size+4\/c=s1.heap.objs.size\/c=s1.heap.objs.size+1\/c=s1.heap.objs.size+2:=by simpa using hb
  rcases hb' with e | e | e | e | e | e <;> rw [e] <;> first | exact Nat.le_refl _ | exact Nat.le_add_right _ _
 exact I1.fpOk this (I1.hok.fresh this)
theorem Yi {X:Cx} (K:W.Frag) {l l' l'':Expr} {ta:TA} {elts:List Expr} {k:Nat} {tp p pos:Pos} (hg:Gl X "zip") (hm:X.mg "zip" = none) (hl:PA X [l,l',l''] ta) (hs:starEach [l,l',l''] X.env=(false,eval l X.env) :: starEach [l',l''] X.env:=by rfl) (hs2:starEach [l',l''] X.env=[(false,eval l' X.env),(false,eval l'' X.env)]:=by rfl) (hK:X.K=K:=by rfl) :
  PI X (.Tuple elts k tp) (.Call (.Name "zip" p) [l,l',l''] [] pos) (iZip3A K true true false ta):=by subst hK;exact pi_zip3A true true false hg hm hl hs hs2
end L2
namespace L2
open PySem PySem.Spec PyProof.Rows
theorem Zp {h h' b b':Heap}:∀ {l:List Env},(∀ L o,b.get? L=none->h.get? L=some o->b'.get? L=none/\h'.get? L=some o)->h.FunFrames b l->h'.FunFrames b' l
 | [],_,_=>trivial
 | env :: l,k,⟨hk,⟨L,o,hf,hn,ho,hd⟩,hr⟩=>⟨hk,⟨L,o,hf,(k L o hn ho).1,(k L o hn ho).2,hd⟩,Zp k hr⟩
section
variable {M:Model} {A:Around} {E':Value->Shared->Prop} {s:Shared} {b:Heap} {env:Env} {outer:List Env} {L e:Addr} {cls a0 fl:Value}
theorem qcw {Q:Unit->Shared->Prop} (hfr:A.frames=some (env :: outer)) (hf:env.frame=some L) (kb:b.StaysIn s.heap) (en:b.get? e=none) (hl:s.heap.FunFrames b (env :: outer)) (ht:s.heap.TracedAtW b e cls a0 fl)
  (hQ:∀ h',Heap.FlyingW b outer e cls a0 h'->s.heap.UpToSlots h'->Q () { s with heap:=h' }):wpAny M A (leaving env (.ref e)) Q E' s:=by
 unfold leaving
 have fin:∀ {s1:Shared} {fl':Value},b.StaysIn s1.heap->s1.heap.FunFrames b (env :: outer)->s1.heap.TracedAtW b e cls a0 fl'->s.heap.UpToSlots s1.heap->s1 = { s with heap:=s1.heap }->wpAny M A (setFlight (.ref e) none) Q E' s1:=fun {s1 fl'} k1 k2 k3 k4 k5=>by
  refine wpAny_setFlight_noneW k1 k2 k3 fun h' x1 x2 x3 x4=>?_
  obtain ⟨_,_,x2'⟩:=x2
  have:=hQ h' ⟨x1,en,x2',x3⟩ (k4.trans fun c o hc hn=>⟨o.slots,x4 c o hc hn⟩)
  rw [k5]
  exact this
 refine wpAny_bind ?_
 obtain ⟨oe,vs,T,oT,ts,he,⟨hcls,h0⟩,hd,h1,hnT,hTe,hT,hdT,h3⟩:=id ht
 subst hcls
 unfold noteFrame
 simp only [hf]
 refine wpAny_bind (wpAny_field he hd h1 ?_)
 rw [if_pos (show (Value.ref T != Value.none)=true from by simp)]
 refine wpAny_bind (wpAny_field hT hdT h3 ?_)
 cases hb:(fl == rawInt L) with
 | true =>
  rw [if_pos rfl]
  exact wpAny_pure (fin kb hl ht (Heap.UpToSlots.refl _) rfl)
 | false =>
  rw [if_neg (by decide)]
  refine wpAny_bind (wpAny_setField hT hdT (Array.getElem?_eq_some_iff.mp h3).1 ?_)
  have other:∀ c,c≠T->(s.heap.update T (Obj.mapFields (·.setIfInBounds 3 Value.none))).get? c=s.heap.get? c:=fun c hc=>Heap.get?_update_other _ _ (Ne.symm hc)
  have noR:∀ c o,s.heap.get? c=some o->(∀ vs,o.data≠.fields vs)->c≠T:=fun c o hc hn z=>by
   rw [z,hT] at hc
   injection hc with hc
   subst hc
   exact hn ts hdT
  refine wpAny_entryW (hadNext:=true) hfr (hl.of_keeps fun c o hc hn=>⟨o,(other c (noR c o hc hn)).trans hc,rfl⟩) hf ((other e (Ne.symm hTe)).trans he)
   (fun c o hc=>(other c fun z=>by rw [z,hnT] at hc;cases hc).trans (kb c o hc)) en hd (Array.getElem?_eq_some_iff.mp h1).1 h0 fun h' ⟨x1,x2,x3,x4⟩=>?_
  exact fin x1 x2 x3 (fun c o hc hn=>x4 c o ((other c (noR c o hc hn)).trans hc) hn) rfl
theorem qgq {α:Type} {Q:α->Shared->Prop} {what:String} {cenv:Env} (kb:b.StaysIn s.heap) (hl:s.heap.FunFrames b outer) (ht:s.heap.TracedAtW b e cls a0 fl)
  (hE:∀ h' fl',b.StaysIn h'->h'.FunFrames b outer->h'.TracedAtW b e cls a0 fl'->s.heap.UpToSlots h'->E' (.ref e) { s with heap:=h' }):wpAny M A (PySem.passOn what (.ref e) cenv) Q E' s:=by
 obtain ⟨oe,vs,T,oT,ts,he,hcls,hd,h1,hnT,hTe,hT,hdT,h3⟩:=ht
 have sz:3 < ts.size:=(Array.getElem?_eq_some_iff.mp h3).1
 have other:∀ c,c≠T->(s.heap.update T (Obj.mapFields (·.setIfInBounds 3 (cenv.frame.elim Value.none fun f=>rawInt f)))).get? c=s.heap.get? c:=fun c hc=>Heap.get?_update_other _ _ (Ne.symm hc)
 have noR:∀ c o,s.heap.get? c=some o->(∀ vs,o.data≠.fields vs)->c≠T:=fun c o hc hn z=>by
  rw [z,hT] at hc
  injection hc with hc
  subst hc
  exact hn ts hdT
 unfold PySem.passOn
 refine wpAny_bind (wpAny_field he hd h1 ?_)
 rw [if_neg (show ¬ ((Value.ref T == Value.none)=true) from by simp)]
 unfold setFlight
 refine wpAny_bind (wpAny_bind (wpAny_field he hd h1 ?_))
 rw [if_pos (show (Value.ref T != Value.none)=true from by simp)]
 refine wpAny_setField hT hdT sz (wpAny_throw (hE _ (cenv.frame.elim Value.none fun f=>rawInt f) (fun c o hc=>(other c fun z=>by rw [z,hnT] at hc;cases hc).trans (kb c o hc))
  (hl.of_keeps fun c o hc hn=>⟨o,(other c (noR c o hc hn)).trans hc,rfl⟩) ?_ fun c o hc hn=>⟨o.slots,(other c (noR c o hc hn)).trans hc⟩))
 exact ⟨oe,vs,T,_,_,(other e (Ne.symm hTe)).trans he,hcls,hd,h1,hnT,hTe,Heap.get?_update_self _ hT (Obj.isFreed_of_fields (Obj.data_mapFields hdT _)),Obj.data_mapFields hdT _,by simp [sz]⟩
end
def YX (P:Program) (w:World) (E:XK) (X:Cx):Value->Shared->Prop:=fun u s'=>∃ pins τ H0 s0,Inv X pins τ H0 s0/\CX1 P w X.stack H0 s0 E u s'
abbrev compCxE (E:XK) (X:Cx) (scope:Scope) (N':List Str) (cells:List (Str × Addr)) (C:Addr) (s₀:Shared) (H₀:Hp) (ex:List Addr) (pn:List (Addr × Obj)):Cx :=
 (compCx X scope N' cells C s₀ H₀ ex pn).wish (YX X.prog X.w E (compCx X scope N' cells C s₀ H₀ ex pn))
theorem passX {E:XK} {X:Cx} {scope:Scope} {N':List Str} {cells:List (Str × Addr)} {C:Addr} {s₀:Shared} {H₀:Hp} {ex:List Addr} {pn:List (Addr × Obj)}:Passes (CX1 X.prog X.w) (compCxE E X scope N' cells C s₀ H₀ ex pn) E :=
 fun pins σ H s _ _ I hx=>⟨pins,σ,H,s,I.unwish,hx⟩
section
variable {P:Program} {w:World} {K:W.Frag} {mg:Str->Option Value} {base:Heap} {N:List Str} {qual:Str} {scope:Scope} {f:Addr} {cdv:Value} {A:Around} {outer:List Env} {s:Shared} {H:Hp} {E:XK}
theorem qen {pins:List (Addr × Obj)} {σ:St} {H2:Hp} {s2 s':Shared} {u:Value} {scp:Scope} {N':List Str} {cells:List (Str × Addr)} {C:Addr} {fp:List Addr} {acc:Value} {use:Option (Value->Sem Unit)} {Q':Value->Shared->Prop}
  (I2:Inv (cxOf (CX1 P w) P w K mg base N qual scope f cdv A outer s H E) pins σ H2 s2) (f2:∀ b∈fp,FpOk (cxOf (CX1 P w) P w K mg base N qual scope f cdv A outer s H E) pins H2 b) (hC:s2.heap.objs.size<=C)
  (hy:YX P w E (compCx (cxOf (CX1 P w) P w K mg base N qual scope f cdv A outer s H E) scp N' cells C s2 H2 fp []) u s') :
  notedBy (model P w) (cxOf (CX1 P w) P w K mg base N qual scope f cdv A outer s H E).A (compCx (cxOf (CX1 P w) P w K mg base N qual scope f cdv A outer s H E) scp N' cells C s2 H2 fp []).env
   (fun x s''=>compPost (model P w) (cxOf (CX1 P w) P w K mg base N qual scope f cdv A outer s H E).A (cxOf (CX1 P w) P w K mg base N qual scope f cdv A outer s H E).xe use Q' acc C (.error x) s'') u s':=by
 obtain ⟨pins',τ,H0,s0,I',e,t,cls,H',b1,rfl,hos,hbare,un,hok,he,hes,hfl,cov,q⟩:=hy
 have hL:(envOfC qual scope s.heap.objs.size f cdv).frame=some s.heap.objs.size:=rfl
 have hfr:=Yz (l:=outer) hL
 have hst:=I2.stack
 have hfree:=I2.stkFree
 have un':Un (frs (envOfC qual scope s.heap.objs.size f cdv :: outer)) [] H0 H' s0.heap s'.heap:=un
 have ib:Un (frs (envOfC qual scope s.heap.objs.size f cdv :: outer)) fp H2 H0 s2.heap s0.heap:=I'.base
 have hfl':Heap.FlyingW b1 (envOfC qual scope s.heap.objs.size f cdv :: outer) e cls (.ref t) s'.heap:=hfl
 have cov':∀ b o,((∃ u,s0.heap.get? b=some u)\/∃ u,H' b=some u)->b ∉ frs (envOfC qual scope s.heap.objs.size f cdv :: outer)->s'.heap.get? b=some o->b1.get? b=some o:=cov
 have sz:s.heap.objs.size<=s2.heap.objs.size:=I2.sz
 have nC:C ∉ frs (envOfC qual scope s.heap.objs.size f cdv :: outer):=fun z=>by
  obtain ⟨_,o,ho,_⟩:=hst.mem z
  exact absurd (Nat.lt_of_lt_of_le (Heap.lt_size ho) hC) (Nat.lt_irrefl _)
 obtain ⟨m,⟨oC,es,ep,eC,r1,r2⟩,_⟩:=I'.loc
 have fC:H0 C=none:=I'.free
 have C1:s'.heap.get? C=some oC:=un'.keep C oC eC fC nC (by simp)
 have C2:b1.get? C=some oC:=cov' C oC (.inl ⟨_,eC⟩) nC C1
 have nH:H' C=none:=un'.free C oC eC fC (by simp)
 show wpAny (model P w) _ (noteFrame (.ref e) (envOfC qual scope s.heap.objs.size f cdv)) _ _ s'
 refine wpAny_looks_onW (base:=b1) I2.ok.frames hL hfl' fun h1 hh1 sm1=>?_
 have post:∃ m,h1.Ns C m/\∀ h2,Heap.SameBut C h1 h2->∀ cenv:Env,cenv.locals=C->wpAny (model P w) (cxOf (CX1 P w) P w K mg base N qual scope f cdv A outer s H E).A (PySem.passOn "comprehension.variables-let-go" (.ref e) cenv:Sem Value) (fun _ _=>False) (cxOf (CX1 P w) P w K mg base N qual scope f cdv A outer s H E).xe { s' with heap:=h2 }:=by
  refine ⟨m,⟨oC,es,ep,hh1.1 C oC C2,r1,r2⟩,fun h2 sb cenv _=>?_⟩
  have neC:∀ c,b1.get? c=none->c≠C:=fun c z y=>by rw [y,C2] at z;cases z
  have st2:(hide b1 [C]).StaysIn h2:=fun c o z=>by
   rw [vj] at z
   split at z
   ·cases z
   ·rename_i hc
    exact (sb.2 c (by simpa using hc)).trans (hh1.1 c o z)
  have e2:(hide b1 [C]).get? e=none:=by
   rw [vj]
   split
   ·rfl
   ·exact hh1.2.1
  have nb:∀ c,b1.get? c=none->(hide b1 [C]).get? c=none:=fun c z=>by
   rw [vj]
   split
   ·rfl
   ·exact z
  have fr2:h2.FunFrames (hide b1 [C]) (envOfC qual scope s.heap.objs.size f cdv :: outer):=Zp (fun L o z y=>⟨nb L z,(sb.2 L (neC L z)).trans y⟩) hh1.2.2.1
  obtain ⟨oe,vs,T,oT,ts,k1,k2,k3,k4,k5,k6,k7,k8,k9⟩:=hh1.2.2.2
  have tr2:h2.TracedAtW (hide b1 [C]) e cls (.ref t) (rawInt s.heap.objs.size):=⟨oe,vs,T,oT,ts,(sb.2 e (neC e hh1.2.1)).trans k1,k2,k3,k4,nb T k5,k6,(sb.2 T (neC T k5)).trans k7,k8,k9⟩
  refine qgq (s:={ s' with heap:=h2 }) st2 fr2 tr2 fun h3 fl' st3 fr3 tr3 sm3=>?_
  refine qcw (s:={ s' with heap:=h3 }) (env:=envOfC qual scope s.heap.objs.size f cdv) (outer:=outer) I2.ok.frames hL st3 e2 fr3 tr3 fun h5 hfl5 sm5=>?_
  have keepC:∀ b o,((∃ u,s0.heap.get? b=some u)\/∃ u,H' b=some u)->s'.heap.get? b=some o->b ∉ frs (envOfC qual scope s.heap.objs.size f cdv :: outer)->b≠C->(hide b1 [C]).get? b=some o/\h5.get? b=some o:=fun b o x1 x2 n nc=>by
   have:=Ye (fs:=[C]) (cov' b o x1 n x2) (by simpa using nc)
   exact ⟨this,hfl5.1 b o this⟩
  have slotS:∀ b o,s'.heap.get? b=some o->b∈frs (envOfC qual scope s.heap.objs.size f cdv :: outer)->∃ sl,h5.get? b=some { o with slots:=sl }:=fun b o x n=>by
   obtain ⟨nb1,o',ho',hd⟩:=hfl'.2.2.1.mem n
   rw [x] at ho'
   cases ho'
   obtain ⟨sl1,y1⟩:=sm1 b o x hd
   have y2:=(sb.2 b (neC b nb1)).trans y1
   obtain ⟨sl3,y3⟩:=sm3 b _ y2 hd
   obtain ⟨sl5,y5⟩:=sm5 b _ y3 hd
   exact ⟨sl5,y5⟩
  have nfp:∀ b o,s.heap.get? b=some o->b ∉ fp:=fun b o x z=>by
   rcases (f2 b z).2.2.2.1 with y | y
   ·exact absurd y (by simp [cxOf])
   ·exact absurd (Nat.lt_of_lt_of_le (Heap.lt_size x) y) (Nat.lt_irrefl _)
  have ncC:∀ b o,s.heap.get? b=some o->b≠C:=fun b o x z=>by
   have:=Heap.lt_size x
   rw [z] at this
   exact absurd (Nat.lt_of_lt_of_le this (Nat.le_trans sz hC)) (Nat.lt_irrefl _)
  have nin:∀ b u,s.heap.get? b=some u->b ∉ frs outer->b ∉ frs (envOfC qual scope s.heap.objs.size f cdv :: outer):=fun b u x n z=>by
   rw [hfr] at z
   rcases List.mem_cons.mp z with z | z
   ·exact absurd (Heap.lt_size x) (by rw [z];exact Nat.lt_irrefl _)
   ·exact n z
  have trk:∀ b o,H' b=some o->b ∉ frs (envOfC qual scope s.heap.objs.size f cdv :: outer)/\b≠C:=fun b o x=>by
   refine ⟨fun z=>?_,fun z=>by rw [z,nH] at x;cases x⟩
   obtain ⟨_,o',ho',_⟩:=hst.mem z
   have nf:b ∉ fp:=fun y=>by
    rcases (f2 b y).2.2.2.1 with k | k
    ·exact absurd k (by simp [cxOf])
    ·rw [hfr] at z
     rcases List.mem_cons.mp z with z | z
     ·exact (f2 b y).2.1 z
     ·exact (f2 b y).2.2.1 z
   obtain ⟨o1,h1'⟩:=ib.there b o' ho' nf
   have:=un'.free b o1 h1' (ib.free b o' ho' (hfree b z) nf) (by simp)
   rw [x] at this
   cases this
  have th:∀ b o,s.heap.get? b=some o->(∃ o',s0.heap.get? b=some o')/\∃ o',s'.heap.get? b=some o':=fun b o x=>by
   obtain ⟨o1,e1⟩:=I2.base.there b o x (by simp [cxOf])
   obtain ⟨o2,e2⟩:=ib.there b o1 e1 (nfp b o x)
   exact ⟨⟨o2,e2⟩,un'.there b o2 e2 (by simp)⟩
  refine ⟨e,t,cls,H',hide b1 [C],rfl,hos.trans (I'.os.trans I2.os),hbare,⟨fun b o x n hb _=>?_,fun b o x n hb _=>?_,fun b o x n _=>?_,fun b o x _=>?_,fun b xs x=>un'.tups b xs (ib.tups b xs (I2.base.tups b xs x)),fun b o v x=>un'.frzs b o v (ib.frzs b o v (I2.base.frzs b o v x)),fun b ps x=>?_⟩,?_,he,?_,hfl5,fun b o x n x'=>?_,q⟩
  ·have e1:=I2.base.keep b o x n hb (by simp [cxOf])
   have f1:=I2.base.free b o x n (by simp [cxOf])
   have e2:=ib.keep b o e1 f1 (nin b o x hb) (nfp b o x)
   have e3:=un'.keep b o e2 (ib.free b o e1 f1 (nfp b o x)) (nin b o x hb) (by simp)
   exact (keepC b o (.inl ⟨_,e2⟩) e3 (nin b o x hb) (ncC b o x)).2
  ·have hin:b∈frs (envOfC qual scope s.heap.objs.size f cdv :: outer):=by rw [hfr];exact List.mem_cons_of_mem _ hb
   obtain ⟨sl1,e1⟩:=I2.base.slot b o x n hb (by simp [cxOf])
   have f1:=I2.base.free b o x n (by simp [cxOf])
   obtain ⟨sl2,e2⟩:=ib.slot b _ e1 f1 hin (nfp b o x)
   obtain ⟨sl3,e3⟩:=un'.slot b _ e2 (ib.free b _ e1 f1 (nfp b o x)) hin (by simp)
   obtain ⟨sl4,e4⟩:=slotS b _ e3 hin
   exact ⟨sl4,e4⟩
  ·obtain ⟨o1,e1⟩:=I2.base.there b o x (by simp [cxOf])
   have f1:=I2.base.free b o x n (by simp [cxOf])
   obtain ⟨o2,e2⟩:=ib.there b o1 e1 (nfp b o x)
   exact un'.free b o2 e2 (ib.free b o1 e1 f1 (nfp b o x)) (by simp)
  ·obtain ⟨⟨o2,e2⟩,o3,e3⟩:=th b o x
   by_cases hb:b∈frs (envOfC qual scope s.heap.objs.size f cdv :: outer)
   ·obtain ⟨sl,e4⟩:=slotS b _ e3 hb
    exact ⟨_,e4⟩
   ·exact ⟨_,(keepC b o3 (.inl ⟨_,e2⟩) e3 hb (ncC b o x)).2⟩
  ·obtain ⟨m1,e1⟩:=I2.base.tbls b ps x
   obtain ⟨m2,e2⟩:=ib.tbls b _ e1
   obtain ⟨m3,e3⟩:=un'.tbls b _ e2
   exact ⟨m1++(m2++m3),by rw [e3,Array.append_assoc,Array.append_assoc]⟩
  ·exact hok.keptAt fun b o u x1 x2=>(keepC b u (.inr ⟨_,x1⟩) x2 (trk b o x1).1 (trk b o x1).2).2
  ·cases z:s.heap.get? e with
   | none=>rfl
   | some o =>
    obtain ⟨⟨u,hu⟩,_⟩:=th e o z
    rw [hes] at hu
    cases hu
  ·have:(∃ u,s'.heap.get? b=some u)/\((∃ u,s0.heap.get? b=some u)\/∃ u,H' b=some u)/\b ∉ frs (envOfC qual scope s.heap.objs.size f cdv :: outer)/\b≠C:=by
    rcases x with ⟨u,x⟩ | ⟨u,x⟩
    ·exact ⟨(th b u x).2,.inl (th b u x).1,nin b u x n,ncC b u x⟩
    ·exact ⟨(hok b u x).there',.inr ⟨_,x⟩,(trk b u x).1,(trk b u x).2⟩
   obtain ⟨⟨u,y1⟩,y2,y3,y4⟩:=this
   obtain ⟨y5,y6⟩:=keepC b u y2 y1 y3 y4
   rw [x'] at y6
   cases y6
   exact y5
 cases use <;> exact post
end
end L2
namespace L2
open PySem PySem.Spec PyProof.Rows
section
variable {prog:Program} {w:World} {A:Around} {R:Result->Shared->Prop} {s:Shared}
theorem Zq {Y:Value->Shared->Prop} {elt target iter:Expr} {ifs:List Expr} {scope:Scope} {pos:Pos} {it acc:Value} {env:Env} (I:Nat->Shared->Prop) (hY:∀ e s,Y e s->notedBy (model prog w) A env (fun x s'=>R (.error x) s') e s)
  (turn:∀ n s,I n s->wpAny (model prog w) A (pyNext it) (fun r s₁=>match r with
   | none=>R (.ok .next) s₁
   | some v=>wpAny (model prog w) A (letOwnedTupleGo target it v) (fun _ s₁=>wpAny (model prog w) A (assign target env v) (fun _ s₂ =>
     wpAny (model prog w) A (forIn ifs true fun c r=>if r=true then do let ok <- isTrue c env (eval c env);pure (ForInStep.yield ok) else pure (ForInStep.yield r)) (fun ok s₃ =>
      if ok=true then wpAny (model prog w) A (eval elt env) (fun x s₄ =>
       wpAny (model prog w) A (call (.builtin "list.append") [acc,x]) (fun _ s₅=>∃ m,m < n/\I m s₅) Y s₄) Y s₃
      else ∃ m,m < n/\I m s₃) Y s₂) Y s₁) Y s₁) Y s)
  (n:Nat) (h:I n s) :
  codeAny (model prog w) A (.compLoop (.ListComp elt [⟨target,iter,ifs,0⟩] scope pos) 0 it acc env) R s:=by
 refine codeAny_loop rfl I (fun n s hI=>?_) n h
 show wpAny _ A ((compTurn (.ListComp elt [⟨target,iter,ifs,0⟩] scope pos) 0 it acc env).onRaise (fun x=>do noteFrame x env;theTreesLotGoes x)) _ _ s
 refine wpAny_noted ?_
 rw [compTurn_list]
 refine wpAny_bind (wpAny_standAt (wpAny_bind (wpAny_mono (turn n s hI) (fun r s₁ h₁=>?_) hY)))
 cases r with
 | none=>exact wpAny_pure h₁
 | some v =>
  refine wpAny_bind (wpAny_mono h₁ (fun _ s₁ h₁=>?_) hY)
  refine wpAny_bind (wpAny_mono h₁ (fun _ s₂ h₂=>wpAny_bind (wpAny_mono h₂ (fun ok s₃ h₃=>?_) hY)) hY)
  cases ok with
  | false=>exact wpAny_pure ⟨rfl,h₃⟩
  | true =>
   exact wpAny_bind (wpAny_bind (wpAny_mono h₃ (fun x s₄ h₄=>wpAny_bind (wpAny_mono h₄ (fun _ s₅ h₅=>wpAny_pure (wpAny_pure ⟨rfl,h₅⟩)) hY)) hY))
end
theorem qbi {E:XK} {X:Cx} {pins:List (Addr × Obj)} {s:Shared} {σ:St} {H:Hp} {Q:VK} {use:Option (Value->Sem Unit)} {Q':Value->Shared->Prop} {cpos:Pos} {tg iter elt:Expr} {ifs:List Expr} {scope:Scope} {pos:Pos} {N':List Str} {ix:List (Option Nat)} {wi:TI} {g:TG} {tc:TT} {te:TE}
  (hc:X.calm=true) (chk:compChk X scope N' ix=true) (hi:PI X tg iter wi)
  (hg:∀ cells C s₀ H₀ ex pn,PG (compCxE E X scope N' cells C s₀ H₀ ex pn) tg g)
  (ht:∀ cells C s₀ H₀ ex pn,PTs (compCxE E X scope N' cells C s₀ H₀ ex pn) ifs tc)
  (he:∀ cells C s₀ H₀ ex pn,PE (compCxE E X scope N' cells C s₀ H₀ ex pn) elt te)
  (hout:∀ (s2:Shared) (H2:Hp) (C:Addr) (fp:List Addr) (cells:List (Str × Addr)) (acc u:Value) (s':Shared),Inv X pins σ H2 s2->(∀ b∈fp,FpOk X pins H2 b)->s2.heap.objs.size<=C->YX X.prog X.w E (compCx X scope N' cells C s2 H2 fp []) u s' ->
   notedBy (model X.prog X.w) X.A (compCx X scope N' cells C s2 H2 fp []).env (fun x s''=>compPost (model X.prog X.w) X.A X.xe use Q' acc C (.error x) s'') u s')
  (hs:∀ x,foldedSetIterable iter X.env x=pure x) (I:Inv X pins σ H s) (h:tComp ix wi g tc te σ H Q)
  (hend:∀ (s2 s4:Shared) (H2 H3:Hp) (C D:Addr) (fp:List Addr) (cells:List (Str × Addr)) (τ:St) (ys:List V) (its:List Value) (k:Nat),Inv X pins σ H2 s2->(∀ b∈fp,FpOk X pins H2 b) ->
   Inv (compCx X scope N' cells C s2 H2 fp []) [(D,lobj its k)] τ H3 s4->s2.heap.objs.size<=C->s2.heap.objs.size<=D->D≠C->Vals ys its->ys.length<=sizeLine->Q (.ref D) (upd H3 D (.lst ys)) ->
   compPost (model X.prog X.w) X.A X.xe use Q' (.ref D) C (.ok .next) s4) :
  wpAny (model X.prog X.w) X.A (comprehension (.ListComp elt [⟨tg,iter,ifs,0⟩] scope pos) scope X.env cpos (newList []) false (eval iter X.env) use) Q' X.xe s:=by
 unfold compChk at chk
 obtain ⟨chk,k5⟩:=Bool.and_eq_true_iff.mp chk
 obtain ⟨chk,k4⟩:=Bool.and_eq_true_iff.mp chk
 obtain ⟨chk,k3⟩:=Bool.and_eq_true_iff.mp chk
 obtain ⟨k1,k2⟩:=Bool.and_eq_true_iff.mp chk
 have c1:∀ p∈scope.names,scope.names.lookup p.1=some p.2:=fun p hp=>by simpa using List.all_eq_true.mp k1 p hp
 have c2:∀ p∈scope.names,p.2=.free->X.env.scope.names.lookup p.1=some .cell\/X.env.scope.names.lookup p.1=some .free:=fun p hp hf=>by
  have:=List.all_eq_true.mp k2 p hp
  rw [hf] at this
  simpa using this
 have c3:ix.length=N'.length:=by simpa using k3
 have ck:scope.kind=.function:=by simpa using k5
 have c4:∀ (i:Nat) (x:Str) (j:Nat),N'[i]? = some x->ix[i]? = some (some j)->X.N[j]? = some x/\scope.names.lookup x=some .free:=fun i x j e1 e2=>by
  have m:(x,some j)∈N'.zip ix:=by
   refine List.mem_of_getElem? (i:=i) ?_
   rw [List.getElem?_zip_eq_some]
   exact ⟨e1,e2⟩
  have:=List.all_eq_true.mp k4 _ m
  have:=Bool.and_eq_true_iff.mp this
  exact ⟨by simpa using this.1,by simpa using this.2⟩
 obtain ⟨cl,ecl,cl1,cl2⟩:=zk (env:=X.env) (scope:=scope) (fun p hp hf=>I.ok.has p.1 (c2 p hp hf))
 refine wpAny_comprehension_free (use:=use) rfl hs ecl ck (fun y hy hl=>by rw [c1 y hy,hl]) (thn (hi pins s σ H _ I h) fun v s1 h1=>thn h1 fun itv s2 h2=>?_)
 obtain ⟨it,fp,tn,J,H2,e,I2,T,st2,f2,W,⟨m0,w0⟩,turn⟩:=h2
 subst e
 have I5:=comp_inv (N':=N') (ix:=ix) (fp:=fp) c1 c3 c2 c4 ck cl1 cl2 I2 f2 (T.obj _ _ st2)
 refine wpAny_newObj_type ?_
 unfold newFunctionEnv
 refine wpAny_bind (wpAny_alloc ?_)
 refine wpAny_bind (wpAny_layCells _ (fun name kind cells=>by cases hkc:kind == NameKind.cell <;> simp [hkc]) _ _ _ _ ?_)
 refine wpAny_bind ?_
 rw [List.forIn_nil]
 refine wpAny_pure (wpAny_pure ?_)
 have sz3:(s2.heap.push (lobj [] 0)).objs.size=s2.heap.objs.size+1:=Heap.size_push ..
 have sz4:((s2.heap.push (lobj [] 0)).push { cls:=.type "dict",data:=.dict #[] }).objs.size=s2.heap.objs.size+2:=by rw [Heap.size_push,sz3]
 show codeAny (model X.prog X.w) X.A (.compStart (.ListComp elt [⟨tg,iter,ifs,0⟩] scope pos) 0 (.ref it) (.ref s2.heap.objs.size)
  (compCx X scope N' (cellsFrom ((s2.heap.push (lobj [] 0)).push { cls:=.type "dict",data:=.dict #[] }).objs.size scope.names cl) (s2.heap.push (lobj [] 0)).objs.size s2 H2 fp []).env)
  (compPost (model X.prog X.w) X.A X.xe use Q' (.ref s2.heap.objs.size) (s2.heap.push (lobj [] 0)).objs.size)
  { s2 with heap:=pushCells ((s2.heap.push (lobj [] 0)).push { cls:=.type "dict",data:=.dict #[] }) scope.names }
 rw [sz4,sz3]
 generalize hcells:cellsFrom (s2.heap.objs.size+2) scope.names cl=cells at I5 ⊢
 have keep5:∀ b o,s2.heap.get? b=some o->(pushCells ((s2.heap.push (lobj [] 0)).push { cls:=.type "dict",data:=.dict #[] }) scope.names).get? b=some o:=fun b o e =>
  pushCells_keeps _ _ b o (Heap.get?_push_of_some _ (Heap.get?_push_of_some _ e))
 generalize hh5:({ s2 with heap:=pushCells ((s2.heap.push (lobj [] 0)).push { cls:=.type "dict",data:=.dict #[] }) scope.names }:Shared)=s5 at I5 ⊢
 have keep5:∀ b o,s2.heap.get? b=some o->s5.heap.get? b=some o:=by rw [<- hh5];exact keep5
 have st5:tn 0 s5.heap:=T.keep _ _ _ st2 fun b hb o e=>keep5 b o e
 have lt2:∀ (b:Nat),b∈fp->b < s2.heap.objs.size:=fun b hb=>by
  obtain ⟨o,e,_⟩:=T.obj _ _ st2 b hb
  exact Heap.lt_size e
 -- the iterator within the block
 have stat:∀ {H':Hp} {o:Obj},(∀ b∈fp,H' b=none)->∀ b∈fp,FpOk (compCx X scope N' cells (s2.heap.objs.size+1) s2 H2 fp []) [(s2.heap.objs.size,o)] H' b:=fun {H' o} hn b hb =>
  ⟨hn b hb,(I5.ok.exf b hb).1,I5.ok.exfs b hb,.inl hb,(I5.ok.exf b hb).2,fun p hp=>by
   have e:p=(s2.heap.objs.size,o):=by simpa using hp
   subst e
   exact Nat.ne_of_gt (lt2 b hb)⟩
 have loop:codeAny (model X.prog X.w) X.A (.compLoop (.ListComp elt [⟨tg,iter,ifs,0⟩] scope pos) 0 (.ref it) (.ref s2.heap.objs.size)
   (compCx X scope N' cells (s2.heap.objs.size+1) s2 H2 fp []).env) (compPost (model X.prog X.w) X.A X.xe use Q' (.ref s2.heap.objs.size) (s2.heap.objs.size+1)) s5:=by
  refine Zq (Y:=YX X.prog X.w E (compCx X scope N' cells (s2.heap.objs.size+1) s2 H2 fp [])) (fun n s'=>∃ i ys τ H' its k,Inv (compCx X scope N' cells (s2.heap.objs.size+1) s2 H2 fp []) [(s2.heap.objs.size,lobj its k)] τ H' s'/\tn i s'.heap/\(∀ b∈fp,H' b=none)/\Vals ys its/\ys.length<=sizeLine/\W i n ys τ H') (fun u s' y=>hout s2 H2 _ fp cells _ u s' I2 f2 (Nat.le_succ _) y) ?_ m0
   ⟨0,[],_,H2,[],0,I5,st5,fun b hb=>(f2 b hb).1,.nil,Nat.zero_le _,w0⟩
  rintro n s3 ⟨i,ys,τ,H3,its,k,I3,st3,fr3,hv3,hz3,w3⟩
  rcases turn i n ys τ H3 w3 with ⟨stop,qn⟩ | ⟨go,hlen,N,hN,step⟩
  ·refine thn (T.done (compCx X scope N' cells (s2.heap.objs.size+1) s2 H2 fp []) rfl rfl rfl hc i _ s3 τ H3 _ I3 (stat fr3) st3 stop) fun r s4 ⟨hr,I4⟩=>?_
   subst hr
   obtain ⟨eD,nD,_,_,_⟩:=I4.pin (s2.heap.objs.size,lobj its k) (by simp)
   exact hend s2 s4 H2 H3 _ _ fp cells τ ys its k I2 f2 I4 (Nat.le_succ _) (Nat.le_refl _) (Nat.ne_of_lt (Nat.lt_succ_self _)) hv3 hz3 (qn _ nD)
  ·refine thn (T.item (compCx X scope N' cells (s2.heap.objs.size+1) s2 H2 fp []) rfl rfl rfl hc i _ s3 τ H3 _ I3 (stat fr3) st3 go) fun r s4 ⟨u,hr,h4⟩=>?_
   subst hr
   refine thn h4 fun _ s5' ⟨x,H5,I5',r5,y5,st5',fr5⟩=>?_
   have I6:=I5'.pinned (stat fr5) (T.obj _ _ st5')
   refine thn (hg cells _ s2 H2 fp [] _ s5' τ H5 x u _ (I6.wish _) r5 (step x H5 y5)) fun _ s6 ⟨τ6,H6,I7,q6⟩=>?_
   refine thn (ht cells _ s2 H2 fp [] _ s6 τ6 H6 _ I7 q6) fun ok s7 ⟨H7,I8,q7⟩=>?_
   have fin:∀ {s8:Shared} {H8:Hp} {its':List Value} {k':Nat} {ys':List V},Inv (compCx X scope N' cells (s2.heap.objs.size+1) s2 H2 fp []) ([(s2.heap.objs.size,lobj its' k')]++pinsAt fp s5'.heap) τ6 H8 s8->Vals ys' its'->ys'.length<=sizeLine->N ys' τ6 H8 ->
     ∃ m,m < n/\∃ i ys τ H' its k,Inv (compCx X scope N' cells (s2.heap.objs.size+1) s2 H2 fp []) [(s2.heap.objs.size,lobj its k)] τ H' s8/\tn i s8.heap/\(∀ b∈fp,H' b=none)/\Vals ys its/\ys.length<=sizeLine/\W i m ys τ H':=fun {s8 H8 its' k' ys'} I9 hv hz n9=>by
    obtain ⟨m',hm,w9⟩:=hN ys' τ6 H8 n9
    refine ⟨m',hm,i+1,ys',τ6,H8,its',k',I9.unpinned,T.keep _ _ _ st5' fun b hb o e=>(I9.pin (b,o) (List.mem_append_right _ (List.mem_append_right _ (jj hb e)))).1,fun b hb=>?_,hv,hz,w9⟩
    obtain ⟨o,e,d⟩:=T.obj _ _ st5' b hb
    exact (I9.pin (b,o) (List.mem_append_right _ (List.mem_append_right _ (jj hb e)))).2.1
   cases ok with
   | false=>exact fin I8.unwish hv3 hz3 q7
   | true =>
    refine thn (he cells _ s2 H2 fp [] _ s7 τ6 H7 _ I8 q7) fun y s8 ⟨v8,H8,I9',r8,q8⟩=>?_
    have I9:=I9'.unwish
    obtain ⟨eD,nD,dL,dF,_⟩:=I9.pin (s2.heap.objs.size,lobj its k) (by simp)
    have hl:=hv3.length
    refine yu (X:=X) (τ:=τ) (H':=H8) (by omega) eD fun h' k' eD' kp=>?_
    -- the pin on the list is let go,the list turns,and is pinned anew
    have hx:∀ p∈pinsAt fp s5'.heap,p.1≠s2.heap.objs.size:=fun p hp=>by
     have:=lt2 p.1 (vz hp).1
     exact Nat.ne_of_lt this
    have J1:Inv (compCx X scope N' cells (s2.heap.objs.size+1) s2 H2 fp []) (pinsAt fp s5'.heap) τ6 H8 s8:=I9.pins_of fun p hp=>I9.pin p (List.mem_append_right _ (List.mem_append_right _ hp))
    have J2:Inv (compCx X scope N' cells (s2.heap.objs.size+1) s2 H2 fp []) (pinsAt fp s5'.heap) τ6 H8 { s8 with heap:=h' }:=J1.turned (t':=s8.toks) (it:=s2.heap.objs.size) kp nD dL (.inr (Nat.le_refl _)) (fun x c e z=>by
     obtain ⟨v,o,ho,hd⟩:=J1.cell x c e
     rw [z,eD] at ho
     cases ho
     cases hd) fun p hp=>hx p (by simpa using hp)
    have J3:Inv (compCx X scope N' cells (s2.heap.objs.size+1) s2 H2 fp []) ([(s2.heap.objs.size,lobj (its++[y]) k')]++pinsAt fp s5'.heap) τ6 H8 { s8 with heap:=h' }:=J2.pins_of fun p hp=>by
     rcases List.mem_append.mp hp with z | z
     ·have e:p=(s2.heap.objs.size,lobj (its++[y]) k'):=by simpa using z
      subst e
      exact ⟨eD',nD,dL,dF,fun v z=>by cases z⟩
     ·exact J2.pin p (List.mem_append_right _ z)
    exact fin J3 (hv3.append (.cons r8 .nil)) (by rw [List.length_append,List.length_singleton];omega) q8
 exact codeAny_compStart_list loop (T.self X.A 0 s5 _ _ st5 loop)
theorem qgr {P:Program} {w:World} {K:W.Frag} {mg:Str->Option Value} {base:Heap} {N:List Str} {qual:Str} {fsc:Scope} {f:Addr} {cdv:Value} {A:Around} {outer:List Env} {s0:Shared} {H0:Hp} {E:XK} {tg iter elt:Expr} {ifs:List Expr} {scope:Scope} {pos px spos:Pos} {N':List Str} {ix:List (Option Nat)} {wi:TI} {g:TG} {tc:TT} {te:TE} {i:Nat} {x:Str}
  (hN:(cxOf (CX1 P w) P w K mg base N qual fsc f cdv A outer s0 H0 E).N.Nodup) (hi0:(cxOf (CX1 P w) P w K mg base N qual fsc f cdv A outer s0 H0 E).N[i]? = some x) (hx:(cxOf (CX1 P w) P w K mg base N qual fsc f cdv A outer s0 H0 E).env.scope.names.lookup x=some .local)
  (hc:(cxOf (CX1 P w) P w K mg base N qual fsc f cdv A outer s0 H0 E).calm=true) (chk:compChk (cxOf (CX1 P w) P w K mg base N qual fsc f cdv A outer s0 H0 E) scope N' ix=true) (hi:PI (cxOf (CX1 P w) P w K mg base N qual fsc f cdv A outer s0 H0 E) tg iter wi)
  (hg:∀ cells C s₀ H₀ ex pn,PG (compCxE E (cxOf (CX1 P w) P w K mg base N qual fsc f cdv A outer s0 H0 E) scope N' cells C s₀ H₀ ex pn) tg g)
  (ht:∀ cells C s₀ H₀ ex pn,PTs (compCxE E (cxOf (CX1 P w) P w K mg base N qual fsc f cdv A outer s0 H0 E) scope N' cells C s₀ H₀ ex pn) ifs tc)
  (he:∀ cells C s₀ H₀ ex pn,PE (compCxE E (cxOf (CX1 P w) P w K mg base N qual fsc f cdv A outer s0 H0 E) scope N' cells C s₀ H₀ ex pn) elt te)
  (hs:∀ x,foldedSetIterable iter (cxOf (CX1 P w) P w K mg base N qual fsc f cdv A outer s0 H0 E).env x=pure x:=by intro _;rfl)
  (hsw:swapsWith (.ListComp elt [⟨tg,iter,ifs,0⟩] scope pos) (some (.Name x px)) spos.line (cxOf (CX1 P w) P w K mg base N qual fsc f cdv A outer s0 H0 E).env=pure true:=by rfl) :
  PS (cxOf (CX1 P w) P w K mg base N qual fsc f cdv A outer s0 H0 E) (.Assign [.Name x px] (.ListComp elt [⟨tg,iter,ifs,0⟩] scope pos) spos) (fun D σ H=>tComp ix wi g tc te σ H fun v H1=>D.nx (σ.set i (some v)) H1):=by
 intro pins s σ H D I h
 rw [exec_Assign_Name_used _ _ _ _ hsw]
 refine wpAny_bind (wpAny_standAt (wpAny_bind ?_))
 show wpAny _ (cxOf (CX1 P w) P w K mg base N qual fsc f cdv A outer s0 H0 E).A (comprehension (.ListComp elt [⟨tg,iter,ifs,0⟩] scope pos) scope (cxOf (CX1 P w) P w K mg base N qual fsc f cdv A outer s0 H0 E).env _ (newList []) false (eval iter (cxOf (CX1 P w) P w K mg base N qual fsc f cdv A outer s0 H0 E).env) (some (assign (.Name x px) (cxOf (CX1 P w) P w K mg base N qual fsc f cdv A outer s0 H0 E).env)) >>= fun _=>pure ()) _ _ s
 refine wpAny_bind (wpAny_mono (qbi (E:=E) (use:=some (assign (.Name x px) (cxOf (CX1 P w) P w K mg base N qual fsc f cdv A outer s0 H0 E).env)) (Q':=fun _ s'=>SP (cxOf (CX1 P w) P w K mg base N qual fsc f cdv A outer s0 H0 E) pins D .next s') hc chk hi hg ht he (fun s2 H2 C fp cells acc u s' I2 f2 hC y=>qen I2 f2 hC y) hs I h ?_) (fun _ s' hq=>wpAny_pure (wpAny_pure hq)) fun _ _ e=>e)
 intro s2 s4 H2 H3 C Da fp cells τ ys its k I2 f2 I4 hC hD hDC hv hz q
 obtain ⟨eD,nD,_,_,_⟩:=I4.pin (Da,lobj its k) (by simp)
 have I5:Inv (cxOf (CX1 P w) P w K mg base N qual fsc f cdv A outer s0 H0 E) pins σ (upd H3 Da (.lst ys)) s4:=Vd I2 f2 I4 hC hD hDC nD eD hv hz (Heap.SameBut.refl _ _)
 show wpAny _ (cxOf (CX1 P w) P w K mg base N qual fsc f cdv A outer s0 H0 E).A (assign (.Name x px) (cxOf (CX1 P w) P w K mg base N qual fsc f cdv A outer s0 H0 E).env (.ref Da)) _ _ s4
 refine wpAny_assign_Name (yk I5 hN hi0 (.inl hx) (show RelV (.ref Da) (.ref Da) from rfl) (fun s6 I6 ⟨a,sb,ha⟩=>?_) (.inr hx))
 obtain ⟨m,hn,_⟩:=I4.loc
 have neL:C≠(cxOf (CX1 P w) P w K mg base N qual fsc f cdv A outer s0 H0 E).env.locals:=Nat.ne_of_gt (Nat.lt_of_lt_of_le I2.lt hC)
 have cne:∀ y c,(cxOf (CX1 P w) P w K mg base N qual fsc f cdv A outer s0 H0 E).env.cells.lookup y=some c->c≠C:=fun y c e=>by
  obtain ⟨v,z⟩:=I2.cell y c e
  exact Nat.ne_of_lt (Nat.lt_of_lt_of_le z.lt hC)
 have nea:C≠a:=by
  rcases ha with e | e
  ·rw [e];exact neL
  ·exact (cne x a e).symm
 refine ⟨m,hn.sameBut sb nea,fun h' sb'=>⟨σ.set i (some (.ref Da)),upd H3 Da (.lst ys),?_,q⟩⟩
 have nC:upd H3 Da (.lst ys) C=none:=by rw [qg hDC.symm];exact I4.free
 refine I6.turned (t':=s6.toks) (it:=C) (fun b o hb e=>(sb'.2 b hb).trans e) nC neL (.inr (Nat.le_trans I2.sz hC)) cne fun p hp z=>?_
 have:=Heap.lt_size (I2.pin p hp).1
 rw [z] at this
 exact absurd (Nat.lt_of_lt_of_le this hC) (Nat.lt_irrefl _)
end L2
namespace Lw
open PySem L2
abbrev tx (w:List Nat):V:=.str ⟨w.toArray⟩
abbrev Rule:=Nat × List Nat
structure Good (first:List Nat) (rs:List Rule):Prop where
 few:rs.length<=8
 rise:(rs.map (·.1)).Pairwise (· < ·)
 abc:∀ q∈rs,97<=q.1/\q.1<=122
 wl:∀ q∈rs,q.2.length<=6
 win:∀ q∈rs,∀ c∈q.2,c∈rs.map (·.1)
 fl:first.length<=12
 fin:∀ c∈first,c∈rs.map (·.1)
inductive RulesAt (H:Hp):List Addr->List Rule->Prop where
 | nil:RulesAt H [] []
 | cons {p:Addr} {ps:List Addr} {c:Nat} {w:List Nat} {rs:List Rule}:H p=some (.tup [sign c,tx w])->RulesAt H ps rs->RulesAt H (p :: ps) ((c,w) :: rs)
structure BookAt (H:Hp) (t:Addr) (first:List Nat) (rs:List Rule):Prop where
 ex:∃ r ps,H t=some (.tup [tx first,.ref r])/\H r=some (.tup (ps.map V.ref))/\RulesAt H ps rs
def TupS (H H':Hp):Prop:=∀ c xs,H c=some (.tup xs)->H' c=some (.tup xs)
theorem TupS.refl (H:Hp):TupS H H:=fun _ _ h=>h
theorem TupS.trans {H H1 H2:Hp} (a:TupS H H1) (b:TupS H1 H2):TupS H H2:=fun c xs h=>b c xs (a c xs h)
theorem TupS.same {H H':Hp} (s:Same H H'):TupS H H':=fun c xs h=>s c _ h
theorem RulesAt.mono {H H':Hp} (s:TupS H H'):∀ {ps:List Addr} {rs:List Rule},RulesAt H ps rs->RulesAt H' ps rs
 | _,_,.nil=>.nil
 | _,_,.cons h r=>.cons (s _ _ h) (r.mono s)
theorem BookAt.mono {H H':Hp} {t:Addr} {first:List Nat} {rs:List Rule} (s:TupS H H') (b:BookAt H t first rs):BookAt H' t first rs:=by
 obtain ⟨r,ps,h1,h2,h3⟩:=b.ex
 exact ⟨r,ps,s _ _ h1,s _ _ h2,h3.mono s⟩
theorem RulesAt.len {H:Hp}:∀ {ps:List Addr} {rs:List Rule},RulesAt H ps rs->ps.length=rs.length
 | _,_,.nil=>rfl
 | _,_,.cons _ r=>congrArg (· + 1) r.len
theorem RulesAt.get {H:Hp}:∀ {ps:List Addr} {rs:List Rule} {i:Nat} {p:Addr},RulesAt H ps rs->ps[i]? = some p->∃ c w,rs[i]? = some (c,w)/\H p=some (.tup [sign c,tx w])
 | _,_,i,p,.nil,e=>by cases i <;> cases e
 | _,_,0,p,.cons (c:=c) (w:=w) h r,e=>by
  have e':=Option.some.inj e
  subst e'
  exact ⟨c,w,rfl,h⟩
 | _,_,i+1,p,.cons h r,e=>r.get (i:=i) e
theorem Same.add {H:Hp} {l:Addr} {o:HO} (h:H l=none):Same H (upd H l o):=fun b u e=>by rw [qg (ne_of_none e h)];exact e
theorem q0 {α β:Type} {xs:List α} {i:Nat} {x:α} (f:α->β) (h:xs[i]? = some x):(xs.take (i+1)).map f=(xs.take i).map f++[f x]:=by
 rw [List.take_add_one,h,List.map_append]
 rfl
theorem take_all {α:Type} (xs:List α):xs.take xs.length=xs:=List.take_length
end Lw
namespace Lw
open PySem L2
theorem qcx:∀ (r:List Str) (acc:Array Nat),r.foldl (fun acc p=>acc++(#[]:Array Nat)++p.cps) acc=acc++((r.map fun p=>p.cps.toList).flatten).toArray
 | [],acc=>by simp
 | p :: r,acc=>by
  rw [List.foldl_cons,qcx r]
  apply Array.ext'
  simp
theorem qcy (ss:List Str):Txt.join ⟨#[]⟩ ss=⟨((ss.map fun p=>p.cps.toList).flatten).toArray⟩:=by
 unfold Txt.join Builtin.Str.glued
 cases ss with
 | nil=>rfl
 | cons a r =>
  show (⟨r.foldl (fun acc p=>acc++(#[]:Array Nat)++p.cps) a.cps⟩:Str)=_
  rw [qcx]
  congr 1
  apply Array.ext'
  simp
theorem Jx (cs:List Nat):Txt.join ⟨#[]⟩ (cs.map fun c=>(⟨#[c]⟩:Str))=⟨cs.toArray⟩:=by
 rw [qcy]
 congr 2
 induction cs with
 | nil=>rfl
 | cons c r ih =>
  simp only [List.map_cons,List.flatten_cons]
  rw [ih]
  rfl
theorem Y6 (cs:List Nat):((cs.map fun c=>(⟨#[c]⟩:Str)).map (·.length)).sum=cs.length:=by
 induction cs with
 | nil=>rfl
 | cons c r ih =>
  simp only [List.map_cons,List.sum_cons,List.length_cons]
  rw [ih]
  show 1+r.length=r.length+1
  omega
theorem Vp (x:Str) (c:Nat):∀ (n a:Nat) (st:Array Nat × Nat),st.2<=a->st.1.size<=a->a+n<=x.length+1 ->
  (forIn (List.range' a n) st (StrLaws.occBody x ⟨#[c]⟩ x.length (x.length+1))).run.fst.size=st.1.size+((x.cps.toList.drop a).take n).count c
 | 0,a,st,_,_,_=>by
  show st.1.size=_
  simp
 | n+1,a,st,h1,h2,h3=>by
  rw [List.range'_succ,List.forIn_cons]
  have one:=StrLaws.subAt_one x c a
  unfold StrLaws.occBody
  by_cases hc:x.cps.toList[a]? = some c
  ·have hs:=one.mpr hc
   have hcond:(((st.fst.size < x.length+1/\st.snd<=a)/\a+(⟨#[c]⟩:Str).length<=x.length)/\Builtin.Str.subAt x ⟨#[c]⟩ a=true):=⟨⟨⟨by omega,h1⟩,hs.1⟩,hs.2⟩
   rw [if_pos hcond]
   show (forIn (List.range' (a+1) n) (st.1.push a,a+1) (StrLaws.occBody x ⟨#[c]⟩ x.length (x.length+1))).run.fst.size=_
   rw [Vp x c n (a+1) (st.1.push a,a+1) (Nat.le_refl _) (by simp only [Array.size_push];omega) (by omega)]
   obtain ⟨hlt,he⟩:=List.getElem?_eq_some_iff.mp hc
   rw [List.drop_eq_getElem_cons hlt,List.take_succ_cons,he,List.count_cons_self]
   simp only [Array.size_push]
   omega
  ·have hcond:¬ (((st.fst.size < x.length+1/\st.snd<=a)/\a+(⟨#[c]⟩:Str).length<=x.length)/\Builtin.Str.subAt x ⟨#[c]⟩ a=true):=fun z=>hc (one.mp ⟨z.1.2,z.2⟩)
   rw [if_neg hcond]
   show (forIn (List.range' (a+1) n) (st.1,st.2) (StrLaws.occBody x ⟨#[c]⟩ x.length (x.length+1))).run.fst.size=_
   rw [Vp x c n (a+1) (st.1,st.2) (by show st.2<=a+1;omega) (by show st.1.size<=a+1;omega) (by omega)]
   by_cases hlt:a < x.cps.toList.length
   ·rw [List.drop_eq_getElem_cons hlt,List.take_succ_cons,List.count_cons_of_ne]
    intro z
    exact hc (by rw [List.getElem?_eq_getElem hlt,z])
   ·rw [List.drop_eq_nil_of_le (by omega),List.drop_eq_nil_of_le (by omega)]
    simp
theorem count_one (w:List Nat) (c:Nat):Txt.count ⟨w.toArray⟩ ⟨#[c]⟩=(w.count c:Nat):=by
 unfold Txt.count
 rw [StrLaws.occ_eq,Array.length_toList]
 have e:=Vp ⟨w.toArray⟩ c ((⟨w.toArray⟩:Str).length+1 - 0) 0 (#[],0) (Nat.le_refl _) (Nat.le_refl _) (by omega)
 rw [e]
 simp only [Array.size_empty,Nat.zero_add,List.drop_zero,Nat.sub_zero]
 rw [List.take_of_length_le (by show w.length<=w.toArray.size+1;simp)]
end Lw
namespace Lw
open PySem L2
structure RowsAt (H0 H:Hp) (ls:List Addr) (vs:List (List V)):Prop where
 len:ls.length=vs.length
 at_:∀ (i:Nat) a v,ls[i]? = some a->vs[i]? = some v->H a=some (.lst v)
 new:∀ a∈ls,H0 a=none
 nd:ls.Nodup
theorem RowsAt.nil {H0 H:Hp}:RowsAt H0 H [] []:=⟨rfl,(fun i a v e _=>by simp at e),(fun a h=>by simp at h),List.nodup_nil⟩
theorem RowsAt.mono {H0 H H':Hp} {ls:List Addr} {vs:List (List V)} (r:RowsAt H0 H ls vs) (s:Same H H'):RowsAt H0 H' ls vs:=⟨r.len,fun i a v e1 e2=>s _ _ (r.at_ i a v e1 e2),r.new,r.nd⟩
theorem RowsAt.there {H0 H:Hp} {ls:List Addr} {vs:List (List V)} (r:RowsAt H0 H ls vs) {a:Addr} (h:a∈ls):∃ v,H a=some (.lst v)/\v∈vs:=by
 obtain ⟨i,e⟩:=List.mem_iff_getElem?.mp h
 have hi:i < vs.length:=by rw [<- r.len];exact (List.getElem?_eq_some_iff.mp e).1
 exact ⟨vs[i],r.at_ i a _ e (by simp [hi]),List.getElem_mem hi⟩
theorem RowsAt.snoc {H0 H H':Hp} {ls:List Addr} {vs:List (List V)} {a:Addr} {v:List V} (r:RowsAt H0 H ls vs) (s:Same H H') (h0:H0 a=none) (h1:H a=none) (h2:H' a=some (.lst v)):RowsAt H0 H' (ls++[a]) (vs++[v]):=by
 have na:a ∉ ls:=fun h=>by
  obtain ⟨w,e,_⟩:=r.there h
  rw [h1] at e;cases e
 refine ⟨by rw [List.length_append,List.length_append,r.len];rfl,fun i b u e1 e2=>?_,fun b hb=>?_,?_⟩
 ·by_cases hi:i < ls.length
  ·rw [List.getElem?_append_left hi] at e1
   rw [List.getElem?_append_left (by rw [<- r.len];exact hi)] at e2
   exact s _ _ (r.at_ i b u e1 e2)
  ·rw [List.getElem?_append_right (by omega)] at e1
   rw [List.getElem?_append_right (by rw [<- r.len];omega),<- r.len] at e2
   cases z:i - ls.length with
   | zero =>
    rw [z] at e1 e2
    cases e1
    cases e2
    exact h2
   | succ n=>rw [z] at e1;cases e1
 ·rcases List.mem_append.mp hb with z | z
  ·exact r.new b z
  ·have z:b=a:=by simpa using z
   rw [z];exact h0
 ·exact L2.qb9 r.nd na
structure TabAt (H0 H:Hp) (l:Addr) (ls:List Addr) (vs:List (List V)):Prop where
 top:H l=some (.lst (ls.map V.ref))
 rows:RowsAt H0 H ls vs
 new:H0 l=none
 out:l ∉ ls
theorem TabAt.mono {H0 H H':Hp} {l:Addr} {ls:List Addr} {vs:List (List V)} (t:TabAt H0 H l ls vs) (s:Same H H'):TabAt H0 H' l ls vs:=⟨s _ _ t.top,t.rows.mono s,t.new,t.out⟩
theorem TabAt.elder {H00 H0 H:Hp} {l:Addr} {ls:List Addr} {vs:List (List V)} (t:TabAt H0 H l ls vs) (s:Same H00 H0):TabAt H00 H l ls vs:=⟨t.top,⟨t.rows.len,t.rows.at_,fun a h=>s.free (t.rows.new a h),t.rows.nd⟩,s.free t.new,t.out⟩
end Lw
namespace Lw
open PySem PySem.Spec L2 PyProof.Rows
abbrev one (c:Nat):Str:=⟨#[c]⟩
theorem Zr:∀ (a:Nat) (r:List Nat),risingS (one a) (r.map one)=true->(a :: r).Pairwise (·<=·)
 | a,[],_=>by simp
 | a,b :: r,h=>by
  have h':(!ltCps (one b).cps.toList (one a).cps.toList && risingS (one b) (r.map one))=true:=h
  obtain ⟨h1,h2⟩:=Bool.and_eq_true_iff.mp h'
  have ih:=Zr b r h2
  have hab:a<=b:=by
   have h3:(decide (b < a) || (b == a && false))=false:=by
    have:ltCps [b] [a]=false:=by simpa using h1
    exact this
   have:=(Bool.or_eq_false_iff.mp h3).1
   have:=of_decide_eq_false this
   omega
  refine List.pairwise_cons.mpr ⟨fun x hx=>?_,ih⟩
  rcases List.mem_cons.mp hx with e | hx
  ·rw [e];exact hab
  ·exact Nat.le_trans hab ((List.pairwise_cons.mp ih).1 x hx)
theorem Zs {cs:List Nat} (h:sortedS (cs.map one)=true) (nd:cs.Nodup):cs.Pairwise (· < ·):=by
 have h1:cs.Pairwise (·<=·):=by
  cases cs with
  | nil=>exact List.Pairwise.nil
  | cons a r=>exact Zr a r h
 exact (h1.and nd).imp fun ⟨a,b⟩=>Nat.lt_of_le_of_ne a b
theorem Zt {cs:List Nat} {ss:List Str} (h:ss.Perm (cs.map one)):∃ cs':List Nat,cs'.Perm cs/\ss=cs'.map one:=by
 refine ⟨ss.map fun z=>z.cps.getD 0 0,?_,?_⟩
 ·have:=h.map fun z:Str=>z.cps.getD 0 0
  rw [List.map_map] at this
  have e:(fun z:Str=>z.cps.getD 0 0) ∘ one=id:=by funext c;rfl
  rw [e,List.map_id] at this
  exact this
 ·rw [List.map_map]
  conv=>lhs;rw [<- List.map_id ss]
  refine List.map_congr_left fun z hz=>?_
  obtain ⟨c,_,rfl⟩:=List.mem_map.mp (h.mem_iff.mp hz)
  rfl
end Lw
namespace Lw
open PySem L2
theorem RulesAt.snoc {H:Hp} {p:Addr} {c:Nat} {w:List Nat} (h:H p=some (.tup [sign c,tx w])):∀ {ps:List Addr} {rs:List Rule},RulesAt H ps rs->RulesAt H (ps++[p]) (rs++[(c,w)])
 | _,_,.nil=>.cons h .nil
 | _,_,.cons h1 r=>.cons h1 (r.snoc h)
def kvz (cs:List Nat) (ws:List (List Nat)):List (Key × V):=List.zipWith (fun c w=>((Sum.inr (one c):Key),tx w)) cs ws
theorem vh {a b:Nat} (h:one a=one b):a=b:=by
 have:=congrArg (fun z:Str=>z.cps.getD 0 0) h
 exact this
theorem Y7:∀ {cs:List Nat} {ws:List (List Nat)},ws.length=cs.length->(kvz cs ws).map (·.1)=(cs.map one).map Sum.inr
 | [],[],_=>rfl
 | c :: cs,w :: ws,h=>by
  show Sum.inr (one c) :: (kvz cs ws).map (·.1)=_
  rw [Y7 (Nat.succ.inj h)]
  rfl
 | [],_ :: _,h=>by cases h
 | _ :: _,[],h=>by cases h
theorem Y8:∀ {cs:List Nat} {ws:List (List Nat)} {c:Nat},c ∉ cs->valV (kvz cs ws) (Sum.inr (one c):Key)=none
 | [],_,_,_=>rfl
 | _ :: _,[],_,_=>rfl
 | a :: cs,w :: ws,c,h=>by
  have ih:=Y8 (cs:=cs) (ws:=ws) (c:=c) fun z=>h (List.mem_cons_of_mem _ z)
  unfold valV at ih ⊢
  show Option.map _ (List.find? _ (((Sum.inr (one a):Key),tx w) :: kvz cs ws))=none
  rw [List.find?_cons_of_neg]
  ·exact ih
  ·intro z
   have z':(Sum.inr (one a):Key)=Sum.inr (one c):=of_decide_eq_true z
   exact h (by rw [vh (Sum.inr.inj z')];exact List.mem_cons_self)
theorem Y9:∀ {cs:List Nat} {ws:List (List Nat)} {c:Nat},ws.length=cs.length->c∈cs->∃ w∈ws,valV (kvz cs ws) (Sum.inr (one c):Key)=some (tx w)
 | a :: cs,w :: ws,c,hl,h=>by
  by_cases e:a=c
  ·subst e
   refine ⟨w,List.mem_cons_self,?_⟩
   unfold valV
   show Option.map _ (List.find? _ (((Sum.inr (one a):Key),tx w) :: kvz cs ws))=_
   rw [List.find?_cons_of_pos]
   ·rfl
   ·exact decide_eq_true rfl
  ·have hc:c∈cs:=by
    rcases List.mem_cons.mp h with z | z
    ·exact absurd z.symm e
    ·exact z
   obtain ⟨w',hw,ih⟩:=Y9 (Nat.succ.inj hl) hc
   refine ⟨w',List.mem_cons_of_mem _ hw,?_⟩
   unfold valV at ih ⊢
   show Option.map _ (List.find? _ (((Sum.inr (one a):Key),tx w) :: kvz cs ws))=_
   rw [List.find?_cons_of_neg]
   ·exact ih
   ·intro z
    have z':(Sum.inr (one a):Key)=Sum.inr (one c):=of_decide_eq_true z
    exact e (vh (Sum.inr.inj z'))
 | [],_,_,_,h=>by simp at h
 | _ :: _,[],_,hl,_=>by cases hl
theorem qeo {cs:List Nat} {ws:List (List Nat)} {i c:Nat} {w:List Nat} (hl:ws.length=(cs.take i).length) (e:cs[i]? = some c):kvz (cs.take i) ws++[((Sum.inr (one c):Key),tx w)]=kvz (cs.take (i+1)) (ws++[w]):=by
 unfold kvz
 rw [List.take_add_one,e,List.zipWith_append hl.symm]
 rfl
theorem qcz (cs:List Nat) (ws:List (List Nat)):(kvz cs ws).length<=cs.length:=by
 unfold kvz
 rw [List.length_zipWith]
 omega
end Lw
namespace Lw
def dot (xs ys:List Int):Int:=(List.zipWith (· * ·) xs ys).sum
theorem jh (x y:Int) (xs ys:List Int):dot (x :: xs) (y :: ys)=x * y+dot xs ys:=by
 unfold dot
 rw [List.zipWith_cons_cons,List.sum_cons]
theorem ze (ys:List Int):dot [] ys=0:=by unfold dot;simp
theorem ju (xs:List Int):dot xs []=0:=by unfold dot;simp
def colAt (T:List (List Int)) (j:Nat):List Int:=T.map fun r=>r.getD j 0
def stepC (k:Nat) (T:List (List Int)) (c:List Int):List Int:=(List.range k).map fun j=>dot c (colAt T j)
def stepL (T:List (List Int)) (l:List Int):List Int:=T.map fun r=>dot r l
def cntN (k:Nat) (T:List (List Int)) (c:List Int):Nat->List Int
 | 0=>c
 | n+1=>stepC k T (cntN k T c n)
def lenN (k:Nat) (T:List (List Int)):Nat->List Int
 | 0=>List.replicate k 1
 | n+1=>stepL T (lenN k T n)
theorem qc0 {α:Type} (x:Int) (f g:α->Int):∀ (L:List α) (l:List Int),dot (L.map fun j=>x * f j+g j) l=x * dot (L.map f) l+dot (L.map g) l
 | [],l=>by simp [ze]
 | a :: L,[]=>by rw [ju,ju,ju];omega
 | a :: L,y :: l=>by
  rw [List.map_cons,List.map_cons,List.map_cons,jh,jh,jh,qc0 x f g L l,Int.add_mul,Int.mul_add,Int.mul_assoc]
  omega
theorem qaa {α:Type}:∀ (L:List α) (l:List Int),dot (L.map fun _=>0) l=0
 | [],l=>ze _
 | a :: L,[]=>ju _
 | a :: L,y :: l=>by
  rw [List.map_cons,jh,qaa L l]
  omega
theorem qbj {r:List Int} {k:Nat} (h:r.length=k):(List.range k).map (fun j=>r.getD j 0)=r:=by
 subst h
 refine List.ext_getElem (by simp) fun i h1 h2=>?_
 simp [List.getElem_map]
 rw [List.getElem?_eq_getElem h2]
 rfl
theorem qab (k:Nat) (l:List Int):∀ (T:List (List Int)) (c:List Int),(∀ r∈T,r.length=k)->c.length=T.length->dot c (stepL T l)=dot (stepC k T c) l
 | [],c,_,_=>by
  show dot c []=dot ((List.range k).map fun j=>dot c []) l
  simp only [ju]
  rw [qaa]
 | r :: T,[],_,hc=>by cases hc
 | r :: T,x :: c,hT,hc=>by
  have ih:=qab k l T c (fun r hr=>hT r (List.mem_cons_of_mem _ hr)) (Nat.succ.inj hc)
  show dot (x :: c) (dot r l :: stepL T l)=dot ((List.range k).map fun j=>dot (x :: c) (r.getD j 0 :: colAt T j)) l
  rw [jh,ih]
  simp only [jh]
  rw [qc0 x (fun j=>r.getD j 0) (fun j=>dot c (colAt T j)),qbj (hT r List.mem_cons_self)]
  rfl
theorem Vq:∀ c:List Int,dot c (List.replicate c.length 1)=c.sum
 | []=>rfl
 | x :: c=>by
  rw [List.length_cons,List.replicate_succ,jh,Vq c,List.sum_cons]
  omega
theorem qc1 (k:Nat) (T:List (List Int)) (c:List Int):(stepC k T c).length=k:=by unfold stepC;simp
theorem yi {k:Nat} {T:List (List Int)} {c:List Int} (h:c.length=k):∀ n,(cntN k T c n).length=k
 | 0=>h
 | n+1=>qc1 _ _ _
theorem vm {k:Nat} {T:List (List Int)} (h:T.length=k):∀ n,(lenN k T n).length=k
 | 0=>by unfold lenN;simp
 | n+1=>by unfold lenN stepL;rw [List.length_map,h]
theorem parted {k:Nat} {T:List (List Int)} (hT:∀ r∈T,r.length=k) (hk:T.length=k):∀ (m a:Nat) (c:List Int),c.length=k->(cntN k T c (a+m)).sum=dot (cntN k T c a) (lenN k T m)
 | 0,a,c,hc=>by
  rw [Nat.add_zero]
  have:=Vq (cntN k T c a)
  rw [yi hc] at this
  exact this.symm
 | m+1,a,c,hc=>by
  show _=dot (cntN k T c a) (stepL T (lenN k T m))
  rw [qab k _ T _ hT (by rw [yi hc,hk])]
  have ih:=parted hT hk m (a+1) c hc
  rw [show a+(m+1)=a+1+m by omega,ih]
  rfl
def Bd (e:Nat) (c:List Int):Prop:=∀ x∈c,0<=x/\x < 2 ^ e
def Sm (c:List Int):Prop:=∀ x∈c,0<=x/\x<=6
theorem dot_bd {e:Nat}:∀ (c d:List Int),Bd e c->Sm d->0<=dot c d/\dot c d<=(c.length:Int) * (6 * 2 ^ e)
 | [],d,_,_=>by rw [ze];simp
 | x :: c,[],_,_=>by
  rw [ju]
  refine ⟨Int.le_refl _,Int.mul_nonneg (Int.natCast_nonneg _) (Int.mul_nonneg (by decide) ?_)⟩
  exact Int.le_of_lt (Int.pow_pos (by decide))
 | x :: c,y :: d,hc,hd=>by
  obtain ⟨h1,h2⟩:=dot_bd c d (fun z hz=>hc z (List.mem_cons_of_mem _ hz)) (fun z hz=>hd z (List.mem_cons_of_mem _ hz))
  obtain ⟨a1,a2⟩:=hc x List.mem_cons_self
  obtain ⟨b1,b2⟩:=hd y List.mem_cons_self
  have m1:0<=x * y:=Int.mul_nonneg a1 b1
  have m2:x * y<=2 ^ e * 6:=Int.mul_le_mul (Int.le_of_lt a2) b2 b1 (Int.le_of_lt (Int.pow_pos (by decide)))
  rw [jh,List.length_cons]
  generalize (2:Int) ^ e=E at *
  refine ⟨by omega,?_⟩
  have:((c.length+1:Nat):Int) * (6 * E)=(c.length:Int) * (6 * E)+6 * E:=by
   rw [Int.natCast_add,Int.add_mul]
   simp
  rw [this]
  omega
theorem qgs {e:Nat} {c d:List Int} (hc:Bd e c) (hd:Sm d) (hl:c.length<=8):0<=dot c d/\dot c d < 2 ^ (e+6):=by
 obtain ⟨h1,h2⟩:=dot_bd c d hc hd
 refine ⟨h1,?_⟩
 have hp:(0:Int) < 2 ^ e:=Int.pow_pos (by decide)
 rw [Int.pow_add]
 generalize (2:Int) ^ e=E at *
 have h3:(c.length:Int) * (6 * E)<=8 * (6 * E):=Int.mul_le_mul_of_nonneg_right (by omega) (by omega)
 have h4:E * 2 ^ 6=64 * E:=by rw [Int.mul_comm];rfl
 rw [h4]
 omega
theorem qc2 {k e:Nat} {T:List (List Int)} {c:List Int} (hk:k<=8) (hT:∀ j,Sm (colAt T j)) (hl:c.length=k) (hc:Bd e c):∀ n,Bd (e+6 * n) (cntN k T c n)
 | 0=>hc
 | n+1=>fun x hx=>by
  unfold cntN stepC at hx
  obtain ⟨j,_,rfl⟩:=List.mem_map.mp hx
  exact qgs (qc2 hk hT hl hc n) (hT j) (by rw [yi hl];exact hk)
theorem qfn {T:List (List Int)} (hT:∀ r∈T,Sm r) (j:Nat):Sm (colAt T j):=fun x hx=>by
 unfold colAt at hx
 obtain ⟨r,hr,rfl⟩:=List.mem_map.mp hx
 rw [List.getD_eq_getElem?_getD]
 cases e:r[j]? with
 | none=>simp
 | some y=>exact hT r hr y (List.mem_of_getElem? e)
end Lw
namespace Lw
open PySem L2
theorem qac {k:Int} {n:Nat} (h:k.natAbs < 2 ^ n):Builtin.Int.intBits k<=n:=by
 unfold Builtin.Int.intBits
 split
 ·exact Nat.zero_le _
 ·rename_i hz
  have h0:k.natAbs≠0:=by
   intro e
   apply hz
   simpa using Int.natAbs_eq_zero.mp e
  have:=(Nat.log2_lt h0).mpr h
  omega
def Bz (e:Nat) (c:List Int):Prop:=∀ x∈c,x.natAbs < 2 ^ e
theorem Bd.z {e:Nat} {c:List Int} (h:Bd e c):Bz e c:=fun x hx=>by
 obtain ⟨h1,h2⟩:=h x hx
 have h3:((x.natAbs:Nat):Int)=x:=Int.natAbs_of_nonneg h1
 have h4:((2 ^ e:Nat):Int)=(2:Int) ^ e:=by push_cast;rfl
 rw [<- h3,<- h4] at h2
 exact Int.ofNat_lt.mp h2
theorem Sm.bd {c:List Int} (h:Sm c):Bd 3 c:=fun x hx=>by
 have:=h x hx
 have e:(2:Int) ^ 3=8:=by decide
 rw [e]
 omega
structure TabV (H:Hp) (l:Addr) (ls:List Addr) (vs:List (List Int)):Prop where
 top:H l=some (.lst (ls.map V.ref))
 len:ls.length=vs.length
 at_:∀ (i:Nat) a v,ls[i]? = some a->vs[i]? = some v->H a=some (.lst (v.map V.int))
theorem TabV.mono {H H':Hp} {l:Addr} {ls:List Addr} {vs:List (List Int)} (t:TabV H l ls vs) (s:Same H H'):TabV H' l ls vs:=⟨s _ _ t.top,t.len,fun i a v e1 e2=>s _ _ (t.at_ i a v e1 e2)⟩
theorem TabV.get {H:Hp} {l:Addr} {ls:List Addr} {vs:List (List Int)} (t:TabV H l ls vs) {i:Nat} {v:List Int} (e:vs[i]? = some v):∃ a,ls[i]? = some a/\H a=some (.lst (v.map V.int)):=by
 have hi:i < ls.length:=by rw [t.len];exact (List.getElem?_eq_some_iff.mp e).1
 exact ⟨ls[i],List.getElem?_eq_getElem hi,t.at_ i _ v (List.getElem?_eq_getElem hi) e⟩
theorem TabV.get' {H:Hp} {l:Addr} {ls:List Addr} {vs:List (List Int)} (t:TabV H l ls vs) {i:Nat} {a:Addr} (e:ls[i]? = some a):∃ v,vs[i]? = some v/\H a=some (.lst (v.map V.int)):=by
 have hi:i < vs.length:=by rw [<- t.len];exact (List.getElem?_eq_some_iff.mp e).1
 exact ⟨vs[i],List.getElem?_eq_getElem hi,t.at_ i _ _ e (List.getElem?_eq_getElem hi)⟩
def tabI (rs:List Rule):List (List Int):=rs.map fun q=>rs.map fun q'=>((q.2.count q'.1:Nat):Int)
def c0 (rs:List Rule) (w:List Nat):List Int:=rs.map fun q=>((w.count q.1:Nat):Int)
theorem jn (rs:List Rule):(tabI rs).length=rs.length:=by unfold tabI;rw [List.length_map]
theorem qad (rs:List Rule) (f:List Nat):(c0 rs f).length=rs.length:=by unfold c0;rw [List.length_map]
theorem qae {rs:List Rule} {r:List Int} (h:r∈tabI rs):r.length=rs.length:=by
 unfold tabI at h
 obtain ⟨q,_,rfl⟩:=List.mem_map.mp h
 rw [List.length_map]
theorem qc3 {first:List Nat} {rs:List Rule} (hG:Good first rs) {r:List Int} (h:r∈tabI rs):Sm r:=fun x hx=>by
 unfold tabI at h
 obtain ⟨q,hq,rfl⟩:=List.mem_map.mp h
 obtain ⟨q',_,rfl⟩:=List.mem_map.mp hx
 have h1:=hG.wl q hq
 have h2:q.2.count q'.1<=q.2.length:=List.count_le_length
 omega
theorem c0_bd {first:List Nat} {rs:List Rule} (hG:Good first rs):Bd 4 (c0 rs first):=fun x hx=>by
 unfold c0 at hx
 obtain ⟨q,_,rfl⟩:=List.mem_map.mp hx
 have h2:first.count q.1<=first.length:=List.count_le_length
 have:=hG.fl
 have h3:(2:Int) ^ 4=16:=by decide
 rw [h3]
 omega
theorem qep {k i:Nat} {α:Type} (f:Nat->α) (h:i < k):((List.range k).take (i+1)).map f=((List.range k).take i).map f++[f i]:=q0 f (List.getElem?_range h)
theorem qfo {n i:Nat} {x:V} (h:(rngV 0 n)[i]? = some x):i < n/\x=.int (i:Int):=by
 have h1:i < n:=by
  have:=(List.getElem?_eq_some_iff.mp h).1
  rwa [qt] at this
 refine ⟨h1,?_⟩
 unfold rngV at h
 rw [List.getElem?_map,List.getElem?_range h1] at h
 have:=(Option.some.inj h).symm
 rw [this]
 show V.int (0+(i:Int))=_
 rw [Int.zero_add]
theorem qeq (k:Nat):(List.range k).take k=List.range k:=by
 have:=take_all (List.range k)
 rwa [List.length_range] at this
def lk:List Nat->List Int->Nat->Int
 | c :: cs,n :: ns,x=>if c=x then n else lk cs ns x
 | _,_,_=>0
def dkI (cs:List Nat) (ns:List Int):List (Key × V):=List.zipWith (fun c n=>((Sum.inr (one c):Key),V.int n)) cs ns
theorem Vr:∀ {cs:List Nat} {ns:List Int} {c:Nat},ns.length=cs.length->c∈cs->valV (dkI cs ns) (Sum.inr (one c):Key)=some (.int (lk cs ns c))
 | a :: cs,n :: ns,c,hl,h=>by
  by_cases e:a=c
  ·subst e
   unfold valV lk
   show Option.map _ (List.find? _ (((Sum.inr (one a):Key),V.int n) :: dkI cs ns))=_
   rw [List.find?_cons_of_pos,if_pos rfl]
   ·rfl
   ·exact decide_eq_true rfl
  ·have hc:c∈cs:=by
    rcases List.mem_cons.mp h with z | z
    ·exact absurd z.symm e
    ·exact z
   have ih:=Vr (ns:=ns) (Nat.succ.inj hl) hc
   unfold valV at ih ⊢
   show Option.map _ (List.find? _ (((Sum.inr (one a):Key),V.int n) :: dkI cs ns))=some (V.int (if a=c then n else lk cs ns c))
   rw [List.find?_cons_of_neg,if_neg e]
   ·exact ih
   ·intro z
    have z':(Sum.inr (one a):Key)=Sum.inr (one c):=of_decide_eq_true z
    exact e (vh (Sum.inr.inj z'))
 | [],_,_,_,h=>by simp at h
 | _ :: _,[],_,hl,_=>by cases hl
theorem yj:∀ {cs:List Nat} {ns:List Int},ns.length=cs.length->(dkI cs ns).map (·.1)=cs.map fun c=>(Sum.inr (one c):Key)
 | [],[],_=>rfl
 | c :: cs,n :: ns,h=>by
  show Sum.inr (one c) :: (dkI cs ns).map (·.1)=_
  rw [yj (Nat.succ.inj h)]
  rfl
 | [],_ :: _,h=>by cases h
 | _ :: _,[],h=>by cases h
theorem qaf:∀ {cs:List Nat} {ns:List Int},ns.length=cs.length->(dkI cs ns).map (·.2)=ns.map V.int
 | [],[],_=>rfl
 | c :: cs,n :: ns,h=>by
  show V.int n :: (dkI cs ns).map (·.2)=_
  rw [qaf (Nat.succ.inj h)]
  rfl
 | [],_ :: _,h=>by cases h
 | _ :: _,[],h=>by cases h
theorem qc4 {cs:List Nat} {ns:List Int} (h:ns.length=cs.length):(dkI cs ns).length=cs.length:=by
 have:=congrArg List.length (yj h)
 rwa [List.length_map,List.length_map] at this
theorem qag {cs:List Nat} {ns:List Int} {c:Nat} {n:Int} (h:ns.length=cs.length):dkI cs ns++[((Sum.inr (one c):Key),V.int n)]=dkI (cs++[c]) (ns++[n]):=by
 unfold dkI
 rw [List.zipWith_append h.symm]
 rfl
theorem Vs {cs:List Nat} (h:cs.Nodup):(cs.map fun c=>(Sum.inr (one c):Key)).Nodup :=
 List.Pairwise.map _ (fun a b hab z=>hab (vh (Sum.inr.inj z))) h
theorem Jd (c:Nat) (n:Int) (cs:List Nat) (ns:List Int) (hc:c ∉ cs):∀ w:List Nat,(w.map (lk (c :: cs) (n :: ns))).sum=(w.count c:Nat) * n+(w.map (lk cs ns)).sum - (w.count c:Nat) * lk cs ns c
 | []=>by simp
 | x :: w=>by
  have ih:=Jd c n cs ns hc w
  rw [List.map_cons,List.map_cons,List.sum_cons,List.sum_cons,ih]
  by_cases e:c=x
  ·subst e
   rw [List.count_cons_self]
   have:lk (c :: cs) (n :: ns) c=n:=by unfold lk;rw [if_pos rfl]
   rw [this]
   push_cast
   rw [Int.add_mul,Int.add_mul]
   omega
  ·rw [List.count_cons_of_ne (by simpa using fun z:x=c=>e z.symm)]
   have:lk (c :: cs) (n :: ns) x=lk cs ns x:=by
    show (if c=x then n else lk cs ns x)=_
    rw [if_neg e]
   rw [this]
   omega
theorem qfp:∀ {cs:List Nat} {ns:List Int} {c:Nat},c ∉ cs->lk cs ns c=0
 | [],_,_,_=>by unfold lk;rfl
 | _ :: _,[],_,_=>by unfold lk;rfl
 | a :: cs,n :: ns,c,h=>by
  unfold lk
  rw [if_neg fun z=>h (by rw [z];exact List.mem_cons_self)]
  exact qfp fun z=>h (List.mem_cons_of_mem _ z)
theorem qc5:∀ {cs:List Nat} {ns:List Int} (w:List Nat),cs.Nodup->ns.length=cs.length->(w.map (lk cs ns)).sum=dot (cs.map fun c=>((w.count c:Nat):Int)) ns
 | [],[],w,_,_=>by
  rw [ju]
  induction w with
  | nil=>rfl
  | cons x w ih =>
   rw [List.map_cons,List.sum_cons,ih]
   unfold lk
   rfl
 | c :: cs,n :: ns,w,nd,hl=>by
  rw [Jd c n cs ns (List.nodup_cons.mp nd).1 w,List.map_cons,jh,qc5 w (List.nodup_cons.mp nd).2 (Nat.succ.inj hl),qfp (List.nodup_cons.mp nd).1]
  omega
 | [],_ :: _,_,_,h=>by cases h
 | _ :: _,[],_,_,h=>by cases h
def ltr (rs:List Rule):List Nat:=rs.map (·.1)
theorem Good.nd {first:List Nat} {rs:List Rule} (h:Good first rs):(ltr rs).Nodup:=h.rise.imp fun a=>Nat.ne_of_lt a
theorem qgt (rs:List Rule) (w:List Nat):c0 rs w=(ltr rs).map fun c=>((w.count c:Nat):Int):=by unfold c0 ltr;rw [List.map_map];rfl
def sumN (T:List (List Int)) (w0:List Int):Nat->List Int
 | 0=>w0
 | n+1=>stepL T (sumN T w0 n)
theorem qer {k:Nat} {T:List (List Int)} {w0:List Int} (hT:T.length=k) (h:w0.length=k):∀ n,(sumN T w0 n).length=k
 | 0=>h
 | n+1=>by unfold sumN stepL;rw [List.length_map,hT]
theorem qc6 (k:Nat) (T:List (List Int)):∀ n,lenN k T n=sumN T (List.replicate k 1) n
 | 0=>rfl
 | n+1=>by unfold lenN sumN;rw [qc6 k T n]
end Lw
namespace Lw
open PySem L2
theorem atI_last {α:Type} {xs:List α} {j:Nat} {v:α} (hl:xs.length=j+1) (h:xs[j]? = some v):atI xs (-1)=some v:=by
 unfold atI ixN
 rw [if_neg (by omega),if_pos (by omega)]
 have:(-1+(xs.length:Int)).toNat=j:=by omega
 rw [this]
 exact h
theorem qes (xs:List V) (m:Nat):cutV xs none (some (m:Int))=xs.take m:=by
 unfold cutV HT.sIx
 rw [List.drop_zero]
 simp only [Nat.sub_zero]
 by_cases h:m<=xs.length
 ·congr 1
  first | (split <;> omega) | omega | simp [h] <;> omega
 ·rw [List.take_of_length_le (l:=xs) (i:=m) (by omega)]
  refine List.take_of_length_le ?_
  first | (split <;> omega) | omega
theorem TabV.snoc {H H':Hp} {l d:Addr} {ls:List Addr} {vs:List (List Int)} {v:List Int} (t:TabV H l ls vs) (s:∀ a∈ls,∀ o,H a=some o->H' a=some o) (h1:H' l=some (.lst (ls.map V.ref++[V.ref d]))) (h2:H' d=some (.lst (v.map V.int))):TabV H' l (ls++[d]) (vs++[v]):=by
 refine ⟨by rw [h1,List.map_append];rfl,by rw [List.length_append,List.length_append,t.len];rfl,fun i a u e1 e2=>?_⟩
 by_cases hi:i < ls.length
 ·rw [List.getElem?_append_left hi] at e1
  rw [List.getElem?_append_left (by rw [<- t.len];exact hi)] at e2
  exact s a (List.mem_of_getElem? e1) _ (t.at_ i a u e1 e2)
 ·rw [List.getElem?_append_right (by omega)] at e1
  rw [List.getElem?_append_right (by rw [<- t.len];omega),<- t.len] at e2
  cases z:i - ls.length with
  | zero =>
   rw [z] at e1 e2
   cases e1
   cases e2
   exact h2
  | succ n=>rw [z] at e1;cases e1
theorem TabV.take {H H':Hp} {l d:Addr} {ls:List Addr} {vs:List (List Int)} (m:Nat) (t:TabV H l ls vs) (s:Same H H') (h:H' d=some (.lst ((ls.map V.ref).take m))):TabV H' d (ls.take m) (vs.take m):=by
 refine ⟨by rw [h,List.map_take],by rw [List.length_take,List.length_take,t.len],fun i a u e1 e2=>?_⟩
 rw [List.getElem?_take] at e1 e2
 split at e1
 ·rename_i hi
  rw [if_pos hi] at e2
  exact s _ _ (t.at_ i a u e1 e2)
 ·cases e1
theorem q9 {H:Hp} {l:Addr} {o:HO} {c:Addr} {u:HO} (h:H c=some u) (n:c≠l):upd H l o c=some u:=by rw [qg n];exact h
end Lw
namespace Lw
theorem qc7 (k:Nat) (T:List (List Int)) (c:List Int):((List.range k).map fun j=>colAt T j).map (fun r=>dot c r)=stepC k T c:=by rw [List.map_map];rfl
end Lw
namespace Lw
open PySem
def inner:Stmt->List Stmt
 | .For _ _ b _ _=>b
 | .While _ b _ _=>b
 | .If _ a _ _=>a
 | _=>[]
end Lw
namespace Lw
open PySem L2
end Lw
namespace Lw
open PySem L2
def wd:List Rule->Nat->List Nat
 | [],_=>[]
 | q :: rs,c=>if q.1=c then q.2 else wd rs c
def nxt (rs:List Rule) (x:List Nat):List Nat:=(x.map (wd rs)).flatten
def rowN (rs:List Rule) (x:List Nat):Nat->List Nat
 | 0=>x
 | n+1=>nxt rs (rowN rs x n)
theorem Je:∀ {rs:List Rule} {c:Nat},c∈ltr rs->∃ q∈rs,q.1=c/\wd rs c=q.2
 | [],c,h=>by simp [ltr] at h
 | q :: rs,c,h=>by
  by_cases e:q.1=c
  ·exact ⟨q,List.mem_cons_self,e,by unfold wd;rw [if_pos e]⟩
  ·have h':c∈ltr rs:=by
    rcases List.mem_cons.mp (show c∈q.1 :: ltr rs from h) with z | z
    ·exact absurd z.symm e
    ·exact z
   obtain ⟨q',a,b,d⟩:=Je h'
   exact ⟨q',List.mem_cons_of_mem _ a,b,by unfold wd;rw [if_neg e];exact d⟩
theorem qh5 (f:List Nat->Int):∀ {rs:List Rule} {c:Nat},c∈ltr rs->lk (ltr rs) (rs.map fun q=>f q.2) c=f (wd rs c)
 | [],c,h=>by simp [ltr] at h
 | q :: rs,c,h=>by
  show (if q.1=c then f q.2 else lk (ltr rs) (rs.map fun q=>f q.2) c)=f (if q.1=c then q.2 else wd rs c)
  by_cases e:q.1=c
  ·rw [if_pos e,if_pos e]
  ·have h':c∈ltr rs:=by
    rcases List.mem_cons.mp (show c∈q.1 :: ltr rs from h) with z | z
    ·exact absurd z.symm e
    ·exact z
   rw [if_neg e,if_neg e]
   exact qh5 f h'
theorem qfq {first:List Nat} {rs:List Rule} (hG:Good first rs) {x:List Nat} (hx:∀ c∈x,c∈ltr rs):∀ c∈nxt rs x,c∈ltr rs:=fun c hc=>by
 unfold nxt at hc
 obtain ⟨l,hl,hc⟩:=List.mem_flatten.mp hc
 obtain ⟨a,ha,rfl⟩:=List.mem_map.mp hl
 obtain ⟨q,hq,_,e⟩:=Je (hx a ha)
 rw [e] at hc
 exact hG.win q hq c hc
theorem vw {first:List Nat} {rs:List Rule} (hG:Good first rs) {x:List Nat} (hx:∀ c∈x,c∈ltr rs):∀ n,∀ c∈rowN rs x n,c∈ltr rs
 | 0=>hx
 | n+1=>qfq hG (vw hG hx n)
theorem Zu {rs:List Rule} (d:Nat):∀ {x:List Nat},(∀ c∈x,c∈ltr rs)->(((nxt rs x).count d:Nat):Int)=(x.map (lk (ltr rs) (rs.map fun q=>((q.2.count d:Nat):Int)))).sum
 | [],_=>rfl
 | c :: x,h=>by
  have ih:=Zu (rs:=rs) d (x:=x) fun c hc=>h c (List.mem_cons_of_mem _ hc)
  have e:nxt rs (c :: x)=wd rs c++nxt rs x:=by unfold nxt;rw [List.map_cons,List.flatten_cons]
  rw [e,List.count_append,List.map_cons,List.sum_cons,<- ih,qh5 (fun w=>((w.count d:Nat):Int)) (h c List.mem_cons_self)]
  push_cast
  rfl
theorem qah {first:List Nat} {rs:List Rule} (hG:Good first rs):∀ {x:List Nat},(∀ c∈x,c∈ltr rs)->(nxt rs x).length<=6 * x.length
 | [],_=>Nat.le_refl _
 | c :: x,h=>by
  have ih:=qah hG (x:=x) fun c hc=>h c (List.mem_cons_of_mem _ hc)
  have e:nxt rs (c :: x)=wd rs c++nxt rs x:=by unfold nxt;rw [List.map_cons,List.flatten_cons]
  obtain ⟨q,hq,_,e2⟩:=Je (h c List.mem_cons_self)
  have:=hG.wl q hq
  rw [e,List.length_append,e2,List.length_cons]
  omega
theorem qet (rs:List Rule) {j:Nat} {q:Rule} (h:rs[j]? = some q):colAt (tabI rs) j=rs.map fun p=>((p.2.count q.1:Nat):Int):=by
 unfold colAt tabI
 rw [List.map_map]
 refine List.map_congr_left fun p _=>?_
 show (rs.map fun q'=>((p.2.count q'.1:Nat):Int)).getD j 0=_
 rw [List.getD_eq_getElem?_getD,List.getElem?_map,h]
 rfl
theorem Zv {first:List Nat} {rs:List Rule} (hG:Good first rs) (ns:List Int) (hl:ns.length=rs.length) (x:List Nat):(x.map (lk (ltr rs) ns)).sum=dot (c0 rs x) ns:=by
 rw [qc5 x hG.nd (by rw [hl];unfold ltr;rw [List.length_map]),qgt]
theorem qh6 {first:List Nat} {rs:List Rule} (hG:Good first rs) {x:List Nat} (hx:∀ c∈x,c∈ltr rs):c0 rs (nxt rs x)=stepC rs.length (tabI rs) (c0 rs x):=by
 refine List.ext_getElem? fun j=>?_
 unfold stepC
 rw [List.getElem?_map]
 by_cases hj:j < rs.length
 ·have e:=List.getElem?_eq_getElem hj
  rw [List.getElem?_range hj]
  unfold c0
  rw [List.getElem?_map,e]
  show some (((nxt rs x).count rs[j].1:Nat):Int)=some (dot (c0 rs x) (colAt (tabI rs) j))
  rw [qet rs e,Zu _ hx,Zv hG _ (by rw [List.length_map])]
 ·rw [List.getElem?_eq_none (by rw [qad];omega),List.getElem?_eq_none (by rw [List.length_range];omega)]
  rfl
theorem Yj {first:List Nat} {rs:List Rule} (hG:Good first rs) {x:List Nat} (hx:∀ c∈x,c∈ltr rs):∀ n,cntN rs.length (tabI rs) (c0 rs x) n=c0 rs (rowN rs x n)
 | 0=>rfl
 | n+1=>by
  show stepC rs.length (tabI rs) (cntN rs.length (tabI rs) (c0 rs x) n)=c0 rs (nxt rs (rowN rs x n))
  rw [Yj hG hx n,qh6 hG (vw hG hx n)]
theorem qc8:∀ {cs:List Nat} {c:Nat},c∈cs->lk cs (List.replicate cs.length 1) c=1
 | [],c,h=>by simp at h
 | a :: cs,c,h=>by
  show (if a=c then (1:Int) else lk cs (List.replicate cs.length 1) c)=1
  by_cases e:a=c
  ·rw [if_pos e]
  ·rw [if_neg e]
   rcases List.mem_cons.mp h with z | z
   ·exact absurd z.symm e
   ·exact qc8 z
theorem qfr {first:List Nat} {rs:List Rule} (hG:Good first rs) {x:List Nat} (hx:∀ c∈x,c∈ltr rs):(c0 rs x).sum=(x.length:Int):=by
 have h1:=Vq (c0 rs x)
 have ll:(ltr rs).length=rs.length:=by unfold ltr;rw [List.length_map]
 rw [qad,<- Zv hG _ (by rw [List.length_replicate]),<- ll] at h1
 rw [<- h1]
 clear h1
 induction x with
 | nil=>rfl
 | cons a x ih =>
  rw [List.map_cons,List.sum_cons,qc8 (hx a List.mem_cons_self),ih fun c hc=>hx c (List.mem_cons_of_mem _ hc)]
  rw [List.length_cons]
  push_cast
  omega
theorem qai (c:Nat):∀ (cs:List Nat) (l:List Int),c ∉ cs->dot (cs.map fun x=>(([c].count x:Nat):Int)) l=0
 | [],l,_=>ze _
 | x :: cs,[],_=>ju _
 | x :: cs,y :: l,h=>by
  have hx:[c].count x=0:=List.count_eq_zero.mpr fun z=>h (by
   have:x=c:=by simpa using z
   rw [this];exact List.mem_cons_self)
  rw [List.map_cons,jh,qai c cs l (fun z=>h (List.mem_cons_of_mem _ z)),hx]
  simp
theorem qc9 (c:Nat):∀ (cs:List Nat) (l:List Int) (j:Nat) (v:Int),cs.Nodup->cs[j]? = some c->l[j]? = some v->dot (cs.map fun x=>(([c].count x:Nat):Int)) l=v
 | [],l,j,v,_,e,_=>by simp at e
 | x :: cs,[],j,v,_,_,e=>by simp at e
 | x :: cs,y :: l,0,v,nd,e1,e2=>by
  have e1':x=c:=Option.some.inj e1
  have e2':y=v:=Option.some.inj e2
  subst e1' e2'
  rw [List.map_cons,jh,qai _ cs l (List.nodup_cons.mp nd).1]
  have:[x].count x=1:=by simp
  rw [this]
  simp
 | x :: cs,y :: l,j+1,v,nd,e1,e2=>by
  have e1':cs[j]? = some c:=e1
  have hne:x≠c:=fun z=>(List.nodup_cons.mp nd).1 (by rw [z];exact List.mem_of_getElem? e1')
  have hx:[c].count x=0:=List.count_eq_zero.mpr fun z=>hne (by simpa using z)
  rw [List.map_cons,jh,qc9 c cs l j v (List.nodup_cons.mp nd).2 e1' e2,hx]
  simp
theorem Yk {first:List Nat} {rs:List Rule} (hG:Good first rs) (n:Nat):lenN rs.length (tabI rs) n=rs.map fun q=>(((rowN rs [q.1] n).length:Nat):Int):=by
 have ln:=vm (k:=rs.length) (jn rs) n
 refine List.ext_getElem? fun j=>?_
 by_cases hj:j < rs.length
 ·have e:=List.getElem?_eq_getElem hj
  have e2:=List.getElem?_eq_getElem (l:=lenN rs.length (tabI rs) n) (i:=j) (by rw [ln];exact hj)
  have hx:∀ c∈[rs[j].1],c∈ltr rs:=fun c hc=>by
   rw [List.mem_singleton.mp hc]
   exact List.mem_map_of_mem (f:=(·.1)) (List.getElem_mem hj)
  have h1:=parted (k:=rs.length) (T:=tabI rs) (fun r hr=>qae hr) (jn rs) n 0 (c0 rs [rs[j].1]) (qad rs _)
  rw [Nat.zero_add,Yj hG hx,qfr hG (vw hG hx n)] at h1
  have h2:dot (c0 rs [rs[j].1]) (lenN rs.length (tabI rs) n)=(lenN rs.length (tabI rs) n)[j]'(by rw [ln];exact hj):=by
   rw [qgt]
   exact qc9 _ (ltr rs) _ j _ hG.nd (by unfold ltr;rw [List.getElem?_map,e];rfl) e2
  rw [e2,List.getElem?_map,e]
  show some _=some _
  rw [<- h2]
  exact congrArg some h1.symm
 ·rw [List.getElem?_eq_none (by rw [ln];omega),List.getElem?_eq_none (by rw [List.length_map];omega)]
end Lw
namespace Lw
open PySem L2
theorem qgu (rs:List Rule) (x y:List Nat):nxt rs (x++y)=nxt rs x++nxt rs y:=by
 unfold nxt
 rw [List.map_append,List.flatten_append]
theorem zf (rs:List Rule) (x y:List Nat):∀ n,rowN rs (x++y) n=rowN rs x n++rowN rs y n
 | 0=>rfl
 | n+1=>by
  show nxt rs (rowN rs (x++y) n)=nxt rs (rowN rs x n)++nxt rs (rowN rs y n)
  rw [zf rs x y n,qgu]
theorem rowN_nil (rs:List Rule):∀ n,rowN rs [] n=[]
 | 0=>rfl
 | n+1=>by
  show nxt rs (rowN rs [] n)=[]
  rw [rowN_nil rs n]
  rfl
theorem zg (rs:List Rule) (c:Nat) (x:List Nat) (n:Nat):rowN rs (c :: x) n=rowN rs [c] n++rowN rs x n:=zf rs [c] x n
theorem zh (rs:List Rule) (x:List Nat):∀ n,rowN rs x (n+1)=rowN rs (nxt rs x) n
 | 0=>rfl
 | n+1=>by
  show nxt rs (rowN rs x (n+1))=nxt rs (rowN rs (nxt rs x) n)
  rw [zh rs x n]
theorem qda (rs:List Rule) (c:Nat):nxt rs [c]=wd rs c:=by
 unfold nxt
 simp
def szN (rs:List Rule) (n c:Nat):Nat:=(rowN rs [c] n).length
theorem Jf (rs:List Rule) (n:Nat):∀ x:List Nat,(rowN rs x n).length=(x.map (szN rs n)).sum
 | []=>by rw [rowN_nil];rfl
 | c :: x=>by
  rw [zg,List.length_append,Jf rs n x,List.map_cons,List.sum_cons]
  rfl
theorem qaj (rs:List Rule) (n c:Nat):szN rs (n+1) c=(rowN rs (wd rs c) n).length:=by
 unfold szN
 rw [zh,qda]
theorem qfs (g:Nat->Int):∀ {rs:List Rule} {c:Nat},c∈ltr rs->lk (ltr rs) (rs.map fun q=>g q.1) c=g c
 | [],c,h=>by simp [ltr] at h
 | q :: rs,c,h=>by
  show lk (q.1 :: ltr rs) (g q.1 :: rs.map fun q=>g q.1) c=g c
  unfold lk
  by_cases e:q.1=c
  ·rw [if_pos (by first | exact e | exact e.symm | (rw [e];exact beq_self_eq_true c)),e]
  ·have h':c∈ltr rs:=by
    rcases List.mem_cons.mp (show c∈q.1 :: ltr rs from h) with z | z
    ·exact absurd z.symm e
    ·exact z
   rw [if_neg (by first | exact e | exact fun z=>e z.symm | exact fun z=>e (eq_of_beq z))]
   exact qfs g h'
theorem Yl {first:List Nat} {rs:List Rule} (hG:Good first rs) (n:Nat) {c:Nat} (h:c∈ltr rs):lk (ltr rs) (lenN rs.length (tabI rs) n) c=((szN rs n c:Nat):Int):=by
 rw [Yk hG n]
 exact qfs (fun c=>((szN rs n c:Nat):Int)) h
theorem qak {first:List Nat} {rs:List Rule} (hG:Good first rs) (n:Nat):∀ {x:List Nat},(∀ c∈x,c∈ltr rs)->(x.map (lk (ltr rs) (lenN rs.length (tabI rs) n))).sum=(((rowN rs x n).length:Nat):Int)
 | [],_=>by rw [rowN_nil];rfl
 | c :: x,h=>by
  rw [List.map_cons,List.sum_cons,qak hG n fun d hd=>h d (List.mem_cons_of_mem _ hd),Yl hG n (h c List.mem_cons_self),zg,List.length_append]
  show ((szN rs n c:Nat):Int)+_=_
  unfold szN
  omega
def pick (f:Nat->Nat):List Nat->Nat->Nat × Nat
 | [],l=>(0,l)
 | c :: x,l=>if f c<=l then ((pick f x (l - f c)).1+1,(pick f x (l - f c)).2) else (0,l)
theorem qdb (f:Nat->Nat):∀ (x:List Nat) (j l:Nat) (c:Nat),x[j]? = some c->((x.take j).map f).sum<=l->l < ((x.take j).map f).sum+f c->pick f x l=(j,l - ((x.take j).map f).sum)
 | [],j,l,c,e,_,_=>by simp at e
 | d :: x,0,l,c,e,_,h2=>by
  have e':d=c:=Option.some.inj e
  subst e'
  have:¬ f d<=l:=by simp at h2;omega
  unfold pick
  rw [if_neg this]
  simp
 | d :: x,j+1,l,c,e,h1,h2=>by
  rw [List.take_succ_cons,List.map_cons,List.sum_cons] at h1 h2 ⊢
  unfold pick
  rw [if_pos (by omega),qdb f x j (l - f d) c e (by omega) (by omega)]
  show (j+1,l - f d - _)=(j+1,_)
  congr 1
  omega
theorem Ym (f:Nat->Nat):∀ (x:List Nat) (l:Nat),l < (x.map f).sum->∃ c,x[(pick f x l).1]? = some c/\(pick f x l).2 < f c/\((x.take (pick f x l).1).map f).sum+(pick f x l).2=l
 | [],l,h=>by simp at h
 | d :: x,l,h=>by
  rw [List.map_cons,List.sum_cons] at h
  unfold pick
  by_cases e:f d<=l
  ·rw [if_pos e]
   obtain ⟨c,h1,h2,h3⟩:=Ym f x (l - f d) (by omega)
   refine ⟨c,h1,h2,?_⟩
   rw [List.take_succ_cons,List.map_cons,List.sum_cons]
   omega
  ·rw [if_neg e]
   exact ⟨d,rfl,by omega,by simp⟩
theorem Vt (rs:List Rule) (n:Nat):∀ (x:List Nat) (l c:Nat),l < (rowN rs x n).length->x[(pick (szN rs n) x l).1]? = some c->(rowN rs x n)[l]? = (rowN rs [c] n)[(pick (szN rs n) x l).2]?
 | [],l,c,h,e=>by simp at e
 | d :: x,l,c,h,e=>by
  rw [zg] at h ⊢
  unfold pick at e ⊢
  by_cases q:szN rs n d<=l
  ·rw [if_pos q] at e ⊢
   rw [List.length_append] at h
   rw [List.getElem?_append_right q]
   exact Vt rs n x (l - szN rs n d) c (by unfold szN at q ⊢;omega) e
  ·rw [if_neg q] at e ⊢
   have e':d=c:=Option.some.inj e
   subst e'
   rw [List.getElem?_append_left (show l < (rowN rs [d] n).length from Nat.lt_of_not_le q)]
def wayK (rs:List Rule):Nat->List Nat->Nat->List (Nat × Nat)
 | 0,_,_=>[]
 | k+1,x,l=>(x.getD (pick (szN rs k) x l).1 0,(pick (szN rs k) x l).1) :: wayK rs k (wd rs (x.getD (pick (szN rs k) x l).1 0)) (pick (szN rs k) x l).2
theorem qal (rs:List Rule):∀ (k:Nat) (x:List Nat) (l:Nat),(wayK rs k x l).length=k
 | 0,_,_=>rfl
 | k+1,x,l=>by
  show (wayK rs k _ _).length+1=k+1
  rw [qal rs k]
theorem Zw (rs:List Rule):∀ (k:Nat) (x:List Nat) (l:Nat),l < (rowN rs x k).length->∃ p,(wayK rs (k+1) x l)[k]? = some p/\(rowN rs x k)[l]? = some p.1
 | 0,x,l,h=>by
  have h':l < (x.map (szN rs 0)).sum:=by rw [<- Jf];exact h
  obtain ⟨c,h1,h2,h3⟩:=Ym (szN rs 0) x l h'
  have ec:x.getD (pick (szN rs 0) x l).1 0=c:=by rw [List.getD_eq_getElem?_getD,h1];rfl
  refine ⟨_,rfl,?_⟩
  have:=Vt rs 0 x l c h h1
  rw [this]
  show [c][(pick (szN rs 0) x l).2]? = some (x.getD (pick (szN rs 0) x l).1 0)
  have h2':(pick (szN rs 0) x l).2 < 1:=h2
  have:(pick (szN rs 0) x l).2=0:=by omega
  rw [this,ec]
  rfl
 | k+1,x,l,h=>by
  have h':l < (x.map (szN rs (k+1))).sum:=by rw [<- Jf];exact h
  obtain ⟨c,h1,h2,h3⟩:=Ym (szN rs (k+1)) x l h'
  have ec:x.getD (pick (szN rs (k+1)) x l).1 0=c:=by rw [List.getD_eq_getElem?_getD,h1];rfl
  rw [qaj] at h2
  obtain ⟨p,p1,p2⟩:=Zw rs k (wd rs c) (pick (szN rs (k+1)) x l).2 h2
  refine ⟨p,?_,?_⟩
  ·show (wayK rs (k+1) (wd rs (x.getD (pick (szN rs (k+1)) x l).1 0)) (pick (szN rs (k+1)) x l).2)[k]? = some p
   rw [ec]
   exact p1
  ·rw [Vt rs (k+1) x l c h h1,zh,qda]
   exact p2
end Lw
namespace Lw
open PySem L2
def gN (rs:List Rule) (g0:Nat->Nat):Nat->Nat->Nat
 | 0,c=>g0 c
 | m+1,c=>((wd rs c).map (gN rs g0 m)).sum
theorem qam (rs:List Rule):∀ m c,gN rs (fun _=>1) m c=szN rs m c
 | 0,c=>rfl
 | m+1,c=>by
  show ((wd rs c).map (gN rs (fun _=>1) m)).sum=_
  rw [qaj,Jf]
  congr 1
  exact List.map_congr_left fun d _=>qam rs m d
theorem natsum (f:Nat->Nat):∀ x:List Nat,(((x.map f).sum:Nat):Int)=(x.map fun c=>((f c:Nat):Int)).sum
 | []=>rfl
 | c :: x=>by
  rw [List.map_cons,List.sum_cons,List.map_cons,List.sum_cons,<- natsum f x]
  omega
theorem qh7 {rs:List Rule} {ns:List Int} {g:Nat->Nat} (h:∀ c∈ltr rs,lk (ltr rs) ns c=((g c:Nat):Int)) {x:List Nat} (hx:∀ c∈x,c∈ltr rs):(x.map (lk (ltr rs) ns)).sum=(((x.map g).sum:Nat):Int):=by
 rw [natsum]
 congr 1
 exact List.map_congr_left fun d hd=>h d (hx d hd)
def wayG (rs:List Rule) (g:Nat->Nat->Nat):Nat->List Nat->Nat->List (Nat × Nat)
 | 0,_,_=>[]
 | k+1,x,l=>(x.getD (pick (g k) x l).1 0,(pick (g k) x l).1) :: wayG rs g k (wd rs (x.getD (pick (g k) x l).1 0)) (pick (g k) x l).2
theorem qan (rs:List Rule) (g:Nat->Nat->Nat):∀ (k:Nat) (x:List Nat) (l:Nat),(wayG rs g k x l).length=k
 | 0,_,_=>rfl
 | k+1,x,l=>by
  show (wayG rs g k _ _).length+1=k+1
  rw [qan rs g k]
def Way (rs:List Rule):List Nat->List (Nat × Nat)->Prop
 | _,[]=>True
 | x,p :: W=>x[p.2]? = some p.1/\Way rs (wd rs p.1) W
def lastL:List (Nat × Nat)->Nat->Nat
 | [],d=>d
 | p :: W,_=>lastL W p.1
theorem Jg:∀ (W:List (Nat × Nat)) (d:Nat) {p:Nat × Nat},W[W.length - 1]? = some p->lastL W d=p.1
 | [],d,p,h=>by simp at h
 | [q],d,p,h=>by
  have:q=p:=Option.some.inj h
  subst this
  rfl
 | q :: r :: W,d,p,h=>by
  show lastL (r :: W) q.1=p.1
  exact Jg (r :: W) q.1 h
end Lw
namespace Lw
open PySem L2
theorem qdc (rs:List Rule) (m:Nat) (y:List Nat):(rowN rs y m).length=(y.map (gN rs (fun _=>1) m)).sum:=by
 rw [Jf]
 congr 1
 exact List.map_congr_left fun c _=>(qam rs m c).symm
theorem qft (rs:List Rule):∀ (k:Nat) (x:List Nat) (l:Nat),wayG rs (gN rs fun _=>1) k x l=wayK rs k x l
 | 0,_,_=>rfl
 | k+1,x,l=>by
  have e:gN rs (fun _=>1) k=szN rs k:=funext fun c=>qam rs k c
  show (x.getD (pick (gN rs (fun _=>1) k) x l).1 0,(pick (gN rs (fun _=>1) k) x l).1) :: wayG rs (gN rs fun _=>1) k (wd rs (x.getD (pick (gN rs (fun _=>1) k) x l).1 0)) (pick (gN rs (fun _=>1) k) x l).2=_
  rw [e,qft rs k]
  rfl
theorem qeu (rs:List Rule) (a:Nat) (x:List Nat) (e d:Nat) (h:e < (x.map (gN rs (fun _=>1) a)).sum):(rowN rs x a)[e]? = some (lastL (wayG rs (gN rs fun _=>1) (a+1) x e) d):=by
 obtain ⟨p,p1,p2⟩:=Zw rs a x e (by rw [qdc];exact h)
 rw [p2,qft]
 have:=Jg (wayK rs (a+1) x e) d (p:=p) (by rw [qal];exact p1)
 rw [this]
theorem Way.take {rs:List Rule}:∀ (W:List (Nat × Nat)) (x:List Nat) (k:Nat),Way rs x W->Way rs x (W.take k)
 | _,_,0,_=>by simp [Way]
 | [],x,k+1,_=>by simp [Way]
 | p :: W,x,k+1,h=>⟨h.1,Way.take W (wd rs p.1) k h.2⟩
theorem Way.drop {rs:List Rule}:∀ (W:List (Nat × Nat)) (x:List Nat) (k d:Nat),Way rs x W->k+1<=W.length->Way rs (wd rs (lastL (W.take (k+1)) d)) (W.drop (k+1))
 | [],x,k,d,_,h=>by simp at h
 | p :: W,x,0,d,h,_=>h.2
 | p :: W,x,k+1,d,h,hl=>Way.drop W (wd rs p.1) k p.1 h.2 (by simp at hl;omega)
end Lw
namespace Lw
open PySem L2
def Wit (rs:List Rule) (n start many:Nat) (A y:List Nat) (inner:Int):Prop :=
 (y=[]/\inner=(start:Int)/\(many=0\/A.length<=start)) \/
 ∃ inn:Nat,y≠[]/\inner=(inn:Int)/\0 < many/\start < A.length/\inn<=(rowN rs y n).length/\(A.drop start).take many=((rowN rs y n).drop inn).take many /\
  (A.length < start+many->(rowN rs y n).drop inn=A.drop start)/\y.length+start<=A.length/\y.length<=many
theorem Wit.nil (rs:List Rule) (n start many:Nat):Wit rs n start many [] [] (start:Int):=.inl ⟨rfl,rfl,.inr (Nat.zero_le _)⟩
theorem Wit.first {rs:List Rule} {n start many:Nat} {A:List Nat} {inner:Int} {c:Nat} (h:Wit rs n start many A [] inner) (hs:start < A.length+(rowN rs [c] n).length) (hm:0 < many) (ha:A.length < start+many) :
  Wit rs n start many (A++rowN rs [c] n) [c] ((start:Int) - (A.length:Int)):=by
 rcases h with ⟨_,_,h3⟩ | ⟨inn,h,_⟩
 ·have h4:A.length<=start:=by omega
  have e:(rowN rs [c] n).drop (start - A.length)=(A++rowN rs [c] n).drop start:=by
   rw [List.drop_append,List.drop_eq_nil_of_le h4]
   rfl
  refine .inr ⟨start - A.length,by simp,by omega,hm,by rw [List.length_append];exact hs,by omega,by rw [e],fun _=>e,?_,?_⟩
  ·rw [List.length_append]
   show 1+start<=_
   omega
  ·show 1<=many
   exact hm
 ·exact absurd rfl h
theorem Wit.more {rs:List Rule} {n start many:Nat} {A y:List Nat} {inner:Int} {c:Nat} (h:Wit rs n start many A y inner) (hy:y≠[]) (hp:0 < (rowN rs [c] n).length) (ha:A.length < start+many) :
  Wit rs n start many (A++rowN rs [c] n) (y++[c]) inner:=by
 rcases h with ⟨h,_⟩ | ⟨inn,h1,h2,h3,h4,h5,h6,h7,h8,h9⟩
 ·exact absurd h hy
 ·have e:(rowN rs (y++[c]) n).drop inn=(A++rowN rs [c] n).drop start:=by
   rw [zf,List.drop_append_of_le_length h5,List.drop_append_of_le_length (by omega),h7 ha]
  refine .inr ⟨inn,by simp,h2,h3,by rw [List.length_append];omega,by rw [zf,List.length_append];omega,by rw [e],fun _=>e,?_,?_⟩
  ·rw [List.length_append,List.length_append,List.length_singleton]
   omega
  ·have:=congrArg List.length (h7 ha)
   rw [List.length_drop,List.length_drop] at this
   rw [List.length_append,List.length_singleton]
   omega
theorem Wit.skip {rs:List Rule} {n start many:Nat} {A y p:List Nat} {inner:Int} (h:Wit rs n start many A y inner) (hk:¬ (A.length < A.length+p.length/\start < A.length+p.length/\A.length < start+many/\0 < many)):Wit rs n start many (A++p) y inner:=by
 rcases h with ⟨h1,h2,h3⟩ | ⟨inn,h1,h2,h3,h4,h5,h6,h7,h8,h9⟩
 ·refine .inl ⟨h1,h2,?_⟩
  rw [List.length_append]
  omega
 ·by_cases hp:p.length=0
  ·have:p=[]:=List.eq_nil_of_length_eq_zero hp
   subst this
   rw [List.append_nil]
   exact .inr ⟨inn,h1,h2,h3,h4,h5,h6,h7,h8,h9⟩
  ·have hb:start+many<=A.length:=by omega
   refine .inr ⟨inn,h1,h2,h3,by rw [List.length_append];omega,h5,?_,fun z=>?_,by rw [List.length_append];omega,h9⟩
   ·rw [List.drop_append_of_le_length (by omega),List.take_append_of_le_length (by rw [List.length_drop];omega)]
    exact h6
   ·rw [List.length_append] at z
    omega
def Red (rs:List Rule) (k start many:Nat) (R y:List Nat) (inner:Int):Prop :=
 (many=0/\y=[]/\inner=(start:Int))\/∃ inn:Nat,0 < many/\inner=(inn:Int)/\((rowN rs y k).drop inn).take many=(R.drop start).take many/\inn+many<=(rowN rs y k).length/\y.length<=many
theorem qdd {rs:List Rule} {k start many:Nat} {R A y:List Nat} {s0:Nat} {inner:Int} (h:Wit rs k s0 many A y inner) (hR:many=0/\s0=start\/0 < many/\(A.drop s0).take many=(R.drop start).take many/\s0+many<=A.length):Red rs k start many R y inner:=by
 rcases h with ⟨h1,h2,h3⟩ | ⟨inn,h1,h2,h3,h4,h5,h6,h7,h8,h9⟩
 ·rcases hR with ⟨hm,hs⟩ | ⟨hm,_,hl⟩
  ·exact .inl ⟨hm,h1,by rw [h2,hs]⟩
  ·omega
 ·rcases hR with ⟨hm,hs⟩ | ⟨hm,he,hl⟩
  ·omega
  ·refine .inr ⟨inn,h3,h2,by rw [<- h6,he],?_,h9⟩
   have:=congrArg List.length h6
   rw [List.length_take,List.length_drop,List.length_take,List.length_drop] at this
   omega
theorem Red.next {rs:List Rule} {k start many:Nat} {R y y':List Nat} {inner inner':Int} (h:Red rs (k+1) start many R y inner) (hw:∀ s0:Nat,inner=(s0:Int)->Wit rs k s0 many (rowN rs (nxt rs y) k) y' inner') (h0:0<=inner):Red rs k start many R y' inner':=by
 rcases h with ⟨hm,rfl,rfl⟩ | ⟨inn,hm,rfl,h1,h2,_⟩
 ·exact qdd (hw start rfl) (.inl ⟨hm,rfl⟩)
 ·rw [zh] at h1 h2
  exact qdd (hw inn rfl) (.inr ⟨hm,h1,h2⟩)
theorem Red.nn {rs:List Rule} {k start many:Nat} {R y:List Nat} {inner:Int} (h:Red rs k start many R y inner):∃ s0:Nat,inner=(s0:Int)/\y.length<=many:=by
 rcases h with ⟨hm,rfl,rfl⟩ | ⟨inn,hm,rfl,h1,h2,h3⟩
 ·exact ⟨start,rfl,Nat.zero_le _⟩
 ·exact ⟨inn,rfl,h3⟩
theorem Red.last {rs:List Rule} {start many:Nat} {R y:List Nat} {inner:Int} (h:Red rs 0 start many R y inner):y=(R.drop start).take many:=by
 rcases h with ⟨rfl,rfl,_⟩ | ⟨inn,hm,rfl,h1,h2,h3⟩
 ·rw [List.take_zero]
 ·have h2':inn+many<=y.length:=h2
  have h1':(y.drop inn).take many=(R.drop start).take many:=h1
  have:inn=0:=by omega
  subst this
  rw [<- h1',List.drop_zero,List.take_of_length_le h3]
end Lw
namespace Lw
open PySem L2
def top (i:Nat):Stmt:=PySem.Challenge.pw_linegrow_k32_fast_books.main.body.getD i (.Pass ⟨0,0,0,0⟩)
abbrev sWho:Stmt:=top 10
abbrev sWin:Stmt:=top 11
abbrev sItp:Stmt:=top 12
abbrev sIsl:Stmt:=top 13
abbrev sItx:Stmt:=top 14
abbrev sNag:Stmt:=top 15
abbrev sHla:Stmt:=top 20
abbrev sRul:Stmt:=top 21
abbrev sMru:Stmt:=top 22
abbrev sMbo:Stmt:=top 23
abbrev sBko:Stmt:=top 24
abbrev sIbk:Stmt:=top 25
abbrev sLet:Stmt:=top 26
abbrev sRep:Stmt:=top 28
abbrev sTal:Stmt:=top 30
abbrev sTab:Stmt:=top 31
abbrev sCol:Stmt:=top 32
abbrev sCls:Stmt:=top 33
abbrev sPrs:Stmt:=top 34
abbrev sOao:Stmt:=top 35
abbrev sCou:Stmt:=top 36
abbrev sFcs:Stmt:=top 37
abbrev sLng:Stmt:=top 38
abbrev sTsm:Stmt:=top 39
abbrev sWba:Stmt:=top 40
abbrev sLsm:Stmt:=top 41
abbrev sSsm:Stmt:=top 42
abbrev sLns:Stmt:=top 43
abbrev sLls:Stmt:=top 44
abbrev sNpl:Stmt:=top 47
abbrev sWbh:Stmt:=top 48
abbrev sWay:Stmt:=top 49
abbrev sLea:Stmt:=top 50
abbrev sWit:Stmt:=top 51
abbrev sRea:Stmt:=top 52
abbrev sNst:Stmt:=top 53
abbrev sStr:Stmt:=top 54
abbrev sShr:Stmt:=top 57
abbrev sFas:Stmt:=top 58
abbrev sPen:Stmt:=top 60
abbrev sTak:Stmt:=top 61
abbrev sSig:Stmt:=top 62
abbrev sTxt:Stmt:=top 63
abbrev sWrd:Stmt:=top 64
abbrev sBok:Stmt:=top 65
abbrev sSlo:Stmt:=top 66
abbrev sLgw:Stmt:=top 67
abbrev sRfl:Stmt:=top 68
abbrev sWdr:Stmt:=top 69
abbrev sRgt:Stmt:=top 70
abbrev sLaw:Stmt:=top 71
end Lw
namespace Lw
open PySem L2
structure Gf (K:W.Frag) (mg:Str->Option Value) (x:Str) (f:Addr) (fd:FuncData) (ps:List Str):Prop where
 m:mg x=some (.ref f)
 k:W.keepIn K (.ref f)=true
 b:Binds K fd ps []
section
variable {P:Program} {w:World} {K:W.Frag} {mg:Str->Option Value} {base:Heap}
def spRulB:Sp:=fun vs H Q _=>∃ (r:Addr) (ps:List Addr) (rs:List Rule),vs=[.ref r]/\H r=some (.tup (ps.map V.ref))/\RulesAt H ps rs/\rs.length<=8 /\
 ∀ l H',Same H H'->H l=none->H' l=some (.lst (rs.map fun q=>sign q.1))->Q (.ref l) H'
theorem qgv:(["rule"]:List Str).Nodup:=by decide +kernel
theorem scRulB:FnScope ["rules"] ["rules"] (defScope sRul):=⟨rfl,rfl,rfl,by decide +kernel,rfl,by decide +kernel,by decide +kernel⟩
theorem qgw {f:Addr} {fd:FuncData} (F:Fun K "ruled_letters" "ruled_letters" sRul f fd):FnOk P w K mg base CX0 1 f fd ["rules"] spRulB:=by
 refine F.ok scRulB (fun vs H Q E h=>?_) (fun cdv A outer s H vs Q E hr h=>?_)
 ·obtain ⟨r,ps,rs,rfl,_⟩:=h
  rfl
 ·obtain ⟨r,ps,rs,rfl,hr1,hR,hl,k⟩:=h
  refine ⟨_,qf (qh (qz (N':=["rule"]) (ix:=[none]) rfl rfl (qfc (pv 0)) (fun _ _ _ _ _ _=>qj (i:=0) qgv rfl (Or.inl rfl)) (fun _ _ _ _ _ _=>qx)
   (fun _ _ _ _ _ _=>pe_ix (r:=rIxT K) V6 (pv 0) qd (fun _ _=>rfl)))),?_⟩
  refine ⟨_,rfl,r,rfl,⟨_,SqT.of hr1⟩,jq (Ve (xs:=ps.map V.ref)) (by rw [List.length_map,hR.len];omega) (fun i ys τ H2=>H2=H/\ys=(rs.take i).map (fun q=>sign q.1)/\∃ v,τ=[v]) ⟨rfl,rfl,_,rfl⟩ ?_ ?_ ?_⟩
  ·rintro i ys τ H2 hi ⟨rfl,rfl,_⟩
   exact ⟨SqT.of hr1,by rw [List.length_map,List.length_take];omega⟩
  ·rintro i x ys τ H2 hx ⟨rfl,rfl,v,rfl⟩
   rw [List.getElem?_map] at hx
   cases e:ps[i]? with
   | none=>rw [e] at hx;cases hx
   | some p =>
    rw [e] at hx
    cases hx
    obtain ⟨c,w',e1,e2⟩:=hR.get e
    exact ⟨_,rfl,p,_,_,_,rfl,rfl,SqT.of e2,atI_nat (j:=0) rfl,rfl,(q0 _ e1).symm,_,rfl⟩
  ·rintro ys τ H2 D ⟨rfl,rfl,_⟩ hD
   refine k D _ (Same.add hD) hD ?_
   rw [upd_same,List.length_map,hR.len,take_all]
def spLet:Sp:=fun vs H Q _=>∃ (t:Addr) (first:List Nat) (rs:List Rule),vs=[.ref t]/\BookAt H t first rs/\rs.length<=8/\∀ H',Same H H'->Q (tx (rs.map (·.1))) H'
theorem scLet:FnScope ["book"] ["book"] (defScope sLet):=⟨rfl,rfl,rfl,by decide +kernel,rfl,by decide +kernel,by decide +kernel⟩
theorem qh8 {f f1:Addr} {fd fd1:FuncData} (F:Fun K "letters" "letters" sLet f fd) (G:FnOk P w K mg base CX0 1 f1 fd1 ["rules"] spRulB) (g:Gf K mg "ruled_letters" f1 fd1 ["rules"]):FnOk P w K mg base CX0 2 f fd ["book"] spLet:=by
 refine F.ok scLet (fun vs H Q E h=>?_) (fun cdv A outer s H vs Q E hr h=>?_)
 ·obtain ⟨t,first,rs,rfl,_⟩:=h
  rfl
 ·obtain ⟨t,first,rs,rfl,hB,hl,k⟩:=h
  refine ⟨_,qf (qh (qb2 PySem.F.plainAttrs_str PySem.F.slot_str_join PySem.F.type_str_join Ya jz (qa (qe G hr rfl g.m g.k g.b .nil pass0 (qa (pe_ix V6 (pv 0) qd (fun _ _=>rfl)) qb)) qb))),?_⟩
  obtain ⟨r,ps,h1,h2,h3⟩:=hB.ex
  refine ⟨rfl,_,rfl,t,_,_,_,rfl,rfl,SqT.of h1,atI_nat (j:=1) rfl,r,ps,rs,rfl,h2,h3,hl,fun l H' s1 hl1 hl2=>?_⟩
  refine ⟨_,l,rs.map fun q=>(⟨#[q.1]⟩:Str),rfl,rfl,SqL.of (by rw [hl2,List.map_map];rfl),?_,?_⟩
  ·have e:(rs.map fun q=>(⟨#[q.1]⟩:Str))=(rs.map (·.1)).map fun c=>(⟨#[c]⟩:Str):=by rw [List.map_map];rfl
   rw [e,Y6]
   simp only [List.length_map]
   show rs.length+rs.length * 0<=_
   omega
  ·have e:(rs.map fun q=>(⟨#[q.1]⟩:Str))=(rs.map (·.1)).map fun c=>(⟨#[c]⟩:Str):=by rw [List.map_map];rfl
   have e2:Txt.join (Str.ofString "") (rs.map fun q=>(⟨#[q.1]⟩:Str))=⟨(rs.map (·.1)).toArray⟩:=by
    rw [e]
    exact Jx _
   rw [e2]
   exact k H' s1
def cnts (rs:List Rule) (w:List Nat):List V:=rs.map fun q=>V.int ((w.count q.1:Nat):Int)
def spTal:Sp:=fun vs H Q _=>∃ (t:Addr) (first:List Nat) (rs:List Rule) (w:List Nat),vs=[.ref t,tx w]/\BookAt H t first rs/\rs.length<=8/\∀ l H',Same H H'->H l=none->H' l=some (.lst (cnts rs w))->Q (.ref l) H'
theorem scTal:FnScope ["book","text"] ["book","text"] (defScope sTal):=⟨rfl,rfl,rfl,by decide +kernel,rfl,by decide +kernel,by decide +kernel⟩
theorem qh9:(["letter","text"]:List Str).Nodup:=by decide +kernel
theorem qbk:typeOf (.builtin "str.count")=pure (.type "method_descriptor"):=by first | exact PySem.F.type_str_count | (show builtinType _=_;rw [builtinType_eq_fast];kernel_rfl)
theorem qia {f f1:Addr} {fd fd1:FuncData} (F:Fun K "tally" "tally" sTal f fd) (G:FnOk P w K mg base CX0 2 f1 fd1 ["book"] spLet) (g:Gf K mg "letters" f1 fd1 ["book"]):FnOk P w K mg base CX0 3 f fd ["book","text"] spTal:=by
 refine F.ok scTal (fun vs H Q E h=>?_) (fun cdv A outer s H vs Q E hr h=>?_)
 ·obtain ⟨t,first,rs,w',rfl,_⟩:=h
  rfl
 ·obtain ⟨t,first,rs,w',rfl,hB,hl,k⟩:=h
  refine ⟨_,qf (qh (qz (N':=["letter","text"]) (ix:=[none,some 1]) rfl rfl (yv (qe G hr rfl g.m g.k g.b .nil pass0 (qa (pv 0) qb))) (fun _ _ _ _ _ _=>qj (i:=0) qh9 rfl (Or.inl rfl)) (fun _ _ _ _ _ _=>qx)
   (fun _ _ _ _ _ _=>show PE _ _ (tBM K _ _ _ _) from qb2 PySem.F.plainAttrs_str PySem.F.slot_str_count qbk qd6 (pv 1) (qa (pv 0) qb)))),?_⟩
  refine ⟨_,rfl,t,first,rs,rfl,hB,hl,fun H1 s1=>⟨_,rfl,jq sure_str (by rw [List.length_map];show (rs.map (·.1)).length<=_;rw [List.length_map];omega)
   (fun i ys τ H2=>H2=H1/\ys=cnts (rs.take i) w'/\∃ v,τ=[v,some (tx w')]) ⟨rfl,rfl,_,rfl⟩ ?_ ?_ ?_⟩⟩
  ·rintro i ys τ H2 hi ⟨rfl,rfl,_⟩
   refine ⟨trivial,?_⟩
   unfold cnts
   rw [List.length_map,List.length_take]
   omega
  ·rintro i x ys τ H2 hx ⟨rfl,rfl,v,rfl⟩
   have hx':((rs.map (·.1)).map sign)[i]? = some x:=hx
   rw [List.map_map,List.getElem?_map] at hx'
   cases e:rs[i]? with
   | none=>rw [e] at hx';cases hx'
   | some q =>
    rw [e] at hx'
    cases hx'
    refine ⟨_,rfl,rfl,_,rfl,⟨w'.toArray⟩,⟨#[q.1]⟩,rfl,rfl,rfl,?_,_,rfl⟩
    rw [count_one]
    unfold cnts
    exact (q0 _ e).symm
  ·rintro ys τ H2 D ⟨rfl,rfl,_⟩ hD
   refine k D _ (s1.trans (Same.add hD)) (s1.free hD) ?_
   rw [upd_same]
   have e:(((⟨(rs.map (·.1)).toArray⟩:Str).cps.toList).map sign).length=rs.length:=by simp
   rw [e,take_all]
end
end Lw
namespace Lw
open PySem L2
section
variable {P:Program} {w:World} {K:W.Frag} {mg:Str->Option Value} {base:Heap}
def tabV (rs:List Rule):List (List V):=rs.map fun q=>cnts rs q.2
def spTab:Sp:=fun vs H Q _=>∃ (t:Addr) (first:List Nat) (rs:List Rule),vs=[.ref t]/\BookAt H t first rs/\rs.length<=8/\∀ l ls H',Same H H'->TabAt H H' l ls (tabV rs)->Q (.ref l) H'
theorem scTab:FnScope ["book"] ["book"] (defScope sTab):=⟨rfl,rfl,rfl,by decide +kernel,rfl,by decide +kernel,by decide +kernel⟩
theorem qib:(["rule","book"]:List Str).Nodup:=by decide +kernel
theorem qic {f f1:Addr} {fd fd1:FuncData} (F:Fun K "table" "table" sTab f fd) (G:FnOk P w K mg base CX0 3 f1 fd1 ["book","text"] spTal) (g:Gf K mg "tally" f1 fd1 ["book","text"]):FnOk P w K mg base CX0 4 f fd ["book"] spTab:=by
 refine F.ok scTab (fun vs H Q E h=>?_) (fun cdv A outer s H vs Q E hr h=>?_)
 ·obtain ⟨t,first,rs,rfl,_⟩:=h
  rfl
 ·obtain ⟨t,first,rs,rfl,hB,hl,k⟩:=h
  refine ⟨_,qf (qh (qz (N':=["rule","book"]) (ix:=[none,some 0]) rfl rfl (qfc (pe_ix V6 (pv 0) qd (fun _ _=>rfl))) (fun _ _ _ _ _ _=>qj (i:=0) qib rfl (Or.inl rfl)) (fun _ _ _ _ _ _=>qx)
   (fun _ _ _ _ _ _=>qe G hr rfl g.m g.k g.b .nil pass0 (qa (pv 1) (qa (pe_ix (r:=rIxT K) V6 (pv 0) qd (fun _ _=>rfl)) qb))))),?_⟩
  obtain ⟨r,ps,h1,h2,h3⟩:=hB.ex
  refine ⟨_,rfl,t,_,_,_,rfl,rfl,SqT.of h1,atI_nat (j:=1) rfl,r,rfl,⟨_,SqT.of h2⟩,jq (Ve (xs:=ps.map V.ref)) (by rw [List.length_map,h3.len];omega)
   (fun i ys τ H2=>Same H H2/\(∃ v,τ=[v,some (.ref t)])/\∃ ls,ys=ls.map V.ref/\RowsAt H H2 ls ((rs.take i).map fun q=>cnts rs q.2)) ⟨Same.refl _,⟨_,rfl⟩,[],rfl,RowsAt.nil⟩ ?_ ?_ ?_⟩
  ·rintro i ys τ H2 hi ⟨s2,_,ls,rfl,hR⟩
   refine ⟨SqT.of (s2 _ _ h2),?_⟩
   rw [List.length_map,hR.len,List.length_map,List.length_take]
   omega
  ·rintro i x ys τ H2 hx ⟨s2,⟨v,rfl⟩,ls,rfl,hR⟩
   rw [List.getElem?_map] at hx
   cases e:ps[i]? with
   | none=>rw [e] at hx;cases hx
   | some p =>
    rw [e] at hx
    cases hx
    obtain ⟨c,w',e1,e2⟩:=h3.get e
    refine ⟨_,rfl,_,rfl,p,_,_,_,rfl,rfl,SqT.of (s2 _ _ e2),atI_nat (j:=1) rfl,t,first,rs,w',rfl,hB.mono (TupS.same s2),hl,fun l H3 s3 n3 e3=>?_⟩
    refine ⟨s2.trans s3,⟨_,rfl⟩,ls++[l],by rw [List.map_append];rfl,?_⟩
    rw [q0 _ e1]
    exact hR.snoc s3 (s2.free n3) n3 e3
  ·rintro ys τ H2 D ⟨s2,_,ls,rfl,hR⟩ hD
   have e:(ps.map V.ref).length=rs.length:=by rw [List.length_map,h3.len]
   rw [e,take_all] at hR
   refine k D ls _ (s2.trans (Same.add hD)) ⟨upd_same,hR.mono (Same.add hD),s2.free hD,fun z=>?_⟩
   obtain ⟨v,q,_⟩:=hR.there z
   rw [hD] at q;cases q
end
end Lw
namespace Lw
open PySem L2
structure PenAt (H:Hp) (p:Addr) (b:Nat):Prop where
 ex:∃ (a n f:Int),H p=some (.lst [.int a,.int n,.int f])/\0<=n/\n<=b/\0<=f/\f < 2147483647
theorem PenAt.mono {H:Hp} {p:Addr} {b b':Nat} (h:PenAt H p b) (hb:b<=b'):PenAt H p b':=by
 obtain ⟨a,n,f,e,h1,h2,h3⟩:=h.ex
 exact ⟨a,n,f,e,h1,by omega,h3⟩
def But (p:Addr) (H H':Hp):Prop:=∀ c o,H c=some o->c≠p->H' c=some o
theorem But.refl (p:Addr) (H:Hp):But p H H:=fun _ _ h _=>h
theorem But.trans {p:Addr} {H H1 H2:Hp} (a:But p H H1) (b:But p H1 H2):But p H H2:=fun c o h n=>b c o (a c o h n) n
theorem But.same {p:Addr} {H H':Hp} (s:Same H H'):But p H H':=fun c o h _=>s c o h
theorem But.free {p:Addr} {H H':Hp} (e:But p H H') {l:Addr} (n:l≠p) (h:H' l=none):H l=none:=by
 cases q:H l with
 | none=>rfl
 | some o=>rw [e l o q n] at h;cases h
section
variable {P:Program} {w:World} {K:W.Frag} {mg:Str->Option Value} {base:Heap}
def spTak:Sp:=fun vs H Q _=>∃ (p:Addr) (b:Nat) (size:Int),vs=[.ref p,.int size]/\PenAt H p b/\b<=1000000/\0 < size/\size<=10000000000000000000000000000000000000000000000000000000000000000000000/\∀ (v:Int) H',0<=v->v < size->PenAt H' p (b+1)->(∀ c,c≠p->H' c=H c)->Q (.int v) H'
theorem scTak:FnScope ["_law_pen_here","_law_size","_law_found","_law_number"] ["_law_pen_here","_law_size"] (defScope sTak):=⟨rfl,rfl,rfl,by decide +kernel,rfl,by decide +kernel,by decide +kernel⟩
theorem qid {f:Addr} {fd:FuncData} (F:Fun K "_law_take" "_law_take" sTak f fd):FnOk P w K mg base CX0 1 f fd ["_law_pen_here","_law_size"] spTak:=by
 refine F.ok scTak (fun vs H Q E h=>?_) (fun cdv A outer s H vs Q E hr h=>?_)
 ·obtain ⟨p,b,size,rfl,_⟩:=h
  rfl
 ·obtain ⟨p,b,size,rfl,hp,hb,h1,h2,k⟩:=h
  obtain ⟨a,n,g,e,n1,n2,g1,g2⟩:=hp.ex
  refine ⟨_,qc (jd (qr V3 (pe_ix ji (pv 0) qd (fun _ _=>rfl)) qd (nomark _))
    (qc (ql (i:=2) scTak.nd rfl (Or.inl rfl) (qp yc (pe_ix ji (pv 0) qd (fun _ _=>rfl)) (pv 1)))
    (qc (Yq (qp qd8 (pe_ix ji (pv 0) qd (fun _ _=>rfl)) (pv 1)) (qfa (pv 0) qd Yv))
    (qf (qh (pv 2))))) qm)
   (qc (Yq (qp jr (pe_ix ji (pv 0) qd (fun _ _=>rfl)) qd) (qfa (pv 0) qd Yv))
   (qc (ql (i:=3) scTak.nd rfl (Or.inl rfl) (qp yc (qp ym (qp jr (pe_ix ji (pv 0) qd (fun _ _=>rfl)) (qp yb qd (pe_ix ji (pv 0) qd (fun _ _=>rfl)))) qd) qd))
   (qc (ql (i:=3) scTak.nd rfl (Or.inl rfl) (qp yc (qp ym (qp jr (pv 3) (qp yb qd (pe_ix ji (pv 0) qd (fun _ _=>rfl)))) qd) qd))
   (qc (jd (qr V3 (pv 1) (qp ym qd qd) (nomark _)) (qf (ql (i:=3) scTak.nd rfl (Or.inl rfl) (qp ym (qp jr (pv 3) qd) qd))) qm)
   (qf (qh (qp yc (qp qbp (pv 3) qd) (pv 1)))))))),?_⟩
  refine ⟨_,rfl,p,_,_,_,rfl,rfl,SqL.of e,atI_nat (j:=0) rfl,_,_,rfl,rfl,_,rfl,?_⟩
  refine ite2 (fun hc=>?_) (fun hc=>?_)
  ·refine ⟨_,rfl,p,_,_,_,rfl,rfl,SqL.of e,atI_nat (j:=0) rfl,_,rfl,_,_,rfl,rfl,h1,?_⟩
   refine ⟨_,rfl,p,_,_,_,rfl,rfl,SqL.of e,atI_nat (j:=0) rfl,_,rfl,_,_,rfl,rfl,⟨h1,by omega⟩,?_⟩
   refine ⟨_,rfl,p,_,_,0,rfl,rfl,e,rfl,?_⟩
   refine ⟨_,rfl,?_⟩
   refine k _ _ (Int.emod_nonneg _ (by omega)) (Int.emod_lt_of_pos _ h1) ⟨_,n,g,upd_same,n1,by omega,g1,g2⟩ fun c hc=>qg hc
  ·refine ⟨_,rfl,p,_,_,_,rfl,rfl,SqL.of e,atI_nat (j:=1) rfl,_,_,rfl,rfl,_,rfl,p,_,_,1,rfl,rfl,e,rfl,?_⟩
   have e2:upd H p (.lst ([V.int a,V.int n,V.int g].set 1 (V.int (n+1)))) p=some (.lst [.int a,.int (n+1),.int g]):=upd_same
   refine ⟨_,rfl,p,_,_,_,rfl,rfl,SqL.of e2,atI_nat (j:=2) rfl,_,rfl,p,_,_,_,rfl,rfl,SqL.of e2,atI_nat (j:=1) rfl,_,_,rfl,rfl,.inl ⟨by decide,by decide⟩,_,_,rfl,rfl,_,_,rfl,rfl,⟨by decide,by decide,by omega⟩,_,_,rfl,rfl,(by show (0:Int) < 2147483647;decide),?_⟩
   generalize (g+7919 * (n+1)) ^ Int.toNat 5=X1
   refine ⟨_,rfl,_,rfl,p,_,_,_,rfl,rfl,SqL.of e2,atI_nat (j:=1) rfl,_,_,rfl,rfl,.inl ⟨by decide,by decide⟩,_,_,rfl,rfl,_,_,rfl,rfl,⟨by decide,by decide,by omega⟩,_,_,rfl,rfl,(by show (0:Int) < 2147483629;decide),?_⟩
   generalize (X1 % 2147483647+104729 * (n+1)) ^ Int.toNat 5=X2
   refine ⟨_,rfl,_,_,rfl,rfl,⟨by decide,by decide,by decide⟩,_,_,rfl,rfl,_,rfl,?_⟩
   refine ite2 (fun hq=>?_) (fun hq=>?_)
   ·have y0:=Int.emod_nonneg X2 (show (2147483629:Int)≠0 by decide)
    have y1:=Int.emod_lt_of_pos X2 (show (0:Int) < 2147483629 by decide)
    refine ⟨_,rfl,_,_,rfl,rfl,_,_,rfl,rfl,⟨by decide,by decide,by omega⟩,?_⟩
    generalize (X2 % 2147483629+11) ^ Int.toNat 7=X3
    refine ⟨_,rfl,_,_,rfl,rfl,⟨by decide,by decide⟩,_,rfl,_,_,rfl,rfl,h1,?_⟩
    exact k _ _ (Int.emod_nonneg _ (by omega)) (Int.emod_lt_of_pos _ h1) ⟨a,n+1,g,e2,by omega,by omega,g1,g2⟩ fun c hc=>qg hc
   ·refine ⟨_,rfl,_,_,rfl,rfl,⟨by decide,by decide⟩,_,rfl,_,_,rfl,rfl,h1,?_⟩
    exact k _ _ (Int.emod_nonneg _ (by omega)) (Int.emod_lt_of_pos _ h1) ⟨a,n+1,g,e2,by omega,by omega,g1,g2⟩ fun c hc=>qg hc
def spPen (K:W.Frag):Sp:=fun vs H Q _=>∃ (a:Addr) (ns:List Int) (k:Int),vs=[.ref a,.int k]/\SqL K H a (ns.map V.int)/\ns.length<=63/\0<=k/\k<=100/\∀ p H',Same H H'->H p=none->PenAt H' p 0->Q (.ref p) H'
end
end Lw
namespace Lw
open PySem L2
section
variable {P:Program} {w:World} {K:W.Frag} {mg:Str->Option Value} {base:Heap}
theorem qev {xs:List V} {lo hi:Option Int} {x:V} (h:x∈cutV xs lo hi):x∈xs:=List.mem_of_mem_drop (List.mem_of_mem_take h)
theorem scPen:FnScope ["_law_script","_law_k","_law_fold","_law_cell"] ["_law_script","_law_k"] (defScope sPen):=⟨rfl,rfl,rfl,by decide +kernel,rfl,by decide +kernel,by decide +kernel⟩
theorem qie {f:Addr} {fd:FuncData} (F:Fun K "_law_pen" "_law_pen" sPen f fd) (hlen:mg "len" = none):FnOk P w K mg base CX0 1 f fd ["_law_script","_law_k"] (spPen K):=by
 refine F.ok scPen (fun vs H Q E h=>?_) (fun cdv A outer s H vs Q E hr h=>?_)
 ·obtain ⟨a,ns,k,rfl,_⟩:=h
  rfl
 ·obtain ⟨a,ns,k,rfl,hS,hl,k0,k1,q⟩:=h
  refine ⟨_,qc (ql (i:=2) scPen.nd rfl (Or.inl rfl) (qp jr (qp yb qd (pv 1)) qd))
   (qc (za PassesOwn.never rfl (pi_list (vc yn (pv 0) vq (po_some qd))) (qj (i:=3) scPen.nd rfl (Or.inl rfl))
    (qf (ql (i:=2) scPen.nd rfl (Or.inl rfl) (qp yc (qp jr (qp yb (pv 2) qd) (pv 3)) qd))))
   (qc (jd (PW.pt (qhm (qr V3 (qi js (by rfl) hlen PySem.boot_len (qa (pv 0) qb)) qd (nomark _))
     (qfz (qr op_ge (pe_ix ji (pv 0) (qp yc (pv 1) (qi js (by rfl) hlen PySem.boot_len (qa (pv 0) qb))) (fun _ _=>rfl)) (qp ym qd qd) (nomark _)))))
    (qf (qh (j9 (qa (qp Ys (pe_ix ji (pv 0) (qp yc (pv 1) (qi js (by rfl) hlen PySem.boot_len (qa (pv 0) qb))) (fun _ _=>rfl)) (qp ym qd qd)) (qa qd (qa (pv 2) qb)))))) qm)
   (qf (qh (j9 (qa qd (qa qd (qa (pv 2) qb)))))))),?_⟩
  refine ⟨_,rfl,_,_,rfl,rfl,.inl ⟨by decide,by decide⟩,_,_,rfl,rfl,?_⟩
  refine ⟨_,rfl,_,rfl,a,_,rfl,hS,fun p hp=>⟨p,rfl,⟨_,SqL.of upd_same⟩,?_⟩⟩
  refine for_by (sure_list (xs:=cutV (ns.map V.int) none (some 63))) (fun i σ H2=>H2=upd H p (.lst (cutV (ns.map V.int) none (some 63)))/\∃ (g:Int) (v:Option V),σ=[some (.ref a),some (.int k),some (.int g),v]/\0<=g/\g < 2147483647)
   ⟨rfl,_,_,rfl,by omega,by omega⟩ ?_ ?_ ?_
  ·rintro i σ H2 hi ⟨rfl,_⟩
   exact SqL.of upd_same
  ·rintro i x σ H2 hx ⟨rfl,g,v,rfl,g1,g2⟩
   obtain ⟨z,hz,rfl⟩:=List.mem_map.mp (qev (List.mem_of_getElem? hx))
   refine ⟨_,rfl,_,_,rfl,rfl,.inr ⟨by decide,by decide⟩,_,rfl,_,_,rfl,rfl,_,_,rfl,rfl,(by show (0:Int) < 2147483647;decide),rfl,_,_,rfl,Int.emod_nonneg _ (by decide),Int.emod_lt_of_pos _ (by decide)⟩
  ·rintro σ H2 ⟨rfl,g,v,rfl,g1,g2⟩
   have s1:Same H (upd H p (.lst (cutV (ns.map V.int) none (some 63)))):=Same.add hp
   have hS1:=s1.seq hS
   have el:((ns.map V.int).length:Int)=(ns.length:Int):=by rw [List.length_map]
   have fin:∀ (z:Int) (l:Addr),(upd H p (.lst (cutV (ns.map V.int) none (some 63)))) l=none->Q (.ref l) (upd (upd H p (.lst (cutV (ns.map V.int) none (some 63)))) l (.lst [.int z,.int 0,.int g])):=fun z l hn =>
    q l _ (s1.trans (Same.add hn)) (s1.free hn) ⟨z,0,g,upd_same,by decide,by decide,g1,g2⟩
   refine ⟨_,rfl,a,_,rfl,.inl hS1,_,_,rfl,rfl,_,rfl,?_⟩
   refine ite2 (fun hc=>?_) (fun hc=>?_)
   ·have hpos:0 < (ns.length:Int):=by
     have:=of_decide_eq_true hc
     rw [el] at this
     exact this
    have hm1:=Int.emod_nonneg k (show (ns.length:Int)≠0 by omega)
    have hm2:=Int.emod_lt_of_pos k hpos
    obtain ⟨j,hj⟩:∃ j:Nat,k % (ns.length:Int)=(j:Int):=⟨(k % (ns.length:Int)).toNat,by omega⟩
    have hjl:j < ns.length:=by omega
    have hat:atI (ns.map V.int) (k % ((ns.map V.int).length:Int))=some (.int ns[j]):=by
     rw [el,hj]
     exact atI_nat (by rw [List.getElem?_map,List.getElem?_eq_getElem hjl];rfl)
    refine ⟨_,rfl,_,rfl,_,rfl,a,_,rfl,.inl hS1,_,_,rfl,rfl,(by show (0:Int) < _;rw [el];exact hpos),a,_,_,_,rfl,rfl,hS1,hat,_,_,rfl,rfl,⟨by decide,by decide,by decide⟩,_,_,rfl,rfl,_,rfl,?_⟩
    refine ite2 (fun hc2=>?_) (fun hc2=>?_)
    ·refine ⟨_,rfl,_,rfl,_,rfl,a,_,rfl,.inl hS1,_,_,rfl,rfl,(by show (0:Int) < _;rw [el];exact hpos),a,_,_,_,rfl,rfl,hS1,hat,_,_,rfl,rfl,⟨by decide,by decide,by decide⟩,_,_,rfl,rfl,_,rfl,(by show 3<=sizeLine;decide),fun l hn=>?_⟩
     exact fin _ l hn
    ·exact ⟨_,rfl,(by show 3<=sizeLine;decide),fun l hn=>fin 0 l hn⟩
   ·refine iteF ?_
    exact ⟨_,rfl,(by show 3<=sizeLine;decide),fun l hn=>fin 0 l hn⟩
end
end Lw
namespace Lw
open PySem L2
def rLenS (K:W.Frag):List V->Hp->VK->Prop:=fun xs H Q=>∃ p ys,xs=[.ref p]/\(SqL K H p ys\/SqT K H p ys)/\Q (.int ys.length) H
theorem zi {X:Cx}:CallR X (.builtin "len") (rLenS X.K):=js
def abc:List Nat:=[97,98,99,100,101,102,103,104,105,106,107,108,109,110,111,112,113,114,115,116,117,118,119,120,121,122]
theorem qgx:(Str.ofString "abcdefghijklmnopqrstuvwxyz").cps.toList=abc:=by decide +kernel
theorem qif:abc.Nodup:=by decide
theorem qig:∀ c∈abc,97<=c/\c<=122:=by decide
theorem Jy:∀ {xs:List Nat} {k:Nat} {y:Nat},xs[k]? = some y->xs.Perm (y :: xs.eraseIdx k)
 | x :: xs,0,y,e=>by cases e;exact List.Perm.refl _
 | x :: xs,k+1,y,e=>by
  have ih:=Jy (xs:=xs) (k:=k) (y:=y) e
  show (x :: xs).Perm (y :: x :: xs.eraseIdx k)
  exact (ih.cons x).trans (List.Perm.swap y x _)
 | [],k,y,e=>by simp at e
theorem Zx {α β:Type} (f:α->β):∀ (xs:List α) (k:Nat),(xs.map f).eraseIdx k=(xs.eraseIdx k).map f
 | [],_=>rfl
 | _ :: _,0=>rfl
 | x :: xs,k+1=>by
  show f x :: (xs.map f).eraseIdx k=f x :: (xs.eraseIdx k).map f
  rw [Zx f xs k]
theorem PenAt.other {H H':Hp} {p:Addr} {b:Nat} (h:PenAt H p b) (e:H' p=H p):PenAt H' p b:=by
 obtain ⟨a,n,f,e1,r⟩:=h.ex
 exact ⟨a,n,f,e.trans e1,r⟩
theorem PenAt.some {H:Hp} {p:Addr} {b:Nat} (h:PenAt H p b):∃ o,H p=Option.some o:=by
 obtain ⟨a,n,f,e1,r⟩:=h.ex
 exact ⟨_,e1⟩
section
variable {P:Program} {w:World} {K:W.Frag} {mg:Str->Option Value} {base:Heap}
def spSig:Sp:=fun vs H Q _=>∃ (p:Addr) (b:Nat) (n:Nat),vs=[.ref p,.int (n:Int)]/\PenAt H p b/\b<=900000/\n<=26 /\
 ∀ l (cs:List Nat) H',But p H H'->PenAt H' p (b+n)->H l=none->H' l=some (.lst (cs.map sign))->cs.length=n->cs.Nodup->(∀ c∈cs,97<=c/\c<=122)->Q (.ref l) H'
theorem scSig:FnScope ["_law_pen_here","_law_many","_law_rest"] ["_law_pen_here","_law_many"] (defScope sSig):=⟨rfl,rfl,rfl,by decide +kernel,rfl,by decide +kernel,by decide +kernel⟩
theorem qih:(["_law_k","_law_rest","_law_pen_here"]:List Str).Nodup:=by decide +kernel
theorem qii {f f1:Addr} {fd fd1:FuncData} (F:Fun K "_law_signs" "_law_signs" sSig f fd) (G:FnOk P w K mg base CX0 1 f1 fd1 ["_law_pen_here","_law_size"] spTak) (g:Gf K mg "_law_take" f1 fd1 ["_law_pen_here","_law_size"])
  (hlen:mg "len" = none) (hlist:mg "list" = none) (hrange:mg "range" = none):FnOk P w K mg base CX0 2 f fd ["_law_pen_here","_law_many"] spSig:=by
 refine F.ok scSig (fun vs H Q E h=>?_) (fun cdv A outer s H vs Q E hr h=>?_)
 ·obtain ⟨p,b,n,rfl,_⟩:=h
  rfl
 ·obtain ⟨p,b,n,rfl,hp,hb,hn,q⟩:=h
  refine ⟨_,qc (ql (i:=2) scSig.nd rfl (Or.inr rfl) (qy (Jj rfl) (by rfl) hlist (by first | exact PySem.boot_list | decide +kernel) (qa jz qb)))
   (qf (qh (qz (N':=["_law_k","_law_rest","_law_pen_here"]) (ix:=[none,some 2,some 0]) rfl rfl (vy rfl hrange (qa (pv 1) qb)) (fun _ _ _ _ _ _=>qj (i:=0) qih rfl (Or.inl rfl)) (fun _ _ _ _ _ _=>qx)
    (fun _ _ _ _ _ _=>show PE _ _ (tBM K _ _ _ _) from qb2 PySem.F.plainAttrs_list PySem.F.slot_list_pop PySem.F.type_list_pop qdw (pv 1)
     (qa (qe G hr rfl g.m g.k g.b .nil pass0 (qa (pv 2) (qa (qi (r:=rLenS K) zi (by rfl) hlen PySem.boot_len (qa (pv 1) qb)) qb))) qb))))),?_⟩
  refine ⟨_,rfl,by decide +kernel,fun l0 hl0=>?_⟩
  rw [qgx]
  obtain ⟨op,hop⟩:=hp.some
  have np:p≠l0:=ne_of_none hop hl0
  refine ⟨_,rfl,_,rfl,by omega,by omega,jq vi (by rw [qt];omega)
   (fun i ys τ H2=>∃ taken rem,ys=taken.map sign/\taken.length=i/\(taken++rem).Perm abc/\H2 l0=some (.lst (rem.map sign))/\But p H H2/\PenAt H2 p (b+i)/\∃ v,τ=[v,some (.ref l0),some (.ref p)])
   ⟨[],abc,rfl,rfl,List.Perm.refl _,upd_same,But.same (Same.add hl0),hp.other (qg np),_,rfl⟩ ?_ ?_ ?_⟩
  ·rintro i ys τ H2 hi ⟨taken,rem,rfl,e,_⟩
   exact ⟨trivial,by rw [List.length_map];omega⟩
  ·rintro i x ys τ H2 hx ⟨taken,rem,rfl,et,hP,hR,hBt,hPn,v,rfl⟩
   have hi:i < n:=by
    have:=(List.getElem?_eq_some_iff.mp hx).1
    rw [qt] at this
    simpa using this
   have hlen26:rem.length=26 - i:=by
    have:=hP.length_eq
    rw [List.length_append,et] at this
    have e26:abc.length=26:=rfl
    omega
   have el:((rem.map sign).length:Int)=(rem.length:Int):=by rw [List.length_map]
   refine ⟨_,rfl,.inl ⟨rfl,_,SqL.of hR⟩,_,rfl,_,rfl,l0,_,rfl,.inl (SqL.of hR),p,b+i,_,rfl,hPn,by omega,by rw [el];omega,by rw [el];omega,fun z H3 z0 z1 hP3 e3=>?_⟩
   rw [el] at z1
   obtain ⟨j,rfl⟩:∃ j:Nat,z=(j:Int):=⟨z.toNat,by omega⟩
   have hj:j < rem.length:=by omega
   have hat:(rem.map sign)[j]? = some (sign rem[j]):=by rw [List.getElem?_map,List.getElem?_eq_getElem hj];rfl
   obtain ⟨j',s1,s2,_⟩:=J5 (atI_nat hat)
   have ejj:j'=j:=by
    obtain ⟨q1,_⟩:=Z5 (n:=(rem.map sign).length) (i:=(j:Int)) (j:=j) (by
     unfold ixN
     rw [if_pos (by omega),if_pos (by rw [el];omega)]
     simp)
    rw [q1] at s1
    exact (Option.some.inj s1).symm
   subst ejj
   refine ⟨l0,_,_,j',_,rfl,rfl,(e3 l0 np.symm).trans hR,by omega,by omega,s1,s2,?_⟩
   refine ⟨taken++[rem[j']],rem.eraseIdx j',by rw [List.map_append];rfl,by rw [List.length_append,et];rfl,?_,?_,?_,?_,_,rfl⟩
   ·refine List.Perm.trans ?_ hP
    rw [List.append_assoc]
    exact List.Perm.append_left taken (Jy (List.getElem?_eq_getElem hj)).symm
   ·rw [upd_same,Zx]
   ·intro c o hc hne
    have nl:c≠l0:=ne_of_none hc hl0
    rw [qg nl,e3 c hne]
    exact hBt c o hc hne
   ·exact hP3.other (qg np)
  ·rintro ys τ H2 D ⟨taken,rem,rfl,et,hP,hR,hBt,hPn,v,rfl⟩ hD
   have e:(rngV 0 (Int.toNat (n:Int))).length=n:=by rw [qt];simp
   rw [e] at et hPn
   have nd:(taken++rem).Nodup:=hP.nodup_iff.mpr qif
   obtain ⟨oD,hoD⟩:=hPn.some
   have nDp:D≠p:=(ne_of_none hoD hD).symm
   refine q D taken _ (hBt.trans (But.same (Same.add hD))) (hPn.other (qg nDp.symm)) (hBt.free nDp hD) upd_same et (List.nodup_append.mp nd).1 fun c hc=>qig c (hP.mem_iff.mp (List.mem_append_left _ hc))
end
end Lw
namespace Lw
open PySem L2
theorem Zy (w:List Nat):w.map sign=(w.map fun c=>(⟨#[c]⟩:Str)).map V.str:=by rw [List.map_map];rfl
section
variable {P:Program} {w:World} {K:W.Frag} {mg:Str->Option Value} {base:Heap}
def spTxt:Sp:=fun vs H Q _=>∃ (p l:Addr) (b n:Nat) (cs:List Nat),vs=[.ref p,.ref l,.int (n:Int)]/\PenAt H p b/\b<=900000/\n<=1000/\H l=some (.lst (cs.map sign))/\cs.length<=30/\l≠p /\
 ∀ (w:List Nat) H',w.length<=n->(cs≠[]->w.length=n)->(∀ c∈w,c∈cs)->But p H H'->PenAt H' p (b+n)->Q (tx w) H'
theorem scTxt:FnScope ["_law_pen_here","_law_signs_here","_law_many"] ["_law_pen_here","_law_signs_here","_law_many"] (defScope sTxt):=⟨rfl,rfl,rfl,by decide +kernel,rfl,by decide +kernel,by decide +kernel⟩
theorem qij:(["_law_k","_law_signs_here","_law_pen_here"]:List Str).Nodup:=by decide +kernel
theorem qik {f f1:Addr} {fd fd1:FuncData} (F:Fun K "_law_text" "_law_text" sTxt f fd) (G:FnOk P w K mg base CX0 1 f1 fd1 ["_law_pen_here","_law_size"] spTak) (g:Gf K mg "_law_take" f1 fd1 ["_law_pen_here","_law_size"])
  (hlen:mg "len" = none) (hint:mg "int" = none) (hrange:mg "range" = none):FnOk P w K mg base CX0 2 f fd ["_law_pen_here","_law_signs_here","_law_many"] spTxt:=by
 refine F.ok scTxt (fun vs H Q E h=>?_) (fun cdv A outer s H vs Q E hr h=>?_)
 ·obtain ⟨p,l,b,n,cs,rfl,_⟩:=h
  rfl
 ·obtain ⟨p,l,b,n,cs,rfl,hp,hb,hn,hL,hcs,hlp,q⟩:=h
  refine ⟨_,qf (qh (qb2 PySem.F.plainAttrs_str PySem.F.slot_str_join PySem.F.type_str_join Ya jz (qa
   (qz (N':=["_law_k","_law_signs_here","_law_pen_here"]) (ix:=[none,some 1,some 0]) rfl rfl
    (vy rfl hrange (qa (qp yb (pv 2) (qy V4 (by rfl) hint (by first | exact PySem.boot_int | decide +kernel) (qa (j5 V3 (qi zi (by rfl) hlen PySem.boot_len (qa (pv 1) qb)) qd (nomark _)) qb))) qb))
    (fun _ _ _ _ _ _=>qj (i:=0) qij rfl (Or.inl rfl)) (fun _ _ _ _ _ _=>qx)
    (fun _ _ _ _ _ _=>pe_ix (r:=rIxL K) ji (pv 1) (qe G hr rfl g.m g.k g.b .nil pass0 (qa (pv 2) (qa (qi (r:=rLenS K) zi (by rfl) hlen PySem.boot_len (qa (pv 1) qb)) qb))) (fun _ _=>rfl))) qb))),?_⟩
  have el:((cs.map sign).length:Int)=(cs.length:Int):=by rw [List.length_map]
  refine ⟨rfl,_,rfl,_,rfl,l,_,rfl,.inl (SqL.of hL),_,_,rfl,rfl,.inr ⟨_,rfl,?_⟩⟩
  -- how many turns
  obtain ⟨m,em,hm1,hm2⟩:∃ m:Nat,(n:Int) * (if decide ((0:Int) < ((cs.map sign).length:Int)) then 1 else 0)=(m:Int)/\m<=n/\(if cs=[] then m=0 else m=n):=by
   cases cs with
   | nil=>exact ⟨0,by simp,Nat.zero_le _,by simp⟩
   | cons c r =>
    refine ⟨n,?_,Nat.le_refl _,by simp⟩
    have hpos:(0:Int) < (((c :: r).map sign).length:Int):=by rw [List.length_map,List.length_cons];omega
    rw [decide_eq_true hpos]
    simp
  refine ⟨_,_,rfl,rfl,.inl ⟨by omega,by omega⟩,_,rfl,?_⟩
  rw [em]
  refine ⟨by omega,by omega,?_⟩
  refine jq (Q:=fun x H2=>rJoin K (V.str (Str.ofString "")) [x] H2 Q) (τ0:=[none,some (V.ref l),some (V.ref p)]) (vi (lo:=0) (n:=Int.toNat (m:Int))) (by rw [qt];omega)
   (fun i ys τ H2=>∃ w2:List Nat,ys=w2.map sign/\w2.length=i/\(∀ c∈w2,c∈cs)/\But p H H2/\PenAt H2 p (b+i)/\∃ v,τ=[v,some (.ref l),some (.ref p)])
   ⟨[],rfl,rfl,(fun c hc=>by simp at hc),But.refl _ _,hp,_,rfl⟩ ?_ ?_ ?_
  ·rintro i ys τ H2 hi ⟨w',rfl,e,_⟩
   exact ⟨trivial,by rw [List.length_map];omega⟩
  ·rintro i x ys τ H2 hx ⟨w',rfl,et,hw,hBt,hPn,v,rfl⟩
   have hi:i < m:=by
    have:=(List.getElem?_eq_some_iff.mp hx).1
    rw [qt] at this
    simpa using this
   have hne:cs≠[]:=fun z=>by rw [if_pos z] at hm2;omega
   have hcl:0 < cs.length:=List.length_pos_iff.mpr hne
   have hL2:=hBt l _ hL hlp
   refine ⟨_,rfl,_,rfl,_,rfl,l,_,rfl,.inl (SqL.of hL2),p,b+i,_,rfl,hPn,by omega,by rw [el];omega,by rw [el];omega,fun z H3 z0 z1 hP3 e3=>?_⟩
   rw [el] at z1
   obtain ⟨j,rfl⟩:∃ j:Nat,z=(j:Int):=⟨z.toNat,by omega⟩
   have hj:j < cs.length:=by omega
   refine ⟨l,_,_,_,rfl,rfl,SqL.of ((e3 l hlp).trans hL2),atI_nat (v:=sign cs[j]) (by rw [List.getElem?_map,List.getElem?_eq_getElem hj];rfl),?_⟩
   refine ⟨w'++[cs[j]],by rw [List.map_append];rfl,by rw [List.length_append,et];rfl,fun c hc=>?_,fun c o hc hne=>(e3 c hne).trans (hBt c o hc hne),hP3,_,rfl⟩
   rcases List.mem_append.mp hc with z | z
   ·exact hw c z
   ·have z:c=cs[j]:=by simpa using z
    rw [z];exact List.getElem_mem hj
  ·rintro ys τ H2 D ⟨w',rfl,et,hw,hBt,hPn,v,rfl⟩ hD
   have e:(rngV 0 (Int.toNat (m:Int))).length=m:=by rw [qt];simp
   rw [e] at et hPn
   obtain ⟨oD,hoD⟩:=hPn.some
   have nDp:D≠p:=(ne_of_none hoD hD).symm
   refine ⟨_,D,w'.map fun c=>(⟨#[c]⟩:Str),rfl,rfl,SqL.of (by rw [upd_same,Zy]),?_,?_⟩
   ·rw [Y6,List.length_map]
    show w'.length+w'.length * 0<=_
    omega
   ·have e2:Txt.join (Str.ofString "") (w'.map fun c=>(⟨#[c]⟩:Str))=⟨w'.toArray⟩:=Jx _
    rw [e2]
    refine q w' _ (by omega) (fun hne=>by rw [if_neg hne] at hm2;omega) hw (hBt.trans (But.same (Same.add hD))) ((hPn.other (qg nDp.symm)).mono (by omega))
end
end Lw
namespace Lw
open PySem L2
def cutN (cs:List Nat) (lo hi:Option Int):List Nat:=(cs.drop (HT.sIx cs.length 0 lo)).take (HT.sIx cs.length cs.length hi - HT.sIx cs.length 0 lo)
theorem qew (cs:List Nat) (lo hi:Option Int):cutV (cs.map sign) lo hi=(cutN cs lo hi).map sign:=by
 unfold cutV cutN
 rw [List.length_map,List.map_take,List.map_drop]
theorem Yn {cs:List Nat} {lo hi:Option Int} {c:Nat} (h:c∈cutN cs lo hi):c∈cs:=List.mem_of_mem_drop (List.mem_of_mem_take h)
theorem Vu (cs:List Nat) (lo hi:Option Int):(cutN cs lo hi).length<=cs.length:=by
 unfold cutN
 rw [List.length_take,List.length_drop]
 omega
theorem Jh (a b:List Nat):((⟨a.toArray⟩:Str)++(⟨b.toArray⟩:Str))=⟨(a++b).toArray⟩:=by
 show (⟨a.toArray++b.toArray⟩:Str)=_
 congr 1
 apply Array.ext'
 simp
section
variable {P:Program} {w:World} {K:W.Frag} {mg:Str->Option Value} {base:Heap}
def spWrd:Sp:=fun vs H Q _=>∃ (p l:Addr) (b j:Nat) (pick:Int) (cs:List Nat),vs=[.ref p,.int pick,.ref l,.int (j:Int)]/\PenAt H p b/\b<=800000/\H l=some (.lst (cs.map sign))/\cs.length<=8/\l≠p/\j < cs.length /\
 ∀ (w:List Nat) H',w.length<=6->(∀ c∈w,c∈cs)->But p H H'->PenAt H' p (b+20)->Q (tx w) H'
theorem scWrd:FnScope ["_law_pen_here","_law_pick","_law_signs_here","_law_at","_law_behind"] ["_law_pen_here","_law_pick","_law_signs_here","_law_at"] (defScope sWrd):=⟨rfl,rfl,rfl,by decide +kernel,rfl,by decide +kernel,by decide +kernel⟩
theorem qil {f f1 f2:Addr} {fd fd1 fd2:FuncData} (F:Fun K "_law_word" "_law_word" sWrd f fd) (G:FnOk P w K mg base CX0 1 f1 fd1 ["_law_pen_here","_law_size"] spTak) (g:Gf K mg "_law_take" f1 fd1 ["_law_pen_here","_law_size"])
  (G2:FnOk P w K mg base CX0 2 f2 fd2 ["_law_pen_here","_law_signs_here","_law_many"] spTxt) (g2:Gf K mg "_law_text" f2 fd2 ["_law_pen_here","_law_signs_here","_law_many"])
  (hlen:mg "len" = none):FnOk P w K mg base CX0 3 f fd ["_law_pen_here","_law_pick","_law_signs_here","_law_at"] spWrd:=by
 refine F.ok scWrd (fun vs H Q E h=>?_) (fun cdv A outer s H vs Q E hr h=>?_)
 ·obtain ⟨p,l,b,j,pick,cs,rfl,_⟩:=h
  rfl
 ·obtain ⟨p,l,b,j,pick,cs,rfl,hp,hb,hL,hcs,hlp,hj,q⟩:=h
  have hr1:Room 1 _:=hr.mono (by decide)
  refine ⟨_,qc (jd (qr qbt (pv 1) qd (nomark _)) (qf (qh (qe G2 hr rfl g2.m g2.k g2.b .nil pass0 (qa (pv 0) (qa (pv 2) (qa (qe G hr1 rfl g.m g.k g.b .nil pass0 (qa (pv 0) (qa qd qb))) qb)))))) qm)
   (qc (ql (i:=4) scWrd.nd rfl (Or.inl rfl) (qe G2 hr rfl g2.m g2.k g2.b .nil pass0 (qa (pv 0) (qa (vc yn (pv 2) (po_some (qp jr (pv 3) qd)) vq) (qa (qe G hr1 rfl g.m g.k g.b .nil pass0 (qa (pv 0) (qa qd qb))) qb)))))
   (qc (jd (qr V2 (pv 1) qd (nomark _)) (qf (qh (qp jb (qp jb (pv 4) (pe_ix ji (pv 2) (pv 3) (fun _ _=>rfl)))
     (qe G2 hr rfl g2.m g2.k g2.b .nil pass0 (qa (pv 0) (qa (vc yn (pv 2) (po_some (qp jr (pv 3) qd)) vq) (qa (qe G hr1 rfl g.m g.k g.b .nil pass0 (qa (pv 0) (qa qd qb))) qb))))))) qm)
   (qc (jd (qr V2 (pv 1) qd (nomark _)) (qf (qh (pv 4))) qm)
   (qc (jd (qr V2 (pv 1) qd (nomark _)) (qf (qh (qp jb (pe_ix ji (pv 2) (qp yc (qp jr (pv 3) qd) (qi zi (by rfl) hlen PySem.boot_len (qa (pv 2) qb))) (fun _ _=>rfl))
     (qe G2 hr rfl g2.m g2.k g2.b .nil pass0 (qa (pv 0) (qa (vc yn (pv 2) (po_some (qp jr (pv 3) qd)) vq) (qa (qe G hr1 rfl g.m g.k g.b .nil pass0 (qa (pv 0) (qa qd qb))) qb))))))) qm)
   (qf (qh (qe G2 hr rfl g2.m g2.k g2.b .nil pass0 (qa (pv 0) (qa (pv 2) (qa (qe G hr1 rfl g.m g.k g.b .nil pass0 (qa (pv 0) (qa qd qb))) qb)))))))))),?_⟩
  have but3:∀ {H1 H3:Hp},(∀ c,c≠p->H3 c=H1 c)->But p H1 H3:=fun e c o h n=>(e c n).trans h
  -- the whole list and a drawn number of letters below k
  have whole:∀ (H1:Hp) (b1:Nat) (kk:Nat),0 < kk->kk<=7->But p H H1->PenAt H1 p b1->b1<=b+12 ->
    spTak [.ref p,.int (kk:Int)] H1 (fun v H2=>spTxt ([.ref p,.ref l,v]++[]) H2 Q E0) E0:=fun H1 b1 kk k1 k2 hB hP hb1 =>
   ⟨p,b1,_,rfl,hP,by omega,by omega,by omega,fun z H3 z0 z1 hP3 e3=>by
    obtain ⟨m,rfl⟩:∃ m:Nat,z=(m:Int):=⟨z.toNat,by omega⟩
    exact ⟨p,l,b1+1,m,cs,rfl,hP3,by omega,by omega,(e3 l hlp).trans (hB l _ hL hlp),by omega,hlp,fun w' H4 l1 l2 l3 hB4 hP4 =>
     q w' H4 (by omega) l3 (hB.trans ((but3 e3).trans hB4)) (hP4.mono (by omega))⟩⟩
  -- a part of it
  have partF:∀ {H1 H3:Hp} {b1:Nat} {lo:Int} {t:Addr},PenAt H1 p b1->H1 t=none->(∀ c,c≠p->H3 c=upd H1 t (.lst (cutV (cs.map sign) (some lo) none)) c) ->
    H3 t=some (.lst ((cutN cs (some lo) none).map sign))/\t≠p/\But p H1 H3:=fun {H1 H3 b1 lo t} hP ht e3=>by
   obtain ⟨op,hop⟩:=hP.some
   have npt:p≠t:=ne_of_none hop ht
   exact ⟨by rw [e3 t npt.symm,upd_same,qew],npt.symm,(But.same (Same.add ht)).trans (but3 e3)⟩
  have penF:∀ {H1:Hp} {b1:Nat} {t:Addr} {o:HO},PenAt H1 p b1->H1 t=none->PenAt (upd H1 t o) p b1:=fun {H1 b1 t o} hP ht=>by
   obtain ⟨op,hop⟩:=hP.some
   exact hP.other (qg (ne_of_none hop ht))
  refine ⟨_,rfl,_,_,rfl,rfl,_,rfl,?_⟩
  refine ite2 (fun hc=>?_) (fun hc=>?_)
  ·exact ⟨_,rfl,_,rfl,_,rfl,whole H b 4 (by decide) (by decide) (But.refl _ _) hp (by omega)⟩
  ·refine ⟨_,rfl,_,rfl,_,rfl,_,_,rfl,rfl,_,rfl,l,_,rfl,SqL.of hL,fun t ht=>⟨_,rfl,?_⟩⟩
   refine ⟨p,b,_,rfl,penF hp ht,by omega,by decide,by decide,fun z1 H3 z10 z11 hP3 e3=>?_⟩
   obtain ⟨m1,rfl⟩:∃ m:Nat,z1=(m:Int):=⟨z1.toNat,by omega⟩
   obtain ⟨t1,t2,t3⟩:=partF hp ht e3
   refine ⟨p,t,b+1,m1,_,rfl,hP3,by omega,by omega,t1,by have:=Vu cs (some ((j:Int)+1)) none;omega,t2,fun w1 H1 w1l _ w1i0 hB10 hP10=>?_⟩
   have w1i:∀ c∈w1,c∈cs:=fun c hc=>Yn (w1i0 c hc)
   have hB1:But p H H1:=t3.trans hB10
   have hP1:PenAt H1 p (b+3):=hP10.mono (by omega)
   have hL1:=hB1 l _ hL hlp
   refine ⟨_,rfl,rfl,_,rfl,?_⟩
   refine ite2 (fun hc2=>?_) (fun hc2=>?_)
   ·refine ⟨_,rfl,_,rfl,_,rfl,l,_,_,_,rfl,rfl,SqL.of hL1,atI_nat (v:=sign cs[j]) (by rw [List.getElem?_map,List.getElem?_eq_getElem hj];rfl),_,_,rfl,rfl,?_,?_⟩
    ·show w1.toArray.size+1<=sizeLine
     rw [List.size_toArray]
     exact Nat.le_trans (show w1.length+1<=100 by omega) (by decide)
    ·refine ⟨_,rfl,_,rfl,_,rfl,_,_,rfl,rfl,_,rfl,l,_,rfl,SqL.of hL1,fun t2 ht2=>⟨_,rfl,?_⟩⟩
     refine ⟨p,b+3,_,rfl,penF hP1 ht2,by omega,by decide,by decide,fun z2 H4 z20 z21 hP4 e4=>?_⟩
     obtain ⟨m2,rfl⟩:∃ m:Nat,z2=(m:Int):=⟨z2.toNat,by omega⟩
     obtain ⟨u1,u2,u3⟩:=partF hP1 ht2 e4
     refine ⟨p,t2,b+4,m2,_,rfl,hP4,by omega,by omega,u1,Nat.le_trans (Vu cs _ none) (by omega),u2,fun w2 H2 w2l _ w2i0 hB20 hP20=>?_⟩
     have w2i:∀ c∈w2,c∈cs:=fun c hc=>Yn (w2i0 c hc)
     have hB2:But p H1 H2:=u3.trans hB20
     have hP2:PenAt H2 p (b+5):=hP20.mono (by omega)
     have e1:((⟨w1.toArray⟩:Str)++(⟨#[cs[j]]⟩:Str))=⟨(w1++[cs[j]]).toArray⟩:=Jh w1 [cs[j]]
     refine ⟨_,_,rfl,rfl,?_,?_⟩
     ·rw [e1]
      show (w1++[cs[j]]).toArray.size+w2.toArray.size<=sizeLine
      rw [List.size_toArray,List.size_toArray,List.length_append]
      exact Nat.le_trans (show w1.length + [cs[j]].length+w2.length<=100 by simp;omega) (by decide)
     ·rw [e1,Jh]
      refine q _ H2 ?_ ?_ (hB1.trans hB2) (hP2.mono (by omega))
      ·rw [List.length_append,List.length_append]
       simp
       omega
      ·intro c hc
       rcases List.mem_append.mp hc with z | z
       ·rcases List.mem_append.mp z with z | z
        ·exact w1i c z
        ·have z:c=cs[j]:=by simpa using z
         rw [z];exact List.getElem_mem hj
       ·exact w2i c z
   ·refine ⟨_,rfl,rfl,_,rfl,?_⟩
    refine ite2 (fun hc3=>?_) (fun hc3=>?_)
    ·exact ⟨_,rfl,q _ H1 (by omega) w1i hB1 (hP1.mono (by omega))⟩
    ·refine ⟨_,rfl,rfl,_,rfl,?_⟩
     refine ite2 (fun hc4=>?_) (fun hc4=>?_)
     ·have el:((cs.map sign).length:Int)=(cs.length:Int):=by rw [List.length_map]
      obtain ⟨m,hm,hm2⟩:∃ m:Nat,((j:Int)+1) % ((cs.map sign).length:Int)=(m:Int)/\m < cs.length:=by
       rw [el]
       have a1:=Int.emod_nonneg ((j:Int)+1) (show (cs.length:Int)≠0 by omega)
       have a2:=Int.emod_lt_of_pos ((j:Int)+1) (show (0:Int) < cs.length by omega)
       exact ⟨(((j:Int)+1) % (cs.length:Int)).toNat,by omega,by omega⟩
      refine ⟨_,rfl,_,rfl,_,_,rfl,rfl,_,rfl,l,_,rfl,.inl (SqL.of hL1),_,_,rfl,rfl,(by show (0:Int) < _;rw [el];omega),l,_,_,sign cs[m],rfl,rfl,SqL.of hL1,?_,?_⟩
      ·rw [hm]
       exact atI_nat (by rw [List.getElem?_map,List.getElem?_eq_getElem hm2];rfl)
      ·refine ⟨_,rfl,_,rfl,_,rfl,_,_,rfl,rfl,_,rfl,l,_,rfl,SqL.of hL1,fun t2 ht2=>⟨_,rfl,?_⟩⟩
       refine ⟨p,b+3,_,rfl,penF hP1 ht2,by omega,by decide,by decide,fun z2 H4 z20 z21 hP4 e4=>?_⟩
       obtain ⟨m2,rfl⟩:∃ m:Nat,z2=(m:Int):=⟨z2.toNat,by omega⟩
       obtain ⟨u1,u2,u3⟩:=partF hP1 ht2 e4
       refine ⟨p,t2,b+4,m2,_,rfl,hP4,by omega,by omega,u1,Nat.le_trans (Vu cs _ none) (by omega),u2,fun w2 H2 w2l _ w2i0 hB20 hP20=>?_⟩
       have w2i:∀ c∈w2,c∈cs:=fun c hc=>Yn (w2i0 c hc)
       have hB2:But p H1 H2:=u3.trans hB20
       have hP2:PenAt H2 p (b+5):=hP20.mono (by omega)
       refine ⟨⟨#[cs[m]]⟩,⟨w2.toArray⟩,rfl,rfl,?_,?_⟩
       ·show 1+w2.toArray.size<=sizeLine
        rw [List.size_toArray]
        exact Nat.le_trans (show 1+w2.length<=100 by omega) (by decide)
       ·have e1:((⟨#[cs[m]]⟩:Str)++(⟨w2.toArray⟩:Str))=⟨([cs[m]]++w2).toArray⟩:=Jh [cs[m]] w2
        rw [e1]
        refine q _ H2 ?_ ?_ (hB1.trans hB2) (hP2.mono (by omega))
        ·rw [List.length_append]
         simp
         omega
        ·intro c hc
         rcases List.mem_append.mp hc with z | z
         ·have z:c=cs[m]:=by simpa using z
          rw [z];exact List.getElem_mem hm2
         ·exact w2i c z
     ·exact ⟨_,rfl,_,rfl,_,rfl,whole H1 (b+3) 7 (by decide) (by decide) hB1 hP1 (by omega)⟩
end
end Lw
namespace Lw
open PySem L2
section
variable {P:Program} {w:World} {K:W.Frag} {mg:Str->Option Value} {base:Heap}
def spBok:Sp:=fun vs H Q _=>∃ (p:Addr) (b:Nat),vs=[.ref p]/\PenAt H p b/\b<=700000 /\
 ∀ (t:Addr) (first:List Nat) (rs:List Rule) H',Good first rs->BookAt H' t first rs->But p H H'->PenAt H' p (b+400)->Q (.ref t) H'
theorem scBok:FnScope ["_law_pen_here","_law_pick","_law_many","_law_signs_here","_law_words","_law_at","_law_letter","_law_first"] ["_law_pen_here"] (defScope sBok):=⟨rfl,rfl,rfl,by decide +kernel,rfl,by decide +kernel,by decide +kernel⟩
theorem qim:(["_law_letter","_law_words"]:List Str).Nodup:=by decide +kernel
theorem arr1:∀ m:Nat,m < 7->∃ v:Nat,([V.int 3,V.int 2,V.int 4,V.int 4,V.int 5,V.int 8,V.int 0]:List V)[m]? = some (V.int (v:Int))/\v<=8/\(m < 5->1<=v)
 | 0,_=>⟨3,rfl,by decide,by decide⟩
 | 1,_=>⟨2,rfl,by decide,by decide⟩
 | 2,_=>⟨4,rfl,by decide,by decide⟩
 | 3,_=>⟨4,rfl,by decide,by decide⟩
 | 4,_=>⟨5,rfl,by decide,by decide⟩
 | 5,_=>⟨8,rfl,by decide,by decide⟩
 | 6,_=>⟨0,rfl,by decide,by decide⟩
 | n+7,h=>by omega
theorem arr2:∀ m:Nat,m < 7->∃ v:Nat,([V.int 4,V.int 4,V.int 4,V.int 4,V.int 4,V.int 13,V.int 1]:List V)[m]? = some (V.int (v:Int))/\v<=13/\1<=v
 | 0,_=>⟨4,rfl,by decide,by decide⟩
 | 1,_=>⟨4,rfl,by decide,by decide⟩
 | 2,_=>⟨4,rfl,by decide,by decide⟩
 | 3,_=>⟨4,rfl,by decide,by decide⟩
 | 4,_=>⟨4,rfl,by decide,by decide⟩
 | 5,_=>⟨13,rfl,by decide,by decide⟩
 | 6,_=>⟨1,rfl,by decide,by decide⟩
 | n+7,h=>by omega
theorem qin {f f1 f2 f3 f4:Addr} {fd fd1 fd2 fd3 fd4:FuncData} (F:Fun K "_law_book" "_law_book" sBok f fd) (G:FnOk P w K mg base CX0 1 f1 fd1 ["_law_pen_here","_law_size"] spTak) (g:Gf K mg "_law_take" f1 fd1 ["_law_pen_here","_law_size"])
  (G2:FnOk P w K mg base CX0 2 f2 fd2 ["_law_pen_here","_law_signs_here","_law_many"] spTxt) (g2:Gf K mg "_law_text" f2 fd2 ["_law_pen_here","_law_signs_here","_law_many"])
  (G3:FnOk P w K mg base CX0 2 f3 fd3 ["_law_pen_here","_law_many"] spSig) (g3:Gf K mg "_law_signs" f3 fd3 ["_law_pen_here","_law_many"])
  (G4:FnOk P w K mg base CX0 3 f4 fd4 ["_law_pen_here","_law_pick","_law_signs_here","_law_at"] spWrd) (g4:Gf K mg "_law_word" f4 fd4 ["_law_pen_here","_law_pick","_law_signs_here","_law_at"])
  (hint:mg "int" = none) (henum:mg "enumerate" = none) (hsorted:mg "sorted" = none) (htuple:mg "tuple" = none):FnOk P w K mg base CX0 4 f fd ["_law_pen_here"] spBok:=by
 refine F.ok scBok (fun vs H Q E h=>?_) (fun cdv A outer s H vs Q E hr h=>?_)
 ·obtain ⟨p,b,rfl,_⟩:=h
  rfl
 ·obtain ⟨p,b,rfl,hp,hb,q⟩:=h
  have hr1:Room 1 _:=hr.mono (by decide)
  have hr2:Room 2 _:=hr.mono (by decide)
  have hu:=Vb hr
  refine ⟨_,qc (ql (i:=1) scBok.nd rfl (Or.inl rfl) (qe G hr1 rfl g.m g.k g.b .nil pass0 (qa (pv 0) (qa qd qb))))
   (qc (ql (i:=2) scBok.nd rfl (Or.inl rfl) (qp Ys (pe_ix ji (j9 (qa qd (qa qd (qa qd (qa qd (qa qd (qa qd (qa qd qb)))))))) (pv 1) (fun _ _=>rfl))
    (qp yb (qy V4 (by rfl) hint (by first | exact PySem.boot_int | decide +kernel) (qa (j5 qbt (pv 1) qd (nomark _)) qb)) (qe G hr1 rfl g.m g.k g.b .nil pass0 (qa (pv 0) (qa qd qb))))))
   (qc (ql (i:=3) scBok.nd rfl (Or.inl rfl) (qe G3 hr2 rfl g3.m g3.k g3.b .nil pass0 (qa (pv 0) (qa (pv 2) qb))))
   (qc (ql (i:=4) scBok.nd rfl (Or.inr rfl) qdz)
   (qc (za PassesOwn.never rfl (pi_enum rfl henum (qa (pv 3) qb)) (qe9 rfl (qo (qj (i:=5) scBok.nd rfl (Or.inl rfl)) (qo (qj (i:=6) scBok.nd rfl (Or.inl rfl)) vb)))
    (qf (qf2 hu (pv 4) (pv 6) (qe G4 hr rfl g4.m g4.k g4.b .nil pass0 (qa (pv 0) (qa (pv 1) (qa (pv 3) (qa (pv 5) qb))))) rfl)))
   (qc (ql (i:=7) scBok.nd rfl (Or.inl rfl) (qe G2 hr2 rfl g2.m g2.k g2.b .nil pass0 (qa (pv 0) (qa (pv 3) (qa (qe G hr1 rfl g.m g.k g.b .nil pass0 (qa (pv 0)
    (qa (pe_ix ji (j9 (qa qd (qa qd (qa qd (qa qd (qa qd (qa qd (qa qd qb)))))))) (pv 1) (fun _ _=>rfl)) qb))) qb)))))
   (qf (qh (ja (qa (pv 7) (qa (qy call_tuple_of (by rfl) htuple (by first | exact PySem.boot_tuple | decide +kernel) (qa
    (qz (N':=["_law_letter","_law_words"]) (ix:=[none,some 4]) rfl rfl (pi_list (qi (jv rfl) (by rfl) hsorted PyProof.Rows.boot_sorted (qa (pv 4) qb)))
     (fun _ _ _ _ _ _=>qj (i:=0) qim rfl (Or.inl rfl)) (fun _ _ _ _ _ _=>qx) (fun _ _ _ _ _ _=>ja (qa (pv 0) (qa (j6 hu (pv 1) (pv 0) (fun _ _=>rfl)) qb)))) qb)) qb)))))))))),?_⟩
  refine ⟨_,rfl,p,b,_,rfl,hp,by omega,by decide,by decide,fun z H1 z0 z1 hP1 e1=>?_⟩
  obtain ⟨m,rfl⟩:∃ m:Nat,z=(m:Int):=⟨z.toNat,by omega⟩
  have hm:m < 7:=by omega
  obtain ⟨v,hv,v1,v2⟩:=arr1 m hm
  obtain ⟨op1,hop1⟩:=hP1.some
  refine ⟨(by show 7<=sizeLine;decide),fun t1 ht1=>?_⟩
  have np1:p≠t1:=ne_of_none hop1 ht1
  refine ⟨_,rfl,t1,_,_,_,rfl,rfl,SqL.of upd_same,atI_nat hv,_,rfl,_,_,rfl,rfl,.inr ⟨_,rfl,?_⟩⟩
  refine ⟨_,rfl,p,b+1,_,rfl,hP1.other (qg np1),by omega,by decide,by decide,fun z2 H2 z20 z21 hP2 e2=>?_⟩
  have but3:∀ {Ha Hb:Hp},(∀ c,c≠p->Hb c=Ha c)->But p Ha Hb:=fun e c o h n=>(e c n).trans h
  have hB2:But p H H2:=(but3 e1).trans ((But.same (Same.add ht1)).trans (but3 e2))
  obtain ⟨n,hn,hn8⟩:∃ n:Nat,(v:Int) - (if decide ((m:Int) < 5)=true then 1 else 0) * z2=(n:Int)/\n<=8:=by
   by_cases h5:m < 5
   ·have:=v2 h5
    rw [if_pos (decide_eq_true (by omega))]
    exact ⟨((v:Int) - z2).toNat,by omega,by omega⟩
   ·rw [if_neg (by intro z;have:=of_decide_eq_true z;omega)]
    exact ⟨v,by omega,v1⟩
  refine ⟨_,_,rfl,rfl,.inl ⟨by split <;> decide,by split <;> decide⟩,_,_,rfl,rfl,?_⟩
  refine ⟨_,rfl,_,rfl,p,b+2,n,?_,hP2,by omega,by omega,fun l cs H3 hB3 hP3 nl hL3 hcl hnd habc=>?_⟩
  ·show [V.ref p,V.int ((v:Int) - (if decide ((m:Int) < 5)=true then 1 else 0) * z2)]=_
   rw [hn]
  intro d hd
  obtain ⟨op2,hop2⟩:=hP2.some
  obtain ⟨op3,hop3⟩:=hP3.some
  have nlp:l≠p:=(ne_of_none hop2 nl).symm
  have ndp:d≠p:=(ne_of_none hop3 hd).symm
  have nld:l≠d:=ne_of_none hL3 hd
  refine ⟨_,rfl,l,rfl,⟨_,SqL.of (by rw [qg nld];exact hL3)⟩,?_⟩
  refine for_by2 (sure_enum (xs:=cs.map sign)) (fun i σ H4=>∃ (ws:List (List Nat)) (v5 v6:Option V),σ=[some (.ref p),some (.int (m:Int)),some (.int ((v:Int) - (if decide ((m:Int) < 5)=true then 1 else 0) * z2)),some (.ref l),some (.ref d),v5,v6,none] /\
    ws.length=i/\i<=cs.length/\(∀ w∈ws,w.length<=6/\∀ c∈w,c∈cs)/\H4 d=some (.dK (kvz (cs.take i) ws))/\But p H3 H4/\PenAt H4 p (b+10+20 * i))
   ⟨[],none,none,rfl,rfl,Nat.zero_le _,(fun w hw=>by simp at hw),upd_same,But.same (Same.add hd),(hP3.other (qg ndp.symm)).mono (by omega)⟩ ?_ ?_ ?_
  ·rintro i σ H4 hi ⟨ws,v5,v6,rfl,e5,e6,hws,hd4,hB4,hP4⟩
   exact SqL.of (hB4 l _ hL3 nlp)
  ·rintro i zs σ H4 T hz ⟨ws,v5,v6,rfl,e5,e6,hws,hd4,hB4,hP4⟩ hT
   rw [List.getElem?_map] at hz
   cases ez:(cs.map sign).zipIdx[i]? with
   | none=>rw [ez] at hz;cases hz
   | some pr =>
    rw [ez] at hz
    cases hz
    rw [List.getElem?_zipIdx,List.getElem?_map] at ez
    cases ec:cs[i]? with
    | none=>rw [ec] at ez;cases ez
    | some c =>
     rw [ec] at ez
     have ez':pr=(sign c,0+i):=(Option.some.inj ez).symm
     subst ez'
     obtain ⟨op4,hop4⟩:=hP4.some
     have npT:p≠T:=ne_of_none hop4 hT
     have hL4:=hB4 l _ hL3 nlp
     have hil:i < cs.length:=(List.getElem?_eq_some_iff.mp ec).1
     refine ⟨T,_,rfl,SqT.of upd_same,rfl,_,_,rfl,_,_,rfl,rfl,?_⟩
     refine ⟨_,rfl,_,rfl,_,rfl,_,rfl,p,l,b+10+20 * i,i,(m:Int),cs,?_,hP4.other (qg npT),by omega,by rw [qg (ne_of_none hL4 hT)];exact hL4,by omega,nlp,hil,fun w' H5 w1 w2 hB5 hP5=>?_⟩
     ·show [V.ref p,V.int (m:Int),V.ref l,V.int ((0+i:Nat):Int)]=_
      rw [Nat.zero_add]
     have hd5:H5 d=some (.dK (kvz (cs.take i) ws)):=hB5 d _ (by rw [qg (ne_of_none hd4 hT)];exact hd4) ndp
     have hnot:c ∉ cs.take i:=fun hc=>by
      have:=hnd
      rw [<- List.take_append_drop i cs] at this
      obtain ⟨_,_,hdis⟩:=List.nodup_append.mp this
      refine hdis c hc c ?_ rfl
      rw [List.drop_eq_getElem_cons hil]
      have:cs[i]=c:=by rw [List.getElem?_eq_getElem hil] at ec;exact Option.some.inj ec
      rw [this]
      exact List.mem_cons_self
     refine ⟨_,rfl,_,rfl,d,_,rfl,DPut.k (k:=Sum.inr (one c)) hd5 (small1000 (Nat.le_trans (qcz _ _) (by rw [List.length_take];omega))),?_⟩
     refine ⟨ws++[w'],_,_,rfl,by rw [List.length_append,e5];rfl,hil,fun u hu=>?_,?_,?_,?_⟩
     ·rcases List.mem_append.mp hu with z | z
      ·exact hws u z
      ·have z:u=w':=by simpa using z
       rw [z];exact ⟨w1,w2⟩
     ·rw [upd_same,qdx _ (Y8 hnot),qeo (by rw [List.length_take,e5];omega) ec]
     ·intro c' o hc' hne
      have h4:=hB4 c' o hc' hne
      rw [qg (ne_of_none hc' hd)]
      exact hB5 c' o (by rw [qg (ne_of_none h4 hT)];exact h4) hne
     ·exact (hP5.other (qg ndp.symm)).mono (by omega)
  ·rintro σ H4 ⟨ws,v5,v6,rfl,e5,e6,hws,hd4,hB4,hP4⟩
   have el:((cs.map sign).zipIdx.map fun p=>[V.int ((p.2:Nat):Int),p.1]).length=cs.length:=by simp
   rw [el] at e5 hd4 hP4
   rw [take_all] at hd4
   obtain ⟨op4,hop4⟩:=hP4.some
   have hL4:=hB4 l _ hL3 nlp
   obtain ⟨v',hv',u1,u2⟩:=arr2 m hm
   refine ⟨_,rfl,_,rfl,_,rfl,(by show 7<=sizeLine;decide),fun t2 ht2=>?_⟩
   have np2:p≠t2:=ne_of_none hop4 ht2
   refine ⟨_,rfl,t2,_,_,_,rfl,rfl,SqL.of upd_same,atI_nat hv',p,b+10+20 * cs.length,_,rfl,hP4.other (qg np2),by omega,by omega,by omega,fun z3 H5 z30 z31 hP5 e7=>?_⟩
   obtain ⟨m3,rfl⟩:∃ m:Nat,z3=(m:Int):=⟨z3.toNat,by omega⟩
   have hL5:H5 l=some (.lst (cs.map sign)):=(e7 l nlp).trans (by rw [qg (ne_of_none hL4 ht2)];exact hL4)
   refine ⟨p,l,b+10+20 * cs.length+1,m3,cs,rfl,hP5,by omega,by omega,hL5,by omega,nlp,fun first H6 fl1 fl2 fl3 hB6 hP6=>?_⟩
   have hB46:But p H4 H6:=(But.same (Same.add ht2)).trans ((but3 e7).trans hB6)
   have hd6:H6 d=some (.dK (kvz cs ws)):=hB46 d _ hd4 ndp
   refine ⟨_,rfl,_,rfl,d,_,cs.map one,rfl,hd6,Y7 e5,Nat.lt_of_le_of_lt (qcz _ _) (by omega),fun l2 ss' hl2 hperm hsort=>?_⟩
   obtain ⟨cs',hp',rfl⟩:=Zt hperm
   have es:(cs'.map one).map V.str=cs'.map sign:=by rw [List.map_map];rfl
   rw [es]
   have nd':cs'.Nodup:=hp'.nodup_iff.mpr hnd
   have hlt:=Zs hsort nd'
   have hlen':cs'.length=n:=by rw [hp'.length_eq];exact hcl
   have s7:Same H6 (upd H6 l2 (.lst (cs'.map sign))):=Same.add hl2
   refine ⟨l2,rfl,⟨_,SqL.of upd_same⟩,?_⟩
   refine jq (Q:=fun x Ha=>∃ p ys,[x]=[V.ref p]/\((SqL K Ha p ys/\∀ l,Ha l=none->(fun (y:V) (Hb:Hp)=>[tx first,y].length<=sizeLine/\∀ t,Hb t=none->Q (.ref t) (upd Hb t (.tup [tx first,y]))) (.ref l) (upd Ha l (.tup ys))) \/
     (SqT K Ha p ys/\(fun (y:V) (Hb:Hp)=>[tx first,y].length<=sizeLine/\∀ t,Hb t=none->Q (.ref t) (upd Hb t (.tup [tx first,y]))) (.ref p) Ha)))
    (τ0:=[none,some (V.ref d)]) (sure_list (xs:=cs'.map sign)) (by rw [List.length_map];omega)
    (fun i ys τ H8=>Same (upd H6 l2 (.lst (cs'.map sign))) H8/\(∃ v,τ=[v,some (.ref d)])/\∃ (ps:List Addr) (rs:List Rule),ys=ps.map V.ref/\RulesAt H8 ps rs/\rs.map (·.1)=cs'.take i/\∀ r∈rs,r.2.length<=6/\∀ c∈r.2,c∈cs)
    ⟨Same.refl _,⟨_,rfl⟩,[],[],rfl,.nil,rfl,(fun r hr=>by simp at hr)⟩ ?_ ?_ ?_
   ·rintro i ys τ H8 hi ⟨s8,_,ps,rs,rfl,hR,hrs,_⟩
    refine ⟨SqL.of (s8 _ _ upd_same),?_⟩
    have:=congrArg List.length hrs
    rw [List.length_map,List.length_take] at this
    rw [List.length_map,hR.len]
    omega
   ·rintro i x ys τ H8 hx ⟨s8,⟨v0,rfl⟩,ps,rs,rfl,hR,hrs,hgood⟩
    rw [List.getElem?_map] at hx
    cases ec:cs'[i]? with
    | none=>rw [ec] at hx;cases hx
    | some c =>
     rw [ec] at hx
     cases hx
     have hc:c∈cs:=hp'.mem_iff.mp (List.mem_of_getElem? ec)
     obtain ⟨w',hw,ew⟩:=Y9 e5 hc
     have hg:=DGet.k (k:=(Sum.inr (one c):Key)) (s8 _ _ (s7 _ _ hd6))
     rw [ew] at hg
     refine ⟨_,rfl,_,rfl,_,rfl,d,tx w',rfl,hg,(by show 2<=sizeLine;decide),fun T hT=>?_⟩
     refine ⟨s8.trans (Same.add hT),⟨_,rfl⟩,ps++[T],rs++[(c,w')],by rw [List.map_append];rfl,(hR.mono (TupS.same (Same.add hT))).snoc upd_same,?_,fun r hr=>?_⟩
     ·rw [List.map_append,hrs,List.take_add_one,ec]
      rfl
     ·rcases List.mem_append.mp hr with z | z
      ·exact hgood r z
      ·have z:r=(c,w'):=by simpa using z
       rw [z];exact hws w' hw
   ·rintro ys τ H8 D ⟨s8,_,ps,rs,rfl,hR,hrs,hgood⟩ hD
    rw [List.length_map,take_all] at hrs
    refine ⟨D,ps.map V.ref,rfl,.inl ⟨SqL.of upd_same,fun r hr=>⟨(by show 2<=sizeLine;decide),fun t ht=>?_⟩⟩⟩
    have sA:Same H8 (upd H8 D (.lst (ps.map V.ref))):=Same.add hD
    have sB:Same (upd H8 D (.lst (ps.map V.ref))) (upd (upd H8 D (.lst (ps.map V.ref))) r (.tup (ps.map V.ref))):=Same.add hr
    have sC:Same (upd (upd H8 D (.lst (ps.map V.ref))) r (.tup (ps.map V.ref))) (upd (upd (upd H8 D (.lst (ps.map V.ref))) r (.tup (ps.map V.ref))) t (.tup [tx first,.ref r])):=Same.add ht
    have sAll:=s7.trans (s8.trans (sA.trans (sB.trans sC)))
    have hrl:rs.length=cs'.length:=by have:=congrArg List.length hrs;rwa [List.length_map] at this
    obtain ⟨a6,n6,g6,e66,r6⟩:=hP6.ex
    refine q t first rs _ ⟨by omega,by rw [hrs];exact hlt,fun r hr=>?_,fun r hr=>(hgood r hr).1,fun r hr c hc=>?_,by omega,fun c hc=>?_⟩ ⟨r,ps,upd_same,sC _ _ upd_same,hR.mono (TupS.same (sA.trans (sB.trans sC)))⟩
     (hB2.trans (hB3.trans (hB4.trans (hB46.trans (But.same sAll))))) ⟨a6,n6,g6,sAll _ _ e66,r6.1,by omega,r6.2.2⟩
    ·have hr':r.1∈cs':=by rw [<- hrs];exact List.mem_map_of_mem hr
     exact habc r.1 (hp'.mem_iff.mp hr')
    ·rw [hrs];exact hp'.mem_iff.mpr ((hgood r hr).2 c hc)
    ·rw [hrs];exact hp'.mem_iff.mpr (fl3 c hc)
end
end Lw
namespace Lw
open PySem L2
theorem qde (rs:List Rule):tabV rs=(tabI rs).map fun v=>v.map V.int:=by
 unfold tabV tabI cnts
 rw [List.map_map]
 refine List.map_congr_left fun q _=>?_
 show _=List.map V.int _
 rw [List.map_map]
 rfl
theorem TabAt.v {H0 H:Hp} {l:Addr} {ls:List Addr} {rs:List Rule} (t:TabAt H0 H l ls (tabV rs)):TabV H l ls (tabI rs):=by
 refine ⟨t.top,?_,fun i a v e1 e2=>?_⟩
 ·have:=t.rows.len
  rw [qde,List.length_map] at this
  exact this
 ·refine t.rows.at_ i a _ e1 ?_
  rw [qde,List.getElem?_map,e2]
  rfl
theorem qgy (rs:List Rule) (w:List Nat):cnts rs w=(c0 rs w).map V.int:=by
 unfold cnts c0
 rw [List.map_map]
 rfl
theorem tyKeep {K:W.Frag} {H H':Hp} {z:V} {t:String} (h:TyOf K H z (.type t)) (k:∀ a o,z=.ref a->H a=some o->H' a=some o):TyOf K H' z (.type t):=by
 cases h with
 | non=>exact .non
 | bl x=>exact .bl x
 | int i=>exact .int i
 | str x=>exact .str x
 | flt x=>exact .flt x
 | lst e=>exact .lst (k _ _ rfl e)
 | frz e=>exact .frz (k _ _ rfl e)
 | tup e=>exact .tup (k _ _ rfl e)
 | dK e=>exact .dK (k _ _ rfl e)
 | dT e=>exact .dT (k _ _ rfl e)
def OddV (K:W.Frag) (H:Hp) (z:V):Prop:=∃ t,TyOf K H z (.type t)/\(t = "bool"\/t = "NoneType"\/t = "str"\/t = "list"\/t = "tuple")
def OutOf (K:W.Frag) (lo m:Int) (H:Hp) (z:V):Prop:=OddV K H z\/∃ n:Int,z=.int n/\(n < lo\/m < n)
theorem OutOf.keep {K:W.Frag} {lo m:Int} {H H':Hp} {z:V} (h:OutOf K lo m H z) (k:∀ a o,z=.ref a->H a=some o->H' a=some o):OutOf K lo m H' z:=by
 rcases h with ⟨t,h,ht⟩ | h
 ·exact .inl ⟨t,tyKeep h k,ht⟩
 ·exact .inr h
section
variable {P:Program} {w:World} {K:W.Frag} {mg:Str->Option Value} {base:Heap}
def spWho (K:W.Frag):Sp:=fun vs H Q _=>∃ z:V,vs=[z]/\((∃ n:Int,z=.int n/\Q (.bl true) H)\/(OddV K H z/\Q (.bl false) H))
theorem scWho:FnScope ["thing"] ["thing"] (defScope sWho):=⟨rfl,rfl,rfl,by decide +kernel,rfl,by decide +kernel,by decide +kernel⟩
theorem qio {f:Addr} {fd:FuncData} (F:Fun K "is_whole" "is_whole" sWho f fd)
  (hint:mg "int" = none)
  (hisinstance:mg "isinstance" = none)
  (hbool:mg "bool" = none)
  : FnOk P w K mg base CX0 1 f fd ["thing"] (spWho K):=by
 refine F.ok scWho (fun vs H Q E h=>?_) (fun cdv A outer s H vs Q E hr h=>?_)
 ·obtain ⟨z,rfl,_⟩:=h
  rfl
 ·obtain ⟨z,rfl,k⟩:=h
  refine ⟨_,(qf (qh (vx (qi (jt K) (by rfl) hisinstance (show bootBuiltins "isinstance" = some (.builtin "isinstance") by decide +kernel) (qa (pv 0) (qa (vp (v:=.ty "int") (by rfl) hint (show bootBuiltins "int" = some (.type "int") by decide +kernel) rfl) qb))) (yl (qhn (qi (jt K) (by rfl) hisinstance (show bootBuiltins "isinstance" = some (.builtin "isinstance") by decide +kernel) (qa (pv 0) (qa (vp (v:=.ty "bool") (by rfl) hbool (show bootBuiltins "bool" = some (.type "bool") by decide +kernel) rfl) qb)))))))),?_⟩
  rcases k with ⟨n,rfl,k⟩ | ⟨⟨t,ty,ht⟩,k⟩
  ·refine ⟨_,rfl,_,_,_,true,rfl,TyOf.int n,(by rfl),_,rfl,iteT ?_⟩
   exact ⟨_,rfl,_,_,_,false,rfl,TyOf.int n,(by rfl),_,rfl,k⟩
  ·rcases ht with rfl | rfl | rfl | rfl | rfl
   ·refine ⟨_,rfl,_,_,_,true,rfl,ty,(by rfl),_,rfl,iteT ?_⟩
    exact ⟨_,rfl,_,_,_,true,rfl,ty,(by rfl),_,rfl,k⟩
   ·exact ⟨_,rfl,_,_,_,false,rfl,ty,(by rfl),_,rfl,iteF k⟩
   ·exact ⟨_,rfl,_,_,_,false,rfl,ty,(by rfl),_,rfl,iteF k⟩
   ·exact ⟨_,rfl,_,_,_,false,rfl,ty,(by rfl),_,rfl,iteF k⟩
   ·exact ⟨_,rfl,_,_,_,false,rfl,ty,(by rfl),_,rfl,iteF k⟩
def spWin (K:W.Frag):Sp:=fun vs H Q _=>∃ (z:V) (lo m:Int),vs=[z,.int lo,.int m]/\((∃ n:Int,z=.int n/\lo<=n/\n<=m/\Q (.bl true) H)\/(OutOf K lo m H z/\Q (.bl false) H))
theorem scWin:FnScope ["thing","least","most"] ["thing","least","most"] (defScope sWin):=⟨rfl,rfl,rfl,by decide +kernel,rfl,by decide +kernel,by decide +kernel⟩
theorem qip {f fWho:Addr} {fd fdWho:FuncData} (F:Fun K "is_within" "is_within" sWin f fd)
  (GWho:FnOk P w K mg base CX0 1 fWho fdWho ["thing"] (spWho K))
  (gWho:Gf K mg "is_whole" fWho fdWho ["thing"])
  : FnOk P w K mg base CX0 2 f fd ["thing","least","most"] (spWin K):=by
 refine F.ok scWin (fun vs H Q E h=>?_) (fun cdv A outer s H vs Q E hr h=>?_)
 ·obtain ⟨z,lo,m,rfl,_⟩:=h
  rfl
 ·obtain ⟨z,lo,m,rfl,k⟩:=h
  refine ⟨_,(qf (qh (vx (qe GWho hr rfl gWho.m gWho.k gWho.b .nil pass0 (qa (pv 0) qb)) (yl (qdu qdt qdt (pv 1) (pv 0) (pv 2)))))),?_⟩
  rcases k with ⟨n,rfl,h0,h1,k⟩ | ⟨hz | ⟨n,rfl,hn⟩,k⟩
  ·refine ⟨_,rfl,_,rfl,.inl ⟨n,rfl,_,rfl,iteT ?_⟩⟩
   refine ⟨_,rfl,_,rfl,_,_,rfl,rfl,_,rfl,?_⟩
   rw [decide_eq_true h0]
   refine iteT ⟨_,rfl,_,_,rfl,rfl,?_⟩
   show Q (V.bl (decide (n<=m))) H
   rw [decide_eq_true h1]
   exact k
  ·exact ⟨_,rfl,_,rfl,.inr ⟨hz,_,rfl,iteF k⟩⟩
  ·refine ⟨_,rfl,_,rfl,.inl ⟨n,rfl,_,rfl,iteT ?_⟩⟩
   refine ⟨_,rfl,_,rfl,_,_,rfl,rfl,_,rfl,?_⟩
   cases ha:decide (lo<=n) with
   | false=>exact iteF k
   | true =>
    have:¬ n<=m:=by
     have:=of_decide_eq_true ha
     omega
    refine iteT ⟨_,rfl,_,_,rfl,rfl,?_⟩
    show Q (V.bl (decide (n<=m))) H
    rw [decide_eq_false this]
    exact k
def spCol:Sp:=fun vs H Q _=>∃ (l:Addr) (ls:List Addr) (T:List (List Int)) (j:Nat),vs=[.ref l,.int (j:Int)]/\TabV H l ls T/\T.length<=1000/\(∀ r∈T,j < r.length)/\∀ d H',Same H H'->H d=none->H' d=some (.lst ((colAt T j).map V.int))->Q (.ref d) H'
theorem scCol:FnScope ["lines","place"] ["lines","place"] (defScope sCol):=⟨rfl,rfl,rfl,by decide +kernel,rfl,by decide +kernel,by decide +kernel⟩
theorem qgz:(["line","place"]:List Str).Nodup:=by decide +kernel
theorem qiq {f:Addr} {fd:FuncData} (F:Fun K "column" "column" sCol f fd)
  : FnOk P w K mg base CX0 1 f fd ["lines","place"] spCol:=by
 refine F.ok scCol (fun vs H Q E h=>?_) (fun cdv A outer s H vs Q E hr h=>?_)
 ·obtain ⟨l,ls,T,j,rfl,_⟩:=h
  rfl
 ·obtain ⟨l,ls,T,j,rfl,hT,h8,hj,k⟩:=h
  refine ⟨_,(qf (qh (qz (N':=["line","place"]) (ix:=[none,some 1]) rfl rfl (yg K (pv 0)) (fun _ _ _ _ _ _=>(qj (i:=0) qgz rfl (Or.inl rfl))) (fun _ _ _ _ _ _=>qx) (fun _ _ _ _ _ _=>(pe_ix (jc K) (pv 0) (pv 1) (fun _ _=>rfl)))))),?_⟩
  have el:(ls.map V.ref).length=T.length:=by rw [List.length_map,hT.len]
  refine ⟨_,rfl,l,rfl,⟨_,SqL.of hT.top⟩,jq (sure_list (xs:=ls.map V.ref)) (by rw [el];omega) (fun i ys τ H2=>H2=H/\ys=((T.take i).map fun r=>r.getD j 0).map V.int/\∃ v,τ=[v,some (.int (j:Int))]) ⟨rfl,rfl,_,rfl⟩ ?_ ?_ ?_⟩
  ·rintro i ys τ H2 hi ⟨rfl,rfl,_⟩
   refine ⟨SqL.of hT.top,?_⟩
   rw [List.length_map,List.length_map,List.length_take]
   omega
  ·rintro i x ys τ H2 hx ⟨rfl,rfl,v,rfl⟩
   rw [List.getElem?_map] at hx
   cases e:ls[i]? with
   | none=>rw [e] at hx;cases hx
   | some p =>
    rw [e] at hx
    cases hx
    have hi:i < T.length:=by rw [<- hT.len];exact (List.getElem?_eq_some_iff.mp e).1
    have e1:T[i]? = some T[i]:=List.getElem?_eq_getElem hi
    have hr:=hj T[i] (List.getElem_mem hi)
    refine ⟨_,rfl,_,rfl,p,_,_,V.int (T[i].getD j 0),rfl,rfl,SqL.of (hT.at_ i p _ e e1),atI_nat (by rw [List.getElem?_map,List.getD_eq_getElem?_getD,List.getElem?_eq_getElem hr];rfl),rfl,?_,_,rfl⟩
    rw [q0 (fun r:List Int=>r.getD j 0) e1,List.map_append]
    rfl
  ·rintro ys τ H2 D ⟨rfl,rfl,_⟩ hD
   refine k D _ (Same.add hD) hD ?_
   rw [upd_same,el,take_all]
   rfl
def spCls:Sp:=fun vs H Q _=>∃ (l:Addr) (ls:List Addr) (T:List (List Int)),vs=[.ref l]/\TabV H l ls T/\T.length<=1000/\(∀ r∈T,r.length=T.length)/\∀ d ms H',Same H H'->H d=none->TabV H' d ms ((List.range T.length).map fun j=>colAt T j)->Q (.ref d) H'
theorem scCls:FnScope ["lines"] ["lines"] (defScope sCls):=⟨rfl,rfl,rfl,by decide +kernel,rfl,by decide +kernel,by decide +kernel⟩
theorem qg0:(["place","lines"]:List Str).Nodup:=by decide +kernel
theorem qir {f fCol:Addr} {fd fdCol:FuncData} (F:Fun K "columns" "columns" sCls f fd)
  (GCol:FnOk P w K mg base CX0 1 fCol fdCol ["lines","place"] spCol)
  (gCol:Gf K mg "column" fCol fdCol ["lines","place"])
  (hlen:mg "len" = none)
  (hrange:mg "range" = none)
  : FnOk P w K mg base CX0 2 f fd ["lines"] spCls:=by
 refine F.ok scCls (fun vs H Q E h=>?_) (fun cdv A outer s H vs Q E hr h=>?_)
 ·obtain ⟨l,ls,T,rfl,_⟩:=h
  rfl
 ·obtain ⟨l,ls,T,rfl,hT,h8,hj,k⟩:=h
  refine ⟨_,(qf (qh (qz (N':=["place","lines"]) (ix:=[none,some 0]) rfl rfl (vy rfl hrange (qa (qi (jx K) (by rfl) hlen PySem.boot_len (qa (pv 0) qb)) qb)) (fun _ _ _ _ _ _=>(qj (i:=0) qg0 rfl (Or.inl rfl))) (fun _ _ _ _ _ _=>qx) (fun _ _ _ _ _ _=>(qe GCol hr rfl gCol.m gCol.k gCol.b .nil pass0 (qa (pv 1) (qa (pv 0) qb))))))),?_⟩
  have el:(ls.map V.ref).length=T.length:=by rw [List.length_map,hT.len]
  refine ⟨_,rfl,l,_,rfl,.inl (SqL.of hT.top),?_⟩
  refine ⟨_,rfl,by omega,by omega,?_⟩
  refine jq (τ0:=[none,some (V.ref l)]) (vi (lo:=0) (n:=Int.toNat (((ls.map V.ref).length:Nat):Int))) (by rw [qt,el];simp;omega)
   (fun i ys τ H2=>Same H H2/\(∃ v,τ=[v,some (.ref l)])/\∃ ms,ys=ms.map V.ref/\RowsAt H H2 ms (((List.range T.length).take i).map fun j=>(colAt T j).map V.int)) ⟨Same.refl _,⟨_,rfl⟩,[],rfl,RowsAt.nil⟩ ?_ ?_ ?_
  ·rintro i ys τ H2 hi ⟨s2,_,ms,rfl,hR⟩
   refine ⟨trivial,?_⟩
   rw [List.length_map,hR.len,List.length_map,List.length_take]
   omega
  ·rintro i x ys τ H2 hx ⟨s2,⟨v,rfl⟩,ms,rfl,hR⟩
   obtain ⟨hi,rfl⟩:=qfo hx
   have hi':i < T.length:=by rw [el] at hi;simpa using hi
   refine ⟨_,rfl,_,rfl,l,ls,T,i,rfl,hT.mono s2,h8,fun r hr=>by rw [hj r hr];exact hi',fun d H3 s3 n3 e3=>?_⟩
   refine ⟨s2.trans s3,⟨_,rfl⟩,ms++[d],by rw [List.map_append];rfl,?_⟩
   rw [qep _ hi']
   exact hR.snoc s3 (s2.free n3) n3 e3
  ·rintro ys τ H2 D ⟨s2,_,ms,rfl,hR⟩ hD
   have e5:(rngV 0 (Int.toNat (((ls.map V.ref).length:Nat):Int))).length=T.length:=by rw [qt,el];simp
   rw [e5,qeq] at hR
   refine k D ms _ (s2.trans (Same.add hD)) (s2.free hD) ⟨upd_same,?_,fun j a v e1 e2=>?_⟩
   ·rw [hR.len,List.length_map,List.length_map]
   ·refine Same.add hD _ _ (hR.at_ j a _ e1 ?_)
    rw [List.getElem?_map] at e2 ⊢
    cases e3:(List.range T.length)[j]? with
    | none=>rw [e3] at e2;cases e2
    | some m =>
     rw [e3] at e2
     cases e2
     rfl
def spPrs:Sp:=fun vs H Q _=>∃ (a b:Addr) (xs ys:List Int) (e1 e2:Nat),vs=[.ref a,.ref b]/\H a=some (.lst (xs.map V.int))/\H b=some (.lst (ys.map V.int))/\xs.length<=1000/\Bz e1 xs/\Bz e2 ys/\e1<=5000/\e2<=5000/\∀ H',Same H H'->Q (.int (dot xs ys)) H'
theorem scPrs:FnScope ["ones","others"] ["ones","others"] (defScope sPrs):=⟨rfl,rfl,rfl,by decide +kernel,rfl,by decide +kernel,by decide +kernel⟩
theorem qdf:(["one","other"]:List Str).Nodup:=by decide +kernel
theorem qis {f:Addr} {fd:FuncData} (F:Fun K "paired_sum" "paired_sum" sPrs f fd)
  (hzip:mg "zip" = none)
  (hsum:mg "sum" = none)
  : FnOk P w K mg base CX0 1 f fd ["ones","others"] spPrs:=by
 refine F.ok scPrs (fun vs H Q E h=>?_) (fun cdv A outer s H vs Q E hr h=>?_)
 ·obtain ⟨a,b,xs,ys,e1,e2,rfl,_⟩:=h
  rfl
 ·obtain ⟨a,b,xs,ys,e1,e2,rfl,ha,hb,h8,b1,b2,l1,l2,k⟩:=h
  refine ⟨_,(qf (qh (qi (zq K rfl) (by rfl) hsum (by first | exact PySem.boot_sum | decide +kernel) (qa (qz (N':=["one","other"]) (ix:=[none,none]) rfl rfl (qga K rfl hzip (qa (pv 0) (qa (pv 1) qb))) (fun _ _ _ _ _ _=>(zr K (n:=2) rfl (qo (qj (i:=0) qdf rfl (Or.inl rfl)) (qo (qj (i:=1) qdf rfl (Or.inl rfl)) vb)))) (fun _ _ _ _ _ _=>qx) (fun _ _ _ _ _ _=>(qp qf9 (pv 0) (pv 1)))) qb)))),?_⟩
  refine ⟨_,rfl,_,rfl,a,b,rfl,⟨_,SqL.of ha⟩,⟨_,SqL.of hb⟩,?_⟩
  have elen:(((xs.map V.int).zip (ys.map V.int)).map fun p=>[p.1,p.2]).length=(List.zipWith (· * ·) xs ys).length:=by simp
  refine qcc (Q:=fun x Ha=>rSum K [x] Ha Q) (τ0:=[none,none]) (qd3 (xs:=xs.map V.int) (ys:=ys.map V.int)) (by simp;omega)
   (fun i zs τ H2=>Same H H2/\(∃ v u,τ=[v,u])/\zs=((List.zipWith (· * ·) xs ys).take i).map V.int) ⟨Same.refl _,⟨_,_,rfl⟩,rfl⟩ ?_ ?_ ?_
  ·rintro i zs τ H2 hi ⟨s2,_,rfl⟩
   refine ⟨⟨SqL.of (s2 _ _ ha),SqL.of (s2 _ _ hb)⟩,?_⟩
   rw [List.length_map,List.length_take]
   omega
  ·rintro i us zs τ H2 T hz ⟨s2,⟨v,u,rfl⟩,rfl⟩ hT
   rw [List.getElem?_map] at hz
   cases ez:((xs.map V.int).zip (ys.map V.int))[i]? with
   | none=>rw [ez] at hz;cases hz
   | some pr =>
    obtain ⟨px,py⟩:=pr
    rw [ez] at hz
    cases hz
    obtain ⟨q1,q2⟩:=List.getElem?_zip_eq_some.mp ez
    rw [List.getElem?_map] at q1 q2
    cases c1:xs[i]? with
    | none=>rw [c1] at q1;cases q1
    | some x =>
     cases c2:ys[i]? with
     | none=>rw [c2] at q2;cases q2
     | some y =>
      rw [c1] at q1
      rw [c2] at q2
      have q1':V.int x=px:=Option.some.inj q1
      have q2':V.int y=py:=Option.some.inj q2
      subst q1' q2'
      have k1:=Nat.le_trans (qac (b1 x (List.mem_of_getElem? c1))) (Nat.le_trans l1 (show 5000<=2 ^ 20 by decide))
      have k2:=Nat.le_trans (qac (b2 y (List.mem_of_getElem? c2))) (Nat.le_trans l2 (show 5000<=2 ^ 20 by decide))
      refine ⟨T,_,rfl,SqT.of upd_same,rfl,_,_,rfl,_,_,rfl,rfl,?_⟩
      refine ⟨_,rfl,_,rfl,_,_,rfl,rfl,⟨k1,k2⟩,s2.trans (Same.add hT),⟨_,_,rfl⟩,?_⟩
      have e3:(List.zipWith (· * ·) xs ys)[i]? = some (x * y):=by rw [List.getElem?_zipWith,c1,c2]
      rw [List.take_add_one,e3,List.map_append]
      rfl
  ·rintro zs τ H2 D ⟨s2,_,rfl⟩ hD
   rw [elen,take_all]
   exact ⟨D,_,rfl,SqL.of upd_same,k _ (s2.trans (Same.add hD))⟩
def spOao:Sp:=fun vs H Q _=>∃ (a l:Addr) (ls:List Addr) (xs:List Int) (T:List (List Int)) (e1 e2:Nat),vs=[.ref a,.ref l]/\H a=some (.lst (xs.map V.int))/\TabV H l ls T/\xs.length<=1000/\T.length<=1000/\Bz e1 xs/\(∀ r∈T,Bz e2 r)/\e1<=5000/\e2<=5000 /\
 ∀ d H',Same H H'->H d=none->H' d=some (.lst ((T.map fun r=>dot xs r).map V.int))->Q (.ref d) H'
theorem scOao:FnScope ["line","sources"] ["line","sources"] (defScope sOao):=⟨rfl,rfl,rfl,by decide +kernel,rfl,by decide +kernel,by decide +kernel⟩
theorem qg1:(["source","line"]:List Str).Nodup:=by decide +kernel
theorem qit {f fPrs:Addr} {fd fdPrs:FuncData} (F:Fun K "one_age_on" "one_age_on" sOao f fd)
  (GPrs:FnOk P w K mg base CX0 1 fPrs fdPrs ["ones","others"] spPrs)
  (gPrs:Gf K mg "paired_sum" fPrs fdPrs ["ones","others"])
  : FnOk P w K mg base CX0 2 f fd ["line","sources"] spOao:=by
 refine F.ok scOao (fun vs H Q E h=>?_) (fun cdv A outer s H vs Q E hr h=>?_)
 ·obtain ⟨a,l,ls,xs,T,e1,e2,rfl,_⟩:=h
  rfl
 ·obtain ⟨a,l,ls,xs,T,e1,e2,rfl,ha,hT,h8,h9,b1,b2,l1,l2,k⟩:=h
  refine ⟨_,(qf (qh (qz (N':=["source","line"]) (ix:=[none,some 0]) rfl rfl (yg K (pv 1)) (fun _ _ _ _ _ _=>(qj (i:=0) qg1 rfl (Or.inl rfl))) (fun _ _ _ _ _ _=>qx) (fun _ _ _ _ _ _=>(qe GPrs hr rfl gPrs.m gPrs.k gPrs.b .nil pass0 (qa (pv 1) (qa (pv 0) qb))))))),?_⟩
  have el:(ls.map V.ref).length=T.length:=by rw [List.length_map,hT.len]
  refine ⟨_,rfl,l,rfl,⟨_,SqL.of hT.top⟩,je (τ0:=[none,some (V.ref a)]) (sure_list (xs:=ls.map V.ref)) (by rw [el];omega)
   (fun j zs τ H6=>Same H H6/\(∃ v,τ=[v,some (.ref a)])/\zs=((T.take j).map fun r=>dot xs r).map V.int) ⟨Same.refl _,⟨_,rfl⟩,rfl⟩ ?_ ?_ ?_⟩
  ·rintro j zs τ H6 hj ⟨s6,_,rfl⟩
   refine ⟨SqL.of (s6 _ _ hT.top),?_⟩
   rw [List.length_map,List.length_map,List.length_take]
   omega
  ·rintro j x zs τ H6 hx2 ⟨s6,⟨v,rfl⟩,rfl⟩
   rw [List.getElem?_map] at hx2
   cases c1:ls[j]? with
   | none=>rw [c1] at hx2;cases hx2
   | some b =>
    rw [c1] at hx2
    cases hx2
    obtain ⟨r,c2,hb⟩:=hT.get' c1
    refine ⟨_,rfl,_,rfl,a,b,xs,r,e1,e2,rfl,s6 _ _ ha,s6 _ _ hb,h8,b1,b2 r (List.mem_of_getElem? c2),l1,l2,fun H7 s7=>⟨s6.trans s7,⟨_,rfl⟩,?_⟩⟩
    rw [q0 (fun r=>dot xs r) c2,List.map_append]
    rfl
  ·rintro zs τ H6 Dn ⟨s6,_,rfl⟩ hDn
   refine k Dn _ (s6.trans (Same.add hDn)) (s6.free hDn) ?_
   rw [upd_same,el,take_all]
end
end Lw
namespace Lw
open PySem L2
section
variable {P:Program} {w:World} {K:W.Frag} {mg:Str->Option Value} {base:Heap}
def spNag:Sp:=fun vs H Q _=>∃ n:Nat,vs=[.int (n:Int)]/\n<=300/\Q .non H
theorem scNag:FnScope ["age"] ["age"] (defScope sNag):=⟨rfl,rfl,rfl,by decide +kernel,rfl,by decide +kernel,by decide +kernel⟩
theorem qiu {f fWin:Addr} {fd fdWin:FuncData} (F:Fun K "need_age" "need_age" sNag f fd)
  (GWin:FnOk P w K mg base CX0 2 fWin fdWin ["thing","least","most"] (spWin K))
  (gWin:Gf K mg "is_within" fWin fdWin ["thing","least","most"])
  {tkLAST_AGE:Tok} (hLAST_AGE:mg "LAST_AGE" = some (.int 300 tkLAST_AGE))
  : FnOk P w K mg base CX0 3 f fd ["age"] spNag:=by
 refine F.ok scNag (fun vs H Q E h=>?_) (fun cdv A outer s H vs Q E hr h=>?_)
 ·obtain ⟨n,rfl,_⟩:=h
  rfl
 ·obtain ⟨n,rfl,hn,k⟩:=h
  refine ⟨_,(qf (jd (jw (j0 (qe GWin hr rfl gWin.m gWin.k gWin.b .nil pass0 (qa (pv 0) (qa qd (qa (jk (v:=.int 300) (by rfl) hLAST_AGE ⟨_,rfl⟩) qb)))))) j7 qm)),?_⟩
  exact ⟨_,rfl,.int (n:Int),0,300,rfl,.inl ⟨_,rfl,by omega,by omega,_,rfl,iteF k⟩⟩
def spFcs:Sp:=fun vs H Q _=>∃ (t:Addr) (first:List Nat) (rs:List Rule) (m:Nat),vs=[.ref t,.int (m:Int)]/\BookAt H t first rs/\Good first rs/\m<=700 /\
 ∀ d ms H',Same H H'->H d=none->(∀ x∈ms,H x=none)->TabV H' d ms ((List.range m).map (cntN rs.length (tabI rs) (c0 rs first)))->Q (.ref d) H'
theorem scFcs:FnScope ["book","many","sources","told"] ["book","many"] (defScope sFcs):=⟨rfl,rfl,rfl,by decide +kernel,rfl,by decide +kernel,by decide +kernel⟩
theorem qiv {f fCls fTab fTal fOao:Addr} {fd fdCls fdTab fdTal fdOao:FuncData} (F:Fun K "first_counts" "first_counts" sFcs f fd)
  (GCls:FnOk P w K mg base CX0 2 fCls fdCls ["lines"] spCls)
  (gCls:Gf K mg "columns" fCls fdCls ["lines"])
  (GTab:FnOk P w K mg base CX0 4 fTab fdTab ["book"] spTab)
  (gTab:Gf K mg "table" fTab fdTab ["book"])
  (GTal:FnOk P w K mg base CX0 3 fTal fdTal ["book","text"] spTal)
  (gTal:Gf K mg "tally" fTal fdTal ["book","text"])
  (GOao:FnOk P w K mg base CX0 2 fOao fdOao ["line","sources"] spOao)
  (gOao:Gf K mg "one_age_on" fOao fdOao ["line","sources"])
  (hlen:mg "len" = none)
  : FnOk P w K mg base CX0 5 f fd ["book","many"] spFcs:=by
 refine F.ok scFcs (fun vs H Q E h=>?_) (fun cdv A outer s H vs Q E hr h=>?_)
 ·obtain ⟨t,first,rs,m,rfl,_⟩:=h
  rfl
 ·obtain ⟨t,first,rs,m,rfl,hB,hG,hm,k⟩:=h
  have hr2:Room 2 _:=hr.mono (by decide)
  have hr3:Room 3 _:=hr.mono (by decide)
  refine ⟨_,(qc (ql (i:=2) scFcs.nd rfl (Or.inl rfl) (qe GCls hr2 rfl gCls.m gCls.k gCls.b .nil pass0 (qa (qe GTab hr rfl gTab.m gTab.k gTab.b .nil pass0 (qa (pv 0) qb)) qb)))
   (qc (ql (i:=3) scFcs.nd rfl (Or.inl rfl) (j9 (qa (qe GTal hr3 rfl gTal.m gTal.k gTal.b .nil pass0 (qa (pv 0) (qa (pe_ix (qq K) (pv 0) qd (fun _ _=>rfl)) qb))) qb)))
   (qc (Yr PassesOwn.never (qr qbt (qi (jx K) (by rfl) hlen PySem.boot_len (qa (pv 3) qb)) (pv 1) (nomark _)) (qf (jo (Jt K PySem.F.plainAttrs_list PySem.F.slot_list_append PySem.F.type_list_append zb (pv 3) (qa (qe GOao hr2 rfl gOao.m gOao.k gOao.b .nil pass0 (qa (pe_ix (jc K) (pv 3) (V1 yd qd) (fun _ _=>rfl)) (qa (pv 2) qb))) qb)))))
   (qf (qh (vc (Vg K) (pv 3) vq (po_some (pv 1)))))))),?_⟩
  have hfew:=hG.few
  have kl:=qad rs first
  have cb:=qc2 hG.few (qfn fun r hr=>qc3 hG hr) kl (c0_bd hG)
  obtain ⟨r,ps,b1,b2,b3⟩:=hB.ex
  refine ⟨_,rfl,t,first,rs,rfl,hB,hG.few,fun l0 ls0 H1 s1 hT=>?_⟩
  refine ⟨l0,ls0,tabI rs,rfl,hT.v,by rw [jn];omega,fun r hr=>by rw [qae hr,jn],fun D ms H2 s2 n2 hC=>?_⟩
  rw [jn] at hC
  have s02:=s1.trans s2
  refine ⟨_,rfl,_,rfl,t,_,_,_,rfl,rfl,SqT.of (s02 _ _ b1),atI_nat (j:=0) rfl,t,first,rs,first,rfl,hB.mono (TupS.same s02),hG.few,fun d0 H3 s3 n3 e3=>?_⟩
  rw [qgy] at e3
  refine ⟨(by show 1<=sizeLine;decide),fun l hl=>?_⟩
  have nd0:d0≠l:=ne_of_none e3 hl
  have s23:Same H2 (upd H3 l (.lst [V.ref d0])):=s3.trans (Same.add hl)
  have nl:H2 l=none:=s3.free hl
  refine ⟨fun q σ H5=>∃ (j:Nat) (ls:List Addr),σ=[some (.ref t),some (.int (m:Int)),some (.ref D),some (.ref l)]/\q=m - (j+1)/\(j+1<=m\/j=0)/\Same H2 H5/\l ∉ ls/\(∀ x∈ls,H x=none)/\TabV H5 l ls ((List.range (j+1)).map (cntN rs.length (tabI rs) (c0 rs first))),
   ⟨_,0,[d0],rfl,rfl,.inr rfl,s23,(by simp;exact fun z=>nd0 z.symm),(fun x hx=>(List.mem_singleton.mp hx).symm ▸ s02.free n3),⟨upd_same,rfl,fun i a v e1 e2=>?_⟩⟩,?_⟩
  ·cases i with
   | succ i=>simp at e1
   | zero =>
    cases e1
    cases e2
    exact q9 e3 nd0
  ·rintro q σ H5 ⟨j,ls,rfl,rfl,hj,s5,hlo,hfr,hTl⟩
   have ln:(ls.map V.ref).length=j+1:=by rw [List.length_map,hTl.len,List.length_map,List.length_range]
   refine ⟨_,rfl,l,_,rfl,.inl (SqL.of hTl.top),_,rfl,_,_,rfl,rfl,_,rfl,?_⟩
   refine ite2 (fun hc=>?_) (fun hc=>?_)
   ·have hlt:j+1 < m:=by
     have:=of_decide_eq_true hc
     rw [ln] at this
     omega
    refine ⟨fun σ' H'=>∃ ls':List Addr,σ'=[some (.ref t),some (.int (m:Int)),some (.ref D),some (.ref l)]/\Same H2 H'/\l ∉ ls'/\(∀ x∈ls',H x=none)/\TabV H' l ls' ((List.range (j+1+1)).map (cntN rs.length (tabI rs) (c0 rs first))),
     fun σ' H' ⟨ls',e,a1,a2,a3,a4⟩=>⟨m - (j+1+1),by omega,j+1,ls',e,rfl,.inl (by omega),a1,a2,a3,a4⟩,?_⟩
    obtain ⟨a,ha,hv⟩:=hTl.get (i:=j) (v:=cntN rs.length (tabI rs) (c0 rs first) j) (by rw [List.getElem?_map,List.getElem?_range (by omega)];rfl)
    refine ⟨_,rfl,.inl ⟨rfl,_,SqL.of hTl.top⟩,_,rfl,_,rfl,l,_,_,_,rfl,rfl,SqL.of hTl.top,atI_last ln (by rw [List.getElem?_map,ha];rfl),_,rfl,?_⟩
    refine ⟨a,D,ms,_,_,4+6 * j,3,rfl,hv,hC.mono s5,by rw [yi kl];omega,by rw [List.length_map,List.length_range];omega,(cb j).z,fun r hr=>?_,by omega,by omega,fun d H6 s6 n6 e6=>?_⟩
    ·obtain ⟨i,_,rfl⟩:=List.mem_map.mp hr
     exact (qfn (fun r hr=>qc3 hG hr) i).bd.z
    ·have hl6:=s6 _ _ hTl.top
     have ndl:d≠l:=(ne_of_none hTl.top n6).symm
     refine ⟨l,_,_,rfl,rfl,hl6,small1000 (by rw [ln];omega),ls++[d],rfl,fun c o hc=>?_,?_,?_,?_⟩
     ·exact q9 (s6 _ _ (s5 _ _ hc)) (ne_of_none hc nl)
     ·intro z
      rcases List.mem_append.mp z with z | z
      ·exact hlo z
      ·have z':l=d:=by simpa using z
       exact ndl z'.symm
     ·intro x hx
      rcases List.mem_append.mp hx with z | z
      ·exact hfr x z
      ·have z':x=d:=by simpa using z
       rw [z'];exact s02.free (s5.free n6)
     ·rw [List.range_succ,List.map_append]
      refine hTl.snoc (fun a ha o ho=>q9 (s6 _ _ ho) fun z=>hlo (by rw [<- z];exact ha)) upd_same ?_
      rw [qg ndl,e6,qc7]
      rfl
   ·have hge:m<=j+1:=by
     have h2:¬ ((j+1:Nat):Int) < (m:Int):=fun z=>hc (decide_eq_true (by rw [ln];exact z))
     omega
    refine ⟨_,rfl,_,rfl,_,rfl,l,_,rfl,SqL.of hTl.top,fun p hp=>?_⟩
    rw [qes]
    refine k p (ls.take m) _ (s02.trans (s5.trans (Same.add hp))) (s02.free (s5.free hp)) (fun x hx=>hfr x (List.mem_of_mem_take hx)) ?_
    have:=TabV.take (H':=upd H5 p (.lst ((ls.map V.ref).take m))) m hTl (Same.add hp) upd_same
    rw [<- List.map_take (l:=List.range (j+1)),List.take_range,Nat.min_eq_left hge] at this
    exact this
def spCou:Sp:=fun vs H Q _=>∃ (t:Addr) (first:List Nat) (rs:List Rule) (n:Nat),vs=[.ref t,.int (n:Int)]/\BookAt H t first rs/\Good first rs/\n<=300 /\
 ∀ d H',Same H H'->H d=none->H' d=some (.lst ((cntN rs.length (tabI rs) (c0 rs first) n).map V.int))->Q (.ref d) H'
theorem scCou:FnScope ["book","age"] ["book","age"] (defScope sCou):=⟨rfl,rfl,rfl,by decide +kernel,rfl,by decide +kernel,by decide +kernel⟩
theorem qiw {f fNag fFcs:Addr} {fd fdNag fdFcs:FuncData} (F:Fun K "counts" "counts" sCou f fd)
  (GNag:FnOk P w K mg base CX0 3 fNag fdNag ["age"] spNag)
  (gNag:Gf K mg "need_age" fNag fdNag ["age"])
  (GFcs:FnOk P w K mg base CX0 5 fFcs fdFcs ["book","many"] spFcs)
  (gFcs:Gf K mg "first_counts" fFcs fdFcs ["book","many"])
  : FnOk P w K mg base CX0 6 f fd ["book","age"] spCou:=by
 refine F.ok scCou (fun vs H Q E h=>?_) (fun cdv A outer s H vs Q E hr h=>?_)
 ·obtain ⟨t,first,rs,n,rfl,_⟩:=h
  rfl
 ·obtain ⟨t,first,rs,n,rfl,hB,hG,hn,k⟩:=h
  have hr3:Room 3 _:=hr.mono (by decide)
  refine ⟨_,(qc (jo (qe GNag hr3 rfl gNag.m gNag.k gNag.b .nil pass0 (qa (pv 1) qb)))
   (qf (qh (pe_ix (jc K) (qe GFcs hr rfl gFcs.m gFcs.k gFcs.b .nil pass0 (qa (pv 0) (qa (qp jr (pv 1) qd) qb))) (pv 1) (fun _ _=>rfl))))),?_⟩
  refine ⟨_,rfl,n,rfl,hn,?_⟩
  refine ⟨_,rfl,_,rfl,_,_,rfl,rfl,t,first,rs,n+1,by push_cast;rfl,hB,hG,by omega,fun d ms H' s' n' hfr hT=>?_⟩
  obtain ⟨a,e1,e2⟩:=hT.get (i:=n) (v:=cntN rs.length (tabI rs) (c0 rs first) n) (by rw [List.getElem?_map,List.getElem?_range (by omega)];rfl)
  refine ⟨_,rfl,d,_,_,_,rfl,rfl,SqL.of hT.top,atI_nat (by rw [List.getElem?_map,e1];rfl),k a H' s' (hfr a (List.mem_of_getElem? e1)) e2⟩
def spLng:Sp:=fun vs H Q _=>∃ (t:Addr) (first:List Nat) (rs:List Rule) (n:Nat),vs=[.ref t,.int (n:Int)]/\BookAt H t first rs/\Good first rs/\n<=300 /\
 ∀ H',Same H H'->Q (.int (cntN rs.length (tabI rs) (c0 rs first) n).sum) H'
theorem scLng:FnScope ["book","age"] ["book","age"] (defScope sLng):=⟨rfl,rfl,rfl,by decide +kernel,rfl,by decide +kernel,by decide +kernel⟩
theorem qix {f fCou:Addr} {fd fdCou:FuncData} (F:Fun K "length" "length" sLng f fd)
  (GCou:FnOk P w K mg base CX0 6 fCou fdCou ["book","age"] spCou)
  (gCou:Gf K mg "counts" fCou fdCou ["book","age"])
  (hsum:mg "sum" = none)
  : FnOk P w K mg base CX0 7 f fd ["book","age"] spLng:=by
 refine F.ok scLng (fun vs H Q E h=>?_) (fun cdv A outer s H vs Q E hr h=>?_)
 ·obtain ⟨t,first,rs,n,rfl,_⟩:=h
  rfl
 ·obtain ⟨t,first,rs,n,rfl,hB,hG,hn,k⟩:=h
  refine ⟨_,(qf (qh (qi (zq K rfl) (by rfl) hsum (by first | exact PySem.boot_sum | decide +kernel) (qa (qe GCou hr rfl gCou.m gCou.k gCou.b .nil pass0 (qa (pv 0) (qa (pv 1) qb))) qb)))),?_⟩
  exact ⟨_,rfl,_,rfl,t,first,rs,n,rfl,hB,hG,hn,fun d H' s' _ e=>⟨d,_,rfl,SqL.of e,k H' s'⟩⟩
abbrev DictI (H:Hp) (d:Addr) (rs:List Rule) (ns:List Int):Prop:=H d=some (.dK (dkI (ltr rs) ns))
def spTsm:Sp:=fun vs H Q _=>∃ (d:Addr) (rs:List Rule) (ns:List Int) (x:List Nat),vs=[tx x,.ref d]/\DictI H d rs ns/\ns.length=rs.length/\x.length<=1000/\(∀ c∈x,c∈ltr rs)/\∀ H',Same H H'->Q (.int (x.map (lk (ltr rs) ns)).sum) H'
theorem scTsm:FnScope ["text","worths"] ["text","worths"] (defScope sTsm):=⟨rfl,rfl,rfl,by decide +kernel,rfl,by decide +kernel,by decide +kernel⟩
theorem qg2:(["letter","worths"]:List Str).Nodup:=by decide +kernel
theorem qiy {f:Addr} {fd:FuncData} (F:Fun K "text_sum" "text_sum" sTsm f fd)
  (hsum:mg "sum" = none)
  : FnOk P w K mg base CX0 1 f fd ["text","worths"] spTsm:=by
 refine F.ok scTsm (fun vs H Q E h=>?_) (fun cdv A outer s H vs Q E hr h=>?_)
 ·obtain ⟨d,rs,ns,x,rfl,_⟩:=h
  rfl
 ·obtain ⟨d,rs,ns,x,rfl,hD,hl,hx,hin,k⟩:=h
  have hu:=Vb hr
  refine ⟨_,(qf (qh (qi (zq K rfl) (by rfl) hsum (by first | exact PySem.boot_sum | decide +kernel) (qa (qz (N':=["letter","worths"]) (ix:=[none,some 1]) rfl rfl (yv (pv 0)) (fun _ _ _ _ _ _=>(qj (i:=0) qg2 rfl (Or.inl rfl))) (fun _ _ _ _ _ _=>qx) (fun _ _ _ _ _ _=>(j6 hu (pv 1) (pv 0) (fun _ _=>rfl)))) qb)))),?_⟩
  have ll:ns.length=(ltr rs).length:=by rw [hl];unfold ltr;rw [List.length_map]
  refine ⟨_,rfl,⟨x.toArray⟩,rfl,?_⟩
  refine jq (Q:=fun y Ha=>rSum K [y] Ha Q) (τ0:=[none,some (.ref d)]) sure_str (by rw [List.length_map];show x.length<=_;omega)
   (fun i ys τ H2=>H2=H/\(∃ v,τ=[v,some (.ref d)])/\ys=((x.take i).map (lk (ltr rs) ns)).map V.int) ⟨rfl,⟨_,rfl⟩,rfl⟩ ?_ ?_ ?_
  ·rintro i ys τ H2 hi ⟨rfl,_,rfl⟩
   refine ⟨trivial,?_⟩
   rw [List.length_map,List.length_map,List.length_take]
   omega
  ·rintro i y ys τ H2 hy ⟨rfl,⟨v,rfl⟩,rfl⟩
   have hy':(x.map sign)[i]? = some y:=hy
   rw [List.getElem?_map] at hy'
   cases e:x[i]? with
   | none=>rw [e] at hy';cases hy'
   | some c =>
    rw [e] at hy'
    cases hy'
    have hg:=DGet.k (k:=(Sum.inr (one c):Key)) hD
    rw [Vr ll (hin c (List.mem_of_getElem? e))] at hg
    refine ⟨_,rfl,_,rfl,d,_,rfl,hg,rfl,⟨_,rfl⟩,?_⟩
    rw [q0 (lk (ltr rs) ns) e,List.map_append]
    rfl
  ·rintro ys τ H2 D ⟨rfl,_,rfl⟩ hD2
   have ew:((⟨x.toArray⟩:Str).cps.toList.map sign).length=x.length:=by simp
   rw [ew,take_all]
   exact ⟨D,_,rfl,SqL.of upd_same,k _ (Same.add hD2)⟩
end
end Lw
namespace Lw
open PySem L2 PyProof.Rows
abbrev bmV:List Value:=[.type "ValueError",.type "Exception",.type "BaseException",.type "object"]
structure ClsK (K:W.Frag) (C:Addr):Prop where
 cls:(W.clsIn K C).isSome=true
 nt:W.instIn K (.ref C) (.type "tuple")=some false
 bexc:W.mroIn K C (.type "BaseException")=some true
 ty:W.typeIn K (.ref C)=some (.type "type")
theorem qex (c:Nat):(!(Builtin.Str.occurrences (Str.ofString "abcdefghijklmnopqrstuvwxyz") (one c) 0 (Str.ofString "abcdefghijklmnopqrstuvwxyz").length 1).isEmpty)=decide (97<=c/\c<=122):=by
 refine (PySem.StrLaws.found_one _ c).trans ?_
 have e:(Str.ofString "abcdefghijklmnopqrstuvwxyz").cps.toList=List.range' 97 26:=by decide +kernel
 rw [e]
 refine decide_eq_decide.mpr ?_
 rw [List.mem_range'_1]
 exact and_congr_right fun _=>Nat.lt_succ_iff
theorem qao (c:Nat):∀ L:List Nat,inV (sign c) (L.map sign)=decide (c∈L)
 | []=>rfl
 | a :: L=>by
  have ih:=qao c L
  unfold inV at ih ⊢
  rw [List.map_cons,List.any_cons,ih]
  have e:eqV (sign a) (sign c)=decide (a=c):=by
   show ((⟨#[a]⟩:Str) == ⟨#[c]⟩)=_
   by_cases h:a=c
   ·subst h
    rw [decide_eq_true rfl]
    exact beq_self_eq_true _
   ·rw [decide_eq_false h]
    refine beq_eq_false_iff_ne.mpr fun z=>h ?_
    exact vh z
  rw [e]
  by_cases h1:a=c
  ·subst h1
   simp
  ·have h3:¬ c=a:=fun z=>h1 z.symm
   simp [h1,h3]
structure Fine (first:List Nat) (us:List Rule):Prop where
 few:us.length<=8
 nd:(ltr us).Nodup
 abc:∀ q∈us,97<=q.1/\q.1<=122
 wl:∀ q∈us,q.2.length<=6
 win:∀ q∈us,∀ c∈q.2,c∈ltr us
 fl:first.length<=12
 fin:∀ c∈first,c∈ltr us
theorem Fine.of {first:List Nat} {us rs:List Rule} (p:us.Perm rs) (g:Good first rs):Fine first us:=by
 have pl:(ltr us).Perm (ltr rs):=p.map _
 exact ⟨by rw [p.length_eq];exact g.few,pl.nodup_iff.mpr g.nd,fun q h=>g.abc q (p.mem_iff.mp h),fun q h=>g.wl q (p.mem_iff.mp h),fun q h c hc=>pl.mem_iff.mpr (g.win q (p.mem_iff.mp h) c hc),g.fl,fun c hc=>pl.mem_iff.mpr (g.fin c hc)⟩
inductive Th where
 | txt (x:List Nat)
 | odd
def NoStr (K:W.Frag) (H:Hp) (z:V):Prop:=∃ t,TyOf K H z (.type t)/\(t = "bool"\/t = "NoneType"\/t = "int"\/t = "list"\/t = "tuple"\/t = "dict")
def ThAt (K:W.Frag) (H:Hp) (z:V):Th->Prop
 | .txt x=>z=tx x/\x.length<=1000
 | .odd=>NoStr K H z
inductive Ru where
 | pair (a b:Th)
 | odd
def NoTup (K:W.Frag) (H:Hp) (z:V):Prop:=∃ t,TyOf K H z (.type t)/\(t = "bool"\/t = "NoneType"\/t = "int"\/t = "list"\/t = "str"\/t = "dict")
def NoT2 (K:W.Frag) (H:Hp) (z:V):Prop:=NoTup K H z\/∃ a xs,z=.ref a/\H a=some (.tup xs)/\xs.length≠2
def RuAt (K:W.Frag) (H:Hp) (z:V):Ru->Prop
 | .pair t0 t1=>∃ a v0 v1,z=.ref a/\H a=some (.tup [v0,v1])/\ThAt K H v0 t0/\ThAt K H v1 t1
 | .odd=>NoT2 K H z
def RusAt (K:W.Frag) (H:Hp) (vs:List V) (rus:List Ru):Prop:=vs.length=rus.length/\∀ (i:Nat) (v:V) (ru:Ru),vs[i]? = some v->rus[i]? = some ru->RuAt K H v ru
inductive Rs where
 | seq (rus:List Ru)
 | odd
def NoSeq (K:W.Frag) (H:Hp) (z:V):Prop:=∃ t,TyOf K H z (.type t)/\(t = "bool"\/t = "NoneType"\/t = "int"\/t = "str"\/t = "dict")
def mkS (b:Bool) (xs:List V):HO:=if b=true then .tup xs else .lst xs
def RsAt (K:W.Frag) (H:Hp) (z:V):Rs->Prop
 | .seq rus=>∃ a b vs,z=.ref a/\H a=some (mkS b vs)/\RusAt K H vs rus
 | .odd=>NoSeq K H z
def hlT:Th->Bool
 | .txt [c]=>decide (97<=c/\c<=122)
 | _=>false
def hlB:Ru->Bool
 | .pair t _=>hlT t
 | .odd=>false
def rlL:Ru->Nat
 | .pair (.txt [c]) _=>c
 | _=>0
def rlW:Ru->Th
 | .pair _ t=>t
 | .odd=>.odd
def itB:Th->List Nat->Nat->Bool
 | .txt x,cs,m=>decide (x.length<=m) && x.all fun c=>decide (c∈cs)
 | .odd,_,_=>false
def mrB:Rs->Bool
 | .seq rus=>decide (rus.length<=8) && rus.all hlB && decide ((rus.map rlL).Nodup) && rus.all fun r=>itB (rlW r) (rus.map rlL) 6
 | .odd=>false
def mbB (th:Th):Rs->Bool
 | .seq rus=>mrB (.seq rus) && itB th (rus.map rlL) 12
 | .odd=>false
theorem tyK {K:W.Frag} {H H':Hp} {z:V} {t:String} (h:TyOf K H z (.type t)) (s:Same H H'):TyOf K H' z (.type t):=by
 cases h with
 | non=>exact .non
 | bl x=>exact .bl x
 | int i=>exact .int i
 | str x=>exact .str x
 | flt x=>exact .flt x
 | lst e=>exact .lst (s _ _ e)
 | frz e=>exact .frz (s _ _ e)
 | tup e=>exact .tup (s _ _ e)
 | dK e=>exact .dK (s _ _ e)
 | dT e=>exact .dT (s _ _ e)
theorem ThAt.keep {K:W.Frag} {H H':Hp} {z:V} {th:Th} (h:ThAt K H z th) (s:Same H H'):ThAt K H' z th:=by
 cases th with
 | txt x=>exact h
 | odd=>obtain ⟨t,h,ht⟩:=h;exact ⟨t,tyK h s,ht⟩
theorem NoT2.keep {K:W.Frag} {H H':Hp} {z:V} (h:NoT2 K H z) (s:Same H H'):NoT2 K H' z:=by
 rcases h with ⟨t,h,ht⟩ | ⟨a,xs,e,h,hl⟩
 ·exact .inl ⟨t,tyK h s,ht⟩
 ·exact .inr ⟨a,xs,e,s _ _ h,hl⟩
theorem RuAt.keep {K:W.Frag} {H H':Hp} {z:V} {ru:Ru} (h:RuAt K H z ru) (s:Same H H'):RuAt K H' z ru:=by
 cases ru with
 | pair t0 t1=>obtain ⟨a,v0,v1,e,h,h0,h1⟩:=h;exact ⟨a,v0,v1,e,s _ _ h,h0.keep s,h1.keep s⟩
 | odd=>exact NoT2.keep h s
theorem RusAt.keep {K:W.Frag} {H H':Hp} {vs:List V} {rus:List Ru} (h:RusAt K H vs rus) (s:Same H H'):RusAt K H' vs rus:=⟨h.1,fun i v ru e1 e2=>(h.2 i v ru e1 e2).keep s⟩
theorem RsAt.keep {K:W.Frag} {H H':Hp} {z:V} {r:Rs} (h:RsAt K H z r) (s:Same H H'):RsAt K H' z r:=by
 cases r with
 | seq rus=>obtain ⟨a,b,vs,e,h1,h2⟩:=h;exact ⟨a,b,vs,e,s _ _ h1,h2.keep s⟩
 | odd=>obtain ⟨t,ty,ht⟩:=h;exact ⟨t,tyK ty s,ht⟩
theorem mk_sqA {K:W.Frag} {H:Hp} {a:Addr} {b:Bool} {vs:List V} (h:H a=some (mkS b vs)):SqA K H a vs b:=by
 cases b with
 | true=>exact SqT.of h
 | false=>exact SqL.of h
theorem qiz {K:W.Frag} {H:Hp} {a:Addr} {b:Bool} {vs:List V} (h:H a=some (mkS b vs)):SqL K H a vs\/SqT K H a vs:=by
 cases b with
 | true=>exact .inr (SqT.of h)
 | false=>exact .inl (SqL.of h)
theorem qi0 {K:W.Frag} {H:Hp} {a:Addr} {b:Bool} {vs:List V} (h:H a=some (mkS b vs)):∃ t,TyOf K H (.ref a) t/\W.kitAny K t (["list","tuple"].map Value.type)=some true:=by
 cases b with
 | true=>exact ⟨_,TyOf.tup h,by rfl⟩
 | false=>exact ⟨_,TyOf.lst h,by rfl⟩
section
variable {P:Program} {w:World} {K:W.Frag} {mg:Str->Option Value} {base:Heap} {cNoBook:Addr}
def spItp (K:W.Frag):Sp:=fun vs H Q _=>∃ z:V,vs=[z,.int 2]/\((∃ (a:Addr) (x y:V),z=.ref a/\H a=some (.tup [x,y])/\Q (.bl true) H)\/(NoT2 K H z/\Q (.bl false) H))
theorem scItp:FnScope ["thing","many"] ["thing","many"] (defScope sItp):=⟨rfl,rfl,rfl,by decide +kernel,rfl,by decide +kernel,by decide +kernel⟩
theorem qi1 {f:Addr} {fd:FuncData} (F:Fun K "is_tuple_of" "is_tuple_of" sItp f fd)
  (hlen:mg "len" = none)
  (htuple:mg "tuple" = none)
  (hisinstance:mg "isinstance" = none)
  : FnOk P w K mg base CX0 1 f fd ["thing","many"] (spItp K):=by
 refine F.ok scItp (fun vs H Q E h=>?_) (fun cdv A outer s H vs Q E hr h=>?_)
 ·obtain ⟨z,rfl,_⟩:=h
  rfl
 ·obtain ⟨z,rfl,k⟩:=h
  refine ⟨_,(qf (qh (vx (qi (jt K) (by rfl) hisinstance (show bootBuiltins "isinstance" = some (.builtin "isinstance") by decide +kernel) (qa (pv 0) (qa (vp (v:=.ty "tuple") (by rfl) htuple (show bootBuiltins "tuple" = some (.type "tuple") by decide +kernel) rfl) qb))) (yl (j5 V2 (qi (jx K) (by rfl) hlen PySem.boot_len (qa (pv 0) qb)) (pv 1) (nomark _)))))),?_⟩
  rcases k with ⟨a,x,y,rfl,ha,k⟩ | ⟨⟨t,ty,ht⟩ | ⟨a,xs,rfl,ha,hl⟩,k⟩
  ·refine ⟨_,rfl,_,_,_,true,rfl,TyOf.tup ha,(by rfl),_,rfl,iteT ?_⟩
   exact ⟨_,rfl,a,_,rfl,.inr (SqT.of ha),_,rfl,rfl,k⟩
  ·rcases ht with rfl | rfl | rfl | rfl | rfl | rfl <;> exact ⟨_,rfl,_,_,_,false,rfl,ty,(by rfl),_,rfl,iteF k⟩
  ·refine ⟨_,rfl,_,_,_,true,rfl,TyOf.tup ha,(by rfl),_,rfl,iteT ?_⟩
   refine ⟨_,rfl,a,xs,rfl,.inr (SqT.of ha),_,rfl,rfl,?_⟩
   show Q (V.bl (decide (V.int ((xs.length:Nat):Int)=V.int 2))) H
   rw [decide_eq_false (fun z=>hl (by injection z with z;omega))]
   exact k
def spIsl (K:W.Frag):Sp:=fun vs H Q _=>∃ (z:V) (th:Th),vs=[z]/\ThAt K H z th/\Q (.bl (hlT th)) H
theorem scIsl:FnScope ["thing"] ["thing"] (defScope sIsl):=⟨rfl,rfl,rfl,by decide +kernel,rfl,by decide +kernel,by decide +kernel⟩
theorem qi2 {f:Addr} {fd:FuncData} (F:Fun K "is_letter" "is_letter" sIsl f fd)
  (hlen:mg "len" = none)
  (hisinstance:mg "isinstance" = none)
  (hstr:mg "str" = none)
  {tkSMALL_LETTERS:Tok} (hSMALL_LETTERS:mg "SMALL_LETTERS" = some (.str "abcdefghijklmnopqrstuvwxyz" tkSMALL_LETTERS))
  : FnOk P w K mg base CX0 1 f fd ["thing"] (spIsl K):=by
 refine F.ok scIsl (fun vs H Q E h=>?_) (fun cdv A outer s H vs Q E hr h=>?_)
 ·obtain ⟨z,th,rfl,_⟩:=h
  rfl
 ·obtain ⟨z,th,rfl,hz,k⟩:=h
  refine ⟨_,(qf (qh (vx (qi (jt K) (by rfl) hisinstance (show bootBuiltins "isinstance" = some (.builtin "isinstance") by decide +kernel) (qa (pv 0) (qa (vp (v:=.ty "str") (by rfl) hstr (show bootBuiltins "str" = some (.type "str") by decide +kernel) rfl) qb))) (vx (j5 V2 (qi vg (by rfl) hlen PySem.boot_len (qa (pv 0) qb)) qd (nomark _)) (yl (j5 qbu (pv 0) (jk (v:=.str "abcdefghijklmnopqrstuvwxyz") (by rfl) hSMALL_LETTERS ⟨_,rfl⟩) (by rfl))))))),?_⟩
  cases th with
  | txt x =>
   obtain ⟨rfl,hx⟩:=hz
   refine ⟨_,rfl,_,_,_,true,rfl,TyOf.str _,(by rfl),_,rfl,iteT ?_⟩
   refine ⟨_,rfl,⟨x.toArray⟩,rfl,Nat.le_of_lt (small1000 (by show x.length<=1000;omega)),rfl,_,rfl,?_⟩
   refine ite2 (fun hc=>?_) (fun hc=>?_)
   ·have h1:V.int ((x.length:Nat):Int)=V.int 1:=of_decide_eq_true hc
    have h2:((x.length:Nat):Int)=1:=by injection h1
    match x,h2,k with
    | [c],_,k =>
     refine ⟨_,rfl,one c,_,rfl,rfl,?_⟩
     rw [qex]
     exact k
   ·have h2:¬ x.length=1:=fun z=>hc (decide_eq_true (show V.int ((x.length:Nat):Int)=V.int 1 by rw [z];rfl))
    match x,h2,k with
    | [],_,k=>exact k
    | [_],h2,_=>exact absurd rfl h2
    | _ :: _ :: _,_,k=>exact k
  | odd =>
   obtain ⟨t,ty,ht⟩:=hz
   rcases ht with rfl | rfl | rfl | rfl | rfl | rfl <;> exact ⟨_,rfl,_,_,_,false,rfl,ty,(by rfl),_,rfl,iteF k⟩
def spItx (K:W.Frag):Sp:=fun vs H Q _=>∃ (z:V) (th:Th) (cs:List Nat) (l:Addr) (m:Nat),vs=[z,.ref l,.int (m:Int)]/\ThAt K H z th/\H l=some (.lst (cs.map sign))/\m<=12/\cs.length<=8/\∀ H',Same H H'->Q (.bl (itB th cs m)) H'
theorem scItx:FnScope ["thing","signs","most"] ["thing","signs","most"] (defScope sItx):=⟨rfl,rfl,rfl,by decide +kernel,rfl,by decide +kernel,by decide +kernel⟩
theorem qg3:(["sign","signs"]:List Str).Nodup:=by decide +kernel
theorem qi3 {f:Addr} {fd:FuncData} (F:Fun K "is_text_of" "is_text_of" sItx f fd)
  (hlen:mg "len" = none)
  (hisinstance:mg "isinstance" = none)
  (hstr:mg "str" = none)
  (hall:mg "all" = none)
  : FnOk P w K mg base CX0 1 f fd ["thing","signs","most"] (spItx K):=by
 refine F.ok scItx (fun vs H Q E h=>?_) (fun cdv A outer s H vs Q E hr h=>?_)
 ·obtain ⟨z,th,cs,l,m,rfl,_⟩:=h
  rfl
 ·obtain ⟨z,th,cs,l,m,rfl,hz,hl,hm2,h8,k⟩:=h
  refine ⟨_,(qf (qh (vx (qi (jt K) (by rfl) hisinstance (show bootBuiltins "isinstance" = some (.builtin "isinstance") by decide +kernel) (qa (pv 0) (qa (vp (v:=.ty "str") (by rfl) hstr (show bootBuiltins "str" = some (.type "str") by decide +kernel) rfl) qb))) (vx (j5 qdt (qi vg (by rfl) hlen PySem.boot_len (qa (pv 0) qb)) (pv 2) (nomark _)) (yl (qi (jy K rfl) (by rfl) hall (show bootBuiltins "all" = some (.builtin "all") by decide +kernel) (qa (qz (N':=["sign","signs"]) (ix:=[none,some 1]) rfl rfl (yv (pv 0)) (fun _ _ _ _ _ _=>(qj (i:=0) qg3 rfl (Or.inl rfl))) (fun _ _ _ _ _ _=>qx) (fun _ _ _ _ _ _=>(j5 (qa3 K) (pv 0) (pv 1) (by rfl)))) qb))))))),?_⟩
  cases th with
  | odd =>
   obtain ⟨t,ty,ht⟩:=hz
   have k:=k H (Same.refl _)
   rcases ht with rfl | rfl | rfl | rfl | rfl | rfl <;> exact ⟨_,rfl,_,_,_,false,rfl,ty,(by rfl),_,rfl,iteF k⟩
  | txt x =>
  obtain ⟨rfl,hx⟩:=hz
  have ee:itB (.txt x) cs m=(decide (x.length<=m) && x.all fun c=>decide (c∈cs)):=rfl
  rw [ee] at k
  refine ⟨_,rfl,_,_,_,true,rfl,TyOf.str _,(by rfl),_,rfl,iteT ?_⟩
  refine ⟨_,rfl,⟨x.toArray⟩,rfl,Nat.le_of_lt (small1000 (by show x.length<=1000;omega)),_,rfl,_,_,rfl,rfl,_,rfl,?_⟩
  refine ite2 (fun hc=>?_) (fun hc=>?_)
  ·have hm:x.length<=m:=by
    have h7:((x.length:Nat):Int)<=(m:Int):=of_decide_eq_true hc
    omega
   rw [decide_eq_true hm,Bool.true_and] at k
   refine ⟨_,rfl,⟨x.toArray⟩,rfl,?_⟩
   refine je (τ0:=[none,some (.ref l)]) (sure_str (x:=⟨x.toArray⟩)) (by rw [List.length_map];show x.length<=_;omega)
    (fun i ys τ H2=>H2=H/\(∃ v,τ=[v,some (.ref l)])/\ys=((x.take i).map fun c=>decide (c∈cs)).map V.bl) ⟨rfl,⟨_,rfl⟩,rfl⟩ ?_ ?_ ?_
   ·rintro i ys τ H2 hi ⟨rfl,_,rfl⟩
    refine ⟨trivial,?_⟩
    rw [List.length_map,List.length_map,List.length_take]
    omega
   ·rintro i y ys τ H2 hy ⟨rfl,⟨v,rfl⟩,rfl⟩
    have hy':(x.map sign)[i]? = some y:=hy
    rw [List.getElem?_map] at hy'
    cases e:x[i]? with
    | none=>rw [e] at hy';cases hy'
    | some c =>
     rw [e] at hy'
     cases hy'
     refine ⟨_,rfl,_,rfl,l,_,rfl,.inl (SqL.of hl),rfl,by rw [List.all_map];exact List.all_eq_true.mpr fun _ _=>rfl,rfl,⟨_,rfl⟩,?_⟩
     show _++[V.bl (inV (sign c) (cs.map sign))]=_
     rw [qao,q0 (fun c=>decide (c∈cs)) e,List.map_append]
     rfl
   ·rintro ys τ H2 D ⟨rfl,_,rfl⟩ hD
    have ew:((⟨x.toArray⟩:Str).cps.toList.map sign).length=x.length:=by simp
    rw [ew,take_all]
    refine ⟨D,_,rfl,SqL.of upd_same,?_⟩
    have k2:=k _ (Same.add (o:=.lst ((x.map fun c=>decide (c∈cs)).map V.bl)) hD)
    have e2:(x.map fun c=>decide (c∈cs)).all id=x.all fun c=>decide (c∈cs):=by rw [List.all_map];rfl
    rw [e2]
    exact k2
  ·have h6:¬ x.length<=m:=fun z=>hc (decide_eq_true (show ((x.length:Nat):Int)<=(m:Int) by omega))
   have k2:=k H (Same.refl _)
   rw [decide_eq_false h6,Bool.false_and] at k2
   exact k2
def spHla (K:W.Frag):Sp:=fun vs H Q _=>∃ (z:V) (ru:Ru),vs=[z]/\RuAt K H z ru/\Q (.bl (hlB ru)) H
theorem scHla:FnScope ["rule"] ["rule"] (defScope sHla):=⟨rfl,rfl,rfl,by decide +kernel,rfl,by decide +kernel,by decide +kernel⟩
theorem qi4 {f fItp fIsl:Addr} {fd fdItp fdIsl:FuncData} (F:Fun K "has_letter_ahead" "has_letter_ahead" sHla f fd)
  (GItp:FnOk P w K mg base CX0 1 fItp fdItp ["thing","many"] (spItp K))
  (gItp:Gf K mg "is_tuple_of" fItp fdItp ["thing","many"])
  (GIsl:FnOk P w K mg base CX0 1 fIsl fdIsl ["thing"] (spIsl K))
  (gIsl:Gf K mg "is_letter" fIsl fdIsl ["thing"])
  : FnOk P w K mg base CX0 2 f fd ["rule"] (spHla K):=by
 refine F.ok scHla (fun vs H Q E h=>?_) (fun cdv A outer s H vs Q E hr h=>?_)
 ·obtain ⟨z,ru,rfl,_⟩:=h
  rfl
 ·obtain ⟨z,ru,rfl,hz,k⟩:=h
  refine ⟨_,(qf (qh (vx (qe GItp hr rfl gItp.m gItp.k gItp.b .nil pass0 (qa (pv 0) (qa qd qb))) (yl (qe GIsl hr rfl gIsl.m gIsl.k gIsl.b .nil pass0 (qa (pe_ix (qq K) (pv 0) qd (fun _ _=>rfl)) qb)))))),?_⟩
  cases ru with
  | odd=>exact ⟨_,rfl,z,rfl,.inr ⟨hz,_,rfl,iteF k⟩⟩
  | pair t0 t1 =>
   obtain ⟨a,v0,v1,rfl,ha,h0,h1⟩:=hz
   exact ⟨_,rfl,_,rfl,.inl ⟨a,v0,v1,rfl,ha,_,rfl,iteT ⟨_,rfl,a,_,_,_,rfl,rfl,SqT.of ha,atI_nat (j:=0) rfl,v0,t0,rfl,h0,k⟩⟩⟩
theorem qdg {H:Hp} {z:V} {ru:Ru} (h:RuAt K H z ru) (hb:hlB ru=true):∃ a c v1 t1,z=.ref a/\ru=.pair (.txt [c]) t1/\H a=some (.tup [sign c,v1])/\ThAt K H v1 t1/\97<=c/\c<=122:=by
 cases ru with
 | odd=>exact absurd (show false=true from hb) Bool.false_ne_true
 | pair t0 t1 =>
  cases t0 with
  | odd=>exact absurd (show false=true from hb) Bool.false_ne_true
  | txt x =>
   cases x with
   | nil=>exact absurd (show false=true from hb) Bool.false_ne_true
   | cons c y =>
    cases y with
    | cons d y=>exact absurd (show false=true from hb) Bool.false_ne_true
    | nil =>
     obtain ⟨a,v0,v1,rfl,ha,⟨h0,_⟩,h1⟩:=h
     have hb':decide (97<=c/\c<=122)=true:=hb
     have:=of_decide_eq_true hb'
     exact ⟨a,c,v1,t1,rfl,rfl,by rw [ha,h0];rfl,h1,this.1,this.2⟩
def spRul (K:W.Frag):Sp:=fun vs H Q _=>∃ (a:Addr) (b:Bool) (us:List V) (rus:List Ru),vs=[.ref a]/\H a=some (mkS b us)/\RusAt K H us rus/\rus.length<=8/\rus.all hlB=true/\∀ l,H l=none->Q (.ref l) (upd H l (.lst ((rus.map rlL).map sign)))
theorem scRul:FnScope ["rules"] ["rules"] (defScope sRul):=⟨rfl,rfl,rfl,by decide +kernel,rfl,by decide +kernel,by decide +kernel⟩
theorem qg4:(["rule"]:List Str).Nodup:=by decide +kernel
theorem qi5 {f:Addr} {fd:FuncData} (F:Fun K "ruled_letters" "ruled_letters" sRul f fd)
  : FnOk P w K mg base CX0 1 f fd ["rules"] (spRul K):=by
 refine F.ok scRul (fun vs H Q E h=>?_) (fun cdv A outer s H vs Q E hr h=>?_)
 ·obtain ⟨a,b,us,rus,rfl,_⟩:=h
  rfl
 ·obtain ⟨a,b,us,rus,rfl,ha,hS,h8,hall,k⟩:=h
  refine ⟨_,(qf (qh (qz (N':=["rule"]) (ix:=[none]) rfl rfl (Vk K (pv 0)) (fun _ _ _ _ _ _=>(qj (i:=0) qg4 rfl (Or.inl rfl))) (fun _ _ _ _ _ _=>qx) (fun _ _ _ _ _ _=>(pe_ix (qq K) (pv 0) qd (fun _ _=>rfl)))))),?_⟩
  have ep:us.length=rus.length:=hS.1
  refine ⟨_,rfl,a,b,rfl,⟨_,mk_sqA ha⟩,?_⟩
  refine je (τ0:=[none]) (yz (b:=b) (xs:=us)) (by rw [ep];omega) (fun i ys τ H5=>H5=H/\(∃ v,τ=[v])/\ys=((rus.take i).map rlL).map sign) ⟨rfl,⟨_,rfl⟩,rfl⟩ ?_ ?_ ?_
  ·rintro i ys τ H5 hi ⟨rfl,_,rfl⟩
   refine ⟨mk_sqA ha,?_⟩
   rw [List.length_map,List.length_map,List.length_take]
   omega
  ·rintro i x ys τ H5 hx ⟨rfl,⟨vv,rfl⟩,rfl⟩
   have hi:=(List.getElem?_eq_some_iff.mp hx).1
   have er:rus[i]? = some (rus[i]'(by omega)):=List.getElem?_eq_getElem (by omega)
   obtain ⟨a',c,v1,t1,rfl,eru,ha',_⟩:=qdg (hS.2 i x _ hx er) (List.all_eq_true.mp hall _ (List.mem_of_getElem? er))
   refine ⟨_,rfl,a',_,_,_,rfl,rfl,SqT.of ha',atI_nat (j:=0) rfl,rfl,⟨_,rfl⟩,?_⟩
   rw [q0 rlL er,List.map_append,eru]
   rfl
  ·rintro ys τ H5 D1 ⟨rfl,_,rfl⟩ hD1
   rw [ep,take_all]
   exact k D1 hD1
end
end Lw
namespace Lw
open PySem L2 PyProof.Rows
section
variable {P:Program} {w:World} {K:W.Frag} {mg:Str->Option Value} {base:Heap} {cNoBook:Addr}
def spMru (K:W.Frag):Sp:=fun vs H Q _=>∃ (z:V) (r:Rs),vs=[z]/\RsAt K H z r/\∀ H',Same H H'->Q (.bl (mrB r)) H'
theorem scMru:FnScope ["rules","ruled"] ["rules"] (defScope sMru):=⟨rfl,rfl,rfl,by decide +kernel,rfl,by decide +kernel,by decide +kernel⟩
theorem qg5:(["rule"]:List Str).Nodup:=by decide +kernel
theorem qg6:(["rule","ruled"]:List Str).Nodup:=by decide +kernel
theorem qi6 {f fRul fItx fHla:Addr} {fd fdRul fdItx fdHla:FuncData} (F:Fun K "makes_rules" "makes_rules" sMru f fd)
  (GRul:FnOk P w K mg base CX0 1 fRul fdRul ["rules"] (spRul K))
  (gRul:Gf K mg "ruled_letters" fRul fdRul ["rules"])
  (GItx:FnOk P w K mg base CX0 1 fItx fdItx ["thing","signs","most"] (spItx K))
  (gItx:Gf K mg "is_text_of" fItx fdItx ["thing","signs","most"])
  (GHla:FnOk P w K mg base CX0 2 fHla fdHla ["rule"] (spHla K))
  (gHla:Gf K mg "has_letter_ahead" fHla fdHla ["rule"])
  (hlen:mg "len" = none)
  (hlist:mg "list" = none)
  (htuple:mg "tuple" = none)
  (hisinstance:mg "isinstance" = none)
  (hset:mg "set" = none)
  (hall:mg "all" = none)
  {tkMOST_RULES:Tok} (hMOST_RULES:mg "MOST_RULES" = some (.int 8 tkMOST_RULES))
  {tkLONGEST_WORD:Tok} (hLONGEST_WORD:mg "LONGEST_WORD" = some (.int 6 tkLONGEST_WORD))
  : FnOk P w K mg base CX0 3 f fd ["rules"] (spMru K):=by
 refine F.ok scMru (fun vs H Q E h=>?_) (fun cdv A outer s H vs Q E hr h=>?_)
 ·obtain ⟨z,r,rfl,_⟩:=h
  rfl
 ·obtain ⟨z,r,rfl,hz,k⟩:=h
  have hr1:Room 1 _:=hr.mono (by decide)
  refine ⟨_,(qc (jd (PW.pt (qat (jw (j0 (qi (Vl K) (by rfl) hisinstance (show bootBuiltins "isinstance" = some (.builtin "isinstance") by decide +kernel) (qa (pv 0) (qa (ja (qa (vp (v:=.ty "list") (by rfl) hlist (show bootBuiltins "list" = some (.type "list") by decide +kernel) rfl) (qa (vp (v:=.ty "tuple") (by rfl) htuple (show bootBuiltins "tuple" = some (.type "tuple") by decide +kernel) rfl) qb))) qb))))) (Vz (qr V3 (qi (jx K) (by rfl) hlen PySem.boot_len (qa (pv 0) qb)) (jk (v:=.int 8) (by rfl) hMOST_RULES ⟨_,rfl⟩) (nomark _))))) (qf (qh j4)) qm)
   (qc (jd (jw (j0 (qi (jy K rfl) (by rfl) hall (show bootBuiltins "all" = some (.builtin "all") by decide +kernel) (qa (qz (N':=["rule"]) (ix:=[none]) rfl rfl (Vk K (pv 0)) (fun _ _ _ _ _ _=>(qj (i:=0) qg5 rfl (Or.inl rfl))) (fun _ _ _ _ _ _=>qx) (fun _ _ _ _ _ _=>(qe GHla hr rfl gHla.m gHla.k gHla.b .nil pass0 (qa (pv 0) qb)))) qb)))) (qf (qh j4)) qm)
   (qc (ql (i:=1) scMru.nd rfl (Or.inr rfl) (qe GRul hr1 rfl gRul.m gRul.k gRul.b .nil pass0 (qa (pv 0) qb)))
   (qc (jd (qr qbt (qi (Zj P w) (by rfl) hlen PySem.boot_len (qa (qy (qa7 P w K rfl) (by rfl) hset (show bootBuiltins "set" = some (.type "set") by decide +kernel) (qa (pv 1) qb)) qb)) (qi (jx K) (by rfl) hlen PySem.boot_len (qa (pv 1) qb)) (nomark _)) (qf (qh j4)) qm)
   (qf (qh (qi (jy K rfl) (by rfl) hall (show bootBuiltins "all" = some (.builtin "all") by decide +kernel) (qa (qz (N':=["rule","ruled"]) (ix:=[none,some 1]) rfl rfl (Vk K (pv 0)) (fun _ _ _ _ _ _=>(qj (i:=0) qg6 rfl (Or.inl rfl))) (fun _ _ _ _ _ _=>qx) (fun _ _ _ _ _ _=>(qe GItx hr1 rfl gItx.m gItx.k gItx.b .nil pass0 (qa (pe_ix (qq K) (pv 0) qd (fun _ _=>rfl)) (qa (pv 1) (qa (jk (v:=.int 6) (by rfl) hLONGEST_WORD ⟨_,rfl⟩) qb)))))) qb)))))))),?_⟩
  refine ⟨_,rfl,(by show 2<=sizeLine;decide),fun T nT=>?_⟩
  have sT:Same H (upd H T (.tup [V.ty "list",V.ty "tuple"])):=Same.add nT
  have hT:(upd H T (.tup [V.ty "list",V.ty "tuple"])) T=some (.tup [V.ty "list",V.ty "tuple"]):=upd_same
  revert sT hT
  generalize upd H T (.tup [V.ty "list",V.ty "tuple"])=H1
  intro sT hT
  have hz1:=hz.keep sT
  cases r with
  | odd =>
   obtain ⟨t,ty,ht⟩:=hz1
   have kk:=k H1 sT
   rcases ht with rfl | rfl | rfl | rfl | rfl <;> exact ⟨_,T,["list","tuple"],_,false,rfl,hT,ty,(by rfl),_,rfl,iteT kk⟩
  | seq rus =>
   obtain ⟨a,b,us,rfl,ha,hru⟩:=hz1
   obtain ⟨t,t1,t2⟩:=qi0 (K:=K) ha
   have hl:=hru.1
   have eM:mrB (.seq rus)=(decide (rus.length<=8) && rus.all hlB && decide ((rus.map rlL).Nodup) && rus.all fun r=>itB (rlW r) (rus.map rlL) 6):=rfl
   rw [eM] at k
   refine ⟨_,T,["list","tuple"],t,true,rfl,hT,t1,t2,_,rfl,iteF ?_⟩
   refine ⟨_,rfl,a,_,rfl,qiz ha,_,_,rfl,rfl,_,rfl,?_⟩
   refine ite2 (fun hc=>?_) (fun hc=>?_)
   ·have:(8:Int) < ((us.length:Nat):Int):=of_decide_eq_true hc
    have kk:=k H1 sT
    rw [decide_eq_false (by omega),Bool.false_and,Bool.false_and,Bool.false_and] at kk
    exact kk
   have h8:rus.length<=8:=by
    have:¬ (8:Int) < ((us.length:Nat):Int):=fun z=>hc (decide_eq_true z)
    omega
   rw [decide_eq_true h8,Bool.true_and] at k
   refine ⟨_,rfl,a,b,rfl,⟨_,mk_sqA ha⟩,?_⟩
   refine je (τ0:=[none]) (yz (b:=b) (xs:=us)) (by omega) (fun i ys τ H5=>H5=H1/\(∃ v,τ=[v])/\ys=((rus.take i).map hlB).map V.bl) ⟨rfl,⟨_,rfl⟩,rfl⟩ ?_ ?_ ?_
   ·rintro i ys τ H5 hi ⟨rfl,_,rfl⟩
    refine ⟨mk_sqA ha,?_⟩
    rw [List.length_map,List.length_map,List.length_take]
    omega
   ·rintro i x ys τ H5 hx ⟨rfl,⟨vv,rfl⟩,rfl⟩
    have hi:=(List.getElem?_eq_some_iff.mp hx).1
    have er:rus[i]? = some (rus[i]'(by omega)):=List.getElem?_eq_getElem (by omega)
    refine ⟨_,rfl,x,_,rfl,hru.2 i x _ hx er,rfl,⟨_,rfl⟩,?_⟩
    rw [q0 hlB er,List.map_append]
    rfl
   rintro ys τ H5 D1 ⟨rfl,_,rfl⟩ hD1
   rw [hl,take_all]
   have e2:(rus.map hlB).all id=rus.all hlB:=by rw [List.all_map];rfl
   refine ⟨D1,_,rfl,SqL.of upd_same,?_⟩
   rw [e2]
   have s5:Same H5 (upd H5 D1 (.lst ((rus.map hlB).map V.bl))):=Same.add hD1
   revert s5
   generalize upd H5 D1 (.lst ((rus.map hlB).map V.bl))=H6
   intro s5
   refine ⟨_,rfl,?_⟩
   cases e3:rus.all hlB with
   | false =>
    rw [e3,Bool.false_and,Bool.false_and] at k
    exact iteT (k _ (sT.trans s5))
   | true =>
   rw [e3,Bool.true_and] at k
   refine iteF ⟨_,rfl,a,b,us,rus,rfl,s5 _ _ ha,hru.keep s5,h8,e3,fun l nl=>?_⟩
   have s6:Same H5 (upd H6 l (.lst ((rus.map rlL).map sign))):=s5.trans (Same.add nl)
   have hl6:(upd H6 l (.lst ((rus.map rlL).map sign))) l=some (.lst ((rus.map rlL).map sign)):=upd_same
   revert s6 hl6
   generalize upd H6 l (.lst ((rus.map rlL).map sign))=H7
   intro s6 hl6
   have es:(rus.map rlL).map sign=((rus.map rlL).map one).map V.str:=Zy _
   have ndO:((rus.map rlL).map one).Nodup ↔ (rus.map rlL).Nodup :=
    ⟨fun h=>(List.pairwise_map.mp h).imp fun h z=>h (congrArg one z),fun h=>List.pairwise_map.mpr (h.imp fun h z=>h (vh z))⟩
   have l8:((rus.map rlL).map one).length=rus.length:=by rw [List.length_map,List.length_map]
   refine ⟨_,rfl,l,(rus.map rlL).map one,rfl,by rw [<- es];exact SqL.of hl6,by rw [l8];omega,fun sa c nsa hC=>?_⟩
   have s8:Same H7 (upd H7 sa (setHO P w sa ((rus.map rlL).map one) c)):=Same.add nsa
   have hcle:c<=rus.length:=by have:=hC.1;rw [l8] at this;exact this
   refine ⟨sa,_,c,rfl,upd_same,by omega,?_⟩
   revert s8
   generalize upd H7 sa (setHO P w sa ((rus.map rlL).map one) c)=H8
   intro s8
   have hl8:=s8 _ _ hl6
   have l8':((rus.map rlL).map sign).length=rus.length:=by rw [List.length_map,List.length_map]
   have s18:=s6.trans s8
   refine ⟨_,rfl,l,_,rfl,.inl (SqL.of hl8),_,_,rfl,rfl,_,rfl,?_⟩
   by_cases hnd:(rus.map rlL).Nodup
   case neg =>
    have hne:c≠rus.length:=fun z=>hnd (ndO.mp (hC.2.mp (by rw [l8];exact z)))
    refine ite2 (fun _=>?_) (fun hc=>absurd (decide_eq_true (show ((c:Nat):Int) < ((((rus.map rlL).map sign).length:Nat):Int) by rw [l8'];omega)) hc)
    rw [decide_eq_false hnd,Bool.false_and] at k
    exact k _ (sT.trans s18)
   have ec:c=rus.length:=by rw [<- l8];exact hC.2.mpr (ndO.mpr hnd)
   rw [decide_eq_true hnd,Bool.true_and] at k
   refine ite2 (fun hc=>absurd (of_decide_eq_true hc) (by rw [l8',ec];omega)) (fun _=>?_)
   have ha8:=s18 _ _ ha
   have hru8:=hru.keep s18
   refine ⟨_,rfl,a,b,rfl,⟨_,mk_sqA ha8⟩,?_⟩
   refine je (τ0:=[none,some (.ref l)]) (yz (b:=b) (xs:=us)) (by omega) (fun i ys τ H5=>Same H8 H5/\(∃ v,τ=[v,some (.ref l)])/\ys=((rus.take i).map fun r=>itB (rlW r) (rus.map rlL) 6).map V.bl) ⟨Same.refl _,⟨_,rfl⟩,rfl⟩ ?_ ?_ ?_
   ·rintro i ys τ H9 hi ⟨s9,_,rfl⟩
    refine ⟨mk_sqA (s9 _ _ ha8),?_⟩
    rw [List.length_map,List.length_map,List.length_take]
    omega
   ·rintro i x ys τ H9 hx ⟨s9,⟨vv,rfl⟩,rfl⟩
    have hi:=(List.getElem?_eq_some_iff.mp hx).1
    have er:rus[i]? = some (rus[i]'(by omega)):=List.getElem?_eq_getElem (by omega)
    obtain ⟨a',c',v1,t1,rfl,eru,ha',h1',_⟩:=qdg ((hru8.keep s9).2 i x _ hx er) (List.all_eq_true.mp e3 _ (List.mem_of_getElem? er))
    refine ⟨_,rfl,a',_,_,_,rfl,rfl,SqT.of ha',atI_nat (j:=1) rfl,_,rfl,v1,t1,rus.map rlL,l,6,rfl,h1',s9 _ _ hl8,by decide,by rw [List.length_map];exact h8,fun H10 s10=>?_⟩
    refine ⟨s9.trans s10,⟨_,rfl⟩,?_⟩
    rw [q0 (fun r=>itB (rlW r) (rus.map rlL) 6) er,List.map_append]
    have:itB (rlW (rus[i]'(by omega))) (rus.map rlL) 6=itB t1 (rus.map rlL) 6:=by rw [eru];rfl
    rw [this]
    rfl
   ·rintro ys τ H9 D2 ⟨s9,_,rfl⟩ hD2
    rw [hl,take_all]
    refine ⟨D2,_,rfl,SqL.of upd_same,?_⟩
    have e4:(rus.map fun r=>itB (rlW r) (rus.map rlL) 6).all id=rus.all fun r=>itB (rlW r) (rus.map rlL) 6:=by rw [List.all_map];rfl
    rw [e4]
    exact k _ (sT.trans (s18.trans (s9.trans (Same.add hD2))))
theorem qey {rus:List Ru} (h:mrB (.seq rus)=true):rus.length<=8/\rus.all hlB=true/\(rus.map rlL).Nodup/\(rus.all fun r=>itB (rlW r) (rus.map rlL) 6)=true:=by
 have h':(decide (rus.length<=8) && rus.all hlB && decide ((rus.map rlL).Nodup) && rus.all fun r=>itB (rlW r) (rus.map rlL) 6)=true:=h
 rw [Bool.and_eq_true,Bool.and_eq_true,Bool.and_eq_true] at h'
 exact ⟨of_decide_eq_true h'.1.1.1,h'.1.1.2,of_decide_eq_true h'.1.2,h'.2⟩
def spMbo (K:W.Frag):Sp:=fun vs H Q _=>∃ (z1 z2:V) (th:Th) (r:Rs),vs=[z1,z2]/\ThAt K H z1 th/\RsAt K H z2 r/\∀ H',Same H H'->Q (.bl (mbB th r)) H'
theorem scMbo:FnScope ["first","rules"] ["first","rules"] (defScope sMbo):=⟨rfl,rfl,rfl,by decide +kernel,rfl,by decide +kernel,by decide +kernel⟩
theorem qi7 {f fMru fItx fRul:Addr} {fd fdMru fdItx fdRul:FuncData} (F:Fun K "makes_book" "makes_book" sMbo f fd)
  (GMru:FnOk P w K mg base CX0 3 fMru fdMru ["rules"] (spMru K))
  (gMru:Gf K mg "makes_rules" fMru fdMru ["rules"])
  (GItx:FnOk P w K mg base CX0 1 fItx fdItx ["thing","signs","most"] (spItx K))
  (gItx:Gf K mg "is_text_of" fItx fdItx ["thing","signs","most"])
  (GRul:FnOk P w K mg base CX0 1 fRul fdRul ["rules"] (spRul K))
  (gRul:Gf K mg "ruled_letters" fRul fdRul ["rules"])
  {tkLONGEST_FIRST:Tok} (hLONGEST_FIRST:mg "LONGEST_FIRST" = some (.int 12 tkLONGEST_FIRST))
  : FnOk P w K mg base CX0 4 f fd ["first","rules"] (spMbo K):=by
 refine F.ok scMbo (fun vs H Q E h=>?_) (fun cdv A outer s H vs Q E hr h=>?_)
 ·obtain ⟨z1,z2,th,r,rfl,_⟩:=h
  rfl
 ·obtain ⟨z1,z2,th,r,rfl,h1,h2,k⟩:=h
  have hr1:Room 1 _:=hr.mono (by decide)
  refine ⟨_,(qf (qh (vx (qe GMru hr rfl gMru.m gMru.k gMru.b .nil pass0 (qa (pv 1) qb)) (yl (qe GItx hr1 rfl gItx.m gItx.k gItx.b .nil pass0 (qa (pv 0) (qa (qe GRul hr1 rfl gRul.m gRul.k gRul.b .nil pass0 (qa (pv 1) qb)) (qa (jk (v:=.int 12) (by rfl) hLONGEST_FIRST ⟨_,rfl⟩) qb)))))))),?_⟩
  refine ⟨_,rfl,z2,r,rfl,h2,fun H1 s1=>⟨_,rfl,?_⟩⟩
  cases r with
  | odd=>exact iteF (k H1 s1)
  | seq rus =>
   have eM:mbB th (.seq rus)=(mrB (.seq rus) && itB th (rus.map rlL) 12):=rfl
   rw [eM] at k
   cases e:mrB (.seq rus) with
   | false =>
    rw [e,Bool.false_and] at k
    exact iteF (k H1 s1)
   | true =>
    rw [e,Bool.true_and] at k
    obtain ⟨m1,m2,m3,m4⟩:=qey e
    obtain ⟨a,b,us,rfl,ha,hru⟩:=h2.keep s1
    refine iteT ⟨_,rfl,_,rfl,a,b,us,rus,rfl,ha,hru,m1,m2,fun l nl=>?_⟩
    exact ⟨z1,th,rus.map rlL,l,12,rfl,(h1.keep s1).keep (Same.add nl),upd_same,by decide,by rw [List.length_map];exact m1,fun H3 s3=>k _ (s1.trans ((Same.add nl).trans s3))⟩
end
end Lw
namespace Lw
open PySem L2 PyProof.Rows
theorem Yo {K:W.Frag} {H:Hp} {n:Nat} {a b:Addr} {xs:List V} (ha:H a=some (.tup xs)) (hb:H b=some (.tup xs)) (hx:∀ x∈xs,flatV x=true):VSame K H (n+1) (.ref a) (.ref b) :=
 .seq true (SqT.of ha) (SqT.of hb) rfl fun i p q e1 e2=>by
  rw [e1] at e2
  cases e2
  exact .flat (hx _ (List.mem_of_getElem? e1))
theorem qez {K:W.Frag} {H:Hp} {ps qs:List Addr} {rs:List Rule} (hp:RulesAt H ps rs) (hq:RulesAt H qs rs) {n i:Nat} {x y:V} (e1:(ps.map V.ref)[i]? = some x) (e2:(qs.map V.ref)[i]? = some y):VSame K H (n+1) x y:=by
 rw [List.getElem?_map] at e1 e2
 cases q1:ps[i]? with
 | none=>rw [q1] at e1;cases e1
 | some p =>
  cases q2:qs[i]? with
  | none=>rw [q2] at e2;cases e2
  | some q =>
   rw [q1] at e1
   rw [q2] at e2
   cases e1
   cases e2
   obtain ⟨c,w,r1,h1⟩:=hp.get q1
   obtain ⟨c',w',r2,h2⟩:=hq.get q2
   rw [r1] at r2
   cases r2
   refine Yo h1 h2 fun x hx=>?_
   rcases List.mem_cons.mp hx with z | z
   ·rw [z];rfl
   ·rw [List.mem_singleton.mp z];rfl
theorem qg7 {K:W.Frag} {H:Hp} {t u:Addr} {first:List Nat} {rs:List Rule} (ht:BookAt H t first rs) (hu:BookAt H u first rs):VSame K H 3 (.ref t) (.ref u):=by
 obtain ⟨r,ps,a1,a2,a3⟩:=ht.ex
 obtain ⟨r',ps',b1,b2,b3⟩:=hu.ex
 refine .seq true (SqT.of a1) (SqT.of b1) rfl fun i x y e1 e2=>?_
 rcases i with _ | _ | i
 ·cases e1
  cases e2
  exact .flat rfl
 ·cases e1
  cases e2
  exact .seq true (SqT.of a2) (SqT.of b2) (by rw [List.length_map,List.length_map,a3.len,b3.len]) fun i x y e1 e2=>qez a3 b3 e1 e2
 ·simp at e1
theorem qap {α:Type} {H:Hp} {f:α->Addr} {g:α->Rule}:∀ {xs:List α},(∀ x∈xs,H (f x)=some (.tup [sign (g x).1,tx (g x).2]))->RulesAt H (xs.map f) (xs.map g)
 | [],_=>.nil
 | x :: xs,h=>.cons (h x List.mem_cons_self) (qap fun y hy=>h y (List.mem_cons_of_mem _ hy))
theorem RulesAt.zip {H:Hp}:∀ {ps:List Addr} {rs:List Rule},RulesAt H ps rs->∀ q∈ps.zip rs,H q.1=some (.tup [sign q.2.1,tx q.2.2])
 | _,_,.nil,q,h=>by simp at h
 | _,_,.cons e r,q,h=>by
  rcases List.mem_cons.mp h with z | z
  ·subst z;exact e
  ·exact r.zip q z
theorem qg8 {us rs:List Rule} (p:us.Perm rs) (h1:us.Pairwise fun a b=>a.1 < b.1) (h2:rs.Pairwise fun a b=>a.1 < b.1):us=rs :=
 List.Perm.eq_of_pairwise (le:=fun a b=>a.1 < b.1) (fun a b _ _ x y=>absurd x (by omega)) h1 h2 p
abbrev mkT (q:Addr × Rule):Tri:=(q.1,one q.2.1,⟨q.2.2.toArray⟩)
def unT (q:Tri):Rule:=(q.2.1.cps.getD 0 0,q.2.2.cps.toList)
theorem qi8 (q:Addr × Rule):unT (mkT q)=q.2:=rfl
theorem Zz {qs:List Addr} {us rs:List Rule} {ts:List Tri} (hl:qs.length=us.length) (hp:us.Perm rs) (hr:rs.Pairwise fun a b=>a.1 < b.1) (pm:ts.Perm ((qs.zip us).map mkT)) (pw:ts.Pairwise fun x y=>ltT x y=true):ts.map unT=rs:=by
 have e:((qs.zip us).map mkT).map unT=us:=by
  rw [List.map_map]
  have:unT ∘ mkT=Prod.snd:=rfl
  rw [this,List.map_snd_zip (by omega)]
 have p1:(ts.map unT).Perm us:=by
  have:=pm.map unT
  rw [e] at this
  exact this
 refine qg8 (p1.trans hp) ?_ hr
 refine List.pairwise_map.mpr (pw.imp_of_mem fun {x y} hx hy h=>?_)
 obtain ⟨a,_,rfl⟩:=List.mem_map.mp (pm.mem_iff.mp hx)
 obtain ⟨b,_,rfl⟩:=List.mem_map.mp (pm.mem_iff.mp hy)
 have h':([a.2.1]:List Nat) < [b.2.1]:=of_decide_eq_true h
 show a.2.1 < b.2.1
 rcases List.cons_lt_cons_iff.mp h' with z | ⟨_,z⟩
 ·exact z
 ·cases z
structure SeqR (H:Hp) (a:Addr) (b:Bool) (qs:List Addr) (us:List Rule):Prop where
 sq:H a=some (mkS b (qs.map V.ref))
 at_:RulesAt H qs us
theorem SeqR.mono {H H':Hp} {a:Addr} {b:Bool} {qs:List Addr} {us:List Rule} (h:SeqR H a b qs us) (s:Same H H'):SeqR H' a b qs us:=⟨s _ _ h.sq,h.at_.mono (TupS.same s)⟩
def ruOf (q:Rule):Ru:=.pair (.txt [q.1]) (.txt q.2)
theorem qfu (us:List Rule):(us.map ruOf).map rlL=ltr us:=by
 unfold ltr
 rw [List.map_map]
 rfl
theorem qfv {K:W.Frag} {H:Hp} {qs:List Addr} {us:List Rule} (h:RulesAt H qs us) (hw:∀ q∈us,q.2.length<=6):RusAt K H (qs.map V.ref) (us.map ruOf):=by
 refine ⟨by rw [List.length_map,List.length_map,h.len],fun i v ru e1 e2=>?_⟩
 rw [List.getElem?_map] at e1 e2
 cases f1:qs[i]? with
 | none=>rw [f1] at e1;cases e1
 | some p =>
  rw [f1] at e1
  cases e1
  obtain ⟨c,w',d1,d2⟩:=h.get f1
  rw [d1] at e2
  cases e2
  have:=hw _ (List.mem_of_getElem? d1)
  exact ⟨p,_,_,rfl,d2,⟨rfl,by show 1<=1000;decide⟩,⟨rfl,by have h2:w'.length<=6:=this;omega⟩⟩
theorem qi9 {x cs:List Nat} {m:Nat} (h1:x.length<=m) (h2:∀ c∈x,c∈cs):itB (.txt x) cs m=true:=by
 show (decide (x.length<=m) && x.all fun c=>decide (c∈cs))=true
 rw [decide_eq_true h1,Bool.true_and]
 exact List.all_eq_true.mpr fun c hc=>decide_eq_true (h2 c hc)
theorem mr_ok {first:List Nat} {us:List Rule} (h:Fine first us):mrB (.seq (us.map ruOf))=true:=by
 show (decide ((us.map ruOf).length<=8) && (us.map ruOf).all hlB && decide (((us.map ruOf).map rlL).Nodup) && (us.map ruOf).all fun r=>itB (rlW r) ((us.map ruOf).map rlL) 6)=true
 rw [qfu,List.length_map,decide_eq_true h.few,decide_eq_true h.nd,Bool.true_and,Bool.and_true,Bool.and_eq_true,List.all_map,List.all_map]
 exact ⟨List.all_eq_true.mpr fun q hq=>decide_eq_true (h.abc q hq),List.all_eq_true.mpr fun q hq=>qi9 (h.wl q hq) (h.win q hq)⟩
theorem qja {first:List Nat} {us:List Rule} (h:Fine first us):mbB (.txt first) (.seq (us.map ruOf))=true:=by
 show (mrB (.seq (us.map ruOf)) && itB (.txt first) ((us.map ruOf).map rlL) 12)=true
 rw [mr_ok h,Bool.true_and,qfu]
 exact qi9 h.fl h.fin
section
variable {P:Program} {w:World} {K:W.Frag} {mg:Str->Option Value} {base:Heap} {cNoBook:Addr}
def spBko (K:W.Frag):Sp:=fun vs H Q _=>∃ (first:List Nat) (a:Addr) (b:Bool) (qs:List Addr) (us rs:List Rule),vs=[tx first,.ref a]/\SeqR H a b qs us/\us.Perm rs/\Good first rs/\∀ t H',Same H H'->BookAt H' t first rs->Q (.ref t) H'
theorem scBko:FnScope ["first","rules"] ["first","rules"] (defScope sBko):=⟨rfl,rfl,rfl,by decide +kernel,rfl,by decide +kernel,by decide +kernel⟩
theorem qjb {f fMbo:Addr} {fd fdMbo:FuncData} (F:Fun K "book_of" "book_of" sBko f fd)
  (GMbo:FnOk P w K mg base CX0 4 fMbo fdMbo ["first","rules"] (spMbo K))
  (gMbo:Gf K mg "makes_book" fMbo fdMbo ["first","rules"])
  (htuple:mg "tuple" = none)
  (hsorted:mg "sorted" = none)
  : FnOk P w K mg base CX0 5 f fd ["first","rules"] (spBko K):=by
 refine F.ok scBko (fun vs H Q E h=>?_) (fun cdv A outer s H vs Q E hr h=>?_)
 ·obtain ⟨first,a,b,qs,us,rs,rfl,_⟩:=h
  rfl
 ·obtain ⟨first,a,b,qs,us,rs,rfl,hS,hp,hG,k⟩:=h
  refine ⟨_,(qc (jd (jw (j0 (qe GMbo hr rfl gMbo.m gMbo.k gMbo.b .nil pass0 (qa (pv 0) (qa (pv 1) qb))))) j7 qm)
   (qf (qh (ja (qa (pv 0) (qa (qy (jf K) (by rfl) htuple (by first | exact PySem.boot_tuple | decide +kernel) (qa (qi (Yg K) (by rfl) hsorted PyProof.Rows.boot_sorted (qa (pv 1) qb)) qb)) qb)))))),?_⟩
  have hF:=Fine.of hp hG
  have h8:=hF.few
  have hlen:=hS.at_.len
  refine ⟨_,rfl,_,rfl,tx first,.ref a,.txt first,.seq (us.map ruOf),rfl,⟨rfl,by have:=hF.fl;omega⟩,⟨a,b,_,rfl,hS.sq,qfv hS.at_ hF.wl⟩,fun H1 s1=>⟨_,rfl,?_⟩⟩
  rw [qja hF]
  refine iteF ?_
  have hS1:=hS.mono s1
  have ez:(((qs.zip us).map mkT).map fun q=>V.ref q.1)=qs.map V.ref:=by
   rw [List.map_map]
   have:((fun q:Tri=>V.ref q.1) ∘ mkT)=V.ref ∘ Prod.fst:=rfl
   rw [this,<- List.map_map,List.map_fst_zip (by omega)]
  have el:(((qs.zip us).map mkT).map (·.2.1))=(ltr us).map one:=by
   rw [List.map_map]
   have:((fun q:Tri=>q.2.1) ∘ mkT)=(fun u:Rule=>one u.1) ∘ Prod.snd:=rfl
   rw [this,<- List.map_map,List.map_snd_zip (by omega)]
   unfold ltr
   rw [List.map_map]
   rfl
  refine ⟨_,rfl,_,rfl,a,b,(qs.zip us).map mkT,rfl,by rw [ez];exact mk_sqA hS1.sq,fun q hq=>?_,by rw [el];exact List.pairwise_map.mpr (hF.nd.imp fun h z=>h (vh z)),by rw [List.length_map,List.length_zip];omega,fun l ts' nl pm pw=>?_⟩
  ·obtain ⟨q',h',rfl⟩:=List.mem_map.mp hq
   exact hS1.at_.zip q' h'
  have er:=Zz hlen hp (List.pairwise_map.mp hG.rise) pm pw
  have hl':=pm.length_eq
  rw [List.length_map,List.length_zip] at hl'
  have s2:Same H1 (upd H1 l (.lst (ts'.map fun q=>V.ref q.1))):=Same.add nl
  refine ⟨l,_,rfl,.inl ⟨SqL.of upd_same,fun r nr=>?_⟩⟩
  have s3:Same (upd H1 l (.lst (ts'.map fun q=>V.ref q.1))) (upd (upd H1 l (.lst (ts'.map fun q=>V.ref q.1))) r (.tup (ts'.map fun q=>V.ref q.1))):=Same.add nr
  have hr:upd (upd H1 l (.lst (ts'.map fun q=>V.ref q.1))) r (.tup (ts'.map fun q=>V.ref q.1)) r=some (.tup (ts'.map fun q=>V.ref q.1)):=upd_same
  have s13:=s2.trans s3
  revert s13 hr
  generalize upd (upd H1 l (.lst (ts'.map fun q=>V.ref q.1))) r (.tup (ts'.map fun q=>V.ref q.1))=H4
  intro hr s13
  refine ⟨(by show 2<=sizeLine;decide),fun t nt=>?_⟩
  have s4:Same H4 (upd H4 t (.tup [tx first,V.ref r])):=Same.add nt
  refine k t _ (s1.trans (s13.trans s4)) ⟨r,ts'.map (·.1),upd_same,?_,?_⟩
  ·rw [List.map_map]
   exact s4 _ _ hr
  ·rw [<- er]
   refine qap fun x hx=>?_
   obtain ⟨q,hq,rfl⟩:=List.mem_map.mp (pm.mem_iff.mp hx)
   rw [qi8]
   exact s4 _ _ (s13 _ _ (hS1.at_.zip q hq))
def spIbk (K:W.Frag):Sp:=fun vs H Q _=>∃ (t:Addr) (first:List Nat) (rs:List Rule),vs=[.ref t]/\BookAt H t first rs/\Good first rs/\∀ H',Same H H'->Q (.bl true) H'
theorem scIbk:FnScope ["thing"] ["thing"] (defScope sIbk):=⟨rfl,rfl,rfl,by decide +kernel,rfl,by decide +kernel,by decide +kernel⟩
theorem qjc {f fBko fItp fMbo:Addr} {fd fdBko fdItp fdMbo:FuncData} (F:Fun K "is_book" "is_book" sIbk f fd)
  (GBko:FnOk P w K mg base CX0 5 fBko fdBko ["first","rules"] (spBko K))
  (gBko:Gf K mg "book_of" fBko fdBko ["first","rules"])
  (GItp:FnOk P w K mg base CX0 1 fItp fdItp ["thing","many"] (spItp K))
  (gItp:Gf K mg "is_tuple_of" fItp fdItp ["thing","many"])
  (GMbo:FnOk P w K mg base CX0 4 fMbo fdMbo ["first","rules"] (spMbo K))
  (gMbo:Gf K mg "makes_book" fMbo fdMbo ["first","rules"])
  : FnOk P w K mg base CX0 6 f fd ["thing"] (spIbk K):=by
 refine F.ok scIbk (fun vs H Q E h=>?_) (fun cdv A outer s H vs Q E hr h=>?_)
 ·obtain ⟨t,first,rs,rfl,_⟩:=h
  rfl
 ·obtain ⟨t,first,rs,rfl,hB,hG,k⟩:=h
  have hr1:Room 1 _:=hr.mono (by decide)
  have hr4:Room 4 _:=hr.mono (by decide)
  refine ⟨_,(qc (jd (PW.pt (qat (jw (j0 (qe GItp hr1 rfl gItp.m gItp.k gItp.b .nil pass0 (qa (pv 0) (qa qd qb))))) (Vz (jw (j0 (qe GMbo hr4 rfl gMbo.m gMbo.k gMbo.b .nil pass0 (qa (pe_ix (qq K) (pv 0) qd (fun _ _=>rfl)) (qa (pe_ix (qq K) (pv 0) qd (fun _ _=>rfl)) qb)))))))) (qf (qh j4)) qm)
   (qf (qh (j5 (qch K hr.units) (pv 0) (qe GBko hr rfl gBko.m gBko.k gBko.b .nil pass0 (qa (pe_ix (qq K) (pv 0) qd (fun _ _=>rfl)) (qa (pe_ix (qq K) (pv 0) qd (fun _ _=>rfl)) qb))) (nomark _))))),?_⟩
  obtain ⟨r,ps,b1,b2,b3⟩:=hB.ex
  have hF:=Fine.of (List.Perm.refl rs) hG
  have hS:SeqR H r true ps rs:=⟨b2,b3⟩
  refine ⟨_,rfl,_,rfl,.inl ⟨t,_,_,rfl,b1,_,rfl,iteF ?_⟩⟩
  refine ⟨_,rfl,t,_,_,_,rfl,rfl,SqT.of b1,atI_nat (j:=0) rfl,_,rfl,t,_,_,_,rfl,rfl,SqT.of b1,atI_nat (j:=1) rfl,tx first,.ref r,.txt first,.seq (rs.map ruOf),rfl,⟨rfl,by have:=hF.fl;omega⟩,⟨r,true,_,rfl,b2,qfv b3 hF.wl⟩,fun H1 s1=>⟨_,rfl,?_⟩⟩
  rw [qja hF]
  have b1':=s1 _ _ b1
  refine iteF ⟨_,rfl,_,rfl,t,_,_,_,rfl,rfl,SqT.of b1',atI_nat (j:=0) rfl,_,rfl,t,_,_,_,rfl,rfl,SqT.of b1',atI_nat (j:=1) rfl,first,r,true,ps,rs,rs,rfl,hS.mono s1,List.Perm.refl _,hG,fun u H2 s2 hU=>?_⟩
  have s02:=s1.trans s2
  exact ⟨2,t,u,rfl,rfl,qg7 (hB.mono (TupS.same s02)) hU,by omega,k _ s02⟩
end
end Lw
namespace Lw
open PySem L2
theorem va {H H':Hp} (s:TupS H H'):∀ {ps:List Addr} {kvs:List (Key × V)},PairsAt H ps kvs->PairsAt H' ps kvs
 | _,_,.nil=>.nil
 | _,_,.cons h r=>.cons (s _ _ h) (va s r)
theorem ya {H:Hp} {p:Addr} {k:Key} {v:V} (h:H p=some (.tup [kV k,v])):∀ {ps:List Addr} {kvs:List (Key × V)},PairsAt H ps kvs->PairsAt H (ps++[p]) (kvs++[(k,v)])
 | _,_,.nil=>.cons h .nil
 | _,_,.cons h1 r=>.cons h1 (ya h r)
structure DicsAt (H:Hp) (l:Addr) (ls:List Addr) (rs:List Rule) (f:Nat->List Int) (m:Nat):Prop where
 top:H l=some (.lst (ls.map V.ref))
 len:ls.length=m
 at_:∀ (i:Nat) a,ls[i]? = some a->DictI H a rs (f i)
theorem DicsAt.mono {H H':Hp} {l:Addr} {ls:List Addr} {rs:List Rule} {f:Nat->List Int} {m:Nat} (t:DicsAt H l ls rs f m) (s:Same H H'):DicsAt H' l ls rs f m:=⟨s _ _ t.top,t.len,fun i a e=>s _ _ (t.at_ i a e)⟩
theorem qe0 {first:List Nat} {rs:List Rule} (hG:Good first rs) (ns:List Int) (hl:ns.length=rs.length) (x:List Nat):(x.map (lk (ltr rs) ns)).sum=dot (c0 rs x) ns:=by
 rw [qc5 x hG.nd (by rw [hl];unfold ltr;rw [List.length_map]),qgt]
theorem qe1 (rs:List Rule) (ns:List Int):stepL (tabI rs) ns=rs.map fun q=>dot (c0 rs q.2) ns:=by
 unfold stepL tabI
 rw [List.map_map]
 rfl
abbrev kvw (rs:List Rule):List (Key × V):=rs.map fun q=>((Sum.inr (one q.1):Key),tx q.2)
theorem Z0 {H:Hp}:∀ {ps:List Addr} {rs:List Rule},RulesAt H ps rs->PairsAt H ps (kvw rs)
 | _,_,.nil=>.nil
 | _,_,.cons h r=>.cons h (Z0 r)
theorem qaq (rs:List Rule):(kvw rs).map (·.1)=(ltr rs).map fun c=>(Sum.inr (one c):Key):=by
 unfold kvw ltr
 rw [List.map_map,List.map_map]
 rfl
theorem Vv:∀ {rs:List Rule} {q:Rule},(ltr rs).Nodup->q∈rs->valV (kvw rs) (Sum.inr (one q.1):Key)=some (tx q.2)
 | [],_,_,h=>by simp at h
 | p :: rs,q,nd,h=>by
  have nd':=List.nodup_cons.mp (show (p.1 :: ltr rs).Nodup from nd)
  unfold valV
  show Option.map _ (List.find? _ (((Sum.inr (one p.1):Key),tx p.2) :: kvw rs))=_
  rcases List.mem_cons.mp h with z | z
  ·subst z
   rw [List.find?_cons_of_pos]
   ·rfl
   ·exact decide_eq_true rfl
  ·rw [List.find?_cons_of_neg]
   ·exact Vv nd'.2 z
   ·intro y
    have y':(Sum.inr (one p.1):Key)=Sum.inr (one q.1):=of_decide_eq_true y
    exact nd'.1 (by rw [vh (Sum.inr.inj y')];exact List.mem_map_of_mem z)
theorem thaw {H H':Hp} {d:Addr} {o u:HO} (s:Same (upd H d o) H') (e:H d=some u):Same H (upd H' d u):=fun b v q=>by
 by_cases z:b=d
 ·subst z
  rw [e] at q
  cases q
  exact upd_same
 ·rw [qg z]
  exact s b v (by rw [qg z];exact q)
theorem qar {H:Hp} {d:Addr} {ob:Obj} {u u':HO} (e:H d=some (.frz ob u)):TupS H (upd H d u'):=fun c xs q=>by
 have n:c≠d:=fun z=>by rw [z,e] at q;cases q
 rw [qg n]
 exact q
theorem qdh (n:Nat) (x:V):cutV (List.replicate (n+1) x) none (some (-1))=List.replicate n x:=by
 unfold cutV
 have e1:HT.sIx (List.replicate (n+1) x).length 0 none=0:=rfl
 have e2:HT.sIx (List.replicate (n+1) x).length (List.replicate (n+1) x).length (some (-1))=n:=by
  rw [List.length_replicate]
  unfold HT.sIx
  simp only
  rw [if_pos (by decide)]
  omega
 rw [e1,e2,List.drop_zero,List.take_replicate]
 congr 1
 omega
section
variable {P:Program} {w:World} {K:W.Frag} {mg:Str->Option Value} {base:Heap}
def spWba:Sp:=fun vs H Q _=>∃ (t:Addr) (first:List Nat) (rs:List Rule) (n:Nat),vs=[.ref t,.int (n:Int)]/\BookAt H t first rs/\Good first rs/\n<=600 /\
 ∀ l dw H',Same H H'->H l=none->H dw=none->H' l=some (.lst (List.replicate (n+1) (V.ref dw)))->H' dw=some (.dK (kvw rs))->Q (.ref l) H'
theorem scWba:FnScope ["book","age"] ["book","age"] (defScope sWba):=⟨rfl,rfl,rfl,by decide +kernel,rfl,by decide +kernel,by decide +kernel⟩
theorem qjd {f:Addr} {fd:FuncData} (F:Fun K "words_by_age" "words_by_age" sWba f fd)
  (hdict:mg "dict" = none)
  : FnOk P w K mg base CX0 1 f fd ["book","age"] spWba:=by
 refine F.ok scWba (fun vs H Q E h=>?_) (fun cdv A outer s H vs Q E hr h=>?_)
 ·obtain ⟨t,first,rs,n,rfl,_⟩:=h
  rfl
 ·obtain ⟨t,first,rs,n,rfl,hB,hG,hn,k⟩:=h
  refine ⟨_,(qf (qh (qp qhu (j9 (qa (qy (Vj rfl) (by rfl) hdict (by first | exact PySem.boot_dict | decide +kernel) (qa (pe_ix (qq K) (pv 0) qd (fun _ _=>rfl)) qb)) qb)) (qp jr (pv 1) qd)))),?_⟩
  have hfew:=hG.few
  obtain ⟨r,ps,b1,b2,b3⟩:=hB.ex
  refine ⟨_,rfl,t,_,_,_,rfl,rfl,SqT.of b1,atI_nat (j:=1) rfl,r,ps,kvw rs,rfl,b2,Z0 b3,by rw [qaq];exact Vs hG.nd,by rw [List.length_map];omega,fun dw ndw=>?_⟩
  refine ⟨(by show 1<=sizeLine;decide),fun l0 nl0=>?_⟩
  refine ⟨_,rfl,_,_,rfl,rfl,?_⟩
  have eN:((n:Int)+1).toNat=n+1:=by omega
  refine ⟨l0,_,_,rfl,rfl,upd_same,by omega,by omega,?_,fun l nl=>?_⟩
  ·rw [eN]
   show 1 * (n+1)<=sizeLine
   exact Nat.le_of_lt (small1000 (by omega))
  ·have s1:Same H (upd (upd H dw (.dK (kvw rs))) l0 (.lst [V.ref dw])):=(Same.add ndw).trans (Same.add nl0)
   have nld:l≠dw:=fun z=>by
    rw [z,qg (ne_of_none (upd_same (H:=H) (a:=dw) (o:=.dK (kvw rs))) nl0),upd_same] at nl
    cases nl
   refine k l dw _ (s1.trans (Same.add nl)) (s1.free nl) ndw ?_ ?_
   ·rw [upd_same,eN]
    simp
   ·exact q9 (q9 upd_same (ne_of_none (upd_same (H:=H) (a:=dw) (o:=.dK (kvw rs))) nl0)) nld.symm
def spLsm:Sp:=fun vs H Q _=>∃ (l dw d:Addr) (first:List Nat) (rs:List Rule) (n:Nat) (ns:List Int),vs=[.ref l,.ref d]/\Good first rs/\n<=600/\H l=some (.lst (List.replicate (n+1) (V.ref dw)))/\H dw=some (.dK (kvw rs))/\DictI H d rs ns/\d≠dw/\ns.length=rs.length /\
 ∀ lo ls H',Same H H'->H lo=none->(∀ x∈ls,x=d\/H x=none)->DicsAt H' lo ls rs (sumN (tabI rs) ns) (n+1)->Q (.ref lo) H'
theorem scLsm:FnScope ["words","worths","told","spelling"] ["words","worths"] (defScope sLsm):=⟨rfl,rfl,rfl,by decide +kernel,rfl,by decide +kernel,by decide +kernel⟩
theorem qg9:(["letter","spelling","told"]:List Str).Nodup:=by decide +kernel
theorem qje {f fTsm:Addr} {fd fdTsm:FuncData} (F:Fun K "letter_sums" "letter_sums" sLsm f fd)
  (GTsm:FnOk P w K mg base CX0 1 fTsm fdTsm ["text","worths"] spTsm)
  (gTsm:Gf K mg "text_sum" fTsm fdTsm ["text","worths"])
  (hdict:mg "dict" = none)
  (hreversed:mg "reversed" = none)
  : FnOk P w K mg base CX0 2 f fd ["words","worths"] spLsm:=by
 refine F.ok scLsm (fun vs H Q E h=>?_) (fun cdv A outer s H vs Q E hr h=>?_)
 ·obtain ⟨l0,dw,d,first,rs,n,ns,rfl,_⟩:=h
  rfl
 ·obtain ⟨l0,dw,d,first,rs,n,ns,rfl,hG,hn,h0,hw,hD,hdw,hl,k⟩:=h
  have hu:=Vb hr
  refine ⟨_,(qc (ql (i:=2) scLsm.nd rfl (Or.inr rfl) (j9 (qa (pv 1) qb)))
   (qc (za PassesOwn.never rfl (qgg K rfl hreversed (qa (vc (Vg K) (pv 0) vq (po_some (V1 yd qd))) qb)) (qj (i:=3) scLsm.nd rfl (Or.inr rfl)) (qf (jo (Jt K PySem.F.plainAttrs_list PySem.F.slot_list_append PySem.F.type_list_append zb (pv 2) (qa (qy (vf K rfl hu) (by rfl) hdict (by first | exact PySem.boot_dict | decide +kernel) (qa (qfk (qz (N':=["letter","spelling","told"]) (ix:=[none,some 3,some 2]) rfl rfl (qck (pv 3)) (fun _ _ _ _ _ _=>(qj (i:=0) qg9 rfl (Or.inl rfl))) (fun _ _ _ _ _ _=>qx) (fun _ _ _ _ _ _=>(ja (qa (pv 0) (qa (qe GTsm hr rfl gTsm.m gTsm.k gTsm.b .nil pass0 (qa (j6 hu (pv 1) (pv 0) (fun _ _=>rfl)) (qa (pe_ix (jc K) (pv 2) (V1 yd qd) (fun _ _=>rfl)) qb))) qb)))))) qb)) qb)))))
   (qf (qh (pv 2))))),?_⟩
  have hfew:=hG.few
  have lsn:∀ j,(sumN (tabI rs) ns j).length=rs.length:=qer (jn rs) hl
  refine ⟨_,rfl,(by show 1<=sizeLine;decide),fun l nl=>?_⟩
  have nll:l0≠l:=ne_of_none h0 nl
  have ndl:d≠l:=ne_of_none hD nl
  have nwl:dw≠l:=ne_of_none hw nl
  refine ⟨_,rfl,_,rfl,_,rfl,l0,_,rfl,SqL.of (q9 h0 nll),fun p np=>?_⟩
  have npl:l≠p:=ne_of_none (upd_same (H:=H) (a:=l) (o:=.lst [V.ref d])) np
  refine ⟨p,List.replicate n (V.ref dw),rfl,SqL.of (by rw [upd_same];exact congrArg (fun z=>some (HO.lst z)) (qdh n (V.ref dw))),?_⟩
  refine for_by (qeh (xs:=List.replicate n (V.ref dw))) (fun i σ H5=>∃ (ls:List Addr) (v3:Option V),σ=[some (.ref l0),some (.ref d),some (.ref l),v3]/\Same H H5/\H5 p=some (.lst (List.replicate n (V.ref dw)))/\l ∉ ls/\(∀ x∈ls,x=d\/H x=none)/\DicsAt H5 l ls rs (sumN (tabI rs) ns) (i+1)) ?_ ?_ ?_ ?_
  ·refine ⟨[d],none,rfl,(Same.add nl).trans (Same.add np),by rw [upd_same];exact congrArg (fun z=>some (HO.lst z)) (qdh n (V.ref dw)),(fun z=>ndl (List.mem_singleton.mp z).symm),fun x hx=>.inl (List.mem_singleton.mp hx),⟨q9 upd_same npl,rfl,fun i a e1=>?_⟩⟩
   cases i with
   | succ i=>simp at e1
   | zero =>
    cases e1
    exact (Same.add np) _ _ (q9 hD ndl)
  ·rintro i σ H5 hi ⟨ls,v3,rfl,s5,hp5,_⟩
   exact SqL.of hp5
  ·rintro j x σ H5 hx ⟨ls,v3,rfl,s5,hp5,hlo,hfr,hTl⟩
   have hx':x=V.ref dw/\j < n:=by
    rw [List.reverse_replicate,List.getElem?_replicate] at hx
    split at hx
    ·rename_i hj
     exact ⟨(Option.some.inj hx).symm,hj⟩
    ·cases hx
   obtain ⟨rfl,hjn⟩:=hx'
   have ln:(ls.map V.ref).length=j+1:=by rw [List.length_map,hTl.len]
   obtain ⟨a,ha⟩:∃ a,ls[j]? = some a:=⟨ls[j]'(by rw [hTl.len];omega),List.getElem?_eq_getElem _⟩
   have hv:=hTl.at_ j a ha
   have naw:a≠dw:=by
    rcases hfr a (List.mem_of_getElem? ha) with z | z
    ·rw [z];exact hdw
    ·exact (ne_of_none hw z).symm
   have hw5:=s5 _ _ hw
   refine ⟨_,rfl,.inl ⟨rfl,_,SqL.of hTl.top⟩,dw,kvw rs,hw5,fun ob=>?_⟩
   refine ⟨_,rfl,dw,ob,kvw rs,rfl,upd_same,?_⟩
   have ek:((kvw rs).map fun p=>kV p.1).length=rs.length:=by rw [List.length_map,List.length_map]
   refine je (τ0:=[none,some (V.ref dw),some (V.ref l)]) (Zi (d:=dw) (ob:=ob) (kvs:=kvw rs)) (by rw [ek];omega)
    (fun i ys τ H6=>Same (upd H5 dw (.frz ob (.dK (kvw rs)))) H6/\(∃ v,τ=[v,some (.ref dw),some (.ref l)])/\∃ ps':List Addr,ys=ps'.map V.ref/\ps'.length=i/\PairsAt H6 ps' (dkI ((ltr rs).take i) ((rs.map fun q=>dot (c0 rs q.2) (sumN (tabI rs) ns j)).take i)))
    ⟨Same.refl _,⟨_,rfl⟩,[],rfl,rfl,.nil⟩ ?_ ?_ ?_
   ·rintro i ys τ H6 hi ⟨s6,_,ps',rfl,lp,_⟩
    exact ⟨s6 _ _ upd_same,by rw [List.length_map];omega⟩
   ·rintro i x ys τ H6 hx ⟨s6,⟨v,rfl⟩,ps',rfl,lp,hP⟩
    rw [List.map_map,List.getElem?_map] at hx
    cases e1:rs[i]? with
    | none=>rw [e1] at hx;cases hx
    | some q =>
     obtain ⟨c,w'⟩:=q
     rw [e1] at hx
     cases hx
     have hm:=List.mem_of_getElem? e1
     have hg:DGet H6 dw (sign c) (some (tx w')):=.inl ⟨kvw rs,Sum.inr (one c),.inr ⟨ob,s6 _ _ upd_same⟩,rfl,(Vv hG.nd hm).symm⟩
     have hT6:=s6 _ _ (q9 (o:=.frz ob (.dK (kvw rs))) hTl.top nwl.symm)
     refine ⟨_,rfl,_,rfl,_,rfl,dw,_,rfl,hg,_,rfl,_,rfl,l,_,_,_,rfl,rfl,SqL.of hT6,atI_last ln (by rw [List.getElem?_map,ha];rfl),?_⟩
     refine ⟨a,rs,_,w',rfl,s6 _ _ (q9 hv naw),lsn j,by have:=hG.wl _ hm;simp only at this;omega,fun c' hc'=>hG.win _ hm c' hc',fun H7 s7=>⟨(by show 2<=sizeLine;decide),fun T hT=>?_⟩⟩
     have s8:Same H6 (upd H7 T (.tup [sign c,V.int (w'.map (lk (ltr rs) (sumN (tabI rs) ns j))).sum])):=s7.trans (Same.add hT)
     refine ⟨s6.trans s8,⟨_,rfl⟩,ps'++[T],by rw [List.map_append];rfl,by rw [List.length_append,lp];rfl,?_⟩
     have h1:(ltr rs)[i]? = some c:=by unfold ltr;rw [List.getElem?_map,e1];rfl
     have h2:(rs.map fun q=>dot (c0 rs q.2) (sumN (tabI rs) ns j))[i]? = some (dot (c0 rs w') (sumN (tabI rs) ns j)):=by rw [List.getElem?_map,e1];rfl
     have lt:((rs.map fun q=>dot (c0 rs q.2) (sumN (tabI rs) ns j)).take i).length=((ltr rs).take i).length:=by unfold ltr;rw [List.length_take,List.length_take,List.length_map,List.length_map]
     rw [List.take_add_one,List.take_add_one,h1,h2]
     show PairsAt _ _ (dkI (_++[c]) (_++[dot (c0 rs w') (sumN (tabI rs) ns j)]))
     rw [<- qag lt]
     refine ya ?_ (va (TupS.same s8) hP)
     rw [upd_same,qe0 hG _ (lsn j)]
     rfl
   ·rintro ys τ H6 D0 ⟨s6,_,ps',rfl,lp,hP⟩ hD0
    rw [ek] at hP
    have t1:(ltr rs).take rs.length=ltr rs:=by
     have:=take_all (ltr rs)
     unfold ltr at this ⊢
     rwa [List.length_map] at this
    have t2:(rs.map fun q=>dot (c0 rs q.2) (sumN (tabI rs) ns j)).take rs.length=sumN (tabI rs) ns (j+1):=by
     have:=take_all (rs.map fun q=>dot (c0 rs q.2) (sumN (tabI rs) ns j))
     rw [List.length_map] at this
     rw [this]
     exact (qe1 rs _).symm
    rw [t1,t2] at hP
    have ll:(sumN (tabI rs) ns (j+1)).length=(ltr rs).length:=by rw [lsn];unfold ltr;rw [List.length_map]
    have lr:(ltr rs).length=rs.length:=by unfold ltr;rw [List.length_map]
    have f6:=s6 _ _ (upd_same (H:=H5) (a:=dw) (o:=.frz ob (.dK (kvw rs))))
    have nDw:D0≠dw:=(ne_of_none f6 hD0).symm
    have f7:(upd H6 D0 (.lst (ps'.map V.ref))) dw=some (.frz ob (.dK (kvw rs))):=q9 f6 nDw.symm
    have sC:Same H5 (upd (upd H6 D0 (.lst (ps'.map V.ref))) dw (.dK (kvw rs))):=thaw (s6.trans (Same.add hD0)) hw5
    refine ⟨f7,D0,ps',_,rfl,SqL.of (q9 upd_same nDw),va ((TupS.same (Same.add hD0)).trans (qar f7)) hP,by rw [yj ll];exact Vs hG.nd,by rw [qc4 ll,lr];omega,fun dn hdn=>?_⟩
    have nel:dn≠l:=(ne_of_none (sC _ _ hTl.top) hdn).symm
    have sD:Same H5 (upd (upd (upd H6 D0 (.lst (ps'.map V.ref))) dw (.dK (kvw rs))) dn (.dK (dkI (ltr rs) (sumN (tabI rs) ns (j+1))))):=sC.trans (Same.add hdn)
    refine ⟨l,_,_,rfl,rfl,sD _ _ hTl.top,small1000 (by rw [ln];omega),ls++[dn],_,rfl,fun c o hc=>?_,?_,?_,?_,?_⟩
    ·exact q9 (sD _ _ (s5 _ _ hc)) (ne_of_none hc nl)
    ·exact q9 (sD _ _ hp5) npl.symm
    ·intro z
     rcases List.mem_append.mp z with z | z
     ·exact hlo z
     ·exact nel (List.mem_singleton.mp z).symm
    ·intro x hx
     rcases List.mem_append.mp hx with z | z
     ·exact hfr x z
     ·rw [List.mem_singleton.mp z]
      exact .inr (s5.free (sC.free hdn))
    ·refine ⟨by rw [upd_same,List.map_append];rfl,by rw [List.length_append,hTl.len];rfl,fun i a' e1=>?_⟩
     by_cases hi:i < ls.length
     ·rw [List.getElem?_append_left hi] at e1
      exact q9 (sD _ _ (hTl.at_ i a' e1)) fun z=>hlo (by rw [<- z];exact List.mem_of_getElem? e1)
     ·rw [List.getElem?_append_right (by omega)] at e1
      cases z:i - ls.length with
      | zero =>
       rw [z] at e1
       cases e1
       have ei:i=j+1:=by have:=hTl.len;omega
       subst ei
       exact q9 upd_same nel
      | succ n'=>rw [z] at e1;cases e1
  ·rintro σ H5 ⟨ls,v3,rfl,s5,hp5,hlo,hfr,hTl⟩
   rw [List.length_reverse,List.length_replicate] at hTl
   exact ⟨_,rfl,k l ls H5 s5 nl hfr hTl⟩
def spSsm:Sp:=fun vs H Q _=>∃ (l dw:Addr) (first:List Nat) (rs:List Rule) (n:Nat),vs=[.ref l]/\Good first rs/\n<=600/\H l=some (.lst (List.replicate (n+1) (V.ref dw)))/\H dw=some (.dK (kvw rs)) /\
 ∀ lo ls H',Same H H'->H lo=none->(∀ x∈ls,H x=none)->DicsAt H' lo ls rs (lenN rs.length (tabI rs)) (n+1)->Q (.ref lo) H'
theorem scSsm:FnScope ["words"] ["words"] (defScope sSsm):=⟨rfl,rfl,rfl,by decide +kernel,rfl,by decide +kernel,by decide +kernel⟩
theorem qha:(["letter"]:List Str).Nodup:=by decide +kernel
theorem qjf {f fLsm:Addr} {fd fdLsm:FuncData} (F:Fun K "size_sums" "size_sums" sSsm f fd)
  (GLsm:FnOk P w K mg base CX0 2 fLsm fdLsm ["words","worths"] spLsm)
  (gLsm:Gf K mg "letter_sums" fLsm fdLsm ["words","worths"])
  (hdict:mg "dict" = none)
  : FnOk P w K mg base CX0 3 f fd ["words"] spSsm:=by
 refine F.ok scSsm (fun vs H Q E h=>?_) (fun cdv A outer s H vs Q E hr h=>?_)
 ·obtain ⟨l0,dw,first,rs,n,rfl,_⟩:=h
  rfl
 ·obtain ⟨l0,dw,first,rs,n,rfl,hG,hn,h0,hw,k⟩:=h
  have hu:=Vb hr
  refine ⟨_,(qf (qh (qe GLsm hr rfl gLsm.m gLsm.k gLsm.b .nil pass0 (qa (pv 0) (qa (qy (vf K rfl hu) (by rfl) hdict (by first | exact PySem.boot_dict | decide +kernel) (qa (qfk (qz (N':=["letter"]) (ix:=[none]) rfl rfl (qck (pe_ix (jc K) (pv 0) (V1 yd qd) (fun _ _=>rfl))) (fun _ _ _ _ _ _=>(qj (i:=0) qha rfl (Or.inl rfl))) (fun _ _ _ _ _ _=>qx) (fun _ _ _ _ _ _=>(ja (qa (pv 0) (qa qd qb)))))) qb)) qb))))),?_⟩
  have hfew:=hG.few
  have lr:(ltr rs).length=rs.length:=by unfold ltr;rw [List.length_map]
  have nlw:l0≠dw:=fun z=>by rw [z,hw] at h0;cases h0
  refine ⟨_,rfl,dw,kvw rs,hw,fun ob=>?_⟩
  refine ⟨_,rfl,_,rfl,l0,_,_,_,rfl,rfl,SqL.of (q9 h0 nlw),atI_last (j:=n) (by rw [List.length_replicate]) (by rw [List.getElem?_replicate,if_pos (Nat.lt_succ_self n)]),dw,ob,kvw rs,rfl,upd_same,?_⟩
  have ek:((kvw rs).map fun p=>kV p.1).length=rs.length:=by rw [List.length_map,List.length_map]
  refine je (τ0:=[none]) (Zi (d:=dw) (ob:=ob) (kvs:=kvw rs)) (by rw [ek];omega)
   (fun i ys τ H6=>Same (upd H dw (.frz ob (.dK (kvw rs)))) H6/\(∃ v,τ=[v])/\∃ ps':List Addr,ys=ps'.map V.ref/\ps'.length=i/\PairsAt H6 ps' (dkI ((ltr rs).take i) (List.replicate i 1)))
   ⟨Same.refl _,⟨_,rfl⟩,[],rfl,rfl,.nil⟩ ?_ ?_ ?_
  ·rintro i ys τ H6 hi ⟨s6,_,ps',rfl,lp,_⟩
   exact ⟨s6 _ _ upd_same,by rw [List.length_map];omega⟩
  ·rintro i x ys τ H6 hx ⟨s6,⟨v,rfl⟩,ps',rfl,lp,hP⟩
   rw [List.map_map,List.getElem?_map] at hx
   cases e1:rs[i]? with
   | none=>rw [e1] at hx;cases hx
   | some q =>
    obtain ⟨c,w'⟩:=q
    rw [e1] at hx
    cases hx
    refine ⟨_,rfl,(by show 2<=sizeLine;decide),fun T hT=>?_⟩
    refine ⟨s6.trans (Same.add hT),⟨_,rfl⟩,ps'++[T],by rw [List.map_append];rfl,by rw [List.length_append,lp];rfl,?_⟩
    have hi:=(List.getElem?_eq_some_iff.mp e1).1
    have h1:(ltr rs)[i]? = some c:=by unfold ltr;rw [List.getElem?_map,e1];rfl
    rw [List.take_add_one,h1,List.replicate_succ']
    show PairsAt _ _ (dkI (_++[c]) _)
    rw [<- qag (by rw [List.length_replicate,List.length_take];omega)]
    refine ya ?_ (va (TupS.same (Same.add hT)) hP)
    rw [upd_same]
    rfl
  ·rintro ys τ H6 D0 ⟨s6,_,ps',rfl,lp,hP⟩ hD0
   rw [ek] at hP
   rw [List.take_of_length_le (by omega)] at hP
   have ll:(List.replicate rs.length (1:Int)).length=(ltr rs).length:=by rw [List.length_replicate,lr]
   have f6:=s6 _ _ (upd_same (H:=H) (a:=dw) (o:=.frz ob (.dK (kvw rs))))
   have nDw:D0≠dw:=(ne_of_none f6 hD0).symm
   have f7:(upd H6 D0 (.lst (ps'.map V.ref))) dw=some (.frz ob (.dK (kvw rs))):=q9 f6 nDw.symm
   have sC:Same H (upd (upd H6 D0 (.lst (ps'.map V.ref))) dw (.dK (kvw rs))):=thaw (s6.trans (Same.add hD0)) hw
   refine ⟨f7,D0,ps',_,rfl,SqL.of (q9 upd_same nDw),va ((TupS.same (Same.add hD0)).trans (qar f7)) hP,by rw [yj ll];exact Vs hG.nd,by rw [qc4 ll,lr];omega,fun dn hdn=>?_⟩
   have sD:Same H (upd (upd (upd H6 D0 (.lst (ps'.map V.ref))) dw (.dK (kvw rs))) dn (.dK (dkI (ltr rs) (List.replicate rs.length 1)))):=sC.trans (Same.add hdn)
   refine ⟨l0,dw,dn,first,rs,n,_,rfl,hG,hn,sD _ _ h0,sD _ _ hw,upd_same,(ne_of_none (sC _ _ hw) hdn).symm,by rw [List.length_replicate],fun lo ls H8 s8 n8 hfr h8=>?_⟩
   refine k lo ls H8 (sD.trans s8) (sD.free n8) (fun x hx=>?_) ⟨h8.top,h8.len,fun i a e=>?_⟩
   ·rcases hfr x hx with z | z
    ·rw [z];exact sC.free hdn
    ·exact sD.free z
   ·rw [qc6]
    exact h8.at_ i a e
def spLns:Sp:=fun vs H Q _=>∃ (t:Addr) (first:List Nat) (rs:List Rule) (n:Nat),vs=[.ref t,.int (n:Int)]/\BookAt H t first rs/\Good first rs/\n<=600 /\
 ∀ l ls H',Same H H'->H l=none->(∀ x∈ls,H x=none)->DicsAt H' l ls rs (lenN rs.length (tabI rs)) (n+1)->Q (.ref l) H'
theorem scLns:FnScope ["book","age"] ["book","age"] (defScope sLns):=⟨rfl,rfl,rfl,by decide +kernel,rfl,by decide +kernel,by decide +kernel⟩
theorem qjg {f fSsm fWba:Addr} {fd fdSsm fdWba:FuncData} (F:Fun K "length_sums" "length_sums" sLns f fd)
  (GSsm:FnOk P w K mg base CX0 3 fSsm fdSsm ["words"] spSsm)
  (gSsm:Gf K mg "size_sums" fSsm fdSsm ["words"])
  (GWba:FnOk P w K mg base CX0 1 fWba fdWba ["book","age"] spWba)
  (gWba:Gf K mg "words_by_age" fWba fdWba ["book","age"])
  : FnOk P w K mg base CX0 4 f fd ["book","age"] spLns:=by
 refine F.ok scLns (fun vs H Q E h=>?_) (fun cdv A outer s H vs Q E hr h=>?_)
 ·obtain ⟨t,first,rs,n,rfl,_⟩:=h
  rfl
 ·obtain ⟨t,first,rs,n,rfl,hB,hG,hn,k⟩:=h
  have hr1:Room 1 _:=hr.mono (by decide)
  refine ⟨_,(qf (qh (qe GSsm hr rfl gSsm.m gSsm.k gSsm.b .nil pass0 (qa (qe GWba hr1 rfl gWba.m gWba.k gWba.b .nil pass0 (qa (pv 0) (qa (pv 1) qb))) qb)))),?_⟩
  refine ⟨_,rfl,_,rfl,t,first,rs,n,rfl,hB,hG,hn,fun l dw H1 s1 n1 nw e1 ew=>?_⟩
  refine ⟨l,dw,first,rs,n,rfl,hG,hn,e1,ew,fun lo ls H2 s2 n2 hfr h2=>?_⟩
  exact k lo ls H2 (s1.trans s2) (s1.free n2) (fun x hx=>s1.free (hfr x hx)) h2
def spLls:Sp:=fun vs H Q _=>∃ (t:Addr) (first:List Nat) (rs:List Rule) (n:Nat),vs=[.ref t,.int (n:Int)]/\BookAt H t first rs/\Good first rs/\n<=300 /\
 ∀ d H',Same H H'->H d=none->H' d=some (.lst ((lenN rs.length (tabI rs) n).map V.int))->Q (.ref d) H'
theorem scLls:FnScope ["book","age"] ["book","age"] (defScope sLls):=⟨rfl,rfl,rfl,by decide +kernel,rfl,by decide +kernel,by decide +kernel⟩
theorem qjh {f fNag fLns:Addr} {fd fdNag fdLns:FuncData} (F:Fun K "letter_lengths" "letter_lengths" sLls f fd)
  (GNag:FnOk P w K mg base CX0 3 fNag fdNag ["age"] spNag)
  (gNag:Gf K mg "need_age" fNag fdNag ["age"])
  (GLns:FnOk P w K mg base CX0 4 fLns fdLns ["book","age"] spLns)
  (gLns:Gf K mg "length_sums" fLns fdLns ["book","age"])
  (hlist:mg "list" = none)
  : FnOk P w K mg base CX0 5 f fd ["book","age"] spLls:=by
 refine F.ok scLls (fun vs H Q E h=>?_) (fun cdv A outer s H vs Q E hr h=>?_)
 ·obtain ⟨t,first,rs,n,rfl,_⟩:=h
  rfl
 ·obtain ⟨t,first,rs,n,rfl,hB,hG,hn,k⟩:=h
  have hr3:Room 3 _:=hr.mono (by decide)
  refine ⟨_,(qc (jo (qe GNag hr3 rfl gNag.m gNag.k gNag.b .nil pass0 (qa (pv 1) qb)))
   (qf (qh (qy (zt K rfl) (by rfl) hlist (by first | exact PySem.boot_list | decide +kernel) (qa (qgb K PySem.F.plainAttrs_dict PySem.F.slot_dict_values PySem.F.type_dict_values qce (pe_ix (jc K) (qe GLns hr rfl gLns.m gLns.k gLns.b .nil pass0 (qa (pv 0) (qa (pv 1) qb))) (pv 1) (fun _ _=>rfl))) qb))))),?_⟩
  have lr:(ltr rs).length=rs.length:=by unfold ltr;rw [List.length_map]
  have ln:=vm (k:=rs.length) (jn rs) n
  refine ⟨_,rfl,n,rfl,hn,?_⟩
  refine ⟨_,rfl,_,rfl,t,first,rs,n,rfl,hB,hG,by omega,fun l ls H1 s1 n1 _ h1=>?_⟩
  obtain ⟨a,ha⟩:∃ a,ls[n]? = some a:=⟨ls[n]'(by rw [h1.len];omega),List.getElem?_eq_getElem _⟩
  have hv:=h1.at_ n a ha
  refine ⟨_,rfl,l,_,_,_,rfl,rfl,SqL.of h1.top,atI_nat (by rw [List.getElem?_map,ha];rfl),?_⟩
  refine ⟨.inr (.inr (.inl ⟨rfl,.inl ⟨_,hv⟩⟩)),a,_,rfl,rfl,hv,fun v nv=>?_⟩
  refine ⟨v,a,_,rfl,upd_same,q9 hv (ne_of_none hv nv),fun d nd=>?_⟩
  have sA:=s1.trans ((Same.add (o:=viewO v a) nv).trans (Same.add (o:=.lst ((dkI (ltr rs) (lenN rs.length (tabI rs) n)).map (·.2))) nd))
  refine k d _ sA (s1.free ((Same.add (o:=viewO v a) nv).free nd)) ?_
  rw [upd_same,qaf (by rw [ln,lr])]
end
end Lw
namespace Lw
open PySem L2 PyProof.Rows
structure StepsAt (H:Hp) (as:List Addr) (W:List (Nat × Nat)):Prop where
 len:as.length=W.length
 at_:∀ (i:Nat) a p,as[i]? = some a->W[i]? = some p->H a=some (.tup [sign p.1,.int ((p.2:Nat):Int)])
theorem StepsAt.mono {H H':Hp} {as:List Addr} {W:List (Nat × Nat)} (h:StepsAt H as W) (s:TupS H H'):StepsAt H' as W:=⟨h.len,fun i a p e1 e2=>s _ _ (h.at_ i a p e1 e2)⟩
theorem StepsAt.snoc {H:Hp} {as:List Addr} {W:List (Nat × Nat)} {a:Addr} {p:Nat × Nat} (h:StepsAt H as W) (e:H a=some (.tup [sign p.1,.int ((p.2:Nat):Int)])):StepsAt H (as++[a]) (W++[p]):=by
 refine ⟨by rw [List.length_append,List.length_append,h.len];rfl,fun i b q e1 e2=>?_⟩
 by_cases hi:i < as.length
 ·rw [List.getElem?_append_left hi] at e1
  rw [List.getElem?_append_left (by rw [<- h.len];exact hi)] at e2
  exact h.at_ i b q e1 e2
 ·have hi2:i=as.length:=by
   have:=(List.getElem?_eq_some_iff.mp e1).1
   rw [List.length_append,List.length_singleton] at this
   omega
  rw [List.getElem?_append_right (by omega),hi2,Nat.sub_self] at e1
  rw [List.getElem?_append_right (by rw [<- h.len];omega),hi2,<- h.len,Nat.sub_self] at e2
  cases e1
  cases e2
  exact e
theorem qfw {rs:List Rule} {c:Nat} (nd:(ltr rs).Nodup) (h:c∈ltr rs):valV (kvw rs) (Sum.inr (one c):Key)=some (tx (wd rs c)):=by
 obtain ⟨q,h1,h2,h3⟩:=Je h
 rw [h3,<- h2]
 exact Vv nd h1
theorem wd_in {first:List Nat} {rs:List Rule} (hG:Good first rs) {c:Nat} (h:c∈ltr rs):∀ d∈wd rs c,d∈ltr rs:=by
 obtain ⟨q,h1,h2,h3⟩:=Je h
 rw [h3]
 exact hG.win q h1
theorem wd_le {first:List Nat} {rs:List Rule} (hG:Good first rs) {c:Nat} (h:c∈ltr rs):(wd rs c).length<=6:=by
 obtain ⟨q,h1,h2,h3⟩:=Je h
 rw [h3]
 exact hG.wl q h1
theorem qe2 (f:Nat->Nat) {x:List Nat} {j c:Nat} (e:x[j]? = some c):((x.take (j+1)).map f).sum=((x.take j).map f).sum+f c:=by
 rw [List.take_add_one,e,List.map_append,List.sum_append]
 simp
structure Fam (rs:List Rule) (F:Nat->List Int) (g:Nat->Nat->Nat):Prop where
 len:∀ m,(F m).length=rs.length
 lkg:∀ m,∀ c∈ltr rs,lk (ltr rs) (F m) c=((g m c:Nat):Int)
abbrev szG (rs:List Rule):Nat->Nat->Nat:=gN rs fun _=>1
theorem qdi {first:List Nat} {rs:List Rule} (hG:Good first rs):Fam rs (lenN rs.length (tabI rs)) (szG rs):=⟨vm (jn rs),fun m c hc=>by rw [Yl hG m hc];show _=((gN rs (fun _=>1) m c:Nat):Int);rw [qam]⟩
theorem Fam.sum {rs:List Rule} {F:Nat->List Int} {g:Nat->Nat->Nat} (h:Fam rs F g) (m:Nat) {x:List Nat} (hx:∀ c∈x,c∈ltr rs):(x.map (lk (ltr rs) (F m))).sum=(((x.map (g m)).sum:Nat):Int):=qh7 (h.lkg m) hx
section
variable {P:Program} {w:World} {K:W.Frag} {mg:Str->Option Value} {base:Heap}
def spWbh (K:W.Frag):Sp:=fun vs H Q _=>∃ (lw ls dw:Addr) (ds:List Addr) (first:List Nat) (rs:List Rule) (F:Nat->List Int) (g0:Nat->Nat) (n pl:Nat),vs=[tx first,.ref lw,.ref ls,.int (pl:Int)]/\Good first rs/\n<=600/\H lw=some (.lst (List.replicate (n+1) (V.ref dw)))/\H dw=some (.dK (kvw rs)) /\
 DicsAt H ls ds rs F (n+1)/\Fam rs F (gN rs g0)/\pl < (first.map (gN rs g0 n)).sum/\∀ l as H',Same H H'->H l=none->H' l=some (.lst (as.map V.ref))->StepsAt H' as (wayG rs (gN rs g0) (n+1) first pl)->Q (.ref l) H'
theorem scWbh:FnScope ["first","words","sums","many","told","text","left","worths","spelling","index"] ["first","words","sums","many"] (defScope sWbh):=⟨rfl,rfl,rfl,by decide +kernel,rfl,by decide +kernel,by decide +kernel⟩
theorem qji {f:Addr} {fd:FuncData} (F:Fun K "way_behind" "way_behind" sWbh f fd)
  (hzip:mg "zip" = none)
  (hreversed:mg "reversed" = none)
  : FnOk P w K mg base CX0 1 f fd ["first","words","sums","many"] (spWbh K):=by
 refine F.ok scWbh (fun vs H Q E h=>?_) (fun cdv A outer s H vs Q E hr h=>?_)
 ·obtain ⟨lw,ls,dw,ds,first,rs,Fm,g0,n,pl,rfl,_⟩:=h
  rfl
 ·obtain ⟨lw,ls,dw,ds,first,rs,Fm,g0,n,pl,rfl,hG,hn,hw,hdw,hD,hF,hpl,k⟩:=h
  have hu:=Vb hr
  refine ⟨_,(qc (ql (i:=4) scWbh.nd rfl (Or.inl rfl) (j9 qb))
   (qc (ql (i:=5) scWbh.nd rfl (Or.inl rfl) (pv 0))
   (qc (ql (i:=6) scWbh.nd rfl (Or.inl rfl) (pv 3))
   (qc (za PassesOwn.never rfl (Y5 K rfl hzip rfl hreversed (qa (pv 2) qb) (qa (pv 1) qb)) (zr K (n:=2) rfl (qo (qj (i:=7) scWbh.nd rfl (Or.inl rfl)) (qo (qj (i:=8) scWbh.nd rfl (Or.inl rfl)) vb))) (qc (ql (i:=9) scWbh.nd rfl (Or.inl rfl) qd)
   (qc (Yr PassesOwn.never (qr qdt (j6 hu (pv 7) (pe_ix Yu (pv 5) (pv 9) (fun _ _=>rfl)) (fun _ _=>rfl)) (pv 6) (nomark _)) (qc (qfb (i:=6) scWbh.nd rfl (Or.inl rfl) (j6 hu (pv 7) (pe_ix Yu (pv 5) (pv 9) (fun _ _=>rfl)) (fun _ _=>rfl)) qhp)
   (qf (qfb (i:=9) scWbh.nd rfl (Or.inl rfl) qd qho))))
   (qc (jo (Jt K PySem.F.plainAttrs_list PySem.F.slot_list_append PySem.F.type_list_append zb (pv 4) (qa (ja (qa (pe_ix Yu (pv 5) (pv 9) (fun _ _=>rfl)) (qa (pv 9) qb))) qb)))
   (qf (ql (i:=5) scWbh.nd rfl (Or.inl rfl) (j6 hu (pv 8) (pe_ix Yu (pv 5) (pv 9) (fun _ _=>rfl)) (fun _ _=>rfl))))))))
   (qf (qh (pv 4))))))),?_⟩
  refine ⟨(by show 0<=sizeLine;decide),fun l nl=>?_⟩
  have s1:Same H (upd H l (.lst [])):=Same.add nl
  have hl1:upd H l (.lst []) l=some (.lst []):=upd_same
  revert s1 hl1
  generalize upd H l (.lst [])=H1
  intro s1 hl1
  have fin0:∀ m,n+1=m+1->pl < (first.map (gN rs g0 m)).sum:=fun m hm=>by
   obtain rfl:m=n:=by omega
   exact hpl
  have ld:(ds.map V.ref).length=n+1:=by rw [List.length_map,hD.len]
  refine ⟨_,rfl,_,rfl,_,rfl,ls,ds.map V.ref,rfl,SqL.of (s1 _ _ hD.top),_,rfl,lw,List.replicate (n+1) (V.ref dw),rfl,SqL.of (s1 _ _ hw),SqL.of (s1 _ _ hD.top),?_⟩
  refine for_by2 (Zn (xs:=ds.map V.ref) (ys:=List.replicate (n+1) (V.ref dw))) (fun i σ H2=>∃ (as:List Addr) (pre:List (Nat × Nat)) (x:List Nat) (r kk:Nat) (v7 v8 v9:Option V),σ=[some (tx first),some (.ref lw),some (.ref ls),some (.int (pl:Int)),some (.ref l),some (tx x),some (.int (r:Int)),v7,v8,v9] /\
   Same H H2/\H2 l=some (.lst (as.map V.ref))/\StepsAt H2 as pre/\pre.length=i/\i+kk=n+1/\pre++wayG rs (gN rs g0) kk x r=wayG rs (gN rs g0) (n+1) first pl/\(∀ c∈x,c∈ltr rs)/\x.length<=12/\(∀ m,kk=m+1->r < (x.map (gN rs g0 m)).sum))
   ⟨[],[],first,pl,n+1,_,_,_,rfl,s1,hl1,⟨rfl,fun i a p e=>by simp at e⟩,rfl,by omega,rfl,hG.fin,hG.fl,fin0⟩ ?_ ?_ ?_
  ·rintro i σ H2 hi ⟨as,pre,x,r,kk,v7,v8,v9,rfl,s2,_⟩
   exact ⟨SqL.of (s2 _ _ hD.top),SqL.of (s2 _ _ hw)⟩
  ·rintro i us σ H2 T hz ⟨as,pre,x,r,kk,v7,v8,v9,rfl,s2,hl2,hS,hpre,hik,hW,hx,hx12,hr0⟩ hT
   rw [List.getElem?_map] at hz
   cases ez:((ds.map V.ref).reverse.zip (List.replicate (n+1) (V.ref dw)))[i]? with
   | none=>rw [ez] at hz;cases hz
   | some pr =>
    obtain ⟨px,py⟩:=pr
    rw [ez] at hz
    cases hz
    obtain ⟨q1,q2⟩:=List.getElem?_zip_eq_some.mp ez
    have hi:i < n+1:=by have:=(List.getElem?_eq_some_iff.mp q2).1;rwa [List.length_replicate] at this
    have q2':V.ref dw=py:=by rw [List.getElem?_replicate,if_pos hi] at q2;exact Option.some.inj q2
    subst q2'
    obtain ⟨m,rfl⟩:∃ m,kk=m+1:=⟨kk - 1,by omega⟩
    rw [List.getElem?_reverse (by rw [ld];exact hi),ld] at q1
    have e1:n+1 - 1 - i=m:=by omega
    rw [e1,List.getElem?_map] at q1
    cases ed:ds[m]? with
    | none=>rw [ed] at q1;cases q1
    | some d =>
     rw [ed] at q1
     have q1':V.ref d=px:=Option.some.inj q1
     subst q1'
     have sT:=Same.add (o:=.tup [V.ref d,V.ref dw]) hT
     refine ⟨T,_,rfl,SqT.of upd_same,rfl,_,_,rfl,_,_,rfl,rfl,?_⟩
     have s3:=s2.trans sT
     have hl3:=sT _ _ hl2
     have hS3:=hS.mono (TupS.same sT)
     revert s3 hl3 hS3
     generalize upd H2 T (.tup [V.ref d,V.ref dw])=H3
     intro s3 hl3 hS3
     have hd3:=s3 _ _ (hD.at_ m d ed)
     have hw3:=s3 _ _ hdw
     have rlt:r < (x.map (gN rs g0 m)).sum:=hr0 m rfl
     have ll:(Fm m).length=(ltr rs).length:=by rw [hF.len];unfold ltr;rw [List.length_map]
     refine ⟨fun q σ H5=>∃ j:Nat,σ=[some (tx first),some (.ref lw),some (.ref ls),some (.int (pl:Int)),some (.ref l),some (tx x),some (.int ((r - ((x.take j).map (gN rs g0 m)).sum:Nat):Int)),some (.ref d),some (.ref dw),some (.int (j:Int))]/\q=x.length - j/\H5=H3/\j<=x.length/\((x.take j).map (gN rs g0 m)).sum<=r,⟨_,0,rfl,rfl,rfl,Nat.zero_le _,Nat.zero_le _⟩,?_⟩
     rintro q σ H5 ⟨j,rfl,rfl,rfl,hj,hsum⟩
     have jl:j < x.length:=by
      rcases Nat.lt_or_ge j x.length with h | h
      ·exact h
      ·rw [List.take_of_length_le h] at hsum
       omega
     have ec:x[j]? = some x[j]:=List.getElem?_eq_getElem jl
     revert ec
     generalize x[j]=c
     intro ec
     have hc:=hx c (List.mem_of_getElem? ec)
     have hg:=DGet.k (k:=(Sum.inr (one c):Key)) hd3
     rw [Vr ll hc,hF.lkg m c hc] at hg
     have szx:(⟨x.toArray⟩:Str).length<=sizeLine:=Nat.le_of_lt (small1000 (show x.length<=1000 by omega))
     refine ⟨_,rfl,_,rfl,_,rfl,⟨x.toArray⟩,_,_,rfl,rfl,szx,atI_nat ec,d,_,rfl,hg,_,rfl,_,_,rfl,rfl,_,rfl,?_⟩
     refine ite2 (fun hc1=>?_) (fun hc1=>?_)
     ·have hle:gN rs g0 m c<=r - ((x.take j).map (gN rs g0 m)).sum:=by
       have h4:((gN rs g0 m c:Nat):Int)<=((r - ((x.take j).map (gN rs g0 m)).sum:Nat):Int):=of_decide_eq_true hc1
       omega
      have ts:=qe2 (gN rs g0 m) ec
      refine ⟨fun σ' H'=>(∃ a b:Int,σ'=[some (tx first),some (.ref lw),some (.ref ls),some (.int (pl:Int)),some (.ref l),some (tx x),some (.int a),some (.ref d),some (.ref dw),some (.int b)]/\a=((r - ((x.take (j+1)).map (gN rs g0 m)).sum:Nat):Int)/\b=((j+1:Nat):Int))/\H'=H5,?_,?_⟩
      ·rintro σ' H' ⟨⟨a,b,rfl,rfl,rfl⟩,rfl⟩
       exact ⟨x.length - (j+1),by omega,j+1,rfl,rfl,rfl,by omega,by omega⟩
      ·refine ⟨_,rfl,_,rfl,_,rfl,_,rfl,⟨x.toArray⟩,_,_,rfl,rfl,szx,atI_nat ec,d,_,rfl,hg,_,_,rfl,rfl,?_⟩
       exact ⟨_,rfl,_,_,rfl,rfl,⟨_,_,rfl,by show ((r - ((x.take j).map (gN rs g0 m)).sum:Nat):Int) - ((gN rs g0 m c:Nat):Int)=_;omega,by show (j:Int)+1=_;omega⟩,rfl⟩
     ·have hlt:¬ gN rs g0 m c<=r - ((x.take j).map (gN rs g0 m)).sum:=fun z=>hc1 (decide_eq_true (by show ((gN rs g0 m c:Nat):Int)<=((r - ((x.take j).map (gN rs g0 m)).sum:Nat):Int);omega))
      have pk:=qdb (gN rs g0 m) x j r c ec hsum (by omega)
      refine ⟨_,rfl,.inl ⟨rfl,_,SqL.of hl3⟩,_,rfl,_,rfl,⟨x.toArray⟩,_,_,rfl,rfl,szx,atI_nat ec,_,rfl,(by show 2<=sizeLine;decide),fun U nU=>?_⟩
      have sU:=Same.add (o:=.tup [sign c,V.int (j:Int)]) nU
      have hU:upd H5 U (.tup [sign c,V.int (j:Int)]) U=some (.tup [sign c,V.int (j:Int)]):=upd_same
      have hl4:=sU _ _ hl3
      have s4:=s3.trans sU
      have hS4:=hS3.mono (TupS.same sU)
      refine ⟨l,_,_,rfl,rfl,hl4,small1000 (by rw [List.length_map,hS.len,hpre];omega),?_⟩
      have nw:dw≠l:=ne_of_none hdw nl
      have hgw:=DGet.k (k:=(Sum.inr (one c):Key)) (q9 (o:=.lst (as.map V.ref++[V.ref U])) (s4 _ _ hdw) nw)
      rw [qfw hG.nd hc] at hgw
      refine ⟨_,rfl,_,rfl,_,rfl,⟨x.toArray⟩,_,_,rfl,rfl,szx,atI_nat ec,dw,_,rfl,hgw,?_⟩
      have tk:TupS (upd H5 U (.tup [sign c,V.int (j:Int)])) (upd (upd H5 U (.tup [sign c,V.int (j:Int)])) l (.lst (as.map V.ref++[V.ref U]))):=fun b ys e=>q9 e fun z=>by rw [z,hl4] at e;cases e
      refine ⟨as++[U],pre++[(c,j)],wd rs c,r - ((x.take j).map (gN rs g0 m)).sum,m,_,_,_,rfl,fun b o hb=>q9 (s4 _ _ hb) (ne_of_none hb nl),by rw [upd_same,List.map_append];rfl,(hS4.mono tk).snoc (tk _ _ hU),by rw [List.length_append,hpre];rfl,by omega,?_,wd_in hG hc,Nat.le_trans (wd_le hG hc) (by decide),?_⟩
      ·rw [<- hW]
       have eg:x.getD j 0=c:=by rw [List.getD_eq_getElem?_getD,ec];rfl
       have ew:wayG rs (gN rs g0) (m+1) x r=(c,j) :: wayG rs (gN rs g0) m (wd rs c) (r - ((x.take j).map (gN rs g0 m)).sum):=by
        show (x.getD (pick (gN rs g0 m) x r).1 0,(pick (gN rs g0 m) x r).1) :: wayG rs (gN rs g0) m (wd rs (x.getD (pick (gN rs g0 m) x r).1 0)) (pick (gN rs g0 m) x r).2=_
        rw [pk]
        show (x.getD j 0,j) :: wayG rs (gN rs g0) m (wd rs (x.getD j 0)) _=_
        rw [eg]
       rw [ew,List.append_assoc]
       rfl
      ·rintro m' rfl
       show _ < gN rs g0 (m' + 1) c
       omega
  ·rintro σ H2 ⟨as,pre,x,r,kk,v7,v8,v9,rfl,s2,hl2,hS,hpre,hik,hW,hx,hx12,hr0⟩
   have en:(((ds.map V.ref).reverse.zip (List.replicate (n+1) (V.ref dw))).map fun p=>[p.1,p.2]).length=n+1:=by
    rw [List.length_map,List.length_zip,List.length_reverse,ld,List.length_replicate,Nat.min_self]
   rw [en] at hik
   have:kk=0:=by omega
   subst this
   have hW':pre=wayG rs (gN rs g0) (n+1) first pl:=by rw [<- hW];exact (List.append_nil _).symm
   rw [hW'] at hS
   exact ⟨_,rfl,k l as H2 s2 nl hl2 hS⟩
def spNpl:Sp:=fun vs H Q _=>∃ (n:Nat) (m:Int),vs=[.int (n:Int),.int m]/\(n:Int)<=m/\Q .non H
theorem scNpl:FnScope ["place","last"] ["place","last"] (defScope sNpl):=⟨rfl,rfl,rfl,by decide +kernel,rfl,by decide +kernel,by decide +kernel⟩
theorem qjj {f fWin:Addr} {fd fdWin:FuncData} (F:Fun K "need_place" "need_place" sNpl f fd)
  (GWin:FnOk P w K mg base CX0 2 fWin fdWin ["thing","least","most"] (spWin K))
  (gWin:Gf K mg "is_within" fWin fdWin ["thing","least","most"])
  : FnOk P w K mg base CX0 3 f fd ["place","last"] spNpl:=by
 refine F.ok scNpl (fun vs H Q E h=>?_) (fun cdv A outer s H vs Q E hr h=>?_)
 ·obtain ⟨n,m,rfl,_⟩:=h
  rfl
 ·obtain ⟨n,m,rfl,hn,k⟩:=h
  refine ⟨_,(qf (jd (jw (j0 (qe GWin hr rfl gWin.m gWin.k gWin.b .nil pass0 (qa (pv 0) (qa qd (qa (pv 1) qb)))))) j7 qm)),?_⟩
  exact ⟨_,rfl,_,rfl,.int (n:Int),0,m,rfl,.inl ⟨_,rfl,by omega,hn,_,rfl,iteF k⟩⟩
def spWay:Sp:=fun vs H Q _=>∃ (t:Addr) (first:List Nat) (rs:List Rule) (n pl:Nat),vs=[.ref t,.int (n:Int),.int (pl:Int)]/\BookAt H t first rs/\Good first rs/\n<=300/\pl < (first.map (szG rs n)).sum/\∀ l as H',Same H H'->H l=none->H' l=some (.lst (as.map V.ref))->StepsAt H' as (wayG rs (szG rs) (n+1) first pl)->Q (.ref l) H'
theorem scWay:FnScope ["book","age","place","sums"] ["book","age","place"] (defScope sWay):=⟨rfl,rfl,rfl,by decide +kernel,rfl,by decide +kernel,by decide +kernel⟩
theorem qjk {f fNag fLns fNpl fWbh fWba fTsm:Addr} {fd fdNag fdLns fdNpl fdWbh fdWba fdTsm:FuncData} (F:Fun K "way" "way" sWay f fd)
  (GNag:FnOk P w K mg base CX0 3 fNag fdNag ["age"] spNag)
  (gNag:Gf K mg "need_age" fNag fdNag ["age"])
  (GLns:FnOk P w K mg base CX0 4 fLns fdLns ["book","age"] spLns)
  (gLns:Gf K mg "length_sums" fLns fdLns ["book","age"])
  (GNpl:FnOk P w K mg base CX0 3 fNpl fdNpl ["place","last"] spNpl)
  (gNpl:Gf K mg "need_place" fNpl fdNpl ["place","last"])
  (GWbh:FnOk P w K mg base CX0 1 fWbh fdWbh ["first","words","sums","many"] (spWbh K))
  (gWbh:Gf K mg "way_behind" fWbh fdWbh ["first","words","sums","many"])
  (GWba:FnOk P w K mg base CX0 1 fWba fdWba ["book","age"] spWba)
  (gWba:Gf K mg "words_by_age" fWba fdWba ["book","age"])
  (GTsm:FnOk P w K mg base CX0 1 fTsm fdTsm ["text","worths"] spTsm)
  (gTsm:Gf K mg "text_sum" fTsm fdTsm ["text","worths"])
  : FnOk P w K mg base CX0 5 f fd ["book","age","place"] spWay:=by
 refine F.ok scWay (fun vs H Q E h=>?_) (fun cdv A outer s H vs Q E hr h=>?_)
 ·obtain ⟨t,first,rs,n,pl,rfl,_⟩:=h
  rfl
 ·obtain ⟨t,first,rs,n,pl,rfl,hB,hG,hn,hpl,k⟩:=h
  have hr1:Room 1 _:=hr.mono (by decide)
  have hr3:Room 3 _:=hr.mono (by decide)
  refine ⟨_,(qc (jo (qe GNag hr3 rfl gNag.m gNag.k gNag.b .nil pass0 (qa (pv 1) qb)))
   (qc (ql (i:=3) scWay.nd rfl (Or.inl rfl) (qe GLns hr rfl gLns.m gLns.k gLns.b .nil pass0 (qa (pv 0) (qa (pv 1) qb))))
   (qc (jo (qe GNpl hr3 rfl gNpl.m gNpl.k gNpl.b .nil pass0 (qa (pv 2) (qa (qp Ys (qe GTsm hr1 rfl gTsm.m gTsm.k gTsm.b .nil pass0 (qa (pe_ix (qq K) (pv 0) qd (fun _ _=>rfl)) (qa (pe_ix (jc K) (pv 3) (pv 1) (fun _ _=>rfl)) qb))) qd) qb))))
   (qf (qh (qe GWbh hr1 rfl gWbh.m gWbh.k gWbh.b .nil pass0 (qa (pe_ix (qq K) (pv 0) qd (fun _ _=>rfl)) (qa (qe GWba hr1 rfl gWba.m gWba.k gWba.b .nil pass0 (qa (pv 0) (qa (pv 1) qb))) (qa (pv 3) (qa (pv 2) qb)))))))))),?_⟩
  refine ⟨_,rfl,n,rfl,hn,?_⟩
  refine ⟨_,rfl,_,rfl,t,first,rs,n,rfl,hB,hG,by omega,fun l ls H1 s1 nl _ hD=>?_⟩
  obtain ⟨r,ps,b1,b2,b3⟩:=hB.ex
  have ln:=vm (k:=rs.length) (jn rs) n
  obtain ⟨a,ha⟩:∃ a,ls[n]? = some a:=⟨ls[n]'(by rw [hD.len];omega),List.getElem?_eq_getElem _⟩
  have hv:=hD.at_ n a ha
  refine ⟨_,rfl,_,rfl,t,_,_,_,rfl,rfl,SqT.of (s1 _ _ b1),atI_nat (j:=0) rfl,_,rfl,_,rfl,l,_,_,_,rfl,rfl,SqL.of hD.top,atI_nat (by rw [List.getElem?_map,ha];rfl),a,rs,_,first,rfl,hv,ln,Nat.le_trans hG.fl (by decide),hG.fin,fun H2 s2=>?_⟩
  rw [(qdi hG).sum n hG.fin]
  refine ⟨_,_,rfl,rfl,pl,(((first.map (szG rs n)).sum:Nat) - 1:Int),rfl,by omega,?_⟩
  have s12:=s1.trans s2
  refine ⟨_,rfl,t,_,_,_,rfl,rfl,SqT.of (s12 _ _ b1),atI_nat (j:=0) rfl,_,rfl,_,rfl,t,first,rs,n,rfl,hB.mono (TupS.same s12),hG,by omega,fun lw dw H3 s3 n1 nw e1 ew=>?_⟩
  refine ⟨_,rfl,_,rfl,lw,l,dw,ls,first,rs,lenN rs.length (tabI rs),_,n,pl,rfl,hG,by omega,e1,ew,(hD.mono s2).mono s3,qdi hG,hpl,fun l' as H4 s4 nl' hl' hS=>k l' as H4 (s12.trans (s3.trans s4)) (s12.free (s3.free nl')) hl' hS⟩
def spLea:Sp:=fun vs H Q _=>∃ (t:Addr) (first:List Nat) (rs:List Rule) (n pl:Nat),vs=[.ref t,.int (n:Int),.int (pl:Int)]/\BookAt H t first rs/\Good first rs/\n<=300/\pl < (first.map (szG rs n)).sum/\∀ H',Same H H'->Q (sign (lastL (wayG rs (szG rs) (n+1) first pl) 0)) H'
theorem scLea:FnScope ["book","age","place"] ["book","age","place"] (defScope sLea):=⟨rfl,rfl,rfl,by decide +kernel,rfl,by decide +kernel,by decide +kernel⟩
theorem qjl {f fWay:Addr} {fd fdWay:FuncData} (F:Fun K "letter_at" "letter_at" sLea f fd)
  (GWay:FnOk P w K mg base CX0 5 fWay fdWay ["book","age","place"] spWay)
  (gWay:Gf K mg "way" fWay fdWay ["book","age","place"])
  : FnOk P w K mg base CX0 6 f fd ["book","age","place"] spLea:=by
 refine F.ok scLea (fun vs H Q E h=>?_) (fun cdv A outer s H vs Q E hr h=>?_)
 ·obtain ⟨t,first,rs,n,pl,rfl,_⟩:=h
  rfl
 ·obtain ⟨t,first,rs,n,pl,rfl,hB,hG,hn,hpl,k⟩:=h
  refine ⟨_,(qf (qh (pe_ix (qq K) (pe_ix (jc K) (qe GWay hr rfl gWay.m gWay.k gWay.b .nil pass0 (qa (pv 0) (qa (pv 1) (qa (pv 2) qb)))) (V1 yd qd) (fun _ _=>rfl)) qd (fun _ _=>rfl)))),?_⟩
  refine ⟨_,rfl,_,rfl,_,rfl,t,first,rs,n,pl,rfl,hB,hG,hn,hpl,fun l as H1 s1 nl hl hS=>?_⟩
  have wl:=qan rs (szG rs) (n+1) first pl
  have la:as.length=n+1:=by rw [hS.len,wl]
  obtain ⟨a,ha⟩:∃ a,as[n]? = some a:=⟨as[n]'(by omega),List.getElem?_eq_getElem _⟩
  obtain ⟨p,p1⟩:∃ p,(wayG rs (szG rs) (n+1) first pl)[n]? = some p:=⟨_,List.getElem?_eq_getElem (by rw [wl];omega)⟩
  have ht:=hS.at_ n a p ha p1
  have e:=Jg (wayG rs (szG rs) (n+1) first pl) 0 (p:=p) (by rw [wl];exact p1)
  have kk:=k H1 s1
  rw [e] at kk
  exact ⟨_,rfl,l,_,_,_,rfl,rfl,SqL.of hl,atI_last (by rw [List.length_map,la]) (by rw [List.getElem?_map,ha];rfl),a,_,_,_,rfl,rfl,SqT.of ht,atI_nat (j:=0) rfl,kk⟩
end
end Lw
namespace Lw
open PySem L2 PyProof.Rows
theorem qhb (ws:List (List Nat)):ws.map tx=(ws.map fun w=>(⟨w.toArray⟩:Str)).map V.str:=by rw [List.map_map];rfl
theorem qfx (ws:List (List Nat)):((ws.map fun w=>(⟨w.toArray⟩:Str)).map (·.length)).sum=ws.flatten.length:=by
 rw [List.map_map,List.length_flatten]
 rfl
theorem qdj (ws:List (List Nat)):Txt.join (Str.ofString "") (ws.map fun w=>(⟨w.toArray⟩:Str))=⟨ws.flatten.toArray⟩:=by
 show Txt.join ⟨#[]⟩ _=_
 rw [qcy,List.map_map]
 congr 3
 exact (List.map_congr_left fun w _=>rfl).trans (List.map_id _)
theorem qe3 {K:W.Frag} {ix:List (Option Nat)} {σ:L2.St} {H:Hp} {Q:VK} {tl:TE} {d:Addr} {first:List Nat} {rs:List Rule} {x:List Nat} (hG:Good first rs) (e:cst ix σ=[none,some (.ref d)]) (hd:H d=some (.dK (kvw rs))) (hx:∀ c∈x,c∈ltr rs) (hl:x.length<=1000) (ht:∀ R:VK,R (tx x) H->tl σ H R)
  (k:∀ H',Same H H'->Q (tx (nxt rs x)) H') :
  tBM K "str" (rJoin K) (tC (.str (Str.ofString ""))) (tCons (tComp ix (iStr tl) (gName 0) tAll (tDGet (tVar 1) (tVar 0))) tNil) σ H Q:=by
 refine ⟨rfl,ht _ ⟨⟨x.toArray⟩,rfl,?_⟩⟩
 rw [e]
 refine jq (Q:=fun y Ha=>rJoin K (.str (Str.ofString "")) [y] Ha Q) (τ0:=[none,some (.ref d)]) sure_str (by rw [List.length_map];show x.length<=_;omega)
  (fun n us τ H6=>H6=H/\(∃ v,τ=[v,some (.ref d)])/\us=((x.take n).map (wd rs)).map tx) ⟨rfl,⟨_,rfl⟩,rfl⟩ ?_ ?_ ?_
 ·rintro n us τ H6 hn ⟨rfl,_,rfl⟩
  refine ⟨trivial,?_⟩
  rw [List.length_map,List.length_map,List.length_take]
  omega
 ·rintro n y us τ H6 hy ⟨rfl,⟨v,rfl⟩,rfl⟩
  have hy':(x.map sign)[n]? = some y:=hy
  rw [List.getElem?_map] at hy'
  cases e6:x[n]? with
  | none=>rw [e6] at hy';cases hy'
  | some c =>
   rw [e6] at hy'
   cases hy'
   have hg:=DGet.k (k:=(Sum.inr (one c):Key)) hd
   rw [qfw hG.nd (hx c (List.mem_of_getElem? e6))] at hg
   refine ⟨_,rfl,_,rfl,d,_,rfl,hg,rfl,⟨_,rfl⟩,?_⟩
   rw [q0 (wd rs) e6,List.map_append]
   rfl
 ·rintro us τ H6 D ⟨rfl,_,rfl⟩ hD
  have ew:((⟨x.toArray⟩:Str).cps.toList.map sign).length=x.length:=by simp
  rw [ew,take_all]
  have lf:=qah hG hx
  unfold nxt at lf
  refine ⟨_,D,(x.map (wd rs)).map fun w=>(⟨w.toArray⟩:Str),rfl,rfl,SqL.of (by rw [upd_same,qhb]),?_,?_⟩
  ·rw [qfx,List.length_map,List.length_map]
   show _+_ * 0<=_
   omega
  ·have e2:=qdj (x.map (wd rs))
   have k2:=k _ (Same.add (o:=.lst (((x.map (wd rs)).map tx))) hD)
   unfold nxt at k2
   rw [e2]
   exact k2
theorem qbl {K:W.Frag} {H:Hp} {l:Addr} {ys:List Nat} (hl:H l=some (.lst (ys.map sign))) (hz:ys.length<=1000):∃ ss:List Str,SqL K H l (ss.map V.str)/\(ss.map (·.length)).sum+ss.length * (Str.ofString "").length<=16777216/\Txt.join (Str.ofString "") ss=⟨ys.toArray⟩:=by
 have e1:ys.map sign=((ys.map fun c=>[c]).map fun w=>(⟨w.toArray⟩:Str)).map V.str:=by
  rw [List.map_map,List.map_map]
  rfl
 have e2:(ys.map fun c=>[c]).flatten=ys:=by
  clear hl hz e1
  induction ys with
  | nil=>rfl
  | cons y ys ih=>rw [List.map_cons,List.flatten_cons,ih];rfl
 refine ⟨(ys.map fun c=>[c]).map fun w=>(⟨w.toArray⟩:Str),SqL.of (by rw [hl,e1]),?_,?_⟩
 ·rw [qfx,e2,List.length_map,List.length_map]
  show _+_ * 0<=_
  omega
 ·have e3:=qdj (ys.map fun c=>[c])
  rw [e2] at e3
  exact e3
theorem qe4 (xs:List V) (x:V):cutV (xs++[x]) none (some (-1))=xs:=by
 unfold cutV
 have h0:HT.sIx (xs++[x]).length 0 none=0:=rfl
 have h1:HT.sIx (xs++[x]).length (xs++[x]).length (some (-1))=xs.length:=by
  unfold HT.sIx
  rw [List.length_append,List.length_singleton]
  simp
  omega
 rw [h0,h1,List.drop_zero,Nat.sub_zero,List.take_left]
section
variable {P:Program} {w:World} {K:W.Frag} {mg:Str->Option Value} {base:Heap}
def spRep:Sp:=fun vs H Q _=>∃ (x:List Nat) (d:Addr) (first:List Nat) (rs:List Rule),vs=[tx x,.ref d]/\Good first rs/\H d=some (.dK (kvw rs))/\x.length<=1000/\(∀ c∈x,c∈ltr rs)/\∀ H',Same H H'->Q (tx (nxt rs x)) H'
theorem scRep:FnScope ["text","words"] ["text","words"] (defScope sRep):=⟨rfl,rfl,rfl,by decide +kernel,rfl,by decide +kernel,by decide +kernel⟩
theorem qhc:(["letter","words"]:List Str).Nodup:=by decide +kernel
theorem qjm {f:Addr} {fd:FuncData} (F:Fun K "replaced" "replaced" sRep f fd)
  : FnOk P w K mg base CX0 1 f fd ["text","words"] spRep:=by
 refine F.ok scRep (fun vs H Q E h=>?_) (fun cdv A outer s H vs Q E hr h=>?_)
 ·obtain ⟨x,d,first,rs,rfl,_⟩:=h
  rfl
 ·obtain ⟨x,d,first,rs,rfl,hG,hd,hx,hin,k⟩:=h
  have hu:=Vb hr
  refine ⟨_,(qf (qh (Jt K PySem.F.plainAttrs_str PySem.F.slot_str_join PySem.F.type_str_join (Yx K) jz (qa (qz (N':=["letter","words"]) (ix:=[none,some 1]) rfl rfl (yv (pv 0)) (fun _ _ _ _ _ _=>(qj (i:=0) qhc rfl (Or.inl rfl))) (fun _ _ _ _ _ _=>qx) (fun _ _ _ _ _ _=>(j6 hu (pv 1) (pv 0) (fun _ _=>rfl)))) qb)))),?_⟩
  exact qe3 (K:=K) (d:=d) (rs:=rs) (x:=x) hG rfl hd hin hx (fun R h=>⟨_,rfl,h⟩) k
def spWit (K:W.Frag):Sp:=fun vs H Q _=>∃ (x:List Nat) (d:Addr) (first:List Nat) (rs:List Rule) (n start many:Nat),vs=[tx x,.ref d,.int (start:Int),.int (many:Int)]/\Good first rs/\DictI H d rs (lenN rs.length (tabI rs) n)/\x.length<=600/\(∀ c∈x,c∈ltr rs) /\
 ∀ (T:Addr) (y:List Nat) (inner:Int) H',Same H H'->H' T=some (.tup [tx y,.int inner])->Wit rs n start many (rowN rs x n) y inner->(∀ c∈y,c∈x)->Q (.ref T) H'
theorem scWit:FnScope ["text","sizes","start","many","kept","inner","begin","letter","end"] ["text","sizes","start","many"] (defScope sWit):=⟨rfl,rfl,rfl,by decide +kernel,rfl,by decide +kernel,by decide +kernel⟩
theorem qjn {f:Addr} {fd:FuncData} (F:Fun K "within" "within" sWit f fd)
  (hmax:mg "max" = none)
  (hmin:mg "min" = none)
  : FnOk P w K mg base CX0 1 f fd ["text","sizes","start","many"] (spWit K):=by
 refine F.ok scWit (fun vs H Q E h=>?_) (fun cdv A outer s H vs Q E hr h=>?_)
 ·obtain ⟨x,d,first,rs,n,start,many,rfl,_⟩:=h
  rfl
 ·obtain ⟨x,d,first,rs,n,start,many,rfl,hG,hd,hx,hin,k⟩:=h
  have hu:=Vb hr
  refine ⟨_,(qc (ql (i:=4) scWit.nd rfl (Or.inl rfl) (j9 qb))
   (qc (ql (i:=5) scWit.nd rfl (Or.inl rfl) (pv 2))
   (qc (ql (i:=6) scWit.nd rfl (Or.inl rfl) qd)
   (qc (za PassesOwn.never rfl (yv (pv 0)) (qj (i:=7) scWit.nd rfl (Or.inl rfl)) (qc (ql (i:=8) scWit.nd rfl (Or.inl rfl) (qp jr (pv 6) (j6 hu (pv 1) (pv 7) (fun _ _=>rfl))))
   (qc (jd (qr qbt (qi (qbv rfl) (by rfl) hmax (show bootBuiltins "max" = some (.builtin "max") by decide +kernel) (qa (pv 6) (qa (pv 2) qb))) (qi (qbw rfl) (by rfl) hmin (show bootBuiltins "min" = some (.builtin "min") by decide +kernel) (qa (pv 8) (qa (qp jr (pv 2) (pv 3)) qb))) (nomark _)) (qc (jd (jw (pt_truthK K (pv 4) (fun _=>rfl))) (qf (ql (i:=5) scWit.nd rfl (Or.inl rfl) (qp Ys (pv 2) (pv 6)))) qm)
   (qf (jo (Jt K PySem.F.plainAttrs_list PySem.F.slot_list_append PySem.F.type_list_append zb (pv 4) (qa (pv 7) qb))))) qm)
   (qf (ql (i:=6) scWit.nd rfl (Or.inl rfl) (pv 8))))))
   (qf (qh (ja (qa (Jt K PySem.F.plainAttrs_str PySem.F.slot_str_join PySem.F.type_str_join (Yx K) jz (qa (pv 4) qb)) (qa (pv 5) qb))))))))),?_⟩
  refine ⟨(by show 0<=sizeLine;decide),fun l nl=>?_⟩
  have s1:Same H (upd H l (.lst [])):=Same.add nl
  have hl1:upd H l (.lst []) l=some (.lst []):=upd_same
  revert s1 hl1
  generalize upd H l (.lst [])=H1
  intro s1 hl1
  refine ⟨_,rfl,_,rfl,⟨x.toArray⟩,rfl,?_⟩
  refine for_by (sure_str (x:=⟨x.toArray⟩)) (fun i σ H2=>∃ (y:List Nat) (inner:Int) (b:Nat) (v7 v8:Option V),σ=[some (tx x),some (.ref d),some (.int (start:Int)),some (.int (many:Int)),some (.ref l),some (.int inner),some (.int (b:Int)),v7,v8]/\b=(rowN rs (x.take i) n).length /\
   Same H H2/\H2 l=some (.lst (y.map sign))/\Wit rs n start many (rowN rs (x.take i) n) y inner/\(∀ c∈y,c∈x)/\y.length<=i) ⟨[],start,0,_,_,rfl,by rw [List.take_zero,rowN_nil];rfl,s1,hl1,by rw [List.take_zero,rowN_nil];exact Wit.nil rs n start many,(fun c hc=>by cases hc),Nat.le_refl _⟩ (fun _ _ _ _ _=>trivial) ?_ ?_
  ·rintro i z σ H2 hz ⟨y,inner,b,v7,v8,rfl,hb,s2,hl2,hW,hy,hyl⟩
   have hz':(x.map sign)[i]? = some z:=hz
   rw [List.getElem?_map] at hz'
   cases ec:x[i]? with
   | none=>rw [ec] at hz';cases hz'
   | some c =>
    rw [ec] at hz'
    cases hz'
    have hi:=(List.getElem?_eq_some_iff.mp ec).1
    have hc:=hin c (List.mem_of_getElem? ec)
    have ll:(lenN rs.length (tabI rs) n).length=(ltr rs).length:=by rw [vm (jn rs)];unfold ltr;rw [List.length_map]
    have hg:=DGet.k (k:=(Sum.inr (one c):Key)) (s2 _ _ hd)
    rw [Vr ll hc,Yl hG n hc] at hg
    have et:rowN rs (x.take (i+1)) n=rowN rs (x.take i) n++rowN rs [c] n:=by
     rw [List.take_add_one,ec]
     exact zf rs _ _ n
    have ez:szN rs n c=(rowN rs [c] n).length:=rfl
    have eb:b+szN rs n c=(rowN rs (x.take (i+1)) n).length:=by rw [et,List.length_append,ez,hb]
    rw [ez] at hg eb
    generalize ep:rowN rs [c] n=pc at hg eb et
    refine ⟨_,rfl,_,rfl,_,rfl,d,_,rfl,hg,_,_,rfl,rfl,?_⟩
    refine ⟨_,rfl,_,rfl,_,_,rfl,_,rfl,_,rfl,_,rfl,_,_,rfl,rfl,_,_,rfl,_,_,rfl,rfl,_,rfl,?_⟩
    refine ite2 (fun hc=>?_) (fun hc=>?_)
    ·have hk:b < b+pc.length/\start < b+pc.length/\b < start+many/\0 < many:=by
      have h4:(if (start:Int) > (b:Int) then (start:Int) else (b:Int)) < (if (start:Int)+(many:Int) < (b:Int)+((pc.length:Nat):Int) then (start:Int)+(many:Int) else (b:Int)+((pc.length:Nat):Int)):=of_decide_eq_true hc
      split at h4 <;> split at h4 <;> omega
     obtain ⟨k1,k2,k3,k4⟩:=hk
     have keepS:Same H (upd H2 l (.lst (y.map sign++[sign c]))):=fun c' o' hc'=>q9 (s2 _ _ hc') (ne_of_none hc' nl)
     have inx:∀ c'∈y++[c],c'∈x:=fun c' hc'=>by
      rcases List.mem_append.mp hc' with h | h
      ·exact hy c' h
      ·rw [List.mem_singleton.mp h];exact List.mem_of_getElem? ec
     have hsm:(y.map sign).length < 1000:=by rw [List.length_map];omega
     have hlen:(y++[c]).length<=i+1:=by rw [List.length_append];show y.length+1<=i+1;omega
     refine ⟨_,rfl,_,.inl ⟨_,SqL.of hl2,rfl⟩,?_⟩
     by_cases hy0:y=[]
     ·subst hy0
      refine iteT ⟨_,rfl,_,rfl,_,_,rfl,rfl,?_⟩
      refine ⟨_,rfl,.inl ⟨rfl,_,SqL.of hl2⟩,_,rfl,l,_,_,rfl,rfl,hl2,small1000 (by decide),_,rfl,[]++[c],(start:Int) - (b:Int),b+pc.length,_,_,by rw [Int.natCast_add];rfl,eb,keepS,upd_same,?_,inx,hlen⟩
      have hf:=hW.first (c:=c) (by rw [ep,<- hb];exact k2) k4 (by rw [<- hb];exact k3)
      rw [ep] at hf
      rw [et,hb]
      exact hf
     ·have e0:(y.map sign).isEmpty=false:=by
       cases y with
       | nil=>exact absurd rfl hy0
       | cons a r=>rfl
      rw [e0]
      refine iteF ?_
      refine ⟨_,rfl,.inl ⟨rfl,_,SqL.of hl2⟩,_,rfl,l,_,_,rfl,rfl,hl2,small1000 (by omega),_,rfl,y++[c],inner,b+pc.length,_,_,by rw [Int.natCast_add];rfl,eb,keepS,by rw [upd_same,List.map_append];rfl,?_,inx,hlen⟩
      have hf:=hW.more (c:=c) hy0 (by rw [ep];omega) (by rw [<- hb];exact k3)
      rw [ep] at hf
      rw [et]
      exact hf
    ·have hk:¬ (b < b+pc.length/\start < b+pc.length/\b < start+many/\0 < many):=fun ⟨h1,h2,h3,h5⟩=>by
      refine hc (decide_eq_true ?_)
      show (if (start:Int) > (b:Int) then (start:Int) else (b:Int)) < (if (start:Int)+(many:Int) < (b:Int)+((pc.length:Nat):Int) then (start:Int)+(many:Int) else (b:Int)+((pc.length:Nat):Int))
      split <;> split <;> omega
     refine ⟨_,rfl,y,inner,b+pc.length,_,_,by rw [Int.natCast_add];rfl,eb,s2,hl2,?_,hy,by omega⟩
     rw [et]
     exact hW.skip (by rw [<- hb];exact hk)
  ·rintro σ H2 ⟨y,inner,b,v7,v8,rfl,hb,s2,hl2,hW,hy,hyl⟩
   have el:((⟨x.toArray⟩:Str).cps.toList.map sign).length=x.length:=by simp
   rw [el,List.take_of_length_le (Nat.le_refl _)] at hW
   rw [el] at hyl
   obtain ⟨ss,j1,j2,j3⟩:=qbl (K:=K) hl2 (by omega)
   refine ⟨rfl,_,rfl,_,l,ss,rfl,rfl,j1,j2,?_⟩
   rw [j3]
   exact ⟨_,rfl,(by show 2<=sizeLine;decide),fun T nT=>k T y inner _ (s2.trans (Same.add nT)) upd_same hW hy⟩
end
end Lw
namespace Lw
open PySem L2 PyProof.Rows
section
variable {P:Program} {w:World} {K:W.Frag} {mg:Str->Option Value} {base:Heap}
def spRea (K:W.Frag):Sp:=fun vs H Q _=>∃ (lw ls dw:Addr) (ds:List Addr) (first:List Nat) (rs:List Rule) (n start many:Nat),vs=[tx first,.ref lw,.ref ls,.int (start:Int),.int (many:Int)]/\Good first rs/\n<=600/\H lw=some (.lst (List.replicate (n+1) (V.ref dw)))/\H dw=some (.dK (kvw rs)) /\
 DicsAt H ls ds rs (lenN rs.length (tabI rs)) (n+1)/\start+many<=(rowN rs first n).length/\many<=100/\∀ H',Same H H'->Q (tx (((rowN rs first n).drop start).take many)) H'
theorem scRea:FnScope ["first","words","sums","start","many","part","sizes","spelling"] ["first","words","sums","start","many"] (defScope sRea):=⟨rfl,rfl,rfl,by decide +kernel,rfl,by decide +kernel,by decide +kernel⟩
theorem qjo {f fWit fRep:Addr} {fd fdWit fdRep:FuncData} (F:Fun K "read" "read" sRea f fd)
  (GWit:FnOk P w K mg base CX0 1 fWit fdWit ["text","sizes","start","many"] (spWit K))
  (gWit:Gf K mg "within" fWit fdWit ["text","sizes","start","many"])
  (GRep:FnOk P w K mg base CX0 1 fRep fdRep ["text","words"] spRep)
  (gRep:Gf K mg "replaced" fRep fdRep ["text","words"])
  (hzip:mg "zip" = none)
  (hreversed:mg "reversed" = none)
  : FnOk P w K mg base CX0 2 f fd ["first","words","sums","start","many"] (spRea K):=by
 refine F.ok scRea (fun vs H Q E h=>?_) (fun cdv A outer s H vs Q E hr h=>?_)
 ·obtain ⟨lw,ls,dw,ds,first,rs,n,start,many,rfl,_⟩:=h
  rfl
 ·obtain ⟨lw,ls,dw,ds,first,rs,n,start,many,rfl,hG,hn,hw,hdw,hD,hsm,h100,k⟩:=h
  refine ⟨_,(qc (ql (i:=5) scRea.nd rfl (Or.inl rfl) (qe GWit hr rfl gWit.m gWit.k gWit.b .nil pass0 (qa (pv 0) (qa (pe_ix (jc K) (pv 2) (V1 yd qd) (fun _ _=>rfl)) (qa (pv 3) (qa (pv 4) qb))))))
   (qc (za PassesOwn.never rfl (Y5 K rfl hzip rfl hreversed (qa (vc (Vg K) (pv 2) vq (po_some (V1 yd qd))) qb) (qa (pv 1) qb)) (zr K (n:=2) rfl (qo (qj (i:=6) scRea.nd rfl (Or.inl rfl)) (qo (qj (i:=7) scRea.nd rfl (Or.inl rfl)) vb))) (qf (ql (i:=5) scRea.nd rfl (Or.inl rfl) (qe GWit hr rfl gWit.m gWit.k gWit.b .nil pass0 (qa (qe GRep hr rfl gRep.m gRep.k gRep.b .nil pass0 (qa (pe_ix (qq K) (pv 5) qd (fun _ _=>rfl)) (qa (pv 7) qb))) (qa (pv 6) (qa (pe_ix (qq K) (pv 5) qd (fun _ _=>rfl)) (qa (pv 4) qb))))))))
   (qf (qh (pe_ix (qq K) (pv 5) qd (fun _ _=>rfl)))))),?_⟩
  have ld:(ds.map V.ref).length=n+1:=by rw [List.length_map,hD.len]
  obtain ⟨d0,hd0⟩:∃ d,ds[n]? = some d:=⟨ds[n]'(by rw [hD.len];omega),List.getElem?_eq_getElem _⟩
  refine ⟨_,rfl,_,rfl,_,rfl,ls,_,_,_,rfl,rfl,SqL.of hD.top,atI_last ld (by rw [List.getElem?_map,hd0];rfl),_,rfl,_,rfl,first,d0,first,rs,n,start,many,rfl,hG,hD.at_ n d0 hd0,Nat.le_trans hG.fl (by decide),hG.fin,fun T0 y0 in0 H1 s1 hT0 hW0 hy0=>?_⟩
  have hR0:Red rs n start many (rowN rs first n) y0 in0:=qdd hW0 (by
   rcases Nat.eq_zero_or_pos many with h | h
   ·exact .inl ⟨h,rfl⟩
   ·exact .inr ⟨h,rfl,hsm⟩)
  have ecut:cutV (ds.map V.ref) none (some (-1))=(ds.take n).map V.ref:=by
   have e1:ds=ds.take n++[d0]:=by
    have h:=List.take_add_one (l:=ds) (i:=n)
    rw [List.take_of_length_le (by rw [hD.len];exact Nat.le_refl _),hd0] at h
    exact h
   have e2:ds.map V.ref=(ds.take n).map V.ref++[V.ref d0]:=by
    have:=congrArg (List.map V.ref) e1
    rw [List.map_append] at this
    exact this
   rw [e2]
   exact qe4 _ _
  refine ⟨_,rfl,_,rfl,_,rfl,ls,_,rfl,SqL.of (s1 _ _ hD.top),fun S nS=>?_⟩
  rw [ecut]
  have sS:=Same.add (o:=.lst ((ds.take n).map V.ref)) nS
  have hS:upd H1 S (.lst ((ds.take n).map V.ref)) S=some (.lst ((ds.take n).map V.ref)):=upd_same
  have hT1:=sS _ _ hT0
  have s2:=s1.trans sS
  revert hS hT1 s2
  generalize upd H1 S (.lst ((ds.take n).map V.ref))=H2
  intro hS hT1 s2
  refine ⟨S,(ds.take n).map V.ref,rfl,SqL.of hS,_,rfl,lw,List.replicate (n+1) (V.ref dw),rfl,SqL.of (s2 _ _ hw),SqL.of hS,?_⟩
  have lS:((ds.take n).map V.ref).length=n:=by rw [List.length_map,List.length_take,hD.len];omega
  refine for_by2 (Zn (xs:=(ds.take n).map V.ref) (ys:=List.replicate (n+1) (V.ref dw))) (fun i σ H3=>∃ (T:Addr) (y:List Nat) (inner:Int) (kk:Nat) (v6 v7:Option V),σ=[some (tx first),some (.ref lw),some (.ref ls),some (.int (start:Int)),some (.int (many:Int)),some (.ref T),v6,v7] /\
   Same H H3/\H3 S=some (.lst ((ds.take n).map V.ref))/\H3 T=some (.tup [tx y,.int inner])/\i+kk=n/\Red rs kk start many (rowN rs first n) y inner/\∀ c∈y,c∈ltr rs) ⟨T0,y0,in0,n,_,_,rfl,s2,hS,hT1,by omega,hR0,fun c hc=>hG.fin c (hy0 c hc)⟩ ?_ ?_ ?_
  ·rintro i σ H3 hi ⟨T,y,inner,kk,v6,v7,rfl,s3,hS3,_⟩
   exact ⟨SqL.of hS3,SqL.of (s3 _ _ hw)⟩
  ·rintro i us σ H3 U hz ⟨T,y,inner,kk,v6,v7,rfl,s3,hS3,hT3,hik,hR,hin⟩ hU
   rw [List.getElem?_map] at hz
   cases ez:(((ds.take n).map V.ref).reverse.zip (List.replicate (n+1) (V.ref dw)))[i]? with
   | none=>rw [ez] at hz;cases hz
   | some pr =>
    obtain ⟨px,py⟩:=pr
    rw [ez] at hz
    cases hz
    obtain ⟨q1,q2⟩:=List.getElem?_zip_eq_some.mp ez
    have hi:i < n:=by have:=(List.getElem?_eq_some_iff.mp q1).1;rwa [List.length_reverse,lS] at this
    have q2':V.ref dw=py:=by rw [List.getElem?_replicate,if_pos (by omega)] at q2;exact Option.some.inj q2
    subst q2'
    obtain ⟨m,rfl⟩:∃ m,kk=m+1:=⟨kk - 1,by omega⟩
    rw [List.getElem?_reverse (by rw [lS];exact hi),lS] at q1
    have e1:n - 1 - i=m:=by omega
    rw [e1,List.getElem?_map,List.getElem?_take_of_lt (by omega)] at q1
    cases ed:ds[m]? with
    | none=>rw [ed] at q1;cases q1
    | some d =>
     rw [ed] at q1
     have q1':V.ref d=px:=Option.some.inj q1
     subst q1'
     have sU:=Same.add (o:=.tup [V.ref d,V.ref dw]) hU
     refine ⟨U,_,rfl,SqT.of upd_same,rfl,_,_,rfl,_,_,rfl,rfl,?_⟩
     have s4:=s3.trans sU
     have hS4:=sU _ _ hS3
     have hT4:=sU _ _ hT3
     revert s4 hS4 hT4
     generalize upd H3 U (.tup [V.ref d,V.ref dw])=H4
     intro s4 hS4 hT4
     obtain ⟨s0,rfl,hyl⟩:=hR.nn
     have hnx:∀ c∈nxt rs y,c∈ltr rs:=qfq hG hin
     have hnl:=qah hG hin
     refine ⟨_,rfl,T,_,_,_,rfl,rfl,SqT.of hT4,atI_nat (j:=0) rfl,_,rfl,y,dw,first,rs,rfl,hG,s4 _ _ hdw,by omega,hin,fun H5 s5=>?_⟩
     refine ⟨_,rfl,_,rfl,T,_,_,_,rfl,rfl,SqT.of (s5 _ _ hT4),atI_nat (j:=1) rfl,_,rfl,nxt rs y,d,first,rs,m,s0,many,rfl,hG,s5 _ _ (s4 _ _ (hD.at_ m d ed)),by omega,hnx,fun T' y' in' H6 s6 hT' hW' hy'=>?_⟩
     exact ⟨T',y',in',m,_,_,rfl,s4.trans (s5.trans s6),s6 _ _ (s5 _ _ hS4),hT',by omega,hR.next (fun s1 e=>by rw [<- show s0=s1 from (by omega)];exact hW') (by omega),fun c hc=>hnx c (hy' c hc)⟩
  ·rintro σ H3 ⟨T,y,inner,kk,v6,v7,rfl,s3,hS3,hT3,hik,hR,hin⟩
   have en:((((ds.take n).map V.ref).reverse.zip (List.replicate (n+1) (V.ref dw))).map fun p=>[p.1,p.2]).length=n:=by
    rw [List.length_map,List.length_zip,List.length_reverse,lS,List.length_replicate]
    omega
   rw [en] at hik
   have:kk=0:=by omega
   subst this
   have ey:=hR.last
   subst ey
   exact ⟨_,rfl,T,_,_,_,rfl,rfl,SqT.of hT3,atI_nat (j:=0) rfl,k H3 s3⟩
def spNst:Sp:=fun vs H Q _=>∃ (start many:Nat) (W:Int),vs=[.int (start:Int),.int (many:Int),.int W]/\(start:Int)+(many:Int)<=W/\many<=100/\Q .non H
theorem scNst:FnScope ["start","many","whole"] ["start","many","whole"] (defScope sNst):=⟨rfl,rfl,rfl,by decide +kernel,rfl,by decide +kernel,by decide +kernel⟩
theorem qjp {f fNpl fWin:Addr} {fd fdNpl fdWin:FuncData} (F:Fun K "need_stretch" "need_stretch" sNst f fd)
  (GNpl:FnOk P w K mg base CX0 3 fNpl fdNpl ["place","last"] spNpl)
  (gNpl:Gf K mg "need_place" fNpl fdNpl ["place","last"])
  (GWin:FnOk P w K mg base CX0 2 fWin fdWin ["thing","least","most"] (spWin K))
  (gWin:Gf K mg "is_within" fWin fdWin ["thing","least","most"])
  {tkLONGEST_STRETCH:Tok} (hLONGEST_STRETCH:mg "LONGEST_STRETCH" = some (.int 100 tkLONGEST_STRETCH))
  : FnOk P w K mg base CX0 4 f fd ["start","many","whole"] spNst:=by
 refine F.ok scNst (fun vs H Q E h=>?_) (fun cdv A outer s H vs Q E hr h=>?_)
 ·obtain ⟨start,many,W,rfl,_⟩:=h
  rfl
 ·obtain ⟨start,many,W,rfl,hW,h100,k⟩:=h
  have hr2:Room 2 _:=hr.mono (by decide)
  refine ⟨_,(qc (jo (qe GNpl hr rfl gNpl.m gNpl.k gNpl.b .nil pass0 (qa (pv 0) (qa (pv 2) qb))))
   (qc (jd (jw (j0 (qe GWin hr2 rfl gWin.m gWin.k gWin.b .nil pass0 (qa (pv 1) (qa qd (qa (jk (v:=.int 100) (by rfl) hLONGEST_STRETCH ⟨_,rfl⟩) qb)))))) j7 qm)
   (qf (jo (qe GNpl hr rfl gNpl.m gNpl.k gNpl.b .nil pass0 (qa (qp jr (pv 0) (pv 1)) (qa (pv 2) qb))))))),?_⟩
  refine ⟨_,rfl,_,rfl,start,W,rfl,by omega,?_⟩
  refine ⟨_,rfl,.int (many:Int),0,100,rfl,.inl ⟨_,rfl,by omega,by omega,_,rfl,iteF ?_⟩⟩
  exact ⟨_,rfl,_,rfl,_,_,rfl,rfl,_,rfl,start+many,W,by rw [Int.natCast_add];rfl,by omega,k⟩
def spStr:Sp:=fun vs H Q _=>∃ (t:Addr) (first:List Nat) (rs:List Rule) (n start many:Nat),vs=[.ref t,.int (n:Int),.int (start:Int),.int (many:Int)]/\BookAt H t first rs/\Good first rs/\n<=300/\start+many<=(rowN rs first n).length/\many<=100/\∀ H',Same H H'->Q (tx (((rowN rs first n).drop start).take many)) H'
theorem scStr:FnScope ["book","age","start","many","sums"] ["book","age","start","many"] (defScope sStr):=⟨rfl,rfl,rfl,by decide +kernel,rfl,by decide +kernel,by decide +kernel⟩
theorem qjq {f fNag fLns fNst fRea fTsm fWba:Addr} {fd fdNag fdLns fdNst fdRea fdTsm fdWba:FuncData} (F:Fun K "stretch" "stretch" sStr f fd)
  (GNag:FnOk P w K mg base CX0 3 fNag fdNag ["age"] spNag)
  (gNag:Gf K mg "need_age" fNag fdNag ["age"])
  (GLns:FnOk P w K mg base CX0 4 fLns fdLns ["book","age"] spLns)
  (gLns:Gf K mg "length_sums" fLns fdLns ["book","age"])
  (GNst:FnOk P w K mg base CX0 4 fNst fdNst ["start","many","whole"] spNst)
  (gNst:Gf K mg "need_stretch" fNst fdNst ["start","many","whole"])
  (GRea:FnOk P w K mg base CX0 2 fRea fdRea ["first","words","sums","start","many"] (spRea K))
  (gRea:Gf K mg "read" fRea fdRea ["first","words","sums","start","many"])
  (GTsm:FnOk P w K mg base CX0 1 fTsm fdTsm ["text","worths"] spTsm)
  (gTsm:Gf K mg "text_sum" fTsm fdTsm ["text","worths"])
  (GWba:FnOk P w K mg base CX0 1 fWba fdWba ["book","age"] spWba)
  (gWba:Gf K mg "words_by_age" fWba fdWba ["book","age"])
  : FnOk P w K mg base CX0 5 f fd ["book","age","start","many"] spStr:=by
 refine F.ok scStr (fun vs H Q E h=>?_) (fun cdv A outer s H vs Q E hr h=>?_)
 ·obtain ⟨t,first,rs,n,start,many,rfl,_⟩:=h
  rfl
 ·obtain ⟨t,first,rs,n,start,many,rfl,hB,hG,hn,hsm,h100,k⟩:=h
  have hr1:Room 1 _:=hr.mono (by decide)
  have hr2:Room 2 _:=hr.mono (by decide)
  have hr3:Room 3 _:=hr.mono (by decide)
  refine ⟨_,(qc (jo (qe GNag hr3 rfl gNag.m gNag.k gNag.b .nil pass0 (qa (pv 1) qb)))
   (qc (ql (i:=4) scStr.nd rfl (Or.inl rfl) (qe GLns hr rfl gLns.m gLns.k gLns.b .nil pass0 (qa (pv 0) (qa (pv 1) qb))))
   (qc (jo (qe GNst hr rfl gNst.m gNst.k gNst.b .nil pass0 (qa (pv 2) (qa (pv 3) (qa (qe GTsm hr1 rfl gTsm.m gTsm.k gTsm.b .nil pass0 (qa (pe_ix (qq K) (pv 0) qd (fun _ _=>rfl)) (qa (pe_ix (jc K) (pv 4) (pv 1) (fun _ _=>rfl)) qb))) qb)))))
   (qf (qh (qe GRea hr2 rfl gRea.m gRea.k gRea.b .nil pass0 (qa (pe_ix (qq K) (pv 0) qd (fun _ _=>rfl)) (qa (qe GWba hr1 rfl gWba.m gWba.k gWba.b .nil pass0 (qa (pv 0) (qa (pv 1) qb))) (qa (pv 4) (qa (pv 2) (qa (pv 3) qb))))))))))),?_⟩
  refine ⟨_,rfl,n,rfl,hn,?_⟩
  refine ⟨_,rfl,_,rfl,t,first,rs,n,rfl,hB,hG,by omega,fun l ls H1 s1 nl _ hD=>?_⟩
  obtain ⟨r,ps,b1,b2,b3⟩:=hB.ex
  have ln:=vm (k:=rs.length) (jn rs) n
  obtain ⟨a,ha⟩:∃ a,ls[n]? = some a:=⟨ls[n]'(by rw [hD.len];omega),List.getElem?_eq_getElem _⟩
  have hv:=hD.at_ n a ha
  refine ⟨_,rfl,_,rfl,_,rfl,t,_,_,_,rfl,rfl,SqT.of (s1 _ _ b1),atI_nat (j:=0) rfl,_,rfl,_,rfl,l,_,_,_,rfl,rfl,SqL.of hD.top,atI_nat (by rw [List.getElem?_map,ha];rfl),a,rs,_,first,rfl,hv,ln,Nat.le_trans hG.fl (by decide),hG.fin,fun H2 s2=>?_⟩
  rw [qak hG n hG.fin]
  refine ⟨start,many,(((rowN rs first n).length:Nat):Int),rfl,by omega,h100,?_⟩
  have s12:=s1.trans s2
  refine ⟨_,rfl,t,_,_,_,rfl,rfl,SqT.of (s12 _ _ b1),atI_nat (j:=0) rfl,_,rfl,_,rfl,t,first,rs,n,rfl,hB.mono (TupS.same s12),hG,by omega,fun lw dw H3 s3 n1 nw e1 ew=>?_⟩
  exact ⟨_,rfl,_,rfl,_,rfl,lw,l,dw,ls,first,rs,n,start,many,rfl,hG,by omega,e1,ew,(hD.mono s2).mono s3,hsm,h100,fun H4 s4=>k H4 (s12.trans (s3.trans s4))⟩
end
end Lw
namespace Lw
open PySem L2 PyProof.Rows
theorem szl {n:Nat} (h:n<=1000):n<=sizeLine:=Nat.le_trans h (by decide)
theorem qas {f:List Nat} {rs:List Rule} (hG:Good f rs) (n:Nat):(cntN rs.length (tabI rs) (c0 rs f) n).sum=((rowN rs f n).length:Int):=by
 rw [Yj hG hG.fin,qfr hG (vw hG hG.fin n)]
theorem Vw {first:List Nat} {rs:List Rule} (hG:Good first rs) {c:Nat} (hc:c∈ltr rs):Good [c] rs:=⟨hG.few,hG.rise,hG.abc,hG.wl,hG.win,by show 1<=12;decide,fun e he=>by rw [List.mem_singleton.mp he];exact hc⟩
def fsR (rs:List Rule) (m:Nat):List Rule:=rs.map fun q=>(q.1,rowN rs [q.1] m)
theorem Vx (rs:List Rule) (m:Nat):ltr (fsR rs m)=ltr rs:=by
 unfold fsR ltr
 rw [List.map_map]
 rfl
def Sht (rs:List Rule) (m:Nat):Prop:=∀ c∈ltr rs,(rowN rs [c] m).length<=6
section
variable {P:Program} {w:World} {K:W.Frag} {mg:Str->Option Value} {base:Heap} {cTooLong cNoNumber:Addr}
def spShr:Sp:=fun vs H Q _=>∃ (t:Addr) (first:List Nat) (rs:List Rule) (n:Nat),vs=[.ref t,.int (n:Int),.int 6]/\BookAt H t first rs/\Good first rs/\n<=300/\(rowN rs first n).length<=6/\∀ H',Same H H'->Q (tx (rowN rs first n)) H'
theorem scShr:FnScope ["book","age","most","many"] ["book","age","most"] (defScope sShr):=⟨rfl,rfl,rfl,by decide +kernel,rfl,by decide +kernel,by decide +kernel⟩
theorem qjr {f fLng fStr:Addr} {fd fdLng fdStr:FuncData} (F:Fun K "short_row" "short_row" sShr f fd)
  (GLng:FnOk P w K mg base CX0 7 fLng fdLng ["book","age"] spLng)
  (gLng:Gf K mg "length" fLng fdLng ["book","age"])
  (GStr:FnOk P w K mg base CX0 5 fStr fdStr ["book","age","start","many"] spStr)
  (gStr:Gf K mg "stretch" fStr fdStr ["book","age","start","many"])
  : FnOk P w K mg base CX0 8 f fd ["book","age","most"] spShr:=by
 refine F.ok scShr (fun vs H Q E h=>?_) (fun cdv A outer s H vs Q E hr h=>?_)
 ·obtain ⟨t,first,rs,n,rfl,_⟩:=h
  rfl
 ·obtain ⟨t,first,rs,n,rfl,hB,hG,hn,h6,k⟩:=h
  have hr5:Room 5 _:=hr.mono (by decide)
  refine ⟨_,(qc (ql (i:=3) scShr.nd rfl (Or.inl rfl) (qe GLng hr rfl gLng.m gLng.k gLng.b .nil pass0 (qa (pv 0) (qa (pv 1) qb))))
   (qc (jd (qr V3 (pv 3) (pv 2) (nomark _)) j7 qm)
   (qf (qh (qe GStr hr5 rfl gStr.m gStr.k gStr.b .nil pass0 (qa (pv 0) (qa (pv 1) (qa qd (qa (pv 3) qb))))))))),?_⟩
  refine ⟨_,rfl,_,rfl,t,first,rs,n,rfl,hB,hG,hn,fun H1 s1=>?_⟩
  rw [qas hG]
  refine ⟨_,rfl,_,rfl,_,_,rfl,rfl,_,rfl,ite2 (fun hc=>?_) (fun hc=>?_)⟩
  ·exact absurd (of_decide_eq_true hc) (by show ¬ (6:Int) < _;omega)
  ·refine ⟨_,rfl,_,rfl,_,rfl,t,first,rs,n,0,(rowN rs first n).length,rfl,hB.mono (TupS.same s1),hG,hn,by omega,by omega,fun H2 s2=>?_⟩
   rw [List.drop_zero,List.take_length]
   exact k H2 (s1.trans s2)
def spShrX (K:W.Frag) (cL:Addr):Sp:=fun vs H Q E=>∃ (t:Addr) (first:List Nat) (rs:List Rule) (n:Nat),vs=[.ref t,.int (n:Int),.int 6]/\BookAt H t first rs/\Good first rs/\n<=300/\((6 < (rowN rs first n).length/\∀ H',Same H H'->E (.ref cL) none H')\/((rowN rs first n).length<=6/\∀ H',Same H H'->Q (tx (rowN rs first n)) H'))
theorem ok_shrx {f fLng fStr:Addr} {fd fdLng fdStr:FuncData} (F:Fun K "short_row" "short_row" sShr f fd)
  (GLng:FnOk P w K mg base CX0 7 fLng fdLng ["book","age"] spLng)
  (gLng:Gf K mg "length" fLng fdLng ["book","age"])
  (GStr:FnOk P w K mg base CX0 5 fStr fdStr ["book","age","start","many"] spStr)
  (gStr:Gf K mg "stretch" fStr fdStr ["book","age","start","many"])
  {cTooLong:Addr} (oTooLong:OwnCls "TooLong" cTooLong bmV "ValueError.__new__" mg base)
  : FnOk P w K mg base (CX1 P w) 8 f fd ["book","age","most"] (spShrX K cTooLong):=by
 refine F.ok1 scShr (fun vs H Q E h=>?_) (fun cdv A outer s H vs Q E hr h=>?_)
 ·obtain ⟨t,first,rs,n,rfl,_⟩:=h
  rfl
 ·obtain ⟨t,first,rs,n,rfl,hB,hG,hn,k⟩:=h
  have hr5:Room 5 _:=hr.mono (by decide)
  refine ⟨_,(qc (ql (i:=3) scShr.nd rfl (Or.inl rfl) (qe GLng hr rfl gLng.m gLng.k gLng.b .nil pass0 (qa (pv 0) (qa (pv 1) qb))))
   (qc (jd (qr V3 (pv 3) (pv 2) (nomark _)) (qf (Y0 oTooLong PySem.F.excBase_ValueError rfl (qa jz qb))) qm)
   (qf (qh (qe GStr hr5 rfl gStr.m gStr.k gStr.b .nil pass0 (qa (pv 0) (qa (pv 1) (qa qd (qa (pv 3) qb))))))))),?_⟩
  refine ⟨_,rfl,_,rfl,t,first,rs,n,rfl,hB,hG,hn,fun H1 s1=>?_⟩
  rw [qas hG]
  refine ⟨_,rfl,_,rfl,_,_,rfl,rfl,_,rfl,ite2 (fun hc=>?_) (fun hc=>?_)⟩
  ·have h6:(6:Int) < (((rowN rs first n).length:Nat):Int):=of_decide_eq_true hc
   rcases k with ⟨_,k⟩ | ⟨h,_⟩
   ·exact ⟨by decide,k _ s1⟩
   ·omega
  ·have h6:(rowN rs first n).length<=6:=by
    by_cases z:(rowN rs first n).length<=6
    ·exact z
    ·exact absurd (decide_eq_true (show (6:Int) < (((rowN rs first n).length:Nat):Int) by omega)) hc
   rcases k with ⟨h,_⟩ | ⟨_,k⟩
   ·omega
   refine ⟨_,rfl,_,rfl,_,rfl,t,first,rs,n,0,(rowN rs first n).length,rfl,hB.mono (TupS.same s1),hG,hn,by omega,by omega,fun H2 s2=>?_⟩
   rw [List.drop_zero,List.take_length]
   exact k H2 (s1.trans s2)
def spFas (K:W.Frag):Sp:=fun vs H Q _=>∃ (t:Addr) (first:List Nat) (rs:List Rule) (m:Nat),vs=[.ref t,.int (m:Int)]/\BookAt H t first rs/\Good first rs/\1<=m/\m<=8/\Sht rs m/\∀ t' H',Same H H'->BookAt H' t' first (fsR rs m)->Q (.ref t') H'
theorem scFas:FnScope ["book","many","rules"] ["book","many"] (defScope sFas):=⟨rfl,rfl,rfl,by decide +kernel,rfl,by decide +kernel,by decide +kernel⟩
theorem qdk:(["letter","book","many"]:List Str).Nodup:=by decide +kernel
theorem qjs {f fWin fShr fLet:Addr} {fd fdWin fdShr fdLet:FuncData} (F:Fun K "fast" "fast" sFas f fd)
  (GWin:FnOk P w K mg base CX0 2 fWin fdWin ["thing","least","most"] (spWin K))
  (gWin:Gf K mg "is_within" fWin fdWin ["thing","least","most"])
  (GShr:FnOk P w K mg base CX0 8 fShr fdShr ["book","age","most"] spShr)
  (gShr:Gf K mg "short_row" fShr fdShr ["book","age","most"])
  (GLet:FnOk P w K mg base CX0 2 fLet fdLet ["book"] spLet)
  (gLet:Gf K mg "letters" fLet fdLet ["book"])
  (htuple:mg "tuple" = none)
  {tkFASTEST:Tok} (hFASTEST:mg "FASTEST" = some (.int 8 tkFASTEST))
  {tkLONGEST_WORD:Tok} (hLONGEST_WORD:mg "LONGEST_WORD" = some (.int 6 tkLONGEST_WORD))
  : FnOk P w K mg base CX0 9 f fd ["book","many"] (spFas K):=by
 refine F.ok scFas (fun vs H Q E h=>?_) (fun cdv A outer s H vs Q E hr h=>?_)
 ·obtain ⟨t,first,rs,m,rfl,_⟩:=h
  rfl
 ·obtain ⟨t,first,rs,m,rfl,hB,hG,h1,h8,hs,k⟩:=h
  have hr2:Room 2 _:=hr.mono (by decide)
  refine ⟨_,(qc (jd (jw (j0 (qe GWin hr2 rfl gWin.m gWin.k gWin.b .nil pass0 (qa (pv 1) (qa qd (qa (jk (v:=.int 8) (by rfl) hFASTEST ⟨_,rfl⟩) qb)))))) j7 qm)
   (qc (qf8 (i:=2) (N':=["letter","book","many"]) (ix:=[none,some 0,some 1]) scFas.nd rfl rfl rfl rfl (yv (qe GLet hr2 rfl gLet.m gLet.k gLet.b .nil pass0 (qa (pv 0) qb))) (fun _ _ _ _ _ _=>(qj (i:=0) qdk rfl (Or.inl rfl))) (fun _ _ _ _ _ _=>qx) (fun _ _ _ _ _ _=>(ja (qa (pv 0) (qa (qe GShr hr rfl gShr.m gShr.k gShr.b .nil pass0 (qa (ja (qa (pv 0) (qa (pe_ix (qq K) (pv 1) qd (fun _ _=>rfl)) qb))) (qa (pv 2) (qa (jk (v:=.int 6) (by rfl) hLONGEST_WORD ⟨_,rfl⟩) qb)))) qb)))))
   (qf (qh (ja (qa (pe_ix (qq K) (pv 0) qd (fun _ _=>rfl)) (qa (qy (jf K) (by rfl) htuple (by first | exact PySem.boot_tuple | decide +kernel) (qa (pv 2) qb)) qb))))))),?_⟩
  have hfew:=hG.few
  obtain ⟨r,ps,b1,b2,b3⟩:=hB.ex
  refine ⟨_,rfl,.int (m:Int),1,8,rfl,.inl ⟨_,rfl,by omega,by omega,_,rfl,iteF ?_⟩⟩
  refine ⟨_,rfl,t,first,rs,rfl,hB,hfew,fun H1 s1=>⟨⟨(ltr rs).toArray⟩,rfl,?_⟩⟩
  have ew:((⟨(ltr rs).toArray⟩:Str).cps.toList.map sign).length=(ltr rs).length:=by simp
  have lr:(ltr rs).length=rs.length:=by unfold ltr;rw [List.length_map]
  refine je (τ0:=[none,some (.ref t),some (.int (m:Int))]) (sure_str (x:=⟨(ltr rs).toArray⟩)) (by rw [ew];omega) (fun i ys τ H6=>Same H1 H6/\(∃ v,τ=[v,some (.ref t),some (.int (m:Int))])/\∃ qs,ys=qs.map V.ref/\RulesAt H6 qs ((rs.take i).map fun q=>(q.1,rowN rs [q.1] m))) ⟨Same.refl _,⟨_,rfl⟩,[],rfl,.nil⟩ ?_ ?_ ?_
  ·rintro i ys τ H6 hi ⟨s6,_,qs,rfl,hq⟩
   refine ⟨trivial,?_⟩
   rw [List.length_map,hq.len,List.length_map,List.length_take]
   omega
  ·rintro i y ys τ H6 hy ⟨s6,⟨v,rfl⟩,qs,rfl,hq⟩
   have hy':((ltr rs).map sign)[i]? = some y:=hy
   rw [List.getElem?_map] at hy'
   cases e:(ltr rs)[i]? with
   | none=>rw [e] at hy';cases hy'
   | some c =>
    rw [e] at hy'
    cases hy'
    have hc:=List.mem_of_getElem? e
    obtain ⟨q,hq1,hq2⟩:∃ q,rs[i]? = some q/\q.1=c:=by
     unfold ltr at e
     rw [List.getElem?_map] at e
     cases h:rs[i]? with
     | none=>rw [h] at e;cases e
     | some q=>rw [h] at e;exact ⟨q,rfl,Option.some.inj e⟩
    have b16:=s6 _ _ (s1 _ _ b1)
    refine ⟨_,rfl,_,rfl,_,rfl,t,_,_,_,rfl,rfl,SqT.of b16,atI_nat (j:=1) rfl,szl (show 2<=1000 by decide),fun T0 nT0=>?_⟩
    have sT0:=Same.add (o:=.tup [sign c,V.ref r]) nT0
    have s07:=s1.trans (s6.trans sT0)
    have hB0:BookAt (upd H6 T0 (.tup [sign c,V.ref r])) T0 [c] rs:=⟨r,ps,upd_same,s07 _ _ b2,b3.mono (TupS.same s07)⟩
    refine ⟨_,rfl,T0,[c],rs,m,rfl,hB0,Vw hG hc,by omega,hs c hc,fun H7 s7=>⟨szl (show 2<=1000 by decide),fun T nT=>⟨s6.trans (sT0.trans (s7.trans (Same.add nT))),⟨_,rfl⟩,qs++[T],by rw [List.map_append];rfl,?_⟩⟩⟩
    rw [q0 (fun q:Rule=>(q.1,rowN rs [q.1] m)) hq1,hq2]
    exact RulesAt.snoc upd_same (hq.mono (TupS.same (sT0.trans (s7.trans (Same.add nT)))))
  rintro ys τ H6 L ⟨s6,_,qs,rfl,hq⟩ nL
  rw [ew,lr,List.take_length] at hq
  have sL:=Same.add (o:=.lst (qs.map V.ref)) nL
  have hL:upd H6 L (.lst (qs.map V.ref)) L=some (.lst (qs.map V.ref)):=upd_same
  have s17:=s6.trans sL
  have hq7:=hq.mono (TupS.same sL)
  revert s17 hL hq7
  generalize upd H6 L (.lst (qs.map V.ref))=H7
  intro hL s17 hq7
  have s07:=s1.trans s17
  refine ⟨_,rfl,t,_,_,_,rfl,rfl,SqT.of (s07 _ _ b1),atI_nat (j:=0) rfl,?_⟩
  refine ⟨_,rfl,L,_,rfl,.inl ⟨SqL.of hL,fun r' nr=>?_⟩⟩
  have sr:=Same.add (o:=.tup (qs.map V.ref)) nr
  refine ⟨szl (show 2<=1000 by decide),fun t' nt=>?_⟩
  have st:=Same.add (o:=.tup [tx first,V.ref r']) nt
  exact k t' _ (s07.trans (sr.trans st)) ⟨r',qs,upd_same,st _ _ upd_same,hq7.mono (TupS.same (sr.trans st))⟩
def spFasX (K:W.Frag) (cL cN:Addr):Sp:=fun vs H Q E=>∃ (tv z:V),vs=[tv,z]/\((OutOf K 1 8 H z/\E (.ref cN) none H)\/∃ (t:Addr) (first:List Nat) (rs:List Rule) (m:Nat),tv=.ref t/\z=.int (m:Int)/\BookAt H t first rs/\Good first rs/\1<=m/\m<=8/\¬ Sht rs m/\∀ H',Same H H'->E (.ref cL) none H')
end
end Lw
namespace Lw
open PySem L2 PyProof.Rows
theorem rowN_add (rs:List Rule) (x:List Nat) (a:Nat):∀ b,rowN rs x (a+b)=rowN rs (rowN rs x a) b
 | 0=>rfl
 | b+1=>by
  show nxt rs (rowN rs x (a+b))=nxt rs (rowN rs (rowN rs x a) b)
  rw [rowN_add rs x a b]
theorem qjt {rs:List Rule} {q:Rule} (nd:(ltr rs).Nodup) (h:q∈rs):wd rs q.1=q.2:=by
 induction rs with
 | nil=>cases h
 | cons p rs ih =>
  have nd':=List.nodup_cons.mp (show (p.1 :: ltr rs).Nodup from nd)
  show (if p.1=q.1 then p.2 else wd rs q.1)=q.2
  rcases List.mem_cons.mp h with z | z
  ·rw [z,if_pos rfl]
  ·rw [if_neg fun e=>nd'.1 (by rw [e];exact List.mem_map.mpr ⟨q,z,rfl⟩)]
   exact ih nd'.2 z
theorem qe5 {first:List Nat} {rs:List Rule} (hG:Good first rs) {m:Nat} (hs:Sht rs m):Good first (fsR rs m) where
 few:=by unfold fsR;rw [List.length_map];exact hG.few
 rise:=by have:=Vx rs m;unfold ltr at this;rw [this];exact hG.rise
 abc:=fun q hq=>by
  obtain ⟨p,hp,rfl⟩:=List.mem_map.mp hq
  exact hG.abc p hp
 wl:=fun q hq=>by
  obtain ⟨p,hp,rfl⟩:=List.mem_map.mp hq
  exact hs p.1 (List.mem_map.mpr ⟨p,hp,rfl⟩)
 win:=fun q hq c hc=>by
  obtain ⟨p,hp,rfl⟩:=List.mem_map.mp hq
  have:=Vx rs m
  unfold ltr at this
  rw [this]
  exact vw hG (fun e he=>by rw [List.mem_singleton.mp he];exact List.mem_map.mpr ⟨p,hp,rfl⟩) m c hc
 fl:=hG.fl
 fin:=fun c hc=>by
  have:=Vx rs m
  unfold ltr at this
  rw [this]
  exact hG.fin c hc
theorem qju {first:List Nat} {rs:List Rule} (hG:Good first rs) {m c:Nat} (hc:c∈ltr rs):wd (fsR rs m) c=rowN rs [c] m:=by
 obtain ⟨q,h1,h2,_⟩:=Je hc
 subst h2
 exact qjt (q:=(q.1,rowN rs [q.1] m)) (by rw [Vx];exact hG.nd) (List.mem_map.mpr ⟨q,h1,rfl⟩)
theorem qdl {first:List Nat} {rs:List Rule} (hG:Good first rs) (m:Nat):∀ {x:List Nat},(∀ c∈x,c∈ltr rs)->nxt (fsR rs m) x=rowN rs x m
 | [],_=>by rw [rowN_nil];rfl
 | c :: x,h=>by
  rw [zg,<- qdl hG m fun e he=>h e (List.mem_cons_of_mem _ he),<- qju hG (h c List.mem_cons_self)]
  rfl
theorem qdm {first:List Nat} {rs:List Rule} (hG:Good first rs) (m:Nat) {x:List Nat} (hx:∀ c∈x,c∈ltr rs):∀ n,rowN (fsR rs m) x n=rowN rs x (m * n)
 | 0=>rfl
 | n+1=>by
  show nxt (fsR rs m) (rowN (fsR rs m) x n)=_
  rw [qdm hG m hx n,qdl hG m (vw hG hx _),<- rowN_add]
  rfl
theorem qdn {first:List Nat} {rs:List Rule} (hG:Good first rs) {x:List Nat} (hx:∀ c∈x,c∈ltr rs):∀ n,(rowN rs x n).length<=6 ^ n * x.length
 | 0=>by rw [Nat.pow_zero,Nat.one_mul];exact Nat.le_refl _
 | n+1=>by
  have h1:=qah hG (vw hG hx n)
  have h2:=Nat.mul_le_mul_left 6 (qdn hG hx n)
  show (nxt rs (rowN rs x n)).length<=_
  rw [Nat.pow_succ,Nat.mul_comm (6 ^ n) 6,Nat.mul_assoc]
  omega
theorem qdo {first:List Nat} {rs:List Rule} (hG:Good first rs) {n:Nat} (hn:n<=40):(rowN rs first n).length < 10 ^ 40:=by
 have h1:=qdn hG hG.fin n
 have h2:6 ^ n<=6 ^ 40:=Nat.pow_le_pow_right (by decide) hn
 have h3:=Nat.mul_le_mul h2 hG.fl
 exact Nat.lt_of_le_of_lt (Nat.le_trans h1 h3) (by decide +kernel)
theorem Vy {f:List Nat} {rs:List Rule} {n pl:Nat} (h:pl < (rowN rs f n).length):pl < (f.map (szG rs n)).sum:=by
 have:=qdc rs n f
 have e:(f.map (szG rs n)).sum=(rowN rs f n).length:=this.symm
 omega
theorem qdp {f:List Nat} {rs:List Rule} {n pl:Nat} (h:pl < (rowN rs f n).length):(rowN rs f n)[pl]? = some (lastL (wayG rs (szG rs) (n+1) f pl) 0):=qeu rs n f pl 0 (Vy h)
theorem iteNS {p q:Prop} {a b:V} (h:a=b) (hq:q):if (!decide (a=b))=true then p else q:=by
 subst h
 simpa using hq
theorem penS {X Y:Hp} {p:Addr} {n:Nat} (h:PenAt X p n) (s:Same X Y):PenAt Y p n:=by
 obtain ⟨a,m,f,e,r⟩:=h.ex
 exact ⟨a,m,f,s _ _ e,r⟩
abbrev lls (rs:List Rule) (m:Nat):List Int:=rs.map fun q=>(((rowN rs [q.1] m).length:Nat):Int)
theorem qdq {rs:List Rule} {m:Nat} {t:Int} (h:MaxIs (lls rs m) 0 t):(6 < t) ↔ ¬ Sht rs m:=by
 constructor
 ·intro h6 hs
  rcases h with ⟨_,rfl⟩ | ⟨h1,_⟩
  ·omega
  ·obtain ⟨q,hq,rfl⟩:=List.mem_map.mp h1
   have:=hs q.1 (List.mem_map.mpr ⟨q,hq,rfl⟩)
   omega
 ·intro hs
  by_cases h6:6 < t
  ·exact h6
  ·refine absurd (fun c hc=>?_) hs
   obtain ⟨q,hq,rfl⟩:=List.mem_map.mp hc
   have hm:(((rowN rs [q.1] m).length:Nat):Int)∈lls rs m:=List.mem_map.mpr ⟨q,hq,rfl⟩
   rcases h with ⟨h1,_⟩ | ⟨_,h2⟩
   ·rw [h1] at hm;cases hm
   ·have:=h2 _ hm
    omega
end Lw
namespace Lw
open PySem L2 PyProof.Rows
section
variable {P:Program} {w:World} {K:W.Frag} {mg:Str->Option Value} {base:Heap}
def spWdr (K:W.Frag):Sp:=fun vs H Q _=>∃ (t f':Addr) (first:List Nat) (rs:List Rule) (m:Nat),vs=[.ref t,.ref f',.int (m:Int)]/\BookAt H t first rs/\Good first rs/\BookAt H f' first (fsR rs m)/\m<=8/\Sht rs m/\∀ H',Same H H'->Q (.bl true) H'
theorem scWdr:FnScope ["_law_book_here","_law_found","_law_many","_law_letter","_law_text_here","_law_rule","_law_size","_law_place","_law_sign"] ["_law_book_here","_law_found","_law_many"] (defScope sWdr):=⟨rfl,rfl,rfl,by decide +kernel,rfl,by decide +kernel,by decide +kernel⟩
theorem qjv {f fLls fLea:Addr} {fd fdLls fdLea:FuncData} (F:Fun K "_law_words_right" "_law_words_right" sWdr f fd)
  (GLls:FnOk P w K mg base CX0 5 fLls fdLls ["book","age"] spLls)
  (gLls:Gf K mg "letter_lengths" fLls fdLls ["book","age"])
  (GLea:FnOk P w K mg base CX0 6 fLea fdLea ["book","age","place"] spLea)
  (gLea:Gf K mg "letter_at" fLea fdLea ["book","age","place"])
  (hlen:mg "len" = none)
  (hzip:mg "zip" = none)
  (henumerate:mg "enumerate" = none)
  : FnOk P w K mg base CX0 7 f fd ["_law_book_here","_law_found","_law_many"] (spWdr K):=by
 refine F.ok scWdr (fun vs H Q E h=>?_) (fun cdv A outer s H vs Q E hr h=>?_)
 ·obtain ⟨t,f',first,rs,m,rfl,_⟩:=h
  rfl
 ·obtain ⟨t,f',first,rs,m,rfl,hB,hG,hF,h8,hs,k⟩:=h
  have hr5:Room 5 _:=hr.mono (by decide)
  refine ⟨_,(qc (jd (qr qaw (qi (jx K) (by rfl) hlen PySem.boot_len (qa (pe_ix (qq K) (pv 1) qd (fun _ _=>rfl)) qb)) (qi (jx K) (by rfl) hlen PySem.boot_len (qa (pe_ix (qq K) (pv 0) qd (fun _ _=>rfl)) qb)) (nomark _)) (qf (qh j4)) qm)
   (qc (za PassesOwn.never rfl (Yi K rfl hzip (qa (pe_ix (qq K) (pv 1) qd (fun _ _=>rfl)) (qa (pe_ix (qq K) (pv 0) qd (fun _ _=>rfl)) (qa (qe GLls hr5 rfl gLls.m gLls.k gLls.b .nil pass0 (qa (pv 0) (qa (pv 2) qb))) qb)))) (zr K (n:=3) rfl (qo (zr K (n:=2) rfl (qo (qj (i:=3) scWdr.nd rfl (Or.inl rfl)) (qo (qj (i:=4) scWdr.nd rfl (Or.inl rfl)) vb))) (qo (qj (i:=5) scWdr.nd rfl (Or.inl rfl)) (qo (qj (i:=6) scWdr.nd rfl (Or.inl rfl)) vb)))) (qc (jd (PW.pt (qat (qr qaw (pv 3) (pe_ix (qq K) (pv 5) qd (fun _ _=>rfl)) (nomark _)) (Vz (qr qaw (qi vg (by rfl) hlen PySem.boot_len (qa (pv 4) qb)) (pv 6) (nomark _))))) (qf (qh j4)) qm)
   (qf (za PassesOwn.never rfl (qek rfl henumerate (qa (pv 4) qb)) (zr K (n:=2) rfl (qo (qj (i:=7) scWdr.nd rfl (Or.inl rfl)) (qo (qj (i:=8) scWdr.nd rfl (Or.inl rfl)) vb))) (qf (jd (qr qaw (qe GLea hr rfl gLea.m gLea.k gLea.b .nil pass0 (qa (ja (qa (pv 3) (qa (pe_ix (qq K) (pv 0) qd (fun _ _=>rfl)) qb))) (qa (pv 2) (qa (pv 7) qb)))) (pv 8) (nomark _)) (qf (qh j4)) qm))))))
   (qf (qh j4)))),?_⟩
  have hfew:=hG.few
  obtain ⟨r,ps,b1,b2,b3⟩:=hB.ex
  obtain ⟨rf,pf,f1,f2,f3⟩:=hF.ex
  have ep:(ps.map V.ref).length=rs.length:=by rw [List.length_map,b3.len]
  have ef:(pf.map V.ref).length=rs.length:=by rw [List.length_map,f3.len];unfold fsR;rw [List.length_map]
  refine ⟨_,rfl,f',_,_,_,rfl,rfl,SqT.of f1,atI_nat (j:=1) rfl,rf,_,rfl,.inr (SqT.of f2),_,rfl,t,_,_,_,rfl,rfl,SqT.of b1,atI_nat (j:=1) rfl,r,_,rfl,.inr (SqT.of b2),rfl,_,rfl,iteNS (by rw [ep,ef]) ?_⟩
  refine ⟨_,rfl,f',_,_,_,rfl,rfl,SqT.of f1,atI_nat (j:=1) rfl,_,rfl,t,_,_,_,rfl,rfl,SqT.of b1,atI_nat (j:=1) rfl,_,rfl,_,rfl,t,first,rs,m,rfl,hB,hG,by omega,fun ls H1 s1 nls hls=>?_⟩
  rw [Yk hG] at hls
  refine ⟨rf,r,ls,rfl,⟨_,SqT.of (s1 _ _ f2)⟩,⟨_,SqT.of (s1 _ _ b2)⟩,⟨_,SqL.of hls⟩,?_⟩
  refine for_by2 (qbg (b1:=true) (b2:=true) (b3:=false) (xs:=pf.map V.ref) (ys:=ps.map V.ref) (zs:=(lls rs m).map V.int)) (fun i σ Hx=>Same H1 Hx/\∃ v3 v4 v5 v6 v7 v8:Option V,σ=[some (.ref t),some (.ref f'),some (.int (m:Int)),v3,v4,v5,v6,v7,v8]) ⟨Same.refl _,_,_,_,_,_,_,rfl⟩ ?_ ?_ ?_
  ·rintro i σ Hx hi ⟨sx,_⟩
   exact ⟨SqT.of (sx _ _ (s1 _ _ f2)),SqT.of (sx _ _ (s1 _ _ b2)),SqL.of (sx _ _ hls)⟩
  ·rintro i us σ Hx T hz ⟨sx,v3,v4,v5,v6,v7,v8,rfl⟩ hT
   rw [List.getElem?_map] at hz
   cases ez:((pf.map V.ref).zip ((ps.map V.ref).zip ((lls rs m).map V.int)))[i]? with
   | none=>rw [ez] at hz;cases hz
   | some pr =>
    obtain ⟨px,py,pz⟩:=pr
    rw [ez] at hz
    cases hz
    obtain ⟨q1,q23⟩:=List.getElem?_zip_eq_some.mp ez
    obtain ⟨q2,q3⟩:=List.getElem?_zip_eq_some.mp q23
    have q1':(pf.map V.ref)[i]? = some px:=q1
    have q2':(ps.map V.ref)[i]? = some py:=q2
    have q3':((lls rs m).map V.int)[i]? = some pz:=q3
    rw [List.getElem?_map] at q1' q2'
    rw [List.getElem?_map,List.getElem?_map] at q3'
    cases g1:pf[i]? with
    | none=>rw [g1] at q1';cases q1'
    | some pp =>
     rw [g1] at q1'
     cases q1'
     cases g2:ps[i]? with
     | none=>rw [g2] at q2';cases q2'
     | some pq =>
      rw [g2] at q2'
      cases q2'
      obtain ⟨c,w',d1,d2⟩:=b3.get g2
      rw [d1] at q3'
      cases q3'
      obtain ⟨c',u,d3,d4⟩:=f3.get g1
      have e3:(c',u)=(c,rowN rs [c] m):=by
       unfold fsR at d3
       rw [List.getElem?_map,d1] at d3
       exact (Option.some.inj d3).symm
      cases e3
      have hc:c∈ltr rs:=List.mem_map.mpr ⟨_,List.mem_of_getElem? d1,rfl⟩
      have sT:=Same.add (o:=.tup [V.ref pp,V.ref pq,V.int (((rowN rs [c] m).length:Nat):Int)]) hT
      have s0x:=s1.trans (sx.trans sT)
      have hrl:=hs c hc
      refine ⟨T,_,rfl,SqT.of upd_same,rfl,_,_,rfl,pp,_,rfl,SqT.of (s0x _ _ d4),rfl,_,_,rfl,_,_,rfl,rfl,_,_,rfl,_,_,rfl,rfl,?_⟩
      refine ⟨_,rfl,_,rfl,pq,_,_,_,rfl,rfl,SqT.of (s0x _ _ d2),atI_nat (j:=0) rfl,rfl,_,rfl,iteNS rfl ?_⟩
      refine ⟨_,rfl,⟨(rowN rs [c] m).toArray⟩,rfl,szl (show (rowN rs [c] m).length<=1000 by omega),_,rfl,rfl,_,rfl,iteNS rfl ?_⟩
      refine ⟨_,rfl,⟨(rowN rs [c] m).toArray⟩,rfl,?_⟩
      have sxT:=sx.trans sT
      revert sxT s0x
      generalize upd Hx T _=Hy
      intro s0x sxT
      refine for_by2 (sure_enumS (x:=⟨(rowN rs [c] m).toArray⟩)) (fun i' σ Hz=>Same H1 Hz/\∃ v7 v8:Option V,σ=[some (.ref t),some (.ref f'),some (.int (m:Int)),some (sign c),some (tx (rowN rs [c] m)),some (.ref pq),some (.int (((rowN rs [c] m).length:Nat):Int)),v7,v8]) ⟨sxT,_,_,rfl⟩ (fun _ _ _ _ _=>trivial) ?_ ?_
      ·rintro j us σ Hz T2 hz ⟨sz,v7',v8',rfl⟩ hT2
       rw [List.getElem?_map] at hz
       cases ej:((⟨(rowN rs [c] m).toArray⟩:Str).cps.toList.zipIdx)[j]? with
       | none=>rw [ej] at hz;cases hz
       | some pr =>
        rw [ej] at hz
        cases hz
        have ej':((rowN rs [c] m).zipIdx)[j]? = some pr:=ej
        rw [List.getElem?_zipIdx] at ej'
        cases ec:(rowN rs [c] m)[j]? with
        | none=>rw [ec] at ej';cases ej'
        | some e =>
         rw [ec] at ej'
         have epr:pr=(e,0+j):=(Option.some.inj ej').symm
         subst epr
         have hjl:=(List.getElem?_eq_some_iff.mp ec).1
         have sT2:=Same.add (o:=.tup [V.int ((0+j:Nat):Int),sign e]) hT2
         refine ⟨T2,_,rfl,SqT.of upd_same,rfl,_,_,rfl,_,_,rfl,rfl,?_⟩
         have s0z:=s1.trans (sz.trans sT2)
         have s1z:=sz.trans sT2
         revert s0z s1z
         generalize upd Hz T2 _=Hw
         intro s0z s1z
         refine ⟨_,rfl,_,rfl,t,_,_,_,rfl,rfl,SqT.of (s0z _ _ b1),atI_nat (j:=1) rfl,szl (show 2<=1000 by decide),fun T3 nT3=>?_⟩
         have sT3:=Same.add (o:=.tup [sign c,V.ref r]) nT3
         have s03:=s0z.trans sT3
         have hB3:BookAt (upd Hw T3 (.tup [sign c,V.ref r])) T3 [c] rs:=⟨r,ps,upd_same,s03 _ _ b2,b3.mono (TupS.same s03)⟩
         refine ⟨_,rfl,_,rfl,T3,[c],rs,m,j,?_,hB3,Vw hG hc,by omega,Vy hjl,fun Hv sv=>⟨_,rfl,rfl,_,rfl,?_⟩⟩
         ·show [V.ref T3,V.int (m:Int),V.int ((0+j:Nat):Int)]=_
          rw [Nat.zero_add]
         have ea:=qdp hjl
         rw [ec] at ea
         exact iteNS (congrArg sign (Option.some.inj ea).symm) ⟨s1z.trans (sT3.trans sv),_,_,rfl⟩
      ·rintro σ Hz ⟨sz,v7',v8',rfl⟩
       exact ⟨sz,_,_,_,_,_,_,rfl⟩
  ·rintro σ Hx ⟨sx,v3,v4,v5,v6,v7,v8,rfl⟩
   exact k Hx (s1.trans sx)
end
end Lw
namespace Lw
open PySem L2 PyProof.Rows
section
variable {P:Program} {w:World} {K:W.Frag} {mg:Str->Option Value} {base:Heap} {cTooLong cNoNumber:Addr}
def spRfl (K:W.Frag):Sp:=fun vs H Q _=>∃ (tv z:V),vs=[tv,z]/\((OutOf K 1 8 H z/\∀ T H',Same H H'->H' T=some (.tup [.str (Str.ofString "number"),.bl true,.bl false])->Q (.ref T) H') \/
 ∃ (t:Addr) (first:List Nat) (rs:List Rule) (m:Nat),tv=.ref t/\z=.int (m:Int)/\BookAt H t first rs/\Good first rs/\1<=m/\m<=8/\¬ Sht rs m/\∀ T H',Same H H'->H' T=some (.tup [.str (Str.ofString "long"),.bl true,.bl false])->Q (.ref T) H')
theorem scRfl:FnScope ["_law_book_here","_law_many","_law_caught","_law_e"] ["_law_book_here","_law_many"] (defScope sRfl):=⟨rfl,rfl,rfl,by decide +kernel,rfl,by decide +kernel,by decide +kernel⟩
theorem qjw {f fFas:Addr} {fd fdFas:FuncData} (F:Fun K "_law_refusal" "_law_refusal" sRfl f fd)
  {cGrowError:Addr} (hGrowError:mg "GrowError" = some (.ref cGrowError)) (eGrowError:ClsK K cGrowError)
  {cNoNumber:Addr} (hNoNumber:mg "NoNumber" = some (.ref cNoNumber)) (eNoNumber:ClsK K cNoNumber)
  {cTooLong:Addr} (hTooLong:mg "TooLong" = some (.ref cTooLong)) (eTooLong:ClsK K cTooLong)
  (GFas:FnOk P w K mg base (CX1 P w) 9 fFas fdFas ["book","many"] (spFasX K cTooLong cNoNumber))
  (gFas:Gf K mg "fast" fFas fdFas ["book","many"])
  (hTT:W.mroIn K cTooLong (.ref cTooLong)=some true)
  (hTG:W.mroIn K cTooLong (.ref cGrowError)=some true)
  (hTN:W.mroIn K cTooLong (.ref cNoNumber)=some false)
  (hNT:W.mroIn K cNoNumber (.ref cTooLong)=some false)
  (hNN:W.mroIn K cNoNumber (.ref cNoNumber)=some true)
  (hNG:W.mroIn K cNoNumber (.ref cGrowError)=some true)
  (xT:ExcK K cTooLong)
  (xN:ExcK K cNoNumber)
  (hisinstance:mg "isinstance" = none)
  : FnOk P w K mg base CX0 10 f fd ["_law_book_here","_law_many"] (spRfl K):=by
 refine F.ok scRfl (fun vs H Q E h=>?_) (fun cdv A outer s H vs Q E hr h=>?_)
 ·obtain ⟨tv,z,rfl,_⟩:=h
  rfl
 ·obtain ⟨tv,z,rfl,k⟩:=h
  refine ⟨_,(qc (ql (i:=2) scRfl.nd rfl (Or.inl rfl) qe8)
   (qc (qhz rfl rfl (fun _ _ _ hp=>(qf (jo (qe GFas hr rfl gFas.m gFas.k gFas.b .nil hp (qa (pv 0) (qa (pv 1) qb)))))) (qfj (i:=3) K scRfl.nd rfl rfl rfl hTooLong eTooLong.cls eTooLong.nt eTooLong.bexc (fun _=>(qf (ql (i:=2) scRfl.nd rfl (Or.inl rfl) (ja (qa jz (qa (qi (ve K PySem.F.attr_ValueError) (by rfl) hisinstance (show bootBuiltins "isinstance" = some (.builtin "isinstance") by decide +kernel) (qa (pv 3) (qa (jk (v:=.ref cGrowError) (by rfl) hGrowError rfl) qb))) (qa (qi (ve K PySem.F.attr_ValueError) (by rfl) hisinstance (show bootBuiltins "isinstance" = some (.builtin "isinstance") by decide +kernel) (qa (pv 3) (qa (jk (v:=.ref cNoNumber) (by rfl) hNoNumber rfl) qb))) qb))))))) (qfj (i:=3) K scRfl.nd rfl rfl rfl hNoNumber eNoNumber.cls eNoNumber.nt eNoNumber.bexc (fun _=>(qf (ql (i:=2) scRfl.nd rfl (Or.inl rfl) (ja (qa jz (qa (qi (ve K PySem.F.attr_ValueError) (by rfl) hisinstance (show bootBuiltins "isinstance" = some (.builtin "isinstance") by decide +kernel) (qa (pv 3) (qa (jk (v:=.ref cGrowError) (by rfl) hGrowError rfl) qb))) (qa (qi (ve K PySem.F.attr_ValueError) (by rfl) hisinstance (show bootBuiltins "isinstance" = some (.builtin "isinstance") by decide +kernel) (qa (pv 3) (qa (jk (v:=.ref cTooLong) (by rfl) hTooLong rfl) qb))) qb))))))) qgf)))
   (qf (qh (pv 2))))),?_⟩
  rcases k with ⟨hz,k⟩ | ⟨t,first,rs,m,rfl,rfl,hB,hG,h1,h8,hs,k⟩
  ·refine ⟨_,rfl,_,rfl,tv,z,rfl,.inl ⟨hz,cNoNumber,rfl,fun σ' hl=>?_⟩⟩
   obtain ⟨a0,a1,a2,a3,rfl⟩:∃ a b c d,σ'=[a,b,c,d]:=by
    match σ',hl with
    | [a,b,c,d],_=>exact ⟨a,b,c,d,rfl⟩
   refine ⟨false,hNT,iteF ⟨true,hNN,iteT fun e he=>?_⟩⟩
   refine ⟨_,rfl,e,cNoNumber,.ref cGrowError,true,rfl,upd_same,xN,.inl ⟨cGrowError,rfl,eGrowError.cls,eGrowError.ty,hNG,fun _=>rfl⟩,?_⟩
   refine ⟨_,rfl,e,cNoNumber,.ref cTooLong,false,rfl,upd_same,xN,.inl ⟨cTooLong,rfl,eTooLong.cls,eTooLong.ty,hNT,fun z=>by subst z;rw [hNN] at hNT;cases hNT⟩,?_⟩
   exact ⟨szl (show 3<=1000 by decide),fun T hT=>⟨_,rfl,k T _ ((Same.add he).trans (Same.add hT)) upd_same⟩⟩
  ·refine ⟨_,rfl,_,rfl,_,_,rfl,.inr ⟨t,first,rs,m,rfl,rfl,hB,hG,h1,h8,hs,fun H1 s1=>⟨cTooLong,rfl,fun σ' hl=>?_⟩⟩⟩
   obtain ⟨a0,a1,a2,a3,rfl⟩:∃ a b c d,σ'=[a,b,c,d]:=by
    match σ',hl with
    | [a,b,c,d],_=>exact ⟨a,b,c,d,rfl⟩
   refine ⟨true,hTT,iteT fun e he=>?_⟩
   refine ⟨_,rfl,e,cTooLong,.ref cGrowError,true,rfl,upd_same,xT,.inl ⟨cGrowError,rfl,eGrowError.cls,eGrowError.ty,hTG,fun _=>rfl⟩,?_⟩
   refine ⟨_,rfl,e,cTooLong,.ref cNoNumber,false,rfl,upd_same,xT,.inl ⟨cNoNumber,rfl,eNoNumber.cls,eNoNumber.ty,hTN,fun z=>by subst z;rw [hTT] at hTN;cases hTN⟩,?_⟩
   exact ⟨szl (show 3<=1000 by decide),fun T hT=>⟨_,rfl,k T _ (s1.trans ((Same.add he).trans (Same.add hT))) upd_same⟩⟩
end
end Lw
namespace Lw
open PySem L2 PyProof.Rows
theorem qhd {us:List Rule} (h:(ltr us).Nodup):∃ rs,us.Perm rs/\rs.Pairwise fun a b=>a.1 < b.1:=by
 have p:us.Perm (us.mergeSort fun a b=>decide (a.1<=b.1)):=(List.mergeSort_perm _ _).symm
 have hp:(us.mergeSort fun a b=>decide (a.1<=b.1)).Pairwise fun a b=>decide (a.1<=b.1)=true :=
  List.pairwise_mergeSort (le:=fun (a b:Rule)=>decide (a.1<=b.1)) (fun (a b c:Rule) x y=>decide_eq_true (Nat.le_trans (of_decide_eq_true x) (of_decide_eq_true y))) (fun (a b:Rule)=>by
   show (decide (a.1<=b.1) || decide (b.1<=a.1))=true
   rw [Bool.or_eq_true,decide_eq_true_iff,decide_eq_true_iff]
   exact Nat.le_total _ _) _
 generalize us.mergeSort (fun a b=>decide (a.1<=b.1))=rs at p hp
 have pl:(ltr us).Perm (ltr rs):=p.map _
 have nd:rs.Pairwise fun a b=>a.1≠b.1:=List.pairwise_map.mp (pl.nodup_iff.mp h)
 exact ⟨rs,p,(hp.and nd).imp fun ⟨x,y⟩=>Nat.lt_of_le_of_ne (of_decide_eq_true x) y⟩
theorem Fine.good {f:List Nat} {us rs:List Rule} (h:Fine f us) (p:us.Perm rs) (hr:rs.Pairwise fun a b=>a.1 < b.1):Good f rs:=by
 have pl:(ltr us).Perm (ltr rs):=p.map _
 exact ⟨by rw [<- p.length_eq];exact h.few,List.pairwise_map.mpr hr,fun q hq=>h.abc q (p.mem_iff.mpr hq),fun q hq=>h.wl q (p.mem_iff.mpr hq),fun q hq c hc=>pl.mem_iff.mp (h.win q (p.mem_iff.mpr hq) c hc),h.fl,fun c hc=>pl.mem_iff.mp (h.fin c hc)⟩
theorem Jz {K:W.Frag} {ix:List (Option Nat)} {σ:L2.St} {H:Hp} {Q:VK} {tl:TE} {d:Addr} {rs0:List Rule} (e:cst ix σ=[none,some (.ref d)]) (hd:H d=some (.dK (kvw rs0))) (hndr:(ltr rs0).Nodup) (h8:rs0.length<=8) (ht:∀ R:VK,R (.ref d) H->tl σ H R)
  (k:∀ r' qs rs' H',Same H H'->rs0.Perm rs'->(rs'.Pairwise fun a b=>a.1 < b.1)->H' r'=some (.tup (qs.map V.ref))->RulesAt H' qs rs'->Q (.ref r') H') :
  tCB (rTupOf K) (tCons (tComp ix (iList K (tCB (fun xs H Q=>∃ (d:Addr) (kvs:List (Key × V)) (ss:List Str),xs=[.ref d]/\H d=some (.dK kvs)/\kvs.map (·.1)=ss.map Sum.inr/\kvs.length < 64/\∀ l ss',H l=none->ss'.Perm ss->sortedS ss'=true->Q (.ref l) (upd H l (.lst (ss'.map V.str)))) (tCons tl tNil))) (gName 0) tAll (tTup (tCons (tVar 0) (tCons (tDGet (tVar 1) (tVar 0)) tNil)))) tNil) σ H Q:=by
 have es:(kvw rs0).map (·.1)=(rs0.map fun q=>one q.1).map Sum.inr:=by
  unfold kvw
  rw [List.map_map,List.map_map]
  rfl
 refine ht _ ⟨d,_,rs0.map fun q=>one q.1,rfl,hd,es,(by unfold kvw;rw [List.length_map];omega),fun l9 ss' nl9 hp hs=>?_⟩
 obtain ⟨rs',hp',hr'⟩:=qhd hndr
 have ess:ss'=rs'.map fun q=>one q.1:=by
  have e0:(rs0.map fun q=>one q.1)=(ltr rs0).map one:=by unfold ltr;rw [List.map_map];rfl
  rw [e0] at hp
  obtain ⟨ds,hp2,rfl⟩:=Zt hp
  have hsr:=Zs hs (hp2.nodup_iff.mpr hndr)
  have e2:ds=ltr rs':=List.Perm.eq_of_pairwise (le:=fun a b=>a < b) (fun a b _ _ x y=>absurd x (by omega)) hsr (List.pairwise_map.mpr hr') (hp2.trans (hp'.map _))
  rw [e2]
  unfold ltr
  rw [List.map_map]
  rfl
 subst ess
 have s9:Same H (upd H l9 (.lst ((rs'.map fun q=>one q.1).map V.str))):=Same.add nl9
 have hl9:upd H l9 (.lst ((rs'.map fun q=>one q.1).map V.str)) l9=some (.lst ((rs'.map fun q=>one q.1).map V.str)):=upd_same
 revert s9 hl9
 generalize upd H l9 (.lst ((rs'.map fun q=>one q.1).map V.str))=H9
 intro s9 hl9
 have hd9:=s9 _ _ hd
 have hrl':=hp'.length_eq
 refine ⟨l9,rfl,⟨_,SqL.of hl9⟩,?_⟩
 rw [e]
 refine je (τ0:=[none,some (.ref d)]) (sure_list (xs:=(rs'.map fun q=>one q.1).map V.str)) (by rw [List.length_map,List.length_map];omega) (fun i ys τ Ha=>Same H9 Ha/\(∃ v,τ=[v,some (.ref d)])/\∃ qs,ys=qs.map V.ref/\RulesAt Ha qs (rs'.take i)) ⟨Same.refl _,⟨_,rfl⟩,[],rfl,.nil⟩ ?_ ?_ ?_
 ·rintro i ys τ Ha hi ⟨sa,_,qs,rfl,hq⟩
  refine ⟨SqL.of (sa _ _ hl9),?_⟩
  rw [List.length_map,hq.len,List.length_take]
  omega
 ·rintro i y ys τ Ha hy ⟨sa,⟨vv,rfl⟩,qs,rfl,hq⟩
  rw [List.map_map,List.getElem?_map] at hy
  cases e:rs'[i]? with
  | none=>rw [e] at hy;cases hy
  | some q =>
   rw [e] at hy
   cases hy
   have hqm:q∈rs0:=hp'.mem_iff.mpr (List.mem_of_getElem? e)
   have hg:=DGet.k (k:=(Sum.inr (one q.1):Key)) (sa _ _ hd9)
   rw [Vv hndr hqm] at hg
   refine ⟨_,rfl,_,rfl,_,rfl,d,_,rfl,hg,szl (show 2<=1000 by decide),fun T nT=>⟨sa.trans (Same.add nT),⟨_,rfl⟩,qs++[T],by rw [List.map_append];rfl,?_⟩⟩
   have e9:rs'.take (i+1)=rs'.take i++[(q.1,q.2)]:=by rw [List.take_add_one,e];rfl
   rw [e9]
   exact RulesAt.snoc upd_same (hq.mono (TupS.same (Same.add nT)))
 rintro ys τ Ha D ⟨sa,_,qs,rfl,hq⟩ nD
 rw [List.length_map,List.length_map,List.take_length] at hq
 have sD:Same Ha (upd Ha D (.lst (qs.map V.ref))):=Same.add nD
 refine ⟨D,_,rfl,.inl ⟨SqL.of upd_same,fun r' nr=>?_⟩⟩
 have sr:=Same.add (o:=.tup (qs.map V.ref)) nr
 exact k r' qs rs' _ (s9.trans (sa.trans (sD.trans sr))) hp' hr' upd_same (hq.mono (TupS.same (sD.trans sr)))
theorem Z1:∀ (kvs acc:List (Key × V)),(kvs.map (·.1)).Nodup->(∀ p∈acc,p.1 ∉ kvs.map (·.1))->mergeK acc kvs=acc++kvs
 | [],acc,_,_=>by unfold mergeK;simp
 | (a,v) :: kvs,acc,nd,h=>by
  obtain ⟨n1,n2⟩:=List.nodup_cons.mp (show (a :: kvs.map (·.1)).Nodup from nd)
  have hp:putK acc a v=acc++[(a,v)]:=by
   unfold putK
   rw [if_neg]
   intro z
   obtain ⟨p,hp,e⟩:=List.any_eq_true.mp z
   exact h p hp (by rw [of_decide_eq_true e];exact List.mem_cons_self)
  have ih:=Z1 kvs (acc++[(a,v)]) n2 fun p hp=>by
   rcases List.mem_append.mp hp with z | z
   ·exact fun y=>h p z (List.mem_cons_of_mem _ y)
   ·rw [List.mem_singleton.mp z];exact n1
  show mergeK (putK acc a v) kvs=_
  rw [hp,ih,List.append_assoc]
  rfl
theorem Ji {us:List Rule} (nd:(ltr us).Nodup):mergeK [] (kvw us)=kvw us:=by
 have h:=Z1 (kvw us) [] (by rw [qaq];exact Vs nd) (by intro p hp;cases hp)
 rw [h]
 rfl
theorem pick4 {a b c d:List Nat} {j:Int} (h0:0<=j) (h1:j < 4):∃ u,atI [tx a,tx b,tx c,tx d] j=some (tx u)/\(u=a\/u=b\/u=c\/u=d):=by
 obtain ⟨i,rfl⟩:∃ i:Nat,j=(i:Int):=⟨j.toNat,by omega⟩
 match i with
 | 0=>exact ⟨_,rfl,.inl rfl⟩
 | 1=>exact ⟨_,rfl,.inr (.inl rfl)⟩
 | 2=>exact ⟨_,rfl,.inr (.inr (.inl rfl))⟩
 | 3=>exact ⟨_,rfl,.inr (.inr (.inr rfl))⟩
 | i+4=>omega
theorem pick3 {a b c:List Nat} {j:Int} (h0:0<=j) (h1:j < 3):∃ u,atI [tx a,tx b,tx c] j=some (tx u)/\(u=a\/u=b\/u=c):=by
 obtain ⟨i,rfl⟩:∃ i:Nat,j=(i:Int):=⟨j.toNat,by omega⟩
 match i with
 | 0=>exact ⟨_,rfl,.inl rfl⟩
 | 1=>exact ⟨_,rfl,.inr (.inl rfl)⟩
 | 2=>exact ⟨_,rfl,.inr (.inr rfl)⟩
 | i+3=>omega
theorem two_app (a b:Nat):((⟨#[a]⟩:Str)++(⟨#[b]⟩:Str))=⟨[a,b].toArray⟩:=Jh [a] [b]
theorem Yp (z:List Nat):∀ n,(List.replicate n z).flatten.length=n * z.length
 | 0=>by simp
 | n+1=>by rw [List.replicate_succ,List.flatten_cons,List.length_append,Yp z n,Nat.succ_mul];omega
theorem J0 {z:List Nat} {n c:Nat} (h:c∈(List.replicate n z).flatten):c∈z:=by
 obtain ⟨l,hl,hc⟩:=List.mem_flatten.mp h
 rw [(List.mem_replicate.mp hl).2] at hc
 exact hc
section
variable {P:Program} {w:World} {K:W.Frag} {mg:Str->Option Value} {base:Heap}
def spSlo (K:W.Frag):Sp:=fun vs H Q _=>∃ (p:Addr) (b:Nat),vs=[.ref p]/\PenAt H p b/\b<=600000/\∀ t first rs H',Good first rs->BookAt H' t first rs->But p H H'->PenAt H' p (b+100)->Q (.ref t) H'
theorem scSlo:FnScope ["_law_pen_here","_law_a","_law_b","_law_c","_law_d","_law_words"] ["_law_pen_here"] (defScope sSlo):=⟨rfl,rfl,rfl,by decide +kernel,rfl,by decide +kernel,by decide +kernel⟩
theorem qhe:(["_law_letter","_law_words"]:List Str).Nodup:=by decide +kernel
theorem qjx {f fSig fTak:Addr} {fd fdSig fdTak:FuncData} (F:Fun K "_law_slow" "_law_slow" sSlo f fd)
  (GSig:FnOk P w K mg base CX0 2 fSig fdSig ["_law_pen_here","_law_many"] spSig)
  (gSig:Gf K mg "_law_signs" fSig fdSig ["_law_pen_here","_law_many"])
  (GTak:FnOk P w K mg base CX0 1 fTak fdTak ["_law_pen_here","_law_size"] spTak)
  (gTak:Gf K mg "_law_take" fTak fdTak ["_law_pen_here","_law_size"])
  (htuple:mg "tuple" = none)
  (hsorted:mg "sorted" = none)
  : FnOk P w K mg base CX0 3 f fd ["_law_pen_here"] (spSlo K):=by
 refine F.ok scSlo (fun vs H Q E h=>?_) (fun cdv A outer s H vs Q E hr h=>?_)
 ·obtain ⟨p,b,rfl,_⟩:=h
  rfl
 ·obtain ⟨p,b,rfl,hP,hb,k⟩:=h
  have hr1:Room 1 _:=hr.mono (by decide)
  have hu:=Vb hr
  refine ⟨_,(qc (Yq (qe GSig hr rfl gSig.m gSig.k gSig.b .nil pass0 (qa (pv 0) (qa qd qb))) (qcl K (n:=4) rfl (qo (qj (i:=1) scSlo.nd rfl (Or.inl rfl)) (qo (qj (i:=2) scSlo.nd rfl (Or.inl rfl)) (qo (qj (i:=3) scSlo.nd rfl (Or.inl rfl)) (qo (qj (i:=4) scSlo.nd rfl (Or.inl rfl)) vb))))))
   (qc (ql (i:=5) scSlo.nd rfl (Or.inr rfl) (qb6 (jp (pv 1) (pe_ix (jc K) (j9 (qa (pv 2) (qa (qp jb (pv 2) (pv 4)) (qa (qp jb (pv 4) (pv 2)) (qa (pv 1) qb))))) (qe GTak hr1 rfl gTak.m gTak.k gTak.b .nil pass0 (qa (pv 0) (qa qd qb))) (fun _ _=>rfl)) (jp (pv 2) (pe_ix (jc K) (j9 (qa (pv 1) (qa (pv 3) (qa (qp jb (pv 3) (pv 4)) qb)))) (qe GTak hr1 rfl gTak.m gTak.k gTak.b .nil pass0 (qa (pv 0) (qa qd qb))) (fun _ _=>rfl)) (jp (pv 3) (pv 3) (jp (pv 4) jz pps_nil)))) rfl rfl (fun z=>nomatch z) (by decide)))
   (qf (qh (ja (qa (qp jb (qp jb (pv 1) (qp zw (pv 2) (qe GTak hr1 rfl gTak.m gTak.k gTak.b .nil pass0 (qa (pv 0) (qa qd qb))))) (pv 3)) (qa (qy (jf K) (by rfl) htuple (by first | exact PySem.boot_tuple | decide +kernel) (qa (qz (N':=["_law_letter","_law_words"]) (ix:=[none,some 5]) rfl rfl (yg K (qi (jv rfl) (by rfl) hsorted PyProof.Rows.boot_sorted (qa (pv 5) qb))) (fun _ _ _ _ _ _=>(qj (i:=0) qhe rfl (Or.inl rfl))) (fun _ _ _ _ _ _=>qx) (fun _ _ _ _ _ _=>(ja (qa (pv 0) (qa (j6 hu (pv 1) (pv 0) (fun _ _=>rfl)) qb))))) qb)) qb))))))),?_⟩
  have but3:∀ {X Y:Hp},(∀ c,c≠p->Y c=X c)->But p X Y:=fun e c o h n=>(e c n).trans h
  have nlp:∀ {X:Hp} {l:Addr} {m:Nat},PenAt X p m->X l=none->l≠p:=fun hp hn z=>by
   obtain ⟨_,_,_,e',_⟩:=hp.ex
   rw [z,e'] at hn
   cases hn
  refine ⟨_,rfl,p,b,4,rfl,hP,by omega,by decide,fun l cs H1 b1 hP1 nl hl hcl hnd habc=>?_⟩
  obtain ⟨c1,c2,c3,c4,rfl⟩:∃ a b c d,cs=[a,b,c,d]:=by
   match cs,hcl with
   | [a,b,c,d],_=>exact ⟨a,b,c,d,rfl⟩
  refine ⟨l,_,rfl,SqL.of hl,rfl,_,_,rfl,_,_,rfl,_,_,rfl,_,_,rfl,rfl,?_⟩
  have sz2:∀ a b:Nat,(⟨#[a]⟩:Str).length+(⟨#[b]⟩:Str).length<=sizeLine:=fun a b=>szl (show 1+1<=1000 by decide)
  intro d nd
  have s2:=Same.add (o:=.dK []) nd
  have hdp:=nlp hP1 nd
  have hd2:upd H1 d (.dK []) d=some (.dK []):=upd_same
  have hP2:=penS hP1 s2
  revert s2 hd2 hP2
  generalize upd H1 d (.dK [])=H2
  intro s2 hd2 hP2
  refine ⟨_,rfl,_,rfl,_,rfl,_,rfl,⟨#[c2]⟩,⟨#[c4]⟩,rfl,rfl,sz2 c2 c4,?_⟩
  rw [two_app]
  refine ⟨_,rfl,_,rfl,⟨#[c4]⟩,⟨#[c2]⟩,rfl,rfl,sz2 c4 c2,?_⟩
  rw [two_app]
  refine ⟨_,rfl,szl (show 4<=1000 by decide),fun L nL=>?_⟩
  have sL:=Same.add (o:=.lst [tx [c2],tx [c2,c4],tx [c4,c2],tx [c1]]) nL
  have hLp:=nlp hP2 nL
  refine ⟨_,rfl,p,_,4,rfl,penS hP2 sL,by omega,by decide,by decide,fun z3 H3 z30 z31 hP3 e3=>?_⟩
  obtain ⟨u1,hu1,hor1⟩:=pick4 (a:=[c2]) (b:=[c2,c4]) (c:=[c4,c2]) (d:=[c1]) z30 z31
  refine ⟨L,_,_,_,rfl,rfl,SqL.of ((e3 L hLp).trans upd_same),hu1,?_⟩
  refine ⟨_,rfl,_,rfl,_,rfl,_,rfl,_,rfl,⟨#[c3]⟩,⟨#[c4]⟩,rfl,rfl,sz2 c3 c4,?_⟩
  rw [two_app]
  refine ⟨szl (show 3<=1000 by decide),fun M nM=>?_⟩
  have sM:=Same.add (o:=.lst [tx [c1],tx [c3],tx [c3,c4]]) nM
  have hMp:=nlp hP3 nM
  refine ⟨_,rfl,p,_,3,rfl,penS hP3 sM,by omega,by decide,by decide,fun z4 H4 z40 z41 hP4 e4=>?_⟩
  obtain ⟨u2,hu2,hor2⟩:=pick3 (a:=[c1]) (b:=[c3]) (c:=[c3,c4]) z40 z41
  refine ⟨M,_,_,_,rfl,rfl,SqL.of ((e4 M hMp).trans upd_same),hu2,?_⟩
  refine ⟨_,rfl,_,rfl,_,rfl,?_⟩
  have hd4:H4 d=some (.dK []):=(e4 d hdp).trans (sM _ _ ((e3 d hdp).trans (sL _ _ hd2)))
  have hndu:(ltr [((c1,u1):Rule),(c2,u2),(c3,[c3]),(c4,[])]).Nodup:=hnd
  refine ⟨hd4,kvw [(c1,u1),(c2,u2),(c3,[c3]),(c4,[])],rfl,(show 4<=15 by decide),?_⟩
  rw [Ji hndu]
  have b4:But p H H4:=b1.trans ((But.same s2).trans ((But.same sL).trans ((but3 e3).trans ((But.same sM).trans (but3 e4)))))
  have hw:∀ q∈[((c1,u1):Rule),(c2,u2),(c3,[c3]),(c4,[])],q.2.length<=6/\∀ a∈q.2,a∈[c1,c2,c3,c4]:=by
   intro q hq
   simp only [List.mem_cons,List.not_mem_nil,or_false] at hq
   rcases hq with rfl | rfl | rfl | rfl
   ·rcases hor1 with rfl | rfl | rfl | rfl <;> exact ⟨by simp,by intro a ha;simp at ha ⊢;omega⟩
   ·rcases hor2 with rfl | rfl | rfl <;> exact ⟨by simp,by intro a ha;simp at ha ⊢;omega⟩
   ·exact ⟨by simp,by intro a ha;simp at ha ⊢;omega⟩
   ·exact ⟨by simp,by intro a ha;cases ha⟩
  have hd5:upd H4 d (.dK (kvw [(c1,u1),(c2,u2),(c3,[c3]),(c4,[])])) d=some (.dK (kvw [(c1,u1),(c2,u2),(c3,[c3]),(c4,[])])):=upd_same
  have hP5:=hP4.other (qg (o:=.dK (kvw [(c1,u1),(c2,u2),(c3,[c3]),(c4,[])])) hdp.symm)
  have b5:But p H (upd H4 d (.dK (kvw [(c1,u1),(c2,u2),(c3,[c3]),(c4,[])]))):=fun a o h n=>q9 (b4 _ _ h n) fun z=>by
   have h1:=b1 _ _ h n
   rw [z,nd] at h1
   cases h1
  have hlt0:ltr [((c1,u1):Rule),(c2,u2),(c3,[c3]),(c4,[])]=[c1,c2,c3,c4]:=rfl
  have hl0:[((c1,u1):Rule),(c2,u2),(c3,[c3]),(c4,[])].length=4:=rfl
  revert hd5 hP5 b5 hw hndu hlt0 hl0
  generalize ([((c1,u1):Rule),(c2,u2),(c3,[c3]),(c4,[])])=rs0
  intro hndu hw hd5 hP5 b5 hlt0 hl0
  generalize upd H4 d (.dK (kvw rs0))=H5 at hd5 hP5 b5 ⊢
  refine ⟨_,rfl,_,rfl,_,rfl,p,_,4,rfl,hP5,by omega,by decide,by decide,fun z6 H6 z60 z61 hP6 e6=>?_⟩
  obtain ⟨m,rfl⟩:∃ m:Nat,z6=(m:Int):=⟨z6.toNat,by omega⟩
  have hrl:=Yp [c2] m
  have hrl':(List.replicate m [c2]).flatten.length=m:=by rw [hrl];simp
  have hri:∀ a∈(List.replicate m [c2]).flatten,a=c2:=fun a ha=>List.mem_singleton.mp (J0 ha)
  refine ⟨[c2],m,rfl,rfl,by omega,(show 1<=1000 by decide),?_⟩
  generalize (List.replicate m [c2]).flatten=zz at hrl' hri ⊢
  refine ⟨⟨#[c1]⟩,⟨zz.toArray⟩,rfl,rfl,szl (show 1+zz.length<=1000 by omega),?_⟩
  rw [show ((⟨#[c1]⟩:Str)++(⟨zz.toArray⟩:Str))=⟨(c1 :: zz).toArray⟩ from Jh [c1] zz]
  refine ⟨_,rfl,⟨(c1 :: zz).toArray⟩,⟨#[c3]⟩,rfl,rfl,szl (show (c1 :: zz).length+1<=1000 by rw [List.length_cons];omega),?_⟩
  rw [show ((⟨(c1 :: zz).toArray⟩:Str)++(⟨#[c3]⟩:Str))=⟨(c1 :: zz++[c3]).toArray⟩ from Jh (c1 :: zz) [c3]]
  have hd6:=(e6 d hdp).trans hd5
  refine Jz (d:=d) (rs0:=rs0) rfl hd6 hndu (by omega) (fun R h=>⟨_,rfl,h⟩) fun r' qs rs' H7 s7 hp' hr' hrt hq=>?_
  refine ⟨szl (show 2<=1000 by decide),fun t' nt=>?_⟩
  have st:=Same.add (o:=.tup [tx (c1 :: zz++[c3]),V.ref r']) nt
  have hF:Fine (c1 :: zz++[c3]) rs0:=⟨by omega,hndu,fun q hq=>habc q.1 (by rw [<- hlt0];exact List.mem_map.mpr ⟨q,hq,rfl⟩),fun q hq=>(hw q hq).1,fun q hq a ha=>by rw [hlt0];exact (hw q hq).2 a ha,by rw [List.length_append,List.length_cons];show _+1<=12;omega,fun a ha=>by
   rw [hlt0]
   rcases List.mem_append.mp ha with h | h
   ·rcases List.mem_cons.mp h with rfl | h
    ·simp
    ·rw [hri a h];simp
   ·rw [List.mem_singleton.mp h];simp⟩
  exact k t' _ rs' _ (hF.good hp' hr') ⟨r',qs,upd_same,st _ _ hrt,hq.mono (TupS.same st)⟩ (b5.trans ((but3 e6).trans (But.same (s7.trans st)))) ((penS hP6 (s7.trans st)).mono (by omega))
end
end Lw
namespace Lw
open PySem L2 PyProof.Rows
section
variable {P:Program} {w:World} {K:W.Frag} {mg:Str->Option Value} {base:Heap}
def spLgw (K:W.Frag):Sp:=fun vs H Q _=>∃ (p:Addr) (b:Nat),vs=[.ref p]/\PenAt H p b/\b<=600000/\∀ t first rs H',Good first rs->BookAt H' t first rs->But p H H'->PenAt H' p (b+100)->Q (.ref t) H'
theorem scLgw:FnScope ["_law_pen_here","_law_a","_law_b","_law_c","_law_d","_law_e","_law_f","_law_words"] ["_law_pen_here"] (defScope sLgw):=⟨rfl,rfl,rfl,by decide +kernel,rfl,by decide +kernel,by decide +kernel⟩
theorem qhf:(["_law_letter","_law_words"]:List Str).Nodup:=by decide +kernel
theorem qjy {f fSig fTak:Addr} {fd fdSig fdTak:FuncData} (F:Fun K "_law_long_ways" "_law_long_ways" sLgw f fd)
  (GSig:FnOk P w K mg base CX0 2 fSig fdSig ["_law_pen_here","_law_many"] spSig)
  (gSig:Gf K mg "_law_signs" fSig fdSig ["_law_pen_here","_law_many"])
  (GTak:FnOk P w K mg base CX0 1 fTak fdTak ["_law_pen_here","_law_size"] spTak)
  (gTak:Gf K mg "_law_take" fTak fdTak ["_law_pen_here","_law_size"])
  (htuple:mg "tuple" = none)
  (hsorted:mg "sorted" = none)
  : FnOk P w K mg base CX0 3 f fd ["_law_pen_here"] (spLgw K):=by
 refine F.ok scLgw (fun vs H Q E h=>?_) (fun cdv A outer s H vs Q E hr h=>?_)
 ·obtain ⟨p,b,rfl,_⟩:=h
  rfl
 ·obtain ⟨p,b,rfl,hP,hb,k⟩:=h
  have hr1:Room 1 _:=hr.mono (by decide)
  have hu:=Vb hr
  refine ⟨_,(qc (Yq (qe GSig hr rfl gSig.m gSig.k gSig.b .nil pass0 (qa (pv 0) (qa qd qb))) (qcl K (n:=6) rfl (qo (qj (i:=1) scLgw.nd rfl (Or.inl rfl)) (qo (qj (i:=2) scLgw.nd rfl (Or.inl rfl)) (qo (qj (i:=3) scLgw.nd rfl (Or.inl rfl)) (qo (qj (i:=4) scLgw.nd rfl (Or.inl rfl)) (qo (qj (i:=5) scLgw.nd rfl (Or.inl rfl)) (qo (qj (i:=6) scLgw.nd rfl (Or.inl rfl)) vb))))))))
   (qc (ql (i:=7) scLgw.nd rfl (Or.inr rfl) (qb6 (jp (pv 1) (pv 1) (jp (pv 2) (qp zw (pv 3) qd) (jp (pv 3) (qp zw (pv 4) qd) (jp (pv 4) (qp zw (pv 5) qd) (jp (pv 5) (qp zw (pv 6) qd) (jp (pv 6) jz pps_nil)))))) rfl rfl (fun z=>nomatch z) (by decide)))
   (qf (qh (ja (qa (qp jb (pv 2) (qp zw (pv 1) (qe GTak hr1 rfl gTak.m gTak.k gTak.b .nil pass0 (qa (pv 0) (qa qd qb))))) (qa (qy (jf K) (by rfl) htuple (by first | exact PySem.boot_tuple | decide +kernel) (qa (qz (N':=["_law_letter","_law_words"]) (ix:=[none,some 7]) rfl rfl (yg K (qi (jv rfl) (by rfl) hsorted PyProof.Rows.boot_sorted (qa (pv 7) qb))) (fun _ _ _ _ _ _=>(qj (i:=0) qhf rfl (Or.inl rfl))) (fun _ _ _ _ _ _=>qx) (fun _ _ _ _ _ _=>(ja (qa (pv 0) (qa (j6 hu (pv 1) (pv 0) (fun _ _=>rfl)) qb))))) qb)) qb))))))),?_⟩
  have but3:∀ {X Y:Hp},(∀ c,c≠p->Y c=X c)->But p X Y:=fun e c o h n=>(e c n).trans h
  have nlp:∀ {X:Hp} {l:Addr} {m:Nat},PenAt X p m->X l=none->l≠p:=fun hp hn z=>by
   obtain ⟨_,_,_,e',_⟩:=hp.ex
   rw [z,e'] at hn
   cases hn
  refine ⟨_,rfl,p,b,6,rfl,hP,by omega,by decide,fun l cs H1 b1 hP1 nl hl hcl hnd habc=>?_⟩
  obtain ⟨c1,c2,c3,c4,c5,c6,rfl⟩:∃ a b c d e f,cs=[a,b,c,d,e,f]:=by
   match cs,hcl with
   | [a,b,c,d,e,f],_=>exact ⟨a,b,c,d,e,f,rfl⟩
  refine ⟨l,_,rfl,SqL.of hl,rfl,_,_,rfl,_,_,rfl,_,_,rfl,_,_,rfl,_,_,rfl,_,_,rfl,rfl,?_⟩
  intro d nd
  have s2:=Same.add (o:=.dK []) nd
  have hdp:=nlp hP1 nd
  have hd2:upd H1 d (.dK []) d=some (.dK []):=upd_same
  have hP2:=penS hP1 s2
  revert s2 hd2 hP2
  generalize upd H1 d (.dK [])=H2
  intro s2 hd2 hP2
  have m6:∀ c:Nat,(List.replicate 6 [c]).flatten=[c,c,c,c,c,c]:=fun c=>rfl
  refine ⟨_,rfl,_,rfl,_,rfl,_,rfl,[c3],6,rfl,rfl,by decide,(show 1<=1000 by decide),_,rfl,_,rfl,[c4],6,rfl,rfl,by decide,(show 1<=1000 by decide),_,rfl,_,rfl,[c5],6,rfl,rfl,by decide,(show 1<=1000 by decide),_,rfl,_,rfl,[c6],6,rfl,rfl,by decide,(show 1<=1000 by decide),_,rfl,?_⟩
  have hndu:(ltr [((c1,[c1]):Rule),(c2,(List.replicate 6 [c3]).flatten),(c3,(List.replicate 6 [c4]).flatten),(c4,(List.replicate 6 [c5]).flatten),(c5,(List.replicate 6 [c6]).flatten),(c6,[])]).Nodup:=hnd
  refine ⟨hd2,kvw [(c1,[c1]),(c2,(List.replicate 6 [c3]).flatten),(c3,(List.replicate 6 [c4]).flatten),(c4,(List.replicate 6 [c5]).flatten),(c5,(List.replicate 6 [c6]).flatten),(c6,[])],rfl,(show 6<=15 by decide),?_⟩
  rw [Ji hndu]
  have b2:But p H H2:=b1.trans (But.same s2)
  have hw:∀ q∈[((c1,[c1]):Rule),(c2,(List.replicate 6 [c3]).flatten),(c3,(List.replicate 6 [c4]).flatten),(c4,(List.replicate 6 [c5]).flatten),(c5,(List.replicate 6 [c6]).flatten),(c6,[])],q.2.length<=6/\∀ a∈q.2,a∈[c1,c2,c3,c4,c5,c6]:=by
   intro q hq
   simp only [List.mem_cons,List.not_mem_nil,or_false] at hq
   rcases hq with rfl | rfl | rfl | rfl | rfl | rfl
   ·exact ⟨(show 1<=6 by decide),fun a ha=>by rw [List.mem_singleton.mp ha];simp⟩
   ·exact ⟨(show 6<=6 by decide),fun a ha=>by rw [List.mem_singleton.mp (J0 ha)];simp⟩
   ·exact ⟨(show 6<=6 by decide),fun a ha=>by rw [List.mem_singleton.mp (J0 ha)];simp⟩
   ·exact ⟨(show 6<=6 by decide),fun a ha=>by rw [List.mem_singleton.mp (J0 ha)];simp⟩
   ·exact ⟨(show 6<=6 by decide),fun a ha=>by rw [List.mem_singleton.mp (J0 ha)];simp⟩
   ·exact ⟨(show 0<=6 by decide),by intro a ha;cases ha⟩
  have hlt0:ltr [((c1,[c1]):Rule),(c2,(List.replicate 6 [c3]).flatten),(c3,(List.replicate 6 [c4]).flatten),(c4,(List.replicate 6 [c5]).flatten),(c5,(List.replicate 6 [c6]).flatten),(c6,[])]=[c1,c2,c3,c4,c5,c6]:=rfl
  have hl0:[((c1,[c1]):Rule),(c2,(List.replicate 6 [c3]).flatten),(c3,(List.replicate 6 [c4]).flatten),(c4,(List.replicate 6 [c5]).flatten),(c5,(List.replicate 6 [c6]).flatten),(c6,[])].length=6:=rfl
  revert hw hndu hlt0 hl0
  generalize ([((c1,[c1]):Rule),(c2,(List.replicate 6 [c3]).flatten),(c3,(List.replicate 6 [c4]).flatten),(c4,(List.replicate 6 [c5]).flatten),(c5,(List.replicate 6 [c6]).flatten),(c6,[])])=rs0
  intro hndu hw hlt0 hl0
  have hd5:upd H2 d (.dK (kvw rs0)) d=some (.dK (kvw rs0)):=upd_same
  have hP5:=hP2.other (qg (o:=.dK (kvw rs0)) hdp.symm)
  have b5:But p H (upd H2 d (.dK (kvw rs0))):=fun a o h n=>q9 (b2 _ _ h n) fun z=>by
   have h1:=b1 _ _ h n
   rw [z,nd] at h1
   cases h1
  generalize upd H2 d (.dK (kvw rs0))=H5 at hd5 hP5 b5 ⊢
  refine ⟨_,rfl,_,rfl,_,rfl,p,_,3,rfl,hP5,by omega,by decide,by decide,fun z6 H6 z60 z61 hP6 e6=>?_⟩
  obtain ⟨m,rfl⟩:∃ m:Nat,z6=(m:Int):=⟨z6.toNat,by omega⟩
  have hrl:=Yp [c1] m
  have hrl':(List.replicate m [c1]).flatten.length=m:=by rw [hrl];simp
  have hri:∀ a∈(List.replicate m [c1]).flatten,a=c1:=fun a ha=>List.mem_singleton.mp (J0 ha)
  refine ⟨[c1],m,rfl,rfl,by omega,(show 1<=1000 by decide),?_⟩
  generalize (List.replicate m [c1]).flatten=zz at hrl' hri ⊢
  refine ⟨⟨#[c2]⟩,⟨zz.toArray⟩,rfl,rfl,szl (show 1+zz.length<=1000 by omega),?_⟩
  rw [show ((⟨#[c2]⟩:Str)++(⟨zz.toArray⟩:Str))=⟨(c2 :: zz).toArray⟩ from Jh [c2] zz]
  have hd6:=(e6 d hdp).trans hd5
  refine Jz (d:=d) (rs0:=rs0) rfl hd6 hndu (by omega) (fun R h=>⟨_,rfl,h⟩) fun r' qs rs' H7 s7 hp' hr' hrt hq=>?_
  refine ⟨szl (show 2<=1000 by decide),fun t' nt=>?_⟩
  have st:=Same.add (o:=.tup [tx (c2 :: zz),V.ref r']) nt
  have hF:Fine (c2 :: zz) rs0:=⟨by omega,hndu,fun q hq=>habc q.1 (by rw [<- hlt0];exact List.mem_map.mpr ⟨q,hq,rfl⟩),fun q hq=>(hw q hq).1,fun q hq a ha=>by rw [hlt0];exact (hw q hq).2 a ha,by rw [List.length_cons];omega,fun a ha=>by
   rw [hlt0]
   rcases List.mem_cons.mp ha with rfl | h
   ·simp
   ·rw [hri a h];simp⟩
  exact k t' _ rs' _ (hF.good hp' hr') ⟨r',qs,upd_same,st _ _ hrt,hq.mono (TupS.same st)⟩ (b5.trans ((but3 e6).trans (But.same (s7.trans st)))) ((penS hP6 (s7.trans st)).mono (by omega))
end
end Lw
namespace Lw
open PySem L2 PyProof.Rows
theorem TupS.but {X Y:Hp} {p:Addr} {n:Nat} (b:But p X Y) (hp:PenAt X p n):TupS X Y:=fun a xs h=>b _ _ h fun z=>by
 obtain ⟨_,_,_,e',_⟩:=hp.ex
 rw [z,e'] at h
 cases h
section
variable {P:Program} {w:World} {K:W.Frag} {mg:Str->Option Value} {base:Heap}
def spRgt (K:W.Frag):Sp:=fun vs H Q _=>∃ (p t:Addr) (b:Nat) (first:List Nat) (rs:List Rule) (m:Nat),vs=[.ref p,.ref t,.int (m:Int)]/\PenAt H p b/\b<=900000/\BookAt H t first rs/\Good first rs/\1<=m/\m<=8/\∀ H',But p H H'->PenAt H' p (b+2)->Q (.bl true) H'
theorem scRgt:FnScope ["_law_pen_here","_law_book_here","_law_many","_law_found","_law_age","_law_size","_law_place"] ["_law_pen_here","_law_book_here","_law_many"] (defScope sRgt):=⟨rfl,rfl,rfl,by decide +kernel,rfl,by decide +kernel,by decide +kernel⟩
theorem qjz {f fFas fTak fLng fLea fLls fRfl fIbk fWdr:Addr} {fd fdFas fdTak fdLng fdLea fdLls fdRfl fdIbk fdWdr:FuncData} (F:Fun K "_law_right" "_law_right" sRgt f fd)
  (GFas:FnOk P w K mg base CX0 9 fFas fdFas ["book","many"] (spFas K))
  (gFas:Gf K mg "fast" fFas fdFas ["book","many"])
  (GTak:FnOk P w K mg base CX0 1 fTak fdTak ["_law_pen_here","_law_size"] spTak)
  (gTak:Gf K mg "_law_take" fTak fdTak ["_law_pen_here","_law_size"])
  (GLng:FnOk P w K mg base CX0 7 fLng fdLng ["book","age"] spLng)
  (gLng:Gf K mg "length" fLng fdLng ["book","age"])
  (GLea:FnOk P w K mg base CX0 6 fLea fdLea ["book","age","place"] spLea)
  (gLea:Gf K mg "letter_at" fLea fdLea ["book","age","place"])
  (GLls:FnOk P w K mg base CX0 5 fLls fdLls ["book","age"] spLls)
  (gLls:Gf K mg "letter_lengths" fLls fdLls ["book","age"])
  (GRfl:FnOk P w K mg base CX0 10 fRfl fdRfl ["_law_book_here","_law_many"] (spRfl K))
  (gRfl:Gf K mg "_law_refusal" fRfl fdRfl ["_law_book_here","_law_many"])
  (GIbk:FnOk P w K mg base CX0 6 fIbk fdIbk ["thing"] (spIbk K))
  (gIbk:Gf K mg "is_book" fIbk fdIbk ["thing"])
  (GWdr:FnOk P w K mg base CX0 7 fWdr fdWdr ["_law_book_here","_law_found","_law_many"] (spWdr K))
  (gWdr:Gf K mg "_law_words_right" fWdr fdWdr ["_law_book_here","_law_found","_law_many"])
  (hmax:mg "max" = none)
  : FnOk P w K mg base CX0 11 f fd ["_law_pen_here","_law_book_here","_law_many"] (spRgt K):=by
 refine F.ok scRgt (fun vs H Q E h=>?_) (fun cdv A outer s H vs Q E hr h=>?_)
 ·obtain ⟨p,t,b,first,rs,m,rfl,_⟩:=h
  rfl
 ·obtain ⟨p,t,b,first,rs,m,rfl,hP,hb,hB,hG,h1,h8,k⟩:=h
  have hr1:Room 1 _:=hr.mono (by decide)
  have hr5:Room 5 _:=hr.mono (by decide)
  have hr6:Room 6 _:=hr.mono (by decide)
  have hr7:Room 7 _:=hr.mono (by decide)
  have hr9:Room 9 _:=hr.mono (by decide)
  refine ⟨_,(qc (jd (qr V3 (qem K rfl (by rfl) hmax (qa (qe GLls hr5 rfl gLls.m gLls.k gLls.b .nil pass0 (qa (pv 1) (qa (pv 2) qb))) qb)) qd (nomark _)) (qf (qh (j5 (qch K hr.units) (qe GRfl hr rfl gRfl.m gRfl.k gRfl.b .nil pass0 (qa (pv 1) (qa (pv 2) qb))) (ja (qa jz (qa j4 (qa j4 qb)))) (nomark _)))) qm)
   (qc (ql (i:=3) scRgt.nd rfl (Or.inl rfl) (qe GFas hr9 rfl gFas.m gFas.k gFas.b .nil pass0 (qa (pv 1) (qa (pv 2) qb))))
   (qc (jd (PW.pt (qat (qr qgj (qe GIbk hr6 rfl gIbk.m gIbk.k gIbk.b .nil pass0 (qa (pv 3) qb)) j4 (nomark _)) (qat (qr qaw (pe_ix (qq K) (pv 3) qd (fun _ _=>rfl)) (pe_ix (qq K) (pv 1) qd (fun _ _=>rfl)) (nomark _)) (Vz (jw (j0 (qe GWdr hr7 rfl gWdr.m gWdr.k gWdr.b .nil pass0 (qa (pv 1) (qa (pv 3) (qa (pv 2) qb)))))))))) (qf (qh j4)) qm)
   (qc (ql (i:=4) scRgt.nd rfl (Or.inl rfl) (qe GTak hr1 rfl gTak.m gTak.k gTak.b .nil pass0 (qa (pv 0) (qa qd qb))))
   (qc (ql (i:=5) scRgt.nd rfl (Or.inl rfl) (qe GLng hr7 rfl gLng.m gLng.k gLng.b .nil pass0 (qa (pv 3) (qa (pv 4) qb))))
   (qc (jd (qr qaw (pv 5) (qe GLng hr7 rfl gLng.m gLng.k gLng.b .nil pass0 (qa (pv 1) (qa (qp yb (pv 2) (pv 4)) qb))) (nomark _)) (qf (qh j4)) qm)
   (qc (jd (qr V2 (pv 5) qd (nomark _)) (qf (qh j4)) qm)
   (qc (ql (i:=6) scRgt.nd rfl (Or.inl rfl) (qe GTak hr1 rfl gTak.m gTak.k gTak.b .nil pass0 (qa (pv 0) (qa (pv 5) qb))))
   (qf (qh (j5 V2 (qe GLea hr6 rfl gLea.m gLea.k gLea.b .nil pass0 (qa (pv 3) (qa (pv 4) (qa (pv 6) qb)))) (qe GLea hr6 rfl gLea.m gLea.k gLea.b .nil pass0 (qa (pv 1) (qa (qp yb (pv 2) (pv 4)) (qa (pv 6) qb)))) (nomark _)))))))))))),?_⟩
  refine ⟨_,rfl,_,rfl,t,first,rs,m,rfl,hB,hG,by omega,fun ls H1 s1 nls hls=>?_⟩
  rw [Yk hG] at hls
  refine ⟨ls,lls rs m,rfl,SqL.of hls,fun mx hmx=>⟨_,_,rfl,rfl,_,rfl,ite2 (fun hc=>?_) (fun hc=>?_)⟩⟩
  ·have hns:¬ Sht rs m:=(qdq hmx).mp (of_decide_eq_true hc)
   refine ⟨_,rfl,_,rfl,.ref t,.int (m:Int),rfl,.inr ⟨t,first,rs,m,rfl,rfl,hB.mono (TupS.same s1),hG,h1,h8,hns,fun T H2 s2 hT=>⟨szl (show 3<=1000 by decide),fun U hU=>?_⟩⟩⟩
   have sU:=Same.add (o:=.tup [.str (Str.ofString "long"),.bl true,.bl false]) hU
   have s0:=s1.trans (s2.trans sU)
   exact ⟨0,T,U,rfl,rfl,Yo (sU _ _ hT) upd_same (by simp [flatV]),by omega,k _ (But.same s0) ((penS hP s0).mono (by omega))⟩
  have hs:Sht rs m:=by
   by_cases z:Sht rs m
   ·exact z
   ·exact absurd (decide_eq_true ((qdq hmx).mpr z)) hc
  refine ⟨_,rfl,_,rfl,t,first,rs,m,rfl,hB.mono (TupS.same s1),hG,h1,h8,hs,fun f' H2 s2 hF=>?_⟩
  have hG':=qe5 hG hs
  refine ⟨_,rfl,f',_,_,rfl,hF,hG',fun H3 s3=>⟨_,_,rfl,rfl,_,rfl,iteF ?_⟩⟩
  have s03:=s1.trans (s2.trans s3)
  have hB3:=hB.mono (TupS.same s03)
  have hF3:=hF.mono (TupS.same s3)
  obtain ⟨r,ps,b1,b2,b3⟩:=hB3.ex
  obtain ⟨rf,pf,f1,f2,f3⟩:=hF3.ex
  refine ⟨_,rfl,f',_,_,_,rfl,rfl,SqT.of f1,atI_nat (j:=0) rfl,_,rfl,t,_,_,_,rfl,rfl,SqT.of b1,atI_nat (j:=0) rfl,rfl,_,rfl,iteNS rfl ?_⟩
  refine ⟨_,rfl,_,rfl,_,rfl,t,f',first,rs,m,rfl,hB3,hG,hF3,h8,hs,fun H4 s4=>⟨_,rfl,iteF ?_⟩⟩
  have s04:=s03.trans s4
  have hP4:=penS hP s04
  refine ⟨_,rfl,p,_,37,rfl,hP4,by omega,by decide,by decide,fun zn H5 zn0 zn1 hP5 e5=>?_⟩
  obtain ⟨n,rfl⟩:∃ n:Nat,zn=(n:Int):=⟨zn.toNat,by omega⟩
  have hn:n<=36:=by omega
  have b45:But p H4 H5:=fun c o h n=>(e5 c n).trans h
  have hB5:=(hB.mono (TupS.same s04)).mono (TupS.but b45 hP4)
  have hF5:=(hF3.mono (TupS.same s4)).mono (TupS.but b45 hP4)
  have hmn:m * n<=8 * 36:=Nat.mul_le_mul h8 hn
  have emn:(m:Int) * (n:Int)=((m * n:Nat):Int):=by rw [Int.natCast_mul]
  have hcm:CMul (m:Int) (n:Int):=.inl ⟨Int.lt_of_lt_of_le (by decide) (show (0:Int)<=(m:Int) by omega),Int.lt_of_le_of_lt (show (m:Int)<=8 by omega) (by decide)⟩
  have eR:=qdm hG m hG.fin n
  refine ⟨_,rfl,_,rfl,f',first,fsR rs m,n,rfl,hF5,hG',by omega,fun H6 s6=>?_⟩
  rw [qas hG',eR]
  refine ⟨_,rfl,_,rfl,_,rfl,_,rfl,_,_,rfl,rfl,hcm,t,first,rs,m * n,?_,hB5.mono (TupS.same s6),hG,by omega,fun H7 s7=>⟨rfl,_,rfl,?_⟩⟩
  ·show [V.ref t,V.int ((m:Int) * (n:Int))]=_
   rw [emn]
  rw [qas hG]
  refine iteNS rfl ?_
  have s57:=s6.trans s7
  have hP7:=penS hP5 s57
  have b07:But p H H7:=(But.same s04).trans (b45.trans (But.same s57))
  refine ⟨_,rfl,rfl,_,rfl,ite2 (fun _=>k _ b07 (hP7.mono (by omega))) (fun hc2=>?_)⟩
  have hpos:0 < (rowN rs first (m * n)).length:=by
   by_cases z:(rowN rs first (m * n)).length=0
   ·exact absurd (decide_eq_true (congrArg V.int (show (((rowN rs first (m * n)).length:Nat):Int)=0 by omega))) hc2
   ·omega
  have sm:(rowN rs first (m * n)).length < 10 ^ 40:=by rw [<- eR];exact qdo hG' (by omega)
  refine ⟨_,rfl,_,rfl,p,_,_,rfl,hP7,by omega,by omega,Int.le_trans (show (((rowN rs first (m * n)).length:Nat):Int)<=10 ^ 40 by omega) (by decide),fun zp H8 z0 z1 hP8 e8=>?_⟩
  obtain ⟨pl,rfl⟩:∃ j:Nat,zp=(j:Int):=⟨zp.toNat,by omega⟩
  have hpl:pl < (rowN rs first (m * n)).length:=by omega
  have hpl':pl < (rowN (fsR rs m) first n).length:=by rw [eR];exact hpl
  have b78:But p H7 H8:=fun c o h n=>(e8 c n).trans h
  have hB8:=(hB5.mono (TupS.same s57)).mono (TupS.but b78 hP7)
  have hF8:=(hF5.mono (TupS.same s57)).mono (TupS.but b78 hP7)
  refine ⟨_,rfl,_,rfl,_,rfl,f',first,fsR rs m,n,pl,rfl,hF8,hG',by omega,Vy hpl',fun H9 s9=>?_⟩
  refine ⟨_,rfl,_,rfl,_,rfl,_,_,rfl,rfl,hcm,_,rfl,t,first,rs,m * n,pl,?_,hB8.mono (TupS.same s9),hG,by omega,Vy hpl,fun Ha sa=>⟨rfl,?_⟩⟩
  ·show [V.ref t,V.int ((m:Int) * (n:Int)),V.int (pl:Int)]=_
   rw [emn]
  have ea:=qdp hpl'
  have eb:=qdp hpl
  rw [eR,eb] at ea
  rw [Option.some.inj ea,decide_eq_true rfl]
  exact k _ (b07.trans (b78.trans (But.same (s9.trans sa)))) ((penS hP8 (s9.trans sa)).mono (by omega))
end
end Lw
namespace Lw
open PySem L2 PyProof.Rows
section
variable {P:Program} {w:World} {K:W.Frag} {mg:Str->Option Value} {base:Heap} {cTooLong cNoNumber:Addr}
theorem qhg {f fWin fShr fLet:Addr} {fd fdWin fdShr fdLet:FuncData} (F:Fun K "fast" "fast" sFas f fd)
  (GWin:FnOk P w K mg base CX0 2 fWin fdWin ["thing","least","most"] (spWin K))
  (gWin:Gf K mg "is_within" fWin fdWin ["thing","least","most"])
  (GShr:FnOk P w K mg base (CX1 P w) 8 fShr fdShr ["book","age","most"] (spShrX K cTooLong))
  (gShr:Gf K mg "short_row" fShr fdShr ["book","age","most"])
  (GLet:FnOk P w K mg base CX0 2 fLet fdLet ["book"] spLet)
  (gLet:Gf K mg "letters" fLet fdLet ["book"])
  {cNoNumber:Addr} (oNoNumber:OwnCls "NoNumber" cNoNumber bmV "ValueError.__new__" mg base)
  (htuple:mg "tuple" = none)
  {tkFASTEST:Tok} (hFASTEST:mg "FASTEST" = some (.int 8 tkFASTEST))
  {tkLONGEST_WORD:Tok} (hLONGEST_WORD:mg "LONGEST_WORD" = some (.int 6 tkLONGEST_WORD))
  : FnOk P w K mg base (CX1 P w) 9 f fd ["book","many"] (spFasX K cTooLong cNoNumber):=by
 refine F.ok1 scFas (fun vs H Q E h=>?_) (fun cdv A outer s H vs Q E hr h=>?_)
 ·obtain ⟨tv,z,rfl,_⟩:=h
  rfl
 ·obtain ⟨tv,z,rfl,k⟩:=h
  have hr2:Room 2 _:=hr.mono (by decide)
  refine ⟨_,(qc (jd (jw (j0 (qe GWin hr2 rfl gWin.m gWin.k gWin.b .nil pass0 (qa (pv 1) (qa qd (qa (jk (v:=.int 8) (by rfl) hFASTEST ⟨_,rfl⟩) qb)))))) (qf (Y0 oNoNumber PySem.F.excBase_ValueError rfl (qa jz qb))) qm)
   (qc (qgr (i:=2) (N':=["letter","book","many"]) (ix:=[none,some 0,some 1]) scFas.nd rfl rfl rfl rfl (yv (qe GLet hr2 rfl gLet.m gLet.k gLet.b .nil pass0 (qa (pv 0) qb))) (fun _ _ _ _ _ _=>(qj (i:=0) qdk rfl (Or.inl rfl))) (fun _ _ _ _ _ _=>qx) (fun _ _ _ _ _ _=>(ja (qa (pv 0) (qa (qe GShr hr rfl gShr.m gShr.k gShr.b .nil passX (qa (ja (qa (pv 0) (qa (pe_ix (qq K) (pv 1) qd (fun _ _=>rfl)) qb))) (qa (pv 2) (qa (jk (v:=.int 6) (by rfl) hLONGEST_WORD ⟨_,rfl⟩) qb)))) qb)))))
   (qf (qh (ja (qa (pe_ix (qq K) (pv 0) qd (fun _ _=>rfl)) (qa (qy (jf K) (by rfl) htuple (by first | exact PySem.boot_tuple | decide +kernel) (qa (pv 2) qb)) qb))))))),?_⟩
  rcases k with ⟨hz,k⟩ | ⟨t,first,rs,m,rfl,rfl,hB,hG,h1,h8,hs,k⟩
  ·exact ⟨_,rfl,z,1,8,rfl,.inr ⟨hz,_,rfl,iteT ⟨by decide,k⟩⟩⟩
  have hfew:=hG.few
  obtain ⟨r,ps,b1,b2,b3⟩:=hB.ex
  refine ⟨_,rfl,.int (m:Int),1,8,rfl,.inl ⟨_,rfl,by omega,by omega,_,rfl,iteF ?_⟩⟩
  refine ⟨_,rfl,t,first,rs,rfl,hB,hfew,fun H1 s1=>⟨⟨(ltr rs).toArray⟩,rfl,?_⟩⟩
  have ew:((⟨(ltr rs).toArray⟩:Str).cps.toList.map sign).length=(ltr rs).length:=by simp
  have lr:(ltr rs).length=rs.length:=by unfold ltr;rw [List.length_map]
  refine je (τ0:=[none,some (.ref t),some (.int (m:Int))]) (sure_str (x:=⟨(ltr rs).toArray⟩)) (by rw [ew];omega) (fun i ys τ H6=>Same H1 H6/\(∃ v,τ=[v,some (.ref t),some (.int (m:Int))])/\ys.length<=i/\∀ c∈(ltr rs).take i,(rowN rs [c] m).length<=6) ⟨Same.refl _,⟨_,rfl⟩,Nat.le_refl _,by intro c hc;cases hc⟩ ?_ ?_ ?_
  ·rintro i ys τ H6 hi ⟨s6,_,hl,_⟩
   exact ⟨trivial,hl⟩
  ·rintro i y ys τ H6 hy ⟨s6,⟨v,rfl⟩,hl,hle⟩
   have hy':((ltr rs).map sign)[i]? = some y:=hy
   rw [List.getElem?_map] at hy'
   cases e:(ltr rs)[i]? with
   | none=>rw [e] at hy';cases hy'
   | some c =>
    rw [e] at hy'
    cases hy'
    have hc:=List.mem_of_getElem? e
    have b16:=s6 _ _ (s1 _ _ b1)
    refine ⟨_,rfl,_,rfl,_,rfl,t,_,_,_,rfl,rfl,SqT.of b16,atI_nat (j:=1) rfl,szl (show 2<=1000 by decide),fun T0 nT0=>?_⟩
    have sT0:=Same.add (o:=.tup [sign c,V.ref r]) nT0
    have s07:=s1.trans (s6.trans sT0)
    have hB0:BookAt (upd H6 T0 (.tup [sign c,V.ref r])) T0 [c] rs:=⟨r,ps,upd_same,s07 _ _ b2,b3.mono (TupS.same s07)⟩
    refine ⟨_,rfl,T0,[c],rs,m,rfl,hB0,Vw hG hc,by omega,?_⟩
    by_cases h6:(rowN rs [c] m).length<=6
    ·refine .inr ⟨h6,fun H7 s7=>⟨szl (show 2<=1000 by decide),fun T nT=>⟨s6.trans (sT0.trans (s7.trans (Same.add nT))),⟨_,rfl⟩,by rw [List.length_append];show _+1<=_;omega,fun a ha=>?_⟩⟩⟩
     rw [List.take_add_one,e] at ha
     rcases List.mem_append.mp ha with h | h
     ·exact hle a h
     ·rw [List.mem_singleton.mp h];exact h6
    ·exact .inl ⟨by omega,fun H7 s7=>k _ (s07.trans s7)⟩
  rintro ys τ H6 L ⟨s6,_,hl,hle⟩ nL
  rw [ew,List.take_length] at hle
  exact absurd hle hs
end
end Lw
namespace Lw
open PySem L2 PyProof.Rows
section
variable {P:Program} {w:World} {K:W.Frag} {mg:Str->Option Value} {base:Heap}
theorem scLaw:FnScope ["_law_script","_law_k","_law_pen_here","_law_pick","_law_odd","_law_book_here","_law_many"] ["_law_script"] (defScope sLaw):=⟨rfl,rfl,rfl,by decide +kernel,rfl,by decide +kernel,by decide +kernel⟩
theorem qe6 {f fTak fRgt fRfl fLgw:Addr} {fdTak fdRgt fdRfl fdLgw:FuncData} {cdv:Value} {A:Around} {outer:List Env} {s:Shared} {H:Hp} {E:XK}
  (GTak:FnOk P w K mg base CX0 1 fTak fdTak ["_law_pen_here","_law_size"] spTak)
  (gTak:Gf K mg "_law_take" fTak fdTak ["_law_pen_here","_law_size"])
  (GRgt:FnOk P w K mg base CX0 11 fRgt fdRgt ["_law_pen_here","_law_book_here","_law_many"] (spRgt K))
  (gRgt:Gf K mg "_law_right" fRgt fdRgt ["_law_pen_here","_law_book_here","_law_many"])
  (GRfl:FnOk P w K mg base CX0 10 fRfl fdRfl ["_law_book_here","_law_many"] (spRfl K))
  (gRfl:Gf K mg "_law_refusal" fRfl fdRfl ["_law_book_here","_law_many"])
  (GLgw:FnOk P w K mg base CX0 3 fLgw fdLgw ["_law_pen_here"] (spLgw K))
  (gLgw:Gf K mg "_law_long_ways" fLgw fdLgw ["_law_pen_here"])
  (hr:Room 11 (A.deeper (PyProof.Rows.envOfC "law" (defScope sLaw) s.heap.objs.size f cdv))) :
  ∃ tt,PSs (cxOf CX0 P w K mg base ["_law_script","_law_k","_law_pen_here","_law_pick","_law_odd","_law_book_here","_law_many"] "law" (defScope sLaw) f cdv A outer s H E).nox ((inner ((defBody sLaw).getD 0 (.Pass ⟨0,0,0,0⟩))).drop 5) tt /\
   ∀ (D:Ends) (a p t:Addr) (first:List Nat) (rs:List Rule) (z:V) (b:Nat) (v1 v3 v6:Option V) (H0:Hp),PenAt H0 p b->b<=500000->BookAt H0 t first rs->Good first rs->OutOf K 1 8 H0 z->(∀ c,z=.ref c->c≠p) ->
    (∀ (u6:Option V) (H':Hp),But p H0 H'->D.nx [some (.ref a),v1,some (.ref p),v3,some z,some (.ref t),u6] H') ->
    tt D [some (.ref a),v1,some (.ref p),v3,some z,some (.ref t),v6] H0:=by
 have hr1:Room 1 _:=hr.mono (by decide)
 have hr3:Room 3 _:=hr.mono (by decide)
 have hr10:Room 10 _:=hr.mono (by decide)
 refine ⟨_,(qc (ql (i:=6) scLaw.nd rfl (Or.inl rfl) (qp jr qd (qe GTak hr1 rfl gTak.m gTak.k gTak.b .nil pass0 (qa (pv 2) (qa qd qb)))))
   (qc (jd (PW.pt (qat (jw (j0 (qe GRgt hr rfl gRgt.m gRgt.k gRgt.b .nil pass0 (qa (pv 2) (qa (pv 5) (qa (pv 6) qb)))))) (Vz (jw (j0 (qe GRgt hr rfl gRgt.m gRgt.k gRgt.b .nil pass0 (qa (pv 2) (qa (pv 5) (qa qd qb))))))))) (qf (qh j4)) qm)
   (qc (jd (jw (j0 (qe GRgt hr rfl gRgt.m gRgt.k gRgt.b .nil pass0 (qa (pv 2) (qa (qe GLgw hr3 rfl gLgw.m gLgw.k gLgw.b .nil pass0 (qa (pv 2) qb)) (qa (qp jr qd (qp qbp (pv 6) qd)) qb)))))) (qf (qh j4)) qm)
   (qf (jd (qr (qgd K hr.units) (qe GRfl hr10 rfl gRfl.m gRfl.k gRfl.b .nil pass0 (qa (pv 5) (qa (pv 4) qb))) (ja (qa jz (qa j4 (qa j4 qb)))) (nomark _)) (qf (qh j4)) qm))))),?_⟩
 intro D a p t first rs z b v1 v3 v6 H0 hP hb hB hG hz hzp k
 refine ⟨_,rfl,p,b,8,rfl,hP,by omega,by decide,by decide,fun zm H1 zm0 zm1 hP1 e1=>?_⟩
 obtain ⟨m0,rfl⟩:∃ j:Nat,zm=(j:Int):=⟨zm.toNat,by omega⟩
 have b01:But p H0 H1:=fun c o h n=>(e1 c n).trans h
 have hB1:=hB.mono (TupS.but b01 hP)
 have em:(1:Int)+(m0:Int)=((1+m0:Nat):Int):=by omega
 refine ⟨_,_,rfl,rfl,?_⟩
 have hm1:1+m0<=8:=by omega
 refine ⟨_,rfl,_,rfl,_,rfl,p,t,_,first,rs,1+m0,?_,hP1,by omega,hB1,hG,by omega,hm1,fun H2 b12 hP2=>⟨_,rfl,iteF ?_⟩⟩
 ·show [V.ref p,V.ref t,V.int (1+(m0:Int))]=_
  rw [em]
 have hB2:=hB1.mono (TupS.but b12 hP1)
 refine ⟨_,rfl,_,rfl,p,t,_,first,rs,1,rfl,hP2,by omega,hB2,hG,by omega,by omega,fun H3 b23 hP3=>⟨_,rfl,iteF ?_⟩⟩
 have hB3:=hB2.mono (TupS.but b23 hP2)
 refine ⟨_,rfl,_,rfl,p,_,rfl,hP3,by omega,fun t2 first2 rs2 H4 hG2 hB4 b34 hP4=>?_⟩
 have ed:(5:Int)+(1+(m0:Int)) / 3=((5+(1+m0) / 3:Nat):Int):=by omega
 refine ⟨_,rfl,_,_,rfl,rfl,⟨by decide,by decide⟩,_,_,rfl,rfl,p,t2,_,first2,rs2,5+(1+m0) / 3,?_,hP4,by omega,hB4,hG2,by omega,by omega,fun H5 b45 hP5=>⟨_,rfl,iteF ?_⟩⟩
 ·show [V.ref p,V.ref t2,V.int (5+(1+(m0:Int)) / 3)]=_
  rw [ed]
 have b05:But p H0 H5:=b01.trans (b12.trans (b23.trans (b34.trans b45)))
 have hz5:OutOf K 1 8 H5 z:=hz.keep fun c o e h=>b05 c o h (hzp c e)
 refine ⟨_,rfl,_,rfl,.ref t,z,rfl,.inl ⟨hz5,fun T H6 s6 hT=>⟨szl (show 3<=1000 by decide),fun U hU=>?_⟩⟩⟩
 have sU:=Same.add (o:=.tup [.str (Str.ofString "number"),.bl true,.bl false]) hU
 exact ⟨0,T,U,rfl,rfl,Yo (sU _ _ hT) upd_same (by simp [flatV]),by omega,_,rfl,iteF (k _ _ (b05.trans (But.same (s6.trans sU))))⟩
def spLaw (K:W.Frag):Sp:=fun vs H Q _=>∃ (a:Addr) (ns:List Int),vs=[.ref a]/\SqL K H a (ns.map V.int)/\ns.length<=63/\∀ H',Q (.bl true) H'
end
end Lw
namespace Lw
open PySem L2 PyProof.Rows
theorem pick8 {K:W.Frag} {X:Hp} {L1:Addr} {xs:List V} {j:Int} (h1:X L1=some (.lst xs)) (a:0<=j) (b:j < 8):∃ z,atI [.int 0,.int 9,.int (-1),.bl true,.non,.str (Str.ofString "1"),.ref L1,.int (10 ^ 40)] j=some z/\OutOf K 1 8 X z/\∀ c,z=.ref c->c=L1:=by
 obtain ⟨i,rfl⟩:∃ i:Nat,j=(i:Int):=⟨j.toNat,by omega⟩
 match i with
 | 0=>exact ⟨_,rfl,.inr ⟨0,rfl,.inl (by decide)⟩,fun c e=>by cases e⟩
 | 1=>exact ⟨_,rfl,.inr ⟨9,rfl,.inr (by decide)⟩,fun c e=>by cases e⟩
 | 2=>exact ⟨_,rfl,.inr ⟨-1,rfl,.inl (by decide)⟩,fun c e=>by cases e⟩
 | 3=>exact ⟨_,rfl,.inl ⟨"bool",.bl true,by simp⟩,fun c e=>by cases e⟩
 | 4=>exact ⟨_,rfl,.inl ⟨"NoneType",.non,by simp⟩,fun c e=>by cases e⟩
 | 5=>exact ⟨_,rfl,.inl ⟨"str",.str _,by simp⟩,fun c e=>by cases e⟩
 | 6=>exact ⟨_,rfl,.inl ⟨"list",.lst h1,by simp⟩,fun c e=>by cases e;rfl⟩
 | 7=>exact ⟨_,rfl,.inr ⟨10 ^ 40,rfl,.inr (by decide)⟩,fun c e=>by cases e⟩
 | i+8=>omega
section
variable {P:Program} {w:World} {K:W.Frag} {mg:Str->Option Value} {base:Heap}
theorem qe7 {H H':Hp} {a:Addr} {xs:List V} (e:∀ o,H a=some o->H' a=some o) (h:SqL K H a xs):SqL K H' a xs:=by
 rcases h with (h | ⟨o,h⟩) | h
 ·exact .inl (.inl (e _ h))
 ·exact .inl (.inr ⟨o,e _ h⟩)
 ·exact .inr h
theorem qj0 {f fPen fTak fBok fSlo fRgt fRfl fLgw:Addr} {fd fdPen fdTak fdBok fdSlo fdRgt fdRfl fdLgw:FuncData} (F:Fun K "law" "law" sLaw f fd)
  (GPen:FnOk P w K mg base CX0 1 fPen fdPen ["_law_script","_law_k"] (spPen K))
  (gPen:Gf K mg "_law_pen" fPen fdPen ["_law_script","_law_k"])
  (GTak:FnOk P w K mg base CX0 1 fTak fdTak ["_law_pen_here","_law_size"] spTak)
  (gTak:Gf K mg "_law_take" fTak fdTak ["_law_pen_here","_law_size"])
  (GBok:FnOk P w K mg base CX0 4 fBok fdBok ["_law_pen_here"] spBok)
  (gBok:Gf K mg "_law_book" fBok fdBok ["_law_pen_here"])
  (GSlo:FnOk P w K mg base CX0 3 fSlo fdSlo ["_law_pen_here"] (spSlo K))
  (gSlo:Gf K mg "_law_slow" fSlo fdSlo ["_law_pen_here"])
  (GRgt:FnOk P w K mg base CX0 11 fRgt fdRgt ["_law_pen_here","_law_book_here","_law_many"] (spRgt K))
  (gRgt:Gf K mg "_law_right" fRgt fdRgt ["_law_pen_here","_law_book_here","_law_many"])
  (GRfl:FnOk P w K mg base CX0 10 fRfl fdRfl ["_law_book_here","_law_many"] (spRfl K))
  (gRfl:Gf K mg "_law_refusal" fRfl fdRfl ["_law_book_here","_law_many"])
  (GLgw:FnOk P w K mg base CX0 3 fLgw fdLgw ["_law_pen_here"] (spLgw K))
  (gLgw:Gf K mg "_law_long_ways" fLgw fdLgw ["_law_pen_here"])
  (hrange:mg "range" = none)
  : FnOk P w K mg base CX0 12 f fd ["_law_script"] (spLaw K):=by
 refine F.ok scLaw (fun vs H Q E h=>?_) (fun cdv A outer s H vs Q E hr h=>?_)
 ·obtain ⟨a,ns,rfl,_⟩:=h
  rfl
 ·obtain ⟨a,ns,rfl,hS,h63,k⟩:=h
  have hr1:Room 1 _:=hr.mono (by decide)
  have hr3:Room 3 _:=hr.mono (by decide)
  have hr4:Room 4 _:=hr.mono (by decide)
  have hr10:Room 10 _:=hr.mono (by decide)
  obtain ⟨tt,hps,htl⟩:=qe6 (f:=f) (cdv:=cdv) (A:=A) (outer:=outer) (s:=s) (H:=H) (E:=E) GTak gTak GRgt gRgt GRfl gRfl GLgw gLgw hr
  refine ⟨_,(qc (za PassesOwn.never rfl (vy rfl hrange (qa qd qb)) (qj (i:=1) scLaw.nd rfl (Or.inl rfl)) (qc (ql (i:=2) scLaw.nd rfl (Or.inl rfl) (qe GPen hr1 rfl gPen.m gPen.k gPen.b .nil pass0 (qa (pv 0) (qa (pv 1) qb))))
   (qc (ql (i:=3) scLaw.nd rfl (Or.inl rfl) (qe GTak hr1 rfl gTak.m gTak.k gTak.b .nil pass0 (qa (pv 2) (qa qd qb))))
   (qc (ql (i:=4) scLaw.nd rfl (Or.inl rfl) (pe_ix (jc K) (j9 (qa qd (qa qd (qa (V1 yd qd) (qa j4 (qa qe8 (qa jz (qa (j9 (qa qd qb)) (qa (qp ym qd qd) qb))))))))) (qe GTak hr1 rfl gTak.m gTak.k gTak.b .nil pass0 (qa (pv 2) (qa qd qb))) (fun _ _=>rfl)))
   (qc (ql (i:=5) scLaw.nd rfl (Or.inl rfl) (qe GBok hr4 rfl gBok.m gBok.k gBok.b .nil pass0 (qa (pv 2) qb)))
   (qc (jd (qr V2 (pv 3) qd (nomark _)) (qf (ql (i:=5) scLaw.nd rfl (Or.inl rfl) (qe GSlo hr3 rfl gSlo.m gSlo.k gSlo.b .nil pass0 (qa (pv 2) qb)))) qm)
   hps))))))
   (qf (qh j4))),?_⟩
  refine ⟨_,rfl,by decide,by decide,?_⟩
  refine for_by (vi (lo:=0) (n:=Int.toNat 3)) (fun i σ H9=>∃ (v1 v2 v3 v4 v5 v6:Option V),σ=[some (.ref a),v1,v2,v3,v4,v5,v6]/\Same H H9)
   ⟨_,_,_,_,_,_,rfl,Same.refl _⟩ (fun _ _ _ _ _=>trivial) ?_ ?_
  ·rintro i x σ H9 hx ⟨v1,v2,v3,v4,v5,v6,rfl,s9⟩
   obtain ⟨hi,rfl⟩:=qfo hx
   have hi3:i < 3:=hi
   refine ⟨_,rfl,_,rfl,a,ns,_,rfl,qe7 (fun o ho=>s9 _ _ ho) hS,h63,by omega,by omega,fun p Ha sa np hPa=>?_⟩
   refine ⟨_,rfl,p,0,3,rfl,hPa,by omega,by decide,by decide,fun zl Hb z0 z1 hPb eb=>?_⟩
   have nlp:∀ {X:Hp} {l:Addr} {m:Nat},PenAt X p m->X l=none->l≠p:=fun hp hn z=>by
    obtain ⟨_,_,_,e',_⟩:=hp.ex
    rw [z,e'] at hn
    cases hn
   have but3:∀ {X Y:Hp},(∀ c,c≠p->Y c=X c)->But p X Y:=fun e c o h n=>(e c n).trans h
   refine ⟨_,rfl,szl (show 1<=1000 by decide),fun L1 nL1=>?_⟩
   have sL1:=Same.add (o:=.lst [.int 1]) nL1
   have hL1p:=nlp hPb nL1
   refine ⟨_,_,rfl,rfl,⟨by decide,by decide⟩,szl (show 8<=1000 by decide),fun L nL=>?_⟩
   have sL:=Same.add (o:=.lst [.int 0,.int 9,.int (-1),.bl true,.non,.str (Str.ofString "1"),.ref L1,.int (10 ^ 40)]) nL
   have hLp:=nlp (penS hPb sL1) nL
   refine ⟨_,rfl,p,_,8,rfl,penS hPb (sL1.trans sL),by omega,by decide,by decide,fun j8 Hc j80 j81 hPc ec=>?_⟩
   have hL1c:Hc L1=some (.lst [.int 1]):=(ec L1 hL1p).trans (sL _ _ upd_same)
   obtain ⟨z,hz,hout,hzc⟩:=pick8 (K:=K) hL1c j80 j81
   refine ⟨L,_,_,z,rfl,rfl,SqL.of ((ec L hLp).trans upd_same),hz,?_⟩
   have hzp:∀ c,z=.ref c->c≠p:=fun c e=>by rw [hzc c e];exact hL1p
   have b9c:∀ c o,H9 c=some o->Hc c=some o:=fun c o h=>(ec c (ne_of_none h np)).trans (sL _ _ (sL1 _ _ ((eb c (ne_of_none h np)).trans (sa _ _ h))))
   refine ⟨_,rfl,p,_,rfl,hPc,by omega,fun t first rs Hd hG hB bd hPd=>?_⟩
   have hzd:OutOf K 1 8 Hd z:=hout.keep fun c o e h=>bd c o h (hzp c e)
   refine ⟨_,rfl,rfl,_,rfl,ite2 (fun hc=>?_) (fun hc=>?_)⟩
   ·refine ⟨_,rfl,p,_,rfl,hPd,by omega,fun t2 first2 rs2 He hG2 hB2 be hPe=>?_⟩
    refine htl _ a p t2 first2 rs2 z _ _ _ _ He hPe (by omega) hB2 hG2 (hzd.keep fun c o e h=>be c o h (hzp c e)) hzp fun u6 H' b'=>⟨_,_,_,_,_,_,rfl,s9.trans fun c o h=>b' _ _ (be _ _ (bd _ _ (b9c c o h) (ne_of_none h np)) (ne_of_none h np)) (ne_of_none h np)⟩
   ·refine htl _ a p t first rs z _ _ _ _ Hd hPd (by omega) hB hG hzd hzp fun u6 H' b'=>⟨_,_,_,_,_,_,rfl,s9.trans fun c o h=>b' _ _ (bd _ _ (b9c c o h) (ne_of_none h np)) (ne_of_none h np)⟩
  ·rintro σ H9 ⟨v1,v2,v3,v4,v5,v6,rfl,s9⟩
   exact k _
end
end Lw
namespace Lw
open PySem L2 PyProof.Rows PySem.W
theorem own_mk {K:W.Frag} {h:Heap} {mg:Str->Option Value} {x:Str} {C:Addr} {bmB:List Value} {newId:String} (X:K.In h) (G:h.Ns mainGlobals mg) (e:nsIn K mainGlobals x=some (some (.ref C))) (q:excIn K C bmB newId=true):OwnCls x C bmB newId mg h:=by
 refine ⟨mg_of X G e,?_⟩
 unfold excIn at q
 split at q
 ·rename_i dd cd sl hobj
  split at q
  ·rename_i C2 bm2 s0 s1 s2 s3 nid s5 hmro hslots
   simp only [Bool.and_eq_true,beq_iff_eq,Bool.not_eq_true'] at q
   obtain ⟨⟨⟨⟨⟨rfl,rfl⟩,hdl⟩,htl⟩,hns⟩,hin⟩:=q
   obtain ⟨nm,bs,mro,nsa,qn,hd,sn,sub,ab,col,del⟩:=cd
   dsimp only at hmro hdl hns hin
   subst hmro hdl
   have esl:sl = #[s0,s1,s2,s3,some (.builtin nid),s5]:=by
    obtain ⟨lst⟩:=sl
    simp only at hslots
    rw [hslots]
   subst esl
   exact ⟨bm2,nsa,nm,qn,bs,hd,sn,sub,ab,col,dd,s0,s1,s2,s3,s5,_,X _ _ hobj,.of_isNs (isNs_of_in X hns),nsMap_none_of_in X hns hin,tail_of_in X htl⟩
  ·cases q
 ·cases q
end Lw
namespace Lw
open PySem L2 PyProof.Rows
theorem qu {K:W.Frag} {h:Heap} {mg:Str->Option Value} {x:Str} {fd:FuncData} {f:Addr} {ps:List Str} (X:K.In h) (G:h.Ns mainGlobals mg) (a:W.nsIn K mainGlobals x=some (some (.ref f))) (k:W.keepIn K (.ref f)=true) (b:Binds K fd ps []):Gf K mg x f fd ps :=
 ⟨W.mg_of X G a,k,b⟩
theorem all_mk {l:W.OpenLaw} {w:World} {K:W.Frag} {h:Heap} {mg:Str->Option Value} {fa f0 f1 f2 f3 f4 f5 f6 f7 f8 f9 f10 f11 f12 f13 f14 f15 f16 f17 f18 f19 f20 f21 f22 f23 f24 f25 f26 f27 f28 f29 f30 f31 f32 f33 f34 f35 f36 f37 f38 f39 f40 f41 f42 f43 f44 f45 f46 f47 f48 f49 f50:Addr} (X:K.In h) (G:h.Ns mainGlobals mg) (hfa:mg "law" = some (.ref fa))
  {od0 an0 od1 an1 od2 an2 od3 an3 od4 an4 od5 an5 od6 an6 od7 an7 od8 an8 od9 an9 od10 an10 od11 an11 od12 an12 od13 an13 od14 an14 od15 an15 od16 an16 od17 an17 od18 an18 od19 an19 od20 an20 od21 an21 od22 an22 od23 an23 od24 an24 od25 an25 od26 an26 od27 an27 od28 an28 od29 an29 od30 an30 od31 an31 od32 an32 od33 an33 od34 an34 od35 an35 od36 an36 od37 an37 od38 an38 od39 an39 od40 an40 od41 an41 od42 an42 od43 an43 od44 an44 od45 an45 od46 an46 od47 an47 od48 an48 od49 an49 od50 an50:Option Addr} {sl0 sl1 sl2 sl3 sl4 sl5 sl6 sl7 sl8 sl9 sl10 sl11 sl12 sl13 sl14 sl15 sl16 sl17 sl18 sl19 sl20 sl21 sl22 sl23 sl24 sl25 sl26 sl27 sl28 sl29 sl30 sl31 sl32 sl33 sl34 sl35 sl36 sl37 sl38 sl39 sl40 sl41 sl42 sl43 sl44 sl45 sl46 sl47 sl48 sl49 sl50:Array (Option Value)} {oc0 kV0 dc0 pm0 cd0 ct0 oc1 kV1 dc1 pm1 cd1 ct1 oc2 kV2 dc2 pm2 cd2 ct2 oc3 kV3 dc3 pm3 cd3 ct3 oc4 kV4 dc4 pm4 cd4 ct4 oc5 kV5 dc5 pm5 cd5 ct5 oc6 kV6 dc6 pm6 cd6 ct6 oc7 kV7 dc7 pm7 cd7 ct7 oc8 kV8 dc8 pm8 cd8 ct8 oc9 kV9 dc9 pm9 cd9 ct9 oc10 kV10 dc10 pm10 cd10 ct10 oc11 kV11 dc11 pm11 cd11 ct11 oc12 kV12 dc12 pm12 cd12 ct12 oc13 kV13 dc13 pm13 cd13 ct13 oc14 kV14 dc14 pm14 cd14 ct14 oc15 kV15 dc15 pm15 cd15 ct15 oc16 kV16 dc16 pm16 cd16 ct16 oc17 kV17 dc17 pm17 cd17 ct17 oc18 kV18 dc18 pm18 cd18 ct18 oc19 kV19 dc19 pm19 cd19 ct19 oc20 kV20 dc20 pm20 cd20 ct20 oc21 kV21 dc21 pm21 cd21 ct21 oc22 kV22 dc22 pm22 cd22 ct22 oc23 kV23 dc23 pm23 cd23 ct23 oc24 kV24 dc24 pm24 cd24 ct24 oc25 kV25 dc25 pm25 cd25 ct25 oc26 kV26 dc26 pm26 cd26 ct26 oc27 kV27 dc27 pm27 cd27 ct27 oc28 kV28 dc28 pm28 cd28 ct28 oc29 kV29 dc29 pm29 cd29 ct29 oc30 kV30 dc30 pm30 cd30 ct30 oc31 kV31 dc31 pm31 cd31 ct31 oc32 kV32 dc32 pm32 cd32 ct32 oc33 kV33 dc33 pm33 cd33 ct33 oc34 kV34 dc34 pm34 cd34 ct34 oc35 kV35 dc35 pm35 cd35 ct35 oc36 kV36 dc36 pm36 cd36 ct36 oc37 kV37 dc37 pm37 cd37 ct37 oc38 kV38 dc38 pm38 cd38 ct38 oc39 kV39 dc39 pm39 cd39 ct39 oc40 kV40 dc40 pm40 cd40 ct40 oc41 kV41 dc41 pm41 cd41 ct41 oc42 kV42 dc42 pm42 cd42 ct42 oc43 kV43 dc43 pm43 cd43 ct43 oc44 kV44 dc44 pm44 cd44 ct44 oc45 kV45 dc45 pm45 cd45 ct45 oc46 kV46 dc46 pm46 cd46 ct46 oc47 kV47 dc47 pm47 cd47 ct47 oc48 kV48 dc48 pm48 cd48 ct48 oc49 kV49 dc49 pm49 cd49 ct49 oc50 kV50 dc50 pm50 cd50 ct50:Value} {tkSMALL_LETTERS tkLAST_AGE tkMOST_RULES tkLONGEST_WORD tkLONGEST_FIRST tkLONGEST_STRETCH tkFASTEST:Tok}
  (a0:W.nsIn K mainGlobals "is_whole" = some (some (.ref f0))) (l0:K.lookup f0=some ⟨oc0,od0,.func (W.fnOf "is_whole" "is_whole" (defArgs sWho) (defBody sWho) (defScope sWho) .none kV0 dc0 pm0 an0 cd0 ct0),sl0⟩) (c0:W.codeIn K cd0 "is_whole" = true) (k0:W.keepIn K (.ref f0)=true)
  (a1:W.nsIn K mainGlobals "is_within" = some (some (.ref f1))) (l1:K.lookup f1=some ⟨oc1,od1,.func (W.fnOf "is_within" "is_within" (defArgs sWin) (defBody sWin) (defScope sWin) .none kV1 dc1 pm1 an1 cd1 ct1),sl1⟩) (c1:W.codeIn K cd1 "is_within" = true) (k1:W.keepIn K (.ref f1)=true)
  (a2:W.nsIn K mainGlobals "is_tuple_of" = some (some (.ref f2))) (l2:K.lookup f2=some ⟨oc2,od2,.func (W.fnOf "is_tuple_of" "is_tuple_of" (defArgs sItp) (defBody sItp) (defScope sItp) .none kV2 dc2 pm2 an2 cd2 ct2),sl2⟩) (c2:W.codeIn K cd2 "is_tuple_of" = true) (k2:W.keepIn K (.ref f2)=true)
  (a3:W.nsIn K mainGlobals "is_letter" = some (some (.ref f3))) (l3:K.lookup f3=some ⟨oc3,od3,.func (W.fnOf "is_letter" "is_letter" (defArgs sIsl) (defBody sIsl) (defScope sIsl) .none kV3 dc3 pm3 an3 cd3 ct3),sl3⟩) (c3:W.codeIn K cd3 "is_letter" = true) (k3:W.keepIn K (.ref f3)=true)
  (a4:W.nsIn K mainGlobals "is_text_of" = some (some (.ref f4))) (l4:K.lookup f4=some ⟨oc4,od4,.func (W.fnOf "is_text_of" "is_text_of" (defArgs sItx) (defBody sItx) (defScope sItx) .none kV4 dc4 pm4 an4 cd4 ct4),sl4⟩) (c4:W.codeIn K cd4 "is_text_of" = true) (k4:W.keepIn K (.ref f4)=true)
  (a5:W.nsIn K mainGlobals "need_age" = some (some (.ref f5))) (l5:K.lookup f5=some ⟨oc5,od5,.func (W.fnOf "need_age" "need_age" (defArgs sNag) (defBody sNag) (defScope sNag) .none kV5 dc5 pm5 an5 cd5 ct5),sl5⟩) (c5:W.codeIn K cd5 "need_age" = true) (k5:W.keepIn K (.ref f5)=true)
  (a6:W.nsIn K mainGlobals "has_letter_ahead" = some (some (.ref f6))) (l6:K.lookup f6=some ⟨oc6,od6,.func (W.fnOf "has_letter_ahead" "has_letter_ahead" (defArgs sHla) (defBody sHla) (defScope sHla) .none kV6 dc6 pm6 an6 cd6 ct6),sl6⟩) (c6:W.codeIn K cd6 "has_letter_ahead" = true) (k6:W.keepIn K (.ref f6)=true)
  (a7:W.nsIn K mainGlobals "ruled_letters" = some (some (.ref f7))) (l7:K.lookup f7=some ⟨oc7,od7,.func (W.fnOf "ruled_letters" "ruled_letters" (defArgs sRul) (defBody sRul) (defScope sRul) .none kV7 dc7 pm7 an7 cd7 ct7),sl7⟩) (c7:W.codeIn K cd7 "ruled_letters" = true) (k7:W.keepIn K (.ref f7)=true)
  (a8:W.nsIn K mainGlobals "makes_rules" = some (some (.ref f8))) (l8:K.lookup f8=some ⟨oc8,od8,.func (W.fnOf "makes_rules" "makes_rules" (defArgs sMru) (defBody sMru) (defScope sMru) .none kV8 dc8 pm8 an8 cd8 ct8),sl8⟩) (c8:W.codeIn K cd8 "makes_rules" = true) (k8:W.keepIn K (.ref f8)=true)
  (a9:W.nsIn K mainGlobals "makes_book" = some (some (.ref f9))) (l9:K.lookup f9=some ⟨oc9,od9,.func (W.fnOf "makes_book" "makes_book" (defArgs sMbo) (defBody sMbo) (defScope sMbo) .none kV9 dc9 pm9 an9 cd9 ct9),sl9⟩) (c9:W.codeIn K cd9 "makes_book" = true) (k9:W.keepIn K (.ref f9)=true)
  (a10:W.nsIn K mainGlobals "book_of" = some (some (.ref f10))) (l10:K.lookup f10=some ⟨oc10,od10,.func (W.fnOf "book_of" "book_of" (defArgs sBko) (defBody sBko) (defScope sBko) .none kV10 dc10 pm10 an10 cd10 ct10),sl10⟩) (c10:W.codeIn K cd10 "book_of" = true) (k10:W.keepIn K (.ref f10)=true)
  (a11:W.nsIn K mainGlobals "is_book" = some (some (.ref f11))) (l11:K.lookup f11=some ⟨oc11,od11,.func (W.fnOf "is_book" "is_book" (defArgs sIbk) (defBody sIbk) (defScope sIbk) .none kV11 dc11 pm11 an11 cd11 ct11),sl11⟩) (c11:W.codeIn K cd11 "is_book" = true) (k11:W.keepIn K (.ref f11)=true)
  (a12:W.nsIn K mainGlobals "letters" = some (some (.ref f12))) (l12:K.lookup f12=some ⟨oc12,od12,.func (W.fnOf "letters" "letters" (defArgs sLet) (defBody sLet) (defScope sLet) .none kV12 dc12 pm12 an12 cd12 ct12),sl12⟩) (c12:W.codeIn K cd12 "letters" = true) (k12:W.keepIn K (.ref f12)=true)
  (a13:W.nsIn K mainGlobals "replaced" = some (some (.ref f13))) (l13:K.lookup f13=some ⟨oc13,od13,.func (W.fnOf "replaced" "replaced" (defArgs sRep) (defBody sRep) (defScope sRep) .none kV13 dc13 pm13 an13 cd13 ct13),sl13⟩) (c13:W.codeIn K cd13 "replaced" = true) (k13:W.keepIn K (.ref f13)=true)
  (a14:W.nsIn K mainGlobals "tally" = some (some (.ref f14))) (l14:K.lookup f14=some ⟨oc14,od14,.func (W.fnOf "tally" "tally" (defArgs sTal) (defBody sTal) (defScope sTal) .none kV14 dc14 pm14 an14 cd14 ct14),sl14⟩) (c14:W.codeIn K cd14 "tally" = true) (k14:W.keepIn K (.ref f14)=true)
  (a15:W.nsIn K mainGlobals "table" = some (some (.ref f15))) (l15:K.lookup f15=some ⟨oc15,od15,.func (W.fnOf "table" "table" (defArgs sTab) (defBody sTab) (defScope sTab) .none kV15 dc15 pm15 an15 cd15 ct15),sl15⟩) (c15:W.codeIn K cd15 "table" = true) (k15:W.keepIn K (.ref f15)=true)
  (a16:W.nsIn K mainGlobals "column" = some (some (.ref f16))) (l16:K.lookup f16=some ⟨oc16,od16,.func (W.fnOf "column" "column" (defArgs sCol) (defBody sCol) (defScope sCol) .none kV16 dc16 pm16 an16 cd16 ct16),sl16⟩) (c16:W.codeIn K cd16 "column" = true) (k16:W.keepIn K (.ref f16)=true)
  (a17:W.nsIn K mainGlobals "columns" = some (some (.ref f17))) (l17:K.lookup f17=some ⟨oc17,od17,.func (W.fnOf "columns" "columns" (defArgs sCls) (defBody sCls) (defScope sCls) .none kV17 dc17 pm17 an17 cd17 ct17),sl17⟩) (c17:W.codeIn K cd17 "columns" = true) (k17:W.keepIn K (.ref f17)=true)
  (a18:W.nsIn K mainGlobals "paired_sum" = some (some (.ref f18))) (l18:K.lookup f18=some ⟨oc18,od18,.func (W.fnOf "paired_sum" "paired_sum" (defArgs sPrs) (defBody sPrs) (defScope sPrs) .none kV18 dc18 pm18 an18 cd18 ct18),sl18⟩) (c18:W.codeIn K cd18 "paired_sum" = true) (k18:W.keepIn K (.ref f18)=true)
  (a19:W.nsIn K mainGlobals "one_age_on" = some (some (.ref f19))) (l19:K.lookup f19=some ⟨oc19,od19,.func (W.fnOf "one_age_on" "one_age_on" (defArgs sOao) (defBody sOao) (defScope sOao) .none kV19 dc19 pm19 an19 cd19 ct19),sl19⟩) (c19:W.codeIn K cd19 "one_age_on" = true) (k19:W.keepIn K (.ref f19)=true)
  (a20:W.nsIn K mainGlobals "counts" = some (some (.ref f20))) (l20:K.lookup f20=some ⟨oc20,od20,.func (W.fnOf "counts" "counts" (defArgs sCou) (defBody sCou) (defScope sCou) .none kV20 dc20 pm20 an20 cd20 ct20),sl20⟩) (c20:W.codeIn K cd20 "counts" = true) (k20:W.keepIn K (.ref f20)=true)
  (a21:W.nsIn K mainGlobals "first_counts" = some (some (.ref f21))) (l21:K.lookup f21=some ⟨oc21,od21,.func (W.fnOf "first_counts" "first_counts" (defArgs sFcs) (defBody sFcs) (defScope sFcs) .none kV21 dc21 pm21 an21 cd21 ct21),sl21⟩) (c21:W.codeIn K cd21 "first_counts" = true) (k21:W.keepIn K (.ref f21)=true)
  (a22:W.nsIn K mainGlobals "length" = some (some (.ref f22))) (l22:K.lookup f22=some ⟨oc22,od22,.func (W.fnOf "length" "length" (defArgs sLng) (defBody sLng) (defScope sLng) .none kV22 dc22 pm22 an22 cd22 ct22),sl22⟩) (c22:W.codeIn K cd22 "length" = true) (k22:W.keepIn K (.ref f22)=true)
  (a23:W.nsIn K mainGlobals "text_sum" = some (some (.ref f23))) (l23:K.lookup f23=some ⟨oc23,od23,.func (W.fnOf "text_sum" "text_sum" (defArgs sTsm) (defBody sTsm) (defScope sTsm) .none kV23 dc23 pm23 an23 cd23 ct23),sl23⟩) (c23:W.codeIn K cd23 "text_sum" = true) (k23:W.keepIn K (.ref f23)=true)
  (a24:W.nsIn K mainGlobals "words_by_age" = some (some (.ref f24))) (l24:K.lookup f24=some ⟨oc24,od24,.func (W.fnOf "words_by_age" "words_by_age" (defArgs sWba) (defBody sWba) (defScope sWba) .none kV24 dc24 pm24 an24 cd24 ct24),sl24⟩) (c24:W.codeIn K cd24 "words_by_age" = true) (k24:W.keepIn K (.ref f24)=true)
  (a25:W.nsIn K mainGlobals "letter_sums" = some (some (.ref f25))) (l25:K.lookup f25=some ⟨oc25,od25,.func (W.fnOf "letter_sums" "letter_sums" (defArgs sLsm) (defBody sLsm) (defScope sLsm) .none kV25 dc25 pm25 an25 cd25 ct25),sl25⟩) (c25:W.codeIn K cd25 "letter_sums" = true) (k25:W.keepIn K (.ref f25)=true)
  (a26:W.nsIn K mainGlobals "size_sums" = some (some (.ref f26))) (l26:K.lookup f26=some ⟨oc26,od26,.func (W.fnOf "size_sums" "size_sums" (defArgs sSsm) (defBody sSsm) (defScope sSsm) .none kV26 dc26 pm26 an26 cd26 ct26),sl26⟩) (c26:W.codeIn K cd26 "size_sums" = true) (k26:W.keepIn K (.ref f26)=true)
  (a27:W.nsIn K mainGlobals "length_sums" = some (some (.ref f27))) (l27:K.lookup f27=some ⟨oc27,od27,.func (W.fnOf "length_sums" "length_sums" (defArgs sLns) (defBody sLns) (defScope sLns) .none kV27 dc27 pm27 an27 cd27 ct27),sl27⟩) (c27:W.codeIn K cd27 "length_sums" = true) (k27:W.keepIn K (.ref f27)=true)
  (a28:W.nsIn K mainGlobals "letter_lengths" = some (some (.ref f28))) (l28:K.lookup f28=some ⟨oc28,od28,.func (W.fnOf "letter_lengths" "letter_lengths" (defArgs sLls) (defBody sLls) (defScope sLls) .none kV28 dc28 pm28 an28 cd28 ct28),sl28⟩) (c28:W.codeIn K cd28 "letter_lengths" = true) (k28:W.keepIn K (.ref f28)=true)
  (a29:W.nsIn K mainGlobals "need_place" = some (some (.ref f29))) (l29:K.lookup f29=some ⟨oc29,od29,.func (W.fnOf "need_place" "need_place" (defArgs sNpl) (defBody sNpl) (defScope sNpl) .none kV29 dc29 pm29 an29 cd29 ct29),sl29⟩) (c29:W.codeIn K cd29 "need_place" = true) (k29:W.keepIn K (.ref f29)=true)
  (a30:W.nsIn K mainGlobals "way_behind" = some (some (.ref f30))) (l30:K.lookup f30=some ⟨oc30,od30,.func (W.fnOf "way_behind" "way_behind" (defArgs sWbh) (defBody sWbh) (defScope sWbh) .none kV30 dc30 pm30 an30 cd30 ct30),sl30⟩) (c30:W.codeIn K cd30 "way_behind" = true) (k30:W.keepIn K (.ref f30)=true)
  (a31:W.nsIn K mainGlobals "way" = some (some (.ref f31))) (l31:K.lookup f31=some ⟨oc31,od31,.func (W.fnOf "way" "way" (defArgs sWay) (defBody sWay) (defScope sWay) .none kV31 dc31 pm31 an31 cd31 ct31),sl31⟩) (c31:W.codeIn K cd31 "way" = true) (k31:W.keepIn K (.ref f31)=true)
  (a32:W.nsIn K mainGlobals "letter_at" = some (some (.ref f32))) (l32:K.lookup f32=some ⟨oc32,od32,.func (W.fnOf "letter_at" "letter_at" (defArgs sLea) (defBody sLea) (defScope sLea) .none kV32 dc32 pm32 an32 cd32 ct32),sl32⟩) (c32:W.codeIn K cd32 "letter_at" = true) (k32:W.keepIn K (.ref f32)=true)
  (a33:W.nsIn K mainGlobals "within" = some (some (.ref f33))) (l33:K.lookup f33=some ⟨oc33,od33,.func (W.fnOf "within" "within" (defArgs sWit) (defBody sWit) (defScope sWit) .none kV33 dc33 pm33 an33 cd33 ct33),sl33⟩) (c33:W.codeIn K cd33 "within" = true) (k33:W.keepIn K (.ref f33)=true)
  (a34:W.nsIn K mainGlobals "read" = some (some (.ref f34))) (l34:K.lookup f34=some ⟨oc34,od34,.func (W.fnOf "read" "read" (defArgs sRea) (defBody sRea) (defScope sRea) .none kV34 dc34 pm34 an34 cd34 ct34),sl34⟩) (c34:W.codeIn K cd34 "read" = true) (k34:W.keepIn K (.ref f34)=true)
  (a35:W.nsIn K mainGlobals "need_stretch" = some (some (.ref f35))) (l35:K.lookup f35=some ⟨oc35,od35,.func (W.fnOf "need_stretch" "need_stretch" (defArgs sNst) (defBody sNst) (defScope sNst) .none kV35 dc35 pm35 an35 cd35 ct35),sl35⟩) (c35:W.codeIn K cd35 "need_stretch" = true) (k35:W.keepIn K (.ref f35)=true)
  (a36:W.nsIn K mainGlobals "stretch" = some (some (.ref f36))) (l36:K.lookup f36=some ⟨oc36,od36,.func (W.fnOf "stretch" "stretch" (defArgs sStr) (defBody sStr) (defScope sStr) .none kV36 dc36 pm36 an36 cd36 ct36),sl36⟩) (c36:W.codeIn K cd36 "stretch" = true) (k36:W.keepIn K (.ref f36)=true)
  (a37:W.nsIn K mainGlobals "short_row" = some (some (.ref f37))) (l37:K.lookup f37=some ⟨oc37,od37,.func (W.fnOf "short_row" "short_row" (defArgs sShr) (defBody sShr) (defScope sShr) .none kV37 dc37 pm37 an37 cd37 ct37),sl37⟩) (c37:W.codeIn K cd37 "short_row" = true) (k37:W.keepIn K (.ref f37)=true)
  (a38:W.nsIn K mainGlobals "fast" = some (some (.ref f38))) (l38:K.lookup f38=some ⟨oc38,od38,.func (W.fnOf "fast" "fast" (defArgs sFas) (defBody sFas) (defScope sFas) .none kV38 dc38 pm38 an38 cd38 ct38),sl38⟩) (c38:W.codeIn K cd38 "fast" = true) (k38:W.keepIn K (.ref f38)=true)
  (a39:W.nsIn K mainGlobals "_law_pen" = some (some (.ref f39))) (l39:K.lookup f39=some ⟨oc39,od39,.func (W.fnOf "_law_pen" "_law_pen" (defArgs sPen) (defBody sPen) (defScope sPen) .none kV39 dc39 pm39 an39 cd39 ct39),sl39⟩) (c39:W.codeIn K cd39 "_law_pen" = true) (k39:W.keepIn K (.ref f39)=true)
  (a40:W.nsIn K mainGlobals "_law_take" = some (some (.ref f40))) (l40:K.lookup f40=some ⟨oc40,od40,.func (W.fnOf "_law_take" "_law_take" (defArgs sTak) (defBody sTak) (defScope sTak) .none kV40 dc40 pm40 an40 cd40 ct40),sl40⟩) (c40:W.codeIn K cd40 "_law_take" = true) (k40:W.keepIn K (.ref f40)=true)
  (a41:W.nsIn K mainGlobals "_law_signs" = some (some (.ref f41))) (l41:K.lookup f41=some ⟨oc41,od41,.func (W.fnOf "_law_signs" "_law_signs" (defArgs sSig) (defBody sSig) (defScope sSig) .none kV41 dc41 pm41 an41 cd41 ct41),sl41⟩) (c41:W.codeIn K cd41 "_law_signs" = true) (k41:W.keepIn K (.ref f41)=true)
  (a42:W.nsIn K mainGlobals "_law_text" = some (some (.ref f42))) (l42:K.lookup f42=some ⟨oc42,od42,.func (W.fnOf "_law_text" "_law_text" (defArgs sTxt) (defBody sTxt) (defScope sTxt) .none kV42 dc42 pm42 an42 cd42 ct42),sl42⟩) (c42:W.codeIn K cd42 "_law_text" = true) (k42:W.keepIn K (.ref f42)=true)
  (a43:W.nsIn K mainGlobals "_law_word" = some (some (.ref f43))) (l43:K.lookup f43=some ⟨oc43,od43,.func (W.fnOf "_law_word" "_law_word" (defArgs sWrd) (defBody sWrd) (defScope sWrd) .none kV43 dc43 pm43 an43 cd43 ct43),sl43⟩) (c43:W.codeIn K cd43 "_law_word" = true) (k43:W.keepIn K (.ref f43)=true)
  (a44:W.nsIn K mainGlobals "_law_book" = some (some (.ref f44))) (l44:K.lookup f44=some ⟨oc44,od44,.func (W.fnOf "_law_book" "_law_book" (defArgs sBok) (defBody sBok) (defScope sBok) .none kV44 dc44 pm44 an44 cd44 ct44),sl44⟩) (c44:W.codeIn K cd44 "_law_book" = true) (k44:W.keepIn K (.ref f44)=true)
  (a45:W.nsIn K mainGlobals "_law_slow" = some (some (.ref f45))) (l45:K.lookup f45=some ⟨oc45,od45,.func (W.fnOf "_law_slow" "_law_slow" (defArgs sSlo) (defBody sSlo) (defScope sSlo) .none kV45 dc45 pm45 an45 cd45 ct45),sl45⟩) (c45:W.codeIn K cd45 "_law_slow" = true) (k45:W.keepIn K (.ref f45)=true)
  (a46:W.nsIn K mainGlobals "_law_long_ways" = some (some (.ref f46))) (l46:K.lookup f46=some ⟨oc46,od46,.func (W.fnOf "_law_long_ways" "_law_long_ways" (defArgs sLgw) (defBody sLgw) (defScope sLgw) .none kV46 dc46 pm46 an46 cd46 ct46),sl46⟩) (c46:W.codeIn K cd46 "_law_long_ways" = true) (k46:W.keepIn K (.ref f46)=true)
  (a47:W.nsIn K mainGlobals "_law_refusal" = some (some (.ref f47))) (l47:K.lookup f47=some ⟨oc47,od47,.func (W.fnOf "_law_refusal" "_law_refusal" (defArgs sRfl) (defBody sRfl) (defScope sRfl) .none kV47 dc47 pm47 an47 cd47 ct47),sl47⟩) (c47:W.codeIn K cd47 "_law_refusal" = true) (k47:W.keepIn K (.ref f47)=true)
  (a48:W.nsIn K mainGlobals "_law_words_right" = some (some (.ref f48))) (l48:K.lookup f48=some ⟨oc48,od48,.func (W.fnOf "_law_words_right" "_law_words_right" (defArgs sWdr) (defBody sWdr) (defScope sWdr) .none kV48 dc48 pm48 an48 cd48 ct48),sl48⟩) (c48:W.codeIn K cd48 "_law_words_right" = true) (k48:W.keepIn K (.ref f48)=true)
  (a49:W.nsIn K mainGlobals "_law_right" = some (some (.ref f49))) (l49:K.lookup f49=some ⟨oc49,od49,.func (W.fnOf "_law_right" "_law_right" (defArgs sRgt) (defBody sRgt) (defScope sRgt) .none kV49 dc49 pm49 an49 cd49 ct49),sl49⟩) (c49:W.codeIn K cd49 "_law_right" = true) (k49:W.keepIn K (.ref f49)=true)
  (a50:W.nsIn K mainGlobals "law" = some (some (.ref f50))) (l50:K.lookup f50=some ⟨oc50,od50,.func (W.fnOf "law" "law" (defArgs sLaw) (defBody sLaw) (defScope sLaw) .none kV50 dc50 pm50 an50 cd50 ct50),sl50⟩) (c50:W.codeIn K cd50 "law" = true) (k50:W.keepIn K (.ref f50)=true)
  (z0:W.nsIn K mainGlobals "int" = some none) (z1:W.nsIn K mainGlobals "isinstance" = some none) (z2:W.nsIn K mainGlobals "bool" = some none) (z3:W.nsIn K mainGlobals "len" = some none) (z4:W.nsIn K mainGlobals "tuple" = some none) (z5:W.nsIn K mainGlobals "str" = some none) (z6:W.nsIn K mainGlobals "all" = some none) (z7:W.nsIn K mainGlobals "list" = some none) (z8:W.nsIn K mainGlobals "set" = some none) (z9:W.nsIn K mainGlobals "sorted" = some none) (z10:W.nsIn K mainGlobals "range" = some none) (z11:W.nsIn K mainGlobals "zip" = some none) (z12:W.nsIn K mainGlobals "sum" = some none) (z13:W.nsIn K mainGlobals "dict" = some none) (z14:W.nsIn K mainGlobals "reversed" = some none) (z15:W.nsIn K mainGlobals "max" = some none) (z16:W.nsIn K mainGlobals "min" = some none) (z17:W.nsIn K mainGlobals "enumerate" = some none)
  (y0:W.nsIn K mainGlobals "SMALL_LETTERS" = some (some (.str "abcdefghijklmnopqrstuvwxyz" tkSMALL_LETTERS)))
  (y1:W.nsIn K mainGlobals "LAST_AGE" = some (some (.int 300 tkLAST_AGE)))
  (y2:W.nsIn K mainGlobals "MOST_RULES" = some (some (.int 8 tkMOST_RULES)))
  (y3:W.nsIn K mainGlobals "LONGEST_WORD" = some (some (.int 6 tkLONGEST_WORD)))
  (y4:W.nsIn K mainGlobals "LONGEST_FIRST" = some (some (.int 12 tkLONGEST_FIRST)))
  (y5:W.nsIn K mainGlobals "LONGEST_STRETCH" = some (some (.int 100 tkLONGEST_STRETCH)))
  (y6:W.nsIn K mainGlobals "FASTEST" = some (some (.int 8 tkFASTEST)))
  {cGrowError cNoBook cNoAge cNoNumber cNoPlace cTooLong:Addr} {cdt0 cdt1 cdt2 cdt3 cdt4 cdt5:ClassData}
  (ac0:W.nsIn K mainGlobals "GrowError" = some (some (.ref cGrowError))) (kc0:W.clsIn K cGrowError=some cdt0) (kn0:W.instIn K (.ref cGrowError) (.type "tuple")=some false) (kb0:W.mroIn K cGrowError (.type "BaseException")=some true) (kt0:W.typeIn K (.ref cGrowError)=some (.type "type"))
  (ac1:W.nsIn K mainGlobals "NoBook" = some (some (.ref cNoBook))) (kc1:W.clsIn K cNoBook=some cdt1) (kn1:W.instIn K (.ref cNoBook) (.type "tuple")=some false) (kb1:W.mroIn K cNoBook (.type "BaseException")=some true) (kt1:W.typeIn K (.ref cNoBook)=some (.type "type")) (q1:W.excIn K cNoBook [.type "ValueError",.type "Exception",.type "BaseException",.type "object"] "ValueError.__new__" = true) (xf1:W.findIn K (.ref cNoBook) "__class__" = some (some (.builtin "object.__class__"))) (xg1:W.specialIn K (.builtin "object.__class__") "__get__" = some (some (.builtin "getset_descriptor.__get__"))) (xt1:W.takesIn K (.builtin "object.__class__")=some true) (xo1:W.mroIn K cNoBook (.type "object")=some true) (xa1:W.findIn K (.ref cNoBook) "__getattribute__" = some (some (.builtin "BaseException.__getattribute__"))) (xh1:W.findIn K (.ref cNoBook) "__getattr__" = some none) (xv1:W.mroIn K cNoBook (.type "ValueError")=some true) (r1_0:W.mroIn K cNoBook (.ref cGrowError)=some true) (r1_1:W.mroIn K cNoBook (.ref cNoBook)=some true) (r1_2:W.mroIn K cNoBook (.ref cNoAge)=some false) (r1_3:W.mroIn K cNoBook (.ref cNoNumber)=some false) (r1_4:W.mroIn K cNoBook (.ref cNoPlace)=some false) (r1_5:W.mroIn K cNoBook (.ref cTooLong)=some false)
  (ac2:W.nsIn K mainGlobals "NoAge" = some (some (.ref cNoAge))) (kc2:W.clsIn K cNoAge=some cdt2) (kn2:W.instIn K (.ref cNoAge) (.type "tuple")=some false) (kb2:W.mroIn K cNoAge (.type "BaseException")=some true) (kt2:W.typeIn K (.ref cNoAge)=some (.type "type")) (q2:W.excIn K cNoAge [.type "ValueError",.type "Exception",.type "BaseException",.type "object"] "ValueError.__new__" = true) (xf2:W.findIn K (.ref cNoAge) "__class__" = some (some (.builtin "object.__class__"))) (xg2:W.specialIn K (.builtin "object.__class__") "__get__" = some (some (.builtin "getset_descriptor.__get__"))) (xt2:W.takesIn K (.builtin "object.__class__")=some true) (xo2:W.mroIn K cNoAge (.type "object")=some true) (xa2:W.findIn K (.ref cNoAge) "__getattribute__" = some (some (.builtin "BaseException.__getattribute__"))) (xh2:W.findIn K (.ref cNoAge) "__getattr__" = some none) (xv2:W.mroIn K cNoAge (.type "ValueError")=some true) (r2_0:W.mroIn K cNoAge (.ref cGrowError)=some true) (r2_1:W.mroIn K cNoAge (.ref cNoBook)=some false) (r2_2:W.mroIn K cNoAge (.ref cNoAge)=some true) (r2_3:W.mroIn K cNoAge (.ref cNoNumber)=some false) (r2_4:W.mroIn K cNoAge (.ref cNoPlace)=some false) (r2_5:W.mroIn K cNoAge (.ref cTooLong)=some false)
  (ac3:W.nsIn K mainGlobals "NoNumber" = some (some (.ref cNoNumber))) (kc3:W.clsIn K cNoNumber=some cdt3) (kn3:W.instIn K (.ref cNoNumber) (.type "tuple")=some false) (kb3:W.mroIn K cNoNumber (.type "BaseException")=some true) (kt3:W.typeIn K (.ref cNoNumber)=some (.type "type")) (q3:W.excIn K cNoNumber [.type "ValueError",.type "Exception",.type "BaseException",.type "object"] "ValueError.__new__" = true) (xf3:W.findIn K (.ref cNoNumber) "__class__" = some (some (.builtin "object.__class__"))) (xg3:W.specialIn K (.builtin "object.__class__") "__get__" = some (some (.builtin "getset_descriptor.__get__"))) (xt3:W.takesIn K (.builtin "object.__class__")=some true) (xo3:W.mroIn K cNoNumber (.type "object")=some true) (xa3:W.findIn K (.ref cNoNumber) "__getattribute__" = some (some (.builtin "BaseException.__getattribute__"))) (xh3:W.findIn K (.ref cNoNumber) "__getattr__" = some none) (xv3:W.mroIn K cNoNumber (.type "ValueError")=some true) (r3_0:W.mroIn K cNoNumber (.ref cGrowError)=some true) (r3_1:W.mroIn K cNoNumber (.ref cNoBook)=some false) (r3_2:W.mroIn K cNoNumber (.ref cNoAge)=some false) (r3_3:W.mroIn K cNoNumber (.ref cNoNumber)=some true) (r3_4:W.mroIn K cNoNumber (.ref cNoPlace)=some false) (r3_5:W.mroIn K cNoNumber (.ref cTooLong)=some false)
  (ac4:W.nsIn K mainGlobals "NoPlace" = some (some (.ref cNoPlace))) (kc4:W.clsIn K cNoPlace=some cdt4) (kn4:W.instIn K (.ref cNoPlace) (.type "tuple")=some false) (kb4:W.mroIn K cNoPlace (.type "BaseException")=some true) (kt4:W.typeIn K (.ref cNoPlace)=some (.type "type")) (q4:W.excIn K cNoPlace [.type "ValueError",.type "Exception",.type "BaseException",.type "object"] "ValueError.__new__" = true) (xf4:W.findIn K (.ref cNoPlace) "__class__" = some (some (.builtin "object.__class__"))) (xg4:W.specialIn K (.builtin "object.__class__") "__get__" = some (some (.builtin "getset_descriptor.__get__"))) (xt4:W.takesIn K (.builtin "object.__class__")=some true) (xo4:W.mroIn K cNoPlace (.type "object")=some true) (xa4:W.findIn K (.ref cNoPlace) "__getattribute__" = some (some (.builtin "BaseException.__getattribute__"))) (xh4:W.findIn K (.ref cNoPlace) "__getattr__" = some none) (xv4:W.mroIn K cNoPlace (.type "ValueError")=some true) (r4_0:W.mroIn K cNoPlace (.ref cGrowError)=some true) (r4_1:W.mroIn K cNoPlace (.ref cNoBook)=some false) (r4_2:W.mroIn K cNoPlace (.ref cNoAge)=some false) (r4_3:W.mroIn K cNoPlace (.ref cNoNumber)=some false) (r4_4:W.mroIn K cNoPlace (.ref cNoPlace)=some true) (r4_5:W.mroIn K cNoPlace (.ref cTooLong)=some false)
  (ac5:W.nsIn K mainGlobals "TooLong" = some (some (.ref cTooLong))) (kc5:W.clsIn K cTooLong=some cdt5) (kn5:W.instIn K (.ref cTooLong) (.type "tuple")=some false) (kb5:W.mroIn K cTooLong (.type "BaseException")=some true) (kt5:W.typeIn K (.ref cTooLong)=some (.type "type")) (q5:W.excIn K cTooLong [.type "ValueError",.type "Exception",.type "BaseException",.type "object"] "ValueError.__new__" = true) (xf5:W.findIn K (.ref cTooLong) "__class__" = some (some (.builtin "object.__class__"))) (xg5:W.specialIn K (.builtin "object.__class__") "__get__" = some (some (.builtin "getset_descriptor.__get__"))) (xt5:W.takesIn K (.builtin "object.__class__")=some true) (xo5:W.mroIn K cTooLong (.type "object")=some true) (xa5:W.findIn K (.ref cTooLong) "__getattribute__" = some (some (.builtin "BaseException.__getattribute__"))) (xh5:W.findIn K (.ref cTooLong) "__getattr__" = some none) (xv5:W.mroIn K cTooLong (.type "ValueError")=some true) (r5_0:W.mroIn K cTooLong (.ref cGrowError)=some true) (r5_1:W.mroIn K cTooLong (.ref cNoBook)=some false) (r5_2:W.mroIn K cTooLong (.ref cNoAge)=some false) (r5_3:W.mroIn K cTooLong (.ref cNoNumber)=some false) (r5_4:W.mroIn K cTooLong (.ref cNoPlace)=some false) (r5_5:W.mroIn K cTooLong (.ref cTooLong)=some true)
  : ∃ fd:FuncData,(∀ (s:Shared) (v:Value),BindsTo s fd ⟨[v],[]⟩ [("_law_script",v)])/\∀ base:Heap,K.In base->base.Ns mainGlobals mg->FnOk l.prog w K mg base CX0 12 fa fd ["_law_script"] (spLaw K):=by
 have e:=hfa.symm.trans (W.mg_of X G a50)
 cases e
 have F0:=qk (st:=sWho) l0 c0 k0
 have F1:=qk (st:=sWin) l1 c1 k1
 have F2:=qk (st:=sItp) l2 c2 k2
 have F3:=qk (st:=sIsl) l3 c3 k3
 have F4:=qk (st:=sItx) l4 c4 k4
 have F5:=qk (st:=sNag) l5 c5 k5
 have F6:=qk (st:=sHla) l6 c6 k6
 have F7:=qk (st:=sRul) l7 c7 k7
 have F8:=qk (st:=sMru) l8 c8 k8
 have F9:=qk (st:=sMbo) l9 c9 k9
 have F10:=qk (st:=sBko) l10 c10 k10
 have F11:=qk (st:=sIbk) l11 c11 k11
 have F12:=qk (st:=sLet) l12 c12 k12
 have F13:=qk (st:=sRep) l13 c13 k13
 have F14:=qk (st:=sTal) l14 c14 k14
 have F15:=qk (st:=sTab) l15 c15 k15
 have F16:=qk (st:=sCol) l16 c16 k16
 have F17:=qk (st:=sCls) l17 c17 k17
 have F18:=qk (st:=sPrs) l18 c18 k18
 have F19:=qk (st:=sOao) l19 c19 k19
 have F20:=qk (st:=sCou) l20 c20 k20
 have F21:=qk (st:=sFcs) l21 c21 k21
 have F22:=qk (st:=sLng) l22 c22 k22
 have F23:=qk (st:=sTsm) l23 c23 k23
 have F24:=qk (st:=sWba) l24 c24 k24
 have F25:=qk (st:=sLsm) l25 c25 k25
 have F26:=qk (st:=sSsm) l26 c26 k26
 have F27:=qk (st:=sLns) l27 c27 k27
 have F28:=qk (st:=sLls) l28 c28 k28
 have F29:=qk (st:=sNpl) l29 c29 k29
 have F30:=qk (st:=sWbh) l30 c30 k30
 have F31:=qk (st:=sWay) l31 c31 k31
 have F32:=qk (st:=sLea) l32 c32 k32
 have F33:=qk (st:=sWit) l33 c33 k33
 have F34:=qk (st:=sRea) l34 c34 k34
 have F35:=qk (st:=sNst) l35 c35 k35
 have F36:=qk (st:=sStr) l36 c36 k36
 have F37:=qk (st:=sShr) l37 c37 k37
 have F38:=qk (st:=sFas) l38 c38 k38
 have F39:=qk (st:=sPen) l39 c39 k39
 have F40:=qk (st:=sTak) l40 c40 k40
 have F41:=qk (st:=sSig) l41 c41 k41
 have F42:=qk (st:=sTxt) l42 c42 k42
 have F43:=qk (st:=sWrd) l43 c43 k43
 have F44:=qk (st:=sBok) l44 c44 k44
 have F45:=qk (st:=sSlo) l45 c45 k45
 have F46:=qk (st:=sLgw) l46 c46 k46
 have F47:=qk (st:=sRfl) l47 c47 k47
 have F48:=qk (st:=sWdr) l48 c48 k48
 have F49:=qk (st:=sRgt) l49 c49 k49
 have F50:=qk (st:=sLaw) l50 c50 k50
 have b0:=F0.binds (ps:=["thing"]) fun _ _ _ _ _ _ us hl=>match us,hl with | [_],_=>rfl
 have gWho:=qu X G a0 k0 b0
 have b1:=F1.binds (ps:=["thing","least","most"]) fun _ _ _ _ _ _ us hl=>match us,hl with | [_,_,_],_=>rfl
 have gWin:=qu X G a1 k1 b1
 have b2:=F2.binds (ps:=["thing","many"]) fun _ _ _ _ _ _ us hl=>match us,hl with | [_,_],_=>rfl
 have gItp:=qu X G a2 k2 b2
 have b3:=F3.binds (ps:=["thing"]) fun _ _ _ _ _ _ us hl=>match us,hl with | [_],_=>rfl
 have gIsl:=qu X G a3 k3 b3
 have b4:=F4.binds (ps:=["thing","signs","most"]) fun _ _ _ _ _ _ us hl=>match us,hl with | [_,_,_],_=>rfl
 have gItx:=qu X G a4 k4 b4
 have b5:=F5.binds (ps:=["age"]) fun _ _ _ _ _ _ us hl=>match us,hl with | [_],_=>rfl
 have gNag:=qu X G a5 k5 b5
 have b6:=F6.binds (ps:=["rule"]) fun _ _ _ _ _ _ us hl=>match us,hl with | [_],_=>rfl
 have gHla:=qu X G a6 k6 b6
 have b7:=F7.binds (ps:=["rules"]) fun _ _ _ _ _ _ us hl=>match us,hl with | [_],_=>rfl
 have gRul:=qu X G a7 k7 b7
 have b8:=F8.binds (ps:=["rules"]) fun _ _ _ _ _ _ us hl=>match us,hl with | [_],_=>rfl
 have gMru:=qu X G a8 k8 b8
 have b9:=F9.binds (ps:=["first","rules"]) fun _ _ _ _ _ _ us hl=>match us,hl with | [_,_],_=>rfl
 have gMbo:=qu X G a9 k9 b9
 have b10:=F10.binds (ps:=["first","rules"]) fun _ _ _ _ _ _ us hl=>match us,hl with | [_,_],_=>rfl
 have gBko:=qu X G a10 k10 b10
 have b11:=F11.binds (ps:=["thing"]) fun _ _ _ _ _ _ us hl=>match us,hl with | [_],_=>rfl
 have gIbk:=qu X G a11 k11 b11
 have b12:=F12.binds (ps:=["book"]) fun _ _ _ _ _ _ us hl=>match us,hl with | [_],_=>rfl
 have gLet:=qu X G a12 k12 b12
 have b13:=F13.binds (ps:=["text","words"]) fun _ _ _ _ _ _ us hl=>match us,hl with | [_,_],_=>rfl
 have gRep:=qu X G a13 k13 b13
 have b14:=F14.binds (ps:=["book","text"]) fun _ _ _ _ _ _ us hl=>match us,hl with | [_,_],_=>rfl
 have gTal:=qu X G a14 k14 b14
 have b15:=F15.binds (ps:=["book"]) fun _ _ _ _ _ _ us hl=>match us,hl with | [_],_=>rfl
 have gTab:=qu X G a15 k15 b15
 have b16:=F16.binds (ps:=["lines","place"]) fun _ _ _ _ _ _ us hl=>match us,hl with | [_,_],_=>rfl
 have gCol:=qu X G a16 k16 b16
 have b17:=F17.binds (ps:=["lines"]) fun _ _ _ _ _ _ us hl=>match us,hl with | [_],_=>rfl
 have gCls:=qu X G a17 k17 b17
 have b18:=F18.binds (ps:=["ones","others"]) fun _ _ _ _ _ _ us hl=>match us,hl with | [_,_],_=>rfl
 have gPrs:=qu X G a18 k18 b18
 have b19:=F19.binds (ps:=["line","sources"]) fun _ _ _ _ _ _ us hl=>match us,hl with | [_,_],_=>rfl
 have gOao:=qu X G a19 k19 b19
 have b20:=F20.binds (ps:=["book","age"]) fun _ _ _ _ _ _ us hl=>match us,hl with | [_,_],_=>rfl
 have gCou:=qu X G a20 k20 b20
 have b21:=F21.binds (ps:=["book","many"]) fun _ _ _ _ _ _ us hl=>match us,hl with | [_,_],_=>rfl
 have gFcs:=qu X G a21 k21 b21
 have b22:=F22.binds (ps:=["book","age"]) fun _ _ _ _ _ _ us hl=>match us,hl with | [_,_],_=>rfl
 have gLng:=qu X G a22 k22 b22
 have b23:=F23.binds (ps:=["text","worths"]) fun _ _ _ _ _ _ us hl=>match us,hl with | [_,_],_=>rfl
 have gTsm:=qu X G a23 k23 b23
 have b24:=F24.binds (ps:=["book","age"]) fun _ _ _ _ _ _ us hl=>match us,hl with | [_,_],_=>rfl
 have gWba:=qu X G a24 k24 b24
 have b25:=F25.binds (ps:=["words","worths"]) fun _ _ _ _ _ _ us hl=>match us,hl with | [_,_],_=>rfl
 have gLsm:=qu X G a25 k25 b25
 have b26:=F26.binds (ps:=["words"]) fun _ _ _ _ _ _ us hl=>match us,hl with | [_],_=>rfl
 have gSsm:=qu X G a26 k26 b26
 have b27:=F27.binds (ps:=["book","age"]) fun _ _ _ _ _ _ us hl=>match us,hl with | [_,_],_=>rfl
 have gLns:=qu X G a27 k27 b27
 have b28:=F28.binds (ps:=["book","age"]) fun _ _ _ _ _ _ us hl=>match us,hl with | [_,_],_=>rfl
 have gLls:=qu X G a28 k28 b28
 have b29:=F29.binds (ps:=["place","last"]) fun _ _ _ _ _ _ us hl=>match us,hl with | [_,_],_=>rfl
 have gNpl:=qu X G a29 k29 b29
 have b30:=F30.binds (ps:=["first","words","sums","many"]) fun _ _ _ _ _ _ us hl=>match us,hl with | [_,_,_,_],_=>rfl
 have gWbh:=qu X G a30 k30 b30
 have b31:=F31.binds (ps:=["book","age","place"]) fun _ _ _ _ _ _ us hl=>match us,hl with | [_,_,_],_=>rfl
 have gWay:=qu X G a31 k31 b31
 have b32:=F32.binds (ps:=["book","age","place"]) fun _ _ _ _ _ _ us hl=>match us,hl with | [_,_,_],_=>rfl
 have gLea:=qu X G a32 k32 b32
 have b33:=F33.binds (ps:=["text","sizes","start","many"]) fun _ _ _ _ _ _ us hl=>match us,hl with | [_,_,_,_],_=>rfl
 have gWit:=qu X G a33 k33 b33
 have b34:=F34.binds (ps:=["first","words","sums","start","many"]) fun _ _ _ _ _ _ us hl=>match us,hl with | [_,_,_,_,_],_=>rfl
 have gRea:=qu X G a34 k34 b34
 have b35:=F35.binds (ps:=["start","many","whole"]) fun _ _ _ _ _ _ us hl=>match us,hl with | [_,_,_],_=>rfl
 have gNst:=qu X G a35 k35 b35
 have b36:=F36.binds (ps:=["book","age","start","many"]) fun _ _ _ _ _ _ us hl=>match us,hl with | [_,_,_,_],_=>rfl
 have gStr:=qu X G a36 k36 b36
 have b37:=F37.binds (ps:=["book","age","most"]) fun _ _ _ _ _ _ us hl=>match us,hl with | [_,_,_],_=>rfl
 have gShr:=qu X G a37 k37 b37
 have b38:=F38.binds (ps:=["book","many"]) fun _ _ _ _ _ _ us hl=>match us,hl with | [_,_],_=>rfl
 have gFas:=qu X G a38 k38 b38
 have b39:=F39.binds (ps:=["_law_script","_law_k"]) fun _ _ _ _ _ _ us hl=>match us,hl with | [_,_],_=>rfl
 have gPen:=qu X G a39 k39 b39
 have b40:=F40.binds (ps:=["_law_pen_here","_law_size"]) fun _ _ _ _ _ _ us hl=>match us,hl with | [_,_],_=>rfl
 have gTak:=qu X G a40 k40 b40
 have b41:=F41.binds (ps:=["_law_pen_here","_law_many"]) fun _ _ _ _ _ _ us hl=>match us,hl with | [_,_],_=>rfl
 have gSig:=qu X G a41 k41 b41
 have b42:=F42.binds (ps:=["_law_pen_here","_law_signs_here","_law_many"]) fun _ _ _ _ _ _ us hl=>match us,hl with | [_,_,_],_=>rfl
 have gTxt:=qu X G a42 k42 b42
 have b43:=F43.binds (ps:=["_law_pen_here","_law_pick","_law_signs_here","_law_at"]) fun _ _ _ _ _ _ us hl=>match us,hl with | [_,_,_,_],_=>rfl
 have gWrd:=qu X G a43 k43 b43
 have b44:=F44.binds (ps:=["_law_pen_here"]) fun _ _ _ _ _ _ us hl=>match us,hl with | [_],_=>rfl
 have gBok:=qu X G a44 k44 b44
 have b45:=F45.binds (ps:=["_law_pen_here"]) fun _ _ _ _ _ _ us hl=>match us,hl with | [_],_=>rfl
 have gSlo:=qu X G a45 k45 b45
 have b46:=F46.binds (ps:=["_law_pen_here"]) fun _ _ _ _ _ _ us hl=>match us,hl with | [_],_=>rfl
 have gLgw:=qu X G a46 k46 b46
 have b47:=F47.binds (ps:=["_law_book_here","_law_many"]) fun _ _ _ _ _ _ us hl=>match us,hl with | [_,_],_=>rfl
 have gRfl:=qu X G a47 k47 b47
 have b48:=F48.binds (ps:=["_law_book_here","_law_found","_law_many"]) fun _ _ _ _ _ _ us hl=>match us,hl with | [_,_,_],_=>rfl
 have gWdr:=qu X G a48 k48 b48
 have b49:=F49.binds (ps:=["_law_pen_here","_law_book_here","_law_many"]) fun _ _ _ _ _ _ us hl=>match us,hl with | [_,_,_],_=>rfl
 have gRgt:=qu X G a49 k49 b49
 have m_int:=W.mg_none_of X G z0
 have m_isinstance:=W.mg_none_of X G z1
 have m_bool:=W.mg_none_of X G z2
 have m_len:=W.mg_none_of X G z3
 have m_tuple:=W.mg_none_of X G z4
 have m_str:=W.mg_none_of X G z5
 have m_all:=W.mg_none_of X G z6
 have m_list:=W.mg_none_of X G z7
 have m_set:=W.mg_none_of X G z8
 have m_sorted:=W.mg_none_of X G z9
 have m_range:=W.mg_none_of X G z10
 have m_zip:=W.mg_none_of X G z11
 have m_sum:=W.mg_none_of X G z12
 have m_dict:=W.mg_none_of X G z13
 have m_reversed:=W.mg_none_of X G z14
 have m_max:=W.mg_none_of X G z15
 have m_min:=W.mg_none_of X G z16
 have m_enumerate:=W.mg_none_of X G z17
 have m_SMALL_LETTERS:=W.mg_of X G y0
 have m_LAST_AGE:=W.mg_of X G y1
 have m_MOST_RULES:=W.mg_of X G y2
 have m_LONGEST_WORD:=W.mg_of X G y3
 have m_LONGEST_FIRST:=W.mg_of X G y4
 have m_LONGEST_STRETCH:=W.mg_of X G y5
 have m_FASTEST:=W.mg_of X G y6
 refine ⟨W.fnOf "law" "law" (defArgs sLaw) (defBody sLaw) (defScope sLaw) .none kV50 dc50 pm50 an50 cd50 ct50,fun s v=>.of_eq rfl,fun base KB GB=>?_⟩
 have mGrowError:=W.mg_of X G ac0
 have ckGrowError:ClsK K cGrowError:=⟨by rw [kc0];rfl,kn0,kb0,kt0⟩
 have mNoBook:=W.mg_of X G ac1
 have ckNoBook:ClsK K cNoBook:=⟨by rw [kc1];rfl,kn1,kb1,kt1⟩
 have owNoBook:OwnCls "NoBook" cNoBook bmV "ValueError.__new__" mg base:=own_mk KB GB ac1 q1
 have xkNoBook:ExcK K cNoBook:=⟨by rw [kc1];rfl,xf1,xg1,xt1,xo1,kb1,xa1,xh1⟩
 have mNoAge:=W.mg_of X G ac2
 have ckNoAge:ClsK K cNoAge:=⟨by rw [kc2];rfl,kn2,kb2,kt2⟩
 have owNoAge:OwnCls "NoAge" cNoAge bmV "ValueError.__new__" mg base:=own_mk KB GB ac2 q2
 have xkNoAge:ExcK K cNoAge:=⟨by rw [kc2];rfl,xf2,xg2,xt2,xo2,kb2,xa2,xh2⟩
 have mNoNumber:=W.mg_of X G ac3
 have ckNoNumber:ClsK K cNoNumber:=⟨by rw [kc3];rfl,kn3,kb3,kt3⟩
 have owNoNumber:OwnCls "NoNumber" cNoNumber bmV "ValueError.__new__" mg base:=own_mk KB GB ac3 q3
 have xkNoNumber:ExcK K cNoNumber:=⟨by rw [kc3];rfl,xf3,xg3,xt3,xo3,kb3,xa3,xh3⟩
 have mNoPlace:=W.mg_of X G ac4
 have ckNoPlace:ClsK K cNoPlace:=⟨by rw [kc4];rfl,kn4,kb4,kt4⟩
 have owNoPlace:OwnCls "NoPlace" cNoPlace bmV "ValueError.__new__" mg base:=own_mk KB GB ac4 q4
 have xkNoPlace:ExcK K cNoPlace:=⟨by rw [kc4];rfl,xf4,xg4,xt4,xo4,kb4,xa4,xh4⟩
 have mTooLong:=W.mg_of X G ac5
 have ckTooLong:ClsK K cTooLong:=⟨by rw [kc5];rfl,kn5,kb5,kt5⟩
 have owTooLong:OwnCls "TooLong" cTooLong bmV "ValueError.__new__" mg base:=own_mk KB GB ac5 q5
 have xkTooLong:ExcK K cTooLong:=⟨by rw [kc5];rfl,xf5,xg5,xt5,xo5,kb5,xa5,xh5⟩
 have oWho:=qio (P:=l.prog) (w:=w) (mg:=mg) (base:=base) F0 m_int m_isinstance m_bool
 have oWin:=qip (P:=l.prog) (w:=w) (mg:=mg) (base:=base) F1 oWho gWho
 have oNag:=qiu (P:=l.prog) (w:=w) (mg:=mg) (base:=base) F5 oWin gWin m_LAST_AGE
 have oCol:=qiq (P:=l.prog) (w:=w) (mg:=mg) (base:=base) F16
 have oCls:=qir (P:=l.prog) (w:=w) (mg:=mg) (base:=base) F17 oCol gCol m_len m_range
 have oRul:=qi5 (P:=l.prog) (w:=w) (mg:=mg) (base:=base) F7
 have oRulB:=qgw (P:=l.prog) (w:=w) (mg:=mg) (base:=base) F7
 have oLet:=qh8 (P:=l.prog) (w:=w) (mg:=mg) (base:=base) F12 oRulB gRul
 have oTal:=qia (P:=l.prog) (w:=w) (mg:=mg) (base:=base) F14 oLet gLet
 have oTab:=qic (P:=l.prog) (w:=w) (mg:=mg) (base:=base) F15 oTal gTal
 have oPrs:=qis (P:=l.prog) (w:=w) (mg:=mg) (base:=base) F18 m_zip m_sum
 have oOao:=qit (P:=l.prog) (w:=w) (mg:=mg) (base:=base) F19 oPrs gPrs
 have oFcs:=qiv (P:=l.prog) (w:=w) (mg:=mg) (base:=base) F21 oCls gCls oTab gTab oTal gTal oOao gOao m_len
 have oCou:=qiw (P:=l.prog) (w:=w) (mg:=mg) (base:=base) F20 oNag gNag oFcs gFcs
 have oLng:=qix (P:=l.prog) (w:=w) (mg:=mg) (base:=base) F22 oCou gCou m_sum
 have oTsm:=qiy (P:=l.prog) (w:=w) (mg:=mg) (base:=base) F23 m_sum
 have oLsm:=qje (P:=l.prog) (w:=w) (mg:=mg) (base:=base) F25 oTsm gTsm m_dict m_reversed
 have oSsm:=qjf (P:=l.prog) (w:=w) (mg:=mg) (base:=base) F26 oLsm gLsm m_dict
 have oWba:=qjd (P:=l.prog) (w:=w) (mg:=mg) (base:=base) F24 m_dict
 have oLns:=qjg (P:=l.prog) (w:=w) (mg:=mg) (base:=base) F27 oSsm gSsm oWba gWba
 have oNpl:=qjj (P:=l.prog) (w:=w) (mg:=mg) (base:=base) F29 oWin gWin
 have oNst:=qjp (P:=l.prog) (w:=w) (mg:=mg) (base:=base) F35 oNpl gNpl oWin gWin m_LONGEST_STRETCH
 have oWit:=qjn (P:=l.prog) (w:=w) (mg:=mg) (base:=base) F33 m_max m_min
 have oRep:=qjm (P:=l.prog) (w:=w) (mg:=mg) (base:=base) F13
 have oRea:=qjo (P:=l.prog) (w:=w) (mg:=mg) (base:=base) F34 oWit gWit oRep gRep m_zip m_reversed
 have oStr:=qjq (P:=l.prog) (w:=w) (mg:=mg) (base:=base) F36 oNag gNag oLns gLns oNst gNst oRea gRea oTsm gTsm oWba gWba
 have oShr:=qjr (P:=l.prog) (w:=w) (mg:=mg) (base:=base) F37 oLng gLng oStr gStr
 have oShrX:=ok_shrx (P:=l.prog) (w:=w) (mg:=mg) (base:=base) F37 oLng gLng oStr gStr owTooLong
 have oFas:=qjs (P:=l.prog) (w:=w) (mg:=mg) (base:=base) F38 oWin gWin oShr gShr oLet gLet m_tuple m_FASTEST m_LONGEST_WORD
 have oFasX:=qhg (P:=l.prog) (w:=w) (mg:=mg) (base:=base) F38 oWin gWin oShrX gShr oLet gLet owNoNumber m_tuple m_FASTEST m_LONGEST_WORD
 have oPen:=qie (P:=l.prog) (w:=w) (mg:=mg) (base:=base) F39 m_len
 have oTak:=qid (P:=l.prog) (w:=w) (mg:=mg) (base:=base) F40
 have oSig:=qii (P:=l.prog) (w:=w) (mg:=mg) (base:=base) F41 oTak gTak m_len m_list m_range
 have oTxt:=qik (P:=l.prog) (w:=w) (mg:=mg) (base:=base) F42 oTak gTak m_len m_int m_range
 have oWrd:=qil (P:=l.prog) (w:=w) (mg:=mg) (base:=base) F43 oTak gTak oTxt gTxt m_len
 have oBok:=qin (P:=l.prog) (w:=w) (mg:=mg) (base:=base) F44 oTak gTak oTxt gTxt oSig gSig oWrd gWrd m_int m_enumerate m_sorted m_tuple
 have oSlo:=qjx (P:=l.prog) (w:=w) (mg:=mg) (base:=base) F45 oSig gSig oTak gTak m_tuple m_sorted
 have oWbh:=qji (P:=l.prog) (w:=w) (mg:=mg) (base:=base) F30 m_zip m_reversed
 have oWay:=qjk (P:=l.prog) (w:=w) (mg:=mg) (base:=base) F31 oNag gNag oLns gLns oNpl gNpl oWbh gWbh oWba gWba oTsm gTsm
 have oLea:=qjl (P:=l.prog) (w:=w) (mg:=mg) (base:=base) F32 oWay gWay
 have oLls:=qjh (P:=l.prog) (w:=w) (mg:=mg) (base:=base) F28 oNag gNag oLns gLns m_list
 have oRfl:=qjw (P:=l.prog) (w:=w) (mg:=mg) (base:=base) F47 mGrowError ckGrowError mNoNumber ckNoNumber mTooLong ckTooLong oFasX gFas r5_5 r5_0 r5_3 r3_5 r3_3 r3_0 xkTooLong xkNoNumber m_isinstance
 have oItx:=qi3 (P:=l.prog) (w:=w) (mg:=mg) (base:=base) F4 m_len m_isinstance m_str m_all
 have oItp:=qi1 (P:=l.prog) (w:=w) (mg:=mg) (base:=base) F2 m_len m_tuple m_isinstance
 have oIsl:=qi2 (P:=l.prog) (w:=w) (mg:=mg) (base:=base) F3 m_len m_isinstance m_str m_SMALL_LETTERS
 have oHla:=qi4 (P:=l.prog) (w:=w) (mg:=mg) (base:=base) F6 oItp gItp oIsl gIsl
 have oMru:=qi6 (P:=l.prog) (w:=w) (mg:=mg) (base:=base) F8 oRul gRul oItx gItx oHla gHla m_len m_list m_tuple m_isinstance m_set m_all m_MOST_RULES m_LONGEST_WORD
 have oMbo:=qi7 (P:=l.prog) (w:=w) (mg:=mg) (base:=base) F9 oMru gMru oItx gItx oRul gRul m_LONGEST_FIRST
 have oBko:=qjb (P:=l.prog) (w:=w) (mg:=mg) (base:=base) F10 oMbo gMbo m_tuple m_sorted
 have oIbk:=qjc (P:=l.prog) (w:=w) (mg:=mg) (base:=base) F11 oBko gBko oItp gItp oMbo gMbo
 have oWdr:=qjv (P:=l.prog) (w:=w) (mg:=mg) (base:=base) F48 oLls gLls oLea gLea m_len m_zip m_enumerate
 have oRgt:=qjz (P:=l.prog) (w:=w) (mg:=mg) (base:=base) F49 oFas gFas oTak gTak oLng gLng oLea gLea oLls gLls oRfl gRfl oIbk gIbk oWdr gWdr m_max
 have oLgw:=qjy (P:=l.prog) (w:=w) (mg:=mg) (base:=base) F46 oSig gSig oTak gTak m_tuple m_sorted
 exact qj0 F50 oPen gPen oTak gTak oBok gBok oSlo gSlo oRgt gRgt oRfl gRfl oLgw gLgw m_range
theorem walk {l:W.OpenLaw} {q:Program} {loose:List Str} {XP:(Str->Option Value)->Heap->Prop} {YP:World->Heap->Prop} {d:DefRec} {K:Params->W.Frag} (hn:l.most=some 63) (hdf:d.params.defaults=[])
  (hY:∀ (w:World) (h:Heap),YP w h->(K w.params).In h)
  (F : ∀ (w:World) (mg:Str->Option Value) (fa:Addr) (h:Heap),(K w.params).In h->h.Ns mainGlobals mg->mg d.name=some (.ref fa) ->
   ∃ fd:FuncData,(∀ (s:Shared) (u:Value),BindsTo s fd ⟨[u],[]⟩ [("_law_script",u)])/\∀ base:Heap,(K w.params).In base->base.Ns mainGlobals mg->FnOk l.prog w (K w.params) mg base CX0 12 fa fd ["_law_script"] (spLaw (K w.params))) :
  PySem.W.WalkO q loose XP YP l.row.toRowW d [] (fun f vs=>PySem.call f vs) :=
 L2.qf3 (n:=63) (k:=12) (x:="_law_script") (CX:=fun _=>CX0) (sp:=fun w=>spLaw (K w.params)) hn (by decide) hdf ⟨rfl,by decide,by decide⟩ hY F (fun _ _ a ns hl _ hS=>⟨a,ns,rfl,hS,hl,fun _=>rfl⟩) fun _ _ _ _ _ z=>z
end Lw
open PySem PySem.W PyProof.Rows
-- these names are taken so that no second copy of the great trees is laid (it would make the compiled file too large)
def PySem.W.Fast.tw2733787992300391753:Unit:=()
def PySem.W.Fast.tw3656672183841002159:Unit:=()
def PySem.W.Fast.tw9712777548771370044:Unit:=()
def PySem.W.Fast.tw9751043184799766564:Unit:=()
def PySem.W.Fast.tw6150410977105428605:Unit:=()
def PySem.W.Fast.tw15637779342524509994:Unit:=()
def PySem.W.Fast.tw451472868538970533:Unit:=()
def PySem.W.Fast.tw13433381996847697799:Unit:=()
def PySem.W.Fast.tw4994527907182554620:Unit:=()
def PySem.W.Fast.tw7222980210875495586:Unit:=()
def PySem.W.Fast.tw10825919048817069906:Unit:=()
def PySem.W.Fast.tw16347786710513780105:Unit:=()
def PySem.W.Fast.tw6240377979139489177:Unit:=()
def PySem.W.Fast.tw1971212664886114312:Unit:=()
def PySem.W.Fast.tw13378615627041483736:Unit:=()
def PySem.W.Fast.tw16162329906406067467:Unit:=()
def PySem.W.Fast.tw3864968718121403094:Unit:=()
def PySem.W.Fast.tw15670416912366185127:Unit:=()
def PySem.W.Fast.tw9527813276401498285:Unit:=()
def PySem.W.Fast.tw8403444362459549157:Unit:=()
def PySem.W.Fast.tw1293638110389911801:Unit:=()
def PySem.W.Fast.tw10657534939115362340:Unit:=()
def PySem.W.Fast.tw225901097476659454:Unit:=()
def PySem.W.Fast.tw558606262720871420:Unit:=()
def PySem.W.Fast.tw621355927735614105:Unit:=()
def PySem.W.Fast.tw6106793596442240592:Unit:=()
set_option maxRecDepth 100000 in
set_option maxHeartbeats 0 in
theorem PySem.Challenge.cw_linegrow_k32_fast_books_holds : PySem.Challenge.rw_linegrow_k32_fast_books.Holds := by
 w_on;o_law;k_head;(case hw=>w_witness2)
 k_fill
 refine Lw.walk (l:=PySem.Challenge.rw_linegrow_k32_fast_books) rfl rfl (fun w h Y=>W.kIn_of Y) ?F
 case F =>
  intro w mg fa h KX G hmg
  refine' Lw.all_mk KX G hmg ?a0 ?l0 ?c0 ?k0 ?a1 ?l1 ?c1 ?k1 ?a2 ?l2 ?c2 ?k2 ?a3 ?l3 ?c3 ?k3 ?a4 ?l4 ?c4 ?k4 ?a5 ?l5 ?c5 ?k5 ?a6 ?l6 ?c6 ?k6 ?a7 ?l7 ?c7 ?k7 ?a8 ?l8 ?c8 ?k8 ?a9 ?l9 ?c9 ?k9 ?a10 ?l10 ?c10 ?k10 ?a11 ?l11 ?c11 ?k11 ?a12 ?l12 ?c12 ?k12 ?a13 ?l13 ?c13 ?k13 ?a14 ?l14 ?c14 ?k14 ?a15 ?l15 ?c15 ?k15 ?a16 ?l16 ?c16 ?k16 ?a17 ?l17 ?c17 ?k17 ?a18 ?l18 ?c18 ?k18 ?a19 ?l19 ?c19 ?k19 ?a20 ?l20 ?c20 ?k20 ?a21 ?l21 ?c21 ?k21 ?a22 ?l22 ?c22 ?k22 ?a23 ?l23 ?c23 ?k23 ?a24 ?l24 ?c24 ?k24 ?a25 ?l25 ?c25 ?k25 ?a26 ?l26 ?c26 ?k26 ?a27 ?l27 ?c27 ?k27 ?a28 ?l28 ?c28 ?k28 ?a29 ?l29 ?c29 ?k29 ?a30 ?l30 ?c30 ?k30 ?a31 ?l31 ?c31 ?k31 ?a32 ?l32 ?c32 ?k32 ?a33 ?l33 ?c33 ?k33 ?a34 ?l34 ?c34 ?k34 ?a35 ?l35 ?c35 ?k35 ?a36 ?l36 ?c36 ?k36 ?a37 ?l37 ?c37 ?k37 ?a38 ?l38 ?c38 ?k38 ?a39 ?l39 ?c39 ?k39 ?a40 ?l40 ?c40 ?k40 ?a41 ?l41 ?c41 ?k41 ?a42 ?l42 ?c42 ?k42 ?a43 ?l43 ?c43 ?k43 ?a44 ?l44 ?c44 ?k44 ?a45 ?l45 ?c45 ?k45 ?a46 ?l46 ?c46 ?k46 ?a47 ?l47 ?c47 ?k47 ?a48 ?l48 ?c48 ?k48 ?a49 ?l49 ?c49 ?k49 ?a50 ?l50 ?c50 ?k50 ?z0 ?z1 ?z2 ?z3 ?z4 ?z5 ?z6 ?z7 ?z8 ?z9 ?z10 ?z11 ?z12 ?z13 ?z14 ?z15 ?z16 ?z17 ?y0 ?y1 ?y2 ?y3 ?y4 ?y5 ?y6 ?ac0 ?kc0 ?kn0 ?kb0 ?kt0 ?ac1 ?kc1 ?kn1 ?kb1 ?kt1 ?q1 ?xf1 ?xg1 ?xt1 ?xo1 ?xa1 ?xh1 ?xv1 ?r1_0 ?r1_1 ?r1_2 ?r1_3 ?r1_4 ?r1_5 ?ac2 ?kc2 ?kn2 ?kb2 ?kt2 ?q2 ?xf2 ?xg2 ?xt2 ?xo2 ?xa2 ?xh2 ?xv2 ?r2_0 ?r2_1 ?r2_2 ?r2_3 ?r2_4 ?r2_5 ?ac3 ?kc3 ?kn3 ?kb3 ?kt3 ?q3 ?xf3 ?xg3 ?xt3 ?xo3 ?xa3 ?xh3 ?xv3 ?r3_0 ?r3_1 ?r3_2 ?r3_3 ?r3_4 ?r3_5 ?ac4 ?kc4 ?kn4 ?kb4 ?kt4 ?q4 ?xf4 ?xg4 ?xt4 ?xo4 ?xa4 ?xh4 ?xv4 ?r4_0 ?r4_1 ?r4_2 ?r4_3 ?r4_4 ?r4_5 ?ac5 ?kc5 ?kn5 ?kb5 ?kt5 ?q5 ?xf5 ?xg5 ?xt5 ?xo5 ?xa5 ?xh5 ?xv5 ?r5_0 ?r5_1 ?r5_2 ?r5_3 ?r5_4 ?r5_5
  (case ac0=>k_is)
  (case ac1=>k_is)
  (case ac2=>k_is)
  (case ac3=>k_is)
  (case ac4=>k_is)
  (case ac5=>k_is)
  (case a0=>k_is)
  (case l0=>k_is)
  (case c0=>k_is)
  (case k0=>k_is)
  (case a1=>k_is)
  (case l1=>k_is)
  (case c1=>k_is)
  (case k1=>k_is)
  (case a2=>k_is)
  (case l2=>k_is)
  (case c2=>k_is)
  (case k2=>k_is)
  (case a3=>k_is)
  (case l3=>k_is)
  (case c3=>k_is)
  (case k3=>k_is)
  (case a4=>k_is)
  (case l4=>k_is)
  (case c4=>k_is)
  (case k4=>k_is)
  (case a5=>k_is)
  (case l5=>k_is)
  (case c5=>k_is)
  (case k5=>k_is)
  (case a6=>k_is)
  (case l6=>k_is)
  (case c6=>k_is)
  (case k6=>k_is)
  (case a7=>k_is)
  (case l7=>k_is)
  (case c7=>k_is)
  (case k7=>k_is)
  (case a8=>k_is)
  (case l8=>k_is)
  (case c8=>k_is)
  (case k8=>k_is)
  (case a9=>k_is)
  (case l9=>k_is)
  (case c9=>k_is)
  (case k9=>k_is)
  (case a10=>k_is)
  (case l10=>k_is)
  (case c10=>k_is)
  (case k10=>k_is)
  (case a11=>k_is)
  (case l11=>k_is)
  (case c11=>k_is)
  (case k11=>k_is)
  (case a12=>k_is)
  (case l12=>k_is)
  (case c12=>k_is)
  (case k12=>k_is)
  (case a13=>k_is)
  (case l13=>k_is)
  (case c13=>k_is)
  (case k13=>k_is)
  (case a14=>k_is)
  (case l14=>k_is)
  (case c14=>k_is)
  (case k14=>k_is)
  (case a15=>k_is)
  (case l15=>k_is)
  (case c15=>k_is)
  (case k15=>k_is)
  (case a16=>k_is)
  (case l16=>k_is)
  (case c16=>k_is)
  (case k16=>k_is)
  (case a17=>k_is)
  (case l17=>k_is)
  (case c17=>k_is)
  (case k17=>k_is)
  (case a18=>k_is)
  (case l18=>k_is)
  (case c18=>k_is)
  (case k18=>k_is)
  (case a19=>k_is)
  (case l19=>k_is)
  (case c19=>k_is)
  (case k19=>k_is)
  (case a20=>k_is)
  (case l20=>k_is)
  (case c20=>k_is)
  (case k20=>k_is)
  (case a21=>k_is)
  (case l21=>k_is)
  (case c21=>k_is)
  (case k21=>k_is)
  (case a22=>k_is)
  (case l22=>k_is)
  (case c22=>k_is)
  (case k22=>k_is)
  (case a23=>k_is)
  (case l23=>k_is)
  (case c23=>k_is)
  (case k23=>k_is)
  (case a24=>k_is)
  (case l24=>k_is)
  (case c24=>k_is)
  (case k24=>k_is)
  (case a25=>k_is)
  (case l25=>k_is)
  (case c25=>k_is)
  (case k25=>k_is)
  (case a26=>k_is)
  (case l26=>k_is)
  (case c26=>k_is)
  (case k26=>k_is)
  (case a27=>k_is)
  (case l27=>k_is)
  (case c27=>k_is)
  (case k27=>k_is)
  (case a28=>k_is)
  (case l28=>k_is)
  (case c28=>k_is)
  (case k28=>k_is)
  (case a29=>k_is)
  (case l29=>k_is)
  (case c29=>k_is)
  (case k29=>k_is)
  (case a30=>k_is)
  (case l30=>k_is)
  (case c30=>k_is)
  (case k30=>k_is)
  (case a31=>k_is)
  (case l31=>k_is)
  (case c31=>k_is)
  (case k31=>k_is)
  (case a32=>k_is)
  (case l32=>k_is)
  (case c32=>k_is)
  (case k32=>k_is)
  (case a33=>k_is)
  (case l33=>k_is)
  (case c33=>k_is)
  (case k33=>k_is)
  (case a34=>k_is)
  (case l34=>k_is)
  (case c34=>k_is)
  (case k34=>k_is)
  (case a35=>k_is)
  (case l35=>k_is)
  (case c35=>k_is)
  (case k35=>k_is)
  (case a36=>k_is)
  (case l36=>k_is)
  (case c36=>k_is)
  (case k36=>k_is)
  (case a37=>k_is)
  (case l37=>k_is)
  (case c37=>k_is)
  (case k37=>k_is)
  (case a38=>k_is)
  (case l38=>k_is)
  (case c38=>k_is)
  (case k38=>k_is)
  (case a39=>k_is)
  (case l39=>k_is)
  (case c39=>k_is)
  (case k39=>k_is)
  (case a40=>k_is)
  (case l40=>k_is)
  (case c40=>k_is)
  (case k40=>k_is)
  (case a41=>k_is)
  (case l41=>k_is)
  (case c41=>k_is)
  (case k41=>k_is)
  (case a42=>k_is)
  (case l42=>k_is)
  (case c42=>k_is)
  (case k42=>k_is)
  (case a43=>k_is)
  (case l43=>k_is)
  (case c43=>k_is)
  (case k43=>k_is)
  (case a44=>k_is)
  (case l44=>k_is)
  (case c44=>k_is)
  (case k44=>k_is)
  (case a45=>k_is)
  (case l45=>k_is)
  (case c45=>k_is)
  (case k45=>k_is)
  (case a46=>k_is)
  (case l46=>k_is)
  (case c46=>k_is)
  (case k46=>k_is)
  (case a47=>k_is)
  (case l47=>k_is)
  (case c47=>k_is)
  (case k47=>k_is)
  (case a48=>k_is)
  (case l48=>k_is)
  (case c48=>k_is)
  (case k48=>k_is)
  (case a49=>k_is)
  (case l49=>k_is)
  (case c49=>k_is)
  (case k49=>k_is)
  (case a50=>k_is)
  (case l50=>k_is)
  (case c50=>k_is)
  (case k50=>k_is)
  (case z0=>k_is)
  (case z1=>k_is)
  (case z2=>k_is)
  (case z3=>k_is)
  (case z4=>k_is)
  (case z5=>k_is)
  (case z6=>k_is)
  (case z7=>k_is)
  (case z8=>k_is)
  (case z9=>k_is)
  (case z10=>k_is)
  (case z11=>k_is)
  (case z12=>k_is)
  (case z13=>k_is)
  (case z14=>k_is)
  (case z15=>k_is)
  (case z16=>k_is)
  (case z17=>k_is)
  (case y0=>k_is)
  (case y1=>k_is)
  (case y2=>k_is)
  (case y3=>k_is)
  (case y4=>k_is)
  (case y5=>k_is)
  (case y6=>k_is)
  (case kc0=>k_is)
  (case kn0=>k_is)
  (case kb0=>k_is)
  (case kt0=>k_is)
  (case kc1=>k_is)
  (case kn1=>k_is)
  (case kb1=>k_is)
  (case kt1=>k_is)
  (case q1=>k_exc)
  (case xf1=>k_is)
  (case xg1=>k_is)
  (case xt1=>k_is)
  (case xo1=>k_is)
  (case xa1=>k_is)
  (case xh1=>k_is)
  (case xv1=>k_is)
  (case r1_0=>k_is)
  (case r1_1=>k_is)
  (case r1_2=>k_is)
  (case r1_3=>k_is)
  (case r1_4=>k_is)
  (case r1_5=>k_is)
  (case kc2=>k_is)
  (case kn2=>k_is)
  (case kb2=>k_is)
  (case kt2=>k_is)
  (case q2=>k_exc)
  (case xf2=>k_is)
  (case xg2=>k_is)
  (case xt2=>k_is)
  (case xo2=>k_is)
  (case xa2=>k_is)
  (case xh2=>k_is)
  (case xv2=>k_is)
  (case r2_0=>k_is)
  (case r2_1=>k_is)
  (case r2_2=>k_is)
  (case r2_3=>k_is)
  (case r2_4=>k_is)
  (case r2_5=>k_is)
  (case kc3=>k_is)
  (case kn3=>k_is)
  (case kb3=>k_is)
  (case kt3=>k_is)
  (case q3=>k_exc)
  (case xf3=>k_is)
  (case xg3=>k_is)
  (case xt3=>k_is)
  (case xo3=>k_is)
  (case xa3=>k_is)
  (case xh3=>k_is)
  (case xv3=>k_is)
  (case r3_0=>k_is)
  (case r3_1=>k_is)
  (case r3_2=>k_is)
  (case r3_3=>k_is)
  (case r3_4=>k_is)
  (case r3_5=>k_is)
  (case kc4=>k_is)
  (case kn4=>k_is)
  (case kb4=>k_is)
  (case kt4=>k_is)
  (case q4=>k_exc)
  (case xf4=>k_is)
  (case xg4=>k_is)
  (case xt4=>k_is)
  (case xo4=>k_is)
  (case xa4=>k_is)
  (case xh4=>k_is)
  (case xv4=>k_is)
  (case r4_0=>k_is)
  (case r4_1=>k_is)
  (case r4_2=>k_is)
  (case r4_3=>k_is)
  (case r4_4=>k_is)
  (case r4_5=>k_is)
  (case kc5=>k_is)
  (case kn5=>k_is)
  (case kb5=>k_is)
  (case kt5=>k_is)
  (case q5=>k_exc)
  (case xf5=>k_is)
  (case xg5=>k_is)
  (case xt5=>k_is)
  (case xo5=>k_is)
  (case xa5=>k_is)
  (case xh5=>k_is)
  (case xv5=>k_is)
  (case r5_0=>k_is)
  (case r5_1=>k_is)
  (case r5_2=>k_is)
  (case r5_3=>k_is)
  (case r5_4=>k_is)
  (case r5_5=>k_is)
