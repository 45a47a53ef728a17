import PyProof.Rows.All
import Wide.All
import OpenK.AllK
import Wide.FinOn
import Lean
import PyProof.EqAt
import PyProof.EqKinds
import PyProof.TupleCall
import PyProof.NeKinds
import KE.KDictOf
import PyProof.AttrMissSeq
import PyProof.DictList
import PyProof.WalksMore
import KE.KDictList
import PyProof.FactsAll.dict_4
import PyProof.ZipIter
import PyProof.ListRange
import OpenK.KOwn
import PyProof.Rows.CatchOwn
import KE.KIsNot
import KE.KRevIter
import PyProof.DictWalks
import PyProof.ConsumeWalk
import PyProof.TupleOfStr
import PyProof.StrOps2
import PyProof.SliceStr2
import PyProof.StrBlockI
import PyProof.Rows.StrClose5
import PyProof.Rows.CatFin
import KE.KIsAll
import KE.KSortTup
import PyProof.MeetsStr
import PyProof.MeetsStr2
import PyProof.StrLawsIn
import PyProof.Rows.StrLawsPart
import PyProof.Rows.StrRev
import PyProof.Draws
import PyProof.EnumMake
import PyProof.Rows.CountFlat
import PyProof.CallStr
import PyProof.FitsInt
import PyProof.FactsAll.zip_1
import KE.KDictSum
import PyProof.WalkInts
import PyProof.Rows.CallKwBuiltin
import KE.KMinBuiltin
import PyProof.CollectStr
import PyProof.FactsAll.set_1
import PyProof.CollectIter
import PyProof.ListStr
import KE.KStateDown
import PyProof.Rows.Range3
import PySem.Challenge.RW_linegrow_k38_shrunk_rows
set_option Elab.async false
set_option linter.all false
set_option maxRecDepth 100000
set_option maxHeartbeats 4000000
namespace L2
open PySem PySem.Spec PyProof.Rows
abbrev Key:=Sum Int Str
def keyIs:Key->Value->Bool
 | .inl k,v=>Value.isInt k v
 | .inr x,v=>Value.isStrOf x v
def keyH (w:World):Key->Int
 | .inl k=>hashInt k
 | .inr x=>hashStr w x
theorem q9:∀ {k:Key} {v:Value},keyIs k v=true->(∃ i t,k=Sum.inl i/\v=Value.int i t)\/(∃ x t,k=Sum.inr x/\v=Value.str x t)
 | .inl i,v,h=>by
  obtain ⟨t,e⟩:=Value.isInt_shape (k:=i) (v:=v) h
  exact .inl ⟨i,t,rfl,e⟩
 | .inr x,v,h=>by
  obtain ⟨t,e⟩:=Value.isStrOf_shape (x:=x) (v:=v) h
  exact .inr ⟨x,t,rfl,e⟩
theorem qbr (i:Int) (t:Tok):keyIs (.inl i) (.int i t)=true:=by simp [keyIs,Value.isInt]
theorem qbs (x:Str) (t:Tok):keyIs (.inr x) (.str x t)=true:=by simp [keyIs,Value.isStrOf]
theorem qhz (a b:Int):decide ((Sum.inl a:Key)=Sum.inl b)=(a == b):=by
 by_cases e:a=b
 ·subst e;simp
 ·have h:¬ (Sum.inl a:Key)=Sum.inl b:=fun q=>e (Sum.inl.inj q)
  rw [decide_eq_false h]
  exact (beq_eq_false_iff_ne.mpr e).symm
theorem qh0 (a b:Str):decide ((Sum.inr a:Key)=Sum.inr b)=decide (a=b):=by
 by_cases e:a=b
 ·subst e;simp
 ·have h:¬ (Sum.inr a:Key)=Sum.inr b:=fun q=>e (Sum.inr.inj q)
  rw [decide_eq_false h,decide_eq_false e]
theorem qh1 (a:Int) (b:Str):decide ((Sum.inl a:Key)=Sum.inr b)=false:=decide_eq_false (fun q=>nomatch q)
theorem qh2 (a:Str) (b:Int):decide ((Sum.inr a:Key)=Sum.inl b)=false:=decide_eq_false (fun q=>nomatch q)
def mixKind (prog:Program) (w:World):PySem.KeyKind prog w Key where
 is:=keyIs
 hash:=keyH w
 inj:=fun v a b ha hb=>by
  rcases q9 ha with ⟨i,t,rfl,rfl⟩ | ⟨x,t,rfl,rfl⟩
  ·rcases q9 hb with ⟨j,u,rfl,e⟩ | ⟨y,u,rfl,e⟩
   ·injection e with e1 _;rw [e1]
   ·exact nomatch e
  ·rcases q9 hb with ⟨j,u,rfl,e⟩ | ⟨y,u,rfl,e⟩
   ·exact nomatch e
   ·injection e with e1 _;rw [e1]
 byValue:=fun k v h=>by
  rcases q9 h with ⟨i,t,rfl,rfl⟩ | ⟨x,t,rfl,rfl⟩ <;> rfl
 pyHash:=fun hv h=>by
  rcases q9 hv with ⟨i,t,rfl,rfl⟩ | ⟨x,t,rfl,rfl⟩
  ·exact wpAny_pyHash_int h
  ·exact wpAny_pyHash_str h
 eqBool:=fun hu hv h=>by
  rcases q9 hu with ⟨i,t,rfl,rfl⟩ | ⟨x,t,rfl,rfl⟩
  ·rcases q9 hv with ⟨j,u,rfl,rfl⟩ | ⟨y,u,rfl,rfl⟩
   ·rw [qhz] at h;exact wpAny_eqBool_int h
   ·rw [qh1] at h;exact SeqAt.EqAt.int_str i t y u _ _ _ _ h
  ·rcases q9 hv with ⟨j,u,rfl,rfl⟩ | ⟨y,u,rfl,rfl⟩
   ·rw [qh2] at h;exact SeqAt.EqAt.str_int x t j u _ _ _ _ h
   ·rw [qh0] at h;exact wpAny_eqBool_str h
 «strs»:=fun k x t v h=>by
  rcases q9 h with ⟨i,u,rfl,e⟩ | ⟨y,u,rfl,e⟩
  ·exact nomatch e
  ·injection e with e1 _
   subst e1
   cases v <;> rfl
theorem Yd (prog:Program) (w:World) (i:Int) (t:Tok):(mixKind prog w).is (.inl i) (.int i t)=true:=qbr i t
theorem Ye (prog:Program) (w:World) (x:Str) (t:Tok):(mixKind prog w).is (.inr x) (.str x t)=true:=qbs x t
end L2
namespace L2
open PySem PySem.Spec PyProof.Rows
inductive V where
 | non | bl (b:Bool) | int (i:Int) | str (x:Str) | byt (b:Array UInt8) | flt (b:UInt64) | ref (a:Addr) | ty (n:String)
 deriving DecidableEq
def RelV:V->Value->Prop
 | .non,u=>u=Value.none
 | .bl b,u=>u=Value.bool b
 | .int i,u=>∃ t,u=Value.int i t
 | .str x,u=>∃ t,u=Value.str x t
 | .byt b,u=>∃ t,u=Value.bytes b t
 | .flt b,u=>∃ t,u=Value.float b t
 | .ref a,u=>u=Value.ref a
 | .ty n,u=>u=Value.type n
abbrev Vals:List V->List Value->Prop:=Paired RelV
theorem Vals.length {xs:List V} {us:List Value} (r:Vals xs us):xs.length=us.length:=Paired.length r
theorem Vals.get:∀ {xs:List V} {us:List Value} {i:Nat} {x:V},Vals xs us->xs[i]? = some x->∃ u,us[i]? = some u/\RelV x u
 | _,_,_,_,.nil,e=>by simp at e
 | _,_,0,_,.cons r _,e=>by simp at e;subst e;exact ⟨_,rfl,r⟩
 | _,_,i+1,x,.cons _ t,e=>by
  obtain ⟨u,h1,h2⟩:=Vals.get (i:=i) (x:=x) t (by simpa using e)
  exact ⟨u,by simpa using h1,h2⟩
theorem Vals.set {x:V} {u:Value} (r:RelV x u):∀ {xs:List V} {us:List Value} (i:Nat),Vals xs us->Vals (xs.set i x) (us.set i u)
 | _,_,_,.nil=>.nil
 | _,_,0,.cons _ t=>.cons r t
 | _,_,i+1,.cons q t=>.cons q (Vals.set r i t)
theorem Vals.append:∀ {xs ys:List V} {us ws:List Value},Vals xs us->Vals ys ws->Vals (xs++ys) (us++ws)
 | _,_,_,_,.nil,s=>s
 | _,_,_,_,.cons r t,s=>.cons r (Vals.append t s)
theorem Vals.take:∀ {xs:List V} {us:List Value} (n:Nat),Vals xs us->Vals (xs.take n) (us.take n)
 | _,_,0,_=>.nil
 | _,_,_+1,.nil=>.nil
 | _,_,n+1,.cons r t=>.cons r (Vals.take n t)
theorem Vals.drop:∀ {xs:List V} {us:List Value} (n:Nat),Vals xs us->Vals (xs.drop n) (us.drop n)
 | _,_,0,r=>r
 | _,_,_+1,.nil=>.nil
 | _,_,n+1,.cons _ t=>Vals.drop n t
def RelO:Option V->Option Value->Prop
 | some v,some u=>RelV v u
 | none,none=>True
 | _,_=>False
def KV {κ:Type}:List (κ × V)->List (κ × Value)->Prop:=Paired fun (p:κ × V) (q:κ × Value)=>p.1=q.1/\RelV p.2 q.2
def kV:Key->V
 | .inl i=>.int i
 | .inr x=>.str x
inductive HO where
 /-- a list -/
 | lst (xs:List V)
 /-- a tuple (never changes) -/
 | tup (xs:List V)
 /-- a dict whose keys are ints and texts;one whose keys are tuples of ints and texts (the empty one is both) -/
 | dK (kvs:List (Key × V)) | dT (kvs:List (List Key × V))
 /-- a set of ints: its members,its size -/
 | set (S:Int->Bool) (n:Nat)
 /-- an instance of the class at C,its dict at dx,its attributes -/
 | ins (C dx:Addr) (fs:List (Str × V))
 /-- the dict of the instance at x -/
 | own (x:Addr)
 /-- the dict of an exception -/
 | xd (fs:List (Str × V))
 /-- a bound method,f of x -/
 | met (f x:Addr)
 /-- a range object lo,lo+1,.. below hi -/
 | rng (lo hi:Int)
 /-- a thing that is known to the object (the script;a dict while a loop walks it): read,never written while it is so -/
 | frz (o:Obj) (u:HO)
 /-- a code object's table -/
 | tbl (ps:Array Value)
 /-- any other thing,by what is true of its one object (a def of one's own: SetO a S n:=HO.ext fun h=>..) -/
 | ext (φ:Heap->Prop)
abbrev Hp:=Addr->Option HO
def upd (H:Hp) (a:Addr) (o:HO):Hp:=fun b=>if b=a then some o else H b
theorem upd_same {H:Hp} {a:Addr} {o:HO}:upd H a o a=some o:=by unfold upd;rw [if_pos rfl]
theorem qe {H:Hp} {a b:Addr} {o:HO} (h:b≠a):upd H a o b=H b:=by unfold upd;rw [if_neg h]
theorem qh3 {H:Hp} {a b:Addr} {o u:HO} (h:H a=some o) (h':H b=some u) (d:o≠u):a≠b:=by
 intro e;subst e;rw [h] at h';exact d (Option.some.inj h')
theorem ne_of_none {H:Hp} {a b:Addr} {o:HO} (h:H a=some o) (h':H b=none):a≠b:=by
 intro e;subst e;rw [h] at h';cases h'
section
variable (P:Program) (w:World)
def Bare (h:Heap) (a:Addr):Prop:=∃ o,h.get? a=some o/\o.dict=none
def ObjOk (H:Hp) (h:Heap) (a:Addr):HO->Prop
 | .lst xs=>xs.length<=sizeLine/\∃ (its:List Value) (n:Nat),Vals xs its/\h.get? a=some { cls:=.type "list",data:=.seq its.toArray n }
 | .tup xs=>xs.length<=sizeLine/\∃ its:List Value,Vals xs its/\IsTup h a its.toArray/\Bare h a
 | .dK kvs=>kvs.length<=sizeLine/\(a == sysModules)=false/\∃ vs,KV kvs vs/\h.DictOf (mixKind P w) a vs
 | .dT kvs=>kvs.length<=sizeLine/\(a == sysModules)=false/\∃ xs:List (List Key × Addr × Value),
   Paired (fun (p:List Key × V) (q:List Key × Addr × Value)=>p.1=q.1/\H q.2.1=some (.tup (p.1.map kV))/\RelV p.2 q.2.2) kvs xs /\
   ∃ o es ep,h.get? a=some o/\o.ExactDict/\o.data=.dict es ep/\es.toList=xs.map (entryOfKey (tupleKind (mixKind P w)))/\(xs.map (·.1)).Nodup
 | .set S n=>h.SetOf (intKind P w) a S n
 | .ins C dx fs=>H dx=some (.own a)/\fs.length<=1000/\dx≠a/\h.get? a=some (W.instObj C dx) /\
   ∃ mA,h.Ns1 dx mA/\(∀ f,RelO (fs.lookup f) (mA f))/\PySem.Within mA (fs.map (·.1))
 | .own _=>∃ o,h.get? a=some o
 | .xd fs=>∃ mA,h.Ns1 a mA/\∀ f,RelO (fs.lookup f) (mA f)
 | .rng lo hi=>∃ t u v,h.get? a=some { cls:=.type "range",data:=.fields #[.int lo t,.int hi u,.int 1 v] }
 | .frz o u=>h.get? a=some o/\ObjOk H h a u
 | .tbl ps=>h.get? a=some { cls:=.none,data:=.fields ps }
 | .met f x=>h.get? a=some (W.methodObj (.ref f) (.ref x))
 | .ext φ=>φ h/\(∃ o,h.get? a=some o)/\∀ h1 h2:Heap,φ h1->(∀ o,h1.get? a=some o->h2.get? a=some o)->φ h2
def HOk (H:Hp) (h:Heap):Prop:=∀ a o,H a=some o->ObjOk P w H h a o
end
section
variable {P:Program} {w:World} {H H':Hp} {h h':Heap} {a:Addr} {o:HO}
theorem ObjOk.lt (x:ObjOk P w H h a o):a < h.objs.size:=by
 cases o with
 | lst xs=>obtain ⟨_,_,_,_,e⟩:=x;exact Heap.lt_size e
 | tup xs=>obtain ⟨_,_,_,p,_⟩:=x;exact p.lt
 | dK kvs=>obtain ⟨_,_,_,_,o,_,_,e,_⟩:=x;exact Heap.lt_size e
 | dT kvs=>obtain ⟨_,_,_,_,o,_,_,e,_⟩:=x;exact Heap.lt_size e
 | set S n=>obtain ⟨o,_,_,_,e,_⟩:=x;exact Heap.lt_size e
 | ins C dx fs=>obtain ⟨_,_,_,e,_⟩:=x;exact Heap.lt_size e
 | own y=>obtain ⟨_,e⟩:=x;exact Heap.lt_size e
 | xd fs=>obtain ⟨_,⟨_,_,_,e,_⟩,_⟩:=x;exact Heap.lt_size e
 | rng lo hi=>obtain ⟨_,_,_,e⟩:=x;exact Heap.lt_size e
 | frz ob u=>obtain ⟨e,_⟩:=x;exact Heap.lt_size e
 | tbl ps=>exact Heap.lt_size (show h.get? a=some _ from x)
 | met f y=>exact Heap.lt_size (show h.get? a=some _ from x)
 | ext φ=>obtain ⟨_,⟨_,e⟩,_⟩:=x;exact Heap.lt_size e
theorem Paired.mapP {α β:Type} {F G:α->β->Prop}:∀ {l₁:List α} {l₂:List β},Paired F l₁ l₂->(∀ a b,F a b->G a b)->Paired G l₁ l₂
 | _,_,.nil,_=>.nil
 | _,_,.cons r t,f=>.cons (f _ _ r) (Paired.mapP t f)
theorem ObjOk.stay (x:ObjOk P w H h a o) (k:∀ b u,(b=a\/H b=some (.own a))->h.get? b=some u->h'.get? b=some u)
  (ho:∀ b,H b=some (.own a)->H' b=some (.own a)) (ht:∀ b xs,H b=some (.tup xs)->H' b=some (.tup xs)):ObjOk P w H' h' a o:=by
 induction o with
 | lst xs=>obtain ⟨z,its,n,r,e⟩:=x;exact ⟨z,its,n,r,k _ _ (.inl rfl) e⟩
 | tup xs=>obtain ⟨z,its,r,⟨ob,e,c⟩,o2,e2,c2⟩:=x;exact ⟨z,its,r,⟨ob,k _ _ (.inl rfl) e,c⟩,o2,k _ _ (.inl rfl) e2,c2⟩
 | dK kvs=>obtain ⟨z,y,vs,r,ob,es,ep,e,c⟩:=x;exact ⟨z,y,vs,r,ob,es,ep,k _ _ (.inl rfl) e,c⟩
 | dT kvs =>
  obtain ⟨z,y,xs,r,ob,es,ep,e,c⟩:=x
  exact ⟨z,y,xs,Paired.mapP r fun p q z=>⟨z.1,ht _ _ z.2.1,z.2.2⟩,ob,es,ep,k _ _ (.inl rfl) e,c⟩
 | set S n=>obtain ⟨ob,es,ep,t,e,c⟩:=x;exact ⟨ob,es,ep,t,k _ _ (.inl rfl) e,c⟩
 | ins C dx fs =>
  obtain ⟨d,z,ne,e,mA,⟨od,es,ep,e2,c⟩,r⟩:=x
  exact ⟨ho _ d,z,ne,k _ _ (.inl rfl) e,mA,⟨od,es,ep,k _ _ (.inr d) e2,c⟩,r⟩
 | own y=>obtain ⟨ob,e⟩:=x;exact ⟨ob,k _ _ (.inl rfl) e⟩
 | xd fs=>obtain ⟨mA,⟨od,es,ep,e,c⟩,r⟩:=x;exact ⟨mA,⟨od,es,ep,k _ _ (.inl rfl) e,c⟩,r⟩
 | rng lo hi=>obtain ⟨t,u,v,e⟩:=x;exact ⟨t,u,v,k _ _ (.inl rfl) e⟩
 | frz ob u ih=>obtain ⟨e,q⟩:=x;exact ⟨k _ _ (.inl rfl) e,ih q⟩
 | tbl ps =>
  have e:h.get? a=some { cls:=.none,data:=.fields ps }:=x
  show h'.get? a=some { cls:=.none,data:=.fields ps }
  exact k a _ (.inl rfl) e
 | met f y =>
  have e:h.get? a=some (W.methodObj (.ref f) (.ref y)):=x
  show h'.get? a=some (W.methodObj (.ref f) (.ref y))
  exact k a _ (.inl rfl) e
 | ext φ=>obtain ⟨p,⟨o,e⟩,st⟩:=x;exact ⟨st _ _ p fun o q=>k _ _ (.inl rfl) q,⟨o,k _ _ (.inl rfl) e⟩,st⟩
theorem HOk.lt (x:HOk P w H h) (e:H a=some o):a < h.objs.size:=(x a o e).lt
theorem HOk.fresh (x:HOk P w H h) (e:h.objs.size<=a):H a=none:=by
 cases q:H a with
 | none=>rfl
 | some u=>exact absurd (Nat.lt_of_lt_of_le (x.lt q) e) (Nat.lt_irrefl _)
theorem HOk.kept (x:HOk P w H h) (k:∀ b u,h.get? b=some u->h'.get? b=some u):HOk P w H h':=fun a o e =>
 (x a o e).stay (fun b u _ q=>k b u q) (fun _ q=>q) fun _ _ q=>q
theorem HOk.laid (x:HOk P w H h) (k:∀ b u,h.get? b=some u->h'.get? b=some u) (hp:h.objs.size<=a) (new:ObjOk P w (upd H a o) h' a o):HOk P w (upd H a o) h':=fun b u e=>by
 have hn:=x.fresh hp
 by_cases hb:b=a
 ·subst hb;rw [upd_same] at e;cases e;exact new
 ·rw [qe hb] at e
  exact (x b u e).stay (fun c v _ q=>k c v q) (fun c q=>by rw [qe (ne_of_none q hn)];exact q) fun c xs q=>by rw [qe (ne_of_none q hn)];exact q
end
def Rd (H:Hp) (a:Addr) (u:HO):Prop:=H a=some u\/∃ o,H a=some (.frz o u)
theorem Rd.of {H:Hp} {a:Addr} {u:HO} (h:H a=some u):Rd H a u:=.inl h
theorem Rd.ok {P:Program} {w:World} {H:Hp} {h:Heap} {a:Addr} {u:HO} (r:Rd H a u) (x:HOk P w H h):ObjOk P w H h a u:=by
 rcases r with r | ⟨o,r⟩
 ·exact x a u r
 ·obtain ⟨_,q⟩:=x a _ r
  exact q
def Mut:Option HO->Prop
 | some (.lst _)=>True
 | some (.dK _)=>True
 | some (.dT _)=>True
 | some (.set _ _)=>True
 | some (.ins _ _ _)=>True
 | some (.ext _)=>True
 | _=>False
section
variable {P:Program} {w:World} {H:Hp} {h h':Heap} {x e:Addr} {o':HO}
theorem HOk.write (ok:HOk P w H h) (mu:Mut (H x)) (he:e=x\/H e=some (.own x)) (k:∀ b u,b≠e->h.get? b=some u->h'.get? b=some u) (heo:∃ u,h'.get? e=some u)
  (new:ObjOk P w (upd H x o') h' x o'):HOk P w (upd H x o') h':=fun b u q=>by
 have nown:∀ c y,H c=some (.own y)->c≠x:=fun c y r z=>by subst z;rw [r] at mu;exact mu
 have ntup:∀ c xs,H c=some (.tup xs)->c≠x:=fun c xs r z=>by subst z;rw [r] at mu;exact mu
 by_cases hb:b=x
 ·subst hb;rw [upd_same] at q;cases q;exact new
 ·rw [qe hb] at q
  by_cases hbe:b=e
  ·have q':H b=some (.own x):=by
    rcases he with z | z
    ·exact absurd (hbe.trans z) hb
    ·rw [hbe];exact z
   rw [q] at q';cases q'
   obtain ⟨v,hv⟩:=heo
   exact ⟨v,by rw [hbe];exact hv⟩
  ·refine (ok b u q).stay (fun c v hc r=>k c v ?_ r) (fun c r=>by rw [qe (nown c b r)];exact r) fun c xs r=>by rw [qe (ntup c xs r)];exact r
   rcases hc with rfl | hc
   ·exact hbe
   ·rintro rfl
    rcases he with z | z
    ·exact nown c b hc z
    ·rw [hc] at z;cases z;exact hb rfl
end
structure Un (fs ex:List Addr) (H H':Hp) (h h':Heap):Prop where
 keep:∀ b o,h.get? b=some o->H b=none->b ∉ fs->b ∉ ex->h'.get? b=some o
 slot:∀ b o,h.get? b=some o->H b=none->b∈fs->b ∉ ex->∃ sl,h'.get? b=some { o with slots:=sl }
 free:∀ b o,h.get? b=some o->H b=none->b ∉ ex->H' b=none
 there:∀ b o,h.get? b=some o->b ∉ ex->∃ o',h'.get? b=some o'
 tups:∀ b xs,H b=some (.tup xs)->H' b=some (.tup xs)
 frzs:∀ b o u,H b=some (.frz o u)->H' b=some (.frz o u)
 tbls:∀ b ps,H b=some (.tbl ps)->∃ more,H' b=some (.tbl (ps++more))
section
variable {fs fs' ex ex':List Addr} {H H1 H2:Hp} {h h1 h2 h':Heap} {a x e:Addr} {o:HO}
theorem Un.any (u:Un fs ex H H1 h h1) {b:Addr} {ob:Obj} (q:h.get? b=some ob) (n:H b=none) (hx:b ∉ ex):∃ sl,h1.get? b=some { ob with slots:=sl }:=by
 by_cases hb:b∈fs
 ·exact u.slot b ob q n hb hx
 ·exact ⟨ob.slots,u.keep b ob q n hb hx⟩
theorem Un.trans (a:Un fs ex H H1 h h1) (b:Un fs ex H1 H2 h1 h2):Un fs ex H H2 h h2 where
 keep:=fun c ob q n hc hx=>b.keep c ob (a.keep c ob q n hc hx) (a.free c ob q n hx) hc hx
 slot:=fun c ob q n hc hx=>by
  obtain ⟨sl,e1⟩:=a.slot c ob q n hc hx
  obtain ⟨sl',e2⟩:=b.slot c _ e1 (a.free c ob q n hx) hc hx
  exact ⟨sl',e2⟩
 free:=fun c ob q n hx=>by
  obtain ⟨o',e1⟩:=a.there c ob q hx
  exact b.free c o' e1 (a.free c ob q n hx) hx
 there:=fun c ob q hx=>by
  obtain ⟨o',e1⟩:=a.there c ob q hx
  exact b.there c o' e1 hx
 tups:=fun c xs q=>b.tups c xs (a.tups c xs q)
 frzs:=fun c ob xs q=>b.frzs c ob xs (a.frzs c ob xs q)
 tbls:=fun c ps q=>by
  obtain ⟨m1,e1⟩:=a.tbls c ps q
  obtain ⟨m2,e2⟩:=b.tbls c _ e1
  exact ⟨m1++m2,by rw [e2,Array.append_assoc]⟩
theorem Un.kept (k:∀ b u,h.get? b=some u->h'.get? b=some u):Un fs ex H H h h' :=
 ⟨fun b ob q _ _ _=>k b ob q,fun b ob q _ _ _=>⟨ob.slots,k b ob q⟩,fun _ _ _ n _=>n,fun b ob q _=>⟨ob,k b ob q⟩,fun _ _ q=>q,fun _ _ _ q=>q,fun _ ps q=>⟨#[],by rw [q];simp⟩⟩
theorem Un.refl:Un fs ex H H h h:=Un.kept fun _ _ q=>q
theorem Un.laid (k:∀ b u,h.get? b=some u->h'.get? b=some u) (hp:h.objs.size<=a) (hn:H a=none):Un fs ex H (upd H a o) h h' where
 keep:=fun b u q _ _ _=>k b u q
 slot:=fun b u q _ _ _=>⟨u.slots,k b u q⟩
 free:=fun b u q n _=>by rw [qe (Nat.ne_of_lt (Nat.lt_of_lt_of_le (Heap.lt_size q) hp))];exact n
 there:=fun b u q _=>⟨u,k b u q⟩
 tups:=fun b xs q=>by rw [qe (ne_of_none q hn)];exact q
 frzs:=fun b u xs q=>by rw [qe (ne_of_none q hn)];exact q
 tbls:=fun b ps q=>⟨#[],by rw [qe (ne_of_none q hn),q];simp⟩
theorem Un.write (mu:Mut (H x)) (he:e=x\/H e=some (.own x)) (k:∀ b u,b≠e->h.get? b=some u->h'.get? b=some u) (heo:∃ u,h'.get? e=some u):Un fs ex H (upd H x o) h h':=by
 have hx:∀ b,H b=none->b≠x:=fun b n z=>by subst z;rw [n] at mu;exact mu
 have hb:∀ b,H b=none->b≠e:=fun b n z=>by
  subst z
  rcases he with r | r
  ·exact hx b n r
  ·rw [n] at r;cases r
 have hm:∀ b u,H b=some u->¬ Mut (some u)->b≠x:=fun b u q nm z=>by subst z;rw [q] at mu;exact nm mu
 refine ⟨fun b u q n _ _=>k b u (hb b n) q,fun b u q n _ _=>⟨u.slots,k b u (hb b n) q⟩,fun b u q n _=>by rw [qe (hx b n)];exact n,fun b u q _=>?_,
  fun b xs q=>by rw [qe (hm b _ q fun z=>z)];exact q,fun b u xs q=>by rw [qe (hm b _ q fun z=>z)];exact q,fun b ps q=>⟨#[],by rw [qe (hm b _ q fun z=>z),q];simp⟩⟩
 by_cases hbe:b=e
 ·subst hbe;exact heo
 ·exact ⟨u,k b u hbe q⟩
theorem Un.mono (u:Un fs ex H H1 h h1) (hs:∀ b∈fs,b∈fs') (hx:∀ b∈ex,b∈ex'):Un fs' ex' H H1 h h1 :=
 ⟨fun b ob q n hb he=>u.keep b ob q n (fun z=>hb (hs b z)) fun z=>he (hx b z),fun _ _ q n _ he=>u.any q n fun z=>he (hx _ z),fun b ob q n he=>u.free b ob q n fun z=>he (hx b z),fun b ob q he=>u.there b ob q fun z=>he (hx b z),u.tups,u.frzs,u.tbls⟩
end
def trk (h:Heap) (H:Hp):List Addr:=(List.range h.objs.size).filter fun a=>(H a).isSome
def hidT (h:Heap) (H:Hp):Heap:=W.hideAll h (trk h H)
theorem qbt (h:Heap) (H:Hp):(hidT h H).objs.size=h.objs.size:=W.hideAll_size _ _
theorem qdp {h:Heap} {H:Hp} {b:Addr} {o:Obj} (e:h.get? b=some o) (n:H b=none):(hidT h H).get? b=some o :=
 W.hideAll_get _ e fun hm=>by
  have q:(H b).isSome=true:=(List.mem_filter.mp hm).2
  rw [n] at q;simp at q
theorem qfx {h:Heap} {H:Hp} {b:Addr} {o:Obj} (e:(hidT h H).get? b=some o):h.get? b=some o/\H b=none:=by
 have e':h.get? b=some o:=W.of_hideAll (trk h H) e
 refine ⟨e',?_⟩
 cases q:H b with
 | none=>rfl
 | some x =>
  have hm:b∈trk h H:=List.mem_filter.mpr ⟨List.mem_range.mpr (Heap.lt_size e'),by simp [q]⟩
  have z:(hidT h H).get? b=none:=W.hideAll_none (trk h H) hm
  rw [z] at e;cases e
def allNews (g h:Heap) (L:Addr):List (Addr × Obj):=(List.range h.objs.size).filterMap fun a=>if a=L\/(g.get? a).isSome=true then none else (h.get? a).map fun o=>(a,o)
def rest (g h:Heap) (L d:Addr):List (Addr × Obj):=(allNews g h L).filter fun p=>decide (p.1≠d)
end L2
namespace L2
open PySem PySem.Spec PyProof.Rows
structure Mod (K:W.Frag) (mg:Str->Option Value) (base:Heap):Prop where
 kin:K.In base
 glob:base.Ns mainGlobals mg
 blt:∃ mb,base.Ns builtinsNs mb/\∀ x:Str,x≠"__name__"->mb x=bootBuiltins x
 nolimit:base.NoLimit
structure Cx where
 prog:Program
 w:World
 K:W.Frag
 mg:Str->Option Value
 base:Heap
 A:Around
 N:List Str
 s₀:Shared
 H₀:Hp
 env:Env
 outer:List Env
 stack:List Env
 ex:List Addr
 fn:Str->Bool
 calm:Bool
 pn:List (Addr × Obj)
 xe:Value->Shared->Prop
def frs (l:List Env):List Addr:=l.filterMap (·.frame)
abbrev Cx.fs (X:Cx):List Addr:=frs X.outer
def Vis (sc:Scope) (x:Str):Prop:=sc.names.lookup x=some .local\/sc.names.lookup x=some .cell\/sc.names.lookup x=some .free
def Loc (sc:Scope) (x:Str):Prop:=sc.names.lookup x=some .local\/sc.names.lookup x=some .cell
def Look (env:Env) (h:Heap) (m:Str->Option Value) (x:Str) (u:Value):Prop :=
 (env.kindOf x=some .local/\m x=some u)\/((env.kindOf x=some .cell\/env.kindOf x=some .free)/\∃ c,env.cells.lookup x=some c/\h.IsCell c (some u))
structure Cx.Ok (X:Cx):Prop where
 mod:Mod X.K X.mg X.base
 kind:X.env.scope.kind=.function
 glob:X.env.globals=mainGlobals
 blt:X.env.builtins=builtinsNs
 above:X.s₀.heap.objs.size<=X.env.locals
 inj:∀ x y c,X.env.cells.lookup x=some c->X.env.cells.lookup y=some c->x=y
 has:∀ x,(X.env.kindOf x=some .cell\/X.env.kindOf x=some .free)->∃ c,X.env.cells.lookup x=some c
 cab:∀ x c,X.fn x=true->X.env.cells.lookup x=some c->X.s₀.heap.objs.size<=c
 hd:X.calm=true->X.A.handled=none
 frames:X.A.frames=some X.stack
 stk:X.stack=X.outer\/(X.stack=X.env :: X.outer/\X.env.frame=some X.env.locals)
 exf:∀ b∈X.ex,b≠X.env.locals/\∀ x c,X.env.cells.lookup x=some c->c≠b
 bs:∀ b o,X.base.get? b=some o->X.s₀.heap.get? b=some o/\X.H₀ b=none
 bsz:X.base.objs.size<=X.s₀.heap.objs.size
 noex:∀ b o,X.base.get? b=some o->b ∉ X.ex
 exfs:∀ b∈X.ex,b ∉ X.fs
 funs:X.s₀.heap.FunFrames X.base X.outer
 frf:∀ b∈X.fs,X.H₀ b=none
structure Inv (X:Cx) (pins:List (Addr × Obj)) (σ:List (Option V)) (H:Hp) (s:Shared):Prop where
 ok:X.Ok
 os:s.os=X.s₀.os
 bare:AllBare s.gens
 base:Un X.fs X.ex X.H₀ H X.s₀.heap s.heap
 loc:∃ m,s.heap.Ns X.env.locals m/\∀ (i:Nat) (x:Str) (v:V),X.N[i]? = some x->σ[i]? = some (some v)->Vis X.env.scope x->∃ u,RelV v u/\Look X.env s.heap m x u
 cell:∀ x c,X.env.cells.lookup x=some c->∃ v,s.heap.IsCell c v
 free:H X.env.locals=none
 freeC:∀ x c,X.env.cells.lookup x=some c->H c=none
 pin:∀ p∈X.pn++pins,s.heap.get? p.1=some p.2/\H p.1=none/\p.1≠X.env.locals/\p.1 ∉ X.fs/\∀ v,p.2.data≠.cell v
 hok:HOk X.prog X.w H s.heap
 len:σ.length=X.N.length
section
variable {X:Cx} {pins:List (Addr × Obj)} {σ:List (Option V)} {H H':Hp} {s:Shared} {h':Heap}
theorem Cx.Ok.nofr (ok:X.Ok) {b:Addr} {o:Obj} (e:X.base.get? b=some o):b ∉ X.fs:=fun hb=>by
 have:=(ok.funs.mem hb).1
 rw [e] at this;cases this
theorem Inv.bs (I:Inv X pins σ H s):∀ b o,X.base.get? b=some o->s.heap.get? b=some o/\H b=none:=fun b o e =>
 ⟨I.base.keep b o (I.ok.bs b o e).1 (I.ok.bs b o e).2 (I.ok.nofr e) (I.ok.noex b o e),I.base.free b o (I.ok.bs b o e).1 (I.ok.bs b o e).2 (I.ok.noex b o e)⟩
theorem Inv.bk (I:Inv X pins σ H s):∀ b o,X.base.get? b=some o->s.heap.get? b=some o:=fun b o e=>(I.bs b o e).1
theorem Inv.mod (I:Inv X pins σ H s):Mod X.K X.mg X.base:=I.ok.mod
theorem Inv.kIn (I:Inv X pins σ H s):X.K.In s.heap:=I.ok.mod.kin.keeps I.bk
theorem Inv.nolimit (I:Inv X pins σ H s):s.heap.NoLimit:=I.ok.mod.nolimit.keeps I.bk
theorem Inv.fr (I:Inv X pins σ H s):∃ m,Fr X.base X.env.locals s.heap m :=
 let ⟨m,hn,_⟩:=I.loc
 ⟨m,hn,I.bk,Nat.le_trans I.ok.bsz I.ok.above⟩
theorem Inv.lt (I:Inv X pins σ H s):X.env.locals < s.heap.objs.size:=let ⟨_,hn,_⟩:=I.loc;hn.lt
theorem Inv.sz (I:Inv X pins σ H s):X.s₀.heap.objs.size<=s.heap.objs.size:=Nat.le_trans I.ok.above (Nat.le_of_lt I.lt)
theorem Inv.nofs (I:Inv X pins σ H s) {a:Addr} (h:s.heap.objs.size<=a):a ∉ X.fs:=fun hb=>by
 obtain ⟨_,o,ho,_⟩:=I.ok.funs.mem hb
 exact absurd (Nat.lt_of_lt_of_le (Heap.lt_size ho) (Nat.le_trans I.sz h)) (Nat.lt_irrefl _)
theorem Inv.cne (I:Inv X pins σ H s):∀ x c,X.env.cells.lookup x=some c->c≠X.env.locals:=fun x c e z=>by
 obtain ⟨v,o,ho,hd⟩:=I.cell x c e
 obtain ⟨m,⟨o',es,ep,ho',hd',_⟩,_⟩:=I.loc
 rw [z,ho'] at ho;cases ho;rw [hd'] at hd;cases hd
theorem Inv.funs (I:Inv X pins σ H s):s.heap.FunFrames X.base X.outer:=by
 have all:∀ (l:List Env),(∀ b∈frs l,b∈X.fs)->X.s₀.heap.FunFrames X.base l->s.heap.FunFrames X.base l:=by
  intro l
  induction l with
  | nil=>intro _ _;trivial
  | cons env r ih =>
   intro hs hl
   obtain ⟨hk,⟨L,o,hf,hn,ho,hd⟩,hr⟩:=hl
   have hL:L∈X.fs:=hs L (by unfold frs;rw [List.filterMap_cons,hf];exact List.mem_cons_self)
   obtain ⟨sl,e⟩:=I.base.slot L o ho (I.ok.frf L hL) hL fun z=>I.ok.exfs L z hL
   exact ⟨hk,⟨L,_,hf,hn,e,hd⟩,ih (fun b hb=>hs b (by unfold frs;rw [List.filterMap_cons,hf];exact List.mem_cons_of_mem _ hb)) hr⟩
 exact all X.outer (fun _ hb=>hb) I.ok.funs
theorem Inv.stack (I:Inv X pins σ H s):s.heap.FunFrames X.base X.stack:=by
 rcases I.ok.stk with e | ⟨e,hf⟩
 ·rw [e];exact I.funs
 ·rw [e]
  obtain ⟨m,hn,_⟩:=I.loc
  refine .cons (by rw [I.ok.kind];decide) hf hn ?_ I.funs
  exact Heap.get?_none_of_le (Nat.le_trans I.ok.bsz I.ok.above)
theorem Inv.stkSub (I:Inv X pins σ H s):∀ b∈frs X.stack,b∈X.env.locals :: X.fs:=fun b hb=>by
 rcases I.ok.stk with e | ⟨e,hf⟩
 ·rw [e] at hb;exact List.mem_cons_of_mem _ hb
 ·rw [e] at hb
  unfold frs at hb
  rw [List.filterMap_cons,hf] at hb
  exact hb
theorem Inv.stkFree (I:Inv X pins σ H s):∀ b∈frs X.stack,H b=none:=fun b hb=>by
 rcases List.mem_cons.mp (I.stkSub b hb) with e | hb
 ·rw [e];exact I.free
 ·obtain ⟨_,o,ho,_⟩:=I.ok.funs.mem hb
  exact I.base.free b o ho (I.ok.frf b hb) fun z=>I.ok.exfs b z hb
theorem Inv.step {g':Array GenState} {t':Nat} {d':Drawn} {ch:List Addr} (I:Inv X pins σ H s)
  (hch:∀ b∈ch,(b∈X.ex\/X.s₀.heap.objs.size<=b)/\b≠X.env.locals/\(∀ x c,X.env.cells.lookup x=some c->c≠b)/\∀ p∈X.pn++pins,p.1≠b)
  (keep:∀ b o,b≠X.env.locals->b ∉ X.fs->b ∉ ch->s.heap.get? b=some o->H b=none->h'.get? b=some o)
  (slot:∀ b o,b≠X.env.locals->b∈X.fs->b ∉ ch->s.heap.get? b=some o->H b=none->∃ sl,h'.get? b=some { o with slots:=sl }) (free:∀ b o,b ∉ ch->s.heap.get? b=some o->H b=none->H' b=none)
  (there:∀ b o,b ∉ ch->s.heap.get? b=some o->∃ o',h'.get? b=some o')
  (tups:∀ b xs,H b=some (.tup xs)->H' b=some (.tup xs)) (frzs:∀ b o u,H b=some (.frz o u)->H' b=some (.frz o u)) (tbls:∀ b ps,H b=some (.tbl ps)->∃ more,H' b=some (.tbl (ps++more)))
  (ns:∀ m,s.heap.Ns X.env.locals m->h'.Ns X.env.locals m) (hok:HOk X.prog X.w H' h') (hg:AllBare g') :
  Inv X pins σ H' { s with heap:=h',gens:=g',drawn:=d',toks:=t' }:=by
 have neL:∀ b o,X.s₀.heap.get? b=some o->b≠X.env.locals:=fun b o e=>Nat.ne_of_lt (Nat.lt_of_lt_of_le (Heap.lt_size e) I.ok.above)
 have neC:∀ b o,X.s₀.heap.get? b=some o->b ∉ X.ex->b ∉ ch:=fun b o e hx hb=>by
  rcases (hch b hb).1 with z | z
  ·exact hx z
  ·exact absurd (Nat.lt_of_lt_of_le (Heap.lt_size e) z) (Nat.lt_irrefl _)
 have cellK:∀ x c,X.env.cells.lookup x=some c->∀ v,s.heap.IsCell c v->h'.IsCell c v:=fun x c e v ⟨o,ho,hd⟩=>by
  have nch:c ∉ ch:=fun z=>(hch c z).2.2.1 x c e rfl
  by_cases hc:c∈X.fs
  ·obtain ⟨sl,q⟩:=slot c o (I.cne x c e) hc nch ho (I.freeC x c e)
   exact ⟨_,q,hd⟩
  ·exact ⟨o,keep c o (I.cne x c e) hc nch ho (I.freeC x c e),hd⟩
 refine ⟨I.ok,I.os,hg,⟨fun b o e n hb hx=>?_,fun b o e n hb hx=>?_,fun b o e n hx=>?_,fun b o e hx=>?_,fun b xs e=>tups b xs (I.base.tups b xs e),fun b o xs e=>frzs b o xs (I.base.frzs b o xs e),fun b ps e=>?_⟩,?_,fun x c e=>?_,?_,fun x c e=>?_,fun p hp=>?_,hok,I.len⟩
 ·exact keep b o (neL b o e) hb (neC b o e hx) (I.base.keep b o e n hb hx) (I.base.free b o e n hx)
 ·obtain ⟨sl,e1⟩:=I.base.slot b o e n hb hx
  obtain ⟨sl',e2⟩:=slot b _ (neL b o e) hb (neC b o e hx) e1 (I.base.free b o e n hx)
  exact ⟨sl',e2⟩
 ·obtain ⟨o',e1⟩:=I.base.there b o e hx
  exact free b o' (neC b o e hx) e1 (I.base.free b o e n hx)
 ·obtain ⟨o',e1⟩:=I.base.there b o e hx
  exact there b o' (neC b o e hx) e1
 ·obtain ⟨m1,e1⟩:=I.base.tbls b ps e
  obtain ⟨m2,e2⟩:=tbls b _ e1
  exact ⟨m1++m2,by rw [e2,Array.append_assoc]⟩
 ·obtain ⟨m,hn,hl⟩:=I.loc
  refine ⟨m,ns m hn,fun i x v e1 e2 e3=>?_⟩
  obtain ⟨u,r,l⟩:=hl i x v e1 e2 e3
  refine ⟨u,r,?_⟩
  rcases l with l | ⟨k,c,e,z⟩
  ·exact .inl l
  ·exact .inr ⟨k,c,e,cellK x c e _ z⟩
 ·obtain ⟨v,z⟩:=I.cell x c e
  exact ⟨v,cellK x c e v z⟩
 ·obtain ⟨m,⟨o,_,_,ho,_⟩,_⟩:=I.loc
  exact free _ o (fun z=>(hch _ z).2.1 rfl) ho I.free
 ·obtain ⟨v,o,ho,hd⟩:=I.cell x c e
  exact free c o (fun z=>(hch c z).2.2.1 x c e rfl) ho (I.freeC x c e)
 ·obtain ⟨e,n,ne,nf,d⟩:=I.pin p hp
  have nch:p.1 ∉ ch:=fun z=>(hch p.1 z).2.2.2 p hp rfl
  exact ⟨keep p.1 p.2 ne nf nch e n,free p.1 p.2 nch e n,ne,nf,d⟩
theorem Inv.un {t':Nat} (I:Inv X pins σ H s) (u:Un X.fs [] H H' s.heap h') (hok:HOk X.prog X.w H' h'):Inv X pins σ H' { s with heap:=h',toks:=t' }:=by
 obtain ⟨m,⟨o,es,ep,ho,r⟩,_⟩:=id I.loc
 obtain ⟨sl,hL⟩:=u.any ho I.free (by simp)
 exact I.step (g':=s.gens) (d':=s.drawn) (ch:=[]) (fun _ z=>nomatch z) (fun b o _ hb _ e n=>u.keep b o e n hb (by simp)) (fun b o _ hb _ e n=>u.slot b o e n hb (by simp)) (fun b o _ e n=>u.free b o e n (by simp)) (fun b o _ e=>u.there b o e (by simp)) u.tups u.frzs u.tbls (fun m' hm=>by
  obtain ⟨o',es',ep',ho',r'⟩:=hm
  rw [ho] at ho';cases ho'
  exact ⟨_,es',ep',hL,r'⟩) hok I.bare
theorem Inv.call {g':Array GenState} {t':Nat} {d':Drawn} {ch:List Addr} (I:Inv X pins σ H s) (u:Un (frs X.stack) ch H H' s.heap h') (hok:HOk X.prog X.w H' h') (hg:AllBare g')
  (hch:∀ b∈ch,(b∈X.ex\/X.s₀.heap.objs.size<=b)/\b≠X.env.locals/\(∀ x c,X.env.cells.lookup x=some c->c≠b)/\∀ p∈X.pn++pins,p.1≠b) :
  Inv X pins σ H' { s with heap:=h',gens:=g',drawn:=d',toks:=t' }:=by
 obtain ⟨m,⟨o,es,ep,ho,r⟩,_⟩:=id I.loc
 obtain ⟨sl,hL⟩:=u.any ho I.free fun z=>(hch _ z).2.1 rfl
 exact I.step (ch:=ch) hch (fun b o hL hb hc e n=>u.keep b o e n (fun z=>(List.mem_cons.mp (I.stkSub b z)).elim hL hb) hc) (fun b o _ _ hc e n=>u.any e n hc) (fun b o hc e n=>u.free b o e n hc) (fun b o hc e=>u.there b o e hc) u.tups u.frzs u.tbls (fun m' hm=>by
  obtain ⟨o',es',ep',ho',r'⟩:=hm
  rw [ho] at ho';cases ho'
  exact ⟨_,es',ep',hL,r'⟩) hok hg
theorem Inv.turned {t':Nat} {it:Addr} (I:Inv X pins σ H s) (k:∀ b o,b≠it->s.heap.get? b=some o->h'.get? b=some o) (hn:H it=none) (hL:it≠X.env.locals)
  (h1:it∈X.ex\/X.s₀.heap.objs.size<=it) (h2:∀ x c,X.env.cells.lookup x=some c->c≠it) (h3:∀ p∈X.pn++pins,p.1≠it):Inv X pins σ H { s with heap:=h',toks:=t' }:=by
 have nit:∀ b u,H b=some u->b≠it:=fun b u e z=>by rw [z,hn] at e;cases e
 refine I.step (g':=s.gens) (d':=s.drawn) (ch:=[it]) (fun b hb=>?_) (fun b o _ _ hc e _=>k b o (fun z=>hc (by simp [z])) e) (fun b o _ _ hc e _=>⟨o.slots,k b o (fun z=>hc (by simp [z])) e⟩) (fun _ _ _ _ n=>n)
  (fun b o hc e=>⟨o,k b o (fun z=>hc (by simp [z])) e⟩) (fun _ _ e=>e) (fun _ _ _ e=>e) (fun b ps e=>⟨#[],by rw [e];simp⟩) (fun m hm=>?_) (fun b u e=>?_) I.bare
 ·have e:b=it:=by simpa using hb
  subst e
  exact ⟨h1,hL,h2,h3⟩
 ·obtain ⟨o,es,ep,ho,r⟩:=hm
  exact ⟨o,es,ep,k _ o (Ne.symm hL) ho,r⟩
 ·refine (I.hok b u e).stay (fun c v hc q=>k c v ?_ q) (fun _ q=>q) fun _ _ q=>q
  rcases hc with z | z
  ·rw [z];exact nit b u e
  ·exact nit c _ z
theorem Inv.tok (I:Inv X pins σ H s) (t:Nat):Inv X pins σ H { s with toks:=t }:=I.un (h':=s.heap) (t':=t) Un.refl I.hok
theorem Inv.kept {t':Nat} (I:Inv X pins σ H s) (k:∀ b u,s.heap.get? b=some u->h'.get? b=some u):Inv X pins σ H { s with heap:=h',toks:=t' }:=I.un (Un.kept k) (I.hok.kept k)
theorem Inv.laid {a:Addr} {o:HO} {t':Nat} (I:Inv X pins σ H s) (k:∀ b u,s.heap.get? b=some u->h'.get? b=some u) (hp:s.heap.objs.size<=a) (new:ObjOk X.prog X.w (upd H a o) h' a o) :
  Inv X pins σ (upd H a o) { s with heap:=h',toks:=t' }:=I.un (Un.laid k hp (I.hok.fresh hp)) (I.hok.laid k hp new)
theorem Inv.write {x e:Addr} {o:HO} {t':Nat} (I:Inv X pins σ H s) (mu:Mut (H x)) (he:e=x\/H e=some (.own x)) (k:∀ b u,b≠e->s.heap.get? b=some u->h'.get? b=some u) (heo:∃ u,h'.get? e=some u)
  (new:ObjOk X.prog X.w (upd H x o) h' x o):Inv X pins σ (upd H x o) { s with heap:=h',toks:=t' }:=I.un (Un.write mu he k heo) (I.hok.write mu he k heo new)
theorem Inv.pins_of {pins':List (Addr × Obj)} (I:Inv X pins σ H s) (h:∀ p∈pins',s.heap.get? p.1=some p.2/\H p.1=none/\p.1≠X.env.locals/\p.1 ∉ X.fs/\∀ v,p.2.data≠.cell v):Inv X pins' σ H s :=
 ⟨I.ok,I.os,I.bare,I.base,I.loc,I.cell,I.free,I.freeC,fun p hp=>(List.mem_append.mp hp).elim (fun z=>I.pin p (List.mem_append_left _ z)) (h p),I.hok,I.len⟩
theorem Y5 {N:List Str} (hN:N.Nodup) {i j:Nat} {x:Str} (a:N[i]? = some x) (b:N[j]? = some x):i=j:=by
 obtain ⟨h1,e1⟩:=List.getElem?_eq_some_iff.mp a
 obtain ⟨h2,e2⟩:=List.getElem?_eq_some_iff.mp b
 exact (List.getElem_inj hN).mp (e1.trans e2.symm)
theorem Zk {M:Model} {A:Around} {E:Value->Shared->Prop} {i:Nat} {x:Str} {v:V} {u:Value} {Q:Unit->Shared->Prop} (I:Inv X pins σ H s) (hN:X.N.Nodup) (hi:X.N[i]? = some x) (hx:Loc X.env.scope x) (r:RelV v u)
  (h:∀ s',Inv X pins (σ.set i (some v)) H s'->(∃ a,Heap.SameBut a s.heap s'.heap/\(a=X.env.locals\/X.env.cells.lookup x=some a))->Q () s') (hf:X.fn x=true\/X.env.scope.names.lookup x=some .local:=by first | exact .inl rfl | exact .inr rfl | assumption):wpAny M A (storeName X.env x u) Q E s:=by
 obtain ⟨m,hn,hl⟩:=id I.loc
 have hcls:(X.env.scope.kind == .class || (X.env.scope.kind == .module && X.env.locals != X.env.globals))=false:=by rw [I.ok.kind];rfl
 have hiσ:i < σ.length:=by rw [I.len];exact (List.getElem?_eq_some_iff.mp hi).1
 have cne:=I.cne
 have tracked:∀ {a:Addr} {h':Heap},(∃ o,s.heap.get? a=some o/\H a=none)->Heap.SameBut a s.heap h'->HOk X.prog X.w H h':=fun {a h'} ha hs b ob e=>by
  obtain ⟨_,_,hfree⟩:=ha
  refine (I.hok b ob e).stay (fun c w' hc q=>(hs.2 c ?_).trans q) (fun _ q=>q) fun _ _ q=>q
  rintro rfl
  rcases hc with rfl | hc
  ·rw [hfree] at e;cases e
  ·rw [hfree] at hc;cases hc
 rcases hx with hk | hk
 ·refine wpAny_storeName_local hk hn (fun h' hn' hs=>?_) hcls
  obtain ⟨oL,_,_,hoL,_⟩:=id hn
  refine h _ ⟨I.ok,I.os,I.bare,⟨fun b o e n hb hx=>?_,fun b o e n hb hx=>?_,I.base.free,fun b o e hx=>?_,I.base.tups,I.base.frzs,I.base.tbls⟩,⟨_,hn',fun j y v' e1 e2 e3=>?_⟩,fun y c e=>?_,I.free,I.freeC,fun p hp=>?_,tracked ⟨oL,hoL,I.free⟩ hs,by simpa using I.len⟩ ⟨_,hs,.inl rfl⟩
  ·exact (hs.2 b (Nat.ne_of_lt (Nat.lt_of_lt_of_le (Heap.lt_size e) I.ok.above))).trans (I.base.keep b o e n hb hx)
  ·obtain ⟨sl,e1⟩:=I.base.slot b o e n hb hx
   exact ⟨sl,(hs.2 b (Nat.ne_of_lt (Nat.lt_of_lt_of_le (Heap.lt_size e) I.ok.above))).trans e1⟩
  ·obtain ⟨o',e1⟩:=I.base.there b o e hx
   exact ⟨o',(hs.2 b (Nat.ne_of_lt (Nat.lt_of_lt_of_le (Heap.lt_size e) I.ok.above))).trans e1⟩
  ·by_cases hj:j=i
   ·subst hj
    rw [hi] at e1;cases e1
    rw [List.getElem?_set_self hiσ] at e2
    cases e2
    exact ⟨u,r,.inl ⟨hk,by simp⟩⟩
   ·rw [List.getElem?_set_ne (Ne.symm hj)] at e2
    obtain ⟨u',r',q⟩:=hl j y v' e1 e2 e3
    refine ⟨u',r',?_⟩
    rcases q with ⟨k,e⟩ | ⟨k,c,e,z⟩
    ·refine .inl ⟨k,?_⟩
     have:y≠x:=fun e=>hj (Y5 hN e1 (e ▸ hi))
     simp [this,e]
    ·exact .inr ⟨k,c,e,z.sameBut hs (cne y c e)⟩
  ·obtain ⟨w',z⟩:=I.cell y c e
   exact ⟨w',z.sameBut hs (cne y c e)⟩
  ·obtain ⟨e,n,ne,nf,d⟩:=I.pin p hp
   exact ⟨(hs.2 p.1 ne).trans e,n,ne,nf,d⟩
 ·have hfn:X.fn x=true:=by
   rcases hf with z | z
   ·exact z
   ·rw [z] at hk;cases hk
  obtain ⟨c,hc⟩:=I.ok.has x (.inl hk)
  obtain ⟨w',z⟩:=I.cell x c hc
  refine wpAny_storeName_cell I.ok.kind hk hc z (fun h' hc' hs=>?_)
  obtain ⟨oc,hoc,hocd⟩:=id z
  refine h { s with heap:=h' } ⟨I.ok,I.os,I.bare,⟨fun b o e n hb hx=>?_,fun b o e n hb hx=>?_,I.base.free,fun b o e hx=>?_,I.base.tups,I.base.frzs,I.base.tbls⟩,⟨m,hn.sameBut hs (Ne.symm (cne x c hc)),fun j y v' e1 e2 e3=>?_⟩,fun y c' e=>?_,I.free,I.freeC,fun p hp=>?_,tracked ⟨oc,hoc,I.freeC x c hc⟩ hs,by simpa using I.len⟩ ⟨c,hs,.inr hc⟩
  ·exact (hs.2 b (Nat.ne_of_lt (Nat.lt_of_lt_of_le (Heap.lt_size e) (I.ok.cab x c hfn hc)))).trans (I.base.keep b o e n hb hx)
  ·obtain ⟨sl,e1⟩:=I.base.slot b o e n hb hx
   exact ⟨sl,(hs.2 b (Nat.ne_of_lt (Nat.lt_of_lt_of_le (Heap.lt_size e) (I.ok.cab x c hfn hc)))).trans e1⟩
  ·obtain ⟨o',e1⟩:=I.base.there b o e hx
   exact ⟨o',(hs.2 b (Nat.ne_of_lt (Nat.lt_of_lt_of_le (Heap.lt_size e) (I.ok.cab x c hfn hc)))).trans e1⟩
  ·by_cases hj:j=i
   ·subst hj
    rw [hi] at e1;cases e1
    rw [List.getElem?_set_self hiσ] at e2
    cases e2
    exact ⟨u,r,.inr ⟨.inl hk,c,hc,hc'⟩⟩
   ·rw [List.getElem?_set_ne (Ne.symm hj)] at e2
    obtain ⟨u',r',q⟩:=hl j y v' e1 e2 e3
    refine ⟨u',r',?_⟩
    rcases q with q | ⟨k,c',e,z'⟩
    ·exact .inl q
    ·refine .inr ⟨k,c',e,z'.sameBut hs ?_⟩
     rintro rfl
     exact hj (Y5 hN e1 (I.ok.inj _ _ _ e hc ▸ hi))
  ·by_cases hcc:c'=c
   ·subst hcc;exact ⟨_,hc'⟩
   ·obtain ⟨w2,z2⟩:=I.cell y c' e
    exact ⟨w2,z2.sameBut hs hcc⟩
  ·obtain ⟨e,n,ne,nf,d⟩:=I.pin p hp
   refine ⟨(hs.2 p.1 ?_).trans e,n,ne,nf,d⟩
   intro q
   rw [q,hoc] at e
   have q':oc=p.2:=Option.some.inj e
   exact d w' (by rw [<- q'];exact hocd)
theorem store_ok {M:Model} {A:Around} {E:Value->Shared->Prop} {i:Nat} {x:Str} {v:V} {u:Value} {Q:Unit->Shared->Prop} (I:Inv X pins σ H s) (hN:X.N.Nodup) (hi:X.N[i]? = some x) (hx:Loc X.env.scope x) (r:RelV v u)
  (h:∀ s',Inv X pins (σ.set i (some v)) H s'->Q () s') (hf:X.fn x=true\/X.env.scope.names.lookup x=some .local:=by first | exact .inl rfl | exact .inr rfl | assumption):wpAny M A (storeName X.env x u) Q E s :=
 Zk I hN hi hx r (fun s' I' _=>h s' I') hf
theorem Inv.call' {s':Shared} {ch:List Addr} (I:Inv X pins σ H s) (ho:s'.os=s.os) (u:Un (frs X.stack) ch H H' s.heap s'.heap) (hok:HOk X.prog X.w H' s'.heap) (hg:AllBare s'.gens)
  (hch:∀ b∈ch,(b∈X.ex\/X.s₀.heap.objs.size<=b)/\b≠X.env.locals/\(∀ x c,X.env.cells.lookup x=some c->c≠b)/\∀ p∈X.pn++pins,p.1≠b):Inv X pins σ H' s':=by
 obtain ⟨h',g',d',t',o'⟩:=s'
 have e:o'=s.os:=ho
 subst e
 exact I.call (g':=g') (t':=t') (d':=d') u hok hg hch
end
abbrev XK:=Value->Option Addr->Hp->Prop
abbrev St:=List (Option V)
abbrev VK:=V->Hp->Prop
abbrev TE:=St->Hp->VK->Prop
abbrev TT:=St->Hp->(Bool->Hp->Prop)->Prop
abbrev TA:=St->Hp->(List V->Hp->Prop)->Prop
structure Ends where
 nx:St->Hp->Prop
 rt:VK
 bk:St->Hp->Prop:=fun _ _=>False
 ct:St->Hp->Prop:=fun _ _=>False
abbrev TS:=Ends->St->Hp->Prop
def EP (X:Cx) (pins:List (Addr × Obj)) (σ:St) (Q:VK) (u:Value) (s':Shared):Prop:=∃ v H',Inv X pins σ H' s'/\RelV v u/\Q v H'
def TP (X:Cx) (pins:List (Addr × Obj)) (σ:St) (Q:Bool->Hp->Prop) (b:Bool) (s':Shared):Prop:=∃ H',Inv X pins σ H' s'/\Q b H'
def AP (X:Cx) (pins:List (Addr × Obj)) (σ:St) (Q:List V->Hp->Prop) (us:List Value) (s':Shared):Prop:=∃ vs H',Inv X pins σ H' s'/\Vals vs us/\Q vs H'
def SP (X:Cx) (pins:List (Addr × Obj)) (D:Ends) (f:Flow) (s':Shared):Prop :=
 match f with
 | .next=>∃ σ' H',Inv X pins σ' H' s'/\D.nx σ' H'
 | .brk=>∃ σ' H',Inv X pins σ' H' s'/\D.bk σ' H'
 | .cont=>∃ σ' H',Inv X pins σ' H' s'/\D.ct σ' H'
 | .ret u=>∃ v σ' H',Inv X pins σ' H' s'/\RelV v u/\D.rt v H'
def PE (X:Cx) (e:Expr) (t:TE):Prop :=
 ∀ (pins:List (Addr × Obj)) (s:Shared) (σ:St) (H:Hp) (Q:VK),Inv X pins σ H s->t σ H Q->wpAny (model X.prog X.w) X.A (eval e X.env) (EP X pins σ Q) X.xe s
def PT (X:Cx) (e:Expr) (t:TT):Prop :=
 ∀ (pins:List (Addr × Obj)) (s:Shared) (σ:St) (H:Hp) (Q:Bool->Hp->Prop),Inv X pins σ H s->t σ H Q->wpAny (model X.prog X.w) X.A (isTrue e X.env (eval e X.env)) (TP X pins σ Q) X.xe s
def PW (X:Cx) (e:Expr) (t:TT):Prop :=
 ∀ (whole:Sem Value) (pins:List (Addr × Obj)) (s:Shared) (σ:St) (H:Hp) (Q:Bool->Hp->Prop),Inv X pins σ H s->t σ H Q->wpAny (model X.prog X.w) X.A (isTrue e X.env whole) (TP X pins σ Q) X.xe s
theorem PW.pt {X:Cx} {e:Expr} {t:TT} (h:PW X e t):PT X e t:=h _
def PA (X:Cx) (es:List Expr) (t:TA):Prop :=
 ∀ (pos:Pos) (pins:List (Addr × Obj)) (s:Shared) (σ:St) (H:Hp) (Q:List V->Hp->Prop),Inv X pins σ H s->t σ H Q->wpAny (model X.prog X.w) X.A (spliced (backTo pos (starEach es X.env))) (AP X pins σ Q) X.xe s
def PS (X:Cx) (st:Stmt) (t:TS):Prop :=
 ∀ (pins:List (Addr × Obj)) (s:Shared) (σ:St) (H:Hp) (D:Ends),Inv X pins σ H s->t D σ H->wpAny (model X.prog X.w) X.A (exec st X.env) (SP X pins D) X.xe s
def PSs (X:Cx) (st:List Stmt) (t:TS):Prop :=
 ∀ (pins:List (Addr × Obj)) (s:Shared) (σ:St) (H:Hp) (D:Ends),Inv X pins σ H s->t D σ H->wpAny (model X.prog X.w) X.A (execs st X.env) (SP X pins D) X.xe s
theorem thn {α:Type} {t:Sem α} {Q Q':α->Shared->Prop} {M:Model} {A:Around} {E:Value->Shared->Prop} {s:Shared} (h:wpAny M A t Q E s) (hQ:∀ a s,Q a s->Q' a s):wpAny M A t Q' E s:=wpAny_mono h hQ fun _ _ x=>x
end L2
namespace L2
open PySem PySem.Spec PyProof.Rows
section
variable {X:Cx}
def tVar (i:Nat):TE:=fun σ H Q=>∃ v,σ[i]? = some (some v)/\Q v H
def tC (v:V):TE:=fun _ H Q=>Q v H
theorem qh4 {i:Nat} {x:Str} {pos:Pos} (hN:X.N[i]? = some x) (hv:Vis X.env.scope x) (hd:(x == ("__debug__" : Str))=false:=by decide) (hcd:(x == ("__classdict__" : Str))=false:=by decide):PE X (.Name x pos) (tVar i):=by
 intro pins s σ H Q I h
 obtain ⟨v,e,h⟩:=h
 obtain ⟨m,hn,hl⟩:=I.loc
 obtain ⟨u,r,l⟩:=hl i x v hN e hv
 have fin:EP X pins σ Q u s:=⟨v,H,I,r,h⟩
 rcases l with ⟨hk,hm⟩ | ⟨hk,c,hc,hcell⟩
 ·exact wpAny_Name (wpAny_loadName_local I.ok.kind hk hn hm fin) hd
 ·rcases hk with hk | hk
  ·exact wpAny_Name (wpAny_loadName_cell I.ok.kind hk hc hcell fin) hd
  ·exact wpAny_Name (wpAny_loadName_free I.ok.kind hk hc hcell fin hcd) hd
theorem qf {i j pos}:PE X (.Constant (.int i) j pos) (tC (.int i)):=fun _ _ _ H _ I h=>wpAny_Constant_int ⟨.int i,H,I.tok _,⟨_,rfl⟩,h⟩
theorem Zl {b j pos}:PE X (.Constant (.bool b) j pos) (tC (.bl b)):=fun _ _ _ H _ I h=>Constant_bool ⟨.bl b,H,I,rfl,h⟩
theorem qfc {j pos}:PE X (.Constant .none j pos) (tC .non):=fun _ _ _ H _ I h=>Constant_none ⟨.non,H,I,rfl,h⟩
theorem j9 {x j pos}:PE X (.Constant (.str x) j pos) (tC (.str x)):=fun _ _ _ H _ I h=>Calls.Constant_str ⟨.str x,H,I.tok _,⟨_,rfl⟩,h⟩
def Gl (X:Cx) (x:Str):Prop:=X.env.kindOf x=some .globalImplicit
theorem ld_glob {E:Value->Shared->Prop} {pins:List (Addr × Obj)} {s:Shared} {σ:St} {H:Hp} {x:Str} {u:Value} {pos:Pos} {Q:Value->Shared->Prop} (I:Inv X pins σ H s) (hg:Gl X x) (hm:X.mg x=some u) (h:Q u s)
  (hd:(x == ("__debug__" : Str))=false:=by decide):wpAny (model X.prog X.w) X.A (eval (.Name x pos) X.env) Q E s :=
 Calls.Name_function_global I.ok.kind hg (Calls.loadGlobal_global (by rw [I.ok.glob];exact I.mod.glob.keeps I.bk) hm h) hd
theorem ld_blt {E:Value->Shared->Prop} {pins:List (Addr × Obj)} {s:Shared} {σ:St} {H:Hp} {x:Str} {u:Value} {pos:Pos} {Q:Value->Shared->Prop} (I:Inv X pins σ H s) (hg:Gl X x) (hm:X.mg x=none) (hv:bootBuiltins x=some u) (h:Q u s)
  (hn:x≠"__name__":=by decide) (hd:(x == ("__debug__" : Str))=false:=by decide):wpAny (model X.prog X.w) X.A (eval (.Name x pos) X.env) Q E s:=by
 obtain ⟨mb,h1,h2⟩:=I.mod.blt
 exact Calls.Name_function_global I.ok.kind hg (Calls.loadGlobal_builtin (by rw [I.ok.glob];exact I.mod.glob.keeps I.bk) hm (by rw [I.ok.blt];exact h1.keeps I.bk) ((h2 x hn).trans hv) h) hd
theorem qfy {x:Str} {v:V} {u:Value} {pos:Pos} (hg:Gl X x) (hm:X.mg x=some u) (r:RelV v u) (hd:(x == ("__debug__" : Str))=false:=by decide):PE X (.Name x pos) (tC v) :=
 fun _ _ _ H _ I h=>ld_glob I hg hm ⟨v,H,I,r,h⟩ hd
theorem Jh {x:Str} {v:V} {u:Value} {pos:Pos} (hg:Gl X x) (hm:X.mg x=none) (hv:bootBuiltins x=some u) (r:RelV v u) (hn:x≠"__name__":=by decide) (hd:(x == ("__debug__" : Str))=false:=by decide):PE X (.Name x pos) (tC v) :=
 fun _ _ _ H _ I h=>ld_blt I hg hm hv ⟨v,H,I,r,h⟩ hn hd
variable {a b:Expr} {ta tb:TE} {pos:Pos}
def PC (X:Cx) (op:CmpOp) (a b:Expr) (t:TE):Prop :=
 ∀ (pins:List (Addr × Obj)) (s:Shared) (σ:St) (H:Hp) (Q:VK),Inv X pins σ H s->t σ H Q ->
  wpAny (model X.prog X.w) X.A (eval a X.env) (fun v s₁=>wpAny (model X.prog X.w) X.A (eval b X.env) (fun u s₂=>wpAny (model X.prog X.w) X.A (compareOp op v u) (EP X pins σ Q) X.xe s₂) X.xe s₁) X.xe s
theorem nobehind (b:Expr) {op:CmpOp} (h:op≠.In) (h2:op≠.NotIn):behindInMarks op b=false:=by
 have e1:(op == CmpOp.In)=false:=by cases op <;> first | rfl | exact absurd rfl h
 have e2:(op == CmpOp.NotIn)=false:=by cases op <;> first | rfl | exact absurd rfl h2
 cases b <;> simp [behindInMarks,e1,e2]
def tB (t:TE):TT:=fun σ H Q=>t σ H fun x H1=>∃ c,x=.bl c/\Q c H1
theorem qh5 {op:CmpOp} {t:TE} (h:PC X op a b t) (h1:behindInMarks op b=false:=by first | exact nobehind _ (by decide) (by decide) | rfl):PT X (.Compare a [op] [b] pos) (tB t):=by
 intro pins s σ H Q I hw
 refine wpAny_isTrue_Compare1 (thn (h pins s σ H _ I hw) fun v s1 h1=>thn h1 fun u s2 h2=>thn h2 fun c s3 ⟨x,H1,I1,r1,q1⟩=>?_) h1
 obtain ⟨d,rfl,q⟩:=q1
 cases r1
 exact wpAny_truthy_bool ⟨H1,I1,q⟩
theorem yr {e:Expr} {t:TE} (h:PE X e t) (he:∀ whole,isTrue e X.env whole=(do let v <- whole;standAt e.pos;holding [v] (truthy v)):=by intro _;rfl):PT X e (tB t):=by
 intro pins s σ H Q I hw
 refine isTrue_plain (thn (h pins s σ H _ I hw) fun v s1 ⟨x,H1,I1,r1,q1⟩=>?_) (he _)
 obtain ⟨d,rfl,q⟩:=q1
 cases r1
 exact wpAny_truthy_bool ⟨H1,I1,q⟩
variable {tA tB':TT} {rest:List Expr}
def tAnd (t u:TT):TT:=fun σ H Q=>t σ H fun c H1=>if c=true then u σ H1 Q else Q false H1
def tOr (t u:TT):TT:=fun σ H Q=>t σ H fun c H1=>if c=true then Q true H1 else u σ H1 Q
def tNot (t:TT):TT:=fun σ H Q=>t σ H fun c H1=>Q (!c) H1
theorem Vw (ha:PT X a tA):PW X (.BoolOp .And [a] pos) tA:=by
 intro wh pins s σ H Q I h
 refine isTrue_and (thn (ha pins s σ H Q I h) fun c s1 e=>?_)
 cases c with
 | true=>exact isTrue_and_nil e
 | false=>exact e
theorem qbu (ha:PT X a tA):PW X (.BoolOp .Or [a] pos) tA:=by
 intro wh pins s σ H Q I h
 refine isTrue_or (thn (ha pins s σ H Q I h) fun c s1 e=>?_)
 cases c with
 | false=>exact isTrue_or_nil e
 | true=>exact e
theorem Y6 (ha:PT X a tA) (hb:PW X (.BoolOp .And (b :: rest) pos) tB'):PW X (.BoolOp .And (a :: b :: rest) pos) (tAnd tA tB'):=by
 intro wh pins s σ H Q I h
 refine isTrue_and (thn (ha pins s σ H _ I h) fun c s1 ⟨H1,I1,q1⟩=>?_)
 cases c with
 | true=>exact hb wh pins s1 σ H1 Q I1 q1
 | false=>exact ⟨H1,I1,q1⟩
theorem qfz (ha:PT X a tA) (hb:PW X (.BoolOp .Or (b :: rest) pos) tB'):PW X (.BoolOp .Or (a :: b :: rest) pos) (tOr tA tB'):=by
 intro wh pins s σ H Q I h
 refine isTrue_or (thn (ha pins s σ H _ I h) fun c s1 ⟨H1,I1,q1⟩=>?_)
 cases c with
 | true=>exact ⟨H1,I1,q1⟩
 | false=>exact hb wh pins s1 σ H1 Q I1 q1
theorem Ji (ha:PT X a tA):PT X (.UnaryOp .Not a pos) (tNot tA):=by
 intro pins s σ H Q I h
 exact isTrue_not (ha pins s σ H (fun c H1=>Q (!c) H1) I h)
def tAndV (ta tb:TE):TE:=fun σ H Q=>ta σ H fun x H1=>∃ c,x=.bl c/\if c=true then tb σ H1 Q else Q (.bl false) H1
def tOrV (ta tb:TE):TE:=fun σ H Q=>ta σ H fun x H1=>∃ c,x=.bl c/\if c=true then Q (.bl true) H1 else tb σ H1 Q
def tNotV (ta:TE):TE:=fun σ H Q=>ta σ H fun x H1=>∃ c,x=.bl c/\Q (.bl (!c)) H1
theorem Zm {op} {t:TE} (h:PE X a t):PE X (.BoolOp op [a] pos) t:=fun pins s σ H Q I hw=>BoolOp_one (h pins s σ H Q I hw)
theorem Y7 (ha:PE X a ta) (hb:PE X (.BoolOp .And (b :: rest) pos) tb):PE X (.BoolOp .And (a :: b :: rest) pos) (tAndV ta tb):=by
 intro pins s σ H Q I h
 refine BoolOp_and (thn (ha pins s σ H _ I h) fun v s1 ⟨x,H1,I1,r1,q1⟩=>?_)
 obtain ⟨c,rfl,q1⟩:=q1
 cases r1
 refine wpAny_truthy_bool ?_
 cases c with
 | true=>exact hb pins s1 σ H1 Q I1 q1
 | false=>exact ⟨.bl false,H1,I1,rfl,q1⟩
theorem pe_or (ha:PE X a ta) (hb:PE X (.BoolOp .Or (b :: rest) pos) tb):PE X (.BoolOp .Or (a :: b :: rest) pos) (tOrV ta tb):=by
 intro pins s σ H Q I h
 refine BoolOp_or (thn (ha pins s σ H _ I h) fun v s1 ⟨x,H1,I1,r1,q1⟩=>?_)
 obtain ⟨c,rfl,q1⟩:=q1
 cases r1
 refine wpAny_truthy_bool ?_
 cases c with
 | false=>exact hb pins s1 σ H1 Q I1 q1
 | true=>exact ⟨.bl true,H1,I1,rfl,q1⟩
theorem qh6 (ha:PE X a ta):PE X (.UnaryOp .Not a pos) (tNotV ta):=by
 intro pins s σ H Q I h
 refine UnaryOp_ (thn (ha pins s σ H _ I h) fun v s1 ⟨x,H1,I1,r1,q1⟩=>?_)
 obtain ⟨c,rfl,q1⟩:=q1
 cases r1
 exact not_of (wpAny_truthy_bool ⟨.bl (!c),H1,I1,rfl,q1⟩)
end
end L2
namespace L2
open PySem PySem.Spec PyProof.Rows
def SqL (K:W.Frag) (H:Hp) (a:Addr) (xs:List V):Prop :=
 Rd H a (.lst xs) \/
  ∃ (o:Obj) (its:Array Value) (n:Nat),K.lookup a=some o/\o.cls=.type "list"/\o.dict=none/\o.data=.seq its n/\its.size<=sizeLine/\Vals xs its.toList
def SqT (K:W.Frag) (H:Hp) (a:Addr) (xs:List V):Prop :=
 Rd H a (.tup xs) \/
  ∃ (o:Obj) (its:Array Value) (n:Nat),K.lookup a=some o/\o.cls=.type "tuple"/\o.data=.seq its n/\its.size<=sizeLine/\Vals xs its.toList
def absV:Value->Option V
 | .none=>some .non
 | .bool b=>some (.bl b)
 | .int i _=>some (.int i)
 | .str x _=>some (.str x)
 | .bytes b _=>some (.byt b)
 | .float b _=>some (.flt b)
 | .ref a=>some (.ref a)
 | .type n=>some (.ty n)
 | _=>none
theorem RelV.abs {x:V} {u:Value} (r:RelV x u):absV u=some x:=by
 cases x with
 | non=>cases r;rfl
 | bl _=>cases r;rfl
 | int _=>obtain ⟨t,rfl⟩:=r;rfl
 | str _=>obtain ⟨t,rfl⟩:=r;rfl
 | byt _=>obtain ⟨t,rfl⟩:=r;rfl
 | flt _=>obtain ⟨t,rfl⟩:=r;rfl
 | ref _=>cases r;rfl
 | ty _=>cases r;rfl
theorem RelV.inj {x y:V} {u:Value} (r:RelV x u) (q:RelV y u):x=y:=Option.some.inj (r.abs.symm.trans q.abs)
theorem Vals.inj:∀ {xs ys:List V} {us:List Value},Vals xs us->Vals ys us->xs=ys
 | _,_,_,.nil,.nil=>rfl
 | _,_,_,.cons r t,.cons r' t'=>by rw [r.inj r',Vals.inj t t']
section
variable {X:Cx} {pins:List (Addr × Obj)} {σ:St} {H:Hp} {s:Shared} {a:Addr} {xs ys:List V}
theorem SqL.of {K:W.Frag} (h:H a=some (.lst xs)):SqL K H a xs:=.inl (.inl h)
theorem SqT.of {K:W.Frag} (h:H a=some (.tup xs)):SqT K H a xs:=.inl (.inl h)
theorem Inv.list (I:Inv X pins σ H s) (h:SqL X.K H a xs):∃ its:List Value,Vals xs its/\PlainL s.heap a its.toArray/\xs.length<=sizeLine:=by
 rcases h with h | ⟨o,its,n,hk,hc,hd,hs,hz,r⟩
 ·obtain ⟨z,its,n,r,e⟩:=h.ok I.hok
  exact ⟨its,r,⟨_,n,e,rfl,rfl,rfl⟩,z⟩
 ·refine ⟨its.toList,r,⟨o,n,I.kIn a o hk,hc,hd,by simpa using hs⟩,?_⟩
  have e:=r.length
  simp only [Array.length_toList] at e
  omega
theorem Inv.tuple (I:Inv X pins σ H s) (h:SqT X.K H a xs):∃ its:List Value,Vals xs its/\IsTup s.heap a its.toArray/\xs.length<=sizeLine:=by
 rcases h with h | ⟨o,its,n,hk,hc,hs,hz,r⟩
 ·obtain ⟨z,its,r,p,_⟩:=h.ok I.hok
  exact ⟨its,r,p,z⟩
 ·refine ⟨its.toList,r,⟨o,I.kIn a o hk,hc,n,by simpa using hs⟩,?_⟩
  have e:=r.length
  simp only [Array.length_toList] at e
  omega
theorem Inv.list_inj (I:Inv X pins σ H s) (h:SqL X.K H a xs) (h':SqL X.K H a ys):xs=ys:=by
 obtain ⟨its,r,⟨o,n,e,_,_,d⟩,_⟩:=I.list h
 obtain ⟨its',r',⟨o',n',e',_,_,d'⟩,_⟩:=I.list h'
 rw [e] at e';cases e'
 rw [d] at d'
 injection d' with d1 _
 have:its=its':=by simpa using congrArg Array.toList d1
 subst this
 exact r.inj r'
theorem Inv.tuple_inj (I:Inv X pins σ H s) (h:SqT X.K H a xs) (h':SqT X.K H a ys):xs=ys:=by
 obtain ⟨its,r,⟨o,e,_,n,d⟩,_⟩:=I.tuple h
 obtain ⟨its',r',⟨o',e',_,n',d'⟩,_⟩:=I.tuple h'
 rw [e] at e';cases e'
 rw [d] at d'
 injection d' with d1 _
 have:its=its':=by simpa using congrArg Array.toList d1
 subst this
 exact r.inj r'
end
abbrev Cx.wish (X:Cx) (E:Value->Shared->Prop):Cx:={ X with xe:=E }
abbrev Cx.nox (X:Cx):Cx:=X.wish fun _ _=>False
theorem Cx.Ok.wish {X:Cx} (ok:X.Ok) (E:Value->Shared->Prop):(X.wish E).Ok :=
 ⟨ok.mod,ok.kind,ok.glob,ok.blt,ok.above,ok.inj,ok.has,ok.cab,ok.hd,ok.frames,ok.stk,ok.exf,ok.bs,ok.bsz,ok.noex,ok.exfs,ok.funs,ok.frf⟩
theorem Cx.Ok.unwish {X:Cx} {E:Value->Shared->Prop} (ok:(X.wish E).Ok):X.Ok :=
 ⟨ok.mod,ok.kind,ok.glob,ok.blt,ok.above,ok.inj,ok.has,ok.cab,ok.hd,ok.frames,ok.stk,ok.exf,ok.bs,ok.bsz,ok.noex,ok.exfs,ok.funs,ok.frf⟩
section
variable {X:Cx} {pins:List (Addr × Obj)} {σ:St} {H:Hp} {s:Shared} {E:Value->Shared->Prop}
theorem Inv.wish (I:Inv X pins σ H s) (E:Value->Shared->Prop):Inv (X.wish E) pins σ H s:=⟨I.ok.wish E,I.os,I.bare,I.base,I.loc,I.cell,I.free,I.freeC,I.pin,I.hok,I.len⟩
theorem Inv.unwish (I:Inv (X.wish E) pins σ H s):Inv X pins σ H s:=⟨I.ok.unwish,I.os,I.bare,I.base,I.loc,I.cell,I.free,I.freeC,I.pin,I.hok,I.len⟩
theorem SP.unwish {D:Ends} {f:Flow} {s':Shared} (h:SP (X.wish E) pins D f s'):SP X pins D f s':=by
 cases f with
 | next=>obtain ⟨σ',H',I,q⟩:=h;exact ⟨σ',H',I.unwish,q⟩
 | brk=>obtain ⟨σ',H',I,q⟩:=h;exact ⟨σ',H',I.unwish,q⟩
 | cont=>obtain ⟨σ',H',I,q⟩:=h;exact ⟨σ',H',I.unwish,q⟩
 | ret u=>obtain ⟨v,σ',H',I,r,q⟩:=h;exact ⟨v,σ',H',I.unwish,r,q⟩
theorem PE.nox {e:Expr} {t:TE} (h:PE X.nox e t):PE X e t:=fun pins s σ H Q I hw =>
 wpAny_mono (h pins s σ H Q (I.wish _) hw) (fun _ _ ⟨v,H',I',r,q⟩=>⟨v,H',I'.unwish,r,q⟩) fun _ _ z=>False.elim z
theorem PT.nox {e:Expr} {t:TT} (h:PT X.nox e t):PT X e t:=fun pins s σ H Q I hw =>
 wpAny_mono (h pins s σ H Q (I.wish _) hw) (fun _ _ ⟨H',I',q⟩=>⟨H',I'.unwish,q⟩) fun _ _ z=>False.elim z
theorem PSs.nox {st:List Stmt} {t:TS} (h:PSs X.nox st t):PSs X st t:=fun pins s σ H D I hw =>
 wpAny_mono (h pins s σ H D (I.wish _) hw) (fun _ _ q=>q.unwish) fun _ _ z=>False.elim z
end
section
variable {X:Cx} {st:Stmt} {rest:List Stmt} {t u:TS} {e:Expr} {te:TE} {pos:Pos}
def tNext:TS:=fun D σ H=>D.nx σ H
def tSeq (t u:TS):TS:=fun D σ H=>t { D with nx:=u D } σ H
theorem jh:PSs X [] tNext:=fun _ _ σ H _ I h=>wpAny_execs_nil ⟨σ,H,I,h⟩
theorem qd (h1:PS X st t) (h2:PSs X rest u):PSs X (st :: rest) (tSeq t u):=by
 intro pins s σ H D I h
 refine wpAny_execs_cons (thn (h1 pins s σ H { D with nx:=u D } I h) fun f s1 q=>?_)
 cases f with
 | next =>
  obtain ⟨σ',H',I',q⟩:=q
  exact h2 pins s1 σ' H' D I' q
 | ret v=>exact q
 | brk=>exact q
 | cont=>exact q
theorem qg (h1:PS X st t):PSs X [st] t:=by
 intro pins s σ H D I h
 refine wpAny_execs_cons (thn (h1 pins s σ H D I h) fun f s1 q=>?_)
 cases f with
 | next=>exact wpAny_execs_nil q
 | ret v=>exact q
 | brk=>exact q
 | cont=>exact q
theorem Inv.quiet {pins:List (Addr × Obj)} {σ:St} {H:Hp} {s:Shared} (I:Inv X pins σ H s):interactive X.env=false:=by simp [interactive,I.ok.kind]
def tDrop (te:TE):TS:=fun D σ H=>te σ H fun _ H1=>D.nx σ H1
theorem vd (he:PE X e te) (hs:swapsWith e none pos.line X.env=pure false:=by rfl):PS X (.Expr e pos) (tDrop te):=by
 intro pins s σ H D I h
 exact wpAny_Expr_any (thn (he pins s σ H _ I h) fun v s1 ⟨x,H1,I1,r1,q1⟩=>⟨σ,H1,I1,q1⟩) I.quiet hs
def tRet (te:TE):TS:=fun D σ H=>te σ H D.rt
theorem qp (he:PE X e te):PS X (.Return (some e) pos) (tRet te):=by
 intro pins s σ H D I h
 exact wpAny_Return_some (thn (he pins s σ H _ I h) fun v s1 ⟨x,H1,I1,r1,q1⟩=>⟨x,σ,H1,I1,r1,q1⟩)
def tIfS (c:TT) (t u:TS):TS:=fun D σ H=>c σ H fun b H1=>if b=true then t D σ H1 else u D σ H1
theorem vm {c:Expr} {a b:List Stmt} {tc:TT} (hc:PT X c tc) (ha:PSs X a t) (hb:PSs X b u):PS X (.If c a b pos) (tIfS tc t u):=by
 intro pins s σ H D I h
 refine wpAny_If (thn (hc pins s σ H _ I h) fun d s1 ⟨H1,I1,q1⟩=>?_)
 cases d with
 | true=>exact ha pins s1 σ H1 D I1 q1
 | false=>exact hb pins s1 σ H1 D I1 q1
def tNever:TS:=fun _ _ _=>False
theorem ya {sts:List Stmt}:PSs X sts tNever:=fun _ _ _ _ _ _ h=>h.elim
end
abbrev TG:=V->St->Hp->(St->Hp->Prop)->Prop
abbrev TGs:=List V->St->Hp->(St->Hp->Prop)->Prop
def PG (X:Cx) (target:Expr) (t:TG):Prop :=
 ∀ (pins:List (Addr × Obj)) (s:Shared) (σ:St) (H:Hp) (v:V) (u:Value) (Q:St->Hp->Prop),Inv X pins σ H s->RelV v u->t v σ H Q ->
  wpAny (model X.prog X.w) X.A (assign target X.env u) (fun _ s'=>∃ σ' H',Inv X pins σ' H' s'/\Q σ' H') X.xe s
def PGs (X:Cx) (ts:List Expr) (t:TGs):Prop :=
 ∀ (pins:List (Addr × Obj)) (s:Shared) (σ:St) (H:Hp) (vs:List V) (us:List Value) (Q:St->Hp->Prop),Inv X pins σ H s->Vals vs us->t vs σ H Q ->
  wpAny (model X.prog X.w) X.A (assignInOrder ((assignEach ts X.env).map (·.2)) us) (fun _ s'=>∃ σ' H',Inv X pins σ' H' s'/\Q σ' H') X.xe s
abbrev TSet:=V->V->V->Hp->(Hp->Prop)->Prop
def PSet (X:Cx) (t:TSet):Prop :=
 ∀ (pins:List (Addr × Obj)) (s:Shared) (σ:St) (H:Hp) (o i v:V) (ov iv u:Value) (Q:Hp->Prop),Inv X pins σ H s->RelV o ov->RelV i iv->RelV v u->t o i v H Q ->
  wpAny (model X.prog X.w) X.A (setItem ov iv u) (fun _ s'=>∃ H',Inv X pins σ H' s'/\Q H') X.xe s
abbrev TIp:=V->V->Hp->VK->Prop
def PIp (X:Cx) (op:Operator) (t:TIp):Prop :=
 ∀ (pins:List (Addr × Obj)) (s:Shared) (σ:St) (H:Hp) (x y:V) (v u:Value) (Q:VK),Inv X pins σ H s->RelV x v->RelV y u->t x y H Q ->
  wpAny (model X.prog X.w) X.A (inplaceOp op v u) (EP X pins σ Q) X.xe s
section
variable {X:Cx} {pos:Pos}
def gName (i:Nat):TG:=fun v σ H Q=>Q (σ.set i (some v)) H
theorem qi {i:Nat} {x:Str} (hN:X.N.Nodup) (hi:X.N[i]? = some x) (hx:Loc X.env.scope x) (hf:X.fn x=true\/X.env.scope.names.lookup x=some .local:=by first | exact .inl rfl | exact .inr rfl | assumption):PG X (.Name x pos) (gName i):=by
 intro pins s σ H v u Q I r h
 exact wpAny_assign_Name (store_ok I hN hi hx r (fun s' I'=>⟨_,H,I',h⟩) hf)
def gNil:TGs:=fun vs σ H Q=>vs=[]/\Q σ H
def gCons (t:TG) (u:TGs):TGs:=fun vs σ H Q=>∃ v r,vs=v :: r/\t v σ H fun σ' H'=>u r σ' H' Q
theorem vv:PGs X [] gNil:=by
 intro pins s σ H vs us Q I r h
 obtain ⟨e,h⟩:=h
 subst e
 cases r
 exact assignInOrder_nil ⟨σ,H,I,h⟩
theorem jf {e:Expr} {es:List Expr} {t:TG} {u:TGs} (h1:PG X e t) (h2:PGs X es u)
  (hs:(assignEach (e :: es) X.env).map (·.2)=assign e X.env :: (assignEach es X.env).map (·.2):=by rfl):PGs X (e :: es) (gCons t u):=by
 intro pins s σ H vs us Q I r h
 obtain ⟨v,vr,e1,h⟩:=h
 subst e1
 cases r with
 | cons r rr =>
  rw [hs]
  refine assignInOrder_cons (thn (h1 pins s σ H _ _ _ I r h) fun _ s1 ⟨σ1,H1,I1,q1⟩=>?_)
  exact h2 pins s1 σ1 H1 _ _ Q I1 rr q1
def gTup (K:W.Frag) (n:Nat) (t:TGs):TG:=fun v σ H Q=>∃ a xs,v=.ref a/\SqT K H a xs/\xs.length=n/\t xs σ H Q
theorem qh7 {es:List Expr} {k:Nat} {t:TGs} {n:Nat} (hc:X.calm=true) (h:PGs X es t)
  (hn:(assignEach es X.env).length=n:=by rfl) (hst:(assignEach es X.env).findIdx? (·.1)=none:=by rfl):PG X (.Tuple es k pos) (gTup X.K n t):=by
 intro pins s σ H v u Q I r hw
 obtain ⟨a,xs,e1,hq,hl,hw⟩:=hw
 subst e1
 cases r
 obtain ⟨its,rv,ht,hz⟩:=I.tuple hq
 refine assign_Tuple_tuple (I.ok.hd hc) ht (by simp [hn,<- hl,rv.length]) hst fun h' hx=>?_
 have I1:Inv X pins σ H { s with heap:=h' }:=I.kept (t':=s.toks) fun b o e=>hx b o (Nat.ne_of_lt (Heap.lt_size e)) e
 exact h pins _ σ H xs _ Q I1 (by simpa using rv) hw
def gSub (to ti:TE) (t:TSet):TG:=fun v σ H Q=>to σ H fun o H1=>ti σ H1 fun i H2=>t o i v H2 fun H3=>Q σ H3
theorem qfd {o i:Expr} {to ti:TE} {t:TSet} (ho:PE X o to) (hi:PE X i ti) (hs:PSet X t)
  (ha:∀ v,assign (.Subscript o i pos) X.env v=(do
   let ov <- holding [v] (eval o X.env)
   let iv <- holding [v,ov] (eval i X.env)
   standAt pos
   holding [v,ov,iv] (setItem ov iv v)
   release [v,ov,iv] []):=by intro _;rfl):PG X (.Subscript o i pos) (gSub to ti t):=by
 intro pins s σ H v u Q I r h
 rw [ha]
 refine wpAny_bind (wpAny_holding (thn (ho pins s σ H _ I h) fun ov s1 ⟨x,H1,I1,r1,q1⟩=>?_))
 refine wpAny_bind (wpAny_holding (thn (hi pins s1 σ H1 _ I1 q1) fun iv s2 ⟨y,H2,I2,r2,q2⟩=>?_))
 refine wpAny_bind (wpAny_standAt (wpAny_bind (wpAny_holding (thn (hs pins s2 σ H2 x y v ov iv u _ I2 r1 r2 r q2) fun _ s3 ⟨H3,I3,q3⟩=>?_))))
 exact wpAny_release ⟨σ,H3,I3,q3⟩
def tAsg (te:TE) (g:TG):TS:=fun D σ H=>te σ H fun x H1=>g x σ H1 D.nx
theorem qfe {tg e:Expr} {te:TE} {g:TG} (he:PE X e te) (hg:PG X tg g) (hs:swapsWithSole [tg] e pos.line X.env=pure false:=by rfl) (hw:swappedStores [tg] e X.env=pure none:=by rfl)
  (h1:(assignEach [tg] X.env).map (·.2)=[assign tg X.env]:=by rfl):PS X (.Assign [tg] e pos) (tAsg te g):=by
 intro pins s σ H D I h
 refine wpAny_Assign_stores (thn (he pins s σ H _ I h) fun v s1 ⟨x,H1,I1,r1,q1⟩=>?_) hs hw
 rw [h1]
 exact thn (hg pins s1 σ H1 x v _ I1 r1 q1) fun _ s2 q=>q
theorem qj {i:Nat} {x:Str} {e:Expr} {te:TE} {pos':Pos} (hN:X.N.Nodup) (hi:X.N[i]? = some x) (hx:Loc X.env.scope x) (he:PE X e te) (hs:swapsWith e (some (.Name x pos')) pos.line X.env=pure false:=by rfl) (hf:X.fn x=true\/X.env.scope.names.lookup x=some .local:=by first | exact .inl rfl | exact .inr rfl | assumption) :
  PS X (.Assign [.Name x pos'] e pos) (tAsg te (gName i)):=by
 intro pins s σ H D I h
 refine wpAny_Assign_Name (thn (he pins s σ H _ I h) fun v s1 ⟨y,H1,I1,r1,q1⟩=>?_) hs
 exact store_ok I1 hN hi hx r1 (fun s2 I2=>⟨_,H1,I2,q1⟩) hf
def tPar (i j:Nat) (ta:TA):TS:=fun D σ H=>ta σ H fun vs H1=>∃ v w,vs=[v,w]/\D.nx ((σ.set i (some v)).set j (some w)) H1
theorem qh8 {i j:Nat} {x y:Str} {a b:Expr} {ta:TA} {px py pt:Pos} {kt k2 pt2} (hc:X.calm=true) (hN:X.N.Nodup) (hi:X.N[i]? = some x) (hj:X.N[j]? = some y) (hij:i≠j)
  (hx:X.env.scope.names.lookup x=some .local) (hy:X.env.scope.names.lookup y=some .local) (ha:PA X [a,b] ta)
  (hw:swappedStores [.Tuple [.Name x px,.Name y py] kt pt] (.Tuple [a,b] k2 pt2) X.env=pure (some [x,y]))
  (hs:swapsWithSole [.Tuple [.Name x px,.Name y py] kt pt] (.Tuple [a,b] k2 pt2) pos.line X.env=pure false:=by rfl) :
  PS X (.Assign [.Tuple [.Name x px,.Name y py] kt pt] (.Tuple [a,b] k2 pt2) pos) (tPar i j ta):=by
 intro pins s σ H D I h
 rw [exec_Assign_arm]
 refine wpAny_bind (wpAny_standAt ?_)
 rw [hs]
 refine wpAny_bind (wpAny_pure ?_)
 rw [if_neg (by decide)]
 refine wpAny_bind (Tuple_ (thn (ha _ pins s σ H _ I h) fun us s1 ⟨vs,H1,I1,r1,q1⟩=>?_))
 obtain ⟨v,w,e1,q1⟩:=q1
 subst e1
 obtain ⟨u1,u2,rfl,rv,rw'⟩:∃ u1 u2,us=[u1,u2]/\RelV v u1/\RelV w u2:=by
  cases r1 with
  | cons p q =>
   cases q with
   | cons p' q' =>
    cases q'
    exact ⟨_,_,rfl,p,p'⟩
 refine wpAny_newObj_type ?_ (by show 2<=sizeLine;decide)
 have I2:Inv X pins σ H1 { s1 with heap:=s1.heap.push { cls:=.type "tuple",data:=.seq [u1,u2].toArray } }:=I1.kept (t':=s1.toks) fun b o e=>Heap.get?_push_of_some _ e
 rw [hw]
 refine wpAny_bind (wpAny_pure ?_)
 show wpAny (model X.prog X.w) X.A (do rule "assign.swapped-stores";let items <- unpackItems (.ref s1.heap.objs.size) 2 none;assignInOrder [fun v=>bindName X.env y v,fun v=>bindName X.env x v] items.reverse;pure Flow.next) _ _ _
 refine wpAny_bind (wpAny_rule (wpAny_bind (unpackItems_tuple (items:=#[u1,u2]) (I.ok.hd hc) (IsTup.new s1.heap _) fun h' hx'=>?_)))
 have I3:=I2.kept (h':=h') (t':=s1.toks) fun b o e=>hx' b o (Nat.ne_of_lt (Heap.lt_size e)) e
 show wpAny _ _ (assignInOrder [fun v=>bindName X.env y v,fun v=>bindName X.env x v] [u2,u1] >>= fun _=>pure Flow.next) _ _ _
 refine wpAny_bind (assignInOrder_cons (wpAny_bindName (store_ok I3 hN hj (.inl hy) rw' (fun s2 I4=>?_) (.inr hy))))
 refine assignInOrder_cons (wpAny_bindName (store_ok I4 hN hi (.inl hx) rv (fun s3 I5=>assignInOrder_nil (wpAny_pure ?_)) (.inr hx)))
 rw [List.set_comm _ _ (Ne.symm hij)] at I5
 exact ⟨_,H1,I5,q1⟩
def tAug (i:Nat) (te:TE) (ti:TIp):TS:=fun D σ H=>∃ x,σ[i]? = some (some x)/\te σ H fun y H1=>ti x y H1 fun z H2=>D.nx (σ.set i (some z)) H2
theorem qff {i:Nat} {x:Str} {e:Expr} {te:TE} {op:Operator} {ti:TIp} {pos':Pos} (hN:X.N.Nodup) (hi:X.N[i]? = some x) (hx:Loc X.env.scope x) (he:PE X e te) (ho:PIp X op ti) (hf:X.fn x=true\/X.env.scope.names.lookup x=some .local:=by first | exact .inl rfl | exact .inr rfl | assumption) :
  PS X (.AugAssign (.Name x pos') op e pos) (tAug i te ti):=by
 intro pins s σ H D I h
 obtain ⟨v,e1,h⟩:=h
 obtain ⟨m,hn,hl⟩:=I.loc
 have vis:Vis X.env.scope x:=by rcases hx with k | k;exact .inl k;exact .inr (.inl k)
 obtain ⟨u,r,l⟩:=hl i x v hi e1 vis
 refine wpAny_AugAssign_Name ?_
 have go:wpAny (model X.prog X.w) X.A (eval e X.env) (fun w s₂=>wpAny (model X.prog X.w) X.A (inplaceOp op u w) (fun r s₃=>wpAny (model X.prog X.w) X.A (storeName X.env x r) (fun _=>SP X pins D .next) X.xe s₃) X.xe s₂) X.xe s:=by
  refine thn (he pins s σ H _ I h) fun w s1 ⟨y,H1,I1,r1,q1⟩=>?_
  refine thn (ho pins s1 σ H1 v y u w _ I1 r r1 q1) fun z s2 ⟨zv,H2,I2,r2,q2⟩=>?_
  exact store_ok I2 hN hi hx r2 (fun s3 I3=>⟨_,H2,I3,q2⟩) hf
 rcases l with ⟨hk,hm⟩ | ⟨hk,c,hc,hcell⟩
 ·exact wpAny_loadName_local I.ok.kind hk hn hm go
 ·rcases hk with hk | hk
  ·exact wpAny_loadName_cell I.ok.kind hk hc hcell go
  ·rcases hx with k | k
   ·have:X.env.scope.names.lookup x=some .free:=hk
    rw [k] at this;cases this
   ·have:X.env.scope.names.lookup x=some .free:=hk
    rw [k] at this;cases this
def ipI (f:Int->Int->Int):TIp:=fun x y H Q=>∃ i j,x=.int i/\y=.int j/\Q (.int (f i j)) H
theorem qh9:PIp X .Add (ipI fun i j=>i+j):=by
 intro pins s σ H x y v u Q I r1 r2 h
 obtain ⟨i,j,e1,e2,q⟩:=h
 subst e1;subst e2
 obtain ⟨t,rfl⟩:=r1
 obtain ⟨t',rfl⟩:=r2
 exact iadd_int ⟨.int _,H,I.tok _,⟨_,rfl⟩,q⟩
theorem qia:PIp X .Sub (ipI fun i j=>i - j):=by
 intro pins s σ H x y v u Q I r1 r2 h
 obtain ⟨i,j,e1,e2,q⟩:=h
 subst e1;subst e2
 obtain ⟨t,rfl⟩:=r1
 obtain ⟨t',rfl⟩:=r2
 exact isub_int ⟨.int _,H,I.tok _,⟨_,rfl⟩,q⟩
end
section
variable {X:Cx} {pos:Pos}
def tWhile (c:TT) (tb:TS):TS:=fun D σ H=>∃ W:Nat->St->Hp->Prop,(∃ m,W m σ H)/\∀ m σ H,W m σ H ->
 c σ H fun b H1=>if b=true then ∃ N:St->Hp->Prop,(∀ σ' H',N σ' H'->∃ m',m' < m/\W m' σ' H')/\tb { D with nx:=N,ct:=N,bk:=D.nx } σ H1 else D.nx σ H1
theorem Vx {c:Expr} {body:List Stmt} {tc:TT} {tb:TS} (hp:PassesOwn (model X.prog X.w) X.A X.env X.xe) (hc:PT X c tc) (hb:PSs X body tb):PS X (.While c body [] pos) (tWhile tc tb):=by
 intro pins s σ H D I h
 obtain ⟨W,⟨m0,w0⟩,turn⟩:=h
 refine wpAny_While (codeAny_whileLoop (fun n s'=>∃ σ' H',Inv X pins σ' H' s'/\W n σ' H') ?_ m0 ⟨σ,H,I,w0⟩)
 rintro n s1 ⟨σ1,H1,I1,w1⟩
 refine wpAny_passesOwn hp (thn (hc pins s1 σ1 H1 _ I1 (turn n σ1 H1 w1)) fun b s2 ⟨H2,I2,q2⟩=>?_)
 cases b with
 | true =>
  obtain ⟨N,hN,q2⟩:=q2
  rw [if_pos rfl]
  refine wpAny_passesOwn hp (thn (hb pins s2 σ1 H2 _ I2 q2) fun f s3 q3=>?_)
  cases f with
  | next =>
   obtain ⟨σ3,H3,I3,n3⟩:=q3
   obtain ⟨m',hm,w3⟩:=hN σ3 H3 n3
   exact ⟨m',hm,σ3,H3,I3,w3⟩
  | cont =>
   obtain ⟨σ3,H3,I3,n3⟩:=q3
   obtain ⟨m',hm,w3⟩:=hN σ3 H3 n3
   exact ⟨m',hm,σ3,H3,I3,w3⟩
  | brk=>exact q3
  | ret v=>exact q3
 | false =>
  rw [if_neg Bool.false_ne_true]
  exact wpAny_execs_nil ⟨σ1,H2,I2,q2⟩
end
structure It where
 go:Nat->Hp->Prop
 yld:Nat->Hp->V->Hp->Prop
 stop:Nat->Hp->Prop
def FpOk (X:Cx) (pins:List (Addr × Obj)) (H:Hp) (b:Addr):Prop :=
 H b=none/\b≠X.env.locals/\b ∉ X.fs/\(b∈X.ex\/X.s₀.heap.objs.size<=b)/\(∀ x c,X.env.cells.lookup x=some c->c≠b)/\∀ p∈X.pn++pins,p.1≠b
theorem Inv.fpOk {X:Cx} {pins:List (Addr × Obj)} {σ:St} {H H':Hp} {s:Shared} {b:Addr} (I:Inv X pins σ H s) (hb:s.heap.objs.size<=b) (hn:H' b=none):FpOk X pins H' b:=by
 refine ⟨hn,Nat.ne_of_gt (Nat.lt_of_lt_of_le I.lt hb),I.nofs hb,.inr (Nat.le_trans I.sz hb),fun x c e z=>?_,fun p hp z=>?_⟩
 ·obtain ⟨v,q⟩:=I.cell x c e
  exact absurd (Nat.lt_of_lt_of_le q.lt (by rw [z];exact hb)) (Nat.lt_irrefl _)
 ·exact absurd (Nat.lt_of_lt_of_le (Heap.lt_size (I.pin p hp).1) (by rw [z];exact hb)) (Nat.lt_irrefl _)
structure Turn (P:Program) (w:World) (K:W.Frag) (tg:Expr) (J:It) (fp:List Addr) (it:Addr) (tn:Nat->Heap->Prop):Prop where
 mem:it∈fp
 obj:∀ i h,tn i h->∀ b∈fp,∃ o,h.get? b=some o/\∀ v,o.data≠.cell v
 keep:∀ i h h',tn i h->(∀ b∈fp,∀ o,h.get? b=some o->h'.get? b=some o)->tn i h'
 item:∀ (X:Cx),X.prog=P->X.w=w->X.K=K->X.calm=true->∀ (i:Nat) (pins:List (Addr × Obj)) (s:Shared) (σ:St) (H:Hp) (E:Value->Shared->Prop),Inv X pins σ H s->(∀ b∈fp,FpOk X pins H b)->tn i s.heap->J.go i H ->
  wpAny (model P w) X.A (pyNext (.ref it)) (fun r s1=>∃ u,r=some u /\
   wpAny (model P w) X.A (letOwnedTupleGo tg (.ref it) u) (fun _ s2=>∃ x H',Inv X pins σ H' s2/\RelV x u/\J.yld i H x H'/\tn (i+1) s2.heap/\∀ b∈fp,H' b=none) E s1) E s
 done:∀ (X:Cx),X.prog=P->X.w=w->X.K=K->X.calm=true->∀ (i:Nat) (pins:List (Addr × Obj)) (s:Shared) (σ:St) (H:Hp) (E:Value->Shared->Prop),Inv X pins σ H s->(∀ b∈fp,FpOk X pins H b)->tn i s.heap->J.stop i H ->
  wpAny (model P w) X.A (pyNext (.ref it)) (fun r s1=>r=none/\Inv X pins σ H s1) E s
 self:∀ (A:Around) (i:Nat) (s:Shared) (Q:Value->Shared->Prop) (E:Value->Shared->Prop),tn i s.heap->Q (.ref it) s->wpAny (model P w) A (pyIter (.ref it)) Q E s
abbrev TI:=St->Hp->(It->Hp->Prop)->Prop
def PIE (X:Cx) (pins:List (Addr × Obj)) (σ:St) (tg:Expr) (R:It->Hp->Prop) (itv:Value) (s2:Shared):Prop :=
 ∃ (it:Addr) (fp:List Addr) (tn:Nat->Heap->Prop) (J:It) (H':Hp),itv=.ref it/\Inv X pins σ H' s2/\Turn X.prog X.w X.K tg J fp it tn/\tn 0 s2.heap/\(∀ b∈fp,FpOk X pins H' b)/\R J H'
def PI (X:Cx) (tg iter:Expr) (wi:TI):Prop :=
 ∀ (pins:List (Addr × Obj)) (s:Shared) (σ:St) (H:Hp) (R:It->Hp->Prop),Inv X pins σ H s->wi σ H R ->
  wpAny (model X.prog X.w) X.A (eval iter X.env) (fun v s1=>wpAny (model X.prog X.w) X.A (pyIter v) (PIE X pins σ tg R) X.xe s1) X.xe s
theorem Yf {M:Model} {A:Around} {E:Value->Shared->Prop} {s:Shared} {tg:Expr} {it:Addr} {u:Value} {o:Obj} {n:String} {vs:Array Value} {Q:Unit->Shared->Prop} (ho:s.heap.get? it=some o) (hc:o.cls=.type n) (hd:o.data=.fields vs)
  (hn:["enumerate","zip","dict_itemiterator","dict_reverseitemiterator","odict_iterator","itertools.zip_longest","itertools.pairwise"].contains n=false) (hQ:Q () s):wpAny M A (letOwnedTupleGo tg (.ref it) u) Q E s:=by
 unfold letOwnedTupleGo
 cases tg <;> first
  | exact wpAny_pure hQ
  | (cases u <;> first
    | exact wpAny_pure hQ
    | (refine wpAny_bind (wpAny_load ho ?_)
       rw [hc,hd]
       show wpAny M A (if (["enumerate","zip","dict_itemiterator","dict_reverseitemiterator","odict_iterator","itertools.zip_longest","itertools.pairwise"].contains n && vs[0]? == some (rawInt _))=true then _ else _) Q E s
       rw [if_neg (by intro h;rw [hn,Bool.false_and] at h;cases h)]
       exact wpAny_pure hQ))
def Itl (K:W.Frag) (a:Addr):It :=
 ⟨fun i H=>∃ xs x,SqL K H a xs/\xs[i]? = some x,fun i H x H'=>H'=H/\∀ xs,SqL K H a xs->xs[i]? = some x,fun i H=>∃ xs,SqL K H a xs/\xs.length<=i⟩
def Itt (K:W.Frag) (a:Addr):It :=
 ⟨fun i H=>∃ xs x,SqT K H a xs/\xs[i]? = some x,fun i H x H'=>H'=H/\∀ xs,SqT K H a xs->xs[i]? = some x,fun i H=>∃ xs,SqT K H a xs/\xs.length<=i⟩
def Itr (lo:Int) (n:Nat):It:=⟨fun i _=>i < n,fun i H x H'=>H'=H/\x=.int (lo+i),fun i _=>n<=i⟩
theorem qbv {P:Program} {w:World} {K:W.Frag} {tg:Expr} (a it:Addr):Turn P w K tg (Itl K a) [it] it (fun i h=>h.IsListIter it a i) where
 mem:=by simp
 obj:=fun i h st b hb=>by
  have e:b=it:=by simpa using hb
  subst e
  obtain ⟨o,e,c,d⟩:=st
  exact ⟨o,e,fun v z=>by rw [d] at z;cases z⟩
 keep:=fun i h h' st k=>st.at fun o e=>k it (by simp) o e
 item:=by
  intro X hP hw hK hc i pins s σ H E I hf st hg
  subst hP hw hK
  obtain ⟨xs,x,hq,hx⟩:=hg
  obtain ⟨its,rv,p,hz⟩:=I.list hq
  obtain ⟨u,hu,ru⟩:=rv.get hx
  obtain ⟨f0,f1,f2,f3,f4,f5⟩:=hf it (by simp)
  refine wpAny_pyNext_list_item st p.isList (x:=u) (by simpa using hu) fun h' st' sb=>?_
  have I1:Inv X pins σ H { s with heap:=h' }:=I.turned (t':=s.toks) (fun b o hb e=>(sb.2 b hb).trans e) f0 f1 f3 f4 f5
  obtain ⟨o,e,c,d⟩:=id st'
  exact ⟨u,rfl,Yf (s:={ s with heap:=h' }) e c d (by decide) ⟨x,H,I1,ru,⟨rfl,fun ys hy=>by rw [I.list_inj hy hq];exact hx⟩,st',fun b hb=>(hf b hb).1⟩⟩
 done:=by
  intro X hP hw hK hc i pins s σ H E I hf st hg
  subst hP hw hK
  obtain ⟨xs,hq,hx⟩:=hg
  obtain ⟨its,rv,p,hz⟩:=I.list hq
  obtain ⟨f0,f1,f2,f3,f4,f5⟩:=hf it (by simp)
  have hl:=rv.length
  exact wpAny_pyNext_list_end (I.ok.hd hc) st p.isList (by simp;omega) fun h' eb=>⟨rfl,I.turned (t':=s.toks) (fun b o hb e=>eb b o hb e) f0 f1 f3 f4 f5⟩
 self:=fun _ _ _ _ _ st h=>wpAny_pyIter_listiter st h
theorem qba {P:Program} {w:World} {K:W.Frag} {tg:Expr} (a it:Addr):Turn P w K tg (Itt K a) [it] it (fun i h=>h.IsTupleIter it a i) where
 mem:=by simp
 obj:=fun i h st b hb=>by
  have e:b=it:=by simpa using hb
  subst e
  obtain ⟨o,e,c,d⟩:=st
  exact ⟨o,e,fun v z=>by rw [d] at z;cases z⟩
 keep:=fun i h h' st k=>st.at fun o e=>k it (by simp) o e
 item:=by
  intro X hP hw hK hc i pins s σ H E I hf st hg
  subst hP hw hK
  obtain ⟨xs,x,hq,hx⟩:=hg
  obtain ⟨its,rv,p,hz⟩:=I.tuple hq
  obtain ⟨u,hu,ru⟩:=rv.get hx
  obtain ⟨f0,f1,f2,f3,f4,f5⟩:=hf it (by simp)
  refine wpAny_pyNext_tuple_item st (show s.heap.IsTuple a its.toArray from p) (x:=u) (by simpa using hu) fun h' st' sb=>?_
  have I1:Inv X pins σ H { s with heap:=h' }:=I.turned (t':=s.toks) (fun b o hb e=>(sb.2 b hb).trans e) f0 f1 f3 f4 f5
  obtain ⟨o,e,c,d⟩:=id st'
  exact ⟨u,rfl,Yf (s:={ s with heap:=h' }) e c d (by decide) ⟨x,H,I1,ru,⟨rfl,fun ys hy=>by rw [I.tuple_inj hy hq];exact hx⟩,st',fun b hb=>(hf b hb).1⟩⟩
 done:=by
  intro X hP hw hK hc i pins s σ H E I hf st hg
  subst hP hw hK
  obtain ⟨xs,hq,hx⟩:=hg
  obtain ⟨its,rv,p,hz⟩:=I.tuple hq
  obtain ⟨f0,f1,f2,f3,f4,f5⟩:=hf it (by simp)
  have hl:=rv.length
  exact wpAny_pyNext_tuple_end (I.ok.hd hc) st (show s.heap.IsTuple a its.toArray from p) (by simp;omega) fun h' eb=>⟨rfl,I.turned (t':=s.toks) (fun b o hb e=>eb b o hb e) f0 f1 f3 f4 f5⟩
 self:=fun _ _ _ _ _ st h=>wpAny_pyIter_tupleiter st h
theorem qbb {P:Program} {w:World} {K:W.Frag} {tg:Expr} (it:Addr) (lo:Int) (n:Nat):Turn P w K tg (Itr lo n) [it] it (fun i h=>IsRangeIter h it (lo+(i:Nat) * 1) ((n:Int) - (i:Nat)) 1) where
 mem:=by simp
 obj:=fun i h st b hb=>by
  have e:b=it:=by simpa using hb
  subst e
  exact ⟨_,st,fun v z=>by
   have z':Data.fields _=Data.cell v:=z
   cases z'⟩
 keep:=fun i h h' st k=>k it (by simp) _ st
 item:=by
  intro X hP hw hK hc i pins s σ H E I hf st hg
  subst hP hw hK
  obtain ⟨f0,f1,f2,f3,f4,f5⟩:=hf it (by simp)
  have W:=Walks.range (prog:=X.prog) (w:=X.w) (I.ok.hd hc) it lo 1 n
  refine W.item i s _ _ hg st fun v h' tk hv st' kk=>?_
  obtain ⟨t,rfl⟩:=hv
  have I1:Inv X pins σ H { s with heap:=h',toks:=tk }:=I.turned (fun b o hb e=>kk b o (by simpa using hb) e) f0 f1 f3 f4 f5
  refine ⟨_,rfl,Yf (s:={ s with heap:=h',toks:=tk }) (n:="range_iterator") st' rfl rfl (by decide) ⟨.int (lo+i),H,I1,⟨t,?_⟩,⟨rfl,rfl⟩,st',fun b hb=>(hf b hb).1⟩⟩
  rw [Int.mul_one]
 done:=by
  intro X hP hw hK hc i pins s σ H E I hf st hg
  subst hP hw hK
  obtain ⟨f0,f1,f2,f3,f4,f5⟩:=hf it (by simp)
  exact wpAny_pyNext_range_end (I.ok.hd hc) st (by have:n<=i:=hg;omega) fun h' eb=>⟨rfl,I.turned (t':=s.toks) (fun b o hb e=>eb b o hb e) f0 f1 f3 f4 f5⟩
 self:=fun _ _ _ _ _ st h=>wpAny_pyIter_rangeiter st h
end L2
namespace L2
open PySem PySem.Spec PyProof.Rows
section
variable {X:Cx} {tg:Expr}
def iList (K:W.Frag) (tl:TE):TI:=fun σ H R=>tl σ H fun x H1=>∃ a,x=.ref a/\(∃ xs,SqL K H1 a xs)/\R (Itl K a) H1
def iTup (K:W.Frag) (tl:TE):TI:=fun σ H R=>tl σ H fun x H1=>∃ a,x=.ref a/\(∃ xs,SqT K H1 a xs)/\R (Itt K a) H1
theorem pi_list {l:Expr} {tl:TE} (hl:PE X l tl):PI X tg l (iList X.K tl):=by
 intro pins s σ H R I h
 refine thn (hl pins s σ H _ I h) fun v s1 ⟨x,H1,I1,r1,q1⟩=>?_
 obtain ⟨a,e,⟨xs,hq⟩,q⟩:=q1
 subst e
 cases r1
 obtain ⟨its,rv,p,hz⟩:=I1.list hq
 refine wpAny_pyIter_list p.isList ?_
 refine ⟨s1.heap.objs.size,[s1.heap.objs.size],_,_,H1,rfl,I1.kept (t':=s1.toks) fun b o e=>Heap.get?_push_of_some _ e,qbv a _,⟨_,Heap.get?_push_size _ rfl,rfl,rfl⟩,fun b hb=>?_,q⟩
 have e:b=s1.heap.objs.size:=by simpa using hb
 subst e
 exact I1.fpOk (Nat.le_refl _) (I1.hok.fresh (Nat.le_refl _))
theorem qbw {l:Expr} {tl:TE} (hl:PE X l tl):PI X tg l (iTup X.K tl):=by
 intro pins s σ H R I h
 refine thn (hl pins s σ H _ I h) fun v s1 ⟨x,H1,I1,r1,q1⟩=>?_
 obtain ⟨a,e,⟨xs,hq⟩,q⟩:=q1
 subst e
 cases r1
 obtain ⟨its,rv,p,hz⟩:=I1.tuple hq
 refine wpAny_pyIter_tuple (show s1.heap.IsTuple a its.toArray from p) ?_
 refine ⟨s1.heap.objs.size,[s1.heap.objs.size],_,_,H1,rfl,I1.kept (t':=s1.toks) fun b o e=>Heap.get?_push_of_some _ e,qba a _,⟨_,Heap.get?_push_size _ rfl,rfl,rfl⟩,fun b hb=>?_,q⟩
 have e:b=s1.heap.objs.size:=by simpa using hb
 subst e
 exact I1.fpOk (Nat.le_refl _) (I1.hok.fresh (Nat.le_refl _))
theorem qdq {pins:List (Addr × Obj)} {σ:St} {H:Hp} {s:Shared} {R:It->Hp->Prop} {E:Value->Shared->Prop} {lo hi:Int} {t u v:Tok} {tk:Nat} (I:Inv X pins σ H s) (h1:-(2 ^ 62)<=lo) (h2:lo < 2 ^ 62) (h3:-(2 ^ 62)<=hi) (h4:hi < 2 ^ 62)
  (q:R (Itr lo (hi - lo).toNat) H):wpAny (model X.prog X.w) X.A (pyIter (.ref s.heap.objs.size)) (PIE X pins σ tg R) E { s with heap:=s.heap.push { cls:=.type "range",data:=.fields #[.int lo t,.int hi u,.int 1 v] },toks:=tk }:=by
 refine wpAny_pyIter_range (IsRange.new ..) (small_one h1 h2 h3 h4) ?_
 have I1:Inv X pins σ H { s with heap:=s.heap.push { cls:=.type "range",data:=.fields #[.int lo t,.int hi u,.int 1 v] },toks:=tk }:=I.kept fun b o e=>Heap.get?_push_of_some _ e
 refine ⟨(s.heap.push { cls:=.type "range",data:=.fields #[.int lo t,.int hi u,.int 1 v] }).objs.size,[(s.heap.push { cls:=.type "range",data:=.fields #[.int lo t,.int hi u,.int 1 v] }).objs.size],_,_,H,rfl,
  I1.kept (t':=tk) fun b o e=>Heap.get?_push_of_some _ e,qbb _ lo (hi - lo).toNat,?_,fun b hb=>?_,q⟩
 ·have e1:lo+((0:Nat):Int) * 1=lo:=by simp
  have e2:(((hi - lo).toNat:Nat):Int) - ((0:Nat):Int)=Builtin.Range.rangeSize lo hi 1:=by rw [rangeSize_one];split <;> omega
  show IsRangeIter _ _ (lo+((0:Nat):Int) * 1) ((((hi - lo).toNat:Nat):Int) - ((0:Nat):Int)) 1
  rw [e1,e2]
  exact Heap.get?_push_size _ rfl
 ·have e:b=(s.heap.push { cls:=.type "range",data:=.fields #[.int lo t,.int hi u,.int 1 v] }).objs.size:=by simpa using hb
  subst e
  exact I1.fpOk (Nat.le_refl _) (I1.hok.fresh (Nat.le_refl _))
def iRng1 (ta:TA):TI:=fun σ H R=>ta σ H fun vs H1=>∃ j:Int,vs=[.int j]/\-(2 ^ 62)<=j/\j < 2 ^ 62/\R (Itr 0 j.toNat) H1
theorem jx {a:Expr} {ta:TA} {p pos:Pos} (hg:Gl X "range") (hm:X.mg "range" = none) (ha:PA X [a] ta) (hs:starEach [a] X.env=[(false,eval a X.env)]:=by rfl):PI X tg (.Call (.Name "range" p) [a] [] pos) (iRng1 ta):=by
 intro pins s σ H R I h
 refine Call_ (ld_blt I hg hm boot_range (PyProof.Rows.callWith_type1 (thn (ha pos pins s σ H _ I h) fun us s1 ⟨vs,H1,I1,r1,q1⟩=>?_) hs rfl))
 obtain ⟨j,e,q1,q2,q⟩:=q1
 subst e
 cases r1 with
 | cons r rr =>
  cases rr
  obtain ⟨t,rfl⟩:=r
  exact call_range_1 (qdq I1 (by omega) (by omega) q1 q2 (by simpa using q))
def tFor (wi:TI) (g:TG) (tb:TS):TS:=fun D σ H=>wi σ H fun J H1=>∃ W:Nat->Nat->St->Hp->Prop,(∃ m,W 0 m σ H1)/\∀ i m σ H,W i m σ H ->
 (J.stop i H/\D.nx σ H)\/(J.go i H/\∃ N:St->Hp->Prop,(∀ σ' H',N σ' H'->∃ m',m' < m/\W (i+1) m' σ' H')/\∀ x H',J.yld i H x H'->g x σ H' fun σ2 H2=>tb { D with nx:=N,ct:=N,bk:=D.nx } σ2 H2)
def pinsAt (fp:List Addr) (h:Heap):List (Addr × Obj):=fp.filterMap fun b=>(h.get? b).map fun o=>(b,o)
theorem j7 {fp:List Addr} {h:Heap} {b:Addr} {o:Obj} (hb:b∈fp) (e:h.get? b=some o):(b,o)∈pinsAt fp h:=List.mem_filterMap.mpr ⟨b,hb,by rw [e];rfl⟩
theorem Jj {fp:List Addr} {h:Heap} {p:Addr × Obj} (hp:p∈pinsAt fp h):p.1∈fp/\h.get? p.1=some p.2:=by
 obtain ⟨b,hb,e⟩:=List.mem_filterMap.mp hp
 cases q:h.get? b with
 | none=>rw [q] at e;cases e
 | some o =>
  rw [q] at e
  have e':(b,o)=p:=Option.some.inj e
  subst e'
  exact ⟨hb,q⟩
theorem Inv.pinned {pins:List (Addr × Obj)} {σ:St} {H:Hp} {s:Shared} {fp:List Addr} (I:Inv X pins σ H s) (hf:∀ b∈fp,FpOk X pins H b) (ho:∀ b∈fp,∃ o,s.heap.get? b=some o/\∀ v,o.data≠.cell v):Inv X (pins++pinsAt fp s.heap) σ H s :=
 I.pins_of fun p hp=>(List.mem_append.mp hp).elim (fun z=>I.pin p (List.mem_append_right _ z)) fun z=>by
  obtain ⟨hb,e⟩:=Jj z
  obtain ⟨f0,f1,f2,_⟩:=hf p.1 hb
  obtain ⟨o,e',d⟩:=ho p.1 hb
  rw [e] at e';cases e'
  exact ⟨e,f0,f1,f2,d⟩
theorem Inv.unpinned {pins pl:List (Addr × Obj)} {σ:St} {H:Hp} {s:Shared} (I:Inv X (pins++pl) σ H s):Inv X pins σ H s:=I.pins_of fun p hp=>I.pin p (List.mem_append_right _ (List.mem_append_left _ hp))
theorem jy {iter:Expr} {body:List Stmt} {wi:TI} {g:TG} {tb:TS} {pos:Pos} (hp:PassesOwn (model X.prog X.w) X.A X.env X.xe) (hc:X.calm=true) (hi:PI X tg iter wi) (hg:PG X tg g) (hb:PSs X body tb)
  (hs:∀ x,foldedSetIterable iter X.env x=pure x:=by intro _;rfl):PS X (.For tg iter body [] pos) (tFor wi g tb):=by
 intro pins s σ H D I h
 refine wpAny_For (thn (hi pins s σ H _ I h) fun v s1 h1=>thn h1 fun itv s2 h2=>?_) hs
 obtain ⟨it,fp,tn,J,H2,e,I2,T,st2,f2,W,⟨m0,w0⟩,turn⟩:=h2
 subst e
 -- what stays true of the iterator's objects through the loop
 have stat:∀ {H':Hp},(∀ b∈fp,H' b=none)->∀ b∈fp,FpOk X pins H' b:=fun hn b hb=>⟨hn b hb,(f2 b hb).2⟩
 refine codeAny_forLoop_any (fun n s'=>∃ i σ' H',Inv X pins σ' H' s'/\tn i s'.heap/\(∀ b∈fp,H' b=none)/\W i n σ' H') ?_ m0 ⟨0,σ,H2,I2,st2,fun b hb=>(f2 b hb).1,w0⟩
 rintro n s3 ⟨i,σ3,H3,I3,st3,fr3,w3⟩
 rcases turn i n σ3 H3 w3 with ⟨stop,qn⟩ | ⟨go,N,hN,step⟩
 ·refine wpAny_passesOwn hp (thn (T.done X rfl rfl rfl hc i pins s3 σ3 H3 X.xe I3 (stat fr3) st3 stop) fun r s4 ⟨hr,I4⟩=>?_)
  subst hr
  exact wpAny_execs_nil ⟨σ3,H3,I4,qn⟩
 ·refine wpAny_passesOwn hp (thn (T.item X rfl rfl rfl hc i pins s3 σ3 H3 X.xe I3 (stat fr3) st3 go) fun r s4 ⟨u,hr,h4⟩=>?_)
  subst hr
  refine wpAny_passesOwn hp (thn h4 fun _ s5 ⟨x,H5,I5,r5,y5,st5,fr5⟩=>?_)
  have I5':=I5.pinned (stat fr5) (T.obj _ _ st5)
  refine wpAny_passesOwn hp (thn (hg _ s5 σ3 H5 x u _ I5' r5 (step x H5 y5)) fun _ s6 ⟨σ6,H6,I6,q6⟩=>?_)
  refine wpAny_passesOwn hp (thn (hb _ s6 σ6 H6 _ I6 q6) fun f s7 q7=>?_)
  have again:∀ {σ7:St} {H7:Hp},Inv X (pins++pinsAt fp s5.heap) σ7 H7 s7->N σ7 H7->∃ m,m < n/\∃ i σ' H',Inv X pins σ' H' s7/\tn i s7.heap/\(∀ b∈fp,H' b=none)/\W i m σ' H':=fun {σ7 H7} I7 n7=>by
   obtain ⟨m',hm,w7⟩:=hN σ7 H7 n7
   refine ⟨m',hm,i+1,σ7,H7,I7.unpinned,T.keep _ _ _ st5 fun b hb o e=>(I7.pin (b,o) (List.mem_append_right _ (List.mem_append_right _ (j7 hb e)))).1,fun b hb=>?_,w7⟩
   obtain ⟨o,e,d⟩:=T.obj _ _ st5 b hb
   exact (I7.pin (b,o) (List.mem_append_right _ (List.mem_append_right _ (j7 hb e)))).2.1
  cases f with
  | next=>obtain ⟨σ7,H7,I7,n7⟩:=q7;exact again I7 n7
  | cont=>obtain ⟨σ7,H7,I7,n7⟩:=q7;exact again I7 n7
  | brk=>obtain ⟨σ7,H7,I7,q7⟩:=q7;exact ⟨σ7,H7,I7.unpinned,q7⟩
  | ret v=>obtain ⟨x7,σ7,H7,I7,r7,q7⟩:=q7;exact ⟨x7,σ7,H7,I7.unpinned,r7,q7⟩
end
end L2
namespace L2
open PySem PySem.Spec PyProof.Rows
abbrev R2:=V->V->Hp->VK->Prop
def OpR (X:Cx) (f:Value->Value->Sem Value) (r:R2):Prop :=
 ∀ (pins:List (Addr × Obj)) (s:Shared) (σ:St) (H:Hp) (x y:V) (v u:Value) (Q:VK),Inv X pins σ H s->RelV x v->RelV y u->r x y H Q ->
  wpAny (model X.prog X.w) X.A (f v u) (EP X pins σ Q) X.xe s
def UnR (X:Cx) (f:Value->Sem Value) (r:V->Hp->VK->Prop):Prop :=
 ∀ (pins:List (Addr × Obj)) (s:Shared) (σ:St) (H:Hp) (x:V) (v:Value) (Q:VK),Inv X pins σ H s->RelV x v->r x H Q ->
  wpAny (model X.prog X.w) X.A (f v) (EP X pins σ Q) X.xe s
def CallR (X:Cx) (f:Value) (r:List V->Hp->VK->Prop):Prop :=
 ∀ (pins:List (Addr × Obj)) (s:Shared) (σ:St) (H:Hp) (xs:List V) (us:List Value) (Q:VK),Inv X pins σ H s->Vals xs us->r xs H Q ->
  wpAny (model X.prog X.w) X.A (call f us) (EP X pins σ Q) X.xe s
def TruR (X:Cx) (r:V->Hp->(Bool->Hp->Prop)->Prop):Prop :=
 ∀ (pins:List (Addr × Obj)) (s:Shared) (σ:St) (H:Hp) (x:V) (v:Value) (Q:Bool->Hp->Prop),Inv X pins σ H s->RelV x v->r x H Q ->
  wpAny (model X.prog X.w) X.A (truthy v) (TP X pins σ Q) X.xe s
def tOp (r:R2) (ta tb:TE):TE:=fun σ H Q=>ta σ H fun x H1=>tb σ H1 fun y H2=>r x y H2 Q
def tUn (r:V->Hp->VK->Prop) (ta:TE):TE:=fun σ H Q=>ta σ H fun x H1=>r x H1 Q
def rI (C:Int->Int->Prop) (g:Int->Int->V):R2:=fun x y H Q=>∃ i j,x=.int i/\y=.int j/\C i j/\Q (g i j) H
def rI0 (g:Int->Int->V):R2:=fun x y H Q=>∃ i j,x=.int i/\y=.int j/\Q (g i j) H
def rU (g:Int->V):V->Hp->VK->Prop:=fun x H Q=>∃ i,x=.int i/\Q (g i) H
section
variable {X:Cx} {a b c:Expr} {ta tb tc:TE} {pos:Pos}
theorem binT (ha:PE X a ta) (hb:PE X b tb) {pins:List (Addr × Obj)} {s:Shared} {σ:St} {H:Hp} {R:V->V->Hp->Prop} (I:Inv X pins σ H s)
  (h:ta σ H fun x H1=>tb σ H1 fun y H2=>R x y H2) {Q:Value->Shared->Prop} {f:Value->Value->Sem Value}
  (hf:∀ v u s2 x y H2,Inv X pins σ H2 s2->RelV x v->RelV y u->R x y H2->wpAny (model X.prog X.w) X.A (f v u) Q X.xe s2) :
  wpAny (model X.prog X.w) X.A (eval a X.env) (fun v s₁=>wpAny (model X.prog X.w) X.A (eval b X.env) (fun u s₂=>wpAny (model X.prog X.w) X.A (f v u) Q X.xe s₂) X.xe s₁) X.xe s:=by
 refine thn (ha pins s σ H _ I h) fun v s1 ⟨x,H1,I1,r1,q1⟩=>?_
 refine thn (hb pins s1 σ H1 _ I1 q1) fun u s2 ⟨y,H2,I2,r2,q2⟩=>?_
 exact hf v u s2 x y H2 I2 r1 r2 q2
theorem je {op:Operator} {r:R2} (ho:OpR X (binaryOp op) r) (ha:PE X a ta) (hb:PE X b tb):PE X (.BinOp a op b pos) (tOp r ta tb):=by
 intro pins s σ H Q I h
 exact wpAny_BinOp (binT ha hb I h fun v u s2 x y H2 I2 rx ry q=>ho pins s2 σ H2 x y v u Q I2 rx ry q)
theorem Yg {op:UnaryOp} {r:V->Hp->VK->Prop} (ho:UnR X (unaryOp op) r) (ha:PE X a ta):PE X (.UnaryOp op a pos) (tUn r ta):=by
 intro pins s σ H Q I h
 exact UnaryOp_ (thn (ha pins s σ H _ I h) fun v s1 ⟨x,H1,I1,r1,q1⟩=>ho pins s1 σ H1 x v Q I1 r1 q1)
theorem opI {f:Value->Value->Sem Value} {C:Int->Int->Prop} {g:Int->Int->Int}
  (rule:∀ (i j:Int) (t u:Tok) (s:Shared) (Q:Value->Shared->Prop) (E:Value->Shared->Prop),C i j->Q (.int (g i j) s.toks) { s with toks:=s.toks+1 }->wpAny (model X.prog X.w) X.A (f (.int i t) (.int j u)) Q E s) :
  OpR X f (rI C fun i j=>.int (g i j)):=by
 intro pins s σ H x y v u Q I rx ry h
 obtain ⟨i,j,rfl,rfl,hc,q⟩:=h
 obtain ⟨t,rfl⟩:=rx
 obtain ⟨t',rfl⟩:=ry
 exact rule i j t t' s _ _ hc ⟨.int (g i j),H,I.tok _,⟨_,rfl⟩,q⟩
theorem opI0 {f:Value->Value->Sem Value} {g:Int->Int->Int}
  (rule:∀ (i j:Int) (t u:Tok) (s:Shared) (Q:Value->Shared->Prop) (E:Value->Shared->Prop),Q (.int (g i j) s.toks) { s with toks:=s.toks+1 }->wpAny (model X.prog X.w) X.A (f (.int i t) (.int j u)) Q E s) :
  OpR X f (rI0 fun i j=>.int (g i j)):=by
 intro pins s σ H x y v u Q I rx ry h
 obtain ⟨i,j,rfl,rfl,q⟩:=h
 obtain ⟨t,rfl⟩:=rx
 obtain ⟨t',rfl⟩:=ry
 exact rule i j t t' s _ _ ⟨.int (g i j),H,I.tok _,⟨_,rfl⟩,q⟩
theorem opB0 {f:Value->Value->Sem Value} {g:Int->Int->Bool}
  (rule:∀ (i j:Int) (t u:Tok) (s:Shared) (Q:Value->Shared->Prop) (E:Value->Shared->Prop),Q (.bool (g i j)) s->wpAny (model X.prog X.w) X.A (f (.int i t) (.int j u)) Q E s) :
  OpR X f (rI0 fun i j=>.bl (g i j)):=by
 intro pins s σ H x y v u Q I rx ry h
 obtain ⟨i,j,rfl,rfl,q⟩:=h
 obtain ⟨t,rfl⟩:=rx
 obtain ⟨t',rfl⟩:=ry
 exact rule i j t t' s _ _ ⟨.bl (g i j),H,I,rfl,q⟩
def CDiv (i j:Int):Prop:=0 < j/\j < 1073741824
def CPow (i j:Int):Prop:=0<=j/\j<=1000000/\i.natAbs < 2 ^ 64
def CMul (i j:Int):Prop:=(-(2 ^ 64) < i/\i < 2 ^ 64)\/(-(2 ^ 64) < j/\j < 2 ^ 64)
theorem CMul.ok {i j:Int} (h:CMul i j):IntMulOk i j:=by
 rcases h with ⟨h1,h2⟩ | ⟨h1,h2⟩
 ·exact .of_left (intBits_le_64 h1 h2)
 ·exact .of_right (intBits_le_64 h1 h2)
theorem vw:OpR X (binaryOp .Add) (rI0 fun i j=>.int (i+j)):=opI0 fun _ _ _ _ _ _ _ q=>add_int q
theorem Y8:OpR X (binaryOp .Sub) (rI0 fun i j=>.int (i - j)):=opI0 fun _ _ _ _ _ _ _ q=>sub_int q
theorem Vm:OpR X (binaryOp .Mult) (rI CMul fun i j=>.int (i * j)):=opI fun _ _ _ _ _ _ _ hc q=>mul_int q hc.ok
theorem qf0:OpR X (binaryOp .FloorDiv) (rI CDiv fun i j=>.int (i / j)):=opI fun i j _ _ _ _ _ hc q=>by
 have h1:(0:Int) < j:=hc.1
 have h2:j < 1073741824:=hc.2
 exact floordiv_int (by omega) (by rw [Int.fdiv_eq_ediv_of_nonneg i (by omega)];exact q) (.inl (PyProof.noPylong_small (by omega)))
theorem yt:OpR X (binaryOp .Mod) (rI (fun _ j=>0 < j) fun i j=>.int (i % j)):=opI fun i j _ _ _ _ _ hc q=>by
 have h1:(0:Int) < j:=hc
 exact mod_int' (by omega) (by rw [Int.fmod_eq_emod_of_nonneg i (by omega)];exact q)
theorem Vn:OpR X (binaryOp .Pow) (rI CPow fun i j=>.int (i ^ j.toNat)):=opI fun _ _ _ _ _ _ _ hc q=>pow_int_small hc.1 hc.2.1 hc.2.2 q
theorem unI {f:Value->Sem Value} {g:Int->Int}
  (rule:∀ (i:Int) (t:Tok) (s:Shared) (Q:Value->Shared->Prop) (E:Value->Shared->Prop),Q (.int (g i) s.toks) { s with toks:=s.toks+1 }->wpAny (model X.prog X.w) X.A (f (.int i t)) Q E s) :
  UnR X f (rU fun i=>.int (g i)):=by
 intro pins s σ H x v Q I rx h
 obtain ⟨i,rfl,q⟩:=h
 obtain ⟨t,rfl⟩:=rx
 exact rule i t s _ _ ⟨.int (g i),H,I.tok _,⟨_,rfl⟩,q⟩
theorem Jk:UnR X (unaryOp .USub) (rU fun i=>.int (-i)):=unI fun _ _ _ _ _ q=>neg_int q
end
def scal:V->V->Bool
 | .non,.non=>true | .non,.int _=>true | .int _,.non=>true | .non,.bl _=>true | .bl _,.non=>true | .non,.str _=>true | .str _,.non=>true
 | .int _,.int _=>true | .bl _,.bl _=>true | .str _,.str _=>true | .byt _,.byt _=>true
 | .int _,.str _=>true | .str _,.int _=>true | .bl _,.str _=>true | .str _,.bl _=>true
 | _,_=>false
def rEq:R2:=fun x y H Q=>scal x y=true/\Q (.bl (decide (x=y))) H
def rNe:R2:=fun x y H Q=>scal x y=true/\Q (.bl (!decide (x=y))) H
theorem qbx {i j:Int}:decide (V.int i=V.int j)=(i == j):=by
 rw [Bool.eq_iff_iff]
 simp
theorem qfg {i j:Bool}:decide (V.bl i=V.bl j)=(i == j):=by
 rw [Bool.eq_iff_iff]
 simp
theorem qby {i j:Str}:decide (V.str i=V.str j)=(i == j):=by
 rw [Bool.eq_iff_iff]
 simp
theorem qbz {i j:Array UInt8}:decide (V.byt i=V.byt j)=(i.toList == j.toList):=by
 rw [Bool.eq_iff_iff]
 cases i
 cases j
 simp
section
variable {X:Cx} {a b c:Expr} {ta tb tc:TE} {pos:Pos}
theorem ja {pins:List (Addr × Obj)} {σ:St} {H:Hp} {s:Shared} {Q:VK} {k k':Bool} (I:Inv X pins σ H s) (q:Q (.bl k) H) (e:k=k'):EP X pins σ Q (.bool k') s:=by
 subst e
 exact ⟨.bl k,H,I,rfl,q⟩
theorem qbc:OpR X (compareOp .Eq) rEq:=by
 intro pins s σ H x y v u Q I rx ry h
 obtain ⟨hs,q⟩:=h
 cases x with
 | non =>
  cases rx
  cases y with
  | non=>cases ry;exact PySem.EqNone.eq_none_none (ja I q (by simp))
  | bl j=>cases ry;exact PySem.EqNone.eq_none_bool (ja I q (by simp))
  | int j=>obtain ⟨t',rfl⟩:=ry;exact PySem.EqNone.eq_none_int (ja I q (by simp))
  | str j=>obtain ⟨t',rfl⟩:=ry;exact PySem.EqNone.eq_none_str (ja I q (by simp))
  | _=>exact absurd (show false=true from hs) Bool.false_ne_true
 | bl i =>
  cases rx
  cases y with
  | non=>cases ry;exact PySem.EqNone.eq_bool_none (ja I q (by simp))
  | bl j=>cases ry;exact eq_bool (ja I q qfg)
  | str j=>obtain ⟨t',rfl⟩:=ry;exact PySem.EqMixed.eq_bool_str (ja I q (by simp))
  | _=>exact absurd (show false=true from hs) Bool.false_ne_true
 | int i =>
  obtain ⟨t,rfl⟩:=rx
  cases y with
  | non=>cases ry;exact PySem.EqNone.eq_int_none (ja I q (by simp))
  | int j=>obtain ⟨t',rfl⟩:=ry;exact eq_int (ja I q qbx)
  | str j=>obtain ⟨t',rfl⟩:=ry;exact PySem.EqMixed.eq_int_str (ja I q (by simp))
  | _=>exact absurd (show false=true from hs) Bool.false_ne_true
 | str i =>
  obtain ⟨t,rfl⟩:=rx
  cases y with
  | non=>cases ry;exact PySem.EqNone.eq_str_none (ja I q (by simp))
  | bl j=>cases ry;exact PySem.EqMixed.eq_str_bool (ja I q (by simp))
  | int j=>obtain ⟨t',rfl⟩:=ry;exact PySem.EqMixed.eq_str_int (ja I q (by simp))
  | str j=>obtain ⟨t',rfl⟩:=ry;exact eq_str (ja I q qby)
  | _=>exact absurd (show false=true from hs) Bool.false_ne_true
 | byt i =>
  obtain ⟨t,rfl⟩:=rx
  cases y with
  | byt j=>obtain ⟨t',rfl⟩:=ry;exact W.eq_bytes (ja I q qbz)
  | _=>exact absurd (show false=true from hs) Bool.false_ne_true
 | _=>cases y <;> exact absurd (show false=true from hs) Bool.false_ne_true
theorem Yh:OpR X (compareOp .NotEq) rNe:=by
 intro pins s σ H x y v u Q I rx ry h
 obtain ⟨hs,q⟩:=h
 cases x with
 | non =>
  cases rx
  cases y with
  | non=>cases ry;exact PySem.EqNone.ne_none_none (ja I q (by simp))
  | bl j=>cases ry;exact PySem.EqNone.ne_none_bool (ja I q (by simp))
  | int j=>obtain ⟨t',rfl⟩:=ry;exact PySem.EqNone.ne_none_int (ja I q (by simp))
  | str j=>obtain ⟨t',rfl⟩:=ry;exact PySem.EqNone.ne_none_str (ja I q (by simp))
  | _=>exact absurd (show false=true from hs) Bool.false_ne_true
 | bl i =>
  cases rx
  cases y with
  | non=>cases ry;exact PySem.EqNone.ne_bool_none (ja I q (by simp))
  | bl j=>cases ry;exact ne_bool (ja I q (congrArg not qfg))
  | str j=>obtain ⟨t',rfl⟩:=ry;exact PySem.EqMixed.ne_bool_str (ja I q (by simp))
  | _=>exact absurd (show false=true from hs) Bool.false_ne_true
 | int i =>
  obtain ⟨t,rfl⟩:=rx
  cases y with
  | non=>cases ry;exact PySem.EqNone.ne_int_none (ja I q (by simp))
  | int j=>obtain ⟨t',rfl⟩:=ry;exact ne_int (ja I q (congrArg not qbx))
  | str j=>obtain ⟨t',rfl⟩:=ry;exact PySem.EqMixed.ne_int_str (ja I q (by simp))
  | _=>exact absurd (show false=true from hs) Bool.false_ne_true
 | str i =>
  obtain ⟨t,rfl⟩:=rx
  cases y with
  | non=>cases ry;exact PySem.EqNone.ne_str_none (ja I q (by simp))
  | bl j=>cases ry;exact PySem.EqMixed.ne_str_bool (ja I q (by simp))
  | int j=>obtain ⟨t',rfl⟩:=ry;exact PySem.EqMixed.ne_str_int (ja I q (by simp))
  | str j=>obtain ⟨t',rfl⟩:=ry;exact ne_str (ja I q (congrArg not qby))
  | _=>exact absurd (show false=true from hs) Bool.false_ne_true
 | byt i =>
  obtain ⟨t,rfl⟩:=rx
  cases y with
  | byt j=>obtain ⟨t',rfl⟩:=ry;exact W.ne_bytes (ja I q (congrArg not qbz))
  | _=>exact absurd (show false=true from hs) Bool.false_ne_true
 | _=>cases y <;> exact absurd (show false=true from hs) Bool.false_ne_true
theorem qib:OpR X (compareOp .Lt) (rI0 fun i j=>.bl (decide (i < j))):=opB0 fun _ _ _ _ _ _ _ q=>lt_int q
theorem qf1:OpR X (compareOp .LtE) (rI0 fun i j=>.bl (decide (i<=j))):=opB0 fun _ _ _ _ _ _ _ q=>le_int q
theorem qb0:OpR X (compareOp .Gt) (rI0 fun i j=>.bl (decide (j < i))):=opB0 fun _ _ _ _ _ _ _ q=>gt_int q
theorem op_ge:OpR X (compareOp .GtE) (rI0 fun i j=>.bl (decide (j<=i))):=opB0 fun _ _ _ _ _ _ _ q=>ge_int q
theorem qic:OpR X (compareOp .Is) (fun x y H Q=>y=.non/\Q (.bl (decide (x=.non))) H):=by
 intro pins s σ H x y v u Q I rx ry h
 obtain ⟨rfl,q⟩:=h
 cases ry
 refine is_none_gen (ja I q ?_)
 cases x <;> first
  | (cases rx;rfl)
  | (obtain ⟨t,rfl⟩:=rx;rfl)
theorem OpR.or {f:Value->Value->Sem Value} {r r':R2} (h:OpR X f r) (h':OpR X f r'):OpR X f (fun x y H Q=>r x y H Q\/r' x y H Q):=by
 intro pins s σ H x y v u Q I rx ry q
 rcases q with q | q
 ·exact h pins s σ H x y v u Q I rx ry q
 ·exact h' pins s σ H x y v u Q I rx ry q
theorem nomark (b:Expr) {op:CmpOp} (h:op≠.In:=by decide) (h2:op≠.NotIn:=by decide):behindInMarks op b=false:=by
 have e1:(op == CmpOp.In)=false:=by cases op <;> first | rfl | exact absurd rfl h
 have e2:(op == CmpOp.NotIn)=false:=by cases op <;> first | rfl | exact absurd rfl h2
 cases b <;> simp [behindInMarks,e1,e2]
theorem yj {op:CmpOp} {r:R2} (ho:OpR X (compareOp op) r) (ha:PE X a ta) (hb:PE X b tb) (hm:behindInMarks op b=false):PE X (.Compare a [op] [b] pos) (tOp r ta tb):=by
 intro pins s σ H Q I h
 exact wpAny_Compare1 (binT ha hb I h fun v u s2 x y H2 I2 rx ry q=>ho pins s2 σ H2 x y v u Q I2 rx ry q) hm
def tTest (t:TE):TT:=fun σ H Q=>t σ H fun x H'=>∃ k,x=.bl k/\Q k H'
theorem qz {op:CmpOp} {r:R2} (ho:OpR X (compareOp op) r) (ha:PE X a ta) (hb:PE X b tb) (hm:behindInMarks op b=false):PT X (.Compare a [op] [b] pos) (tTest (tOp r ta tb)):=by
 intro pins s σ H Q I h
 refine wpAny_isTrue_Compare1 (thn (ha pins s σ H _ I h) fun v s1 ⟨x,H1,I1,r1,q1⟩=>thn (hb pins s1 σ H1 _ I1 q1) fun u s2 ⟨y,H2,I2,r2,q2⟩ =>
  thn (ho pins s2 σ H2 x y v u _ I2 r1 r2 q2) fun c s3 ⟨z,H3,I3,r3,k,e,q3⟩=>?_) hm
 subst e
 cases r3
 exact wpAny_truthy_bool ⟨H3,I3,q3⟩
def tChain (r r':R2) (ta tb tc:TE):TE:=fun σ H Q=>ta σ H fun x H1=>tb σ H1 fun y H2=>r x y H2 fun z H3=>∃ k,z=.bl k /\
 (if k=true then tc σ H3 fun w' H4=>r' y w' H4 Q else Q (.bl false) H3)
theorem qdr {op op':CmpOp} {r r':R2} (ho:OpR X (compareOp op) r) (ho':OpR X (compareOp op') r') (ha:PE X a ta) (hb:PE X b tb) (hc:PE X c tc)
  (hm:lastMarks [op,op'] [b,c]=false:=by with_unfolding_all rfl):PE X (.Compare a [op,op'] [b,c] pos) (tChain r r' ta tb tc):=by
 intro pins s σ H Q I h
 refine Compare_chain (thn (ha pins s σ H _ I h) fun v s1 ⟨x,H1,I1,r1,q1⟩=>chain_link (thn (hb pins s1 σ H1 _ I1 q1) fun u s2 ⟨y,H2,I2,r2,q2⟩ =>
  thn (ho pins s2 σ H2 x y v u _ I2 r1 r2 q2) fun d s3 ⟨z,H3,I3,r3,k,e,q3⟩=>?_)) hm
 subst e
 cases r3
 refine wpAny_truthy_bool ?_
 cases k with
 | false=>exact ite_ff ⟨.bl false,H3,I3,rfl,q3⟩
 | true=>exact ite_tt (chain_last (thn (hc pins s3 σ H3 _ I3 q3) fun w' s4 ⟨z',H4,I4,r4,q4⟩=>ho' pins s4 σ H4 y z' u w' Q I4 r2 r4 q4))
def TruV (K:W.Frag) (x:V) (H:Hp) (k:Bool):Prop :=
 match x with
 | .non=>k=false
 | .bl b=>k=b
 | .int i=>k=(i != 0)
 | .str y=>y.length<=sizeLine/\k=((y.length:Int) != 0)
 | .byt y=>y.size<=sizeLine/\k=((y.size:Int) != 0)
 | .ref p=>(∃ xs,SqL K H p xs/\k = !xs.isEmpty)\/(∃ xs,SqT K H p xs/\k = !xs.isEmpty)\/∃ kvs,H p=some (.dK kvs)/\k = !kvs.isEmpty
 | _=>False
theorem qbd {κ:Type} {kvs:List (κ × V)} {vs:List (κ × Value)} (r:KV kvs vs):(!vs.isEmpty) = !kvs.isEmpty:=by
 cases r <;> rfl
theorem Vo {xs:List V} {its:List Value} (r:Vals xs its):(!its.toArray.isEmpty) = !xs.isEmpty:=by
 cases r <;> simp
theorem line63:(sizeLine:Nat) < 2 ^ 63:=by rw [sizeLine_eq];decide
theorem qid:TruR X (fun x H Q=>∃ k,TruV X.K x H k/\Q k H):=by
 intro pins s σ H x v Q I rx h
 obtain ⟨k,e,q⟩:=h
 have hl:=line63
 have hs:sizeLine=16777216:=sizeLine_eq
 cases x with
 | non =>
  cases rx
  have e':k=false:=e
  subst e'
  exact truthy_none ⟨H,I,q⟩
 | bl b =>
  cases rx
  have e':k=b:=e
  subst e'
  exact wpAny_truthy_bool ⟨H,I,q⟩
 | int i =>
  obtain ⟨t,rfl⟩:=rx
  have e':k=(i != 0):=e
  subst e'
  exact PySem.P.truthy_int ⟨H,I,q⟩
 | str y =>
  obtain ⟨t,rfl⟩:=rx
  obtain ⟨hy,e'⟩:y.length<=sizeLine/\k=((y.length:Int) != 0):=e
  subst e'
  exact PySem.P.truthy_str (by omega) ⟨H,I.tok _,q⟩
 | byt y =>
  obtain ⟨t,rfl⟩:=rx
  obtain ⟨hy,e'⟩:y.size<=sizeLine/\k=((y.size:Int) != 0):=e
  subst e'
  exact W.truthy_bytes (by omega) ⟨H,I.tok _,q⟩
 | ref p =>
  cases rx
  have e':(∃ xs,SqL X.K H p xs/\k = !xs.isEmpty)\/(∃ xs,SqT X.K H p xs/\k = !xs.isEmpty)\/∃ kvs,H p=some (.dK kvs)/\k = !kvs.isEmpty:=e
  rcases e' with ⟨xs,hx,e'⟩ | ⟨xs,hx,e'⟩ | ⟨kvs,hx,e'⟩
  ·subst e'
   obtain ⟨its,r,pl,hz⟩:=I.list hx
   have hlen:=r.length
   exact wpAny_truthy_list pl.isList (by simp only [List.size_toArray];omega) ⟨H,I.tok _,by rw [Vo r];exact q⟩
  ·subst e'
   obtain ⟨its,r,pl,hz⟩:=I.tuple hx
   have hlen:=r.length
   exact truthy_tuple pl (by simp only [List.size_toArray];omega) ⟨H,I.tok _,by rw [Vo r];exact q⟩
  ·subst e'
   obtain ⟨hz,hS,vs,r,m⟩:kvs.length<=sizeLine/\(p == sysModules)=false/\∃ vs,KV kvs vs/\s.heap.DictOf (mixKind X.prog X.w) p vs:=I.hok p _ hx
   have hlen:kvs.length=vs.length:=Paired.length r
   exact wpAny_truthy_dict hS m (by omega) ⟨H,I.tok _,by rw [qbd r];exact q⟩
 | _=>exact (show False from e).elim
theorem qds (ha:PE X a ta) (he:∀ whole,isTrue a X.env whole=(do let v <- whole;standAt a.pos;holding [v] (truthy v))) :
  PT X a (fun σ H Q=>ta σ H fun x H'=>∃ k,TruV X.K x H' k/\Q k H'):=by
 intro pins s σ H Q I h
 exact isTrue_plain (thn (ha pins s σ H _ I h) fun v s1 ⟨x,H1,I1,r1,q1⟩=>qid pins s1 σ H1 x v Q I1 r1 q1) (he _)
theorem Vp:OpR X (binaryOp .Add) (fun x y H Q=>∃ i j,x=.str i/\y=.str j/\i.length+j.length<=sizeLine/\Q (.str (i++j)) H):=by
 intro pins s σ H x y v u Q I rx ry h
 obtain ⟨i,j,rfl,rfl,hz,q⟩:=h
 obtain ⟨t,rfl⟩:=rx
 obtain ⟨t',rfl⟩:=ry
 exact add_str (fun t' tk=>⟨.str (i++j),H,I.tok _,⟨_,rfl⟩,q⟩) hz
theorem vals1 {x:V} {us:List Value} (r:Vals [x] us):∃ u,us=[u]/\RelV x u:=by
 cases r with
 | cons r1 r2=>cases r2;exact ⟨_,rfl,r1⟩
theorem vals2 {x y:V} {us:List Value} (r:Vals [x,y] us):∃ u w',us=[u,w']/\RelV x u/\RelV y w':=by
 cases r with
 | cons r1 r2 =>
  cases r2 with
  | cons r3 r4=>cases r4;exact ⟨_,_,rfl,r1,r3⟩
theorem qb1:CallR X (.type "int") (fun xs H Q=>(∃ i,xs=[.int i]/\Q (.int i) H)\/∃ k,xs=[.bl k]/\Q (.int (if k then 1 else 0)) H):=by
 intro pins s σ H xs us Q I r h
 rcases h with ⟨i,rfl,q⟩ | ⟨k,rfl,q⟩
 ·obtain ⟨u,rfl,t,rfl⟩:=vals1 r
  exact call_int_int ⟨.int i,H,I,⟨_,rfl⟩,q⟩
 ·obtain ⟨u,rfl,r1⟩:=vals1 r
  cases r1
  exact call_int_bool ⟨.int (if k then 1 else 0),H,I.tok _,⟨_,rfl⟩,q⟩
end
end L2
namespace L2
open PySem PySem.Spec PyProof.Rows
structure ObjM (h:Heap) (x dx C:Addr) (mA:Str->Option Value):Prop where
 obj:h.get? x=some (W.instObj C dx)
 ns:h.Ns1 dx mA
 ne:dx≠x
theorem qb2 {h:Heap} {dx:Addr} {mA:Str->Option Value} (n:h.Ns1 dx mA):∃ od,h.get? dx=some od/\∀ name,W.lookIn name od=some (mA name):=by
 obtain ⟨o,es,ep,ho,hd,hk,_,hm⟩:=n
 refine ⟨o,ho,fun name=>?_⟩
 have e:=hm name
 unfold nsFind findBy at e
 rw [<- Array.find?_toList] at e
 unfold W.lookIn
 rw [hd]
 dsimp only
 split
 ·rename_i y q
  rw [q] at e
  exact congrArg some e
 ·rename_i q
  rw [q] at e
  have a:es.toList.any (·.refKey)=false:=by
   rw [List.any_eq_false]
   intro y hy
   obtain ⟨z,t,hkey⟩:=hk y (Array.mem_toList_iff.mp hy)
   simp [DictEntry.refKey,hkey]
  have a':¬ es.toList.any (·.refKey)=true:=by rw [a];exact Bool.false_ne_true
  rw [if_neg a']
  exact congrArg some e
theorem ObjM.look {h:Heap} {x dx C:Addr} {mA:Str->Option Value} (I:ObjM h x dx C mA):∃ od,PySem.W.InstAt h x (W.instObj C dx) C (some od)/\∀ name,W.lookIn name od=some (mA name) :=
 let ⟨od,ho,hl⟩:=qb2 I.ns
 ⟨od,⟨I.obj,rfl,rfl,ho⟩,hl⟩
section
variable {prog:Program} {w:World} {A:Around} {E:Value->Shared->Prop} {s:Shared} {K:W.Frag} {x dx C f:Addr} {mA:Str->Option Value} {name:Str} {v:Value}
end
theorem RelO.some_of {v:V} {o:Option Value} (r:RelO (some v) o):∃ u,o=some u/\RelV v u:=by
 cases o with
 | none=>exact (show False from r).elim
 | some u=>exact ⟨u,rfl,r⟩
section
variable {P:Program} {w:World} {H H':Hp} {h h':Heap} {a C dx:Addr} {fs fs':List (Str × V)}
theorem qf2 (hok:HOk P w H h) (e:H a=some (.ins C dx fs)):∃ mA,ObjM h a dx C mA/\(∀ f,RelO (fs.lookup f) (mA f))/\PySem.Within mA (fs.map (·.1))/\fs.length<=1000/\H dx=some (.own a):=by
 obtain ⟨d,z,ne,ob,mA,n,r,q⟩:=(show ObjOk P w H h a (.ins C dx fs) from hok a _ e)
 exact ⟨mA,⟨ob,n,ne⟩,r,q,z,d⟩
end
structure Cls (K:W.Frag) (C:Addr):Prop where
 pg:W.plainGet K C Str.empty=true
 hd:W.hasDictIn K C=true
 po:W.plainOver K C=true
 sa:W.findIn K (.ref C) "__setattr__" = some (some (.builtin "object.__setattr__"))
theorem Cls.get {K:W.Frag} {C:Addr} (c:Cls K C) (f:Str):W.plainGet K C f=true:=c.pg
structure Con (K:W.Frag) (C:Addr) (f:Str) (v:V) (u:Value):Prop where
 at_:W.findIn K (.ref C) f=some (some u)
 rel:RelV v u
 get:W.specialIn K u "__get__" = some none
 cp:W.copiedNames.contains f=false
structure Meth (K:W.Frag) (C:Addr) (m:Str) (f:Addr):Prop where
 at_:W.findIn K (.ref C) m=some (some (.ref f))
 fn:W.isFn K (.ref f)=true
 kp:W.keepIn K (.ref f)=true
section
variable {X:Cx} {pins:List (Addr × Obj)} {σ:St} {H:Hp} {s:Shared} {a C dx:Addr} {fs:List (Str × V)} {f:Str} {v:V} {A:Around} {E:Value->Shared->Prop}
theorem Inv.made (I:Inv X pins σ H s):Inv X pins σ (upd (upd H s.heap.objs.size (.own (s.heap.objs.size+1))) (s.heap.objs.size+1) (.ins C s.heap.objs.size []))
  { s with heap:=(s.heap.push W.emptyDict).push (W.instObj C s.heap.objs.size) }:=by
 have e1:(s.heap.push W.emptyDict).get? s.heap.objs.size=some W.emptyDict:=Heap.get?_push_size s.heap rfl
 have e2:((s.heap.push W.emptyDict).push (W.instObj C s.heap.objs.size)).get? (s.heap.objs.size+1)=some (W.instObj C s.heap.objs.size):=by
  have:=Heap.get?_push_size (s.heap.push W.emptyDict) (o:=W.instObj C s.heap.objs.size) rfl
  rwa [Heap.size_push] at this
 have e3:(s.heap.push W.emptyDict).Ns s.heap.objs.size (fun _=>none):=⟨W.emptyDict,#[],_,e1,rfl,(fun e he=>absurd he (by simp)),fun _=>rfl⟩
 have I1:=I.laid (a:=s.heap.objs.size) (o:=.own (s.heap.objs.size+1)) (h':=s.heap.push W.emptyDict) (t':=s.toks) (fun b u q=>Heap.get?_push_of_some _ q) (Nat.le_refl _) ⟨_,e1⟩
 refine I1.laid (a:=s.heap.objs.size+1) (o:=.ins C s.heap.objs.size []) (t':=s.toks) (fun b u q=>Heap.get?_push_of_some _ q) (Nat.le_of_eq (Heap.size_push _ _)) ?_
 have ne:s.heap.objs.size≠s.heap.objs.size+1:=Nat.ne_of_lt (Nat.lt_succ_self _)
 refine ⟨by rw [qe ne,upd_same],Nat.zero_le _,ne,e2,fun _=>none,(Heap.Ns1.of_empty e3).at fun o q=>Heap.get?_push_of_some _ q,fun _=>True.intro,fun y hy=>absurd rfl hy⟩
end
section
variable {X:Cx} {o e value:Expr} {f:Str} {pos pos' tpos:Pos} {ta tv:TE}
end
section
variable {X:Cx} {pins:List (Addr × Obj)} {σ:St} {H:Hp} {s:Shared} {A:Around} {E:Value->Shared->Prop} {Q:Value->Shared->Prop} {c:Value} {b:Bool}
inductive TyOf (K:W.Frag) (H:Hp):V->Value->Prop where
 | non:TyOf K H .non (.type "NoneType")
 | bl (x:Bool):TyOf K H (.bl x) (.type "bool")
 | int (i:Int):TyOf K H (.int i) (.type "int")
 | str (x:Str):TyOf K H (.str x) (.type "str")
 | flt (x:UInt64):TyOf K H (.flt x) (.type "float")
 | lst {a:Addr} {xs:List V} (e:H a=some (.lst xs)):TyOf K H (.ref a) (.type "list")
 | frz {a:Addr} {o:Obj} {xs:List V} (e:H a=some (.frz o (.lst xs))):TyOf K H (.ref a) (.type "list")
 | tup {a:Addr} {xs:List V} (e:H a=some (.tup xs)):TyOf K H (.ref a) (.type "tuple")
 | dK {a:Addr} {kvs:List (Key × V)} (e:H a=some (.dK kvs)):TyOf K H (.ref a) (.type "dict")
 | dT {a:Addr} {kvs:List (List Key × V)} (e:H a=some (.dT kvs)):TyOf K H (.ref a) (.type "dict")
 | ins {a C dx:Addr} {fs:List (Str × V)} (e:H a=some (.ins C dx fs)) (cl:Cls K C) (ha:W.findIn K (.ref C) "__class__" = some (some (.builtin "object.__class__")))
   (hn:W.specialIn K (.builtin "object.__class__") "__get__" = some (some (.builtin "getset_descriptor.__get__"))) (htk:W.takesIn K (.builtin "object.__class__")=some true)
   (hm:W.mroIn K C (.type "object")=some true):TyOf K H (.ref a) (.ref C)
theorem qb3 {x:V} {u t:Value} (I:Inv X pins σ H s) (rx:RelV x u) (ty:TyOf X.K H x t) (e:W.kitOne X.K t c=some b) (h:∀ tk,Q (.bool b) { s with toks:=tk }) :
  wpAny (model X.prog X.w) A (call (.builtin "isinstance") [u,c]) Q E s:=by
 cases ty with
 | non=>cases (show u=Value.none from rx);exact W.kia_one W.kitx_none I.kIn True.intro e (fun z=>nomatch z) h
 | bl y=>cases (show u=Value.bool y from rx);exact W.kia_one W.kitx_bool I.kIn True.intro e (fun z=>nomatch z) h
 | int i=>obtain ⟨t,q⟩:=(show ∃ t,u=Value.int i t from rx);cases q;exact W.kia_one W.kitx_int I.kIn True.intro e (fun z=>nomatch z) h
 | str y=>obtain ⟨t,q⟩:=(show ∃ t,u=Value.str y t from rx);cases q;exact W.kia_one W.kitx_str I.kIn True.intro e (fun z=>nomatch z) h
 | flt y=>obtain ⟨t,q⟩:=(show ∃ t,u=Value.float y t from rx);cases q;exact W.kia_one W.kitx_float I.kIn True.intro e (fun z=>nomatch z) h
 | @lst a xs ea =>
  cases (show u=Value.ref a from rx)
  obtain ⟨_,_,n,_,h1⟩:=(show ObjOk X.prog X.w H s.heap a (.lst xs) from I.hok a _ ea)
  exact W.kia_one W.kitx_list I.kIn ⟨_,h1,rfl⟩ e (fun z=>nomatch z) h
 | @frz a ob xs ea =>
  cases (show u=Value.ref a from rx)
  obtain ⟨_,_,_,n,_,h1⟩:=(show ObjOk X.prog X.w H s.heap a (.frz ob (.lst xs)) from I.hok a _ ea)
  exact W.kia_one W.kitx_list I.kIn ⟨_,h1,rfl⟩ e (fun z=>nomatch z) h
 | @tup a xs ea =>
  cases (show u=Value.ref a from rx)
  obtain ⟨_,_,_,p,_⟩:=(show ObjOk X.prog X.w H s.heap a (.tup xs) from I.hok a _ ea)
  obtain ⟨o,h1,h2,_⟩:=p
  exact W.kia_one W.kitx_tuple I.kIn ⟨o,h1,h2⟩ e (fun z=>nomatch z) h
 | @dK a kvs ea =>
  cases (show u=Value.ref a from rx)
  obtain ⟨_,_,vs,_,p⟩:=(show ObjOk X.prog X.w H s.heap a (.dK kvs) from I.hok a _ ea)
  obtain ⟨o,es,ep,h1,h2,_⟩:=p
  exact W.kia_one W.kitx_dict I.kIn ⟨o,h1,h2.1⟩ e (fun z=>nomatch z) h
 | @dT a kvs ea =>
  cases (show u=Value.ref a from rx)
  obtain ⟨_,_,xs,_,o,es,ep,h1,h2,_⟩:=(show ObjOk X.prog X.w H s.heap a (.dT kvs) from I.hok a _ ea)
  exact W.kia_one W.kitx_dict I.kIn ⟨o,h1,h2.1⟩ e (fun z=>nomatch z) h
 | @ins a C dx fs ea cl ha hn htk hm =>
  cases (show u=Value.ref a from rx)
  obtain ⟨mA,O,_⟩:=qf2 I.hok ea
  obtain ⟨od,J,_⟩:=O.look
  exact W.kia_one (W.kitx_own (cl.get _) cl.hd ha hn htk hm) I.kIn J e (fun z=>nomatch z) h
end
end L2
namespace L2
open PySem PySem.Spec PyProof.Rows
structure Room (k:Nat) (A:Around):Prop where
 hd:A.handled=none
 dp:A.depth+3 * k+5 < recursionLimit
 un:A.units+16 * k+200 < cLine
theorem Room.mono {j k:Nat} {A:Around} (r:Room k A) (h:j<=k):Room j A:=⟨r.hd,by have:=r.dp;omega,by have:=r.un;omega⟩
theorem Room.deeper {k:Nat} {A:Around} (r:Room (k+1) A) (env:Env):Room k (A.deeper env) :=
 ⟨r.hd,by have:=r.dp;show A.depth+1+3 * k+5 < _;omega,by have:=r.un;show A.units+3+16 * k+200 < _;omega⟩
theorem Room.in1 {k:Nat} {A:Around} (r:Room (k+1) A):Room k A.in1 :=
 ⟨r.hd,by have:=r.dp;show A.depth+3 * k+5 < _;omega,by have:=r.un;show A.units+1+16 * k+200 < _;omega⟩
theorem Room.depth {k:Nat} {A:Around} (r:Room k A):A.depth < recursionLimit:=by have:=r.dp;omega
theorem Room.units {k:Nat} {A:Around} (r:Room k A):A.units+64 < cLine:=by have:=r.un;omega
def tNil:TA:=fun _ H Q=>Q [] H
def tCons (ta:TE) (tr:TA):TA:=fun σ H Q=>ta σ H fun x H1=>tr σ H1 fun xs H2=>Q (x :: xs) H2
section
variable {X:Cx} {e:Expr} {es:List Expr} {te:TE} {t:TA} {pos:Pos}
theorem qb:PA X [] tNil:=fun _ _ _ _ H Q I h=>Calls.spliced_nil ⟨[],H,I,.nil,h⟩
theorem qa (ha:PE X e te) (hr:PA X es t) (hs:starEach (e :: es) X.env=(false,eval e X.env) :: starEach es X.env:=by rfl):PA X (e :: es) (tCons te t):=by
 intro pos pins s σ H Q I h
 rw [hs]
 show wpAny _ _ (spliced ((false,eval e X.env) :: backTo pos (starEach es X.env))) _ _ s
 refine Calls.spliced_cons (thn (ha pins s σ H _ I h) fun u s1 ⟨x,H1,I1,r1,q1⟩=>?_)
 exact thn (hr pos pins s1 σ H1 _ I1 q1) fun us s2 ⟨xs,H2,I2,r2,q2⟩=>⟨x :: xs,H2,I2,.cons r1 r2,q2⟩
def tTup (t:TA):TE:=fun σ H Q=>t σ H fun xs H1=>xs.length<=sizeLine/\∀ p,H1 p=none->Q (.ref p) (upd H1 p (.tup xs))
def tLst (t:TA):TE:=fun σ H Q=>t σ H fun xs H1=>xs.length<=sizeLine/\∀ p,H1 p=none->Q (.ref p) (upd H1 p (.lst xs))
theorem vt {x1} (h:PA X es t):PE X (.Tuple es x1 pos) (tTup t):=by
 intro pins s σ H Q I hq
 refine wpAny_Tuple_spliced (thn (h pos pins s σ H _ I hq) fun us s1 ⟨xs,H1,I1,r,z,q⟩=>⟨by rw [<- r.length];exact z,?_⟩)
 have hf:H1 s1.heap.objs.size=none:=I1.hok.fresh (Nat.le_refl _)
 refine ⟨.ref s1.heap.objs.size,upd H1 s1.heap.objs.size (.tup xs),I1.laid (t':=s1.toks) (fun b u e=>Heap.get?_push_of_some _ e) (Nat.le_refl _) ?_,rfl,q _ hf⟩
 exact ⟨z,us,r,⟨_,Heap.get?_push_size _ rfl,rfl,_,rfl⟩,_,Heap.get?_push_size _ rfl,rfl⟩
theorem j0 (h:PA X es t):PE X (.List es pos) (tLst t):=by
 intro pins s σ H Q I hq
 refine wpAny_List_spliced (thn (h pos pins s σ H _ I hq) fun us s1 ⟨xs,H1,I1,r,z,q⟩=>⟨by rw [<- r.length];exact z,?_⟩)
 have hf:H1 s1.heap.objs.size=none:=I1.hok.fresh (Nat.le_refl _)
 refine ⟨.ref s1.heap.objs.size,upd H1 s1.heap.objs.size (.lst xs),I1.laid (t':=s1.toks) (fun b u e=>Heap.get?_push_of_some _ e) (Nat.le_refl _) ?_,rfl,q _ hf⟩
 exact ⟨z,us,0,r,Heap.get?_push_size _ rfl⟩
end
abbrev Sp:=List V->Hp->VK->XK->Prop
abbrev CXT:=List Env->Hp->Shared->XK->Value->Shared->Prop
structure Env0 (P:Program) (w:World) (K:W.Frag) (mg:Str->Option Value) (base:Heap) (A:Around) (outer:List Env) (s:Shared) (H:Hp):Prop where
 frames:A.frames=some outer
 mod:Mod K mg base
 bs:∀ b o,base.get? b=some o->s.heap.get? b=some o/\H b=none
 bsz:base.objs.size<=s.heap.objs.size
 funs:s.heap.FunFrames base outer
 frf:∀ b∈frs outer,H b=none
 hok:HOk P w H s.heap
 bare:AllBare s.gens
def CE (outer:List Env) (P:Program) (w:World) (H:Hp) (s:Shared) (Q:VK) (u:Value) (s':Shared):Prop :=
 ∃ v H',s'.os=s.os/\AllBare s'.gens/\Un (frs outer) [] H H' s.heap s'.heap/\HOk P w H' s'.heap/\RelV v u/\Q v H'
def CR (CX:CXT) (outer:List Env) (P:Program) (w:World) (H:Hp) (s:Shared) (Q:VK) (E:XK) (r:Result) (s':Shared):Prop :=
 match r with
 | .ok (.ret u)=>CE outer P w H s Q u s'
 | .ok _=>False
 | .error e=>CX outer H s E e s'
structure FnOk (P:Program) (w:World) (K:W.Frag) (mg:Str->Option Value) (base:Heap) (CX:CXT) (k:Nat) (f:Addr) (fd:FuncData) (ps:List Str) (sp:Sp):Prop where
 len:∀ vs H Q E,sp vs H Q E->vs.length=ps.length
 run:∀ (A:Around) (outer:List Env) (s:Shared) (H:Hp) (args:Args) (us:List Value) (vs:List V) (Q:VK) (E:XK),Room k A->Env0 P w K mg base A outer s H->BindsTo s fd args (ps.zip us)->Vals vs us->sp vs H Q E ->
  codeAny (model P w) A (.call (.ref f) args) (CR CX outer P w H s Q E) s
theorem FnOk.mono {P:Program} {w:World} {K:W.Frag} {mg:Str->Option Value} {base:Heap} {CX:CXT} {j k:Nat} {f:Addr} {fd:FuncData} {ps:List Str} {sp:Sp} (F:FnOk P w K mg base CX j f fd ps sp) (h:j<=k) :
  FnOk P w K mg base CX k f fd ps sp:=⟨F.len,fun A outer s H args us vs Q E hr=>F.run A outer s H args us vs Q E (hr.mono h)⟩
theorem FnOk.imp {P:Program} {w:World} {K:W.Frag} {mg:Str->Option Value} {base:Heap} {CX:CXT} {k:Nat} {f:Addr} {fd:FuncData} {ps:List Str} {sp sp':Sp} (F:FnOk P w K mg base CX k f fd ps sp)
  (h:∀ vs H Q E,sp' vs H Q E->sp vs H Q E):FnOk P w K mg base CX k f fd ps sp' :=
 ⟨fun vs H Q E q=>F.len vs H Q E (h _ _ _ _ q),fun A outer s H args us vs Q E hr he hb hv hs=>F.run A outer s H args us vs Q E hr he hb hv (h _ _ _ _ hs)⟩
theorem Env0.in1 {P:Program} {w:World} {K:W.Frag} {mg:Str->Option Value} {base:Heap} {A:Around} {outer:List Env} {s:Shared} {H:Hp} (e:Env0 P w K mg base A outer s H) :
  Env0 P w K mg base A.in1 outer s H:=⟨e.frames,e.mod,e.bs,e.bsz,e.funs,e.frf,e.hok,e.bare⟩
section
variable {X:Cx} {pins:List (Addr × Obj)} {σ:St} {H:Hp} {s s':Shared}
theorem Inv.env0 (I:Inv X pins σ H s):Env0 X.prog X.w X.K X.mg X.base X.A X.stack s H :=
 ⟨I.ok.frames,I.ok.mod,I.bs,Nat.le_trans I.ok.bsz I.sz,I.stack,I.stkFree,I.hok,I.bare⟩
theorem Inv.after {Q:VK} {u:Value} (I:Inv X pins σ H s) (h:CE X.stack X.prog X.w H s Q u s'):EP X pins σ Q u s':=by
 obtain ⟨v,H',os,bare,un,hok,r,q⟩:=h
 obtain ⟨hh,g,d,t,os'⟩:=s'
 obtain rfl:os'=s.os:=os
 exact ⟨v,H',I.call (h':=hh) (g':=g) (d':=d) (t':=t) (ch:=[]) un hok bare (fun b z=>absurd z (by simp)),r,q⟩
end
def tCall (sp:Sp) (dvs:List V) (E:XK) (t:TA):TE:=fun σ H Q=>t σ H fun vs H1=>sp (vs++dvs) H1 Q E
def Binds (K:W.Frag) (fd:FuncData) (ps:List Str) (ds:List Value):Prop :=
 ∀ (s:Shared) (us:List Value),K.In s.heap->(us++ds).length=ps.length->BindsTo s fd ⟨us,[]⟩ (ps.zip (us++ds))
theorem Binds.all {K:W.Frag} {fd:FuncData} {ps:List Str} (h:∀ us:List Value,us.length=ps.length->bindArgs fd ⟨us,[]⟩=pure (ps.zip us)):Binds K fd ps []:=fun s us _ hl=>by
 rw [List.append_nil] at hl ⊢
 exact .of_eq (h us hl)
def Passes (CX:CXT) (X:Cx) (E:XK):Prop:=∀ (pins:List (Addr × Obj)) (σ:St) (H:Hp) (s:Shared) (e:Value) (s':Shared),Inv X pins σ H s->CX X.stack H s E e s'->X.xe e s'
section
variable {X:Cx} {CX:CXT} {k:Nat} {f C:Addr} {fd:FuncData} {ps:List Str} {sp:Sp} {dvs:List V} {ds:List Value} {E:XK} {x m:Str} {p pos apos:Pos} {e o:Expr} {es:List Expr} {ta:TE} {t:TA}
theorem qie {pins:List (Addr × Obj)} {σ:St} {H:Hp} {s:Shared} {Q:VK} {us:List Value} {vs:List V} (F:FnOk X.prog X.w X.K X.mg X.base CX k f fd ps sp) (hr:Room k X.A) (hb:Binds X.K fd ps ds) (hd:Vals dvs ds) (hx:Passes CX X E)
  (I:Inv X pins σ H s) (r:Vals vs us) (h:sp (vs++dvs) H Q E):wpAny (model X.prog X.w) X.A (call (.ref f) us) (EP X pins σ Q) X.xe s:=by
 have r2:Vals (vs++dvs) (us++ds):=r.append hd
 have hl:(us++ds).length=ps.length:=by rw [<- r2.length];exact F.len _ _ _ _ h
 refine wpAny_call (codeAny_mono (F.run X.A X.stack s H ⟨us,[]⟩ (us++ds) (vs++dvs) Q E hr I.env0 (hb s us I.kIn hl) r2 h) fun r s' hq=>?_)
 cases r with
 | error e=>exact hx pins σ H s e s' I hq
 | ok fl =>
  cases fl with
  | ret u=>exact I.after hq
  | next=>exact False.elim hq
  | brk=>exact False.elim hq
  | cont=>exact False.elim hq
theorem qh (F:FnOk X.prog X.w X.K X.mg X.base CX k f fd ps sp) (hr:Room k X.A) (hg:Gl X x) (hm:X.mg x=some (.ref f)) (hk:W.keepIn X.K (.ref f)=true) (hb:Binds X.K fd ps ds) (hd:Vals dvs ds) (hx:Passes CX X E)
  (ha:PA X (e :: es) t) (hdb:(x == ("__debug__" : Str))=false:=by decide) (he:starEach (e :: es) X.env=(false,eval e X.env) :: starEach es X.env:=by rfl) (hpl:(backTo pos (starEach es X.env)).any (·.1)=false:=by rfl) :
  PE X (.Call (.Name x p) (e :: es) [] pos) (tCall sp dvs E t):=by
 intro pins s σ H Q I h
 refine wpAny_Call_Name_kw (ld_glob I hg hm ?_ hdb)
 refine W.callWith_K (h₀:=X.base) I.ok.mod.kin hk (thn (ha pos pins s σ H _ I h) fun us s1 ⟨vs,H1,I1,r,q⟩=>⟨I1.kIn,?_⟩) he hpl
 exact qie F hr hb hd hx I1 r q
structure Mk (K:W.Frag) (C f:Addr):Prop where
 makes:W.makesIn K C=true
 init:W.findIn K (.ref C) "__init__" = some (some (.ref f))
 fn:W.isFn K (.ref f)=true
 kp:W.keepIn K (.ref C)=true
end
section
variable {X:Cx} {CX:CXT} {k:Nat} {f C:Addr} {fd:FuncData} {ps ks:List Str} {sp:Sp} {E:XK} {x m:Str} {p pos apos kpos:Pos} {e o:Expr} {es:List Expr} {kws:List Keyword} {te ta:TE} {t tk:TA} {nm:Option Str}
structure KBinds (K:W.Frag) (fd:FuncData) (ps ks:List Str) (g:List Value->List Value->List Value) (gV:List V->List V->List V):Prop where
 to:∀ (s:Shared) (us ws:List Value),K.In s.heap->(g us ws).length=ps.length->BindsTo s fd ⟨us,ks.zip ws⟩ (ps.zip (g us ws))
 rel:∀ {vs:List V} {us:List Value} {zs:List V} {ws:List Value},Vals vs us->Vals zs ws->Vals (gV vs zs) (g us ws)
variable {g:List Value->List Value->List Value} {gV:List V->List V->List V}
end
structure FnScope (N P:List Str) (sc:Scope):Prop where
 kind:sc.kind=.function
 co:sc.isCoroutine=false
 gen:sc.isGenerator=false
 nd:N.Nodup
 pre:N.take P.length=P
 par:∀ x∈P,sc.names.lookup x=some .local\/sc.names.lookup x=some .cell
 nofree:∀ y∈sc.names,y.2≠.free
theorem bindL_out {kindOf:Str->Option NameKind} {x:Str}:∀ {binds:List (Str × Value)} {m:Str->Option Value},(∀ v,(x,v) ∉ binds)->bindL kindOf binds m x=m x
 | [],_,_=>rfl
 | (n,v) :: r,m,h=>by
  unfold bindL
  rw [bindL_out fun w hw=>h w (List.mem_cons_of_mem _ hw)]
  split
  ·have:x≠n:=by rintro rfl;exact h v List.mem_cons_self
   simp [this]
  ·rfl
theorem bindC_out {kindOf:Str->Option NameKind} {x:Str}:∀ {binds:List (Str × Value)} {m:Str->Option Value},(∀ v,(x,v) ∉ binds)->bindC kindOf binds m x=m x
 | [],_,_=>rfl
 | (n,v) :: r,m,h=>by
  unfold bindC
  rw [bindC_out fun w hw=>h w (List.mem_cons_of_mem _ hw)]
  split
  ·rfl
  ·have:x≠n:=by rintro rfl;exact h v List.mem_cons_self
   simp [this]
theorem bindL_get {kindOf:Str->Option NameKind} {x:Str} {v:Value}:∀ {P:List Str} {vs:List Value} {i:Nat} {m:Str->Option Value},P.Nodup->P[i]? = some x->vs[i]? = some v->kindOf x=some .local ->
  bindL kindOf (P.zip vs) m x=some v
 | [],_,_,_,_,h,_,_=>by simp at h
 | _ :: _,[],_,_,_,_,h,_=>by simp at h
 | p :: P,w :: vs,0,m,nd,h1,h2,hk=>by
  simp at h1 h2;subst h1;subst h2
  show bindL kindOf ((p,w) :: P.zip vs) m p=_
  unfold bindL
  rw [bindL_out fun v hv=>(List.nodup_cons.mp nd).1 (List.of_mem_zip hv).1,if_pos hk]
  simp
 | p :: P,w :: vs,i+1,m,nd,h1,h2,hk=>by
  show bindL kindOf ((p,w) :: P.zip vs) m x=_
  unfold bindL
  exact bindL_get (i:=i) (List.nodup_cons.mp nd).2 (by simpa using h1) (by simpa using h2) hk
theorem Zn {kindOf:Str->Option NameKind} {x:Str} {v:Value}:∀ {P:List Str} {vs:List Value} {i:Nat} {m:Str->Option Value},P.Nodup->P[i]? = some x->vs[i]? = some v->kindOf x≠some .local ->
  bindC kindOf (P.zip vs) m x=some v
 | [],_,_,_,_,h,_,_=>by simp at h
 | _ :: _,[],_,_,_,_,h,_=>by simp at h
 | p :: P,w :: vs,0,m,nd,h1,h2,hk=>by
  simp at h1 h2;subst h1;subst h2
  show bindC kindOf ((p,w) :: P.zip vs) m p=_
  unfold bindC
  rw [bindC_out fun v hv=>(List.nodup_cons.mp nd).1 (List.of_mem_zip hv).1,if_neg hk]
  simp
 | p :: P,w :: vs,i+1,m,nd,h1,h2,hk=>by
  show bindC kindOf ((p,w) :: P.zip vs) m x=_
  unfold bindC
  exact Zn (i:=i) (List.nodup_cons.mp nd).2 (by simpa using h1) (by simpa using h2) hk
def start (N:List Str) (vs:List V):St:=vs.map some++List.replicate (N.length - vs.length) none
def cxOf (CX:CXT) (P:Program) (w:World) (K:W.Frag) (mg:Str->Option Value) (base:Heap) (N:List Str) (qual:Str) (scope:Scope) (f:Addr) (cd:Value) (A:Around) (outer:List Env) (s:Shared) (H:Hp) (E:XK):Cx where
 prog:=P
 w:=w
 K:=K
 mg:=mg
 base:=base
 A:=A.deeper (envOfC qual scope s.heap.objs.size f cd)
 N:=N
 s₀:=s
 H₀:=H
 env:=envOfC qual scope s.heap.objs.size f cd
 outer:=outer
 stack:=envOfC qual scope s.heap.objs.size f cd :: outer
 ex:=[]
 calm:=true
 fn:=fun _=>true
 pn:=[]
 xe:=fun e s'=>wpAny (model P w) (A.deeper (envOfC qual scope s.heap.objs.size f cd)) (leaving (envOfC qual scope s.heap.objs.size f cd) e) (fun _ s''=>CX outer H s E e s'') (fun e' s''=>CX outer H s E e' s'') s'
theorem Y9 {sc:Scope} {n:Nat} {x:Str} (h:sc.names.lookup x=some .cell):∃ c,(cellsFrom n sc.names []).lookup x=some c:=by
 have q:=W.cellsFrom_some sc.names n [] (.inl h)
 exact Option.isSome_iff_exists.mp q
theorem qb4 {CX:CXT} {P:Program} {w:World} {K:W.Frag} {mg:Str->Option Value} {base:Heap} {N ps:List Str} {qual:Str} {scope:Scope} {f:Addr} {cd:Value} {A:Around} {outer:List Env} {s s1:Shared} {H:Hp} {E:XK} {us:List Value} {vs:List V}
  (S:FnScope N ps scope) (hd:A.handled=none) (e0:Env0 P w K mg base A outer s H) (hl:vs.length=ps.length) (r:Vals vs us)
  (x:InCallC s s.heap.objs.size (bindL (envOfC qual scope s.heap.objs.size f cd).kindOf (ps.zip us) fun _=>none) (cellsFrom (s.heap.objs.size+1) scope.names []) (bindC (envOfC qual scope s.heap.objs.size f cd).kindOf (ps.zip us) fun _=>none) s1) :
  Inv (cxOf CX P w K mg base N qual scope f cd A outer s H E) [] (start N vs) H s1:=by
 have hpl:ps.length<=N.length:=by have:=congrArg List.length S.pre;rw [List.length_take] at this;omega
 obtain ⟨h1,tk,rfl,hk⟩:=x.done
 have noA:∀ b:Addr,b ∉ (cxOf CX P w K mg base N qual scope f cd A outer s H E).ex:=fun b z=>absurd (show b∈([]:List Addr) from z) (by simp)
 refine ⟨⟨e0.mod,S.kind,rfl,rfl,Nat.le_refl _,fun y z c h1 h2=>?_,fun y hy=>?_,fun y c _ h=>?_,fun _=>hd,Around.frames_deeper e0.frames,.inr ⟨rfl,rfl⟩,fun b z=>absurd z (noA b),e0.bs,e0.bsz,fun b _ _=>noA b,fun b z=>absurd z (noA b),e0.funs,e0.frf⟩,
  rfl,e0.bare,Un.kept hk,⟨_,x.toInCall.ns,fun i y v h1 h2 h3=>?_⟩,fun y c h=>⟨_,x.cell y c h⟩,e0.hok.fresh (Nat.le_refl _),fun y c h=>?_,fun p hp=>absurd (show p∈([]:List (Addr × Obj)) from hp) (by simp),e0.hok.kept hk,?_⟩
 ·exact name_of_addr x.apart (PySem.mem_of_lookup h1) (PySem.mem_of_lookup h2)
 ·have hy:scope.names.lookup y=some .cell\/scope.names.lookup y=some .free:=hy
  rcases hy with hy | hy
  ·exact Y9 hy
  ·exact absurd rfl (S.nofree _ (PySem.mem_of_lookup hy))
 ·exact Nat.le_of_lt (x.above y c (PySem.mem_of_lookup h))
 ·have hi:i < vs.length:=by
   unfold start at h2
   by_cases hi:i < vs.length
   ·exact hi
   ·rw [List.getElem?_append_right (by simpa using hi)] at h2
    rw [List.getElem?_replicate] at h2
    split at h2 <;> cases h2
  have ha:vs[i]? = some v:=by
   unfold start at h2
   rw [List.getElem?_append_left (by simpa using hi),List.getElem?_map] at h2
   cases e:vs[i]? with
   | none=>rw [e] at h2;cases h2
   | some a=>rw [e] at h2;cases h2;rfl
  obtain ⟨u,hu,rv⟩:=r.get ha
  have hp:ps[i]? = some y:=by
   rw [<- S.pre,List.getElem?_take_of_lt (by omega)];exact h1
  have ndP:ps.Nodup:=by rw [<- S.pre];exact S.nd.sublist (List.take_sublist _ _)
  refine ⟨u,rv,?_⟩
  rcases S.par y (List.mem_of_getElem? hp) with k | k
  ·exact .inl ⟨k,bindL_get ndP hp hu k⟩
  ·obtain ⟨c,e⟩:=Y9 (n:=s.heap.objs.size+1) k
   refine .inr ⟨.inl k,c,e,?_⟩
   have q:=x.cell y c e
   rw [Zn ndP hp hu (by show scope.names.lookup y≠_;rw [k];decide)] at q
   exact q
 ·exact e0.hok.fresh (Nat.le_of_lt (x.above y c (PySem.mem_of_lookup h)))
 ·unfold start
  show _=N.length
  rw [List.length_append,List.length_map,List.length_replicate]
  omega
theorem qif {CX:CXT} {P:Program} {w:World} {K:W.Frag} {mg:Str->Option Value} {base:Heap} {k:Nat} {f:Addr} {name qual:Str} {params:Arguments} {body:List Stmt} {scope:Scope} {dV kV doc pm cdv ct oc:Value} {an od:Option Addr}
  {osl:Array (Option Value)} {N ps:List Str} {sp:Sp} (lk:K.lookup f=some ⟨oc,od,.func (W.fnOf name qual params body scope dV kV doc pm an cdv ct),osl⟩) (hcd:W.codeIn K cdv qual=true) (S:FnScope N ps scope)
  (len:∀ vs H Q E,sp vs H Q E->vs.length=ps.length)
  (hbody:∀ (A:Around) (outer:List Env) (s:Shared) (H:Hp) (vs:List V) (Q:VK) (E:XK),Room k (A.deeper (envOfC qual scope s.heap.objs.size f cdv))->sp vs H Q E ->
   ∃ t,PSs (cxOf CX P w K mg base N qual scope f cdv A outer s H E) body t/\t { nx:=fun _ H'=>Q .non H',rt:=Q } (start N vs) H) :
  FnOk P w K mg base CX (k+1) f (W.fnOf name qual params body scope dV kV doc pm an cdv ct) ps sp:=by
 refine ⟨len,fun A outer s H args us vs Q E hr e0 hb r hsp=>?_⟩
 have hl:=len _ _ _ _ hsp
 have KX:K.In s.heap:=e0.mod.kin.keeps fun b o e=>(e0.bs b o e).1
 have lim:s.heap.NoLimit:=e0.mod.nolimit.keeps fun b o e=>(e0.bs b o e).1
 have hkind:∀ y∈ps.zip us,scope.names.lookup y.1=some .local\/(scope.names.lookup y.1=some .cell/\((cellsFrom (s.heap.objs.size+1) scope.names []).lookup y.1).isSome=true):=fun ⟨n,v⟩ hy=>by
  rcases S.par n (List.of_mem_zip hy).1 with q | q
  ·exact .inl q
  ·exact .inr ⟨q,W.cellsFrom_some _ _ _ (.inl q)⟩
 refine codeAny_call_function hr.depth (KX _ _ lk) rfl S.co S.gen rfl (W.codeRec_of KX hcd) (hb _ _ _ _ ?_)
 refine wpAny_newFunctionEnv_cells S.kind hkind fun env he s1 x=>?_
 subst he
 refine ⟨lim.keeps x.toInCall.keep,codeAny_func ?_⟩
 obtain ⟨t,ht,hq⟩:=hbody A outer s H vs Q E (hr.deeper _) hsp
 have I:Inv (cxOf CX P w K mg base N qual scope f cdv A outer s H E) [] (start N vs) H s1:=qb4 S hr.hd e0 hl r x
 refine wpAny_mono (ht [] s1 (start N vs) H _ I hq) (fun fl s' hs=>?_) fun e s' hs=>hs
 have fin:∀ {σ':St} {H':Hp} {v:V} {u:Value},Inv (cxOf CX P w K mg base N qual scope f cdv A outer s H E) [] σ' H' s'->RelV v u->Q v H'->CE outer P w H s Q u s' :=
  fun {σ' H' v u} J rv q=>⟨v,H',J.os,J.bare,J.base,J.hok,rv,q⟩
 cases fl with
 | ret u =>
  obtain ⟨v,σ',H',J,rv,q⟩:=hs
  exact fin J rv q
 | next =>
  obtain ⟨σ',H',J,q⟩:=hs
  exact fin (v:=V.non) (u:=Value.none) J rfl q
 | brk =>
  obtain ⟨_,_,_,q⟩:=hs
  exact False.elim q
 | cont =>
  obtain ⟨_,_,_,q⟩:=hs
  exact False.elim q
end L2
namespace L2
open PySem PySem.Spec PyProof.Rows
section
variable {X:Cx} {x:Str} {p pos:Pos} {e:Expr} {es:List Expr} {t:TA} {id T:String} {r:List V->Hp->VK->Prop}
def tCB (r:List V->Hp->VK->Prop) (t:TA):TE:=fun σ H Q=>t σ H fun vs H1=>r vs H1 Q
theorem qm (hc:CallR X (.builtin id) r) (hg:Gl X x) (hm:X.mg x=none) (hv:bootBuiltins x=some (.builtin id)) (ha:PA X (e :: es) t) (hn:x≠"__name__":=by decide) (hdb:(x == ("__debug__" : Str))=false:=by decide)
  (he:starEach (e :: es) X.env=(false,eval e X.env) :: starEach es X.env:=by rfl) (hpl:(backTo pos (starEach es X.env)).any (·.1)=false:=by rfl):PE X (.Call (.Name x p) (e :: es) [] pos) (tCB r t):=by
 intro pins s σ H Q I h
 refine wpAny_Call_Name_kw (ld_blt I hg hm hv ?_ hn hdb)
 exact PyProof.Rows.callWith_builtin1 (thn (ha pos pins s σ H _ I h) fun us s1 ⟨vs,H1,I1,r1,q1⟩=>hc pins s1 σ H1 vs us Q I1 r1 q1) he hpl
theorem jb (hc:CallR X (.type T) r) (hg:Gl X x) (hm:X.mg x=none) (hv:bootBuiltins x=some (.type T)) (ha:PA X (e :: es) t) (hn:x≠"__name__":=by decide) (hdb:(x == ("__debug__" : Str))=false:=by decide)
  (he:starEach (e :: es) X.env=(false,eval e X.env) :: starEach es X.env:=by rfl) (hpl:(backTo pos (starEach es X.env)).any (·.1)=false:=by rfl):PE X (.Call (.Name x p) (e :: es) [] pos) (tCB r t):=by
 intro pins s σ H Q I h
 refine wpAny_Call_Name_kw (ld_blt I hg hm hv ?_ hn hdb)
 exact PyProof.Rows.callWith_type1 (thn (ha pos pins s σ H _ I h) fun us s1 ⟨vs,H1,I1,r1,q1⟩=>hc pins s1 σ H1 vs us Q I1 r1 q1) he hpl
end
end L2
namespace HT
open PySem PyProof.Rows
section
open PySem.SeqAt
open PySem.AutoSeq1 (wpAny_loadPart')
open PySem.MeetsSeq PySem.MeetsSeq2 PySem.MeetsSeq3
end
section
variable {prog:Program} {w:World} {A:Around} {E:Value->Shared->Prop} {s:Shared}
def sIx (n d:Nat):Option Int->Nat
 | none=>d
 | some v=>if v < 0 then (v+(n:Int)).toNat else min v.toNat n
end
end HT
namespace L2
open PySem PySem.Spec PyProof.Rows
abbrev TO:=St->Hp->(Option Int->Hp->Prop)->Prop
def PO (X:Cx) (e:Option Expr) (t:TO):Prop :=
 ∀ (pins:List (Addr × Obj)) (s:Shared) (σ:St) (H:Hp) (Q:Option Int->Hp->Prop),Inv X pins σ H s->t σ H Q ->
  wpAny (model X.prog X.w) X.A (evalPart e X.env) (fun u s'=>∃ o H',Inv X pins σ H' s'/\IsPart u o/\Q o H') X.xe s
def tNoPart:TO:=fun _ H Q=>Q none H
def tPart (t:TE):TO:=fun σ H Q=>t σ H fun x H1=>∃ i,x=.int i/\Q (some i) H1
theorem qbe {ns:List Int}:∀ {us:List Value},Vals (ns.map V.int) us->IntsAre us ns:=by
 induction ns with
 | nil=>intro us r;rw [List.map_nil] at r;cases r;exact .nil
 | cons n ns ih =>
  intro us r
  rw [List.map_cons] at r
  cases r with
  | cons r1 r2 =>
   obtain ⟨t,e⟩:=r1
   subst e
   exact .cons n t (ih r2)
section
variable {X:Cx} {e:Expr} {te:TE} {lo hi:Option Expr} {tl th:TO} {pos p2:Pos}
theorem yk:PO X none tNoPart:=by
 intro pins s σ H Q I h
 rw [evalPart_none]
 exact wpAny_pure ⟨none,H,I,.none,h⟩
theorem po_some (h:PE X e te):PO X (some e) (tPart te):=by
 intro pins s σ H Q I hw
 rw [evalPart_some]
 refine thn (h pins s σ H _ I hw) fun u s1 ⟨x,H1,I1,r1,q1⟩=>?_
 obtain ⟨i,rfl,q⟩:=q1
 obtain ⟨t,rfl⟩:=r1
 exact ⟨some i,H1,I1,.int i t,q⟩
def SlR (X:Cx) (r:V->Option Int->Option Int->Hp->VK->Prop):Prop :=
 ∀ (pins:List (Addr × Obj)) (s:Shared) (σ:St) (H:Hp) (x:V) (v vl vu:Value) (lo hi:Option Int) (sl:Addr) (Q:VK),Inv X pins σ H s->RelV x v->s.heap.IsSliceOf sl vl vu .none->IsPart vl lo->IsPart vu hi->r x lo hi H Q ->
  ∃ T id,typeLookup (.type T) "__getitem__" = pure (some (.builtin id))/\s.TypeIs v T/\wpAny (model X.prog X.w) X.A (getItem v (.ref sl)) (EP X pins σ Q) X.xe s
theorem SlR.or {r r':V->Option Int->Option Int->Hp->VK->Prop} (h:SlR X r) (h':SlR X r'):SlR X (fun x lo hi H Q=>r x lo hi H Q\/r' x lo hi H Q):=by
 intro pins s σ H x v vl vu lo hi sl Q I rx hs pl pu q
 rcases q with q | q
 ·exact h pins s σ H x v vl vu lo hi sl Q I rx hs pl pu q
 ·exact h' pins s σ H x v vl vu lo hi sl Q I rx hs pl pu q
def tSl (r:V->Option Int->Option Int->Hp->VK->Prop) (te:TE) (tl th:TO):TE:=fun σ H Q=>te σ H fun x H1=>tl σ H1 fun l H2=>th σ H2 fun u H3=>r x l u H3 Q
theorem zb {r:V->Option Int->Option Int->Hp->VK->Prop} (hr:SlR X r) (he:PE X e te) (hl:PO X lo tl) (hu:PO X hi th):PE X (.Subscript e (.Slice lo hi none p2) pos) (tSl r te tl th):=by
 intro pins s σ H Q I h
 refine Subscript_ (thn (he pins s σ H _ I h) fun v s1 ⟨x,H1,I1,r1,q1⟩=>?_)
 refine wpAny_Slice (thn (hl pins s1 σ H1 _ I1 q1) fun vl s2 ⟨l,H2,I2,pl,q2⟩=>thn (hu pins s2 σ H2 _ I2 q2) fun vu s3 ⟨u,H3,I3,pu,q3⟩=>?_)
 rw [evalPart_none]
 refine wpAny_pure ?_
 have I4:Inv X pins σ H3 { s3 with heap:=s3.heap.push { cls:=.type "slice",data:=.fields #[vl,vu,.none] } }:=I3.kept (t':=s3.toks) fun b ob q=>Heap.get?_push_of_some _ q
 obtain ⟨T,id,hT,ht,hg⟩:=hr pins { s3 with heap:=s3.heap.push { cls:=.type "slice",data:=.fields #[vl,vu,.none] } } σ H3 x v vl vu l u s3.heap.objs.size Q I4 r1 (Heap.IsSliceOf.new ..) pl pu q3
 show wpAny (model X.prog X.w) X.A (subscriptTail e (.Slice lo hi none p2) v (.ref s3.heap.objs.size)) (EP X pins σ Q) X.xe { s3 with heap:=s3.heap.push { cls:=.type "slice",data:=.fields #[vl,vu,.none] } }
 exact tail_any (ops:=[.ref s3.heap.objs.size,v]) ht hT hg (by with_unfolding_all rfl)
def cutV (xs:List V) (lo hi:Option Int):List V:=(xs.drop (HT.sIx xs.length 0 lo)).take (HT.sIx xs.length xs.length hi - HT.sIx xs.length 0 lo)
theorem Yi (xs:List V) (lo hi:Option Int):(cutV xs lo hi).length<=xs.length:=by
 unfold cutV
 rw [List.length_take,List.length_drop]
 omega
end
end L2
namespace L2
open PySem PySem.Spec PyProof.Rows
def ixN (n:Nat) (i:Int):Option Nat:=if 0<=i then (if i < n then some i.toNat else none) else if -(n:Int)<=i then some (i+n).toNat else none
def atI {α:Type} (xs:List α) (i:Int):Option α:=(ixN xs.length i).bind fun j=>xs[j]?
theorem Yj {n:Nat} {i:Int} {j:Nat} (h:ixN n i=some j):seqIndex? i n=some j/\j < n/\-(n:Int)<=i/\i < n:=by
 unfold ixN at h
 by_cases h0:0<=i
 ·rw [if_pos h0] at h
  by_cases h1:i < n
  ·rw [if_pos h1] at h
   have e:i.toNat=j:=Option.some.inj h
   exact ⟨by rw [seqIndex_of h0 h1,e],by omega,by omega,h1⟩
  ·rw [if_neg h1] at h;cases h
 ·rw [if_neg h0] at h
  by_cases h1:-(n:Int)<=i
  ·rw [if_pos h1] at h
   have e:(i+n).toNat=j:=Option.some.inj h
   exact ⟨by rw [seqIndex_neg (by omega) h1,e],by omega,h1,by omega⟩
  ·rw [if_neg h1] at h;cases h
theorem Vy {α:Type} {xs:List α} {i:Int} {v:α} (h:atI xs i=some v):∃ j,seqIndex? i xs.length=some j/\xs[j]? = some v/\j < xs.length/\-(xs.length:Int)<=i/\i < xs.length:=by
 unfold atI at h
 cases e:ixN xs.length i with
 | none=>rw [e] at h;cases h
 | some j =>
  rw [e] at h
  obtain ⟨h1,h2,h3,h4⟩:=Yj e
  exact ⟨j,h1,h,h2,h3,h4⟩
theorem atI_nat {α:Type} {xs:List α} {j:Nat} {v:α} (h:xs[j]? = some v):atI xs (j:Int)=some v:=by
 have hj:j < xs.length:=(List.getElem?_eq_some_iff.mp h).1
 have e:ixN xs.length (j:Int)=some j:=by
  unfold ixN
  rw [if_pos (by omega),if_pos (by omega)];simp
 unfold atI;rw [e];exact h
theorem atI_last {α:Type} (xs:List α) (v:α):atI (xs++[v]) (-1)=some v:=by
 have hl:(xs++[v]).length=xs.length+1:=by simp
 have e:ixN (xs++[v]).length (-1)=some xs.length:=by
  unfold ixN
  rw [hl,if_neg (by decide),if_pos (by omega)]
  congr 1
  omega
 unfold atI
 rw [e]
 show (xs++[v])[xs.length]? = some v
 simp
def PlainIx (b:Expr):Prop:=∀ o i,subscripted b false o i=operate [o,i] (getItem o i)
def IxR (X:Cx) (r:R2):Prop :=
 ∀ (value slice:Expr) (pins:List (Addr × Obj)) (s:Shared) (σ:St) (H:Hp) (x y:V) (v u:Value) (Q:VK),Inv X pins σ H s->RelV x v->RelV y u->r x y H Q ->
  subscripted slice false v u=operate [v,u] (getItem v u)->wpAny (model X.prog X.w) X.A (subscriptTail value slice v u) (EP X pins σ Q) X.xe s
def MtR (X:Cx) (id:String) (r:V->List V->Hp->VK->Prop):Prop :=
 ∀ (pins:List (Addr × Obj)) (s:Shared) (σ:St) (H:Hp) (x:V) (xs:List V) (v:Value) (us:List Value) (Q:VK),Inv X pins σ H s->RelV x v->Vals xs us->r x xs H Q ->
  wpAny (model X.prog X.w) X.A (call (.builtin id) (v :: us)) (EP X pins σ Q) X.xe s
section
variable {X:Cx} {a b:Expr} {ta tb:TE} {pos:Pos}
theorem IxR.or {r r':R2} (h:IxR X r) (h':IxR X r'):IxR X (fun x y H Q=>r x y H Q\/r' x y H Q):=by
 intro value slice pins s σ H x y v u Q I rx ry q hs
 rcases q with q | q
 ·exact h value slice pins s σ H x y v u Q I rx ry q hs
 ·exact h' value slice pins s σ H x y v u Q I rx ry q hs
theorem MtR.or {id:String} {r r':V->List V->Hp->VK->Prop} (h:MtR X id r) (h':MtR X id r'):MtR X id (fun x xs H Q=>r x xs H Q\/r' x xs H Q):=by
 intro pins s σ H x xs v us Q I rx rs q
 rcases q with q | q
 ·exact h pins s σ H x xs v us Q I rx rs q
 ·exact h' pins s σ H x xs v us Q I rx rs q
theorem pe_ix {r:R2} (hr:IxR X r) (ha:PE X a ta) (hb:PE X b tb) (hs:PlainIx b):PE X (.Subscript a b pos) (tOp r ta tb):=by
 intro pins s σ H Q I h
 exact Subscript_ (binT ha hb I h fun v u s2 x y H2 I2 rx ry q=>hr a b pins s2 σ H2 x y v u Q I2 rx ry q (hs _ _))
def rIxL (K:W.Frag):R2:=fun x y H Q=>∃ p xs i v,x=.ref p/\y=.int i/\SqL K H p xs/\atI xs i=some v/\Q v H
def rIxT (K:W.Frag):R2:=fun x y H Q=>∃ p xs i v,x=.ref p/\y=.int i/\SqT K H p xs/\atI xs i=some v/\Q v H
def rIxS:R2:=fun x y H Q=>∃ z i c,x=.str z/\y=.int i/\z.length<=sizeLine/\atI z.cps.toList i=some c/\Q (.str ⟨#[c]⟩) H
theorem ve:IxR X (rIxL X.K):=by
 intro value slice pins s σ H x y v u Q I rx ry h hs
 obtain ⟨p,xs,i,z,rfl,rfl,hq,he,q⟩:=h
 cases rx
 obtain ⟨t,rfl⟩:=ry
 obtain ⟨its,r,pl,hz⟩:=I.list hq
 obtain ⟨j,h1,h2,h3,h4,h5⟩:=Vy he
 obtain ⟨w,ew,rw'⟩:=r.get h2
 have hl:=r.length
 have hn:=line63
 have fin:EP X pins σ Q w s:=⟨z,H,I,rw',q⟩
 by_cases h0:0<=i
 ·have hj:i.toNat=j:=by
   rw [seqIndex_of h0 h5] at h1
   exact Option.some.inj h1
  exact item_listR pl.isList h0 (by omega) (by rw [hj];simpa using ew) fin hs
 ·have hj:(i+(its.toArray.size:Int)).toNat=j:=by
   rw [seqIndex_neg (by omega) h4] at h1
   rw [List.size_toArray,<- hl]
   exact Option.some.inj h1
  exact subscriptTail_builtinR (x:=w) pl.isList.typeIs slot_list_getitem.lookup
   (wpAny_getItem_list_neg (Q:=fun r s'=>r=w/\EP X pins σ Q r s') pl.isList (by omega) (by rw [List.size_toArray] <;> omega) (by omega) (by rw [hj];simpa using ew) ⟨rfl,fin⟩) hs
theorem Zo:IxR X (rIxT X.K):=by
 intro value slice pins s σ H x y v u Q I rx ry h hs
 obtain ⟨p,xs,i,z,rfl,rfl,hq,he,q⟩:=h
 cases rx
 obtain ⟨t,rfl⟩:=ry
 obtain ⟨its,r,pl,hz⟩:=I.tuple hq
 obtain ⟨j,h1,h2,h3,h4,h5⟩:=Vy he
 obtain ⟨w,ew,rw'⟩:=r.get h2
 have hl:=r.length
 have hn:=line63
 have fin:EP X pins σ Q w s:=⟨z,H,I,rw',q⟩
 exact subscriptTail_builtinR (x:=w) pl.typeIs slot_tuple_getitem.lookup
  (getItem_tuple (j:=j) (Q:=fun r s'=>r=w/\EP X pins σ Q r s') pl (by omega) (by omega) (by rw [List.size_toArray,<- hl];exact h1) (by simpa using ew) ⟨rfl,fin⟩) hs
theorem Zp:IxR X rIxS:=by
 intro value slice pins s σ H x y v u Q I rx ry h hs
 obtain ⟨z,i,c,rfl,rfl,hz,he,q⟩:=h
 obtain ⟨t,rfl⟩:=rx
 obtain ⟨t',rfl⟩:=ry
 obtain ⟨j,h1,h2,h3,h4,h5⟩:=Vy he
 have hl:z.cps.toList.length=z.length:=by simp [Str.length]
 rw [hl] at h1 h4 h5
 have hn:=line63
 exact tail_any (typeIs_str s z t) slot_str_getitem.lookup (getItem_str (c:=c) (by
  have e1:decide (i < -(2 ^ 63:Int))=false:=decide_eq_false (by omega)
  have e2:decide (i ≥ 2 ^ 63)=false:=decide_eq_false (by omega)
  rw [e1,e2,Bool.or_false]) (by rw [h1];simpa using h2) ⟨.str ⟨#[c]⟩,H,I.tok _,⟨_,rfl⟩,q⟩) hs
theorem qbf (its:List Value) (n j:Nat) (u:Value):Obj.mapSeq (·.setIfInBounds j u) { cls:=.type "list",data:=.seq its.toArray n } = { cls:=.type "list",data:=.seq (its.set j u).toArray n }:=by
 simp [Obj.mapSeq]
theorem Inv.lst {pins:List (Addr × Obj)} {σ:St} {H:Hp} {s:Shared} {p:Addr} {xs:List V} (I:Inv X pins σ H s) (h:H p=some (.lst xs)) :
  ∃ (its:List Value) (n:Nat),Vals xs its/\s.heap.get? p=some { cls:=.type "list",data:=.seq its.toArray n }/\xs.length<=sizeLine:=by
 obtain ⟨z,its,n,r,e⟩:=I.hok p _ h
 exact ⟨its,n,r,e,z⟩
theorem Inv.lstUpd {pins:List (Addr × Obj)} {σ:St} {H:Hp} {s:Shared} {p:Addr} {xs ys:List V} {its its':List Value} {n n':Nat} {f:Obj->Obj} (I:Inv X pins σ H s) (h:H p=some (.lst xs))
  (ho:s.heap.get? p=some { cls:=.type "list",data:=.seq its.toArray n }) (hf:f { cls:=.type "list",data:=.seq its.toArray n } = { cls:=.type "list",data:=.seq its'.toArray n' }) (r:Vals ys its') (hz:ys.length<=sizeLine) (t:Nat) :
  Inv X pins σ (upd H p (.lst ys)) { s with heap:=s.heap.update p f,toks:=t }:=by
 have e:(s.heap.update p f).get? p=some { cls:=.type "list",data:=.seq its'.toArray n' }:=by
  rw [Heap.get?_update_self f ho (by rw [hf] <;> rfl),hf]
 refine I.write (x:=p) (e:=p) (by rw [h];trivial) (.inl rfl) (fun b u hb q=>(Heap.get?_update_other _ _ (Ne.symm hb)).trans q) ⟨_,e⟩ ?_
 exact ⟨hz,its',n',r,e⟩
def rSetL:V->V->V->Hp->(Hp->Prop)->Prop:=fun o i v H Q=>∃ p xs k j,o=.ref p/\i=.int k/\H p=some (.lst xs)/\ixN xs.length k=some j/\Q (upd H p (.lst (xs.set j v)))
theorem qaa:PSet X rSetL:=by
 intro pins s σ H o i v ov iv u Q I ro ri rv h
 obtain ⟨p,xs,k,j,rfl,rfl,hp,hj,q⟩:=h
 cases ro
 obtain ⟨t,rfl⟩:=ri
 obtain ⟨its,n,r,ho,hz⟩:=I.lst hp
 obtain ⟨h1,h2,h3,h4⟩:=Yj hj
 have hl:=r.length
 have hn:=line63
 have I':Inv X pins σ (upd H p (.lst (xs.set j v))) { s with heap:=s.heap.update p (Obj.mapSeq (·.setIfInBounds j u)) } :=
  I.lstUpd hp ho (qbf its n j u) (r.set rv j) (by rw [List.length_set];exact hz) s.toks
 by_cases h0:0<=k
 ·have hk:k.toNat=j:=by
   rw [seqIndex_of h0 h4] at h1
   exact Option.some.inj h1
  exact W.ki_setAt ho h0 (by omega) (by rw [List.size_toArray,<- hl];exact h4) (by rw [hk];exact ⟨_,I',q⟩)
 ·have hk:(k+(its.toArray.size:Int)).toNat=j:=by
   rw [seqIndex_neg (by omega) h3] at h1
   rw [List.size_toArray,<- hl]
   exact Option.some.inj h1
  exact W.ki_setBack ho (by omega) (by rw [List.size_toArray,<- hl];exact h3) (by omega) (by rw [hk];exact ⟨_,I',q⟩)
theorem Zq (lo hi:Option Int) (n:Nat):(sliceBounds lo hi none n).1=((HT.sIx n 0 lo:Nat):Int)/\(sliceBounds lo hi none n).2.1=((HT.sIx n n hi:Nat):Int)/\(sliceBounds lo hi none n).2.2=1:=by
 refine ⟨?_,?_,rfl⟩
 ·cases lo with
  | none=>simp [sliceBounds,HT.sIx]
  | some i =>
   simp only [sliceBounds,HT.sIx,Option.getD_none,show (1:Int) > 0 by decide,if_true]
   by_cases h:i < 0
   ·simp only [h,if_true] <;> omega
   ·simp only [h,if_false] <;> omega
 ·cases hi with
  | none=>simp [sliceBounds,HT.sIx]
  | some i =>
   simp only [sliceBounds,HT.sIx,Option.getD_none,show (1:Int) > 0 by decide,if_true]
   by_cases h:i < 0
   ·simp only [h,if_true] <;> omega
   ·simp only [h,if_false] <;> omega
theorem Vz (its:List Value) (lo hi:Option Int):slicePick its.toArray lo hi none=((its.drop (HT.sIx its.length 0 lo)).take (HT.sIx its.length its.length hi - HT.sIx its.length 0 lo)).toArray:=by
 obtain ⟨h1,h2,h3⟩:=Zq lo hi its.toArray.size
 unfold slicePick
 rw [h1,h2,h3]
 simp only [sliceRange_one,pick_run,List.size_toArray] <;> rfl
def rSlL (K:W.Frag):V->Option Int->Option Int->Hp->VK->Prop:=fun x lo hi H Q=>∃ a xs,x=.ref a/\SqL K H a xs/\∀ p,H p=none->Q (.ref p) (upd H p (.lst (cutV xs lo hi)))
theorem qb5:SlR X (rSlL X.K):=by
 intro pins s σ H x v vl vu lo hi sl Q I rx hs pl pu h
 obtain ⟨a,xs,rfl,hx,q⟩:=h
 cases rx
 obtain ⟨its,r,ht,hz⟩:=I.list hx
 have hlen:=r.length
 refine ⟨"list",_,slot_list_getitem.lookup,ht.isList.typeIs,?_⟩
 refine wpAny_getItem_list_slice ht.isList hs pl pu .none (by simp) ?_ (by rw [List.size_toArray] <;> omega)
 rw [Vz,<- hlen]
 refine ⟨.ref s.heap.objs.size,_,I.laid (t':=s.toks) (o:=.lst (cutV xs lo hi)) (fun b ob q=>Heap.get?_push_of_some _ q) (Nat.le_refl _) ?_,rfl,q _ (I.hok.fresh (Nat.le_refl _))⟩
 exact ⟨Nat.le_trans (Yi xs lo hi) hz,_,0,(r.drop (HT.sIx xs.length 0 lo)).take (HT.sIx xs.length xs.length hi - HT.sIx xs.length 0 lo),Heap.get?_push_size _ rfl⟩
def flatV:V->Bool
 | .non=>true
 | .bl _=>true
 | .int _=>true
 | .str _=>true
 | _=>false
def eqV:V->V->Bool
 | .non,.non=>true
 | .bl a,.bl b=>a == b
 | .bl a,.int b=>(if a then 1 else 0) == b
 | .int a,.bl b=>a == (if b then 1 else 0)
 | .int a,.int b=>a == b
 | .str a,.str b=>a == b
 | _,_=>false
theorem qfh {A:Around} {s:Shared} {y x:V} {u v:Value} (ry:RelV y u) (rx:RelV x v) (fy:flatV y=true) (fx:flatV x=true):SeqAt.EqAt A s u v (eqV y x):=by
 cases y with
 | non =>
  cases ry
  cases x with
  | non=>cases rx;exact SeqAt.EqAt.same _
  | bl b=>cases rx;exact SeqAt.EqAt.none_bool b
  | int b=>obtain ⟨t,rfl⟩:=rx;exact SeqAt.EqAt.none_int b t
  | str b=>obtain ⟨t,rfl⟩:=rx;exact SeqAt.EqAt.none_str b t
  | _=>exact absurd (show false=true from fx) Bool.false_ne_true
 | bl a =>
  cases ry
  cases x with
  | non=>cases rx;exact SeqAt.EqAt.bool_none a
  | bl b=>cases rx;exact SeqAt.EqAt.bool_bool a b
  | int b=>obtain ⟨t,rfl⟩:=rx;exact SeqAt.EqAt.bool_int a b t
  | str b=>obtain ⟨t,rfl⟩:=rx;exact SeqAt.EqAt.bool_str a b t
  | _=>exact absurd (show false=true from fx) Bool.false_ne_true
 | int a =>
  obtain ⟨t',rfl⟩:=ry
  cases x with
  | non=>cases rx;exact SeqAt.EqAt.int_none a t'
  | bl b=>cases rx;exact SeqAt.EqAt.int_bool a t' b
  | int b=>obtain ⟨t,rfl⟩:=rx;exact SeqAt.EqAt.int_int a t' b t
  | str b=>obtain ⟨t,rfl⟩:=rx;exact SeqAt.EqAt.int_str a t' b t
  | _=>exact absurd (show false=true from fx) Bool.false_ne_true
 | str a =>
  obtain ⟨t',rfl⟩:=ry
  cases x with
  | non=>cases rx;exact SeqAt.EqAt.str_none a t'
  | bl b=>cases rx;exact SeqAt.EqAt.str_bool a t' b
  | int b=>obtain ⟨t,rfl⟩:=rx;exact SeqAt.EqAt.str_int a t' b t
  | str b=>obtain ⟨t,rfl⟩:=rx;exact SeqAt.EqAt.str_str a t' b t
  | _=>exact absurd (show false=true from fx) Bool.false_ne_true
 | _=>exact absurd (show false=true from fy) Bool.false_ne_true
theorem va:CallR X (.builtin "len") (fun xs H Q=>∃ p ys,xs=[.ref p]/\(SqL X.K H p ys\/SqT X.K H p ys)/\Q (.int ys.length) H):=by
 intro pins s σ H xs us Q I r h
 obtain ⟨p,ys,rfl,hq,q⟩:=h
 obtain ⟨u,rfl,rx⟩:=vals1 r
 cases rx
 have hn:=line63
 rcases hq with hq | hq
 ·obtain ⟨its,r',pl,hz⟩:=I.list hq
  have hlen:=r'.length
  exact Calls.call_len_list pl.isList (by simp only [List.size_toArray] <;> omega) ⟨.int ys.length,H,I.tok _,⟨s.toks+1,by rw [List.size_toArray,hlen]⟩,q⟩
 ·obtain ⟨its,r',pl,hz⟩:=I.tuple hq
  have hlen:=r'.length
  exact len_tuple pl (by simp only [List.size_toArray] <;> omega) ⟨.int ys.length,H,I.tok _,⟨s.toks+1,by rw [List.size_toArray,hlen]⟩,q⟩
theorem vb:CallR X (.builtin "len") (fun xs H Q=>∃ z,xs=[.str z]/\z.length<=sizeLine/\Q (.int z.length) H):=by
 intro pins s σ H xs us Q I r h
 obtain ⟨z,rfl,hz,q⟩:=h
 obtain ⟨u,rfl,t,rfl⟩:=vals1 r
 have hn:=line63
 exact len_str (by omega) ⟨.int z.length,H,I.tok _,⟨_,rfl⟩,q⟩
theorem CallR.or {f:Value} {r r':List V->Hp->VK->Prop} (h:CallR X f r) (h':CallR X f r'):CallR X f (fun xs H Q=>r xs H Q\/r' xs H Q):=by
 intro pins s σ H xs us Q I rs q
 rcases q with q | q
 ·exact h pins s σ H xs us Q I rs q
 ·exact h' pins s σ H xs us Q I rs q
theorem call_list_of:CallR X (.type "list") (fun xs H Q=>∃ p ys,xs=[.ref p]/\(SqL X.K H p ys\/SqT X.K H p ys)/\∀ l,H l=none->Q (.ref l) (upd H l (.lst ys))):=by
 intro pins s σ H xs us Q I r h
 obtain ⟨p,ys,rfl,hq,q⟩:=h
 obtain ⟨u,rfl,rx⟩:=vals1 r
 cases rx
 have fin:∀ (its:List Value),Vals ys its->ys.length<=sizeLine->∀ (h':Heap) (c':Nat),(∀ b o',s.heap.get? b=some o'->h'.get? b=some o') ->
   h'.get? s.heap.objs.size=some { cls:=.type "list",dict:=none,data:=.seq its.toArray c',slots:=#[] }->EP X pins σ Q (.ref s.heap.objs.size) { s with heap:=h' }:=fun its r' hz h' c' kp e =>
  ⟨.ref s.heap.objs.size,_,I.laid (t':=s.toks) kp (Nat.le_refl _) (show ObjOk X.prog X.w _ h' _ (.lst ys) from ⟨hz,its,c',r',e⟩),rfl,q _ (I.hok.fresh (Nat.le_refl _))⟩
 rcases hq with hq | hq
 ·obtain ⟨its,r',pl,hz⟩:=I.list hq
  have hlen:=r'.length
  obtain ⟨o,ho,hc,n,hd⟩:=pl.isList
  exact call_list_seq p (.inl rfl) ho hc hd (fun h' c' kp e=>fin its r' hz h' c' kp e) (by simp only [List.size_toArray] <;> omega)
 ·obtain ⟨its,r',pl,hz⟩:=I.tuple hq
  have hlen:=r'.length
  obtain ⟨o,ho,hc,n,hd⟩:=pl
  exact call_list_seq p (.inr rfl) ho hc hd (fun h' c' kp e=>fin its r' hz h' c' kp e) (by simp only [List.size_toArray] <;> omega)
theorem V0:CallR X (.type "tuple") (fun xs H Q=>∃ p ys,xs=[.ref p]/\((SqL X.K H p ys/\∀ l,H l=none->Q (.ref l) (upd H l (.tup ys)))\/(SqT X.K H p ys/\Q (.ref p) H))):=by
 intro pins s σ H xs us Q I r h
 obtain ⟨p,ys,rfl,h⟩:=h
 obtain ⟨u,rfl,rx⟩:=vals1 r
 cases rx
 rcases h with ⟨hq,q⟩ | ⟨hq,q⟩
 ·obtain ⟨its,r',pl,hz⟩:=I.list hq
  have hlen:=r'.length
  refine call_tuple_list pl.isList (fun h' kp=>?_) (by simp only [List.size_toArray] <;> omega)
  have I1:Inv X pins σ H { s with heap:=h' }:=I.kept (t':=s.toks) kp
  have I2:Inv X pins σ (upd H h'.objs.size (.tup ys)) { s with heap:=h'.push { cls:=.type "tuple",data:=.seq its.toArray } } :=
   I1.laid (t':=s.toks) (fun b o e=>Heap.get?_push_of_some _ e) (Nat.le_refl _) (show ObjOk X.prog X.w _ _ _ (.tup ys) from ⟨hz,its,r',IsTup.new _ _,_,Heap.get?_push_size _ rfl,rfl⟩)
  exact ⟨.ref h'.objs.size,_,I2,rfl,q _ (I1.hok.fresh (Nat.le_refl _))⟩
 ·obtain ⟨its,r',pl,hz⟩:=I.tuple hq
  exact call_tuple_same pl ⟨.ref p,H,I,rfl,q⟩
def tyV (K:W.Frag) (T:String) (x:V) (H:Hp):Prop:=match x with
 | .str _=>T = "str"
 | .int _=>T = "int"
 | .ref p=>(T = "list"/\∃ xs,SqL K H p xs)\/(T = "tuple"/\∃ o,K.lookup p=some o/\o.cls=.type "tuple"/\o.dict=none) \/
   (T = "dict"/\((∃ kvs,H p=some (.dK kvs))\/∃ kvs,H p=some (.dT kvs)))\/(T = "set"/\∃ S n,H p=some (.set S n))
 | _=>False
theorem qig {pins:List (Addr × Obj)} {σ:St} {H:Hp} {s:Shared} {T:String} {x:V} {v:Value} (I:Inv X pins σ H s) (r:RelV x v) (ty:tyV X.K T x H) :
  s.TypeIs v T/\∀ a,v=.ref a->∃ ob,s.heap.get? a=some ob/\ob.dict=none:=by
 cases x with
 | str z =>
  obtain ⟨t,rfl⟩:=r
  cases (show T = "str" from ty)
  exact ⟨typeIs_str s z t,fun _ e=>nomatch e⟩
 | int i =>
  obtain ⟨t,rfl⟩:=r
  cases (show T = "int" from ty)
  exact ⟨typeIs_int s i t,fun _ e=>nomatch e⟩
 | ref p =>
  cases r
  rcases ty with ⟨rfl,xs,hq⟩ | ⟨rfl,o,hk,hc,hd⟩ | ⟨rfl,hk⟩ | ⟨rfl,S,n,hk⟩
  ·obtain ⟨its,_,pl,_⟩:=I.list hq
   refine ⟨pl.isList.typeIs,fun a e=>?_⟩
   cases e
   obtain ⟨o,n,e,c,hd,_⟩:=pl
   exact ⟨o,e,hd⟩
  ·refine ⟨⟨o,I.kIn p o hk,hc⟩,fun a e=>?_⟩
   cases e
   exact ⟨o,I.kIn _ o hk,hd⟩
  ·have z:∃ o,s.heap.get? p=some o/\o.ExactDict:=by
    rcases hk with ⟨kvs,hk⟩ | ⟨kvs,hk⟩
    ·obtain ⟨_,_,_,_,o,_,_,e,ex,_⟩:=I.hok p _ hk
     exact ⟨o,e,ex⟩
    ·obtain ⟨_,_,_,_,o,_,_,e,ex,_⟩:=I.hok p _ hk
     exact ⟨o,e,ex⟩
   obtain ⟨o,e,ex⟩:=z
   refine ⟨⟨o,e,ex.1⟩,fun a e2=>?_⟩
   cases e2
   exact ⟨o,e,ex.2.1⟩
  ·obtain ⟨o,_,_,_,e,ex,_⟩:=I.hok p _ hk
   refine ⟨⟨o,e,ex.1⟩,fun a e2=>?_⟩
   cases e2
   exact ⟨o,e,ex.2.1⟩
 | _=>exact False.elim ty
def tBM (K:W.Frag) (T:String) (r:V->List V->Hp->VK->Prop) (to:TE) (t:TA):TE:=fun σ H Q=>to σ H fun x H1=>tyV K T x H1/\t σ H1 fun xs H2=>r x xs H2 Q
variable {o e:Expr} {es:List Expr} {to:TE} {t:TA} {name:Str} {apos cpos:Pos} {T id:String} {r:V->List V->Hp->VK->Prop}
theorem qf3 (pa:PlainAttrs T) (slot:Slot T name id) (hty:typeOf (.builtin id)=pure (.type "method_descriptor")) (hm:MtR X id r) (ho:PE X o to) (ha:PA X (e :: es) t)
  (hbase:attributeBase o name X.env (eval o X.env)=eval o X.env:=by rfl)
  (hfew:((backTo cpos (starEach (e :: es) X.env)).all (fun x=>!x.1) && (backToKw cpos (keywordEach [] X.env)).all (fun x=>x.1.isSome)
   && decide ((e :: es).length+([]:List Keyword).length+(if ([]:List Keyword).isEmpty then 0 else 1) < 30))=true:=by rfl)
  (hline:(apos.endLine == cpos.line)=true:=by rfl) (hs:starEach (e :: es) X.env=(false,eval e X.env) :: starEach es X.env:=by rfl) (hplain:(backTo cpos (starEach es X.env)).any (·.1)=false:=by rfl) :
  PE X (.Call (.Attribute o name apos) (e :: es) [] cpos) (tBM X.K T r to t):=by
 intro pins s σ H Q I h
 refine wpAny_Call_method_late hbase hfew hline rfl (thn (ho pins s σ H _ I h) fun v s1 ⟨x,H1,I1,r1,ty,q1⟩=>?_)
 obtain ⟨h1,h2⟩:=qig I1 r1 ty
 refine ⟨T,id,pa,slot,hty,h1,h2,?_⟩
 have hA:=ha cpos pins s1 σ H1 _ I1 q1
 rw [hs] at hA ⊢
 refine Calls.callWith_builtin (by show (false || (backTo cpos (starEach es X.env)).any (·.1))=false;rw [hplain] <;> rfl) (Calls.evalArgs_plain ?_)
 exact thn hA fun us s2 ⟨vs,H2,I2,r2,q2⟩=>hm pins s2 σ H2 x vs v us Q I2 r1 r2 q2
/- xs.append(e),list.index on a module's tuple .. are MtR facts of 06m -/
end
end L2
namespace L2
open PySem PySem.Spec PyProof.Rows
def MtM (X:Cx) (id:String) (r:V->List V->Hp->VK->Prop):Prop :=
 ∀ (pins:List (Addr × Obj)) (s:Shared) (σ:St) (H:Hp) (x:V) (xs:List V) (v:Value) (us:List Value) (Q:VK),Inv X pins σ H s->RelV x v->Vals xs us->r x xs H Q ->
  wpAny (model X.prog X.w) X.A (call (.builtin id) (v :: us)) (EP X pins σ Q) X.xe s
theorem Vals.one:∀ {x:V} {us:List Value},Vals [x] us->∃ u,us=[u]/\RelV x u
 | _,_,.cons r .nil=>⟨_,rfl,r⟩
theorem Vals.two:∀ {x y:V} {us:List Value},Vals [x,y] us->∃ u v,us=[u,v]/\RelV x u/\RelV y v
 | _,_,_,.cons r (.cons q .nil)=>⟨_,_,rfl,r,q⟩
theorem Vals.zero:∀ {us:List Value},Vals [] us->us=[]
 | _,.nil=>rfl
theorem Vals.eraseIdx:∀ {xs:List V} {us:List Value} (i:Nat),Vals xs us->Vals (xs.eraseIdx i) (us.eraseIdx i)
 | _,_,_,.nil=>.nil
 | _,_,0,.cons _ t=>t
 | _,_,i+1,.cons r t=>.cons r (Vals.eraseIdx i t)
theorem Vals.reverse {xs:List V} {us:List Value} (h:Vals xs us):Vals xs.reverse us.reverse:=by
 induction h with
 | nil=>exact .nil
 | cons r t ih=>rw [List.reverse_cons,List.reverse_cons];exact Vals.append ih (.cons r .nil)
theorem Vals.rep {xs:List V} {us:List Value} (h:Vals xs us):∀ k:Nat,Vals (List.replicate k xs).flatten (List.replicate k us).flatten
 | 0=>.nil
 | k+1=>by
  rw [List.replicate_succ,List.replicate_succ,List.flatten_cons,List.flatten_cons]
  exact Vals.append h (Vals.rep h k)
theorem Zr {α:Type}:∀ (l:List α) (i:Nat),(l.eraseIdx i).length<=l.length
 | [],_=>Nat.le_refl _
 | _ :: _,0=>Nat.le_succ _
 | _ :: r,i+1=>Nat.succ_le_succ (Zr r i)
theorem Zs (its:List Value):∀ (k:Nat) (acc:List Value),
  List.foldl (fun x1 x2=>x1++x2) acc.toArray (List.replicate k its.toArray)=(acc++(List.replicate k its).flatten).toArray
 | 0,acc=>by simp
 | k+1,acc=>by
  have e:acc.toArray++its.toArray=(acc++its).toArray:=by simp
  have e2:(acc++its)++(List.replicate k its).flatten=acc++(List.replicate (k+1) its).flatten:=by
   rw [List.replicate_succ,List.flatten_cons,List.append_assoc]
  rw [<- e2,<- Zs its k (acc++its),<- e,List.replicate_succ,List.foldl_cons]
section
variable {X:Cx} {pins:List (Addr × Obj)} {σ:St} {H:Hp} {s:Shared} {l b:Addr} {xs ys zs:List V}
theorem Inv.lset {its its':List Value} {n:Nat} {f:Array Value->Array Value} {t':Nat} (I:Inv X pins σ H s) (hH:H l=some (.lst xs))
  (e:s.heap.get? l=some { cls:=.type "list",data:=.seq its.toArray n }) (hf:f its.toArray=its'.toArray) (hv:Vals ys its') (hz:ys.length<=sizeLine) :
  Inv X pins σ (upd H l (.lst ys)) { s with heap:=s.heap.update l (Obj.mapSeq f),toks:=t' }:=by
 have q:=PySem.IsL.update e f
 rw [hf] at q
 refine I.write (x:=l) (e:=l) (by rw [hH];exact trivial) (.inl rfl) (fun b' u hb hu=>(Heap.get?_update_other s.heap (Obj.mapSeq f) (Ne.symm hb)).trans hu) ⟨_,q⟩ ?_
 exact ⟨hz,its',_,hv,q⟩
theorem Inv.lnew {its:List Value} {t':Nat} (I:Inv X pins σ H s) (hv:Vals ys its) (hz:ys.length<=sizeLine) :
  Inv X pins σ (upd H s.heap.objs.size (.lst ys)) { s with heap:=s.heap.push { cls:=.type "list",data:=.seq its.toArray },toks:=t' } :=
 I.laid (fun _ _ q=>Heap.get?_push_of_some _ q) (Nat.le_refl _) ⟨hz,its,0,hv,Heap.get?_push_size _ rfl⟩
theorem Inv.fresh (I:Inv X pins σ H s):H s.heap.objs.size=none:=I.hok.fresh (Nat.le_refl _)
theorem Inv.lstM (I:Inv X pins σ H s) (hH:H l=some (.lst xs)):xs.length<=sizeLine/\∃ (its:List Value) (n:Nat),Vals xs its/\xs.length=its.length/\s.heap.get? l=some { cls:=.type "list",data:=.seq its.toArray n }:=by
 obtain ⟨z,its,n,r,e⟩:=I.hok l _ hH
 exact ⟨z,its,n,r,r.length,e⟩
theorem notLongL {n:Nat} (h:n<=sizeLine):Builtin.List.listTooLong n=false:=by
 unfold Builtin.List.listTooLong
 exact decide_eq_false (by omega)
end
section
variable {X:Cx}
def rAppend:V->List V->Hp->VK->Prop:=fun x vs H Q=>∃ l xs y,x=.ref l/\vs=[y]/\H l=some (.lst xs)/\xs.length < sizeLine/\Q .non (upd H l (.lst (xs++[y])))
theorem vg:MtM X "list.append" rAppend:=by
 intro pins s σ H x vs v us Q I rx rv h
 obtain ⟨l,xs,y,rfl,rfl,hH,hz,q⟩:=h
 cases rx
 obtain ⟨u,rfl,ru⟩:=rv.one
 obtain ⟨z,its,n,r,hl,e⟩:=I.lstM hH
 refine call_meets F.slot_list_append ⟨_,e,rfl⟩ F.entry_list_append (F.args_list_append_2 _ _) (PySem.list_append l its.toArray n u (by rw [List.size_toArray];omega)) ⟨e,?_⟩
 refine ⟨.non,_,I.lset (its':=its++[u]) hH e (by simp) (r.append (.cons ru .nil)) ?_,rfl,q⟩
 rw [List.length_append,List.length_singleton]
 omega
def rPopAt:V->List V->Hp->VK->Prop:=fun x vs H Q=>∃ l xs i k y,x=.ref l/\vs=[.int i]/\H l=some (.lst xs)/\-(2 ^ 63)<=i/\i < 2 ^ 63/\seqIndex? i xs.length=some k/\xs[k]? = some y/\Q y (upd H l (.lst (xs.eraseIdx k)))
theorem qab:MtM X "list.pop" rPopAt:=by
 intro pins s σ H x vs v us Q I rx rv h
 obtain ⟨l,xs,i,k,y,rfl,rfl,hH,h1,h2,hk,hy,q⟩:=h
 cases rx
 obtain ⟨u,rfl,ru⟩:=rv.one
 obtain ⟨t,rfl⟩:=ru
 obtain ⟨z,its,n,r,hl,e⟩:=I.lstM hH
 obtain ⟨w,hw,rw'⟩:=r.get hy
 refine call_meets F.slot_list_pop ⟨_,e,rfl⟩ F.entry_list_pop (F.args_list_pop_2 _ _)
  (MeetsSeq.list_pop_at l its.toArray n i t k w (fitsIndex_both h1 h2) (by rw [List.size_toArray,<- hl];exact hk) (by rw [<- Array.getElem?_toList];exact hw) (by rw [List.size_toArray];omega)) ⟨e,?_⟩
 refine ⟨y,_,I.lset (its':=its.eraseIdx k) hH e ?_ (r.eraseIdx k) ?_,rw',q⟩
 ·show its.toArray.eraseIdxIfInBounds k=(its.eraseIdx k).toArray
  rw [List.eraseIdxIfInBounds_toArray]
 ·have:=Zr xs k
  omega
def rCat:R2:=fun x y H Q=>∃ l b xs zs,x=.ref l/\y=.ref b/\H l=some (.lst xs)/\H b=some (.lst zs)/\xs.length+zs.length<=sizeLine/\∀ p,H p=none->Q (.ref p) (upd H p (.lst (xs++zs)))
theorem qih:OpR X (binaryOp .Add) rCat:=by
 intro pins s σ H x y v u Q I rx ry h
 obtain ⟨l,b,xs,zs,rfl,rfl,hH,hB,hz,q⟩:=h
 cases rx
 cases ry
 obtain ⟨z,its,n,r,hl,e⟩:=I.lstM hH
 obtain ⟨z2,its2,n2,r2,hl2,e2⟩:=I.lstM hB
 refine PySem.P.add_list e e2 ?_ (by rw [List.size_toArray,List.size_toArray];omega)
 have ea:its.toArray++its2.toArray=(its++its2).toArray:=by simp
 rw [ea]
 exact ⟨.ref _,_,I.lnew (t':=s.toks) (r.append r2) (by rw [List.length_append];omega),rfl,q _ I.fresh⟩
def rRep:R2:=fun x y H Q=>∃ l k xs,x=.ref l/\y=.int k/\H l=some (.lst xs)/\-(2 ^ 63)<=k/\k < 2 ^ 63/\xs.length * k.toNat<=sizeLine /\
 ∀ p,H p=none->Q (.ref p) (upd H p (.lst (List.replicate k.toNat xs).flatten))
theorem qf4 {α:Type} (xs:List α) (k:Nat):(List.replicate k xs).flatten.length=k * xs.length:=by
 induction k with
 | zero=>simp
 | succ k ih=>rw [List.replicate_succ,List.flatten_cons,List.length_append,ih,Nat.succ_mul,Nat.add_comm]
theorem qii:OpR X (binaryOp .Mult) rRep:=by
 intro pins s σ H x y v u Q I rx ry h
 obtain ⟨l,k,xs,rfl,rfl,hH,h1,h2,hz,q⟩:=h
 cases rx
 obtain ⟨t,rfl⟩:=ry
 obtain ⟨z,its,n,r,hl,e⟩:=I.lstM hH
 have hlen:its.toArray.size * k.toNat<=sizeLine:=by rw [List.size_toArray,<- hl];exact hz
 have hcap:¬ its.toArray.size * k.toNat > (2 ^ 63 - 1) / 8:=by
  have:(sizeLine:Nat)<=(2 ^ 63 - 1) / 8:=by decide
  omega
 have hfit:¬ (!Builtin.List.listFitsIndex k)=true:=by
  rw [fitsIndex_both h1 h2]
  exact Bool.false_ne_true
 have hlong:¬ Builtin.List.listTooLong (its.toArray.size * k.toNat)=true:=by
  rw [notLongL hlen]
  exact Bool.false_ne_true
 have hnew:List.foldl (fun x1 x2=>x1++x2) #[] (List.replicate (if its.toArray.isEmpty=true then 0 else k.toNat) its.toArray)=(List.replicate k.toNat its).flatten.toArray:=by
  have f0:∀ m:Nat,List.foldl (fun x1 x2=>x1++x2) #[] (List.replicate m its.toArray)=(List.replicate m its).flatten.toArray:=fun m=>by
   have:=Zs its m []
   rw [List.nil_append] at this
   exact this
  rw [f0]
  cases its with
  | nil=>simp
  | cons a r'=>rw [if_neg (by simp)]
 refine wpAny_binaryOp_repeat_ref (T:="list") (U:="int") (by decide) ⟨_,e,rfl⟩ (fun s'=>typeIs_int s' k t) noFill_list_mul F.fills_int_mul F.slot_int_rmul repeat_list F.slot_int_index.lookup
  (call_meets F.slot_int_rmul (typeIs_int s k t) F.entry_int_rmul (F.args_int_rmul_2 _ _) (int___rmul___int_list k t l its.toArray n)
   ⟨e,rfl,⟨_,e,rfl⟩,call_meets F.slot_list_mul ⟨_,e,rfl⟩ F.entry_list_mul (F.args_list_mul_2 _ _) (AutoListH.list___mul___list_int_3 l its.toArray n k t hfit hcap hlong) ⟨e,?_⟩⟩)
 rw [hnew]
 exact ⟨.ref _,_,I.lnew (t':=s.toks) (r.rep k.toNat) (by rw [qf4,Nat.mul_comm];exact hz),rfl,q _ I.fresh⟩
end
section
variable {prog:Program} {w:World} {A:Around} {E:Value->Shared->Prop} {s:Shared}
set_option maxRecDepth 100000 in
end
section
variable {X:Cx}
end
end L2
namespace L2
open PySem PySem.Spec PyProof.Rows
section
variable {κ:Type} [DecidableEq κ]
def valV (kvs:List (κ × V)) (k:κ):Option V:=(kvs.find? fun kv=>decide (kv.1=k)).map (·.2)
def putK (kvs:List (κ × V)) (k:κ) (v:V):List (κ × V) :=
 if (kvs.any fun kv=>decide (kv.1=k))=true then kvs.map (fun kv=>if kv.1=k then (kv.1,v) else kv) else kvs++[(k,v)]
def dropK (kvs:List (κ × V)) (k:κ):List (κ × V):=kvs.filter fun kv=>decide (kv.1≠k)
theorem jz {p:κ × V} {r:List (κ × V)} {k:κ} (e:p.1=k):valV (p :: r) k=some p.2:=by simp [valV,List.find?_cons,e]
theorem jq {p:κ × V} {r:List (κ × V)} {k:κ} (e:¬ p.1=k):valV (p :: r) k=valV r k:=by simp [valV,List.find?_cons,e]
theorem zc (k:κ):∀ kvs:List (κ × V),(kvs.any fun kv=>decide (kv.1=k))=(valV kvs k).isSome
 | []=>rfl
 | p :: r=>by
  rw [List.any_cons]
  by_cases e:p.1=k
  ·simp only [jz e,decide_eq_true e,Bool.true_or,Option.isSome_some]
  ·rw [jq e,decide_eq_false e,Bool.false_or];exact zc k r
theorem qac (k j:κ) (y:V):∀ kvs:List (κ × V),valV (kvs.map fun kv=>if kv.1=k then (kv.1,y) else kv) j=(valV kvs j).map fun x=>if j=k then y else x
 | []=>rfl
 | p :: r=>by
  have ih:=qac k j y r
  rw [List.map_cons]
  by_cases h:p.1=k
  ·rw [if_pos h]
   by_cases e:p.1=j
   ·rw [jz (p:=(p.1,y)) e,jz e,Option.map_some,if_pos (e.symm.trans h)]
   ·rw [jq (p:=(p.1,y)) e,jq e,ih]
  ·rw [if_neg h]
   by_cases e:p.1=j
   ·rw [jz (p:=p) e,jz e,Option.map_some,if_neg (fun z=>h (e.trans z))]
   ·rw [jq (p:=p) e,jq e,ih]
theorem Zt (k j:κ) (y:V):∀ kvs:List (κ × V),valV kvs k=none->valV (kvs++[(k,y)]) j=if j=k then some y else valV kvs j
 | [],_=>by
  by_cases e:k=j
  ·rw [if_pos e.symm];exact jz (p:=(k,y)) e
  ·rw [if_neg (fun z=>e z.symm)];exact jq (p:=(k,y)) e
 | p :: r,hn=>by
  rw [List.cons_append]
  have hk:¬ p.1=k:=fun z=>by rw [jz z] at hn;cases hn
  rw [jq hk] at hn
  have ih:=Zt k j y r hn
  by_cases e:p.1=j
  ·rw [jz e,jz e,if_neg (fun z=>hk (e.trans z))]
  ·rw [jq e,jq e,ih]
theorem yu (kvs:List (κ × V)) (k j:κ) (y:V):valV (putK kvs k y) j=if j=k then some y else valV kvs j:=by
 unfold putK
 by_cases a:(kvs.any fun kv=>decide (kv.1=k))=true
 ·rw [if_pos a,qac]
  rw [zc] at a
  by_cases e:j=k
  ·obtain ⟨x,hx⟩:=Option.isSome_iff_exists.mp a
   rw [if_pos e,e,hx,Option.map_some,if_pos rfl]
  ·rw [if_neg e]
   cases valV kvs j with
   | none=>rfl
   | some x=>rw [Option.map_some,if_neg e]
 ·rw [if_neg a]
  refine Zt k j y kvs ?_
  rw [zc] at a
  cases q:valV kvs k with
  | none=>rfl
  | some x=>rw [q] at a;exact (a rfl).elim
theorem zn (kvs:List (κ × V)) (k:κ) (v:V):(putK kvs k v).length<=kvs.length+1:=by
 unfold putK
 split
 ·rw [List.length_map];omega
 ·rw [List.length_append,List.length_cons,List.length_nil];omega
theorem yv {kvs:List (κ × V)} {k:κ} (v:V) (h:valV kvs k=none):putK kvs k v=kvs++[(k,v)]:=by
 unfold putK
 rw [zc,h]
 exact if_neg (by decide)
theorem RelO.isSome_eq {o:Option V} {u:Option Value} (r:RelO o u):o.isSome=u.isSome:=by
 cases o with
 | none=>cases u with
  | none=>rfl
  | some _=>exact (show False from r).elim
 | some _=>cases u with
  | none=>exact (show False from r).elim
  | some _=>rfl
theorem RelO.getD {o:Option V} {u:Option Value} {d:V} {d':Value} (r:RelO o u) (rd:RelV d d'):RelV (o.getD d) (u.getD d'):=by
 cases o with
 | none=>cases u with
  | none=>exact rd
  | some _=>exact (show False from r).elim
 | some _=>cases u with
  | none=>exact (show False from r).elim
  | some _=>exact r
theorem KV.val {kvs:List (κ × V)} {vs:List (κ × Value)} (r:KV kvs vs) (k:κ):RelO (valV kvs k) (valueAt vs k):=by
 unfold KV at r
 induction r with
 | nil=>exact True.intro
 | @cons p q ps qs h t ih =>
  obtain ⟨h1,h2⟩:=h
  by_cases e:p.1=k
  ·have e':q.1=k:=h1.symm.trans e
   have b:valueAt (q :: qs) k=some q.2:=by simp [valueAt,List.find?_cons,e']
   rw [jz e,b];exact h2
  ·have e':¬ q.1=k:=fun z=>e (h1.trans z)
   have b:valueAt (q :: qs) k=valueAt qs k:=by simp [valueAt,List.find?_cons,e']
   rw [jq e,b];exact ih
theorem KV.any {kvs:List (κ × V)} {vs:List (κ × Value)} (r:KV kvs vs) (k:κ):(kvs.any fun kv=>decide (kv.1=k))=vs.any fun kv=>decide (kv.1=k):=by
 unfold KV at r
 induction r with
 | nil=>rfl
 | cons h t ih=>rw [List.any_cons,List.any_cons,ih,h.1]
theorem KV.repl {kvs:List (κ × V)} {vs:List (κ × Value)} (r:KV kvs vs) (k:κ) {y:V} {u:Value} (ry:RelV y u) :
  KV (kvs.map fun kv=>if kv.1=k then (kv.1,y) else kv) (vs.map fun kv=>if kv.1=k then (kv.1,u) else kv):=by
 unfold KV at r ⊢
 induction r with
 | nil=>exact .nil
 | @cons p q ps qs h t ih =>
  rw [List.map_cons,List.map_cons]
  refine .cons ?_ ih
  obtain ⟨h1,h2⟩:=h
  by_cases e:p.1=k
  ·rw [if_pos e,if_pos (h1.symm.trans e)];exact ⟨h1,ry⟩
  ·rw [if_neg e,if_neg (fun z=>e (h1.trans z))];exact ⟨h1,h2⟩
theorem KV.put {kvs:List (κ × V)} {vs:List (κ × Value)} (r:KV kvs vs) (k:κ) {y:V} {u:Value} (ry:RelV y u):KV (putK kvs k y) (stored vs k u):=by
 unfold putK stored
 rw [r.any k]
 by_cases e:(vs.any fun kv=>decide (kv.1=k))=true
 ·rw [if_pos e,if_pos e];exact r.repl k ry
 ·rw [if_neg e,if_neg e];exact Paired.snoc r ⟨rfl,ry⟩
theorem KV.drop {kvs:List (κ × V)} {vs:List (κ × Value)} (r:KV kvs vs) (k:κ):KV (dropK kvs k) (without vs k):=by
 unfold KV at r ⊢
 unfold dropK without
 induction r with
 | nil=>exact .nil
 | @cons p q ps qs h t ih =>
  obtain ⟨h1,h2⟩:=h
  rw [List.filter_cons,List.filter_cons]
  by_cases e:p.1=k
  ·have a:¬ decide (p.1≠k)=true:=by simp [e]
   have b:¬ decide (q.1≠k)=true:=by simp [h1.symm.trans e]
   rw [if_neg a,if_neg b];exact ih
  ·have e':¬ q.1=k:=fun z=>e (h1.trans z)
   have a:decide (p.1≠k)=true:=by simp [e]
   have b:decide (q.1≠k)=true:=by simp [e']
   rw [if_pos a,if_pos b];exact .cons ⟨h1,h2⟩ ih
theorem KV.keys {kvs:List (κ × V)} {vs:List (κ × Value)} (r:KV kvs vs):kvs.map (·.1)=vs.map (·.1):=by
 unfold KV at r
 induction r with
 | nil=>rfl
 | cons h t ih=>rw [List.map_cons,List.map_cons,ih,h.1]
theorem KV.length {kvs:List (κ × V)} {vs:List (κ × Value)} (r:KV kvs vs):kvs.length=vs.length:=Paired.length r
end
theorem qb6 {P:Program} {w:World} {k:Key} {u:Value} (r:RelV (kV k) u):(mixKind P w).is k u=true:=by
 cases k with
 | inl i=>obtain ⟨t,e⟩:=(show ∃ t,u=Value.int i t from r);subst e;exact Yd P w i t
 | inr x=>obtain ⟨t,e⟩:=(show ∃ t,u=Value.str x t from r);subst e;exact Ye P w x t
theorem Zu {P:Program} {w:World}:∀ {ks:List Key} {us:List Value},Vals (ks.map kV) us->ItemsAre (mixKind P w) ks us
 | [],_,r=>by rw [List.map_nil] at r;cases r;exact .nil
 | k :: ks,_,r=>by
  rw [List.map_cons] at r
  cases r with
  | cons h t=>exact .cons (qb6 h) (Zu t)
abbrev KT (H:Hp):List (List Key × V)->List (List Key × Addr × Value)->Prop:=Paired fun p q=>p.1=q.1/\H q.2.1=some (.tup (p.1.map kV))/\RelV p.2 q.2.2
theorem KT.val {H:Hp} {kvs:List (List Key × V)} {xs:List (List Key × Addr × Value)} (r:KT H kvs xs) (k:List Key):RelO (valV kvs k) ((atKey xs k).map (·.2)):=by
 induction r with
 | nil=>exact True.intro
 | @cons p q ps qs h t ih =>
  obtain ⟨h1,_,h2⟩:=h
  by_cases e:p.1=k
  ·have e':q.1=k:=h1.symm.trans e
   have b:atKey (q :: qs) k=some q.2:=by simp [atKey,List.find?_cons,e']
   rw [jz e,b];exact h2
  ·have e':¬ q.1=k:=fun z=>e (h1.trans z)
   have b:atKey (q :: qs) k=atKey qs k:=by simp [atKey,List.find?_cons,e']
   rw [jq e,b];exact ih
theorem KT.repl {H:Hp} {kvs:List (List Key × V)} {xs:List (List Key × Addr × Value)} (r:KT H kvs xs) (k:List Key) {y:V} {u:Value} (ry:RelV y u) :
  KT H (kvs.map fun kv=>if kv.1=k then (kv.1,y) else kv) (xs.map (putAt k u)):=by
 induction r with
 | nil=>exact .nil
 | @cons p q ps qs h t ih =>
  rw [List.map_cons,List.map_cons]
  refine .cons ?_ ih
  obtain ⟨h1,h2,h3⟩:=h
  unfold putAt
  by_cases e:p.1=k
  ·rw [if_pos e,if_pos (h1.symm.trans e)];exact ⟨h1,h2,ry⟩
  ·rw [if_neg e,if_neg (fun z=>e (h1.trans z))];exact ⟨h1,h2,h3⟩
theorem KT.put {H:Hp} {kvs:List (List Key × V)} {xs:List (List Key × Addr × Value)} (r:KT H kvs xs) (k:List Key) {b:Addr} {y:V} {u:Value} (hb:H b=some (.tup (k.map kV))) (ry:RelV y u) :
  KT H (putK kvs k y) (storedH xs k b u):=by
 have e:(kvs.any fun kv=>decide (kv.1=k))=(atKey xs k).isSome:=by
  rw [zc,(r.val k).isSome_eq,Option.isSome_map]
 unfold putK storedH
 rw [e]
 by_cases q:(atKey xs k).isSome=true
 ·rw [if_pos q,if_pos q];exact r.repl k ry
 ·rw [if_neg q,if_neg q];exact Paired.snoc r ⟨rfl,hb,ry⟩
theorem KT.keeps {H H':Hp} {kvs:List (List Key × V)} {xs:List (List Key × Addr × Value)} (r:KT H kvs xs) (ht:∀ b ys,H b=some (.tup ys)->H' b=some (.tup ys)):KT H' kvs xs :=
 Paired.mapP r fun _ _ z=>⟨z.1,ht _ _ z.2.1,z.2.2⟩
section
variable {P:Program} {w:World} {H:Hp} {h:Heap} {a:Addr}
theorem qij {u:HO} (ok:HOk P w H h) (e:Rd H a u):ObjOk P w H h a u:=e.ok ok
theorem qdt {kvs:List (Key × V)} (ok:HOk P w H h) (e:Rd H a (.dK kvs)):kvs.length<=sizeLine/\(a == sysModules)=false/\∃ vs,KV kvs vs/\h.DictOf (mixKind P w) a vs :=
 show ObjOk P w H h a (.dK kvs) from qij ok e
theorem qik {kvs:List (Key × V)} (ok:HOk P w H h) (e:H a=some (.dK kvs)):kvs.length<=sizeLine/\(a == sysModules)=false/\∃ vs,KV kvs vs/\h.DictOf (mixKind P w) a vs:=qdt ok (.inl e)
theorem key_of {ks:List Key} (ok:HOk P w H h) (e:H a=some (.tup (ks.map kV))):(tupleKind (mixKind P w)).is h ks a:=by
 obtain ⟨_,its,r,⟨o,h1,h2,n,h3⟩,_⟩:=(show ObjOk P w H h a (.tup (ks.map kV)) from ok a _ e)
 exact ⟨o,its.toArray,n,h1,h2,h3,by simpa using Zu r⟩
theorem qdu {kvs:List (List Key × V)} (ok:HOk P w H h) (e:Rd H a (.dT kvs)):kvs.length<=sizeLine/\(a == sysModules)=false /\
  ∃ xs,KT H kvs xs/\h.DictOfH (tupleKind (mixKind P w)) a xs:=by
 obtain ⟨z,y,xs,r,o,es,ep,h1,h2,h3,h4,h5⟩:=(show ObjOk P w H h a (.dT kvs) from qij ok e)
 refine ⟨z,y,xs,r,o,es,ep,h1,h2,h3,h4,fun x hx=>?_,h5⟩
 have all:∀ {l:List (List Key × V)} {m:List (List Key × Addr × Value)},KT H l m->∀ x∈m,(tupleKind (mixKind P w)).is h x.1 x.2.1:=by
  intro l m q
  induction q with
  | nil=>intro x hx;exact nomatch hx
  | @cons p q ps qs hq t ih =>
   intro x hx
   rcases List.mem_cons.mp hx with e | hx
   ·subst e
    exact key_of ok (by rw [<- hq.1];exact hq.2.1)
   ·exact ih x hx
 exact all r x hx
theorem dt_of {kvs:List (List Key × V)} (ok:HOk P w H h) (e:H a=some (.dT kvs)):kvs.length<=sizeLine/\(a == sysModules)=false /\
  ∃ xs,KT H kvs xs/\h.DictOfH (tupleKind (mixKind P w)) a xs:=qdu ok (.inl e)
end
def DGet (H:Hp) (a:Addr) (y:V) (r:Option V):Prop :=
 (∃ kvs k,Rd H a (.dK kvs)/\y=kV k/\r=valV kvs k)\/∃ kvs k b,Rd H a (.dT kvs)/\y=.ref b/\H b=some (.tup (k.map kV))/\r=valV kvs k
def DPut (H:Hp) (a:Addr) (y v:V) (H':Hp):Prop :=
 (∃ kvs k,H a=some (.dK kvs)/\y=kV k/\kvs.length < sizeLine/\H'=upd H a (.dK (putK kvs k v))) \/
 ∃ kvs k b,H a=some (.dT kvs)/\y=.ref b/\H b=some (.tup (k.map kV))/\kvs.length < sizeLine/\H'=upd H a (.dT (putK kvs k v))
theorem DGet.k {H:Hp} {a:Addr} {kvs:List (Key × V)} {k:Key} (e:H a=some (.dK kvs)):DGet H a (kV k) (valV kvs k):=.inl ⟨kvs,k,.inl e,rfl,rfl⟩
theorem DGet.t {H:Hp} {a b:Addr} {kvs:List (List Key × V)} {k:List Key} (e:H a=some (.dT kvs)) (eb:H b=some (.tup (k.map kV))):DGet H a (.ref b) (valV kvs k):=.inr ⟨kvs,k,b,.inl e,rfl,eb,rfl⟩
theorem DPut.k {H:Hp} {a:Addr} {kvs:List (Key × V)} {k:Key} {v:V} (e:H a=some (.dK kvs)) (hl:kvs.length < sizeLine):DPut H a (kV k) v (upd H a (.dK (putK kvs k v))):=.inl ⟨kvs,k,e,rfl,hl,rfl⟩
theorem DPut.t {H:Hp} {a b:Addr} {kvs:List (List Key × V)} {k:List Key} {v:V} (e:H a=some (.dT kvs)) (eb:H b=some (.tup (k.map kV))) (hl:kvs.length < sizeLine) :
  DPut H a (.ref b) v (upd H a (.dT (putK kvs k v))):=.inr ⟨kvs,k,b,e,rfl,eb,hl,rfl⟩
section
variable {X:Cx} {pins:List (Addr × Obj)} {σ:St} {H:Hp} {s:Shared} {a:Addr} {y v:V} {u r:Value} {o:Option V} {A:Around} {E:Value->Shared->Prop}
theorem Inv.big (I:Inv X pins σ H s):sysModules < s.heap.objs.size:=by
 have h:mainGlobals < s.heap.objs.size:=(I.mod.glob.keeps I.bk).lt
 exact Nat.lt_trans (by decide) h
theorem qb7 {Q:Value->Shared->Prop} (hu:A.units+1 < cLine) (I:Inv X pins σ H s) (g:DGet H a y (some v)) (ry:RelV y u) (h:∀ w' s',Inv X pins σ H s'->RelV v w'->Q w' s') :
  wpAny (model X.prog X.w) A (getItem (.ref a) u) Q E s:=by
 rcases g with ⟨kvs,k,e,ey,l⟩ | ⟨kvs,k,b,e,ey,eb,l⟩
 ·subst ey
  obtain ⟨z,hd,vs,rel,dd⟩:=qdt I.hok e
  obtain ⟨w',hw,rw'⟩:=RelO.some_of (v:=v) (o:=valueAt vs k) (by rw [l];exact rel.val k)
  exact wpAny_getItem_of (qb6 ry) dd.mapOf hw (h w' _ (I.tok _) rw')
 ·subst ey
  cases (show u=Value.ref b from ry)
  obtain ⟨z,hd,xs,rel,dd⟩:=qdu I.hok e
  obtain ⟨w',hw,rw'⟩:=RelO.some_of (v:=v) (o:=(atKey xs k).map (·.2)) (by rw [l];exact rel.val k)
  obtain ⟨p,hp,hp2⟩:=Option.map_eq_some_iff.mp hw
  refine wpAny_getItem_heap (tupleKind_room_in1 hu) (key_of I.hok eb) dd hp ?_
  rw [hp2]
  exact h w' _ (I.tok _) rw'
theorem qf5 {Q:Value->Shared->Prop} (hu:A.units+1 < cLine) (I:Inv X pins σ H s) (g:DGet H a y o) (ry:RelV y u) (h:∀ s',Inv X pins σ H s'->Q (.bool (!o.isSome)) s') :
  wpAny (model X.prog X.w) A (compareOp .NotIn u (.ref a)) Q E s:=by
 rcases g with ⟨kvs,k,e,ey,l⟩ | ⟨kvs,k,b,e,ey,eb,l⟩
 ·subst ey
  obtain ⟨z,hd,vs,rel,dd⟩:=qdt I.hok e
  refine wpAny_notIn_of (qb6 ry) hd dd.mapOf ?_
  rw [<- (rel.val k).isSome_eq,<- l]
  exact h _ (I.tok _)
 ·subst ey
  cases (show u=Value.ref b from ry)
  obtain ⟨z,hd,xs,rel,dd⟩:=qdu I.hok e
  refine wpAny_notIn_heap (tupleKind_room_in1 hu) (key_of I.hok eb) hd dd ?_
  have q:=(rel.val k).isSome_eq
  rw [Option.isSome_map] at q
  rw [<- q,<- l]
  exact h _ (I.tok _)
theorem Yk {h':Heap} {t':Nat} {ob:HO} (I:Inv X pins σ H s) (mu:Mut (H a)) (hs:Heap.SameBut a s.heap h') (he:∃ q,h'.get? a=some q) (new:ObjOk X.prog X.w (upd H a ob) h' a ob) :
  Inv X pins σ (upd H a ob) { s with heap:=h',toks:=t' } :=
 I.write (x:=a) (e:=a) mu (.inl rfl) (fun b q hb z=>(hs.2 b hb).trans z) he new
theorem qil {P:Program} {w:World} {H':Hp} {h':Heap} {kvs:List (Key × V)} {vs:List (Key × Value)} (z:kvs.length<=sizeLine) (hd:(a == sysModules)=false) (rel:KV kvs vs) (dd:h'.DictOf (mixKind P w) a vs) :
  ObjOk P w H' h' a (.dK kvs):=⟨z,hd,vs,rel,dd⟩
theorem qb8 {H':Hp} {Q:Unit->Shared->Prop} (hu:A.units+1 < cLine) (I:Inv X pins σ H s) (g:DPut H a y v H') (ry:RelV y u) (rv:RelV v r) (h:∀ s',Inv X pins σ H' s'->Q () s') :
  wpAny (model X.prog X.w) A (setItem (.ref a) u r) Q E s:=by
 rcases g with ⟨kvs,k,e,ey,l,eH⟩ | ⟨kvs,k,b,e,ey,eb,l,eH⟩
 ·subst ey eH
  obtain ⟨z,hd,vs,rel,dd⟩:=qik I.hok e
  have hz:vs.length<=sizeLine:=by rw [<- rel.length];exact z
  have hl:(putK kvs k v).length<=sizeLine:=by have:=zn kvs k v;omega
  refine wpAny_setItem_pairs (hsz:=hz) (qb6 ry) dd fun h' dd' hs=>h _ ?_
  have he:∃ q,h'.get? a=some q:=let ⟨q,_,_,hq,_⟩:=dd';⟨q,hq⟩
  exact Yk I (by rw [e];exact True.intro) hs he (qil hl hd (rel.put k rv) dd')
 ·subst ey eH
  cases (show u=Value.ref b from ry)
  obtain ⟨z,hd,xs,rel,dd⟩:=dt_of I.hok e
  have hz:xs.length<=sizeLine:=by rw [<- Paired.length rel];exact z
  have hl:(putK kvs k v).length<=sizeLine:=by have:=zn kvs k v;omega
  refine wpAny_setItem_heap (hsz:=hz) (tupleKind_room_in1 hu) (key_of I.hok eb) dd fun h' dd' hs=>h _ ?_
  obtain ⟨q,es,ep,hq,h2,h3,h4,_,h5⟩:=dd'
  refine Yk I (by rw [e];exact True.intro) hs ⟨q,hq⟩ ⟨hl,hd,_,(rel.put k eb rv).keeps fun c ys ec=>?_,q,es,ep,hq,h2,h3,h4,h5⟩
  rw [qe (qh3 ec e (fun z=>nomatch z))]
  exact ec
end
section
variable {X:Cx} {pins:List (Addr × Obj)} {σ:St} {H:Hp} {s:Shared} {a:Addr} {kvs:List (Key × V)} {k:Key} {u:Value} {A:Around} {E:Value->Shared->Prop}
end
def NoSl (i:Expr):Prop:=∀ ov iv,subscripted i false ov iv=operate [ov,iv] (getItem ov iv)
theorem subD_of {prog:Program} {w:World} {A:Around} {E:Value->Shared->Prop} {s:Shared} {env:Env} {value slice:Expr} {pos:Pos} {T id:String} {Q:Value->Shared->Prop}
  (hl:typeLookup (.type T) "__getitem__" = pure (some (.builtin id))) (hs:NoSl slice)
  (h:wpAny (model prog w) A (eval value env) (fun o s₁=>wpAny (model prog w) A (eval slice env) (fun i s₂=>s₂.TypeIs o T/\wpAny (model prog w) A (getItem o i) Q E s₂) E s₁) E s) :
  wpAny (model prog w) A (eval (.Subscript value slice pos) env) Q E s:=by
 refine Subscript_ (wpAny_mono h (fun o s₁ h₁=>wpAny_mono h₁ (fun i s₂ h₂=>?_) fun _ _ x=>x) fun _ _ x=>x)
 obtain ⟨hT,h₂⟩:=h₂
 unfold subscriptTail
 refine wpAny_bind ?_
 rw [getitemInPython_of_ne hT.not_modules]
 refine wpAny_bind (wpAny_specialOf hT hl ?_)
 have fin:wpAny (model prog w) A (subscripted slice false o i) (fun r s₃=>wpAny (model prog w) A (letTemporaryGo value o r >>= fun _=>pure r) Q E s₃) E s₂:=by
  rw [hs o i]
  exact wpAny_operating (wpAny_mono h₂ (fun r s₃ h₃=>wpAny_bind (wpAny_letTemporaryGo (wpAny_pure h₃))) fun _ _ x=>x)
 first
  | exact wpAny_pure (wpAny_bind fin)
  | exact wpAny_bind (wpAny_pure (wpAny_bind fin))
  | exact wpAny_bind fin
theorem Yl {X:Cx} {pins:List (Addr × Obj)} {σ:St} {H:Hp} {s:Shared} {a:Addr} {y:V} {o:Option V} (I:Inv X pins σ H s) (g:DGet H a y o):s.TypeIs (.ref a) "dict":=by
 rcases g with ⟨kvs,k,e,_,_⟩ | ⟨kvs,k,b,e,_,_,_⟩
 ·obtain ⟨_,_,vs,_,dd⟩:=qdt I.hok e
  exact dd.typeIs
 ·obtain ⟨_,_,xs,_,dd⟩:=qdu I.hok e
  exact dd.typeIs
def tDGet (td ty:TE):TE:=fun σ H Q=>td σ H fun x H1=>ty σ H1 fun y H2=>∃ a v,x=.ref a/\DGet H2 a y (some v)/\Q v H2
def tDNotIn (ty td:TE):TE:=fun σ H Q=>ty σ H fun y H1=>td σ H1 fun x H2=>∃ a o,x=.ref a/\DGet H2 a y o/\Q (.bl (!o.isSome)) H2
def sDPut (td ty tv:TE):TS:=fun D σ H=>tv σ H fun v H1=>td σ H1 fun x H2=>ty σ H2 fun y H3=>∃ a H4,x=.ref a/\DPut H3 a y v H4/\D.nx σ H4
section
variable {X:Cx} {o i e value:Expr} {pos pos' tpos:Pos} {td ty tv:TE}
theorem qq (hu:X.A.units+1 < cLine) (ho:PE X o td) (hi:PE X i ty) (hs:NoSl i):PE X (.Subscript o i pos) (tDGet td ty):=by
 intro pins s σ H Q I h
 refine subD_of PySem.F.slot_dict_getitem.lookup hs (thn (ho pins s σ H _ I h) fun u s1 ⟨x,H1,I1,rx,q1⟩=>thn (hi pins s1 σ H1 _ I1 q1) fun iv s2 ⟨y,H2,I2,ry,a,v,ex,g,q2⟩=>?_)
 subst ex
 obtain rfl:u=Value.ref a:=rx
 exact ⟨Yl I2 g,qb7 hu I2 g ry fun w' s3 I3 rw'=>⟨v,H2,I3,rw',q2⟩⟩
theorem qb9 (hu:X.A.units+1 < cLine) (hi:PE X i ty) (ho:PE X o td):PC X .NotIn i o (tDNotIn ty td):=by
 intro pins s σ H Q I h
 refine thn (hi pins s σ H _ I h) fun iv s1 ⟨y,H1,I1,ry,q1⟩=>thn (ho pins s1 σ H1 _ I1 q1) fun u s2 ⟨x,H2,I2,rx,a,ov,ex,g,q2⟩=>?_
 subst ex
 obtain rfl:u=Value.ref a:=rx
 exact qf5 hu I2 g ry fun s3 I3=>⟨.bl (!ov.isSome),H2,I3,rfl,q2⟩
theorem vn (hu:X.A.units+1 < cLine) (ho:PE X o td) (hi:PE X i ty) (hv:PE X value tv) (hs:swapsWith value (some (.Subscript o i pos')) pos.line X.env=pure false) :
  PS X (.Assign [.Subscript o i pos'] value pos) (sDPut td ty tv):=by
 intro pins s σ H D I h
 refine wpAny_Assign_Subscript (thn (hv pins s σ H _ I h) fun r s1 ⟨v,H1,I1,rv,q1⟩=>thn (ho pins s1 σ H1 _ I1 q1) fun u s2 ⟨x,H2,I2,rx,q2⟩=>thn (hi pins s2 σ H2 _ I2 q2) fun iv s3 ⟨y,H3,I3,ry,a,H4,ex,g,q3⟩=>?_) hs
 subst ex
 obtain rfl:u=Value.ref a:=rx
 exact qb8 hu I3 g ry rv fun s4 I4=>⟨σ,H4,I4,q3⟩
end
theorem qdv {P:Program} {w:World} {H:Hp} (h:Heap) (hb:sysModules < h.objs.size):ObjOk P w H (h.push { cls:=.type "dict",data:=.dict #[] }) h.objs.size (.dK []) :=
 ⟨Nat.zero_le _,beq_eq_false_iff_ne.mpr (Ne.symm (Nat.ne_of_lt hb)),[],.nil,Heap.DictOf.new h⟩
theorem qdw {P:Program} {w:World} {H:Hp} (h:Heap) (hb:sysModules < h.objs.size):ObjOk P w H (h.push { cls:=.type "dict",data:=.dict #[] }) h.objs.size (.dT []) :=
 ⟨Nat.zero_le _,beq_eq_false_iff_ne.mpr (Ne.symm (Nat.ne_of_lt hb)),[],.nil,_,#[],0,Heap.get?_push_size _ rfl,⟨rfl,rfl,rfl⟩,rfl,rfl,List.nodup_nil⟩
def tDNewK:TE:=fun _ H Q=>∀ p,H p=none->Q (.ref p) (upd H p (.dK []))
section
variable {X:Cx} {pos:Pos}
theorem zd:PE X (.Dict [] [] pos) tDNewK:=fun pins s σ H Q I h =>
 wpAny_Dict_empty ⟨.ref s.heap.objs.size,_,I.laid (a:=s.heap.objs.size) (o:=.dK []) (t':=s.toks) (fun _ _ q=>Heap.get?_push_of_some _ q) (Nat.le_refl _) (qdv s.heap I.big),rfl,h _ (I.hok.fresh (Nat.le_refl _))⟩
end
structure M1 (X:Cx) (o:Expr) (m:Str) (apos:Pos) (e:Expr) (cpos:Pos):Prop where
 base:attributeBase o m X.env (eval o X.env)=eval o X.env
 few:((backTo cpos (starEach [e] X.env)).all (fun x=>!x.1) && (backToKw cpos (keywordEach [] X.env)).all (fun x=>x.1.isSome)
  && decide (([e]:List Expr).length+([]:List Keyword).length+(if ([]:List Keyword).isEmpty then 0 else 1) < 30))=true
 line:(apos.endLine == cpos.line)=true
 trees:backTo cpos (starEach [e] X.env)=[(false,eval e X.env)]
structure M2 (X:Cx) (o:Expr) (m:Str) (apos:Pos) (e f:Expr) (cpos:Pos):Prop where
 base:attributeBase o m X.env (eval o X.env)=eval o X.env
 few:((backTo cpos (starEach [e,f] X.env)).all (fun x=>!x.1) && (backToKw cpos (keywordEach [] X.env)).all (fun x=>x.1.isSome)
  && decide (([e,f]:List Expr).length+([]:List Keyword).length+(if ([]:List Keyword).isEmpty then 0 else 1) < 30))=true
 line:(apos.endLine == cpos.line)=true
 trees:backTo cpos (starEach [e,f] X.env)=[(false,eval e X.env),(false,eval f X.env)]
section
variable {X:Cx} {pins:List (Addr × Obj)} {σ:St} {H:Hp} {s:Shared} {a:Addr} {y d:V} {u r:Value} {o:Option V} {A:Around} {E:Value->Shared->Prop}
end
section
variable {X:Cx} {o e f:Expr} {apos cpos:Pos} {td ty tx:TE}
end
section
variable {X:Cx} {pins:List (Addr × Obj)} {σ:St} {H:Hp} {s:Shared} {a:Addr} {kvs:List (Key × V)} {A:Around} {E:Value->Shared->Prop}
end
section
variable {X:Cx} {pins:List (Addr × Obj)} {σ:St} {H:Hp} {s:Shared} {a:Addr} {y:V} {u:Value} {A:Around} {E:Value->Shared->Prop}
end
end L2
namespace Att
open PySem PySem.W PySem.Calls PyProof.Rows
theorem Jl {P:Params} {h:Heap}:∀ (ns:List Int) (vs:List Value),WellAll P h vs (ns.map WData.int)->IntsAre vs ns:=by
 intro ns
 induction ns with
 | nil =>
  intro vs w
  rw [List.map_nil] at w
  cases w
  exact .nil
 | cons n ns ih =>
  intro vs w
  rw [List.map_cons] at w
  cases w with
  | cons a b =>
   cases a
   exact .cons _ _ (ih _ b)
theorem qca {l:OpenLaw} {n:Nat} (hn:l.most=some n) {P:Params} {h:Heap} {args:List WData} {vals:List Value}
  (hpre:l.row.toRowW.claim.pre args=true) (hwl:WellAll P h vals args) :
  ∃ a vs ns,vals=[Value.ref a]/\args=[WData.list (ns.map WData.int)]/\h.get? a=some { cls:=.type "list",data:=.seq vs.toArray }/\IntsAre vs ns/\ns.length<=n:=by
 have hsh:WShape.hasAll [] args [.list .int]=true:=(pre_splitW hpre).1
 have hc:l.pre.holds [] { args:=args }=true:=(pre_splitW hpre).2
 obtain ⟨d,r,rfl,h1,h2⟩:=hasAllW_cons hsh
 obtain rfl:=hasAllW_nil h2
 obtain ⟨xs,rfl,h3⟩:=hasW_list h1
 obtain ⟨ns,rfl⟩:=items_int h3
 have hlen:ns.length<=n:=by
  unfold OpenLaw.pre at hc
  have h4:(WTm.not (.lt (.lit (.int (n:Int))) (.len (.arg 0)))).holds [] { args:=[.list (ns.map .int)] }=true:=by
   have h4:=(holds_andW hc).1
   rw [hn] at h4
   exact h4
  have h5:=condW_of h4 (w_not (w_lt w_lit (w_len_list (w_arg rfl))))
  rw [List.length_map] at h5
  refine Nat.le_of_not_lt fun q=>?_
  have q':(n:Int) < ((ns.length:Nat):Int):=by omega
  first
   | (rw [decide_eq_true q'] at h5;exact absurd h5 (by decide))
   | (simp at h5;omega)
 cases hwl with
 | cons w1 w2 =>
  cases w2
  cases w1 with
  | list ho hall=>exact ⟨_,_,ns,rfl,rfl,ho,Jl ns _ hall,hlen⟩
theorem qcb (l:OpenLaw) (args:List WData):l.row.toRowW.claim.post args (.bool true) args=true :=
 postW_of (r:=l.row.toRowW) (X:=(true == true))
  (show WShape.has [] (.bool true) .bool=true by first | rfl | decide | simp [WShape.has,WShape.arms,WShape.armsAll])
  (show (WTm.eq .res (.lit (.bool true))).value [] { args:=args,res:=some (.bool true),after:=args }=some (.bool (true == true)) from w_eq_bool (w_res rfl) w_lit) rfl
theorem attach_call {l:OpenLaw} {n:Nat} {q:Program} {loose:List Str} {XP:(Str->Option Value)->Heap->Prop} {YP:World->Heap->Prop} {d:DefRec}
  (hn:l.most=some n) (hdf:d.params.defaults=[])
  (call:∀ (w:World) (s₀ s₁:Shared) (mg mb:Str->Option Value) (fa:Addr) (o:Obj) (pm cd doc:Value) (a:Addr) (vs:List Value) (ns:List Int),
   Ground q loose [] XP w s₀ mg mb s₁.heap->YP w s₁.heap ->
   s₁.heap.get? fa=some o->o.data=.func (docDef d.name d.params d.body d.scope pm cd doc)->s₁.heap.CodeRec cd d.name->mg d.name=some (.ref fa) ->
   s₁.heap.get? a=some { cls:=.type "list",data:=.seq vs.toArray }->IntsAre vs ns->ns.length<=n->s₁.gens = #[] ->
   codeAny (model l.prog w) callerA (.call (.ref fa) ⟨[.ref a],[]⟩) (fun r s'=>r=.ok (.ret (.bool true))/\OldK s₁.heap s'.heap/\s'.os=s₁.os/\AllBare s'.gens) s₁) :
  WalkO q loose XP YP l.row.toRowW d [] (fun f vs=>PySem.call f vs):=by
 intro w s₀ s₁ mg mb G Y fa o pm cd doc dV kV ho hd hcd hD hmg hg args vals as hpre hlay hrd hwl hlo
 obtain rfl:dV=.none:=Dflts.none hD hdf
 obtain rfl:kV=.none:=Dflts.noKw hD
 obtain ⟨a,vs,ns,rfl,rfl,hobj,hints,hlen⟩:=qca hn hpre hwl
 refine enter_call (codeAny_mono (call w s₀ s₁ mg mb fa o pm cd doc a vs ns G Y ho (fd_plain hd) hcd hmg hobj hints hlen hg) fun r s' hq=>?_)
 obtain ⟨rfl,h2,h3,h4⟩:=hq
 exact ⟨.inl ⟨.bool true,.bool true,[],rfl,fun _=>rfl,.bool true,qcb l _,fun _=>⟨List.Pairwise.nil,fun _ hm=>(nomatch hm)⟩⟩,h2,h3,h4⟩
section
variable {prog:Program} {w:World} {A:Around} {E:Value->Shared->Prop} {s:Shared} {K:Frag}
def ledger (h:Heap) (L d:Addr):List (Addr × Obj):=(List.range h.objs.size).filterMap fun a=>if a=L\/a=d then none else (h.get? a).map fun o=>(a,o)
end
end Att
namespace L2
open PySem PySem.Spec PyProof.Rows
theorem Zv:∀ {vs:List Value} {ns:List Int},IntsAre vs ns->Vals (ns.map V.int) vs
 | _,_,.nil=>.nil
 | _,_,.cons n t h=>.cons ⟨t,rfl⟩ (Zv h)
def Only (H:Hp):Prop:=∀ b,H b=none\/∃ o xs,H b=some (.frz o (.lst xs))
theorem qdx {P:Program} {w:World} {K:W.Frag} {mg mb:Str->Option Value} {CX:CXT} {k:Nat} {fa a:Addr} {fd:FuncData} {x:Str} {sp:Sp} {s₁:Shared} {vs:List Value} {ns:List Int}
  (KX:K.In s₁.heap) (hns:s₁.heap.Ns mainGlobals mg) (hb:s₁.heap.Ns builtinsNs mb) (hbb:∀ x:Str,x≠"__name__"->mb x=bootBuiltins x) (hlim:s₁.heap.NoLimit) (hg:s₁.gens = #[])
  (ha:s₁.heap.get? a=some { cls:=.type "list",data:=.seq vs.toArray }) (hi:IntsAre vs ns) (hl:ns.length<=sizeLine) (hr:Room k callerA)
  (F:∀ base:Heap,K.In base->base.Ns mainGlobals mg->FnOk P w K mg base CX k fa fd [x] sp) (hbind:∀ (s:Shared) (u:Value),BindsTo s fd ⟨[u],[]⟩ [(x,u)])
  (hsp:∀ H:Hp,Only H->SqL K H a (ns.map V.int)->sp [.ref a] H (fun v _=>v=.bl true) fun _ _ _=>False)
  (hCX:∀ H e s',CX [] H s₁ (fun _ _ _=>False) e s'->False) :
  codeAny (model P w) callerA (.call (.ref fa) ⟨[.ref a],[]⟩) (fun r s'=>r=.ok (.ret (.bool true))/\OldK s₁.heap s'.heap/\s'.os=s₁.os/\AllBare s'.gens) s₁:=by
 have rv:=Zv hi
 have lenV:=hi.length
 -- from an abstract heap in which nothing but the script may be tracked
 have core:∀ H:Hp,Only H->SqL K H a (ns.map V.int)->HOk P w H s₁.heap->(∀ b,H b≠none->b=a)->(H a≠none->K.lookup a=none) ->
   codeAny (model P w) callerA (.call (.ref fa) ⟨[.ref a],[]⟩) (fun r s'=>r=.ok (.ret (.bool true))/\OldK s₁.heap s'.heap/\s'.os=s₁.os/\AllBare s'.gens) s₁:=by
  intro H hO hS hok hA hK
  have base_of:∀ {b:Addr} {o:Obj},s₁.heap.get? b=some o->H b=none->(hidT s₁.heap H).get? b=some o:=fun e n=>qdp e n
  have noA:∀ {b:Addr} {o:Obj} {es:Array DictEntry} {ep:Nat},s₁.heap.get? b=some o->o.data=.dict es ep->H b=none:=fun {b o es ep} e d=>by
   cases q:H b with
   | none=>rfl
   | some u =>
    have e':b=a:=hA b (by rw [q];simp)
    subst e'
    rw [ha] at e;cases e
    have d':Data.seq vs.toArray _=Data.dict es ep:=d
    cases d'
  have nsK:∀ {b:Addr} {m:Str->Option Value},s₁.heap.Ns b m->(hidT s₁.heap H).Ns b m:=fun {b m} ⟨o,es,ep,e,d,r⟩=>⟨o,es,ep,base_of e (noA e d),d,r⟩
  have hKb:K.In (hidT s₁.heap H):=fun b o e=>base_of (KX b o e) (by
   cases q:H b with
   | none=>rfl
   | some u =>
    have e':b=a:=hA b (by rw [q];simp)
    subst e'
    rw [hK (by rw [q];simp)] at e;cases e)
  have hM:Mod K mg (hidT s₁.heap H):=⟨hKb,nsK hns,⟨mb,nsK hb,hbb⟩,let ⟨mc,h1,h2⟩:=hlim;⟨mc,nsK h1,h2⟩⟩
  have e0:Env0 P w K mg (hidT s₁.heap H) callerA [] s₁ H:=⟨rfl,hM,fun b o e=>qfx e,Nat.le_of_eq (qbt _ _),trivial,fun b hb=>absurd (show b∈([]:List Addr) from hb) (by simp),hok,.of_eq hg⟩
  refine codeAny_mono ((F _ hKb (nsK hns)).run callerA [] s₁ H ⟨[.ref a],[]⟩ [.ref a] [.ref a] _ _ hr e0 (hbind s₁ (.ref a)) (.cons rfl .nil) (hsp H hO hS)) fun r s' h=>?_
  cases r with
  | error e=>exact (hCX H e s' h).elim
  | ok fl =>
   cases fl with
   | next=>exact False.elim h
   | brk=>exact False.elim h
   | cont=>exact False.elim h
   | ret u =>
    obtain ⟨v,H',os,bare,un,hok',r',q⟩:=h
    have q':v=.bl true:=q
    subst q'
    obtain rfl:u=Value.bool true:=r'
    refine ⟨rfl,OldK.of_keep fun b o e=>?_,os,bare⟩
    cases q:H b with
    | none=>exact un.keep b o e q (by intro z;exact absurd (show b∈([]:List Addr) from z) (by simp)) (by simp)
    | some u =>
     rcases hO b with z | ⟨ob,xs,z⟩
     ·rw [q] at z;cases z
     ·have z2:=un.frzs b ob _ z
      obtain ⟨e1,_⟩:=hok b _ z
      obtain ⟨e2,_⟩:=hok' b _ z2
      rw [e] at e1;cases e1
      exact e2
 cases hk:K.lookup a with
 | some o =>
  -- the script is one of the module's own objects
  have e:=KX a o hk
  rw [ha] at e
  cases e
  refine core (fun _=>none) (fun _=>.inl rfl) (.inr ⟨_,vs.toArray,_,hk,rfl,rfl,rfl,by rw [List.size_toArray,lenV];exact hl,by simpa using rv⟩) (fun b u z=>by have z':(none:Option HO)=some u:=z;cases z') (fun b z=>absurd rfl z) fun z=>absurd rfl z
 | none =>
  refine core (fun b=>if b=a then some (.frz { cls:=.type "list",data:=.seq vs.toArray } (.lst (ns.map V.int))) else none) (fun b=>?_) (.inl (.inr ⟨{ cls:=.type "list",data:=.seq vs.toArray },if_pos rfl⟩)) (fun b u z=>?_) (fun b z=>?_) fun _=>hk
  ·by_cases hb:b=a
   ·exact .inr ⟨_,_,if_pos hb⟩
   ·exact .inl (if_neg hb)
  ·by_cases hb:b=a
   ·have z':=(if_pos hb).symm.trans z
    cases z'
    subst hb
    exact ⟨ha,by rw [List.length_map];exact hl,vs,_,rv,ha⟩
   ·have z':=(if_neg hb).symm.trans z
    cases z'
  ·by_cases hb:b=a
   ·exact hb
   ·exact absurd (if_neg hb) z
end L2
namespace L2
open PySem PySem.Spec PyProof.Rows
theorem qf6 {l:W.OpenLaw} {n k:Nat} {q:Program} {loose:List Str} {XP:(Str->Option Value)->Heap->Prop} {YP:World->Heap->Prop} {d:DefRec} {K:Params->W.Frag} {CX:World->CXT} {sp:World->Sp} {x:Str}
  (hn:l.most=some n) (hn2:n<=sizeLine) (hdf:d.params.defaults=[]) (hr:Room k callerA)
  (hY:∀ (w:World) (h:Heap),YP w h->(K w.params).In h)
  (F : ∀ (w:World) (mg:Str->Option Value) (fa:Addr) (h:Heap),(K w.params).In h->h.Ns mainGlobals mg->mg d.name=some (.ref fa) ->
   ∃ fd:FuncData,(∀ (s:Shared) (u:Value),BindsTo s fd ⟨[u],[]⟩ [(x,u)]) /\
    ∀ base:Heap,(K w.params).In base->base.Ns mainGlobals mg->FnOk l.prog w (K w.params) mg base (CX w) k fa fd [x] (sp w))
  (hsp:∀ (w:World) (H:Hp) (a:Addr) (ns:List Int),ns.length<=n->Only H->SqL (K w.params) H a (ns.map V.int)->sp w [.ref a] H (fun v _=>v=.bl true) fun _ _ _=>False)
  (hCX:∀ (w:World) (H:Hp) (s:Shared) (e:Value) (s':Shared),CX w [] H s (fun _ _ _=>False) e s'->False) :
  PySem.W.WalkO q loose XP YP l.row.toRowW d [] (fun f vs=>PySem.call f vs):=by
 refine Att.attach_call hn hdf fun w s₀ s₁ mg mb fa o pm cd doc a vs ns G Y ho hd hcd hmg hobj hints hlen hg=>?_
 have KX:=hY w _ Y
 obtain ⟨fd,hb,hF⟩:=F w mg fa _ KX G.T.g hmg
 exact qdx KX G.T.g G.T.b G.T.builtins G.T.nolimit hg hobj hints (Nat.le_trans hlen hn2) hr hF hb (fun H hO hS=>hsp w H a ns hlen hO hS) fun H e s'=>hCX w H s₁ e s'
end L2
namespace L2
open PySem PySem.Spec PyProof.Rows
def defArgs (s:Stmt):Arguments:=match s with
 | .FunctionDef _ a _ _ _ _ _ _ _ _=>a
 | _=>{ posonlyargs:=[],args:=[],vararg:=none,kwonlyargs:=[],kw_defaults:=[],kwarg:=none,defaults:=[] }
def defBody (s:Stmt):List Stmt:=match s with
 | .FunctionDef _ _ b _ _ _ _ _ _ _=>b
 | _=>[]
def defScope (s:Stmt):Scope:=match s with
 | .FunctionDef _ _ _ _ _ _ sc _ _ _=>sc
 | _=>{ kind:=.function,names:=[],isGenerator:=false,isCoroutine:=false }
abbrev CX0:CXT:=fun _ _ _ _ _ _=>False
abbrev E0:XK:=fun _ _ _=>False
theorem pass0 {X:Cx}:Passes CX0 X E0:=fun _ _ _ _ _ _ _ h=>h.elim
structure Fun (K:W.Frag) (x qual:Str) (st:Stmt) (f:Addr) (fd:FuncData):Prop where
 ex : ∃ (oc:Value) (od:Option Addr) (kV doc pm:Value) (an:Option Addr) (cdv ct:Value) (osl:Array (Option Value)),
  fd=W.fnOf x qual (defArgs st) (defBody st) (defScope st) .none kV doc pm an cdv ct/\K.lookup f=some ⟨oc,od,.func fd,osl⟩/\W.codeIn K cdv qual=true
 kp:W.keepIn K (.ref f)=true
section
variable {P:Program} {w:World} {K:W.Frag} {mg:Str->Option Value} {base:Heap}
theorem Fun.ok {x qual:Str} {st:Stmt} {f:Addr} {fd:FuncData} {N ps:List Str} {k:Nat} {sp:Sp} (F:Fun K x qual st f fd) (S:FnScope N ps (defScope st)) (len:∀ vs H Q E,sp vs H Q E->vs.length=ps.length)
  (hbody:∀ (cdv:Value) (A:Around) (outer:List Env) (s:Shared) (H:Hp) (vs:List V) (Q:VK) (E:XK),Room k (A.deeper (envOfC qual (defScope st) s.heap.objs.size f cdv))->sp vs H Q E ->
   ∃ t,PSs (cxOf CX0 P w K mg base N qual (defScope st) f cdv A outer s H E).nox (defBody st) t/\t { nx:=fun _ H'=>Q .non H',rt:=Q } (start N vs) H):FnOk P w K mg base CX0 (k+1) f fd ps sp:=by
 obtain ⟨oc,od,kV,doc,pm,an,cdv,ct,osl,rfl,lk,hcd⟩:=F.ex
 refine qif lk hcd S len fun A outer s H vs Q E hr hsp=>?_
 obtain ⟨t,h,q⟩:=hbody cdv A outer s H vs Q E hr hsp
 exact ⟨t,h.nox,q⟩
theorem Fun.binds {x qual:Str} {st:Stmt} {f:Addr} {fd:FuncData} {ps:List Str} (F:Fun K x qual st f fd)
  (h:∀ (kV doc pm:Value) (an:Option Addr) (cdv ct:Value) (us:List Value),us.length=ps.length->bindArgs (W.fnOf x qual (defArgs st) (defBody st) (defScope st) .none kV doc pm an cdv ct) ⟨us,[]⟩=pure (ps.zip us)):Binds K fd ps []:=by
 obtain ⟨oc,od,kV,doc,pm,an,cdv,ct,osl,rfl,lk,hcd⟩:=F.ex
 exact .all (h kV doc pm an cdv ct)
theorem qt {x qual:Str} {st:Stmt} {f:Addr} {oc:Value} {od an:Option Addr} {osl:Array (Option Value)} {kV doc pm cdv ct:Value} (l:K.lookup f=some ⟨oc,od,.func (W.fnOf x qual (defArgs st) (defBody st) (defScope st) .none kV doc pm an cdv ct),osl⟩)
  (c:W.codeIn K cdv qual=true) (k:W.keepIn K (.ref f)=true):Fun K x qual st f (W.fnOf x qual (defArgs st) (defBody st) (defScope st) .none kV doc pm an cdv ct):=⟨⟨oc,od,kV,doc,pm,an,cdv,ct,osl,rfl,l,c⟩,k⟩
end
theorem zo {A:Around} {k:Nat} (hr:Room k A):A.units+1 < cLine:=Nat.lt_of_le_of_lt (Nat.add_le_add_left (by decide:1<=64) _) hr.units
theorem small1000 {n:Nat} (h:n<=1000):n < sizeLine:=Nat.lt_of_le_of_lt h (by decide)
section
variable {X:Cx}
theorem pv (i:Nat) {x:Str} {pos:Pos} (hN:X.N[i]? = some x:=by rfl) (hv:Vis X.env.scope x:=by first | exact Or.inl rfl | exact Or.inr (Or.inl rfl) | exact Or.inr (Or.inr rfl)) (hd:(x == ("__debug__" : Str))=false:=by decide)
  (hcd:(x == ("__classdict__" : Str))=false:=by decide):PE X (.Name x pos) (tVar i):=qh4 hN hv hd hcd
end
theorem iteF {A B:Prop} (h:B):if false=true then A else B:=by
 rw [if_neg Bool.false_ne_true]
 exact h
theorem iteT {A B:Prop} (h:A):if true=true then A else B:=by
 rw [if_pos rfl]
 exact h
theorem ite2 {c A B:Prop} [Decidable c] (h1:c->A) (h2:¬ c->B):if c then A else B:=by
 by_cases h:c
 ·rw [if_pos h]
  exact h1 h
 ·rw [if_neg h]
  exact h2 h
theorem iteNS {c A B:Prop} [Decidable c] (hc:c) (h:B):if (!decide c)=true then A else B:=by
 rw [decide_eq_true hc]
 exact iteF h
def Same (H H':Hp):Prop:=∀ b o,H b=some o->H' b=some o
theorem Same.refl (H:Hp):Same H H:=fun _ _ h=>h
theorem Same.trans {H H1 H2:Hp} (a:Same H H1) (b:Same H1 H2):Same H H2:=fun c o h=>b c o (a c o h)
theorem Same.free {H H':Hp} (e:Same H H') {l:Addr} (h:H' l=Option.none):H l=Option.none:=by
 cases q:H l with
 | none=>rfl
 | some o =>
  rw [e l o q] at h
  cases h
theorem Same.seq {K:W.Frag} {H H':Hp} {a:Addr} {xs:List V} (e:Same H H') (h:SqL K H a xs):SqL K H' a xs:=by
 rcases h with (h | ⟨o,h⟩) | h
 ·exact .inl (.inl (e _ _ h))
 ·exact .inl (.inr ⟨o,e _ _ h⟩)
 ·exact .inr h
section
variable {X:Cx}
end
section
variable {κ:Type} [DecidableEq κ]
theorem qcc:∀ {l:List κ} {k:κ},l.Nodup->¬ k∈l->(l++[k]).Nodup
 | [],k,_,_=>by simp
 | a :: r,k,h,hk=>by
  obtain ⟨h1,h2⟩:=List.nodup_cons.mp h
  show (a :: (r++[k])).Nodup
  refine List.nodup_cons.mpr ⟨fun m=>?_,qcc h2 fun m=>hk (List.mem_cons.mpr (Or.inr m))⟩
  rcases List.mem_append.mp m with q | q
  ·exact h1 q
  ·exact hk (List.mem_cons.mpr (Or.inl (List.mem_singleton.mp q).symm))
end
end L2
namespace L2
open PySem PySem.Spec PyProof.Rows
theorem ym {env:Env} (f:Str × NameKind->List (Str × Addr)->Sem (ForInStep (List (Str × Addr))))
  (hf:∀ name kind cs,f (name,kind) cs=if kind == .free then (do let a <- cellOf env name;pure (.yield ((name,a) :: cs))) else pure (.yield cs)) :
  ∀ (names:List (Str × NameKind)) (acc:List (Str × Addr)),(∀ p∈names,p.2=.free->∃ c,env.cells.lookup p.1=some c) ->
   (∀ x c,acc.lookup x=some c->env.cells.lookup x=some c) ->
   ∃ cl,(forIn names acc f:Sem _)=pure cl/\(∀ x c,cl.lookup x=some c->env.cells.lookup x=some c)/\(∀ p∈names,p.2=.free->(cl.lookup p.1).isSome=true)/\(∀ x,(acc.lookup x).isSome=true->(cl.lookup x).isSome=true)
 | [],acc,_,ha=>⟨acc,by rw [List.forIn_nil],ha,(fun _ h=>by cases h),fun _ h=>h⟩
 | (n,k) :: r,acc,hn,ha=>by
  rw [List.forIn_cons,hf]
  by_cases hk:k=.free
  ·subst hk
   obtain ⟨c,hc⟩:=hn (n,.free) List.mem_cons_self rfl
   obtain ⟨cl,e,h1,h2,h3⟩:=ym f hf r ((n,c) :: acc) (fun p hp=>hn p (List.mem_cons_of_mem _ hp)) (fun x d hx=>by
    rw [List.lookup_cons] at hx
    cases hb:x == n with
    | true=>rw [hb] at hx;cases hx;rw [beq_iff_eq.mp hb];exact hc
    | false=>rw [hb] at hx;exact ha x d hx)
   refine ⟨cl,?_,h1,fun p hp hpf=>?_,fun x hx=>h3 x ?_⟩
   ·have ec:cellOf env n=pure c:=by unfold cellOf;rw [hc]
    rw [if_pos (by rfl),ec]
    simpa using e
   ·rcases List.mem_cons.mp hp with z | z
    ·subst z;exact h3 n (by rw [List.lookup_cons];simp)
    ·exact h2 p z hpf
   ·rw [List.lookup_cons]
    cases hb:x == n with
    | true=>rfl
    | false=>exact hx
  ·obtain ⟨cl,e,h1,h2,h3⟩:=ym f hf r acc (fun p hp=>hn p (List.mem_cons_of_mem _ hp)) ha
   refine ⟨cl,?_,h1,fun p hp hpf=>?_,h3⟩
   ·have hb:(k == NameKind.free)=false:=by simpa using hk
    rw [hb]
    simpa using e
   ·rcases List.mem_cons.mp hp with z | z
    ·subst z;exact absurd hpf hk
    ·exact h2 p z hpf
theorem Vq {env:Env} {scope:Scope} (h:∀ p∈scope.names,p.2=.free->∃ c,env.cells.lookup p.1=some c) :
  ∃ cl,closureFor scope env=pure cl/\(∀ x c,cl.lookup x=some c->env.cells.lookup x=some c)/\(∀ p∈scope.names,p.2=.free->(cl.lookup p.1).isSome=true):=by
 unfold closureFor
 obtain ⟨cl,e,h1,h2,_⟩:=ym (env:=env) (fun x r=>match x,r with
  | (name,kind),cs=>if kind == .free then (do let a <- cellOf env name;pure (.yield ((name,a) :: cs))) else pure (.yield cs)) (fun _ _ _=>rfl) scope.names [] h (fun _ _ z=>nomatch z)
 refine ⟨cl,?_,h1,h2⟩
 have e':=congrArg (fun t:Sem (List (Str × Addr))=>t >>= fun cs=>pure cs) e
 first
  | simpa using e'
  | (simp only [pure_bind,bind_pure] at e' ⊢;exact e')
theorem Jm:∀ (names:List (Str × NameKind)) (n:Nat) (acc:List (Str × Addr)),(∀ (x y:Str) (c:Nat),acc.lookup x=some c->acc.lookup y=some c->x=y)->(∀ (x:Str) (c:Nat),acc.lookup x=some c->c < n) ->
  (∀ (x y:Str) (c:Nat),(cellsFrom n names acc).lookup x=some c->(cellsFrom n names acc).lookup y=some c->x=y)/\(∀ (x:Str) (c:Nat),(cellsFrom n names acc).lookup x=some c->acc.lookup x=some c\/n<=c)
 | [],n,acc,h,hl=>⟨h,fun _ _ z=>.inl z⟩
 | (nm,k) :: r,n,acc,h,hl=>by
  unfold cellsFrom
  split
  ·have lt:∀ (x:Str) (c:Nat),List.lookup x ((nm,n) :: acc)=some c->(x=nm/\c=n)\/(x≠nm/\acc.lookup x=some c):=fun x c e=>by
    rw [List.lookup_cons] at e
    cases hb:x == nm with
    | true=>rw [hb] at e;cases e;exact .inl ⟨beq_iff_eq.mp hb,rfl⟩
    | false=>rw [hb] at e;exact .inr ⟨by simpa using hb,e⟩
   obtain ⟨a,b⟩:=Jm r (n+1) ((nm,n) :: acc) (fun x y c e1 e2=>by
    rcases lt x c e1 with ⟨z1,z2⟩ | ⟨z1,z2⟩ <;> rcases lt y c e2 with ⟨w1,w2⟩ | ⟨w1,w2⟩
    ·rw [z1,w1]
    ·have:=hl y c w2;omega
    ·have:=hl x c z2;omega
    ·exact h x y c z2 w2) (fun x c e=>by
    rcases lt x c e with ⟨z1,z2⟩ | ⟨z1,z2⟩
    ·omega
    ·have:=hl x c z2;omega)
   refine ⟨a,fun x c e=>?_⟩
   rcases b x c e with z | z
   ·rcases lt x c z with ⟨z1,z2⟩ | ⟨z1,z2⟩
    ·exact .inr (by omega)
    ·exact .inl z2
   ·exact .inr (by omega)
  ·exact Jm r n acc h hl
theorem Jn {x:Str}:∀ (names:List (Str × NameKind)) (n:Nat) (acc:List (Str × Addr)),(∀ p∈names,p.1=x->p.2≠.cell)->(cellsFrom n names acc).lookup x=acc.lookup x
 | [],_,_,_=>rfl
 | (nm,k) :: r,n,acc,h=>by
  unfold cellsFrom
  split
  ·rename_i hk
   have hk':k=.cell:=by simpa using hk
   have ne:x≠nm:=fun e=>h (nm,k) List.mem_cons_self e.symm hk'
   rw [Jn r (n+1) ((nm,n) :: acc) fun p hp=>h p (List.mem_cons_of_mem _ hp),List.lookup_cons]
   have:(x == nm)=false:=by simpa using ne
   rw [this]
  ·exact Jn r n acc fun p hp=>h p (List.mem_cons_of_mem _ hp)
theorem yw {x:Str} {c:Nat}:∀ (names:List (Str × NameKind)) (n:Nat) (acc:List (Str × Addr)) (d:Nat),acc.lookup x=some d->d<=n->(cellsFrom n names acc).lookup x=some c->d<=c
 | [],_,_,_,h,_,e=>by
  have e':_=some c:=e
  unfold cellsFrom at e'
  rw [h] at e';cases e';exact Nat.le_refl _
 | (nm,k) :: r,n,acc,d,h,hd,e=>by
  unfold cellsFrom at e
  split at e
  ·cases hb:x == nm with
   | true =>
    have:=yw r (n+1) ((nm,n) :: acc) n (by rw [List.lookup_cons,hb]) (Nat.le_succ _) e
    omega
   | false=>exact yw r (n+1) ((nm,n) :: acc) d (by rw [List.lookup_cons,hb];exact h) (Nat.le_succ_of_le hd) e
  ·exact yw r n acc d h hd e
theorem V1 {x:Str} {c:Nat}:∀ (names:List (Str × NameKind)) (n:Nat) (acc:List (Str × Addr)),(∀ (y:Str) (d:Nat),acc.lookup y=some d->d < n)->names.lookup x=some .cell->(cellsFrom n names acc).lookup x=some c->n<=c
 | [],_,_,_,h,_=>by cases h
 | (nm,k) :: r,n,acc,ha,h,e=>by
  rw [List.lookup_cons] at h
  unfold cellsFrom at e
  cases hb:x == nm with
  | true =>
   rw [hb] at h
   cases h
   rw [if_pos (by rfl)] at e
   by_cases hr:r.lookup x=some .cell
   ·have:=V1 r (n+1) ((nm,n) :: acc) (fun y d z=>by
     rw [List.lookup_cons] at z
     cases hy:y == nm with
     | true=>rw [hy] at z;cases z;omega
     | false=>rw [hy] at z;have:=ha y d z;omega) hr e
    omega
   ·exact yw r (n+1) ((nm,n) :: acc) n (by rw [List.lookup_cons,hb]) (Nat.le_succ _) e
  | false =>
   rw [hb] at h
   split at e
   ·have:=V1 r (n+1) ((nm,n) :: acc) (fun y d z=>by
     rw [List.lookup_cons] at z
     cases hy:y == nm with
     | true=>rw [hy] at z;cases z;omega
     | false=>rw [hy] at z;have:=ha y d z;omega) h e
    omega
   ·exact V1 r n acc ha h e
theorem Jo:∀ (names:List (Str × NameKind)) (h:Heap) (acc:List (Str × Addr)) (x:Str) (c:Addr),(∀ x c,acc.lookup x=some c->∃ v,h.IsCell c v)->(cellsFrom h.objs.size names acc).lookup x=some c->∃ v,(pushCells h names).IsCell c v
 | [],h,acc,x,c,ha,e=>ha x c e
 | (nm,k) :: r,h,acc,x,c,ha,e=>by
  unfold cellsFrom at e
  unfold pushCells
  split at e
  ·rename_i hk
   rw [if_pos hk]
   refine Jo r (h.push { cls:=.type "cell",data:=.cell none }) ((nm,h.objs.size) :: acc) x c (fun y d z=>?_) (by rw [Heap.size_push];exact e)
   rw [List.lookup_cons] at z
   cases hb:y == nm with
   | true=>rw [hb] at z;cases z;exact ⟨none,_,Heap.get?_push_size _ rfl,rfl⟩
   | false =>
    rw [hb] at z
    obtain ⟨v,q⟩:=ha y d z
    exact ⟨v,q.keeps fun b o e=>Heap.get?_push_of_some _ e⟩
  ·rename_i hk
   rw [if_neg hk]
   exact Jo r h acc x c ha e
end L2
namespace L2
open PySem PySem.Spec PyProof.Rows
section
variable {prog:Program} {w:World} {A:Around} {E:Value->Shared->Prop} {R:Result->Shared->Prop} {s:Shared}
theorem Jp {elt target iter:Expr} {ifs:List Expr} {scope:Scope} {pos:Pos} {it acc:Value} {env:Env} (I:Nat->Shared->Prop)
  (turn:∀ n s,I n s->wpAny (model prog w) A (pyNext it) (fun r s₁=>match r with
   | none=>R (.ok .next) s₁
   | some v=>wpAny (model prog w) A (letOwnedTupleGo target it v) (fun _ s₁=>wpAny (model prog w) A (assign target env v) (fun _ s₂ =>
     wpAny (model prog w) A (forIn ifs true fun c r=>if r=true then do let ok <- isTrue c env (eval c env);pure (ForInStep.yield ok) else pure (ForInStep.yield r)) (fun ok s₃ =>
      if ok=true then wpAny (model prog w) A (eval elt env) (fun x s₄ =>
       wpAny (model prog w) A (call (.builtin "list.append") [acc,x]) (fun _ s₅=>∃ m,m < n/\I m s₅) (fun _ _=>False) s₄) (fun _ _=>False) s₃
      else ∃ m,m < n/\I m s₃) (fun _ _=>False) s₂) (fun _ _=>False) s₁) (fun _ _=>False) s₁) (fun _ _=>False) s)
  (n:Nat) (h:I n s) :
  codeAny (model prog w) A (.compLoop (.ListComp elt [⟨target,iter,ifs,0⟩] scope pos) 0 it acc env) R s:=by
 refine codeAny_loop rfl I (fun n s hI=>?_) n h
 show wpAny _ A ((compTurn (.ListComp elt [⟨target,iter,ifs,0⟩] scope pos) 0 it acc env).onRaise (fun x=>do noteFrame x env;theTreesLotGoes x)) _ _ s
 refine wpAny_noted ?_
 rw [compTurn_list]
 refine wpAny_bind (wpAny_standAt (wpAny_bind (wpAny_mono (turn n s hI) (fun r s₁ h₁=>?_) fun _ _ h'=>h'.elim)))
 cases r with
 | none=>exact wpAny_pure h₁
 | some v =>
  refine wpAny_bind (wpAny_mono h₁ (fun _ s₁ h₁=>?_) fun _ _ h'=>h'.elim)
  refine wpAny_bind (wpAny_mono h₁ (fun _ s₂ h₂=>wpAny_bind (wpAny_mono h₂ (fun ok s₃ h₃=>?_) fun _ _ h'=>h'.elim)) fun _ _ h'=>h'.elim)
  cases ok with
  | false=>exact wpAny_pure ⟨rfl,h₃⟩
  | true =>
   exact wpAny_bind (wpAny_bind (wpAny_mono h₃ (fun x s₄ h₄=>wpAny_bind (wpAny_mono h₄ (fun _ s₅ h₅=>wpAny_pure (wpAny_pure ⟨rfl,h₅⟩)) fun _ _ h'=>h'.elim)) fun _ _ h'=>h'.elim))
end
abbrev compCx (X:Cx) (scope:Scope) (N':List Str) (cells:List (Str × Addr)) (C:Addr) (s₀:Shared) (H₀:Hp) (ex:List Addr) (pn:List (Addr × Obj)):Cx where
 prog:=X.prog
 w:=X.w
 K:=X.K
 mg:=X.mg
 base:=X.base
 A:=X.A
 N:=N'
 s₀:=s₀
 H₀:=H₀
 env:={ scope:=relabel scope X.env,locals:=C,globals:=X.env.globals,cells:=cells,qual:=X.env.qual,func:=none,code:=X.env.code,frame:=X.env.frame,builtins:=X.env.builtins }
 outer:=X.stack
 stack:=X.stack
 ex:=ex
 fn:=fun x=>scope.names.lookup x == some .cell
 calm:=X.calm
 pn:=pn
 xe:=fun _ _=>False
def cst (ix:List (Option Nat)) (σ:St):St:=ix.map fun o=>o.bind fun j=>(σ[j]?).bind id
def compChk (X:Cx) (scope:Scope) (N':List Str) (ix:List (Option Nat)):Bool :=
 scope.names.all (fun p=>scope.names.lookup p.1 == some p.2) &&
 scope.names.all (fun p=>!(p.2 == .free) || X.env.scope.names.lookup p.1 == some .cell || X.env.scope.names.lookup p.1 == some .free) &&
 ix.length == N'.length &&
 (N'.zip ix).all (fun p=>match p.2 with | none=>true | some j=>X.N[j]? == some p.1 && scope.names.lookup p.1 == some .free) && scope.kind == .function
def PTs (X:Cx) (ifs:List Expr) (t:TT):Prop :=
 ∀ (pins:List (Addr × Obj)) (s:Shared) (σ:St) (H:Hp) (Q:Bool->Hp->Prop),Inv X pins σ H s->t σ H Q ->
  wpAny (model X.prog X.w) X.A (forIn ifs true fun c r=>if r=true then do let ok <- isTrue c X.env (eval c X.env);pure (ForInStep.yield ok) else pure (ForInStep.yield r)) (TP X pins σ Q) X.xe s
def tAll:TT:=fun _ H Q=>Q true H
theorem qv {X:Cx}:PTs X [] tAll:=fun _ _ _ H _ I h=>wpAny_tests_nil ⟨H,I,h⟩
theorem yn {X:Cx} {c:Expr} {t:TT} (h:PT X c t):PTs X [c] t:=fun pins s σ H Q I q=>wpAny_tests_one (h pins s σ H Q I q)
def tComp (ix:List (Option Nat)) (wi:TI) (g:TG) (tc:TT) (te:TE):TE:=fun σ H Q=>wi σ H fun J H1=>∃ W:Nat->Nat->List V->St->Hp->Prop,(∃ m,W 0 m [] (cst ix σ) H1)/\∀ i m ys τ H,W i m ys τ H ->
 (J.stop i H/\∀ D,H D=none->Q (.ref D) (upd H D (.lst ys))) \/
 (J.go i H/\ys.length < sizeLine/\∃ N:List V->St->Hp->Prop,(∀ ys' τ' H',N ys' τ' H'->∃ m',m' < m/\W (i+1) m' ys' τ' H') /\
  ∀ x H',J.yld i H x H'->g x τ H' fun τ2 H2=>tc τ2 H2 fun b H3=>if b=true then te τ2 H3 (fun y H4=>N (ys++[y]) τ2 H4) else N ys τ2 H3)
def rlF (env:Env) (p:Str × NameKind):Str × NameKind:=if (p.2 == NameKind.free && env.scope.kind == .function && env.kindOf p.1 == some .cell)=true then (p.1,NameKind.cell) else (p.1,p.2)
theorem qf7 (env:Env) (p:Str × NameKind):(rlF env p).1=p.1:=by unfold rlF;split <;> rfl
theorem Vr {f:Str × NameKind->Str × NameKind} (hf:∀ p,(f p).1=p.1) (x:Str):∀ names:List (Str × NameKind),(names.map f).lookup x=(names.lookup x).map fun k=>(f (x,k)).2
 | []=>rfl
 | (n,k) :: r=>by
  rw [List.map_cons]
  obtain ⟨a,b,e⟩:∃ a b,f (n,k)=(a,b):=⟨_,_,rfl⟩
  have ha:a=n:=by have:=hf (n,k);rw [e] at this;exact this
  subst ha
  rw [e,List.lookup_cons,List.lookup_cons,Vr hf x r]
  cases hb:x == a with
  | true =>
   have:x=a:=beq_iff_eq.mp hb
   subst this
   show some b=some (f (x,k)).2
   rw [e]
  | false=>rfl
theorem zi (scope:Scope) (env:Env) (x:Str):(relabel scope env).names.lookup x=(scope.names.lookup x).map fun k=>(rlF env (x,k)).2:=Vr (qf7 env) x scope.names
theorem Zw {scope:Scope} {env:Env} {x:Str} (h:scope.names.lookup x=some .free):(relabel scope env).names.lookup x=some .cell\/(relabel scope env).names.lookup x=some .free:=by
 rw [zi,h]
 show some (rlF env (x,.free)).2=_\/some (rlF env (x,.free)).2=_
 unfold rlF
 by_cases hc:((x,NameKind.free).snd == NameKind.free && env.scope.kind == ScopeKind.function && env.kindOf (x,NameKind.free).fst == some NameKind.cell)=true
 ·rw [if_pos hc];exact .inl rfl
 ·rw [if_neg hc];exact .inr rfl
theorem Zx {scope:Scope} {env:Env} {x:Str} (h:(relabel scope env).names.lookup x=some .cell\/(relabel scope env).names.lookup x=some .free):scope.names.lookup x=some .cell\/scope.names.lookup x=some .free:=by
 rw [zi] at h
 cases e:scope.names.lookup x with
 | none=>rw [e] at h;rcases h with h | h <;> cases h
 | some k =>
  rw [e] at h
  have h':(rlF env (x,k)).2=.cell\/(rlF env (x,k)).2=.free:=by
   rcases h with h | h
   ·exact .inl (Option.some.inj h)
   ·exact .inr (Option.some.inj h)
  unfold rlF at h'
  split at h'
  ·rename_i hc
   have:k=.free:=by
    have:=(Bool.and_eq_true_iff.mp (Bool.and_eq_true_iff.mp hc).1).1
    simpa using this
   exact .inr (by rw [this])
  ·rcases h' with z | z
   ·have z':k=.cell:=z
    exact .inl (by rw [z'])
   ·have z':k=.free:=z
    exact .inr (by rw [z'])
end L2
namespace L2
open PySem PySem.Spec PyProof.Rows
abbrev lobj (its:List Value) (n:Nat):Obj:={ cls:=.type "list",data:=.seq its.toArray n }
section
variable {X:Cx} {pins:List (Addr × Obj)} {σ:St} {H:Hp} {s:Shared}
theorem HOk.add {P:Program} {w:World} {h:Heap} {D:Addr} {o:HO} (x:HOk P w H h) (hn:H D=none) (new:ObjOk P w (upd H D o) h D o):HOk P w (upd H D o) h:=fun b u e=>by
 by_cases hb:b=D
 ·subst hb;rw [upd_same] at e;cases e;exact new
 ·rw [qe hb] at e
  exact (x b u e).stay (fun c v _ q=>q) (fun c q=>by rw [qe (ne_of_none q hn)];exact q) fun c xs q=>by rw [qe (ne_of_none q hn)];exact q
theorem HOk.but {P:Program} {w:World} {h h':Heap} {C:Addr} (x:HOk P w H h) (hn:H C=none) (sb:Heap.SameBut C h h'):HOk P w H h':=fun b u e=>by
 refine (x b u e).stay (fun c v hc q=>(sb.2 c ?_).trans q) (fun _ q=>q) fun _ _ q=>q
 rintro rfl
 rcases hc with rfl | hc
 ·rw [hn] at e;cases e
 ·rw [hn] at hc;cases hc
end
theorem comp_inv {X:Cx} {pins:List (Addr × Obj)} {σ:St} {H2:Hp} {s2:Shared} {scope:Scope} {N':List Str} {ix:List (Option Nat)} {cl:List (Str × Addr)} {fp:List Addr}
  (c1:∀ p∈scope.names,scope.names.lookup p.1=some p.2) (c3:ix.length=N'.length)
  (c2:∀ p∈scope.names,p.2=.free->X.env.scope.names.lookup p.1=some .cell\/X.env.scope.names.lookup p.1=some .free)
  (c4:∀ (i:Nat) (x:Str) (j:Nat),N'[i]? = some x->ix[i]? = some (some j)->X.N[j]? = some x/\scope.names.lookup x=some .free) (ck:scope.kind=.function)
  (cl1:∀ x c,cl.lookup x=some c->X.env.cells.lookup x=some c) (cl2:∀ p∈scope.names,p.2=.free->(cl.lookup p.1).isSome=true)
  (I2:Inv X pins σ H2 s2) (f2:∀ b∈fp,FpOk X pins H2 b) (o2:∀ b∈fp,∃ o,s2.heap.get? b=some o/\∀ v,o.data≠.cell v) :
  Inv (compCx X scope N' (cellsFrom (s2.heap.objs.size+2) scope.names cl) (s2.heap.objs.size+1) s2 H2 fp []) [(s2.heap.objs.size,lobj [] 0)] (cst ix σ) H2
   { s2 with heap:=pushCells ((s2.heap.push (lobj [] 0)).push { cls:=.type "dict",data:=.dict #[] }) scope.names }:=by
 have sz3:(s2.heap.push (lobj [] 0)).objs.size=s2.heap.objs.size+1:=Heap.size_push ..
 have sz4:((s2.heap.push (lobj [] 0)).push { cls:=.type "dict",data:=.dict #[] }).objs.size=s2.heap.objs.size+2:=by rw [Heap.size_push,sz3]
 have keep:∀ b o,s2.heap.get? b=some o->(pushCells ((s2.heap.push (lobj [] 0)).push { cls:=.type "dict",data:=.dict #[] }) scope.names).get? b=some o:=fun b o e =>
  pushCells_keeps _ _ b o (Heap.get?_push_of_some _ (Heap.get?_push_of_some _ e))
 have cllt:∀ (x:Str) (c:Nat),cl.lookup x=some c->c < s2.heap.objs.size:=fun x c e=>by
  obtain ⟨v,q⟩:=I2.cell x c (cl1 x c e)
  exact q.lt
 obtain ⟨ci,cc⟩:=Jm scope.names (s2.heap.objs.size+2) cl (fun x y c e1 e2=>I2.ok.inj x y c (cl1 x c e1) (cl1 y c e2)) (fun x c e=>by have:=cllt x c e;omega)
 have cell:∀ x c,(cellsFrom (s2.heap.objs.size+2) scope.names cl).lookup x=some c->∃ v,(pushCells ((s2.heap.push (lobj [] 0)).push { cls:=.type "dict",data:=.dict #[] }) scope.names).IsCell c v:=fun x c e=>by
  refine Jo scope.names _ cl x c (fun y d z=>?_) (by rw [sz4];exact e)
  obtain ⟨v,q⟩:=I2.cell y d (cl1 y d z)
  exact ⟨v,q.keeps fun b o e=>Heap.get?_push_of_some _ (Heap.get?_push_of_some _ e)⟩
 have lt2:∀ (b:Nat),b∈fp->b < s2.heap.objs.size:=fun b hb=>by
  obtain ⟨o,e,_⟩:=o2 b hb
  exact Heap.lt_size e
 refine ⟨⟨I2.ok.mod,ck,I2.ok.glob,I2.ok.blt,Nat.le_succ _,ci,fun x hx=>?_,fun x c hf e=>?_,I2.ok.hd,I2.ok.frames,.inl rfl,fun b hb=>⟨?_,fun x c e=>?_⟩,I2.bs,Nat.le_trans I2.ok.bsz I2.sz,fun b o e hb=>?_,fun b hb z=>?_,I2.stack,I2.stkFree⟩,
  rfl,I2.bare,Un.kept keep,⟨fun _=>none,?_,fun i x v e1 e2 e3=>?_⟩,cell,?_,fun x c e=>?_,fun p hp=>?_,I2.hok.kept keep,?_⟩
 ·-- has
  have hx':=Zx (scope:=scope) (env:=X.env) (x:=x) hx
  rcases hx' with z | z
  ·exact Option.isSome_iff_exists.mp (W.cellsFrom_some scope.names _ cl (.inl z))
  ·exact Option.isSome_iff_exists.mp (W.cellsFrom_some scope.names _ cl (.inr (cl2 (x,.free) (PySem.mem_of_lookup z) rfl)))
 ·-- cab
  have hf':scope.names.lookup x=some .cell:=by simpa using hf
  have:=V1 scope.names (s2.heap.objs.size+2) cl (fun x c e=>by have:=cllt x c e;omega) hf' e
  show s2.heap.objs.size<=c
  omega
 ·-- ex: not the frame
  exact Nat.ne_of_lt (Nat.lt_succ_of_lt (lt2 b hb))
 ·-- ex: no cell
  rcases cc x c e with z | z
  ·exact (f2 b hb).2.2.2.2.1 x c (cl1 x c z)
  ·exact Nat.ne_of_gt (Nat.lt_of_lt_of_le (lt2 b hb) (Nat.le_trans (Nat.le_add_right _ 2) z))
 ·-- base objects are not iterators
  rcases (f2 b hb).2.2.2.1 with z | z
  ·exact I2.ok.noex b o e z
  ·exact absurd (Nat.lt_of_lt_of_le (Nat.lt_of_lt_of_le (Heap.lt_size e) I2.ok.bsz) z) (Nat.lt_irrefl _)
 ·rcases List.mem_cons.mp (I2.stkSub b z) with q | q
  ·exact (f2 b hb).2.1 q
  ·exact (f2 b hb).2.2.1 q
 ·-- the new frame
  have:=Heap.Ns.new (s2.heap.push (lobj [] 0)) (.type "dict")
  rw [sz3] at this
  exact this.keeps (pushCells_keeps _ _)
 ·-- what is seen
  unfold cst at e2
  rw [List.getElem?_map] at e2
  cases ej:ix[i]? with
  | none=>rw [ej] at e2;cases e2
  | some o =>
   rw [ej] at e2
   cases o with
   | none=>cases e2
   | some j =>
    obtain ⟨n1,n2⟩:=c4 i x j e1 ej
    have e2':((σ[j]?).bind id)=some v:=Option.some.inj e2
    have eσ:σ[j]? = some (some v):=by
     cases q:σ[j]? with
     | none=>rw [q] at e2';cases e2'
     | some q'=>rw [q] at e2';cases q' with
      | none=>cases e2'
      | some q''=>cases e2';rfl
    have hv:Vis X.env.scope x:=by
     rcases c2 (x,.free) (PySem.mem_of_lookup n2) rfl with z | z
     ·exact .inr (.inl z)
     ·exact .inr (.inr z)
    obtain ⟨m,hn,hl⟩:=I2.loc
    obtain ⟨u,ru,lk⟩:=hl j x v n1 eσ hv
    refine ⟨u,ru,.inr ⟨Zw (scope:=scope) (env:=X.env) n2,?_⟩⟩
    rcases lk with ⟨z,_⟩ | ⟨_,c,ec,q⟩
    ·exfalso
     rcases c2 (x,.free) (PySem.mem_of_lookup n2) rfl with z' | z' <;> (have z2:X.env.scope.names.lookup x=some .local:=z;rw [z2] at z';cases z')
    ·refine ⟨c,?_,q.keeps keep⟩
     show (cellsFrom (s2.heap.objs.size+2) scope.names cl).lookup x=some c
     rw [Jn scope.names _ cl fun p hp e hpc=>by
      have q1:=c1 p hp
      rw [e,n2,hpc] at q1
      cases q1]
     obtain ⟨d,ed⟩:=Option.isSome_iff_exists.mp (cl2 (x,.free) (PySem.mem_of_lookup n2) rfl)
     have:=cl1 x d ed
     rw [ec] at this
     cases this
     exact ed
 ·exact I2.hok.fresh (Nat.le_succ _)
 ·rcases cc x c e with z | z
  ·exact I2.freeC x c (cl1 x c z)
  ·exact I2.hok.fresh (by omega)
 ·have e:p=(s2.heap.objs.size,lobj [] 0):=by simpa using hp
  subst e
  refine ⟨pushCells_keeps _ _ _ _ (Heap.get?_push_of_some _ (Heap.get?_push_size _ rfl)),I2.hok.fresh (Nat.le_refl _),Nat.ne_of_lt (Nat.lt_succ_self _),fun z=>?_,fun v z=>by cases z⟩
  rcases List.mem_cons.mp (I2.stkSub _ z) with q | q
  ·have:=I2.lt;exact absurd (q ▸ this) (Nat.lt_irrefl _)
  ·exact I2.nofs (Nat.le_refl _) q
 ·show (cst ix σ).length=N'.length
  unfold cst
  rw [List.length_map,c3]
end L2
namespace L2
open PySem PySem.Spec PyProof.Rows
theorem qad {X:Cx} {pins pins':List (Addr × Obj)} {σ τ:St} {H2 H':Hp} {s2 s':Shared} {scope:Scope} {N':List Str} {cells:List (Str × Addr)} {fp:List Addr} {C D:Addr} {ys:List V} {its:List Value} {k:Nat} {h':Heap}
  (I2:Inv X pins σ H2 s2) (f2:∀ b∈fp,FpOk X pins H2 b) (I':Inv (compCx X scope N' cells C s2 H2 fp []) pins' τ H' s') (hC:s2.heap.objs.size<=C) (hD:s2.heap.objs.size<=D) (hDC:D≠C)
  (hn:H' D=none) (e:s'.heap.get? D=some (lobj its k)) (hv:Vals ys its) (hz:ys.length<=sizeLine) (sb:Heap.SameBut C s'.heap h'):Inv X pins σ (upd H' D (.lst ys)) { s' with heap:=h' }:=by
 have ne:∀ b o,s2.heap.get? b=some o->b≠C/\b≠D:=fun b o q=>by
  have:=Heap.lt_size q
  exact ⟨Nat.ne_of_lt (Nat.lt_of_lt_of_le this hC),Nat.ne_of_lt (Nat.lt_of_lt_of_le this hD)⟩
 have ok1:HOk X.prog X.w H' h':=HOk.but I'.hok I'.free sb
 have eD:h'.get? D=some (lobj its k):=(sb.2 D hDC).trans e
 have U:=I'.base
 refine I2.call' (s':={ s' with heap:=h' }) (ch:=fp) I'.os ⟨fun b o q n hb hx=>?_,fun b o q n hb hx=>?_,fun b o q n hx=>?_,fun b o q hx=>?_,fun b xs q=>?_,fun b o u q=>?_,fun b ps q=>?_⟩ (HOk.add ok1 hn ⟨hz,its,k,hv,eD⟩) I'.bare fun b hb=>?_
 ·exact (sb.2 b (ne b o q).1).trans (U.keep b o q n hb hx)
 ·obtain ⟨sl,z⟩:=U.slot b o q n hb hx
  exact ⟨sl,(sb.2 b (ne b o q).1).trans z⟩
 ·rw [qe (ne b o q).2];exact U.free b o q n hx
 ·obtain ⟨o',z⟩:=U.there b o q hx
  exact ⟨o',(sb.2 b (ne b o q).1).trans z⟩
 ·have z:=U.tups b xs q
  rw [qe (ne_of_none z hn)];exact z
 ·have z:=U.frzs b o u q
  rw [qe (ne_of_none z hn)];exact z
 ·obtain ⟨more,z⟩:=U.tbls b ps q
  exact ⟨more,by rw [qe (ne_of_none z hn)];exact z⟩
 ·obtain ⟨_,a1,_,a2,a3,a4⟩:=f2 b hb
  exact ⟨a2,a1,a3,a4⟩
theorem Zy {X:Cx} {τ:St} {H':Hp} {s:Shared} {D:Addr} {its:List Value} {k:Nat} {u:Value} {E:Value->Shared->Prop} {Q:Value->Shared->Prop} (hz:its.length < sizeLine) (e:s.heap.get? D=some (lobj its k))
  (h:∀ h' k',h'.get? D=some (lobj (its++[u]) k')->(∀ b o,b≠D->s.heap.get? b=some o->h'.get? b=some o)->Q .none { s with heap:=h' }) :
  wpAny (model X.prog X.w) X.A (call (.builtin "list.append") [.ref D,u]) Q E s:=by
 refine call_meets F.slot_list_append ⟨_,e,rfl⟩ F.entry_list_append (F.args_list_append_2 _ _) (PySem.list_append D its.toArray k u (by rw [List.size_toArray];omega)) ⟨e,?_⟩
 have q:=PySem.IsL.update e (·.push u)
 have e2:(its++[u]).toArray=its.toArray.push u:=by simp
 refine h _ _ (by show _=some ({ cls:=.type "list",data:=.seq (its++[u]).toArray _ }:Obj);rw [e2];exact q) fun b o hb eb=>(Heap.get?_update_other s.heap _ (Ne.symm hb)).trans eb
theorem qx {X:Cx} {tg iter elt:Expr} {ifs:List Expr} {scope:Scope} {pos:Pos} {N':List Str} {ix:List (Option Nat)} {wi:TI} {g:TG} {tc:TT} {te:TE}
  (hc:X.calm=true) (chk:compChk X scope N' ix=true) (hi:PI X tg iter wi)
  (hg:∀ cells C s₀ H₀ ex pn,PG (compCx X scope N' cells C s₀ H₀ ex pn) tg g)
  (ht:∀ cells C s₀ H₀ ex pn,PTs (compCx X scope N' cells C s₀ H₀ ex pn) ifs tc)
  (he:∀ cells C s₀ H₀ ex pn,PE (compCx X scope N' cells C s₀ H₀ ex pn) elt te)
  (hs:∀ x,foldedSetIterable iter X.env x=pure x:=by intro _;rfl) :
  PE X (.ListComp elt [⟨tg,iter,ifs,0⟩] scope pos) (tComp ix wi g tc te):=by
 intro pins s σ H Q I h
 unfold compChk at chk
 obtain ⟨chk,k5⟩:=Bool.and_eq_true_iff.mp chk
 obtain ⟨chk,k4⟩:=Bool.and_eq_true_iff.mp chk
 obtain ⟨chk,k3⟩:=Bool.and_eq_true_iff.mp chk
 obtain ⟨k1,k2⟩:=Bool.and_eq_true_iff.mp chk
 have c1:∀ p∈scope.names,scope.names.lookup p.1=some p.2:=fun p hp=>by simpa using List.all_eq_true.mp k1 p hp
 have c2:∀ p∈scope.names,p.2=.free->X.env.scope.names.lookup p.1=some .cell\/X.env.scope.names.lookup p.1=some .free:=fun p hp hf=>by
  have:=List.all_eq_true.mp k2 p hp
  rw [hf] at this
  simpa using this
 have c3:ix.length=N'.length:=by simpa using k3
 have ck:scope.kind=.function:=by simpa using k5
 have c4:∀ (i:Nat) (x:Str) (j:Nat),N'[i]? = some x->ix[i]? = some (some j)->X.N[j]? = some x/\scope.names.lookup x=some .free:=fun i x j e1 e2=>by
  have m:(x,some j)∈N'.zip ix:=by
   refine List.mem_of_getElem? (i:=i) ?_
   rw [List.getElem?_zip_eq_some]
   exact ⟨e1,e2⟩
  have:=List.all_eq_true.mp k4 _ m
  have:=Bool.and_eq_true_iff.mp this
  exact ⟨by simpa using this.1,by simpa using this.2⟩
 obtain ⟨cl,ecl,cl1,cl2⟩:=Vq (env:=X.env) (scope:=scope) (fun p hp hf=>I.ok.has p.1 (c2 p hp hf))
 rw [eval_ListComp]
 refine wpAny_comprehension_free (use:=none) rfl hs ecl ck (fun y hy hl=>by rw [c1 y hy,hl]) (thn (hi pins s σ H _ I h) fun v s1 h1=>thn h1 fun itv s2 h2=>?_)
 obtain ⟨it,fp,tn,J,H2,e,I2,T,st2,f2,W,⟨m0,w0⟩,turn⟩:=h2
 subst e
 have I5:=comp_inv (N':=N') (ix:=ix) (fp:=fp) c1 c3 c2 c4 ck cl1 cl2 I2 f2 (T.obj _ _ st2)
 refine wpAny_newObj_type ?_
 unfold newFunctionEnv
 refine wpAny_bind (wpAny_alloc ?_)
 refine wpAny_bind (wpAny_layCells _ (fun name kind cells=>by cases hkc:kind == NameKind.cell <;> simp [hkc]) _ _ _ _ ?_)
 refine wpAny_bind ?_
 rw [List.forIn_nil]
 refine wpAny_pure (wpAny_pure ?_)
 have sz3:(s2.heap.push (lobj [] 0)).objs.size=s2.heap.objs.size+1:=Heap.size_push ..
 have sz4:((s2.heap.push (lobj [] 0)).push { cls:=.type "dict",data:=.dict #[] }).objs.size=s2.heap.objs.size+2:=by rw [Heap.size_push,sz3]
 show codeAny (model X.prog X.w) X.A (.compStart (.ListComp elt [⟨tg,iter,ifs,0⟩] scope pos) 0 (.ref it) (.ref s2.heap.objs.size)
  (compCx X scope N' (cellsFrom ((s2.heap.push (lobj [] 0)).push { cls:=.type "dict",data:=.dict #[] }).objs.size scope.names cl) (s2.heap.push (lobj [] 0)).objs.size s2 H2 fp []).env)
  (compPost (model X.prog X.w) X.A X.xe none (EP X pins σ Q) (.ref s2.heap.objs.size) (s2.heap.push (lobj [] 0)).objs.size)
  { s2 with heap:=pushCells ((s2.heap.push (lobj [] 0)).push { cls:=.type "dict",data:=.dict #[] }) scope.names }
 rw [sz4,sz3]
 generalize hcells:cellsFrom (s2.heap.objs.size+2) scope.names cl=cells at I5 ⊢
 have keep5:∀ b o,s2.heap.get? b=some o->(pushCells ((s2.heap.push (lobj [] 0)).push { cls:=.type "dict",data:=.dict #[] }) scope.names).get? b=some o:=fun b o e =>
  pushCells_keeps _ _ b o (Heap.get?_push_of_some _ (Heap.get?_push_of_some _ e))
 generalize hh5:({ s2 with heap:=pushCells ((s2.heap.push (lobj [] 0)).push { cls:=.type "dict",data:=.dict #[] }) scope.names }:Shared)=s5 at I5 ⊢
 have keep5:∀ b o,s2.heap.get? b=some o->s5.heap.get? b=some o:=by rw [<- hh5];exact keep5
 have st5:tn 0 s5.heap:=T.keep _ _ _ st2 fun b hb o e=>keep5 b o e
 have lt2:∀ (b:Nat),b∈fp->b < s2.heap.objs.size:=fun b hb=>by
  obtain ⟨o,e,_⟩:=T.obj _ _ st2 b hb
  exact Heap.lt_size e
 -- the iterator within the block
 have stat:∀ {H':Hp} {o:Obj},(∀ b∈fp,H' b=none)->∀ b∈fp,FpOk (compCx X scope N' cells (s2.heap.objs.size+1) s2 H2 fp []) [(s2.heap.objs.size,o)] H' b:=fun {H' o} hn b hb =>
  ⟨hn b hb,(I5.ok.exf b hb).1,I5.ok.exfs b hb,.inl hb,(I5.ok.exf b hb).2,fun p hp=>by
   have e:p=(s2.heap.objs.size,o):=by simpa using hp
   subst e
   exact Nat.ne_of_gt (lt2 b hb)⟩
 have loop:codeAny (model X.prog X.w) X.A (.compLoop (.ListComp elt [⟨tg,iter,ifs,0⟩] scope pos) 0 (.ref it) (.ref s2.heap.objs.size)
   (compCx X scope N' cells (s2.heap.objs.size+1) s2 H2 fp []).env) (compPost (model X.prog X.w) X.A X.xe none (EP X pins σ Q) (.ref s2.heap.objs.size) (s2.heap.objs.size+1)) s5:=by
  refine Jp (fun n s'=>∃ i ys τ H' its k,Inv (compCx X scope N' cells (s2.heap.objs.size+1) s2 H2 fp []) [(s2.heap.objs.size,lobj its k)] τ H' s'/\tn i s'.heap/\(∀ b∈fp,H' b=none)/\Vals ys its/\ys.length<=sizeLine/\W i n ys τ H') ?_ m0
   ⟨0,[],_,H2,[],0,I5,st5,fun b hb=>(f2 b hb).1,.nil,Nat.zero_le _,w0⟩
  rintro n s3 ⟨i,ys,τ,H3,its,k,I3,st3,fr3,hv3,hz3,w3⟩
  rcases turn i n ys τ H3 w3 with ⟨stop,qn⟩ | ⟨go,hlen,N,hN,step⟩
  ·refine thn (T.done (compCx X scope N' cells (s2.heap.objs.size+1) s2 H2 fp []) rfl rfl rfl hc i _ s3 τ H3 (fun _ _=>False) I3 (stat fr3) st3 stop) fun r s4 ⟨hr,I4⟩=>?_
   subst hr
   obtain ⟨m,hn,_⟩:=id I4.loc
   obtain ⟨eD,nD,_,_,_⟩:=I4.pin (s2.heap.objs.size,lobj its k) (by simp)
   refine ⟨m,hn,fun h' sb=>⟨.ref s2.heap.objs.size,upd H3 s2.heap.objs.size (.lst ys),?_,rfl,qn _ nD⟩⟩
   exact qad I2 f2 I4 (Nat.le_succ _) (Nat.le_refl _) (Nat.ne_of_lt (Nat.lt_succ_self _)) nD eD hv3 hz3 sb
  ·refine thn (T.item (compCx X scope N' cells (s2.heap.objs.size+1) s2 H2 fp []) rfl rfl rfl hc i _ s3 τ H3 (fun _ _=>False) I3 (stat fr3) st3 go) fun r s4 ⟨u,hr,h4⟩=>?_
   subst hr
   refine thn h4 fun _ s5' ⟨x,H5,I5',r5,y5,st5',fr5⟩=>?_
   have I6:=I5'.pinned (stat fr5) (T.obj _ _ st5')
   refine thn (hg cells _ s2 H2 fp [] _ s5' τ H5 x u _ I6 r5 (step x H5 y5)) fun _ s6 ⟨τ6,H6,I7,q6⟩=>?_
   refine thn (ht cells _ s2 H2 fp [] _ s6 τ6 H6 _ I7 q6) fun ok s7 ⟨H7,I8,q7⟩=>?_
   have fin:∀ {s8:Shared} {H8:Hp} {its':List Value} {k':Nat} {ys':List V},Inv (compCx X scope N' cells (s2.heap.objs.size+1) s2 H2 fp []) ([(s2.heap.objs.size,lobj its' k')]++pinsAt fp s5'.heap) τ6 H8 s8->Vals ys' its'->ys'.length<=sizeLine->N ys' τ6 H8 ->
     ∃ m,m < n/\∃ i ys τ H' its k,Inv (compCx X scope N' cells (s2.heap.objs.size+1) s2 H2 fp []) [(s2.heap.objs.size,lobj its k)] τ H' s8/\tn i s8.heap/\(∀ b∈fp,H' b=none)/\Vals ys its/\ys.length<=sizeLine/\W i m ys τ H':=fun {s8 H8 its' k' ys'} I9 hv hz n9=>by
    obtain ⟨m',hm,w9⟩:=hN ys' τ6 H8 n9
    refine ⟨m',hm,i+1,ys',τ6,H8,its',k',I9.unpinned,T.keep _ _ _ st5' fun b hb o e=>(I9.pin (b,o) (List.mem_append_right _ (List.mem_append_right _ (j7 hb e)))).1,fun b hb=>?_,hv,hz,w9⟩
    obtain ⟨o,e,d⟩:=T.obj _ _ st5' b hb
    exact (I9.pin (b,o) (List.mem_append_right _ (List.mem_append_right _ (j7 hb e)))).2.1
   cases ok with
   | false=>exact fin I8 hv3 hz3 q7
   | true =>
    refine thn (he cells _ s2 H2 fp [] _ s7 τ6 H7 _ I8 q7) fun y s8 ⟨v8,H8,I9,r8,q8⟩=>?_
    obtain ⟨eD,nD,dL,dF,_⟩:=I9.pin (s2.heap.objs.size,lobj its k) (by simp)
    have hl:=hv3.length
    refine Zy (X:=X) (τ:=τ) (H':=H8) (by omega) eD fun h' k' eD' kp=>?_
    -- the pin on the list is let go,the list turns,and is pinned anew
    have hx:∀ p∈pinsAt fp s5'.heap,p.1≠s2.heap.objs.size:=fun p hp=>by
     have:=lt2 p.1 (Jj hp).1
     exact Nat.ne_of_lt this
    have J1:Inv (compCx X scope N' cells (s2.heap.objs.size+1) s2 H2 fp []) (pinsAt fp s5'.heap) τ6 H8 s8:=I9.pins_of fun p hp=>I9.pin p (List.mem_append_right _ (List.mem_append_right _ hp))
    have J2:Inv (compCx X scope N' cells (s2.heap.objs.size+1) s2 H2 fp []) (pinsAt fp s5'.heap) τ6 H8 { s8 with heap:=h' }:=J1.turned (t':=s8.toks) (it:=s2.heap.objs.size) kp nD dL (.inr (Nat.le_refl _)) (fun x c e z=>by
     obtain ⟨v,o,ho,hd⟩:=J1.cell x c e
     rw [z,eD] at ho
     cases ho
     cases hd) fun p hp=>hx p (by simpa using hp)
    have J3:Inv (compCx X scope N' cells (s2.heap.objs.size+1) s2 H2 fp []) ([(s2.heap.objs.size,lobj (its++[y]) k')]++pinsAt fp s5'.heap) τ6 H8 { s8 with heap:=h' }:=J2.pins_of fun p hp=>by
     rcases List.mem_append.mp hp with z | z
     ·have e:p=(s2.heap.objs.size,lobj (its++[y]) k'):=by simpa using z
      subst e
      exact ⟨eD',nD,dL,dF,fun v z=>by cases z⟩
     ·exact J2.pin p (List.mem_append_right _ z)
    exact fin J3 (hv3.append (.cons r8 .nil)) (by rw [List.length_append,List.length_singleton];omega) q8
 exact codeAny_compStart_list loop (T.self X.A 0 s5 _ _ st5 loop)
end L2
namespace L2
open PySem PySem.Spec PyProof.Rows
structure Sure (J:It) (xs:List V) (ok:Hp->Prop):Prop where
 go:∀ i H,i < xs.length->ok H->J.go i H
 yld:∀ i H x H',i < xs.length->ok H->J.yld i H x H'->H'=H/\xs[i]? = some x
 stop:∀ H,ok H->J.stop xs.length H
theorem sure_list {K:W.Frag} {a:Addr} {xs:List V}:Sure (Itl K a) xs (fun H=>SqL K H a xs) where
 go:=fun i H hi h=>⟨xs,xs[i],h,by simp [hi]⟩
 yld:=fun i H x H' _ h y=>⟨y.1,y.2 xs h⟩
 stop:=fun H h=>⟨xs,h,Nat.le_refl _⟩
theorem yx {K:W.Frag} {a:Addr} {xs:List V}:Sure (Itt K a) xs (fun H=>SqT K H a xs) where
 go:=fun i H hi h=>⟨xs,xs[i],h,by simp [hi]⟩
 yld:=fun i H x H' _ h y=>⟨y.1,y.2 xs h⟩
 stop:=fun H h=>⟨xs,h,Nat.le_refl _⟩
def rngV (lo:Int) (n:Nat):List V:=(List.range n).map fun (k:Nat)=>V.int (lo+k)
theorem rngV_length (lo:Int) (n:Nat):(rngV lo n).length=n:=by unfold rngV;simp
theorem ji {lo:Int} {n:Nat}:Sure (Itr lo n) (rngV lo n) (fun _=>True) where
 go:=fun i H hi h=>by rw [rngV_length] at hi;exact hi
 yld:=fun i H x H' hi h y=>⟨y.1,by
  obtain ⟨_,rfl⟩:=y
  rw [rngV_length] at hi
  unfold rngV
  rw [List.getElem?_map,List.getElem?_range hi]
  rfl⟩
 stop:=fun H h=>by rw [rngV_length];exact Nat.le_refl n
def sign (c:Nat):V:=.str ⟨#[c]⟩
def Its (x:Str):It:=⟨fun i _=>i < x.cps.size,fun i H v H'=>H'=H/\∃ c,x.cps[i]? = some c/\v=sign c,fun i _=>i=x.cps.size⟩
theorem jr {x:Str}:Sure (Its x) (x.cps.toList.map sign) (fun _=>True) where
 go:=fun i H hi h=>by
  rw [List.length_map] at hi
  exact hi
 yld:=fun i H v H' _ h y=>⟨y.1,by
  obtain ⟨_,c,e,rfl⟩:=y
  rw [List.getElem?_map,Array.getElem?_toList,e]
  rfl⟩
 stop:=fun H h=>by
  rw [List.length_map]
  rfl
theorem Zz {P:Program} {w:World} (it:Addr) (x:Str) (t:Tok) {A:Around} (hA:A.handled=none):Walks P w A it [it] [it] x.cps.size (SignAt x) (fun i h=>h.IsStrIter it (strIterType x) x t i):=by
 unfold strIterType
 split
 ·exact Walks.strAscii hA it x t
 ·exact Walks.strWide hA it x t
theorem qdy {P:Program} {w:World} {it:Addr} {x:Str} {t:Tok} {A:Around} {i:Nat} {s:Shared} {Q:Value->Shared->Prop} {E:Value->Shared->Prop} (st:s.heap.IsStrIter it (strIterType x) x t i) (h:Q (.ref it) s):wpAny (model P w) A (pyIter (.ref it)) Q E s:=by
 unfold strIterType at st
 split at st
 ·exact wpAny_pyIter_striter_ascii st h
 ·exact wpAny_pyIter_striter_wide st h
theorem qf8 (x:Str):["enumerate","zip","dict_itemiterator","dict_reverseitemiterator","odict_iterator","itertools.zip_longest","itertools.pairwise"].contains (strIterType x)=false:=by
 unfold strIterType
 split <;> decide
theorem qdz {P:Program} {w:World} {K:W.Frag} {tg:Expr} (it:Addr) (x:Str) (t:Tok):Turn P w K tg (Its x) [it] it (fun i h=>h.IsStrIter it (strIterType x) x t i) where
 mem:=by simp
 obj:=fun i h st b hb=>by
  have e:b=it:=by simpa using hb
  subst e
  obtain ⟨o,e,c,d⟩:=st
  exact ⟨o,e,fun v z=>by rw [d] at z;cases z⟩
 keep:=fun i h h' st k=>by
  obtain ⟨o,e,r⟩:=st
  exact ⟨o,k it (by simp) o e,r⟩
 item:=by
  intro X hP hw hK hc i pins s σ H E I hf st hg
  subst hP hw hK
  obtain ⟨f0,f1,f2,f3,f4,f5⟩:=hf it (by simp)
  refine (Zz it x t (I.ok.hd hc)).item i s _ _ hg st fun v h' tk hv st' kk=>?_
  obtain ⟨c,u,hcc,rfl⟩:=hv
  have I1:Inv X pins σ H { s with heap:=h',toks:=tk }:=I.turned (fun b o hb e=>kk b o (by simpa using hb) e) f0 f1 f3 f4 f5
  obtain ⟨o,e,cc,d⟩:=id st'
  exact ⟨_,rfl,Yf (s:={ s with heap:=h',toks:=tk }) e cc d (qf8 x) ⟨sign c,H,I1,⟨u,rfl⟩,⟨rfl,c,hcc,rfl⟩,st',fun b hb=>(hf b hb).1⟩⟩
 done:=by
  intro X hP hw hK hc i pins s σ H E I hf st hg
  subst hP hw hK
  obtain ⟨f0,f1,f2,f3,f4,f5⟩:=hf it (by simp)
  have e:i=x.cps.size:=hg
  subst e
  exact (Zz it x t (I.ok.hd hc)).done s _ _ st fun h' tk kk=>⟨rfl,I.turned (fun b o hb e=>kk b o (by simpa using hb) e) f0 f1 f3 f4 f5⟩
 self:=fun _ _ _ _ _ st h=>qdy st h
def iStr (tl:TE):TI:=fun σ H R=>tl σ H fun x H1=>∃ z,x=.str z/\R (Its z) H1
theorem vh {X:Cx} {tg l:Expr} {tl:TE} (hl:PE X l tl):PI X tg l (iStr tl):=by
 intro pins s σ H R I h
 refine thn (hl pins s σ H _ I h) fun v s1 ⟨x,H1,I1,r1,q1⟩=>?_
 obtain ⟨z,e,q⟩:=q1
 subst e
 obtain ⟨t,rfl⟩:=r1
 refine wpAny_pyIter_strU ?_
 refine ⟨s1.heap.objs.size,[s1.heap.objs.size],_,_,H1,rfl,I1.kept (t':=s1.toks) fun b o e=>Heap.get?_push_of_some _ e,qdz _ z t,⟨_,Heap.get?_push_size _ rfl,rfl,rfl⟩,fun b hb=>?_,q⟩
 have e:b=s1.heap.objs.size:=by simpa using hb
 subst e
 exact I1.fpOk (Nat.le_refl _) (I1.hok.fresh (Nat.le_refl _))
theorem for_by {J:It} {xs:List V} {ok:Hp->Prop} {g:TG} {tb:TS} {D:Ends} {σ:St} {H:Hp} (S:Sure J xs ok) (Pv:Nat->St->Hp->Prop) (h0:Pv 0 σ H) (hl:∀ i σ H,i<=xs.length->Pv i σ H->ok H)
  (hs:∀ i x σ H,xs[i]? = some x->Pv i σ H->g x σ H fun σ2 H2=>tb { D with nx:=Pv (i+1),ct:=Pv (i+1),bk:=D.nx } σ2 H2) (hd:∀ σ H,Pv xs.length σ H->D.nx σ H) :
  ∃ W:Nat->Nat->St->Hp->Prop,(∃ m,W 0 m σ H)/\∀ i m σ H,W i m σ H ->
   (J.stop i H/\D.nx σ H)\/(J.go i H/\∃ N:St->Hp->Prop,(∀ σ' H',N σ' H'->∃ m',m' < m/\W (i+1) m' σ' H')/\∀ x H',J.yld i H x H'->g x σ H' fun σ2 H2=>tb { D with nx:=N,ct:=N,bk:=D.nx } σ2 H2):=by
 refine ⟨fun i m σ H=>m=xs.length - i/\i<=xs.length/\Pv i σ H,⟨xs.length,by simp,Nat.zero_le _,h0⟩,?_⟩
 rintro i m σ H ⟨rfl,hi,p⟩
 have q:=hl i σ H hi p
 by_cases hlt:i < xs.length
 ·refine .inr ⟨S.go i H hlt q,Pv (i+1),fun σ' H' p'=>⟨xs.length - (i+1),by omega,rfl,hlt,p'⟩,fun x H' y=>?_⟩
  obtain ⟨e,y'⟩:=S.yld i H x H' hlt q y
  subst e
  exact hs i x σ _ y' p
 ·have e:i=xs.length:=by omega
  subst e
  exact .inl ⟨S.stop H q,hd σ H p⟩
theorem qf9 {J:It} {xs:List V} {ok:Hp->Prop} {g:TG} {tc:TT} {te:TE} {Q:VK} {τ0:St} {H:Hp} (S:Sure J xs ok) (hz:xs.length<=10000) (Pv:Nat->List V->St->Hp->Prop) (h0:Pv 0 [] τ0 H)
  (hl:∀ i ys τ H,i<=xs.length->Pv i ys τ H->ok H/\ys.length<=i)
  (hs:∀ i x ys τ H,xs[i]? = some x->Pv i ys τ H->g x τ H fun τ2 H2=>tc τ2 H2 fun b H3=>if b=true then te τ2 H3 (fun y H4=>Pv (i+1) (ys++[y]) τ2 H4) else Pv (i+1) ys τ2 H3)
  (hd:∀ ys τ H D,Pv xs.length ys τ H->H D=none->Q (.ref D) (upd H D (.lst ys))) :
  ∃ W:Nat->Nat->List V->St->Hp->Prop,(∃ m,W 0 m [] τ0 H)/\∀ i m ys τ H,W i m ys τ H ->
   (J.stop i H/\∀ D,H D=none->Q (.ref D) (upd H D (.lst ys))) \/
   (J.go i H/\ys.length < sizeLine/\∃ N:List V->St->Hp->Prop,(∀ ys' τ' H',N ys' τ' H'->∃ m',m' < m/\W (i+1) m' ys' τ' H') /\
    ∀ x H',J.yld i H x H'->g x τ H' fun τ2 H2=>tc τ2 H2 fun b H3=>if b=true then te τ2 H3 (fun y H4=>N (ys++[y]) τ2 H4) else N ys τ2 H3):=by
 refine ⟨fun i m ys τ H=>m=xs.length - i/\i<=xs.length/\Pv i ys τ H,⟨xs.length,by simp,Nat.zero_le _,h0⟩,?_⟩
 rintro i m ys τ H ⟨rfl,hi,p⟩
 obtain ⟨q,hy⟩:=hl i ys τ H hi p
 by_cases hlt:i < xs.length
 ·refine .inr ⟨S.go i H hlt q,Nat.lt_of_lt_of_le (show ys.length < 10000 by omega) (by decide),Pv (i+1),fun ys' τ' H' p'=>⟨xs.length - (i+1),by omega,rfl,hlt,p'⟩,fun x H' y=>?_⟩
  obtain ⟨e,y'⟩:=S.yld i H x H' hlt q y
  subst e
  exact hs i x ys τ _ y' p
 ·have e:i=xs.length:=by omega
  subst e
  exact .inl ⟨S.stop H q,fun D hD=>hd ys τ H D p hD⟩
end L2
namespace L2
open PySem PySem.Spec PyProof.Rows
theorem Inv.newTup {X:Cx} {pins:List (Addr × Obj)} {σ:St} {H:Hp} {s:Shared} {ch:List Addr} {T:Addr} {xs:List V} {its:List Value} {h':Heap} {t':Nat} (I:Inv X pins σ H s) (hch:∀ b∈ch,FpOk X pins H b)
  (k:∀ b o,b ∉ ch->s.heap.get? b=some o->h'.get? b=some o) (hT:s.heap.objs.size<=T) (hv:Vals xs its) (ht:IsTup h' T its.toArray/\Bare h' T) (hz:xs.length<=sizeLine) :
  Inv X pins σ (upd H T (.tup xs)) { s with heap:=h',toks:=t' }:=by
 have neT:∀ b o,s.heap.get? b=some o->b≠T:=fun b o e=>Nat.ne_of_lt (Nat.lt_of_lt_of_le (Heap.lt_size e) hT)
 have neH:∀ b u,H b=some u->b≠T:=fun b u e=>Nat.ne_of_lt (Nat.lt_of_lt_of_le (I.hok.lt e) hT)
 have nch:∀ b u,H b=some u->b ∉ ch:=fun b u e hb=>by rw [(hch b hb).1] at e;cases e
 refine I.step (g':=s.gens) (d':=s.drawn) (ch:=ch) (fun b hb=>?_) (fun b o _ _ hc e _=>k b o hc e) (fun b o _ _ hc e _=>⟨o.slots,k b o hc e⟩) (fun b o _ e n=>?_) (fun b o hc e=>⟨o,k b o hc e⟩)
  (fun b ys e=>?_) (fun b o u e=>?_) (fun b ps e=>⟨#[],?_⟩) (fun m hm=>?_) (fun b u e=>?_) I.bare
 ·obtain ⟨_,a1,_,a2,a3,a4⟩:=hch b hb
  exact ⟨a2,a1,a3,a4⟩
 ·rw [qe (neT b o e)];exact n
 ·rw [qe (neH b _ e)];exact e
 ·rw [qe (neH b _ e)];exact e
 ·rw [qe (neH b _ e),e];simp
 ·obtain ⟨o,es,ep,ho,r⟩:=hm
  exact ⟨o,es,ep,k _ o (fun z=>(hch _ z).2.1 rfl) ho,r⟩
 ·by_cases hb:b=T
  ·subst hb
   rw [upd_same] at e
   cases e
   exact ⟨hz,its,hv,ht⟩
  ·rw [qe hb] at e
   refine (I.hok b u e).stay (fun c v hc q=>k c v ?_ q) (fun c q=>by rw [qe (neH c _ q)];exact q) fun c ys q=>by rw [qe (neH c _ q)];exact q
   rcases hc with z | z
   ·rw [z];exact nch b u e
   ·exact nch c _ z
def ItP (go:Nat->Hp->Prop) (stop:Nat->Hp->Prop) (at_:Nat->Hp->List V->Prop):It:=⟨go,fun i H v H'=>∃ T ys,H T=none/\v=.ref T/\at_ i H ys/\H'=upd H T (.tup ys),stop⟩
def Ite (K:W.Frag) (l:Addr):It:=ItP (fun i H=>∃ xs x,SqL K H l xs/\xs[i]? = some x) (fun i H=>∃ xs,SqL K H l xs/\xs.length=i) (fun i H ys=>∃ x,(∀ xs,SqL K H l xs->xs[i]? = some x)/\ys=[.int i,x])
def Itz (K:W.Frag) (l1 l2:Addr):It:=ItP (fun i H=>∃ xs x ys y,SqL K H l1 xs/\xs[i]? = some x/\SqL K H l2 ys/\ys[i]? = some y) (fun i H=>∃ xs ys,SqL K H l1 xs/\SqL K H l2 ys/\min xs.length ys.length=i)
 (fun i H vs=>∃ x y,(∀ xs,SqL K H l1 xs->xs[i]? = some x)/\(∀ ys,SqL K H l2 ys->ys[i]? = some y)/\vs=[x,y])
structure Sure2 (J:It) (xs:List (List V)) (ok:Hp->Prop):Prop where
 go:∀ i H,i < xs.length->ok H->J.go i H
 yld:∀ i H x H',i < xs.length->ok H->J.yld i H x H'->∃ T ys,H T=none/\x=.ref T/\H'=upd H T (.tup ys)/\xs[i]? = some ys
 stop:∀ H,ok H->J.stop xs.length H
theorem sure_enum {K:W.Frag} {l:Addr} {xs:List V}:Sure2 (Ite K l) (xs.zipIdx.map fun p=>[.int (p.2:Nat),p.1]) (fun H=>SqL K H l xs) where
 go:=fun i H hi h=>by
  have hi':i < xs.length:=by simpa using hi
  exact ⟨xs,xs[i],h,by simp [hi']⟩
 yld:=fun i H v H' hi h y=>by
  obtain ⟨T,ys,hT,rfl,⟨x,hx,rfl⟩,rfl⟩:=y
  exact ⟨T,_,hT,rfl,rfl,by rw [List.getElem?_map,List.getElem?_zipIdx,hx xs h];simp⟩
 stop:=fun H h=>⟨xs,h,by simp⟩
theorem qd0 {K:W.Frag} {l1 l2:Addr} {xs ys:List V}:Sure2 (Itz K l1 l2) ((xs.zip ys).map fun p=>[p.1,p.2]) (fun H=>SqL K H l1 xs/\SqL K H l2 ys) where
 go:=fun i H hi h=>by
  have hi':i < xs.length/\i < ys.length:=by simpa [Nat.lt_min] using hi
  exact ⟨xs,xs[i],ys,ys[i],h.1,by simp [hi'.1],h.2,by simp [hi'.2]⟩
 yld:=fun i H v H' hi h z=>by
  obtain ⟨T,vs,hT,rfl,⟨x,y,hx,hy,rfl⟩,rfl⟩:=z
  refine ⟨T,_,hT,rfl,rfl,?_⟩
  have e:(xs.zip ys)[i]? = some (x,y):=List.getElem?_zip_eq_some.mpr ⟨hx xs h.1,hy ys h.2⟩
  rw [List.getElem?_map,e]
  rfl
 stop:=fun H h=>⟨xs,ys,h.1,h.2,by simp⟩
theorem Jq {J:It} {xs:List (List V)} {ok:Hp->Prop} {g:TG} {tb:TS} {D:Ends} {σ:St} {H:Hp} (S:Sure2 J xs ok) (Pv:Nat->St->Hp->Prop) (h0:Pv 0 σ H) (hl:∀ i σ H,i<=xs.length->Pv i σ H->ok H)
  (hs:∀ i ys σ H T,xs[i]? = some ys->Pv i σ H->H T=none->g (.ref T) σ (upd H T (.tup ys)) fun σ2 H2=>tb { D with nx:=Pv (i+1),ct:=Pv (i+1),bk:=D.nx } σ2 H2) (hd:∀ σ H,Pv xs.length σ H->D.nx σ H) :
  ∃ W:Nat->Nat->St->Hp->Prop,(∃ m,W 0 m σ H)/\∀ i m σ H,W i m σ H ->
   (J.stop i H/\D.nx σ H)\/(J.go i H/\∃ N:St->Hp->Prop,(∀ σ' H',N σ' H'->∃ m',m' < m/\W (i+1) m' σ' H')/\∀ x H',J.yld i H x H'->g x σ H' fun σ2 H2=>tb { D with nx:=N,ct:=N,bk:=D.nx } σ2 H2):=by
 refine ⟨fun i m σ H=>m=xs.length - i/\i<=xs.length/\Pv i σ H,⟨xs.length,by simp,Nat.zero_le _,h0⟩,?_⟩
 rintro i m σ H ⟨rfl,hi,p⟩
 have q:=hl i σ H hi p
 by_cases hlt:i < xs.length
 ·refine .inr ⟨S.go i H hlt q,Pv (i+1),fun σ' H' p'=>⟨xs.length - (i+1),by omega,rfl,hlt,p'⟩,fun x H' y=>?_⟩
  obtain ⟨T,ys,hT,rfl,rfl,y'⟩:=S.yld i H x H' hlt q y
  exact hs i ys σ H T y' p hT
 ·have e:i=xs.length:=by omega
  subst e
  exact .inl ⟨S.stop H q,hd σ H p⟩
theorem qd1 {J:It} {xs:List (List V)} {ok:Hp->Prop} {g:TG} {tc:TT} {te:TE} {Q:VK} {τ0:St} {H:Hp} (S:Sure2 J xs ok) (hz:xs.length<=10000) (Pv:Nat->List V->St->Hp->Prop) (h0:Pv 0 [] τ0 H)
  (hl:∀ i ys τ H,i<=xs.length->Pv i ys τ H->ok H/\ys.length<=i)
  (hs:∀ i zs ys τ H T,xs[i]? = some zs->Pv i ys τ H->H T=none->g (.ref T) τ (upd H T (.tup zs)) fun τ2 H2=>tc τ2 H2 fun b H3=>if b=true then te τ2 H3 (fun y H4=>Pv (i+1) (ys++[y]) τ2 H4) else Pv (i+1) ys τ2 H3)
  (hd:∀ ys τ H D,Pv xs.length ys τ H->H D=none->Q (.ref D) (upd H D (.lst ys))) :
  ∃ W:Nat->Nat->List V->St->Hp->Prop,(∃ m,W 0 m [] τ0 H)/\∀ i m ys τ H,W i m ys τ H ->
   (J.stop i H/\∀ D,H D=none->Q (.ref D) (upd H D (.lst ys))) \/
   (J.go i H/\ys.length < sizeLine/\∃ N:List V->St->Hp->Prop,(∀ ys' τ' H',N ys' τ' H'->∃ m',m' < m/\W (i+1) m' ys' τ' H') /\
    ∀ x H',J.yld i H x H'->g x τ H' fun τ2 H2=>tc τ2 H2 fun b H3=>if b=true then te τ2 H3 (fun y H4=>N (ys++[y]) τ2 H4) else N ys τ2 H3):=by
 refine ⟨fun i m ys τ H=>m=xs.length - i/\i<=xs.length/\Pv i ys τ H,⟨xs.length,by simp,Nat.zero_le _,h0⟩,?_⟩
 rintro i m ys τ H ⟨rfl,hi,p⟩
 obtain ⟨q,hy⟩:=hl i ys τ H hi p
 by_cases hlt:i < xs.length
 ·refine .inr ⟨S.go i H hlt q,Nat.lt_of_lt_of_le (show ys.length < 10000 by omega) (by decide),Pv (i+1),fun ys' τ' H' p'=>⟨xs.length - (i+1),by omega,rfl,hlt,p'⟩,fun x H' y=>?_⟩
  obtain ⟨T,zs,hT,rfl,rfl,y'⟩:=S.yld i H x H' hlt q y
  exact hs i zs ys τ H T y' p hT
 ·have e:i=xs.length:=by omega
  subst e
  exact .inl ⟨S.stop H q,fun D hD=>hd ys τ H D p hD⟩
theorem qbg {P:Program} {w:World} {A:Around} (e it l:Addr) (hei:e≠it) (hle:l≠e) (hli:l≠it) (its:Array Value) (i:Nat) (s:Shared) (Q:Option Value->Shared->Prop) (E:Value->Shared->Prop) (hi:i < its.size)
  (st:(∃ old,IsEnum s.heap e it i old)/\s.heap.IsListIter it l i/\s.heap.IsList l its)
  (q : ∀ T vals h' tk,(∃ t x,its[i]? = some x/\vals = #[.int i t,x])->s.heap.objs.size<=T->h'.IsTuple T vals/\Bare h' T ->
   ((∃ x,IsEnumOut h' e it ((i:Int)+1) x T)/\h'.IsListIter it l (i+1)/\h'.IsList l its/\T≠e/\T≠it)->(∀ b o,b ∉ [e,it]->s.heap.get? b=some o->h'.get? b=some o)->Q (some (.ref T)) { s with heap:=h',toks:=tk }) :
  wpAny (model P w) A (pyNext (.ref e)) Q E s:=by
 obtain ⟨⟨old,st1⟩,st2,st3⟩:=st
 have hu:its[i]? = some its[i]:=Array.getElem?_eq_getElem hi
 refine wpAny_pyNext_enum_item st1 st2 st3 hu hei fun g y1 y2 y3 y4 y5=>?_
 have n1:e < s.heap.objs.size:=Heap.lt_size st1
 have n2:it < s.heap.objs.size:=by
  obtain ⟨_,z,_⟩:=st2
  exact Heap.lt_size z
 refine q s.heap.objs.size #[.int i s.toks,its[i]] g (s.toks+1) ⟨_,_,hu,rfl⟩ (Nat.le_refl _) ⟨⟨_,y3,rfl,_,rfl⟩,_,y3,rfl⟩ ⟨⟨_,y1⟩,y2,st3.at fun o z=>y5 l o hle hli z,Nat.ne_of_gt n1,Nat.ne_of_gt n2⟩ fun b o nb z=>y5 b o (fun c=>nb ?_) (fun c=>nb ?_) z
 ·rw [c];exact List.mem_cons_self
 ·rw [c];exact List.mem_cons_of_mem _ List.mem_cons_self
theorem qcd {P:Program} {w:World} {A:Around} (z TI TO i1 i2 l1 l2:Addr) (D:ZipApart z TI TO i1 i2 l1 l2) (xs ys:Array Value) (i:Nat) (s:Shared) (Q:Option Value->Shared->Prop) (E:Value->Shared->Prop) (hi:i < min xs.size ys.size)
  (st:IsZip s.heap z TI TO .none/\IsPair s.heap TI (.ref i1) (.ref i2)/\(∃ a b,IsPair s.heap TO a b)/\s.heap.IsListIter i1 l1 i/\s.heap.IsListIter i2 l2 i/\s.heap.IsList l1 xs/\s.heap.IsList l2 ys)
  (q : ∀ T vals h' tk,(∃ x y,xs[i]? = some x/\ys[i]? = some y/\vals = #[x,y])->s.heap.objs.size<=T->h'.IsTuple T vals/\Bare h' T ->
   (IsZip h' z TI TO (rawInt T)/\IsPair h' TI (.ref i1) (.ref i2)/\(∃ a b,IsPair h' TO a b)/\h'.IsListIter i1 l1 (i+1)/\h'.IsListIter i2 l2 (i+1)/\h'.IsList l1 xs/\h'.IsList l2 ys/\T≠z/\T≠TO/\T≠i1/\T≠i2) ->
   (∀ b o,b ∉ [z,TO,i1,i2]->s.heap.get? b=some o->h'.get? b=some o)->Q (some (.ref T)) { s with heap:=h',toks:=tk }) :
  wpAny (model P w) A (pyNext (.ref z)) Q E s:=by
 obtain ⟨k1,k2,⟨a,b,k3⟩,k4,k5,k6,k7⟩:=st
 have e1:xs[i]? = some (xs[i]'(by omega)):=Array.getElem?_eq_getElem (by omega)
 have e2:ys[i]? = some (ys[i]'(by omega)):=Array.getElem?_eq_getElem (by omega)
 refine wpAny_pyNext_zip_item D k1 k2 k3 k4 k5 k6 k7 e1 e2 fun g y1 y2 y3 y4 y5 y6 y7=>?_
 have nn:∀ {c o},s.heap.get? c=some o->s.heap.objs.size≠c:=fun m=>Nat.ne_of_gt (Heap.lt_size m)
 have n3:s.heap.objs.size≠i1:=by
  obtain ⟨_,m,_⟩:=k4
  exact nn m
 have n4:s.heap.objs.size≠i2:=by
  obtain ⟨_,m,_⟩:=k5
  exact nn m
 refine q s.heap.objs.size _ g s.toks ⟨_,_,e1,e2,rfl⟩ (Nat.le_refl _) ⟨⟨_,y5,rfl,_,rfl⟩,_,y5,rfl⟩ ⟨y1,y7 _ _ D.TIz D.TITO D.TIi1 D.TIi2 k2,⟨_,_,y2⟩,y3,y4,k6.at fun o m=>y7 _ o D.l1z D.l1TO D.l1i1 D.l1i2 m,k7.at fun o m=>y7 _ o D.l2z D.l2TO D.l2i1 D.l2i2 m,nn k1,nn k3,n3,n4⟩ fun c o nc m=>?_
 simp only [List.mem_cons,List.not_mem_nil,or_false,not_or] at nc
 exact y7 c o nc.1 nc.2.1 nc.2.2.1 nc.2.2.2 m
theorem qce {P:Program} {w:World} {K:W.Frag} {elts:List Expr} {k:Nat} {pos:Pos} (l e it:Addr) (hei:e≠it):Turn P w K (.Tuple elts k pos) (Ite K l) [e,it] e (fun i h=>(∃ old,IsEnum h e it i old)/\h.IsListIter it l i) where
 mem:=by simp
 obj:=fun i h st b hb=>by
  obtain ⟨⟨old,he⟩,o,ho,c,d⟩:=st
  rcases List.mem_cons.mp hb with z | z
  ·subst z;exact ⟨_,he,fun v z=>by cases z⟩
  ·have z:b=it:=by simpa using z
   subst z
   exact ⟨o,ho,fun v z=>by rw [d] at z;cases z⟩
 keep:=fun i h h' st kk=>by
  obtain ⟨⟨old,he⟩,hit⟩:=st
  exact ⟨⟨old,kk e (by simp) _ he⟩,hit.at fun o x=>kk it (by simp) o x⟩
 item:=by
  intro X hP hw hK hc i pins s σ H E I hf st hg
  subst hP hw hK
  obtain ⟨xs,x,hq,hx⟩:=hg
  obtain ⟨its,rv,p,hz⟩:=I.list hq
  obtain ⟨u,hu,ru⟩:=rv.get hx
  obtain ⟨st1,st2⟩:=st
  have hll:∃ o,s.heap.get? l=some o:=let ⟨o,ho,_⟩:=p.isList;⟨o,ho⟩
  have hle:l≠e:=fun z=>by
   obtain ⟨old,he⟩:=st1
   obtain ⟨o,ho,hc,_⟩:=p.isList
   rw [z,he] at ho;cases ho;exact absurd (Value.type.inj hc) (by decide)
  have hli:l≠it:=fun z=>by
   obtain ⟨o',ho',hc',_⟩:=st2
   obtain ⟨o,ho,hc,_⟩:=p.isList
   rw [z,ho'] at ho;cases ho;rw [hc'] at hc;exact absurd (Value.type.inj hc) (by decide)
  have W:=WalksT.enumerate (prog:=X.prog) (w:=X.w) (I.ok.hd hc) e it l hei hle hli its.toArray
  refine qbg e it l hei hle hli its.toArray i s _ _ (by have:=(List.getElem?_eq_some_iff.mp hu).1;simpa using this) ⟨st1,st2,p.isList⟩ fun T vals h' tk hP hT hTu hM kk=>?_
  obtain ⟨t,x',hx',rfl⟩:=hP
  refine ⟨_,rfl,?_⟩
  refine W.go elts k pos i T { s with heap:=h',toks:=tk } _ _ hM fun h2 st' kk2=>?_
  have eu:x'=u:=by
   have:its[i]? = some x':=by simpa using hx'
   rw [hu] at this;exact (Option.some.inj this).symm
  subst eu
  have nT:T ∉ [e,it]:=W.apart i T h' hM
  refine ⟨.ref T,upd H T (.tup [.int i,x]),I.newTup (ch:=[e,it]) (its:=[.int i t,x']) hf (fun b o hb eb=>kk2 b o hb (kk b o hb eb)) hT (.cons ⟨t,rfl⟩ (.cons ru .nil)) ?_ (by show 2<=sizeLine;decide),rfl,
   ⟨T,_,I.hok.fresh hT,rfl,⟨x,fun ys hy=>by rw [I.list_inj hy hq];exact hx,rfl⟩,rfl⟩,⟨by simpa using st'.1,st'.2.1⟩,fun b hb=>?_⟩
  ·obtain ⟨⟨o,ho,r⟩,o',ho',r'⟩:=hTu
   exact ⟨⟨o,kk2 T o nT ho,r⟩,o',kk2 T o' nT ho',r'⟩
  ·have nb:b≠T:=fun z=>nT (by rw [<- z];exact hb)
   rw [qe nb];exact (hf b hb).1
 done:=by
  intro X hP hw hK hc i pins s σ H E I hf st hg
  subst hP hw hK
  obtain ⟨xs,hq,hx⟩:=hg
  obtain ⟨its,rv,p,hz⟩:=I.list hq
  obtain ⟨⟨old,he⟩,st2⟩:=st
  have hl:=rv.length
  refine wpAny_pyNext_enum_end (I.ok.hd hc) he st2 p.isList (by simp;omega) fun h' kk=>⟨rfl,?_⟩
  obtain ⟨f0,f1,f2,f3,f4,f5⟩:=hf it (by simp)
  exact I.turned (t':=s.toks) (fun b o hb e=>kk b o hb e) f0 f1 f3 f4 f5
 self:=fun _ _ _ _ _ st h=>by
  obtain ⟨⟨old,he⟩,_⟩:=st
  exact wpAny_pyIter_enum he h
def iEnum (K:W.Frag) (ta:TA):TI:=fun σ H R=>ta σ H fun vs H1=>∃ a,vs=[.ref a]/\(∃ xs,SqL K H1 a xs)/\R (Ite K a) H1
theorem pi_enum {X:Cx} {l:Expr} {ta:TA} {elts:List Expr} {k:Nat} {tp p pos:Pos} (hg:Gl X "enumerate") (hm:X.mg "enumerate" = none) (hl:PA X [l] ta) (hs:starEach [l] X.env=[(false,eval l X.env)]:=by rfl) :
  PI X (.Tuple elts k tp) (.Call (.Name "enumerate" p) [l] [] pos) (iEnum X.K ta):=by
 intro pins s σ H R I h
 refine Call_ (ld_blt I hg hm (by first | exact boot_enumerate | decide +kernel) (PyProof.Rows.callWith_type1 (thn (hl pos pins s σ H _ I h) fun us s1 ⟨vs,H1,I1,r1,q1⟩=>?_) hs rfl))
 obtain ⟨a,e,⟨xs,hq⟩,q⟩:=q1
 subst e
 cases r1 with
 | cons r rr =>
  cases rr
  cases r
  obtain ⟨its,rv,p,hz⟩:=I1.list hq
  refine call_enumerate_list p.isList fun h' he hi hsz kk=>?_
  have I2:Inv X pins σ H1 { s1 with heap:=h' }:=I1.kept (t':=s1.toks) kk
  refine wpAny_pyIter_enum (s:={ s1 with heap:=h' }) he ?_
  refine ⟨s1.heap.objs.size+1,[s1.heap.objs.size+1,s1.heap.objs.size],_,_,H1,rfl,I2,qce a _ _ (Nat.succ_ne_self _),⟨⟨_,he⟩,hi⟩,fun b hb=>?_,q⟩
  have:s1.heap.objs.size<=b:=by
   rcases List.mem_cons.mp hb with z | z
   ·rw [z];exact Nat.le_succ _
   ·have z:b=s1.heap.objs.size:=by simpa using z
    rw [z];exact Nat.le_refl _
  exact I1.fpOk this (I1.hok.fresh this)
theorem qd2 {P:Program} {w:World} {K:W.Frag} {elts:List Expr} {k:Nat} {pos:Pos} (l1 l2 z TI TO i1 i2:Addr) (d1:TI≠z) (d2:TO≠z) (d3:i1≠z) (d4:i2≠z) (d5:TI≠TO) (d6:TI≠i1) (d7:TI≠i2) (d8:TO≠i1) (d9:TO≠i2) (d10:i1≠i2) :
  Turn P w K (.Tuple elts k pos) (Itz K l1 l2) [z,TI,TO,i1,i2] z (fun i h=>IsZip h z TI TO .none/\IsPair h TI (.ref i1) (.ref i2)/\(∃ a b,IsPair h TO a b)/\h.IsListIter i1 l1 i/\h.IsListIter i2 l2 i):=by
 have ap:∀ {h:Heap} {i:Nat} {xs:Array Value} {l:Addr},h.IsList l xs->IsZip h z TI TO .none->IsPair h TI (.ref i1) (.ref i2)->(∃ a b,IsPair h TO a b)->h.IsListIter i1 l1 i->h.IsListIter i2 l2 i->l≠z/\l≠TO/\l≠i1/\l≠i2:=by
  intro h i xs l hl h1 h2 h3 h4 h5
  obtain ⟨o,ho,hc,_⟩:=hl
  refine ⟨fun e=>?_,fun e=>?_,fun e=>?_,fun e=>?_⟩
  ·rw [e,h1] at ho;cases ho;exact absurd (Value.type.inj hc) (by decide)
  ·obtain ⟨a,b,h3⟩:=h3
   rw [e,h3] at ho;cases ho;exact absurd (Value.type.inj hc) (by decide)
  ·obtain ⟨o',ho',hc',_⟩:=h4
   rw [e,ho'] at ho;cases ho;rw [hc'] at hc;exact absurd (Value.type.inj hc) (by decide)
  ·obtain ⟨o',ho',hc',_⟩:=h5
   rw [e,ho'] at ho;cases ho;rw [hc'] at hc;exact absurd (Value.type.inj hc) (by decide)
 exact {
  mem:=by simp
  obj:=fun i h st b hb=>by
   obtain ⟨h1,h2,⟨a,b',h3⟩,⟨o4,e4,c4,q4⟩,⟨o5,e5,c5,q5⟩⟩:=st
   have hb':b=z\/b=TI\/b=TO\/b=i1\/b=i2:=by simpa using hb
   rcases hb' with e | e | e | e | e
   ·rw [e];exact ⟨_,h1,fun v z=>by cases z⟩
   ·rw [e];exact ⟨_,h2,fun v z=>by cases z⟩
   ·rw [e];exact ⟨_,h3,fun v z=>by cases z⟩
   ·rw [e];exact ⟨o4,e4,fun v z=>by rw [q4] at z;cases z⟩
   ·rw [e];exact ⟨o5,e5,fun v z=>by rw [q5] at z;cases z⟩
  keep:=fun i h h' st kk=>by
   obtain ⟨h1,h2,⟨a,b',h3⟩,h4,h5⟩:=st
   exact ⟨kk z (by simp) _ h1,kk TI (by simp) _ h2,⟨a,b',kk TO (by simp) _ h3⟩,h4.at fun o x=>kk i1 (by simp) o x,h5.at fun o x=>kk i2 (by simp) o x⟩
  item:=by
   intro X hP hw hK hc i pins s σ H E I hf st hg
   subst hP hw hK
   obtain ⟨xs,x,ys,y,hq1,hx,hq2,hy⟩:=hg
   obtain ⟨its1,rv1,p1,hz1⟩:=I.list hq1
   obtain ⟨its2,rv2,p2,hz2⟩:=I.list hq2
   obtain ⟨u,hu,ru⟩:=rv1.get hx
   obtain ⟨v,hv,rv⟩:=rv2.get hy
   obtain ⟨h1,h2,h3,h4,h5⟩:=st
   obtain ⟨n1,n2,n3,n4⟩:=ap p1.isList h1 h2 h3 h4 h5
   obtain ⟨m1,m2,m3,m4⟩:=ap p2.isList h1 h2 h3 h4 h5
   have W:=WalksT.zip2 (prog:=X.prog) (w:=X.w) (I.ok.hd hc) z TI TO i1 i2 l1 l2 ⟨d1,d2,d3,d4,d5,d6,d7,d8,d9,d10,n1,n2,n3,n4,m1,m2,m3,m4⟩ its1.toArray its2.toArray
   refine qcd z TI TO i1 i2 l1 l2 ⟨d1,d2,d3,d4,d5,d6,d7,d8,d9,d10,n1,n2,n3,n4,m1,m2,m3,m4⟩ its1.toArray its2.toArray i s _ _ (by have a1:=(List.getElem?_eq_some_iff.mp hu).1;have a2:=(List.getElem?_eq_some_iff.mp hv).1;simp;omega) ⟨h1,h2,h3,h4,h5,p1.isList,p2.isList⟩ fun T vals h' tk hP hT hTu hM kk=>?_
   obtain ⟨x',y',hx',hy',rfl⟩:=hP
   refine ⟨_,rfl,?_⟩
   refine W.go elts k pos i T { s with heap:=h',toks:=tk } _ _ hM fun h2' st' kk2=>?_
   have eu:x'=u:=by
    have:its1[i]? = some x':=by simpa using hx'
    rw [hu] at this;exact (Option.some.inj this).symm
   have ev:y'=v:=by
    have:its2[i]? = some y':=by simpa using hy'
    rw [hv] at this;exact (Option.some.inj this).symm
   subst eu ev
   have nT:T ∉ [z,TO,i1,i2]:=W.apart i T h' hM
   have sub:∀ b,b ∉ [z,TI,TO,i1,i2]->b ∉ [z,TO,i1,i2]:=fun b hb hb'=>hb (W.sub b hb' |> fun q=>by
    simp at hb' ⊢
    rcases hb' with e | e | e | e <;> simp [e])
   have nTI:T≠TI:=Nat.ne_of_gt (Nat.lt_of_lt_of_le (Heap.lt_size h2) hT)
   refine ⟨.ref T,upd H T (.tup [x,y]),I.newTup (ch:=[z,TI,TO,i1,i2]) (its:=[x',y']) hf (fun b o hb eb=>kk2 b o (sub b hb) (kk b o (sub b hb) eb)) hT (.cons ru (.cons rv .nil)) ?_ (by show 2<=sizeLine;decide),rfl,
    ⟨T,_,I.hok.fresh hT,rfl,⟨x,y,fun zs hz=>by rw [I.list_inj hz hq1];exact hx,fun zs hz=>by rw [I.list_inj hz hq2];exact hy,rfl⟩,rfl⟩,⟨st'.1,st'.2.1,st'.2.2.1,st'.2.2.2.1,st'.2.2.2.2.1⟩,fun b hb=>?_⟩
   ·obtain ⟨⟨o,ho,r⟩,o',ho',r'⟩:=hTu
    exact ⟨⟨o,kk2 T o nT ho,r⟩,o',kk2 T o' nT ho',r'⟩
   ·have nb:b≠T:=fun q=>by
     have hb':b=z\/b=TI\/b=TO\/b=i1\/b=i2:=by simpa using hb
     rw [q] at hb'
     rcases hb' with e | e | e | e | e
     ·exact nT (by simp [e])
     ·exact nTI e
     ·exact nT (by simp [e])
     ·exact nT (by simp [e])
     ·exact nT (by simp [e])
    rw [qe nb];exact (hf b hb).1
  done:=by
   intro X hP hw hK hc i pins s σ H E I hf st hg
   subst hP hw hK
   obtain ⟨xs,ys,hq1,hq2,hi⟩:=hg
   obtain ⟨its1,rv1,p1,hz1⟩:=I.list hq1
   obtain ⟨its2,rv2,p2,hz2⟩:=I.list hq2
   obtain ⟨h1,h2,h3,h4,h5⟩:=st
   obtain ⟨n1,n2,n3,n4⟩:=ap p1.isList h1 h2 h3 h4 h5
   obtain ⟨m1,m2,m3,m4⟩:=ap p2.isList h1 h2 h3 h4 h5
   have W:=WalksT.zip2 (prog:=X.prog) (w:=X.w) (I.ok.hd hc) z TI TO i1 i2 l1 l2 ⟨d1,d2,d3,d4,d5,d6,d7,d8,d9,d10,n1,n2,n3,n4,m1,m2,m3,m4⟩ its1.toArray its2.toArray
   have e:i=min its1.toArray.size its2.toArray.size:=by
    have:=rv1.length;have:=rv2.length;simp;omega
   subst e
   refine W.done s _ _ ⟨h1,h2,h3,h4,h5,p1.isList,p2.isList⟩ fun h' tk kk=>⟨rfl,?_⟩
   refine I.step (g':=s.gens) (d':=s.drawn) (ch:=[z,TO,i1,i2]) (fun b hb=>?_) (fun b o _ _ hc e _=>kk b o hc e) (fun b o _ _ hc e _=>⟨o.slots,kk b o hc e⟩) (fun _ _ _ _ n=>n)
    (fun b o hc e=>⟨o,kk b o hc e⟩) (fun _ _ e=>e) (fun _ _ _ e=>e) (fun b ps e=>⟨#[],by rw [e];simp⟩) (fun m hm=>?_) (fun b u e=>?_) I.bare
   ·obtain ⟨_,a1,_,a2,a3,a4⟩:=hf b (by simp at hb ⊢;rcases hb with e | e | e | e <;> simp [e])
    exact ⟨a2,a1,a3,a4⟩
   ·obtain ⟨o,es,ep,ho,r⟩:=hm
    exact ⟨o,es,ep,kk _ o (fun q=>(hf _ (by simp at q ⊢;rcases q with e | e | e | e <;> simp [e])).2.1 rfl) ho,r⟩
   ·have nch:∀ b u,H b=some u->b ∉ [z,TO,i1,i2]:=fun b u e hb=>by
     rw [(hf b (by simp at hb ⊢;rcases hb with e | e | e | e <;> simp [e])).1] at e;cases e
    refine (I.hok b u e).stay (fun c v hc q=>kk c v ?_ q) (fun _ q=>q) fun _ _ q=>q
    rcases hc with z' | z'
    ·rw [z'];exact nch b u e
    ·exact nch c _ z'
  self:=fun _ _ _ _ _ st h=>wpAny_pyIter_zip st.1 h }
def iZip (K:W.Frag) (ta:TA):TI:=fun σ H R=>ta σ H fun vs H1=>∃ a b,vs=[.ref a,.ref b]/\(∃ xs,SqL K H1 a xs)/\(∃ ys,SqL K H1 b ys)/\R (Itz K a b) H1
theorem pi_zip {X:Cx} {l l':Expr} {ta:TA} {elts:List Expr} {k:Nat} {tp p pos:Pos} (hg:Gl X "zip") (hm:X.mg "zip" = none) (hl:PA X [l,l'] ta) (hs:starEach [l,l'] X.env=[(false,eval l X.env),(false,eval l' X.env)]:=by rfl) (hs2:starEach [l'] X.env=[(false,eval l' X.env)]:=by rfl) :
  PI X (.Tuple elts k tp) (.Call (.Name "zip" p) [l,l'] [] pos) (iZip X.K ta):=by
 intro pins s σ H R I h
 refine Call_ (ld_blt I hg hm (by first | exact boot_zip | decide +kernel) (PyProof.Rows.callWith_type1 (thn (hl pos pins s σ H _ I h) fun us s1 ⟨vs,H1,I1,r1,q1⟩=>?_) (by rw [hs,hs2]) (by rw [hs2];rfl)))
 obtain ⟨a,b,e,⟨xs,hq1⟩,⟨ys,hq2⟩,q⟩:=q1
 subst e
 cases r1 with
 | cons r rr =>
  cases rr with
  | cons r' rr =>
   cases rr
   cases r
   cases r'
   obtain ⟨its,rv,p,hz⟩:=I1.list hq1
   obtain ⟨its2,rv2,p2,hz2⟩:=I1.list hq2
   refine call_zip_2 p.isList p2.isList fun h' hz' hTI hTO hi1 hi2 hsz kk=>?_
   have I2:Inv X pins σ H1 { s1 with heap:=h' }:=I1.kept (t':=s1.toks) kk
   refine wpAny_pyIter_zip (s:={ s1 with heap:=h' }) hz' ?_
   refine ⟨s1.heap.objs.size+4,[s1.heap.objs.size+4,s1.heap.objs.size+2,s1.heap.objs.size+3,s1.heap.objs.size,s1.heap.objs.size+1],_,_,H1,rfl,I2,
    qd2 a b _ _ _ _ _ (by simp) (by simp) (by simp) (by simp) (by simp) (by simp) (by simp) (by simp) (by simp) (by simp),⟨hz',hTI,⟨_,_,hTO⟩,hi1,hi2⟩,fun c hb=>?_,q⟩
   have:s1.heap.objs.size<=c:=by
    have hb':c=s1.heap.objs.size+4\/c=s1.heap.objs.size+2\/c=s1.heap.objs.size+3\/c=s1.heap.objs.size\/c=s1.heap.objs.size+1:=by simpa using hb
    rcases hb' with e | e | e | e | e <;> rw [e] <;> first | exact Nat.le_refl _ | exact Nat.le_add_right _ _
   exact I1.fpOk this (I1.hok.fresh this)
theorem ze {J:It} {xs:List V} {ok:Hp->Prop} {g:TG} {te:TE} {Q:VK} {τ0:St} {H:Hp} (S:Sure J xs ok) (hz:xs.length<=10000) (Pv:Nat->List V->St->Hp->Prop) (h0:Pv 0 [] τ0 H)
  (hl:∀ i ys τ H,i<=xs.length->Pv i ys τ H->ok H/\ys.length<=i)
  (hs:∀ i x ys τ H,xs[i]? = some x->Pv i ys τ H->g x τ H fun τ2 H2=>te τ2 H2 (fun y H4=>Pv (i+1) (ys++[y]) τ2 H4))
  (hd:∀ ys τ H D,Pv xs.length ys τ H->H D=none->Q (.ref D) (upd H D (.lst ys))) :
  ∃ W:Nat->Nat->List V->St->Hp->Prop,(∃ m,W 0 m [] τ0 H)/\∀ i m ys τ H,W i m ys τ H ->
   (J.stop i H/\∀ D,H D=none->Q (.ref D) (upd H D (.lst ys))) \/
   (J.go i H/\ys.length < sizeLine/\∃ N:List V->St->Hp->Prop,(∀ ys' τ' H',N ys' τ' H'->∃ m',m' < m/\W (i+1) m' ys' τ' H') /\
    ∀ x H',J.yld i H x H'->g x τ H' fun τ2 H2=>tAll τ2 H2 fun b H3=>if b=true then te τ2 H3 (fun y H4=>N (ys++[y]) τ2 H4) else N ys τ2 H3) :=
 qf9 S hz Pv h0 hl (fun i x ys τ H e p=>by
  have:=hs i x ys τ H e p
  have e2:(fun (τ2:St) (H2:Hp)=>tAll τ2 H2 fun b H3=>if b=true then te τ2 H3 (fun y H4=>Pv (i+1) (ys++[y]) τ2 H4) else Pv (i+1) ys τ2 H3)=fun τ2 H2=>te τ2 H2 (fun y H4=>Pv (i+1) (ys++[y]) τ2 H4):=by
   funext τ2 H2
   unfold tAll
   exact if_pos rfl
  rw [e2]
  exact this) hd
theorem qcf {J:It} {xs:List (List V)} {ok:Hp->Prop} {g:TG} {te:TE} {Q:VK} {τ0:St} {H:Hp} (S:Sure2 J xs ok) (hz:xs.length<=10000) (Pv:Nat->List V->St->Hp->Prop) (h0:Pv 0 [] τ0 H)
  (hl:∀ i ys τ H,i<=xs.length->Pv i ys τ H->ok H/\ys.length<=i)
  (hs:∀ i zs ys τ H T,xs[i]? = some zs->Pv i ys τ H->H T=none->g (.ref T) τ (upd H T (.tup zs)) fun τ2 H2=>te τ2 H2 (fun y H4=>Pv (i+1) (ys++[y]) τ2 H4))
  (hd:∀ ys τ H D,Pv xs.length ys τ H->H D=none->Q (.ref D) (upd H D (.lst ys))) :
  ∃ W:Nat->Nat->List V->St->Hp->Prop,(∃ m,W 0 m [] τ0 H)/\∀ i m ys τ H,W i m ys τ H ->
   (J.stop i H/\∀ D,H D=none->Q (.ref D) (upd H D (.lst ys))) \/
   (J.go i H/\ys.length < sizeLine/\∃ N:List V->St->Hp->Prop,(∀ ys' τ' H',N ys' τ' H'->∃ m',m' < m/\W (i+1) m' ys' τ' H') /\
    ∀ x H',J.yld i H x H'->g x τ H' fun τ2 H2=>tAll τ2 H2 fun b H3=>if b=true then te τ2 H3 (fun y H4=>N (ys++[y]) τ2 H4) else N ys τ2 H3) :=
 qd1 S hz Pv h0 hl (fun i zs ys τ H T e p hT=>by
  have:=hs i zs ys τ H T e p hT
  have e2:(fun (τ2:St) (H2:Hp)=>tAll τ2 H2 fun b H3=>if b=true then te τ2 H3 (fun y H4=>Pv (i+1) (ys++[y]) τ2 H4) else Pv (i+1) ys τ2 H3)=fun τ2 H2=>te τ2 H2 (fun y H4=>Pv (i+1) (ys++[y]) τ2 H4):=by
   funext τ2 H2
   unfold tAll
   exact if_pos rfl
  rw [e2]
  exact this) hd
end L2
namespace L2
open PySem PySem.Spec PyProof.Rows
section
variable {X:Cx}
theorem zf:∀ {ss:List Str} {us:List Value},Vals (ss.map V.str) us->StrsAre us ss
 | [],_,r=>by cases r;exact .nil
 | x :: ss,_,r=>by
  cases r with
  | cons h r =>
   obtain ⟨t,rfl⟩:=h
   exact .cons x t (zf r)
theorem Jr:∀ {ss:List Str} {us:List Value},StrsAre us ss->Vals (ss.map V.str) us
 | _,_,.nil=>.nil
 | _,_,.cons y t r=>.cons ⟨t,rfl⟩ (Jr r)
theorem V2:∀ {xs:List V} {us:List Value},xs.length=us.length->(∀ (i:Nat) x u,xs[i]? = some x->us[i]? = some u->RelV x u)->Vals xs us
 | [],[],_,_=>.nil
 | [],_ :: _,h,_=>by cases h
 | _ :: _,[],h,_=>by cases h
 | x :: xs,u :: us,h,k=>.cons (k 0 x u rfl rfl) (V2 (Nat.succ.inj h) fun i y v e1 e2=>k (i+1) y v e1 e2)
theorem qga:∀ {kvs:List (Key × V)} {vs:List (Key × Value)} {i:Nat} {k:Key} {x:Value},KV kvs vs->vs[i]? = some (k,x)->∃ k' v',kvs[i]? = some (k',v')/\k'=k
 | [],[],i,_,_,_,e=>by cases i <;> cases e
 | p :: kvs,q :: vs,0,k,x,h,e=>by
  cases h with
  | cons h1 h2 =>
   have e':q=(k,x):=Option.some.inj e
   subst e'
   exact ⟨p.1,p.2,rfl,h1.1⟩
 | p :: kvs,q :: vs,i+1,k,x,h,e=>by
  cases h with
  | cons h1 h2=>exact qga (i:=i) h2 e
theorem ObjOk.there {P:Program} {w:World} {H:Hp} {h:Heap} {a:Addr} {o:HO} (x:ObjOk P w H h a o):∃ ob,h.get? a=some ob:=by
 cases o with
 | lst xs=>obtain ⟨_,_,_,_,e⟩:=x;exact ⟨_,e⟩
 | tup xs=>obtain ⟨_,_,_,⟨ob,e,_⟩,_⟩:=x;exact ⟨_,e⟩
 | dK kvs=>obtain ⟨_,_,_,_,ob,_,_,e,_⟩:=x;exact ⟨_,e⟩
 | dT kvs=>obtain ⟨_,_,_,_,ob,_,_,e,_⟩:=x;exact ⟨_,e⟩
 | set S n=>obtain ⟨ob,_,_,_,e,_⟩:=x;exact ⟨_,e⟩
 | ins C dx fs=>obtain ⟨_,_,_,e,_⟩:=x;exact ⟨_,e⟩
 | own _=>exact x
 | xd fs=>obtain ⟨mA,⟨ob,_,_,e,_⟩,_⟩:=x;exact ⟨_,e⟩
 | rng lo hi=>obtain ⟨_,_,_,e⟩:=x;exact ⟨_,e⟩
 | frz ob u=>exact ⟨_,x.1⟩
 | tbl ps=>exact ⟨_,x⟩
 | met f y=>exact ⟨_,x⟩
 | ext φ=>exact x.2.1
theorem Inv.laid2 {pins:List (Addr × Obj)} {σ:St} {H:Hp} {s:Shared} {h':Heap} {a:Addr} {o:HO} {t':Nat} (I:Inv X pins σ H s) (k:∀ b u,s.heap.get? b=some u->h'.get? b=some u/\b≠a) (hn:H a=none)
  (new:ObjOk X.prog X.w (upd H a o) h' a o):Inv X pins σ (upd H a o) { s with heap:=h',toks:=t' } :=
 I.un ⟨fun b o e _ _ _=>(k b o e).1,fun b o e _ _ _=>⟨o.slots,(k b o e).1⟩,fun b o e n _=>by rw [qe (k b o e).2];exact n,fun b o e _=>⟨o,(k b o e).1⟩,fun b xs e=>by rw [qe (ne_of_none e hn)];exact e,
  fun b o u e=>by rw [qe (ne_of_none e hn)];exact e,fun b ps e=>⟨#[],by rw [qe (ne_of_none e hn),e];simp⟩⟩ (HOk.add (I.hok.kept fun b u e=>(k b u e).1) hn new)
def rJoin (K:W.Frag):V->List V->Hp->VK->Prop:=fun x vs H Q=>∃ sep l ss,x=.str sep/\vs=[.ref l]/\SqL K H l (ss.map V.str)/\(ss.map (·.length)).sum+ss.length * sep.length<=16777216/\Q (.str (Txt.join sep ss)) H
theorem qcg:MtR X "str.join" (rJoin X.K):=by
 intro pins s σ H x vs v us Q I rx rv h
 obtain ⟨sep,l,ss,rfl,rfl,hq,hz,q⟩:=h
 obtain ⟨t,rfl⟩:=rx
 obtain ⟨u,rfl,ru⟩:=vals1 rv
 cases ru
 obtain ⟨its,r',pl,_⟩:=I.list hq
 refine join_list pl.isList (by simpa using zf r') hz fun t' k=>⟨.str _,H,I.tok _,⟨t',rfl⟩,q⟩
def rCount:V->List V->Hp->VK->Prop:=fun x vs H Q=>∃ a b,x=.str a/\vs=[.str b]/\Q (.int (Txt.count a b)) H
theorem qd3:MtR X "str.count" rCount:=by
 intro pins s σ H x vs v us Q I rx rv h
 obtain ⟨a,b,rfl,rfl,q⟩:=h
 obtain ⟨t,rfl⟩:=rx
 obtain ⟨u,rfl,t',rfl⟩:=vals1 rv
 exact SC.count ⟨.int _,H,I.tok _,⟨_,rfl⟩,q⟩
theorem Vg (hc:X.calm=true):CallR X (.type "list") (fun xs H Q=>∃ z:Str,xs=[.str z]/\z.cps.size<=10000/\∀ l,H l=none->Q (.ref l) (upd H l (.lst (z.cps.toList.map sign)))):=by
 intro pins s σ H xs us Q I r h
 obtain ⟨z,rfl,hz,q⟩:=h
 obtain ⟨u,rfl,t,rfl⟩:=vals1 r
 refine call_list_str (I.ok.hd hc) z t (fun h' tk acc' c' hk hS hacc=>?_) (Nat.le_trans hz (by decide))
 have hv:Vals (z.cps.toList.map sign) acc'.toList:=by
  have hl:acc'.toList.length=z.cps.size:=by rw [Array.length_toList];exact hacc.1
  refine V2 (by rw [List.length_map,Array.length_toList,hl]) fun i x u e1 e2=>?_
  obtain ⟨c,t',e3,rfl⟩:=hacc.2 i u (by rw [<- Array.getElem?_toList];exact e2)
  rw [List.getElem?_map,Array.getElem?_toList,e3] at e1
  cases e1
  exact ⟨t',rfl⟩
 exact ⟨.ref s.heap.objs.size,_,I.laid hk (Nat.le_refl _) (show ObjOk X.prog X.w _ h' _ (.lst _) from ⟨by rw [List.length_map,Array.length_toList];exact Nat.le_trans hz (by decide),acc'.toList,c',hv,by simpa using hS⟩),rfl,q _ (I.hok.fresh (Nat.le_refl _))⟩
theorem qd4 (hc:X.calm=true):CallR X (.builtin "sum") (fun xs H Q=>∃ (l:Addr) (ns:List Int),xs=[.ref l]/\SqL X.K H l (ns.map V.int)/\Q (.int ns.sum) H):=by
 intro pins s σ H xs us Q I r h
 obtain ⟨l,ns,rfl,hq,q⟩:=h
 obtain ⟨u,rfl,ru⟩:=vals1 r
 cases ru
 obtain ⟨its,r',pl,_⟩:=I.list hq
 obtain ⟨m,F⟩:=I.fr
 have hi:=qbe r'
 obtain ⟨xs,e⟩:=hi.allInts.items
 have hl:s.heap.IsList l (intItems xs):=by rw [<- e];exact pl.isList
 refine sum_intListG (I.ok.hd hc) hl fun h' tk t' hk=>?_
 have es:preSum (numAt xs) xs.size=ns.sum:=by
  have:=hi.numsOf
  rw [show its=(intItems xs).toList by rw [<- e]] at this
  rw [nums_intItems] at this
  rw [preSum_eq,List.take_of_length_le (by simp),this]
 rw [es]
 exact ⟨.int _,H,I.kept hk,⟨t',rfl⟩,q⟩
theorem Ym:CallR X (.builtin "isinstance") (fun xs H Q=>∃ x T t b,xs=[x,.ty T]/\TyOf X.K H x t/\W.kitOne X.K t (.type T)=some b/\Q (.bl b) H):=by
 intro pins s σ H xs us Q I r h
 obtain ⟨x,T,t,b,rfl,ty,e,q⟩:=h
 obtain ⟨u,v,rfl,ru,rv⟩:=vals2 r
 cases (show v=Value.type T from rv)
 exact qb3 I ru ty e fun tk=>⟨.bl b,H,I.tok _,rfl,q⟩
end
end L2
namespace L2
open PySem PySem.Spec PyProof.Rows
theorem qch {X:Cx} {pins:List (Addr × Obj)} {s:Shared} {σ:St} {H:Hp} {Q:VK} {use:Option (Value->Sem Unit)} {Q':Value->Shared->Prop} {cpos:Pos} {tg iter elt:Expr} {ifs:List Expr} {scope:Scope} {pos:Pos} {N':List Str} {ix:List (Option Nat)} {wi:TI} {g:TG} {tc:TT} {te:TE}
  (hc:X.calm=true) (chk:compChk X scope N' ix=true) (hi:PI X tg iter wi)
  (hg:∀ cells C s₀ H₀ ex pn,PG (compCx X scope N' cells C s₀ H₀ ex pn) tg g)
  (ht:∀ cells C s₀ H₀ ex pn,PTs (compCx X scope N' cells C s₀ H₀ ex pn) ifs tc)
  (he:∀ cells C s₀ H₀ ex pn,PE (compCx X scope N' cells C s₀ H₀ ex pn) elt te)
  (hs:∀ x,foldedSetIterable iter X.env x=pure x) (I:Inv X pins σ H s) (h:tComp ix wi g tc te σ H Q)
  (hend:∀ (s2 s4:Shared) (H2 H3:Hp) (C D:Addr) (fp:List Addr) (cells:List (Str × Addr)) (τ:St) (ys:List V) (its:List Value) (k:Nat),Inv X pins σ H2 s2->(∀ b∈fp,FpOk X pins H2 b) ->
   Inv (compCx X scope N' cells C s2 H2 fp []) [(D,lobj its k)] τ H3 s4->s2.heap.objs.size<=C->s2.heap.objs.size<=D->D≠C->Vals ys its->ys.length<=sizeLine->Q (.ref D) (upd H3 D (.lst ys)) ->
   compPost (model X.prog X.w) X.A X.xe use Q' (.ref D) C (.ok .next) s4) :
  wpAny (model X.prog X.w) X.A (comprehension (.ListComp elt [⟨tg,iter,ifs,0⟩] scope pos) scope X.env cpos (newList []) false (eval iter X.env) use) Q' X.xe s:=by
 unfold compChk at chk
 obtain ⟨chk,k5⟩:=Bool.and_eq_true_iff.mp chk
 obtain ⟨chk,k4⟩:=Bool.and_eq_true_iff.mp chk
 obtain ⟨chk,k3⟩:=Bool.and_eq_true_iff.mp chk
 obtain ⟨k1,k2⟩:=Bool.and_eq_true_iff.mp chk
 have c1:∀ p∈scope.names,scope.names.lookup p.1=some p.2:=fun p hp=>by simpa using List.all_eq_true.mp k1 p hp
 have c2:∀ p∈scope.names,p.2=.free->X.env.scope.names.lookup p.1=some .cell\/X.env.scope.names.lookup p.1=some .free:=fun p hp hf=>by
  have:=List.all_eq_true.mp k2 p hp
  rw [hf] at this
  simpa using this
 have c3:ix.length=N'.length:=by simpa using k3
 have ck:scope.kind=.function:=by simpa using k5
 have c4:∀ (i:Nat) (x:Str) (j:Nat),N'[i]? = some x->ix[i]? = some (some j)->X.N[j]? = some x/\scope.names.lookup x=some .free:=fun i x j e1 e2=>by
  have m:(x,some j)∈N'.zip ix:=by
   refine List.mem_of_getElem? (i:=i) ?_
   rw [List.getElem?_zip_eq_some]
   exact ⟨e1,e2⟩
  have:=List.all_eq_true.mp k4 _ m
  have:=Bool.and_eq_true_iff.mp this
  exact ⟨by simpa using this.1,by simpa using this.2⟩
 obtain ⟨cl,ecl,cl1,cl2⟩:=Vq (env:=X.env) (scope:=scope) (fun p hp hf=>I.ok.has p.1 (c2 p hp hf))
 refine wpAny_comprehension_free (use:=use) rfl hs ecl ck (fun y hy hl=>by rw [c1 y hy,hl]) (thn (hi pins s σ H _ I h) fun v s1 h1=>thn h1 fun itv s2 h2=>?_)
 obtain ⟨it,fp,tn,J,H2,e,I2,T,st2,f2,W,⟨m0,w0⟩,turn⟩:=h2
 subst e
 have I5:=comp_inv (N':=N') (ix:=ix) (fp:=fp) c1 c3 c2 c4 ck cl1 cl2 I2 f2 (T.obj _ _ st2)
 refine wpAny_newObj_type ?_
 unfold newFunctionEnv
 refine wpAny_bind (wpAny_alloc ?_)
 refine wpAny_bind (wpAny_layCells _ (fun name kind cells=>by cases hkc:kind == NameKind.cell <;> simp [hkc]) _ _ _ _ ?_)
 refine wpAny_bind ?_
 rw [List.forIn_nil]
 refine wpAny_pure (wpAny_pure ?_)
 have sz3:(s2.heap.push (lobj [] 0)).objs.size=s2.heap.objs.size+1:=Heap.size_push ..
 have sz4:((s2.heap.push (lobj [] 0)).push { cls:=.type "dict",data:=.dict #[] }).objs.size=s2.heap.objs.size+2:=by rw [Heap.size_push,sz3]
 show codeAny (model X.prog X.w) X.A (.compStart (.ListComp elt [⟨tg,iter,ifs,0⟩] scope pos) 0 (.ref it) (.ref s2.heap.objs.size)
  (compCx X scope N' (cellsFrom ((s2.heap.push (lobj [] 0)).push { cls:=.type "dict",data:=.dict #[] }).objs.size scope.names cl) (s2.heap.push (lobj [] 0)).objs.size s2 H2 fp []).env)
  (compPost (model X.prog X.w) X.A X.xe use Q' (.ref s2.heap.objs.size) (s2.heap.push (lobj [] 0)).objs.size)
  { s2 with heap:=pushCells ((s2.heap.push (lobj [] 0)).push { cls:=.type "dict",data:=.dict #[] }) scope.names }
 rw [sz4,sz3]
 generalize hcells:cellsFrom (s2.heap.objs.size+2) scope.names cl=cells at I5 ⊢
 have keep5:∀ b o,s2.heap.get? b=some o->(pushCells ((s2.heap.push (lobj [] 0)).push { cls:=.type "dict",data:=.dict #[] }) scope.names).get? b=some o:=fun b o e =>
  pushCells_keeps _ _ b o (Heap.get?_push_of_some _ (Heap.get?_push_of_some _ e))
 generalize hh5:({ s2 with heap:=pushCells ((s2.heap.push (lobj [] 0)).push { cls:=.type "dict",data:=.dict #[] }) scope.names }:Shared)=s5 at I5 ⊢
 have keep5:∀ b o,s2.heap.get? b=some o->s5.heap.get? b=some o:=by rw [<- hh5];exact keep5
 have st5:tn 0 s5.heap:=T.keep _ _ _ st2 fun b hb o e=>keep5 b o e
 have lt2:∀ (b:Nat),b∈fp->b < s2.heap.objs.size:=fun b hb=>by
  obtain ⟨o,e,_⟩:=T.obj _ _ st2 b hb
  exact Heap.lt_size e
 -- the iterator within the block
 have stat:∀ {H':Hp} {o:Obj},(∀ b∈fp,H' b=none)->∀ b∈fp,FpOk (compCx X scope N' cells (s2.heap.objs.size+1) s2 H2 fp []) [(s2.heap.objs.size,o)] H' b:=fun {H' o} hn b hb =>
  ⟨hn b hb,(I5.ok.exf b hb).1,I5.ok.exfs b hb,.inl hb,(I5.ok.exf b hb).2,fun p hp=>by
   have e:p=(s2.heap.objs.size,o):=by simpa using hp
   subst e
   exact Nat.ne_of_gt (lt2 b hb)⟩
 have loop:codeAny (model X.prog X.w) X.A (.compLoop (.ListComp elt [⟨tg,iter,ifs,0⟩] scope pos) 0 (.ref it) (.ref s2.heap.objs.size)
   (compCx X scope N' cells (s2.heap.objs.size+1) s2 H2 fp []).env) (compPost (model X.prog X.w) X.A X.xe use Q' (.ref s2.heap.objs.size) (s2.heap.objs.size+1)) s5:=by
  refine Jp (fun n s'=>∃ i ys τ H' its k,Inv (compCx X scope N' cells (s2.heap.objs.size+1) s2 H2 fp []) [(s2.heap.objs.size,lobj its k)] τ H' s'/\tn i s'.heap/\(∀ b∈fp,H' b=none)/\Vals ys its/\ys.length<=sizeLine/\W i n ys τ H') ?_ m0
   ⟨0,[],_,H2,[],0,I5,st5,fun b hb=>(f2 b hb).1,.nil,Nat.zero_le _,w0⟩
  rintro n s3 ⟨i,ys,τ,H3,its,k,I3,st3,fr3,hv3,hz3,w3⟩
  rcases turn i n ys τ H3 w3 with ⟨stop,qn⟩ | ⟨go,hlen,N,hN,step⟩
  ·refine thn (T.done (compCx X scope N' cells (s2.heap.objs.size+1) s2 H2 fp []) rfl rfl rfl hc i _ s3 τ H3 (fun _ _=>False) I3 (stat fr3) st3 stop) fun r s4 ⟨hr,I4⟩=>?_
   subst hr
   obtain ⟨eD,nD,_,_,_⟩:=I4.pin (s2.heap.objs.size,lobj its k) (by simp)
   exact hend s2 s4 H2 H3 _ _ fp cells τ ys its k I2 f2 I4 (Nat.le_succ _) (Nat.le_refl _) (Nat.ne_of_lt (Nat.lt_succ_self _)) hv3 hz3 (qn _ nD)
  ·refine thn (T.item (compCx X scope N' cells (s2.heap.objs.size+1) s2 H2 fp []) rfl rfl rfl hc i _ s3 τ H3 (fun _ _=>False) I3 (stat fr3) st3 go) fun r s4 ⟨u,hr,h4⟩=>?_
   subst hr
   refine thn h4 fun _ s5' ⟨x,H5,I5',r5,y5,st5',fr5⟩=>?_
   have I6:=I5'.pinned (stat fr5) (T.obj _ _ st5')
   refine thn (hg cells _ s2 H2 fp [] _ s5' τ H5 x u _ I6 r5 (step x H5 y5)) fun _ s6 ⟨τ6,H6,I7,q6⟩=>?_
   refine thn (ht cells _ s2 H2 fp [] _ s6 τ6 H6 _ I7 q6) fun ok s7 ⟨H7,I8,q7⟩=>?_
   have fin:∀ {s8:Shared} {H8:Hp} {its':List Value} {k':Nat} {ys':List V},Inv (compCx X scope N' cells (s2.heap.objs.size+1) s2 H2 fp []) ([(s2.heap.objs.size,lobj its' k')]++pinsAt fp s5'.heap) τ6 H8 s8->Vals ys' its'->ys'.length<=sizeLine->N ys' τ6 H8 ->
     ∃ m,m < n/\∃ i ys τ H' its k,Inv (compCx X scope N' cells (s2.heap.objs.size+1) s2 H2 fp []) [(s2.heap.objs.size,lobj its k)] τ H' s8/\tn i s8.heap/\(∀ b∈fp,H' b=none)/\Vals ys its/\ys.length<=sizeLine/\W i m ys τ H':=fun {s8 H8 its' k' ys'} I9 hv hz n9=>by
    obtain ⟨m',hm,w9⟩:=hN ys' τ6 H8 n9
    refine ⟨m',hm,i+1,ys',τ6,H8,its',k',I9.unpinned,T.keep _ _ _ st5' fun b hb o e=>(I9.pin (b,o) (List.mem_append_right _ (List.mem_append_right _ (j7 hb e)))).1,fun b hb=>?_,hv,hz,w9⟩
    obtain ⟨o,e,d⟩:=T.obj _ _ st5' b hb
    exact (I9.pin (b,o) (List.mem_append_right _ (List.mem_append_right _ (j7 hb e)))).2.1
   cases ok with
   | false=>exact fin I8 hv3 hz3 q7
   | true =>
    refine thn (he cells _ s2 H2 fp [] _ s7 τ6 H7 _ I8 q7) fun y s8 ⟨v8,H8,I9,r8,q8⟩=>?_
    obtain ⟨eD,nD,dL,dF,_⟩:=I9.pin (s2.heap.objs.size,lobj its k) (by simp)
    have hl:=hv3.length
    refine Zy (X:=X) (τ:=τ) (H':=H8) (by omega) eD fun h' k' eD' kp=>?_
    -- the pin on the list is let go,the list turns,and is pinned anew
    have hx:∀ p∈pinsAt fp s5'.heap,p.1≠s2.heap.objs.size:=fun p hp=>by
     have:=lt2 p.1 (Jj hp).1
     exact Nat.ne_of_lt this
    have J1:Inv (compCx X scope N' cells (s2.heap.objs.size+1) s2 H2 fp []) (pinsAt fp s5'.heap) τ6 H8 s8:=I9.pins_of fun p hp=>I9.pin p (List.mem_append_right _ (List.mem_append_right _ hp))
    have J2:Inv (compCx X scope N' cells (s2.heap.objs.size+1) s2 H2 fp []) (pinsAt fp s5'.heap) τ6 H8 { s8 with heap:=h' }:=J1.turned (t':=s8.toks) (it:=s2.heap.objs.size) kp nD dL (.inr (Nat.le_refl _)) (fun x c e z=>by
     obtain ⟨v,o,ho,hd⟩:=J1.cell x c e
     rw [z,eD] at ho
     cases ho
     cases hd) fun p hp=>hx p (by simpa using hp)
    have J3:Inv (compCx X scope N' cells (s2.heap.objs.size+1) s2 H2 fp []) ([(s2.heap.objs.size,lobj (its++[y]) k')]++pinsAt fp s5'.heap) τ6 H8 { s8 with heap:=h' }:=J2.pins_of fun p hp=>by
     rcases List.mem_append.mp hp with z | z
     ·have e:p=(s2.heap.objs.size,lobj (its++[y]) k'):=by simpa using z
      subst e
      exact ⟨eD',nD,dL,dF,fun v z=>by cases z⟩
     ·exact J2.pin p (List.mem_append_right _ z)
    exact fin J3 (hv3.append (.cons r8 .nil)) (by rw [List.length_append,List.length_singleton];omega) q8
 exact codeAny_compStart_list loop (T.self X.A 0 s5 _ _ st5 loop)
theorem yo {X:Cx} {tg iter elt:Expr} {ifs:List Expr} {scope:Scope} {pos px spos:Pos} {N':List Str} {ix:List (Option Nat)} {wi:TI} {g:TG} {tc:TT} {te:TE} {i:Nat} {x:Str}
  (hN:X.N.Nodup) (hi0:X.N[i]? = some x) (hx:X.env.scope.names.lookup x=some .local)
  (hc:X.calm=true) (chk:compChk X scope N' ix=true) (hi:PI X tg iter wi)
  (hg:∀ cells C s₀ H₀ ex pn,PG (compCx X scope N' cells C s₀ H₀ ex pn) tg g)
  (ht:∀ cells C s₀ H₀ ex pn,PTs (compCx X scope N' cells C s₀ H₀ ex pn) ifs tc)
  (he:∀ cells C s₀ H₀ ex pn,PE (compCx X scope N' cells C s₀ H₀ ex pn) elt te)
  (hs:∀ x,foldedSetIterable iter X.env x=pure x:=by intro _;rfl)
  (hsw:swapsWith (.ListComp elt [⟨tg,iter,ifs,0⟩] scope pos) (some (.Name x px)) spos.line X.env=pure true:=by rfl) :
  PS X (.Assign [.Name x px] (.ListComp elt [⟨tg,iter,ifs,0⟩] scope pos) spos) (fun D σ H=>tComp ix wi g tc te σ H fun v H1=>D.nx (σ.set i (some v)) H1):=by
 intro pins s σ H D I h
 rw [exec_Assign_Name_used _ _ _ _ hsw]
 refine wpAny_bind (wpAny_standAt (wpAny_bind ?_))
 show wpAny _ X.A (comprehension (.ListComp elt [⟨tg,iter,ifs,0⟩] scope pos) scope X.env _ (newList []) false (eval iter X.env) (some (assign (.Name x px) X.env)) >>= fun _=>pure ()) _ _ s
 refine wpAny_bind (wpAny_mono (qch (use:=some (assign (.Name x px) X.env)) (Q':=fun _ s'=>SP X pins D .next s') hc chk hi hg ht he hs I h ?_) (fun _ s' hq=>wpAny_pure (wpAny_pure hq)) fun _ _ e=>e)
 intro s2 s4 H2 H3 C Da fp cells τ ys its k I2 f2 I4 hC hD hDC hv hz q
 obtain ⟨eD,nD,_,_,_⟩:=I4.pin (Da,lobj its k) (by simp)
 have I5:Inv X pins σ (upd H3 Da (.lst ys)) s4:=qad I2 f2 I4 hC hD hDC nD eD hv hz (Heap.SameBut.refl _ _)
 show wpAny _ X.A (assign (.Name x px) X.env (.ref Da)) _ _ s4
 refine wpAny_assign_Name (Zk I5 hN hi0 (.inl hx) (show RelV (.ref Da) (.ref Da) from rfl) (fun s6 I6 ⟨a,sb,ha⟩=>?_) (.inr hx))
 obtain ⟨m,hn,_⟩:=I4.loc
 have neL:C≠X.env.locals:=Nat.ne_of_gt (Nat.lt_of_lt_of_le I2.lt hC)
 have cne:∀ y c,X.env.cells.lookup y=some c->c≠C:=fun y c e=>by
  obtain ⟨v,z⟩:=I2.cell y c e
  exact Nat.ne_of_lt (Nat.lt_of_lt_of_le z.lt hC)
 have nea:C≠a:=by
  rcases ha with e | e
  ·rw [e];exact neL
  ·exact (cne x a e).symm
 refine ⟨m,hn.sameBut sb nea,fun h' sb'=>⟨σ.set i (some (.ref Da)),upd H3 Da (.lst ys),?_,q⟩⟩
 have nC:upd H3 Da (.lst ys) C=none:=by rw [qe hDC.symm];exact I4.free
 refine I6.turned (t':=s6.toks) (it:=C) (fun b o hb e=>(sb'.2 b hb).trans e) nC neL (.inr (Nat.le_trans I2.sz hC)) cne fun p hp z=>?_
 have:=Heap.lt_size (I2.pin p hp).1
 rw [z] at this
 exact absurd (Nat.lt_of_lt_of_le this hC) (Nat.lt_irrefl _)
end L2
namespace L2
open PySem PySem.Spec PyProof.Rows
theorem qgb {X:Cx}:OpR X (binaryOp .Mult) (rI (fun i j=>Builtin.Int.intBits i<=2 ^ 20/\Builtin.Int.intBits j<=2 ^ 20) fun i j=>.int (i * j)):=opI fun _ _ _ _ _ _ _ hc q=>mul_int q (IntMulOk.of_bits hc.1 hc.2)
end L2
namespace L2
open PySem PySem.Spec PyProof.Rows
theorem qu {J:It} {xs:List V} {ok:Hp->Prop} {g:TG} {te:TE} {R:Addr->List V->Hp->Prop} {τ0:St} {H:Hp} (S:Sure J xs ok) (hz:xs.length<=10000) (Pv:Nat->List V->St->Hp->Prop) (h0:Pv 0 [] τ0 H)
  (hl:∀ i ys τ H,i<=xs.length->Pv i ys τ H->ok H/\ys.length<=i)
  (hs:∀ i x ys τ H,xs[i]? = some x->Pv i ys τ H->g x τ H fun τ2 H2=>te τ2 H2 (fun y H4=>Pv (i+1) (ys++[y]) τ2 H4))
  (hd:∀ ys τ H D,Pv xs.length ys τ H->H D=none->R D ys H) :
  ∃ W:Nat->Nat->List V->St->Hp->Prop,(∃ m,W 0 m [] τ0 H)/\∀ i m ys τ H,W i m ys τ H ->
   (J.stop i H/\∀ D,H D=none->R D ys H) \/
   (J.go i H/\ys.length < sizeLine/\∃ N:List V->St->Hp->Prop,(∀ ys' τ' H',N ys' τ' H'->∃ m',m' < m/\W (i+1) m' ys' τ' H') /\
    ∀ x H',J.yld i H x H'->g x τ H' fun τ2 H2=>tAll τ2 H2 fun b H3=>if b=true then te τ2 H3 (fun y H4=>N (ys++[y]) τ2 H4) else N ys τ2 H3):=by
 refine ⟨fun i m ys τ H=>m=xs.length - i/\i<=xs.length/\Pv i ys τ H,⟨xs.length,by simp,Nat.zero_le _,h0⟩,?_⟩
 rintro i m ys τ H ⟨rfl,hi,p⟩
 obtain ⟨q,hy⟩:=hl i ys τ H hi p
 by_cases hlt:i < xs.length
 ·refine .inr ⟨S.go i H hlt q,Nat.lt_of_lt_of_le (show ys.length < 10000 by omega) (by decide),Pv (i+1),fun ys' τ' H' p'=>⟨xs.length - (i+1),by omega,rfl,hlt,p'⟩,fun x H' y=>?_⟩
  obtain ⟨e,y'⟩:=S.yld i H x H' hlt q y
  subst e
  have e2:(fun (τ2:St) (H2:Hp)=>tAll τ2 H2 fun b H3=>if b=true then te τ2 H3 (fun y H4=>Pv (i+1) (ys++[y]) τ2 H4) else Pv (i+1) ys τ2 H3)=fun τ2 H2=>te τ2 H2 (fun y H4=>Pv (i+1) (ys++[y]) τ2 H4):=by
   funext τ2 H2
   unfold tAll
   exact if_pos rfl
  rw [e2]
  exact hs i x ys τ _ y' p
 ·have e:i=xs.length:=by omega
  subst e
  exact .inl ⟨S.stop H q,fun D hD=>hd ys τ H D p hD⟩
end L2
namespace L2
open PySem PySem.Spec PyProof.Rows
section
variable {X:Cx} (K:W.Frag)
theorem jk {tg l:Expr} {tl:TE} (hl:PE X l tl) (hK:X.K=K:=by rfl):PI X tg l (iList K tl):=by subst hK;exact pi_list hl
theorem qci {tg l:Expr} {tl:TE} (hl:PE X l tl) (hK:X.K=K:=by rfl):PI X tg l (iTup K tl):=by subst hK;exact qbw hl
theorem qy (hK:X.K=K:=by rfl):IxR X (rIxL K):=by subst hK;exact ve
theorem jd (hK:X.K=K:=by rfl):IxR X (rIxT K):=by subst hK;exact Zo
theorem V3 (hK:X.K=K:=by rfl):SlR X (rSlL K):=by subst hK;exact qb5
def rLen (K:W.Frag):List V->Hp->VK->Prop:=fun xs H Q=>∃ p ys,xs=[.ref p]/\(SqL K H p ys\/SqT K H p ys)/\Q (.int ys.length) H
theorem jn (hK:X.K=K:=by rfl):CallR X (.builtin "len") (rLen K):=by subst hK;exact va
def rSum (K:W.Frag):List V->Hp->VK->Prop:=fun xs H Q=>∃ (l:Addr) (ns:List Int),xs=[.ref l]/\SqL K H l (ns.map V.int)/\Q (.int ns.sum) H
theorem yp (hc:X.calm=true) (hK:X.K=K:=by rfl):CallR X (.builtin "sum") (rSum K):=by subst hK;exact qd4 hc
def rIsi (K:W.Frag):List V->Hp->VK->Prop:=fun xs H Q=>∃ x T t b,xs=[x,.ty T]/\TyOf K H x t/\W.kitOne K t (.type T)=some b/\Q (.bl b) H
theorem j4 (hK:X.K=K:=by rfl):CallR X (.builtin "isinstance") (rIsi K):=by subst hK;exact Ym
def rListOf (K:W.Frag):List V->Hp->VK->Prop:=fun xs H Q=>∃ p ys,xs=[.ref p]/\(SqL K H p ys\/SqT K H p ys)/\∀ l,H l=none->Q (.ref l) (upd H l (.lst ys))
theorem vo (hK:X.K=K:=by rfl):CallR X (.type "list") (rListOf K):=by subst hK;exact call_list_of
def rTupOf (K:W.Frag):List V->Hp->VK->Prop:=fun xs H Q=>∃ p ys,xs=[.ref p]/\((SqL K H p ys/\∀ l,H l=none->Q (.ref l) (upd H l (.tup ys)))\/(SqT K H p ys/\Q (.ref p) H))
theorem vf (hK:X.K=K:=by rfl):CallR X (.type "tuple") (rTupOf K):=by subst hK;exact V0
theorem js (hK:X.K=K:=by rfl):MtR X "str.join" (rJoin K):=by subst hK;exact qcg
def tTru (K:W.Frag) (ta:TE):TT:=fun σ H Q=>ta σ H fun x H'=>∃ k,TruV K x H' k/\Q k H'
theorem pt_truthK {a:Expr} {ta:TE} (ha:PE X a ta) (he:∀ whole,isTrue a X.env whole=(do let v <- whole;standAt a.pos;holding [v] (truthy v))) (hK:X.K=K:=by rfl):PT X a (tTru K ta):=by subst hK;exact qds ha he
theorem vz {es:List Expr} {k:Nat} {t:TGs} {n:Nat} {pos:Pos} (hc:X.calm=true) (h:PGs X es t) (hn:(assignEach es X.env).length=n:=by rfl) (hst:(assignEach es X.env).findIdx? (·.1)=none:=by rfl) (hK:X.K=K:=by rfl):PG X (.Tuple es k pos) (gTup K n t):=by
 subst hK;exact qh7 hc h hn hst
theorem qgc {l l':Expr} {ta:TA} {elts:List Expr} {k:Nat} {tp p pos:Pos} (hg:Gl X "zip") (hm:X.mg "zip" = none) (hl:PA X [l,l'] ta) (hs:starEach [l,l'] X.env=[(false,eval l X.env),(false,eval l' X.env)]:=by rfl) (hs2:starEach [l'] X.env=[(false,eval l' X.env)]:=by rfl) (hK:X.K=K:=by rfl) :
  PI X (.Tuple elts k tp) (.Call (.Name "zip" p) [l,l'] [] pos) (iZip K ta):=by
 subst hK;exact pi_zip hg hm hl hs hs2
theorem yy {l:Expr} {ta:TA} {elts:List Expr} {k:Nat} {tp p pos:Pos} (hg:Gl X "enumerate") (hm:X.mg "enumerate" = none) (hl:PA X [l] ta) (hs:starEach [l] X.env=[(false,eval l X.env)]:=by rfl) (hK:X.K=K:=by rfl) :
  PI X (.Tuple elts k tp) (.Call (.Name "enumerate" p) [l] [] pos) (iEnum K ta):=by
 subst hK;exact pi_enum hg hm hl hs
theorem ju {o e:Expr} {es:List Expr} {to:TE} {t:TA} {name:Str} {apos cpos:Pos} {T id:String} {r:V->List V->Hp->VK->Prop} (pa:PlainAttrs T) (slot:Slot T name id) (hty:typeOf (.builtin id)=pure (.type "method_descriptor")) (hm:MtR X id r) (ho:PE X o to) (ha:PA X (e :: es) t)
  (hbase:attributeBase o name X.env (eval o X.env)=eval o X.env:=by rfl)
  (hfew:((backTo cpos (starEach (e :: es) X.env)).all (fun x=>!x.1) && (backToKw cpos (keywordEach [] X.env)).all (fun x=>x.1.isSome) && decide ((e :: es).length+([]:List Keyword).length+(if ([]:List Keyword).isEmpty then 0 else 1) < 30))=true:=by rfl)
  (hline:(apos.endLine == cpos.line)=true:=by rfl) (hs:starEach (e :: es) X.env=(false,eval e X.env) :: starEach es X.env:=by rfl) (hplain:(backTo cpos (starEach es X.env)).any (·.1)=false:=by rfl) (hK:X.K=K:=by rfl) :
  PE X (.Call (.Attribute o name apos) (e :: es) [] cpos) (tBM K T r to t):=by
 subst hK;exact qf3 pa slot hty hm ho ha hbase hfew hline hs hplain
end
def CDivB (i j:Int):Prop:=0 < j/\j<=100000000000000000000000000000000000000000000000000000000000000000000000000000000
theorem qd5 {X:Cx}:OpR X (binaryOp .FloorDiv) (rI CDivB fun i j=>.int (i / j)):=opI fun i j _ _ _ _ _ hc q=>by
 rw [<- Int.fdiv_eq_ediv_of_nonneg i (Int.le_of_lt hc.1)] at q
 refine floordiv_int (by have:=hc.1;omega) q (.inl (PyProof.noPylong_of_log2 ?_))
 obtain ⟨h1,h2⟩:=hc
 have h0:j.natAbs≠0:=by omega
 have h3:j.natAbs < 2 ^ 300:=Nat.lt_of_le_of_lt (show j.natAbs<=100000000000000000000000000000000000000000000000000000000000000000000000000000000 by omega) (by decide +kernel)
 exact Nat.lt_trans ((Nat.log2_lt h0).mpr h3) (by decide)
end L2
namespace L2
open PySem PySem.Spec PyProof.Rows
theorem Yn:typeLookup (.type "list") "keys" = pure none:=by rw [typeLookup_type,builtinLookup_eq_fast];kernel_rfl
theorem Z0 {P:Program} {w:World} {A:Around} {E:Value->Shared->Prop} {s:Shared} {a:Addr} {o:Obj} {xs:Array Value} {k:Nat} {Q:Option Value->Shared->Prop}
  (ho:s.heap.get? a=some o) (hc:o.cls=.type "list") (hs:o.data=.seq xs k) (hd:o.dict=none) (hA:A.handled=none)
  (q:∀ h' tk,(∀ b u,s.heap.get? b=some u->h'.get? b=some u)->Q none { s with heap:=h',toks:=tk }):wpAny (model P w) A (getAttr? (.ref a) "keys") Q E s:=by
 obtain ⟨c,dct,dat,sl⟩:=o
 simp only at hc hs hd
 subst hc hs hd
 obtain ⟨hp,g,d,tk,os⟩:=s
 have ty:∀ tk',(⟨hp,g,d,tk',os⟩:Shared).TypeIs (.ref a) "list":=fun _=>⟨_,ho,rfl⟩
 have z1:=sub_AttributeError
 have z3:=F.slot_list_getattribute.lookup
 have z4:=F.slot_list_getattribute.bind (.ref a)
 have z5:=am_list_getattr_none
 unfold getAttr? getAttrBy? getAttrBy
 repeat (any_goals (first | assumption | exact ty _ | ((with_reducible show wpAny _ _ (call (Value.builtin "list.__getattribute__") _ _) _ _ _);refine call_meets F.slot_list_getattribute (ty _) am_entry_list_getattribute (F.args_list_getattribute_2 _ _) (meets_getattribute_miss_list a xs k sl "keys" _ Yn (by decide +kernel) (by decide +kernel)) ⟨ho,hA,fun h' tk' e hx'=>?_⟩) | wp_step))
 obtain ⟨t',u',he⟩:=hx'.there
 have tE:(⟨h',g,d,tk',os⟩:Shared).TypeIs (.ref e) "AttributeError":=⟨_,he,rfl⟩
 show wpAny _ _ (getattributeRaised _ _ _ _ _ _ _) _ _ _
 unfold getattributeRaised
 repeat (any_goals (first | assumption | wp_step))
 exact q h' tk' hx'.keeps
theorem vp {P:Program} {w:World} {κ:Type} [DecidableEq κ] {knd:KeyKind P w κ} {d:Addr} {kvs:List (κ × Value)} {h h':Heap} (m:h.DictOf knd d kvs) (e:∀ o,h.get? d=some o->h'.get? d=some o):h'.DictOf knd d kvs:=by
 obtain ⟨o,es,ep,ho,r⟩:=m
 exact ⟨o,es,ep,e o ho,r⟩
theorem zj:entryFor table "dict.update.loop" = some Builtin.«dict.update.loop»:=entryFor_of_tree (by kernel_rfl)
theorem jp:plainId "dict.update.loop" = true:=by decide +kernel
theorem V4 {P:Program} {w:World} {A:Around} {κ:Type} [DecidableEq κ] {knd:KeyKind P w κ} {it d:Addr} {fp wr:List Addr} {n:Nat} {Pv:Nat->Value->Prop} {St:Nat->Heap->Prop} {R:Result->Shared->Prop}
  (W:Walks P w A.in1 it fp wr n Pv St) (hd:d ∉ fp) (kvs:List (κ × Value)) (hn:kvs.length=n) (nd:(kvs.map (·.1)).Nodup) (ads:Nat->Addr) (hP:∀ i v,i < n->Pv i v->v=.ref (ads i)) (hw:∀ i,i < n->ads i ∉ wr/\ads i≠d) (hz:n<=sizeLine) :
  ∀ (m i:Nat) (s:Shared),i+m=n->St i s.heap->s.heap.DictOf knd d (kvs.take i)->(∀ j p,kvs[j]? = some p->∃ key,knd.is p.1 key=true/\IsTup s.heap (ads j) #[key,p.2]) ->
   (∀ h' tk,h'.DictOf knd d kvs->(∀ b o,b ∉ wr->b≠d->s.heap.get? b=some o->h'.get? b=some o)->R (.ok (.ret .none)) { s with heap:=h',toks:=tk }) ->
   codeAny (model P w) A (.builtin "dict.update.loop" ⟨[.ref d,.ref it,.int i 0,.none],[]⟩) R s
 | 0,i,s,hi,st,hD,hT,q=>by
  refine codeAny_builtin zj ?_
  rw [Around.under_plainId jp]
  have e:i=n:=by omega
  subst e
  unfold Builtin.«dict.update.loop»
  show wpAny _ _ (pyNext (.ref it) >>= _) _ _ _
  refine wpAny_bind (W.done s _ _ st fun h' tk kk=>?_)
  show wpAny _ _ (Builtin.Dict.addKeywords d [] >>= _) _ _ _
  refine wpAny_bind (wpAny_pure (wpAny_pure ?_))
  have hdw:d ∉ wr:=fun z=>hd (W.sub d z)
  refine q h' tk ?_ fun b o hb _ e=>kk b o hb e
  have hD':=vp (h':=h') hD fun o e=>kk d o hdw e
  rw [<- hn,List.take_length] at hD'
  exact hD'
 | m+1,i,s,hi,st,hD,hT,q=>by
  refine codeAny_builtin zj ?_
  rw [Around.under_plainId jp]
  unfold Builtin.«dict.update.loop»
  show wpAny _ _ (pyNext (.ref it) >>= _) _ _ _
  refine wpAny_bind (W.item i s _ _ (by omega) st fun v h' tk hv st' kk=>?_)
  have ev:=hP i v (by omega) hv
  subst ev
  have hil:i < kvs.length:=by omega
  obtain ⟨key,hk,ht⟩:=hT i kvs[i] (List.getElem?_eq_getElem hil)
  have ht':IsTup h' (ads i) #[key,kvs[i].2]:=by
   obtain ⟨o,ho,r⟩:=ht
   exact ⟨o,kk _ o (hw i (by omega)).1 ho,r⟩
  obtain ⟨o,ho,hoc,no,hod⟩:=id ht'
  have tT:({ s with heap:=h',toks:=tk }:Shared).TypeIs (.ref (ads i)) "tuple":=⟨o,ho,hoc⟩
  refine wpAny_bind (wpAny_holding ?_)
  refine wpAny_bind (wpAny_tryCatch ?_)
  unfold Builtin.Dict.pairItems
  refine wpAny_bind (wpAny_typeOf tT ?_)
  rw [if_pos (by decide)]
  refine wpAny_bind (wpAny_seqItems ho hod (wpAny_pure ?_))
  show wpAny _ _ (holding [key,kvs[i].2] (dictSet d key kvs[i].2)) _ _ _
  have hdw:d ∉ wr:=fun z=>hd (W.sub d z)
  have hD':=vp (h':=h') hD fun o e=>kk d o hdw e
  refine wpAny_holding (wpAny_dictSet_pairs (s:={ s with heap:=h',toks:=tk }) hk hD' (fun h2 hD2 hs2=>?_) (by rw [List.length_take];omega))
  have en:stored (kvs.take i) kvs[i].1 kvs[i].2=kvs.take (i+1):=by
   unfold stored
   rw [if_neg,List.take_add_one,List.getElem?_eq_getElem hil]
   ·rfl
   ·intro z
    obtain ⟨p,hp,hpe⟩:=List.any_eq_true.mp z
    have hpe':p.1=kvs[i].1:=of_decide_eq_true hpe
    have:=nd
    rw [<- List.take_append_drop i kvs,List.map_append] at this
    obtain ⟨_,_,dis⟩:=List.nodup_append.mp this
    refine dis p.1 (List.mem_map_of_mem hp) kvs[i].1 ?_ hpe'
    rw [List.drop_eq_getElem_cons hil]
    exact List.mem_map_of_mem List.mem_cons_self
  rw [en] at hD2
  refine wpAny_pure ⟨plainId_quiet jp _,?_⟩
  have st2:St (i+1) h2:=W.frame (i+1) h' h2 st' fun b hb o e=>hs2.extBut _ _ (fun z=>hd (by rw [<- z];exact hb)) e
  have ei:rawInt ((i:Int)+1)=.int ((i+1:Nat):Int) 0:=by unfold rawInt;push_cast;rfl
  rw [ei]
  refine V4 W hd kvs hn nd ads hP hw hz m (i+1) { s with heap:=h2,toks:=tk+1 } (by omega) st2 hD2 (fun j p hj=>?_) fun h3 tk3 hD3 k3=>q h3 tk3 hD3 fun b o hb hbd e=>k3 b o hb hbd (hs2.extBut _ _ hbd (kk b o hb e))
  obtain ⟨key',hk',o',ho',r'⟩:=hT j p hj
  have hj':j < n:=by rw [<- hn];exact (List.getElem?_eq_some_iff.mp hj).1
  exact ⟨key',hk',o',hs2.extBut _ _ (hw j hj').2 (kk _ _ (hw j hj').1 ho'),r'⟩
inductive PairsAt (H:Hp):List Addr->List (Key × V)->Prop where
 | nil:PairsAt H [] []
 | cons {p:Addr} {ps:List Addr} {k:Key} {v:V} {kvs:List (Key × V)}:H p=some (.tup [kV k,v])->PairsAt H ps kvs->PairsAt H (p :: ps) ((k,v) :: kvs)
theorem PairsAt.len {H:Hp}:∀ {ps:List Addr} {kvs:List (Key × V)},PairsAt H ps kvs->ps.length=kvs.length
 | _,_,.nil=>rfl
 | _,_,.cons _ r=>congrArg (· + 1) r.len
theorem PairsAt.mem {H:Hp}:∀ {ps:List Addr} {kvs:List (Key × V)},PairsAt H ps kvs->∀ p∈ps,∃ o,H p=some o
 | _,_,.nil,p,h=>by simp at h
 | _,_,.cons e r,p,h=>by
  rcases List.mem_cons.mp h with z | z
  ·rw [z];exact ⟨_,e⟩
  ·exact r.mem p z
theorem PairsAt.real {X:Cx} {pins:List (Addr × Obj)} {σ:St} {H:Hp} {s:Shared} (I:Inv X pins σ H s):∀ {ps:List Addr} {kvs:List (Key × V)},PairsAt H ps kvs ->
  ∃ vs:List (Key × Value),KV kvs vs/\∀ (j:Nat) p,vs[j]? = some p->∃ key,(mixKind X.prog X.w).is p.1 key=true/\IsTup s.heap (ps.getD j 0) #[key,p.2]
 | _,_,.nil=>⟨[],.nil,fun j p e=>by simp at e⟩
 | _,_,.cons (p:=a) (k:=k) (v:=v) e r=>by
  obtain ⟨vs,hv,h⟩:=r.real I
  obtain ⟨its,rv,ht,_⟩:=I.tuple (SqT.of e)
  cases rv with
  | cons r1 rr =>
   rename_i key its1
   cases rr with
   | cons r2 rr2 =>
    rename_i val its2
    cases rr2
    refine ⟨(k,val) :: vs,.cons ⟨rfl,r2⟩ hv,fun j p ep=>?_⟩
    cases j with
    | zero =>
     cases ep
     exact ⟨key,qb6 r1,ht⟩
    | succ j=>exact h j p ep
def rDictL (K:W.Frag):List V->Hp->VK->Prop:=fun xs H Q=>∃ (l:Addr) (ps:List Addr) (kvs:List (Key × V)),xs=[.ref l]/\SqL K H l (ps.map V.ref)/\PairsAt H ps kvs/\(kvs.map (·.1)).Nodup/\kvs.length<=1000 /\
 ∀ d,H d=none->Q (.ref d) (upd H d (.dK kvs))
theorem Yo {κ:Type}:∀ {kvs:List (κ × V)} {vs:List (κ × Value)},KV kvs vs->vs.map (·.1)=kvs.map (·.1)
 | _,_,.nil=>rfl
 | _,_,.cons h r=>by
  rw [List.map_cons,List.map_cons,Yo r,h.1]
theorem Vh {X:Cx} (hc:X.calm=true):CallR X (.type "dict") (rDictL X.K):=by
 intro pins s σ H xs us Q I r h
 obtain ⟨l,ps,kvs,rfl,hL,hP,nd,hz,q⟩:=h
 obtain ⟨u,rfl,ru⟩:=vals1 r
 cases ru
 obtain ⟨its,rv,pl,hl⟩:=I.list hL
 obtain ⟨ol,nl,hol,hcl,hdl,hsl⟩:=id pl
 obtain ⟨vs,hv,hT⟩:=hP.real I
 have hA:=I.ok.hd hc
 refine callType_codes (Q₁:=fun ob s1=>ob=.ref s.heap.objs.size/\s1 = { s with heap:=s.heap.push { cls:=.type "dict",data:=.dict #[] } }) F.kt_called_dict (F.kt_typeCall_dict_1 _) F.entry_dict_init (kt_code_dict_new _ ⟨rfl,rfl⟩) ?_
 rintro ob s1 ⟨rfl,rfl⟩
 have hnew:(s.heap.push { cls:=.type "dict",data:=.dict #[] }).DictOf (mixKind X.prog X.w) s.heap.objs.size []:=Heap.DictOf.new s.heap
 have hol1:(s.heap.push { cls:=.type "dict",data:=.dict #[] }).get? l=some ol:=Heap.get?_push_of_some _ hol
 refine ⟨hnew.typeIs,F.args_dict_init_2 _ _,?_⟩
 unfold Builtin.«dict.__init__» ;unfold Builtin.Dict.selfAndRest
 refine wpAny_bind (wpAny_bind (wpAny_notOrdered_dict hnew.typeIs ?_))
 show wpAny _ _ (pure (s.heap.objs.size,[Value.ref l])) _ _ _
 refine wpAny_pure ?_
 show wpAny _ _ (Builtin.Dict.updateFrom "dict.__init__" s.heap.objs.size (.ref l) [] .none) _ _ _
 unfold Builtin.Dict.updateFrom
 refine wpAny_bind (wpAny_typeOf (T:="list") ⟨ol,hol1,hcl⟩ ?_)
 rw [if_pos (by decide)]
 refine wpAny_bind (Z0 (s:={ s with heap:=s.heap.push { cls:=.type "dict",data:=.dict #[] } }) hol1 hcl hsl hdl hA fun h1 tk1 k1=>?_)
 rw [if_pos (by rfl)]
 refine wpAny_bind (wpAny_rule ?_)
 have L1:h1.IsList l its.toArray:=⟨ol,k1 _ _ hol1,hcl,nl,hsl⟩
 refine wpAny_bind (wpAny_pyIter_list (s:={ s with heap:=h1,toks:=tk1 }) L1 ?_)
 refine wpAny_pure ⟨plainId_quiet jp _,?_⟩
 have hdlt:s.heap.objs.size < h1.objs.size:=Heap.lt_size (k1 _ _ (Heap.get?_push_size _ rfl))
 have llt:l < s.heap.objs.size:=Heap.lt_size hol
 have up:∀ b o,s.heap.get? b=some o->h1.get? b=some o:=fun b o e=>k1 b o (Heap.get?_push_of_some _ e)
 have lenp:ps.length=its.length:=by have:=rv.length;rwa [List.length_map] at this
 have lenv:vs.length=kvs.length:=(Paired.length hv).symm
 have n1:l≠h1.objs.size:=Nat.ne_of_lt (Nat.lt_trans llt hdlt)
 have W:=Walks.list (prog:=X.prog) (w:=X.w) (A:=X.A.in1.in1) hA h1.objs.size l n1 its.toArray
 have ei:rawInt 0=.int ((0:Nat):Int) 0:=rfl
 rw [ei]
 have old:∀ j,j < its.toArray.size->ps.getD j 0 < s.heap.objs.size:=fun j hj=>by
  have hj':j < ps.length:=by rw [lenp];simpa using hj
  have hm:ps.getD j 0∈ps:=by rw [List.getD_eq_getElem?_getD,List.getElem?_eq_getElem hj'];exact List.getElem_mem hj'
  obtain ⟨o,ho⟩:=hP.mem _ hm
  exact I.hok.lt ho
 refine V4 (κ:=Key) (knd:=mixKind X.prog X.w) (n:=its.toArray.size) W (d:=s.heap.objs.size) ?_ vs ?_ ?_ (fun j=>ps.getD j 0) ?_ ?_ ?_ its.toArray.size 0 _ (Nat.zero_add _) ⟨⟨_,Heap.get?_push_size _ rfl,rfl,rfl⟩,L1.push _⟩ ?_ ?_ ?_
 ·intro z
  have z':s.heap.objs.size=h1.objs.size\/s.heap.objs.size=l:=by simpa using z
  exact z'.elim (Nat.ne_of_lt hdlt) (Nat.ne_of_gt llt)
 ·rw [lenv,<- hP.len,lenp];simp
 ·rw [Yo hv];exact nd
 ·intro i v hi e
  have e':its[i]? = some v:=by simpa using e
  have hi':i < ps.length:=by rw [lenp];simpa using hi
  obtain ⟨u,hu,ru⟩:=rv.get (i:=i) (x:=V.ref ps[i]) (by rw [List.getElem?_map,List.getElem?_eq_getElem hi'];rfl)
  rw [hu] at e'
  cases e'
  rw [List.getD_eq_getElem?_getD,List.getElem?_eq_getElem hi']
  exact ru
 ·intro i hi
  have hlt:=old i hi
  refine ⟨fun z=>?_,Nat.ne_of_lt hlt⟩
  have z':ps.getD i 0=h1.objs.size:=by simpa using z
  exact Nat.ne_of_lt (Nat.lt_trans hlt hdlt) z'
 ·have:=hP.len
  exact Nat.le_of_lt (small1000 (by simp;omega))
 ·rw [List.take_zero]
  exact (vp hnew fun o e=>k1 _ o e).push _
 ·intro j p hj
  obtain ⟨key,hk,o,ho,r⟩:=hT j p hj
  exact ⟨key,hk,o,Heap.get?_push_of_some _ (up _ _ ho),r⟩
 ·intro h3 tk3 hD k3
  refine ⟨rfl,.ref s.heap.objs.size,upd H s.heap.objs.size (.dK kvs),I.laid (a:=s.heap.objs.size) (o:=.dK kvs) (t':=tk3) (fun b o e=>?_) (Nat.le_refl _) ⟨Nat.le_of_lt (small1000 hz),?_,vs,hv,hD⟩,rfl,q _ (I.hok.fresh (Nat.le_refl _))⟩
  ·have hlt:=Heap.lt_size e
   refine k3 b o (fun z=>?_) (Nat.ne_of_lt hlt) (Heap.get?_push_of_some _ (up _ _ e))
   have z':b=h1.objs.size:=by simpa using z
   exact Nat.ne_of_lt (Nat.lt_trans hlt hdlt) z'
  ·exact beq_eq_false_iff_ne.mpr (Nat.ne_of_gt I.big)
theorem j6 {X:Cx} (K:W.Frag) (hc:X.calm=true) (hu:X.A.units+1 < cLine) (hK:X.K=K:=by rfl):CallR X (.type "dict") (rDictL K):=by subst hK;exact Vh hc
end L2
namespace L2
open PySem PySem.Spec PyProof.Rows
end L2
namespace L2
open PySem PySem.Spec PyProof.Rows
section
variable {P:Program} {w:World} {A:Around} {E:Value->Shared->Prop} {s:Shared}
theorem qbh {it t:Addr} {k:Nat} {xs:Array Value} {x:Value} {Q:Value->Shared->Prop} (hi:IsTupIter s.heap it t k) (ht:IsTup s.heap t xs) (hx:xs[k]? = some x)
  (q:∀ h',IsTupIter h' it t (k+1)->Heap.SameBut it s.heap h'->Q x { s with heap:=h' }):wpAny (model P w) A (Builtin.SmallTypes.nextOf (.ref it)) Q E s:=by
 obtain ⟨oi,hoi,ci,di⟩:=id hi
 obtain ⟨ot,hot,_,nt,dt⟩:=ht
 unfold Builtin.SmallTypes.nextOf
 refine wpAny_bind (wpAny_callSpecial?_slot (name:=Str.ofString "__next__") hi.typeIs slot_tupleiter_next (wpAny_call_entry slot_tupleiter_next hi.typeIs entry_tupleiter_next ?_ (args_tupleiter_next _)))
 show wpAny _ _ (field (.ref it) 0 >>= _) _ _ _
 refine wpAny_bind (wpAny_field hoi di (x:=.ref t) rfl ?_)
 show wpAny _ _ (if (Value.ref t == Value.none)=true then _ else _) _ _ _
 rw [if_neg (show ¬ ((Value.ref t == Value.none)=true) by intro z;cases z)]
 show wpAny _ _ (field (.ref it) 1 >>= _) _ _ _
 refine wpAny_bind (wpAny_field hoi di (x:=.int k 0) rfl ?_)
 show wpAny _ _ (seqItems? (.ref t) >>= _) _ _ _
 refine wpAny_bind (wpAny_seqItems hot dt ?_)
 simp only [Int.toNat_natCast,hx]
 refine wpAny_bind (wpAny_setField hoi di (by simp) (wpAny_pure ⟨x,rfl,wpAny_pure (q _ ?_ (Heap.SameBut.update ..))⟩))
 refine ⟨_,Heap.get?_update_self _ hoi (Obj.isFreed_of_fields (Obj.data_mapFields di _)),(Obj.cls_mapFields ..).trans ci,?_⟩
 rw [Obj.data_mapFields di]
 simp [rawInt]
theorem Vi {it t:Addr} {k:Nat} {xs:Array Value} {Q:Value->Shared->Prop} (hA:A.handled=none) (hi:IsTupIter s.heap it t k) (ht:IsTup s.heap t xs) (hx:xs[k]? = none)
  (q:∀ h' e,Heap.ExtBut it s.heap h'->(∃ o,h'.get? e=some o/\o.cls=.type "StopIteration")->E (.ref e) { s with heap:=h' }):wpAny (model P w) A (Builtin.SmallTypes.nextOf (.ref it)) Q E s:=by
 obtain ⟨oi,hoi,ci,di⟩:=id hi
 obtain ⟨ot,hot,_,nt,dt⟩:=ht
 unfold Builtin.SmallTypes.nextOf
 refine wpAny_bind (wpAny_callSpecial?_slot (name:=Str.ofString "__next__") hi.typeIs slot_tupleiter_next (wpAny_call_entry slot_tupleiter_next hi.typeIs entry_tupleiter_next ?_ (args_tupleiter_next _)))
 show wpAny _ _ (field (.ref it) 0 >>= _) _ _ _
 refine wpAny_bind (wpAny_field hoi di (x:=.ref t) rfl ?_)
 show wpAny _ _ (if (Value.ref t == Value.none)=true then _ else _) _ _ _
 rw [if_neg (show ¬ ((Value.ref t == Value.none)=true) by intro z;cases z)]
 show wpAny _ _ (field (.ref it) 1 >>= _) _ _ _
 refine wpAny_bind (wpAny_field hoi di (x:=.int k 0) rfl ?_)
 show wpAny _ _ (seqItems? (.ref t) >>= _) _ _ _
 refine wpAny_bind (wpAny_seqItems hot dt ?_)
 simp only [Int.toNat_natCast,hx]
 refine wpAny_bind (wpAny_rule (wpAny_bind (wpAny_setField hoi di (by simp) ?_)))
 show wpAny _ _ (newExc (.type "StopIteration") [] >>= _) _ _ _
 simp only [newExc,newTuple]
 refine wpAny_bind (wpAny_bind (wpAny_newObj_type ?_ (by size_fits)))
 refine wpAny_bind (m:=firstArgMember _ _) (wpAny_of_eq (a:=Value.none) (by first | rfl | (simp only [firstArgMember] ;rfl)) ?_)
 refine wpAny_newObj_type ?_ (by size_fits)
 simp only [raiseNew]
 refine wpAny_bind (wpAny_handled ?_)
 first | rw [show A.in1.handled=none from hA] | rw [hA]
 refine wpAny_bind (wpAny_pure (wpAny_throw ?_))
 exact q _ _ (((Heap.SameBut.update ..).extBut.push _).push _) ⟨_,Heap.get?_push_size _ rfl,rfl⟩
end
structure Src (P:Program) (w:World) (it sq:Addr) (xs:Array Value) (St:Nat->Heap->Prop):Prop where
 keep:∀ k h h',St k h->(∀ b,b=it\/b=sq->∀ o,h.get? b=some o->h'.get? b=some o)->St k h'
 obj:∀ k h,St k h->∃ o vs,h.get? it=some o/\o.data=.fields vs
 item:∀ (A:Around) (E:Value->Shared->Prop) (k:Nat) (s:Shared) (x:Value) (Q:Value->Shared->Prop),St k s.heap->xs[k]? = some x ->
  (∀ h',St (k+1) h'->Heap.SameBut it s.heap h'->Q x { s with heap:=h' })->wpAny (model P w) A (Builtin.SmallTypes.nextOf (.ref it)) Q E s
 fin:∀ (A:Around) (E:Value->Shared->Prop) (k:Nat) (s:Shared) (Q:Value->Shared->Prop),A.handled=none->St k s.heap->xs[k]? = none ->
  (∀ h' e,Heap.ExtBut it s.heap h'->(∃ o,h'.get? e=some o/\o.cls=.type "StopIteration")->E (.ref e) { s with heap:=h' })->wpAny (model P w) A (Builtin.SmallTypes.nextOf (.ref it)) Q E s
theorem Src.off {P:Program} {w:World} {it sq:Addr} {xs:Array Value} {St:Nat->Heap->Prop} (S:Src P w it sq xs St) {k:Nat} {h h':Heap} {b:Addr} (st:St k h) (e:Heap.ExtBut b h h') (n1:it≠b) (n2:sq≠b):St k h' :=
 S.keep k h h' st fun c hc o ho=>e c o (by rcases hc with z | z <;> rw [z] <;> assumption) ho
theorem qd6 {P:Program} {w:World} (it l:Addr) (ne:l≠it) (xs:Array Value):Src P w it l xs (fun k h=>h.IsListIter it l k/\h.IsList l xs) where
 keep:=fun k h h' st e=>⟨st.1.at fun o x=>e it (.inl rfl) o x,st.2.at fun o x=>e l (.inr rfl) o x⟩
 obj:=fun k h st=>by
  obtain ⟨o,ho,_,d⟩:=st.1
  exact ⟨o,_,ho,d⟩
 item:=fun A E k s x Q st hx q=>wpAny_nextOf_list_item st.1 st.2 hx fun h' a b=>q h' ⟨a,st.2.extBut b.extBut ne⟩ b
 fin:=fun A E k s Q hA st hx q=>wpAny_nextOf_list_end hA st.1 st.2 hx q
theorem qgd {P:Program} {w:World} (it t:Addr) (ne:t≠it) (xs:Array Value):Src P w it t xs (fun k h=>IsTupIter h it t k/\IsTup h t xs) where
 keep:=fun k h h' st e=>by
  obtain ⟨⟨o,ho,r⟩,o2,ho2,r2⟩:=st
  exact ⟨⟨o,e it (.inl rfl) o ho,r⟩,o2,e t (.inr rfl) o2 ho2,r2⟩
 obj:=fun k h st=>by
  obtain ⟨o,ho,_,d⟩:=st.1
  exact ⟨o,_,ho,d⟩
 item:=fun A E k s x Q st hx q=>qbh st.1 st.2 hx fun h' a b=>q h' ⟨a,st.2.extBut b.extBut ne⟩ b
 fin:=fun A E k s Q hA st hx q=>Vi hA st.1 st.2 hx q
section
variable {P:Program} {w:World} {A:Around} {E:Value->Shared->Prop} {s:Shared} {z TI TO i1 i2 l1 l2:Addr} {xs ys:Array Value} {S1 S2:Nat->Heap->Prop}
theorem qcj {k:Nat} {x y a b:Value} {Q:Value->Shared->Prop} (c1:Src P w i1 l1 xs S1) (c2:Src P w i2 l2 ys S2) (D:ZipApart z TI TO i1 i2 l1 l2) (hz:IsZip s.heap z TI TO .none) (hTI:IsPair s.heap TI (.ref i1) (.ref i2)) (hTO:IsPair s.heap TO a b)
  (st1:S1 k s.heap) (st2:S2 k s.heap) (hx:xs[k]? = some x) (hy:ys[k]? = some y)
  (q : ∀ (h':Heap) (T:Addr),IsZip h' z TI TO (rawInt T)->IsPair h' TO x y->S1 (k+1) h'->S2 (k+1) h'->IsPair h' T x y->s.heap.objs.size<=T->T≠z->T≠TO->T≠i1->T≠i2 ->
   (∀ c o,c≠z->c≠TO->c≠i1->c≠i2->s.heap.get? c=some o->h'.get? c=some o)->Q (.ref T) { s with heap:=h' }) :
  wpAny (model P w) A (Builtin.«zip.__next__» ⟨[.ref z],[]⟩) (fun fn s'=>∃ v,fn=.done (.ret v)/\Q v s') E s:=by
 show wpAny _ _ (field (.ref z) 2 >>= _) _ _ _
 refine wpAny_bind (wpAny_field hz rfl (x:=.bool false) rfl ?_)
 show wpAny _ _ (field (.ref z) 3 >>= _) _ _ _
 refine wpAny_bind (wpAny_field hz rfl (x:=.ref TI) rfl (wpAny_bind (wpAny_seqItems hTI rfl ?_)))
 show wpAny _ _ (Builtin.SmallTypes.ownedTupleIsFree (.ref z) >>= _) _ _ _
 unfold Builtin.SmallTypes.ownedTupleIsFree
 refine wpAny_bind (wpAny_bind (wpAny_field hz rfl (x:=.none) rfl (wpAny_pure ?_)))
 simp only [if_true]
 refine wpAny_bind (wpAny_rule (wpAny_bind (wpAny_field hz rfl (x:=.ref TO) rfl ?_)))
 refine wpAny_bind (wpAny_setField_rec hz (by simp) fun g1 hz1 u1=>wpAny_bind ?_)
 replace hz1:IsZip g1 z TI TO .ellipsis:=hz1
 simp only [List.zipIdx_cons,List.zipIdx_nil,List.forIn_cons,List.forIn_nil]
 have a1:=c1.off st1 u1.extBut D.i1z D.l1z
 have a2:=c2.off st2 u1.extBut D.i2z D.l2z
 refine wpAny_bind (wpAny_bind (wpAny_onRaise ?_))
 show wpAny _ _ (Builtin.SmallTypes.nextOf (.ref i1) >>= _) _ _ _
 refine wpAny_bind (c1.item _ _ k { s with heap:=g1 } x _ a1 hx fun g2 b1 u2=>wpAny_pure ?_)
 have b2:=c2.off a2 u2.extBut D.i12.symm D.l2i1
 have hT2:IsPair g2 TO a b:=u2.extBut _ _ D.TOi1 (u1.extBut _ _ D.TOz hTO)
 refine wpAny_bind (wpAny_seqItems hT2 rfl (wpAny_bind (wpAny_updateSeq_pair hT2 fun g3 hT3 u3=>?_)))
 replace hT3:IsPair g3 TO x b:=hT3
 refine wpAny_bind (wpAny_letGo (wpAny_pure ?_))
 have d1:=c1.off b1 u3.extBut D.TOi1.symm D.l1TO
 have d2:=c2.off b2 u3.extBut D.TOi2.symm D.l2TO
 refine wpAny_bind (wpAny_bind (wpAny_onRaise ?_))
 show wpAny _ _ (Builtin.SmallTypes.nextOf (.ref i2) >>= _) _ _ _
 refine wpAny_bind (c2.item _ _ k { s with heap:=g3 } y _ d2 hy fun g4 e2 u4=>wpAny_pure ?_)
 have e1:=c1.off d1 u4.extBut D.i12 D.l1i2
 have hT4:IsPair g4 TO x b:=u4.extBut _ _ D.TOi2 hT3
 refine wpAny_bind (wpAny_seqItems hT4 rfl (wpAny_bind (wpAny_updateSeq_pair hT4 fun g5 hT5 u5=>?_)))
 replace hT5:IsPair g5 TO x y:=hT5
 refine wpAny_bind (wpAny_letGo (wpAny_pure (wpAny_pure ?_)))
 have f1:=c1.off e1 u5.extBut D.TOi1.symm D.l1TO
 have f2:=c2.off e2 u5.extBut D.TOi2.symm D.l2TO
 refine wpAny_bind (wpAny_seqItems hT5 rfl (wpAny_bind (wpAny_newTuple ?_)))
 have sz:g5.objs.size=s.heap.objs.size:=by rw [u5.1,u4.1,u3.1,u2.1,u1.1]
 have hz5:IsZip g5 z TI TO .ellipsis:=u5.extBut _ _ D.TOz.symm (u4.extBut _ _ D.i2z.symm (u3.extBut _ _ D.TOz.symm (u2.extBut _ _ D.i1z.symm hz1)))
 have k5:∀ c o,c≠z->c≠TO->c≠i1->c≠i2->s.heap.get? c=some o->g5.get? c=some o:=fun c o n1 n2 n3 n4 e =>
  u5.extBut _ _ n2 (u4.extBut _ _ n4 (u3.extBut _ _ n2 (u2.extBut _ _ n3 (u1.extBut _ _ n1 e))))
 have zl:z < g5.objs.size:=Heap.lt_size hz5
 show wpAny _ _ (Builtin.SmallTypes.ownedTupleHandOut (.ref z) (.ref g5.objs.size) >>= _) _ _ _
 unfold Builtin.SmallTypes.ownedTupleHandOut
 have hz6:IsZip (g5.push { cls:=.type "tuple",data:=.seq #[x,y] }) z TI TO .ellipsis:=Heap.get?_push_of_some _ hz5
 refine wpAny_bind (wpAny_bind (wpAny_setField_rec hz6 (by simp) fun g7 hz7 u7=>?_))
 replace hz7:IsZip g7 z TI TO (rawInt g5.objs.size):=hz7
 refine wpAny_setField_rec hz7 (by simp) fun g8 hz8 u8=>?_
 replace hz8:IsZip g8 z TI TO (rawInt g5.objs.size):=hz8
 have up:∀ c o,c≠z->g5.get? c=some o->g8.get? c=some o:=fun c o n e=>u8.extBut _ _ n (u7.extBut _ _ n (Heap.get?_push_of_some _ e))
 have hN:IsPair g8 g5.objs.size x y:=u8.extBut _ _ (Nat.ne_of_gt zl) (u7.extBut _ _ (Nat.ne_of_gt zl) (Heap.get?_push_size _ rfl))
 have o1:g5.objs.size≠i1:=by obtain ⟨o,_,ho,_⟩:=c1.obj _ _ f1;exact Nat.ne_of_gt (Heap.lt_size ho)
 have o2:g5.objs.size≠i2:=by obtain ⟨o,_,ho,_⟩:=c2.obj _ _ f2;exact Nat.ne_of_gt (Heap.lt_size ho)
 refine wpAny_pure ⟨_,rfl,q g8 g5.objs.size hz8 (up _ _ D.TOz hT5) ?_ ?_ hN (Nat.le_of_eq sz.symm) (Nat.ne_of_gt zl) (Nat.ne_of_gt (Heap.lt_size hT5)) o1 o2 fun c o n1 n2 n3 n4 e=>up c o n1 (k5 c o n1 n2 n3 n4 e)⟩
 ·exact c1.keep _ _ _ f1 fun c hc o ho=>up c o (by rcases hc with q | q <;> rw [q] <;> first | exact D.i1z | exact D.l1z) ho
 ·exact c2.keep _ _ _ f2 fun c hc o ho=>up c o (by rcases hc with q | q <;> rw [q] <;> first | exact D.i2z | exact D.l2z) ho
theorem qd7 {k:Nat} {a b:Value} {Q:Fin->Shared->Prop} (hA:A.handled=none) (c1:Src P w i1 l1 xs S1) (c2:Src P w i2 l2 ys S2) (D:ZipApart z TI TO i1 i2 l1 l2) (hz:IsZip s.heap z TI TO .none) (hTI:IsPair s.heap TI (.ref i1) (.ref i2)) (hTO:IsPair s.heap TO a b)
  (st1:S1 k s.heap) (st2:S2 k s.heap) (hn:xs[k]? = none\/ys[k]? = none)
  (q:∀ h' e,(∀ c o,c≠z->c≠TO->c≠i1->c≠i2->s.heap.get? c=some o->h'.get? c=some o)->(∃ o,h'.get? e=some o/\o.cls=.type "StopIteration")->E (.ref e) { s with heap:=h' }) :
  wpAny (model P w) A (Builtin.«zip.__next__» ⟨[.ref z],[]⟩) Q E s:=by
 show wpAny _ _ (field (.ref z) 2 >>= _) _ _ _
 refine wpAny_bind (wpAny_field hz rfl (x:=.bool false) rfl ?_)
 show wpAny _ _ (field (.ref z) 3 >>= _) _ _ _
 refine wpAny_bind (wpAny_field hz rfl (x:=.ref TI) rfl (wpAny_bind (wpAny_seqItems hTI rfl ?_)))
 show wpAny _ _ (Builtin.SmallTypes.ownedTupleIsFree (.ref z) >>= _) _ _ _
 unfold Builtin.SmallTypes.ownedTupleIsFree
 refine wpAny_bind (wpAny_bind (wpAny_field hz rfl (x:=.none) rfl (wpAny_pure ?_)))
 simp only [if_true]
 refine wpAny_bind (wpAny_rule (wpAny_bind (wpAny_field hz rfl (x:=.ref TO) rfl ?_)))
 refine wpAny_bind (wpAny_setField_rec hz (by simp) fun g1 hz1 u1=>wpAny_bind ?_)
 replace hz1:IsZip g1 z TI TO .ellipsis:=hz1
 simp only [List.zipIdx_cons,List.zipIdx_nil,List.forIn_cons,List.forIn_nil]
 have a1:=c1.off st1 u1.extBut D.i1z D.l1z
 have a2:=c2.off st2 u1.extBut D.i2z D.l2z
 refine wpAny_bind (wpAny_bind (wpAny_onRaise ?_))
 show wpAny _ _ (Builtin.SmallTypes.nextOf (.ref i1) >>= _) _ _ _
 cases hx:xs[k]? with
 | none =>
  refine wpAny_bind (c1.fin _ _ k { s with heap:=g1 } _ hA a1 hx fun g2 e u2 he=>?_)
  obtain ⟨oe,hoe,ce⟩:=he
  have hz2:IsZip g2 z TI TO .ellipsis:=u2 _ _ D.i1z.symm hz1
  have ez:e≠z:=fun q=>by subst q;rw [hz2] at hoe;cases hoe;simp at ce
  exact wpAny_setField_rec hz2 (by simp) fun g3 _ u3=>q g3 e (fun c o n1 _ n3 _ ho=>u3.extBut _ _ n1 (u2 _ _ n3 (u1.extBut _ _ n1 ho))) ⟨oe,u3.extBut _ _ ez hoe,ce⟩
 | some x =>
  have hy:ys[k]? = none:=by
   rcases hn with h | h
   ·rw [hx] at h;cases h
   ·exact h
  refine wpAny_bind (c1.item _ _ k { s with heap:=g1 } x _ a1 hx fun g2 b1 u2=>wpAny_pure ?_)
  have b2:=c2.off a2 u2.extBut D.i12.symm D.l2i1
  have hT2:IsPair g2 TO a b:=u2.extBut _ _ D.TOi1 (u1.extBut _ _ D.TOz hTO)
  refine wpAny_bind (wpAny_seqItems hT2 rfl (wpAny_bind (wpAny_updateSeq_pair hT2 fun g3 hT3 u3=>?_)))
  refine wpAny_bind (wpAny_letGo (wpAny_pure ?_))
  have d2:=c2.off b2 u3.extBut D.TOi2.symm D.l2TO
  refine wpAny_bind (wpAny_bind (wpAny_onRaise ?_))
  show wpAny _ _ (Builtin.SmallTypes.nextOf (.ref i2) >>= _) _ _ _
  refine wpAny_bind (c2.fin _ _ k { s with heap:=g3 } _ hA d2 hy fun g4 e u4 he=>?_)
  obtain ⟨oe,hoe,ce⟩:=he
  have hz4:IsZip g4 z TI TO .ellipsis:=u4 _ _ D.i2z.symm (u3.extBut _ _ D.TOz.symm (u2.extBut _ _ D.i1z.symm hz1))
  have ez:e≠z:=fun q=>by subst q;rw [hz4] at hoe;cases hoe;simp at ce
  exact wpAny_setField_rec hz4 (by simp) fun g5 _ u5=>q g5 e (fun c o n1 n2 n3 n4 ho=>u5.extBut _ _ n1 (u4 _ _ n4 (u3.extBut _ _ n2 (u2.extBut _ _ n3 (u1.extBut _ _ n1 ho))))) ⟨oe,u5.extBut _ _ ez hoe,ce⟩
end
def SqA (K:W.Frag) (H:Hp) (a:Addr) (xs:List V):Bool->Prop
 | true=>SqT K H a xs
 | false=>SqL K H a xs
def ItA (h:Heap) (it l:Addr) (k:Nat):Bool->Prop
 | true=>IsTupIter h it l k
 | false=>h.IsListIter it l k
def HasA (h:Heap) (l:Addr) (xs:Array Value):Bool->Prop
 | true=>IsTup h l xs
 | false=>h.IsList l xs
theorem srcA {P:Program} {w:World} (it l:Addr) (ne:l≠it) (xs:Array Value):∀ b,Src P w it l xs (fun k h=>ItA h it l k b/\HasA h l xs b)
 | true=>qgd it l ne xs
 | false=>qd6 it l ne xs
theorem ItA.at {h h':Heap} {it l:Addr} {k:Nat} (e:∀ o,h.get? it=some o->h'.get? it=some o):∀ {b:Bool},ItA h it l k b->ItA h' it l k b
 | true,x=>let ⟨o,ho,r⟩:=(show IsTupIter h it l k from x);⟨o,e o ho,r⟩
 | false,x=>let ⟨o,ho,r⟩:=(show h.IsListIter it l k from x);⟨o,e o ho,r⟩
theorem ItA.obj {h:Heap} {it l:Addr} {k:Nat}:∀ {b:Bool},ItA h it l k b->∃ o,h.get? it=some o/\o.data=.fields #[.ref l,.int k 0]/\(o.cls=.type "tuple_iterator"\/o.cls=.type "list_iterator")
 | true,x=>let ⟨o,ho,c,d⟩:=(show IsTupIter h it l k from x);⟨o,ho,d,.inl c⟩
 | false,x=>let ⟨o,ho,c,d⟩:=(show h.IsListIter it l k from x);⟨o,ho,d,.inr c⟩
theorem HasA.obj {h:Heap} {l:Addr} {xs:Array Value}:∀ {b:Bool},HasA h l xs b->∃ o,h.get? l=some o/\(o.cls=.type "tuple"\/o.cls=.type "list")/\∃ n,o.data=.seq xs n
 | true,x=>let ⟨o,ho,c,n,d⟩:=(show IsTup h l xs from x);⟨o,ho,.inl c,n,d⟩
 | false,x=>let ⟨o,ho,c,n,d⟩:=(show h.IsList l xs from x);⟨o,ho,.inr c,n,d⟩
theorem Inv.seqA {X:Cx} {pins:List (Addr × Obj)} {σ:St} {H:Hp} {s:Shared} {a:Addr} {xs:List V} (I:Inv X pins σ H s):∀ {b:Bool},SqA X.K H a xs b->∃ its:List Value,Vals xs its/\HasA s.heap a its.toArray b/\xs.length<=sizeLine
 | true,h=>let ⟨its,r,p,z⟩:=I.tuple h;⟨its,r,p,z⟩
 | false,h=>let ⟨its,r,p,z⟩:=I.list h;⟨its,r,p.isList,z⟩
theorem Inv.seqA_inj {X:Cx} {pins:List (Addr × Obj)} {σ:St} {H:Hp} {s:Shared} {a:Addr} {xs ys:List V} {i:Nat} {x:V} (I:Inv X pins σ H s) {b:Bool} (h:SqA X.K H a xs b) (h':SqA X.K H a ys b) (e:xs[i]? = some x):ys[i]? = some x:=by
 cases b with
 | true=>rw [I.tuple_inj h' h];exact e
 | false=>rw [I.list_inj h' h];exact e
def itO (l:Addr):Bool->Obj
 | true=>{ cls:=.type "tuple_iterator",data:=.fields #[.ref l,.int 0 0] }
 | false=>{ cls:=.type "list_iterator",data:=.fields #[.ref l,.int 0 0] }
theorem pyIterA {P:Program} {w:World} {A:Around} {E:Value->Shared->Prop} {s:Shared} {l:Addr} {xs:Array Value} {Q:Value->Shared->Prop}:∀ {b:Bool},HasA s.heap l xs b->Q (.ref s.heap.objs.size) { s with heap:=s.heap.push (itO l b) }->wpAny (model P w) A (pyIter (.ref l)) Q E s
 | true,h,q=>iter_tuple h q
 | false,h,q=>wpAny_pyIter_list h q
theorem HasA.keep {h h':Heap} {l:Addr} {xs:Array Value} (e:∀ o,h.get? l=some o->h'.get? l=some o):∀ {b:Bool},HasA h l xs b->HasA h' l xs b
 | true,x=>let ⟨o,ho,r⟩:=(show IsTup h l xs from x);⟨o,e o ho,r⟩
 | false,x=>let ⟨o,ho,r⟩:=(show h.IsList l xs from x);⟨o,e o ho,r⟩
theorem qim {h:Heap} {l:Addr} {k:Addr}:∀ {b:Bool},h.get? k=some (itO l b)->ItA h k l 0 b
 | true,e=>⟨_,e,rfl,rfl⟩
 | false,e=>⟨_,e,rfl,rfl⟩
end L2
namespace L2
open PySem PySem.Spec PyProof.Rows
inductive VSame (K:W.Frag) (H:Hp):Nat->V->V->Prop where
 | flat {n:Nat} {x:V} (h:flatV x=true):VSame K H n x x
 | seq {n:Nat} {a b:Addr} {xs ys:List V} (t:Bool) (ha:SqA K H a xs t) (hb:SqA K H b ys t) (hl:xs.length=ys.length) (h:∀ (i:Nat) x y,xs[i]? = some x->ys[i]? = some y->VSame K H n x y):VSame K H (n+1) (.ref a) (.ref b)
theorem qd8 {x:V} (h:flatV x=true):eqV x x=true:=by
 cases x <;> first | (cases h;done) | (simp [eqV])
section
variable {X:Cx} {pins:List (Addr × Obj)} {σ:St} {H:Hp} {s:Shared}
theorem yz (n:Nat):((List.range n).all fun _=>true)=true:=by simp
theorem yq {n:Nat} {A:Around} {xs ys:List V} {i1 i2:List Value} (r1:Vals xs i1) (r2:Vals ys i2) (ih:∀ (i:Nat) x y u v,xs[i]? = some x->ys[i]? = some y->RelV x u->RelV y v->SeqAt.EqAt A s u v true) :
  ∀ j (h1:j < i1.toArray.size) (h2:j < i2.toArray.size),SeqAt.EqAt A s i1.toArray[j] i2.toArray[j] true:=fun j h1 h2=>by
 have l1:=r1.length
 have l2:=r2.length
 have h1':j < xs.length:=by simpa [l1] using h1
 have h2':j < ys.length:=by simpa [l2] using h2
 obtain ⟨u1,f1,g1⟩:=r1.get (List.getElem?_eq_getElem h1')
 obtain ⟨u2,f2,g2⟩:=r2.get (List.getElem?_eq_getElem h2')
 have k1:i1.toArray[j]=u1:=by
  have:=(List.getElem?_eq_some_iff.mp f1).2
  simpa using this
 have k2:i2.toArray[j]=u2:=by
  have:=(List.getElem?_eq_some_iff.mp f2).2
  simpa using this
 rw [k1,k2]
 exact ih j _ _ _ _ (List.getElem?_eq_getElem h1') (List.getElem?_eq_getElem h2') g1 g2
theorem qfi {A:Around} {t:Bool} {a b:Addr} {i1 i2:List Value} (p1:HasA s.heap a i1.toArray t) (p2:HasA s.heap b i2.toArray t) (hl:i1.length=i2.length) (hu:A.units < cLine)
  (h:∀ j (h1:j < i1.toArray.size) (h2:j < i2.toArray.size),SeqAt.EqAt A.in1 s i1.toArray[j] i2.toArray[j] true):SeqAt.RcAt A s (.ref a) (.ref b) true:=by
 cases t with
 | false =>
  have:=SeqAt.RcAt.lists (e:=fun _=>true) p1 p2 (by simpa using hl) hu h
  rwa [yz] at this
 | true =>
  have:=SeqAt.RcAt.tuples (e:=fun _=>true) p1 p2 hu h
  rw [yz] at this
  simpa [hl] using this
theorem qd9 {A:Around} {t:Bool} {a b:Addr} {i1 i2:List Value} (p1:HasA s.heap a i1.toArray t) (p2:HasA s.heap b i2.toArray t) (hl:i1.length=i2.length) (hu:A.units < cLine)
  (h:∀ j (h1:j < i1.toArray.size) (h2:j < i2.toArray.size),SeqAt.EqAt A.in1 s i1.toArray[j] i2.toArray[j] true):SeqAt.RcNeAt A s (.ref a) (.ref b) false:=by
 cases t with
 | false =>
  have:=SeqAt.RcNeAt.lists (e:=fun _=>true) p1 p2 (by simpa using hl) hu h
  rwa [yz] at this
 | true =>
  have:=SeqAt.RcNeAt.tuples (e:=fun _=>true) p1 p2 hu h
  rw [yz] at this
  simpa [hl] using this
theorem qck (I:Inv X pins σ H s):∀ {n:Nat} {x y:V},VSame X.K H n x y->∀ {u v:Value} (A:Around),RelV x u->RelV y v->A.units+n < cLine->SeqAt.EqAt A s u v true:=by
 intro n x y h
 induction h with
 | flat h =>
  intro u v A ru rv _
  have:=qfh (A:=A) (s:=s) ru rv h h
  rwa [qd8 h] at this
 | seq t ha hb hl h ih =>
  rename_i n a b xs ys
  intro u v A ru rv hu
  cases ru
  cases rv
  by_cases e:a=b
  ·subst e
   exact SeqAt.EqAt.same _
  ·obtain ⟨i1,r1,p1,_⟩:=I.seqA ha
   obtain ⟨i2,r2,p2,_⟩:=I.seqA hb
   refine SeqAt.EqAt.of_refs e (qfi p1 p2 (by rw [<- r1.length,<- r2.length,hl]) (by omega) (yq (n:=n) r1 r2 fun i x y u v e1 e2 g1 g2=>ih i x y e1 e2 A.in1 g1 g2 ?_))
   show A.units+1+n < cLine
   omega
end
def rSameV (K:W.Frag) (b:Bool):R2:=fun x y H Q=>∃ (n:Nat) (a c:Addr),x=.ref a/\y=.ref c/\VSame K H (n+1) x y/\n<=30/\Q (.bl b) H
theorem qin {X:Cx} (hu:X.A.units+64 < cLine):OpR X (compareOp .Eq) (rSameV X.K true):=by
 intro pins s σ H x y u v Q I rx ry h
 obtain ⟨n,a,c,rfl,rfl,hv,hn,q⟩:=h
 cases rx
 cases ry
 cases hv with
 | flat h=>cases h
 | seq t ha hb hl h =>
  obtain ⟨i1,r1,p1,_⟩:=I.seqA ha
  obtain ⟨i2,r2,p2,_⟩:=I.seqA hb
  refine qfi p1 p2 (by rw [<- r1.length,<- r2.length,hl]) (by omega) (yq (n:=n) r1 r2 fun i x y u v e1 e2 g1 g2=>qck I (h i x y e1 e2) X.A.in1 g1 g2 ?_) X.prog X.w _ _ ⟨.bl true,H,I,rfl,q⟩
  show X.A.units+1+n < cLine
  omega
theorem qio {X:Cx} (hu:X.A.units+64 < cLine):OpR X (compareOp .NotEq) (rSameV X.K false):=by
 intro pins s σ H x y u v Q I rx ry h
 obtain ⟨n,a,c,rfl,rfl,hv,hn,q⟩:=h
 cases rx
 cases ry
 cases hv with
 | flat h=>cases h
 | seq t ha hb hl h =>
  obtain ⟨i1,r1,p1,_⟩:=I.seqA ha
  obtain ⟨i2,r2,p2,_⟩:=I.seqA hb
  refine qd9 p1 p2 (by rw [<- r1.length,<- r2.length,hl]) (by omega) (yq (n:=n) r1 r2 fun i x y u v e1 e2 g1 g2=>qck I (h i x y e1 e2) X.A.in1 g1 g2 ?_) X.prog X.w _ _ ⟨.bl false,H,I,rfl,q⟩
  show X.A.units+1+n < cLine
  omega
theorem qcl {X:Cx} (K:W.Frag) (hu:X.A.units+64 < cLine) (hK:X.K=K:=by rfl):OpR X (compareOp .Eq) (rSameV K true):=by subst hK;exact qin hu
theorem qge {X:Cx} (K:W.Frag) (hu:X.A.units+64 < cLine) (hK:X.K=K:=by rfl):OpR X (compareOp .NotEq) (rSameV K false):=by subst hK;exact qio hu
end L2
namespace L2
open PySem PySem.Spec PyProof.Rows
end L2
namespace L2
open PySem PySem.Spec PyProof.Rows
def CX1 (P:Program) (w:World):CXT:=fun outer H s E u s'=>∃ (e t:Addr) (cls:Value) (H':Hp) (b1:Heap),u=.ref e/\s'.os=s.os/\AllBare s'.gens/\Un (frs outer) [] H H' s.heap s'.heap/\HOk P w H' s'.heap/\H' e=none/\s.heap.get? e=none /\
 Heap.FlyingW b1 outer e cls (.ref t) s'.heap/\(∀ b o,((∃ u,s.heap.get? b=some u)\/∃ u,H' b=some u)->b ∉ frs outer->s'.heap.get? b=some o->b1.get? b=some o)/\E cls none H'
section
variable {P:Program} {w:World} {K:W.Frag} {mg:Str->Option Value} {base:Heap} {N:List Str} {qual:Str} {scope:Scope} {f:Addr} {cdv:Value} {A:Around} {outer:List Env} {s:Shared} {H:Hp} {E:XK}
theorem Fun.ok1 {x:Str} {st:Stmt} {fd:FuncData} {ps:List Str} {k:Nat} {sp:Sp} (F:Fun K x qual st f fd) (S:FnScope N ps (defScope st)) (len:∀ vs H Q E,sp vs H Q E->vs.length=ps.length)
  (hbody:∀ (cdv:Value) (A:Around) (outer:List Env) (s:Shared) (H:Hp) (vs:List V) (Q:VK) (E:XK),Room k (A.deeper (envOfC qual (defScope st) s.heap.objs.size f cdv))->sp vs H Q E ->
   ∃ t,PSs (cxOf (CX1 P w) P w K mg base N qual (defScope st) f cdv A outer s H E) (defBody st) t/\t { nx:=fun _ H'=>Q .non H',rt:=Q } (start N vs) H):FnOk P w K mg base (CX1 P w) (k+1) f fd ps sp:=by
 obtain ⟨oc,od,kV,doc,pm,an,cdv,ct,osl,rfl,lk,hcd⟩:=F.ex
 exact qif lk hcd S len fun A outer s H vs Q E hr hsp=>hbody cdv A outer s H vs Q E hr hsp
theorem FnOk.calm {k:Nat} {fd:FuncData} {ps:List Str} {sp sp':Sp} (F:FnOk P w K mg base (CX1 P w) k f fd ps sp) (h:∀ vs H Q E,sp' vs H Q E->sp vs H Q E0):FnOk P w K mg base CX0 k f fd ps sp' :=
 ⟨fun vs H Q E q=>F.len vs H Q E0 (h _ _ _ _ q),fun A outer s H args us vs Q E hr he hb hv hs=>codeAny_mono (F.run A outer s H args us vs Q E0 hr he hb hv (h _ _ _ _ hs)) fun r s' hq=>by
  cases r with
  | error e =>
   obtain ⟨_,_,_,_,_,_,_,_,_,_,_,_,_,_,q⟩:=hq
   exact q.elim
  | ok fl=>cases fl <;> exact hq⟩
end
end L2
namespace L2
open PySem PySem.Spec PySem.Calls PyProof.Rows PySem.W
section
variable {prog:Program} {w:World} {A:Around} {E:Value->Shared->Prop} {s:Shared} {K:W.Frag} {x D:Addr} {ox:Obj}
structure XAt (h:Heap) (x:Addr) (ox:Obj) (D:Addr):Prop where
 at_:h.get? x=some ox
 cls:ox.cls=.ref D
theorem XAt.type {M:Model} {h:Heap} (I:XAt h x ox D):Looks M h (typeOf (.ref x)) (.ref D):=by
 have:=I.cls
 exact this ▸ (Looks.ld I.at_).andThen Looks.now
structure ExcK (K:W.Frag) (D:Addr):Prop where
 cls:(clsIn K D).isSome=true
 find:findIn K (.ref D) "__class__" = some (some (.builtin "object.__class__"))
 get:specialIn K (.builtin "object.__class__") "__get__" = some (some (.builtin "getset_descriptor.__get__"))
 takes:takesIn K (.builtin "object.__class__")=some true
 obj:mroIn K D (.type "object")=some true
 bexc:mroIn K D (.type "BaseException")=some true
 ga:findIn K (.ref D) "__getattribute__" = some (some (.builtin "BaseException.__getattribute__"))
 gt:findIn K (.ref D) "__getattr__" = some none
end
end L2
namespace L2
open PySem PySem.Spec PySem.Calls PyProof.Rows PySem.W
section
variable {prog:Program} {w:World} {A:Around} {E:Value->Shared->Prop} {s:Shared} {K:W.Frag} {x C D:Addr} {ox:Obj}
end
section
variable {X:Cx} {pins:List (Addr × Obj)} {σ:St} {H:Hp} {s:Shared} {e:Addr} {o:HO}
theorem Inv.track (I:Inv X pins σ H s) (he:H e=none) (hs0:X.s₀.heap.get? e=none) (nl:e≠X.env.locals) (nc:∀ x c,X.env.cells.lookup x=some c->c≠e) (np:∀ p∈X.pn++pins,p.1≠e)
  (ho:ObjOk X.prog X.w (upd H e o) s.heap e o):Inv X pins σ (upd H e o) s:=by
 have ne:∀ b u,H b=some u->b≠e:=fun b u h z=>by rw [z,he] at h;cases h
 refine ⟨I.ok,I.os,I.bare,⟨I.base.keep,I.base.slot,fun b u h n hx=>?_,I.base.there,fun b xs h=>?_,fun b u v h=>?_,fun b ps h=>?_⟩,I.loc,I.cell,by rw [qe (Ne.symm nl)];exact I.free,fun x c h=>by rw [qe (nc x c h)];exact I.freeC x c h,fun p hp=>?_,fun a u h=>?_,I.len⟩
 ·rw [qe fun z=>by rw [z,hs0] at h;cases h]
  exact I.base.free b u h n hx
 ·have:=I.base.tups b xs h
  rw [qe (ne b _ this)]
  exact this
 ·have:=I.base.frzs b u v h
  rw [qe (ne b _ this)]
  exact this
 ·obtain ⟨more,h1⟩:=I.base.tbls b ps h
  exact ⟨more,by rw [qe (ne b _ h1)];exact h1⟩
 ·obtain ⟨a1,a2,a3⟩:=I.pin p hp
  exact ⟨a1,by rw [qe (np p hp)];exact a2,a3⟩
 ·by_cases ha:a=e
  ·subst ha
   rw [upd_same] at h
   cases h
   exact ho
  ·rw [qe ha] at h
   exact (I.hok a u h).stay (fun b w' _ q=>q) (fun b q=>by rw [qe (ne b _ q)];exact q) fun b xs q=>by rw [qe (ne b _ q)];exact q
end
structure Fl (X:Cx) (pins:List (Addr × Obj)) (σ:St) (H0:Hp) (s0:Shared) (H':Hp) (e:Addr) (b1:Heap) (s':Shared):Prop where
 I0:Inv X pins σ H0 s0
 os:s'.os=s0.os
 bare:AllBare s'.gens
 un:Un (frs X.stack) [] H0 H' s0.heap s'.heap
 hok:HOk X.prog X.w H' s'.heap
 he:H' e=none
 hes:s0.heap.get? e=none
 stay:b1.StaysIn s'.heap
 ff:s'.heap.FunFrames b1 X.stack
 cov:∀ b o,((∃ u,s0.heap.get? b=some u)\/∃ u,H' b=some u)->b ∉ frs X.stack->s'.heap.get? b=some o->b1.get? b=some o
section
variable {X:Cx} {pins:List (Addr × Obj)} {σ:St} {H0 H':Hp} {s0 s':Shared} {e:Addr} {b1 h':Heap}
end
end L2
namespace L2
open PySem PySem.Spec PySem.Calls PyProof.Rows PySem.W
abbrev Cx.inSuite (X:Cx) (Ax:Around):Cx:={ X with A:=Ax,calm:=false,xe:=fun _ _=>False }
section
variable {X:Cx} {pins pn:List (Addr × Obj)} {σ:St} {H:Hp} {s:Shared} {Ax:Around} {Ex:Value->Shared->Prop}
theorem Inv.suite (I:Inv X pins σ H s) (hA:Ax.frames=X.A.frames):Inv (X.inSuite Ax) pins σ H s :=
 ⟨⟨I.ok.mod,I.ok.kind,I.ok.glob,I.ok.blt,I.ok.above,I.ok.inj,I.ok.has,I.ok.cab,fun z=>Bool.noConfusion z,hA.trans I.ok.frames,I.ok.stk,I.ok.exf,I.ok.bs,I.ok.bsz,I.ok.noex,I.ok.exfs,I.ok.funs,I.ok.frf⟩,I.os,I.bare,I.base,I.loc,I.cell,I.free,I.freeC,I.pin,I.hok,I.len⟩
end
def Ends.as (D:Ends) (i:Nat):Ends:={ nx:=fun σ H=>D.nx (σ.set i none) H,rt:=D.rt,bk:=fun σ H=>D.bk (σ.set i none) H,ct:=fun σ H=>D.ct (σ.set i none) H }
end L2
namespace L2
open PySem PySem.Spec PySem.Calls PyProof.Rows PySem.W
theorem FnOk.or {P:Program} {w:World} {K:W.Frag} {mg:Str->Option Value} {base:Heap} {CX:CXT} {k:Nat} {f:Addr} {fd:FuncData} {ps:List Str} {sp sp':Sp} (F:FnOk P w K mg base CX k f fd ps sp) (G:FnOk P w K mg base CX k f fd ps sp') :
  FnOk P w K mg base CX k f fd ps fun vs H Q E=>sp vs H Q E\/sp' vs H Q E :=
 ⟨fun vs H Q E h=>h.elim (F.len vs H Q E) (G.len vs H Q E),fun A outer s H args us vs Q E hr e hb hv h=>h.elim (F.run A outer s H args us vs Q E hr e hb hv) (G.run A outer s H args us vs Q E hr e hb hv)⟩
theorem FnOk.up {P:Program} {w:World} {K:W.Frag} {mg:Str->Option Value} {base:Heap} {CX:CXT} {k:Nat} {f:Addr} {fd:FuncData} {ps:List Str} {sp:Sp} (F:FnOk P w K mg base CX0 k f fd ps sp):FnOk P w K mg base CX k f fd ps sp :=
 ⟨F.len,fun A outer s H args us vs Q E hr e hb hv h=>codeAny_mono (F.run A outer s H args us vs Q E hr e hb hv h) fun r s' hq=>by
  cases r with
  | error e=>exact False.elim hq
  | ok fl=>cases fl <;> exact hq⟩
end L2
namespace L2
open PySem PySem.Spec PyProof.Rows
theorem Z1:typeLookup (.type "tuple") "keys" = pure none:=by rw [typeLookup_type,builtinLookup_eq_fast];kernel_rfl
theorem V5 {P:Program} {w:World} {A:Around} {E:Value->Shared->Prop} {s:Shared} {a:Addr} {o:Obj} {xs:Array Value} {k:Nat} {Q:Option Value->Shared->Prop}
  (ho:s.heap.get? a=some o) (hc:o.cls=.type "tuple") (hs:o.data=.seq xs k) (hd:o.dict=none) (hA:A.handled=none)
  (q:∀ h' tk,(∀ b u,s.heap.get? b=some u->h'.get? b=some u)->Q none { s with heap:=h',toks:=tk }):wpAny (model P w) A (getAttr? (.ref a) "keys") Q E s:=by
 obtain ⟨c,dct,dat,sl⟩:=o
 simp only at hc hs hd
 subst hc hs hd
 obtain ⟨hp,g,d,tk,os⟩:=s
 have ty:∀ tk',(⟨hp,g,d,tk',os⟩:Shared).TypeIs (.ref a) "tuple":=fun _=>⟨_,ho,rfl⟩
 have z1:=sub_AttributeError
 have z3:=F.slot_tuple_getattribute.lookup
 have z4:=F.slot_tuple_getattribute.bind (.ref a)
 have z5:=am_tuple_getattr_none
 unfold getAttr? getAttrBy? getAttrBy
 repeat (any_goals (first | assumption | exact ty _ | ((with_reducible show wpAny _ _ (call (Value.builtin "tuple.__getattribute__") _ _) _ _ _);refine call_meets F.slot_tuple_getattribute (ty _) am_entry_tuple_getattribute (F.args_tuple_getattribute_2 _ _) (meets_getattribute_miss_tuple a xs k sl "keys" _ Z1 (by decide +kernel) (by decide +kernel)) ⟨ho,hA,fun h' tk' e hx'=>?_⟩) | wp_step))
 obtain ⟨t',u',he⟩:=hx'.there
 have tE:(⟨h',g,d,tk',os⟩:Shared).TypeIs (.ref e) "AttributeError":=⟨_,he,rfl⟩
 show wpAny _ _ (getattributeRaised _ _ _ _ _ _ _) _ _ _
 unfold getattributeRaised
 repeat (any_goals (first | assumption | wp_step))
 exact q h' tk' hx'.keeps
def rDictT:List V->Hp->VK->Prop:=fun xs H Q=>∃ (l:Addr) (ps:List Addr) (kvs:List (Key × V)),xs=[.ref l]/\H l=some (.tup (ps.map V.ref))/\PairsAt H ps kvs/\(kvs.map (·.1)).Nodup/\kvs.length<=1000 /\
 ∀ d,H d=none->Q (.ref d) (upd H d (.dK kvs))
theorem yb {X:Cx} (hc:X.calm=true):CallR X (.type "dict") rDictT:=by
 intro pins s σ H xs us Q I r h
 obtain ⟨l,ps,kvs,rfl,hL,hP,nd,hz,q⟩:=h
 obtain ⟨u,rfl,ru⟩:=vals1 r
 cases ru
 obtain ⟨hl,its,rv,pl,ol',hol',hdl⟩:=(show ObjOk X.prog X.w H s.heap l (.tup _) from I.hok l _ hL)
 obtain ⟨ol,hol,hcl,nl,hsl⟩:=id pl
 rw [hol] at hol'
 have e0:=Option.some.inj hol'
 subst e0
 obtain ⟨vs,hv,hT⟩:=hP.real I
 have hA:=I.ok.hd hc
 refine callType_codes (Q₁:=fun ob s1=>ob=.ref s.heap.objs.size/\s1 = { s with heap:=s.heap.push { cls:=.type "dict",data:=.dict #[] } }) F.kt_called_dict (F.kt_typeCall_dict_1 _) F.entry_dict_init (kt_code_dict_new _ ⟨rfl,rfl⟩) ?_
 rintro ob s1 ⟨rfl,rfl⟩
 have hnew:(s.heap.push { cls:=.type "dict",data:=.dict #[] }).DictOf (mixKind X.prog X.w) s.heap.objs.size []:=Heap.DictOf.new s.heap
 have hol1:(s.heap.push { cls:=.type "dict",data:=.dict #[] }).get? l=some ol:=Heap.get?_push_of_some _ hol
 refine ⟨hnew.typeIs,F.args_dict_init_2 _ _,?_⟩
 unfold Builtin.«dict.__init__» ;unfold Builtin.Dict.selfAndRest
 refine wpAny_bind (wpAny_bind (wpAny_notOrdered_dict hnew.typeIs ?_))
 show wpAny _ _ (pure (s.heap.objs.size,[Value.ref l])) _ _ _
 refine wpAny_pure ?_
 show wpAny _ _ (Builtin.Dict.updateFrom "dict.__init__" s.heap.objs.size (.ref l) [] .none) _ _ _
 unfold Builtin.Dict.updateFrom
 refine wpAny_bind (wpAny_typeOf (T:="tuple") ⟨ol,hol1,hcl⟩ ?_)
 rw [if_pos (by decide)]
 refine wpAny_bind (V5 (s:={ s with heap:=s.heap.push { cls:=.type "dict",data:=.dict #[] } }) hol1 hcl hsl hdl hA fun h1 tk1 k1=>?_)
 rw [if_pos (by rfl)]
 refine wpAny_bind (wpAny_rule ?_)
 have L1:h1.IsTuple l its.toArray:=⟨ol,k1 _ _ hol1,hcl,nl,hsl⟩
 refine wpAny_bind (wpAny_pyIter_tuple (s:={ s with heap:=h1,toks:=tk1 }) L1 ?_)
 refine wpAny_pure ⟨plainId_quiet jp _,?_⟩
 have hdlt:s.heap.objs.size < h1.objs.size:=Heap.lt_size (k1 _ _ (Heap.get?_push_size _ rfl))
 have llt:l < s.heap.objs.size:=Heap.lt_size hol
 have up:∀ b o,s.heap.get? b=some o->h1.get? b=some o:=fun b o e=>k1 b o (Heap.get?_push_of_some _ e)
 have lenp:ps.length=its.length:=by have:=rv.length;rwa [List.length_map] at this
 have lenv:vs.length=kvs.length:=(Paired.length hv).symm
 have n1:l≠h1.objs.size:=Nat.ne_of_lt (Nat.lt_trans llt hdlt)
 have W:=Walks.tuple (prog:=X.prog) (w:=X.w) (A:=X.A.in1.in1) hA h1.objs.size l n1 its.toArray
 have ei:rawInt 0=.int ((0:Nat):Int) 0:=rfl
 rw [ei]
 have old:∀ j,j < its.toArray.size->ps.getD j 0 < s.heap.objs.size:=fun j hj=>by
  have hj':j < ps.length:=by rw [lenp];simpa using hj
  have hm:ps.getD j 0∈ps:=by rw [List.getD_eq_getElem?_getD,List.getElem?_eq_getElem hj'];exact List.getElem_mem hj'
  obtain ⟨o,ho⟩:=hP.mem _ hm
  exact I.hok.lt ho
 refine V4 (κ:=Key) (knd:=mixKind X.prog X.w) (n:=its.toArray.size) W (d:=s.heap.objs.size) ?_ vs ?_ ?_ (fun j=>ps.getD j 0) ?_ ?_ ?_ its.toArray.size 0 _ (Nat.zero_add _) ⟨⟨_,Heap.get?_push_size _ rfl,rfl,rfl⟩,?_⟩ ?_ ?_ ?_
 ·intro z
  have z':s.heap.objs.size=h1.objs.size\/s.heap.objs.size=l:=by simpa using z
  exact z'.elim (Nat.ne_of_lt hdlt) (Nat.ne_of_gt llt)
 ·rw [lenv,<- hP.len,lenp];simp
 ·rw [Yo hv];exact nd
 ·intro i v hi e
  have e':its[i]? = some v:=by simpa using e
  have hi':i < ps.length:=by rw [lenp];simpa using hi
  obtain ⟨u,hu,ru⟩:=rv.get (i:=i) (x:=V.ref ps[i]) (by rw [List.getElem?_map,List.getElem?_eq_getElem hi'];rfl)
  rw [hu] at e'
  cases e'
  rw [List.getD_eq_getElem?_getD,List.getElem?_eq_getElem hi']
  exact ru
 ·intro i hi
  have hlt:=old i hi
  refine ⟨fun z=>?_,Nat.ne_of_lt hlt⟩
  have z':ps.getD i 0=h1.objs.size:=by simpa using z
  exact Nat.ne_of_lt (Nat.lt_trans hlt hdlt) z'
 ·have:=hP.len
  exact Nat.le_of_lt (small1000 (by simp;omega))
 ·exact ⟨ol,Heap.get?_push_of_some _ (k1 _ _ hol1),hcl,nl,hsl⟩
 ·rw [List.take_zero]
  exact (vp hnew fun o e=>k1 _ o e).push _
 ·intro j p hj
  obtain ⟨key,hk,o,ho,r⟩:=hT j p hj
  exact ⟨key,hk,o,Heap.get?_push_of_some _ (up _ _ ho),r⟩
 ·intro h3 tk3 hD k3
  refine ⟨rfl,.ref s.heap.objs.size,upd H s.heap.objs.size (.dK kvs),I.laid (a:=s.heap.objs.size) (o:=.dK kvs) (t':=tk3) (fun b o e=>?_) (Nat.le_refl _) ⟨Nat.le_of_lt (small1000 hz),?_,vs,hv,hD⟩,rfl,q _ (I.hok.fresh (Nat.le_refl _))⟩
  ·have hlt:=Heap.lt_size e
   refine k3 b o (fun z=>?_) (Nat.ne_of_lt hlt) (Heap.get?_push_of_some _ (up _ _ e))
   have z':b=h1.objs.size:=by simpa using z
   exact Nat.ne_of_lt (Nat.lt_trans hlt hdlt) z'
  ·exact beq_eq_false_iff_ne.mpr (Nat.ne_of_gt I.big)
def ItV (K:W.Frag) (a:Addr) (n:Nat):It :=
 ⟨fun i H=>∃ xs x,SqL K H a xs/\xs.length=n/\xs.reverse[i]? = some x,fun i H x H'=>H'=H/\∀ xs,SqL K H a xs->xs.reverse[i]? = some x,fun i H=>∃ xs,SqL K H a xs/\xs.length=n/\i=n⟩
theorem qea {K:W.Frag} {a:Addr} {xs:List V}:Sure (ItV K a xs.length) xs.reverse (fun H=>SqL K H a xs) where
 go:=fun i H hi h=>⟨xs,xs.reverse[i],h,rfl,List.getElem?_eq_getElem hi⟩
 yld:=fun i H x H' _ h y=>⟨y.1,y.2 xs h⟩
 stop:=fun H h=>⟨xs,h,rfl,List.length_reverse⟩
theorem qeb {P:Program} {w:World} {K:W.Frag} {tg:Expr} (a it:Addr) (n:Nat):Turn P w K tg (ItV K a n) [it] it (fun i h=>h.IsRevIter it a ((n:Int) - 1 - (i:Int))) where
 mem:=by simp
 obj:=fun i h st b hb=>by
  have e:b=it:=by simpa using hb
  subst e
  obtain ⟨o,e,c,d⟩:=st
  exact ⟨o,e,fun v z=>by rw [d] at z;cases z⟩
 keep:=fun i h h' st k=>st.at fun o e=>k it (by simp) o e
 item:=by
  intro X hP hw hK hc i pins s σ H E I hf st hg
  subst hP hw hK
  obtain ⟨xs,x,hq,hn,hx⟩:=hg
  obtain ⟨its,rv,p,hz⟩:=I.list hq
  have hi:i < xs.length:=by have:=(List.getElem?_eq_some_iff.mp hx).1;rwa [List.length_reverse] at this
  have hx':xs[n - 1 - i]? = some x:=by rw [List.getElem?_reverse hi,hn] at hx;exact hx
  obtain ⟨u,hu,ru⟩:=rv.get hx'
  obtain ⟨f0,f1,f2,f3,f4,f5⟩:=hf it (by simp)
  have e1:(n:Int) - 1 - (i:Int)=((n - 1 - i:Nat):Int):=by omega
  rw [e1] at st
  refine wpAny_pyNext_rev_item st p.isList (x:=u) (by simpa using hu) fun h' st' sb=>?_
  have I1:Inv X pins σ H { s with heap:=h' }:=I.turned (t':=s.toks) (fun b o hb e=>(sb.2 b hb).trans e) f0 f1 f3 f4 f5
  have e2:((n - 1 - i:Nat):Int) - 1=(n:Int) - 1 - ((i+1:Nat):Int):=by omega
  rw [e2] at st'
  obtain ⟨o,e,c,d⟩:=id st'
  exact ⟨u,rfl,Yf (s:={ s with heap:=h' }) e c d (by decide) ⟨x,H,I1,ru,⟨rfl,fun ys hy=>by rw [I.list_inj hy hq];exact hx⟩,st',fun b hb=>(hf b hb).1⟩⟩
 done:=by
  intro X hP hw hK hc i pins s σ H E I hf st hg
  subst hP hw hK
  obtain ⟨xs,hq,hn,hx⟩:=hg
  obtain ⟨f0,f1,f2,f3,f4,f5⟩:=hf it (by simp)
  have e1:(n:Int) - 1 - (i:Int) = -1:=by omega
  rw [e1] at st
  exact wpAny_pyNext_rev_end (I.ok.hd hc) st fun h' eb=>⟨rfl,I.turned (t':=s.toks) (fun b o hb e=>eb b o hb e) f0 f1 f3 f4 f5⟩
 self:=fun _ _ _ _ _ st h=>wpAny_pyIter_revIter st h
def iRev (K:W.Frag) (ta:TA):TI:=fun σ H R=>ta σ H fun vs H1=>∃ a xs,vs=[.ref a]/\SqL K H1 a xs/\R (ItV K a xs.length) H1
theorem qip {X:Cx} {tg l:Expr} {ta:TA} {p pos:Pos} (hg:Gl X "reversed") (hm:X.mg "reversed" = none) (ha:PA X [l] ta) (hs:starEach [l] X.env=[(false,eval l X.env)]:=by rfl):PI X tg (.Call (.Name "reversed" p) [l] [] pos) (iRev X.K ta):=by
 intro pins s σ H R I h
 refine Call_ (ld_blt I hg hm (show bootBuiltins "reversed" = some (.type "reversed") by decide +kernel) (PyProof.Rows.callWith_type1 (thn (ha pos pins s σ H _ I h) fun us s1 ⟨vs,H1,I1,r1,q1⟩=>?_) hs rfl))
 obtain ⟨a,xs,e,hq,q⟩:=q1
 subst e
 cases r1 with
 | cons r rr =>
  cases rr
  cases r
  obtain ⟨its,rv,pl,hz⟩:=I1.list hq
  refine call_reversed_list pl.isList ?_
  have st:(s1.heap.push (revObj a ((its.toArray.size:Int) - 1))).IsRevIter s1.heap.objs.size a ((xs.length:Int) - 1 - ((0:Nat):Int)):=by
   refine ⟨_,Heap.get?_push_size _ rfl,rfl,?_⟩
   have e1:((its.toArray.size:Nat):Int) - 1=(xs.length:Int) - 1 - ((0:Nat):Int):=by rw [List.size_toArray,<- rv.length];simp
   show Data.fields #[.ref a,rawInt (((its.toArray.size:Nat):Int) - 1)]=_
   rw [e1]
  refine wpAny_pyIter_revIter st ?_
  refine ⟨s1.heap.objs.size,[s1.heap.objs.size],_,_,H1,rfl,I1.kept (t':=s1.toks) fun b o e=>Heap.get?_push_of_some _ e,qeb a _ xs.length,st,fun b hb=>?_,q⟩
  have e:b=s1.heap.objs.size:=by simpa using hb
  subst e
  exact I1.fpOk (Nat.le_refl _) (I1.hok.fresh (Nat.le_refl _))
theorem qgf {X:Cx} (K:W.Frag) {tg l:Expr} {ta:TA} {p pos:Pos} (hg:Gl X "reversed") (hm:X.mg "reversed" = none) (ha:PA X [l] ta) (hs:starEach [l] X.env=[(false,eval l X.env)]:=by rfl) (hK:X.K=K:=by rfl):PI X tg (.Call (.Name "reversed" p) [l] [] pos) (iRev K ta):=by subst hK;exact qip hg hm ha hs
theorem Inv.swap {X:Cx} {pins:List (Addr × Obj)} {σ:St} {H:Hp} {s:Shared} {d:Addr} {u u':HO} (I:Inv X pins σ H s) (e:H d=some u) (n1:∀ y,u≠.own y) (n2:∀ xs,u≠.tup xs)
  (h1:∀ xs,X.H₀ d≠some (.tup xs)) (h2:∀ o v,X.H₀ d≠some (.frz o v)) (h3:∀ ps,X.H₀ d≠some (.tbl ps)) (new:ObjOk X.prog X.w (upd H d u') s.heap d u'):Inv X pins σ (upd H d u') s:=by
 have ne:∀ b,H b=none->b≠d:=fun b z y=>by rw [y,e] at z;cases z
 refine ⟨I.ok,I.os,I.bare,⟨I.base.keep,I.base.slot,fun b o a1 a2 a3=>?_,I.base.there,fun b xs a1=>?_,fun b o v a1=>?_,fun b ps a1=>?_⟩,I.loc,I.cell,?_,fun x c a1=>?_,fun p hp=>?_,fun b v a1=>?_,I.len⟩
 ·have z:=I.base.free b o a1 a2 a3
  rw [qe (ne b z)];exact z
 ·have z:=I.base.tups b xs a1
  rw [qe (fun y=>h1 xs (by rw [<- y];exact a1))];exact z
 ·have z:=I.base.frzs b o v a1
  rw [qe (fun y=>h2 o v (by rw [<- y];exact a1))];exact z
 ·have z:=I.base.tbls b ps a1
  rw [qe (fun y=>h3 ps (by rw [<- y];exact a1))];exact z
 ·rw [qe (ne _ I.free)];exact I.free
 ·rw [qe (ne _ (I.freeC x c a1))];exact I.freeC x c a1
 ·obtain ⟨a1,a2,a3⟩:=I.pin p hp
  exact ⟨a1,by rw [qe (ne _ a2)];exact a2,a3⟩
 ·by_cases y:b=d
  ·subst y
   rw [upd_same] at a1
   cases a1
   exact new
  ·rw [qe y] at a1
   refine (I.hok b v a1).stay (fun c z _ q=>q) (fun c q=>?_) fun c xs q=>?_
   ·rw [qe (fun y=>n1 b (by rw [y,e] at q;exact Option.some.inj q))];exact q
   ·rw [qe (fun y=>n2 xs (by rw [y,e] at q;exact Option.some.inj q))];exact q
theorem Inv.freeze {X:Cx} {pins:List (Addr × Obj)} {σ:St} {H:Hp} {s:Shared} {d:Addr} {kvs:List (Key × V)} (I:Inv X pins σ H s) (e:H d=some (.dK kvs)) :
  ∃ ob,Inv X pins σ (upd H d (.frz ob (.dK kvs))) s/\∀ (σ':St) (H':Hp) (s':Shared),Inv X pins σ' H' s'->H' d=some (.frz ob (.dK kvs))->Inv X pins σ' (upd H' d (.dK kvs)) s':=by
 obtain ⟨hz,lo,vs,hkv,hD⟩:=(show ObjOk X.prog X.w H s.heap d (.dK kvs) from I.hok d _ e)
 obtain ⟨ob,es,ep,ho,rr⟩:=id hD
 have h1:∀ xs,X.H₀ d≠some (.tup xs):=fun xs z=>by have:=I.base.tups d xs z;rw [e] at this;cases this
 have h2:∀ o v,X.H₀ d≠some (.frz o v):=fun o v z=>by have:=I.base.frzs d o v z;rw [e] at this;cases this
 have h3:∀ ps,X.H₀ d≠some (.tbl ps):=fun ps z=>by obtain ⟨m,q⟩:=I.base.tbls d ps z;rw [e] at q;cases q
 refine ⟨ob,I.swap e (fun y z=>by cases z) (fun xs z=>by cases z) h1 h2 h3 ⟨ho,hz,lo,vs,hkv,hD⟩,fun σ' H' s' J q=>?_⟩
 obtain ⟨_,c1,c2,ws,c3,c4⟩:=(show ObjOk X.prog X.w H' s'.heap d (.frz ob (.dK kvs)) from J.hok d _ q)
 exact J.swap q (fun y z=>by cases z) (fun xs z=>by cases z) h1 h2 h3 ⟨c1,c2,ws,c3,c4⟩
def tFrz (t:TE):TE:=fun σ H Q=>∃ d kvs,H d=some (.dK kvs)/\∀ ob,t σ (upd H d (.frz ob (.dK kvs))) fun v H'=>H' d=some (.frz ob (.dK kvs))/\Q v (upd H' d (.dK kvs))
theorem qfj {X:Cx} {e:Expr} {t:TE} (h:PE X e t):PE X e (tFrz t):=by
 intro pins s σ H Q I hq
 obtain ⟨d,kvs,hd,q⟩:=hq
 obtain ⟨ob,I1,back⟩:=I.freeze hd
 refine thn (h pins s σ _ _ I1 (q ob)) fun v s1 ⟨x,H1,J,r,q1,q2⟩=>⟨x,_,back σ H1 s1 J q1,r,q2⟩
def ItD (d:Addr) (ob:Obj) (kvs:List (Key × V)):It :=
 ⟨fun i H=>H d=some (.frz ob (.dK kvs))/\i < kvs.length,fun i H x H'=>H'=H/\(kvs.map fun p=>kV p.1)[i]? = some x,fun i H=>H d=some (.frz ob (.dK kvs))/\i=kvs.length⟩
theorem Z2 {d:Addr} {ob:Obj} {kvs:List (Key × V)}:Sure (ItD d ob kvs) (kvs.map fun p=>kV p.1) (fun H=>H d=some (.frz ob (.dK kvs))) where
 go:=fun i H hi h=>⟨h,by rwa [List.length_map] at hi⟩
 yld:=fun i H x H' _ h y=>y
 stop:=fun H h=>⟨h,List.length_map ..⟩
theorem qgg {P:Program} {w:World} {k:Key} {u:Value} (h:(mixKind P w).is k u=true):RelV (kV k) u:=by
 rcases q9 (show keyIs k u=true from h) with ⟨i,t,rfl,rfl⟩ | ⟨x,t,rfl,rfl⟩
 ·exact ⟨t,rfl⟩
 ·exact ⟨t,rfl⟩
theorem qfk {X:Cx} {pins:List (Addr × Obj)} {σ:St} {H:Hp} {s:Shared} {d:Addr} {ob:Obj} {kvs:List (Key × V)} {es:Array DictEntry} {ep:Nat} (I:Inv X pins σ H s) (e:H d=some (.frz ob (.dK kvs))) (hd:ob.data=.dict es ep) :
  (d == sysModules)=false/\kvs.length<=sizeLine/\∃ vs,KV kvs vs/\s.heap.DictAt (mixKind X.prog X.w) d vs ep:=by
 obtain ⟨c0,c1,c2,vs,c3,o,es',ep',ho,x1,x2,x3⟩:=(show ObjOk X.prog X.w H s.heap d (.frz ob (.dK kvs)) from I.hok d _ e)
 rw [c0] at ho
 cases ho
 rw [hd] at x2
 cases x2
 exact ⟨c2,c1,vs,c3,ob,es,c0,x1,hd,x3⟩
theorem qcm {P:Program} {w:World} {K:W.Frag} {tg:Expr} (d it:Addr) (ob:Obj) (kvs:List (Key × V)) (es:Array DictEntry) (ep:Nat) (hd:ob.data=.dict es ep):Turn P w K tg (ItD d ob kvs) [it] it (fun i h=>h.IsKeyIter it d i kvs.length ep) where
 mem:=by simp
 obj:=fun i h st b hb=>by
  have e:b=it:=by simpa using hb
  subst e
  obtain ⟨o,e,c,d⟩:=st
  exact ⟨o,e,fun v z=>by rw [d] at z;cases z⟩
 keep:=fun i h h' st k=>st.at fun o e=>k it (by simp) o e
 item:=by
  intro X hP hw hK hc i pins s σ H E I hf st hg
  subst hP hw hK
  obtain ⟨hq,hi⟩:=hg
  obtain ⟨lo,hz,vs,hkv,hat⟩:=qfk I hq hd
  have hl:vs.length=kvs.length:=(Paired.length hkv).symm
  rw [<- hl] at st hi
  obtain ⟨f0,f1,f2,f3,f4,f5⟩:=hf it (by simp)
  have e3:vs[i]? = some (vs[i].1,vs[i].2):=List.getElem?_eq_getElem hi
  refine wpAny_pyNext_dict_item st hat e3 fun u h' hu st' sb=>?_
  have I1:Inv X pins σ H { s with heap:=h' }:=I.turned (t':=s.toks) (fun b o hb e=>(sb.2 b hb).trans e) f0 f1 f3 f4 f5
  obtain ⟨k',v',e4,e5⟩:=qga hkv e3
  rw [hl] at st'
  obtain ⟨o,e,c,dd⟩:=id st'
  refine ⟨u,rfl,Yf (s:={ s with heap:=h' }) e c dd (by decide) ⟨kV vs[i].1,H,I1,qgg hu,⟨rfl,?_⟩,st',fun b hb=>(hf b hb).1⟩⟩
  rw [List.getElem?_map,e4,<- e5]
  rfl
 done:=by
  intro X hP hw hK hc i pins s σ H E I hf st hg
  subst hP hw hK
  obtain ⟨hq,hi⟩:=hg
  obtain ⟨lo,hz,vs,hkv,hat⟩:=qfk I hq hd
  have hl:vs.length=kvs.length:=(Paired.length hkv).symm
  rw [<- hl] at st hi
  obtain ⟨f0,f1,f2,f3,f4,f5⟩:=hf it (by simp)
  exact wpAny_pyNext_dict_end (I.ok.hd hc) st hat (by rw [hi];simp) fun h' eb=>⟨rfl,I.turned (t':=s.toks) (fun b o hb e=>eb b o hb e) f0 f1 f3 f4 f5⟩
 self:=fun _ _ _ _ _ st h=>wpAny_pyIter_keyiter st h
def iDict (tl:TE):TI:=fun σ H R=>tl σ H fun x H1=>∃ d ob kvs,x=.ref d/\H1 d=some (.frz ob (.dK kvs))/\R (ItD d ob kvs) H1
theorem qcn {X:Cx} {tg l:Expr} {tl:TE} (hl:PE X l tl):PI X tg l (iDict tl):=by
 intro pins s σ H R I h
 refine thn (hl pins s σ H _ I h) fun v s1 ⟨x,H1,I1,r1,q1⟩=>?_
 obtain ⟨d,ob,kvs,e,hq,q⟩:=q1
 subst e
 cases r1
 obtain ⟨c0,c1,c2,vs,c3,o,es,ep,ho,x1,x2,x3⟩:=(show ObjOk X.prog X.w H1 s1.heap d (.frz ob (.dK kvs)) from I1.hok d _ hq)
 rw [c0] at ho
 cases ho
 have hvl:vs.length=kvs.length:=(Paired.length c3).symm
 refine wpAny_pyIter_dict (knd:=mixKind X.prog X.w) (kvs:=vs) (ep:=ep) c2 ⟨ob,es,c0,x1,x2,x3⟩ ?_
 refine ⟨s1.heap.objs.size,[s1.heap.objs.size],_,_,H1,rfl,I1.kept (t':=s1.toks) fun b o e=>Heap.get?_push_of_some _ e,qcm d _ ob kvs es ep x2,⟨_,Heap.get?_push_size _ rfl,rfl,by rw [hvl];rfl⟩,fun b hb=>?_,q⟩
 have e:b=s1.heap.objs.size:=by simpa using hb
 subst e
 exact I1.fpOk (Nat.le_refl _) (I1.hok.fresh (Nat.le_refl _))
end L2
namespace L2
open PySem PySem.Spec PyProof.Rows
def rAll (K:W.Frag):List V->Hp->VK->Prop:=fun xs H Q=>∃ (l:Addr) (bs:List Bool),xs=[.ref l]/\SqL K H l (bs.map V.bl)/\Q (.bl (bs.all id)) H
theorem Vj {X:Cx} (hc:X.calm=true):CallR X (.builtin "all") (rAll X.K):=by
 intro pins s σ H xs us Q I r h
 obtain ⟨l,bs,rfl,hq,q⟩:=h
 obtain ⟨u,rfl,ru⟩:=vals1 r
 cases ru
 obtain ⟨its,rv,pl,hz⟩:=I.list hq
 have hA:=I.ok.hd hc
 have lb:its.length=bs.length:=by have:=rv.length;rw [List.length_map] at this;exact this.symm
 refine call_all_walk (wpAny_pyIter_list pl.isList ?_)
 have hlt:l < s.heap.objs.size:=by obtain ⟨o,ho,_⟩:=pl.isList;exact Heap.lt_size ho
 refine ⟨s.heap.objs.size,_,_,_,_,_,fun i=>bs.getD i false,rfl,Walks.list (prog:=X.prog) (w:=X.w) (A:=X.A.in1) hA s.heap.objs.size l (Nat.ne_of_lt hlt) its.toArray,⟨⟨_,Heap.get?_push_size _ rfl,rfl,rfl⟩,pl.isList.push _⟩,fun i v s' Q' E' hv hQ=>?_,fun h' tk kk=>?_⟩
 ·have hv':its[i]? = some v:=by simpa using hv
  have hi:i < bs.length:=by rw [<- lb];exact (List.getElem?_eq_some_iff.mp hv').1
  obtain ⟨u,hu,ru⟩:=rv.get (i:=i) (x:=V.bl bs[i]) (by rw [List.getElem?_map,List.getElem?_eq_getElem hi];rfl)
  rw [hu] at hv'
  cases hv'
  cases (show v=Value.bool bs[i] from ru)
  refine wpAny_truthy_bool ?_
  have e:bs.getD i false=bs[i]:=by rw [List.getD_eq_getElem?_getD,List.getElem?_eq_getElem hi];rfl
  exact e ▸ hQ
 ·have e:((List.range its.toArray.size).all fun i=>bs.getD i false)=bs.all id:=by
   have e1:its.toArray.size=bs.length:=by rw [List.size_toArray,lb]
   rw [e1]
   clear kk q hq rv lb pl hz
   rw [Bool.eq_iff_iff,List.all_eq_true,List.all_eq_true]
   constructor
   ·intro h b hb
    obtain ⟨i,hi⟩:=List.mem_iff_getElem?.mp hb
    have:=h i (List.mem_range.mpr (List.getElem?_eq_some_iff.mp hi).1)
    rw [List.getD_eq_getElem?_getD,hi] at this
    exact this
   ·intro h i hi
    have hi':=List.mem_range.mp hi
    rw [List.getD_eq_getElem?_getD,List.getElem?_eq_getElem hi']
    exact h _ (List.getElem_mem hi')
  rw [e]
  exact ⟨.bl _,H,I.kept (t':=tk) fun b o eb=>kk b o (fun z=>by
   have z':b=s.heap.objs.size:=by simpa using z
   exact absurd (Heap.lt_size eb) (by rw [z'];exact Nat.lt_irrefl _)) (Heap.get?_push_of_some _ eb),rfl,q⟩
theorem Js {X:Cx} (K:W.Frag) (hc:X.calm=true) (hK:X.K=K:=by rfl):CallR X (.builtin "all") (rAll K):=by subst hK;exact Vj hc
def rSlS:V->Option Int->Option Int->Hp->VK->Prop:=fun x lo hi H Q=>∃ z:Str,x=.str z/\z.length<=sizeLine/\Q (.str (Txt.slice z lo hi)) H
theorem qfl {X:Cx}:SlR X rSlS:=by
 intro pins s σ H x v vl vu lo hi sl Q I rx hs pl pu h
 obtain ⟨z,rfl,hz,q⟩:=h
 obtain ⟨t,rfl⟩:=rx
 refine ⟨"str",_,F.slot_str_getitem.lookup,typeIs_str _ _ _,?_⟩
 obtain ⟨o,ho,hc,hd⟩:=hs
 have fin:∀ (l u:Option (Int × Tok)),l.map (·.1)=lo->u.map (·.1)=hi->vl=partValue l->vu=partValue u->wpAny (model X.prog X.w) X.A (getItem (.str z t) (.ref sl)) (EP X pins σ Q) X.xe s:=fun l u e1 e2 e3 e4=>by
  subst e1 e2 e3 e4
  refine wpAny_getItem_str_slice (l:=l) (u:=u) (st:=none) ⟨o,ho,hc,hd⟩ rfl (post_val_or_str ⟨Nat.le_trans (Txt.slice_le z (l.map (·.1)) (u.map (·.1))) hz,fun t' k=>?_⟩)
  exact ⟨.str (Txt.slice z (l.map (·.1)) (u.map (·.1))),H,I.tok _,⟨t',rfl⟩,q⟩
 cases pl with
 | none=>cases pu with
  | none=>exact fin none none rfl rfl rfl rfl
  | int j tj=>exact fin none (some (j,tj)) rfl rfl rfl rfl
 | int i ti=>cases pu with
  | none=>exact fin (some (i,ti)) none rfl rfl rfl rfl
  | int j tj=>exact fin (some (i,ti)) (some (j,tj)) rfl rfl rfl rfl
theorem qec (x:Str) (l:Option Int) (j:Nat):Txt.slice x l (some (j:Int))=Txt.slice x l (some ((min j x.length:Nat):Int)):=by
 have e:Builtin.Str.strSliceIndices l (some (j:Int)) 1 x.length=Builtin.Str.strSliceIndices l (some ((min j x.length:Nat):Int)) 1 x.length:=by
  unfold Builtin.Str.strSliceIndices
  simp only
  have e1:max 0 (min (if (j:Int) < 0 then (j:Int)+(x.length:Int) else (j:Int)) (x.length:Int))=max 0 (min (if ((min j x.length:Nat):Int) < 0 then ((min j x.length:Nat):Int)+(x.length:Int) else ((min j x.length:Nat):Int)) (x.length:Int)):=by
   rw [if_neg (by omega),if_neg (by omega)]
   omega
  rw [if_pos (by decide),e1]
  rfl
 unfold Txt.slice
 rw [e]
theorem qbi (x:List Nat) (j:Nat):Txt.slice ⟨x.toArray⟩ none (some (j:Int))=⟨(x.take j).toArray⟩:=by
 rw [qec]
 have h:=beq_iff_eq.mp (slice_closes_toL (x:=⟨x.toArray⟩) (j:=((min j x.length:Nat):Int)) (by omega) (by show _<=((x.length:Nat):Int);omega))
 refine h.trans ?_
 have e:((((min j x.length:Nat):Int)) - 0).toNat=min j x.length:=by omega
 rw [e]
 show (⟨((x.drop 0).take (min j x.length)).toArray⟩:Str)=_
 rw [List.drop_zero]
 by_cases hj:j<=x.length
 ·rw [Nat.min_eq_left hj]
 ·rw [Nat.min_eq_right (by omega),List.take_of_length_le (Nat.le_refl _),List.take_of_length_le (by omega)]
theorem Vs (x:List Nat) (i:Nat) (h:i<=x.length):Txt.slice ⟨x.toArray⟩ (some (i:Int)) none=⟨(x.drop i).toArray⟩:=by
 refine (slice_from_eq (x:=⟨x.toArray⟩) (i:=(i:Int)) (b:=((x.length:Nat):Int)) (by omega) (by show _<=((x.length:Nat):Int);omega) rfl).trans ?_
 show (⟨((x.drop i).take _).toArray⟩:Str)=_
 rw [List.take_of_length_le (by rw [List.length_drop];omega)]
end L2
namespace L2
open PySem PySem.Spec PyProof.Rows
section
variable {P:Program} {w:World} {A:Around} {E:Value->Shared->Prop}
end
end L2
namespace L2
open PySem PySem.Spec PyProof.Rows
abbrev iK (z:Str):Key:=Sum.inr z
def Cnt (ss:List Str) (c:Nat):Prop:=c<=ss.length/\(c=ss.length ↔ ss.Nodup)
theorem Cnt.nil:Cnt [] 0:=⟨Nat.le_refl _,by simp⟩
theorem Cnt.snoc {ss:List Str} {z:Str} {c:Nat} (h:Cnt ss c):Cnt (ss++[z]) (if z∈ss then c else c+1):=by
 obtain ⟨h1,h2⟩:=h
 by_cases hz:z∈ss
 ·rw [if_pos hz]
  refine ⟨by rw [List.length_append];omega,⟨fun e=>?_,fun e=>?_⟩⟩
  ·rw [List.length_append,List.length_singleton] at e
   omega
  ·exact absurd rfl ((List.nodup_append.mp e).2.2 z hz z (by simp))
 ·rw [if_neg hz]
  refine ⟨by rw [List.length_append,List.length_singleton];omega,⟨fun e=>?_,fun e=>?_⟩⟩
  ·rw [List.length_append,List.length_singleton] at e
   have:=h2.mp (by omega)
   refine List.nodup_append.mpr ⟨this,by simp,fun a ha b hb e=>?_⟩
   have:b=z:=by simpa using hb
   exact hz (by rw [<- this,<- e];exact ha)
  ·rw [List.length_append,List.length_singleton]
   have:=h2.mpr (List.nodup_append.mp e).1
   omega
def kin (ss:List Str) (k:Key):Bool:=ss.any fun z=>decide (k=iK z)
end L2
namespace L2
open PySem PySem.Spec PyProof.Rows
end L2
namespace L2
open PySem PySem.Spec PyProof.Rows PySem.W
abbrev Fcts:=List (Nat × Nat)
def has (L:Fcts) (i j:Nat):Bool:=L.any fun p=>p.1 == i && p.2 == j
structure Ord (b:Nat->Nat->Bool) (n:Nat):Prop where
 irr:∀ i,b i i=false
 trans:∀ i j k,b i j=true->b j k=true->b i k=true
 tot:∀ i j,i < n->j < n->i≠j->b i j=false->b j i=true
structure Sor (b:Nat->Nat->Bool) (n m:Nat) (p:Array Nat):Prop where
 size:p.size=n
 lt:∀ x∈p.toList,x < n
 nd:p.toList.Nodup
 up:(p.toList.take m).Pairwise fun x y=>b x y=true
theorem Jt {p:Array Nat} {i:Nat} (h:i < p.size):p.toList[i]? = some (p.getD i 0):=by
 rw [Array.getElem?_toList,Array.getD,dif_pos h]
 exact Array.getElem?_eq_getElem h
theorem Sor.below {b:Nat->Nat->Bool} {n m:Nat} {p:Array Nat} (S:Sor b n m p) {i j:Nat} (hij:i < j) (hj:j < m) (hm:m<=n):b (p.getD i 0) (p.getD j 0)=true:=by
 have hs:=S.size
 have h1:(p.toList.take m)[i]? = some (p.getD i 0):=by rw [List.getElem?_take_of_lt (by omega)];exact Jt (by omega)
 have h2:(p.toList.take m)[j]? = some (p.getD j 0):=by rw [List.getElem?_take_of_lt hj];exact Jt (by omega)
 obtain ⟨l1,e1⟩:=List.getElem?_eq_some_iff.mp h1
 obtain ⟨l2,e2⟩:=List.getElem?_eq_some_iff.mp h2
 have:=List.pairwise_iff_getElem.mp S.up i j l1 l2 hij
 rw [e1,e2] at this
 exact this
theorem Sor.mem {b:Nat->Nat->Bool} {n m:Nat} {p:Array Nat} (S:Sor b n m p) {i:Nat} (h:i < n):p.getD i 0 < n:=S.lt _ (List.mem_of_getElem? (Jt (by rw [S.size];exact h)))
theorem Sor.ne {b:Nat->Nat->Bool} {n m:Nat} {p:Array Nat} (S:Sor b n m p) {i j:Nat} (hij:i < j) (h:j < n):p.getD i 0≠p.getD j 0:=by
 have hs:=S.size
 obtain ⟨l1,e1⟩:=List.getElem?_eq_some_iff.mp (Jt (p:=p) (i:=i) (by omega))
 obtain ⟨l2,e2⟩:=List.getElem?_eq_some_iff.mp (Jt (p:=p) (i:=j) (by omega))
 have:=List.pairwise_iff_getElem.mp S.nd i j l1 l2 hij
 rw [e1,e2] at this
 exact this
end L2
namespace L2
open PySem PySem.Spec PyProof.Rows PySem.W
abbrev Tri:=Addr × Str × Str
abbrev d0:Tri:=(0,⟨#[]⟩,⟨#[]⟩)
end L2
namespace L2
open PySem PySem.Spec PyProof.Rows
abbrev ts (x:List Nat):Str:=⟨x.toArray⟩
end L2
namespace L2
open PySem PyProof.Rows
section
variable {X:Cx} {e est:Expr} {te ts:TE} {p2 pos:Pos}
end
end L2
namespace L2
open PySem PySem.Spec PyProof.Rows
open AutoSeq1 (wpAny_loadPart')
section
variable {X:Cx} {l:Expr} {ta:TA} {elts:List Expr} {k:Nat} {tp p pos:Pos}
end
end L2
namespace L2
open PySem PySem.Spec PyProof.Rows PySem.W
section
variable {K:W.Frag} {x D:Addr} {ox:Obj}
end
end L2
namespace L2
open PySem PySem.Spec PySem.Calls PyProof.Rows PySem.W
end L2
namespace L2
open PySem PySem.Spec PyProof.Rows
end L2
namespace L2
end L2
namespace L2
open PySem PySem.Spec PyProof.Rows
section
variable {P:Program} {w:World} {A:Around} {E:Value->Shared->Prop} {s:Shared}
theorem qbj {it l:Addr} {i:Nat} {items:Array Value} {x:Value} {Q:Value->Shared->Prop} (hit:s.heap.IsRevIter it l (i:Int)) (hl:s.heap.IsList l items) (hx:items[i]? = some x)
  (hQ:∀ h',h'.IsRevIter it l ((i:Int) - 1)->Heap.SameBut it s.heap h'->Q x { s with heap:=h' }):wpAny (model P w) A (Builtin.SmallTypes.nextOf (.ref it)) Q E s:=by
 obtain ⟨o,ho,hc,hd⟩:=id hit
 obtain ⟨ol,hol,_,nl,hdl⟩:=hl
 unfold Builtin.SmallTypes.nextOf
 refine wpAny_bind (wpAny_callSpecial?_slot (name:=Str.ofString "__next__") hit.typeIs F.slot_lri_next (wpAny_call_entry F.slot_lri_next hit.typeIs F.entry_lri_next ?_ (F.args_lri_next_1 _)))
 unfold Builtin.«list_reverseiterator.__next__»
 refine wpAny_bind (wpAny_of_eq (a:=(Value.ref it,[])) rfl ?_)
 try dsimp only
 refine wpAny_bind (wpAny_field ho hd (x:=rawInt (i:Int)) rfl ?_)
 show wpAny _ _ (if (i:Int) < 0 then _ else _) _ _ s
 rw [if_neg (by omega)]
 show wpAny _ _ (field (.ref it) 0 >>= _) _ _ s
 refine wpAny_bind (wpAny_field ho hd (x:=.ref l) rfl ?_)
 show wpAny _ _ (seqItems? (.ref l) >>= _) _ _ s
 refine wpAny_bind (wpAny_seqItems hol hdl ?_)
 simp only [Int.toNat_natCast,hx]
 refine wpAny_bind (wpAny_setField ho hd (by simp) ?_)
 first
 | refine wpAny_pure ⟨x,rfl,wpAny_pure (hQ _ ?_ (Heap.SameBut.update ..))⟩
 | refine wpAny_bind (wpAny_pure (wpAny_pure ⟨x,rfl,wpAny_pure (hQ _ ?_ (Heap.SameBut.update ..))⟩))
 exact ⟨_,Heap.get?_update_self _ ho (Obj.isFreed_of_fields (Obj.data_mapFields hd _)),(Obj.cls_mapFields ..).trans hc,by
  rw [Obj.data_mapFields hd];simp⟩
theorem Vk {it l:Addr} {i:Int} {Q:Value->Shared->Prop} (hh:A.handled=none) (hi:i < 0) (hit:s.heap.IsRevIter it l i)
  (hQ:∀ h' e,Heap.ExtBut it s.heap h'->(∃ o,h'.get? e=some o/\o.cls=.type "StopIteration")->E (.ref e) { s with heap:=h' }):wpAny (model P w) A (Builtin.SmallTypes.nextOf (.ref it)) Q E s:=by
 obtain ⟨o,ho,hc,hd⟩:=id hit
 unfold Builtin.SmallTypes.nextOf
 refine wpAny_bind (wpAny_callSpecial?_slot (name:=Str.ofString "__next__") hit.typeIs F.slot_lri_next (wpAny_call_entry F.slot_lri_next hit.typeIs F.entry_lri_next ?_ (F.args_lri_next_1 _)))
 unfold Builtin.«list_reverseiterator.__next__»
 refine wpAny_bind (wpAny_of_eq (a:=(Value.ref it,[])) rfl ?_)
 try dsimp only
 refine wpAny_bind (wpAny_field ho hd (x:=rawInt i) rfl ?_)
 show wpAny _ _ (if i < 0 then _ else _) _ _ s
 rw [if_pos hi]
 refine wpAny_bind (wpAny_rule ?_)
 first
 | show wpAny _ _ (newExc (.type "StopIteration") [] >>= _) _ _ _
 | (refine wpAny_bind ?_;show wpAny _ _ (newExc (.type "StopIteration") [] >>= _) _ _ _)
 refine wpAny_bind ?_
 simp only [newExc,newTuple]
 refine wpAny_bind (wpAny_newObj_type ?_ (by size_fits))
 refine wpAny_bind (m:=firstArgMember _ _) (wpAny_of_eq (a:=Value.none) (by first | rfl | (simp only [firstArgMember];rfl)) ?_)
 refine wpAny_newObj_type ?_ (by size_fits)
 simp only [raiseNew]
 refine wpAny_bind (wpAny_handled ?_)
 first | rw [show A.in1.handled=none from hh] | rw [hh]
 refine wpAny_bind (wpAny_pure (wpAny_throw ?_))
 exact hQ _ _ (((Heap.ExtBut.refl _ _).push _).push _) ⟨_,Heap.get?_push_size _ rfl,rfl⟩
end
theorem qco {P:Program} {w:World} (it l:Addr) (ne:l≠it) (n:Nat) (xs:Array Value) (hn:xs.size=n):Src P w it l xs.reverse (fun k h=>h.IsRevIter it l ((n:Int) - 1 - (k:Int))/\h.IsList l xs) where
 keep:=fun k h h' st e=>⟨st.1.at fun o x=>e it (.inl rfl) o x,st.2.at fun o x=>e l (.inr rfl) o x⟩
 obj:=fun k h st=>by
  obtain ⟨o,ho,_,d⟩:=st.1
  exact ⟨o,_,ho,d⟩
 item:=fun A E k s x Q st hx q=>by
  have hk:k < xs.size:=by have:=(Array.getElem?_eq_some_iff.mp hx).1;rwa [Array.size_reverse] at this
  have hx':xs[n - 1 - k]? = some x:=by
   rw [Array.getElem?_reverse hk,hn] at hx
   exact hx
  have e1:(n:Int) - 1 - (k:Int)=((n - 1 - k:Nat):Int):=by omega
  have st1:=st.1
  rw [e1] at st1
  refine qbj st1 st.2 hx' fun h' a b=>q h' ⟨?_,st.2.extBut b.extBut ne⟩ b
  have e2:((n - 1 - k:Nat):Int) - 1=(n:Int) - 1 - ((k+1:Nat):Int):=by omega
  rw [e2] at a
  exact a
 fin:=fun A E k s Q hA st hx q=>by
  have hk:xs.size<=k:=by
   have:=Array.getElem?_eq_none_iff.mp hx
   rwa [Array.size_reverse] at this
  exact Vk hA (by omega) st.1 q
theorem qgh {its:List Value} {n i:Nat} {u:Value} (hn:its.toArray.size=n) (hi:i < n) (hu:its[n - 1 - i]? = some u):its.toArray.reverse[i]? = some u:=by
 rw [Array.getElem?_reverse (by omega),hn]
 simpa using hu
def ItzR (K:W.Frag) (n:Nat) (l1 l2:Addr):It:=ItP (fun i H=>∃ xs x ys y,SqL K H l1 xs/\xs.length=n/\xs.reverse[i]? = some x/\SqL K H l2 ys/\ys[i]? = some y) (fun i H=>∃ xs ys,SqL K H l1 xs/\xs.length=n/\SqL K H l2 ys/\min xs.length ys.length=i)
 (fun i H vs=>∃ x y,(∀ xs,SqL K H l1 xs->xs.reverse[i]? = some x)/\(∀ ys,SqL K H l2 ys->ys[i]? = some y)/\vs=[x,y])
theorem qcp {K:W.Frag} {l1 l2:Addr} {xs ys:List V}:Sure2 (ItzR K xs.length l1 l2) ((xs.reverse.zip ys).map fun p=>[p.1,p.2]) (fun H=>SqL K H l1 xs/\SqL K H l2 ys) where
 go:=fun i H hi h=>by
  have hi':i < xs.length/\i < ys.length:=by simpa [Nat.lt_min] using hi
  exact ⟨xs,xs.reverse[i]'(by rw [List.length_reverse];exact hi'.1),ys,ys[i],h.1,rfl,List.getElem?_eq_getElem _,h.2,by simp [hi'.2]⟩
 yld:=fun i H v H' hi h z=>by
  obtain ⟨T,vs,n,rfl,⟨x,y,h1,h2,rfl⟩,rfl⟩:=z
  refine ⟨T,_,n,rfl,rfl,?_⟩
  rw [List.getElem?_map,List.getElem?_zip_eq_some.mpr (show xs.reverse[i]? = some (x,y).1/\ys[i]? = some (x,y).2 from ⟨h1 xs h.1,h2 ys h.2⟩)]
  rfl
 stop:=fun H h=>⟨xs,ys,h.1,rfl,h.2,by simp⟩
theorem qcq {P:Program} {w:World} {K:W.Frag} {elts:List Expr} {k:Nat} {pos:Pos} (n:Nat) (l1 l2 z TI TO i1 i2:Addr) (d1:TI≠z) (d2:TO≠z) (d3:i1≠z) (d4:i2≠z) (d5:TI≠TO) (d6:TI≠i1) (d7:TI≠i2) (d8:TO≠i1) (d9:TO≠i2) (d10:i1≠i2)
  (hTOl:∀ h:Heap,True) (hl1:l1≠TO/\l1≠z/\l1≠i1/\l1≠i2) (hl2:l2≠TO/\l2≠z/\l2≠i1/\l2≠i2) :
  Turn P w K (.Tuple elts k pos) (ItzR K n l1 l2) [z,TI,TO,i1,i2] z (fun i h=>IsZip h z TI TO .none/\IsPair h TI (.ref i1) (.ref i2)/\(∃ a b,IsPair h TO a b)/\h.IsRevIter i1 l1 ((n:Int) - 1 - (i:Int))/\ItA h i2 l2 i false):=by
 have D:ZipApart z TI TO i1 i2 l1 l2:=⟨d1,d2,d3,d4,d5,d6,d7,d8,d9,d10,hl1.2.1,hl1.1,hl1.2.2.1,hl1.2.2.2,hl2.2.1,hl2.1,hl2.2.2.1,hl2.2.2.2⟩
 exact {
  mem:=by simp
  obj:=fun i h st b hb=>by
   obtain ⟨h1,h2,⟨a,b',h3⟩,h4,h5⟩:=st
   obtain ⟨o4,e4,_,q4⟩:=h4
   obtain ⟨o5,e5,q5,_⟩:=h5.obj
   have hb':b=z\/b=TI\/b=TO\/b=i1\/b=i2:=by simpa using hb
   rcases hb' with e | e | e | e | e
   ·rw [e];exact ⟨_,h1,fun v z=>by cases z⟩
   ·rw [e];exact ⟨_,h2,fun v z=>by cases z⟩
   ·rw [e];exact ⟨_,h3,fun v z=>by cases z⟩
   ·rw [e];exact ⟨o4,e4,fun v z=>by rw [q4] at z;cases z⟩
   ·rw [e];exact ⟨o5,e5,fun v z=>by rw [q5] at z;cases z⟩
  keep:=fun i h h' st kk=>by
   obtain ⟨h1,h2,⟨a,b',h3⟩,h4,h5⟩:=st
   exact ⟨kk z (by simp) _ h1,kk TI (by simp) _ h2,⟨a,b',kk TO (by simp) _ h3⟩,h4.at fun o x=>kk i1 (by simp) o x,ItA.at (fun o x=>kk i2 (by simp) o x) h5⟩
  item:=by
   intro X hP hw hK hc i pins s σ H E I hf st hg
   subst hP hw hK
   obtain ⟨xs,x,ys,y,hq1,hn,hx,hq2,hy⟩:=hg
   obtain ⟨its1,rv1,p1,hz1⟩:=I.list hq1
   have hn1:its1.toArray.size=n:=by rw [List.size_toArray,<- rv1.length];exact hn
   obtain ⟨its2,rv2,p2,hz2⟩:=I.seqA (b:=false) hq2
   have hi:i < xs.length:=by have:=(List.getElem?_eq_some_iff.mp hx).1;rwa [List.length_reverse] at this
   have hx':xs[n - 1 - i]? = some x:=by rw [List.getElem?_reverse hi,hn] at hx;exact hx
   obtain ⟨u,hu,ru⟩:=rv1.get hx'
   obtain ⟨v,hv,rv⟩:=rv2.get hy
   obtain ⟨h1,h2,⟨a0,b0,h3⟩,h4,h5⟩:=st
   have hT:s.TypeIs (.ref z) "zip":=⟨_,h1,rfl⟩
   unfold pyNext
   refine wpAny_bind (wpAny_attempt (wpAny_callSpecial?_slot (name:=Str.ofString "__next__") hT F.slot_zip_next (wpAny_call_entry F.slot_zip_next hT F.entry_zip_next
    (qcj (qco i1 l1 D.l1i1 n its1.toArray hn1) (srcA i2 l2 D.l2i2 its2.toArray false) D h1 h2 h3 ⟨h4,p1.isList⟩ ⟨h5,p2⟩ (qgh hn1 (by omega) hu) (by simpa using hv) fun h' T y1 y2 y3 y4 y5 y6 y7 y8 y9 y10 kk=>wpAny_pure ?_) (F.args_zip_next_1 _))))
   refine ⟨_,rfl,?_⟩
   refine wpAny_letOwnedTupleGo_zip (s:={ s with heap:=h' }) y1 fun h2' y11 u11=>?_
   have nTI:T≠TI:=Nat.ne_of_gt (Nat.lt_of_lt_of_le (Heap.lt_size h2) y6)
   have kk2:∀ b o,b ∉ [z,TI,TO,i1,i2]->s.heap.get? b=some o->h2'.get? b=some o:=fun b o hb e=>by
    have hb':b≠z/\b≠TI/\b≠TO/\b≠i1/\b≠i2:=by simpa using hb
    exact u11.extBut _ _ hb'.1 (kk b o hb'.1 hb'.2.2.1 hb'.2.2.2.1 hb'.2.2.2.2 e)
   refine ⟨.ref T,upd H T (.tup [x,y]),I.newTup (ch:=[z,TI,TO,i1,i2]) (t':=s.toks) (its:=[u,v]) hf kk2 y6 (.cons ru (.cons rv .nil)) ⟨⟨_,u11.extBut _ _ y7 y5,rfl,_,rfl⟩,_,u11.extBut _ _ y7 y5,rfl⟩ (by show 2<=sizeLine;decide),rfl,
    ⟨T,_,I.hok.fresh y6,rfl,⟨x,y,fun zs hz=>by rw [I.list_inj hz hq1];exact hx,fun zs hz=>I.seqA_inj (b:=false) hq2 hz hy,rfl⟩,rfl⟩,⟨y11,u11.extBut _ _ d1 (kk _ _ d1 d5 d6 d7 h2),⟨_,_,u11.extBut _ _ d2 y2⟩,y3.1.at fun o e=>u11.extBut _ _ d3 e,ItA.at (fun o e=>u11.extBut _ _ d4 e) y4.1⟩,fun b hb=>?_⟩
   have nb:b≠T:=fun q=>by
    have hb':b=z\/b=TI\/b=TO\/b=i1\/b=i2:=by simpa using hb
    rw [q] at hb'
    rcases hb' with e | e | e | e | e
    ·exact y7 e
    ·exact nTI e
    ·exact y8 e
    ·exact y9 e
    ·exact y10 e
   rw [qe nb];exact (hf b hb).1
  done:=by
   intro X hP hw hK hc i pins s σ H E I hf st hg
   subst hP hw hK
   obtain ⟨xs,ys,hq1,hn,hq2,hi⟩:=hg
   obtain ⟨its1,rv1,p1,hz1⟩:=I.list hq1
   have hn1:its1.toArray.size=n:=by rw [List.size_toArray,<- rv1.length];exact hn
   obtain ⟨its2,rv2,p2,hz2⟩:=I.seqA (b:=false) hq2
   obtain ⟨h1,h2,⟨a0,b0,h3⟩,h4,h5⟩:=st
   have hT:s.TypeIs (.ref z) "zip":=⟨_,h1,rfl⟩
   have hend:its1.toArray.reverse[i]? = none\/its2.toArray[i]? = none:=by
    have e1:=rv1.length
    have e2:=rv2.length
    rcases Nat.le_total xs.length ys.length with h | h
    ·exact .inl (by simp;omega)
    ·exact .inr (by simp;omega)
   unfold pyNext
   refine wpAny_bind (wpAny_attempt (wpAny_callSpecial?_slot (name:=Str.ofString "__next__") hT F.slot_zip_next (wpAny_call_entry F.slot_zip_next hT F.entry_zip_next
    (qd7 (I.ok.hd hc) (qco i1 l1 D.l1i1 n its1.toArray hn1) (srcA i2 l2 D.l2i2 its2.toArray false) D h1 h2 h3 ⟨h4,p1.isList⟩ ⟨h5,p2⟩ hend fun h' e kk he=>?_) (F.args_zip_next_1 _))))
   obtain ⟨oe,hoe,ce⟩:=he
   refine wpAny_bind (wpAny_isInstance (T:="StopIteration") (b:=true) ⟨oe,hoe,ce⟩ isSubtype_stop (wpAny_pure ⟨rfl,?_⟩))
   have kk':∀ b o,b ∉ [z,TO,i1,i2]->s.heap.get? b=some o->h'.get? b=some o:=fun b o hb e=>by
    have hb':b≠z/\b≠TO/\b≠i1/\b≠i2:=by simpa using hb
    exact kk b o hb'.1 hb'.2.1 hb'.2.2.1 hb'.2.2.2 e
   refine I.step (t':=s.toks) (g':=s.gens) (d':=s.drawn) (ch:=[z,TO,i1,i2]) (fun b hb=>?_) (fun b o _ _ hc e _=>kk' b o hc e) (fun b o _ _ hc e _=>⟨o.slots,kk' b o hc e⟩) (fun _ _ _ _ n=>n)
    (fun b o hc e=>⟨o,kk' b o hc e⟩) (fun _ _ e=>e) (fun _ _ _ e=>e) (fun b ps e=>⟨#[],by rw [e];simp⟩) (fun m hm=>?_) (fun b u e=>?_) I.bare
   ·obtain ⟨_,a1,_,a2,a3,a4⟩:=hf b (by simp at hb ⊢;rcases hb with e | e | e | e <;> simp [e])
    exact ⟨a2,a1,a3,a4⟩
   ·obtain ⟨o,es,ep,ho,r⟩:=hm
    exact ⟨o,es,ep,kk' _ o (fun q=>(hf _ (by simp at q ⊢;rcases q with e | e | e | e <;> simp [e])).2.1 rfl) ho,r⟩
   ·have nch:∀ b u,H b=some u->b ∉ [z,TO,i1,i2]:=fun b u e hb=>by
     rw [(hf b (by simp at hb ⊢;rcases hb with e | e | e | e <;> simp [e])).1] at e;cases e
    refine (I.hok b u e).stay (fun c v hc q=>kk' c v ?_ q) (fun _ q=>q) fun _ _ q=>q
    rcases hc with z' | z'
    ·rw [z'];exact nch b u e
    ·exact nch c _ z'
  self:=fun _ _ _ _ _ st h=>wpAny_pyIter_zip st.1 h }
end L2
namespace L2
open PySem PySem.Spec PyProof.Rows
abbrev yh1 (h:Heap) (l2:Addr):Heap:=h.push (itO l2 false)
abbrev yh2 (h:Heap) (r l2:Addr):Heap:=(yh1 h l2).push { cls:=.type "tuple",data:=.seq #[.ref r,.ref h.objs.size] }
abbrev yh3 (h:Heap) (r l2:Addr):Heap:=(yh2 h r l2).push { cls:=.type "tuple",data:=.seq #[.none,.none] }
abbrev yh4 (h:Heap) (r l2:Addr):Heap:=(yh3 h r l2).push { cls:=.type "zip",data:=.fields #[.none,.bool false,.bool false,.ref (yh1 h l2).objs.size,.ref (yh2 h r l2).objs.size] }
theorem qbk (r l1 l2:Addr) (k:Int) (ys:Array Value) :
  Meets (Builtin.«zip.__new__» ⟨[.type "zip",.ref r,.ref l2],[]⟩) (fun _ R s=>s.heap.IsRevIter r l1 k/\HasA s.heap l2 ys false/\R (.ok (.ret (.ref (yh3 s.heap r l2).objs.size))) { s with heap:=yh4 s.heap r l2 }) :=
 .of_wp fun prog w A R s h=>by
  obtain ⟨hp,g,d,tk,os⟩:=s
  obtain ⟨m1,m2,h⟩:=h
  have hsub:=sub_zip
  have n1:Heap.IsRevIter (Shared.heap ⟨hp,g,d,tk,os⟩) r l1 k:=m1
  have n2:HasA (Shared.heap ⟨hp,g,d,tk,os⟩) l2 ys false:=m2
  wp_walk using wpAny_pyIter_revIter n1,pyIterA n2
  exact ⟨_,rfl,h⟩
theorem qcr {P:Program} {w:World} {A:Around} {E:Value->Shared->Prop} {s:Shared} {r l1 l2:Addr} {k:Int} {ys:Array Value} {Q:Value->Shared->Prop} (m1:s.heap.IsRevIter r l1 k) (m2:HasA s.heap l2 ys false)
  (q : ∀ h',IsZip h' (s.heap.objs.size+3) (s.heap.objs.size+1) (s.heap.objs.size+2) .none->IsPair h' (s.heap.objs.size+1) (.ref r) (.ref s.heap.objs.size) ->
   IsPair h' (s.heap.objs.size+2) .none .none->ItA h' s.heap.objs.size l2 0 false->(∀ c o,s.heap.get? c=some o->h'.get? c=some o)->Q (.ref (s.heap.objs.size+3)) { s with heap:=h' }) :
  wpAny (model P w) A (call (.type "zip") [.ref r,.ref l2]) Q E s:=by
 refine callType_new F.called_zip (by decide) (F.typeCall_zip_2 _ _) (F.newCall_zip_2 _ _) (fun ob=>F.args_object_init_3 ob _ _) F.entry_zip_new (qbk r l1 l2 k ys) ⟨m1,m2,?_⟩
 have k1:(yh1 s.heap l2).objs.size=s.heap.objs.size+1:=Heap.size_push ..
 have k2:(yh2 s.heap r l2).objs.size=s.heap.objs.size+2:=by rw [Heap.size_push,k1]
 have k3:(yh3 s.heap r l2).objs.size=s.heap.objs.size+3:=by rw [Heap.size_push,k2]
 have t5:(yh4 s.heap r l2).get? (yh3 s.heap r l2).objs.size=some _:=Heap.get?_push_size _ rfl
 have t4:(yh4 s.heap r l2).get? (yh2 s.heap r l2).objs.size=some _:=Heap.get?_push_of_some _ (Heap.get?_push_size _ rfl)
 have t3:(yh4 s.heap r l2).get? (yh1 s.heap l2).objs.size=some _:=Heap.get?_push_of_some _ (Heap.get?_push_of_some _ (Heap.get?_push_size _ rfl))
 have fr:∀ b l,(itO l b).isFreed=false:=fun b l=>by cases b <;> rfl
 have t2:(yh4 s.heap r l2).get? s.heap.objs.size=some (itO l2 false):=Heap.get?_push_of_some _ (Heap.get?_push_of_some _ (Heap.get?_push_of_some _ (Heap.get?_push_size _ (fr _ _))))
 show _/\_
 rw [k1,k2,k3] at t5
 rw [k1] at t3
 rw [k2] at t4
 rw [k3]
 exact ⟨⟨_,t5,rfl⟩,q _ t5 t3 t4 (qim t2) fun c o e=>Heap.get?_push_of_some _ (Heap.get?_push_of_some _ (Heap.get?_push_of_some _ (Heap.get?_push_of_some _ e)))⟩
def iZipR (K:W.Frag) (ta tb:TA):TI:=fun σ H R=>ta σ H fun vs H1=>∃ a xs,vs=[.ref a]/\SqL K H1 a xs/\tb σ H1 fun us H2=>∃ b ys,us=[.ref b]/\SqL K H2 b ys/\SqL K H2 a xs/\R (ItzR K xs.length a b) H2
theorem qgi {X:Cx} {l l':Expr} {ta tb:TA} {elts:List Expr} {k:Nat} {tp p pr pos pos':Pos} (hg:Gl X "zip") (hm:X.mg "zip" = none) (hgr:Gl X "reversed") (hmr:X.mg "reversed" = none) (hl:PA X [l] ta) (hl':PA X [l'] tb)
  (hs:starEach [.Call (.Name "reversed" pr) [l] [] pos',l'] X.env=(false,eval (.Call (.Name "reversed" pr) [l] [] pos') X.env) :: starEach [l'] X.env:=by rfl) (hs2:starEach [l'] X.env=[(false,eval l' X.env)]:=by rfl) (hs3:starEach [l] X.env=[(false,eval l X.env)]:=by rfl) :
  PI X (.Tuple elts k tp) (.Call (.Name "zip" p) [.Call (.Name "reversed" pr) [l] [] pos',l'] [] pos) (iZipR X.K ta tb):=by
 intro pins s σ H R I h
 refine Call_ (ld_blt I hg hm (by first | exact boot_zip | decide +kernel) (PyProof.Rows.callWith_type1 ?_ hs (by rw [hs2];rfl)))
 rw [hs]
 show wpAny _ _ (spliced ((false,eval (.Call (.Name "reversed" pr) [l] [] pos') X.env) :: backTo pos (starEach [l'] X.env))) _ _ s
 refine Calls.spliced_cons ?_
 refine Call_ (ld_blt I hgr hmr (show bootBuiltins "reversed" = some (.type "reversed") by decide +kernel) (PyProof.Rows.callWith_type1 (thn (hl pos' pins s σ H _ I h) fun us s1 ⟨vs,H1,I1,r1,q1⟩=>?_) hs3 rfl))
 obtain ⟨a,xs,e,hq,q⟩:=q1
 subst e
 cases r1 with
 | cons r rr =>
  cases rr
  cases r
  obtain ⟨its,rv,pl,hz⟩:=I1.list hq
  refine call_reversed_list pl.isList ?_
  have e1:((its.toArray.size:Nat):Int) - 1=(xs.length:Int) - 1 - ((0:Nat):Int):=by rw [List.size_toArray,<- rv.length];simp
  rw [e1]
  have hf0:H1 s1.heap.objs.size=none:=I1.hok.fresh (Nat.le_refl _)
  have fp:=I1.fpOk (H':=H1) (Nat.le_refl _) hf0
  have I2:Inv X pins σ H1 { s1 with heap:=s1.heap.push (revObj a ((xs.length:Int) - 1 - ((0:Nat):Int))) }:=I1.kept (t':=s1.toks) fun b o e=>Heap.get?_push_of_some _ e
  have I3:Inv X ((s1.heap.objs.size,revObj a ((xs.length:Int) - 1 - ((0:Nat):Int))) :: pins) σ H1 { s1 with heap:=s1.heap.push (revObj a ((xs.length:Int) - 1 - ((0:Nat):Int))) }:=I2.pins_of fun p hp=>by
   rcases List.mem_cons.mp hp with rfl | hp
   ·exact ⟨Heap.get?_push_size _ rfl,hf0,fp.2.1,fp.2.2.1,fun v z=>by cases z⟩
   ·exact I2.pin p (List.mem_append_right _ hp)
  refine thn (hl' pos _ _ σ H1 _ I3 q) fun us s2 ⟨vs,H2,I4,r2,b,ys,e,hq2,hq3,q2⟩=>?_
  subst e
  cases r2 with
  | cons r rr =>
   cases rr
   cases r
   have hpin:=I4.pin (s1.heap.objs.size,revObj a ((xs.length:Int) - 1 - ((0:Nat):Int))) (List.mem_append_right _ List.mem_cons_self)
   have I5:Inv X pins σ H2 s2:=I4.pins_of fun p hp=>I4.pin p (List.mem_append_right _ (List.mem_cons_of_mem _ hp))
   have st:s2.heap.IsRevIter s1.heap.objs.size a ((xs.length:Int) - 1 - ((0:Nat):Int)):=⟨_,hpin.1,rfl,rfl⟩
   obtain ⟨its2,rv2,p2,hz2⟩:=I5.seqA (b:=false) hq2
   obtain ⟨its3,rv3,p3,hz3⟩:=I5.seqA (b:=false) hq3
   obtain ⟨oa,hoa,ca,_⟩:=p3.obj
   obtain ⟨ob,hob,cb,_⟩:=p2.obj
   have la:=Heap.lt_size hoa
   have lb:=Heap.lt_size hob
   have lr:=Heap.lt_size hpin.1
   have nar:a≠s1.heap.objs.size:=fun z=>by
    rw [z] at hoa
    rw [hpin.1] at hoa
    have hoa':=Option.some.inj hoa
    rw [<- hoa'] at ca
    rcases ca with ca | ca <;> (replace ca:Value.type "list_reverseiterator" = Value.type _:=ca;injection ca with ca;exact absurd ca (by decide))
   have nbr:b≠s1.heap.objs.size:=fun z=>by
    rw [z] at hob
    rw [hpin.1] at hob
    have hob':=Option.some.inj hob
    rw [<- hob'] at cb
    rcases cb with cb | cb <;> (replace cb:Value.type "list_reverseiterator" = Value.type _:=cb;injection cb with cb;exact absurd cb (by decide))
   refine qcr st p2 fun h' hz' hTI hTO hi2 kk=>?_
   have I6:Inv X pins σ H2 { s2 with heap:=h' }:=I5.kept (t':=s2.toks) kk
   refine wpAny_pyIter_zip (s:={ s2 with heap:=h' }) hz' ?_
   have nn:∀ {c:Addr} (j:Nat),c < s2.heap.objs.size->c≠s2.heap.objs.size+j:=fun j hc=>Nat.ne_of_lt (Nat.lt_of_lt_of_le hc (Nat.le_add_right _ _))
   have st':Heap.IsRevIter h' s1.heap.objs.size a ((xs.length:Int) - 1 - ((0:Nat):Int)):=st.at fun o e=>kk _ _ e
   refine ⟨s2.heap.objs.size+3,[s2.heap.objs.size+3,s2.heap.objs.size+1,s2.heap.objs.size+2,s1.heap.objs.size,s2.heap.objs.size],_,_,H2,rfl,I6,
    qcq xs.length a b _ _ _ _ _ (by simp) (by simp) (nn 3 lr) (by simp) (by simp) (nn 1 lr).symm (by simp) (nn 2 lr).symm (by simp) (nn 0 lr) (fun _=>trivial) ⟨nn 2 la,nn 3 la,nar,nn 0 la⟩ ⟨nn 2 lb,nn 3 lb,nbr,nn 0 lb⟩,⟨hz',hTI,⟨_,_,hTO⟩,st',hi2⟩,fun c hb=>?_,q2⟩
   have hb':c=s2.heap.objs.size+3\/c=s2.heap.objs.size+1\/c=s2.heap.objs.size+2\/c=s1.heap.objs.size\/c=s2.heap.objs.size:=by simpa using hb
   have fresh:s2.heap.objs.size<=c->FpOk X pins H2 c:=fun hc=>I5.fpOk hc (I5.hok.fresh hc)
   rcases hb' with e | e | e | e | e
   ·exact fresh (by rw [e];exact Nat.le_add_right _ _)
   ·exact fresh (by rw [e];exact Nat.le_add_right _ _)
   ·exact fresh (by rw [e];exact Nat.le_add_right _ _)
   ·rw [e];exact ⟨hpin.2.1,fp.2⟩
   ·exact fresh (by rw [e];exact Nat.le_refl _)
theorem qed {X:Cx} (K:W.Frag) {l l':Expr} {ta tb:TA} {elts:List Expr} {k:Nat} {tp p pr pos pos':Pos} (hg:Gl X "zip") (hm:X.mg "zip" = none) (hgr:Gl X "reversed") (hmr:X.mg "reversed" = none) (hl:PA X [l] ta) (hl':PA X [l'] tb)
  (hs:starEach [.Call (.Name "reversed" pr) [l] [] pos',l'] X.env=(false,eval (.Call (.Name "reversed" pr) [l] [] pos') X.env) :: starEach [l'] X.env:=by rfl) (hs2:starEach [l'] X.env=[(false,eval l' X.env)]:=by rfl) (hs3:starEach [l] X.env=[(false,eval l X.env)]:=by rfl) (hK:X.K=K:=by rfl) :
  PI X (.Tuple elts k tp) (.Call (.Name "zip" p) [.Call (.Name "reversed" pr) [l] [] pos',l'] [] pos) (iZipR K ta tb):=by subst hK;exact qgi hg hm hgr hmr hl hl' hs hs2 hs3
end L2
namespace L2
open PySem PySem.SeqAt PySem.Spec PyProof.Rows
end L2
namespace L2
open PySem PySem.Spec PyProof.Rows
end L2
namespace L2
open PySem PySem.Spec PyProof.Rows
structure Apart3 (z TI TO i1 i2 i3 l1 l2 l3:Addr):Prop where
 TIz:TI≠z
 TOz:TO≠z
 i1z:i1≠z
 i2z:i2≠z
 i3z:i3≠z
 TITO:TI≠TO
 TIi1:TI≠i1
 TIi2:TI≠i2
 TIi3:TI≠i3
 TOi1:TO≠i1
 TOi2:TO≠i2
 TOi3:TO≠i3
 i12:i1≠i2
 i13:i1≠i3
 i23:i2≠i3
 l1z:l1≠z
 l1TO:l1≠TO
 l1i1:l1≠i1
 l1i2:l1≠i2
 l1i3:l1≠i3
 l2z:l2≠z
 l2TO:l2≠TO
 l2i1:l2≠i1
 l2i2:l2≠i2
 l2i3:l2≠i3
 l3z:l3≠z
 l3TO:l3≠TO
 l3i1:l3≠i1
 l3i2:l3≠i2
 l3i3:l3≠i3
section
variable {P:Program} {w:World} {A:Around} {E:Value->Shared->Prop} {s:Shared} {z TI TO i1 i2 i3 l1 l2 l3:Addr} {xs ys zs:Array Value} {S1 S2 S3:Nat->Heap->Prop}
end
end L2
namespace L2
open PySem PySem.Spec PyProof.Rows
end L2
namespace L2
open PySem PySem.Spec PyProof.Rows
end L2
namespace L2
open PySem PySem.Spec PyProof.Rows PySem.SeqAt
end L2
namespace L2
open PySem PySem.Spec PyProof.Rows PySem.SeqAt
end L2
namespace L2
open PySem PySem.Spec PyProof.Rows
inductive VDec (K:W.Frag) (H:Hp):Nat->V->V->Bool->Prop where
 | flat {n:Nat} {x y:V} (hx:flatV x=true) (hy:flatV y=true):VDec K H n x y (eqV x y)
 | same {n:Nat} {a:Addr}:VDec K H n (.ref a) (.ref a) true
 | lt {n:Nat} {a b:Addr} {xs ys:List V} (ha:SqL K H a xs) (hb:SqT K H b ys):VDec K H n (.ref a) (.ref b) false
 | tup {n:Nat} {a b:Addr} {xs ys:List V} (e:Nat->Bool) (hne:a≠b) (ha:SqT K H a xs) (hb:SqT K H b ys) (h:∀ (i:Nat) x y,xs[i]? = some x->ys[i]? = some y->VDec K H n x y (e i)):VDec K H (n+1) (.ref a) (.ref b) ((List.range (min xs.length ys.length)).all e && xs.length == ys.length)
section
variable {X:Cx} {pins:List (Addr × Obj)} {σ:St} {H:Hp} {s:Shared}
theorem qcs {A:Around} {e:Nat->Bool} {xs ys:List V} {i1 i2:List Value} (r1:Vals xs i1) (r2:Vals ys i2) (ih:∀ (i:Nat) x y u v,xs[i]? = some x->ys[i]? = some y->RelV x u->RelV y v->SeqAt.EqAt A s u v (e i)) :
  ∀ j (h1:j < i1.toArray.size) (h2:j < i2.toArray.size),SeqAt.EqAt A s i1.toArray[j] i2.toArray[j] (e j):=fun j h1 h2=>by
 have l1:=r1.length
 have l2:=r2.length
 have h1':j < xs.length:=by simpa [l1] using h1
 have h2':j < ys.length:=by simpa [l2] using h2
 obtain ⟨u1,f1,g1⟩:=r1.get (List.getElem?_eq_getElem h1')
 obtain ⟨u2,f2,g2⟩:=r2.get (List.getElem?_eq_getElem h2')
 have k1:i1.toArray[j]=u1:=by
  have:=(List.getElem?_eq_some_iff.mp f1).2
  simpa using this
 have k2:i2.toArray[j]=u2:=by
  have:=(List.getElem?_eq_some_iff.mp f2).2
  simpa using this
 rw [k1,k2]
 exact ih j _ _ _ _ (List.getElem?_eq_getElem h1') (List.getElem?_eq_getElem h2') g1 g2
end
end L2
namespace L2
open PySem PySem.Spec PyProof.Rows
def rSortT (K:W.Frag):List V->Hp->VK->Prop:=fun xs H Q=>∃ (p:Addr) (b:Bool) (ss:List Str),xs=[.ref p]/\SqA K H p (ss.map V.str) b/\ss.length < 64 /\
 ∀ l (ss':List Str),H l=none->ss'.Perm ss->sortedS ss'=true->Q (.ref l) (upd H l (.lst (ss'.map V.str)))
theorem qbl {X:Cx}:CallR X (.builtin "sorted") (rSortT X.K):=by
 intro pins s σ H xs us Q I r h
 obtain ⟨p,b,ss,rfl,hS,h64,q⟩:=h
 obtain ⟨u,rfl,ru⟩:=vals1 r
 cases ru
 obtain ⟨its,rv,pA,hz⟩:=I.seqA hS
 have hST:StrsAre its ss:=zf rv
 have hil:its.length=ss.length:=by rw [<- rv.length,List.length_map]
 obtain ⟨T,o,hT',ho,hc,k,hd⟩:∃ T o,(T = "list"\/T = "tuple")/\s.heap.get? p=some o/\o.cls=.type T/\∃ k,o.data=.seq its.toArray k:=by
  cases b with
  | false =>
   obtain ⟨o,h1,h2,k,h3⟩:=(show s.heap.IsList p _ from pA)
   exact ⟨"list",o,.inl rfl,h1,h2,k,h3⟩
  | true =>
   obtain ⟨o,h1,h2,k,h3⟩:=(show IsTup s.heap p _ from pA)
   exact ⟨"tuple",o,.inr rfl,h1,h2,k,h3⟩
 have hbig:1000<=sizeLine:=by decide
 refine Calls.call_function_entry kind_sorted plain_sorted entry_sorted (args_sorted1 _) ?_
 unfold Builtin.«sorted»
 refine wpAny_bind (m:=checkCount "sorted" 1 1 _) (wpAny_pure ?_)
 refine wpAny_bind (wpAny_collect_seq p hT' ho hc hd (fun h' hkp=>?_) (by simp;omega))
 refine wpAny_bind (wpAny_newList ?_ (by simp;omega))
 have hoL:(h'.push { cls:=.type "list",data:=.seq its.toArray.toList.toArray }).get? h'.objs.size=some (seqObj "list" its.toArray 0):=Heap.get?_push_size _ rfl
 refine wpAny_bind (wpAny_holding (wpAny_call_entry slot_list_sort ⟨_,hoL,rfl⟩ entry_list_sort (list_sort_treeK strKind_oneLt hoL hST.keysOf (fun v₁ v₂ rest e=>keyKind_strs (by rw [<- e];exact hST)) (by rw [hil];exact h64) fun st' a1 a2=>⟨_,rfl,?_⟩) (args_list_sort _)))
 obtain ⟨ss',b1,b2,b3⟩:=sorted_out_str hST a1 a2
 refine wpAny_pure ⟨_,rfl,?_⟩
 have keep:∀ b o,s.heap.get? b=some o->(sortedHeap (h'.push { cls:=.type "list",data:=.seq its.toArray.toList.toArray }) h'.objs.size its ((arrOf st').map (·.2))).get? b=some o/\b≠h'.objs.size:=fun b o e=>by
  have e1:=hkp b o e
  have lt:=Heap.lt_size e1
  refine ⟨?_,Nat.ne_of_lt lt⟩
  rw [sortedHeap_old (Nat.ne_of_lt lt) (by rw [Heap.size_push];exact Nat.lt_succ_of_lt lt)]
  exact Heap.get?_push_of_some _ e1
 have hn:H h'.objs.size=none:=by
  cases e:H h'.objs.size with
  | none=>rfl
  | some o =>
   obtain ⟨ob,e1⟩:=(I.hok _ _ e).there
   exact absurd (Heap.lt_size (hkp _ _ e1)) (Nat.lt_irrefl _)
 obtain ⟨n',hat'⟩:∃ n',(sortedHeap (h'.push { cls:=.type "list",data:=.seq its.toArray.toList.toArray }) h'.objs.size its ((arrOf st').map (·.2))).get? h'.objs.size=some (seqObj "list" ((arrOf st').map (·.2)) n'):=sortedHeap_at hoL
 have hsl:ss'.length<=sizeLine:=by
  have h1:=b2.length_eq
  rw [h1];omega
 refine ⟨.ref h'.objs.size,upd H h'.objs.size (.lst (ss'.map V.str)),?_,rfl,q _ _ hn b2 b3⟩
 have J:=Inv.laid2 (X:=X) (t':=s.toks) (o:=.lst (ss'.map V.str)) I keep hn ⟨by rw [List.length_map];exact hsl,((arrOf st').map (·.2)).toList,n',Jr b1,by rw [hat']⟩
 exact J
theorem Ju {X:Cx} (K:W.Frag) (hK:X.K=K:=by rfl):CallR X (.builtin "sorted") (rSortT K):=by subst hK;exact qbl
end L2
namespace L2
open PySem PySem.Spec PyProof.Rows
structure ZipA (z TI TO i1 i2 l1 l2:Addr):Prop where
 TIz:TI≠z
 TOz:TO≠z
 i1z:i1≠z
 i2z:i2≠z
 TITO:TI≠TO
 TIi1:TI≠i1
 TIi2:TI≠i2
 TOi1:TO≠i1
 TOi2:TO≠i2
 i12:i1≠i2
 l1z:l1≠z
 l1TO:l1≠TO
 l1i2:l1≠i2
 l2z:l2≠z
 l2TO:l2≠TO
 l2i1:l2≠i1
structure SrcG (P:Program) (w:World) (it sq:Addr) (n:Nat) (Pv:Nat->Value->Prop) (St:Nat->Heap->Prop):Prop where
 keep:∀ k h h',St k h->(∀ b,b=it\/b=sq->∀ o,h.get? b=some o->h'.get? b=some o)->St k h'
 obj:∀ k h,St k h->∃ o vs,h.get? it=some o/\o.data=.fields vs
 item:∀ (A:Around) (E:Value->Shared->Prop) (k:Nat) (s:Shared) (Q:Value->Shared->Prop),St k s.heap->k < n ->
  (∀ x h' tk,Pv k x->St (k+1) h'->Heap.SameBut it s.heap h'->s.toks<=tk->Q x { s with heap:=h',toks:=tk })->wpAny (model P w) A (Builtin.SmallTypes.nextOf (.ref it)) Q E s
 fin:∀ (A:Around) (E:Value->Shared->Prop) (k:Nat) (s:Shared) (Q:Value->Shared->Prop),A.handled=none->St k s.heap->k=n ->
  (∀ h' e,Heap.ExtBut it s.heap h'->(∃ o,h'.get? e=some o/\o.cls=.type "StopIteration")->E (.ref e) { s with heap:=h' })->wpAny (model P w) A (Builtin.SmallTypes.nextOf (.ref it)) Q E s
theorem SrcG.off {P:Program} {w:World} {it sq:Addr} {n:Nat} {Pv:Nat->Value->Prop} {St:Nat->Heap->Prop} (S:SrcG P w it sq n Pv St) {k:Nat} {h h':Heap} {b:Addr} (st:St k h) (e:Heap.ExtBut b h h') (n1:it≠b) (n2:sq≠b):St k h' :=
 S.keep k h h' st fun c hc o ho=>e c o (by rcases hc with z | z <;> rw [z] <;> assumption) ho
theorem Src.g {P:Program} {w:World} {it sq:Addr} {xs:Array Value} {St:Nat->Heap->Prop} (S:Src P w it sq xs St):SrcG P w it sq xs.size (fun k v=>xs[k]? = some v) St where
 keep:=S.keep
 obj:=S.obj
 item:=fun A E k s Q st hk q=>S.item A E k s xs[k] Q st (by simp [hk]) fun h' st' u=>q _ h' s.toks (by simp [hk]) st' u (Nat.le_refl _)
 fin:=fun A E k s Q hA st hk q=>S.fin A E k s Q hA st (by rw [hk];simp) q
theorem V6 {P:Program} {w:World} (it:Addr) (x:Str) (t:Tok):SrcG P w it it x.cps.size (fun k v=>∃ c u,x.cps[k]? = some c/\v=.str ⟨#[c]⟩ u) (fun k h=>h.IsStrIter it (strIterType x) x t k) where
 keep:=fun k h h' st e=>by
  obtain ⟨o,ho,r⟩:=st
  exact ⟨o,e it (.inl rfl) o ho,r⟩
 obj:=fun k h st=>by
  obtain ⟨o,ho,_,d⟩:=st
  exact ⟨o,_,ho,d⟩
 item:=fun A E k s Q st hk q=>by
  revert st q
  unfold strIterType
  split
  ·intro st q
   exact wpAny_nextOf_ascii_item st (c:=x.cps[k]) (by simp [hk]) fun h' st' u=>q _ h' _ ⟨_,_,by simp [hk],rfl⟩ st' u (Nat.le_succ _)
  ·intro st q
   exact wpAny_nextOf_wide_item st (c:=x.cps[k]) (by simp [hk]) fun h' st' u=>q _ h' _ ⟨_,_,by simp [hk],rfl⟩ st' u (Nat.le_succ _)
 fin:=fun A E k s Q hA st hk q=>by
  revert st q
  unfold strIterType
  split
  ·intro st q
   exact wpAny_nextOf_ascii_end hA st (by rw [hk];simp) q
  ·intro st q
   exact wpAny_nextOf_wide_end hA st (by rw [hk];simp) q
section
variable {P:Program} {w:World} {A:Around} {E:Value->Shared->Prop} {s:Shared} {z TI TO i1 i2 l1 l2:Addr} {n1 n2:Nat} {P1 P2:Nat->Value->Prop} {S1 S2:Nat->Heap->Prop}
end
abbrev sO (x:Str) (t:Tok):Obj:={ cls:=.type (strIterType x),data:=.fields #[.str x t,.int 0 0] }
end L2
namespace L2
open PySem PySem.Spec PyProof.Rows
def oneS (x:Str):List Str:=x.cps.toList.map fun c=>⟨#[c]⟩
end L2
namespace L2
open PySem PySem.Spec PyProof.Rows
theorem vi {M:Model} {A:Around} {E:Value->Shared->Prop} {s:Shared} {a:Addr} {Q:Option Obj->Shared->Prop} (h:Q (s.heap.get? a) s):wpAny M A (loadIfAlive a) Q E s:=fun _ _ _=>h
def IsZipP (h:Heap) (z TI TO T:Addr) (f:Bool):Prop:=h.get? z=some { cls:=.type "zip",dict:=none,data:=.fields #[rawInt T,.bool f,.bool false,.ref TI,.ref TO],slots:=#[] }
section
variable {P:Program} {w:World} {A:Around} {E:Value->Shared->Prop} {s:Shared} {z TI TO i1 i2 l1 l2:Addr} {n1 n2:Nat} {P1 P2:Nat->Value->Prop} {S1 S2:Nat->Heap->Prop}
theorem Z3 {T0:Addr} {f0:Bool} {o0:Obj} {Q:Bool->Shared->Prop} (hz:IsZipP s.heap z TI TO T0 f0) (hT0:s.heap.get? T0=some o0) (q:∀ h',IsZipP h' z TI TO T0 true->Heap.SameBut z s.heap h'->Q false { s with heap:=h' }):wpAny (model P w) A (Builtin.SmallTypes.ownedTupleIsFree (.ref z)) Q E s:=by
 unfold Builtin.SmallTypes.ownedTupleIsFree
 refine wpAny_bind (wpAny_field hz rfl (x:=rawInt T0) rfl ?_)
 show wpAny _ _ (loadIfAlive (Int.toNat (T0:Int)) >>= _) _ _ _
 refine wpAny_bind (vi ?_)
 rw [Int.toNat_natCast,hT0]
 rw [if_neg (by simp)]
 show wpAny _ _ (field (.ref z) 1 >>= _) _ _ _
 refine wpAny_bind (wpAny_field hz rfl (x:=.bool f0) rfl ?_)
 cases f0 with
 | true =>
  rw [if_neg (by decide)]
  refine wpAny_pure ?_
  exact q s.heap hz (Heap.SameBut.refl _ _)
 | false =>
  rw [if_pos (by decide)]
  exact wpAny_bind (wpAny_setField_rec hz (by simp) fun g1 hz1 u1=>wpAny_pure (q g1 hz1 u1))
theorem qct {k:Nat} {T0:Addr} {f0:Bool} {o0:Obj} {Q:Value->Shared->Prop} (c1:SrcG P w i1 l1 n1 P1 S1) (c2:SrcG P w i2 l2 n2 P2 S2) (D:ZipA z TI TO i1 i2 l1 l2) (hz:IsZipP s.heap z TI TO T0 f0) (hT0:s.heap.get? T0=some o0) (hTI:IsPair s.heap TI (.ref i1) (.ref i2))
  (st1:S1 k s.heap) (st2:S2 k s.heap) (hx:k < n1) (hy:k < n2)
  (q : ∀ (x y:Value) (h':Heap) (T:Addr) (tk:Nat),P1 k x->P2 k y->s.toks<=tk->IsZipP h' z TI TO T0 true->S1 (k+1) h'->S2 (k+1) h'->IsPair h' T x y->s.heap.objs.size<=T ->
   (∀ c o,c≠z->c≠i1->c≠i2->s.heap.get? c=some o->h'.get? c=some o)->Q (.ref T) { s with heap:=h',toks:=tk }) :
  wpAny (model P w) A (Builtin.«zip.__next__» ⟨[.ref z],[]⟩) (fun fn s'=>∃ v,fn=.done (.ret v)/\Q v s') E s:=by
 show wpAny _ _ (field (.ref z) 2 >>= _) _ _ _
 refine wpAny_bind (wpAny_field hz rfl (x:=.bool false) rfl ?_)
 show wpAny _ _ (field (.ref z) 3 >>= _) _ _ _
 refine wpAny_bind (wpAny_field hz rfl (x:=.ref TI) rfl (wpAny_bind (wpAny_seqItems hTI rfl ?_)))
 show wpAny _ _ (Builtin.SmallTypes.ownedTupleIsFree (.ref z) >>= _) _ _ _
 refine wpAny_bind (Z3 hz hT0 fun g1 hz1 u1=>?_)
 rw [if_neg (by decide)]
 have a1:=c1.off st1 u1.extBut D.i1z D.l1z
 have a2:=c2.off st2 u1.extBut D.i2z D.l2z
 simp only [List.forIn_toArray,List.forIn_cons,List.forIn_nil]
 refine wpAny_bind (wpAny_bind (wpAny_bind (wpAny_holding ?_)))
 show wpAny _ _ (Builtin.SmallTypes.nextOf (.ref i1) >>= _) _ _ _
 refine wpAny_bind (c1.item _ _ k { s with heap:=g1 } _ a1 hx fun x g2 t2 px b1 u2 ht2=>wpAny_pure (wpAny_pure ?_))
 have b2:=c2.off a2 u2.extBut D.i12.symm D.l2i1
 refine wpAny_bind (wpAny_bind (wpAny_holding ?_))
 show wpAny _ _ (Builtin.SmallTypes.nextOf (.ref i2) >>= _) _ _ _
 refine wpAny_bind (c2.item _ _ k { s with heap:=g2,toks:=t2 } _ b2 hy fun y g3 t3 py d2 u3 ht3=>wpAny_pure (wpAny_pure (wpAny_pure ?_)))
 have d1:=c1.off b1 u3.extBut D.i12 D.l1i2
 show wpAny _ _ (newTuple [x,y] >>= _) _ _ _
 refine wpAny_bind (wpAny_newTuple ?_)
 have sz:g3.objs.size=s.heap.objs.size:=by rw [u3.1,u2.1,u1.1]
 have hz3:IsZipP g3 z TI TO T0 true:=u3.extBut _ _ D.i2z.symm (u2.extBut _ _ D.i1z.symm hz1)
 refine wpAny_pure ⟨_,rfl,q x y (g3.push { cls:=.type "tuple",data:=.seq #[x,y] }) g3.objs.size t3 px py (Nat.le_trans ht2 ht3) (Heap.get?_push_of_some _ hz3) ?_ ?_ (Heap.get?_push_size _ rfl) (Nat.le_of_eq sz.symm) fun c o n1 n3 n4 e=>Heap.get?_push_of_some _ (u3.extBut _ _ n4 (u2.extBut _ _ n3 (u1.extBut _ _ n1 e)))⟩
 ·exact c1.keep _ _ _ d1 fun c hc o ho=>Heap.get?_push_of_some _ ho
 ·exact c2.keep _ _ _ d2 fun c hc o ho=>Heap.get?_push_of_some _ ho
theorem qee {k:Nat} {T0:Addr} {f0:Bool} {o0:Obj} {Q:Fin->Shared->Prop} (hA:A.handled=none) (c1:SrcG P w i1 l1 n1 P1 S1) (c2:SrcG P w i2 l2 n2 P2 S2) (D:ZipA z TI TO i1 i2 l1 l2) (hz:IsZipP s.heap z TI TO T0 f0) (hT0:s.heap.get? T0=some o0) (hTI:IsPair s.heap TI (.ref i1) (.ref i2))
  (st1:S1 k s.heap) (st2:S2 k s.heap) (hn:k=n1\/(k < n1/\k=n2))
  (q:∀ h' e tk,s.toks<=tk->(∀ c o,c≠z->c≠i1->c≠i2->s.heap.get? c=some o->h'.get? c=some o)->(∃ o,h'.get? e=some o/\o.cls=.type "StopIteration")->E (.ref e) { s with heap:=h',toks:=tk }) :
  wpAny (model P w) A (Builtin.«zip.__next__» ⟨[.ref z],[]⟩) Q E s:=by
 show wpAny _ _ (field (.ref z) 2 >>= _) _ _ _
 refine wpAny_bind (wpAny_field hz rfl (x:=.bool false) rfl ?_)
 show wpAny _ _ (field (.ref z) 3 >>= _) _ _ _
 refine wpAny_bind (wpAny_field hz rfl (x:=.ref TI) rfl (wpAny_bind (wpAny_seqItems hTI rfl ?_)))
 show wpAny _ _ (Builtin.SmallTypes.ownedTupleIsFree (.ref z) >>= _) _ _ _
 refine wpAny_bind (Z3 hz hT0 fun g1 hz1 u1=>?_)
 rw [if_neg (by decide)]
 have a1:=c1.off st1 u1.extBut D.i1z D.l1z
 have a2:=c2.off st2 u1.extBut D.i2z D.l2z
 simp only [List.forIn_toArray,List.forIn_cons,List.forIn_nil]
 refine wpAny_bind (wpAny_bind (wpAny_bind (wpAny_holding ?_)))
 show wpAny _ _ (Builtin.SmallTypes.nextOf (.ref i1) >>= _) _ _ _
 rcases hn with hx | ⟨hx,hy⟩
 ·exact wpAny_bind (c1.fin _ _ k { s with heap:=g1 } _ hA a1 hx fun g2 e u2 he=>q g2 e s.toks (Nat.le_refl _) (fun c o n1 n3 _ ho=>u2 _ _ n3 (u1.extBut _ _ n1 ho)) he)
 ·refine wpAny_bind (c1.item _ _ k { s with heap:=g1 } _ a1 hx fun x g2 t2 px b1 u2 ht2=>wpAny_pure (wpAny_pure ?_))
  have b2:=c2.off a2 u2.extBut D.i12.symm D.l2i1
  refine wpAny_bind (wpAny_bind (wpAny_holding ?_))
  show wpAny _ _ (Builtin.SmallTypes.nextOf (.ref i2) >>= _) _ _ _
  exact wpAny_bind (c2.fin _ _ k { s with heap:=g2,toks:=t2 } _ hA b2 hy fun g4 e u4 he=>q g4 e t2 ht2 (fun c o n1 n3 n4 ho=>u4 _ _ n4 (u2.extBut _ _ n3 (u1.extBut _ _ n1 ho))) he)
end
structure ZSt (S1 S2:Nat->Heap->Prop) (d z TI TO i1 i2:Addr) (k:Nat) (h:Heap):Prop where
 ti:IsPair h TI (.ref i1) (.ref i2)
 to_:∃ a b,IsPair h TO a b
 s1:S1 k h
 s2:S2 k h
 zz:IsZip h z TI TO .none\/∃ T f o,IsZipP h z TI TO T f/\h.get? T=some o/\T≠d/\T≠z/\T≠i1/\T≠i2
section
variable {P:Program} {w:World} {A:Around} {E:Value->Shared->Prop} {s:Shared} {d z TI TO i1 i2 l1 l2:Addr} {n1 n2:Nat} {P1 P2:Nat->Value->Prop} {S1 S2:Nat->Heap->Prop}
theorem ZSt.type {k:Nat} (st:ZSt S1 S2 d z TI TO i1 i2 k s.heap):s.TypeIs (.ref z) "zip":=by
 rcases st.zz with h | ⟨T,f,o,h,_⟩
 ·exact ⟨_,h,rfl⟩
 ·exact ⟨_,h,rfl⟩
end
end L2
namespace L2
open PySem PySem.Spec PyProof.Rows
theorem ZSt.keep {P:Program} {w:World} {d z TI TO i1 i2 l1 l2:Addr} {n1 n2 k:Nat} {P1 P2:Nat->Value->Prop} {S1 S2:Nat->Heap->Prop} {h h':Heap} (c1:SrcG P w i1 l1 n1 P1 S1) (c2:SrcG P w i2 l2 n2 P2 S2)
  (hd:d≠z/\d≠TI/\d≠TO/\d≠i1/\d≠i2/\d≠l1/\d≠l2) (st:ZSt S1 S2 d z TI TO i1 i2 k h) (e:∀ c o,c≠d->h.get? c=some o->h'.get? c=some o):ZSt S1 S2 d z TI TO i1 i2 k h':=by
 obtain ⟨ti,⟨a0,b0,to_⟩,s1,s2,zz⟩:=st
 obtain ⟨d1,d2,d3,d4,d5,d6,d7⟩:=hd
 refine ⟨e _ _ d2.symm ti,⟨_,_,e _ _ d3.symm to_⟩,c1.keep _ _ _ s1 fun b hb o ho=>e b o ?_ ho,c2.keep _ _ _ s2 fun b hb o ho=>e b o ?_ ho,?_⟩
 ·rcases hb with z | z <;> rw [z]
  ·exact d4.symm
  ·exact d6.symm
 ·rcases hb with z | z <;> rw [z]
  ·exact d5.symm
  ·exact d7.symm
 ·rcases zz with hz | ⟨T0,f0,o0,hz,hT0,n0,r⟩
  ·exact .inl (e _ _ d1.symm hz)
  ·exact .inr ⟨T0,f0,o0,e _ _ d1.symm hz,e _ _ n0 hT0,n0,r⟩
end L2
namespace L2
open PySem PySem.Spec PyProof.Rows
abbrev zs1 (h:Heap) (x:Str) (t:Tok):Heap:=h.push (sO x t)
abbrev zs2 (h:Heap) (x y:Str) (t u:Tok):Heap:=(zs1 h x t).push (sO y u)
abbrev zs3 (h:Heap) (x y:Str) (t u:Tok):Heap:=(zs2 h x y t u).push { cls:=.type "tuple",data:=.seq #[.ref h.objs.size,.ref (zs1 h x t).objs.size] }
abbrev zs4 (h:Heap) (x y:Str) (t u:Tok):Heap:=(zs3 h x y t u).push { cls:=.type "tuple",data:=.seq #[.none,.none] }
abbrev zs5 (h:Heap) (x y:Str) (t u:Tok):Heap:=(zs4 h x y t u).push { cls:=.type "zip",data:=.fields #[.none,.bool false,.bool false,.ref (zs2 h x y t u).objs.size,.ref (zs3 h x y t u).objs.size] }
theorem Yp (x y:Str) (t u:Tok) :
  Meets (Builtin.«zip.__new__» ⟨[.type "zip",.str x t,.str y u],[]⟩) (fun _ R s=>R (.ok (.ret (.ref (zs4 s.heap x y t u).objs.size))) { s with heap:=zs5 s.heap x y t u }) :=
 .of_wp fun prog w A R s h=>by
  obtain ⟨hp,g,d,tk,os⟩:=s
  have hsub:=sub_zip
  wp_walk using wpAny_pyIter_strU
  exact ⟨_,rfl,h⟩
theorem qbm {P:Program} {w:World} {A:Around} {E:Value->Shared->Prop} {s:Shared} {x y:Str} {t u:Tok} {Q:Value->Shared->Prop}
  (q : ∀ h',IsZip h' (s.heap.objs.size+4) (s.heap.objs.size+2) (s.heap.objs.size+3) .none->IsPair h' (s.heap.objs.size+2) (.ref s.heap.objs.size) (.ref (s.heap.objs.size+1)) ->
   IsPair h' (s.heap.objs.size+3) .none .none->h'.IsStrIter s.heap.objs.size (strIterType x) x t 0->h'.IsStrIter (s.heap.objs.size+1) (strIterType y) y u 0->h'.objs.size=s.heap.objs.size+5->(∀ c o,s.heap.get? c=some o->h'.get? c=some o)->Q (.ref (s.heap.objs.size+4)) { s with heap:=h' }) :
  wpAny (model P w) A (call (.type "zip") [.str x t,.str y u]) Q E s:=by
 refine callType_new F.called_zip (by decide) (F.typeCall_zip_2 _ _) (F.newCall_zip_2 _ _) (fun ob=>F.args_object_init_3 ob _ _) F.entry_zip_new (Yp x y t u) ?_
 have k1:(zs1 s.heap x t).objs.size=s.heap.objs.size+1:=Heap.size_push ..
 have k2:(zs2 s.heap x y t u).objs.size=s.heap.objs.size+2:=by rw [Heap.size_push,k1]
 have k3:(zs3 s.heap x y t u).objs.size=s.heap.objs.size+3:=by rw [Heap.size_push,k2]
 have k4:(zs4 s.heap x y t u).objs.size=s.heap.objs.size+4:=by rw [Heap.size_push,k3]
 have k5:(zs5 s.heap x y t u).objs.size=s.heap.objs.size+5:=by rw [Heap.size_push,k4]
 have t5:(zs5 s.heap x y t u).get? (zs4 s.heap x y t u).objs.size=some _:=Heap.get?_push_size _ rfl
 have t4:(zs5 s.heap x y t u).get? (zs3 s.heap x y t u).objs.size=some _:=Heap.get?_push_of_some _ (Heap.get?_push_size _ rfl)
 have t3:(zs5 s.heap x y t u).get? (zs2 s.heap x y t u).objs.size=some _:=Heap.get?_push_of_some _ (Heap.get?_push_of_some _ (Heap.get?_push_size _ rfl))
 have t2:(zs5 s.heap x y t u).get? (zs1 s.heap x t).objs.size=some (sO y u):=Heap.get?_push_of_some _ (Heap.get?_push_of_some _ (Heap.get?_push_of_some _ (Heap.get?_push_size _ rfl)))
 have t1:(zs5 s.heap x y t u).get? s.heap.objs.size=some (sO x t):=Heap.get?_push_of_some _ (Heap.get?_push_of_some _ (Heap.get?_push_of_some _ (Heap.get?_push_of_some _ (Heap.get?_push_size _ rfl))))
 show _/\_
 rw [k2,k3,k4] at t5
 rw [k1,k2] at t3
 rw [k3] at t4
 rw [k1] at t2
 rw [k4]
 exact ⟨⟨_,t5,rfl⟩,q _ t5 t3 t4 ⟨_,t1,rfl,rfl⟩ ⟨_,t2,rfl,rfl⟩ k5 fun c o e=>Heap.get?_push_of_some _ (Heap.get?_push_of_some _ (Heap.get?_push_of_some _ (Heap.get?_push_of_some _ (Heap.get?_push_of_some _ e))))⟩
end L2
namespace L2
open PySem PySem.Spec PyProof.Rows PySem.W
end L2
namespace L2
open PySem PySem.Spec PyProof.Rows
end L2
namespace L2
open PySem PySem.Spec PyProof.Rows
end L2
namespace L2
open PySem PySem.Spec PyProof.Rows
def rSortS:List V->Hp->VK->Prop:=fun xs H Q=>∃ z:Str,xs=[.str z]/\z.length < 64/\∀ l ss',H l=none->ss'.Perm (oneS z)->sortedS ss'=true->Q (.ref l) (upd H l (.lst (ss'.map V.str)))
theorem Vl {X:Cx} (hc:X.calm=true):CallR X (.builtin "sorted") rSortS:=by
 intro pins s σ H xs us Q I r h
 obtain ⟨z,rfl,h64,q⟩:=h
 obtain ⟨u,rfl,t,rfl⟩:=vals1 r
 have hz:z.cps.size < 64:=h64
 have hzl:z.cps.size<=sizeLine:=Nat.le_of_lt (Nat.lt_of_lt_of_le hz (by decide))
 refine Calls.call_function_entry kind_sorted plain_sorted entry_sorted (args_sorted1 _) ?_
 unfold Builtin.«sorted»
 refine wpAny_bind (m:=checkCount "sorted" 1 1 _) (wpAny_pure ?_)
 refine wpAny_bind (wpAny_collect_str (A:=X.A.in1) (I.ok.hd hc) z t (fun s' acc hkp g1 g2 g3 hacc=>?_) hzl)
 obtain ⟨h',gn,dr,tk,os'⟩:=s'
 obtain rfl:gn=s.gens:=g1
 obtain rfl:dr=s.drawn:=g2
 obtain rfl:os'=s.os:=g3
 have hal:acc.toList.length=z.cps.size:=by rw [Array.length_toList];exact hacc.1
 have hS:StrsAre acc.toList (oneS z):=by
  refine zf (V2 (by rw [List.length_map,hal];unfold oneS;rw [List.length_map,Array.length_toList]) fun i x u e1 e2=>?_)
  obtain ⟨c,t',e3,rfl⟩:=hacc.2 i u (by rw [<- Array.getElem?_toList];exact e2)
  unfold oneS at e1
  rw [List.getElem?_map,List.getElem?_map,Array.getElem?_toList,e3] at e1
  cases e1
  exact ⟨t',rfl⟩
 refine wpAny_bind (wpAny_newList ?_ (by rw [hal];exact hzl))
 have hoL:(h'.push { cls:=.type "list",data:=.seq acc.toList.toArray }).get? h'.objs.size=some (seqObj "list" acc.toList.toArray 0):=Heap.get?_push_size _ rfl
 refine wpAny_bind (wpAny_holding (wpAny_call_entry slot_list_sort ⟨_,hoL,rfl⟩ entry_list_sort (list_sort_treeK strKind_oneLt hoL hS.keysOf (fun v₁ v₂ rest e=>keyKind_strs (by rw [<- e];exact hS)) (by rw [hal];exact hz) fun st' a1 a2=>⟨_,rfl,?_⟩) (args_list_sort _)))
 obtain ⟨ss',b1,b2,b3⟩:=sorted_out_str hS a1 a2
 refine wpAny_pure ⟨_,rfl,?_⟩
 have keep:∀ b o,s.heap.get? b=some o->(sortedHeap (h'.push { cls:=.type "list",data:=.seq acc.toList.toArray }) h'.objs.size acc.toList ((arrOf st').map (·.2))).get? b=some o/\b≠h'.objs.size:=fun b o e=>by
  have e1:=hkp b o e
  have lt:=Heap.lt_size e1
  refine ⟨?_,Nat.ne_of_lt lt⟩
  rw [sortedHeap_old (Nat.ne_of_lt lt) (by rw [Heap.size_push];exact Nat.lt_succ_of_lt lt)]
  exact Heap.get?_push_of_some _ e1
 have hn:H h'.objs.size=none:=by
  cases e:H h'.objs.size with
  | none=>rfl
  | some o =>
   obtain ⟨ob,e1⟩:=(I.hok _ _ e).there
   exact absurd (Heap.lt_size (hkp _ _ e1)) (Nat.lt_irrefl _)
 obtain ⟨n',hat'⟩:∃ n',(sortedHeap (h'.push { cls:=.type "list",data:=.seq acc.toList.toArray }) h'.objs.size acc.toList ((arrOf st').map (·.2))).get? h'.objs.size=some (seqObj "list" ((arrOf st').map (·.2)) n'):=sortedHeap_at hoL
 have hsl:ss'.length<=sizeLine:=by
  rw [b2.length_eq]
  unfold oneS
  rw [List.length_map,Array.length_toList]
  exact hzl
 refine ⟨.ref h'.objs.size,upd H h'.objs.size (.lst (ss'.map V.str)),?_,rfl,q _ _ hn b2 b3⟩
 have J:=Inv.laid2 (X:=X) (t':=tk) (o:=.lst (ss'.map V.str)) I keep hn ⟨by rw [List.length_map];exact hsl,((arrOf st').map (·.2)).toList,n',Jr b1,by rw [hat']⟩
 exact J
end L2
namespace PySem
end PySem
namespace L2
open PySem PySem.Spec PyProof.Rows
def byT (w:World):Bool:=w.params.followText "set-order"
abbrev hT (P:Program) (w:World) (z:Str):Int:=(mixKind P w).hash (Sum.inr z:Key)
abbrev eT (P:Program) (w:World) (p:Str × Tok):Int × Value:=(hT P w p.1,.str p.1 p.2)
structure SetTx (P:Program) (w:World) (h:Heap) (a:Addr) (ss:List Str):Prop where
 ex:∃ (o:Obj) (es:Array (Int × Value)) (ep:Nat) (t:SetTable) (ts:List (Str × Tok)),h.get? a=some o/\o.ExactSet/\o.data=.set es ep t/\es.toList=ts.map (eT P w)/\(ts.map (·.1)).Nodup/\(∀ z,z∈ts.map (·.1) ↔ z∈ss)/\ts.length<=ss.length/\t.fits es.size=true/\(byT w=true\/t.led=true)/\(es.size=0\/t.plain=false)
theorem SetTx.keep {P:Program} {w:World} {h h':Heap} {a:Addr} {ss:List Str} (x:SetTx P w h a ss) (k:∀ o,h.get? a=some o->h'.get? a=some o):SetTx P w h' a ss:=by
 obtain ⟨o,es,ep,t,ts,h1,r⟩:=x.ex
 exact ⟨o,es,ep,t,ts,k o h1,r⟩
section
variable {P:Program} {w:World} {A:Around} {E:Value->Shared->Prop} {s:Shared}
end
end L2
namespace L2
open PySem PySem.Spec PyProof.Rows
section
variable {P:Program} {w:World} {A:Around} {E:Value->Shared->Prop} {s:Shared}
end
end L2
namespace PySem
namespace F
end F
theorem erase_perm {α:Type}:∀ (xs:List α) (i:Nat) (h:i < xs.length),(xs[i] :: xs.eraseIdx i).Perm xs
 | [],_,h=>by simp at h
 | x :: xs,0,_=>.refl _
 | x :: xs,i+1,h=>by
  have h':i < xs.length:=by simpa using h
  have ih:=erase_perm xs i h'
  show (xs[i] :: x :: xs.eraseIdx i).Perm (x :: xs)
  exact (List.Perm.swap x xs[i] _).trans (ih.cons x)
def IsSI (h:Heap) (I:Addr) (f0:Value) (i:Nat) (a:Addr) (n ep:Nat):Prop:=∃ o,h.get? I=some o/\o.cls=.type "set_iterator"/\o.data=.fields #[f0,rawInt (i:Int),.ref a,rawInt (n:Int),rawInt (ep:Int)]
def SetIs (h:Heap) (a:Addr) (es:Array (Int × Value)) (ep:Nat) (t:SetTable):Prop:=∃ o,h.get? a=some o/\o.cls=.type "set"/\o.data=.set es ep t
section
variable {P:Program} {w:World} {A:Around} {E:Value->Shared->Prop} {s:Shared}
theorem IsSI.ty {I a:Addr} {f0:Value} {i n ep:Nat} (x:IsSI s.heap I f0 i a n ep):s.TypeIs (.ref I) "set_iterator":=let ⟨o,h,c,_⟩:=x;⟨o,h,c⟩
theorem IsSI.at {h h':Heap} {I a:Addr} {f0:Value} {i n ep:Nat} (x:IsSI h I f0 i a n ep) (k:∀ o,h.get? I=some o->h'.get? I=some o):IsSI h' I f0 i a n ep:=let ⟨o,e,r⟩:=x;⟨o,k o e,r⟩
theorem SetIs.at {h h':Heap} {a:Addr} {es:Array (Int × Value)} {ep:Nat} {t:SetTable} (x:SetIs h a es ep t) (k:∀ o,h.get? a=some o->h'.get? a=some o):SetIs h' a es ep t:=let ⟨o,e,r⟩:=x;⟨o,k o e,r⟩
end
end PySem
namespace L2
open PySem PySem.Spec PyProof.Rows
theorem SetTx.is {P:Program} {w:World} {h:Heap} {a:Addr} {ss:List Str} (x:SetTx P w h a ss):∃ (es:Array (Int × Value)) (ep:Nat) (t:SetTable) (ts:List (Str × Tok)),SetIs h a es ep t/\es.toList=ts.map (eT P w)/\(ts.map (·.1)).Nodup/\(∀ z,z∈ts.map (·.1) ↔ z∈ss)/\ts.length<=ss.length/\t.fits es.size=true/\(byT w=true\/t.led=true)/\(es.size=0\/t.plain=false):=by
 obtain ⟨o,es,ep,t,ts,h1,h2,h3,r⟩:=x.ex
 exact ⟨es,ep,t,ts,⟨o,h1,h2.1,h3⟩,r⟩
section
variable {P:Program} {w:World}
end
end L2
namespace L2
open PySem PySem.Spec PyProof.Rows
section
variable {P:Program} {w:World} {A:Around} {E:Value->Shared->Prop} {s:Shared}
end
end L2
namespace L2
open PySem PySem.Spec PyProof.Rows
theorem qfm {α:Type} [DecidableEq α]:∀ {us L:List α},us.Nodup->(∀ z∈us,z∈L)->us.length<=L.length
 | [],_,_,_=>Nat.zero_le _
 | u :: us,L,nd,h=>by
  obtain ⟨h1,h2⟩:=List.nodup_cons.mp nd
  have hu:=h u List.mem_cons_self
  have:=qfm (us:=us) (L:=L.erase u) h2 fun z hz=>(List.mem_erase_of_ne (fun e:z=u=>h1 (by rw [<- e];exact hz))).mpr (h z (List.mem_cons_of_mem _ hz))
  have e:=List.length_erase_of_mem hu
  have:=List.length_pos_of_mem hu
  rw [List.length_cons]
  omega
section
variable {P:Program} {w:World} {A:Around} {E:Value->Shared->Prop} {s:Shared}
end
theorem Inv.drawn {X:Cx} {pins:List (Addr × Obj)} {σ:St} {H:Hp} {s:Shared} (I:Inv X pins σ H s) (d:Drawn):Inv X pins σ H { s with drawn:=d } :=
 I.step (g':=s.gens) (t':=s.toks) (d':=d) (ch:=[]) (h':=s.heap) (H':=H) (fun _ z=>nomatch z) (fun b o _ _ _ e _=>e) (fun b o _ _ _ e _=>⟨o.slots,e⟩) (fun _ _ _ _ n=>n) (fun b o _ e=>⟨o,e⟩) (fun _ _ e=>e) (fun _ _ _ e=>e) (fun b ps e=>⟨#[],by rw [e];simp⟩) (fun _ m=>m) I.hok I.bare
end L2
namespace L2
open PySem PySem.Spec PyProof.Rows
theorem DGet.f {H:Hp} {a:Addr} {kvs:List (Key × V)} {k:Key} {ob:Obj} (e:H a=some (.frz ob (.dK kvs))):DGet H a (kV k) (valV kvs k):=.inl ⟨kvs,k,.inr ⟨ob,e⟩,rfl,rfl⟩
end L2
namespace L2
open PySem PySem.Spec PyProof.Rows
def rListD:List V->Hp->VK->Prop:=fun xs H Q=>∃ (d:Addr) (kvs:List (Key × V)) (ss:List Str),xs=[.ref d]/\H d=some (.dK kvs)/\kvs.map (·.1)=ss.map Sum.inr/\∀ l,H l=none->Q (.ref l) (upd H l (.lst (ss.map V.str)))
theorem zk {X:Cx} (hc:X.calm=true):CallR X (.type "list") rListD:=by
 intro pins s σ H xs us Q I r h
 obtain ⟨d,kvs,ss,rfl,hd,hk,q⟩:=h
 obtain ⟨u,rfl,ru⟩:=vals1 r
 cases ru
 obtain ⟨hz,lo,ws,rel,dd⟩:=qik I.hok hd
 obtain ⟨ep,hat⟩:=dd.dictAt
 have lw:kvs.length=ws.length:=Paired.length rel
 have hsl:ss.length=kvs.length:=by have:=congrArg List.length hk;simpa using this.symm
 refine W.kdl_call (W.kdl_dict (knd:=mixKind X.prog X.w) (kvs:=ws) (ep:=ep) lo) (I.ok.hd hc) hat (by rw [<- lw];exact hz) fun h' tk acc' c' kk hl hI=>?_
 have hvs:Vals (ss.map V.str) acc'.toList:=by
  have hlen:acc'.toList.length=ws.length:=by rw [Array.length_toList];exact hI.1
  refine V2 (by rw [List.length_map,hlen,<- lw,hsl]) fun i x u e1 e2=>?_
  obtain ⟨k,x',e3,hkk⟩:=hI.2 i u (by rw [<- Array.getElem?_toList];exact e2)
  obtain ⟨k',v',e4,e5⟩:=qga rel e3
  have e6:(kvs.map (·.1))[i]? = some k:=by rw [List.getElem?_map,e4];exact congrArg some e5
  rw [hk,List.getElem?_map] at e6
  rw [List.getElem?_map] at e1
  cases e7:ss[i]? with
  | none=>rw [e7] at e1;cases e1
  | some z =>
   rw [e7] at e1 e6
   cases e1
   have e8:Sum.inr z=k:=Option.some.inj e6
   subst e8
   rcases q9 (show keyIs (Sum.inr z) u=true from hkk) with ⟨_,_,q1,_⟩ | ⟨y,t,q1,q2⟩
   ·cases q1
   ·cases q1
    exact ⟨t,q2⟩
 exact ⟨.ref s.heap.objs.size,_,I.laid kk (Nat.le_refl _) (show ObjOk X.prog X.w _ h' _ (.lst _) from ⟨by rw [List.length_map,hsl];exact hz,acc'.toList,c',hvs,by simpa using hl⟩),rfl,q _ (I.hok.fresh (Nat.le_refl _))⟩
end L2
namespace L2
open PySem PySem.Spec PyProof.Rows PySem.SeqAt
def rNeL0 (K:W.Frag):R2:=fun x y H Q=>∃ (a b:Addr) (xs:List V),x=.ref a/\y=.ref b/\SqL K H a xs/\SqL K H b []/\Q (.bl (!xs.isEmpty)) H
theorem qgj {X:Cx} (hu:X.A.units+64 < cLine):OpR X (compareOp .NotEq) (rNeL0 X.K):=by
 intro pins s σ H x y u v Q I rx ry h
 obtain ⟨a,b,xs,rfl,rfl,ha,hb,q⟩:=h
 cases rx
 cases ry
 obtain ⟨i1,r1,p1,_⟩:=I.list ha
 obtain ⟨i2,r2,p2,_⟩:=I.list hb
 cases r2
 cases xs with
 | nil =>
  cases r1
  exact PySem.SeqAt.RcNeAt.lists (e:=fun _=>true) p1.isList p2.isList rfl (show X.A.units < cLine by omega) (fun j h1 h2=>absurd h2 (by simp)) X.prog X.w _ _ ⟨.bl false,H,I,rfl,q⟩
 | cons x xs =>
  cases r1
  exact PySem.SeqAt.RcNeAt.lists_lengths p1.isList p2.isList (by simp) (show X.A.units < cLine by omega) X.prog X.w _ _ ⟨.bl true,H,I,rfl,q⟩
theorem Ja {X:Cx} (K:W.Frag) (hu:X.A.units+64 < cLine) (hK:X.K=K:=by rfl):OpR X (compareOp .NotEq) (rNeL0 K):=by subst hK;exact qgj hu
end L2
namespace PySem
namespace F
end F
end PySem
namespace L2
open PySem PySem.Spec PyProof.Rows
structure ZPrs (h:Heap) (b0:Nat) (xs ys:Array Value) (ts:List Addr):Prop where
 at_:∀ (j:Nat) (T:Addr),ts[j]? = some T->∃ x y,IsPair h T x y/\xs[j]? = some x/\ys[j]? = some y
 lo:∀ T∈ts,b0<=T
 inc:ts.Pairwise (· < ·)
theorem ZPrs.lt {h:Heap} {b0:Nat} {xs ys:Array Value} {ts:List Addr} (p:ZPrs h b0 xs ys ts):∀ T∈ts,T < h.objs.size:=fun T hT=>by
 obtain ⟨j,hj⟩:=List.getElem?_of_mem hT
 obtain ⟨x,y,e,_⟩:=p.at_ j T hj
 exact Heap.lt_size e
theorem ZPrs.keep {h h':Heap} {b0:Nat} {xs ys:Array Value} {ts:List Addr} (p:ZPrs h b0 xs ys ts) (k:∀ b o,b0<=b->h.get? b=some o->h'.get? b=some o):ZPrs h' b0 xs ys ts :=
 ⟨fun j T e=>by
  obtain ⟨x,y,e1,r⟩:=p.at_ j T e
  exact ⟨x,y,k _ _ (p.lo T (List.mem_of_getElem? e)) e1,r⟩,p.lo,p.inc⟩
theorem ZPrs.snoc {h:Heap} {b0 n:Nat} {xs ys:Array Value} {ts:List Addr} {T:Addr} {x y:Value} (p:ZPrs h b0 xs ys ts) (hn:∀ t∈ts,t < n) (hT:n<=T) (hb:b0<=n) (e:IsPair h T x y) (ex:xs[ts.length]? = some x) (ey:ys[ts.length]? = some y):ZPrs h b0 xs ys (ts++[T]):=by
 refine ⟨fun j T' e'=>?_,fun T' hT'=>?_,List.pairwise_append.mpr ⟨p.inc,List.pairwise_singleton _ _,fun a ha b hb'=>?_⟩⟩
 ·by_cases hj:j < ts.length
  ·rw [List.getElem?_append_left hj] at e'
   exact p.at_ j T' e'
  ·rw [List.getElem?_append_right (by omega)] at e'
   have hj2:j - ts.length=0:=by
    have:=(List.getElem?_eq_some_iff.mp e').1
    simp at this
    omega
   rw [hj2] at e'
   obtain rfl:T=T':=by simpa using e'
   have:j=ts.length:=by omega
   subst this
   exact ⟨x,y,e,ex,ey⟩
 ·rcases List.mem_append.mp hT' with z | z
  ·exact p.lo T' z
  ·rw [List.mem_singleton.mp z];omega
 ·rw [List.mem_singleton.mp hb']
  exact Nat.lt_of_lt_of_le (hn a ha) hT
section
variable {P:Program} {w:World}
end
section
variable {X:Cx} {pins:List (Addr × Obj)} {σ:St} {s:Shared}
end
end L2
namespace L2
open PySem PySem.Spec PyProof.Rows
theorem qiq:∀ ns ms:List Int,((List.range (min ns.length ms.length)).all (fun i=>decide (ns.getD i 0=ms.getD i 0)) && ns.length == ms.length)=decide (ns=ms):=fun ns ms=>by
 by_cases h:ns=ms
 ·subst h
  rw [decide_eq_true rfl]
  simp
 ·rw [decide_eq_false h]
  by_cases hl:ns.length=ms.length
  ·rw [Bool.and_eq_false_iff]
   left
   rw [Bool.eq_false_iff]
   intro z
   refine h (List.ext_getElem hl fun i h1 h2=>?_)
   have:=List.all_eq_true.mp z i (List.mem_range.mpr (by omega))
   have:=of_decide_eq_true this
   rw [List.getD_eq_getElem?_getD,List.getD_eq_getElem?_getD,List.getElem?_eq_getElem h1,List.getElem?_eq_getElem h2] at this
   exact this
  ·rw [Bool.and_eq_false_iff]
   right
   exact beq_eq_false_iff_ne.mpr hl
def rEqLI (K:W.Frag):R2:=fun x y H Q=>∃ (a b:Addr) (ns ms:List Int),x=.ref a/\y=.ref b/\SqL K H a (ns.map V.int)/\SqL K H b (ms.map V.int)/\Q (.bl (decide (ns=ms))) H
theorem qgk {X:Cx} (hu:X.A.units+64 < cLine):OpR X (compareOp .Eq) (rEqLI X.K):=by
 intro pins s σ H x y u v Q I rx ry h
 obtain ⟨a,b,ns,ms,rfl,rfl,ha,hb,q⟩:=h
 cases rx
 cases ry
 obtain ⟨i1,r1,p1,_⟩:=I.list ha
 obtain ⟨i2,r2,p2,_⟩:=I.list hb
 have l1:i1.toArray.size=ns.length:=by rw [List.size_toArray,<- r1.length,List.length_map]
 have l2:i2.toArray.size=ms.length:=by rw [List.size_toArray,<- r2.length,List.length_map]
 by_cases hl:ns.length=ms.length
 ·have key:=SeqAt.RcAt.lists (A:=X.A) (s:=s) (e:=fun i=>decide (ns.getD i 0=ms.getD i 0)) p1.isList p2.isList (by rw [l1,l2];exact hl) (by omega) (qcs r1 r2 fun i x y u v e1 e2 g1 g2=>by
   rw [List.getElem?_map] at e1 e2
   cases c1:ns[i]? with
   | none=>rw [c1] at e1;cases e1
   | some n =>
    cases c2:ms[i]? with
    | none=>rw [c2] at e2;cases e2
    | some m =>
     rw [c1] at e1
     rw [c2] at e2
     cases e1
     cases e2
     have:=qfh (A:=X.A.in1) (s:=s) g1 g2 rfl rfl
     rw [List.getD_eq_getElem?_getD,List.getD_eq_getElem?_getD,c1,c2]
     exact this)
  have e9:=qiq ns ms
  rw [<- hl,Nat.min_self,beq_self_eq_true,Bool.and_true] at e9
  rw [l1,e9] at key
  exact key X.prog X.w _ _ ⟨.bl _,H,I,rfl,q⟩
 ·have key:=SeqAt.RcAt.lists_lengths (A:=X.A) (s:=s) p1.isList p2.isList (by rw [l1,l2];exact bne_iff_ne.mpr hl) (by omega)
  rw [decide_eq_false fun z=>hl (by rw [z])] at q
  exact key X.prog X.w _ _ ⟨.bl _,H,I,rfl,q⟩
theorem qef {X:Cx} (K:W.Frag) (hu:X.A.units+64 < cLine) (hK:X.K=K:=by rfl):OpR X (compareOp .Eq) (rEqLI K):=by subst hK;exact qgk hu
end L2
namespace L2
open PySem PySem.Spec PyProof.Rows
abbrev IsZipV (h:Heap) (z TI TO:Addr) (v:Value) (f:Bool):Prop:=h.get? z=some { cls:=.type "zip",dict:=none,data:=.fields #[v,.bool f,.bool false,.ref TI,.ref TO],slots:=#[] }
def FreeV (h:Heap) (v:Value):Prop:=v=.none\/∃ T:Addr,v=rawInt T/\h.get? T=none
section
variable {P:Program} {w:World} {A:Around} {E:Value->Shared->Prop} {s:Shared} {z TI TO i1 i2 l1 l2:Addr} {n1 n2:Nat} {P1 P2:Nat->Value->Prop} {S1 S2:Nat->Heap->Prop}
theorem Z4 {v0:Value} {f0:Bool} {Q:Bool->Shared->Prop} (hz:IsZipV s.heap z TI TO v0 f0) (hv:FreeV s.heap v0) (q:Q true s):wpAny (model P w) A (Builtin.SmallTypes.ownedTupleIsFree (.ref z)) Q E s:=by
 unfold Builtin.SmallTypes.ownedTupleIsFree
 rcases hv with rfl | ⟨T,rfl,hT⟩
 ·exact wpAny_bind (wpAny_field hz rfl (x:=.none) rfl (wpAny_pure q))
 ·refine wpAny_bind (wpAny_field hz rfl (x:=rawInt T) rfl ?_)
  show wpAny _ _ (loadIfAlive (Int.toNat (T:Int)) >>= _) _ _ _
  refine wpAny_bind (vi ?_)
  rw [Int.toNat_natCast,hT]
  rw [if_pos (show (none:Option Obj).isNone=true from rfl)]
  exact wpAny_pure q
theorem qcu {k:Nat} {a b v0:Value} {f0:Bool} {Q:Value->Shared->Prop} (c1:SrcG P w i1 l1 n1 P1 S1) (c2:SrcG P w i2 l2 n2 P2 S2) (D:ZipA z TI TO i1 i2 l1 l2) (hz:IsZipV s.heap z TI TO v0 f0) (hv0:FreeV s.heap v0) (hTI:IsPair s.heap TI (.ref i1) (.ref i2)) (hTO:IsPair s.heap TO a b)
  (st1:S1 k s.heap) (st2:S2 k s.heap) (hx:k < n1) (hy:k < n2)
  (q : ∀ (x y:Value) (h':Heap) (T:Addr) (tk:Nat),P1 k x->P2 k y->s.toks<=tk->IsZip h' z TI TO (rawInt T)->IsPair h' TO x y->S1 (k+1) h'->S2 (k+1) h'->IsPair h' T x y->s.heap.objs.size<=T->T≠z->T≠TO->T≠i1->T≠i2 ->
   (∀ c o,c≠z->c≠TO->c≠i1->c≠i2->s.heap.get? c=some o->h'.get? c=some o)->Q (.ref T) { s with heap:=h',toks:=tk }) :
  wpAny (model P w) A (Builtin.«zip.__next__» ⟨[.ref z],[]⟩) (fun fn s'=>∃ v,fn=.done (.ret v)/\Q v s') E s:=by
 show wpAny _ _ (field (.ref z) 2 >>= _) _ _ _
 refine wpAny_bind (wpAny_field hz rfl (x:=.bool false) rfl ?_)
 show wpAny _ _ (field (.ref z) 3 >>= _) _ _ _
 refine wpAny_bind (wpAny_field hz rfl (x:=.ref TI) rfl (wpAny_bind (wpAny_seqItems hTI rfl ?_)))
 show wpAny _ _ (Builtin.SmallTypes.ownedTupleIsFree (.ref z) >>= _) _ _ _
 refine wpAny_bind (Z4 hz hv0 ?_)
 simp only [if_true]
 refine wpAny_bind (wpAny_rule (wpAny_bind (wpAny_field hz rfl (x:=.ref TO) rfl ?_)))
 refine wpAny_bind (wpAny_setField_rec hz (by simp) fun g1 hz1 u1=>wpAny_bind ?_)
 replace hz1:IsZipV g1 z TI TO .ellipsis f0:=hz1
 simp only [List.zipIdx_cons,List.zipIdx_nil,List.forIn_cons,List.forIn_nil]
 have a1:=c1.off st1 u1.extBut D.i1z D.l1z
 have a2:=c2.off st2 u1.extBut D.i2z D.l2z
 refine wpAny_bind (wpAny_bind (wpAny_onRaise ?_))
 show wpAny _ _ (Builtin.SmallTypes.nextOf (.ref i1) >>= _) _ _ _
 refine wpAny_bind (c1.item _ _ k { s with heap:=g1 } _ a1 hx fun x g2 t2 px b1 u2 ht2=>wpAny_pure ?_)
 have b2:=c2.off a2 u2.extBut D.i12.symm D.l2i1
 have hT2:IsPair g2 TO a b:=u2.extBut _ _ D.TOi1 (u1.extBut _ _ D.TOz hTO)
 refine wpAny_bind (wpAny_seqItems hT2 rfl (wpAny_bind (wpAny_updateSeq_pair hT2 fun g3 hT3 u3=>?_)))
 replace hT3:IsPair g3 TO x b:=hT3
 refine wpAny_bind (wpAny_letGo (wpAny_pure ?_))
 have d1:=c1.off b1 u3.extBut D.TOi1.symm D.l1TO
 have d2:=c2.off b2 u3.extBut D.TOi2.symm D.l2TO
 refine wpAny_bind (wpAny_bind (wpAny_onRaise ?_))
 show wpAny _ _ (Builtin.SmallTypes.nextOf (.ref i2) >>= _) _ _ _
 refine wpAny_bind (c2.item _ _ k { s with heap:=g3,toks:=t2 } _ d2 hy fun y g4 t4 py e2 u4 ht4=>wpAny_pure ?_)
 have e1:=c1.off d1 u4.extBut D.i12 D.l1i2
 have hT4:IsPair g4 TO x b:=u4.extBut _ _ D.TOi2 hT3
 refine wpAny_bind (wpAny_seqItems hT4 rfl (wpAny_bind (wpAny_updateSeq_pair hT4 fun g5 hT5 u5=>?_)))
 replace hT5:IsPair g5 TO x y:=hT5
 refine wpAny_bind (wpAny_letGo (wpAny_pure (wpAny_pure ?_)))
 have f1:=c1.off e1 u5.extBut D.TOi1.symm D.l1TO
 have f2:=c2.off e2 u5.extBut D.TOi2.symm D.l2TO
 refine wpAny_bind (wpAny_seqItems hT5 rfl (wpAny_bind (wpAny_newTuple ?_)))
 have sz:g5.objs.size=s.heap.objs.size:=by rw [u5.1,u4.1,u3.1,u2.1,u1.1]
 have hz5:IsZipV g5 z TI TO .ellipsis f0:=u5.extBut _ _ D.TOz.symm (u4.extBut _ _ D.i2z.symm (u3.extBut _ _ D.TOz.symm (u2.extBut _ _ D.i1z.symm hz1)))
 have k5:∀ c o,c≠z->c≠TO->c≠i1->c≠i2->s.heap.get? c=some o->g5.get? c=some o:=fun c o n1 n2 n3 n4 e =>
  u5.extBut _ _ n2 (u4.extBut _ _ n4 (u3.extBut _ _ n2 (u2.extBut _ _ n3 (u1.extBut _ _ n1 e))))
 have zl:z < g5.objs.size:=Heap.lt_size hz5
 show wpAny _ _ (Builtin.SmallTypes.ownedTupleHandOut (.ref z) (.ref g5.objs.size) >>= _) _ _ _
 unfold Builtin.SmallTypes.ownedTupleHandOut
 have hz6:IsZipV (g5.push { cls:=.type "tuple",data:=.seq #[x,y] }) z TI TO .ellipsis f0:=Heap.get?_push_of_some _ hz5
 refine wpAny_bind (wpAny_bind (wpAny_setField_rec hz6 (by simp) fun g7 hz7 u7=>?_))
 replace hz7:IsZipV g7 z TI TO (rawInt g5.objs.size) f0:=hz7
 refine wpAny_setField_rec hz7 (by simp) fun g8 hz8 u8=>?_
 replace hz8:IsZip g8 z TI TO (rawInt g5.objs.size):=hz8
 have up:∀ c o,c≠z->g5.get? c=some o->g8.get? c=some o:=fun c o n e=>u8.extBut _ _ n (u7.extBut _ _ n (Heap.get?_push_of_some _ e))
 have hN:IsPair g8 g5.objs.size x y:=u8.extBut _ _ (Nat.ne_of_gt zl) (u7.extBut _ _ (Nat.ne_of_gt zl) (Heap.get?_push_size _ rfl))
 have o1:g5.objs.size≠i1:=by obtain ⟨o,_,ho,_⟩:=c1.obj _ _ f1;exact Nat.ne_of_gt (Heap.lt_size ho)
 have o2:g5.objs.size≠i2:=by obtain ⟨o,_,ho,_⟩:=c2.obj _ _ f2;exact Nat.ne_of_gt (Heap.lt_size ho)
 refine wpAny_pure ⟨_,rfl,q x y g8 g5.objs.size t4 px py (Nat.le_trans ht2 ht4) hz8 (up _ _ D.TOz hT5) ?_ ?_ hN (Nat.le_of_eq sz.symm) (Nat.ne_of_gt zl) (Nat.ne_of_gt (Heap.lt_size hT5)) o1 o2 fun c o n1 n2 n3 n4 e=>up c o n1 (k5 c o n1 n2 n3 n4 e)⟩
 ·exact c1.keep _ _ _ f1 fun c hc o ho=>up c o (by rcases hc with q | q <;> rw [q] <;> first | exact D.i1z | exact D.l1z) ho
 ·exact c2.keep _ _ _ f2 fun c hc o ho=>up c o (by rcases hc with q | q <;> rw [q] <;> first | exact D.i2z | exact D.l2z) ho
theorem qeg {k:Nat} {a b v0:Value} {f0:Bool} {Q:Fin->Shared->Prop} (hA:A.handled=none) (c1:SrcG P w i1 l1 n1 P1 S1) (c2:SrcG P w i2 l2 n2 P2 S2) (D:ZipA z TI TO i1 i2 l1 l2) (hz:IsZipV s.heap z TI TO v0 f0) (hv0:FreeV s.heap v0) (hTI:IsPair s.heap TI (.ref i1) (.ref i2)) (hTO:IsPair s.heap TO a b)
  (st1:S1 k s.heap) (st2:S2 k s.heap) (hn:k=n1\/(k < n1/\k=n2))
  (q:∀ h' e tk,s.toks<=tk->(∀ c o,c≠z->c≠TO->c≠i1->c≠i2->s.heap.get? c=some o->h'.get? c=some o)->(∃ o,h'.get? e=some o/\o.cls=.type "StopIteration")->E (.ref e) { s with heap:=h',toks:=tk }) :
  wpAny (model P w) A (Builtin.«zip.__next__» ⟨[.ref z],[]⟩) Q E s:=by
 show wpAny _ _ (field (.ref z) 2 >>= _) _ _ _
 refine wpAny_bind (wpAny_field hz rfl (x:=.bool false) rfl ?_)
 show wpAny _ _ (field (.ref z) 3 >>= _) _ _ _
 refine wpAny_bind (wpAny_field hz rfl (x:=.ref TI) rfl (wpAny_bind (wpAny_seqItems hTI rfl ?_)))
 show wpAny _ _ (Builtin.SmallTypes.ownedTupleIsFree (.ref z) >>= _) _ _ _
 refine wpAny_bind (Z4 hz hv0 ?_)
 simp only [if_true]
 refine wpAny_bind (wpAny_rule (wpAny_bind (wpAny_field hz rfl (x:=.ref TO) rfl ?_)))
 refine wpAny_bind (wpAny_setField_rec hz (by simp) fun g1 hz1 u1=>wpAny_bind ?_)
 replace hz1:IsZipV g1 z TI TO .ellipsis f0:=hz1
 simp only [List.zipIdx_cons,List.zipIdx_nil,List.forIn_cons,List.forIn_nil]
 have a1:=c1.off st1 u1.extBut D.i1z D.l1z
 have a2:=c2.off st2 u1.extBut D.i2z D.l2z
 refine wpAny_bind (wpAny_bind (wpAny_onRaise ?_))
 show wpAny _ _ (Builtin.SmallTypes.nextOf (.ref i1) >>= _) _ _ _
 rcases hn with hx | ⟨hx,hy⟩
 ·refine wpAny_bind (c1.fin _ _ k { s with heap:=g1 } _ hA a1 hx fun g2 e u2 he=>?_)
  obtain ⟨oe,hoe,ce⟩:=he
  have hz2:IsZipV g2 z TI TO .ellipsis f0:=u2 _ _ D.i1z.symm hz1
  have ez:e≠z:=fun q=>by subst q;rw [hz2] at hoe;cases hoe;simp at ce
  exact wpAny_setField_rec hz2 (by simp) fun g3 _ u3=>q g3 e s.toks (Nat.le_refl _) (fun c o n1 _ n3 _ ho=>u3.extBut _ _ n1 (u2 _ _ n3 (u1.extBut _ _ n1 ho))) ⟨oe,u3.extBut _ _ ez hoe,ce⟩
 ·refine wpAny_bind (c1.item _ _ k { s with heap:=g1 } _ a1 hx fun x g2 t2 px b1 u2 ht2=>wpAny_pure ?_)
  have b2:=c2.off a2 u2.extBut D.i12.symm D.l2i1
  have hT2:IsPair g2 TO a b:=u2.extBut _ _ D.TOi1 (u1.extBut _ _ D.TOz hTO)
  refine wpAny_bind (wpAny_seqItems hT2 rfl (wpAny_bind (wpAny_updateSeq_pair hT2 fun g3 hT3 u3=>?_)))
  refine wpAny_bind (wpAny_letGo (wpAny_pure ?_))
  have d2:=c2.off b2 u3.extBut D.TOi2.symm D.l2TO
  refine wpAny_bind (wpAny_bind (wpAny_onRaise ?_))
  show wpAny _ _ (Builtin.SmallTypes.nextOf (.ref i2) >>= _) _ _ _
  refine wpAny_bind (c2.fin _ _ k { s with heap:=g3,toks:=t2 } _ hA d2 hy fun g4 e u4 he=>?_)
  obtain ⟨oe,hoe,ce⟩:=he
  have hz4:IsZipV g4 z TI TO .ellipsis f0:=u4 _ _ D.i2z.symm (u3.extBut _ _ D.TOz.symm (u2.extBut _ _ D.i1z.symm hz1))
  have ez:e≠z:=fun q=>by subst q;rw [hz4] at hoe;cases hoe;simp at ce
  exact wpAny_setField_rec hz4 (by simp) fun g5 _ u5=>q g5 e t2 ht2 (fun c o n1 n2 n3 n4 ho=>u5.extBut _ _ n1 (u4 _ _ n4 (u3.extBut _ _ n2 (u2.extBut _ _ n3 (u1.extBut _ _ n1 ho))))) ⟨oe,u5.extBut _ _ ez hoe,ce⟩
structure ZQ (S1 S2:Nat->Heap->Prop) (z TI TO i1 i2:Addr) (k:Nat) (h:Heap):Prop where
 ti:IsPair h TI (.ref i1) (.ref i2)
 to_:∃ a b,IsPair h TO a b
 s1:S1 k h
 s2:S2 k h
 zz:∃ v f,IsZipV h z TI TO v f/\(v=.none\/∃ T:Addr,v=rawInt T)
theorem qgl {k:Nat} {Q:Value->Shared->Prop} (c1:SrcG P w i1 l1 n1 P1 S1) (c2:SrcG P w i2 l2 n2 P2 S2) (D:ZipA z TI TO i1 i2 l1 l2) (st:ZQ S1 S2 z TI TO i1 i2 k s.heap) (hx:k < n1) (hy:k < n2)
  (q : ∀ (x y:Value) (h':Heap) (T:Addr) (tk:Nat),P1 k x->P2 k y->IsPair h' T x y->s.heap.objs.size<=T->ZQ S1 S2 z TI TO i1 i2 (k+1) h' ->
   (∀ c o,c≠z->c≠TO->c≠i1->c≠i2->s.heap.get? c=some o->h'.get? c=some o)->Q (.ref T) { s with heap:=h',toks:=tk }) :
  wpAny (model P w) A (Builtin.SmallTypes.nextOf (.ref z)) Q E s:=by
 obtain ⟨ti,⟨a0,b0,to_⟩,s1,s2,v,f,hz,hv⟩:=st
 have hT:s.TypeIs (.ref z) "zip":=⟨_,hz,rfl⟩
 have key:FreeV s.heap v\/∃ (T:Addr) (o:Obj),v=rawInt T/\s.heap.get? T=some o:=by
  rcases hv with rfl | ⟨T,rfl⟩
  ·exact .inl (.inl rfl)
  ·cases e:s.heap.get? T with
   | none=>exact .inl (.inr ⟨T,rfl,e⟩)
   | some o=>exact .inr ⟨T,o,rfl,e⟩
 unfold Builtin.SmallTypes.nextOf
 rcases key with hf | ⟨T0,o0,rfl,hT0⟩
 ·refine wpAny_bind (wpAny_callSpecial?_slot (name:=Str.ofString "__next__") hT F.slot_zip_next (wpAny_call_entry F.slot_zip_next hT F.entry_zip_next
   (qcu c1 c2 D hz hf ti to_ s1 s2 hx hy fun x y h' T tk px py htk y1 y2 y3 y4 y5 y6 y7 y8 y9 y10 kk=>wpAny_pure ?_) (F.args_zip_next_1 _)))
  exact q x y h' T tk px py y5 y6 ⟨kk _ _ D.TIz D.TITO D.TIi1 D.TIi2 ti,⟨_,_,y2⟩,y3,y4,_,_,y1,.inr ⟨T,rfl⟩⟩ kk
 ·refine wpAny_bind (wpAny_callSpecial?_slot (name:=Str.ofString "__next__") hT F.slot_zip_next (wpAny_call_entry F.slot_zip_next hT F.entry_zip_next
   (qct c1 c2 D hz hT0 ti s1 s2 hx hy fun x y h' T tk px py htk y1 y3 y4 y5 y6 kk=>wpAny_pure ?_) (F.args_zip_next_1 _)))
  exact q x y h' T tk px py y5 y6 ⟨kk _ _ D.TIz D.TIi1 D.TIi2 ti,⟨_,_,kk _ _ D.TOz D.TOi1 D.TOi2 to_⟩,y3,y4,_,_,y1,.inr ⟨T0,rfl⟩⟩ fun c o m1 _ m3 m4 e=>kk c o m1 m3 m4 e
theorem qgm {k:Nat} {Q:Value->Shared->Prop} (hA:A.handled=none) (c1:SrcG P w i1 l1 n1 P1 S1) (c2:SrcG P w i2 l2 n2 P2 S2) (D:ZipA z TI TO i1 i2 l1 l2) (st:ZQ S1 S2 z TI TO i1 i2 k s.heap) (hn:k=n1\/(k < n1/\k=n2))
  (q:∀ (h':Heap) (e:Addr) (tk:Nat),(∀ c o,c≠z->c≠TO->c≠i1->c≠i2->s.heap.get? c=some o->h'.get? c=some o)->(∃ o,h'.get? e=some o/\o.cls=.type "StopIteration")->E (.ref e) { s with heap:=h',toks:=tk }) :
  wpAny (model P w) A (Builtin.SmallTypes.nextOf (.ref z)) Q E s:=by
 obtain ⟨ti,⟨a0,b0,to_⟩,s1,s2,v,f,hz,hv⟩:=st
 have hT:s.TypeIs (.ref z) "zip":=⟨_,hz,rfl⟩
 have key:FreeV s.heap v\/∃ (T:Addr) (o:Obj),v=rawInt T/\s.heap.get? T=some o:=by
  rcases hv with rfl | ⟨T,rfl⟩
  ·exact .inl (.inl rfl)
  ·cases e:s.heap.get? T with
   | none=>exact .inl (.inr ⟨T,rfl,e⟩)
   | some o=>exact .inr ⟨T,o,rfl,e⟩
 unfold Builtin.SmallTypes.nextOf
 rcases key with hf | ⟨T0,o0,rfl,hT0⟩
 ·exact wpAny_bind (wpAny_callSpecial?_slot (name:=Str.ofString "__next__") hT F.slot_zip_next (wpAny_call_entry F.slot_zip_next hT F.entry_zip_next
   (qeg hA c1 c2 D hz hf ti to_ s1 s2 hn fun h' e tk htk kk he=>q h' e tk kk he) (F.args_zip_next_1 _)))
 ·exact wpAny_bind (wpAny_callSpecial?_slot (name:=Str.ofString "__next__") hT F.slot_zip_next (wpAny_call_entry F.slot_zip_next hT F.entry_zip_next
   (qee hA c1 c2 D hz hT0 ti s1 s2 hn fun h' e tk htk kk he=>q h' e tk (fun c o m1 _ m3 m4 e=>kk c o m1 m3 m4 e) he) (F.args_zip_next_1 _)))
theorem qeh {k:Nat} {e:Addr} {old:Value} {Q:Option Value->Shared->Prop} (c1:SrcG P w i1 l1 n1 P1 S1) (c2:SrcG P w i2 l2 n2 P2 S2) (D:ZipA z TI TO i1 i2 l1 l2) (he:IsEnum s.heap e z k old) (st:ZQ S1 S2 z TI TO i1 i2 k s.heap) (hx:k < n1) (hy:k < n2)
  (ne:e≠z/\e≠TI/\e≠TO/\e≠i1/\e≠i2/\e≠l1/\e≠l2)
  (q : ∀ (x y:Value) (h':Heap) (T O:Addr) (u tk:Nat),P1 k x->P2 k y->IsPair h' T x y->IsPair h' O (.int k u) (.ref T)->s.heap.objs.size<=T->T < O->IsEnumOut h' e z ((k:Int)+1) (.ref T) O->ZQ S1 S2 z TI TO i1 i2 (k+1) h' ->
   (∀ c o,c≠e->c≠z->c≠TO->c≠i1->c≠i2->s.heap.get? c=some o->h'.get? c=some o)->Q (some (.ref O)) { s with heap:=h',toks:=tk }) :
  wpAny (model P w) A (pyNext (.ref e)) Q E s:=by
 have hT:s.TypeIs (.ref e) "enumerate":=⟨_,he,rfl⟩
 unfold pyNext
 refine wpAny_bind (wpAny_attempt (wpAny_callSpecial?_slot (name:=Str.ofString "__next__") hT F.slot_enumerate_next
  (wpAny_call_entry F.slot_enumerate_next hT F.entry_enumerate_next ?_ (F.args_enumerate_next_1 _))))
 show wpAny _ _ (field (.ref e) 2 >>= _) _ _ _
 refine wpAny_bind (wpAny_field he rfl (x:=.ref z) rfl ?_)
 refine wpAny_bind (qgl c1 c2 D st hx hy fun x y h₁ T tk px py hT1 hTs st1 kk=>?_)
 have he₁:IsEnum h₁ e z k old:=kk _ _ ne.1 ne.2.2.1 ne.2.2.2.1 ne.2.2.2.2.1 he
 show wpAny _ _ (field (.ref e) 3 >>= _) _ _ { s with heap:=h₁,toks:=tk }
 refine wpAny_bind (wpAny_field he₁ rfl (x:=rawInt k) rfl ?_)
 show wpAny _ _ (field (.ref e) 4 >>= _) _ _ { s with heap:=h₁,toks:=tk }
 refine wpAny_bind (wpAny_field he₁ rfl (x:=.none) rfl ?_)
 show wpAny _ _ (mkInt k >>= _) _ _ { s with heap:=h₁,toks:=tk }
 refine wpAny_bind (wpAny_mkInt ?_)
 show wpAny _ _ (setField (.ref e) 3 (rawInt ((k:Int)+1)) >>= _) _ _ { s with heap:=h₁,toks:=tk+1 }
 refine wpAny_bind (wpAny_setField_rec he₁ (by simp) fun h₂ he₂ hs₂=>?_)
 replace hs₂:Heap.SameBut e h₁ h₂:=hs₂
 replace he₂:IsEnum h₂ e z ((k:Int)+1) old:=he₂
 show wpAny _ _ (setField (.ref e) 4 .none >>= _) _ _ { s with heap:=h₂,toks:=tk+1 }
 refine wpAny_bind (wpAny_setField_rec he₂ (by simp) fun h₃ he₃ hs₃=>?_)
 replace hs₃:Heap.SameBut e h₂ h₃:=hs₃
 replace he₃:IsEnum h₃ e z ((k:Int)+1) old:=he₃
 show wpAny _ _ (newTuple [.int k tk,.ref T] >>= _) _ _ { s with heap:=h₃,toks:=tk+1 }
 refine wpAny_bind (wpAny_newTuple ?_)
 have he₄:IsEnum (h₃.push { cls:=.type "tuple",data:=.seq #[.int k tk,.ref T] }) e z ((k:Int)+1) old:=Heap.get?_push_of_some _ he₃
 have eTe:T≠e:=Nat.ne_of_gt (Nat.lt_of_lt_of_le (Heap.lt_size he) hTs)
 have hT3:IsPair h₃ T x y:=hs₃.extBut _ _ eTe (hs₂.extBut _ _ eTe hT1)
 have hTO:T < h₃.objs.size:=Heap.lt_size hT3
 have hOe:h₃.objs.size≠e:=Nat.ne_of_gt (Heap.lt_size he₃)
 show wpAny _ _ (Builtin.SmallTypes.ownedTupleIsFree (.ref e) >>= _) _ _ _
 refine wpAny_bind ?_
 unfold Builtin.SmallTypes.ownedTupleIsFree
 refine wpAny_bind (wpAny_field he₄ rfl (x:=.none) rfl (wpAny_pure ?_))
 simp only [if_true]
 refine wpAny_bind (wpAny_rule ?_)
 refine wpAny_bind (wpAny_field he₄ rfl (x:=old) rfl ?_)
 refine wpAny_bind (wpAny_setField_rec he₄ (by simp) fun h₅ he₅ hs₅=>?_)
 replace he₅:IsEnum h₅ e z ((k:Int)+1) (.ref T):=he₅
 show wpAny _ _ (Builtin.SmallTypes.ownedTupleHandOut (.ref e) (.ref h₃.objs.size) >>= _) _ _ _
 refine wpAny_bind ?_
 unfold Builtin.SmallTypes.ownedTupleHandOut
 refine wpAny_bind (wpAny_setField_rec he₅ (by simp) fun h₆ he₆ hs₆=>?_)
 replace he₆:IsEnumOut h₆ e z ((k:Int)+1) (.ref T) h₃.objs.size:=he₆
 refine wpAny_setField_rec he₆ (by simp) fun h₇ he₇ hs₇=>?_
 replace he₇:IsEnumOut h₇ e z ((k:Int)+1) (.ref T) h₃.objs.size:=he₇
 have up:∀ c o,c≠e->h₁.get? c=some o->h₇.get? c=some o:=fun c o n ho =>
  hs₇.extBut _ _ n (hs₆.extBut _ _ n (hs₅.extBut _ _ n (Heap.get?_push_of_some _ (hs₃.extBut _ _ n (hs₂.extBut _ _ n ho)))))
 refine wpAny_bind (wpAny_letGo (wpAny_pure ⟨_,rfl,wpAny_pure (q x y h₇ T h₃.objs.size tk _ px py (up _ _ eTe hT1) ?_ hTs hTO he₇ ?_ fun c o n1 n2 n3 n4 n5 ho=>up c o n1 (kk c o n2 n3 n4 n5 ho))⟩))
 ·exact hs₇.extBut _ _ hOe (hs₆.extBut _ _ hOe (hs₅.extBut _ _ hOe (Heap.get?_push_size _ rfl)))
 ·obtain ⟨ti,⟨a0,b0,to_⟩,z1,z2,v,f,hz,hv⟩:=st1
  exact ⟨up _ _ ne.2.1.symm ti,⟨_,_,up _ _ ne.2.2.1.symm to_⟩,c1.keep _ _ _ z1 (fun c hc o ho=>up c o (hc.elim (fun z=>z ▸ ne.2.2.2.1.symm) fun z=>z ▸ ne.2.2.2.2.2.1.symm) ho),c2.keep _ _ _ z2 (fun c hc o ho=>up c o (hc.elim (fun z=>z ▸ ne.2.2.2.2.1.symm) fun z=>z ▸ ne.2.2.2.2.2.2.symm) ho),v,f,up _ _ ne.1.symm hz,hv⟩
theorem qei {k:Nat} {e:Addr} {old:Value} {Q:Option Value->Shared->Prop} (hA:A.in1.handled=none) (c1:SrcG P w i1 l1 n1 P1 S1) (c2:SrcG P w i2 l2 n2 P2 S2) (D:ZipA z TI TO i1 i2 l1 l2) (he:IsEnum s.heap e z k old) (st:ZQ S1 S2 z TI TO i1 i2 k s.heap) (hn:k=n1\/(k < n1/\k=n2))
  (q:∀ (h':Heap) (tk:Nat),(∀ c o,c≠z->c≠TO->c≠i1->c≠i2->s.heap.get? c=some o->h'.get? c=some o)->Q none { s with heap:=h',toks:=tk }) :
  wpAny (model P w) A (pyNext (.ref e)) Q E s:=by
 have hT:s.TypeIs (.ref e) "enumerate":=⟨_,he,rfl⟩
 unfold pyNext
 refine wpAny_bind (wpAny_attempt (wpAny_callSpecial?_slot (name:=Str.ofString "__next__") hT F.slot_enumerate_next
  (wpAny_call_entry F.slot_enumerate_next hT F.entry_enumerate_next ?_ (F.args_enumerate_next_1 _))))
 show wpAny _ _ (field (.ref e) 2 >>= _) _ _ _
 refine wpAny_bind (wpAny_field he rfl (x:=.ref z) rfl ?_)
 refine wpAny_bind (qgm hA c1 c2 D st hn fun h' x tk kk hx'=>?_)
 obtain ⟨o,ho,hc⟩:=hx'
 refine wpAny_bind (wpAny_isInstance (T:="StopIteration") (b:=true) ⟨o,ho,hc⟩ isSubtype_stop ?_)
 exact wpAny_pure (q h' tk kk)
end
end L2
namespace L2
open PySem PySem.Spec PyProof.Rows
open AutoSeq1 (wpAny_loadPart')
abbrev zObj (TI TO:Addr):Obj:={ cls:=.type "zip",dict:=none,data:=.fields #[.none,.bool false,.bool false,.ref TI,.ref TO],slots:=#[] }
theorem Yq (z TI TO:Addr) :
  Meets (Builtin.«enumerate.__new__» ⟨[.type "enumerate",.ref z],[]⟩) (fun _ R s=>s.heap.get? z=some (zObj TI TO) /\
   R (.ok (.ret (.ref s.heap.objs.size)))
    { s with heap:=s.heap.push { cls:=.type "enumerate",data:=.fields #[.none,.bool false,.ref z,rawInt 0,.none,.none] } }) :=
 .of_wp fun prog w A R s h=>by
  obtain ⟨hp,g,d,tk,os⟩:=s;obtain ⟨hl,h⟩:=h
  have hsub:=sub_enumerate
  have hL:IsZip (Shared.heap ⟨hp,g,d,tk,os⟩) z TI TO .none:=hl
  wp_walk using wpAny_loadPart' hl
  refine wpAny_stack_any fun st=>wpAny_pure ?_
  split
  ·rename_i c _ _ _ _ _
   cases (c == Value.type "enumerate")
   ·wp_walk using wpAny_loadPart' hl,wpAny_pyIter_zip hL
    exact ⟨_,rfl,h⟩
   ·wp_walk using wpAny_loadPart' hl,wpAny_pyIter_zip hL
    exact ⟨_,rfl,h⟩
  ·wp_walk using wpAny_loadPart' hl,wpAny_pyIter_zip hL
   exact ⟨_,rfl,h⟩
theorem qbn {P:Program} {w:World} {A:Around} {E:Value->Shared->Prop} {s:Shared} {z TI TO:Addr} {Q:Value->Shared->Prop} (hL:IsZip s.heap z TI TO .none)
  (h : ∀ h',IsEnum h' s.heap.objs.size z 0 .none->h'.objs.size=s.heap.objs.size+1 ->
   (∀ b o,s.heap.get? b=some o->h'.get? b=some o)->Q (.ref s.heap.objs.size) { s with heap:=h' }) :
  wpAny (model P w) A (call (.type "enumerate") [.ref z]) Q E s:=by
 refine callType_new F.called_enumerate (by decide) (F.typeCall_enumerate_1 _) (F.newCall_enumerate_1 _) (fun obj=>F.args_object_init_2 obj _) F.entry_enumerate_new
  (Yq z TI TO) ⟨hL,?_⟩
 have he:IsEnum (s.heap.push { cls:=.type "enumerate",data:=.fields #[.none,.bool false,.ref z,rawInt 0,.none,.none] }) s.heap.objs.size z 0 .none:=Heap.get?_push_size _ rfl
 exact ⟨⟨_,he,rfl⟩,h _ he (Heap.size_push ..) fun b o x=>Heap.get?_push_of_some _ x⟩
def ItEZ (x y:Str):It where
 go:=fun i _=>i < x.cps.size/\i < y.cps.size
 stop:=fun i _=>i=min x.cps.size y.cps.size
 yld:=fun i H v H'=>∃ (T O:Addr) (c d:Nat),H T=none/\H O=none/\T≠O/\x.cps[i]? = some c/\y.cps[i]? = some d/\v=.ref O/\H'=upd (upd H T (.tup [sign c,sign d])) O (.tup [.int i,.ref T])
theorem qgn {x y:Str} {g:TG} {tb:TS} {D:Ends} {σ:St} {H:Hp} (Pv:Nat->St->Hp->Prop) (h0:Pv 0 σ H)
  (hs:∀ i c d σ H T O,x.cps[i]? = some c->y.cps[i]? = some d->Pv i σ H->H T=none->H O=none->T≠O->g (.ref O) σ (upd (upd H T (.tup [sign c,sign d])) O (.tup [.int (i:Nat),.ref T])) fun σ2 H2=>tb { D with nx:=Pv (i+1),ct:=Pv (i+1),bk:=D.nx } σ2 H2)
  (hd:∀ σ H,Pv (min x.cps.size y.cps.size) σ H->D.nx σ H) :
  ∃ W:Nat->Nat->St->Hp->Prop,(∃ m,W 0 m σ H)/\∀ i m σ H,W i m σ H ->
   ((ItEZ x y).stop i H/\D.nx σ H)\/((ItEZ x y).go i H/\∃ N:St->Hp->Prop,(∀ σ' H',N σ' H'->∃ m',m' < m/\W (i+1) m' σ' H')/\∀ v H',(ItEZ x y).yld i H v H'->g v σ H' fun σ2 H2=>tb { D with nx:=N,ct:=N,bk:=D.nx } σ2 H2):=by
 refine ⟨fun i m σ H=>m=min x.cps.size y.cps.size - i/\i<=min x.cps.size y.cps.size/\Pv i σ H,⟨_,rfl,Nat.zero_le _,h0⟩,?_⟩
 rintro i m σ H ⟨rfl,hi,p⟩
 by_cases hlt:i < min x.cps.size y.cps.size
 ·refine .inr ⟨⟨by omega,by omega⟩,Pv (i+1),fun σ' H' p'=>⟨_,by omega,rfl,hlt,p'⟩,fun v H' yl=>?_⟩
  obtain ⟨T,O,c,d,hT,hO,hTO,hc,hd',rfl,rfl⟩:=yl
  exact hs i c d σ H T O hc hd' p hT hO hTO
 ·have e:i=min x.cps.size y.cps.size:=by omega
  subst e
  exact .inl ⟨rfl,hd σ H p⟩
theorem qej {P:Program} {w:World} {K:W.Frag} {elts:List Expr} {k:Nat} {pos:Pos} (x y:Str) (t u:Tok) (e z TI TO i1 i2:Addr) (D:ZipA z TI TO i1 i2 i1 i2) (ne:e≠z/\e≠TI/\e≠TO/\e≠i1/\e≠i2) :
  Turn P w K (.Tuple elts k pos) (ItEZ x y) [e,z,TI,TO,i1,i2] e (fun i h=>(∃ old,IsEnum h e z i old)/\ZQ (fun k h=>h.IsStrIter i1 (strIterType x) x t k) (fun k h=>h.IsStrIter i2 (strIterType y) y u k) z TI TO i1 i2 i h) where
 mem:=by simp
 obj:=fun i h st b hb=>by
  obtain ⟨⟨old,he⟩,ti,⟨a0,b0,to_⟩,⟨o1,e1,_,q1⟩,⟨o2,e2,_,q2⟩,v,f,hz,hv⟩:=st
  have hb':b=e\/b=z\/b=TI\/b=TO\/b=i1\/b=i2:=by simpa using hb
  rcases hb' with r | r | r | r | r | r
  ·rw [r];exact ⟨_,he,fun v z=>by cases z⟩
  ·rw [r];exact ⟨_,hz,fun v z=>by cases z⟩
  ·rw [r];exact ⟨_,ti,fun v z=>by cases z⟩
  ·rw [r];exact ⟨_,to_,fun v z=>by cases z⟩
  ·rw [r];exact ⟨o1,e1,fun v z=>by rw [q1] at z;cases z⟩
  ·rw [r];exact ⟨o2,e2,fun v z=>by rw [q2] at z;cases z⟩
 keep:=fun i h h' st kk=>by
  obtain ⟨⟨old,he⟩,ti,⟨a0,b0,to_⟩,⟨o1,e1,r1⟩,⟨o2,e2,r2⟩,v,f,hz,hv⟩:=st
  exact ⟨⟨old,kk e (by simp) _ he⟩,kk TI (by simp) _ ti,⟨_,_,kk TO (by simp) _ to_⟩,⟨o1,kk i1 (by simp) _ e1,r1⟩,⟨o2,kk i2 (by simp) _ e2,r2⟩,v,f,kk z (by simp) _ hz,hv⟩
 item:=by
  intro X hP hw hK hc i pins s σ H E I hf st hg
  subst hP hw hK
  obtain ⟨⟨old,he⟩,zq⟩:=st
  refine qeh (V6 i1 x t) (V6 i2 y u) D he zq hg.1 hg.2 ⟨ne.1,ne.2.1,ne.2.2.1,ne.2.2.2.1,ne.2.2.2.2,ne.2.2.2.1,ne.2.2.2.2⟩ fun vx vy h' T O uu tk px py hT hO hTs hTO ho zq' kk=>?_
  obtain ⟨c,u1,hc1,rfl⟩:=px
  obtain ⟨d,u2,hd1,rfl⟩:=py
  refine ⟨_,rfl,?_⟩
  refine wpAny_letOwnedTupleGo_enum (s:={ s with heap:=h',toks:=tk }) ho fun h2 he2 hs2=>?_
  have elt:e < s.heap.objs.size:=Heap.lt_size he
  have nTe:T≠e:=Nat.ne_of_gt (Nat.lt_of_lt_of_le elt hTs)
  have nOe:O≠e:=Nat.ne_of_gt (Nat.lt_of_lt_of_le elt (Nat.le_of_lt (Nat.lt_of_le_of_lt hTs hTO)))
  have up:∀ b o,b≠e->h'.get? b=some o->h2.get? b=some o:=fun b o n q=>(hs2.2 b n).trans q
  have kk2:∀ b o,b ∉ [e,z,TI,TO,i1,i2]->s.heap.get? b=some o->h2.get? b=some o:=fun b o hb q=>by
   have hb':b≠e/\b≠z/\b≠TI/\b≠TO/\b≠i1/\b≠i2:=by simpa using hb
   exact up b o hb'.1 (kk b o hb'.1 hb'.2.1 hb'.2.2.2.1 hb'.2.2.2.2.1 hb'.2.2.2.2.2 q)
  have hT2:=up _ _ nTe hT
  have hO2:=up _ _ nOe hO
  have fH:∀ b,s.heap.objs.size<=b->H b=none:=fun b hb=>I.hok.fresh hb
  have hOs:s.heap.objs.size<=O:=Nat.le_of_lt (Nat.lt_of_le_of_lt hTs hTO)
  have I1:Inv X pins σ (upd H T (.tup [sign c,sign d])) { s with heap:=h2,toks:=tk }:=I.newTup (ch:=[e,z,TI,TO,i1,i2]) (t':=tk) (its:=[.str ⟨#[c]⟩ u1,.str ⟨#[d]⟩ u2]) hf kk2 hTs (.cons ⟨u1,rfl⟩ (.cons ⟨u2,rfl⟩ .nil)) ⟨⟨_,hT2,rfl,_,rfl⟩,_,hT2,rfl⟩ (by show 2<=sizeLine;decide)
  have nO:upd H T (.tup [sign c,sign d]) O=none:=by rw [qe (Nat.ne_of_gt hTO)];exact fH O hOs
  obtain ⟨_,f1,f2,f3,f4,f5⟩:=I.fpOk (H':=upd H T (.tup [sign c,sign d])) hOs nO
  have f6:X.s₀.heap.get? O=none:=by
   cases q:X.s₀.heap.get? O with
   | none=>rfl
   | some o=>exact absurd (Heap.lt_size q) (Nat.not_lt.mpr (Nat.le_trans I.sz hOs))
  have I2:Inv X pins σ (upd (upd H T (.tup [sign c,sign d])) O (.tup [.int i,.ref T])) { s with heap:=h2,toks:=tk }:=I1.track nO f6 f1 f4 f5 ⟨by show 2<=sizeLine;decide,[.int i uu,.ref T],.cons ⟨uu,rfl⟩ (.cons rfl .nil),⟨_,hO2,rfl,_,rfl⟩,_,hO2,rfl⟩
  refine ⟨.ref O,_,I2,rfl,⟨T,O,c,d,fH T hTs,fH O hOs,Nat.ne_of_lt hTO,hc1,hd1,rfl,rfl⟩,⟨⟨_,by simpa using he2⟩,?_⟩,fun b hb=>?_⟩
  ·obtain ⟨ti,⟨a0,b0,to_⟩,⟨o1,e1,r1⟩,⟨o2,e2,r2⟩,v,f,hz,hv⟩:=zq'
   exact ⟨up _ _ ne.2.1.symm ti,⟨_,_,up _ _ ne.2.2.1.symm to_⟩,⟨o1,up _ _ ne.2.2.2.1.symm e1,r1⟩,⟨o2,up _ _ ne.2.2.2.2.symm e2,r2⟩,v,f,up _ _ ne.1.symm hz,hv⟩
  ·have hbl:b < s.heap.objs.size:=by
    obtain ⟨ti,⟨a0,b0,to_⟩,⟨o1,e1,_⟩,⟨o2,e2,_⟩,v,f,hz,hv⟩:=zq
    have hb':b=e\/b=z\/b=TI\/b=TO\/b=i1\/b=i2:=by simpa using hb
    rcases hb' with r | r | r | r | r | r <;> rw [r]
    ·exact elt
    ·exact Heap.lt_size hz
    ·exact Heap.lt_size ti
    ·exact Heap.lt_size to_
    ·exact Heap.lt_size e1
    ·exact Heap.lt_size e2
   rw [qe (Nat.ne_of_lt (Nat.lt_of_lt_of_le hbl hOs)),qe (Nat.ne_of_lt (Nat.lt_of_lt_of_le hbl hTs))]
   exact (hf b hb).1
 done:=by
  intro X hP hw hK hc i pins s σ H E I hf st hg
  subst hP hw hK
  obtain ⟨⟨old,he⟩,zq⟩:=st
  have hend:i=x.cps.size\/(i < x.cps.size/\i=y.cps.size):=by
   have:i=min x.cps.size y.cps.size:=hg
   omega
  refine qei (I.ok.hd hc) (V6 i1 x t) (V6 i2 y u) D he zq hend fun h' tk kk=>⟨rfl,?_⟩
  have kk':∀ b o,b ∉ [z,TO,i1,i2]->s.heap.get? b=some o->h'.get? b=some o:=fun b o hb e=>by
   have hb':b≠z/\b≠TO/\b≠i1/\b≠i2:=by simpa using hb
   exact kk b o hb'.1 hb'.2.1 hb'.2.2.1 hb'.2.2.2 e
  refine I.step (t':=tk) (g':=s.gens) (d':=s.drawn) (ch:=[z,TO,i1,i2]) (fun b hb=>?_) (fun b o _ _ hc e _=>kk' b o hc e) (fun b o _ _ hc e _=>⟨o.slots,kk' b o hc e⟩) (fun _ _ _ _ n=>n)
   (fun b o hc e=>⟨o,kk' b o hc e⟩) (fun _ _ e=>e) (fun _ _ _ e=>e) (fun b ps e=>⟨#[],by rw [e];simp⟩) (fun m hm=>?_) (fun b u e=>?_) I.bare
  ·obtain ⟨_,a1,_,a2,a3,a4⟩:=hf b (by simp at hb ⊢;rcases hb with e | e | e | e <;> simp [e])
   exact ⟨a2,a1,a3,a4⟩
  ·obtain ⟨o,es,ep,ho,r⟩:=hm
   exact ⟨o,es,ep,kk' _ o (fun q=>(hf _ (by simp at q ⊢;rcases q with e | e | e | e <;> simp [e])).2.1 rfl) ho,r⟩
  ·have nch:∀ b u,H b=some u->b ∉ [z,TO,i1,i2]:=fun b u e hb=>by
    rw [(hf b (by simp at hb ⊢;rcases hb with e | e | e | e <;> simp [e])).1] at e;cases e
   refine (I.hok b u e).stay (fun c v hc q=>kk' c v ?_ q) (fun _ q=>q) fun _ _ q=>q
   rcases hc with z' | z'
   ·rw [z'];exact nch b u e
   ·exact nch c _ z'
 self:=fun _ _ _ _ _ st h=>by
  obtain ⟨⟨old,he⟩,_⟩:=st
  exact wpAny_pyIter_enum he h
def iEnZ (ta:TA):TI:=fun σ H R=>ta σ H fun vs H1=>∃ x y:Str,vs=[.str x,.str y]/\R (ItEZ x y) H1
theorem qbo {X:Cx} {e1 e2:Expr} {ta:TA} {elts:List Expr} {k:Nat} {tp p p2 pos pos2:Pos} (hg:Gl X "enumerate") (hm:X.mg "enumerate" = none) (hgz:Gl X "zip") (hmz:X.mg "zip" = none) (hl:PA X [e1,e2] ta)
  (hs:starEach [e1,e2] X.env=[(false,eval e1 X.env),(false,eval e2 X.env)]:=by rfl) (hs2:starEach [e2] X.env=[(false,eval e2 X.env)]:=by rfl)
  (he:starEach [.Call (.Name "zip" p2) [e1,e2] [] pos2] X.env=[(false,eval (.Call (.Name "zip" p2) [e1,e2] [] pos2) X.env)]:=by rfl) :
  PI X (.Tuple elts k tp) (.Call (.Name "enumerate" p) [.Call (.Name "zip" p2) [e1,e2] [] pos2] [] pos) (iEnZ ta):=by
 intro pins s σ H R I h
 refine Call_ (ld_blt I hg hm (by first | exact boot_enumerate | decide +kernel) ?_)
 refine PyProof.Rows.callWith_type1 ?_ he rfl
 rw [he]
 show wpAny _ _ (spliced ((false,eval (.Call (.Name "zip" p2) [e1,e2] [] pos2) X.env) :: backTo pos (starEach [] X.env))) _ _ s
 refine Calls.spliced_cons ?_
 refine wpAny_Call_Name_kw (ld_blt I hgz hmz (show bootBuiltins "zip" = some (.type "zip") by first | exact boot_zip | decide +kernel) (PyProof.Rows.callWith_type1 (thn (hl pos2 pins s σ H _ I h) fun us s1 ⟨vs,H1,I1,r1,q1⟩=>?_) (by rw [hs,hs2]) (by rw [hs2];rfl)))
 obtain ⟨x,y,rfl,q⟩:=q1
 obtain ⟨v1,v2,rfl,⟨t,rfl⟩,⟨u,rfl⟩⟩:=vals2 r1
 refine qbm fun h' hz' hTI hTO hi1 hi2 hsz kk=>?_
 refine Calls.spliced_nil ?_
 refine qbn (s:={ s1 with heap:=h' }) hz' fun h2 he2 hsz2 kk2=>?_
 have I2:Inv X pins σ H1 { s1 with heap:=h2 }:=I1.kept (t':=s1.toks) fun b o e=>kk2 b o (kk b o e)
 refine wpAny_pyIter_enum (s:={ s1 with heap:=h2 }) he2 ?_
 obtain ⟨o1,e1',r1'⟩:=hi1
 obtain ⟨o2,e2',r2'⟩:=hi2
 have D:ZipA (s1.heap.objs.size+4) (s1.heap.objs.size+2) (s1.heap.objs.size+3) s1.heap.objs.size (s1.heap.objs.size+1) s1.heap.objs.size (s1.heap.objs.size+1):=by
  constructor <;> simp
 refine ⟨h'.objs.size,[h'.objs.size,s1.heap.objs.size+4,s1.heap.objs.size+2,s1.heap.objs.size+3,s1.heap.objs.size,s1.heap.objs.size+1],_,_,H1,rfl,I2,
  qej x y t u _ _ _ _ _ _ D (by rw [hsz];simp),⟨⟨_,he2⟩,kk2 _ _ hTI,⟨_,_,kk2 _ _ hTO⟩,⟨o1,kk2 _ _ e1',r1'⟩,⟨o2,kk2 _ _ e2',r2'⟩,_,_,kk2 _ _ hz',.inl rfl⟩,fun c hb=>?_,q⟩
 have:s1.heap.objs.size<=c:=by
  have hb':c=h'.objs.size\/c=s1.heap.objs.size+4\/c=s1.heap.objs.size+2\/c=s1.heap.objs.size+3\/c=s1.heap.objs.size\/c=s1.heap.objs.size+1:=by simpa using hb
  rcases hb' with e | e | e | e | e | e <;> rw [e] <;> first | (rw [hsz];exact Nat.le_add_right _ _) | exact Nat.le_refl _ | exact Nat.le_add_right _ _
 exact I1.fpOk this (I1.hok.fresh this)
end L2
namespace L2
open PySem PySem.Spec PyProof.Rows
def tDispT (tk tv:TE):TE:=fun σ H Q=>∀ p,H p=none->tk σ (upd H p (.dT [])) fun x H1=>tv σ H1 fun y H2=>H2 p=some (.dT [])/\∃ (b:Addr) (k:List Key),x=.ref b/\H2 b=some (.tup (k.map kV))/\Q (.ref p) (upd H2 p (.dT [(k,y)]))
theorem qek {X:Cx} {pos:Pos} {k v:Expr} {tk tv:TE} (hu:X.A.units+1 < cLine) (hk:PE X k tk) (hv:PE X v tv):PE X (.Dict [some k] [v] pos) (tDispT tk tv):=by
 intro pins s σ H Q I q
 have hn:=I.hok.fresh (Nat.le_refl s.heap.objs.size)
 have I1:=I.laid (a:=s.heap.objs.size) (o:=.dT []) (h':=s.heap.push { cls:=.type "dict",data:=.dict #[] }) (t':=s.toks) (fun _ _ q=>Heap.get?_push_of_some _ q) (Nat.le_refl _) (qdw s.heap I.big)
 have hlen:(pairTrees [some k] [v] X.env pos).length=1:=pairTrees_length [some k] [v] X.env pos rfl rfl
 rw [arm_eval_Dict,zip_pairTrees [some k] [v] X.env pos rfl rfl,dictDisplay_pairs _ (fun z=>by rw [z] at hlen;cases hlen) (by rw [hlen];omega)]
 refine wpAny_bind (wpAny_standAt (wpAny_bind ?_))
 unfold subDict
 refine wpAny_bind (wpAny_alloc ?_)
 refine wpAny_bind (wpAny_holding ?_)
 rw [if_pos (by rw [hlen];omega)]
 refine wpAny_bind (pairTrees_cons_walk (thn (hk pins _ σ _ _ I1 (q _ hn)) fun u s1 ⟨x,H1,J1,rx,q1⟩=>thn (hv pins s1 σ H1 _ J1 q1) fun w2 s2 ⟨y,H2,I2,ry,q2⟩=>pairTrees_nil_walk ?_))
 obtain ⟨e,b,kk,rfl,eb,q3⟩:=q2
 cases (show u=Value.ref b from rx)
 obtain ⟨z,hd,xs,rel,dd⟩:=dt_of I2.hok e
 cases rel
 refine wpAny_holding (wpAny_bind ?_)
 rw [List.forIn_cons]
 refine wpAny_bind (wpAny_bind (wpAny_dictSet_heap (show X.A.units < cLine by omega) (key_of I2.hok eb) dd fun h' dd' hs=>wpAny_pure ?_))
 show wpAny _ _ (forIn [] _ _) _ _ _
 rw [List.forIn_nil]
 refine wpAny_pure (wpAny_pure (wpAny_pure (wpAny_pure ⟨.ref s.heap.objs.size,_,?_,rfl,q3⟩)))
 obtain ⟨qo,es,ep,hq,h2,h3,h4,_,h5⟩:=dd'
 refine Yk I2 (by rw [e];exact True.intro) hs ⟨qo,hq⟩ ⟨by show 1<=sizeLine;decide,hd,_,(KT.put (kvs:=[]) (xs:=[]) .nil kk eb ry).keeps fun c ys ec=>?_,qo,es,ep,hq,h2,h3,h4,h5⟩
 rw [qe (qh3 ec e (fun z=>nomatch z))]
 exact ec
end L2
namespace L2
open PySem PySem.Spec PyProof.Rows
def Itd (hi:Int) (n:Nat):It:=⟨fun i _=>i < n,fun i H x H'=>H'=H/\x=.int (hi - (i:Int)),fun i _=>n<=i⟩
def dwnV (hi:Int) (n:Nat):List V:=(List.range n).map fun (k:Nat)=>V.int (hi - (k:Int))
theorem dwnV_length (hi:Int) (n:Nat):(dwnV hi n).length=n:=by unfold dwnV;simp
theorem qcv {hi:Int} {n:Nat}:Sure (Itd hi n) (dwnV hi n) (fun _=>True) where
 go:=fun i H h _=>by rw [dwnV_length] at h;exact h
 yld:=fun i H x H' h _ y=>⟨y.1,by
  obtain ⟨_,rfl⟩:=y
  rw [dwnV_length] at h
  unfold dwnV
  rw [List.getElem?_map,List.getElem?_range h]
  rfl⟩
 stop:=fun H h=>by rw [dwnV_length];exact Nat.le_refl n
theorem qcw {P:Program} {w:World} {K:W.Frag} {tg:Expr} (it:Addr) (hi:Int) (n:Nat):Turn P w K tg (Itd hi n) [it] it (fun i h=>IsRangeIter h it (hi+(i:Nat) * (-1)) ((n:Int) - (i:Nat)) (-1)) where
 mem:=by simp
 obj:=fun i h st b hb=>by
  have e:b=it:=by simpa using hb
  subst e
  exact ⟨_,st,fun v z=>by
   have z':Data.fields _=Data.cell v:=z
   cases z'⟩
 keep:=fun i h h' st k=>k it (by simp) _ st
 item:=by
  intro X hP hw hK hc i pins s σ H E I hf st hg
  subst hP hw hK
  obtain ⟨f0,f1,f2,f3,f4,f5⟩:=hf it (by simp)
  have W:=Walks.range (prog:=X.prog) (w:=X.w) (I.ok.hd hc) it hi (-1) n
  refine W.item i s _ _ hg st fun v h' tk hv st' kk=>?_
  obtain ⟨t,rfl⟩:=hv
  have I1:Inv X pins σ H { s with heap:=h',toks:=tk }:=I.turned (fun b o hb e=>kk b o (by simpa using hb) e) f0 f1 f3 f4 f5
  refine ⟨_,rfl,Yf (s:={ s with heap:=h',toks:=tk }) (n:="range_iterator") st' rfl rfl (by decide) ⟨.int (hi - (i:Int)),H,I1,⟨t,?_⟩,⟨rfl,rfl⟩,st',fun b hb=>(hf b hb).1⟩⟩
  rw [Int.mul_neg,Int.mul_one]
  rfl
 done:=by
  intro X hP hw hK hc i pins s σ H E I hf st hg
  subst hP hw hK
  obtain ⟨f0,f1,f2,f3,f4,f5⟩:=hf it (by simp)
  exact wpAny_pyNext_range_end (I.ok.hd hc) st (by have:n<=i:=hg;omega) fun h' eb=>⟨rfl,I.turned (t':=s.toks) (fun b o hb e=>eb b o hb e) f0 f1 f3 f4 f5⟩
 self:=fun _ _ _ _ _ st h=>wpAny_pyIter_rangeiter st h
def iRngD (ta:TA):TI:=fun σ H R=>ta σ H fun vs H1=>∃ i j:Int,vs=[.int i,.int j,.int (-1)]/\(-1000<=i/\i<=1000/\-1000<=j/\j<=1000)/\R (Itd i (i - j).toNat) H1
theorem qcx {X:Cx} {tg a b c:Expr} {ta:TA} {p pos:Pos} (hg:Gl X "range") (hm:X.mg "range" = none) (ha:PA X [a,b,c] ta) (hs:starEach [a,b,c] X.env=[(false,eval a X.env),(false,eval b X.env),(false,eval c X.env)]:=by rfl) (hs2:starEach [b,c] X.env=[(false,eval b X.env),(false,eval c X.env)]:=by rfl) :
  PI X tg (.Call (.Name "range" p) [a,b,c] [] pos) (iRngD ta):=by
 intro pins s σ H R I h
 refine Call_ (ld_blt I hg hm boot_range (PyProof.Rows.callWith_type1 (thn (ha pos pins s σ H _ I h) fun us s1 ⟨vs,H1,I1,r1,q1⟩=>?_) (by rw [hs,hs2]) (by rw [hs2];rfl)))
 obtain ⟨i,j,e,⟨q1,q2,q3,q4⟩,q⟩:=q1
 subst e
 cases r1 with
 | cons r rr =>
  cases rr with
  | cons r' rr =>
   cases rr with
   | cons r'' rr =>
    cases rr
    obtain ⟨t,rfl⟩:=r
    obtain ⟨u,rfl⟩:=r'
    obtain ⟨v,rfl⟩:=r''
    refine call_range_3 (by decide) ?_ (Or.inl (PyProof.noPylong_small (by omega)))
    refine wpAny_pyIter_range (IsRange.new ..) (W.small_down (by omega) (by omega) (by omega) (by omega)) ?_
    have I2:Inv X pins σ H1 { s1 with heap:=s1.heap.push { cls:=.type "range",data:=.fields #[.int i t,.int j u,.int (-1) v] },toks:=s1.toks }:=I1.kept fun b o e=>Heap.get?_push_of_some _ e
    refine ⟨(s1.heap.push { cls:=.type "range",data:=.fields #[.int i t,.int j u,.int (-1) v] }).objs.size,[(s1.heap.push { cls:=.type "range",data:=.fields #[.int i t,.int j u,.int (-1) v] }).objs.size],_,_,H1,rfl,
     I2.kept (t':=s1.toks) fun b o e=>Heap.get?_push_of_some _ e,qcw _ i (i - j).toNat,?_,fun b hb=>?_,q⟩
    ·have e1:i+((0:Nat):Int) * (-1)=i:=by simp
     have e2:(((i - j).toNat:Nat):Int) - ((0:Nat):Int)=Builtin.Range.rangeSize i j (-1):=by rw [W.rangeSize_downNat];simp
     show IsRangeIter _ _ (i+((0:Nat):Int) * (-1)) ((((i - j).toNat:Nat):Int) - ((0:Nat):Int)) (-1)
     rw [e1,e2]
     exact Heap.get?_push_size _ rfl
    ·have e:b=(s1.heap.push { cls:=.type "range",data:=.fields #[.int i t,.int j u,.int (-1) v] }).objs.size:=by simpa using hb
     subst e
     exact I2.fpOk (Nat.le_refl _) (I2.hok.fresh (Nat.le_refl _))
end L2
namespace Lw
open PySem L2
abbrev tx (w:List Nat):V:=.str ⟨w.toArray⟩
abbrev Rule:=Nat × List Nat
structure Good (first:List Nat) (rs:List Rule):Prop where
 few:rs.length<=8
 rise:(rs.map (·.1)).Pairwise (· < ·)
 abc:∀ q∈rs,97<=q.1/\q.1<=122
 wl:∀ q∈rs,q.2.length<=6
 win:∀ q∈rs,∀ c∈q.2,c∈rs.map (·.1)
 fl:first.length<=12
 fin:∀ c∈first,c∈rs.map (·.1)
inductive RulesAt (H:Hp):List Addr->List Rule->Prop where
 | nil:RulesAt H [] []
 | cons {p:Addr} {ps:List Addr} {c:Nat} {w:List Nat} {rs:List Rule}:H p=some (.tup [sign c,tx w])->RulesAt H ps rs->RulesAt H (p :: ps) ((c,w) :: rs)
structure BookAt (H:Hp) (t:Addr) (first:List Nat) (rs:List Rule):Prop where
 ex:∃ r ps,H t=some (.tup [tx first,.ref r])/\H r=some (.tup (ps.map V.ref))/\RulesAt H ps rs
def TupS (H H':Hp):Prop:=∀ c xs,H c=some (.tup xs)->H' c=some (.tup xs)
theorem TupS.refl (H:Hp):TupS H H:=fun _ _ h=>h
theorem TupS.trans {H H1 H2:Hp} (a:TupS H H1) (b:TupS H1 H2):TupS H H2:=fun c xs h=>b c xs (a c xs h)
theorem TupS.same {H H':Hp} (s:Same H H'):TupS H H':=fun c xs h=>s c _ h
theorem RulesAt.mono {H H':Hp} (s:TupS H H'):∀ {ps:List Addr} {rs:List Rule},RulesAt H ps rs->RulesAt H' ps rs
 | _,_,.nil=>.nil
 | _,_,.cons h r=>.cons (s _ _ h) (r.mono s)
theorem BookAt.mono {H H':Hp} {t:Addr} {first:List Nat} {rs:List Rule} (s:TupS H H') (b:BookAt H t first rs):BookAt H' t first rs:=by
 obtain ⟨r,ps,h1,h2,h3⟩:=b.ex
 exact ⟨r,ps,s _ _ h1,s _ _ h2,h3.mono s⟩
theorem RulesAt.len {H:Hp}:∀ {ps:List Addr} {rs:List Rule},RulesAt H ps rs->ps.length=rs.length
 | _,_,.nil=>rfl
 | _,_,.cons _ r=>congrArg (· + 1) r.len
theorem RulesAt.get {H:Hp}:∀ {ps:List Addr} {rs:List Rule} {i:Nat} {p:Addr},RulesAt H ps rs->ps[i]? = some p->∃ c w,rs[i]? = some (c,w)/\H p=some (.tup [sign c,tx w])
 | _,_,i,p,.nil,e=>by cases i <;> cases e
 | _,_,0,p,.cons (c:=c) (w:=w) h r,e=>by
  have e':=Option.some.inj e
  subst e'
  exact ⟨c,w,rfl,h⟩
 | _,_,i+1,p,.cons h r,e=>r.get (i:=i) e
theorem Same.add {H:Hp} {l:Addr} {o:HO} (h:H l=none):Same H (upd H l o):=fun b u e=>by rw [qe (ne_of_none e h)];exact e
theorem jc {α β:Type} {xs:List α} {i:Nat} {x:α} (f:α->β) (h:xs[i]? = some x):(xs.take (i+1)).map f=(xs.take i).map f++[f x]:=by
 rw [List.take_add_one,h,List.map_append]
 rfl
theorem take_all {α:Type} (xs:List α):xs.take xs.length=xs:=List.take_length
end Lw
namespace Lw
open PySem L2
theorem qcy:∀ (r:List Str) (acc:Array Nat),r.foldl (fun acc p=>acc++(#[]:Array Nat)++p.cps) acc=acc++((r.map fun p=>p.cps.toList).flatten).toArray
 | [],acc=>by simp
 | p :: r,acc=>by
  rw [List.foldl_cons,qcy r]
  apply Array.ext'
  simp
theorem qcz (ss:List Str):Txt.join ⟨#[]⟩ ss=⟨((ss.map fun p=>p.cps.toList).flatten).toArray⟩:=by
 unfold Txt.join Builtin.Str.glued
 cases ss with
 | nil=>rfl
 | cons a r =>
  show (⟨r.foldl (fun acc p=>acc++(#[]:Array Nat)++p.cps) a.cps⟩:Str)=_
  rw [qcy]
  congr 1
  apply Array.ext'
  simp
theorem jv (cs:List Nat):Txt.join ⟨#[]⟩ (cs.map fun c=>(⟨#[c]⟩:Str))=⟨cs.toArray⟩:=by
 rw [qcz]
 congr 2
 induction cs with
 | nil=>rfl
 | cons c r ih =>
  simp only [List.map_cons,List.flatten_cons]
  rw [ih]
  rfl
theorem yc (cs:List Nat):((cs.map fun c=>(⟨#[c]⟩:Str)).map (·.length)).sum=cs.length:=by
 induction cs with
 | nil=>rfl
 | cons c r ih =>
  simp only [List.map_cons,List.sum_cons,List.length_cons]
  rw [ih]
  show 1+r.length=r.length+1
  omega
theorem V7 (x:Str) (c:Nat):∀ (n a:Nat) (st:Array Nat × Nat),st.2<=a->st.1.size<=a->a+n<=x.length+1 ->
  (forIn (List.range' a n) st (StrLaws.occBody x ⟨#[c]⟩ x.length (x.length+1))).run.fst.size=st.1.size+((x.cps.toList.drop a).take n).count c
 | 0,a,st,_,_,_=>by
  show st.1.size=_
  simp
 | n+1,a,st,h1,h2,h3=>by
  rw [List.range'_succ,List.forIn_cons]
  have one:=StrLaws.subAt_one x c a
  unfold StrLaws.occBody
  by_cases hc:x.cps.toList[a]? = some c
  ·have hs:=one.mpr hc
   have hcond:(((st.fst.size < x.length+1/\st.snd<=a)/\a+(⟨#[c]⟩:Str).length<=x.length)/\Builtin.Str.subAt x ⟨#[c]⟩ a=true):=⟨⟨⟨by omega,h1⟩,hs.1⟩,hs.2⟩
   rw [if_pos hcond]
   show (forIn (List.range' (a+1) n) (st.1.push a,a+1) (StrLaws.occBody x ⟨#[c]⟩ x.length (x.length+1))).run.fst.size=_
   rw [V7 x c n (a+1) (st.1.push a,a+1) (Nat.le_refl _) (by simp only [Array.size_push];omega) (by omega)]
   obtain ⟨hlt,he⟩:=List.getElem?_eq_some_iff.mp hc
   rw [List.drop_eq_getElem_cons hlt,List.take_succ_cons,he,List.count_cons_self]
   simp only [Array.size_push]
   omega
  ·have hcond:¬ (((st.fst.size < x.length+1/\st.snd<=a)/\a+(⟨#[c]⟩:Str).length<=x.length)/\Builtin.Str.subAt x ⟨#[c]⟩ a=true):=fun z=>hc (one.mp ⟨z.1.2,z.2⟩)
   rw [if_neg hcond]
   show (forIn (List.range' (a+1) n) (st.1,st.2) (StrLaws.occBody x ⟨#[c]⟩ x.length (x.length+1))).run.fst.size=_
   rw [V7 x c n (a+1) (st.1,st.2) (by show st.2<=a+1;omega) (by show st.1.size<=a+1;omega) (by omega)]
   by_cases hlt:a < x.cps.toList.length
   ·rw [List.drop_eq_getElem_cons hlt,List.take_succ_cons,List.count_cons_of_ne]
    intro z
    exact hc (by rw [List.getElem?_eq_getElem hlt,z])
   ·rw [List.drop_eq_nil_of_le (by omega),List.drop_eq_nil_of_le (by omega)]
    simp
theorem count_one (w:List Nat) (c:Nat):Txt.count ⟨w.toArray⟩ ⟨#[c]⟩=(w.count c:Nat):=by
 unfold Txt.count
 rw [StrLaws.occ_eq,Array.length_toList]
 have e:=V7 ⟨w.toArray⟩ c ((⟨w.toArray⟩:Str).length+1 - 0) 0 (#[],0) (Nat.le_refl _) (Nat.le_refl _) (by omega)
 rw [e]
 simp only [Array.size_empty,Nat.zero_add,List.drop_zero,Nat.sub_zero]
 rw [List.take_of_length_le (by show w.length<=w.toArray.size+1;simp)]
end Lw
namespace Lw
open PySem L2
structure RowsAt (H0 H:Hp) (ls:List Addr) (vs:List (List V)):Prop where
 len:ls.length=vs.length
 at_:∀ (i:Nat) a v,ls[i]? = some a->vs[i]? = some v->H a=some (.lst v)
 new:∀ a∈ls,H0 a=none
 nd:ls.Nodup
theorem RowsAt.nil {H0 H:Hp}:RowsAt H0 H [] []:=⟨rfl,(fun i a v e _=>by simp at e),(fun a h=>by simp at h),List.nodup_nil⟩
theorem RowsAt.mono {H0 H H':Hp} {ls:List Addr} {vs:List (List V)} (r:RowsAt H0 H ls vs) (s:Same H H'):RowsAt H0 H' ls vs:=⟨r.len,fun i a v e1 e2=>s _ _ (r.at_ i a v e1 e2),r.new,r.nd⟩
theorem RowsAt.there {H0 H:Hp} {ls:List Addr} {vs:List (List V)} (r:RowsAt H0 H ls vs) {a:Addr} (h:a∈ls):∃ v,H a=some (.lst v)/\v∈vs:=by
 obtain ⟨i,e⟩:=List.mem_iff_getElem?.mp h
 have hi:i < vs.length:=by rw [<- r.len];exact (List.getElem?_eq_some_iff.mp e).1
 exact ⟨vs[i],r.at_ i a _ e (by simp [hi]),List.getElem_mem hi⟩
theorem RowsAt.snoc {H0 H H':Hp} {ls:List Addr} {vs:List (List V)} {a:Addr} {v:List V} (r:RowsAt H0 H ls vs) (s:Same H H') (h0:H0 a=none) (h1:H a=none) (h2:H' a=some (.lst v)):RowsAt H0 H' (ls++[a]) (vs++[v]):=by
 have na:a ∉ ls:=fun h=>by
  obtain ⟨w,e,_⟩:=r.there h
  rw [h1] at e;cases e
 refine ⟨by rw [List.length_append,List.length_append,r.len];rfl,fun i b u e1 e2=>?_,fun b hb=>?_,?_⟩
 ·by_cases hi:i < ls.length
  ·rw [List.getElem?_append_left hi] at e1
   rw [List.getElem?_append_left (by rw [<- r.len];exact hi)] at e2
   exact s _ _ (r.at_ i b u e1 e2)
  ·rw [List.getElem?_append_right (by omega)] at e1
   rw [List.getElem?_append_right (by rw [<- r.len];omega),<- r.len] at e2
   cases z:i - ls.length with
   | zero =>
    rw [z] at e1 e2
    cases e1
    cases e2
    exact h2
   | succ n=>rw [z] at e1;cases e1
 ·rcases List.mem_append.mp hb with z | z
  ·exact r.new b z
  ·have z:b=a:=by simpa using z
   rw [z];exact h0
 ·exact L2.qcc r.nd na
structure TabAt (H0 H:Hp) (l:Addr) (ls:List Addr) (vs:List (List V)):Prop where
 top:H l=some (.lst (ls.map V.ref))
 rows:RowsAt H0 H ls vs
 new:H0 l=none
 out:l ∉ ls
theorem TabAt.mono {H0 H H':Hp} {l:Addr} {ls:List Addr} {vs:List (List V)} (t:TabAt H0 H l ls vs) (s:Same H H'):TabAt H0 H' l ls vs:=⟨s _ _ t.top,t.rows.mono s,t.new,t.out⟩
theorem TabAt.elder {H00 H0 H:Hp} {l:Addr} {ls:List Addr} {vs:List (List V)} (t:TabAt H0 H l ls vs) (s:Same H00 H0):TabAt H00 H l ls vs:=⟨t.top,⟨t.rows.len,t.rows.at_,fun a h=>s.free (t.rows.new a h),t.rows.nd⟩,s.free t.new,t.out⟩
end Lw
namespace Lw
open PySem PySem.Spec L2 PyProof.Rows
abbrev one (c:Nat):Str:=⟨#[c]⟩
theorem Z5:∀ (a:Nat) (r:List Nat),risingS (one a) (r.map one)=true->(a :: r).Pairwise (·<=·)
 | a,[],_=>by simp
 | a,b :: r,h=>by
  have h':(!ltCps (one b).cps.toList (one a).cps.toList && risingS (one b) (r.map one))=true:=h
  obtain ⟨h1,h2⟩:=Bool.and_eq_true_iff.mp h'
  have ih:=Z5 b r h2
  have hab:a<=b:=by
   have h3:(decide (b < a) || (b == a && false))=false:=by
    have:ltCps [b] [a]=false:=by simpa using h1
    exact this
   have:=(Bool.or_eq_false_iff.mp h3).1
   have:=of_decide_eq_false this
   omega
  refine List.pairwise_cons.mpr ⟨fun x hx=>?_,ih⟩
  rcases List.mem_cons.mp hx with e | hx
  ·rw [e];exact hab
  ·exact Nat.le_trans hab ((List.pairwise_cons.mp ih).1 x hx)
theorem Jv {cs:List Nat} (h:sortedS (cs.map one)=true) (nd:cs.Nodup):cs.Pairwise (· < ·):=by
 have h1:cs.Pairwise (·<=·):=by
  cases cs with
  | nil=>exact List.Pairwise.nil
  | cons a r=>exact Z5 a r h
 exact (h1.and nd).imp fun ⟨a,b⟩=>Nat.lt_of_le_of_ne a b
theorem Jw {cs:List Nat} {ss:List Str} (h:ss.Perm (cs.map one)):∃ cs':List Nat,cs'.Perm cs/\ss=cs'.map one:=by
 refine ⟨ss.map fun z=>z.cps.getD 0 0,?_,?_⟩
 ·have:=h.map fun z:Str=>z.cps.getD 0 0
  rw [List.map_map] at this
  have e:(fun z:Str=>z.cps.getD 0 0) ∘ one=id:=by funext c;rfl
  rw [e,List.map_id] at this
  exact this
 ·rw [List.map_map]
  conv=>lhs;rw [<- List.map_id ss]
  refine List.map_congr_left fun z hz=>?_
  obtain ⟨c,_,rfl⟩:=List.mem_map.mp (h.mem_iff.mp hz)
  rfl
end Lw
namespace Lw
open PySem L2
theorem RulesAt.snoc {H:Hp} {p:Addr} {c:Nat} {w:List Nat} (h:H p=some (.tup [sign c,tx w])):∀ {ps:List Addr} {rs:List Rule},RulesAt H ps rs->RulesAt H (ps++[p]) (rs++[(c,w)])
 | _,_,.nil=>.cons h .nil
 | _,_,.cons h1 r=>.cons h1 (r.snoc h)
theorem zp {a b:Nat} (h:one a=one b):a=b:=by
 have:=congrArg (fun z:Str=>z.cps.getD 0 0) h
 exact this
end Lw
namespace Lw
def dot (xs ys:List Int):Int:=(List.zipWith (· * ·) xs ys).sum
theorem jt (x y:Int) (xs ys:List Int):dot (x :: xs) (y :: ys)=x * y+dot xs ys:=by
 unfold dot
 rw [List.zipWith_cons_cons,List.sum_cons]
theorem yd (ys:List Int):dot [] ys=0:=by unfold dot;simp
theorem j5 (xs:List Int):dot xs []=0:=by unfold dot;simp
def colAt (T:List (List Int)) (j:Nat):List Int:=T.map fun r=>r.getD j 0
def stepC (k:Nat) (T:List (List Int)) (c:List Int):List Int:=(List.range k).map fun j=>dot c (colAt T j)
def stepL (T:List (List Int)) (l:List Int):List Int:=T.map fun r=>dot r l
def cntN (k:Nat) (T:List (List Int)) (c:List Int):Nat->List Int
 | 0=>c
 | n+1=>stepC k T (cntN k T c n)
def lenN (k:Nat) (T:List (List Int)):Nat->List Int
 | 0=>List.replicate k 1
 | n+1=>stepL T (lenN k T n)
theorem qc0 {α:Type} (x:Int) (f g:α->Int):∀ (L:List α) (l:List Int),dot (L.map fun j=>x * f j+g j) l=x * dot (L.map f) l+dot (L.map g) l
 | [],l=>by simp [yd]
 | a :: L,[]=>by rw [j5,j5,j5];omega
 | a :: L,y :: l=>by
  rw [List.map_cons,List.map_cons,List.map_cons,jt,jt,jt,qc0 x f g L l,Int.add_mul,Int.mul_add,Int.mul_assoc]
  omega
theorem qae {α:Type}:∀ (L:List α) (l:List Int),dot (L.map fun _=>0) l=0
 | [],l=>yd _
 | a :: L,[]=>j5 _
 | a :: L,y :: l=>by
  rw [List.map_cons,jt,qae L l]
  omega
theorem qbp {r:List Int} {k:Nat} (h:r.length=k):(List.range k).map (fun j=>r.getD j 0)=r:=by
 subst h
 refine List.ext_getElem (by simp) fun i h1 h2=>?_
 simp [List.getElem_map]
 rw [List.getElem?_eq_getElem h2]
 rfl
theorem qaf (k:Nat) (l:List Int):∀ (T:List (List Int)) (c:List Int),(∀ r∈T,r.length=k)->c.length=T.length->dot c (stepL T l)=dot (stepC k T c) l
 | [],c,_,_=>by
  show dot c []=dot ((List.range k).map fun j=>dot c []) l
  simp only [j5]
  rw [qae]
 | r :: T,[],_,hc=>by cases hc
 | r :: T,x :: c,hT,hc=>by
  have ih:=qaf k l T c (fun r hr=>hT r (List.mem_cons_of_mem _ hr)) (Nat.succ.inj hc)
  show dot (x :: c) (dot r l :: stepL T l)=dot ((List.range k).map fun j=>dot (x :: c) (r.getD j 0 :: colAt T j)) l
  rw [jt,ih]
  simp only [jt]
  rw [qc0 x (fun j=>r.getD j 0) (fun j=>dot c (colAt T j)),qbp (hT r List.mem_cons_self)]
  rfl
theorem V8:∀ c:List Int,dot c (List.replicate c.length 1)=c.sum
 | []=>rfl
 | x :: c=>by
  rw [List.length_cons,List.replicate_succ,jt,V8 c,List.sum_cons]
  omega
theorem qc1 (k:Nat) (T:List (List Int)) (c:List Int):(stepC k T c).length=k:=by unfold stepC;simp
theorem Jb {k:Nat} {T:List (List Int)} {c:List Int} (h:c.length=k):∀ n,(cntN k T c n).length=k
 | 0=>h
 | n+1=>qc1 _ _ _
theorem V9 {k:Nat} {T:List (List Int)} (h:T.length=k):∀ n,(lenN k T n).length=k
 | 0=>by unfold lenN;simp
 | n+1=>by unfold lenN stepL;rw [List.length_map,h]
theorem parted {k:Nat} {T:List (List Int)} (hT:∀ r∈T,r.length=k) (hk:T.length=k):∀ (m a:Nat) (c:List Int),c.length=k->(cntN k T c (a+m)).sum=dot (cntN k T c a) (lenN k T m)
 | 0,a,c,hc=>by
  rw [Nat.add_zero]
  have:=V8 (cntN k T c a)
  rw [Jb hc] at this
  exact this.symm
 | m+1,a,c,hc=>by
  show _=dot (cntN k T c a) (stepL T (lenN k T m))
  rw [qaf k _ T _ hT (by rw [Jb hc,hk])]
  have ih:=parted hT hk m (a+1) c hc
  rw [show a+(m+1)=a+1+m by omega,ih]
  rfl
def Bd (e:Nat) (c:List Int):Prop:=∀ x∈c,0<=x/\x < 2 ^ e
def Sm (c:List Int):Prop:=∀ x∈c,0<=x/\x<=6
theorem dot_bd {e:Nat}:∀ (c d:List Int),Bd e c->Sm d->0<=dot c d/\dot c d<=(c.length:Int) * (6 * 2 ^ e)
 | [],d,_,_=>by rw [yd];simp
 | x :: c,[],_,_=>by
  rw [j5]
  refine ⟨Int.le_refl _,Int.mul_nonneg (Int.natCast_nonneg _) (Int.mul_nonneg (by decide) ?_)⟩
  exact Int.le_of_lt (Int.pow_pos (by decide))
 | x :: c,y :: d,hc,hd=>by
  obtain ⟨h1,h2⟩:=dot_bd c d (fun z hz=>hc z (List.mem_cons_of_mem _ hz)) (fun z hz=>hd z (List.mem_cons_of_mem _ hz))
  obtain ⟨a1,a2⟩:=hc x List.mem_cons_self
  obtain ⟨b1,b2⟩:=hd y List.mem_cons_self
  have m1:0<=x * y:=Int.mul_nonneg a1 b1
  have m2:x * y<=2 ^ e * 6:=Int.mul_le_mul (Int.le_of_lt a2) b2 b1 (Int.le_of_lt (Int.pow_pos (by decide)))
  rw [jt,List.length_cons]
  generalize (2:Int) ^ e=E at *
  refine ⟨by omega,?_⟩
  have:((c.length+1:Nat):Int) * (6 * E)=(c.length:Int) * (6 * E)+6 * E:=by
   rw [Int.natCast_add,Int.add_mul]
   simp
  rw [this]
  omega
theorem qgo {e:Nat} {c d:List Int} (hc:Bd e c) (hd:Sm d) (hl:c.length<=8):0<=dot c d/\dot c d < 2 ^ (e+6):=by
 obtain ⟨h1,h2⟩:=dot_bd c d hc hd
 refine ⟨h1,?_⟩
 have hp:(0:Int) < 2 ^ e:=Int.pow_pos (by decide)
 rw [Int.pow_add]
 generalize (2:Int) ^ e=E at *
 have h3:(c.length:Int) * (6 * E)<=8 * (6 * E):=Int.mul_le_mul_of_nonneg_right (by omega) (by omega)
 have h4:E * 2 ^ 6=64 * E:=by rw [Int.mul_comm];rfl
 rw [h4]
 omega
theorem qc2 {k e:Nat} {T:List (List Int)} {c:List Int} (hk:k<=8) (hT:∀ j,Sm (colAt T j)) (hl:c.length=k) (hc:Bd e c):∀ n,Bd (e+6 * n) (cntN k T c n)
 | 0=>hc
 | n+1=>fun x hx=>by
  unfold cntN stepC at hx
  obtain ⟨j,_,rfl⟩:=List.mem_map.mp hx
  exact qgo (qc2 hk hT hl hc n) (hT j) (by rw [Jb hl];exact hk)
theorem qfn {T:List (List Int)} (hT:∀ r∈T,Sm r) (j:Nat):Sm (colAt T j):=fun x hx=>by
 unfold colAt at hx
 obtain ⟨r,hr,rfl⟩:=List.mem_map.mp hx
 rw [List.getD_eq_getElem?_getD]
 cases e:r[j]? with
 | none=>simp
 | some y=>exact hT r hr y (List.mem_of_getElem? e)
end Lw
namespace Lw
open PySem L2
theorem qag {k:Int} {n:Nat} (h:k.natAbs < 2 ^ n):Builtin.Int.intBits k<=n:=by
 unfold Builtin.Int.intBits
 split
 ·exact Nat.zero_le _
 ·rename_i hz
  have h0:k.natAbs≠0:=by
   intro e
   apply hz
   simpa using Int.natAbs_eq_zero.mp e
  have:=(Nat.log2_lt h0).mpr h
  omega
def Bz (e:Nat) (c:List Int):Prop:=∀ x∈c,x.natAbs < 2 ^ e
theorem Bd.z {e:Nat} {c:List Int} (h:Bd e c):Bz e c:=fun x hx=>by
 obtain ⟨h1,h2⟩:=h x hx
 have h3:((x.natAbs:Nat):Int)=x:=Int.natAbs_of_nonneg h1
 have h4:((2 ^ e:Nat):Int)=(2:Int) ^ e:=by push_cast;rfl
 rw [<- h3,<- h4] at h2
 exact Int.ofNat_lt.mp h2
theorem Sm.bd {c:List Int} (h:Sm c):Bd 3 c:=fun x hx=>by
 have:=h x hx
 have e:(2:Int) ^ 3=8:=by decide
 rw [e]
 omega
structure TabV (H:Hp) (l:Addr) (ls:List Addr) (vs:List (List Int)):Prop where
 top:H l=some (.lst (ls.map V.ref))
 len:ls.length=vs.length
 at_:∀ (i:Nat) a v,ls[i]? = some a->vs[i]? = some v->H a=some (.lst (v.map V.int))
theorem TabV.mono {H H':Hp} {l:Addr} {ls:List Addr} {vs:List (List Int)} (t:TabV H l ls vs) (s:Same H H'):TabV H' l ls vs:=⟨s _ _ t.top,t.len,fun i a v e1 e2=>s _ _ (t.at_ i a v e1 e2)⟩
theorem TabV.get {H:Hp} {l:Addr} {ls:List Addr} {vs:List (List Int)} (t:TabV H l ls vs) {i:Nat} {v:List Int} (e:vs[i]? = some v):∃ a,ls[i]? = some a/\H a=some (.lst (v.map V.int)):=by
 have hi:i < ls.length:=by rw [t.len];exact (List.getElem?_eq_some_iff.mp e).1
 exact ⟨ls[i],List.getElem?_eq_getElem hi,t.at_ i _ v (List.getElem?_eq_getElem hi) e⟩
theorem TabV.get' {H:Hp} {l:Addr} {ls:List Addr} {vs:List (List Int)} (t:TabV H l ls vs) {i:Nat} {a:Addr} (e:ls[i]? = some a):∃ v,vs[i]? = some v/\H a=some (.lst (v.map V.int)):=by
 have hi:i < vs.length:=by rw [<- t.len];exact (List.getElem?_eq_some_iff.mp e).1
 exact ⟨vs[i],List.getElem?_eq_getElem hi,t.at_ i _ _ e (List.getElem?_eq_getElem hi)⟩
def tabI (rs:List Rule):List (List Int):=rs.map fun q=>rs.map fun q'=>((q.2.count q'.1:Nat):Int)
def c0 (rs:List Rule) (w:List Nat):List Int:=rs.map fun q=>((w.count q.1:Nat):Int)
theorem vc (rs:List Rule):(tabI rs).length=rs.length:=by unfold tabI;rw [List.length_map]
theorem qah (rs:List Rule) (f:List Nat):(c0 rs f).length=rs.length:=by unfold c0;rw [List.length_map]
theorem qai {rs:List Rule} {r:List Int} (h:r∈tabI rs):r.length=rs.length:=by
 unfold tabI at h
 obtain ⟨q,_,rfl⟩:=List.mem_map.mp h
 rw [List.length_map]
theorem qc3 {first:List Nat} {rs:List Rule} (hG:Good first rs) {r:List Int} (h:r∈tabI rs):Sm r:=fun x hx=>by
 unfold tabI at h
 obtain ⟨q,hq,rfl⟩:=List.mem_map.mp h
 obtain ⟨q',_,rfl⟩:=List.mem_map.mp hx
 have h1:=hG.wl q hq
 have h2:q.2.count q'.1<=q.2.length:=List.count_le_length
 omega
theorem c0_bd {first:List Nat} {rs:List Rule} (hG:Good first rs):Bd 4 (c0 rs first):=fun x hx=>by
 unfold c0 at hx
 obtain ⟨q,_,rfl⟩:=List.mem_map.mp hx
 have h2:first.count q.1<=first.length:=List.count_le_length
 have:=hG.fl
 have h3:(2:Int) ^ 4=16:=by decide
 rw [h3]
 omega
theorem qel {k i:Nat} {α:Type} (f:Nat->α) (h:i < k):((List.range k).take (i+1)).map f=((List.range k).take i).map f++[f i]:=jc f (List.getElem?_range h)
theorem Vt {n i:Nat} {x:V} (h:(rngV 0 n)[i]? = some x):i < n/\x=.int (i:Int):=by
 have h1:i < n:=by
  have:=(List.getElem?_eq_some_iff.mp h).1
  rwa [rngV_length] at this
 refine ⟨h1,?_⟩
 unfold rngV at h
 rw [List.getElem?_map,List.getElem?_range h1] at h
 have:=(Option.some.inj h).symm
 rw [this]
 show V.int (0+(i:Int))=_
 rw [Int.zero_add]
theorem qem (k:Nat):(List.range k).take k=List.range k:=by
 have:=take_all (List.range k)
 rwa [List.length_range] at this
def lk:List Nat->List Int->Nat->Int
 | c :: cs,n :: ns,x=>if c=x then n else lk cs ns x
 | _,_,_=>0
def dkI (cs:List Nat) (ns:List Int):List (Key × V):=List.zipWith (fun c n=>((Sum.inr (one c):Key),V.int n)) cs ns
theorem Yr:∀ {cs:List Nat} {ns:List Int} {c:Nat},ns.length=cs.length->c∈cs->valV (dkI cs ns) (Sum.inr (one c):Key)=some (.int (lk cs ns c))
 | a :: cs,n :: ns,c,hl,h=>by
  by_cases e:a=c
  ·subst e
   unfold valV lk
   show Option.map _ (List.find? _ (((Sum.inr (one a):Key),V.int n) :: dkI cs ns))=_
   rw [List.find?_cons_of_pos,if_pos rfl]
   ·rfl
   ·exact decide_eq_true rfl
  ·have hc:c∈cs:=by
    rcases List.mem_cons.mp h with z | z
    ·exact absurd z.symm e
    ·exact z
   have ih:=Yr (ns:=ns) (Nat.succ.inj hl) hc
   unfold valV at ih ⊢
   show Option.map _ (List.find? _ (((Sum.inr (one a):Key),V.int n) :: dkI cs ns))=some (V.int (if a=c then n else lk cs ns c))
   rw [List.find?_cons_of_neg,if_neg e]
   ·exact ih
   ·intro z
    have z':(Sum.inr (one a):Key)=Sum.inr (one c):=of_decide_eq_true z
    exact e (zp (Sum.inr.inj z'))
 | [],_,_,_,h=>by simp at h
 | _ :: _,[],_,hl,_=>by cases hl
theorem Jc:∀ {cs:List Nat} {ns:List Int},ns.length=cs.length->(dkI cs ns).map (·.1)=cs.map fun c=>(Sum.inr (one c):Key)
 | [],[],_=>rfl
 | c :: cs,n :: ns,h=>by
  show Sum.inr (one c) :: (dkI cs ns).map (·.1)=_
  rw [Jc (Nat.succ.inj h)]
  rfl
 | [],_ :: _,h=>by cases h
 | _ :: _,[],h=>by cases h
theorem qc4 {cs:List Nat} {ns:List Int} (h:ns.length=cs.length):(dkI cs ns).length=cs.length:=by
 have:=congrArg List.length (Jc h)
 rwa [List.length_map,List.length_map] at this
theorem qaj {cs:List Nat} {ns:List Int} {c:Nat} {n:Int} (h:ns.length=cs.length):dkI cs ns++[((Sum.inr (one c):Key),V.int n)]=dkI (cs++[c]) (ns++[n]):=by
 unfold dkI
 rw [List.zipWith_append h.symm]
 rfl
theorem Jx {cs:List Nat} (h:cs.Nodup):(cs.map fun c=>(Sum.inr (one c):Key)).Nodup :=
 List.Pairwise.map _ (fun a b hab z=>hab (zp (Sum.inr.inj z))) h
theorem Jy (c:Nat) (n:Int) (cs:List Nat) (ns:List Int) (hc:c ∉ cs):∀ w:List Nat,(w.map (lk (c :: cs) (n :: ns))).sum=(w.count c:Nat) * n+(w.map (lk cs ns)).sum - (w.count c:Nat) * lk cs ns c
 | []=>by simp
 | x :: w=>by
  have ih:=Jy c n cs ns hc w
  rw [List.map_cons,List.map_cons,List.sum_cons,List.sum_cons,ih]
  by_cases e:c=x
  ·subst e
   rw [List.count_cons_self]
   have:lk (c :: cs) (n :: ns) c=n:=by unfold lk;rw [if_pos rfl]
   rw [this]
   push_cast
   rw [Int.add_mul,Int.add_mul]
   omega
  ·rw [List.count_cons_of_ne (by simpa using fun z:x=c=>e z.symm)]
   have:lk (c :: cs) (n :: ns) x=lk cs ns x:=by
    show (if c=x then n else lk cs ns x)=_
    rw [if_neg e]
   rw [this]
   omega
theorem qfo:∀ {cs:List Nat} {ns:List Int} {c:Nat},c ∉ cs->lk cs ns c=0
 | [],_,_,_=>by unfold lk;rfl
 | _ :: _,[],_,_=>by unfold lk;rfl
 | a :: cs,n :: ns,c,h=>by
  unfold lk
  rw [if_neg fun z=>h (by rw [z];exact List.mem_cons_self)]
  exact qfo fun z=>h (List.mem_cons_of_mem _ z)
theorem qc5:∀ {cs:List Nat} {ns:List Int} (w:List Nat),cs.Nodup->ns.length=cs.length->(w.map (lk cs ns)).sum=dot (cs.map fun c=>((w.count c:Nat):Int)) ns
 | [],[],w,_,_=>by
  rw [j5]
  induction w with
  | nil=>rfl
  | cons x w ih =>
   rw [List.map_cons,List.sum_cons,ih]
   unfold lk
   rfl
 | c :: cs,n :: ns,w,nd,hl=>by
  rw [Jy c n cs ns (List.nodup_cons.mp nd).1 w,List.map_cons,jt,qc5 w (List.nodup_cons.mp nd).2 (Nat.succ.inj hl),qfo (List.nodup_cons.mp nd).1]
  omega
 | [],_ :: _,_,_,h=>by cases h
 | _ :: _,[],_,_,h=>by cases h
def ltr (rs:List Rule):List Nat:=rs.map (·.1)
theorem Good.nd {first:List Nat} {rs:List Rule} (h:Good first rs):(ltr rs).Nodup:=h.rise.imp fun a=>Nat.ne_of_lt a
theorem qgp (rs:List Rule) (w:List Nat):c0 rs w=(ltr rs).map fun c=>((w.count c:Nat):Int):=by unfold c0 ltr;rw [List.map_map];rfl
def sumN (T:List (List Int)) (w0:List Int):Nat->List Int
 | 0=>w0
 | n+1=>stepL T (sumN T w0 n)
theorem qen {k:Nat} {T:List (List Int)} {w0:List Int} (hT:T.length=k) (h:w0.length=k):∀ n,(sumN T w0 n).length=k
 | 0=>h
 | n+1=>by unfold sumN stepL;rw [List.length_map,hT]
theorem qc6 (k:Nat) (T:List (List Int)):∀ n,lenN k T n=sumN T (List.replicate k 1) n
 | 0=>rfl
 | n+1=>by unfold lenN sumN;rw [qc6 k T n]
end Lw
namespace Lw
open PySem L2
theorem atI_last {α:Type} {xs:List α} {j:Nat} {v:α} (hl:xs.length=j+1) (h:xs[j]? = some v):atI xs (-1)=some v:=by
 unfold atI ixN
 rw [if_neg (by omega),if_pos (by omega)]
 have:(-1+(xs.length:Int)).toNat=j:=by omega
 rw [this]
 exact h
theorem qak (xs:List V) (m:Nat):cutV xs none (some (m:Int))=xs.take m:=by
 unfold cutV HT.sIx
 rw [List.drop_zero]
 simp only [Nat.sub_zero]
 by_cases h:m<=xs.length
 ·congr 1
  first | (split <;> omega) | omega | simp [h] <;> omega
 ·rw [List.take_of_length_le (l:=xs) (i:=m) (by omega)]
  refine List.take_of_length_le ?_
  first | (split <;> omega) | omega
theorem TabV.snoc {H H':Hp} {l d:Addr} {ls:List Addr} {vs:List (List Int)} {v:List Int} (t:TabV H l ls vs) (s:∀ a∈ls,∀ o,H a=some o->H' a=some o) (h1:H' l=some (.lst (ls.map V.ref++[V.ref d]))) (h2:H' d=some (.lst (v.map V.int))):TabV H' l (ls++[d]) (vs++[v]):=by
 refine ⟨by rw [h1,List.map_append];rfl,by rw [List.length_append,List.length_append,t.len];rfl,fun i a u e1 e2=>?_⟩
 by_cases hi:i < ls.length
 ·rw [List.getElem?_append_left hi] at e1
  rw [List.getElem?_append_left (by rw [<- t.len];exact hi)] at e2
  exact s a (List.mem_of_getElem? e1) _ (t.at_ i a u e1 e2)
 ·rw [List.getElem?_append_right (by omega)] at e1
  rw [List.getElem?_append_right (by rw [<- t.len];omega),<- t.len] at e2
  cases z:i - ls.length with
  | zero =>
   rw [z] at e1 e2
   cases e1
   cases e2
   exact h2
  | succ n=>rw [z] at e1;cases e1
theorem TabV.take {H H':Hp} {l d:Addr} {ls:List Addr} {vs:List (List Int)} (m:Nat) (t:TabV H l ls vs) (s:Same H H') (h:H' d=some (.lst ((ls.map V.ref).take m))):TabV H' d (ls.take m) (vs.take m):=by
 refine ⟨by rw [h,List.map_take],by rw [List.length_take,List.length_take,t.len],fun i a u e1 e2=>?_⟩
 rw [List.getElem?_take] at e1 e2
 split at e1
 ·rename_i hi
  rw [if_pos hi] at e2
  exact s _ _ (t.at_ i a u e1 e2)
 ·cases e1
theorem jm {H:Hp} {l:Addr} {o:HO} {c:Addr} {u:HO} (h:H c=some u) (n:c≠l):upd H l o c=some u:=by rw [qe n];exact h
end Lw
namespace Lw
theorem qc7 (k:Nat) (T:List (List Int)) (c:List Int):((List.range k).map fun j=>colAt T j).map (fun r=>dot c r)=stepC k T c:=by rw [List.map_map];rfl
end Lw
namespace Lw
open PySem
end Lw
namespace Lw
open PySem L2
end Lw
namespace Lw
open PySem L2
def wd:List Rule->Nat->List Nat
 | [],_=>[]
 | q :: rs,c=>if q.1=c then q.2 else wd rs c
def nxt (rs:List Rule) (x:List Nat):List Nat:=(x.map (wd rs)).flatten
def rowN (rs:List Rule) (x:List Nat):Nat->List Nat
 | 0=>x
 | n+1=>nxt rs (rowN rs x n)
theorem zm:∀ {rs:List Rule} {c:Nat},c∈ltr rs->∃ q∈rs,q.1=c/\wd rs c=q.2
 | [],c,h=>by simp [ltr] at h
 | q :: rs,c,h=>by
  by_cases e:q.1=c
  ·exact ⟨q,List.mem_cons_self,e,by unfold wd;rw [if_pos e]⟩
  ·have h':c∈ltr rs:=by
    rcases List.mem_cons.mp (show c∈q.1 :: ltr rs from h) with z | z
    ·exact absurd z.symm e
    ·exact z
   obtain ⟨q',a,b,d⟩:=zm h'
   exact ⟨q',List.mem_cons_of_mem _ a,b,by unfold wd;rw [if_neg e];exact d⟩
theorem qir (f:List Nat->Int):∀ {rs:List Rule} {c:Nat},c∈ltr rs->lk (ltr rs) (rs.map fun q=>f q.2) c=f (wd rs c)
 | [],c,h=>by simp [ltr] at h
 | q :: rs,c,h=>by
  show (if q.1=c then f q.2 else lk (ltr rs) (rs.map fun q=>f q.2) c)=f (if q.1=c then q.2 else wd rs c)
  by_cases e:q.1=c
  ·rw [if_pos e,if_pos e]
  ·have h':c∈ltr rs:=by
    rcases List.mem_cons.mp (show c∈q.1 :: ltr rs from h) with z | z
    ·exact absurd z.symm e
    ·exact z
   rw [if_neg e,if_neg e]
   exact qir f h'
theorem qis {first:List Nat} {rs:List Rule} (hG:Good first rs) {x:List Nat} (hx:∀ c∈x,c∈ltr rs):∀ c∈nxt rs x,c∈ltr rs:=fun c hc=>by
 unfold nxt at hc
 obtain ⟨l,hl,hc⟩:=List.mem_flatten.mp hc
 obtain ⟨a,ha,rfl⟩:=List.mem_map.mp hl
 obtain ⟨q,hq,_,e⟩:=zm (hx a ha)
 rw [e] at hc
 exact hG.win q hq c hc
theorem zr {first:List Nat} {rs:List Rule} (hG:Good first rs) {x:List Nat} (hx:∀ c∈x,c∈ltr rs):∀ n,∀ c∈rowN rs x n,c∈ltr rs
 | 0=>hx
 | n+1=>qis hG (zr hG hx n)
theorem Z6 {rs:List Rule} (d:Nat):∀ {x:List Nat},(∀ c∈x,c∈ltr rs)->(((nxt rs x).count d:Nat):Int)=(x.map (lk (ltr rs) (rs.map fun q=>((q.2.count d:Nat):Int)))).sum
 | [],_=>rfl
 | c :: x,h=>by
  have ih:=Z6 (rs:=rs) d (x:=x) fun c hc=>h c (List.mem_cons_of_mem _ hc)
  have e:nxt rs (c :: x)=wd rs c++nxt rs x:=by unfold nxt;rw [List.map_cons,List.flatten_cons]
  rw [e,List.count_append,List.map_cons,List.sum_cons,<- ih,qir (fun w=>((w.count d:Nat):Int)) (h c List.mem_cons_self)]
  push_cast
  rfl
theorem qfp {first:List Nat} {rs:List Rule} (hG:Good first rs):∀ {x:List Nat},(∀ c∈x,c∈ltr rs)->(nxt rs x).length<=6 * x.length
 | [],_=>Nat.le_refl _
 | c :: x,h=>by
  have ih:=qfp hG (x:=x) fun c hc=>h c (List.mem_cons_of_mem _ hc)
  have e:nxt rs (c :: x)=wd rs c++nxt rs x:=by unfold nxt;rw [List.map_cons,List.flatten_cons]
  obtain ⟨q,hq,_,e2⟩:=zm (h c List.mem_cons_self)
  have:=hG.wl q hq
  rw [e,List.length_append,e2,List.length_cons]
  omega
theorem qeo (rs:List Rule) {j:Nat} {q:Rule} (h:rs[j]? = some q):colAt (tabI rs) j=rs.map fun p=>((p.2.count q.1:Nat):Int):=by
 unfold colAt tabI
 rw [List.map_map]
 refine List.map_congr_left fun p _=>?_
 show (rs.map fun q'=>((p.2.count q'.1:Nat):Int)).getD j 0=_
 rw [List.getD_eq_getElem?_getD,List.getElem?_map,h]
 rfl
theorem Z7 {first:List Nat} {rs:List Rule} (hG:Good first rs) (ns:List Int) (hl:ns.length=rs.length) (x:List Nat):(x.map (lk (ltr rs) ns)).sum=dot (c0 rs x) ns:=by
 rw [qc5 x hG.nd (by rw [hl];unfold ltr;rw [List.length_map]),qgp]
theorem qit {first:List Nat} {rs:List Rule} (hG:Good first rs) {x:List Nat} (hx:∀ c∈x,c∈ltr rs):c0 rs (nxt rs x)=stepC rs.length (tabI rs) (c0 rs x):=by
 refine List.ext_getElem? fun j=>?_
 unfold stepC
 rw [List.getElem?_map]
 by_cases hj:j < rs.length
 ·have e:=List.getElem?_eq_getElem hj
  rw [List.getElem?_range hj]
  unfold c0
  rw [List.getElem?_map,e]
  show some (((nxt rs x).count rs[j].1:Nat):Int)=some (dot (c0 rs x) (colAt (tabI rs) j))
  rw [qeo rs e,Z6 _ hx,Z7 hG _ (by rw [List.length_map])]
 ·rw [List.getElem?_eq_none (by rw [qah];omega),List.getElem?_eq_none (by rw [List.length_range];omega)]
  rfl
theorem Ys {first:List Nat} {rs:List Rule} (hG:Good first rs) {x:List Nat} (hx:∀ c∈x,c∈ltr rs):∀ n,cntN rs.length (tabI rs) (c0 rs x) n=c0 rs (rowN rs x n)
 | 0=>rfl
 | n+1=>by
  show stepC rs.length (tabI rs) (cntN rs.length (tabI rs) (c0 rs x) n)=c0 rs (nxt rs (rowN rs x n))
  rw [Ys hG hx n,qit hG (zr hG hx n)]
theorem qc8:∀ {cs:List Nat} {c:Nat},c∈cs->lk cs (List.replicate cs.length 1) c=1
 | [],c,h=>by simp at h
 | a :: cs,c,h=>by
  show (if a=c then (1:Int) else lk cs (List.replicate cs.length 1) c)=1
  by_cases e:a=c
  ·rw [if_pos e]
  ·rw [if_neg e]
   rcases List.mem_cons.mp h with z | z
   ·exact absurd z.symm e
   ·exact qc8 z
theorem qfq {first:List Nat} {rs:List Rule} (hG:Good first rs) {x:List Nat} (hx:∀ c∈x,c∈ltr rs):(c0 rs x).sum=(x.length:Int):=by
 have h1:=V8 (c0 rs x)
 have ll:(ltr rs).length=rs.length:=by unfold ltr;rw [List.length_map]
 rw [qah,<- Z7 hG _ (by rw [List.length_replicate]),<- ll] at h1
 rw [<- h1]
 clear h1
 induction x with
 | nil=>rfl
 | cons a x ih =>
  rw [List.map_cons,List.sum_cons,qc8 (hx a List.mem_cons_self),ih fun c hc=>hx c (List.mem_cons_of_mem _ hc)]
  rw [List.length_cons]
  push_cast
  omega
theorem qal (c:Nat):∀ (cs:List Nat) (l:List Int),c ∉ cs->dot (cs.map fun x=>(([c].count x:Nat):Int)) l=0
 | [],l,_=>yd _
 | x :: cs,[],_=>j5 _
 | x :: cs,y :: l,h=>by
  have hx:[c].count x=0:=List.count_eq_zero.mpr fun z=>h (by
   have:x=c:=by simpa using z
   rw [this];exact List.mem_cons_self)
  rw [List.map_cons,jt,qal c cs l (fun z=>h (List.mem_cons_of_mem _ z)),hx]
  simp
theorem qc9 (c:Nat):∀ (cs:List Nat) (l:List Int) (j:Nat) (v:Int),cs.Nodup->cs[j]? = some c->l[j]? = some v->dot (cs.map fun x=>(([c].count x:Nat):Int)) l=v
 | [],l,j,v,_,e,_=>by simp at e
 | x :: cs,[],j,v,_,_,e=>by simp at e
 | x :: cs,y :: l,0,v,nd,e1,e2=>by
  have e1':x=c:=Option.some.inj e1
  have e2':y=v:=Option.some.inj e2
  subst e1' e2'
  rw [List.map_cons,jt,qal _ cs l (List.nodup_cons.mp nd).1]
  have:[x].count x=1:=by simp
  rw [this]
  simp
 | x :: cs,y :: l,j+1,v,nd,e1,e2=>by
  have e1':cs[j]? = some c:=e1
  have hne:x≠c:=fun z=>(List.nodup_cons.mp nd).1 (by rw [z];exact List.mem_of_getElem? e1')
  have hx:[c].count x=0:=List.count_eq_zero.mpr fun z=>hne (by simpa using z)
  rw [List.map_cons,jt,qc9 c cs l j v (List.nodup_cons.mp nd).2 e1' e2,hx]
  simp
theorem qgq {first:List Nat} {rs:List Rule} (hG:Good first rs) (n:Nat):lenN rs.length (tabI rs) n=rs.map fun q=>(((rowN rs [q.1] n).length:Nat):Int):=by
 have ln:=V9 (k:=rs.length) (vc rs) n
 refine List.ext_getElem? fun j=>?_
 by_cases hj:j < rs.length
 ·have e:=List.getElem?_eq_getElem hj
  have e2:=List.getElem?_eq_getElem (l:=lenN rs.length (tabI rs) n) (i:=j) (by rw [ln];exact hj)
  have hx:∀ c∈[rs[j].1],c∈ltr rs:=fun c hc=>by
   rw [List.mem_singleton.mp hc]
   exact List.mem_map_of_mem (f:=(·.1)) (List.getElem_mem hj)
  have h1:=parted (k:=rs.length) (T:=tabI rs) (fun r hr=>qai hr) (vc rs) n 0 (c0 rs [rs[j].1]) (qah rs _)
  rw [Nat.zero_add,Ys hG hx,qfq hG (zr hG hx n)] at h1
  have h2:dot (c0 rs [rs[j].1]) (lenN rs.length (tabI rs) n)=(lenN rs.length (tabI rs) n)[j]'(by rw [ln];exact hj):=by
   rw [qgp]
   exact qc9 _ (ltr rs) _ j _ hG.nd (by unfold ltr;rw [List.getElem?_map,e];rfl) e2
  rw [e2,List.getElem?_map,e]
  show some _=some _
  rw [<- h2]
  exact congrArg some h1.symm
 ·rw [List.getElem?_eq_none (by rw [ln];omega),List.getElem?_eq_none (by rw [List.length_map];omega)]
end Lw
namespace Lw
open PySem L2
theorem qgr (rs:List Rule) (x y:List Nat):nxt rs (x++y)=nxt rs x++nxt rs y:=by
 unfold nxt
 rw [List.map_append,List.flatten_append]
theorem qam (rs:List Rule) (x y:List Nat):∀ n,rowN rs (x++y) n=rowN rs x n++rowN rs y n
 | 0=>rfl
 | n+1=>by
  show nxt rs (rowN rs (x++y) n)=nxt rs (rowN rs x n)++nxt rs (rowN rs y n)
  rw [qam rs x y n,qgr]
theorem qan (rs:List Rule):∀ n,rowN rs [] n=[]
 | 0=>rfl
 | n+1=>by
  show nxt rs (rowN rs [] n)=[]
  rw [qan rs n]
  rfl
theorem Z8 (rs:List Rule) (c:Nat) (x:List Nat) (n:Nat):rowN rs (c :: x) n=rowN rs [c] n++rowN rs x n:=qam rs [c] x n
theorem Jz (rs:List Rule) (x:List Nat):∀ n,rowN rs x (n+1)=rowN rs (nxt rs x) n
 | 0=>rfl
 | n+1=>by
  show nxt rs (rowN rs x (n+1))=nxt rs (rowN rs (nxt rs x) n)
  rw [Jz rs x n]
theorem qda (rs:List Rule) (c:Nat):nxt rs [c]=wd rs c:=by
 unfold nxt
 simp
def szN (rs:List Rule) (n c:Nat):Nat:=(rowN rs [c] n).length
theorem J0 (rs:List Rule) (n:Nat):∀ x:List Nat,(rowN rs x n).length=(x.map (szN rs n)).sum
 | []=>by rw [qan];rfl
 | c :: x=>by
  rw [Z8,List.length_append,J0 rs n x,List.map_cons,List.sum_cons]
  rfl
theorem qao (rs:List Rule) (n c:Nat):szN rs (n+1) c=(rowN rs (wd rs c) n).length:=by
 unfold szN
 rw [Jz,qda]
theorem qfr (g:Nat->Int):∀ {rs:List Rule} {c:Nat},c∈ltr rs->lk (ltr rs) (rs.map fun q=>g q.1) c=g c
 | [],c,h=>by simp [ltr] at h
 | q :: rs,c,h=>by
  show lk (q.1 :: ltr rs) (g q.1 :: rs.map fun q=>g q.1) c=g c
  unfold lk
  by_cases e:q.1=c
  ·rw [if_pos (by first | exact e | exact e.symm | (rw [e];exact beq_self_eq_true c)),e]
  ·have h':c∈ltr rs:=by
    rcases List.mem_cons.mp (show c∈q.1 :: ltr rs from h) with z | z
    ·exact absurd z.symm e
    ·exact z
   rw [if_neg (by first | exact e | exact fun z=>e z.symm | exact fun z=>e (eq_of_beq z))]
   exact qfr g h'
theorem qgs {first:List Nat} {rs:List Rule} (hG:Good first rs) (n:Nat) {c:Nat} (h:c∈ltr rs):lk (ltr rs) (lenN rs.length (tabI rs) n) c=((szN rs n c:Nat):Int):=by
 rw [qgq hG n]
 exact qfr (fun c=>((szN rs n c:Nat):Int)) h
def pick (f:Nat->Nat):List Nat->Nat->Nat × Nat
 | [],l=>(0,l)
 | c :: x,l=>if f c<=l then ((pick f x (l - f c)).1+1,(pick f x (l - f c)).2) else (0,l)
theorem qdb (f:Nat->Nat):∀ (x:List Nat) (j l:Nat) (c:Nat),x[j]? = some c->((x.take j).map f).sum<=l->l < ((x.take j).map f).sum+f c->pick f x l=(j,l - ((x.take j).map f).sum)
 | [],j,l,c,e,_,_=>by simp at e
 | d :: x,0,l,c,e,_,h2=>by
  have e':d=c:=Option.some.inj e
  subst e'
  have:¬ f d<=l:=by simp at h2;omega
  unfold pick
  rw [if_neg this]
  simp
 | d :: x,j+1,l,c,e,h1,h2=>by
  rw [List.take_succ_cons,List.map_cons,List.sum_cons] at h1 h2 ⊢
  unfold pick
  rw [if_pos (by omega),qdb f x j (l - f d) c e (by omega) (by omega)]
  show (j+1,l - f d - _)=(j+1,_)
  congr 1
  omega
theorem Yt (f:Nat->Nat):∀ (x:List Nat) (l:Nat),l < (x.map f).sum->∃ c,x[(pick f x l).1]? = some c/\(pick f x l).2 < f c/\((x.take (pick f x l).1).map f).sum+(pick f x l).2=l
 | [],l,h=>by simp at h
 | d :: x,l,h=>by
  rw [List.map_cons,List.sum_cons] at h
  unfold pick
  by_cases e:f d<=l
  ·rw [if_pos e]
   obtain ⟨c,h1,h2,h3⟩:=Yt f x (l - f d) (by omega)
   refine ⟨c,h1,h2,?_⟩
   rw [List.take_succ_cons,List.map_cons,List.sum_cons]
   omega
  ·rw [if_neg e]
   exact ⟨d,rfl,by omega,by simp⟩
theorem Za (rs:List Rule) (n:Nat):∀ (x:List Nat) (l c:Nat),l < (rowN rs x n).length->x[(pick (szN rs n) x l).1]? = some c->(rowN rs x n)[l]? = (rowN rs [c] n)[(pick (szN rs n) x l).2]?
 | [],l,c,h,e=>by simp at e
 | d :: x,l,c,h,e=>by
  rw [Z8] at h ⊢
  unfold pick at e ⊢
  by_cases q:szN rs n d<=l
  ·rw [if_pos q] at e ⊢
   rw [List.length_append] at h
   rw [List.getElem?_append_right q]
   exact Za rs n x (l - szN rs n d) c (by unfold szN at q ⊢;omega) e
  ·rw [if_neg q] at e ⊢
   have e':d=c:=Option.some.inj e
   subst e'
   rw [List.getElem?_append_left (show l < (rowN rs [d] n).length from Nat.lt_of_not_le q)]
def wayK (rs:List Rule):Nat->List Nat->Nat->List (Nat × Nat)
 | 0,_,_=>[]
 | k+1,x,l=>(x.getD (pick (szN rs k) x l).1 0,(pick (szN rs k) x l).1) :: wayK rs k (wd rs (x.getD (pick (szN rs k) x l).1 0)) (pick (szN rs k) x l).2
theorem qap (rs:List Rule):∀ (k:Nat) (x:List Nat) (l:Nat),(wayK rs k x l).length=k
 | 0,_,_=>rfl
 | k+1,x,l=>by
  show (wayK rs k _ _).length+1=k+1
  rw [qap rs k]
theorem Z9 (rs:List Rule):∀ (k:Nat) (x:List Nat) (l:Nat),l < (rowN rs x k).length->∃ p,(wayK rs (k+1) x l)[k]? = some p/\(rowN rs x k)[l]? = some p.1
 | 0,x,l,h=>by
  have h':l < (x.map (szN rs 0)).sum:=by rw [<- J0];exact h
  obtain ⟨c,h1,h2,h3⟩:=Yt (szN rs 0) x l h'
  have ec:x.getD (pick (szN rs 0) x l).1 0=c:=by rw [List.getD_eq_getElem?_getD,h1];rfl
  refine ⟨_,rfl,?_⟩
  have:=Za rs 0 x l c h h1
  rw [this]
  show [c][(pick (szN rs 0) x l).2]? = some (x.getD (pick (szN rs 0) x l).1 0)
  have h2':(pick (szN rs 0) x l).2 < 1:=h2
  have:(pick (szN rs 0) x l).2=0:=by omega
  rw [this,ec]
  rfl
 | k+1,x,l,h=>by
  have h':l < (x.map (szN rs (k+1))).sum:=by rw [<- J0];exact h
  obtain ⟨c,h1,h2,h3⟩:=Yt (szN rs (k+1)) x l h'
  have ec:x.getD (pick (szN rs (k+1)) x l).1 0=c:=by rw [List.getD_eq_getElem?_getD,h1];rfl
  rw [qao] at h2
  obtain ⟨p,p1,p2⟩:=Z9 rs k (wd rs c) (pick (szN rs (k+1)) x l).2 h2
  refine ⟨p,?_,?_⟩
  ·show (wayK rs (k+1) (wd rs (x.getD (pick (szN rs (k+1)) x l).1 0)) (pick (szN rs (k+1)) x l).2)[k]? = some p
   rw [ec]
   exact p1
  ·rw [Za rs (k+1) x l c h h1,Jz,qda]
   exact p2
end Lw
namespace Lw
open PySem L2
def gN (rs:List Rule) (g0:Nat->Nat):Nat->Nat->Nat
 | 0,c=>g0 c
 | m+1,c=>((wd rs c).map (gN rs g0 m)).sum
theorem qaq (rs:List Rule):∀ m c,gN rs (fun _=>1) m c=szN rs m c
 | 0,c=>rfl
 | m+1,c=>by
  show ((wd rs c).map (gN rs (fun _=>1) m)).sum=_
  rw [qao,J0]
  congr 1
  exact List.map_congr_left fun d _=>qaq rs m d
theorem natsum (f:Nat->Nat):∀ x:List Nat,(((x.map f).sum:Nat):Int)=(x.map fun c=>((f c:Nat):Int)).sum
 | []=>rfl
 | c :: x=>by
  rw [List.map_cons,List.sum_cons,List.map_cons,List.sum_cons,<- natsum f x]
  omega
theorem qiu {rs:List Rule} {ns:List Int} {g:Nat->Nat} (h:∀ c∈ltr rs,lk (ltr rs) ns c=((g c:Nat):Int)) {x:List Nat} (hx:∀ c∈x,c∈ltr rs):(x.map (lk (ltr rs) ns)).sum=(((x.map g).sum:Nat):Int):=by
 rw [natsum]
 congr 1
 exact List.map_congr_left fun d hd=>h d (hx d hd)
def wayG (rs:List Rule) (g:Nat->Nat->Nat):Nat->List Nat->Nat->List (Nat × Nat)
 | 0,_,_=>[]
 | k+1,x,l=>(x.getD (pick (g k) x l).1 0,(pick (g k) x l).1) :: wayG rs g k (wd rs (x.getD (pick (g k) x l).1 0)) (pick (g k) x l).2
theorem qar (rs:List Rule) (g:Nat->Nat->Nat):∀ (k:Nat) (x:List Nat) (l:Nat),(wayG rs g k x l).length=k
 | 0,_,_=>rfl
 | k+1,x,l=>by
  show (wayG rs g k _ _).length+1=k+1
  rw [qar rs g k]
def Way (rs:List Rule):List Nat->List (Nat × Nat)->Prop
 | _,[]=>True
 | x,p :: W=>x[p.2]? = some p.1/\Way rs (wd rs p.1) W
def lastL:List (Nat × Nat)->Nat->Nat
 | [],d=>d
 | p :: W,_=>lastL W p.1
theorem J4:∀ (W:List (Nat × Nat)) (d:Nat) {p:Nat × Nat},W[W.length - 1]? = some p->lastL W d=p.1
 | [],d,p,h=>by simp at h
 | [q],d,p,h=>by
  have:q=p:=Option.some.inj h
  subst this
  rfl
 | q :: r :: W,d,p,h=>by
  show lastL (r :: W) q.1=p.1
  exact J4 (r :: W) q.1 h
end Lw
namespace Lw
open PySem L2
theorem Yu (rs:List Rule) (m:Nat) (y:List Nat):(rowN rs y m).length=(y.map (gN rs (fun _=>1) m)).sum:=by
 rw [J0]
 congr 1
 exact List.map_congr_left fun c _=>(qaq rs m c).symm
theorem qfs (rs:List Rule):∀ (k:Nat) (x:List Nat) (l:Nat),wayG rs (gN rs fun _=>1) k x l=wayK rs k x l
 | 0,_,_=>rfl
 | k+1,x,l=>by
  have e:gN rs (fun _=>1) k=szN rs k:=funext fun c=>qaq rs k c
  show (x.getD (pick (gN rs (fun _=>1) k) x l).1 0,(pick (gN rs (fun _=>1) k) x l).1) :: wayG rs (gN rs fun _=>1) k (wd rs (x.getD (pick (gN rs (fun _=>1) k) x l).1 0)) (pick (gN rs (fun _=>1) k) x l).2=_
  rw [e,qfs rs k]
  rfl
theorem qas (rs:List Rule) (a:Nat) (x:List Nat) (e d:Nat) (h:e < (x.map (gN rs (fun _=>1) a)).sum):(rowN rs x a)[e]? = some (lastL (wayG rs (gN rs fun _=>1) (a+1) x e) d):=by
 obtain ⟨p,p1,p2⟩:=Z9 rs a x e (by rw [Yu];exact h)
 rw [p2,qfs]
 have:=J4 (wayK rs (a+1) x e) d (p:=p) (by rw [qap];exact p1)
 rw [this]
theorem Way.take {rs:List Rule}:∀ (W:List (Nat × Nat)) (x:List Nat) (k:Nat),Way rs x W->Way rs x (W.take k)
 | _,_,0,_=>by simp [Way]
 | [],x,k+1,_=>by simp [Way]
 | p :: W,x,k+1,h=>⟨h.1,Way.take W (wd rs p.1) k h.2⟩
theorem Way.drop {rs:List Rule}:∀ (W:List (Nat × Nat)) (x:List Nat) (k d:Nat),Way rs x W->k+1<=W.length->Way rs (wd rs (lastL (W.take (k+1)) d)) (W.drop (k+1))
 | [],x,k,d,_,h=>by simp at h
 | p :: W,x,0,d,h,_=>h.2
 | p :: W,x,k+1,d,h,hl=>Way.drop W (wd rs p.1) k p.1 h.2 (by simp at hl;omega)
end Lw
namespace Lw
open PySem L2
def top (i:Nat):Stmt:=PySem.Challenge.pw_linegrow_k38_shrunk_rows.main.body.getD i (.Pass ⟨0,0,0,0⟩)
abbrev sWho:Stmt:=top 7
abbrev sWin:Stmt:=top 8
abbrev sNag:Stmt:=top 9
abbrev sRul:Stmt:=top 11
abbrev sLet:Stmt:=top 12
abbrev sRep:Stmt:=top 14
abbrev sNgr:Stmt:=top 16
abbrev sGnu:Stmt:=top 17
abbrev sDif:Stmt:=top 18
abbrev sWay:Stmt:=top 19
abbrev sAlw:Stmt:=top 20
abbrev sShr:Stmt:=top 21
abbrev sTal:Stmt:=top 23
abbrev sTab:Stmt:=top 24
abbrev sCol:Stmt:=top 25
abbrev sCls:Stmt:=top 26
abbrev sPrs:Stmt:=top 27
abbrev sOao:Stmt:=top 28
abbrev sCou:Stmt:=top 29
abbrev sFcs:Stmt:=top 30
abbrev sLng:Stmt:=top 31
abbrev sTsm:Stmt:=top 32
abbrev sWba:Stmt:=top 33
abbrev sLsm:Stmt:=top 34
abbrev sSsm:Stmt:=top 35
abbrev sLns:Stmt:=top 36
abbrev sNpl:Stmt:=top 38
abbrev sWbh:Stmt:=top 39
abbrev sWyy:Stmt:=top 40
abbrev sLea:Stmt:=top 41
abbrev sPen:Stmt:=top 43
abbrev sTak:Stmt:=top 44
abbrev sMix:Stmt:=top 45
abbrev sHms:Stmt:=top 46
abbrev sWds:Stmt:=top 47
abbrev sHds:Stmt:=top 48
abbrev sRpd:Stmt:=top 49
abbrev sRwa:Stmt:=top 50
abbrev sGra:Stmt:=top 51
abbrev sLaw:Stmt:=top 52
end Lw
namespace Lw
open PySem L2
structure Gf (K:W.Frag) (mg:Str->Option Value) (x:Str) (f:Addr) (fd:FuncData) (ps:List Str):Prop where
 m:mg x=some (.ref f)
 k:W.keepIn K (.ref f)=true
 b:Binds K fd ps []
section
variable {P:Program} {w:World} {K:W.Frag} {mg:Str->Option Value} {base:Heap}
def spRul:Sp:=fun vs H Q _=>∃ (r:Addr) (ps:List Addr) (rs:List Rule),vs=[.ref r]/\H r=some (.tup (ps.map V.ref))/\RulesAt H ps rs/\rs.length<=8 /\
 ∀ l H',Same H H'->H l=none->H' l=some (.lst (rs.map fun q=>sign q.1))->Q (.ref l) H'
theorem qgt:(["rule"]:List Str).Nodup:=by decide +kernel
theorem scRul:FnScope ["rules"] ["rules"] (defScope sRul):=⟨rfl,rfl,rfl,by decide +kernel,rfl,by decide +kernel,by decide +kernel⟩
theorem qiv {f:Addr} {fd:FuncData} (F:Fun K "ruled_letters" "ruled_letters" sRul f fd):FnOk P w K mg base CX0 1 f fd ["rules"] spRul:=by
 refine F.ok scRul (fun vs H Q E h=>?_) (fun cdv A outer s H vs Q E hr h=>?_)
 ·obtain ⟨r,ps,rs,rfl,_⟩:=h
  rfl
 ·obtain ⟨r,ps,rs,rfl,hr1,hR,hl,k⟩:=h
  refine ⟨_,qg (qp (qx (N':=["rule"]) (ix:=[none]) rfl rfl (qbw (pv 0)) (fun _ _ _ _ _ _=>qi (i:=0) qgt rfl (Or.inl rfl)) (fun _ _ _ _ _ _=>qv)
   (fun _ _ _ _ _ _=>pe_ix (r:=rIxT K) Zo (pv 0) qf (fun _ _=>rfl)))),?_⟩
  refine ⟨_,rfl,r,rfl,⟨_,SqT.of hr1⟩,ze (yx (xs:=ps.map V.ref)) (by rw [List.length_map,hR.len];omega) (fun i ys τ H2=>H2=H/\ys=(rs.take i).map (fun q=>sign q.1)/\∃ v,τ=[v]) ⟨rfl,rfl,_,rfl⟩ ?_ ?_ ?_⟩
  ·rintro i ys τ H2 hi ⟨rfl,rfl,_⟩
   exact ⟨SqT.of hr1,by rw [List.length_map,List.length_take];omega⟩
  ·rintro i x ys τ H2 hx ⟨rfl,rfl,v,rfl⟩
   rw [List.getElem?_map] at hx
   cases e:ps[i]? with
   | none=>rw [e] at hx;cases hx
   | some p =>
    rw [e] at hx
    cases hx
    obtain ⟨c,w',e1,e2⟩:=hR.get e
    exact ⟨_,rfl,p,_,_,_,rfl,rfl,SqT.of e2,atI_nat (j:=0) rfl,rfl,(jc _ e1).symm,_,rfl⟩
  ·rintro ys τ H2 D ⟨rfl,rfl,_⟩ hD
   refine k D _ (Same.add hD) hD ?_
   rw [upd_same,List.length_map,hR.len,take_all]
def spLet:Sp:=fun vs H Q _=>∃ (t:Addr) (first:List Nat) (rs:List Rule),vs=[.ref t]/\BookAt H t first rs/\rs.length<=8/\∀ H',Same H H'->Q (tx (rs.map (·.1))) H'
theorem scLet:FnScope ["book"] ["book"] (defScope sLet):=⟨rfl,rfl,rfl,by decide +kernel,rfl,by decide +kernel,by decide +kernel⟩
theorem qiw {f f1:Addr} {fd fd1:FuncData} (F:Fun K "letters" "letters" sLet f fd) (G:FnOk P w K mg base CX0 1 f1 fd1 ["rules"] spRul) (g:Gf K mg "ruled_letters" f1 fd1 ["rules"]):FnOk P w K mg base CX0 2 f fd ["book"] spLet:=by
 refine F.ok scLet (fun vs H Q E h=>?_) (fun cdv A outer s H vs Q E hr h=>?_)
 ·obtain ⟨t,first,rs,rfl,_⟩:=h
  rfl
 ·obtain ⟨t,first,rs,rfl,hB,hl,k⟩:=h
  refine ⟨_,qg (qp (qf3 PySem.F.plainAttrs_str PySem.F.slot_str_join PySem.F.type_str_join qcg j9 (qa (qh G hr rfl g.m g.k g.b .nil pass0 (qa (pe_ix Zo (pv 0) qf (fun _ _=>rfl)) qb)) qb))),?_⟩
  obtain ⟨r,ps,h1,h2,h3⟩:=hB.ex
  refine ⟨rfl,_,rfl,t,_,_,_,rfl,rfl,SqT.of h1,atI_nat (j:=1) rfl,r,ps,rs,rfl,h2,h3,hl,fun l H' s1 hl1 hl2=>?_⟩
  refine ⟨_,l,rs.map fun q=>(⟨#[q.1]⟩:Str),rfl,rfl,SqL.of (by rw [hl2,List.map_map];rfl),?_,?_⟩
  ·have e:(rs.map fun q=>(⟨#[q.1]⟩:Str))=(rs.map (·.1)).map fun c=>(⟨#[c]⟩:Str):=by rw [List.map_map];rfl
   rw [e,yc]
   simp only [List.length_map]
   show rs.length+rs.length * 0<=_
   omega
  ·have e:(rs.map fun q=>(⟨#[q.1]⟩:Str))=(rs.map (·.1)).map fun c=>(⟨#[c]⟩:Str):=by rw [List.map_map];rfl
   have e2:Txt.join (Str.ofString "") (rs.map fun q=>(⟨#[q.1]⟩:Str))=⟨(rs.map (·.1)).toArray⟩:=by
    rw [e]
    exact jv _
   rw [e2]
   exact k H' s1
def cnts (rs:List Rule) (w:List Nat):List V:=rs.map fun q=>V.int ((w.count q.1:Nat):Int)
def spTal:Sp:=fun vs H Q _=>∃ (t:Addr) (first:List Nat) (rs:List Rule) (w:List Nat),vs=[.ref t,tx w]/\BookAt H t first rs/\rs.length<=8/\∀ l H',Same H H'->H l=none->H' l=some (.lst (cnts rs w))->Q (.ref l) H'
theorem scTal:FnScope ["book","text"] ["book","text"] (defScope sTal):=⟨rfl,rfl,rfl,by decide +kernel,rfl,by decide +kernel,by decide +kernel⟩
theorem qix:(["letter","text"]:List Str).Nodup:=by decide +kernel
theorem qbq:typeOf (.builtin "str.count")=pure (.type "method_descriptor"):=by first | exact PySem.F.type_str_count | (show builtinType _=_;rw [builtinType_eq_fast];kernel_rfl)
theorem qiy {f f1:Addr} {fd fd1:FuncData} (F:Fun K "tally" "tally" sTal f fd) (G:FnOk P w K mg base CX0 2 f1 fd1 ["book"] spLet) (g:Gf K mg "letters" f1 fd1 ["book"]):FnOk P w K mg base CX0 3 f fd ["book","text"] spTal:=by
 refine F.ok scTal (fun vs H Q E h=>?_) (fun cdv A outer s H vs Q E hr h=>?_)
 ·obtain ⟨t,first,rs,w',rfl,_⟩:=h
  rfl
 ·obtain ⟨t,first,rs,w',rfl,hB,hl,k⟩:=h
  refine ⟨_,qg (qp (qx (N':=["letter","text"]) (ix:=[none,some 1]) rfl rfl (vh (qh G hr rfl g.m g.k g.b .nil pass0 (qa (pv 0) qb))) (fun _ _ _ _ _ _=>qi (i:=0) qix rfl (Or.inl rfl)) (fun _ _ _ _ _ _=>qv)
   (fun _ _ _ _ _ _=>show PE _ _ (tBM K _ _ _ _) from qf3 PySem.F.plainAttrs_str PySem.F.slot_str_count qbq qd3 (pv 1) (qa (pv 0) qb)))),?_⟩
  refine ⟨_,rfl,t,first,rs,rfl,hB,hl,fun H1 s1=>⟨_,rfl,ze jr (by rw [List.length_map];show (rs.map (·.1)).length<=_;rw [List.length_map];omega)
   (fun i ys τ H2=>H2=H1/\ys=cnts (rs.take i) w'/\∃ v,τ=[v,some (tx w')]) ⟨rfl,rfl,_,rfl⟩ ?_ ?_ ?_⟩⟩
  ·rintro i ys τ H2 hi ⟨rfl,rfl,_⟩
   refine ⟨trivial,?_⟩
   unfold cnts
   rw [List.length_map,List.length_take]
   omega
  ·rintro i x ys τ H2 hx ⟨rfl,rfl,v,rfl⟩
   have hx':((rs.map (·.1)).map sign)[i]? = some x:=hx
   rw [List.map_map,List.getElem?_map] at hx'
   cases e:rs[i]? with
   | none=>rw [e] at hx';cases hx'
   | some q =>
    rw [e] at hx'
    cases hx'
    refine ⟨_,rfl,rfl,_,rfl,⟨w'.toArray⟩,⟨#[q.1]⟩,rfl,rfl,rfl,?_,_,rfl⟩
    rw [count_one]
    unfold cnts
    exact (jc _ e).symm
  ·rintro ys τ H2 D ⟨rfl,rfl,_⟩ hD
   refine k D _ (s1.trans (Same.add hD)) (s1.free hD) ?_
   rw [upd_same]
   have e:(((⟨(rs.map (·.1)).toArray⟩:Str).cps.toList).map sign).length=rs.length:=by simp
   rw [e,take_all]
end
end Lw
namespace Lw
open PySem L2
section
variable {P:Program} {w:World} {K:W.Frag} {mg:Str->Option Value} {base:Heap}
def tabV (rs:List Rule):List (List V):=rs.map fun q=>cnts rs q.2
def spTab:Sp:=fun vs H Q _=>∃ (t:Addr) (first:List Nat) (rs:List Rule),vs=[.ref t]/\BookAt H t first rs/\rs.length<=8/\∀ l ls H',Same H H'->TabAt H H' l ls (tabV rs)->Q (.ref l) H'
theorem scTab:FnScope ["book"] ["book"] (defScope sTab):=⟨rfl,rfl,rfl,by decide +kernel,rfl,by decide +kernel,by decide +kernel⟩
theorem qiz:(["rule","book"]:List Str).Nodup:=by decide +kernel
theorem qi0 {f f1:Addr} {fd fd1:FuncData} (F:Fun K "table" "table" sTab f fd) (G:FnOk P w K mg base CX0 3 f1 fd1 ["book","text"] spTal) (g:Gf K mg "tally" f1 fd1 ["book","text"]):FnOk P w K mg base CX0 4 f fd ["book"] spTab:=by
 refine F.ok scTab (fun vs H Q E h=>?_) (fun cdv A outer s H vs Q E hr h=>?_)
 ·obtain ⟨t,first,rs,rfl,_⟩:=h
  rfl
 ·obtain ⟨t,first,rs,rfl,hB,hl,k⟩:=h
  refine ⟨_,qg (qp (qx (N':=["rule","book"]) (ix:=[none,some 0]) rfl rfl (qbw (pe_ix Zo (pv 0) qf (fun _ _=>rfl))) (fun _ _ _ _ _ _=>qi (i:=0) qiz rfl (Or.inl rfl)) (fun _ _ _ _ _ _=>qv)
   (fun _ _ _ _ _ _=>qh G hr rfl g.m g.k g.b .nil pass0 (qa (pv 1) (qa (pe_ix (r:=rIxT K) Zo (pv 0) qf (fun _ _=>rfl)) qb))))),?_⟩
  obtain ⟨r,ps,h1,h2,h3⟩:=hB.ex
  refine ⟨_,rfl,t,_,_,_,rfl,rfl,SqT.of h1,atI_nat (j:=1) rfl,r,rfl,⟨_,SqT.of h2⟩,ze (yx (xs:=ps.map V.ref)) (by rw [List.length_map,h3.len];omega)
   (fun i ys τ H2=>Same H H2/\(∃ v,τ=[v,some (.ref t)])/\∃ ls,ys=ls.map V.ref/\RowsAt H H2 ls ((rs.take i).map fun q=>cnts rs q.2)) ⟨Same.refl _,⟨_,rfl⟩,[],rfl,RowsAt.nil⟩ ?_ ?_ ?_⟩
  ·rintro i ys τ H2 hi ⟨s2,_,ls,rfl,hR⟩
   refine ⟨SqT.of (s2 _ _ h2),?_⟩
   rw [List.length_map,hR.len,List.length_map,List.length_take]
   omega
  ·rintro i x ys τ H2 hx ⟨s2,⟨v,rfl⟩,ls,rfl,hR⟩
   rw [List.getElem?_map] at hx
   cases e:ps[i]? with
   | none=>rw [e] at hx;cases hx
   | some p =>
    rw [e] at hx
    cases hx
    obtain ⟨c,w',e1,e2⟩:=h3.get e
    refine ⟨_,rfl,_,rfl,p,_,_,_,rfl,rfl,SqT.of (s2 _ _ e2),atI_nat (j:=1) rfl,t,first,rs,w',rfl,hB.mono (TupS.same s2),hl,fun l H3 s3 n3 e3=>?_⟩
    refine ⟨s2.trans s3,⟨_,rfl⟩,ls++[l],by rw [List.map_append];rfl,?_⟩
    rw [jc _ e1]
    exact hR.snoc s3 (s2.free n3) n3 e3
  ·rintro ys τ H2 D ⟨s2,_,ls,rfl,hR⟩ hD
   have e:(ps.map V.ref).length=rs.length:=by rw [List.length_map,h3.len]
   rw [e,take_all] at hR
   refine k D ls _ (s2.trans (Same.add hD)) ⟨upd_same,hR.mono (Same.add hD),s2.free hD,fun z=>?_⟩
   obtain ⟨v,q,_⟩:=hR.there z
   rw [hD] at q;cases q
end
end Lw
namespace Lw
open PySem L2
structure PenAt (H:Hp) (p:Addr) (b:Nat):Prop where
 ex:∃ (a n f:Int),H p=some (.lst [.int a,.int n,.int f])/\0<=n/\n<=b/\0<=f/\f < 2147483647
theorem PenAt.mono {H:Hp} {p:Addr} {b b':Nat} (h:PenAt H p b) (hb:b<=b'):PenAt H p b':=by
 obtain ⟨a,n,f,e,h1,h2,h3⟩:=h.ex
 exact ⟨a,n,f,e,h1,by omega,h3⟩
def But (p:Addr) (H H':Hp):Prop:=∀ c o,H c=some o->c≠p->H' c=some o
theorem But.refl (p:Addr) (H:Hp):But p H H:=fun _ _ h _=>h
theorem But.trans {p:Addr} {H H1 H2:Hp} (a:But p H H1) (b:But p H1 H2):But p H H2:=fun c o h n=>b c o (a c o h n) n
theorem But.same {p:Addr} {H H':Hp} (s:Same H H'):But p H H':=fun c o h _=>s c o h
theorem But.free {p:Addr} {H H':Hp} (e:But p H H') {l:Addr} (n:l≠p) (h:H' l=none):H l=none:=by
 cases q:H l with
 | none=>rfl
 | some o=>rw [e l o q n] at h;cases h
section
variable {P:Program} {w:World} {K:W.Frag} {mg:Str->Option Value} {base:Heap}
def spTak:Sp:=fun vs H Q _=>∃ (p:Addr) (b:Nat) (size:Int),vs=[.ref p,.int size]/\PenAt H p b/\b<=1000000/\0 < size/\size<=10000000000000000000000000000000000000000000000000000000000000000000000/\∀ (v:Int) H',0<=v->v < size->PenAt H' p (b+1)->(∀ c,c≠p->H' c=H c)->Q (.int v) H'
theorem scTak:FnScope ["_law_pen_here","_law_size","_law_found","_law_number"] ["_law_pen_here","_law_size"] (defScope sTak):=⟨rfl,rfl,rfl,by decide +kernel,rfl,by decide +kernel,by decide +kernel⟩
theorem qi1 {f:Addr} {fd:FuncData} (F:Fun K "_law_take" "_law_take" sTak f fd):FnOk P w K mg base CX0 1 f fd ["_law_pen_here","_law_size"] spTak:=by
 refine F.ok scTak (fun vs H Q E h=>?_) (fun cdv A outer s H vs Q E hr h=>?_)
 ·obtain ⟨p,b,size,rfl,_⟩:=h
  rfl
 ·obtain ⟨p,b,size,rfl,hp,hb,h1,h2,k⟩:=h
  obtain ⟨a,n,g,e,n1,n2,g1,g2⟩:=hp.ex
  refine ⟨_,qd (vm (qz qb0 (pe_ix ve (pv 0) qf (fun _ _=>rfl)) qf (nomark _))
    (qd (qj (i:=2) scTak.nd rfl (Or.inl rfl) (je yt (pe_ix ve (pv 0) qf (fun _ _=>rfl)) (pv 1)))
    (qd (qfe (je qd5 (pe_ix ve (pv 0) qf (fun _ _=>rfl)) (pv 1)) (qfd (pv 0) qf qaa))
    (qg (qp (pv 2))))) jh)
   (qd (qfe (je vw (pe_ix ve (pv 0) qf (fun _ _=>rfl)) qf) (qfd (pv 0) qf qaa))
   (qd (qj (i:=3) scTak.nd rfl (Or.inl rfl) (je yt (je Vn (je vw (pe_ix ve (pv 0) qf (fun _ _=>rfl)) (je Vm qf (pe_ix ve (pv 0) qf (fun _ _=>rfl)))) qf) qf))
   (qd (qj (i:=3) scTak.nd rfl (Or.inl rfl) (je yt (je Vn (je vw (pv 3) (je Vm qf (pe_ix ve (pv 0) qf (fun _ _=>rfl)))) qf) qf))
   (qg (qp (je yt (je qf0 (pv 3) qf) (pv 1))))))),?_⟩
  refine ⟨_,rfl,p,_,_,_,rfl,rfl,SqL.of e,atI_nat (j:=0) rfl,_,_,rfl,rfl,_,rfl,?_⟩
  refine ite2 (fun hc=>?_) (fun hc=>?_)
  ·refine ⟨_,rfl,p,_,_,_,rfl,rfl,SqL.of e,atI_nat (j:=0) rfl,_,rfl,_,_,rfl,rfl,h1,?_⟩
   refine ⟨_,rfl,p,_,_,_,rfl,rfl,SqL.of e,atI_nat (j:=0) rfl,_,rfl,_,_,rfl,rfl,⟨h1,by omega⟩,?_⟩
   refine ⟨_,rfl,p,_,_,0,rfl,rfl,e,rfl,?_⟩
   refine ⟨_,rfl,?_⟩
   refine k _ _ (Int.emod_nonneg _ (by omega)) (Int.emod_lt_of_pos _ h1) ⟨_,n,g,upd_same,n1,by omega,g1,g2⟩ fun c hc=>qe hc
  ·refine ⟨_,rfl,p,_,_,_,rfl,rfl,SqL.of e,atI_nat (j:=1) rfl,_,_,rfl,rfl,_,rfl,p,_,_,1,rfl,rfl,e,rfl,?_⟩
   have e2:upd H p (.lst ([V.int a,V.int n,V.int g].set 1 (V.int (n+1)))) p=some (.lst [.int a,.int (n+1),.int g]):=upd_same
   refine ⟨_,rfl,p,_,_,_,rfl,rfl,SqL.of e2,atI_nat (j:=2) rfl,_,rfl,p,_,_,_,rfl,rfl,SqL.of e2,atI_nat (j:=1) rfl,_,_,rfl,rfl,.inl ⟨by decide,by decide⟩,_,_,rfl,rfl,_,_,rfl,rfl,⟨by decide,by decide,by omega⟩,_,_,rfl,rfl,(by show (0:Int) < 2147483647;decide),?_⟩
   generalize (g+7919 * (n+1)) ^ Int.toNat 5=X1
   refine ⟨_,rfl,_,rfl,p,_,_,_,rfl,rfl,SqL.of e2,atI_nat (j:=1) rfl,_,_,rfl,rfl,.inl ⟨by decide,by decide⟩,_,_,rfl,rfl,_,_,rfl,rfl,⟨by decide,by decide,by omega⟩,_,_,rfl,rfl,(by show (0:Int) < 2147483629;decide),?_⟩
   generalize (X1 % 2147483647+104729 * (n+1)) ^ Int.toNat 5=X2
   refine ⟨_,rfl,_,_,rfl,rfl,⟨by decide,by decide⟩,_,rfl,_,_,rfl,rfl,h1,?_⟩
   exact k _ _ (Int.emod_nonneg _ (by omega)) (Int.emod_lt_of_pos _ h1) ⟨a,n+1,g,e2,by omega,by omega,g1,g2⟩ fun c hc=>qe hc
def spPen (K:W.Frag):Sp:=fun vs H Q _=>∃ (a:Addr) (ns:List Int) (k:Int),vs=[.ref a,.int k]/\SqL K H a (ns.map V.int)/\ns.length<=63/\0<=k/\k<=100/\∀ p H',Same H H'->H p=none->PenAt H' p 0->Q (.ref p) H'
end
end Lw
namespace Lw
open PySem L2
section
variable {P:Program} {w:World} {K:W.Frag} {mg:Str->Option Value} {base:Heap}
theorem qep {xs:List V} {lo hi:Option Int} {x:V} (h:x∈cutV xs lo hi):x∈xs:=List.mem_of_mem_drop (List.mem_of_mem_take h)
theorem scPen:FnScope ["_law_script","_law_k","_law_fold","_law_cell","_law_great"] ["_law_script","_law_k"] (defScope sPen):=⟨rfl,rfl,rfl,by decide +kernel,rfl,by decide +kernel,by decide +kernel⟩
theorem qi2 {f:Addr} {fd:FuncData} (F:Fun K "_law_pen" "_law_pen" sPen f fd) (hlen:mg "len" = none):FnOk P w K mg base CX0 1 f fd ["_law_script","_law_k"] (spPen K):=by
 refine F.ok scPen (fun vs H Q E h=>?_) (fun cdv A outer s H vs Q E hr h=>?_)
 ·obtain ⟨a,ns,k,rfl,_⟩:=h
  rfl
 ·obtain ⟨a,ns,k,rfl,hS,hl,k0,k1,q⟩:=h
  refine ⟨_,qd (qj (i:=2) scPen.nd rfl (Or.inl rfl) (je vw (je Vm qf (pv 1)) qf))
   (qd (jy PassesOwn.never rfl (pi_list (zb qb5 (pv 0) yk (po_some qf))) (qi (i:=3) scPen.nd rfl (Or.inl rfl))
    (qg (qj (i:=2) scPen.nd rfl (Or.inl rfl) (je yt (je vw (je Vm (pv 2) qf) (pv 3)) qf))))
   (qd (qj (i:=4) scPen.nd rfl (Or.inl rfl) qf)
   (qd (vm (PW.pt (Y6 (qz qb0 (qm va (by rfl) hlen PySem.boot_len (qa (pv 0) qb)) qf (nomark _))
     (Vw (qz op_ge (pe_ix ve (pv 0) (je yt (pv 1) (qm va (by rfl) hlen PySem.boot_len (qa (pv 0) qb))) (fun _ _=>rfl)) (je Vn qf qf) (nomark _)))))
    (qg (qj (i:=4) scPen.nd rfl (Or.inl rfl) (je Y8 (pe_ix ve (pv 0) (je yt (pv 1) (qm va (by rfl) hlen PySem.boot_len (qa (pv 0) qb))) (fun _ _=>rfl)) (je Vn qf qf)))) jh)
   (qg (qp (j0 (qa (pv 4) (qa qf (qa (pv 2) qb))))))))),?_⟩
  refine ⟨_,rfl,_,_,rfl,rfl,.inl ⟨by decide,by decide⟩,_,_,rfl,rfl,?_⟩
  refine ⟨_,rfl,_,rfl,a,_,rfl,hS,fun p hp=>⟨p,rfl,⟨_,SqL.of upd_same⟩,?_⟩⟩
  refine for_by (sure_list (xs:=cutV (ns.map V.int) none (some 63))) (fun i σ H2=>H2=upd H p (.lst (cutV (ns.map V.int) none (some 63)))/\∃ (g:Int) (v:Option V),σ=[some (.ref a),some (.int k),some (.int g),v,none]/\0<=g/\g < 2147483647)
   ⟨rfl,_,_,rfl,by omega,by omega⟩ ?_ ?_ ?_
  ·rintro i σ H2 hi ⟨rfl,_⟩
   exact SqL.of upd_same
  ·rintro i x σ H2 hx ⟨rfl,g,v,rfl,g1,g2⟩
   obtain ⟨z,hz,rfl⟩:=List.mem_map.mp (qep (List.mem_of_getElem? hx))
   refine ⟨_,rfl,_,_,rfl,rfl,.inr ⟨by decide,by decide⟩,_,rfl,_,_,rfl,rfl,_,_,rfl,rfl,(by show (0:Int) < 2147483647;decide),rfl,_,_,rfl,Int.emod_nonneg _ (by decide),Int.emod_lt_of_pos _ (by decide)⟩
  ·rintro σ H2 ⟨rfl,g,v,rfl,g1,g2⟩
   have s1:Same H (upd H p (.lst (cutV (ns.map V.int) none (some 63)))):=Same.add hp
   have hS1:=s1.seq hS
   have el:((ns.map V.int).length:Int)=(ns.length:Int):=by rw [List.length_map]
   have fin:∀ (z:Int) (l:Addr),(upd H p (.lst (cutV (ns.map V.int) none (some 63)))) l=none->Q (.ref l) (upd (upd H p (.lst (cutV (ns.map V.int) none (some 63)))) l (.lst [.int z,.int 0,.int g])):=fun z l hn =>
    q l _ (s1.trans (Same.add hn)) (s1.free hn) ⟨z,0,g,upd_same,by decide,by decide,g1,g2⟩
   refine ⟨_,rfl,a,_,rfl,.inl hS1,_,_,rfl,rfl,_,rfl,?_⟩
   refine ite2 (fun hc=>?_) (fun hc=>?_)
   ·have hpos:0 < (ns.length:Int):=by
     have:=of_decide_eq_true hc
     rw [el] at this
     exact this
    have hm1:=Int.emod_nonneg k (show (ns.length:Int)≠0 by omega)
    have hm2:=Int.emod_lt_of_pos k hpos
    obtain ⟨j,hj⟩:∃ j:Nat,k % (ns.length:Int)=(j:Int):=⟨(k % (ns.length:Int)).toNat,by omega⟩
    have hjl:j < ns.length:=by omega
    have hat:atI (ns.map V.int) (k % ((ns.map V.int).length:Int))=some (.int ns[j]):=by
     rw [el,hj]
     exact atI_nat (by rw [List.getElem?_map,List.getElem?_eq_getElem hjl];rfl)
    refine ⟨_,rfl,_,rfl,_,rfl,a,_,rfl,.inl hS1,_,_,rfl,rfl,(by show (0:Int) < _;rw [el];exact hpos),a,_,_,_,rfl,rfl,hS1,hat,_,_,rfl,rfl,⟨by decide,by decide,by decide⟩,_,_,rfl,rfl,_,rfl,?_⟩
    refine ite2 (fun hc2=>?_) (fun hc2=>?_)
    ·refine ⟨_,rfl,_,rfl,_,rfl,a,_,rfl,.inl hS1,_,_,rfl,rfl,(by show (0:Int) < _;rw [el];exact hpos),a,_,_,_,rfl,rfl,hS1,hat,_,_,rfl,rfl,⟨by decide,by decide,by decide⟩,_,_,rfl,rfl,?_⟩
     exact ⟨_,rfl,_,rfl,(by show 3<=sizeLine;decide),fun l hn=>fin _ l hn⟩
    ·exact ⟨_,rfl,_,rfl,(by show 3<=sizeLine;decide),fun l hn=>fin 0 l hn⟩
   ·refine iteF ?_
    exact ⟨_,rfl,_,rfl,(by show 3<=sizeLine;decide),fun l hn=>fin 0 l hn⟩
end
end Lw
namespace Lw
open PySem L2
def abc:List Nat:=[97,98,99,100,101,102,103,104,105,106,107,108,109,110,111,112,113,114,115,116,117,118,119,120,121,122]
theorem qgu:(Str.ofString "abcdefghijklmnopqrstuvwxyz").cps.toList=abc:=by decide +kernel
theorem qi3:∀ c∈abc,97<=c/\c<=122:=by decide
theorem PenAt.other {H H':Hp} {p:Addr} {b:Nat} (h:PenAt H p b) (e:H' p=H p):PenAt H' p b:=by
 obtain ⟨a,n,f,e1,r⟩:=h.ex
 exact ⟨a,n,f,e.trans e1,r⟩
theorem PenAt.some {H:Hp} {p:Addr} {b:Nat} (h:PenAt H p b):∃ o,H p=Option.some o:=by
 obtain ⟨a,n,f,e1,r⟩:=h.ex
 exact ⟨_,e1⟩
end Lw
namespace Lw
open PySem L2
theorem qdc (rs:List Rule):tabV rs=(tabI rs).map fun v=>v.map V.int:=by
 unfold tabV tabI cnts
 rw [List.map_map]
 refine List.map_congr_left fun q _=>?_
 show _=List.map V.int _
 rw [List.map_map]
 rfl
theorem TabAt.v {H0 H:Hp} {l:Addr} {ls:List Addr} {rs:List Rule} (t:TabAt H0 H l ls (tabV rs)):TabV H l ls (tabI rs):=by
 refine ⟨t.top,?_,fun i a v e1 e2=>?_⟩
 ·have:=t.rows.len
  rw [qdc,List.length_map] at this
  exact this
 ·refine t.rows.at_ i a _ e1 ?_
  rw [qdc,List.getElem?_map,e2]
  rfl
theorem qgv (rs:List Rule) (w:List Nat):cnts rs w=(c0 rs w).map V.int:=by
 unfold cnts c0
 rw [List.map_map]
 rfl
section
variable {P:Program} {w:World} {K:W.Frag} {mg:Str->Option Value} {base:Heap}
def spWho:Sp:=fun vs H Q _=>∃ z:Int,vs=[.int z]/\Q (.bl true) H
theorem scWho:FnScope ["thing"] ["thing"] (defScope sWho):=⟨rfl,rfl,rfl,by decide +kernel,rfl,by decide +kernel,by decide +kernel⟩
theorem qi4 {f:Addr} {fd:FuncData} (F:Fun K "is_whole" "is_whole" sWho f fd)
  (hint:mg "int" = none)
  (hisinstance:mg "isinstance" = none)
  (hbool:mg "bool" = none)
  : FnOk P w K mg base CX0 1 f fd ["thing"] spWho:=by
 refine F.ok scWho (fun vs H Q E h=>?_) (fun cdv A outer s H vs Q E hr h=>?_)
 ·obtain ⟨z,rfl,_⟩:=h
  rfl
 ·obtain ⟨z,rfl,k⟩:=h
  refine ⟨_,(qg (qp (Y7 (qm (j4 K) (by rfl) hisinstance (show bootBuiltins "isinstance" = some (.builtin "isinstance") by decide +kernel) (qa (pv 0) (qa (Jh (v:=.ty "int") (by rfl) hint (show bootBuiltins "int" = some (.type "int") by decide +kernel) rfl) qb))) (Zm (qh6 (qm (j4 K) (by rfl) hisinstance (show bootBuiltins "isinstance" = some (.builtin "isinstance") by decide +kernel) (qa (pv 0) (qa (Jh (v:=.ty "bool") (by rfl) hbool (show bootBuiltins "bool" = some (.type "bool") by decide +kernel) rfl) qb)))))))),?_⟩
  refine ⟨_,rfl,_,_,_,true,rfl,TyOf.int z,(by rfl),_,rfl,?_⟩
  refine iteT ?_
  exact ⟨_,rfl,_,_,_,false,rfl,TyOf.int z,(by rfl),_,rfl,k⟩
def spWin:Sp:=fun vs H Q _=>∃ z a b:Int,vs=[.int z,.int a,.int b]/\a<=z/\z<=b/\Q (.bl true) H
theorem scWin:FnScope ["thing","least","most"] ["thing","least","most"] (defScope sWin):=⟨rfl,rfl,rfl,by decide +kernel,rfl,by decide +kernel,by decide +kernel⟩
theorem qi5 {f fWho:Addr} {fd fdWho:FuncData} (F:Fun K "is_within" "is_within" sWin f fd)
  (GWho:FnOk P w K mg base CX0 1 fWho fdWho ["thing"] spWho)
  (gWho:Gf K mg "is_whole" fWho fdWho ["thing"])
  : FnOk P w K mg base CX0 2 f fd ["thing","least","most"] spWin:=by
 refine F.ok scWin (fun vs H Q E h=>?_) (fun cdv A outer s H vs Q E hr h=>?_)
 ·obtain ⟨z,a,b,rfl,_⟩:=h
  rfl
 ·obtain ⟨z,a,b,rfl,h1,h2,k⟩:=h
  refine ⟨_,(qg (qp (Y7 (qh GWho hr rfl gWho.m gWho.k gWho.b .nil pass0 (qa (pv 0) qb)) (Zm (qdr qf1 qf1 (pv 1) (pv 0) (pv 2)))))),?_⟩
  refine ⟨_,rfl,z,rfl,_,rfl,?_⟩
  refine iteT ?_
  refine ⟨_,rfl,_,rfl,_,_,rfl,rfl,_,rfl,?_⟩
  rw [decide_eq_true h1]
  refine iteT ?_
  refine ⟨_,rfl,_,_,rfl,rfl,?_⟩
  show Q (.bl (decide (z<=b))) H
  rw [decide_eq_true h2]
  exact k
def spCol:Sp:=fun vs H Q _=>∃ (l:Addr) (ls:List Addr) (T:List (List Int)) (j:Nat),vs=[.ref l,.int (j:Int)]/\TabV H l ls T/\T.length<=1000/\(∀ r∈T,j < r.length)/\∀ d H',Same H H'->H d=none->H' d=some (.lst ((colAt T j).map V.int))->Q (.ref d) H'
theorem scCol:FnScope ["lines","place"] ["lines","place"] (defScope sCol):=⟨rfl,rfl,rfl,by decide +kernel,rfl,by decide +kernel,by decide +kernel⟩
theorem qgw:(["line","place"]:List Str).Nodup:=by decide +kernel
theorem qi6 {f:Addr} {fd:FuncData} (F:Fun K "column" "column" sCol f fd)
  : FnOk P w K mg base CX0 1 f fd ["lines","place"] spCol:=by
 refine F.ok scCol (fun vs H Q E h=>?_) (fun cdv A outer s H vs Q E hr h=>?_)
 ·obtain ⟨l,ls,T,j,rfl,_⟩:=h
  rfl
 ·obtain ⟨l,ls,T,j,rfl,hT,h8,hj,k⟩:=h
  refine ⟨_,(qg (qp (qx (N':=["line","place"]) (ix:=[none,some 1]) rfl rfl (jk K (pv 0)) (fun _ _ _ _ _ _=>(qi (i:=0) qgw rfl (Or.inl rfl))) (fun _ _ _ _ _ _=>qv) (fun _ _ _ _ _ _=>(pe_ix (qy K) (pv 0) (pv 1) (fun _ _=>rfl)))))),?_⟩
  have el:(ls.map V.ref).length=T.length:=by rw [List.length_map,hT.len]
  refine ⟨_,rfl,l,rfl,⟨_,SqL.of hT.top⟩,ze (sure_list (xs:=ls.map V.ref)) (by rw [el];omega) (fun i ys τ H2=>H2=H/\ys=((T.take i).map fun r=>r.getD j 0).map V.int/\∃ v,τ=[v,some (.int (j:Int))]) ⟨rfl,rfl,_,rfl⟩ ?_ ?_ ?_⟩
  ·rintro i ys τ H2 hi ⟨rfl,rfl,_⟩
   refine ⟨SqL.of hT.top,?_⟩
   rw [List.length_map,List.length_map,List.length_take]
   omega
  ·rintro i x ys τ H2 hx ⟨rfl,rfl,v,rfl⟩
   rw [List.getElem?_map] at hx
   cases e:ls[i]? with
   | none=>rw [e] at hx;cases hx
   | some p =>
    rw [e] at hx
    cases hx
    have hi:i < T.length:=by rw [<- hT.len];exact (List.getElem?_eq_some_iff.mp e).1
    have e1:T[i]? = some T[i]:=List.getElem?_eq_getElem hi
    have hr:=hj T[i] (List.getElem_mem hi)
    refine ⟨_,rfl,_,rfl,p,_,_,V.int (T[i].getD j 0),rfl,rfl,SqL.of (hT.at_ i p _ e e1),atI_nat (by rw [List.getElem?_map,List.getD_eq_getElem?_getD,List.getElem?_eq_getElem hr];rfl),rfl,?_,_,rfl⟩
    rw [jc (fun r:List Int=>r.getD j 0) e1,List.map_append]
    rfl
  ·rintro ys τ H2 D ⟨rfl,rfl,_⟩ hD
   refine k D _ (Same.add hD) hD ?_
   rw [upd_same,el,take_all]
   rfl
def spCls:Sp:=fun vs H Q _=>∃ (l:Addr) (ls:List Addr) (T:List (List Int)),vs=[.ref l]/\TabV H l ls T/\T.length<=1000/\(∀ r∈T,r.length=T.length)/\∀ d ms H',Same H H'->H d=none->TabV H' d ms ((List.range T.length).map fun j=>colAt T j)->Q (.ref d) H'
theorem scCls:FnScope ["lines"] ["lines"] (defScope sCls):=⟨rfl,rfl,rfl,by decide +kernel,rfl,by decide +kernel,by decide +kernel⟩
theorem qgx:(["place","lines"]:List Str).Nodup:=by decide +kernel
theorem qi7 {f fCol:Addr} {fd fdCol:FuncData} (F:Fun K "columns" "columns" sCls f fd)
  (GCol:FnOk P w K mg base CX0 1 fCol fdCol ["lines","place"] spCol)
  (gCol:Gf K mg "column" fCol fdCol ["lines","place"])
  (hlen:mg "len" = none)
  (hrange:mg "range" = none)
  : FnOk P w K mg base CX0 2 f fd ["lines"] spCls:=by
 refine F.ok scCls (fun vs H Q E h=>?_) (fun cdv A outer s H vs Q E hr h=>?_)
 ·obtain ⟨l,ls,T,rfl,_⟩:=h
  rfl
 ·obtain ⟨l,ls,T,rfl,hT,h8,hj,k⟩:=h
  refine ⟨_,(qg (qp (qx (N':=["place","lines"]) (ix:=[none,some 0]) rfl rfl (jx rfl hrange (qa (qm (jn K) (by rfl) hlen PySem.boot_len (qa (pv 0) qb)) qb)) (fun _ _ _ _ _ _=>(qi (i:=0) qgx rfl (Or.inl rfl))) (fun _ _ _ _ _ _=>qv) (fun _ _ _ _ _ _=>(qh GCol hr rfl gCol.m gCol.k gCol.b .nil pass0 (qa (pv 1) (qa (pv 0) qb))))))),?_⟩
  have el:(ls.map V.ref).length=T.length:=by rw [List.length_map,hT.len]
  refine ⟨_,rfl,l,_,rfl,.inl (SqL.of hT.top),?_⟩
  refine ⟨_,rfl,by omega,by omega,?_⟩
  refine ze (τ0:=[none,some (V.ref l)]) (ji (lo:=0) (n:=Int.toNat (((ls.map V.ref).length:Nat):Int))) (by rw [rngV_length,el];simp;omega)
   (fun i ys τ H2=>Same H H2/\(∃ v,τ=[v,some (.ref l)])/\∃ ms,ys=ms.map V.ref/\RowsAt H H2 ms (((List.range T.length).take i).map fun j=>(colAt T j).map V.int)) ⟨Same.refl _,⟨_,rfl⟩,[],rfl,RowsAt.nil⟩ ?_ ?_ ?_
  ·rintro i ys τ H2 hi ⟨s2,_,ms,rfl,hR⟩
   refine ⟨trivial,?_⟩
   rw [List.length_map,hR.len,List.length_map,List.length_take]
   omega
  ·rintro i x ys τ H2 hx ⟨s2,⟨v,rfl⟩,ms,rfl,hR⟩
   obtain ⟨hi,rfl⟩:=Vt hx
   have hi':i < T.length:=by rw [el] at hi;simpa using hi
   refine ⟨_,rfl,_,rfl,l,ls,T,i,rfl,hT.mono s2,h8,fun r hr=>by rw [hj r hr];exact hi',fun d H3 s3 n3 e3=>?_⟩
   refine ⟨s2.trans s3,⟨_,rfl⟩,ms++[d],by rw [List.map_append];rfl,?_⟩
   rw [qel _ hi']
   exact hR.snoc s3 (s2.free n3) n3 e3
  ·rintro ys τ H2 D ⟨s2,_,ms,rfl,hR⟩ hD
   have e5:(rngV 0 (Int.toNat (((ls.map V.ref).length:Nat):Int))).length=T.length:=by rw [rngV_length,el];simp
   rw [e5,qem] at hR
   refine k D ms _ (s2.trans (Same.add hD)) (s2.free hD) ⟨upd_same,?_,fun j a v e1 e2=>?_⟩
   ·rw [hR.len,List.length_map,List.length_map]
   ·refine Same.add hD _ _ (hR.at_ j a _ e1 ?_)
    rw [List.getElem?_map] at e2 ⊢
    cases e3:(List.range T.length)[j]? with
    | none=>rw [e3] at e2;cases e2
    | some m =>
     rw [e3] at e2
     cases e2
     rfl
def spPrs:Sp:=fun vs H Q _=>∃ (a b:Addr) (xs ys:List Int) (e1 e2:Nat),vs=[.ref a,.ref b]/\H a=some (.lst (xs.map V.int))/\H b=some (.lst (ys.map V.int))/\xs.length<=1000/\Bz e1 xs/\Bz e2 ys/\e1<=5000/\e2<=5000/\∀ H',Same H H'->Q (.int (dot xs ys)) H'
theorem scPrs:FnScope ["ones","others"] ["ones","others"] (defScope sPrs):=⟨rfl,rfl,rfl,by decide +kernel,rfl,by decide +kernel,by decide +kernel⟩
theorem qdd:(["one","other"]:List Str).Nodup:=by decide +kernel
theorem qi8 {f:Addr} {fd:FuncData} (F:Fun K "paired_sum" "paired_sum" sPrs f fd)
  (hzip:mg "zip" = none)
  (hsum:mg "sum" = none)
  : FnOk P w K mg base CX0 1 f fd ["ones","others"] spPrs:=by
 refine F.ok scPrs (fun vs H Q E h=>?_) (fun cdv A outer s H vs Q E hr h=>?_)
 ·obtain ⟨a,b,xs,ys,e1,e2,rfl,_⟩:=h
  rfl
 ·obtain ⟨a,b,xs,ys,e1,e2,rfl,ha,hb,h8,b1,b2,l1,l2,k⟩:=h
  refine ⟨_,(qg (qp (qm (yp K rfl) (by rfl) hsum (by first | exact PySem.boot_sum | decide +kernel) (qa (qx (N':=["one","other"]) (ix:=[none,none]) rfl rfl (qgc K rfl hzip (qa (pv 0) (qa (pv 1) qb))) (fun _ _ _ _ _ _=>(vz K (n:=2) rfl (jf (qi (i:=0) qdd rfl (Or.inl rfl)) (jf (qi (i:=1) qdd rfl (Or.inl rfl)) vv)))) (fun _ _ _ _ _ _=>qv) (fun _ _ _ _ _ _=>(je qgb (pv 0) (pv 1)))) qb)))),?_⟩
  refine ⟨_,rfl,_,rfl,a,b,rfl,⟨_,SqL.of ha⟩,⟨_,SqL.of hb⟩,?_⟩
  have elen:(((xs.map V.int).zip (ys.map V.int)).map fun p=>[p.1,p.2]).length=(List.zipWith (· * ·) xs ys).length:=by simp
  refine qcf (Q:=fun x Ha=>rSum K [x] Ha Q) (τ0:=[none,none]) (qd0 (xs:=xs.map V.int) (ys:=ys.map V.int)) (by simp;omega)
   (fun i zs τ H2=>Same H H2/\(∃ v u,τ=[v,u])/\zs=((List.zipWith (· * ·) xs ys).take i).map V.int) ⟨Same.refl _,⟨_,_,rfl⟩,rfl⟩ ?_ ?_ ?_
  ·rintro i zs τ H2 hi ⟨s2,_,rfl⟩
   refine ⟨⟨SqL.of (s2 _ _ ha),SqL.of (s2 _ _ hb)⟩,?_⟩
   rw [List.length_map,List.length_take]
   omega
  ·rintro i us zs τ H2 T hz ⟨s2,⟨v,u,rfl⟩,rfl⟩ hT
   rw [List.getElem?_map] at hz
   cases ez:((xs.map V.int).zip (ys.map V.int))[i]? with
   | none=>rw [ez] at hz;cases hz
   | some pr =>
    obtain ⟨px,py⟩:=pr
    rw [ez] at hz
    cases hz
    obtain ⟨q1,q2⟩:=List.getElem?_zip_eq_some.mp ez
    rw [List.getElem?_map] at q1 q2
    cases c1:xs[i]? with
    | none=>rw [c1] at q1;cases q1
    | some x =>
     cases c2:ys[i]? with
     | none=>rw [c2] at q2;cases q2
     | some y =>
      rw [c1] at q1
      rw [c2] at q2
      have q1':V.int x=px:=Option.some.inj q1
      have q2':V.int y=py:=Option.some.inj q2
      subst q1' q2'
      have k1:=Nat.le_trans (qag (b1 x (List.mem_of_getElem? c1))) (Nat.le_trans l1 (show 5000<=2 ^ 20 by decide))
      have k2:=Nat.le_trans (qag (b2 y (List.mem_of_getElem? c2))) (Nat.le_trans l2 (show 5000<=2 ^ 20 by decide))
      refine ⟨T,_,rfl,SqT.of upd_same,rfl,_,_,rfl,_,_,rfl,rfl,?_⟩
      refine ⟨_,rfl,_,rfl,_,_,rfl,rfl,⟨k1,k2⟩,s2.trans (Same.add hT),⟨_,_,rfl⟩,?_⟩
      have e3:(List.zipWith (· * ·) xs ys)[i]? = some (x * y):=by rw [List.getElem?_zipWith,c1,c2]
      rw [List.take_add_one,e3,List.map_append]
      rfl
  ·rintro zs τ H2 D ⟨s2,_,rfl⟩ hD
   rw [elen,take_all]
   exact ⟨D,_,rfl,SqL.of upd_same,k _ (s2.trans (Same.add hD))⟩
def spOao:Sp:=fun vs H Q _=>∃ (a l:Addr) (ls:List Addr) (xs:List Int) (T:List (List Int)) (e1 e2:Nat),vs=[.ref a,.ref l]/\H a=some (.lst (xs.map V.int))/\TabV H l ls T/\xs.length<=1000/\T.length<=1000/\Bz e1 xs/\(∀ r∈T,Bz e2 r)/\e1<=5000/\e2<=5000 /\
 ∀ d H',Same H H'->H d=none->H' d=some (.lst ((T.map fun r=>dot xs r).map V.int))->Q (.ref d) H'
theorem scOao:FnScope ["line","sources"] ["line","sources"] (defScope sOao):=⟨rfl,rfl,rfl,by decide +kernel,rfl,by decide +kernel,by decide +kernel⟩
theorem qgy:(["source","line"]:List Str).Nodup:=by decide +kernel
theorem qi9 {f fPrs:Addr} {fd fdPrs:FuncData} (F:Fun K "one_age_on" "one_age_on" sOao f fd)
  (GPrs:FnOk P w K mg base CX0 1 fPrs fdPrs ["ones","others"] spPrs)
  (gPrs:Gf K mg "paired_sum" fPrs fdPrs ["ones","others"])
  : FnOk P w K mg base CX0 2 f fd ["line","sources"] spOao:=by
 refine F.ok scOao (fun vs H Q E h=>?_) (fun cdv A outer s H vs Q E hr h=>?_)
 ·obtain ⟨a,l,ls,xs,T,e1,e2,rfl,_⟩:=h
  rfl
 ·obtain ⟨a,l,ls,xs,T,e1,e2,rfl,ha,hT,h8,h9,b1,b2,l1,l2,k⟩:=h
  refine ⟨_,(qg (qp (qx (N':=["source","line"]) (ix:=[none,some 0]) rfl rfl (jk K (pv 1)) (fun _ _ _ _ _ _=>(qi (i:=0) qgy rfl (Or.inl rfl))) (fun _ _ _ _ _ _=>qv) (fun _ _ _ _ _ _=>(qh GPrs hr rfl gPrs.m gPrs.k gPrs.b .nil pass0 (qa (pv 1) (qa (pv 0) qb))))))),?_⟩
  have el:(ls.map V.ref).length=T.length:=by rw [List.length_map,hT.len]
  refine ⟨_,rfl,l,rfl,⟨_,SqL.of hT.top⟩,qu (τ0:=[none,some (V.ref a)]) (sure_list (xs:=ls.map V.ref)) (by rw [el];omega)
   (fun j zs τ H6=>Same H H6/\(∃ v,τ=[v,some (.ref a)])/\zs=((T.take j).map fun r=>dot xs r).map V.int) ⟨Same.refl _,⟨_,rfl⟩,rfl⟩ ?_ ?_ ?_⟩
  ·rintro j zs τ H6 hj ⟨s6,_,rfl⟩
   refine ⟨SqL.of (s6 _ _ hT.top),?_⟩
   rw [List.length_map,List.length_map,List.length_take]
   omega
  ·rintro j x zs τ H6 hx2 ⟨s6,⟨v,rfl⟩,rfl⟩
   rw [List.getElem?_map] at hx2
   cases c1:ls[j]? with
   | none=>rw [c1] at hx2;cases hx2
   | some b =>
    rw [c1] at hx2
    cases hx2
    obtain ⟨r,c2,hb⟩:=hT.get' c1
    refine ⟨_,rfl,_,rfl,a,b,xs,r,e1,e2,rfl,s6 _ _ ha,s6 _ _ hb,h8,b1,b2 r (List.mem_of_getElem? c2),l1,l2,fun H7 s7=>⟨s6.trans s7,⟨_,rfl⟩,?_⟩⟩
    rw [jc (fun r=>dot xs r) c2,List.map_append]
    rfl
  ·rintro zs τ H6 Dn ⟨s6,_,rfl⟩ hDn
   refine k Dn _ (s6.trans (Same.add hDn)) (s6.free hDn) ?_
   rw [upd_same,el,take_all]
end
end Lw
namespace Lw
open PySem L2
section
variable {P:Program} {w:World} {K:W.Frag} {mg:Str->Option Value} {base:Heap}
def spNag:Sp:=fun vs H Q _=>∃ n:Nat,vs=[.int (n:Int)]/\n<=300/\Q .non H
theorem scNag:FnScope ["age"] ["age"] (defScope sNag):=⟨rfl,rfl,rfl,by decide +kernel,rfl,by decide +kernel,by decide +kernel⟩
theorem qja {f fWin:Addr} {fd fdWin:FuncData} (F:Fun K "need_age" "need_age" sNag f fd)
  (GWin:FnOk P w K mg base CX0 2 fWin fdWin ["thing","least","most"] spWin)
  (gWin:Gf K mg "is_within" fWin fdWin ["thing","least","most"])
  {tkLAST_AGE:Tok} (hLAST_AGE:mg "LAST_AGE" = some (.int 300 tkLAST_AGE))
  : FnOk P w K mg base CX0 3 f fd ["age"] spNag:=by
 refine F.ok scNag (fun vs H Q E h=>?_) (fun cdv A outer s H vs Q E hr h=>?_)
 ·obtain ⟨n,rfl,_⟩:=h
  rfl
 ·obtain ⟨n,rfl,hn,k⟩:=h
  refine ⟨_,(qg (vm (Ji (yr (qh GWin hr rfl gWin.m gWin.k gWin.b .nil pass0 (qa (pv 0) (qa qf (qa (qfy (v:=.int 300) (by rfl) hLAST_AGE ⟨_,rfl⟩) qb)))))) ya jh)),?_⟩
  refine ⟨_,rfl,(n:Int),0,300,rfl,by omega,by omega,_,rfl,?_⟩
  exact iteF k
def spFcs:Sp:=fun vs H Q _=>∃ (t:Addr) (first:List Nat) (rs:List Rule) (m:Nat),vs=[.ref t,.int (m:Int)]/\BookAt H t first rs/\Good first rs/\m<=700 /\
 ∀ d ms H',Same H H'->H d=none->(∀ x∈ms,H x=none)->TabV H' d ms ((List.range m).map (cntN rs.length (tabI rs) (c0 rs first)))->Q (.ref d) H'
theorem scFcs:FnScope ["book","many","sources","told"] ["book","many"] (defScope sFcs):=⟨rfl,rfl,rfl,by decide +kernel,rfl,by decide +kernel,by decide +kernel⟩
theorem qjb {f fCls fTab fTal fOao:Addr} {fd fdCls fdTab fdTal fdOao:FuncData} (F:Fun K "first_counts" "first_counts" sFcs f fd)
  (GCls:FnOk P w K mg base CX0 2 fCls fdCls ["lines"] spCls)
  (gCls:Gf K mg "columns" fCls fdCls ["lines"])
  (GTab:FnOk P w K mg base CX0 4 fTab fdTab ["book"] spTab)
  (gTab:Gf K mg "table" fTab fdTab ["book"])
  (GTal:FnOk P w K mg base CX0 3 fTal fdTal ["book","text"] spTal)
  (gTal:Gf K mg "tally" fTal fdTal ["book","text"])
  (GOao:FnOk P w K mg base CX0 2 fOao fdOao ["line","sources"] spOao)
  (gOao:Gf K mg "one_age_on" fOao fdOao ["line","sources"])
  (hlen:mg "len" = none)
  : FnOk P w K mg base CX0 5 f fd ["book","many"] spFcs:=by
 refine F.ok scFcs (fun vs H Q E h=>?_) (fun cdv A outer s H vs Q E hr h=>?_)
 ·obtain ⟨t,first,rs,m,rfl,_⟩:=h
  rfl
 ·obtain ⟨t,first,rs,m,rfl,hB,hG,hm,k⟩:=h
  have hr2:Room 2 _:=hr.mono (by decide)
  have hr3:Room 3 _:=hr.mono (by decide)
  refine ⟨_,(qd (qj (i:=2) scFcs.nd rfl (Or.inl rfl) (qh GCls hr2 rfl gCls.m gCls.k gCls.b .nil pass0 (qa (qh GTab hr rfl gTab.m gTab.k gTab.b .nil pass0 (qa (pv 0) qb)) qb)))
   (qd (qj (i:=3) scFcs.nd rfl (Or.inl rfl) (j0 (qa (qh GTal hr3 rfl gTal.m gTal.k gTal.b .nil pass0 (qa (pv 0) (qa (pe_ix (jd K) (pv 0) qf (fun _ _=>rfl)) qb))) qb)))
   (qd (Vx PassesOwn.never (qz qib (qm (jn K) (by rfl) hlen PySem.boot_len (qa (pv 3) qb)) (pv 1) (nomark _)) (qg (vd (ju K PySem.F.plainAttrs_list PySem.F.slot_list_append PySem.F.type_list_append vg (pv 3) (qa (qh GOao hr2 rfl gOao.m gOao.k gOao.b .nil pass0 (qa (pe_ix (qy K) (pv 3) (Yg Jk qf) (fun _ _=>rfl)) (qa (pv 2) qb))) qb)))))
   (qg (qp (zb (V3 K) (pv 3) yk (po_some (pv 1)))))))),?_⟩
  have hfew:=hG.few
  have kl:=qah rs first
  have cb:=qc2 hG.few (qfn fun r hr=>qc3 hG hr) kl (c0_bd hG)
  obtain ⟨r,ps,b1,b2,b3⟩:=hB.ex
  refine ⟨_,rfl,t,first,rs,rfl,hB,hG.few,fun l0 ls0 H1 s1 hT=>?_⟩
  refine ⟨l0,ls0,tabI rs,rfl,hT.v,by rw [vc];omega,fun r hr=>by rw [qai hr,vc],fun D ms H2 s2 n2 hC=>?_⟩
  rw [vc] at hC
  have s02:=s1.trans s2
  refine ⟨_,rfl,_,rfl,t,_,_,_,rfl,rfl,SqT.of (s02 _ _ b1),atI_nat (j:=0) rfl,t,first,rs,first,rfl,hB.mono (TupS.same s02),hG.few,fun d0 H3 s3 n3 e3=>?_⟩
  rw [qgv] at e3
  refine ⟨(by show 1<=sizeLine;decide),fun l hl=>?_⟩
  have nd0:d0≠l:=ne_of_none e3 hl
  have s23:Same H2 (upd H3 l (.lst [V.ref d0])):=s3.trans (Same.add hl)
  have nl:H2 l=none:=s3.free hl
  refine ⟨fun q σ H5=>∃ (j:Nat) (ls:List Addr),σ=[some (.ref t),some (.int (m:Int)),some (.ref D),some (.ref l)]/\q=m - (j+1)/\(j+1<=m\/j=0)/\Same H2 H5/\l ∉ ls/\(∀ x∈ls,H x=none)/\TabV H5 l ls ((List.range (j+1)).map (cntN rs.length (tabI rs) (c0 rs first))),
   ⟨_,0,[d0],rfl,rfl,.inr rfl,s23,(by simp;exact fun z=>nd0 z.symm),(fun x hx=>(List.mem_singleton.mp hx).symm ▸ s02.free n3),⟨upd_same,rfl,fun i a v e1 e2=>?_⟩⟩,?_⟩
  ·cases i with
   | succ i=>simp at e1
   | zero =>
    cases e1
    cases e2
    exact jm e3 nd0
  ·rintro q σ H5 ⟨j,ls,rfl,rfl,hj,s5,hlo,hfr,hTl⟩
   have ln:(ls.map V.ref).length=j+1:=by rw [List.length_map,hTl.len,List.length_map,List.length_range]
   refine ⟨_,rfl,l,_,rfl,.inl (SqL.of hTl.top),_,rfl,_,_,rfl,rfl,_,rfl,?_⟩
   refine ite2 (fun hc=>?_) (fun hc=>?_)
   ·have hlt:j+1 < m:=by
     have:=of_decide_eq_true hc
     rw [ln] at this
     omega
    refine ⟨fun σ' H'=>∃ ls':List Addr,σ'=[some (.ref t),some (.int (m:Int)),some (.ref D),some (.ref l)]/\Same H2 H'/\l ∉ ls'/\(∀ x∈ls',H x=none)/\TabV H' l ls' ((List.range (j+1+1)).map (cntN rs.length (tabI rs) (c0 rs first))),
     fun σ' H' ⟨ls',e,a1,a2,a3,a4⟩=>⟨m - (j+1+1),by omega,j+1,ls',e,rfl,.inl (by omega),a1,a2,a3,a4⟩,?_⟩
    obtain ⟨a,ha,hv⟩:=hTl.get (i:=j) (v:=cntN rs.length (tabI rs) (c0 rs first) j) (by rw [List.getElem?_map,List.getElem?_range (by omega)];rfl)
    refine ⟨_,rfl,.inl ⟨rfl,_,SqL.of hTl.top⟩,_,rfl,_,rfl,l,_,_,_,rfl,rfl,SqL.of hTl.top,atI_last ln (by rw [List.getElem?_map,ha];rfl),_,rfl,?_⟩
    refine ⟨a,D,ms,_,_,4+6 * j,3,rfl,hv,hC.mono s5,by rw [Jb kl];omega,by rw [List.length_map,List.length_range];omega,(cb j).z,fun r hr=>?_,by omega,by omega,fun d H6 s6 n6 e6=>?_⟩
    ·obtain ⟨i,_,rfl⟩:=List.mem_map.mp hr
     exact (qfn (fun r hr=>qc3 hG hr) i).bd.z
    ·have hl6:=s6 _ _ hTl.top
     have ndl:d≠l:=(ne_of_none hTl.top n6).symm
     refine ⟨l,_,_,rfl,rfl,hl6,small1000 (by rw [ln];omega),ls++[d],rfl,fun c o hc=>?_,?_,?_,?_⟩
     ·exact jm (s6 _ _ (s5 _ _ hc)) (ne_of_none hc nl)
     ·intro z
      rcases List.mem_append.mp z with z | z
      ·exact hlo z
      ·have z':l=d:=by simpa using z
       exact ndl z'.symm
     ·intro x hx
      rcases List.mem_append.mp hx with z | z
      ·exact hfr x z
      ·have z':x=d:=by simpa using z
       rw [z'];exact s02.free (s5.free n6)
     ·rw [List.range_succ,List.map_append]
      refine hTl.snoc (fun a ha o ho=>jm (s6 _ _ ho) fun z=>hlo (by rw [<- z];exact ha)) upd_same ?_
      rw [qe ndl,e6,qc7]
      rfl
   ·have hge:m<=j+1:=by
     have h2:¬ ((j+1:Nat):Int) < (m:Int):=fun z=>hc (decide_eq_true (by rw [ln];exact z))
     omega
    refine ⟨_,rfl,_,rfl,_,rfl,l,_,rfl,SqL.of hTl.top,fun p hp=>?_⟩
    rw [qak]
    refine k p (ls.take m) _ (s02.trans (s5.trans (Same.add hp))) (s02.free (s5.free hp)) (fun x hx=>hfr x (List.mem_of_mem_take hx)) ?_
    have:=TabV.take (H':=upd H5 p (.lst ((ls.map V.ref).take m))) m hTl (Same.add hp) upd_same
    rw [<- List.map_take (l:=List.range (j+1)),List.take_range,Nat.min_eq_left hge] at this
    exact this
def spCou:Sp:=fun vs H Q _=>∃ (t:Addr) (first:List Nat) (rs:List Rule) (n:Nat),vs=[.ref t,.int (n:Int)]/\BookAt H t first rs/\Good first rs/\n<=300 /\
 ∀ d H',Same H H'->H d=none->H' d=some (.lst ((cntN rs.length (tabI rs) (c0 rs first) n).map V.int))->Q (.ref d) H'
theorem scCou:FnScope ["book","age"] ["book","age"] (defScope sCou):=⟨rfl,rfl,rfl,by decide +kernel,rfl,by decide +kernel,by decide +kernel⟩
theorem qjc {f fNag fFcs:Addr} {fd fdNag fdFcs:FuncData} (F:Fun K "counts" "counts" sCou f fd)
  (GNag:FnOk P w K mg base CX0 3 fNag fdNag ["age"] spNag)
  (gNag:Gf K mg "need_age" fNag fdNag ["age"])
  (GFcs:FnOk P w K mg base CX0 5 fFcs fdFcs ["book","many"] spFcs)
  (gFcs:Gf K mg "first_counts" fFcs fdFcs ["book","many"])
  : FnOk P w K mg base CX0 6 f fd ["book","age"] spCou:=by
 refine F.ok scCou (fun vs H Q E h=>?_) (fun cdv A outer s H vs Q E hr h=>?_)
 ·obtain ⟨t,first,rs,n,rfl,_⟩:=h
  rfl
 ·obtain ⟨t,first,rs,n,rfl,hB,hG,hn,k⟩:=h
  have hr3:Room 3 _:=hr.mono (by decide)
  refine ⟨_,(qd (vd (qh GNag hr3 rfl gNag.m gNag.k gNag.b .nil pass0 (qa (pv 1) qb)))
   (qg (qp (pe_ix (qy K) (qh GFcs hr rfl gFcs.m gFcs.k gFcs.b .nil pass0 (qa (pv 0) (qa (je vw (pv 1) qf) qb))) (pv 1) (fun _ _=>rfl))))),?_⟩
  refine ⟨_,rfl,n,rfl,hn,?_⟩
  refine ⟨_,rfl,_,rfl,_,_,rfl,rfl,t,first,rs,n+1,by push_cast;rfl,hB,hG,by omega,fun d ms H' s' n' hfr hT=>?_⟩
  obtain ⟨a,e1,e2⟩:=hT.get (i:=n) (v:=cntN rs.length (tabI rs) (c0 rs first) n) (by rw [List.getElem?_map,List.getElem?_range (by omega)];rfl)
  refine ⟨_,rfl,d,_,_,_,rfl,rfl,SqL.of hT.top,atI_nat (by rw [List.getElem?_map,e1];rfl),k a H' s' (hfr a (List.mem_of_getElem? e1)) e2⟩
def spLng:Sp:=fun vs H Q _=>∃ (t:Addr) (first:List Nat) (rs:List Rule) (n:Nat),vs=[.ref t,.int (n:Int)]/\BookAt H t first rs/\Good first rs/\n<=300 /\
 ∀ H',Same H H'->Q (.int (cntN rs.length (tabI rs) (c0 rs first) n).sum) H'
theorem scLng:FnScope ["book","age"] ["book","age"] (defScope sLng):=⟨rfl,rfl,rfl,by decide +kernel,rfl,by decide +kernel,by decide +kernel⟩
theorem qjd {f fCou:Addr} {fd fdCou:FuncData} (F:Fun K "length" "length" sLng f fd)
  (GCou:FnOk P w K mg base CX0 6 fCou fdCou ["book","age"] spCou)
  (gCou:Gf K mg "counts" fCou fdCou ["book","age"])
  (hsum:mg "sum" = none)
  : FnOk P w K mg base CX0 7 f fd ["book","age"] spLng:=by
 refine F.ok scLng (fun vs H Q E h=>?_) (fun cdv A outer s H vs Q E hr h=>?_)
 ·obtain ⟨t,first,rs,n,rfl,_⟩:=h
  rfl
 ·obtain ⟨t,first,rs,n,rfl,hB,hG,hn,k⟩:=h
  refine ⟨_,(qg (qp (qm (yp K rfl) (by rfl) hsum (by first | exact PySem.boot_sum | decide +kernel) (qa (qh GCou hr rfl gCou.m gCou.k gCou.b .nil pass0 (qa (pv 0) (qa (pv 1) qb))) qb)))),?_⟩
  exact ⟨_,rfl,_,rfl,t,first,rs,n,rfl,hB,hG,hn,fun d H' s' _ e=>⟨d,_,rfl,SqL.of e,k H' s'⟩⟩
end
end Lw
namespace Lw
open PySem L2 PyProof.Rows
theorem qft (a b:List Nat):((⟨a.toArray⟩:Str)++(⟨b.toArray⟩:Str))=⟨(a++b).toArray⟩:=by
 show (⟨a.toArray++b.toArray⟩:Str)=_
 congr 1
 apply Array.ext'
 simp
structure ClsK (K:W.Frag) (C:Addr):Prop where
 cls:(W.clsIn K C).isSome=true
 nt:W.instIn K (.ref C) (.type "tuple")=some false
 bexc:W.mroIn K C (.type "BaseException")=some true
 ty:W.typeIn K (.ref C)=some (.type "type")
abbrev kvw (rs:List Rule):List (Key × V):=rs.map fun q=>((Sum.inr (one q.1):Key),tx q.2)
theorem J5 {H:Hp}:∀ {ps:List Addr} {rs:List Rule},RulesAt H ps rs->PairsAt H ps (kvw rs)
 | _,_,.nil=>.nil
 | _,_,.cons h r=>.cons h (J5 r)
theorem Zb (rs:List Rule):(kvw rs).map (·.1)=(ltr rs).map fun c=>(Sum.inr (one c):Key):=by
 unfold kvw ltr
 rw [List.map_map,List.map_map]
 rfl
theorem Yv:∀ {rs:List Rule} {q:Rule},(ltr rs).Nodup->q∈rs->valV (kvw rs) (Sum.inr (one q.1):Key)=some (tx q.2)
 | [],_,_,h=>by simp at h
 | p :: rs,q,nd,h=>by
  have nd':=List.nodup_cons.mp (show (p.1 :: ltr rs).Nodup from nd)
  unfold valV
  show Option.map _ (List.find? _ (((Sum.inr (one p.1):Key),tx p.2) :: kvw rs))=_
  rcases List.mem_cons.mp h with z | z
  ·subst z
   rw [List.find?_cons_of_pos]
   ·rfl
   ·exact decide_eq_true rfl
  ·rw [List.find?_cons_of_neg]
   ·exact Yv nd'.2 z
   ·intro y
    have y':(Sum.inr (one p.1):Key)=Sum.inr (one q.1):=of_decide_eq_true y
    exact nd'.1 (by rw [zp (Sum.inr.inj y')];exact List.mem_map_of_mem z)
theorem szl {n:Nat} (h:n<=1000):n<=sizeLine:=Nat.le_trans h (by decide)
theorem za {rs:List Rule} {c:Nat} (nd:(ltr rs).Nodup) (h:c∈ltr rs):valV (kvw rs) (Sum.inr (one c):Key)=some (tx (wd rs c)):=by
 obtain ⟨q,h1,h2,h3⟩:=zm h
 rw [h3,<- h2]
 exact Yv nd h1
theorem qat {rs:List Rule} {c:Nat} (h:c ∉ ltr rs):valV (kvw rs) (Sum.inr (one c):Key)=none:=by
 unfold valV
 rw [List.find?_eq_none.mpr fun p hp=>?_]
 ·rfl
 ·obtain ⟨q,hq,rfl⟩:=List.mem_map.mp hp
  intro z
  have z':(Sum.inr (one q.1):Key)=Sum.inr (one c):=of_decide_eq_true z
  exact h (List.mem_map.mpr ⟨q,hq,zp (Sum.inr.inj z')⟩)
theorem zh {first:List Nat} {rs:List Rule} (hG:Good first rs) {c:Nat} (h:c∈ltr rs):∀ d∈wd rs c,d∈ltr rs:=by
 obtain ⟨q,h1,h2,h3⟩:=zm h
 rw [h3]
 exact hG.win q h1
theorem Zc {first:List Nat} {rs:List Rule} (hG:Good first rs) {c:Nat} (h:c∈ltr rs):(wd rs c).length<=6:=by
 obtain ⟨q,h1,h2,h3⟩:=zm h
 rw [h3]
 exact hG.wl q h1
def Rch (rs:List Rule) (x:List Nat) (c:Nat):Prop:=∃ m,c∈rowN rs x m
theorem nxt_mem {rs:List Rule} {x:List Nat} {e:Nat}:e∈nxt rs x ↔ ∃ c∈x,e∈wd rs c:=by
 unfold nxt
 rw [List.mem_flatten]
 constructor
 ·rintro ⟨l,hl,he⟩
  obtain ⟨c,hc,rfl⟩:=List.mem_map.mp hl
  exact ⟨c,hc,he⟩
 ·rintro ⟨c,hc,he⟩
  exact ⟨_,List.mem_map.mpr ⟨c,hc,rfl⟩,he⟩
theorem Rch.step {rs:List Rule} {x:List Nat} {c e:Nat} (h:Rch rs x c) (he:e∈wd rs c):Rch rs x e:=by
 obtain ⟨m,hm⟩:=h
 exact ⟨m+1,nxt_mem.mpr ⟨c,hm,he⟩⟩
theorem rch_closed {rs:List Rule} {x fs:List Nat} (h0:∀ c∈x,c∈fs) (h1:∀ c∈fs,∀ e∈wd rs c,e∈fs):∀ m,∀ c∈rowN rs x m,c∈fs
 | 0,c,hc=>h0 c hc
 | m+1,c,hc=>by
  obtain ⟨d,hd,he⟩:=nxt_mem.mp hc
  exact h1 d (rch_closed h0 h1 m d hd) c he
structure Srch (rs:List Rule) (x fs ws:List Nat):Prop where
 nd:fs.Nodup
 inf:∀ c∈fs,c∈ltr rs
 inw:∀ c∈ws,c∈ltr rs
 rf:∀ c∈fs,Rch rs x c
 rw:∀ c∈ws,Rch rs x c
 all:∀ c∈x,c∈fs\/c∈ws
 cl:∀ c∈fs,∀ e∈wd rs c,e∈fs\/e∈ws
 le:ws.length<=x.length+6 * fs.length
theorem Srch.start {rs:List Rule} {x:List Nat} (h:∀ c∈x,c∈ltr rs):Srch rs x [] x where
 nd:=List.nodup_nil
 inf:=by intro c hc;cases hc
 inw:=h
 rf:=by intro c hc;cases hc
 rw:=fun c hc=>⟨0,hc⟩
 all:=fun c hc=>.inr hc
 cl:=by intro c hc;cases hc
 le:=by simp
theorem Srch.old {rs:List Rule} {x fs ws:List Nat} {c:Nat} (h:Srch rs x fs (c :: ws)) (hc:c∈fs):Srch rs x fs ws:=by
 refine ⟨h.nd,h.inf,fun e he=>h.inw e (List.mem_cons_of_mem _ he),h.rf,fun e he=>h.rw e (List.mem_cons_of_mem _ he),fun e he=>?_,fun d hd e he=>?_,by have:=h.le;rw [List.length_cons] at this;omega⟩
 ·rcases h.all e he with z | z
  ·exact .inl z
  ·rcases List.mem_cons.mp z with rfl | z
   ·exact .inl hc
   ·exact .inr z
 ·rcases h.cl d hd e he with z | z
  ·exact .inl z
  ·rcases List.mem_cons.mp z with rfl | z
   ·exact .inl hc
   ·exact .inr z
theorem Srch.new {first:List Nat} {rs:List Rule} (hG:Good first rs) {x fs ws:List Nat} {c:Nat} (h:Srch rs x fs (c :: ws)) (hc:c ∉ fs):Srch rs x (fs++[c]) (ws++wd rs c):=by
 have hcl:=h.inw c List.mem_cons_self
 have hcr:=h.rw c List.mem_cons_self
 have in':∀ {e},e∈fs\/e∈c :: ws->e∈fs++[c]\/e∈ws++wd rs c:=fun z=>by
  rcases z with z | z
  ·exact .inl (List.mem_append_left _ z)
  ·rcases List.mem_cons.mp z with rfl | z
   ·exact .inl (List.mem_append_right _ List.mem_cons_self)
   ·exact .inr (List.mem_append_left _ z)
 refine ⟨?_,fun e he=>?_,fun e he=>?_,fun e he=>?_,fun e he=>?_,fun e he=>in' (h.all e he),fun d hd e he=>?_,?_⟩
 ·refine List.nodup_append.mpr ⟨h.nd,by simp,fun a ha b hb e=>?_⟩
  have:b=c:=List.mem_singleton.mp hb
  rw [e,this] at ha
  exact hc ha
 ·rcases List.mem_append.mp he with z | z
  ·exact h.inf e z
  ·rw [List.mem_singleton.mp z];exact hcl
 ·rcases List.mem_append.mp he with z | z
  ·exact h.inw e (List.mem_cons_of_mem _ z)
  ·exact zh hG hcl e z
 ·rcases List.mem_append.mp he with z | z
  ·exact h.rf e z
  ·rw [List.mem_singleton.mp z];exact hcr
 ·rcases List.mem_append.mp he with z | z
  ·exact h.rw e (List.mem_cons_of_mem _ z)
  ·exact hcr.step z
 ·rcases List.mem_append.mp hd with z | z
  ·exact in' (h.cl d z e he)
  ·rw [List.mem_singleton.mp z] at he
   exact .inr (List.mem_append_right _ he)
 ·have h1:=h.le
  have h2:=Zc hG hcl
  rw [List.length_cons] at h1
  rw [List.length_append,List.length_append,List.length_singleton]
  omega
theorem Srch.done {rs:List Rule} {x fs:List Nat} (h:Srch rs x fs []) (c:Nat):c∈fs ↔ Rch rs x c:=by
 constructor
 ·exact h.rf c
 ·rintro ⟨m,hm⟩
  refine rch_closed (fun e he=>?_) (fun d hd e he=>?_) m c hm
  ·rcases h.all e he with z | z
   ·exact z
   ·cases z
  ·rcases h.cl d hd e he with z | z
   ·exact z
   ·cases z
theorem J6 (ws:List (List Nat)):ws.map tx=(ws.map fun w=>(⟨w.toArray⟩:Str)).map V.str:=by rw [List.map_map];rfl
theorem Ya (ws:List (List Nat)):((ws.map fun w=>(⟨w.toArray⟩:Str)).map (·.length)).sum=ws.flatten.length:=by
 rw [List.map_map,List.length_flatten]
 rfl
theorem J7 (ws:List (List Nat)):Txt.join (Str.ofString "") (ws.map fun w=>(⟨w.toArray⟩:Str))=⟨ws.flatten.toArray⟩:=by
 show Txt.join ⟨#[]⟩ _=_
 rw [qcz,List.map_map]
 congr 3
 exact (List.map_congr_left fun w _=>rfl).trans (List.map_id _)
abbrev dkF (L:List Nat) (g:Nat->Int):List (Key × V):=L.map fun c=>((Sum.inr (one c):Key),V.int (g c))
theorem qde {g:Nat->Int}:∀ {L:List Nat} {c:Nat},c∈L->valV (dkF L g) (Sum.inr (one c):Key)=some (V.int (g c))
 | [],c,h=>by cases h
 | e :: L,c,h=>by
  show Option.map _ (List.find? _ (((Sum.inr (one e):Key),V.int (g e)) :: dkF L g))=_
  by_cases z:e=c
  ·subst z
   rw [List.find?_cons_of_pos (by exact decide_eq_true rfl)]
   rfl
  ·rw [List.find?_cons_of_neg]
   ·exact qde ((List.mem_cons.mp h).resolve_left fun y=>z y.symm)
   ·intro y
    have y':(Sum.inr (one e):Key)=Sum.inr (one c):=of_decide_eq_true y
    exact z (zp (Sum.inr.inj y'))
theorem qeq {L:List Nat} {i c:Nat} (g:Nat->Int) (e:L[i]? = some c):dkF (L.take (i+1)) g=dkF (L.take i) g++[((Sum.inr (one c):Key),V.int (g c))]:=by
 unfold dkF
 rw [List.take_add_one,e,List.map_append]
 rfl
theorem j2 {H H':Hp} (s:TupS H H'):∀ {ps:List Addr} {kvs:List (Key × V)},PairsAt H ps kvs->PairsAt H' ps kvs
 | _,_,.nil=>.nil
 | _,_,.cons h r=>.cons (s _ _ h) (j2 s r)
theorem zg {H:Hp} {p:Addr} {k:Key} {v:V} (h:H p=some (.tup [kV k,v])):∀ {ps:List Addr} {kvs:List (Key × V)},PairsAt H ps kvs->PairsAt H (ps++[p]) (kvs++[(k,v)])
 | _,_,.nil=>.cons h .nil
 | _,_,.cons h1 r=>.cons h1 (zg h r)
theorem ltr_len (us:List Rule):(ltr us).length=us.length:=by unfold ltr;rw [List.length_map]
structure Ws (us:List Rule):Prop where
 few:us.length<=8
 nd:(ltr us).Nodup
 abc:∀ c∈ltr us,97<=c/\c<=122
 wl:∀ q∈us,q.2.length<=6
 win:∀ q∈us,∀ c∈q.2,c∈ltr us
theorem not_taken {L:List Nat} (nd:L.Nodup) {i c:Nat} (e:L[i]? = some c):c ∉ L.take i:=fun h=>by
 rw [<- List.take_append_drop i L] at nd
 obtain ⟨_,_,hdis⟩:=List.nodup_append.mp nd
 obtain ⟨hil,e2⟩:=List.getElem?_eq_some_iff.mp e
 refine hdis c h c ?_ rfl
 rw [List.drop_eq_getElem_cons hil,e2]
 exact List.mem_cons_self
structure Wp (cs:List Nat) (n:Nat) (us:List Rule):Prop where
 lt:ltr us=cs.take n
 ok:∀ q∈us,q.2.length<=6/\∀ c∈q.2,c∈cs
theorem Wp.put {cs:List Nat} {n c:Nat} {us:List Rule} {w:List Nat} (h:Wp cs n us) (nd:cs.Nodup) (e:cs[n]? = some c) (h1:w.length<=6) (h2:∀ e∈w,e∈cs):Wp cs (n+1) (us++[(c,w)])/\putK (kvw us) (Sum.inr (one c):Key) (tx w)=kvw (us++[(c,w)]):=by
 refine ⟨⟨?_,fun q hq=>?_⟩,?_⟩
 ·have:=h.lt
  unfold ltr at this ⊢
  rw [List.map_append,this,List.take_add_one,e]
  rfl
 ·rcases List.mem_append.mp hq with z | z
  ·exact h.ok q z
  ·rw [List.mem_singleton.mp z];exact ⟨h1,h2⟩
 ·rw [yv _ (qat (by rw [h.lt];exact not_taken nd e))]
  unfold kvw
  rw [List.map_append]
  rfl
theorem Wp.ws {cs:List Nat} {us:List Rule} (h:Wp cs cs.length us) (nd:cs.Nodup) (h8:cs.length<=8) (ab:∀ c∈cs,97<=c/\c<=122):Ws us/\ltr us=cs:=by
 have e:ltr us=cs:=by rw [h.lt,List.take_length]
 refine ⟨⟨?_,by rw [e];exact nd,by rw [e];exact ab,fun q hq=>(h.ok q hq).1,fun q hq=>by rw [e];exact (h.ok q hq).2⟩,e⟩
 rw [<- ltr_len,e]
 exact h8
theorem Wp.len {cs:List Nat} {n:Nat} {us:List Rule} (h:Wp cs n us):us.length<=n:=by
 rw [<- ltr_len,h.lt,List.length_take]
 omega
theorem seq_by {a u:L2.TS} {D:Ends} {σ:L2.St} {H:Hp} (Inv:L2.St->Hp->Prop) (h:∀ nx:L2.St->Hp->Prop,(∀ σ' H',Inv σ' H'->nx σ' H')->a { D with nx:=nx } σ H) (k:∀ σ' H',Inv σ' H'->u D σ' H'):tSeq a u D σ H:=h _ k
def rpl (us:List Rule) (c:Nat) (w:List Nat):List Rule:=us.map fun q=>if q.1=c then (q.1,w) else q
theorem Yw (us:List Rule) (c:Nat) (w:List Nat):ltr (rpl us c w)=ltr us:=by
 unfold rpl
 show List.map _ (List.map _ _)=List.map _ _
 rw [List.map_map]
 refine List.map_congr_left fun q _=>?_
 show (if q.1=c then (q.1,w) else q).1=q.1
 split <;> rfl
theorem qgz {us:List Rule} {c:Nat} (w:List Nat) (nd:(ltr us).Nodup) (h:c∈ltr us):putK (kvw us) (Sum.inr (one c):Key) (tx w)=kvw (rpl us c w):=by
 unfold putK
 rw [zc,za nd h]
 rw [if_pos (show (some (tx (wd us c))).isSome=true from rfl)]
 unfold rpl kvw
 rw [List.map_map,List.map_map]
 refine List.map_congr_left fun q _=>?_
 show (if (Sum.inr (one q.1):Key)=Sum.inr (one c) then ((Sum.inr (one q.1):Key),tx w) else ((Sum.inr (one q.1):Key),tx q.2))=((Sum.inr (one (if q.1=c then (q.1,w) else q).1):Key),tx (if q.1=c then (q.1,w) else q).2)
 by_cases e:q.1=c
 ·rw [if_pos e,if_pos (by rw [e])]
 ·rw [if_neg e,if_neg fun z=>e (zp (Sum.inr.inj z))]
theorem Wp.rpl {cs:List Nat} {n c:Nat} {us:List Rule} {w:List Nat} (h:Wp cs n us) (h1:w.length<=6) (h2:∀ e∈w,e∈cs):Wp cs n (rpl us c w):=by
 refine ⟨by rw [Yw];exact h.lt,fun q hq=>?_⟩
 obtain ⟨q0,h0,rfl⟩:=List.mem_map.mp hq
 by_cases e:q0.1=c
 ·rw [if_pos e];exact ⟨h1,h2⟩
 ·rw [if_neg e];exact h.ok q0 h0
theorem qau (us:List Rule):(kvw us).map (·.1)=((ltr us).map one).map Sum.inr:=by
 rw [Zb,List.map_map]
 rfl
structure Like (us rs:List Rule):Prop where
 mem:∀ c,c∈ltr rs ↔ c∈ltr us
 wd:∀ c∈ltr us,wd rs c=wd us c
 len:rs.length=us.length
theorem qg0 {us:List Rule} (h:Ws us) {c:Nat} (hc:c∈ltr us):(wd us c).length<=6/\∀ e∈wd us c,e∈ltr us:=by
 obtain ⟨q,h1,h2,h3⟩:=zm hc
 rw [h3]
 exact ⟨h.wl q h1,h.win q h1⟩
theorem qje {us:List Rule} (nd:(ltr us).Nodup) {i:Nat} {q:Rule} (e:us[i]? = some q):(ltr us)[i]? = some q.1/\q.1 ∉ (ltr us).take i:=by
 have h1:(ltr us)[i]? = some q.1:=by unfold ltr;rw [List.getElem?_map,e];rfl
 exact ⟨h1,not_taken nd h1⟩
theorem qav {g:Nat->Int}:∀ {L:List Nat} {c:Nat},c ∉ L->valV (dkF L g) (Sum.inr (one c):Key)=none
 | [],c,_=>rfl
 | a :: L,c,h=>by
  unfold dkF
  rw [List.map_cons,jq (fun z=>h (by rw [zp (Sum.inr.inj z)];exact List.mem_cons_self))]
  exact qav fun z=>h (List.mem_cons_of_mem _ z)
theorem qg1 (g:Nat->Int) (L:List Nat):(dkF L g).length=L.length:=by unfold dkF;rw [List.length_map]
def sz (rs:List Rule) (c:Nat):Nat->Int:=fun n=>((szN rs n c:Nat):Int)
end Lw
namespace Lw
open PySem L2
abbrev PR:=Nat × Nat
abbrev JS:=List (PR × List Nat) × List PR
def jin (V:List (PR × List Nat)) (p:PR):Bool:=V.any fun e=>decide (e.1=p)
def jpt (V:List (PR × List Nat)) (p:PR):List Nat:=((V.find? fun e=>decide (e.1=p)).map (·.2)).getD []
def jone (π:List Nat) (i:Nat) (b:PR) (s:JS):JS:=if jin s.1 b then s else (s.1++[(b,π++[i])],s.2++[b])
def jall (π:List Nat):Nat->List PR->JS->JS
 | _,[],s=>s
 | i,b :: bs,s=>jall π (i+1) bs (jone π i b s)
def jgo (D:PR->Bool) (nx:PR->List PR):Nat->JS->Option (List Nat)
 | 0,_=>none
 | _+1,(_,[])=>none
 | n+1,(V,p :: q)=>if D p then some (jpt V p) else jgo D nx n (jall (jpt V p) 0 (nx p) (V,q))
theorem Yb (π:List Nat):∀ (bs:List PR) (i:Nat) (s:JS) (b:PR),jall π i (bs++[b]) s=jone π (i+bs.length) b (jall π i bs s)
 | [],i,s,b=>rfl
 | c :: bs,i,s,b=>by
  show jall π (i+1) (bs++[b]) _=_
  rw [Yb π bs (i+1) _ b,List.length_cons,show i+1+bs.length=i+(bs.length+1) by omega]
  rfl
structure JOk (L:List Nat) (s:JS):Prop where
 nd:(s.1.map (·.1)).Nodup
 inn:∀ e∈s.1,e.1.1∈L/\e.1.2∈L
 q:∀ p∈s.2,jin s.1 p=true
theorem jin_mem {V:List (PR × List Nat)} {p:PR}:jin V p=true ↔ p∈V.map (·.1):=by
 unfold jin
 rw [List.any_eq_true,List.mem_map]
 exact ⟨fun ⟨e,h,z⟩=>⟨e,h,of_decide_eq_true z⟩,fun ⟨e,h,z⟩=>⟨e,h,decide_eq_true z⟩⟩
theorem JOk.one {L:List Nat} {s:JS} (h:JOk L s) {π:List Nat} {i:Nat} {b:PR} (hb:b.1∈L/\b.2∈L):JOk L (jone π i b s):=by
 unfold jone
 by_cases hj:jin s.1 b=true
 ·rw [if_pos hj];exact h
 ·rw [if_neg hj]
  have hn:b ∉ s.1.map (·.1):=fun z=>hj (jin_mem.mpr z)
  refine ⟨?_,fun e he=>?_,fun p hp=>?_⟩
  ·rw [List.map_append]
   refine List.nodup_append.mpr ⟨h.nd,List.nodup_cons.mpr ⟨by simp,List.nodup_nil⟩,fun x hx y hy=>?_⟩
   have:y=b:=by simpa using hy
   rw [this]
   exact fun z=>hn (z ▸ hx)
  ·rcases List.mem_append.mp he with z | z
   ·exact h.inn e z
   ·rw [List.mem_singleton.mp z];exact hb
  ·refine jin_mem.mpr ?_
   rw [List.map_append]
   rcases List.mem_append.mp hp with z | z
   ·exact List.mem_append_left _ (jin_mem.mp (h.q p z))
   ·rw [List.mem_singleton.mp z];exact List.mem_append_right _ (by simp)
theorem JOk.pop {L:List Nat} {V:List (PR × List Nat)} {p:PR} {q:List PR} (h:JOk L (V,p :: q)):JOk L (V,q):=⟨h.nd,h.inn,fun x hx=>h.q x (List.mem_cons_of_mem _ hx)⟩
theorem JOk.few {L:List Nat} {s:JS} (h:JOk L s):s.1.length<=L.length * L.length:=by
 have:=qfm (L:=L.flatMap fun a=>L.map fun b=>((a,b):PR)) h.nd fun p hp=>by
  obtain ⟨e,he,rfl⟩:=List.mem_map.mp hp
  obtain ⟨h1,h2⟩:=h.inn e he
  exact List.mem_flatMap.mpr ⟨e.1.1,h1,List.mem_map.mpr ⟨e.1.2,h2,rfl⟩⟩
 rw [List.length_map] at this
 refine Nat.le_trans this ?_
 clear this h
 have:∀ M:List Nat,(M.flatMap fun a=>L.map fun b=>((a,b):PR)).length=M.length * L.length:=fun M=>by
  induction M with
  | nil=>simp
  | cons a M ih=>rw [List.flatMap_cons,List.length_append,ih,List.length_map,List.length_cons,Nat.add_mul,Nat.one_mul,Nat.add_comm]
 rw [this]
 exact Nat.le_refl _
theorem qer (π:List Nat) (i:Nat) (b:PR) (s:JS):(jone π i b s).1.length+s.2.length=(jone π i b s).2.length+s.1.length:=by
 unfold jone
 split
 ·omega
 ·simp only [List.length_append,List.length_singleton];omega
theorem qg2 (π:List Nat) (i:Nat) (b:PR) (s:JS):s.1.length<=(jone π i b s).1.length:=by
 unfold jone
 split
 ·omega
 ·simp only [List.length_append];omega
theorem Jd (π:List Nat):∀ (bs:List PR) (i:Nat) (s:JS),(jall π i bs s).1.length+s.2.length=(jall π i bs s).2.length+s.1.length
 | [],_,s=>by show s.1.length+_=_;exact Nat.add_comm _ _
 | b :: bs,i,s=>by
  have h1:=Jd π bs (i+1) (jone π i b s)
  have h2:=qer π i b s
  show (jall π (i+1) bs (jone π i b s)).1.length+_=(jall π (i+1) bs (jone π i b s)).2.length+_
  omega
theorem Yx (π:List Nat):∀ (bs:List PR) (i:Nat) (s:JS),s.1.length<=(jall π i bs s).1.length
 | [],_,s=>Nat.le_refl _
 | b :: bs,i,s=>Nat.le_trans (qg2 π i b s) (Yx π bs (i+1) _)
theorem JOk.all {L:List Nat} {π:List Nat}:∀ {bs:List PR} {i:Nat} {s:JS},JOk L s->(∀ b∈bs,b.1∈L/\b.2∈L)->JOk L (jall π i bs s)
 | [],_,_,h,_=>h
 | b :: bs,i,s,h,hb=>by
  show JOk L (jall π (i+1) bs (jone π i b s))
  exact JOk.all (h.one (hb b List.mem_cons_self)) fun c hc=>hb c (List.mem_cons_of_mem _ hc)
end Lw
namespace Lw
open PySem L2 PyProof.Rows
abbrev kc (c:Nat):Key:=Sum.inr (one c)
def gputs (acc:List (Key × V)) (n:Nat) (g:List Nat):List (Key × V):=g.foldl (fun acc c=>putK acc (kc c) (.int (n:Int))) acc
def gdkN (gs:List (List Nat)):Nat->List (Key × V)
 | 0=>[]
 | i+1=>gputs (gdkN gs i) i (gs.getD i [])
def gdk (gs:List (List Nat)):List (Key × V):=gdkN gs gs.length
theorem ye (n:Nat):∀ (g:List Nat) (acc:List (Key × V)),(gputs acc n g).length<=acc.length+g.length
 | [],acc=>Nat.le_refl _
 | c :: g,acc=>by
  have h1:=ye n g (putK acc (kc c) (.int (n:Int)))
  have h2:=zn acc (kc c) (.int (n:Int))
  show (gputs (putK acc (kc c) (.int (n:Int))) n g).length<=_
  rw [List.length_cons]
  omega
theorem Vu (acc:List (Key × V)) (n:Nat) (g:List Nat) (c:Nat):gputs acc n (g++[c])=putK (gputs acc n g) (kc c) (.int (n:Int)):=by
 unfold gputs
 rw [List.foldl_append]
 rfl
theorem Zd {gs:List (List Nat)} (h:∀ g∈gs,g.length<=30):∀ i,(gdkN gs i).length<=30 * i
 | 0=>Nat.le_refl _
 | i+1=>by
  have h1:=ye i (gs.getD i []) (gdkN gs i)
  have h2:=Zd h i
  have h3:(gs.getD i []).length<=30:=by
   rw [List.getD_eq_getElem?_getD]
   cases e:gs[i]? with
   | none=>show 0<=30;omega
   | some g=>exact h g (List.mem_of_getElem? e)
  show (gputs (gdkN gs i) i (gs.getD i [])).length<=_
  omega
section
variable {P:Program} {w:World} {K:W.Frag} {mg:Str->Option Value} {base:Heap}
def spGnu:Sp:=fun vs H Q _=>∃ (g:Addr) (gs:List (List Nat)),vs=[.ref g]/\H g=some (.lst (gs.map tx))/\gs.length<=30/\(∀ x∈gs,x.length<=30)/\∀ d H',Same H H'->H d=none->H' d=some (.dK (gdk gs))->Q (.ref d) H'
theorem scGnu:FnScope ["groups","told","number","group","letter"] ["groups"] (defScope sGnu):=⟨rfl,rfl,rfl,by decide +kernel,rfl,by decide +kernel,by decide +kernel⟩
theorem qjf {f:Addr} {fd:FuncData} (F:Fun K "group_numbers" "group_numbers" sGnu f fd)
  (henumerate:mg "enumerate" = none)
  : FnOk P w K mg base CX0 1 f fd ["groups"] spGnu:=by
 refine F.ok scGnu (fun vs H Q E h=>?_) (fun cdv A outer s H vs Q E hr h=>?_)
 ·obtain ⟨g,gs,rfl,_⟩:=h
  rfl
 ·obtain ⟨g,gs,rfl,hg,hl,hx,k⟩:=h
  have hu:=zo hr
  refine ⟨_,(qd (qj (i:=1) scGnu.nd rfl (Or.inl rfl) zd)
   (qd (jy PassesOwn.never rfl (yy K rfl henumerate (qa (pv 0) qb)) (vz K (n:=2) rfl (jf (qi (i:=2) scGnu.nd rfl (Or.inl rfl)) (jf (qi (i:=3) scGnu.nd rfl (Or.inl rfl)) vv))) (qg (jy PassesOwn.never rfl (vh (pv 3)) (qi (i:=4) scGnu.nd rfl (Or.inl rfl)) (qg (vn hu (pv 1) (pv 4) (pv 2) rfl)))))
   (qg (qp (pv 1))))),?_⟩
  intro d nd
  have ngd:g≠d:=ne_of_none hg nd
  refine ⟨_,rfl,g,rfl,⟨_,SqL.of (Same.add nd _ _ hg)⟩,?_⟩
  have up:∀ {H5:Hp} {z:List (Key × V)},Same H H5->Same H (upd H5 d (.dK z)):=fun s5 c o h=>by rw [qe (ne_of_none h nd)];exact s5 _ _ h
  refine Jq (sure_enum (xs:=gs.map tx)) (fun i σ H4=>Same H H4/\H4 d=some (.dK (gdkN gs i))/\∃ v2 v3 v4,σ=[some (.ref g),some (.ref d),v2,v3,v4])
   ⟨Same.add nd,upd_same,_,_,_,rfl⟩ ?_ ?_ ?_
  ·rintro i σ H4 hi ⟨s4,_⟩
   exact SqL.of (s4 _ _ hg)
  ·rintro i zs σ H4 T hz ⟨s4,hd4,v2,v3,v4,rfl⟩ hT
   rw [List.getElem?_map] at hz
   cases ez:(gs.map tx).zipIdx[i]? with
   | none=>rw [ez] at hz;cases hz
   | some pr =>
    rw [ez] at hz
    cases hz
    rw [List.getElem?_zipIdx,List.getElem?_map] at ez
    cases ec:gs[i]? with
    | none=>rw [ec] at ez;cases ez
    | some x =>
     rw [ec] at ez
     have ez':pr=(tx x,i):=by rw [<- Option.some.inj ez,Nat.zero_add]
     subst ez'
     have hil:i < gs.length:=(List.getElem?_eq_some_iff.mp ec).1
     have hx30:=hx x (List.mem_of_getElem? ec)
     refine ⟨T,_,rfl,SqT.of upd_same,rfl,_,_,rfl,_,_,rfl,rfl,?_⟩
     have sT:=Same.add (o:=.tup [V.int (i:Int),tx x]) hT
     have hl4:=Zd hx i
     refine ⟨_,rfl,⟨x.toArray⟩,rfl,?_⟩
     refine for_by (jr (x:=⟨x.toArray⟩)) (fun j σ H5=>Same H H5/\H5 d=some (.dK (gputs (gdkN gs i) i (x.take j)))/\∃ v4,σ=[some (.ref g),some (.ref d),some (.int (i:Int)),some (tx x),v4])
      ⟨s4.trans sT,by rw [List.take_zero];exact sT _ _ hd4,_,rfl⟩ (fun _ _ _ _ _=>trivial) ?_ ?_
     ·rintro j y σ H5 hy ⟨s5,hd5,v4,rfl⟩
      have hy':(x.map sign)[j]? = some y:=hy
      rw [List.getElem?_map] at hy'
      cases ej:x[j]? with
      | none=>rw [ej] at hy';cases hy'
      | some c =>
       rw [ej] at hy'
       obtain rfl:sign c=y:=Option.some.inj hy'
       have h9:=ye i (x.take j) (gdkN gs i)
       refine ⟨_,rfl,_,rfl,_,rfl,d,_,rfl,DPut.k (k:=kc c) hd5 (small1000 (by rw [List.length_take] at h9;omega)),up s5,?_,_,rfl⟩
       rw [upd_same,<- Vu,List.take_add_one,ej]
       rfl
     ·rintro σ H5 ⟨s5,hd5,v4,rfl⟩
      refine ⟨s5,?_,_,_,_,rfl⟩
      have e1:((⟨x.toArray⟩:Str).cps.toList.map sign).length=x.length:=by simp
      rw [e1,List.take_length] at hd5
      rw [hd5]
      show _=some (HO.dK (gputs (gdkN gs i) i (gs.getD i [])))
      rw [List.getD_eq_getElem?_getD,ec]
      rfl
  ·rintro σ H4 ⟨s4,hd4,v2,v3,v4,rfl⟩
   refine ⟨_,rfl,k d H4 s4 nd ?_⟩
   rw [hd4]
   unfold gdk
   simp
def difB (rs:List Rule) (nk:List (Key × V)) (p:PR):Bool:=(!decide (valV nk (kc p.1)=valV nk (kc p.2))) || !decide ((wd rs p.1).length=(wd rs p.2).length)
def Cov (rs:List Rule) (nk:List (Key × V)):Prop:=∀ c∈ltr rs,∃ n:Int,valV nk (kc c)=some (.int n)
def spDif:Sp:=fun vs H Q _=>∃ (dw dn t:Addr) (first:List Nat) (rs:List Rule) (nk:List (Key × V)) (p:PR),vs=[.ref dw,.ref dn,.ref t]/\H dw=some (.dK (kvw rs))/\H dn=some (.dK nk)/\H t=some (.tup [sign p.1,sign p.2])/\Good first rs/\Cov rs nk/\p.1∈ltr rs/\p.2∈ltr rs/\Q (.bl (difB rs nk p)) H
theorem scDif:FnScope ["words","numbers","pair"] ["words","numbers","pair"] (defScope sDif):=⟨rfl,rfl,rfl,by decide +kernel,rfl,by decide +kernel,by decide +kernel⟩
theorem qjg {f:Addr} {fd:FuncData} (F:Fun K "differ" "differ" sDif f fd)
  (hlen:mg "len" = none)
  : FnOk P w K mg base CX0 1 f fd ["words","numbers","pair"] spDif:=by
 refine F.ok scDif (fun vs H Q E h=>?_) (fun cdv A outer s H vs Q E hr h=>?_)
 ·obtain ⟨dw,dn,t,first,rs,nk,p,rfl,_⟩:=h
  rfl
 ·obtain ⟨dw,dn,t,first,rs,nk,p,rfl,hw,hn,ht,hG,hC,h1,h2,k⟩:=h
  have hu:=zo hr
  refine ⟨_,(qg (qp (pe_or (yj Yh (qq hu (pv 1) (pe_ix (jd K) (pv 2) qf (fun _ _=>rfl)) (fun _ _=>rfl)) (qq hu (pv 1) (pe_ix (jd K) (pv 2) qf (fun _ _=>rfl)) (fun _ _=>rfl)) (nomark _)) (Zm (yj Yh (qm vb (by rfl) hlen PySem.boot_len (qa (qq hu (pv 0) (pe_ix (jd K) (pv 2) qf (fun _ _=>rfl)) (fun _ _=>rfl)) qb)) (qm vb (by rfl) hlen PySem.boot_len (qa (qq hu (pv 0) (pe_ix (jd K) (pv 2) qf (fun _ _=>rfl)) (fun _ _=>rfl)) qb)) (nomark _)))))),?_⟩
  obtain ⟨n1,e1⟩:=hC _ h1
  obtain ⟨n2,e2⟩:=hC _ h2
  have g1:=DGet.k (k:=kc p.1) hn
  have g2:=DGet.k (k:=kc p.2) hn
  have w1:=DGet.k (k:=kc p.1) hw
  have w2:=DGet.k (k:=kc p.2) hw
  rw [e1] at g1
  rw [e2] at g2
  rw [za hG.nd h1] at w1
  rw [za hG.nd h2] at w2
  refine ⟨_,rfl,_,rfl,t,_,_,_,rfl,rfl,SqT.of ht,atI_nat (j:=0) rfl,dn,_,rfl,g1,_,rfl,_,rfl,t,_,_,_,rfl,rfl,SqT.of ht,atI_nat (j:=1) rfl,dn,_,rfl,g2,rfl,_,rfl,?_⟩
  unfold difB at k
  rw [e1,e2] at k
  refine ite2 (fun hc=>?_) (fun hc=>?_)
  ·have hne:V.int n1≠V.int n2:=fun z=>by rw [z,decide_eq_true rfl] at hc;cases hc
   rw [decide_eq_false (fun z=>hne (Option.some.inj z))] at k
   exact k
  ·have heq:V.int n1=V.int n2:=Classical.byContradiction fun z=>hc (by rw [decide_eq_false z];rfl)
   rw [decide_eq_true (congrArg some heq)] at k
   have l1:=Zc hG h1
   have l2:=Zc hG h2
   refine ⟨_,rfl,_,rfl,t,_,_,_,rfl,rfl,SqT.of ht,atI_nat (j:=0) rfl,dw,_,rfl,w1,_,rfl,szl (show (wd rs p.1).length<=1000 by omega),_,rfl,_,rfl,t,_,_,_,rfl,rfl,SqT.of ht,atI_nat (j:=1) rfl,dw,_,rfl,w2,_,rfl,szl (show (wd rs p.2).length<=1000 by omega),rfl,?_⟩
   have e3:decide (V.int ((wd rs p.1).length:Int)=V.int ((wd rs p.2).length:Int))=decide ((wd rs p.1).length=(wd rs p.2).length):=decide_eq_decide.mpr ⟨fun z=>by have:=V.int.inj z;omega,fun z=>by rw [z]⟩
   show Q (.bl (!decide (V.int ((wd rs p.1).length:Int)=V.int ((wd rs p.2).length:Int)))) H
   rw [e3]
   exact k
def kp (p:PR):List Key:=[kc p.1,kc p.2]
abbrev WV:=(PR × List Nat) × Addr
def wkd (W:List WV):List (List Key × V):=W.map fun w=>(kp w.1.1,V.ref w.2)
theorem qfu {p q:PR} (h:kp p=kp q):p=q:=by
 have h1:kc p.1=kc q.1:=(List.cons.inj h).1
 have h2:kc p.2=kc q.2:=(List.cons.inj (List.cons.inj h).2).1
 have e:∀ {a b:Nat},kc a=kc b->a=b:=fun {a b} z=>by
  have:=Sum.inr.inj z
  simpa [one] using this
 exact Prod.ext (e h1) (e h2)
theorem J8 (p:PR):∀ W:List WV,valV (wkd W) (kp p)=(W.find? fun w=>decide (w.1.1=p)).map fun w=>V.ref w.2
 | []=>rfl
 | a :: W=>by
  unfold valV wkd
  rw [List.map_cons]
  by_cases e:a.1.1=p
  ·rw [List.find?_cons_of_pos (by exact decide_eq_true (by rw [e])),List.find?_cons_of_pos (by exact decide_eq_true e)]
   rfl
  ·rw [List.find?_cons_of_neg (by simp only [decide_eq_true_eq];exact fun z=>e (qfu z)),List.find?_cons_of_neg (by simp only [decide_eq_true_eq];exact e)]
   exact J8 p W
theorem qes (p:PR) (W:List WV):(valV (wkd W) (kp p)).isSome=jin (W.map (·.1)) p:=by
 rw [J8,Option.isSome_map]
 unfold jin
 rw [List.any_map]
 induction W with
 | nil=>rfl
 | cons a W ih =>
  rw [List.any_cons]
  by_cases e:a.1.1=p
  ·rw [List.find?_cons_of_pos (by exact decide_eq_true e)]
   show true=(decide (a.1.1=p) || _)
   rw [decide_eq_true e]
   rfl
  ·rw [List.find?_cons_of_neg (by simp only [decide_eq_true_eq];exact e),ih]
   show _=(decide (a.1.1=p) || _)
   rw [decide_eq_false e]
   rfl
theorem qg3 {p:PR} {W:List WV} {π:List Nat} {a:Addr} (h:jin (W.map (·.1)) p=false):putK (wkd W) (kp p) (V.ref a)=wkd (W++[((p,π),a)]):=by
 unfold putK
 rw [if_neg]
 ·unfold wkd
  rw [List.map_append]
  rfl
 ·intro z
  obtain ⟨kv,h1,h2⟩:=List.any_eq_true.mp z
  obtain ⟨q,hq,rfl⟩:=List.mem_map.mp h1
  have:jin (W.map (·.1)) p=true:=jin_mem.mpr (List.mem_map.mpr ⟨q.1,List.mem_map.mpr ⟨q,hq,rfl⟩,qfu (of_decide_eq_true h2)⟩)
  rw [h] at this
  cases this
theorem Yy {p:PR}:∀ {W:List WV},jin (W.map (·.1)) p=true->∃ w∈W,valV (wkd W) (kp p)=some (V.ref w.2)/\jpt (W.map (·.1)) p=w.1.2
 | [],h=>by cases h
 | a :: W,h=>by
  by_cases e:a.1.1=p
  ·refine ⟨a,List.mem_cons_self,?_,?_⟩
   ·rw [J8,List.find?_cons_of_pos (by exact decide_eq_true e)];rfl
   ·unfold jpt
    rw [List.map_cons,List.find?_cons_of_pos (by exact decide_eq_true e)]
    rfl
  ·have h':jin (W.map (·.1)) p=true:=by
    have:(decide (a.1.1=p) || jin (W.map (·.1)) p)=true:=h
    rw [decide_eq_false e] at this
    exact this
   obtain ⟨w,hw,h1,h2⟩:=Yy h'
   refine ⟨w,List.mem_cons_of_mem _ hw,?_,?_⟩
   ·rw [J8,List.find?_cons_of_neg (by simp only [decide_eq_true_eq];exact e),<- J8];exact h1
   ·unfold jpt at h2 ⊢
    rw [List.map_cons,List.find?_cons_of_neg (by simp only [decide_eq_true_eq];exact e)]
    exact h2
def nxp (rs:List Rule) (p:PR):List PR:=(wd rs p.1).zip (wd rs p.2)
def way (rs:List Rule) (gs:List (List Nat)) (c d:Nat):Option (List Nat):=jgo (difB rs (gdk gs)) (nxp rs) 65 ([((c,d),[])],[(c,d)])
def WayIs (o:Option (List Nat)) (H:Hp) (r:V):Prop:=(o=none/\r=.non)\/∃ π a,o=some π/\r=.ref a/\H a=some (.lst (π.map fun (i:Nat)=>V.int (i:Int)))
end
end Lw
namespace Lw
open PySem L2 PyProof.Rows
abbrev qr (q:List PR):List Rule:=q.map fun p=>(p.1,[p.2])
structure WSt (H0 H:Hp) (dy Lw:Addr) (W:List WV) (q:List PR) (ts:List Addr):Prop where
 sm:Same H0 H
 d:H dy=some (.dT (wkd W))
 l:H Lw=some (.lst (ts.map V.ref))
 t:RulesAt H ts (qr q)
 p:∀ w∈W,H w.2=some (.lst (w.1.2.map fun (i:Nat)=>V.int (i:Int)))/\w.2≠Lw
abbrev nts (π:List Nat):List V:=π.map fun (i:Nat)=>V.int (i:Int)
theorem qg4 {V:List (PR × List Nat)} {p:PR} {e:PR × List Nat} (h:jin V p=true):jpt (V++[e]) p=jpt V p:=by
 unfold jpt
 rw [List.find?_append]
 cases z:V.find? (fun e=>decide (e.1=p)) with
 | some x=>rfl
 | none =>
  obtain ⟨x,h1,h2⟩:=List.any_eq_true.mp h
  exact absurd h2 (List.find?_eq_none.mp z x h1)
theorem qdf {V:List (PR × List Nat)} {p:PR} {e:PR × List Nat} (h:jin V p=true):jin (V++[e]) p=true:=by
 unfold jin at h ⊢
 rw [List.any_append,h]
 rfl
section
variable {H0 H:Hp} {dy Lw:Addr} {W:List WV} {q:List PR} {ts:List Addr}
theorem WSt.ne (h:WSt H0 H dy Lw W q ts):dy≠Lw:=fun z=>by
 have:=h.d
 rw [z,h.l] at this
 cases this
theorem WSt.add (h:WSt H0 H dy Lw W q ts) {a:Addr} {o:HO} (n:H a=none):WSt H0 (upd H a o) dy Lw W q ts :=
 have s:=Same.add (o:=o) n
 ⟨h.sm.trans s,s _ _ h.d,s _ _ h.l,h.t.mono (TupS.same s),fun w hw=>⟨s _ _ (h.p w hw).1,(h.p w hw).2⟩⟩
theorem WSt.list (h:WSt H0 H dy Lw W q ts) (n:H0 Lw=none) {q':List PR} {ts':List Addr} (ht:RulesAt H ts' (qr q')):WSt H0 (upd H Lw (.lst (ts'.map V.ref))) dy Lw W q' ts':=by
 refine ⟨fun c o e=>by rw [qe (ne_of_none e n)];exact h.sm _ _ e,by rw [qe h.ne];exact h.d,upd_same,ht.mono fun c xs e=>?_,fun w hw=>⟨by rw [qe (h.p w hw).2];exact (h.p w hw).1,(h.p w hw).2⟩⟩
 rw [qe fun z=>by rw [z,h.l] at e;cases e]
 exact e
theorem WSt.put (h:WSt H0 H dy Lw W q ts) (n:H0 dy=none) {b:PR} {π:List Nat} {a:Addr} (ha:H a=some (.lst (nts π))) (na:a≠Lw):WSt H0 (upd H dy (.dT (wkd (W++[((b,π),a)])))) dy Lw (W++[((b,π),a)]) q ts:=by
 refine ⟨fun c o e=>by rw [qe (ne_of_none e n)];exact h.sm _ _ e,upd_same,by rw [qe h.ne.symm];exact h.l,h.t.mono fun c xs e=>?_,fun w hw=>?_⟩
 ·rw [qe fun z=>by rw [z,h.d] at e;cases e]
  exact e
 ·rcases List.mem_append.mp hw with z | z
  ·refine ⟨?_,(h.p w z).2⟩
   rw [qe fun y=>by have:=(h.p w z).1;rw [y,h.d] at this;cases this]
   exact (h.p w z).1
  ·rw [List.mem_singleton.mp z]
   refine ⟨?_,na⟩
   have nad:a≠dy:=fun y=>by rw [y,h.d] at ha;cases ha
   rw [qe nad]
   exact ha
end
section
variable {P:Program} {w:World} {K:W.Frag} {mg:Str->Option Value} {base:Heap}
def spWay:Sp:=fun vs H Q _=>∃ (t g:Addr) (first:List Nat) (rs:List Rule) (gs:List (List Nat)) (c d:Nat),vs=[.ref t,.ref g,sign c,sign d]/\BookAt H t first rs/\Good first rs/\H g=some (.lst (gs.map tx))/\gs.length<=30/\(∀ x∈gs,x.length<=30)/\Cov rs (gdk gs)/\c∈ltr rs/\d∈ltr rs /\
 ∀ r H',Same H H'->WayIs (way rs gs c d) H' r->Q r H'
theorem scWay:FnScope ["book","groups","letter","second","words","numbers","ways","waiting","pair","place","beyond"] ["book","groups","letter","second"] (defScope sWay):=⟨rfl,rfl,rfl,by decide +kernel,rfl,by decide +kernel,by decide +kernel⟩
theorem qjh {f fGnu fDif:Addr} {fd fdGnu fdDif:FuncData} (F:Fun K "way_apart" "way_apart" sWay f fd)
  (GGnu:FnOk P w K mg base CX0 1 fGnu fdGnu ["groups"] spGnu)
  (gGnu:Gf K mg "group_numbers" fGnu fdGnu ["groups"])
  (GDif:FnOk P w K mg base CX0 1 fDif fdDif ["words","numbers","pair"] spDif)
  (gDif:Gf K mg "differ" fDif fdDif ["words","numbers","pair"])
  (hzip:mg "zip" = none)
  (henumerate:mg "enumerate" = none)
  (hdict:mg "dict" = none)
  : FnOk P w K mg base CX0 2 f fd ["book","groups","letter","second"] spWay:=by
 refine F.ok scWay (fun vs H Q E h=>?_) (fun cdv A outer s H vs Q E hr h=>?_)
 ·obtain ⟨t,g,first,rs,gs,c,d,rfl,_⟩:=h
  rfl
 ·obtain ⟨t,g,first,rs,gs,c,d,rfl,hB,hG,hg,hl,hx,hC,hc,hd,k⟩:=h
  have hu:=zo hr
  refine ⟨_,(qd (qj (i:=4) scWay.nd rfl (Or.inl rfl) (jb (yb rfl) (by rfl) hdict (by first | exact PySem.boot_dict | decide +kernel) (qa (pe_ix (jd K) (pv 0) qf (fun _ _=>rfl)) qb)))
   (qd (qj (i:=5) scWay.nd rfl (Or.inl rfl) (qh GGnu hr rfl gGnu.m gGnu.k gGnu.b .nil pass0 (qa (pv 1) qb)))
   (qd (qj (i:=6) scWay.nd rfl (Or.inl rfl) (qek hu (vt (qa (pv 2) (qa (pv 3) qb))) (j0 qb)))
   (qd (qj (i:=7) scWay.nd rfl (Or.inl rfl) (j0 (qa (vt (qa (pv 2) (qa (pv 3) qb))) qb)))
   (qd (Vx PassesOwn.never (pt_truthK K (pv 7) (fun _=>rfl)) (qd (qj (i:=8) scWay.nd rfl (Or.inl rfl) (ju K PySem.F.plainAttrs_list PySem.F.slot_list_pop PySem.F.type_list_pop qab (pv 7) (qa qf qb)))
   (qd (vm (yr (qh GDif hr rfl gDif.m gDif.k gDif.b .nil pass0 (qa (pv 4) (qa (pv 5) (qa (pv 8) qb))))) (qg (qp (qq hu (pv 6) (pv 8) (fun _ _=>rfl)))) jh)
   (qg (jy PassesOwn.never rfl (qbo rfl henumerate rfl hzip (qa (qq hu (pv 4) (pe_ix (jd K) (pv 8) qf (fun _ _=>rfl)) (fun _ _=>rfl)) (qa (qq hu (pv 4) (pe_ix (jd K) (pv 8) qf (fun _ _=>rfl)) (fun _ _=>rfl)) qb))) (vz K (n:=2) rfl (jf (qi (i:=9) scWay.nd rfl (Or.inl rfl)) (jf (qi (i:=10) scWay.nd rfl (Or.inl rfl)) vv))) (qg (vm (qh5 (qb9 hu (pv 10) (pv 6))) (qd (vn hu (pv 6) (pv 10) (je qih (qq hu (pv 6) (pv 8) (fun _ _=>rfl)) (j0 (qa (pv 9) qb))) rfl)
   (qg (vd (ju K PySem.F.plainAttrs_list PySem.F.slot_list_append PySem.F.type_list_append vg (pv 7) (qa (pv 10) qb))))) jh)))))))
   (qg (qp qfc))))))),?_⟩
  have hfew:=hG.few
  obtain ⟨r,ps,b1,b2,b3⟩:=hB.ex
  refine ⟨_,rfl,t,_,_,_,rfl,rfl,SqT.of b1,atI_nat (j:=1) rfl,r,ps,kvw rs,rfl,b2,J5 b3,by rw [Zb];exact Jx hG.nd,by rw [List.length_map];omega,fun dw ndw=>?_⟩
  have s1:=Same.add (o:=.dK (kvw rs)) ndw
  have hdw:upd H dw (.dK (kvw rs)) dw=some (.dK (kvw rs)):=upd_same
  revert s1 hdw
  generalize upd H dw (.dK (kvw rs))=H1
  intro s1 hdw
  refine ⟨_,rfl,g,gs,rfl,s1 _ _ hg,hl,hx,fun dn H2 s2 n2 hdn=>?_⟩
  have hdw2:=s2 _ _ hdw
  have e8:(ltr rs).length<=8:=by rw [ltr_len];exact hfew
  intro dy ndy
  refine ⟨_,rfl,_,rfl,szl (show 2<=1000 by decide),fun T1 nT1=>⟨szl (show 0<=1000 by decide),fun E nE=>?_⟩⟩
  have a1:=Same.add (o:=.dT []) ndy
  have a2:=Same.add (o:=.tup [sign c,sign d]) nT1
  have a3:=Same.add (o:=.lst []) nE
  have nyE:dy≠E:=ne_of_none (a2 _ _ (upd_same (H:=H2) (a:=dy) (o:=.dT []))) nE
  refine ⟨a3 _ _ (a2 _ _ upd_same),T1,kp (c,d),rfl,a3 _ _ upd_same,?_⟩
  refine ⟨_,rfl,_,rfl,szl (show 2<=1000 by decide),fun T2 nT2=>⟨szl (show 1<=1000 by decide),fun Lw nLw=>?_⟩⟩
  have hy4:=upd_same (H:=upd (upd (upd H2 dy (.dT [])) T1 (.tup [sign c,sign d])) E (.lst [])) (a:=dy) (o:=.dT [(kp (c,d),V.ref E)])
  have hE4:upd (upd (upd (upd H2 dy (.dT [])) T1 (.tup [sign c,sign d])) E (.lst [])) dy (.dT [(kp (c,d),V.ref E)]) E=some (.lst []):=by rw [qe nyE.symm,upd_same]
  have s4:Same H2 (upd (upd (upd (upd H2 dy (.dT [])) T1 (.tup [sign c,sign d])) E (.lst [])) dy (.dT [(kp (c,d),V.ref E)])):=fun x o e=>by
   rw [qe (ne_of_none e ndy)]
   exact a3 _ _ (a2 _ _ (a1 _ _ e))
  revert nT2 nLw hy4 hE4 s4
  generalize upd (upd (upd (upd H2 dy (.dT [])) T1 (.tup [sign c,sign d])) E (.lst [])) dy (.dT [(kp (c,d),V.ref E)])=H4
  intro nT2 nLw hy4 hE4 s4
  have a4:=Same.add (o:=.tup [sign c,sign d]) nT2
  have a5:=Same.add (o:=.lst [V.ref T2]) nLw
  have st0:WSt H2 (upd (upd H4 T2 (.tup [sign c,sign d])) Lw (.lst [V.ref T2])) dy Lw [(((c,d),[]),E)] [(c,d)] [T2]:=by
   refine ⟨s4.trans (a4.trans a5),a5 _ _ (a4 _ _ hy4),upd_same,.cons (a5 _ _ upd_same) .nil,fun w hw=>?_⟩
   rw [List.mem_singleton.mp hw]
   exact ⟨a5 _ _ (a4 _ _ hE4),ne_of_none (a4 _ _ hE4) nLw⟩
  have nLw0:H2 Lw=none:=(s4.trans a4).free nLw
  have s02:=s1.trans s2
  clear a1 a2 a3 a4 a5 hy4 hE4 s4 nT1 nE nT2 nLw nyE
  revert st0
  generalize upd (upd H4 T2 (.tup [sign c,sign d])) Lw (.lst [V.ref T2])=H5
  intro st0
  refine ⟨fun m σ H'=>∃ (W:List WV) (q:List PR) (ts:List Addr) (v8 v9 v10:Option V),σ=[some (.ref t),some (.ref g),some (sign c),some (sign d),some (.ref dw),some (.ref dn),some (.ref dy),some (.ref Lw),v8,v9,v10]/\WSt H2 H' dy Lw W q ts/\JOk (ltr rs) (W.map (·.1),q)/\(∀ w∈W,w.1.2.length+1<=W.length)/\q.length<=W.length/\m=(64 - W.length)+q.length/\jgo (difB rs (gdk gs)) (nxp rs) (m+1) (W.map (·.1),q)=way rs gs c d,
   ⟨_,_,_,_,_,_,_,rfl,st0,⟨by simp,fun e he=>by rw [List.mem_singleton.mp he];exact ⟨hc,hd⟩,fun p hp=>by rw [List.mem_singleton.mp hp];simp [jin]⟩,fun w hw=>by rw [List.mem_singleton.mp hw];exact Nat.le_refl _,Nat.le_refl _,rfl,rfl⟩,?_⟩
  rintro m σ H6 ⟨W,q,ts,v8,v9,v10,rfl,st,jo,pl,ql,hm,hj⟩
  have few:W.length<=64:=by
   have:=jo.few
   rw [List.length_map] at this
   exact Nat.le_trans this (Nat.mul_le_mul e8 e8)
  refine ⟨_,rfl,_,.inl ⟨_,SqL.of st.l,rfl⟩,?_⟩
  cases q with
  | nil =>
   have et:ts=[]:=List.length_eq_zero_iff.mp (by rw [st.t.len];rfl)
   subst et
   refine iteF (k .non H6 (s02.trans st.sm) (.inl ⟨?_,rfl⟩))
   rw [<- hj]
   rfl
  | cons p q =>
  obtain ⟨t0,ts',rfl⟩:∃ t0 ts',ts=t0 :: ts':=by
   cases ts with
   | nil=>have:=st.t.len;simp at this
   | cons a b=>exact ⟨a,b,rfl⟩
  obtain ⟨ht0,hts'⟩:H6 t0=some (.tup [sign p.1,sign p.2])/\RulesAt H6 ts' (qr q):=by
   have:=st.t
   cases this with
   | cons h1 h2=>exact ⟨h1,h2⟩
  refine iteT ?_
  have hpin:=jo.inn
  have hjp:jin (W.map (·.1)) p=true:=jo.q p List.mem_cons_self
  have hpl:p.1∈ltr rs/\p.2∈ltr rs:=by
   obtain ⟨e,he,rfl⟩:=List.mem_map.mp (jin_mem.mp hjp)
   exact jo.inn e he
  refine ⟨fun σ' H'=>∃ (W':List WV) (q':List PR) (ts':List Addr) (v8 v9 v10:Option V),σ'=[some (.ref t),some (.ref g),some (sign c),some (sign d),some (.ref dw),some (.ref dn),some (.ref dy),some (.ref Lw),v8,v9,v10]/\WSt H2 H' dy Lw W' q' ts'/\JOk (ltr rs) (W'.map (·.1),q')/\(∀ w∈W',w.1.2.length+1<=W'.length)/\q'.length<=W'.length/\m=(64 - W'.length)+q'.length+1/\jgo (difB rs (gdk gs)) (nxp rs) m (W'.map (·.1),q')=way rs gs c d,?_,?_⟩
  ·rintro σ' H' ⟨W',q',ts',v8,v9,v10,rfl,a1,a2,a3,a6,a4,a5⟩
   exact ⟨(64 - W'.length)+q'.length,by omega,W',q',ts',v8,v9,v10,rfl,a1,a2,a3,a6,rfl,by rw [<- a4];exact a5⟩
  refine ⟨_,rfl,.inl ⟨rfl,_,SqL.of st.l⟩,Lw,_,0,0,_,rfl,rfl,st.l,by decide,by decide,by rw [List.length_map,List.length_cons];simp [seqIndex?],rfl,?_⟩
  have st1:WSt H2 (upd H6 Lw (.lst (ts'.map V.ref))) dy Lw W q ts':=st.list nLw0 hts'
  have ht1:upd H6 Lw (.lst (ts'.map V.ref)) t0=some (.tup [sign p.1,sign p.2]):=by
   rw [qe fun z=>by rw [z,st.l] at ht0;cases ht0]
   exact ht0
  rw [show ((t0 :: ts').map V.ref).eraseIdx 0=ts'.map V.ref from rfl]
  revert st1 ht1
  generalize upd H6 Lw (.lst (ts'.map V.ref))=H7
  intro st1 ht1
  have hjo:JOk (ltr rs) (W.map (·.1),q):=JOk.pop (p:=p) jo
  clear st ht0 hts'
  obtain ⟨w0,hw0,hv0,hp0⟩:=Yy hjp
  have hg0:∀ {Hz:Hp},Hz dy=some (.dT (wkd W))->Hz t0=some (.tup [sign p.1,sign p.2])->DGet Hz dy (.ref t0) (some (.ref w0.2)):=fun h1 h2=>by
   have:=DGet.t (k:=kp p) h1 h2
   rwa [hv0] at this
  refine ⟨_,rfl,_,rfl,_,rfl,dw,dn,t0,first,rs,gdk gs,p,rfl,st1.sm _ _ hdw2,st1.sm _ _ hdn,ht1,hG,hC,hpl.1,hpl.2,_,rfl,?_⟩
  cases hD:difB rs (gdk gs) p with
  | true =>
   refine iteT ⟨_,rfl,_,rfl,dy,_,rfl,hg0 st1.d ht1,?_⟩
   refine k _ H7 (s02.trans st1.sm) (.inr ⟨w0.1.2,w0.2,?_,rfl,(st1.p w0 hw0).1⟩)
   rw [<- hj,<- hp0]
   show (if difB rs (gdk gs) p=true then _ else _)=_
   rw [if_pos hD]
  | false =>
   refine iteF ?_
   have hj2:jgo (difB rs (gdk gs)) (nxp rs) m (jall (jpt (W.map (·.1)) p) 0 (nxp rs p) (W.map (·.1),q))=way rs gs c d:=by
    rw [<- hj]
    show _=(if difB rs (gdk gs) p=true then _ else _)
    rw [if_neg (by rw [hD];decide)]
   rw [hp0] at hj2
   have w1:=DGet.k (k:=kc p.1) (st1.sm _ _ hdw2)
   have w2:=DGet.k (k:=kc p.2) (st1.sm _ _ hdw2)
   rw [za hG.nd hpl.1] at w1
   rw [za hG.nd hpl.2] at w2
   refine ⟨_,rfl,_,rfl,t0,_,_,_,rfl,rfl,SqT.of ht1,atI_nat (j:=0) rfl,dw,_,rfl,w1,_,rfl,_,rfl,t0,_,_,_,rfl,rfl,SqT.of ht1,atI_nat (j:=1) rfl,dw,_,rfl,w2,_,_,rfl,?_⟩
   refine qgn (fun i σ H8=>∃ (W':List WV) (q':List PR) (ts':List Addr) (v9 v10:Option V),σ=[some (.ref t),some (.ref g),some (sign c),some (sign d),some (.ref dw),some (.ref dn),some (.ref dy),some (.ref Lw),some (.ref t0),v9,v10]/\WSt H2 H8 dy Lw W' q' ts'/\H8 t0=some (.tup [sign p.1,sign p.2])/\JOk (ltr rs) (W'.map (·.1),q')/\(∀ w∈W',w.1.2.length+1<=W'.length)/\(W'.map (·.1),q')=jall w0.1.2 0 ((nxp rs p).take i) (W.map (·.1),q)/\jin (W'.map (·.1)) p=true/\jpt (W'.map (·.1)) p=w0.1.2)
    ⟨W,q,ts',_,_,rfl,st1,ht1,hjo,pl,rfl,hjp,hp0⟩ ?_ ?_
   ·rintro i c1 c2 σ H8 T O hc1 hc2 ⟨W',q',ts2,v9,v10,rfl,s8,h8,j8,p8,e8',i8,t8⟩ nT nO nTO
    have hc1':(wd rs p.1)[i]? = some c1:=by simpa using hc1
    have hc2':(wd rs p.2)[i]? = some c2:=by simpa using hc2
    have hb:(nxp rs p)[i]? = some (c1,c2):=by unfold nxp;exact List.getElem?_zip_eq_some.mpr ⟨hc1',hc2'⟩
    have hbl:c1∈ltr rs/\c2∈ltr rs:=⟨zh hG hpl.1 _ (List.mem_of_getElem? hc1'),zh hG hpl.2 _ (List.mem_of_getElem? hc2')⟩
    have hil:i < (nxp rs p).length:=(List.getElem?_eq_some_iff.mp hb).1
    have enx:jall w0.1.2 0 ((nxp rs p).take (i+1)) (W.map (·.1),q)=jone w0.1.2 i (c1,c2) (W'.map (·.1),q'):=by
     rw [List.take_add_one,hb]
     show jall w0.1.2 0 ((nxp rs p).take i++[(c1,c2)]) _=_
     rw [Yb,<- e8',List.length_take,Nat.min_eq_left (Nat.le_of_lt hil),Nat.zero_add]
    have sO:=(s8.add (o:=.tup [sign c1,sign c2]) nT).add (o:=.tup [V.int (i:Int),V.ref T]) (a:=O) (by rw [qe nTO.symm];exact nO)
    have nO':upd H8 T (.tup [sign c1,sign c2]) O=none:=by rw [qe nTO.symm];exact nO
    have hT9:upd (upd H8 T (.tup [sign c1,sign c2])) O (.tup [V.int (i:Int),V.ref T]) T=some (.tup [sign c1,sign c2]):=by rw [qe nTO,upd_same]
    have h9:upd (upd H8 T (.tup [sign c1,sign c2])) O (.tup [V.int (i:Int),V.ref T]) t0=some (.tup [sign p.1,sign p.2]):=Same.add nO' _ _ (Same.add nT _ _ h8)
    refine ⟨O,_,rfl,SqT.of upd_same,rfl,_,_,rfl,_,_,rfl,rfl,?_⟩
    revert sO hT9 h9
    generalize upd (upd H8 T (.tup [sign c1,sign c2])) O (.tup [V.int (i:Int),V.ref T])=H9
    intro sO hT9 h9
    refine ⟨_,rfl,_,rfl,dy,_,rfl,DGet.t (k:=kp (c1,c2)) sO.d hT9,_,rfl,?_⟩
    rw [qes]
    rw [enx]
    unfold jone
    have few':W'.length<=64:=by
     have:=j8.few
     rw [List.length_map] at this
     exact Nat.le_trans this (Nat.mul_le_mul e8 e8)
    have fewq:q'.length<=200:=by
     have hlen:=Jd w0.1.2 ((nxp rs p).take i) 0 (W.map (·.1),q)
     rw [<- e8'] at hlen
     simp only [List.length_map,List.length_cons] at hlen ql
     omega
    cases hin:jin (W'.map (·.1)) (c1,c2) with
    | true =>
     refine iteF ⟨W',q',ts2,_,_,rfl,sO,h9,j8,p8,?_,i8,t8⟩
     rw [if_pos rfl]
    | false =>
     obtain ⟨w3,hw3,hv3,hp3⟩:=Yy i8
     have hg3:=DGet.t (k:=kp p) sO.d h9
     rw [hv3] at hg3
     rw [t8] at hp3
     refine iteT ⟨_,rfl,_,rfl,dy,_,rfl,hg3,_,rfl,szl (show 1<=1000 by decide),fun E nE=>?_⟩
     have sE:=sO.add (o:=.lst [V.int (i:Int)]) nE
     have aE:=Same.add (o:=.lst [V.int (i:Int)]) nE
     have l3:=p8 w3 hw3
     refine ⟨w3.2,E,_,_,rfl,rfl,(sE.p w3 hw3).1,upd_same,szl (by rw [List.length_map];show _+1<=1000;omega),fun A nA=>?_⟩
     have sA:=sE.add (o:=.lst (nts w3.1.2++[V.int (i:Int)])) nA
     have aA:=Same.add (o:=.lst (nts w3.1.2++[V.int (i:Int)])) nA
     have hA:upd (upd H9 E (.lst [V.int (i:Int)])) A (.lst (nts w3.1.2++[V.int (i:Int)])) A=some (.lst (nts (w3.1.2++[i]))):=by rw [upd_same];unfold nts;rw [List.map_append];rfl
     have nAL:A≠Lw:=(ne_of_none sE.l nA).symm
     have hT10:=aA _ _ (aE _ _ hT9)
     have h10:=aA _ _ (aE _ _ h9)
     revert sA hA hT10 h10
     generalize upd (upd H9 E (.lst [V.int (i:Int)])) A (.lst (nts w3.1.2++[V.int (i:Int)]))=H10
     intro sA hA hT10 h10
     refine ⟨_,rfl,_,rfl,dy,_,rfl,DPut.t (k:=kp (c1,c2)) sA.d hT10 (small1000 (by unfold wkd;rw [List.length_map];omega)),?_⟩
     rw [qg3 (π:=w3.1.2++[i]) hin]
     have sP:=sA.put ndy (b:=(c1,c2)) hA nAL
     have hT11:upd H10 dy (.dT (wkd (W'++[(((c1,c2),w3.1.2++[i]),A)]))) T=some (.tup [sign c1,sign c2]):=by rw [qe fun z=>by rw [z,sA.d] at hT10;cases hT10];exact hT10
     have h11:upd H10 dy (.dT (wkd (W'++[(((c1,c2),w3.1.2++[i]),A)]))) t0=some (.tup [sign p.1,sign p.2]):=by rw [qe fun z=>by rw [z,sA.d] at h10;cases h10];exact h10
     revert sP hT11 h11
     generalize upd H10 dy (.dT (wkd (W'++[(((c1,c2),w3.1.2++[i]),A)])))=H11
     intro sP hT11 h11
     have lts:(ts2.map V.ref).length=q'.length:=by rw [List.length_map,sP.t.len,List.length_map]
     refine ⟨_,rfl,.inl ⟨rfl,_,SqL.of sP.l⟩,_,rfl,Lw,_,_,rfl,rfl,sP.l,small1000 (by rw [lts];omega),?_⟩
     rw [show ts2.map V.ref++[V.ref T]=(ts2++[T]).map V.ref from by rw [List.map_append];rfl]
     have sF:=sP.list nLw0 (q':=q'++[(c1,c2)]) (ts':=ts2++[T]) (by rw [show qr (q'++[(c1,c2)])=qr q'++[(c1,[c2])] from List.map_append];exact sP.t.snoc hT11)
     refine ⟨W'++[(((c1,c2),w3.1.2++[i]),A)],q'++[(c1,c2)],ts2++[T],_,_,rfl,sF,?_,?_,?_,?_,?_,?_⟩
     ·rw [qe fun z=>by rw [z,sP.l] at h11;cases h11]
      exact h11
     ·have:=j8.one (π:=w3.1.2) (i:=i) (b:=(c1,c2)) hbl
      unfold jone at this
      rw [if_neg (by rw [hin];decide)] at this
      rw [List.map_append]
      exact this
     ·intro w hw
      rw [List.length_append]
      rcases List.mem_append.mp hw with z | z
      ·have:=p8 w z
       omega
      ·rw [List.mem_singleton.mp z]
       show (w3.1.2++[i]).length+1<=W'.length+1
       rw [List.length_append]
       show w3.1.2.length+1+1<=_
       omega
     ·rw [if_neg (by decide),List.map_append,hp3]
      rfl
     ·rw [List.map_append]
      exact qdf i8
     ·rw [List.map_append]
      exact (qg4 i8).trans t8
   ·rintro σ H8 ⟨W',q',ts2,v9,v10,rfl,s8,h8,j8,p8,e8',i8,t8⟩
    have en:(nxp rs p).take (min (wd rs p.1).length (wd rs p.2).length)=nxp rs p:=List.take_of_length_le (by unfold nxp;rw [List.length_zip];exact Nat.le_refl _)
    have emin:min (⟨(wd rs p.1).toArray⟩:Str).cps.size (⟨(wd rs p.2).toArray⟩:Str).cps.size=min (wd rs p.1).length (wd rs p.2).length:=by simp
    rw [emin,en] at e8'
    have few':W'.length<=64:=by
     have:=j8.few
     rw [List.length_map] at this
     exact Nat.le_trans this (Nat.mul_le_mul e8 e8)
    have hlen:=Jd w0.1.2 (nxp rs p) 0 (W.map (·.1),q)
    have hle:=Yx w0.1.2 (nxp rs p) 0 (W.map (·.1),q)
    rw [<- e8'] at hlen hle hj2
    simp only [List.length_map,List.length_cons] at hlen hle hm ql
    exact ⟨W',q',ts2,_,_,_,rfl,s8,j8,p8,by omega,by omega,hj2⟩
end
end Lw
namespace Lw
open PySem L2 PyProof.Rows
theorem comp_byR {J:It} {xs:List V} {ok:Hp->Prop} {g:TG} {tc:TT} {te:TE} {R:Addr->List V->Hp->Prop} {τ0:L2.St} {H:Hp} (S:Sure J xs ok) (hz:xs.length<=10000) (Pv:Nat->List V->L2.St->Hp->Prop) (h0:Pv 0 [] τ0 H)
  (hl:∀ i ys τ H,i<=xs.length->Pv i ys τ H->ok H/\ys.length<=i)
  (hs:∀ i x ys τ H,xs[i]? = some x->Pv i ys τ H->g x τ H fun τ2 H2=>tc τ2 H2 fun b H3=>if b=true then te τ2 H3 (fun y H4=>Pv (i+1) (ys++[y]) τ2 H4) else Pv (i+1) ys τ2 H3)
  (hd:∀ ys τ H D,Pv xs.length ys τ H->H D=none->R D ys H) :
  ∃ W:Nat->Nat->List V->L2.St->Hp->Prop,(∃ m,W 0 m [] τ0 H)/\∀ i m ys τ H,W i m ys τ H ->
   (J.stop i H/\∀ D,H D=none->R D ys H) \/
   (J.go i H/\ys.length < sizeLine/\∃ N:List V->L2.St->Hp->Prop,(∀ ys' τ' H',N ys' τ' H'->∃ m',m' < m/\W (i+1) m' ys' τ' H') /\
    ∀ x H',J.yld i H x H'->g x τ H' fun τ2 H2=>tc τ2 H2 fun b H3=>if b=true then te τ2 H3 (fun y H4=>N (ys++[y]) τ2 H4) else N ys τ2 H3):=by
 refine ⟨fun i m ys τ H=>m=xs.length - i/\i<=xs.length/\Pv i ys τ H,⟨xs.length,by simp,Nat.zero_le _,h0⟩,?_⟩
 rintro i m ys τ H ⟨rfl,hi,p⟩
 obtain ⟨q,hy⟩:=hl i ys τ H hi p
 by_cases hlt:i < xs.length
 ·refine .inr ⟨S.go i H hlt q,Nat.lt_of_lt_of_le (show ys.length < 10000 by omega) (by decide),fun ys' τ' H'=>Pv (i+1) ys' τ' H',fun ys' τ' H' p'=>⟨xs.length - (i+1),by omega,rfl,hlt,p'⟩,fun x H' y=>?_⟩
  obtain ⟨rfl,y'⟩:=S.yld i H x H' hlt q y
  exact hs i x ys τ _ y' p
 ·have e:i=xs.length:=by omega
  subst e
  exact .inl ⟨S.stop H q,fun D hD=>hd ys τ H D p hD⟩
def alk (rs:List Rule) (gs:List (List Nat)) (c:Nat):List Nat:=(ltr rs).filter fun e=>(way rs gs c e).isNone
theorem j3 {α:Type} (f:α->Bool) {L:List α} {i:Nat} {c:α} (e:L[i]? = some c):(L.take (i+1)).filter f=(L.take i).filter f++(if f c then [c] else []):=by
 rw [List.take_add_one,e,List.filter_append]
 congr 1
 show List.filter f [c]=_
 rw [List.filter_cons,List.filter_nil]
section
variable {P:Program} {w:World} {K:W.Frag} {mg:Str->Option Value} {base:Heap}
def spAlw (K:W.Frag):Sp:=fun vs H Q _=>∃ (t g:Addr) (first:List Nat) (rs:List Rule) (gs:List (List Nat)) (c:Nat),vs=[.ref t,.ref g,sign c]/\BookAt H t first rs/\Good first rs/\H g=some (.lst (gs.map tx))/\gs.length<=30/\(∀ x∈gs,x.length<=30)/\Cov rs (gdk gs)/\c∈ltr rs /\
 ∀ H',Same H H'->Q (tx (alk rs gs c)) H'
theorem scAlw:FnScope ["book","groups","letter"] ["book","groups","letter"] (defScope sAlw):=⟨rfl,rfl,rfl,by decide +kernel,rfl,by decide +kernel,by decide +kernel⟩
theorem qg5:(["each","book","groups","letter"]:List Str).Nodup:=by decide +kernel
theorem qji {f fLet fWay:Addr} {fd fdLet fdWay:FuncData} (F:Fun K "alike_with" "alike_with" sAlw f fd)
  (GLet:FnOk P w K mg base CX0 2 fLet fdLet ["book"] spLet)
  (gLet:Gf K mg "letters" fLet fdLet ["book"])
  (GWay:FnOk P w K mg base CX0 2 fWay fdWay ["book","groups","letter","second"] spWay)
  (gWay:Gf K mg "way_apart" fWay fdWay ["book","groups","letter","second"])
  : FnOk P w K mg base CX0 3 f fd ["book","groups","letter"] (spAlw K):=by
 refine F.ok scAlw (fun vs H Q E h=>?_) (fun cdv A outer s H vs Q E hr h=>?_)
 ·obtain ⟨t,g,first,rs,gs,c,rfl,_⟩:=h
  rfl
 ·obtain ⟨t,g,first,rs,gs,c,rfl,hB,hG,hg,hl,hx,hC,hc,k⟩:=h
  refine ⟨_,(qg (qp (ju K PySem.F.plainAttrs_str PySem.F.slot_str_join PySem.F.type_str_join (js K) j9 (qa (qx (N':=["each","book","groups","letter"]) (ix:=[none,some 0,some 1,some 2]) rfl rfl (vh (qh GLet hr rfl gLet.m gLet.k gLet.b .nil pass0 (qa (pv 0) qb))) (fun _ _ _ _ _ _=>(qi (i:=0) qg5 rfl (Or.inl rfl))) (fun _ _ _ _ _ _=>(yn (qz qic (qh GWay hr rfl gWay.m gWay.k gWay.b .nil pass0 (qa (pv 1) (qa (pv 2) (qa (pv 3) (qa (pv 0) qb))))) qfc (nomark _)))) (fun _ _ _ _ _ _=>(pv 0))) qb)))),?_⟩
  have hfew:=hG.few
  have e8:(ltr rs).length<=8:=by rw [ltr_len];exact hfew
  refine ⟨rfl,_,rfl,t,first,rs,rfl,hB,hfew,fun H2 s2=>⟨⟨(ltr rs).toArray⟩,rfl,?_⟩⟩
  refine comp_byR (τ0:=[none,some (.ref t),some (.ref g),some (sign c)]) (jr (x:=⟨(ltr rs).toArray⟩)) (by rw [List.length_map];show (ltr rs).length<=_;omega)
   (fun i us τ H6=>Same H2 H6/\(∃ v,τ=[v,some (.ref t),some (.ref g),some (sign c)])/\us=(((ltr rs).take i).filter fun e=>(way rs gs c e).isNone).map sign) ⟨Same.refl _,⟨_,rfl⟩,rfl⟩ ?_ ?_ ?_
  ·rintro i us τ H6 hi ⟨s6,_,rfl⟩
   refine ⟨trivial,?_⟩
   rw [List.length_map]
   have:=List.length_filter_le (fun e=>(way rs gs c e).isNone) ((ltr rs).take i)
   rw [List.length_take] at this
   omega
  ·rintro i y us τ H6 hy ⟨s6,⟨v,rfl⟩,rfl⟩
   have hy':((ltr rs).map sign)[i]? = some y:=hy
   rw [List.getElem?_map] at hy'
   cases e:(ltr rs)[i]? with
   | none=>rw [e] at hy';cases hy'
   | some a =>
    rw [e] at hy'
    cases hy'
    have hal:=List.mem_of_getElem? e
    have sA:=s2.trans s6
    refine ⟨_,rfl,_,rfl,_,rfl,_,rfl,t,g,first,rs,gs,c,a,rfl,hB.mono (TupS.same sA),hG,sA _ _ hg,hl,hx,hC,hc,hal,fun r H7 s7 hw=>⟨rfl,_,rfl,?_⟩⟩
    have ef:=j3 (fun e=>(way rs gs c e).isNone) e
    rw [ef]
    rcases hw with ⟨h1,rfl⟩ | ⟨π,b,h1,rfl,_⟩
    ·refine iteT ⟨_,rfl,s6.trans s7,⟨_,rfl⟩,?_⟩
     rw [if_pos (by rw [h1];rfl),List.map_append]
     rfl
    ·refine iteF ⟨s6.trans s7,⟨_,rfl⟩,?_⟩
     rw [if_neg (by rw [h1];intro z;cases z),List.append_nil]
  ·rintro us τ H6 D ⟨s6,_,rfl⟩ nD
   have e1:((⟨(ltr rs).toArray⟩:Str).cps.toList.map sign).length=(ltr rs).length:=by simp
   rw [e1,List.take_length]
   have ey:∀ ys:List Nat,((ys.map one).map V.str)=ys.map sign:=fun ys=>by rw [List.map_map];rfl
   have hyl:(alk rs gs c).length<=8:=Nat.le_trans (List.length_filter_le _ _) e8
   refine ⟨_,D,(alk rs gs c).map one,rfl,rfl,by rw [ey];exact SqL.of upd_same,?_,?_⟩
   ·rw [List.map_map]
    have e3:∀ l:List Nat,(l.map ((fun z:Str=>z.length) ∘ one)).sum=l.length:=fun l=>by
     induction l with
     | nil=>rfl
     | cons a l ih=>rw [List.map_cons,List.sum_cons,ih];show 1+_=_;rw [List.length_cons];omega
    have e2:=e3 (alk rs gs c)
    show _+_ * 0<=_
    omega
   ·rw [show Txt.join (Str.ofString "") ((alk rs gs c).map one)=⟨(alk rs gs c).toArray⟩ from jv _]
    exact k _ (s2.trans (s6.trans (Same.add nD)))
end
end Lw
namespace Lw
open PySem L2 PyProof.Rows
theorem qjj {π:List Nat} {i:Nat} {b:PR} {s:JS} {p:PR} (h:p∈(jone π i b s).2):p∈s.2\/p=b:=by
 unfold jone at h
 split at h
 ·exact .inl h
 ·rcases List.mem_append.mp h with z | z
  ·exact .inl z
  ·exact .inr (List.mem_singleton.mp z)
theorem qfv {π:List Nat} {p:PR}:∀ {bs:List PR} {i:Nat} {s:JS},p∈(jall π i bs s).2->p∈s.2\/p∈bs
 | [],_,_,h=>.inl h
 | b :: bs,i,s,h=>by
  rcases qfv (bs:=bs) (i:=i+1) (s:=jone π i b s) h with z | z
  ·rcases qjj z with y | y
   ·exact .inl y
   ·exact .inr (by rw [y];exact List.mem_cons_self)
  ·exact .inr (List.mem_cons_of_mem _ z)
theorem Ze {D:PR->Bool} {nx:PR->List PR} {S:PR->Prop} (hD:∀ p,S p->D p=false) (hn:∀ p,S p->∀ b∈nx p,S b):∀ (n:Nat) (s:JS),(∀ p∈s.2,S p)->jgo D nx n s=none
 | 0,_,_=>rfl
 | n+1,(V,[]),_=>rfl
 | n+1,(V,p :: q),h=>by
  have hp:=h p List.mem_cons_self
  show (if D p=true then _ else _)=_
  rw [if_neg (by rw [hD p hp];decide)]
  refine Ze hD hn n _ fun b hb=>?_
  rcases qfv hb with z | z
  ·exact h b (List.mem_cons_of_mem _ z)
  ·exact hn p hp b z
theorem qaw (rs:List Rule) (gs:List (List Nat)) (c:Nat):way rs gs c c=none:=by
 refine Ze (S:=fun p=>p.1=p.2) (fun p hp=>?_) (fun p hp b hb=>?_) _ _ fun p hp=>by rw [List.mem_singleton.mp hp]
 ·unfold difB
  rw [hp,decide_eq_true rfl,decide_eq_true rfl]
  rfl
 ·unfold nxp at hb
  rw [hp] at hb
  obtain ⟨i,hi⟩:=List.getElem?_of_mem hb
  obtain ⟨h1,h2⟩:=List.getElem?_zip_eq_some.mp hi
  rw [h1] at h2
  exact Option.some.inj h2
theorem Zf {rs:List Rule} (gs:List (List Nat)) {c:Nat} (h:c∈ltr rs):c∈alk rs gs c:=by
 unfold alk
 rw [List.mem_filter]
 exact ⟨h,by rw [qaw];rfl⟩
theorem J9 {n c:Nat}:∀ {g:List Nat} {acc:List (Key × V)},(c∈g\/∃ i:Int,valV acc (kc c)=some (.int i))->∃ i:Int,valV (gputs acc n g) (kc c)=some (.int i)
 | [],acc,h=>by
  rcases h with h | h
  ·cases h
  ·exact h
 | a :: g,acc,h=>by
  show ∃ i:Int,valV (gputs (putK acc (kc a) (.int (n:Int))) n g) (kc c)=some (.int i)
  by_cases e:c=a
  ·subst e
   exact J9 (.inr ⟨_,by rw [yu,if_pos rfl]⟩)
  ·refine J9 ?_
   rcases h with h | ⟨i,h⟩
   ·rcases List.mem_cons.mp h with z | z
    ·exact absurd z e
    ·exact .inl z
   ·refine .inr ⟨i,?_⟩
    have ne:kc c≠kc a:=fun z=>e (by have:=Sum.inr.inj z;simpa [one] using this)
    rw [yu,if_neg ne]
    exact h
theorem qax {gs:List (List Nat)} {c:Nat}:∀ {i:Nat},(∃ j g,j < i/\gs[j]? = some g/\c∈g)->∃ n:Int,valV (gdkN gs i) (kc c)=some (.int n)
 | 0,⟨j,g,h,_⟩=>by omega
 | i+1,⟨j,g,h,hg,hc⟩=>by
  show ∃ n:Int,valV (gputs (gdkN gs i) i (gs.getD i [])) (kc c)=some (.int n)
  refine J9 ?_
  by_cases e:j=i
  ·subst e
   rw [List.getD_eq_getElem?_getD,hg]
   exact .inl hc
  ·exact .inr (qax ⟨j,g,by omega,hg,hc⟩)
theorem qjk {rs:List Rule} {gs:List (List Nat)} (h:∀ c∈ltr rs,c∈gs.flatten):Cov rs (gdk gs):=fun c hc=>by
 obtain ⟨g,hg,hcg⟩:=List.mem_flatten.mp (h c hc)
 obtain ⟨j,hj⟩:=List.getElem?_of_mem hg
 exact qax ⟨j,g,(List.getElem?_eq_some_iff.mp hj).1,hj,hcg⟩
end Lw
namespace Lw
open PySem L2 PyProof.Rows
theorem Yz:∀ {a b:List Nat},a.Pairwise (· < ·)->b.Pairwise (· < ·)->(∀ e,e∈a ↔ e∈b)->a=b
 | [],[],_,_,_=>rfl
 | [],y :: b,_,_,h=>absurd ((h y).mpr List.mem_cons_self) (by simp)
 | x :: a,[],_,_,h=>absurd ((h x).mp List.mem_cons_self) (by simp)
 | x :: a,y :: b,ha,hb,h=>by
  obtain ⟨a1,a2⟩:=List.pairwise_cons.mp ha
  obtain ⟨b1,b2⟩:=List.pairwise_cons.mp hb
  have exy:x=y:=by
   rcases List.mem_cons.mp ((h x).mp List.mem_cons_self) with e | e
   ·exact e
   ·rcases List.mem_cons.mp ((h y).mpr List.mem_cons_self) with e' | e'
    ·exact e'.symm
    ·have:=b1 x e
     have:=a1 y e'
     omega
  subst exy
  rw [Yz a2 b2 fun e=>⟨fun he=>?_,fun he=>?_⟩]
  ·rcases List.mem_cons.mp ((h e).mp (List.mem_cons_of_mem _ he)) with z | z
   ·have:=a1 e he
    omega
   ·exact z
  ·rcases List.mem_cons.mp ((h e).mpr (List.mem_cons_of_mem _ he)) with z | z
   ·have:=b1 e he
    omega
   ·exact z
section
variable {P:Program} {w:World} {K:W.Frag} {mg:Str->Option Value} {base:Heap}
def spNgr:Sp:=fun vs H Q _=>∃ (t g:Addr) (first:List Nat) (rs:List Rule) (gs:List (List Nat)),vs=[.ref t,.ref g]/\BookAt H t first rs/\Good first rs/\H g=some (.lst (gs.map tx))/\gs.length<=30/\(∀ x∈gs,x≠[])/\gs.flatten.Perm (ltr rs)/\∀ H',Same H H'->Q .non H'
theorem scNgr:FnScope ["book","groups"] ["book","groups"] (defScope sNgr):=⟨rfl,rfl,rfl,by decide +kernel,rfl,by decide +kernel,by decide +kernel⟩
theorem qg6:(["group"]:List Str).Nodup:=by decide +kernel
theorem qjl {f fLet:Addr} {fd fdLet:FuncData} (F:Fun K "need_groups" "need_groups" sNgr f fd)
  (GLet:FnOk P w K mg base CX0 2 fLet fdLet ["book"] spLet)
  (gLet:Gf K mg "letters" fLet fdLet ["book"])
  (hlen:mg "len" = none)
  (hlist:mg "list" = none)
  (hsorted:mg "sorted" = none)
  (hisinstance:mg "isinstance" = none)
  (hstr:mg "str" = none)
  (hall:mg "all" = none)
  : FnOk P w K mg base CX0 3 f fd ["book","groups"] spNgr:=by
 refine F.ok scNgr (fun vs H Q E h=>?_) (fun cdv A outer s H vs Q E hr h=>?_)
 ·obtain ⟨t,g,first,rs,gs,rfl,_⟩:=h
  rfl
 ·obtain ⟨t,g,first,rs,gs,rfl,hB,hG,hg,hl,hne,hp,k⟩:=h
  refine ⟨_,(qd (vm (PW.pt (qfz (Ji (yr (qm (j4 K) (by rfl) hisinstance (show bootBuiltins "isinstance" = some (.builtin "isinstance") by decide +kernel) (qa (pv 1) (qa (Jh (v:=.ty "list") (by rfl) hlist (show bootBuiltins "list" = some (.type "list") by decide +kernel) rfl) qb))))) (qbu (Ji (yr (qm (Js K rfl) (by rfl) hall (show bootBuiltins "all" = some (.builtin "all") by decide +kernel) (qa (qx (N':=["group"]) (ix:=[none]) rfl rfl (jk K (pv 1)) (fun _ _ _ _ _ _=>(qi (i:=0) qg6 rfl (Or.inl rfl))) (fun _ _ _ _ _ _=>qv) (fun _ _ _ _ _ _=>(Y7 (qm (j4 K) (by rfl) hisinstance (show bootBuiltins "isinstance" = some (.builtin "isinstance") by decide +kernel) (qa (pv 0) (qa (Jh (v:=.ty "str") (by rfl) hstr (show bootBuiltins "str" = some (.type "str") by decide +kernel) rfl) qb))) (Zm (yj qb0 (qm vb (by rfl) hlen PySem.boot_len (qa (pv 0) qb)) qf (nomark _)))))) qb))))))) ya jh)
   (qg (vm (qz Yh (ju K PySem.F.plainAttrs_str PySem.F.slot_str_join PySem.F.type_str_join (js K) j9 (qa (qm (Vl rfl) (by rfl) hsorted PyProof.Rows.boot_sorted (qa (ju K PySem.F.plainAttrs_str PySem.F.slot_str_join PySem.F.type_str_join (js K) j9 (qa (pv 1) qb)) qb)) qb)) (qh GLet hr rfl gLet.m gLet.k gLet.b .nil pass0 (qa (pv 0) qb)) (nomark _)) ya jh))),?_⟩
  have hfew:=hG.few
  have e8:(ltr rs).length<=8:=by rw [ltr_len];exact hfew
  have hf8:gs.flatten.length<=8:=by rw [hp.length_eq];exact e8
  have hx8:∀ x∈gs,x.length<=8:=fun x hx=>by
   refine Nat.le_trans ?_ hf8
   exact (List.sublist_flatten_of_mem hx).length_le
  refine ⟨_,rfl,_,_,_,true,rfl,TyOf.lst hg,(by rfl),_,rfl,iteF ?_⟩
  refine ⟨_,rfl,g,rfl,⟨_,SqL.of hg⟩,?_⟩
  refine qu (τ0:=[none]) (sure_list (xs:=gs.map tx)) (by rw [List.length_map];omega)
   (fun i ys τ H2=>H2=H/\(∃ v,τ=[v])/\ys=((gs.take i).map fun _=>true).map V.bl) ⟨rfl,⟨_,rfl⟩,rfl⟩ ?_ ?_ ?_
  ·rintro i ys τ H2 hi ⟨rfl,_,rfl⟩
   refine ⟨SqL.of hg,?_⟩
   rw [List.length_map,List.length_map,List.length_take]
   omega
  ·rintro i y ys τ H2 hy ⟨rfl,⟨v,rfl⟩,rfl⟩
   rw [List.getElem?_map] at hy
   cases e:gs[i]? with
   | none=>rw [e] at hy;cases hy
   | some x =>
    rw [e] at hy
    cases hy
    have hxm:=List.mem_of_getElem? e
    have h8:=hx8 x hxm
    have hpos:0 < x.length:=by
     cases x with
     | nil=>exact absurd rfl (hne _ hxm)
     | cons a b=>exact Nat.succ_pos _
    refine ⟨_,rfl,_,_,_,true,rfl,TyOf.str _,(by rfl),_,rfl,iteT ?_⟩
    refine ⟨_,rfl,⟨x.toArray⟩,rfl,szl (show x.length<=1000 by omega),_,_,rfl,rfl,rfl,⟨_,rfl⟩,?_⟩
    rw [jc (fun _=>true) e,List.map_append]
    have:decide ((0:Int) < ((⟨x.toArray⟩:Str).length:Int))=true:=decide_eq_true (by show (0:Int) < ((x.length:Nat):Int);omega)
    show _++[V.bl (decide ((0:Int) < ((⟨x.toArray⟩:Str).length:Int)))]=_
    rw [this]
    rfl
  ·rintro ys τ H2 D ⟨rfl,_,rfl⟩ nD
   have s1:=Same.add (o:=.lst (((gs.take (gs.map tx).length).map fun _=>true).map V.bl)) nD
   refine ⟨D,_,rfl,SqL.of upd_same,?_⟩
   have ea:((gs.take (gs.map tx).length).map fun _=>true).all id=true:=by simp
   rw [ea]
   refine ⟨_,rfl,iteF ?_⟩
   have hg1:=s1 _ _ hg
   have hB1:=hB.mono (TupS.same s1)
   revert s1 hg1 hB1
   generalize upd H2 D (.lst (((gs.take (gs.map tx).length).map fun _=>true).map V.bl))=H3
   intro s1 hg1 hB1
   refine ⟨rfl,rfl,_,rfl,_,g,gs.map fun x=>(⟨x.toArray⟩:Str),rfl,rfl,(by rw [<- J6];exact SqL.of hg1),?_,?_⟩
   ·rw [Ya]
    show _+_ * 0<=_
    omega
   rw [J7]
   refine ⟨⟨gs.flatten.toArray⟩,rfl,(show gs.flatten.length < 64 by omega),fun l ss' nl hperm hsort=>?_⟩
   obtain ⟨ds,hp',rfl⟩:=Jw hperm
   have hpd:ds.Perm (ltr rs):=hp'.trans hp
   have eds:ds=ltr rs:=Yz (Jv hsort (hpd.nodup_iff.mpr hG.nd)) hG.rise fun e=>hpd.mem_iff
   subst eds
   have s2:=Same.add (o:=.lst (((ltr rs).map one).map V.str)) nl
   refine ⟨_,l,(ltr rs).map one,rfl,rfl,SqL.of upd_same,?_,?_⟩
   ·rw [List.map_map]
    have e3:∀ l:List Nat,(l.map ((fun z:Str=>z.length) ∘ one)).sum=l.length:=fun l=>by
     induction l with
     | nil=>rfl
     | cons a l ih=>rw [List.map_cons,List.sum_cons,ih];show 1+_=_;rw [List.length_cons];omega
    have e2:=e3 (ltr rs)
    show _+_ * 0<=_
    omega
   rw [show Txt.join (Str.ofString "") ((ltr rs).map one)=⟨(ltr rs).toArray⟩ from jv _]
   refine ⟨_,rfl,t,first,rs,rfl,hB1.mono (TupS.same s2),hfew,fun H4 s4=>⟨rfl,_,rfl,?_⟩⟩
   have eq:decide (V.str (⟨(ltr rs).toArray⟩:Str)=tx (rs.map (·.1)))=true:=decide_eq_true rfl
   rw [eq]
   exact iteF (k H4 (s1.trans (s2.trans s4)))
end
end Lw
namespace Lw
open PySem L2 PyProof.Rows
def kvf (L:List Nat) (f:Nat->Nat):List (Key × V):=L.map fun c=>(kc c,sign (f c))
theorem kvf_len (L:List Nat) (f:Nat->Nat):(kvf L f).length=L.length:=by unfold kvf;rw [List.length_map]
theorem qet (L:List Nat) (f:Nat->Nat):(kvf L f).map (·.1)=L.map fun c=>(Sum.inr (one c):Key):=by
 unfold kvf
 rw [List.map_map]
 rfl
theorem zt {f:Nat->Nat}:∀ {L:List Nat} {c:Nat},c∈L->valV (kvf L f) (kc c)=some (sign (f c))
 | a :: L,c,h=>by
  unfold valV kvf
  rw [List.map_cons]
  by_cases e:a=c
  ·subst e
   rw [List.find?_cons_of_pos (by exact decide_eq_true rfl)]
   rfl
  ·rw [List.find?_cons_of_neg (by simp only [decide_eq_true_eq];exact fun z=>e (by have:=Sum.inr.inj z;simpa [one] using this))]
   rcases List.mem_cons.mp h with z | z
   ·exact absurd z.symm e
   ·exact zt z
def fst1 (rs:List Rule) (gs:List (List Nat)) (c:Nat):Nat:=(alk rs gs c).headD c
section
variable {P:Program} {w:World} {K:W.Frag} {mg:Str->Option Value} {base:Heap}
def spRep (K:W.Frag):Sp:=fun vs H Q _=>∃ (x:List Nat) (d:Addr) (L:List Nat) (f:Nat->Nat),vs=[tx x,.ref d]/\H d=some (.dK (kvf L f))/\x.length<=1000/\(∀ c∈x,c∈L)/\∀ H',Same H H'->Q (tx (x.map f)) H'
theorem scRep:FnScope ["text","words"] ["text","words"] (defScope sRep):=⟨rfl,rfl,rfl,by decide +kernel,rfl,by decide +kernel,by decide +kernel⟩
theorem qg7:(["letter","words"]:List Str).Nodup:=by decide +kernel
theorem qjm {f:Addr} {fd:FuncData} (F:Fun K "replaced" "replaced" sRep f fd)
  : FnOk P w K mg base CX0 1 f fd ["text","words"] (spRep K):=by
 refine F.ok scRep (fun vs H Q E h=>?_) (fun cdv A outer s H vs Q E hr h=>?_)
 ·obtain ⟨x,d,L,f,rfl,_⟩:=h
  rfl
 ·obtain ⟨x,d,L,f,rfl,hd,hx,hin,k⟩:=h
  have hu:=zo hr
  refine ⟨_,(qg (qp (ju K PySem.F.plainAttrs_str PySem.F.slot_str_join PySem.F.type_str_join (js K) j9 (qa (qx (N':=["letter","words"]) (ix:=[none,some 1]) rfl rfl (vh (pv 0)) (fun _ _ _ _ _ _=>(qi (i:=0) qg7 rfl (Or.inl rfl))) (fun _ _ _ _ _ _=>qv) (fun _ _ _ _ _ _=>(qq hu (pv 1) (pv 0) (fun _ _=>rfl)))) qb)))),?_⟩
  refine ⟨rfl,_,rfl,⟨x.toArray⟩,rfl,?_⟩
  refine qu (τ0:=[none,some (.ref d)]) (jr (x:=⟨x.toArray⟩)) (by rw [List.length_map];show x.length<=_;omega)
   (fun i us τ H6=>H6=H/\(∃ v,τ=[v,some (.ref d)])/\us=((x.take i).map f).map sign) ⟨rfl,⟨_,rfl⟩,rfl⟩ ?_ ?_ ?_
  ·rintro i us τ H6 hi ⟨rfl,_,rfl⟩
   refine ⟨trivial,?_⟩
   rw [List.length_map,List.length_map,List.length_take]
   omega
  ·rintro i y us τ H6 hy ⟨rfl,⟨v,rfl⟩,rfl⟩
   have hy':(x.map sign)[i]? = some y:=hy
   rw [List.getElem?_map] at hy'
   cases e:x[i]? with
   | none=>rw [e] at hy';cases hy'
   | some a =>
    rw [e] at hy'
    cases hy'
    have hg:=DGet.k (k:=kc a) hd
    rw [zt (hin a (List.mem_of_getElem? e))] at hg
    refine ⟨_,rfl,_,rfl,d,_,rfl,hg,rfl,⟨_,rfl⟩,?_⟩
    rw [jc f e,List.map_append]
    rfl
  ·rintro us τ H6 D ⟨rfl,_,rfl⟩ nD
   have e1:((⟨x.toArray⟩:Str).cps.toList.map sign).length=x.length:=by simp
   rw [e1,List.take_length]
   have ey:∀ ys:List Nat,((ys.map one).map V.str)=ys.map sign:=fun ys=>by rw [List.map_map];rfl
   refine ⟨_,D,(x.map f).map one,rfl,rfl,by rw [ey];exact SqL.of upd_same,?_,?_⟩
   ·rw [List.map_map]
    have e3:∀ l:List Nat,(l.map ((fun z:Str=>z.length) ∘ one)).sum=l.length:=fun l=>by
     induction l with
     | nil=>rfl
     | cons a l ih=>rw [List.map_cons,List.sum_cons,ih];show 1+_=_;rw [List.length_cons];omega
    have e2:=e3 (x.map f)
    rw [List.length_map] at e2
    show _+_ * 0<=_
    omega
   ·rw [show Txt.join (Str.ofString "") ((x.map f).map one)=⟨(x.map f).toArray⟩ from jv _]
    exact k _ (Same.add nD)
def shr (rs:List Rule) (gs:List (List Nat)):List Rule:=(rs.filter fun q=>decide (fst1 rs gs q.1=q.1)).map fun q=>(q.1,q.2.map (fst1 rs gs))
def spShr (K:W.Frag):Sp:=fun vs H Q _=>∃ (t g:Addr) (first:List Nat) (rs:List Rule) (gs:List (List Nat)),vs=[.ref t,.ref g]/\BookAt H t first rs/\Good first rs/\H g=some (.lst (gs.map tx))/\gs.length<=30/\(∀ x∈gs,x≠[])/\gs.flatten.Perm (ltr rs) /\
 ∀ B H',Same H H'->BookAt H' B (first.map (fst1 rs gs)) (shr rs gs)->Q (.ref B) H'
theorem scShr:FnScope ["book","groups","firsts","rules"] ["book","groups"] (defScope sShr):=⟨rfl,rfl,rfl,by decide +kernel,rfl,by decide +kernel,by decide +kernel⟩
theorem qg8:(["letter","book","groups"]:List Str).Nodup:=by decide +kernel
theorem qg9:(["rule","firsts"]:List Str).Nodup:=by decide +kernel
theorem qjn {f fNgr fRep fLet fAlw:Addr} {fd fdNgr fdRep fdLet fdAlw:FuncData} (F:Fun K "shrunk" "shrunk" sShr f fd)
  (GNgr:FnOk P w K mg base CX0 3 fNgr fdNgr ["book","groups"] spNgr)
  (gNgr:Gf K mg "need_groups" fNgr fdNgr ["book","groups"])
  (GRep:FnOk P w K mg base CX0 1 fRep fdRep ["text","words"] (spRep K))
  (gRep:Gf K mg "replaced" fRep fdRep ["text","words"])
  (GLet:FnOk P w K mg base CX0 2 fLet fdLet ["book"] spLet)
  (gLet:Gf K mg "letters" fLet fdLet ["book"])
  (GAlw:FnOk P w K mg base CX0 3 fAlw fdAlw ["book","groups","letter"] (spAlw K))
  (gAlw:Gf K mg "alike_with" fAlw fdAlw ["book","groups","letter"])
  (htuple:mg "tuple" = none)
  (hdict:mg "dict" = none)
  : FnOk P w K mg base CX0 4 f fd ["book","groups"] (spShr K):=by
 refine F.ok scShr (fun vs H Q E h=>?_) (fun cdv A outer s H vs Q E hr h=>?_)
 ·obtain ⟨t,g,first,rs,gs,rfl,_⟩:=h
  rfl
 ·obtain ⟨t,g,first,rs,gs,rfl,hB,hG,hg,hl,hne,hp,k⟩:=h
  have hr1:Room 1 _:=hr.mono (by decide)
  have hr2:Room 2 _:=hr.mono (by decide)
  have hu:=zo hr
  refine ⟨_,(qd (vd (qh GNgr hr rfl gNgr.m gNgr.k gNgr.b .nil pass0 (qa (pv 0) (qa (pv 1) qb))))
   (qd (qj (i:=2) scShr.nd rfl (Or.inr rfl) (jb (j6 K rfl hu) (by rfl) hdict (by first | exact PySem.boot_dict | decide +kernel) (qa (qx (N':=["letter","book","groups"]) (ix:=[none,some 0,some 1]) rfl rfl (vh (qh GLet hr2 rfl gLet.m gLet.k gLet.b .nil pass0 (qa (pv 0) qb))) (fun _ _ _ _ _ _=>(qi (i:=0) qg8 rfl (Or.inl rfl))) (fun _ _ _ _ _ _=>qv) (fun _ _ _ _ _ _=>(vt (qa (pv 0) (qa (pe_ix Zp (qh GAlw hr rfl gAlw.m gAlw.k gAlw.b .nil pass0 (qa (pv 1) (qa (pv 2) (qa (pv 0) qb)))) qf (fun _ _=>rfl)) qb))))) qb)))
   (qd (yo (i:=3) (N':=["rule","firsts"]) (ix:=[none,some 2]) scShr.nd rfl rfl rfl rfl (qci K (pe_ix (jd K) (pv 0) qf (fun _ _=>rfl))) (fun _ _ _ _ _ _=>(qi (i:=0) qg9 rfl (Or.inl rfl))) (fun _ _ _ _ _ _=>(yn (qz qbc (qq hu (pv 1) (pe_ix (jd K) (pv 0) qf (fun _ _=>rfl)) (fun _ _=>rfl)) (pe_ix (jd K) (pv 0) qf (fun _ _=>rfl)) (nomark _)))) (fun _ _ _ _ _ _=>(vt (qa (pe_ix (jd K) (pv 0) qf (fun _ _=>rfl)) (qa (qh GRep hr1 rfl gRep.m gRep.k gRep.b .nil pass0 (qa (pe_ix (jd K) (pv 0) qf (fun _ _=>rfl)) (qa (pv 1) qb))) qb)))))
   (qg (qp (vt (qa (qh GRep hr1 rfl gRep.m gRep.k gRep.b .nil pass0 (qa (pe_ix (jd K) (pv 0) qf (fun _ _=>rfl)) (qa (pv 2) qb))) (qa (jb (vf K) (by rfl) htuple (by first | exact PySem.boot_tuple | decide +kernel) (qa (pv 3) qb)) qb)))))))),?_⟩
  have hfew:=hG.few
  have e8:(ltr rs).length<=8:=by rw [ltr_len];exact hfew
  have hx8:∀ x∈gs,x.length<=30:=fun x hx=>by
   have h1:=(List.sublist_flatten_of_mem hx).length_le
   have h2:gs.flatten.length<=8:=by rw [hp.length_eq];exact e8
   omega
  have hC:Cov rs (gdk gs):=qjk fun c hc=>hp.mem_iff.mpr hc
  refine ⟨_,rfl,_,rfl,t,g,first,rs,gs,rfl,hB,hG,hg,hl,hne,hp,fun H1 s1=>?_⟩
  refine ⟨_,rfl,t,first,rs,rfl,hB.mono (TupS.same s1),hfew,fun H2 s2=>⟨⟨(ltr rs).toArray⟩,rfl,?_⟩⟩
  have s02:=s1.trans s2
  refine qu (τ0:=[none,some (.ref t),some (.ref g)]) (jr (x:=⟨(ltr rs).toArray⟩)) (by rw [List.length_map];show (ltr rs).length<=_;omega)
   (fun j ys τ He=>Same H2 He/\(∃ v,τ=[v,some (.ref t),some (.ref g)])/\∃ qs,ys=qs.map V.ref/\PairsAt He qs (kvf ((ltr rs).take j) (fst1 rs gs))) ⟨Same.refl _,⟨_,rfl⟩,[],rfl,.nil⟩ ?_ ?_ ?_
  ·rintro j ys τ He hj ⟨se,_,qs,rfl,hq⟩
   refine ⟨trivial,?_⟩
   rw [List.length_map,hq.len,kvf_len,List.length_take]
   omega
  ·rintro j y ys τ He hy ⟨se,⟨v,rfl⟩,qs,rfl,hq⟩
   have hy':((ltr rs).map sign)[j]? = some y:=hy
   rw [List.getElem?_map] at hy'
   cases e:(ltr rs)[j]? with
   | none=>rw [e] at hy';cases hy'
   | some a =>
    rw [e] at hy'
    cases hy'
    have hal:=List.mem_of_getElem? e
    have sA:=s02.trans se
    refine ⟨_,rfl,_,rfl,_,rfl,_,rfl,t,g,first,rs,gs,a,rfl,hB.mono (TupS.same sA),hG,sA _ _ hg,hl,hx8,hC,hal,fun H7 s7=>?_⟩
    have hne:∃ b l,alk rs gs a=b :: l:=by
     have:=Zf gs hal
     cases z:alk rs gs a with
     | nil=>rw [z] at this;cases this
     | cons b l=>exact ⟨b,l,rfl⟩
    obtain ⟨b,l,ebl⟩:=hne
    have ef:fst1 rs gs a=b:=by unfold fst1;rw [ebl];rfl
    have l8:(alk rs gs a).length<=8:=Nat.le_trans (List.length_filter_le _ _) e8
    refine ⟨⟨(alk rs gs a).toArray⟩,0,b,rfl,rfl,szl (show (alk rs gs a).length<=1000 by omega),?_,szl (show 2<=1000 by decide),fun p np=>⟨se.trans (s7.trans (Same.add np)),⟨_,rfl⟩,qs++[p],by rw [List.map_append];rfl,?_⟩⟩
    ·show atI (alk rs gs a) 0=some b
     rw [ebl]
     exact atI_nat (j:=0) rfl
    ·have:=zg (H:=upd H7 p (.tup [sign a,sign b])) (k:=kc a) (v:=sign b) upd_same (j2 (TupS.same (s7.trans (Same.add np))) hq)
     have e5:kvf ((ltr rs).take (j+1)) (fst1 rs gs)=kvf ((ltr rs).take j) (fst1 rs gs)++[(kc a,sign b)]:=by
      unfold kvf
      rw [List.take_add_one,e,List.map_append,<- ef]
      rfl
     rw [e5]
     exact this
  ·rintro ys τ He D ⟨se,_,qs,rfl,hq⟩ nD
   have e1:((⟨(ltr rs).toArray⟩:Str).cps.toList.map sign).length=(ltr rs).length:=by simp
   rw [e1,List.take_length] at hq
   have sD:=Same.add (o:=.lst (qs.map V.ref)) nD
   refine ⟨D,qs,kvf (ltr rs) (fst1 rs gs),rfl,SqL.of upd_same,j2 (TupS.same sD) hq,by rw [qet];exact Jx hG.nd,by rw [kvf_len];omega,fun df nf=>?_⟩
   have sF:=Same.add (o:=.dK (kvf (ltr rs) (fst1 rs gs))) nf
   have hf:upd (upd He D (.lst (qs.map V.ref))) df (.dK (kvf (ltr rs) (fst1 rs gs))) df=some (.dK (kvf (ltr rs) (fst1 rs gs))):=upd_same
   have s3:=s02.trans (se.trans (sD.trans sF))
   revert hf s3
   generalize upd (upd He D (.lst (qs.map V.ref))) df (.dK (kvf (ltr rs) (fst1 rs gs)))=H3
   intro hf s3
   obtain ⟨r,ps,b1,b2,b3⟩:=(hB.mono (TupS.same s3)).ex
   refine ⟨_,rfl,t,_,_,_,rfl,rfl,SqT.of b1,atI_nat (j:=1) rfl,r,rfl,⟨_,SqT.of b2⟩,?_⟩
   refine comp_byR (τ0:=[none,some (.ref df)]) (yx (xs:=ps.map V.ref)) (by rw [List.length_map,b3.len];omega)
    (fun i us τ H6=>Same H3 H6/\(∃ v,τ=[v,some (.ref df)])/\∃ qs,us=qs.map V.ref/\RulesAt H6 qs (((rs.take i).filter fun q=>decide (fst1 rs gs q.1=q.1)).map fun q=>(q.1,q.2.map (fst1 rs gs)))) ⟨Same.refl _,⟨_,rfl⟩,[],rfl,.nil⟩ ?_ ?_ ?_
   ·rintro i us τ H6 hi ⟨s6,_,qs,rfl,hR⟩
    refine ⟨SqT.of (s6 _ _ b2),?_⟩
    rw [List.length_map,hR.len,List.length_map]
    have:=List.length_filter_le (fun q:Rule=>decide (fst1 rs gs q.1=q.1)) (rs.take i)
    rw [List.length_take] at this
    omega
   ·rintro i y us τ H6 hy ⟨s6,⟨v,rfl⟩,qs,rfl,hR⟩
    rw [List.getElem?_map] at hy
    cases e:ps[i]? with
    | none=>rw [e] at hy;cases hy
    | some p =>
     rw [e] at hy
     cases hy
     obtain ⟨c,x,er,hpt⟩:=b3.get e
     have hpt:=s6 _ _ hpt
     have hf6:=s6 _ _ hf
     have hcr:(c,x)∈rs:=List.mem_of_getElem? er
     have hcl:c∈ltr rs:=List.mem_map.mpr ⟨_,hcr,rfl⟩
     have hgf:=DGet.k (k:=kc c) hf6
     rw [zt hcl] at hgf
     have hxl:∀ e∈x,e∈ltr rs:=fun e he=>hG.win _ hcr e he
     have hx6:x.length<=6:=hG.wl _ hcr
     have efil:=j3 (fun q:Rule=>decide (fst1 rs gs q.1=q.1)) er
     rw [efil]
     refine ⟨_,rfl,_,rfl,p,_,_,_,rfl,rfl,SqT.of hpt,atI_nat (j:=0) rfl,df,_,rfl,hgf,_,rfl,p,_,_,_,rfl,rfl,SqT.of hpt,atI_nat (j:=0) rfl,rfl,_,rfl,ite2 (fun hc=>?_) (fun hc=>?_)⟩
     ·have heq:fst1 rs gs c=c:=by
       have:=V.str.inj (of_decide_eq_true hc)
       simpa using this
      refine ⟨_,rfl,p,_,_,_,rfl,rfl,SqT.of hpt,atI_nat (j:=0) rfl,_,rfl,p,_,_,_,rfl,rfl,SqT.of hpt,atI_nat (j:=1) rfl,_,rfl,x,df,ltr rs,fst1 rs gs,rfl,hf6,by omega,hxl,fun H7 s7=>⟨szl (show 2<=1000 by decide),fun T nT=>?_⟩⟩
      refine ⟨s6.trans (s7.trans (Same.add nT)),⟨_,rfl⟩,qs++[T],by rw [List.map_append];rfl,?_⟩
      rw [if_pos (decide_eq_true heq),List.map_append]
      exact (hR.mono (TupS.same (s7.trans (Same.add nT)))).snoc upd_same
     ·have hne:fst1 rs gs c≠c:=fun z=>hc (decide_eq_true (by rw [z]))
      refine ⟨s6,⟨_,rfl⟩,qs,rfl,?_⟩
      rw [if_neg (by rw [decide_eq_false hne];decide),List.append_nil]
      exact hR
   ·rintro us τ H6 Dr ⟨s6,_,qs2,rfl,hR⟩ nDr
    have el:(ps.map V.ref).length=rs.length:=by rw [List.length_map,b3.len]
    rw [el,List.take_length] at hR
    have s7:=Same.add (o:=.lst (qs2.map V.ref)) nDr
    have s37:=s6.trans s7
    have hL7:upd H6 Dr (.lst (qs2.map V.ref)) Dr=some (.lst (qs2.map V.ref)):=upd_same
    have hR7:=hR.mono (TupS.same s7)
    revert s37 hL7 hR7
    generalize upd H6 Dr (.lst (qs2.map V.ref))=H7
    intro s37 hL7 hR7
    refine ⟨_,rfl,t,_,_,_,rfl,rfl,SqT.of (s37 _ _ b1),atI_nat (j:=0) rfl,_,rfl,first,df,ltr rs,fst1 rs gs,rfl,s37 _ _ hf,by have:=hG.fl;omega,hG.fin,fun H8 s8=>?_⟩
    refine ⟨_,rfl,Dr,qs2.map V.ref,rfl,.inl ⟨SqL.of (s8 _ _ hL7),fun rr nr=>⟨szl (show 2<=1000 by decide),fun B nB=>?_⟩⟩⟩
    have sA:=Same.add (o:=.tup (qs2.map V.ref)) nr
    have sB:=Same.add (o:=.tup [tx (first.map (fst1 rs gs)),.ref rr]) nB
    exact k B _ (s3.trans (s37.trans (s8.trans (sA.trans sB)))) ⟨rr,qs2,upd_same,sB _ _ upd_same,hR7.mono (TupS.same (s8.trans (sA.trans sB)))⟩
end
end Lw
namespace Lw
open PySem L2 PyProof.Rows
def wlk (nx:PR->List PR):List Nat->PR->Option PR
 | [],p=>some p
 | i :: π,p=>(nx p)[i]?.bind (wlk nx π)
theorem qay (nx:PR->List PR):∀ (π:List Nat) (i:Nat) (p:PR),wlk nx (π++[i]) p=(wlk nx π p).bind fun q=>(nx q)[i]?
 | [],i,p=>by
  show (nx p)[i]?.bind (wlk nx [])=(nx p)[i]?
  cases (nx p)[i]? <;> rfl
 | j :: π,i,p=>by
  show (nx p)[j]?.bind (wlk nx (π++[i]))=((nx p)[j]?.bind (wlk nx π)).bind _
  cases (nx p)[j]? with
  | none=>rfl
  | some q=>exact qay nx π i q
def Wlks (nx:PR->List PR) (p0:PR) (V:List (PR × List Nat)):Prop:=∀ e∈V,wlk nx e.2 p0=some e.1
theorem Wlks.at {nx:PR->List PR} {p0 p:PR} {V:List (PR × List Nat)} (h:Wlks nx p0 V) (hp:jin V p=true):wlk nx (jpt V p) p0=some p:=by
 unfold jpt
 cases e:V.find? (fun e=>decide (e.1=p)) with
 | none =>
  obtain ⟨x,h1,h2⟩:=List.any_eq_true.mp hp
  exact absurd h2 (List.find?_eq_none.mp e x h1)
 | some x =>
  have h1:=h x (List.mem_of_find?_eq_some e)
  have h2:x.1=p:=by have:=List.find?_some e;exact of_decide_eq_true this
  rw [<- h2]
  exact h1
theorem Wlks.one {nx:PR->List PR} {p0 p b:PR} {s:JS} {π:List Nat} {i:Nat} (h:Wlks nx p0 s.1) (hp:wlk nx π p0=some p) (hb:(nx p)[i]? = some b):Wlks nx p0 (jone π i b s).1:=by
 unfold jone
 split
 ·exact h
 ·intro e he
  rcases List.mem_append.mp he with z | z
  ·exact h e z
  ·rw [List.mem_singleton.mp z]
   show wlk nx (π++[i]) p0=some b
   rw [qay,hp]
   exact hb
theorem Wlks.all {nx:PR->List PR} {p0 p:PR} {π:List Nat} (hp:wlk nx π p0=some p):∀ {bs:List PR} {i:Nat} {s:JS},Wlks nx p0 s.1->(∀ j b,bs[j]? = some b->(nx p)[i+j]? = some b)->Wlks nx p0 (jall π i bs s).1
 | [],_,_,h,_=>h
 | b :: bs,i,s,h,hb=>by
  show Wlks nx p0 (jall π (i+1) bs (jone π i b s)).1
  exact Wlks.all hp (h.one hp (hb 0 b rfl)) fun j c hc=>by rw [show i+1+j=i+(j+1) by omega];exact hb (j+1) c hc
theorem qeu {π:List Nat} {i:Nat} {b p:PR} {s:JS} (h:jin s.1 p=true):jin (jone π i b s).1 p=true:=by
 unfold jone
 split
 ·exact h
 ·exact qdf h
theorem yf {π:List Nat} {p:PR}:∀ {bs:List PR} {i:Nat} {s:JS},jin s.1 p=true->jin (jall π i bs s).1 p=true
 | [],_,_,h=>h
 | b :: bs,i,s,h=>yf (bs:=bs) (i:=i+1) (s:=jone π i b s) (qeu h)
theorem qaz {π:List Nat} {p:PR}:∀ {bs:List PR} {i:Nat} {s:JS},p∈bs->jin (jall π i bs s).1 p=true
 | b :: bs,i,s,h=>by
  show jin (jall π (i+1) bs (jone π i b s)).1 p=true
  rcases List.mem_cons.mp h with z | z
  ·refine yf ?_
   rw [z]
   unfold jone
   cases e:jin s.1 b with
   | true=>rw [if_pos rfl];exact e
   | false=>rw [if_neg (by decide)];exact jin_mem.mpr (by rw [List.map_append];exact List.mem_append_right _ (by simp))
  ·exact qaz z
theorem Va {π:List Nat} {p:PR}:∀ {bs:List PR} {i:Nat} {s:JS},p∈s.2->p∈(jall π i bs s).2
 | [],_,_,h=>h
 | b :: bs,i,s,h=>by
  refine Va (bs:=bs) (i:=i+1) (s:=jone π i b s) ?_
  unfold jone
  split
  ·exact h
  ·exact List.mem_append_left _ h
theorem qa0 {π:List Nat} {p:PR}:∀ {bs:List PR} {i:Nat} {s:JS},jin (jall π i bs s).1 p=true->jin s.1 p=true\/p∈(jall π i bs s).2
 | [],_,_,h=>.inl h
 | b :: bs,i,s,h=>by
  rcases qa0 (bs:=bs) (i:=i+1) (s:=jone π i b s) h with z | z
  ·unfold jone at z
   cases e:jin s.1 b with
   | true=>rw [e,if_pos rfl] at z;exact .inl z
   | false =>
    rw [e,if_neg (by decide)] at z
    rw [jin_mem,List.map_append] at z
    rcases List.mem_append.mp z with y | y
    ·exact .inl (jin_mem.mpr y)
    ·have e1:p=b:=by simpa using y
     have:p∈(jone π i b s).2:=by
      rw [e1]
      unfold jone
      rw [e,if_neg (by decide)]
      exact List.mem_append_right _ (by simp)
     exact .inr (Va (bs:=bs) (i:=i+1) (s:=jone π i b s) this)
  ·exact .inr z
theorem Vv {D:PR->Bool} {nx:PR->List PR} {L:List Nat} (h8:L.length<=8) (hL:∀ p:PR,p.1∈L/\p.2∈L->∀ b∈nx p,b.1∈L/\b.2∈L):∀ (n:Nat) (s:JS),JOk L s->(64 - s.1.length)+s.2.length+1<=n->(∀ p,jin s.1 p=true->p∈s.2\/(D p=false/\∀ b∈nx p,jin s.1 b=true))->jgo D nx n s=none ->
  ∃ S:PR->Prop,(∀ p,jin s.1 p=true->S p)/\(∀ p,S p->p.1∈L/\p.2∈L)/\∀ p,S p->D p=false/\∀ b∈nx p,S b
 | 0,s,_,hn,_,_=>absurd hn (by omega)
 | n+1,(V,[]),jo,hn,hd,_=>by
  refine ⟨fun p=>jin V p=true,fun p h=>h,fun p h=>?_,fun p h=>?_⟩
  ·obtain ⟨e,he,rfl⟩:=List.mem_map.mp (jin_mem.mp h)
   exact jo.inn e he
  ·rcases hd p h with z | z
   ·cases z
   ·exact z
 | n+1,(V,p :: q),jo,hn,hd,h=>by
  have h2:(if D p=true then some (jpt V p) else jgo D nx n (jall (jpt V p) 0 (nx p) (V,q)))=none:=h
  cases e:D p with
  | true=>rw [if_pos e] at h2;cases h2
  | false =>
   rw [if_neg (by rw [e];decide)] at h2
   have hpl:p.1∈L/\p.2∈L:=by
    obtain ⟨x,hx,rfl⟩:=List.mem_map.mp (jin_mem.mp (jo.q p List.mem_cons_self))
    exact jo.inn x hx
   have jo':JOk L (jall (jpt V p) 0 (nx p) (V,q)):=JOk.all jo.pop (hL p hpl)
   have few:=Nat.le_trans jo'.few (Nat.mul_le_mul h8 h8)
   have l1:=Jd (jpt V p) (nx p) 0 (V,q)
   have l2:=Yx (jpt V p) (nx p) 0 (V,q)
   have hdn:∀ x,jin (jall (jpt V p) 0 (nx p) (V,q)).1 x=true->x∈(jall (jpt V p) 0 (nx p) (V,q)).2\/(D x=false/\∀ b∈nx x,jin (jall (jpt V p) 0 (nx p) (V,q)).1 b=true):=fun x hx=>by
    rcases qa0 hx with z | z
    ·rcases hd x z with y | ⟨y1,y2⟩
     ·rcases List.mem_cons.mp y with y | y
      ·rw [y]
       exact .inr ⟨e,fun b hb=>qaz hb⟩
      ·exact .inl (Va y)
     ·exact .inr ⟨y1,fun b hb=>yf (y2 b hb)⟩
    ·exact .inl z
   obtain ⟨S,s1,s2,s3⟩:=Vv h8 hL n _ jo' (by
    simp only [List.length_cons] at hn l1 l2
    omega) hdn h2
   exact ⟨S,fun x hx=>s1 x (yf hx),s2,s3⟩
section
variable {first:List Nat} {rs:List Rule} {gs:List (List Nat)}
theorem Yc (hG:Good first rs) (p:PR) (h:p.1∈ltr rs/\p.2∈ltr rs):∀ b∈nxp rs p,b.1∈ltr rs/\b.2∈ltr rs:=fun b hb=>by
 have:=List.of_mem_zip (show (b.1,b.2)∈(wd rs p.1).zip (wd rs p.2) from hb)
 exact ⟨zh hG h.1 _ this.1,zh hG h.2 _ this.2⟩
def Rl (rs:List Rule) (gs:List (List Nat)) (c d:Nat):Prop:=way rs gs c d=none
theorem qdg {S:PR->Prop} (h1:∀ p,S p->difB rs (gdk gs) p=false) (h2:∀ p,S p->∀ b∈nxp rs p,S b) {c d:Nat} (h:S (c,d)):Rl rs gs c d :=
 Ze h1 h2 65 _ fun p hp=>by rw [List.mem_singleton.mp hp];exact h
theorem Rl.step (hG:Good first rs) {c d:Nat} (h:Rl rs gs c d) (hc:c∈ltr rs) (hd:d∈ltr rs):difB rs (gdk gs) (c,d)=false/\∀ b∈nxp rs (c,d),Rl rs gs b.1 b.2:=by
 have e8:(ltr rs).length<=8:=by rw [ltr_len];exact hG.few
 obtain ⟨S,s1,s2,s3⟩:=Vv e8 (Yc hG) 65 ([((c,d),[])],[(c,d)]) ⟨by simp,fun e he=>by rw [List.mem_singleton.mp he];exact ⟨hc,hd⟩,fun p hp=>by rw [List.mem_singleton.mp hp];simp [jin]⟩ (show 64 - 1+1+1<=65 by decide) (fun p hp=>.inl (by simpa [jin,eq_comm] using hp)) h
 have h0:S (c,d):=s1 _ (by simp [jin])
 refine ⟨(s3 _ h0).1,fun b hb=>?_⟩
 exact qdg (fun p hp=>(s3 p hp).1) (fun p hp=>(s3 p hp).2) ((s3 _ h0).2 b hb)
theorem qev {nk:List (Key × V)} {c d:Nat} (h:difB rs nk (c,d)=false):difB rs nk (d,c)=false:=by
 unfold difB at h ⊢
 simp only [Bool.or_eq_false_iff,Bool.not_eq_false',decide_eq_true_eq] at h ⊢
 exact ⟨h.1.symm,h.2.symm⟩
theorem qha {nk:List (Key × V)} {c d e:Nat} (h:difB rs nk (c,d)=false) (h':difB rs nk (d,e)=false):difB rs nk (c,e)=false:=by
 unfold difB at h h' ⊢
 simp only [Bool.or_eq_false_iff,Bool.not_eq_false',decide_eq_true_eq] at h h' ⊢
 exact ⟨h.1.trans h'.1,h.2.trans h'.2⟩
theorem Je {nk:List (Key × V)} {c d:Nat} (h:difB rs nk (c,d)=false):(wd rs c).length=(wd rs d).length:=by
 unfold difB at h
 simp only [Bool.or_eq_false_iff,Bool.not_eq_false',decide_eq_true_eq] at h
 exact h.2
theorem Rl.symm (hG:Good first rs) {c d:Nat} (hc:c∈ltr rs) (hd:d∈ltr rs) (h:Rl rs gs c d):Rl rs gs d c:=by
 refine qdg (S:=fun p=>Rl rs gs p.2 p.1/\p.1∈ltr rs/\p.2∈ltr rs) (fun p hp=>qev (hp.1.step hG hp.2.2 hp.2.1).1) (fun p hp b hb=>?_) ⟨h,hd,hc⟩
 have h2:=Yc hG p hp.2 b hb
 refine ⟨(hp.1.step hG hp.2.2 hp.2.1).2 (b.2,b.1) ?_,h2⟩
 obtain ⟨i,hi⟩:=List.mem_iff_getElem?.mp hb
 obtain ⟨x1,x2⟩:=List.getElem?_zip_eq_some.mp (show ((wd rs p.1).zip (wd rs p.2))[i]? = some (b.1,b.2) from hi)
 exact List.mem_iff_getElem?.mpr ⟨i,List.getElem?_zip_eq_some.mpr ⟨x2,x1⟩⟩
theorem Rl.trans (hG:Good first rs) {c d e:Nat} (hc:c∈ltr rs) (hd:d∈ltr rs) (he:e∈ltr rs) (h:Rl rs gs c d) (h':Rl rs gs d e):Rl rs gs c e:=by
 refine qdg (S:=fun p=>∃ y∈ltr rs,Rl rs gs p.1 y/\Rl rs gs y p.2/\p.1∈ltr rs/\p.2∈ltr rs) (fun p ⟨y,hy,h1,h2,h3,h4⟩=>qha (h1.step hG h3 hy).1 (h2.step hG hy h4).1) (fun p ⟨y,hy,h1,h2,h3,h4⟩ b hb=>?_) ⟨d,hd,h,h',hc,he⟩
 have h5:=Yc hG p ⟨h3,h4⟩ b hb
 obtain ⟨i,hi⟩:=List.mem_iff_getElem?.mp hb
 obtain ⟨x1,x2⟩:=List.getElem?_zip_eq_some.mp (show ((wd rs p.1).zip (wd rs p.2))[i]? = some (b.1,b.2) from hi)
 have hil:i < (wd rs y).length:=by
  rw [<- Je (h1.step hG h3 hy).1]
  exact (List.getElem?_eq_some_iff.mp x1).1
 have x3:=List.getElem?_eq_getElem hil
 have hz:=zh hG hy _ (List.mem_of_getElem? x3)
 refine ⟨_,hz,(h1.step hG h3 hy).2 (b.1,(wd rs y)[i]) (List.mem_iff_getElem?.mpr ⟨i,List.getElem?_zip_eq_some.mpr ⟨x1,x3⟩⟩),(h2.step hG hy h4).2 ((wd rs y)[i],b.2) (List.mem_iff_getElem?.mpr ⟨i,List.getElem?_zip_eq_some.mpr ⟨x3,x2⟩⟩),h5⟩
theorem Rl.refl (c:Nat):Rl rs gs c c:=qaw rs gs c
theorem alk_mem {c d:Nat}:d∈alk rs gs c ↔ d∈ltr rs/\Rl rs gs c d:=by
 unfold alk Rl
 rw [List.mem_filter,Option.isNone_iff_eq_none]
theorem qjo (hG:Good first rs) {c d:Nat} (hc:c∈ltr rs) (hd:d∈ltr rs) (h:Rl rs gs c d):alk rs gs c=alk rs gs d:=by
 unfold alk
 refine List.filter_congr fun e he=>?_
 rw [Bool.eq_iff_iff,Option.isNone_iff_eq_none,Option.isNone_iff_eq_none]
 exact ⟨fun z=>(h.symm hG hc hd).trans hG hd hc he z,fun z=>h.trans hG hc hd he z⟩
end
def gix (gs:List (List Nat)) (c:Nat):Nat:=gs.findIdx fun g=>decide (c∈g)
end Lw
namespace Lw
open PySem L2 PyProof.Rows
theorem Vb {α β:Type} {f:α->β} {ys xs:List β} (h:ys.Perm xs):∀ cs:List α,xs=cs.map f->∃ cs':List α,cs'.Perm cs/\ys=cs'.map f:=by
 induction h with
 | nil=>exact fun cs e=>⟨cs,.refl _,e⟩
 | cons x _ ih =>
  intro cs e
  cases cs with
  | nil=>cases e
  | cons c cs =>
   obtain ⟨e1,e2⟩:=List.cons.inj e
   obtain ⟨cs',h1,h2⟩:=ih cs e2
   exact ⟨c :: cs',h1.cons c,by rw [h2,e1];rfl⟩
 | swap x y l =>
  intro cs e
  cases cs with
  | nil=>cases e
  | cons c cs =>
   cases cs with
   | nil=>cases (List.cons.inj e).2
   | cons d cs =>
    obtain ⟨e1,e2⟩:=List.cons.inj e
    obtain ⟨e3,e4⟩:=List.cons.inj e2
    exact ⟨d :: c :: cs,.swap _ _ _,by rw [e1,e3,e4];rfl⟩
 | trans _ _ ih1 ih2 =>
  intro cs e
  obtain ⟨cs1,p1,e1⟩:=ih2 cs e
  obtain ⟨cs2,p2,e2⟩:=ih1 cs1 e1
  exact ⟨cs2,p2.trans p1,e2⟩
theorem erase_perm {α:Type}:∀ {l:List α} {i:Nat} {x:α},l[i]? = some x->(x :: l.eraseIdx i).Perm l
 | [],i,x,h=>by cases h
 | a :: l,0,x,h=>by
  obtain rfl:a=x:=by simpa using h
  exact .refl _
 | a :: l,i+1,x,h=>by
  have ih:=erase_perm (l:=l) (i:=i) (x:=x) (by simpa using h)
  show (x :: a :: l.eraseIdx i).Perm (a :: l)
  exact (List.Perm.swap _ _ _).trans (ih.cons a)
theorem qk {H H':Hp} {p:Addr} {b b':Nat} (h:PenAt H p b) (s:Same H H') (hb:b<=b'):PenAt H' p b':=by
 obtain ⟨op,hop⟩:=h.some
 exact (h.other (by rw [s _ _ hop,hop])).mono hb
theorem jw {H:Hp} {p:Addr} {b:Nat} (h:PenAt H p b) {l:Addr} (n:H l=none):l≠p:=by
 obtain ⟨o,ho⟩:=h.some
 exact (ne_of_none ho n).symm
theorem vj {p:Addr} {H H':Hp} (e:∀ c,c≠p->H' c=H c):But p H H':=fun c o h z=>(e c z).trans h
section
variable {P:Program} {w:World} {K:W.Frag} {mg:Str->Option Value} {base:Heap}
def spMix:Sp:=fun vs H Q _=>∃ (p l:Addr) (b:Nat) (xs:List V),vs=[.ref p,.ref l]/\PenAt H p b/\b<=900000/\H l=some (.lst xs)/\xs.length<=30/\l≠p /\
 ∀ (m:Addr) (ys:List V) H',H m=none->But p H H'->PenAt H' p (b+xs.length)->H' m=some (.lst ys)->ys.Perm xs->Q (.ref m) H'
theorem scMix:FnScope ["_law_pen_here","_law_things","_law_rest"] ["_law_pen_here","_law_things"] (defScope sMix):=⟨rfl,rfl,rfl,by decide +kernel,rfl,by decide +kernel,by decide +kernel⟩
theorem qhb:(["_law_k","_law_rest","_law_pen_here"]:List Str).Nodup:=by decide +kernel
theorem qjp {f fTak:Addr} {fd fdTak:FuncData} (F:Fun K "_law_mixed" "_law_mixed" sMix f fd)
  (GTak:FnOk P w K mg base CX0 1 fTak fdTak ["_law_pen_here","_law_size"] spTak)
  (gTak:Gf K mg "_law_take" fTak fdTak ["_law_pen_here","_law_size"])
  (hlen:mg "len" = none)
  (hrange:mg "range" = none)
  (hlist:mg "list" = none)
  : FnOk P w K mg base CX0 2 f fd ["_law_pen_here","_law_things"] spMix:=by
 refine F.ok scMix (fun vs H Q E h=>?_) (fun cdv A outer s H vs Q E hr h=>?_)
 ·obtain ⟨p,l,b,xs,rfl,_⟩:=h
  rfl
 ·obtain ⟨p,l,b,xs,rfl,hp,hb,hl,hn,nlp,q⟩:=h
  refine ⟨_,(qd (qj (i:=2) scMix.nd rfl (Or.inr rfl) (jb (vo K) (by rfl) hlist (by first | exact PySem.boot_list | decide +kernel) (qa (pv 1) qb)))
   (qg (qp (qx (N':=["_law_k","_law_rest","_law_pen_here"]) (ix:=[none,some 2,some 0]) rfl rfl (jx rfl hrange (qa (qm (jn K) (by rfl) hlen PySem.boot_len (qa (pv 1) qb)) qb)) (fun _ _ _ _ _ _=>(qi (i:=0) qhb rfl (Or.inl rfl))) (fun _ _ _ _ _ _=>qv) (fun _ _ _ _ _ _=>(ju K PySem.F.plainAttrs_list PySem.F.slot_list_pop PySem.F.type_list_pop qab (pv 1) (qa (qh GTak hr rfl gTak.m gTak.k gTak.b .nil pass0 (qa (pv 2) (qa (qm (jn K) (by rfl) hlen PySem.boot_len (qa (pv 1) qb)) qb))) qb))))))),?_⟩
  refine ⟨_,rfl,l,_,rfl,.inl (SqL.of hl),fun l0 hl0=>?_⟩
  obtain ⟨op0,hop0⟩:=hp.some
  have np:p≠l0:=ne_of_none hop0 hl0
  have nl0:l≠l0:=ne_of_none hl hl0
  have s0:=Same.add (o:=.lst xs) hl0
  refine ⟨_,rfl,l,_,rfl,.inl (SqL.of (s0 _ _ hl)),?_⟩
  refine ⟨_,rfl,by omega,by omega,qu (τ0:=[none,some (V.ref l0),some (V.ref p)]) (ji (lo:=0) (n:=Int.toNat (xs.length:Int))) (by rw [rngV_length];omega)
   (fun i ys τ H4=>∃ rem,ys.length=i/\(ys++rem).Perm xs/\H4 l0=some (.lst rem)/\But p H H4/\PenAt H4 p (b+i)/\∃ v,τ=[v,some (.ref l0),some (.ref p)])
   ⟨xs,rfl,List.Perm.refl _,upd_same,But.same s0,hp.other (qe np),_,rfl⟩ ?_ ?_ ?_⟩
  ·rintro i ys τ H4 hi ⟨rem,e,_⟩
   exact ⟨trivial,by omega⟩
  ·rintro i x taken τ H4 hx ⟨rem,et,hPm,hR,hBt,hPn,v,rfl⟩
   have hi:i < xs.length:=by
    have:=(List.getElem?_eq_some_iff.mp hx).1
    rw [rngV_length] at this
    simpa using this
   have hlen26:rem.length=xs.length - i:=by
    have:=hPm.length_eq
    rw [List.length_append,et] at this
    omega
   refine ⟨_,rfl,.inl ⟨rfl,_,SqL.of hR⟩,_,rfl,_,rfl,l0,_,rfl,.inl (SqL.of hR),p,b+i,_,rfl,hPn,by omega,by omega,by omega,fun zz H5 zz0 zz1 hP5 e5=>?_⟩
   obtain ⟨j,rfl⟩:∃ j:Nat,zz=(j:Int):=⟨zz.toNat,by omega⟩
   have hj:j < rem.length:=by omega
   have hat:rem[j]? = some rem[j]:=List.getElem?_eq_getElem hj
   obtain ⟨j',s1,s2,_⟩:=Vy (atI_nat hat)
   have ejj:j'=j:=by
    obtain ⟨q1,_⟩:=Yj (n:=rem.length) (i:=(j:Int)) (j:=j) (by
     unfold ixN
     rw [if_pos (by omega),if_pos (by omega)]
     simp)
    rw [q1] at s1
    exact (Option.some.inj s1).symm
   subst ejj
   refine ⟨l0,_,_,j',_,rfl,rfl,(e5 l0 np.symm).trans hR,by omega,by omega,s1,s2,?_⟩
   refine ⟨rem.eraseIdx j',by rw [List.length_append,et];rfl,?_,upd_same,?_,?_,_,rfl⟩
   ·refine List.Perm.trans ?_ hPm
    rw [List.append_assoc]
    exact List.Perm.append_left taken (erase_perm hat)
   ·intro c o hc hne
    have nl:c≠l0:=ne_of_none hc hl0
    rw [qe nl,e5 c hne]
    exact hBt c o hc hne
   ·exact (hP5.other (qe np)).mono (by omega)
  rintro ms τ H4 m ⟨rem,et,hPm,hR,hBt,hPn,v,rfl⟩ nm
  have e:(rngV 0 (Int.toNat (xs.length:Int))).length=xs.length:=by rw [rngV_length];simp
  rw [e] at et hPn
  have nmp:m≠p:=jw hPn nm
  have hr0:rem=[]:=by
   have:=hPm.length_eq
   rw [List.length_append,et] at this
   exact List.length_eq_zero_iff.mp (by omega)
  rw [hr0,List.append_nil] at hPm
  exact q m ms _ (hBt.free nmp nm) (hBt.trans (But.same (Same.add nm))) (hPn.other (qe nmp.symm)) upd_same hPm
end
end Lw
namespace Lw
open PySem L2 PyProof.Rows
theorem pick3:∀ j:Nat,j < 3->∃ z:Int,([V.int 4,V.int 4,V.int 8]:List V)[j]? = some (.int z)/\1<=z/\z<=8
 | 0,_=>⟨4,rfl,by decide,by decide⟩
 | 1,_=>⟨4,rfl,by decide,by decide⟩
 | 2,_=>⟨8,rfl,by decide,by decide⟩
 | n+3,h=>by omega
abbrev Hs:=List (Addr × List Nat)
abbrev flt (hs:Hs):List Nat:=(hs.map (·.2)).flatten
structure Hom (H:Hp) (h:Addr) (hs:Hs):Prop where
 h:H h=some (.lst (hs.map fun q=>V.ref q.1))
 l:∀ q∈hs,H q.1=some (.lst (q.2.map sign))
structure HomOk (hs:Hs):Prop where
 nd:(flt hs).Nodup
 ab:∀ c∈flt hs,97<=c/\c<=122
 few:(flt hs).length<=8
 ne:∀ q∈hs,q.2≠[]
 len:hs.length<=9
theorem qa1 {c:Nat}:∀ {xs:List (List Nat)} {i:Nat} {x:List Nat} {L:List Nat},xs[i]? = some x->xs.flatten.Perm L->(xs.set i (x++[c])).flatten.Perm (L++[c])
 | [],i,x,L,e,h=>by cases e
 | y :: xs,0,x,L,e,h=>by
  obtain rfl:y=x:=by simpa using e
  show ((y++[c])++xs.flatten).Perm _
  have h2:(y++xs.flatten).Perm L:=h
  refine List.Perm.trans ?_ (h2.append_right [c])
  rw [List.append_assoc,List.append_assoc]
  exact List.Perm.append_left y List.perm_append_comm
 | y :: xs,i+1,x,L,e,h=>by
  have ih:=qa1 (c:=c) (L:=xs.flatten) (show xs[i]? = some x from e) (List.Perm.refl _)
  show (y++(xs.set i (x++[c])).flatten).Perm _
  have h2:(y++xs.flatten).Perm L:=h
  refine List.Perm.trans (List.Perm.append_left y ih) ?_
  rw [<- List.append_assoc]
  exact h2.append_right [c]
theorem qa2 {α:Type}:∀ {l:List α} {i:Nat} {x:α},l[i]? = some x->l.set i x=l
 | [],_,_,_=>rfl
 | a :: l,0,x,h=>by
  obtain rfl:a=x:=by simpa using h
  rfl
 | a :: l,i+1,x,h=>by
  show a :: l.set i x=a :: l
  rw [qa2 (show l[i]? = some x by simpa using h)]
theorem vk:∀ hs:Hs,flt (hs.filter fun q=>decide (q.2≠[]))=flt hs
 | []=>rfl
 | (a,[]) :: hs=>by rw [List.filter_cons_of_neg (by simp)];exact vk hs
 | (a,c :: l) :: hs=>by
  rw [List.filter_cons_of_pos (by simp)]
  show (c :: l)++_=(c :: l)++_
  rw [show ((hs.filter fun q=>decide (q.2≠[])).map (·.2)).flatten=(hs.map (·.2)).flatten from vk hs]
structure Hfil (H0 H:Hp) (p C D:Addr) (hs:Hs):Prop where
 bt:But p H0 H
 d:H D=some (.lst (hs.map fun q=>V.ref q.1))
 l:∀ q∈hs,H q.1=some (.lst (q.2.map sign))
 nd:(hs.map (·.1)).Nodup
 nw:∀ q∈hs,H0 q.1=none/\q.1≠C/\q.1≠D/\q.1≠p
theorem Hfil.put {H0 H:Hp} {p C D:Addr} {hs:Hs} (h:Hfil H0 H p C D hs) {j:Nat} {q:Addr × List Nat} (e:hs[j]? = some q) (c:Nat):Hfil H0 (upd H q.1 (.lst (q.2.map sign++[sign c]))) p C D (hs.set j (q.1,q.2++[c])):=by
 have hq:=h.nw q (List.mem_of_getElem? e)
 have e1:(hs.set j (q.1,q.2++[c])).map (·.1)=hs.map (·.1):=by
  rw [List.map_set]
  exact qa2 (by rw [List.getElem?_map,e];rfl)
 refine ⟨fun a o ha n=>by rw [qe (ne_of_none ha hq.1)];exact h.bt a o ha n,?_,fun r hr=>?_,by rw [e1];exact h.nd,fun r hr=>?_⟩
 ·rw [qe hq.2.2.1.symm,h.d]
  have e2:(hs.set j (q.1,q.2++[c])).map (fun q=>V.ref q.1)=((hs.set j (q.1,q.2++[c])).map (·.1)).map V.ref:=by rw [List.map_map];rfl
  rw [e2,e1,List.map_map]
  rfl
 ·obtain ⟨i,hi⟩:=List.mem_iff_getElem?.mp hr
  rw [List.getElem?_set] at hi
  by_cases z:j=i
  ·subst z
   rw [if_pos rfl] at hi
   split at hi
   ·rw [<- Option.some.inj hi,upd_same]
    show _=some (HO.lst ((q.2++[c]).map sign))
    rw [List.map_append]
    rfl
   ·cases hi
  ·rw [if_neg z] at hi
   have:r.1≠q.1:=fun y=>z (by
    have h1:(hs.map (·.1))[j]? = some q.1:=by rw [List.getElem?_map,e];rfl
    have h2:(hs.map (·.1))[i]? = some q.1:=by rw [List.getElem?_map,hi,<- y];rfl
    obtain ⟨a1,b1⟩:=List.getElem?_eq_some_iff.mp h1
    obtain ⟨a2,b2⟩:=List.getElem?_eq_some_iff.mp h2
    exact (List.getElem_inj h.nd).mp (b1.trans b2.symm))
   rw [qe this]
   exact h.l r (List.mem_of_getElem? hi)
 ·rcases List.mem_or_eq_of_mem_set hr with z | z
  ·exact h.nw r z
  ·rw [z];exact hq
theorem Hfil.same {H0 H H':Hp} {p C D:Addr} {hs:Hs} (h:Hfil H0 H p C D hs) (s:Same H H'):Hfil H0 H' p C D hs:=⟨h.bt.trans (But.same s),s _ _ h.d,fun q hq=>s _ _ (h.l q hq),h.nd,h.nw⟩
theorem Hfil.pen {H0 H H':Hp} {p C D:Addr} {hs:Hs} (h:Hfil H0 H p C D hs) (nD:D≠p) (e:∀ c,c≠p->H' c=H c):Hfil H0 H' p C D hs:=⟨h.bt.trans (vj e),(e _ nD).trans h.d,fun q hq=>(e _ (h.nw q hq).2.2.2).trans (h.l q hq),h.nd,h.nw⟩
section
variable {P:Program} {w:World} {K:W.Frag} {mg:Str->Option Value} {base:Heap}
def spHms:Sp:=fun vs H Q _=>∃ (p:Addr) (b many:Nat),vs=[.ref p,.int (many:Int)]/\PenAt H p b/\b<=800000/\many<=8 /\
 ∀ (h:Addr) (hs:Hs) H',But p H H'->H h=none->(∀ q∈hs,H q.1=none)->Hom H' h hs->HomOk hs->PenAt H' p (b+50)->Q (.ref h) H'
theorem scHms:FnScope ["_law_pen_here","_law_many","_law_signs","_law_size","_law_homes_here","_law_at","_law_sign"] ["_law_pen_here","_law_many"] (defScope sHms):=⟨rfl,rfl,rfl,by decide +kernel,rfl,by decide +kernel,by decide +kernel⟩
theorem qhc:(["_law_k"]:List Str).Nodup:=by decide +kernel
theorem qhd:(["_law_home"]:List Str).Nodup:=by decide +kernel
theorem qjq {f fMix fTak:Addr} {fd fdMix fdTak:FuncData} (F:Fun K "_law_homes" "_law_homes" sHms f fd)
  (GMix:FnOk P w K mg base CX0 2 fMix fdMix ["_law_pen_here","_law_things"] spMix)
  (gMix:Gf K mg "_law_mixed" fMix fdMix ["_law_pen_here","_law_things"])
  (GTak:FnOk P w K mg base CX0 1 fTak fdTak ["_law_pen_here","_law_size"] spTak)
  (gTak:Gf K mg "_law_take" fTak fdTak ["_law_pen_here","_law_size"])
  (hrange:mg "range" = none)
  (henumerate:mg "enumerate" = none)
  (hlist:mg "list" = none)
  : FnOk P w K mg base CX0 3 f fd ["_law_pen_here","_law_many"] spHms:=by
 refine F.ok scHms (fun vs H Q E h=>?_) (fun cdv A outer s H vs Q E hr h=>?_)
 ·obtain ⟨p,b,many,rfl,_⟩:=h
  rfl
 ·obtain ⟨p,b,many,rfl,hP,hb,h8,k⟩:=h
  have hr1:Room 1 _:=hr.mono (by decide)
  refine ⟨_,(qd (qj (i:=2) scHms.nd rfl (Or.inl rfl) (zb (V3 K) (qh GMix hr rfl gMix.m gMix.k gMix.b .nil pass0 (qa (pv 0) (qa (jb (Vg rfl) (by rfl) hlist (by first | exact PySem.boot_list | decide +kernel) (qa j9 qb)) qb))) yk (po_some (pv 1))))
   (qd (qj (i:=3) scHms.nd rfl (Or.inl rfl) (je vw qf (qh GTak hr1 rfl gTak.m gTak.k gTak.b .nil pass0 (qa (pv 0) (qa (pe_ix (qy K) (j0 (qa qf (qa qf (qa qf qb)))) (qh GTak hr1 rfl gTak.m gTak.k gTak.b .nil pass0 (qa (pv 0) (qa qf qb))) (fun _ _=>rfl)) qb)))))
   (qd (yo (i:=4) (N':=["_law_k"]) (ix:=[none]) scHms.nd rfl rfl rfl rfl (jx rfl hrange (qa (pv 3) qb)) (fun _ _ _ _ _ _=>(qi (i:=0) qhc rfl (Or.inl rfl))) (fun _ _ _ _ _ _=>qv) (fun _ _ _ _ _ _=>(j0 qb)))
   (qd (jy PassesOwn.never rfl (yy K rfl henumerate (qa (pv 2) qb)) (vz K (n:=2) rfl (jf (qi (i:=5) scHms.nd rfl (Or.inl rfl)) (jf (qi (i:=6) scHms.nd rfl (Or.inl rfl)) vv))) (qg (vm (qz qib (pv 5) (pv 3) (nomark _)) (qg (vd (ju K PySem.F.plainAttrs_list PySem.F.slot_list_append PySem.F.type_list_append vg (pe_ix (qy K) (pv 4) (pv 5) (fun _ _=>rfl)) (qa (pv 6) qb)))) (qg (vd (ju K PySem.F.plainAttrs_list PySem.F.slot_list_append PySem.F.type_list_append vg (pe_ix (qy K) (pv 4) (qh GTak hr1 rfl gTak.m gTak.k gTak.b .nil pass0 (qa (pv 0) (qa (pv 3) qb))) (fun _ _=>rfl)) (qa (pv 6) qb)))))))
   (qg (qp (qx (N':=["_law_home"]) (ix:=[none]) rfl rfl (jk K (pv 4)) (fun _ _ _ _ _ _=>(qi (i:=0) qhd rfl (Or.inl rfl))) (fun _ _ _ _ _ _=>(yn (qz (Ja K hr.units) (pv 0) (j0 qb) (nomark _)))) (fun _ _ _ _ _ _=>(pv 0))))))))),?_⟩
  refine ⟨_,rfl,_,rfl,(show (Str.ofString "abcdefghijklmnopqrstuvwxyz").cps.size<=10000 by decide +kernel),fun La nLa=>?_⟩
  rw [qgu]
  have nLap:=jw hP nLa
  have sLa:=Same.add (o:=.lst (abc.map sign)) nLa
  have hPa:=qk hP sLa (Nat.le_refl _)
  refine ⟨p,La,b,abc.map sign,rfl,hPa,by omega,upd_same,by decide,nLap,fun So ys H1 nSo b1 hP1 hSo hpy=>?_⟩
  obtain ⟨ms,hpm,rfl⟩:=Vb hpy abc rfl
  have b01:But p H H1:=(But.same sLa).trans b1
  have hml:ms.length=26:=hpm.length_eq.trans (by decide)
  have hnd:ms.Nodup:=hpm.nodup_iff.mpr (by decide)
  have hP1:PenAt H1 p (b+26):=hP1
  refine ⟨_,rfl,_,rfl,So,_,rfl,SqL.of hSo,fun C nC=>?_⟩
  rw [qak,<- List.map_take]
  have nCp:=jw hP1 nC
  have sC:=Same.add (o:=.lst ((ms.take many).map sign)) nC
  have hC2:=upd_same (H:=H1) (a:=C) (o:=.lst ((ms.take many).map sign))
  have hP2:=qk hP1 sC (Nat.le_refl _)
  have b02:=b01.trans (But.same sC)
  have hcl:(ms.take many).length=many:=by rw [List.length_take];omega
  have hcnd:(ms.take many).Nodup:=(List.take_sublist many ms).nodup hnd
  have hab:∀ c∈ms.take many,97<=c/\c<=122:=fun c hc=>qi3 c (hpm.mem_iff.mp (List.mem_of_mem_take hc))
  revert hC2 hP2 b02
  generalize upd H1 C (.lst ((ms.take many).map sign))=H2
  intro hC2 hP2 b02
  generalize ms.take many=cs at hcl hcnd hab hC2
  clear hpy hpm hnd hml hP1 b01 b1 hSo hPa sC nC
  dsimp only [gName]
  refine ⟨_,rfl,szl (show 3<=1000 by decide),fun L3 nL3=>?_⟩
  have n3p:=jw hP2 nL3
  have s3:=Same.add (o:=.lst [V.int 4,V.int 4,V.int 8]) nL3
  refine ⟨_,rfl,p,b+26,_,rfl,qk hP2 s3 (Nat.le_refl _),by omega,by decide,by decide,fun z1 H3 z10 z11 hP3 e3=>?_⟩
  obtain ⟨j1,rfl⟩:=Int.eq_ofNat_of_zero_le z10
  obtain ⟨zz,hzz,zl,zu⟩:=pick3 j1 (by omega)
  refine ⟨L3,_,_,_,rfl,rfl,SqL.of ((e3 L3 n3p).trans upd_same),atI_nat hzz,p,b+27,_,rfl,hP3,by omega,by omega,by omega,fun z2 H4 z20 z21 hP4 e4=>?_⟩
  obtain ⟨m2,rfl⟩:=Int.eq_ofNat_of_zero_le z20
  have b4:But p H2 H4:=(But.same s3).trans ((vj e3).trans (vj e4))
  refine ⟨_,_,rfl,rfl,?_⟩
  have es:(1:Int)+(m2:Int)=((m2+1:Nat):Int):=by omega
  rw [show (fun i j:Int=>V.int (i+j)) 1 (m2:Int)=V.int ((m2+1:Nat):Int) from congrArg V.int es]
  have hm9:m2+1<=9/\1<=m2+1:=by omega
  have hP4:PenAt H4 p (b+28):=hP4
  have hC4:=b4 _ _ hC2 nCp
  have b04:=b02.trans b4
  generalize m2+1=N at *
  clear e3 e4 hP2 hP3 hzz s3
  dsimp only [gName]
  refine ⟨_,rfl,_,rfl,by omega,by omega,?_⟩
  have eN:Int.toNat (N:Int)=N:=by omega
  refine qu (τ0:=[none]) (ji (lo:=0) (n:=Int.toNat (N:Int))) (by rw [rngV_length];omega)
   (fun i ys τ Hx=>Same H4 Hx/\(∃ v,τ=[v])/\∃ ls:List Addr,ys=ls.map V.ref/\ls.length=i/\ls.Nodup/\∀ l∈ls,H4 l=none/\Hx l=some (.lst [])) ⟨Same.refl _,⟨_,rfl⟩,[],rfl,rfl,List.nodup_nil,fun l hl=>(by cases hl)⟩ ?_ ?_ ?_
  ·rintro i ys τ Hx hi ⟨_,_,ls,rfl,e,_⟩
   refine ⟨trivial,?_⟩
   rw [List.length_map,e]
   exact Nat.le_refl _
  ·rintro i x ys τ Hx hx ⟨sx,⟨v,rfl⟩,ls,rfl,e,nd,hl⟩
   refine ⟨szl (show 0<=1000 by decide),fun l nl=>⟨sx.trans (Same.add nl),⟨_,rfl⟩,ls++[l],by rw [List.map_append];rfl,by rw [List.length_append,e];rfl,?_,fun a ha=>?_⟩⟩
   ·refine List.nodup_append.mpr ⟨nd,List.nodup_cons.mpr ⟨by simp,List.nodup_nil⟩,fun a ha c hc=>?_⟩
    rw [List.mem_singleton.mp hc]
    exact ne_of_none (hl a ha).2 nl
   ·rcases List.mem_append.mp ha with z | z
    ·exact ⟨(hl a z).1,Same.add nl _ _ (hl a z).2⟩
    ·rw [List.mem_singleton.mp z]
     exact ⟨sx.free nl,upd_same⟩
  rintro ys τ Hx D ⟨sx,_,ls,rfl,e,nd,hl⟩ nD
  rw [rngV_length,eN] at e
  have hPx:=qk hP4 sx (Nat.le_refl _)
  have nDp:=jw hPx nD
  have sD:=Same.add (o:=.lst (ls.map V.ref)) nD
  have hD5:=upd_same (H:=Hx) (a:=D) (o:=.lst (ls.map V.ref))
  have n04:∀ {l:Addr},l≠p->H4 l=none->H l=none:=fun n h=>b04.free n h
  have hfl:Hfil H (upd Hx D (.lst (ls.map V.ref))) p C D (ls.map fun l=>(l,[])):=by
   refine ⟨b04.trans (But.same (sx.trans sD)),by rw [hD5,List.map_map];rfl,fun q hq=>?_,?_,fun q hq=>?_⟩
   ·obtain ⟨l,h1,rfl⟩:=List.mem_map.mp hq
    exact sD _ _ (hl l h1).2
   ·rw [List.map_map]
    exact (List.map_id ls).symm ▸ nd
   ·obtain ⟨l,h1,rfl⟩:=List.mem_map.mp hq
    have h2:=jw hP4 (hl l h1).1
    exact ⟨n04 h2 (hl l h1).1,(ne_of_none hC4 (hl l h1).1).symm,ne_of_none (hl l h1).2 nD,h2⟩
  have nD0:H D=none:=n04 nDp (sx.free nD)
  have hC5:=sD _ _ (sx _ _ hC4)
  have hP5:=qk hPx sD (Nat.le_refl _)
  have nDC:D≠C:=(ne_of_none (sx _ _ hC4) nD).symm
  revert hfl hC5 hP5
  generalize upd Hx D (.lst (ls.map V.ref))=H5
  intro hfl hC5 hP5
  dsimp only [gName]
  refine seq_by (fun σ H6=>∃ (hs:Hs) (v5 v6:Option V),Hfil H H6 p C D hs/\hs.length=N/\(flt hs).Perm cs/\PenAt H6 p (b+40)/\σ=[some (.ref p),some (.int (many:Int)),some (.ref C),some (.int (N:Int)),some (.ref D),v5,v6]) (fun nx hn=>?_) ?_
  ·refine ⟨_,rfl,C,rfl,⟨_,SqL.of hC5⟩,?_⟩
   refine Jq (sure_enum (xs:=cs.map sign)) (fun i σ H6=>∃ (hs:Hs) (v5 v6:Option V),Hfil H H6 p C D hs/\H6 C=some (.lst (cs.map sign))/\hs.length=N/\(flt hs).Perm (cs.take i)/\PenAt H6 p (b+28+i)/\σ=[some (.ref p),some (.int (many:Int)),some (.ref C),some (.int (N:Int)),some (.ref D),v5,v6])
    ⟨_,_,_,hfl,hC5,by rw [List.length_map];exact e,?_,hP5,rfl⟩ ?_ ?_ ?_
   ·rw [List.take_zero]
    have:∀ l:List Addr,flt (l.map fun l=>(l,[]))=[]:=fun l=>by
     induction l with
     | nil=>rfl
     | cons a l ih=>exact ih
    rw [this]
   ·rintro i σ H6 hi ⟨hs,v5,v6,_,hC6,_⟩
    exact SqL.of hC6
   ·rintro i zs σ H6 T hz ⟨hs,v5,v6,hf,hC6,hN,hpr,hP6,rfl⟩ hT
    rw [List.getElem?_map] at hz
    cases ez:(cs.map sign).zipIdx[i]? with
    | none=>rw [ez] at hz;cases hz
    | some pr =>
     rw [ez] at hz
     cases hz
     rw [List.getElem?_zipIdx,List.getElem?_map] at ez
     cases ec:cs[i]? with
     | none=>rw [ec] at ez;cases ez
     | some x =>
      rw [ec] at ez
      have ez':pr=(sign x,i):=by rw [<- Option.some.inj ez,Nat.zero_add]
      subst ez'
      have hil:i < cs.length:=(List.getElem?_eq_some_iff.mp ec).1
      refine ⟨T,_,rfl,SqT.of upd_same,rfl,_,_,rfl,_,_,rfl,rfl,?_⟩
      have sT:=Same.add (o:=.tup [V.int (i:Int),sign x]) hT
      have hf7:=hf.same sT
      have hC7:=sT _ _ hC6
      have hP7:=qk hP6 sT (Nat.le_refl _)
      revert hf7 hC7 hP7
      generalize upd H6 T (.tup [V.int (i:Int),sign x])=H7
      intro hf7 hC7 hP7
      have fin:∀ (j:Nat) (q:Addr × List Nat),hs[j]? = some q->(flt (hs.set j (q.1,q.2++[x]))).Perm (cs.take (i+1)):=fun j q e=>by
       rw [List.take_add_one,ec]
       show (((hs.set j (q.1,q.2++[x])).map (·.2)).flatten).Perm (cs.take i++[x])
       rw [List.map_set]
       exact qa1 (by rw [List.getElem?_map,e];rfl) hpr
      have hql:∀ q∈hs,q.2.length<=8:=fun q hq=>by
       have h1:=(List.sublist_flatten_of_mem (List.mem_map_of_mem (f:=(·.2)) hq)).length_le
       have h2:(hs.map (·.2)).flatten.length=(cs.take i).length:=hpr.length_eq
       rw [List.length_take] at h2
       omega
      refine ⟨_,rfl,_,rfl,_,_,rfl,rfl,_,rfl,ite2 (fun hc=>?_) (fun hc=>?_)⟩
      ·have hiN:i < hs.length:=by have:=of_decide_eq_true hc;omega
       have eq:hs[i]? = some hs[i]:=List.getElem?_eq_getElem hiN
       generalize hs[i]=q at eq
       have hq:=List.mem_of_getElem? eq
       refine ⟨_,rfl,_,rfl,D,_,_,V.ref q.1,rfl,rfl,SqL.of hf7.d,atI_nat (by rw [List.getElem?_map,eq];rfl),.inl ⟨rfl,_,SqL.of (hf7.l q hq)⟩,_,rfl,q.1,_,_,rfl,rfl,hf7.l q hq,small1000 (by rw [List.length_map];have:=hql q hq;omega),?_⟩
       refine ⟨_,_,_,hf7.put eq x,by rw [qe (hf7.nw q hq).2.1.symm];exact hC7,by rw [List.length_set];exact hN,fin i q eq,(hP7.other (qe (hf7.nw q hq).2.2.2.symm)).mono (by omega),rfl⟩
      ·refine ⟨_,rfl,_,rfl,_,rfl,p,b+28+i,_,rfl,hP7,by omega,by omega,by omega,fun z H8 z0 z9 hP8 e8=>?_⟩
       obtain ⟨j,rfl⟩:=Int.eq_ofNat_of_zero_le z0
       have hj:j < hs.length:=by omega
       have eq:hs[j]? = some hs[j]:=List.getElem?_eq_getElem hj
       generalize hs[j]=q at eq
       have hq:=List.mem_of_getElem? eq
       have hf8:=hf7.pen nDp e8
       refine ⟨D,_,_,V.ref q.1,rfl,rfl,SqL.of hf8.d,atI_nat (by rw [List.getElem?_map,eq];rfl),.inl ⟨rfl,_,SqL.of (hf8.l q hq)⟩,_,rfl,q.1,_,_,rfl,rfl,hf8.l q hq,small1000 (by rw [List.length_map];have:=hql q hq;omega),?_⟩
       refine ⟨_,_,_,hf8.put eq x,by rw [qe (hf8.nw q hq).2.1.symm];exact (e8 C nCp).trans hC7,by rw [List.length_set];exact hN,fin j q eq,(hP8.other (qe (hf8.nw q hq).2.2.2.symm)).mono (by omega),rfl⟩
   ·rintro σ H6 ⟨hs,v5,v6,hf,hC6,hN,hpr,hP6,rfl⟩
    refine hn _ _ ⟨hs,v5,v6,hf,hN,?_,hP6.mono ?_,rfl⟩
    ·simpa using hpr
    ·simp;omega
  rintro σ H6 ⟨hs,v5,v6,hf,hN,hpr,hP6,rfl⟩
  refine ⟨_,rfl,D,rfl,⟨_,SqL.of hf.d⟩,?_⟩
  refine comp_byR (τ0:=[none]) (sure_list (xs:=hs.map fun q=>V.ref q.1)) (by rw [List.length_map];omega)
   (fun i us τ Hx=>Same H6 Hx/\(∃ v,τ=[v])/\us=((hs.take i).filter fun q=>decide (q.2≠[])).map fun q=>V.ref q.1) ⟨Same.refl _,⟨_,rfl⟩,rfl⟩ ?_ ?_ ?_
  ·rintro i us τ Hx hi ⟨sx,_,rfl⟩
   refine ⟨SqL.of (sx _ _ hf.d),?_⟩
   rw [List.length_map]
   have:=List.length_filter_le (fun q:Addr × List Nat=>decide (q.2≠[])) (hs.take i)
   rw [List.length_take] at this
   omega
  ·rintro i y us τ Hx hy ⟨sx,⟨v,rfl⟩,rfl⟩
   rw [List.getElem?_map] at hy
   cases eq:hs[i]? with
   | none=>rw [eq] at hy;cases hy
   | some q =>
    rw [eq] at hy
    cases hy
    have hq:=List.mem_of_getElem? eq
    have ef:=j3 (fun q:Addr × List Nat=>decide (q.2≠[])) eq
    rw [ef]
    refine ⟨_,rfl,szl (show 0<=1000 by decide),fun E nE=>?_⟩
    have sE:=Same.add (o:=.lst []) nE
    refine ⟨q.1,E,_,rfl,rfl,SqL.of (sE _ _ (sx _ _ (hf.l q hq))),SqL.of upd_same,_,rfl,?_⟩
    cases h2:q.2 with
    | nil =>
     refine iteF ⟨sx.trans sE,⟨_,rfl⟩,?_⟩
     rw [if_neg (by decide),List.append_nil]
    | cons a l =>
     refine iteT ⟨_,rfl,sx.trans sE,⟨_,rfl⟩,?_⟩
     rw [if_pos (decide_eq_true (List.cons_ne_nil _ _)),List.map_append]
     rfl
  ·rintro us τ Hx Dg ⟨sx,_,rfl⟩ nDg
   rw [List.length_map,List.take_length]
   have hPx:=qk hP6 sx (Nat.le_refl _)
   have nGp:=jw hPx nDg
   have sG:=Same.add (o:=.lst ((hs.filter fun q=>decide (q.2≠[])).map fun q=>V.ref q.1)) nDg
   have bG:But p H Hx:=hf.bt.trans (But.same sx)
   have hsub:∀ q∈hs.filter (fun q=>decide (q.2≠[])),q∈hs/\q.2≠[]:=fun q hq=>⟨(List.mem_filter.mp hq).1,of_decide_eq_true (List.mem_filter.mp hq).2⟩
   refine k Dg _ _ (bG.trans (But.same sG)) (bG.free nGp nDg) (fun q hq=>(hf.nw q (hsub q hq).1).1) ⟨upd_same,fun q hq=>sG _ _ (sx _ _ (hf.l q (hsub q hq).1))⟩ ⟨?_,?_,?_,fun q hq=>(hsub q hq).2,?_⟩ (qk hPx sG (by omega))
   ·rw [vk];exact hpr.nodup_iff.mpr hcnd
   ·rw [vk];exact fun c hc=>hab c (hpr.mem_iff.mp hc)
   ·rw [vk,hpr.length_eq];omega
   ·have:=List.length_filter_le (fun q:Addr × List Nat=>decide (q.2≠[])) hs
    omega
end
end Lw
namespace Lw
open PySem L2 PyProof.Rows
theorem pick4:∀ j:Nat,j < 4->∃ z:Nat,([V.int 3,V.int 2,V.int 4,V.int 6]:List V)[j]? = some (.int (z:Int))/\z<=6
 | 0,_=>⟨3,rfl,by decide⟩
 | 1,_=>⟨2,rfl,by decide⟩
 | 2,_=>⟨4,rfl,by decide⟩
 | 3,_=>⟨6,rfl,by decide⟩
 | n+4,h=>by omega
theorem qjr {hs:Hs} {i j c:Nat} {q:Addr × List Nat} (e:hs[i]? = some q) (ec:q.2[j]? = some c):(flt hs)[(flt (hs.take i)).length+j]? = some c:=by
 obtain ⟨hil,e2⟩:=List.getElem?_eq_some_iff.mp e
 have e3:hs=hs.take i++q :: hs.drop (i+1):=by
  rw [<- e2,<- List.drop_eq_getElem_cons hil,List.take_append_drop]
 have e4:flt hs=flt (hs.take i)++(q.2++flt (hs.drop (i+1))):=by
  conv=>lhs;rw [e3]
  show ((hs.take i++q :: hs.drop (i+1)).map (·.2)).flatten=_
  rw [List.map_append,List.flatten_append]
  rfl
 rw [e4,List.getElem?_append_right (by omega),Nat.add_sub_cancel_left,List.getElem?_append_left (List.getElem?_eq_some_iff.mp ec).1]
 exact ec
theorem Zg {hs:Hs} {i:Nat} {q:Addr × List Nat} (e:hs[i]? = some q):flt (hs.take (i+1))=flt (hs.take i)++q.2:=by
 rw [List.take_add_one,e]
 show ((hs.take i++[q]).map (·.2)).flatten=_
 rw [List.map_append,List.flatten_append]
 show _++[q.2].flatten=_
 rw [show [q.2].flatten=q.2 from by simp]
theorem qjs {hs:Hs} {q:Addr × List Nat} (h:q∈hs) {c:Nat} (hc:c∈q.2):c∈flt hs:=List.mem_flatten.mpr ⟨q.2,List.mem_map_of_mem h,hc⟩
theorem qfw {hs:Hs} (h:HomOk hs) {q:Addr × List Nat} (hq:q∈hs):q.2.length<=8 :=
 Nat.le_trans (List.sublist_flatten_of_mem (List.mem_map_of_mem (f:=(·.2)) hq)).length_le h.few
section
variable {P:Program} {w:World} {K:W.Frag} {mg:Str->Option Value} {base:Heap}
def spWds:Sp:=fun vs H Q _=>∃ (p h:Addr) (hs:Hs) (b:Nat),vs=[.ref p,.ref h]/\PenAt H p b/\b<=800000/\Hom H h hs/\HomOk hs/\h≠p/\(∀ q∈hs,q.1≠p) /\
 ∀ (d:Addr) (us:List Rule) H',But p H H'->H d=none->H' d=some (.dK (kvw us))->Ws us->ltr us=flt hs->PenAt H' p (b+200)->Q (.ref d) H'
theorem scWds:FnScope ["_law_pen_here","_law_homes_here","_law_most","_law_words_here","_law_home","_law_shape","_law_sign"] ["_law_pen_here","_law_homes_here"] (defScope sWds):=⟨rfl,rfl,rfl,by decide +kernel,rfl,by decide +kernel,by decide +kernel⟩
theorem qhe:(["_law_k","_law_homes_here","_law_pen_here"]:List Str).Nodup:=by decide +kernel
theorem qhf:(["_law_some","_law_pen_here"]:List Str).Nodup:=by decide +kernel
theorem qjt {f fTak:Addr} {fd fdTak:FuncData} (F:Fun K "_law_words" "_law_words" sWds f fd)
  (GTak:FnOk P w K mg base CX0 1 fTak fdTak ["_law_pen_here","_law_size"] spTak)
  (gTak:Gf K mg "_law_take" fTak fdTak ["_law_pen_here","_law_size"])
  (hlen:mg "len" = none)
  (hrange:mg "range" = none)
  : FnOk P w K mg base CX0 2 f fd ["_law_pen_here","_law_homes_here"] spWds:=by
 refine F.ok scWds (fun vs H Q E h=>?_) (fun cdv A outer s H vs Q E hr h=>?_)
 ·obtain ⟨p,h,hs,b,rfl,_⟩:=h
  rfl
 ·obtain ⟨p,h,hs,b,rfl,hP,hb,hH,hO,nhp,nqp,k⟩:=h
  have hu:=zo hr
  refine ⟨_,(qd (qj (i:=2) scWds.nd rfl (Or.inl rfl) (pe_ix (qy K) (j0 (qa qf (qa qf (qa qf (qa qf qb))))) (qh GTak hr rfl gTak.m gTak.k gTak.b .nil pass0 (qa (pv 0) (qa qf qb))) (fun _ _=>rfl)))
   (qd (qj (i:=3) scWds.nd rfl (Or.inl rfl) zd)
   (qd (jy PassesOwn.never rfl (jk K (pv 1)) (qi (i:=4) scWds.nd rfl (Or.inl rfl)) (qd (yo (i:=5) (N':=["_law_k","_law_homes_here","_law_pen_here"]) (ix:=[none,some 1,some 0]) scWds.nd rfl rfl rfl rfl (jx rfl hrange (qa (qh GTak hr rfl gTak.m gTak.k gTak.b .nil pass0 (qa (pv 0) (qa (je vw (pv 2) qf) qb))) qb)) (fun _ _ _ _ _ _=>(qi (i:=0) qhe rfl (Or.inl rfl))) (fun _ _ _ _ _ _=>qv) (fun _ _ _ _ _ _=>(pe_ix (qy K) (pv 1) (qh GTak hr rfl gTak.m gTak.k gTak.b .nil pass0 (qa (pv 2) (qa (qm (jn K) (by rfl) hlen PySem.boot_len (qa (pv 1) qb)) qb))) (fun _ _=>rfl))))
   (qg (jy PassesOwn.never rfl (jk K (pv 4)) (qi (i:=6) scWds.nd rfl (Or.inl rfl)) (qg (vn hu (pv 3) (pv 6) (ju K PySem.F.plainAttrs_str PySem.F.slot_str_join PySem.F.type_str_join (js K) j9 (qa (qx (N':=["_law_some","_law_pen_here"]) (ix:=[none,some 0]) rfl rfl (jk K (pv 5)) (fun _ _ _ _ _ _=>(qi (i:=0) qhf rfl (Or.inl rfl))) (fun _ _ _ _ _ _=>qv) (fun _ _ _ _ _ _=>(pe_ix (qy K) (pv 0) (qh GTak hr rfl gTak.m gTak.k gTak.b .nil pass0 (qa (pv 1) (qa (qm (jn K) (by rfl) hlen PySem.boot_len (qa (pv 0) qb)) qb))) (fun _ _=>rfl)))) qb)) rfl))))))
   (qg (qp (pv 3)))))),?_⟩
  refine ⟨szl (show 4<=1000 by decide),fun L4 n4=>?_⟩
  have n4p:=jw hP n4
  have s4:=Same.add (o:=.lst [V.int 3,V.int 2,V.int 4,V.int 6]) n4
  refine ⟨_,rfl,p,b,_,rfl,qk hP s4 (Nat.le_refl _),by omega,by decide,by decide,fun z1 H1 z10 z11 hP1 e1=>?_⟩
  obtain ⟨j1,rfl⟩:=Int.eq_ofNat_of_zero_le z10
  obtain ⟨most,hz,m6⟩:=pick4 j1 (by omega)
  refine ⟨L4,_,_,_,rfl,rfl,SqL.of ((e1 L4 n4p).trans upd_same),atI_nat hz,?_⟩
  have b1:But p H H1:=(But.same s4).trans (vj e1)
  clear e1 hz z11
  dsimp only [gName]
  intro d nd
  have ndp:=jw hP1 nd
  have nd0:H d=none:=b1.free ndp nd
  have sd:=Same.add (o:=.dK []) nd
  have hd2:=upd_same (H:=H1) (a:=d) (o:=.dK [])
  have hP2:=qk hP1 sd (Nat.le_refl _)
  have b2:=b1.trans (But.same sd)
  revert hd2 hP2 b2
  generalize upd H1 d (.dK [])=H2
  intro hd2 hP2 b2
  have hh:∀ {Hx:Hp},But p H Hx->Hx h=some (.lst (hs.map fun q=>V.ref q.1)):=fun bx=>bx _ _ hH.h nhp
  have hl:∀ {Hx:Hp},But p H Hx->∀ q∈hs,Hx q.1=some (.lst (q.2.map sign)):=fun bx q hq=>bx _ _ (hH.l q hq) (nqp q hq)
  have hh2:=hh b2
  have hlen9:=hO.len
  have hfew:=hO.few
  have upd_:∀ {Hx:Hp} {z:List (Key × V)},But p H Hx->But p H (upd Hx d (.dK z)):=fun bx c o hc n=>by rw [qe (ne_of_none hc nd0)];exact bx c o hc n
  have elh:(hs.map fun q=>V.ref q.1).length=hs.length:=List.length_map _
  dsimp only [gName]
  refine seq_by (fun σ H'=>∃ (us:List Rule) (v4 v5 v6:Option V),But p H H'/\H' d=some (.dK (kvw us))/\Wp (flt hs) (flt hs).length us/\PenAt H' p (b+200)/\σ=[some (.ref p),some (.ref h),some (.int (most:Int)),some (.ref d),v4,v5,v6]) (fun nx hn=>?_) ?_
  ·refine ⟨_,rfl,h,rfl,⟨_,SqL.of hh2⟩,?_⟩
   refine for_by (sure_list (xs:=hs.map fun q=>V.ref q.1)) (fun i σ H'=>∃ (us:List Rule) (v4 v5 v6:Option V),But p H H'/\H' d=some (.dK (kvw us))/\Wp (flt hs) (flt (hs.take i)).length us/\PenAt H' p (b+1+8 * i+8 * (flt (hs.take i)).length)/\σ=[some (.ref p),some (.ref h),some (.int (most:Int)),some (.ref d),v4,v5,v6])
    ⟨[],_,_,_,b2,hd2,⟨rfl,fun q hq=>(by cases hq)⟩,hP2,rfl⟩ ?_ ?_ ?_
   ·rintro i σ H' hi ⟨us,v4,v5,v6,b',_⟩
    exact SqL.of (hh b')
   ·rintro i y σ H3 hy ⟨us,v4,v5,v6,b3,hd3,hW,hP3,rfl⟩
    rw [List.getElem?_map] at hy
    cases eq:hs[i]? with
    | none=>rw [eq] at hy;cases hy
    | some q =>
     rw [eq] at hy
     cases hy
     have hq:=List.mem_of_getElem? eq
     have hil:i < hs.length:=(List.getElem?_eq_some_iff.mp eq).1
     have hfl:(flt (hs.take (i+1))).length=(flt (hs.take i)).length+q.2.length:=by rw [Zg eq,List.length_append]
     have hfi:(flt (hs.take (i+1))).length<=8:=by
      have e:=congrArg (fun l:Hs=>(flt l).length) (List.take_append_drop (i+1) hs)
      simp only [flt,List.map_append,List.flatten_append,List.length_append] at e hfew ⊢
      omega
     refine ⟨_,rfl,_,rfl,_,_,rfl,rfl,p,_,_,rfl,hP3,by omega,by omega,by omega,fun v H4 v0 v1 hP4 e4=>?_⟩
     obtain ⟨m,rfl⟩:=Int.eq_ofNat_of_zero_le v0
     have hm6:m<=6:=by omega
     refine ⟨_,rfl,by omega,by omega,?_⟩
     have b4:=b3.trans (vj e4)
     have hd4:=(e4 d ndp).trans hd3
     refine qu (τ0:=[none,some (.ref h),some (.ref p)]) (ji (lo:=0) (n:=Int.toNat (m:Int))) (by rw [rngV_length];omega)
      (fun i' ys τ Hx=>But p H Hx/\Hx d=some (.dK (kvw us))/\PenAt Hx p (b+1+8 * i+8 * (flt (hs.take i)).length+1+i')/\(∃ x,τ=[x,some (.ref h),some (.ref p)])/\∃ sh:Hs,ys=(sh.map fun q=>V.ref q.1)/\sh.length=i'/\∀ q∈sh,q∈hs)
      ⟨b4,hd4,hP4,⟨_,rfl⟩,[],rfl,rfl,fun q hq=>(by cases hq)⟩ ?_ ?_ ?_
     ·rintro i' ys τ Hx hi ⟨_,_,_,_,sh,rfl,hw,_⟩
      exact ⟨trivial,by rw [List.length_map,hw];exact Nat.le_refl _⟩
     ·rintro i' x ys τ Hx hx ⟨bx,hdx,hPx,⟨x0,rfl⟩,sh,rfl,hw,hc⟩
      obtain ⟨hi,rfl⟩:=Vt hx
      have hi':i' < m:=by simpa using hi
      refine ⟨_,rfl,_,rfl,_,rfl,h,_,rfl,.inl (SqL.of (hh bx)),p,_,_,rfl,hPx,by omega,by rw [elh];omega,by rw [elh];omega,fun v H5 v0 v1 hP5 e5=>?_⟩
      obtain ⟨j,rfl⟩:=Int.eq_ofNat_of_zero_le v0
      rw [elh] at v1
      have hj:j < hs.length:=by omega
      have b5:=bx.trans (vj e5)
      have ej:(hs.map fun q=>V.ref q.1)[j]? = some (V.ref hs[j].1):=by rw [List.getElem?_map,List.getElem?_eq_getElem hj];rfl
      refine ⟨h,_,_,_,rfl,rfl,SqL.of (hh b5),atI_nat ej,b5,(e5 d ndp).trans hdx,hP5,⟨_,rfl⟩,sh++[hs[j]],by rw [List.map_append];rfl,by rw [List.length_append,hw];rfl,fun q h=>?_⟩
      rcases List.mem_append.mp h with z | z
      ·exact hc q z
      ·rw [List.mem_singleton.mp z];exact List.getElem_mem hj
     rintro ys τ Hx S ⟨bx,hdx,hPx,_,sh,rfl,hw,hsh⟩ nS
     rw [rngV_length] at hw hPx
     have hw:sh.length=m:=by simpa using hw
     have nSp:=jw hPx nS
     have nSd:S≠d:=(ne_of_none hdx nS).symm
     have sS:=Same.add (o:=.lst (sh.map fun q=>V.ref q.1)) nS
     have b5:=bx.trans (But.same sS)
     have hd5:=sS _ _ hdx
     have hS5:=upd_same (H:=Hx) (a:=S) (o:=.lst (sh.map fun q=>V.ref q.1))
     have hP5:PenAt (upd Hx S (.lst (sh.map fun q=>V.ref q.1))) p (b+1+8 * i+8 * (flt (hs.take i)).length+8):=qk hPx sS (by simp only [Int.toNat_natCast];omega)
     revert b5 hd5 hS5 hP5
     generalize upd Hx S (.lst (sh.map fun q=>V.ref q.1))=H5
     intro b5 hd5 hS5 hP5
     refine ⟨_,rfl,q.1,rfl,⟨_,SqL.of (hl b5 q hq)⟩,?_⟩
     refine for_by (sure_list (xs:=q.2.map sign)) (fun j σ H'=>∃ (us:List Rule) (v6:Option V),But p H H'/\H' S=some (.lst (sh.map fun q=>V.ref q.1))/\H' d=some (.dK (kvw us))/\Wp (flt hs) ((flt (hs.take i)).length+j) us/\PenAt H' p (b+1+8 * i+8 * (flt (hs.take i)).length+8+8 * j)/\σ=[some (.ref p),some (.ref h),some (.int (most:Int)),some (.ref d),some (.ref q.1),some (.ref S),v6])
      ⟨us,_,b5,hS5,hd5,hW,hP5,rfl⟩ ?_ ?_ ?_
     ·rintro j σ H' hj ⟨us,v6,b',_⟩
      exact SqL.of (hl b' q hq)
     ·rintro j y σ H6 hy ⟨us,v6,b6,hS6,hd6,hW,hP6,rfl⟩
      rw [List.getElem?_map] at hy
      cases ec:q.2[j]? with
      | none=>rw [ec] at hy;cases hy
      | some c =>
       rw [ec] at hy
       cases hy
       have hjl:j < q.2.length:=(List.getElem?_eq_some_iff.mp ec).1
       refine ⟨rfl,_,rfl,S,rfl,⟨_,SqL.of hS6⟩,?_⟩
       refine qu (τ0:=[none,some (.ref p)]) (sure_list (xs:=sh.map fun q=>V.ref q.1)) (by rw [List.length_map];omega)
        (fun i' ys τ Hy=>But p H Hy/\Hy S=some (.lst (sh.map fun q=>V.ref q.1))/\Hy d=some (.dK (kvw us))/\PenAt Hy p (b+1+8 * i+8 * (flt (hs.take i)).length+8+8 * j+i')/\(∃ x,τ=[x,some (.ref p)])/\∃ w:List Nat,ys=w.map sign/\w.length=i'/\∀ c∈w,c∈flt hs)
        ⟨b6,hS6,hd6,hP6,⟨_,rfl⟩,[],rfl,rfl,fun q hq=>(by cases hq)⟩ ?_ ?_ ?_
       ·rintro i' ys τ Hy hi ⟨_,hSy,_,_,_,w,rfl,hw,_⟩
        exact ⟨SqL.of hSy,by rw [List.length_map,hw];exact Nat.le_refl _⟩
       ·rintro i' x ys τ Hy hx ⟨by_,hSy,hdy,hPy,⟨x0,rfl⟩,w,rfl,hwl,hc⟩
        rw [List.getElem?_map] at hx
        cases er:sh[i']? with
        | none=>rw [er] at hx;cases hx
        | some r =>
         rw [er] at hx
         cases hx
         have hr':=hsh r (List.mem_of_getElem? er)
         have hil':i' < sh.length:=(List.getElem?_eq_some_iff.mp er).1
         have hr8:=qfw hO hr'
         have hr0:0 < r.2.length:=List.length_pos_iff.mpr (hO.ne r hr')
         have elr:(r.2.map sign).length=r.2.length:=List.length_map _
         refine ⟨_,rfl,_,rfl,_,rfl,r.1,_,rfl,.inl (SqL.of (hl by_ r hr')),p,_,_,rfl,hPy,by omega,by rw [elr];omega,by rw [elr];omega,fun v H7 v0 v1 hP7 e7=>?_⟩
         obtain ⟨jj,rfl⟩:=Int.eq_ofNat_of_zero_le v0
         rw [elr] at v1
         have hjj:jj < r.2.length:=by omega
         have b7:=by_.trans (vj e7)
         have ej:(r.2.map sign)[jj]? = some (sign r.2[jj]):=by rw [List.getElem?_map,List.getElem?_eq_getElem hjj];rfl
         refine ⟨r.1,_,_,_,rfl,rfl,SqL.of (hl b7 r hr'),atI_nat ej,b7,(e7 S nSp).trans hSy,(e7 d ndp).trans hdy,hP7,⟨_,rfl⟩,w++[r.2[jj]],by rw [List.map_append];rfl,by rw [List.length_append,hwl];rfl,fun c h=>?_⟩
         rcases List.mem_append.mp h with z | z
         ·exact hc c z
         ·rw [List.mem_singleton.mp z];exact qjs hr' (List.getElem_mem hjj)
       rintro ys τ Hy D ⟨by_,hSy,hdy,hPy,_,w,rfl,hwl,hwc⟩ nD
       rw [List.length_map] at hwl hPy
       have ey:w.map sign=(w.map one).map V.str:=by rw [List.map_map];rfl
       have sD:=Same.add (o:=.lst (w.map sign)) nD
       refine ⟨_,D,w.map one,rfl,rfl,(by rw [<- ey];exact SqL.of upd_same),?_,?_⟩
       ·rw [show ((w.map one).map (·.length)).sum=w.length from yc w]
        show _+_ * 0<=_
        omega
       rw [show Txt.join (Str.ofString "") (w.map one)=⟨w.toArray⟩ from jv _]
       have hWlen:=hW.len
       obtain ⟨hW',ePut⟩:=hW.put hO.nd (qjr eq ec) (show w.length<=6 by omega) hwc
       refine ⟨_,rfl,_,rfl,d,_,rfl,DPut.k (k:=kc c) (sD _ _ hdy) (small1000 (by rw [List.length_map];omega)),?_⟩
       rw [show putK (kvw us) (kc c) (V.str ⟨w.toArray⟩)=kvw (us++[(c,w)]) from ePut]
       refine ⟨us++[(c,w)],_,upd_ (by_.trans (But.same sD)),by rw [qe nSd];exact sD _ _ hSy,upd_same,hW',?_,rfl⟩
       exact ((qk hPy sD (Nat.le_refl _)).other (qe ndp.symm)).mono (by omega)
     ·rintro σ H6 ⟨us,v6,b6,hS6,hd6,hW,hP6,rfl⟩
      rw [List.length_map] at hW hP6
      refine ⟨us,_,_,_,b6,hd6,by rw [hfl];exact hW,hP6.mono (by rw [hfl];omega),rfl⟩
   ·rintro σ H3 ⟨us,v4,v5,v6,b3,hd3,hW,hP3,rfl⟩
    rw [elh,List.take_length] at hW hP3
    exact hn _ _ ⟨us,v4,v5,v6,b3,hd3,hW,hP3.mono (by omega),rfl⟩
  rintro σ H3 ⟨us,v4,v5,v6,b3,hd3,hW,hP3,rfl⟩
  obtain ⟨hWs,el⟩:=hW.ws hO.nd hfew hO.ab
  exact ⟨_,rfl,k d us H3 b3 nd0 hd3 hWs el hP3⟩
end
end Lw
namespace Lw
open PySem L2
abbrev DictI (H:Hp) (d:Addr) (rs:List Rule) (ns:List Int):Prop:=H d=some (.dK (dkI (ltr rs) ns))
structure DicsAt (H:Hp) (l:Addr) (ls:List Addr) (rs:List Rule) (f:Nat->List Int) (m:Nat):Prop where
 top:H l=some (.lst (ls.map V.ref))
 len:ls.length=m
 at_:∀ (i:Nat) a,ls[i]? = some a->DictI H a rs (f i)
theorem DicsAt.mono {H H':Hp} {l:Addr} {ls:List Addr} {rs:List Rule} {f:Nat->List Int} {m:Nat} (t:DicsAt H l ls rs f m) (s:Same H H'):DicsAt H' l ls rs f m:=⟨s _ _ t.top,t.len,fun i a e=>s _ _ (t.at_ i a e)⟩
theorem qew {first:List Nat} {rs:List Rule} (hG:Good first rs) (ns:List Int) (hl:ns.length=rs.length) (x:List Nat):(x.map (lk (ltr rs) ns)).sum=dot (c0 rs x) ns:=by
 rw [qc5 x hG.nd (by rw [hl];unfold ltr;rw [List.length_map]),qgp]
theorem qex (rs:List Rule) (ns:List Int):stepL (tabI rs) ns=rs.map fun q=>dot (c0 rs q.2) ns:=by
 unfold stepL tabI
 rw [List.map_map]
 rfl
theorem thaw {H H':Hp} {d:Addr} {o u:HO} (s:Same (upd H d o) H') (e:H d=some u):Same H (upd H' d u):=fun b v q=>by
 by_cases z:b=d
 ·subst z
  rw [e] at q
  cases q
  exact upd_same
 ·rw [qe z]
  exact s b v (by rw [qe z];exact q)
theorem qa3 {H:Hp} {d:Addr} {ob:Obj} {u u':HO} (e:H d=some (.frz ob u)):TupS H (upd H d u'):=fun c xs q=>by
 have n:c≠d:=fun z=>by rw [z,e] at q;cases q
 rw [qe n]
 exact q
theorem qdh (n:Nat) (x:V):cutV (List.replicate (n+1) x) none (some (-1))=List.replicate n x:=by
 unfold cutV
 have e1:HT.sIx (List.replicate (n+1) x).length 0 none=0:=rfl
 have e2:HT.sIx (List.replicate (n+1) x).length (List.replicate (n+1) x).length (some (-1))=n:=by
  rw [List.length_replicate]
  unfold HT.sIx
  simp only
  rw [if_pos (by decide)]
  omega
 rw [e1,e2,List.drop_zero,List.take_replicate]
 congr 1
 omega
section
variable {P:Program} {w:World} {K:W.Frag} {mg:Str->Option Value} {base:Heap}
def spNpl:Sp:=fun vs H Q _=>∃ (n:Nat) (m:Int),vs=[.int (n:Int),.int m]/\(n:Int)<=m/\Q .non H
theorem scNpl:FnScope ["place","last"] ["place","last"] (defScope sNpl):=⟨rfl,rfl,rfl,by decide +kernel,rfl,by decide +kernel,by decide +kernel⟩
theorem qju {f fWin:Addr} {fd fdWin:FuncData} (F:Fun K "need_place" "need_place" sNpl f fd)
  (GWin:FnOk P w K mg base CX0 2 fWin fdWin ["thing","least","most"] spWin)
  (gWin:Gf K mg "is_within" fWin fdWin ["thing","least","most"])
  : FnOk P w K mg base CX0 3 f fd ["place","last"] spNpl:=by
 refine F.ok scNpl (fun vs H Q E h=>?_) (fun cdv A outer s H vs Q E hr h=>?_)
 ·obtain ⟨n,m,rfl,_⟩:=h
  rfl
 ·obtain ⟨n,m,rfl,hn,k⟩:=h
  refine ⟨_,(qg (vm (Ji (yr (qh GWin hr rfl gWin.m gWin.k gWin.b .nil pass0 (qa (pv 0) (qa qf (qa (pv 1) qb)))))) ya jh)),?_⟩
  refine ⟨_,rfl,_,rfl,(n:Int),0,m,rfl,by omega,by omega,_,rfl,?_⟩
  exact iteF k
def spTsm:Sp:=fun vs H Q _=>∃ (d:Addr) (rs:List Rule) (ns:List Int) (x:List Nat),vs=[tx x,.ref d]/\DictI H d rs ns/\ns.length=rs.length/\x.length<=1000/\(∀ c∈x,c∈ltr rs)/\∀ H',Same H H'->Q (.int (x.map (lk (ltr rs) ns)).sum) H'
theorem scTsm:FnScope ["text","worths"] ["text","worths"] (defScope sTsm):=⟨rfl,rfl,rfl,by decide +kernel,rfl,by decide +kernel,by decide +kernel⟩
theorem qhg:(["letter","worths"]:List Str).Nodup:=by decide +kernel
theorem qjv {f:Addr} {fd:FuncData} (F:Fun K "text_sum" "text_sum" sTsm f fd)
  (hsum:mg "sum" = none)
  : FnOk P w K mg base CX0 1 f fd ["text","worths"] spTsm:=by
 refine F.ok scTsm (fun vs H Q E h=>?_) (fun cdv A outer s H vs Q E hr h=>?_)
 ·obtain ⟨d,rs,ns,x,rfl,_⟩:=h
  rfl
 ·obtain ⟨d,rs,ns,x,rfl,hD,hl,hx,hin,k⟩:=h
  have hu:=zo hr
  refine ⟨_,(qg (qp (qm (yp K rfl) (by rfl) hsum (by first | exact PySem.boot_sum | decide +kernel) (qa (qx (N':=["letter","worths"]) (ix:=[none,some 1]) rfl rfl (vh (pv 0)) (fun _ _ _ _ _ _=>(qi (i:=0) qhg rfl (Or.inl rfl))) (fun _ _ _ _ _ _=>qv) (fun _ _ _ _ _ _=>(qq hu (pv 1) (pv 0) (fun _ _=>rfl)))) qb)))),?_⟩
  have ll:ns.length=(ltr rs).length:=by rw [hl];unfold ltr;rw [List.length_map]
  refine ⟨_,rfl,⟨x.toArray⟩,rfl,?_⟩
  refine ze (Q:=fun y Ha=>rSum K [y] Ha Q) (τ0:=[none,some (.ref d)]) jr (by rw [List.length_map];show x.length<=_;omega)
   (fun i ys τ H2=>H2=H/\(∃ v,τ=[v,some (.ref d)])/\ys=((x.take i).map (lk (ltr rs) ns)).map V.int) ⟨rfl,⟨_,rfl⟩,rfl⟩ ?_ ?_ ?_
  ·rintro i ys τ H2 hi ⟨rfl,_,rfl⟩
   refine ⟨trivial,?_⟩
   rw [List.length_map,List.length_map,List.length_take]
   omega
  ·rintro i y ys τ H2 hy ⟨rfl,⟨v,rfl⟩,rfl⟩
   have hy':(x.map sign)[i]? = some y:=hy
   rw [List.getElem?_map] at hy'
   cases e:x[i]? with
   | none=>rw [e] at hy';cases hy'
   | some c =>
    rw [e] at hy'
    cases hy'
    have hg:=DGet.k (k:=(Sum.inr (one c):Key)) hD
    rw [Yr ll (hin c (List.mem_of_getElem? e))] at hg
    refine ⟨_,rfl,_,rfl,d,_,rfl,hg,rfl,⟨_,rfl⟩,?_⟩
    rw [jc (lk (ltr rs) ns) e,List.map_append]
    rfl
  ·rintro ys τ H2 D ⟨rfl,_,rfl⟩ hD2
   have ew:((⟨x.toArray⟩:Str).cps.toList.map sign).length=x.length:=by simp
   rw [ew,take_all]
   exact ⟨D,_,rfl,SqL.of upd_same,k _ (Same.add hD2)⟩
def spWba:Sp:=fun vs H Q _=>∃ (t:Addr) (first:List Nat) (rs:List Rule) (n:Nat),vs=[.ref t,.int (n:Int)]/\BookAt H t first rs/\Good first rs/\n<=600 /\
 ∀ l dw H',Same H H'->H l=none->H dw=none->H' l=some (.lst (List.replicate (n+1) (V.ref dw)))->H' dw=some (.dK (kvw rs))->Q (.ref l) H'
theorem scWba:FnScope ["book","age"] ["book","age"] (defScope sWba):=⟨rfl,rfl,rfl,by decide +kernel,rfl,by decide +kernel,by decide +kernel⟩
theorem qjw {f:Addr} {fd:FuncData} (F:Fun K "words_by_age" "words_by_age" sWba f fd)
  (hdict:mg "dict" = none)
  : FnOk P w K mg base CX0 1 f fd ["book","age"] spWba:=by
 refine F.ok scWba (fun vs H Q E h=>?_) (fun cdv A outer s H vs Q E hr h=>?_)
 ·obtain ⟨t,first,rs,n,rfl,_⟩:=h
  rfl
 ·obtain ⟨t,first,rs,n,rfl,hB,hG,hn,k⟩:=h
  refine ⟨_,(qg (qp (je qii (j0 (qa (jb (yb rfl) (by rfl) hdict (by first | exact PySem.boot_dict | decide +kernel) (qa (pe_ix (jd K) (pv 0) qf (fun _ _=>rfl)) qb)) qb)) (je vw (pv 1) qf)))),?_⟩
  have hfew:=hG.few
  obtain ⟨r,ps,b1,b2,b3⟩:=hB.ex
  refine ⟨_,rfl,t,_,_,_,rfl,rfl,SqT.of b1,atI_nat (j:=1) rfl,r,ps,kvw rs,rfl,b2,J5 b3,by rw [Zb];exact Jx hG.nd,by rw [List.length_map];omega,fun dw ndw=>?_⟩
  refine ⟨(by show 1<=sizeLine;decide),fun l0 nl0=>?_⟩
  refine ⟨_,rfl,_,_,rfl,rfl,?_⟩
  have eN:((n:Int)+1).toNat=n+1:=by omega
  refine ⟨l0,_,_,rfl,rfl,upd_same,by omega,by omega,?_,fun l nl=>?_⟩
  ·rw [eN]
   show 1 * (n+1)<=sizeLine
   exact Nat.le_of_lt (small1000 (by omega))
  ·have s1:Same H (upd (upd H dw (.dK (kvw rs))) l0 (.lst [V.ref dw])):=(Same.add ndw).trans (Same.add nl0)
   have nld:l≠dw:=fun z=>by
    rw [z,qe (ne_of_none (upd_same (H:=H) (a:=dw) (o:=.dK (kvw rs))) nl0),upd_same] at nl
    cases nl
   refine k l dw _ (s1.trans (Same.add nl)) (s1.free nl) ndw ?_ ?_
   ·rw [upd_same,eN]
    simp
   ·exact jm (jm upd_same (ne_of_none (upd_same (H:=H) (a:=dw) (o:=.dK (kvw rs))) nl0)) nld.symm
def spLsm:Sp:=fun vs H Q _=>∃ (l dw d:Addr) (first:List Nat) (rs:List Rule) (n:Nat) (ns:List Int),vs=[.ref l,.ref d]/\Good first rs/\n<=600/\H l=some (.lst (List.replicate (n+1) (V.ref dw)))/\H dw=some (.dK (kvw rs))/\DictI H d rs ns/\d≠dw/\ns.length=rs.length /\
 ∀ lo ls H',Same H H'->H lo=none->(∀ x∈ls,x=d\/H x=none)->DicsAt H' lo ls rs (sumN (tabI rs) ns) (n+1)->Q (.ref lo) H'
theorem scLsm:FnScope ["words","worths","told","spelling"] ["words","worths"] (defScope sLsm):=⟨rfl,rfl,rfl,by decide +kernel,rfl,by decide +kernel,by decide +kernel⟩
theorem qhh:(["letter","spelling","told"]:List Str).Nodup:=by decide +kernel
theorem qjx {f fTsm:Addr} {fd fdTsm:FuncData} (F:Fun K "letter_sums" "letter_sums" sLsm f fd)
  (GTsm:FnOk P w K mg base CX0 1 fTsm fdTsm ["text","worths"] spTsm)
  (gTsm:Gf K mg "text_sum" fTsm fdTsm ["text","worths"])
  (hdict:mg "dict" = none)
  (hreversed:mg "reversed" = none)
  : FnOk P w K mg base CX0 2 f fd ["words","worths"] spLsm:=by
 refine F.ok scLsm (fun vs H Q E h=>?_) (fun cdv A outer s H vs Q E hr h=>?_)
 ·obtain ⟨l0,dw,d,first,rs,n,ns,rfl,_⟩:=h
  rfl
 ·obtain ⟨l0,dw,d,first,rs,n,ns,rfl,hG,hn,h0,hw,hD,hdw,hl,k⟩:=h
  have hu:=zo hr
  refine ⟨_,(qd (qj (i:=2) scLsm.nd rfl (Or.inr rfl) (j0 (qa (pv 1) qb)))
   (qd (jy PassesOwn.never rfl (qgf K rfl hreversed (qa (zb (V3 K) (pv 0) yk (po_some (Yg Jk qf))) qb)) (qi (i:=3) scLsm.nd rfl (Or.inr rfl)) (qg (vd (ju K PySem.F.plainAttrs_list PySem.F.slot_list_append PySem.F.type_list_append vg (pv 2) (qa (jb (j6 K rfl hu) (by rfl) hdict (by first | exact PySem.boot_dict | decide +kernel) (qa (qfj (qx (N':=["letter","spelling","told"]) (ix:=[none,some 3,some 2]) rfl rfl (qcn (pv 3)) (fun _ _ _ _ _ _=>(qi (i:=0) qhh rfl (Or.inl rfl))) (fun _ _ _ _ _ _=>qv) (fun _ _ _ _ _ _=>(vt (qa (pv 0) (qa (qh GTsm hr rfl gTsm.m gTsm.k gTsm.b .nil pass0 (qa (qq hu (pv 1) (pv 0) (fun _ _=>rfl)) (qa (pe_ix (qy K) (pv 2) (Yg Jk qf) (fun _ _=>rfl)) qb))) qb)))))) qb)) qb)))))
   (qg (qp (pv 2))))),?_⟩
  have hfew:=hG.few
  have lsn:∀ j,(sumN (tabI rs) ns j).length=rs.length:=qen (vc rs) hl
  refine ⟨_,rfl,(by show 1<=sizeLine;decide),fun l nl=>?_⟩
  have nll:l0≠l:=ne_of_none h0 nl
  have ndl:d≠l:=ne_of_none hD nl
  have nwl:dw≠l:=ne_of_none hw nl
  refine ⟨_,rfl,_,rfl,_,rfl,l0,_,rfl,SqL.of (jm h0 nll),fun p np=>?_⟩
  have npl:l≠p:=ne_of_none (upd_same (H:=H) (a:=l) (o:=.lst [V.ref d])) np
  refine ⟨p,List.replicate n (V.ref dw),rfl,SqL.of (by rw [upd_same];exact congrArg (fun z=>some (HO.lst z)) (qdh n (V.ref dw))),?_⟩
  refine for_by (qea (xs:=List.replicate n (V.ref dw))) (fun i σ H5=>∃ (ls:List Addr) (v3:Option V),σ=[some (.ref l0),some (.ref d),some (.ref l),v3]/\Same H H5/\H5 p=some (.lst (List.replicate n (V.ref dw)))/\l ∉ ls/\(∀ x∈ls,x=d\/H x=none)/\DicsAt H5 l ls rs (sumN (tabI rs) ns) (i+1)) ?_ ?_ ?_ ?_
  ·refine ⟨[d],none,rfl,(Same.add nl).trans (Same.add np),by rw [upd_same];exact congrArg (fun z=>some (HO.lst z)) (qdh n (V.ref dw)),(fun z=>ndl (List.mem_singleton.mp z).symm),fun x hx=>.inl (List.mem_singleton.mp hx),⟨jm upd_same npl,rfl,fun i a e1=>?_⟩⟩
   cases i with
   | succ i=>simp at e1
   | zero =>
    cases e1
    exact (Same.add np) _ _ (jm hD ndl)
  ·rintro i σ H5 hi ⟨ls,v3,rfl,s5,hp5,_⟩
   exact SqL.of hp5
  ·rintro j x σ H5 hx ⟨ls,v3,rfl,s5,hp5,hlo,hfr,hTl⟩
   have hx':x=V.ref dw/\j < n:=by
    rw [List.reverse_replicate,List.getElem?_replicate] at hx
    split at hx
    ·rename_i hj
     exact ⟨(Option.some.inj hx).symm,hj⟩
    ·cases hx
   obtain ⟨rfl,hjn⟩:=hx'
   have ln:(ls.map V.ref).length=j+1:=by rw [List.length_map,hTl.len]
   obtain ⟨a,ha⟩:∃ a,ls[j]? = some a:=⟨ls[j]'(by rw [hTl.len];omega),List.getElem?_eq_getElem _⟩
   have hv:=hTl.at_ j a ha
   have naw:a≠dw:=by
    rcases hfr a (List.mem_of_getElem? ha) with z | z
    ·rw [z];exact hdw
    ·exact (ne_of_none hw z).symm
   have hw5:=s5 _ _ hw
   refine ⟨_,rfl,.inl ⟨rfl,_,SqL.of hTl.top⟩,dw,kvw rs,hw5,fun ob=>?_⟩
   refine ⟨_,rfl,dw,ob,kvw rs,rfl,upd_same,?_⟩
   have ek:((kvw rs).map fun p=>kV p.1).length=rs.length:=by rw [List.length_map,List.length_map]
   refine qu (τ0:=[none,some (V.ref dw),some (V.ref l)]) (Z2 (d:=dw) (ob:=ob) (kvs:=kvw rs)) (by rw [ek];omega)
    (fun i ys τ H6=>Same (upd H5 dw (.frz ob (.dK (kvw rs)))) H6/\(∃ v,τ=[v,some (.ref dw),some (.ref l)])/\∃ ps':List Addr,ys=ps'.map V.ref/\ps'.length=i/\PairsAt H6 ps' (dkI ((ltr rs).take i) ((rs.map fun q=>dot (c0 rs q.2) (sumN (tabI rs) ns j)).take i)))
    ⟨Same.refl _,⟨_,rfl⟩,[],rfl,rfl,.nil⟩ ?_ ?_ ?_
   ·rintro i ys τ H6 hi ⟨s6,_,ps',rfl,lp,_⟩
    exact ⟨s6 _ _ upd_same,by rw [List.length_map];omega⟩
   ·rintro i x ys τ H6 hx ⟨s6,⟨v,rfl⟩,ps',rfl,lp,hP⟩
    rw [List.map_map,List.getElem?_map] at hx
    cases e1:rs[i]? with
    | none=>rw [e1] at hx;cases hx
    | some q =>
     obtain ⟨c,w'⟩:=q
     rw [e1] at hx
     cases hx
     have hm:=List.mem_of_getElem? e1
     have hg:DGet H6 dw (sign c) (some (tx w')):=.inl ⟨kvw rs,Sum.inr (one c),.inr ⟨ob,s6 _ _ upd_same⟩,rfl,(Yv hG.nd hm).symm⟩
     have hT6:=s6 _ _ (jm (o:=.frz ob (.dK (kvw rs))) hTl.top nwl.symm)
     refine ⟨_,rfl,_,rfl,_,rfl,dw,_,rfl,hg,_,rfl,_,rfl,l,_,_,_,rfl,rfl,SqL.of hT6,atI_last ln (by rw [List.getElem?_map,ha];rfl),?_⟩
     refine ⟨a,rs,_,w',rfl,s6 _ _ (jm hv naw),lsn j,by have:=hG.wl _ hm;simp only at this;omega,fun c' hc'=>hG.win _ hm c' hc',fun H7 s7=>⟨(by show 2<=sizeLine;decide),fun T hT=>?_⟩⟩
     have s8:Same H6 (upd H7 T (.tup [sign c,V.int (w'.map (lk (ltr rs) (sumN (tabI rs) ns j))).sum])):=s7.trans (Same.add hT)
     refine ⟨s6.trans s8,⟨_,rfl⟩,ps'++[T],by rw [List.map_append];rfl,by rw [List.length_append,lp];rfl,?_⟩
     have h1:(ltr rs)[i]? = some c:=by unfold ltr;rw [List.getElem?_map,e1];rfl
     have h2:(rs.map fun q=>dot (c0 rs q.2) (sumN (tabI rs) ns j))[i]? = some (dot (c0 rs w') (sumN (tabI rs) ns j)):=by rw [List.getElem?_map,e1];rfl
     have lt:((rs.map fun q=>dot (c0 rs q.2) (sumN (tabI rs) ns j)).take i).length=((ltr rs).take i).length:=by unfold ltr;rw [List.length_take,List.length_take,List.length_map,List.length_map]
     rw [List.take_add_one,List.take_add_one,h1,h2]
     show PairsAt _ _ (dkI (_++[c]) (_++[dot (c0 rs w') (sumN (tabI rs) ns j)]))
     rw [<- qaj lt]
     refine zg ?_ (j2 (TupS.same s8) hP)
     rw [upd_same,qew hG _ (lsn j)]
     rfl
   ·rintro ys τ H6 D0 ⟨s6,_,ps',rfl,lp,hP⟩ hD0
    rw [ek] at hP
    have t1:(ltr rs).take rs.length=ltr rs:=by
     have:=take_all (ltr rs)
     unfold ltr at this ⊢
     rwa [List.length_map] at this
    have t2:(rs.map fun q=>dot (c0 rs q.2) (sumN (tabI rs) ns j)).take rs.length=sumN (tabI rs) ns (j+1):=by
     have:=take_all (rs.map fun q=>dot (c0 rs q.2) (sumN (tabI rs) ns j))
     rw [List.length_map] at this
     rw [this]
     exact (qex rs _).symm
    rw [t1,t2] at hP
    have ll:(sumN (tabI rs) ns (j+1)).length=(ltr rs).length:=by rw [lsn];unfold ltr;rw [List.length_map]
    have lr:(ltr rs).length=rs.length:=by unfold ltr;rw [List.length_map]
    have f6:=s6 _ _ (upd_same (H:=H5) (a:=dw) (o:=.frz ob (.dK (kvw rs))))
    have nDw:D0≠dw:=(ne_of_none f6 hD0).symm
    have f7:(upd H6 D0 (.lst (ps'.map V.ref))) dw=some (.frz ob (.dK (kvw rs))):=jm f6 nDw.symm
    have sC:Same H5 (upd (upd H6 D0 (.lst (ps'.map V.ref))) dw (.dK (kvw rs))):=thaw (s6.trans (Same.add hD0)) hw5
    refine ⟨f7,D0,ps',_,rfl,SqL.of (jm upd_same nDw),j2 ((TupS.same (Same.add hD0)).trans (qa3 f7)) hP,by rw [Jc ll];exact Jx hG.nd,by rw [qc4 ll,lr];omega,fun dn hdn=>?_⟩
    have nel:dn≠l:=(ne_of_none (sC _ _ hTl.top) hdn).symm
    have sD:Same H5 (upd (upd (upd H6 D0 (.lst (ps'.map V.ref))) dw (.dK (kvw rs))) dn (.dK (dkI (ltr rs) (sumN (tabI rs) ns (j+1))))):=sC.trans (Same.add hdn)
    refine ⟨l,_,_,rfl,rfl,sD _ _ hTl.top,small1000 (by rw [ln];omega),ls++[dn],_,rfl,fun c o hc=>?_,?_,?_,?_,?_⟩
    ·exact jm (sD _ _ (s5 _ _ hc)) (ne_of_none hc nl)
    ·exact jm (sD _ _ hp5) npl.symm
    ·intro z
     rcases List.mem_append.mp z with z | z
     ·exact hlo z
     ·exact nel (List.mem_singleton.mp z).symm
    ·intro x hx
     rcases List.mem_append.mp hx with z | z
     ·exact hfr x z
     ·rw [List.mem_singleton.mp z]
      exact .inr (s5.free (sC.free hdn))
    ·refine ⟨by rw [upd_same,List.map_append];rfl,by rw [List.length_append,hTl.len];rfl,fun i a' e1=>?_⟩
     by_cases hi:i < ls.length
     ·rw [List.getElem?_append_left hi] at e1
      exact jm (sD _ _ (hTl.at_ i a' e1)) fun z=>hlo (by rw [<- z];exact List.mem_of_getElem? e1)
     ·rw [List.getElem?_append_right (by omega)] at e1
      cases z:i - ls.length with
      | zero =>
       rw [z] at e1
       cases e1
       have ei:i=j+1:=by have:=hTl.len;omega
       subst ei
       exact jm upd_same nel
      | succ n'=>rw [z] at e1;cases e1
  ·rintro σ H5 ⟨ls,v3,rfl,s5,hp5,hlo,hfr,hTl⟩
   rw [List.length_reverse,List.length_replicate] at hTl
   exact ⟨_,rfl,k l ls H5 s5 nl hfr hTl⟩
def spSsm:Sp:=fun vs H Q _=>∃ (l dw:Addr) (first:List Nat) (rs:List Rule) (n:Nat),vs=[.ref l]/\Good first rs/\n<=600/\H l=some (.lst (List.replicate (n+1) (V.ref dw)))/\H dw=some (.dK (kvw rs)) /\
 ∀ lo ls H',Same H H'->H lo=none->(∀ x∈ls,H x=none)->DicsAt H' lo ls rs (lenN rs.length (tabI rs)) (n+1)->Q (.ref lo) H'
theorem scSsm:FnScope ["words"] ["words"] (defScope sSsm):=⟨rfl,rfl,rfl,by decide +kernel,rfl,by decide +kernel,by decide +kernel⟩
theorem qhi:(["letter"]:List Str).Nodup:=by decide +kernel
theorem qjy {f fLsm:Addr} {fd fdLsm:FuncData} (F:Fun K "size_sums" "size_sums" sSsm f fd)
  (GLsm:FnOk P w K mg base CX0 2 fLsm fdLsm ["words","worths"] spLsm)
  (gLsm:Gf K mg "letter_sums" fLsm fdLsm ["words","worths"])
  (hdict:mg "dict" = none)
  : FnOk P w K mg base CX0 3 f fd ["words"] spSsm:=by
 refine F.ok scSsm (fun vs H Q E h=>?_) (fun cdv A outer s H vs Q E hr h=>?_)
 ·obtain ⟨l0,dw,first,rs,n,rfl,_⟩:=h
  rfl
 ·obtain ⟨l0,dw,first,rs,n,rfl,hG,hn,h0,hw,k⟩:=h
  have hu:=zo hr
  refine ⟨_,(qg (qp (qh GLsm hr rfl gLsm.m gLsm.k gLsm.b .nil pass0 (qa (pv 0) (qa (jb (j6 K rfl hu) (by rfl) hdict (by first | exact PySem.boot_dict | decide +kernel) (qa (qfj (qx (N':=["letter"]) (ix:=[none]) rfl rfl (qcn (pe_ix (qy K) (pv 0) (Yg Jk qf) (fun _ _=>rfl))) (fun _ _ _ _ _ _=>(qi (i:=0) qhi rfl (Or.inl rfl))) (fun _ _ _ _ _ _=>qv) (fun _ _ _ _ _ _=>(vt (qa (pv 0) (qa qf qb)))))) qb)) qb))))),?_⟩
  have hfew:=hG.few
  have lr:(ltr rs).length=rs.length:=by unfold ltr;rw [List.length_map]
  have nlw:l0≠dw:=fun z=>by rw [z,hw] at h0;cases h0
  refine ⟨_,rfl,dw,kvw rs,hw,fun ob=>?_⟩
  refine ⟨_,rfl,_,rfl,l0,_,_,_,rfl,rfl,SqL.of (jm h0 nlw),atI_last (j:=n) (by rw [List.length_replicate]) (by rw [List.getElem?_replicate,if_pos (Nat.lt_succ_self n)]),dw,ob,kvw rs,rfl,upd_same,?_⟩
  have ek:((kvw rs).map fun p=>kV p.1).length=rs.length:=by rw [List.length_map,List.length_map]
  refine qu (τ0:=[none]) (Z2 (d:=dw) (ob:=ob) (kvs:=kvw rs)) (by rw [ek];omega)
   (fun i ys τ H6=>Same (upd H dw (.frz ob (.dK (kvw rs)))) H6/\(∃ v,τ=[v])/\∃ ps':List Addr,ys=ps'.map V.ref/\ps'.length=i/\PairsAt H6 ps' (dkI ((ltr rs).take i) (List.replicate i 1)))
   ⟨Same.refl _,⟨_,rfl⟩,[],rfl,rfl,.nil⟩ ?_ ?_ ?_
  ·rintro i ys τ H6 hi ⟨s6,_,ps',rfl,lp,_⟩
   exact ⟨s6 _ _ upd_same,by rw [List.length_map];omega⟩
  ·rintro i x ys τ H6 hx ⟨s6,⟨v,rfl⟩,ps',rfl,lp,hP⟩
   rw [List.map_map,List.getElem?_map] at hx
   cases e1:rs[i]? with
   | none=>rw [e1] at hx;cases hx
   | some q =>
    obtain ⟨c,w'⟩:=q
    rw [e1] at hx
    cases hx
    refine ⟨_,rfl,(by show 2<=sizeLine;decide),fun T hT=>?_⟩
    refine ⟨s6.trans (Same.add hT),⟨_,rfl⟩,ps'++[T],by rw [List.map_append];rfl,by rw [List.length_append,lp];rfl,?_⟩
    have hi:=(List.getElem?_eq_some_iff.mp e1).1
    have h1:(ltr rs)[i]? = some c:=by unfold ltr;rw [List.getElem?_map,e1];rfl
    rw [List.take_add_one,h1,List.replicate_succ']
    show PairsAt _ _ (dkI (_++[c]) _)
    rw [<- qaj (by rw [List.length_replicate,List.length_take];omega)]
    refine zg ?_ (j2 (TupS.same (Same.add hT)) hP)
    rw [upd_same]
    rfl
  ·rintro ys τ H6 D0 ⟨s6,_,ps',rfl,lp,hP⟩ hD0
   rw [ek] at hP
   rw [List.take_of_length_le (by omega)] at hP
   have ll:(List.replicate rs.length (1:Int)).length=(ltr rs).length:=by rw [List.length_replicate,lr]
   have f6:=s6 _ _ (upd_same (H:=H) (a:=dw) (o:=.frz ob (.dK (kvw rs))))
   have nDw:D0≠dw:=(ne_of_none f6 hD0).symm
   have f7:(upd H6 D0 (.lst (ps'.map V.ref))) dw=some (.frz ob (.dK (kvw rs))):=jm f6 nDw.symm
   have sC:Same H (upd (upd H6 D0 (.lst (ps'.map V.ref))) dw (.dK (kvw rs))):=thaw (s6.trans (Same.add hD0)) hw
   refine ⟨f7,D0,ps',_,rfl,SqL.of (jm upd_same nDw),j2 ((TupS.same (Same.add hD0)).trans (qa3 f7)) hP,by rw [Jc ll];exact Jx hG.nd,by rw [qc4 ll,lr];omega,fun dn hdn=>?_⟩
   have sD:Same H (upd (upd (upd H6 D0 (.lst (ps'.map V.ref))) dw (.dK (kvw rs))) dn (.dK (dkI (ltr rs) (List.replicate rs.length 1)))):=sC.trans (Same.add hdn)
   refine ⟨l0,dw,dn,first,rs,n,_,rfl,hG,hn,sD _ _ h0,sD _ _ hw,upd_same,(ne_of_none (sC _ _ hw) hdn).symm,by rw [List.length_replicate],fun lo ls H8 s8 n8 hfr h8=>?_⟩
   refine k lo ls H8 (sD.trans s8) (sD.free n8) (fun x hx=>?_) ⟨h8.top,h8.len,fun i a e=>?_⟩
   ·rcases hfr x hx with z | z
    ·rw [z];exact sC.free hdn
    ·exact sD.free z
   ·rw [qc6]
    exact h8.at_ i a e
def spLns:Sp:=fun vs H Q _=>∃ (t:Addr) (first:List Nat) (rs:List Rule) (n:Nat),vs=[.ref t,.int (n:Int)]/\BookAt H t first rs/\Good first rs/\n<=600 /\
 ∀ l ls H',Same H H'->H l=none->(∀ x∈ls,H x=none)->DicsAt H' l ls rs (lenN rs.length (tabI rs)) (n+1)->Q (.ref l) H'
theorem scLns:FnScope ["book","age"] ["book","age"] (defScope sLns):=⟨rfl,rfl,rfl,by decide +kernel,rfl,by decide +kernel,by decide +kernel⟩
theorem qjz {f fSsm fWba:Addr} {fd fdSsm fdWba:FuncData} (F:Fun K "length_sums" "length_sums" sLns f fd)
  (GSsm:FnOk P w K mg base CX0 3 fSsm fdSsm ["words"] spSsm)
  (gSsm:Gf K mg "size_sums" fSsm fdSsm ["words"])
  (GWba:FnOk P w K mg base CX0 1 fWba fdWba ["book","age"] spWba)
  (gWba:Gf K mg "words_by_age" fWba fdWba ["book","age"])
  : FnOk P w K mg base CX0 4 f fd ["book","age"] spLns:=by
 refine F.ok scLns (fun vs H Q E h=>?_) (fun cdv A outer s H vs Q E hr h=>?_)
 ·obtain ⟨t,first,rs,n,rfl,_⟩:=h
  rfl
 ·obtain ⟨t,first,rs,n,rfl,hB,hG,hn,k⟩:=h
  have hr1:Room 1 _:=hr.mono (by decide)
  refine ⟨_,(qg (qp (qh GSsm hr rfl gSsm.m gSsm.k gSsm.b .nil pass0 (qa (qh GWba hr1 rfl gWba.m gWba.k gWba.b .nil pass0 (qa (pv 0) (qa (pv 1) qb))) qb)))),?_⟩
  refine ⟨_,rfl,_,rfl,t,first,rs,n,rfl,hB,hG,hn,fun l dw H1 s1 n1 nw e1 ew=>?_⟩
  refine ⟨l,dw,first,rs,n,rfl,hG,hn,e1,ew,fun lo ls H2 s2 n2 hfr h2=>?_⟩
  exact k lo ls H2 (s1.trans s2) (s1.free n2) (fun x hx=>s1.free (hfr x hx)) h2
end
end Lw
namespace Lw
open PySem L2 PyProof.Rows
structure StepsAt (H:Hp) (as:List Addr) (W:List (Nat × Nat)):Prop where
 len:as.length=W.length
 at_:∀ (i:Nat) a p,as[i]? = some a->W[i]? = some p->H a=some (.tup [sign p.1,.int ((p.2:Nat):Int)])
theorem StepsAt.mono {H H':Hp} {as:List Addr} {W:List (Nat × Nat)} (h:StepsAt H as W) (s:TupS H H'):StepsAt H' as W:=⟨h.len,fun i a p e1 e2=>s _ _ (h.at_ i a p e1 e2)⟩
theorem StepsAt.snoc {H:Hp} {as:List Addr} {W:List (Nat × Nat)} {a:Addr} {p:Nat × Nat} (h:StepsAt H as W) (e:H a=some (.tup [sign p.1,.int ((p.2:Nat):Int)])):StepsAt H (as++[a]) (W++[p]):=by
 refine ⟨by rw [List.length_append,List.length_append,h.len];rfl,fun i b q e1 e2=>?_⟩
 by_cases hi:i < as.length
 ·rw [List.getElem?_append_left hi] at e1
  rw [List.getElem?_append_left (by rw [<- h.len];exact hi)] at e2
  exact h.at_ i b q e1 e2
 ·have hi2:i=as.length:=by
   have:=(List.getElem?_eq_some_iff.mp e1).1
   rw [List.length_append,List.length_singleton] at this
   omega
  rw [List.getElem?_append_right (by omega),hi2,Nat.sub_self] at e1
  rw [List.getElem?_append_right (by rw [<- h.len];omega),hi2,<- h.len,Nat.sub_self] at e2
  cases e1
  cases e2
  exact e
theorem qey (f:Nat->Nat) {x:List Nat} {j c:Nat} (e:x[j]? = some c):((x.take (j+1)).map f).sum=((x.take j).map f).sum+f c:=by
 rw [List.take_add_one,e,List.map_append,List.sum_append]
 simp
structure Fam (rs:List Rule) (F:Nat->List Int) (g:Nat->Nat->Nat):Prop where
 len:∀ m,(F m).length=rs.length
 lkg:∀ m,∀ c∈ltr rs,lk (ltr rs) (F m) c=((g m c:Nat):Int)
abbrev szG (rs:List Rule):Nat->Nat->Nat:=gN rs fun _=>1
theorem qdi {first:List Nat} {rs:List Rule} (hG:Good first rs):Fam rs (lenN rs.length (tabI rs)) (szG rs):=⟨V9 (vc rs),fun m c hc=>by rw [qgs hG m hc];show _=((gN rs (fun _=>1) m c:Nat):Int);rw [qaq]⟩
theorem Fam.sum {rs:List Rule} {F:Nat->List Int} {g:Nat->Nat->Nat} (h:Fam rs F g) (m:Nat) {x:List Nat} (hx:∀ c∈x,c∈ltr rs):(x.map (lk (ltr rs) (F m))).sum=(((x.map (g m)).sum:Nat):Int):=qiu (h.lkg m) hx
section
variable {P:Program} {w:World} {K:W.Frag} {mg:Str->Option Value} {base:Heap}
def spWbh (K:W.Frag):Sp:=fun vs H Q _=>∃ (lw ls dw:Addr) (ds:List Addr) (first:List Nat) (rs:List Rule) (F:Nat->List Int) (g0:Nat->Nat) (n pl:Nat),vs=[tx first,.ref lw,.ref ls,.int (pl:Int)]/\Good first rs/\n<=600/\H lw=some (.lst (List.replicate (n+1) (V.ref dw)))/\H dw=some (.dK (kvw rs)) /\
 DicsAt H ls ds rs F (n+1)/\Fam rs F (gN rs g0)/\pl < (first.map (gN rs g0 n)).sum/\∀ l as H',Same H H'->H l=none->H' l=some (.lst (as.map V.ref))->StepsAt H' as (wayG rs (gN rs g0) (n+1) first pl)->Q (.ref l) H'
theorem scWbh:FnScope ["first","words","sums","many","told","text","left","worths","spelling","index"] ["first","words","sums","many"] (defScope sWbh):=⟨rfl,rfl,rfl,by decide +kernel,rfl,by decide +kernel,by decide +kernel⟩
theorem qj0 {f:Addr} {fd:FuncData} (F:Fun K "way_behind" "way_behind" sWbh f fd)
  (hzip:mg "zip" = none)
  (hreversed:mg "reversed" = none)
  : FnOk P w K mg base CX0 1 f fd ["first","words","sums","many"] (spWbh K):=by
 refine F.ok scWbh (fun vs H Q E h=>?_) (fun cdv A outer s H vs Q E hr h=>?_)
 ·obtain ⟨lw,ls,dw,ds,first,rs,Fm,g0,n,pl,rfl,_⟩:=h
  rfl
 ·obtain ⟨lw,ls,dw,ds,first,rs,Fm,g0,n,pl,rfl,hG,hn,hw,hdw,hD,hF,hpl,k⟩:=h
  have hu:=zo hr
  refine ⟨_,(qd (qj (i:=4) scWbh.nd rfl (Or.inl rfl) (j0 qb))
   (qd (qj (i:=5) scWbh.nd rfl (Or.inl rfl) (pv 0))
   (qd (qj (i:=6) scWbh.nd rfl (Or.inl rfl) (pv 3))
   (qd (jy PassesOwn.never rfl (qed K rfl hzip rfl hreversed (qa (pv 2) qb) (qa (pv 1) qb)) (vz K (n:=2) rfl (jf (qi (i:=7) scWbh.nd rfl (Or.inl rfl)) (jf (qi (i:=8) scWbh.nd rfl (Or.inl rfl)) vv))) (qd (qj (i:=9) scWbh.nd rfl (Or.inl rfl) qf)
   (qd (Vx PassesOwn.never (qz qf1 (qq hu (pv 7) (pe_ix Zp (pv 5) (pv 9) (fun _ _=>rfl)) (fun _ _=>rfl)) (pv 6) (nomark _)) (qd (qff (i:=6) scWbh.nd rfl (Or.inl rfl) (qq hu (pv 7) (pe_ix Zp (pv 5) (pv 9) (fun _ _=>rfl)) (fun _ _=>rfl)) qia)
   (qg (qff (i:=9) scWbh.nd rfl (Or.inl rfl) qf qh9))))
   (qd (vd (ju K PySem.F.plainAttrs_list PySem.F.slot_list_append PySem.F.type_list_append vg (pv 4) (qa (vt (qa (pe_ix Zp (pv 5) (pv 9) (fun _ _=>rfl)) (qa (pv 9) qb))) qb)))
   (qg (qj (i:=5) scWbh.nd rfl (Or.inl rfl) (qq hu (pv 8) (pe_ix Zp (pv 5) (pv 9) (fun _ _=>rfl)) (fun _ _=>rfl))))))))
   (qg (qp (pv 4))))))),?_⟩
  refine ⟨(by show 0<=sizeLine;decide),fun l nl=>?_⟩
  have s1:Same H (upd H l (.lst [])):=Same.add nl
  have hl1:upd H l (.lst []) l=some (.lst []):=upd_same
  revert s1 hl1
  generalize upd H l (.lst [])=H1
  intro s1 hl1
  have fin0:∀ m,n+1=m+1->pl < (first.map (gN rs g0 m)).sum:=fun m hm=>by
   obtain rfl:m=n:=by omega
   exact hpl
  have ld:(ds.map V.ref).length=n+1:=by rw [List.length_map,hD.len]
  refine ⟨_,rfl,_,rfl,_,rfl,ls,ds.map V.ref,rfl,SqL.of (s1 _ _ hD.top),_,rfl,lw,List.replicate (n+1) (V.ref dw),rfl,SqL.of (s1 _ _ hw),SqL.of (s1 _ _ hD.top),?_⟩
  refine Jq (qcp (xs:=ds.map V.ref) (ys:=List.replicate (n+1) (V.ref dw))) (fun i σ H2=>∃ (as:List Addr) (pre:List (Nat × Nat)) (x:List Nat) (r kk:Nat) (v7 v8 v9:Option V),σ=[some (tx first),some (.ref lw),some (.ref ls),some (.int (pl:Int)),some (.ref l),some (tx x),some (.int (r:Int)),v7,v8,v9] /\
   Same H H2/\H2 l=some (.lst (as.map V.ref))/\StepsAt H2 as pre/\pre.length=i/\i+kk=n+1/\pre++wayG rs (gN rs g0) kk x r=wayG rs (gN rs g0) (n+1) first pl/\(∀ c∈x,c∈ltr rs)/\x.length<=12/\(∀ m,kk=m+1->r < (x.map (gN rs g0 m)).sum))
   ⟨[],[],first,pl,n+1,_,_,_,rfl,s1,hl1,⟨rfl,fun i a p e=>by simp at e⟩,rfl,by omega,rfl,hG.fin,hG.fl,fin0⟩ ?_ ?_ ?_
  ·rintro i σ H2 hi ⟨as,pre,x,r,kk,v7,v8,v9,rfl,s2,_⟩
   exact ⟨SqL.of (s2 _ _ hD.top),SqL.of (s2 _ _ hw)⟩
  ·rintro i us σ H2 T hz ⟨as,pre,x,r,kk,v7,v8,v9,rfl,s2,hl2,hS,hpre,hik,hW,hx,hx12,hr0⟩ hT
   rw [List.getElem?_map] at hz
   cases ez:((ds.map V.ref).reverse.zip (List.replicate (n+1) (V.ref dw)))[i]? with
   | none=>rw [ez] at hz;cases hz
   | some pr =>
    obtain ⟨px,py⟩:=pr
    rw [ez] at hz
    cases hz
    obtain ⟨q1,q2⟩:=List.getElem?_zip_eq_some.mp ez
    have hi:i < n+1:=by have:=(List.getElem?_eq_some_iff.mp q2).1;rwa [List.length_replicate] at this
    have q2':V.ref dw=py:=by rw [List.getElem?_replicate,if_pos hi] at q2;exact Option.some.inj q2
    subst q2'
    obtain ⟨m,rfl⟩:∃ m,kk=m+1:=⟨kk - 1,by omega⟩
    rw [List.getElem?_reverse (by rw [ld];exact hi),ld] at q1
    have e1:n+1 - 1 - i=m:=by omega
    rw [e1,List.getElem?_map] at q1
    cases ed:ds[m]? with
    | none=>rw [ed] at q1;cases q1
    | some d =>
     rw [ed] at q1
     have q1':V.ref d=px:=Option.some.inj q1
     subst q1'
     have sT:=Same.add (o:=.tup [V.ref d,V.ref dw]) hT
     refine ⟨T,_,rfl,SqT.of upd_same,rfl,_,_,rfl,_,_,rfl,rfl,?_⟩
     have s3:=s2.trans sT
     have hl3:=sT _ _ hl2
     have hS3:=hS.mono (TupS.same sT)
     revert s3 hl3 hS3
     generalize upd H2 T (.tup [V.ref d,V.ref dw])=H3
     intro s3 hl3 hS3
     have hd3:=s3 _ _ (hD.at_ m d ed)
     have hw3:=s3 _ _ hdw
     have rlt:r < (x.map (gN rs g0 m)).sum:=hr0 m rfl
     have ll:(Fm m).length=(ltr rs).length:=by rw [hF.len];unfold ltr;rw [List.length_map]
     refine ⟨fun q σ H5=>∃ j:Nat,σ=[some (tx first),some (.ref lw),some (.ref ls),some (.int (pl:Int)),some (.ref l),some (tx x),some (.int ((r - ((x.take j).map (gN rs g0 m)).sum:Nat):Int)),some (.ref d),some (.ref dw),some (.int (j:Int))]/\q=x.length - j/\H5=H3/\j<=x.length/\((x.take j).map (gN rs g0 m)).sum<=r,⟨_,0,rfl,rfl,rfl,Nat.zero_le _,Nat.zero_le _⟩,?_⟩
     rintro q σ H5 ⟨j,rfl,rfl,rfl,hj,hsum⟩
     have jl:j < x.length:=by
      rcases Nat.lt_or_ge j x.length with h | h
      ·exact h
      ·rw [List.take_of_length_le h] at hsum
       omega
     have ec:x[j]? = some x[j]:=List.getElem?_eq_getElem jl
     revert ec
     generalize x[j]=c
     intro ec
     have hc:=hx c (List.mem_of_getElem? ec)
     have hg:=DGet.k (k:=(Sum.inr (one c):Key)) hd3
     rw [Yr ll hc,hF.lkg m c hc] at hg
     have szx:(⟨x.toArray⟩:Str).length<=sizeLine:=Nat.le_of_lt (small1000 (show x.length<=1000 by omega))
     refine ⟨_,rfl,_,rfl,_,rfl,⟨x.toArray⟩,_,_,rfl,rfl,szx,atI_nat ec,d,_,rfl,hg,_,rfl,_,_,rfl,rfl,_,rfl,?_⟩
     refine ite2 (fun hc1=>?_) (fun hc1=>?_)
     ·have hle:gN rs g0 m c<=r - ((x.take j).map (gN rs g0 m)).sum:=by
       have h4:((gN rs g0 m c:Nat):Int)<=((r - ((x.take j).map (gN rs g0 m)).sum:Nat):Int):=of_decide_eq_true hc1
       omega
      have ts:=qey (gN rs g0 m) ec
      refine ⟨fun σ' H'=>(∃ a b:Int,σ'=[some (tx first),some (.ref lw),some (.ref ls),some (.int (pl:Int)),some (.ref l),some (tx x),some (.int a),some (.ref d),some (.ref dw),some (.int b)]/\a=((r - ((x.take (j+1)).map (gN rs g0 m)).sum:Nat):Int)/\b=((j+1:Nat):Int))/\H'=H5,?_,?_⟩
      ·rintro σ' H' ⟨⟨a,b,rfl,rfl,rfl⟩,rfl⟩
       exact ⟨x.length - (j+1),by omega,j+1,rfl,rfl,rfl,by omega,by omega⟩
      ·refine ⟨_,rfl,_,rfl,_,rfl,_,rfl,⟨x.toArray⟩,_,_,rfl,rfl,szx,atI_nat ec,d,_,rfl,hg,_,_,rfl,rfl,?_⟩
       exact ⟨_,rfl,_,_,rfl,rfl,⟨_,_,rfl,by show ((r - ((x.take j).map (gN rs g0 m)).sum:Nat):Int) - ((gN rs g0 m c:Nat):Int)=_;omega,by show (j:Int)+1=_;omega⟩,rfl⟩
     ·have hlt:¬ gN rs g0 m c<=r - ((x.take j).map (gN rs g0 m)).sum:=fun z=>hc1 (decide_eq_true (by show ((gN rs g0 m c:Nat):Int)<=((r - ((x.take j).map (gN rs g0 m)).sum:Nat):Int);omega))
      have pk:=qdb (gN rs g0 m) x j r c ec hsum (by omega)
      refine ⟨_,rfl,.inl ⟨rfl,_,SqL.of hl3⟩,_,rfl,_,rfl,⟨x.toArray⟩,_,_,rfl,rfl,szx,atI_nat ec,_,rfl,(by show 2<=sizeLine;decide),fun U nU=>?_⟩
      have sU:=Same.add (o:=.tup [sign c,V.int (j:Int)]) nU
      have hU:upd H5 U (.tup [sign c,V.int (j:Int)]) U=some (.tup [sign c,V.int (j:Int)]):=upd_same
      have hl4:=sU _ _ hl3
      have s4:=s3.trans sU
      have hS4:=hS3.mono (TupS.same sU)
      refine ⟨l,_,_,rfl,rfl,hl4,small1000 (by rw [List.length_map,hS.len,hpre];omega),?_⟩
      have nw:dw≠l:=ne_of_none hdw nl
      have hgw:=DGet.k (k:=(Sum.inr (one c):Key)) (jm (o:=.lst (as.map V.ref++[V.ref U])) (s4 _ _ hdw) nw)
      rw [za hG.nd hc] at hgw
      refine ⟨_,rfl,_,rfl,_,rfl,⟨x.toArray⟩,_,_,rfl,rfl,szx,atI_nat ec,dw,_,rfl,hgw,?_⟩
      have tk:TupS (upd H5 U (.tup [sign c,V.int (j:Int)])) (upd (upd H5 U (.tup [sign c,V.int (j:Int)])) l (.lst (as.map V.ref++[V.ref U]))):=fun b ys e=>jm e fun z=>by rw [z,hl4] at e;cases e
      refine ⟨as++[U],pre++[(c,j)],wd rs c,r - ((x.take j).map (gN rs g0 m)).sum,m,_,_,_,rfl,fun b o hb=>jm (s4 _ _ hb) (ne_of_none hb nl),by rw [upd_same,List.map_append];rfl,(hS4.mono tk).snoc (tk _ _ hU),by rw [List.length_append,hpre];rfl,by omega,?_,zh hG hc,Nat.le_trans (Zc hG hc) (by decide),?_⟩
      ·rw [<- hW]
       have eg:x.getD j 0=c:=by rw [List.getD_eq_getElem?_getD,ec];rfl
       have ew:wayG rs (gN rs g0) (m+1) x r=(c,j) :: wayG rs (gN rs g0) m (wd rs c) (r - ((x.take j).map (gN rs g0 m)).sum):=by
        show (x.getD (pick (gN rs g0 m) x r).1 0,(pick (gN rs g0 m) x r).1) :: wayG rs (gN rs g0) m (wd rs (x.getD (pick (gN rs g0 m) x r).1 0)) (pick (gN rs g0 m) x r).2=_
        rw [pk]
        show (x.getD j 0,j) :: wayG rs (gN rs g0) m (wd rs (x.getD j 0)) _=_
        rw [eg]
       rw [ew,List.append_assoc]
       rfl
      ·rintro m' rfl
       show _ < gN rs g0 (m' + 1) c
       omega
  ·rintro σ H2 ⟨as,pre,x,r,kk,v7,v8,v9,rfl,s2,hl2,hS,hpre,hik,hW,hx,hx12,hr0⟩
   have en:(((ds.map V.ref).reverse.zip (List.replicate (n+1) (V.ref dw))).map fun p=>[p.1,p.2]).length=n+1:=by
    rw [List.length_map,List.length_zip,List.length_reverse,ld,List.length_replicate,Nat.min_self]
   rw [en] at hik
   have:kk=0:=by omega
   subst this
   have hW':pre=wayG rs (gN rs g0) (n+1) first pl:=by rw [<- hW];exact (List.append_nil _).symm
   rw [hW'] at hS
   exact ⟨_,rfl,k l as H2 s2 nl hl2 hS⟩
def spWyy:Sp:=fun vs H Q _=>∃ (t:Addr) (first:List Nat) (rs:List Rule) (n pl:Nat),vs=[.ref t,.int (n:Int),.int (pl:Int)]/\BookAt H t first rs/\Good first rs/\n<=300/\pl < (first.map (szG rs n)).sum/\∀ l as H',Same H H'->H l=none->H' l=some (.lst (as.map V.ref))->StepsAt H' as (wayG rs (szG rs) (n+1) first pl)->Q (.ref l) H'
theorem scWyy:FnScope ["book","age","place","sums"] ["book","age","place"] (defScope sWyy):=⟨rfl,rfl,rfl,by decide +kernel,rfl,by decide +kernel,by decide +kernel⟩
theorem qj1 {f fNag fLns fNpl fWbh fWba fTsm:Addr} {fd fdNag fdLns fdNpl fdWbh fdWba fdTsm:FuncData} (F:Fun K "way" "way" sWyy f fd)
  (GNag:FnOk P w K mg base CX0 3 fNag fdNag ["age"] spNag)
  (gNag:Gf K mg "need_age" fNag fdNag ["age"])
  (GLns:FnOk P w K mg base CX0 4 fLns fdLns ["book","age"] spLns)
  (gLns:Gf K mg "length_sums" fLns fdLns ["book","age"])
  (GNpl:FnOk P w K mg base CX0 3 fNpl fdNpl ["place","last"] spNpl)
  (gNpl:Gf K mg "need_place" fNpl fdNpl ["place","last"])
  (GWbh:FnOk P w K mg base CX0 1 fWbh fdWbh ["first","words","sums","many"] (spWbh K))
  (gWbh:Gf K mg "way_behind" fWbh fdWbh ["first","words","sums","many"])
  (GWba:FnOk P w K mg base CX0 1 fWba fdWba ["book","age"] spWba)
  (gWba:Gf K mg "words_by_age" fWba fdWba ["book","age"])
  (GTsm:FnOk P w K mg base CX0 1 fTsm fdTsm ["text","worths"] spTsm)
  (gTsm:Gf K mg "text_sum" fTsm fdTsm ["text","worths"])
  : FnOk P w K mg base CX0 5 f fd ["book","age","place"] spWyy:=by
 refine F.ok scWyy (fun vs H Q E h=>?_) (fun cdv A outer s H vs Q E hr h=>?_)
 ·obtain ⟨t,first,rs,n,pl,rfl,_⟩:=h
  rfl
 ·obtain ⟨t,first,rs,n,pl,rfl,hB,hG,hn,hpl,k⟩:=h
  have hr1:Room 1 _:=hr.mono (by decide)
  have hr3:Room 3 _:=hr.mono (by decide)
  refine ⟨_,(qd (vd (qh GNag hr3 rfl gNag.m gNag.k gNag.b .nil pass0 (qa (pv 1) qb)))
   (qd (qj (i:=3) scWyy.nd rfl (Or.inl rfl) (qh GLns hr rfl gLns.m gLns.k gLns.b .nil pass0 (qa (pv 0) (qa (pv 1) qb))))
   (qd (vd (qh GNpl hr3 rfl gNpl.m gNpl.k gNpl.b .nil pass0 (qa (pv 2) (qa (je Y8 (qh GTsm hr1 rfl gTsm.m gTsm.k gTsm.b .nil pass0 (qa (pe_ix (jd K) (pv 0) qf (fun _ _=>rfl)) (qa (pe_ix (qy K) (pv 3) (pv 1) (fun _ _=>rfl)) qb))) qf) qb))))
   (qg (qp (qh GWbh hr1 rfl gWbh.m gWbh.k gWbh.b .nil pass0 (qa (pe_ix (jd K) (pv 0) qf (fun _ _=>rfl)) (qa (qh GWba hr1 rfl gWba.m gWba.k gWba.b .nil pass0 (qa (pv 0) (qa (pv 1) qb))) (qa (pv 3) (qa (pv 2) qb)))))))))),?_⟩
  refine ⟨_,rfl,n,rfl,hn,?_⟩
  refine ⟨_,rfl,_,rfl,t,first,rs,n,rfl,hB,hG,by omega,fun l ls H1 s1 nl _ hD=>?_⟩
  obtain ⟨r,ps,b1,b2,b3⟩:=hB.ex
  have ln:=V9 (k:=rs.length) (vc rs) n
  obtain ⟨a,ha⟩:∃ a,ls[n]? = some a:=⟨ls[n]'(by rw [hD.len];omega),List.getElem?_eq_getElem _⟩
  have hv:=hD.at_ n a ha
  refine ⟨_,rfl,_,rfl,t,_,_,_,rfl,rfl,SqT.of (s1 _ _ b1),atI_nat (j:=0) rfl,_,rfl,_,rfl,l,_,_,_,rfl,rfl,SqL.of hD.top,atI_nat (by rw [List.getElem?_map,ha];rfl),a,rs,_,first,rfl,hv,ln,Nat.le_trans hG.fl (by decide),hG.fin,fun H2 s2=>?_⟩
  rw [(qdi hG).sum n hG.fin]
  refine ⟨_,_,rfl,rfl,pl,(((first.map (szG rs n)).sum:Nat) - 1:Int),rfl,by omega,?_⟩
  have s12:=s1.trans s2
  refine ⟨_,rfl,t,_,_,_,rfl,rfl,SqT.of (s12 _ _ b1),atI_nat (j:=0) rfl,_,rfl,_,rfl,t,first,rs,n,rfl,hB.mono (TupS.same s12),hG,by omega,fun lw dw H3 s3 n1 nw e1 ew=>?_⟩
  refine ⟨_,rfl,_,rfl,lw,l,dw,ls,first,rs,lenN rs.length (tabI rs),_,n,pl,rfl,hG,by omega,e1,ew,(hD.mono s2).mono s3,qdi hG,hpl,fun l' as H4 s4 nl' hl' hS=>k l' as H4 (s12.trans (s3.trans s4)) (s12.free (s3.free nl')) hl' hS⟩
def spLea:Sp:=fun vs H Q _=>∃ (t:Addr) (first:List Nat) (rs:List Rule) (n pl:Nat),vs=[.ref t,.int (n:Int),.int (pl:Int)]/\BookAt H t first rs/\Good first rs/\n<=300/\pl < (first.map (szG rs n)).sum/\∀ H',Same H H'->Q (sign (lastL (wayG rs (szG rs) (n+1) first pl) 0)) H'
theorem scLea:FnScope ["book","age","place"] ["book","age","place"] (defScope sLea):=⟨rfl,rfl,rfl,by decide +kernel,rfl,by decide +kernel,by decide +kernel⟩
theorem qj2 {f fWyy:Addr} {fd fdWyy:FuncData} (F:Fun K "letter_at" "letter_at" sLea f fd)
  (GWyy:FnOk P w K mg base CX0 5 fWyy fdWyy ["book","age","place"] spWyy)
  (gWyy:Gf K mg "way" fWyy fdWyy ["book","age","place"])
  : FnOk P w K mg base CX0 6 f fd ["book","age","place"] spLea:=by
 refine F.ok scLea (fun vs H Q E h=>?_) (fun cdv A outer s H vs Q E hr h=>?_)
 ·obtain ⟨t,first,rs,n,pl,rfl,_⟩:=h
  rfl
 ·obtain ⟨t,first,rs,n,pl,rfl,hB,hG,hn,hpl,k⟩:=h
  refine ⟨_,(qg (qp (pe_ix (jd K) (pe_ix (qy K) (qh GWyy hr rfl gWyy.m gWyy.k gWyy.b .nil pass0 (qa (pv 0) (qa (pv 1) (qa (pv 2) qb)))) (Yg Jk qf) (fun _ _=>rfl)) qf (fun _ _=>rfl)))),?_⟩
  refine ⟨_,rfl,_,rfl,_,rfl,t,first,rs,n,pl,rfl,hB,hG,hn,hpl,fun l as H1 s1 nl hl hS=>?_⟩
  have wl:=qar rs (szG rs) (n+1) first pl
  have la:as.length=n+1:=by rw [hS.len,wl]
  obtain ⟨a,ha⟩:∃ a,as[n]? = some a:=⟨as[n]'(by omega),List.getElem?_eq_getElem _⟩
  obtain ⟨p,p1⟩:∃ p,(wayG rs (szG rs) (n+1) first pl)[n]? = some p:=⟨_,List.getElem?_eq_getElem (by rw [wl];omega)⟩
  have ht:=hS.at_ n a p ha p1
  have e:=J4 (wayG rs (szG rs) (n+1) first pl) 0 (p:=p) (by rw [wl];exact p1)
  have kk:=k H1 s1
  rw [e] at kk
  exact ⟨_,rfl,l,_,_,_,rfl,rfl,SqL.of hl,atI_last (by rw [List.length_map,la]) (by rw [List.getElem?_map,ha];rfl),a,_,_,_,rfl,rfl,SqT.of ht,atI_nat (j:=0) rfl,kk⟩
end
end Lw
namespace Lw
open PySem L2 PyProof.Rows
theorem kc_ne {c a:Nat} (e:c≠a):kc c≠kc a:=fun z=>e (by have:=Sum.inr.inj z;simpa [one] using this)
theorem Zh {n c:Nat}:∀ {g:List Nat} {acc:List (Key × V)},c ∉ g->valV (gputs acc n g) (kc c)=valV acc (kc c)
 | [],acc,h=>rfl
 | a :: g,acc,h=>by
  show valV (gputs (putK acc (kc a) (.int (n:Int))) n g) (kc c)=_
  rw [Zh fun z=>h (List.mem_cons_of_mem _ z),yu,if_neg (kc_ne fun z=>h (by rw [z];exact List.mem_cons_self))]
theorem qa4 {n c:Nat}:∀ {g:List Nat} {acc:List (Key × V)},c∈g->valV (gputs acc n g) (kc c)=some (.int (n:Int))
 | a :: g,acc,h=>by
  show valV (gputs (putK acc (kc a) (.int (n:Int))) n g) (kc c)=_
  by_cases hc:c∈g
  ·exact qa4 hc
  ·rw [Zh hc]
   rcases List.mem_cons.mp h with z | z
   ·rw [z,yu,if_pos rfl]
   ·exact absurd z hc
theorem Zi {gs:List (List Nat)} {c j:Nat} {g:List Nat} (hj:gs[j]? = some g) (hc:c∈g) (nd:gs.flatten.Nodup):∀ {i:Nat},j < i->valV (gdkN gs i) (kc c)=some (.int (j:Int))
 | i+1,h=>by
  show valV (gputs (gdkN gs i) i (gs.getD i [])) (kc c)=_
  by_cases e:j=i
  ·subst e
   rw [List.getD_eq_getElem?_getD,hj]
   exact qa4 hc
  ·rw [Zh,Zi hj hc nd (by omega)]
   intro z
   rw [List.getD_eq_getElem?_getD] at z
   cases e2:gs[i]? with
   | none=>rw [e2] at z;cases z
   | some g2 =>
    rw [e2] at z
    obtain ⟨hil,e3⟩:=List.getElem?_eq_some_iff.mp e2
    have e4:gs=gs.take i++g2 :: gs.drop (i+1):=by rw [<- e3,<- List.drop_eq_getElem_cons hil,List.take_append_drop]
    rw [e4,List.flatten_append] at nd
    refine (List.nodup_append.mp nd).2.2 c ?_ c ?_ rfl
    ·exact List.mem_flatten.mpr ⟨g,List.mem_iff_getElem?.mpr ⟨j,by rw [List.getElem?_take,if_pos (by omega)];exact hj⟩,hc⟩
    ·exact List.mem_flatten.mpr ⟨g2,List.mem_cons_self,z⟩
theorem qdj {gs:List (List Nat)} {c:Nat} (h:c∈gs.flatten):∃ g,gs[gix gs c]? = some g/\c∈g:=by
 obtain ⟨g,hg,hc⟩:=List.mem_flatten.mp h
 have hl:gix gs c < gs.length:=List.findIdx_lt_length_of_exists ⟨g,hg,decide_eq_true hc⟩
 refine ⟨gs[gix gs c],List.getElem?_eq_getElem hl,?_⟩
 exact of_decide_eq_true (List.findIdx_getElem (w:=hl))
theorem Vc {gs:List (List Nat)} {c:Nat} (nd:gs.flatten.Nodup) (h:c∈gs.flatten):valV (gdk gs) (kc c)=some (.int (gix gs c:Int)):=by
 obtain ⟨g,hg,hc⟩:=qdj h
 exact Zi hg hc nd (List.getElem?_eq_some_iff.mp hg).1
theorem yg {rs:List Rule} {gs:List (List Nat)} (nd:gs.flatten.Nodup) {p:PR} (h1:p.1∈gs.flatten) (h2:p.2∈gs.flatten):difB rs (gdk gs) p=((!decide (V.int (gix gs p.1:Int)=V.int (gix gs p.2:Int))) || !decide (V.int ((wd rs p.1).length:Int)=V.int ((wd rs p.2).length:Int))):=by
 unfold difB
 rw [Vc nd h1,Vc nd h2]
 have e1:decide (some (V.int (gix gs p.1:Int))=some (V.int (gix gs p.2:Int)))=decide (V.int (gix gs p.1:Int)=V.int (gix gs p.2:Int)):=decide_eq_decide.mpr ⟨fun z=>Option.some.inj z,fun z=>by rw [z]⟩
 have e2:decide ((wd rs p.1).length=(wd rs p.2).length)=decide (V.int ((wd rs p.1).length:Int)=V.int ((wd rs p.2).length:Int)):=decide_eq_decide.mpr ⟨fun z=>by rw [z],fun z=>by have:=V.int.inj z;omega⟩
 rw [e1,e2]
end Lw
namespace Lw
open PySem L2 PyProof.Rows
def mu (rs:List Rule) (gs:List (List Nat)):Nat->Nat->Nat
 | 0,c=>gix gs c
 | t+1,c=>(ltr rs).findIdx fun e=>decide (mu rs gs t e=mu rs gs t c/\(wd rs e).map (mu rs gs t)=(wd rs c).map (mu rs gs t))
section
variable {first:List Nat} {rs:List Rule} {gs:List (List Nat)}
def Eq1 (rs:List Rule) (gs:List (List Nat)) (t x y:Nat):Prop:=mu rs gs t x=mu rs gs t y/\(wd rs x).map (mu rs gs t)=(wd rs y).map (mu rs gs t)
instance (t x y:Nat):Decidable (Eq1 rs gs t x y):=inferInstanceAs (Decidable (_/\_))
theorem qhj {t c:Nat} (hc:c∈ltr rs):∃ h:mu rs gs (t+1) c < (ltr rs).length,Eq1 rs gs t ((ltr rs)[mu rs gs (t+1) c]) c/\∀ j (hj:j < mu rs gs (t+1) c),¬ Eq1 rs gs t ((ltr rs)[j]'(by omega)) c:=by
 have hl:mu rs gs (t+1) c < (ltr rs).length:=List.findIdx_lt_length_of_exists ⟨c,hc,decide_eq_true ⟨rfl,rfl⟩⟩
 refine ⟨hl,?_,fun j hj=>?_⟩
 ·have:=List.findIdx_getElem (w:=hl)
  exact of_decide_eq_true this
 ·have:=List.not_of_lt_findIdx (p:=fun e=>decide (mu rs gs t e=mu rs gs t c/\(wd rs e).map (mu rs gs t)=(wd rs c).map (mu rs gs t))) (xs:=ltr rs) (i:=j) hj
  have h2:mu rs gs t (ltr rs)[j]=mu rs gs t c->¬ (wd rs (ltr rs)[j]).map (mu rs gs t)=(wd rs c).map (mu rs gs t):=by simpa using this
  exact fun z=>h2 z.1 z.2
theorem mu_succ {t x y:Nat} (hx:x∈ltr rs) (hy:y∈ltr rs):mu rs gs (t+1) x=mu rs gs (t+1) y ↔ Eq1 rs gs t x y:=by
 constructor
 ·intro e
  obtain ⟨h1,a1,_⟩:=qhj (gs:=gs) (t:=t) hx
  obtain ⟨h2,a2,_⟩:=qhj (gs:=gs) (t:=t) hy
  have e3:(ltr rs)[mu rs gs (t+1) x]=(ltr rs)[mu rs gs (t+1) y]:=by congr 1
  rw [e3] at a1
  exact ⟨a1.1.symm.trans a2.1,a1.2.symm.trans a2.2⟩
 ·intro e
  show (ltr rs).findIdx _=(ltr rs).findIdx _
  congr 1
  funext z
  exact decide_eq_decide.mpr ⟨fun h=>⟨h.1.trans e.1,h.2.trans e.2⟩,fun h=>⟨h.1.trans e.1.symm,h.2.trans e.2.symm⟩⟩
theorem map_eq {f:Nat->Nat}:∀ {a b:List Nat},a.map f=b.map f ↔ a.length=b.length/\∀ (i x y:Nat),a[i]? = some x->b[i]? = some y->f x=f y
 | a,b=>by
  constructor
  ·intro h
   have hl:a.length=b.length:=by have:=congrArg List.length h;simpa using this
   refine ⟨hl,fun i x y h1 h2=>?_⟩
   have:=congrArg (fun l:List Nat=>l[i]?) h
   simp only [List.getElem?_map,h1,h2,Option.map_some] at this
   exact Option.some.inj this
  ·rintro ⟨hl,h⟩
   apply List.ext_getElem?
   intro i
   rw [List.getElem?_map,List.getElem?_map]
   by_cases hi:i < a.length
   ·rw [List.getElem?_eq_getElem hi,List.getElem?_eq_getElem (by omega)]
    exact congrArg some (h i _ _ (List.getElem?_eq_getElem hi) (List.getElem?_eq_getElem (by omega)))
   ·rw [List.getElem?_eq_none (by omega),List.getElem?_eq_none (by omega)]
def Stab (rs:List Rule) (gs:List (List Nat)) (t:Nat):Prop:=∀ x∈ltr rs,∀ y∈ltr rs,mu rs gs t x=mu rs gs t y->mu rs gs (t+1) x=mu rs gs (t+1) y
theorem Stab.next (hG:Good first rs) {t:Nat} (h:Stab rs gs t):Stab rs gs (t+1):=fun x hx y hy e=>by
 have e1:=(mu_succ hx hy).mp e
 refine (mu_succ hx hy).mpr ⟨e,?_⟩
 obtain ⟨hl,hp⟩:=map_eq.mp e1.2
 exact map_eq.mpr ⟨hl,fun i a b ha hb=>h a (zh hG hx _ (List.mem_of_getElem? ha)) b (zh hG hy _ (List.mem_of_getElem? hb)) (hp i a b ha hb)⟩
theorem Stab.later (hG:Good first rs) {t:Nat} (h:Stab rs gs t):∀ m,Stab rs gs (t+m)
 | 0=>h
 | m+1=>(Stab.later hG h m).next hG
def rep (rs:List Rule) (gs:List (List Nat)) (t c:Nat):Bool:=(ltr rs).all fun e=>decide (¬ (e < c/\mu rs gs t e=mu rs gs t c))
theorem rep_iff {t c:Nat}:rep rs gs t c=true ↔ ∀ e∈ltr rs,e < c->mu rs gs t e≠mu rs gs t c:=by
 unfold rep
 rw [List.all_eq_true]
 exact ⟨fun h e he hl z=>of_decide_eq_true (h e he) ⟨hl,z⟩,fun h e he=>decide_eq_true fun z=>h e he z.1 z.2⟩
theorem qa5 {p q:Nat->Bool}:∀ {l:List Nat},(∀ x∈l,p x=true->q x=true)->(∃ x∈l,q x=true/\p x=false)->l.countP p < l.countP q
 | [],_,⟨x,hx,_⟩=>by cases hx
 | a :: l,h1,⟨x,hx,hq,hp⟩=>by
  have le:∀ {l:List Nat},(∀ x∈l,p x=true->q x=true)->l.countP p<=l.countP q:=fun h=>List.countP_mono_left h
  rw [List.countP_cons,List.countP_cons]
  rcases List.mem_cons.mp hx with rfl | hx
  ·rw [hq,hp]
   have:=le fun y hy=>h1 y (List.mem_cons_of_mem _ hy)
   simp only [if_true,Bool.false_eq_true,if_false]
   omega
  ·have:=qa5 (fun y hy=>h1 y (List.mem_cons_of_mem _ hy)) ⟨x,hx,hq,hp⟩
   have h3:=h1 a List.mem_cons_self
   cases e1:p a with
   | false=>cases e2:q a <;> simp <;> omega
   | true=>rw [h3 e1];simp;omega
theorem qa6 {t c:Nat}:∀ (n:Nat) (c:Nat),c<=n->c∈ltr rs->∃ r∈ltr rs,r<=c/\mu rs gs t r=mu rs gs t c/\rep rs gs t r=true
 | n,c,hn,hc=>by
  by_cases h:rep rs gs t c=true
  ·exact ⟨c,hc,Nat.le_refl _,rfl,h⟩
  ·have:∃ e∈ltr rs,e < c/\mu rs gs t e=mu rs gs t c:=Classical.byContradiction fun z=>h (rep_iff.mpr fun e he hl y=>z ⟨e,he,hl,y⟩)
   obtain ⟨e,he,hl,hm⟩:=this
   cases n with
   | zero=>omega
   | succ n =>
    obtain ⟨r,h1,h2,h3,h4⟩:=qa6 (t:=t) (c:=c) n e (by omega) he
    exact ⟨r,h1,by omega,h3.trans hm,h4⟩
theorem qez {t c:Nat} (hc:c∈ltr rs) (h:rep rs gs t c=true):rep rs gs (t+1) c=true :=
 rep_iff.mpr fun e he hl z=>rep_iff.mp h e he hl ((mu_succ he hc).mp z).1
theorem qe0 {t:Nat} (h:¬ Stab rs gs t):(ltr rs).countP (rep rs gs t) < (ltr rs).countP (rep rs gs (t+1)):=by
 have:∃ x∈ltr rs,∃ y∈ltr rs,mu rs gs t x=mu rs gs t y/\mu rs gs (t+1) x≠mu rs gs (t+1) y:=Classical.byContradiction fun z=>h fun x hx y hy e=>Classical.byContradiction fun w=>z ⟨x,hx,y,hy,e,w⟩
 obtain ⟨x,hx,y,hy,e,ne⟩:=this
 obtain ⟨r,r1,_,r3,r4⟩:=qa6 (gs:=gs) (t:=t+1) (c:=x) x x (Nat.le_refl _) hx
 obtain ⟨q,q1,_,q3,q4⟩:=qa6 (gs:=gs) (t:=t+1) (c:=y) y y (Nat.le_refl _) hy
 have er:=((mu_succ r1 hx).mp r3).1
 have eq:=((mu_succ q1 hy).mp q3).1
 have erq:mu rs gs t r=mu rs gs t q:=er.trans (e.trans eq.symm)
 have hne:r≠q:=fun z=>ne (by rw [<- r3,<- q3,z])
 refine qa5 (fun c hc=>qez hc) ?_
 rcases Nat.lt_or_ge r q with hl | hl
 ·exact ⟨q,q1,q4,Bool.eq_false_iff.mpr fun z=>rep_iff.mp z r r1 hl erq⟩
 ·exact ⟨r,r1,r4,Bool.eq_false_iff.mpr fun z=>rep_iff.mp z q q1 (by omega) erq.symm⟩
theorem qdk (hG:Good first rs) (hne:ltr rs≠[]):∀ t,(∃ s,s < t/\Stab rs gs s)\/t+1<=(ltr rs).countP (rep rs gs t)
 | 0=>by
  refine .inr ?_
  obtain ⟨c,hc⟩:=List.exists_mem_of_ne_nil _ hne
  obtain ⟨r,h1,_,_,h4⟩:=qa6 (gs:=gs) (t:=0) (c:=c) c c (Nat.le_refl _) hc
  exact List.countP_pos_iff.mpr ⟨r,h1,h4⟩
 | t+1=>by
  rcases qdk hG hne t with ⟨s,h1,h2⟩ | h
  ·exact .inl ⟨s,by omega,h2⟩
  ·by_cases hs:Stab rs gs t
   ·exact .inl ⟨t,by omega,hs⟩
   ·have:=qe0 hs
    exact .inr (by omega)
theorem qe1 (hG:Good first rs) (hne:ltr rs≠[]):Stab rs gs (ltr rs).length:=by
 rcases qdk (gs:=gs) hG hne (ltr rs).length with ⟨s,h1,h2⟩ | h
 ·have:=h2.later hG ((ltr rs).length - s)
  rwa [show s+((ltr rs).length - s)=(ltr rs).length by omega] at this
 ·have:=List.countP_le_length (p:=rep rs gs (ltr rs).length) (l:=ltr rs)
  omega
theorem qdl {t x y:Nat} (hx:x∈ltr rs) (hy:y∈ltr rs):∀ {m:Nat},mu rs gs (t+m) x=mu rs gs (t+m) y->mu rs gs t x=mu rs gs t y
 | 0,h=>h
 | m+1,h=>qdl hx hy (m:=m) ((mu_succ hx hy).mp h).1
theorem mu_of_rl (hG:Good first rs) (nd:gs.flatten.Nodup) (hgs:∀ c∈ltr rs,c∈gs.flatten):∀ {t x y:Nat},x∈ltr rs->y∈ltr rs->Rl rs gs x y->mu rs gs t x=mu rs gs t y
 | 0,x,y,hx,hy,h=>by
  have h1:=(h.step hG hx hy).1
  rw [yg nd (hgs x hx) (hgs y hy)] at h1
  simp only [Bool.or_eq_false_iff,Bool.not_eq_false',decide_eq_true_eq] at h1
  have:=V.int.inj h1.1
  show gix gs x=gix gs y
  omega
 | t+1,x,y,hx,hy,h=>by
  obtain ⟨h1,h2⟩:=h.step hG hx hy
  refine (mu_succ hx hy).mpr ⟨mu_of_rl hG nd hgs hx hy h,map_eq.mpr ⟨Je h1,fun i a b ha hb=>?_⟩⟩
  exact mu_of_rl hG nd hgs (zh hG hx _ (List.mem_of_getElem? ha)) (zh hG hy _ (List.mem_of_getElem? hb)) (h2 (a,b) (List.mem_iff_getElem?.mpr ⟨i,List.getElem?_zip_eq_some.mpr ⟨ha,hb⟩⟩))
theorem qe2 (hG:Good first rs) (nd:gs.flatten.Nodup) (hgs:∀ c∈ltr rs,c∈gs.flatten) {x y:Nat} (hx:x∈ltr rs) (hy:y∈ltr rs) (h:mu rs gs (ltr rs).length x=mu rs gs (ltr rs).length y):Rl rs gs x y:=by
 have hst:=qe1 (gs:=gs) hG (List.ne_nil_of_mem hx)
 refine qdg (S:=fun p=>p.1∈ltr rs/\p.2∈ltr rs/\mu rs gs (ltr rs).length p.1=mu rs gs (ltr rs).length p.2) (fun p ⟨h1,h2,h3⟩=>?_) (fun p ⟨h1,h2,h3⟩ b hb=>?_) ⟨hx,hy,h⟩
 ·have e1:=(mu_succ h1 h2).mp (hst _ h1 _ h2 h3)
  have e0:mu rs gs 0 p.1=mu rs gs 0 p.2:=qdl (t:=0) h1 h2 (m:=(ltr rs).length) (by rw [Nat.zero_add];exact h3)
  have e0':gix gs p.1=gix gs p.2:=e0
  have el:=(map_eq.mp e1.2).1
  rw [yg nd (hgs _ h1) (hgs _ h2),e0',el,decide_eq_true rfl,decide_eq_true rfl]
  rfl
 ·have e1:=(mu_succ h1 h2).mp (hst _ h1 _ h2 h3)
  obtain ⟨i,hi⟩:=List.mem_iff_getElem?.mp hb
  obtain ⟨x1,x2⟩:=List.getElem?_zip_eq_some.mp (show ((wd rs p.1).zip (wd rs p.2))[i]? = some (b.1,b.2) from hi)
  have h5:=Yc hG p ⟨h1,h2⟩ b hb
  exact ⟨h5.1,h5.2,(map_eq.mp e1.2).2 i _ _ x1 x2⟩
theorem Vd {p:Nat->Bool}:∀ {l:List Nat} {d:Nat} (h:l.findIdx p < l.length),l[l.findIdx p]=(l.filter p).headD d
 | a :: l,d,h=>by
  cases e:p a with
  | true =>
   have:(a :: l).findIdx p=0:=by rw [List.findIdx_cons,e];rfl
   simp only [this,List.getElem_cons_zero,List.filter_cons_of_pos e]
   rfl
  | false =>
   have h0:(a :: l).findIdx p=l.findIdx p+1:=by rw [List.findIdx_cons,e];rfl
   have h':l.findIdx p < l.length:=by rw [h0,List.length_cons] at h;omega
   simp only [h0,List.getElem_cons_succ,List.filter_cons_of_neg (show ¬ p a=true by rw [e];decide)]
   exact Vd h'
theorem qj3 (hG:Good first rs) (nd:gs.flatten.Nodup) (hgs:∀ c∈ltr rs,c∈gs.flatten) {c:Nat} (hc:c∈ltr rs):(ltr rs)[mu rs gs (ltr rs).length c]? = some (fst1 rs gs c):=by
 obtain ⟨n,hn⟩:∃ n,(ltr rs).length=n+1:=⟨(ltr rs).length - 1,by have:=List.length_pos_of_mem hc;omega⟩
 have hp:(fun e=>decide (mu rs gs n e=mu rs gs n c/\(wd rs e).map (mu rs gs n)=(wd rs c).map (mu rs gs n)))=fun e=>decide (Eq1 rs gs n e c):=rfl
 have key:∀ e∈ltr rs,(decide (Eq1 rs gs n e c))=(way rs gs c e).isNone:=fun e he=>by
  rw [Bool.eq_iff_iff,decide_eq_true_iff,Option.isNone_iff_eq_none]
  constructor
  ·intro z
   have:=(mu_succ he hc).mpr z
   rw [<- hn] at this
   exact (qe2 hG nd hgs he hc this).symm hG he hc
  ·intro z
   exact (mu_succ he hc).mp (mu_of_rl hG nd hgs he hc (Rl.symm hG hc he z))
 obtain ⟨hl,_⟩:=qhj (gs:=gs) (t:=n) hc
 rw [hn]
 rw [List.getElem?_eq_getElem hl]
 congr 1
 have e1:(ltr rs)[mu rs gs (n+1) c]=((ltr rs).filter fun e=>decide (Eq1 rs gs n e c)).headD c:=Vd (d:=c) hl
 rw [e1]
 unfold fst1 alk
 rw [List.filter_congr key]
end
end Lw
namespace Lw
open PySem L2 PyProof.Rows
structure Gk (first:List Nat) (us rs:List Rule) (gs:List (List Nat)):Prop where
 G:Good first rs
 nd:(ltr us).Nodup
 u8:us.length<=8
 L:Like us rs
 gl:gs.length<=30
 gp:gs.flatten.Perm (ltr rs)
theorem Gk.get {first:List Nat} {us rs:List Rule} {gs:List (List Nat)} (h:Gk first us rs gs) {H:Hp} {d:Addr} (hd:H d=some (.dK (kvw us))) {c:Nat} (hc:c∈ltr rs):DGet H d (sign c) (some (tx (wd rs c))):=by
 have hcu:=(h.L.mem c).mp hc
 have:=DGet.k (k:=(Sum.inr (one c):Key)) hd
 rw [za h.nd hcu,<- h.L.wd c hcu] at this
 exact this
theorem Gk.fin {first:List Nat} {us rs:List Rule} {gs:List (List Nat)} (h:Gk first us rs gs) {c:Nat} (hc:c∈ltr rs):c∈gs.flatten:=h.gp.mem_iff.mpr hc
theorem Gk.fnd {first:List Nat} {us rs:List Rule} {gs:List (List Nat)} (h:Gk first us rs gs):gs.flatten.Nodup:=h.gp.nodup_iff.mpr h.G.nd
theorem seq_cmp {te:TE} {n:Nat} {u:L2.TS} {D:Ends} {σ:L2.St} {H:Hp} (h:te σ H fun v H1=>u D (List.set σ n (some v)) H1):tSeq (fun D σ H=>te σ H fun v H1=>D.nx (List.set σ n (some v)) H1) u D σ H:=h
theorem qe3 {A:List (Key × V)} {k:Key} {x y:V} (h:valV A k=none):putK (A++[(k,x)]) k y=A++[(k,y)]:=by
 have hA:∀ q∈A,q.1≠k:=fun q hq e=>by
  unfold valV at h
  cases z:A.find? (fun kv=>decide (kv.1=k)) with
  | none=>exact absurd (decide_eq_true e) (List.find?_eq_none.mp z q hq)
  | some r=>rw [z] at h;cases h
 unfold putK
 rw [if_pos (by rw [List.any_append];simp)]
 rw [List.map_append]
 congr 1
 ·conv=>rhs;rw [<- List.map_id A]
  refine List.map_congr_left fun q hq=>?_
  simp [hA q hq]
 ·simp
theorem qe4 {L:List Nat} {f:Nat->Nat} {c:Nat} (h:c ∉ L):valV (kvf L f) (kc c)=none:=by
 unfold valV kvf
 cases z:(L.map fun c=>(kc c,sign (f c))).find? (fun kv=>decide (kv.1=kc c)) with
 | none=>rfl
 | some r =>
  have h1:=List.mem_of_find?_eq_some z
  have h2:r.1=kc c:=by have:=List.find?_some z;exact of_decide_eq_true this
  obtain ⟨e,he,rfl⟩:=List.mem_map.mp h1
  have:e=c:=by have:=Sum.inr.inj h2;simpa [one] using this
  exact absurd (this ▸ he) h
theorem qhk {L:List Nat} {f:Nat->Nat} (nd:L.Nodup) {i c:Nat} (e:L[i]? = some c):putK (kvf (L.take i) f) (kc c) (sign (f c))=kvf (L.take (i+1)) f:=by
 rw [yv _ (qe4 (not_taken nd e))]
 unfold kvf
 rw [List.take_add_one,e,List.map_append]
 rfl
theorem mu_eq {rs:List Rule} {gs:List (List Nat)} {t c v:Nat} (hv:v < (ltr rs).length) (h1:Eq1 rs gs t (ltr rs)[v] c) (h2:∀ p (hp:p < v),¬ Eq1 rs gs t ((ltr rs)[p]'(by omega)) c):mu rs gs (t+1) c=v:=by
 show (ltr rs).findIdx _=v
 rw [List.findIdx_eq hv]
 exact ⟨decide_eq_true h1,fun j hj=>decide_eq_false (h2 j hj)⟩
theorem marks_read {s0 s1 s3 s4 s5 s6 s7 s8 s9 s10 s11 s12:Option V} {H:Hp} {Q:VK} {te:TE} {m:Addr} {kv:List (Key × V)} {L:List Nat} {f:Nat->Nat} {x:List Nat} (hm:H m=some (.dK kv)) (hv:∀ c∈L,valV kv (kc c)=some (.int (f c:Int))) (hx:∀ c∈x,c∈L) (hl:x.length<=6)
  (hte:∀ R:V->Hp->Prop,R (tx x) H->te [s0,s1,some (.ref m),s3,s4,s5,s6,s7,s8,s9,s10,s11,s12] H R) (k:∀ D,H D=none->Q (.ref D) (upd H D (.lst ((x.map fun c=>(f c:Int)).map V.int)))) :
  tComp [none,some 2] (iStr te) (gName 0) tAll (tDGet (tVar 1) (tVar 0)) [s0,s1,some (.ref m),s3,s4,s5,s6,s7,s8,s9,s10,s11,s12] H Q:=by
 refine hte _ ⟨⟨x.toArray⟩,rfl,?_⟩
 have el:((⟨x.toArray⟩:Str).cps.toList.map sign).length=x.length:=by simp
 refine qu (R:=fun D ys H=>Q (.ref D) (upd H D (.lst ys))) (τ0:=[none,some (.ref m)]) (jr (x:=⟨x.toArray⟩)) (by rw [el];omega)
  (fun i ys τ Hx=>Hx=H/\(∃ v,τ=[v,some (.ref m)])/\ys=((x.take i).map fun c=>(f c:Int)).map V.int) ⟨rfl,⟨_,rfl⟩,rfl⟩ ?_ ?_ ?_
 ·rintro i ys τ Hx hi ⟨rfl,_,rfl⟩
  refine ⟨trivial,?_⟩
  rw [List.length_map,List.length_map,List.length_take]
  omega
 ·rintro i y ys τ Hx hy ⟨rfl,⟨v,rfl⟩,rfl⟩
  have hy':(x.map sign)[i]? = some y:=hy
  rw [List.getElem?_map] at hy'
  cases e:x[i]? with
  | none=>rw [e] at hy';cases hy'
  | some c =>
   rw [e] at hy'
   cases hy'
   have g1:=DGet.k (k:=kc c) hm
   rw [hv c (hx c (List.mem_of_getElem? e))] at g1
   refine ⟨_,rfl,_,rfl,m,_,rfl,g1,rfl,⟨_,rfl⟩,?_⟩
   rw [jc (fun c=>(f c:Int)) e,List.map_append]
   rfl
 ·rintro ys τ Hx D ⟨rfl,_,rfl⟩ nD
  rw [el,List.take_length]
  exact k D nD
section
variable {P:Program} {w:World} {K:W.Frag} {mg:Str->Option Value} {base:Heap}
def spHds (K:W.Frag):Sp:=fun vs H Q _=>∃ (d g:Addr) (first:List Nat) (us rs:List Rule) (gs:List (List Nat)),vs=[.ref d,.ref g]/\H d=some (.dK (kvw us))/\H g=some (.lst (gs.map tx))/\Gk first us rs gs /\
 ∀ e H',Same H H'->H e=none->H' e=some (.dK (kvf (ltr rs) (fst1 rs gs)))->Q (.ref e) H'
theorem scHds:FnScope ["_law_words_here","_law_groups","_law_marks","_law_at","_law_group","_law_sign","_law_signs","_law_time","_law_fresh","_law_mine","_law_place","_law_other","_law_heads_here"] ["_law_words_here","_law_groups"] (defScope sHds):=⟨rfl,rfl,rfl,by decide +kernel,rfl,by decide +kernel,by decide +kernel⟩
theorem qhl:(["_law_one","_law_marks"]:List Str).Nodup:=by decide +kernel
theorem qhm:(["_law_one","_law_marks"]:List Str).Nodup:=by decide +kernel
theorem qj4 {f:Addr} {fd:FuncData} (F:Fun K "_law_heads" "_law_heads" sHds f fd)
  (hlen:mg "len" = none)
  (hrange:mg "range" = none)
  (henumerate:mg "enumerate" = none)
  (hlist:mg "list" = none)
  (hsorted:mg "sorted" = none)
  : FnOk P w K mg base CX0 1 f fd ["_law_words_here","_law_groups"] (spHds K):=by
 refine F.ok scHds (fun vs H Q E h=>?_) (fun cdv A outer s H vs Q E hr h=>?_)
 ·obtain ⟨d,g,first,us,rs,gs,rfl,_⟩:=h
  rfl
 ·obtain ⟨d,g,first,us,rs,gs,rfl,hd,hg,hK,k⟩:=h
  have hu:=zo hr
  refine ⟨_,(qd (qj (i:=2) scHds.nd rfl (Or.inr rfl) zd)
   (qd (jy PassesOwn.never rfl (yy K rfl henumerate (qa (pv 1) qb)) (vz K (n:=2) rfl (jf (qi (i:=3) scHds.nd rfl (Or.inl rfl)) (jf (qi (i:=4) scHds.nd rfl (Or.inl rfl)) vv))) (qg (jy PassesOwn.never rfl (vh (pv 4)) (qi (i:=5) scHds.nd rfl (Or.inl rfl)) (qg (vn hu (pv 2) (pv 5) (pv 3) rfl)))))
   (qd (qj (i:=6) scHds.nd rfl (Or.inl rfl) (qm (Ju K) (by rfl) hsorted PyProof.Rows.boot_sorted (qa (jb (zk rfl) (by rfl) hlist (by first | exact PySem.boot_list | decide +kernel) (qa (pv 0) qb)) qb)))
   (qd (jy PassesOwn.never rfl (jx rfl hrange (qa (qm (jn K) (by rfl) hlen PySem.boot_len (qa (pv 6) qb)) qb)) (qi (i:=7) scHds.nd rfl (Or.inl rfl)) (qd (qj (i:=8) scHds.nd rfl (Or.inl rfl) zd)
   (qd (jy PassesOwn.never rfl (yy K rfl henumerate (qa (pv 6) qb)) (vz K (n:=2) rfl (jf (qi (i:=3) scHds.nd rfl (Or.inl rfl)) (jf (qi (i:=5) scHds.nd rfl (Or.inl rfl)) vv))) (qd (yo (i:=9) (N':=["_law_one","_law_marks"]) (ix:=[none,some 2]) scHds.nd rfl rfl rfl rfl (vh (qq hu (pv 0) (pv 5) (fun _ _=>rfl))) (fun _ _ _ _ _ _=>(qi (i:=0) qhl rfl (Or.inl rfl))) (fun _ _ _ _ _ _=>qv) (fun _ _ _ _ _ _=>(qq hu (pv 1) (pv 0) (fun _ _=>rfl))))
   (qd (vn hu (pv 8) (pv 5) (pv 3) rfl)
   (qg (jy PassesOwn.never rfl (qcx rfl hrange (qa (je Y8 (pv 3) qf) (qa (Yg Jk qf) (qa (Yg Jk qf) qb)))) (qi (i:=10) scHds.nd rfl (Or.inl rfl)) (qd (qj (i:=11) scHds.nd rfl (Or.inl rfl) (pe_ix (qy K) (pv 6) (pv 10) (fun _ _=>rfl)))
   (qg (vm (PW.pt (Y6 (qz qbc (qq hu (pv 2) (pv 11) (fun _ _=>rfl)) (qq hu (pv 2) (pv 5) (fun _ _=>rfl)) (nomark _)) (Vw (qz (qef K hr.units) (qx (N':=["_law_one","_law_marks"]) (ix:=[none,some 2]) rfl rfl (vh (qq hu (pv 0) (pv 11) (fun _ _=>rfl))) (fun _ _ _ _ _ _=>(qi (i:=0) qhm rfl (Or.inl rfl))) (fun _ _ _ _ _ _=>qv) (fun _ _ _ _ _ _=>(qq hu (pv 1) (pv 0) (fun _ _=>rfl)))) (pv 9) (nomark _))))) (qg (vn hu (pv 8) (pv 5) (pv 10) rfl)) jh))))))))
   (qg (qj (i:=2) scHds.nd rfl (Or.inr rfl) (pv 8))))))
   (qd (qj (i:=12) scHds.nd rfl (Or.inl rfl) zd)
   (qd (jy PassesOwn.never rfl (jk K (pv 6)) (qi (i:=5) scHds.nd rfl (Or.inl rfl)) (qg (vn hu (pv 12) (pv 5) (pe_ix (qy K) (pv 6) (qq hu (pv 2) (pv 5) (fun _ _=>rfl)) (fun _ _=>rfl)) rfl)))
   (qg (qp (pv 12))))))))),?_⟩
  have hG:=hK.G
  have e8:(ltr rs).length<=8:=by rw [ltr_len];exact hG.few
  have hx:∀ x∈gs,x.length<=30:=fun x hx=>by
   have h1:=(List.sublist_flatten_of_mem hx).length_le
   have h2:=hK.gp.length_eq
   omega
  intro m nm
  have up:∀ {H5:Hp} {z:List (Key × V)},Same H H5->Same H (upd H5 m (.dK z)):=fun s5 c o h=>by rw [qe (ne_of_none h nm)];exact s5 _ _ h
  dsimp only [gName]
  refine seq_by (fun σ H4=>Same H H4/\H4 m=some (.dK (gdk gs))/\∃ v3 v4 v5,σ=[some (.ref d),some (.ref g),some (.ref m),v3,v4,v5,none,none,none,none,none,none,none]) (fun nx hn=>?_) ?_
  ·refine ⟨_,rfl,g,rfl,⟨_,SqL.of (Same.add nm _ _ hg)⟩,?_⟩
   refine Jq (sure_enum (xs:=gs.map tx)) (fun i σ H4=>Same H H4/\H4 m=some (.dK (gdkN gs i))/\∃ v3 v4 v5,σ=[some (.ref d),some (.ref g),some (.ref m),v3,v4,v5,none,none,none,none,none,none,none])
    ⟨Same.add nm,upd_same,_,_,_,rfl⟩ ?_ ?_ ?_
   ·rintro i σ H4 hi ⟨s4,_⟩
    exact SqL.of (s4 _ _ hg)
   ·rintro i zs σ H4 T hz ⟨s4,hd4,v2,v3,v4,rfl⟩ hT
    rw [List.getElem?_map] at hz
    cases ez:(gs.map tx).zipIdx[i]? with
    | none=>rw [ez] at hz;cases hz
    | some pr =>
     rw [ez] at hz
     cases hz
     rw [List.getElem?_zipIdx,List.getElem?_map] at ez
     cases ec:gs[i]? with
     | none=>rw [ec] at ez;cases ez
     | some x =>
      rw [ec] at ez
      have ez':pr=(tx x,i):=by rw [<- Option.some.inj ez,Nat.zero_add]
      subst ez'
      have hil:i < gs.length:=(List.getElem?_eq_some_iff.mp ec).1
      have hx30:=hx x (List.mem_of_getElem? ec)
      have hgl:=hK.gl
      refine ⟨T,_,rfl,SqT.of upd_same,rfl,_,_,rfl,_,_,rfl,rfl,?_⟩
      have sT:=Same.add (o:=.tup [V.int (i:Int),tx x]) hT
      have hl4:=Zd hx i
      refine ⟨_,rfl,⟨x.toArray⟩,rfl,?_⟩
      refine for_by (jr (x:=⟨x.toArray⟩)) (fun j σ H5=>Same H H5/\H5 m=some (.dK (gputs (gdkN gs i) i (x.take j)))/\∃ v4,σ=[some (.ref d),some (.ref g),some (.ref m),some (.int (i:Int)),some (tx x),v4,none,none,none,none,none,none,none])
       ⟨s4.trans sT,by rw [List.take_zero];exact sT _ _ hd4,_,rfl⟩ (fun _ _ _ _ _=>trivial) ?_ ?_
      ·rintro j y σ H5 hy ⟨s5,hd5,v4,rfl⟩
       have hy':(x.map sign)[j]? = some y:=hy
       rw [List.getElem?_map] at hy'
       cases ej:x[j]? with
       | none=>rw [ej] at hy';cases hy'
       | some c =>
        rw [ej] at hy'
        obtain rfl:sign c=y:=Option.some.inj hy'
        have h9:=ye i (x.take j) (gdkN gs i)
        refine ⟨_,rfl,_,rfl,_,rfl,m,_,rfl,DPut.k (k:=kc c) hd5 (small1000 (by rw [List.length_take] at h9;omega)),up s5,?_,_,rfl⟩
        rw [upd_same,<- Vu,List.take_add_one,ej]
        rfl
      ·rintro σ H5 ⟨s5,hd5,v4,rfl⟩
       refine ⟨s5,?_,_,_,_,rfl⟩
       have e1:((⟨x.toArray⟩:Str).cps.toList.map sign).length=x.length:=by simp
       rw [e1,List.take_length] at hd5
       rw [hd5]
       show _=some (HO.dK (gputs (gdkN gs i) i (gs.getD i [])))
       rw [List.getD_eq_getElem?_getD,ec]
       rfl
   ·rintro σ H4 ⟨s4,hd4,v2,v3,v4,rfl⟩
    refine hn _ _ ⟨s4,?_,_,_,_,rfl⟩
    rw [hd4]
    unfold gdk
    simp
  rintro σ H4 ⟨s4,hm4,v3,v4,v5,rfl⟩
  have es:∀ xs:List Nat,(xs.map one).map V.str=xs.map sign:=fun xs=>by rw [List.map_map];rfl
  refine ⟨_,rfl,d,kvw us,(ltr us).map one,rfl,s4 _ _ hd,qau us,fun l nl=>?_⟩
  rw [es]
  have s1:=Same.add (o:=.lst ((ltr us).map sign)) nl
  refine ⟨l,false,(ltr us).map one,rfl,(by show SqL K _ l _;rw [es];exact SqL.of upd_same),by have:=hK.u8;rw [List.length_map,ltr_len];omega,fun l2 ss' hl2 hperm hsort=>?_⟩
  obtain ⟨cs,hp',rfl⟩:=Jw hperm
  rw [es]
  have ecs:cs=ltr rs:=Yz (Jv hsort (hp'.nodup_iff.mpr hK.nd)) hG.rise fun e=>hp'.mem_iff.trans (hK.L.mem e).symm
  subst ecs
  have s2:=Same.add (o:=.lst ((ltr rs).map sign)) hl2
  have s5:=s4.trans (s1.trans s2)
  have hl5:=upd_same (H:=upd H4 l (.lst ((ltr us).map sign))) (a:=l2) (o:=.lst ((ltr rs).map sign))
  have hm5:=(s1.trans s2) _ _ hm4
  revert s5 hl5 hm5
  generalize upd (upd H4 l (.lst ((ltr us).map sign))) l2 (.lst ((ltr rs).map sign))=H5
  intro s5 hl5 hm5
  have hv0:∀ c∈ltr rs,valV (gdk gs) (kc c)=some (.int (mu rs gs 0 c:Int)):=fun c hc=>Vc hK.fnd (hK.fin hc)
  have el:((ltr rs).map sign).length=(ltr rs).length:=List.length_map _
  clear hperm hsort hp' s1 s2 hl2 nl s4 hm4
  dsimp only [gName]
  refine seq_by (fun σ H6=>Same H H6/\∃ (m:Addr) (kv:List (Key × V)) (v3 v4 v5 v7 v8 v9 v10 v11:Option V),H6 m=some (.dK kv)/\(∀ c∈ltr rs,valV kv (kc c)=some (.int (mu rs gs (ltr rs).length c:Int)))/\H6 l2=some (.lst ((ltr rs).map sign))/\σ=[some (.ref d),some (.ref g),some (.ref m),v3,v4,v5,some (.ref l2),v7,v8,v9,v10,v11,none]) (fun nx hn=>?_) ?_
  ·refine ⟨_,rfl,l2,_,rfl,.inl (SqL.of hl5),_,rfl,by rw [el];omega,by rw [el];omega,?_⟩
   rw [el]
   refine for_by (ji (lo:=0) (n:=Int.toNat ((ltr rs).length:Int))) (fun t σ H6=>Same H H6/\∃ (m:Addr) (kv:List (Key × V)) (v3 v4 v5 v7 v8 v9 v10 v11:Option V),H6 m=some (.dK kv)/\(∀ c∈ltr rs,valV kv (kc c)=some (.int (mu rs gs t c:Int)))/\H6 l2=some (.lst ((ltr rs).map sign))/\σ=[some (.ref d),some (.ref g),some (.ref m),v3,v4,v5,some (.ref l2),v7,v8,v9,v10,v11,none])
    ⟨s5,m,_,_,_,_,_,_,_,_,_,hm5,hv0,hl5,rfl⟩ (fun _ _ _ _ _=>trivial) ?_ ?_
   ·clear hm5 hl5 hv0 s5 up nm m
    rintro t y σ H6 hy ⟨s6,m,kv,v3,v4,v5,v7,v8,v9,v10,v11,hm6,hv,hl6,rfl⟩
    obtain ⟨_,rfl⟩:=Vt hy
    intro f nf
    have nf0:H f=none:=s6.free nf
    have sf:=Same.add (o:=.dK []) nf
    have s7:=s6.trans sf
    have hf7:=upd_same (H:=H6) (a:=f) (o:=.dK [])
    have hm7:=sf _ _ hm6
    have hl7:=sf _ _ hl6
    have nmf:m≠f:=ne_of_none hm6 nf
    have nlf:l2≠f:=ne_of_none hl6 nf
    revert s7 hf7 hm7 hl7
    generalize upd H6 f (.dK [])=H7
    intro s7 hf7 hm7 hl7
    have upf:∀ {H8:Hp} {z:List (Key × V)},Same H H8->Same H (upd H8 f (.dK z)):=fun s8 c o h=>by rw [qe (ne_of_none h nf0)];exact s8 _ _ h
    clear sf nf s6 hm6 hl6
    dsimp only [gName]
    refine seq_by (fun σ H8=>Same H H8/\H8 f=some (.dK (dkF (ltr rs) fun c=>(mu rs gs (t+1) c:Int)))/\H8 l2=some (.lst ((ltr rs).map sign))/\∃ v3 v5 v7 v9 v10 v11,σ=[some (.ref d),some (.ref g),some (.ref m),v3,v4,v5,some (.ref l2),v7,some (.ref f),v9,v10,v11,none]) (fun nx hn=>?_) ?_
    ·refine ⟨_,rfl,l2,rfl,⟨_,SqL.of hl7⟩,?_⟩
     refine Jq (sure_enum (xs:=(ltr rs).map sign)) (fun i σ H8=>Same H H8/\H8 f=some (.dK (dkF ((ltr rs).take i) fun c=>(mu rs gs (t+1) c:Int)))/\H8 l2=some (.lst ((ltr rs).map sign))/\H8 m=some (.dK kv)/\∃ v3 v5 v7 v9 v10 v11,σ=[some (.ref d),some (.ref g),some (.ref m),v3,v4,v5,some (.ref l2),v7,some (.ref f),v9,v10,v11,none])
      ⟨s7,hf7,hl7,hm7,_,_,_,_,_,_,rfl⟩ ?_ ?_ ?_
     ·rintro i σ H8 hi ⟨_,_,hl8,_⟩
      exact SqL.of hl8
     ·rintro i zs σ H8 T hz ⟨s8,hf8,hl8,hm8,v3,v5,v7,v9,v10,v11,rfl⟩ hT
      rw [List.getElem?_map] at hz
      cases ez:((ltr rs).map sign).zipIdx[i]? with
      | none=>rw [ez] at hz;cases hz
      | some pr =>
       rw [ez] at hz
       cases hz
       rw [List.getElem?_zipIdx,List.getElem?_map] at ez
       cases ec:(ltr rs)[i]? with
       | none=>rw [ec] at ez;cases ez
       | some c =>
        rw [ec] at ez
        have ez':pr=(sign c,i):=by rw [<- Option.some.inj ez,Nat.zero_add]
        subst ez'
        obtain ⟨hil,ec2⟩:=List.getElem?_eq_some_iff.mp ec
        have hc:=List.mem_of_getElem? ec
        refine ⟨T,_,rfl,SqT.of upd_same,rfl,_,_,rfl,_,_,rfl,rfl,?_⟩
        have sT:=Same.add (o:=.tup [V.int (i:Int),sign c]) hT
        have s9:=s8.trans sT
        have hf9:=sT _ _ hf8
        have hl9:=sT _ _ hl8
        have hm9:=sT _ _ hm8
        revert s9 hf9 hl9 hm9
        generalize upd H8 T (.tup [V.int (i:Int),sign c])=H9
        intro s9 hf9 hl9 hm9
        dsimp only [gName]
        refine seq_cmp ?_
        refine marks_read (x:=wd rs c) (f:=mu rs gs t) hm9 hv (zh hG hc) (Zc hG hc) (fun R hR=>⟨_,rfl,_,rfl,d,_,rfl,hK.get (s9 _ _ hd) hc,hR⟩) fun M nM=>?_
        have sM:=Same.add (o:=.lst (((wd rs c).map fun c=>(mu rs gs t c:Int)).map V.int)) nM
        have hM:=upd_same (H:=H9) (a:=M) (o:=.lst (((wd rs c).map fun c=>(mu rs gs t c:Int)).map V.int))
        have sA:=s9.trans sM
        have hfA:=sM _ _ hf9
        have hlA:=sM _ _ hl9
        have hmA:=sM _ _ hm9
        have nMf:M≠f:=(ne_of_none hf9 nM).symm
        revert hM sA hfA hlA hmA
        generalize upd H9 M (.lst (((wd rs c).map fun c=>(mu rs gs t c:Int)).map V.int))=HA
        intro hM sA hfA hlA hmA
        have hno:valV (dkF ((ltr rs).take i) fun c=>(mu rs gs (t+1) c:Int)) (kc c)=none:=qav (not_taken hG.nd ec)
        have hlen:(dkF ((ltr rs).take i) fun c=>(mu rs gs (t+1) c:Int)).length<=8:=by rw [qg1,List.length_take];omega
        show tSeq (sDPut _ _ _) _ _ _ _
        refine ⟨_,rfl,_,rfl,_,rfl,f,_,rfl,DPut.k (k:=kc c) hfA (small1000 (by omega)),?_⟩
        rw [yv _ hno]
        have sB:=upf (z:=(dkF ((ltr rs).take i) fun c=>(mu rs gs (t+1) c:Int))++[(kc c,V.int (i:Int))]) sA
        have hfB:=upd_same (H:=HA) (a:=f) (o:=.dK ((dkF ((ltr rs).take i) fun c=>(mu rs gs (t+1) c:Int))++[(kc c,V.int (i:Int))]))
        have hlB:upd HA f (.dK ((dkF ((ltr rs).take i) fun c=>(mu rs gs (t+1) c:Int))++[(kc c,V.int (i:Int))])) l2=some (.lst ((ltr rs).map sign)):=by rw [qe nlf];exact hlA
        have hmB:upd HA f (.dK ((dkF ((ltr rs).take i) fun c=>(mu rs gs (t+1) c:Int))++[(kc c,V.int (i:Int))])) m=some (.dK kv):=by rw [qe nmf];exact hmA
        have hMB:upd HA f (.dK ((dkF ((ltr rs).take i) fun c=>(mu rs gs (t+1) c:Int))++[(kc c,V.int (i:Int))])) M=some (.lst (((wd rs c).map fun c=>(mu rs gs t c:Int)).map V.int)):=by rw [qe nMf];exact hM
        revert sB hfB hlB hmB hMB
        generalize upd HA f (.dK ((dkF ((ltr rs).take i) fun c=>(mu rs gs (t+1) c:Int))++[(kc c,V.int (i:Int))]))=HB
        intro sB hfB hlB hmB hMB
        clear hfA hlA hmA hM sA hf9 hl9 hm9 s9 nM sM hf8 hl8 hm8 s8 hT sT
        refine ⟨_,rfl,_,_,rfl,rfl,_,rfl,_,rfl,_,_,rfl,⟨by omega,by omega,by omega,by omega⟩,?_⟩
        have en:(((i:Int) - 1) - (-1)).toNat=i:=by omega
        refine for_by (qcv (hi:=(i:Int) - 1) (n:=(((i:Int) - 1) - (-1)).toNat)) (fun j σ HC=>Same H HC/\HC l2=some (.lst ((ltr rs).map sign))/\HC m=some (.dK kv)/\HC M=some (.lst (((wd rs c).map fun c=>(mu rs gs t c:Int)).map V.int))/\(∃ v:Nat,HC f=some (.dK ((dkF ((ltr rs).take i) fun c=>(mu rs gs (t+1) c:Int))++[(kc c,V.int (v:Int))]))/\v<=i/\(∃ hv:v < (ltr rs).length,Eq1 rs gs t (ltr rs)[v] c)/\∀ q (hq:q < (ltr rs).length),i<=q+j->q < v->¬ Eq1 rs gs t (ltr rs)[q] c)/\∃ v10 v11,σ=[some (.ref d),some (.ref g),some (.ref m),some (.int (i:Int)),v4,some (sign c),some (.ref l2),v7,some (.ref f),some (.ref M),v10,v11,none])
         ⟨sB,hlB,hmB,hMB,⟨i,hfB,Nat.le_refl _,⟨hil,by rw [ec2];exact ⟨rfl,rfl⟩⟩,fun q hq h1 h2=>by omega⟩,_,_,rfl⟩ (fun _ _ _ _ _=>trivial) ?_ ?_
        ·rintro j y σ HC hy ⟨sC,hlC,hmC,hMC,⟨v,hfC,hvi,⟨hvl,hve⟩,hvn⟩,v10,v11,rfl⟩
         have hj:j < i:=by
          have:=(List.getElem?_eq_some_iff.mp hy).1
          rw [dwnV_length,en] at this
          exact this
         obtain rfl:y=.int ((i - 1 - j:Nat):Int):=by
          unfold dwnV at hy
          rw [List.getElem?_map,List.getElem?_range (by omega)] at hy
          rw [<- Option.some.inj hy]
          show V.int ((i:Int) - 1 - (j:Int))=_
          congr 1
          omega
         have hql:i - 1 - j < (ltr rs).length:=by omega
         obtain ⟨o,eo⟩:∃ o,(ltr rs)[i - 1 - j]'hql=o:=⟨_,rfl⟩
         have eqq:(ltr rs)[i - 1 - j]? = some o:=by rw [List.getElem?_eq_getElem hql,eo]
         have ho:o∈ltr rs:=List.mem_of_getElem? eqq
         refine ⟨_,rfl,_,rfl,l2,_,_,_,rfl,rfl,SqL.of hlC,atI_nat (by rw [List.getElem?_map,eqq];rfl),?_⟩
         have keep:¬ Eq1 rs gs t o c->∀ q (hq:q < (ltr rs).length),i<=q+(j+1)->q < v->¬ Eq1 rs gs t (ltr rs)[q] c:=fun hno q hq h1 h2=>by
          by_cases z:q=i - 1 - j
          ·subst z;rw [eo];exact hno
          ·exact hvn q hq (by omega) h2
         have g1:=DGet.k (k:=kc o) hmC
         have g2:=DGet.k (k:=kc c) hmC
         rw [hv o ho] at g1
         rw [hv c hc] at g2
         dsimp only [gName]
         refine ⟨_,rfl,_,rfl,m,_,rfl,g1,_,rfl,_,rfl,m,_,rfl,g2,rfl,_,rfl,ite2 (fun h1=>?_) (fun h1=>?_)⟩
         ·have hmu:mu rs gs t o=mu rs gs t c:=by have:=V.int.inj (of_decide_eq_true h1);omega
          unfold tTest tOp
          dsimp only [List.set]
          refine marks_read (x:=wd rs o) (f:=mu rs gs t) hmC hv (zh hG ho) (Zc hG ho) (fun R hR=>⟨_,rfl,_,rfl,d,_,rfl,hK.get (sC _ _ hd) ho,hR⟩) fun N nN=>?_
          have sN:=Same.add (o:=.lst (((wd rs o).map fun c=>(mu rs gs t c:Int)).map V.int)) nN
          refine ⟨_,rfl,N,M,_,_,rfl,rfl,SqL.of upd_same,SqL.of (sN _ _ hMC),_,rfl,?_⟩
          have hcast:((wd rs o).map fun c=>(mu rs gs t c:Int))=((wd rs c).map fun c=>(mu rs gs t c:Int)) ↔ (wd rs o).map (mu rs gs t)=(wd rs c).map (mu rs gs t):=by
           have e1:∀ l:List Nat,(l.map fun c=>(mu rs gs t c:Int))=(l.map (mu rs gs t)).map fun n:Nat=>(n:Int):=fun l=>by rw [List.map_map];rfl
           rw [e1,e1]
           exact List.map_inj_right fun a b h=>by omega
          by_cases hw:(wd rs o).map (mu rs gs t)=(wd rs c).map (mu rs gs t)
          ·rw [decide_eq_true (hcast.mpr hw)]
           have hE:Eq1 rs gs t o c:=⟨hmu,hw⟩
           refine iteT ⟨_,rfl,_,rfl,_,rfl,f,_,rfl,DPut.k (k:=kc c) (sN _ _ hfC) (small1000 (by rw [List.length_append];show _+1<=_;omega)),?_⟩
           rw [qe3 hno]
           exact ⟨upf (sC.trans sN),by rw [qe nlf];exact sN _ _ hlC,by rw [qe nmf];exact sN _ _ hmC,by rw [qe nMf];exact sN _ _ hMC,⟨i - 1 - j,upd_same,by omega,⟨hql,by rw [eo];exact hE⟩,fun q hq h1 h2=>by omega⟩,_,_,rfl⟩
          ·rw [decide_eq_false fun z=>hw (hcast.mp z)]
           exact iteF ⟨sC.trans sN,sN _ _ hlC,sN _ _ hmC,sN _ _ hMC,⟨v,sN _ _ hfC,hvi,⟨hvl,hve⟩,keep fun z=>hw z.2⟩,_,_,rfl⟩
         ·refine iteF ⟨sC,hlC,hmC,hMC,⟨v,hfC,hvi,⟨hvl,hve⟩,keep fun z=>h1 (decide_eq_true (by rw [z.1]))⟩,_,_,rfl⟩
        ·rintro σ HC ⟨sC,hlC,hmC,hMC,⟨v,hfC,hvi,⟨hvl,hve⟩,hvn⟩,v10,v11,rfl⟩
         rw [dwnV_length,en] at hvn
         have hmv:mu rs gs (t+1) c=v:=mu_eq hvl hve fun q hq=>hvn q (by omega) (by omega) hq
         refine ⟨sC,?_,hlC,hmC,_,_,_,_,_,_,rfl⟩
         rw [hfC,qeq _ ec,hmv]
     ·rintro σ H8 ⟨s8,hf8,hl8,hm8,v3,v5,v7,v9,v10,v11,rfl⟩
      refine hn _ _ ⟨s8,?_,hl8,_,_,_,_,_,_,rfl⟩
      rw [hf8]
      simp
    rintro σ H8 ⟨s8,hf8,hl8,v3,v5,v7,v9,v10,v11,rfl⟩
    exact ⟨_,rfl,s8,f,_,_,_,_,_,_,_,_,_,hf8,fun c hc=>qde hc,hl8,rfl⟩
   ·rintro σ H6 ⟨s6,m,kv,v3,v4,v5,v7,v8,v9,v10,v11,hm6,hv,hl6,rfl⟩
    rw [rngV_length] at hv
    exact hn _ _ ⟨s6,m,kv,_,_,_,_,_,_,_,_,hm6,by simpa using hv,hl6,rfl⟩
  rintro σ H6 ⟨s6,m,kv,v3,v4,v5,v7,v8,v9,v10,v11,hm6,hv,hl6,rfl⟩
  intro e ne
  have ne0:H e=none:=s6.free ne
  have se:=Same.add (o:=.dK []) ne
  have upe:∀ {H8:Hp} {z:List (Key × V)},Same H6 H8->Same H6 (upd H8 e (.dK z)):=fun s8 c o h=>by rw [qe (ne_of_none h ne)];exact s8 _ _ h
  dsimp only [gName]
  refine seq_by (fun σ H8=>Same H6 H8/\H8 e=some (.dK (kvf (ltr rs) (fst1 rs gs)))/\∃ v5,σ=[some (.ref d),some (.ref g),some (.ref m),v3,v4,v5,some (.ref l2),v7,v8,v9,v10,v11,some (.ref e)]) (fun nx hn=>?_) ?_
  ·refine ⟨_,rfl,l2,rfl,⟨_,SqL.of (se _ _ hl6)⟩,?_⟩
   refine for_by (sure_list (xs:=(ltr rs).map sign)) (fun i σ H8=>Same H6 H8/\H8 e=some (.dK (kvf ((ltr rs).take i) (fst1 rs gs)))/\∃ v5,σ=[some (.ref d),some (.ref g),some (.ref m),v3,v4,v5,some (.ref l2),v7,v8,v9,v10,v11,some (.ref e)])
    ⟨se,upd_same,_,rfl⟩ ?_ ?_ ?_
   ·rintro i σ H8 hi ⟨s8,_⟩
    exact SqL.of (s8 _ _ hl6)
   ·rintro i y σ H8 hy ⟨s8,he8,v5,rfl⟩
    rw [List.getElem?_map] at hy
    cases ec:(ltr rs)[i]? with
    | none=>rw [ec] at hy;cases hy
    | some c =>
     rw [ec] at hy
     cases hy
     have hc:=List.mem_of_getElem? ec
     have hil:i < (ltr rs).length:=(List.getElem?_eq_some_iff.mp ec).1
     have g1:=DGet.k (k:=kc c) (s8 _ _ hm6)
     rw [hv c hc] at g1
     refine ⟨_,rfl,_,rfl,_,rfl,m,_,rfl,g1,l2,_,_,_,rfl,rfl,SqL.of (s8 _ _ hl6),atI_nat (by rw [List.getElem?_map,qj3 hG hK.fnd (fun c hc=>hK.fin hc) hc];rfl),_,rfl,_,rfl,e,_,rfl,DPut.k (k:=kc c) he8 (small1000 (by rw [kvf_len,List.length_take];omega)),?_⟩
     rw [qhk hG.nd ec]
     exact ⟨upe s8,upd_same,_,rfl⟩
   ·rintro σ H8 ⟨s8,he8,v5,rfl⟩
    rw [el,List.take_length] at he8
    exact hn _ _ ⟨s8,he8,_,rfl⟩
  rintro σ H8 ⟨s8,he8,v5,rfl⟩
  exact ⟨_,rfl,k e H8 (s6.trans s8) ne0 he8⟩
end
end Lw
namespace Lw
open PySem L2 PyProof.Rows
section
variable {first:List Nat} {rs:List Rule} {gs:List (List Nat)}
theorem qa7 {c:Nat} (hc:c∈ltr rs):fst1 rs gs c∈alk rs gs c:=by
 have h:=Zf gs hc
 unfold fst1
 cases e:alk rs gs c with
 | nil=>rw [e] at h;cases h
 | cons a l=>exact List.mem_cons_self
theorem vq {c:Nat} (hc:c∈ltr rs):fst1 rs gs c∈ltr rs:=(alk_mem.mp (qa7 hc)).1
theorem Ve {c:Nat} (hc:c∈ltr rs):Rl rs gs c (fst1 rs gs c):=(alk_mem.mp (qa7 hc)).2
theorem Y0 (hG:Good first rs) {x y:Nat} (hx:x∈ltr rs) (hy:y∈ltr rs) (h:Rl rs gs x y):fst1 rs gs x=fst1 rs gs y:=by
 have e:=qjo hG hx hy h
 have n1:=Zf gs hx
 unfold fst1
 rw [e] at n1 ⊢
 cases z:alk rs gs y with
 | nil=>rw [z] at n1;cases n1
 | cons a l=>rfl
theorem yh (hG:Good first rs) {c:Nat} (hc:c∈ltr rs):fst1 rs gs (fst1 rs gs c)=fst1 rs gs c:=(Y0 hG hc (vq hc) (Ve hc)).symm
theorem qe5 (hG:Good first rs) {x y:Nat} (hx:x∈ltr rs) (hy:y∈ltr rs) (h:Rl rs gs x y):(wd rs x).map (fst1 rs gs)=(wd rs y).map (fst1 rs gs):=by
 obtain ⟨h1,h2⟩:=h.step hG hx hy
 refine map_eq.mpr ⟨Je h1,fun i a b ha hb=>?_⟩
 exact Y0 hG (zh hG hx _ (List.mem_of_getElem? ha)) (zh hG hy _ (List.mem_of_getElem? hb)) (h2 (a,b) (List.mem_iff_getElem?.mpr ⟨i,List.getElem?_zip_eq_some.mpr ⟨ha,hb⟩⟩))
theorem Zj:ltr (shr rs gs)=(ltr rs).filter fun c=>decide (fst1 rs gs c=c):=by
 unfold shr ltr
 rw [List.map_map]
 show List.map (fun q:Rule=>q.1) _=_
 rw [List.filter_map]
 rfl
theorem shr_mem {c:Nat}:c∈ltr (shr rs gs) ↔ c∈ltr rs/\fst1 rs gs c=c:=by
 rw [Zj,List.mem_filter,decide_eq_true_iff]
theorem Jf {q:Rule} (h:q∈shr rs gs):∃ r∈rs,fst1 rs gs r.1=r.1/\q=(r.1,r.2.map (fst1 rs gs)):=by
 unfold shr at h
 obtain ⟨r,hr,rfl⟩:=List.mem_map.mp h
 exact ⟨r,(List.mem_filter.mp hr).1,of_decide_eq_true (List.mem_filter.mp hr).2,rfl⟩
theorem qdm (nd:(ltr rs).Nodup) {r:Rule} (h:r∈rs):wd rs r.1=r.2:=by
 obtain ⟨q,h1,h2,h3⟩:=zm (List.mem_map_of_mem (f:=(·.1)) h)
 have:q=r:=by
  obtain ⟨i,hi,e1⟩:=List.getElem_of_mem h1
  obtain ⟨j,hj,e2⟩:=List.getElem_of_mem h
  have e3:(ltr rs)[i]'(by unfold ltr;rw [List.length_map];exact hi)=(ltr rs)[j]'(by unfold ltr;rw [List.length_map];exact hj):=by
   unfold ltr
   rw [List.getElem_map,List.getElem_map,e1,e2]
   exact h2
  have:=(List.getElem_inj nd).mp e3
  subst this
  rw [<- e1,<- e2]
 rw [h3,this]
theorem qj5 (hG:Good first rs):(ltr (shr rs gs)).Nodup:=by rw [Zj];exact hG.nd.filter _
theorem qj6 (hG:Good first rs) {c:Nat} (hc:c∈ltr rs) (hf:fst1 rs gs c=c):wd (shr rs gs) c=(wd rs c).map (fst1 rs gs):=by
 obtain ⟨q,h1,h2,h3⟩:=zm (shr_mem.mpr ⟨hc,hf⟩)
 obtain ⟨r,hr,hr1,rfl⟩:=Jf h1
 rw [h3]
 show r.2.map (fst1 rs gs)=_
 have e:r.1=c:=h2
 rw [<- qdm hG.nd hr,e]
theorem Vf (hG:Good first rs) {c:Nat} (hc:c∈ltr rs):wd (shr rs gs) (fst1 rs gs c)=(wd rs c).map (fst1 rs gs):=by
 rw [qj6 hG (vq hc) (yh hG hc)]
 exact (qe5 hG hc (vq hc) (Ve hc)).symm
theorem Y1 (hG:Good first rs):∀ {x:List Nat},(∀ c∈x,c∈ltr rs)->nxt (shr rs gs) (x.map (fst1 rs gs))=(nxt rs x).map (fst1 rs gs)
 | [],_=>rfl
 | c :: x,h=>by
  have ih:=Y1 hG (x:=x) fun a ha=>h a (List.mem_cons_of_mem _ ha)
  unfold nxt at ih ⊢
  rw [List.map_cons,List.map_cons,List.flatten_cons,ih,Vf hG (h c List.mem_cons_self),List.map_cons,List.flatten_cons,List.map_append]
theorem Y2 (hG:Good first rs):∀ n,rowN (shr rs gs) (first.map (fst1 rs gs)) n=(rowN rs first n).map (fst1 rs gs)
 | 0=>rfl
 | n+1=>by
  show nxt (shr rs gs) (rowN (shr rs gs) (first.map (fst1 rs gs)) n)=(nxt rs (rowN rs first n)).map _
  rw [Y2 hG n]
  exact Y1 hG (zr hG hG.fin n)
theorem yi (hG:Good first rs):Good (first.map (fst1 rs gs)) (shr rs gs):=by
 have hmem:∀ c∈ltr rs,fst1 rs gs c∈(shr rs gs).map (·.1):=fun c hc=>shr_mem.mpr ⟨vq hc,yh hG hc⟩
 refine ⟨?_,?_,fun q hq=>?_,fun q hq=>?_,fun q hq c hc=>?_,by rw [List.length_map];exact hG.fl,fun c hc=>?_⟩
 ·unfold shr
  rw [List.length_map]
  exact Nat.le_trans (List.length_filter_le _ _) hG.few
 ·have:(shr rs gs).map (·.1)=(ltr rs).filter fun c=>decide (fst1 rs gs c=c):=Zj
  rw [this]
  exact List.Pairwise.filter _ hG.rise
 ·obtain ⟨r,hr,_,rfl⟩:=Jf hq
  exact hG.abc r hr
 ·obtain ⟨r,hr,_,rfl⟩:=Jf hq
  show (r.2.map _).length<=6
  rw [List.length_map]
  exact hG.wl r hr
 ·obtain ⟨r,hr,_,rfl⟩:=Jf hq
  obtain ⟨a,ha,rfl⟩:=List.mem_map.mp (show c∈r.2.map (fst1 rs gs) from hc)
  exact hmem a (hG.win r hr a ha)
 ·obtain ⟨a,ha,rfl⟩:=List.mem_map.mp hc
  exact hmem a (hG.fin a ha)
theorem qdn (hG:Good first rs) (nd:gs.flatten.Nodup) (hgs:∀ c∈ltr rs,c∈gs.flatten) {ls:List (List Nat)} (ln:ls.flatten.Nodup) (hls:∀ c∈ltr (shr rs gs),c∈ls.flatten) (hsub:∀ x y,x∈ls.flatten->y∈ls.flatten->gix ls x=gix ls y->gix gs x=gix gs y) {c d:Nat} (hc:c∈ltr (shr rs gs)) (hd:d∈ltr (shr rs gs)) (h:Rl (shr rs gs) ls c d):c=d:=by
 have hS:=yi (gs:=gs) hG
 have hm:∀ {x:Nat},x∈ltr rs->fst1 rs gs x∈ltr (shr rs gs):=fun hx=>shr_mem.mpr ⟨vq hx,yh hG hx⟩
 have gx:∀ {x y:Nat},x∈ltr rs->y∈ltr rs->Rl rs gs x y->gix gs x=gix gs y:=fun hx hy h=>by
  have h1:=(h.step hG hx hy).1
  rw [yg nd (hgs _ hx) (hgs _ hy)] at h1
  simp only [Bool.or_eq_false_iff,Bool.not_eq_false',decide_eq_true_eq] at h1
  have:=V.int.inj h1.1
  omega
 obtain ⟨c1,c2⟩:=shr_mem.mp hc
 obtain ⟨d1,d2⟩:=shr_mem.mp hd
 have key:Rl rs gs c d:=by
  refine qdg (S:=fun p=>p.1∈ltr rs/\p.2∈ltr rs/\Rl (shr rs gs) ls (fst1 rs gs p.1) (fst1 rs gs p.2)) (fun p ⟨h1,h2,h3⟩=>?_) (fun p ⟨h1,h2,h3⟩ b hb=>?_) ⟨c1,d1,by show Rl _ _ (fst1 rs gs c) (fst1 rs gs d);rw [c2,d2];exact h⟩
  ·have st:=(h3.step hS (hm h1) (hm h2)).1
   have hlen:=Je st
   rw [Vf hG h1,Vf hG h2,List.length_map,List.length_map] at hlen
   rw [yg ln (hls _ (hm h1)) (hls _ (hm h2))] at st
   simp only [Bool.or_eq_false_iff,Bool.not_eq_false',decide_eq_true_eq] at st
   have g0:gix ls (fst1 rs gs p.1)=gix ls (fst1 rs gs p.2):=by have:=V.int.inj st.1;omega
   have g1:=hsub _ _ (hls _ (hm h1)) (hls _ (hm h2)) g0
   have g2:gix gs p.1=gix gs p.2:=(gx h1 (vq h1) (Ve h1)).trans (g1.trans (gx h2 (vq h2) (Ve h2)).symm)
   rw [yg nd (hgs _ h1) (hgs _ h2),g2,hlen,decide_eq_true rfl,decide_eq_true rfl]
   rfl
  ·have h5:=Yc hG p ⟨h1,h2⟩ b hb
   refine ⟨h5.1,h5.2,?_⟩
   obtain ⟨i,hi⟩:=List.mem_iff_getElem?.mp hb
   obtain ⟨x1,x2⟩:=List.getElem?_zip_eq_some.mp (show ((wd rs p.1).zip (wd rs p.2))[i]? = some (b.1,b.2) from hi)
   refine (h3.step hS (hm h1) (hm h2)).2 (fst1 rs gs b.1,fst1 rs gs b.2) (List.mem_iff_getElem?.mpr ⟨i,List.getElem?_zip_eq_some.mpr ⟨?_,?_⟩⟩)
   ·show (wd (shr rs gs) (fst1 rs gs p.1))[i]? = _
    rw [Vf hG h1,List.getElem?_map,x1]
    rfl
   ·show (wd (shr rs gs) (fst1 rs gs p.2))[i]? = _
    rw [Vf hG h2,List.getElem?_map,x2]
    rfl
 rw [<- c2,<- d2]
 exact Y0 hG c1 d1 key
theorem qhn (hG:Good first rs) (nd:gs.flatten.Nodup) (hgs:∀ c∈ltr rs,c∈gs.flatten) {ls:List (List Nat)} (ln:ls.flatten.Nodup) (hls:∀ c∈ltr (shr rs gs),c∈ls.flatten) (hsub:∀ x y,x∈ls.flatten->y∈ls.flatten->gix ls x=gix ls y->gix gs x=gix gs y) {c:Nat} (hc:c∈ltr (shr rs gs)):fst1 (shr rs gs) ls c=c :=
 (qdn hG nd hgs ln hls hsub hc (vq hc) (Ve hc)).symm
theorem qe6 (hG:Good first rs) {ls:List (List Nat)} (h:∀ c∈ltr (shr rs gs),fst1 (shr rs gs) ls c=c):shr (shr rs gs) ls=shr rs gs/\(first.map (fst1 rs gs)).map (fst1 (shr rs gs) ls)=first.map (fst1 rs gs):=by
 have hS:=yi (gs:=gs) hG
 constructor
 ·have e1:(shr rs gs).filter (fun q=>decide (fst1 (shr rs gs) ls q.1=q.1))=shr rs gs:=List.filter_eq_self.mpr fun q hq=>decide_eq_true (h q.1 (List.mem_map_of_mem hq))
  show ((shr rs gs).filter (fun q=>decide (fst1 (shr rs gs) ls q.1=q.1))).map (fun q=>(q.1,q.2.map (fst1 (shr rs gs) ls)))=shr rs gs
  rw [e1]
  conv=>rhs;rw [<- List.map_id (shr rs gs)]
  refine List.map_congr_left fun q hq=>?_
  show (q.1,_)=q
  have:q.2.map (fst1 (shr rs gs) ls)=q.2:=by
   conv=>rhs;rw [<- List.map_id q.2]
   exact List.map_congr_left fun a ha=>h a (hS.win q hq a ha)
  rw [this]
 ·conv=>rhs;rw [<- List.map_id (first.map (fst1 rs gs))]
  exact List.map_congr_left fun a ha=>h a (hS.fin a ha)
end
end Lw
namespace Lw
open PySem L2 PyProof.Rows
theorem Jg {f:Nat->List Nat}:∀ {x:List Nat},(∀ c∈x,(f c).length<=6)->((x.map f).flatten).length<=6 * x.length
 | [],_=>Nat.le_refl _
 | c :: x,h=>by
  have h1:=Jg (x:=x) fun a ha=>h a (List.mem_cons_of_mem _ ha)
  have h2:=h c List.mem_cons_self
  rw [List.map_cons,List.flatten_cons,List.length_append,List.length_cons]
  omega
section
variable {P:Program} {w:World} {K:W.Frag} {mg:Str->Option Value} {base:Heap}
def spRpd (K:W.Frag):Sp:=fun vs H Q _=>∃ (d:Addr) (x L:List Nat) (f:Nat->Nat),vs=[.ref d,tx x]/\H d=some (.dK (kvf L f))/\x.length<=1500/\(∀ c∈x,c∈L)/\∀ H',Same H H'->Q (tx (x.map f)) H'
theorem scRpd:FnScope ["_law_heads_here","_law_text"] ["_law_heads_here","_law_text"] (defScope sRpd):=⟨rfl,rfl,rfl,by decide +kernel,rfl,by decide +kernel,by decide +kernel⟩
theorem qho:(["_law_sign","_law_heads_here"]:List Str).Nodup:=by decide +kernel
theorem qj7 {f:Addr} {fd:FuncData} (F:Fun K "_law_replaced" "_law_replaced" sRpd f fd)
  : FnOk P w K mg base CX0 1 f fd ["_law_heads_here","_law_text"] (spRpd K):=by
 refine F.ok scRpd (fun vs H Q E h=>?_) (fun cdv A outer s H vs Q E hr h=>?_)
 ·obtain ⟨d,x,L,f,rfl,_⟩:=h
  rfl
 ·obtain ⟨d,x,L,f,rfl,hd,hx,hxL,k⟩:=h
  have hu:=zo hr
  refine ⟨_,(qg (qp (ju K PySem.F.plainAttrs_str PySem.F.slot_str_join PySem.F.type_str_join (js K) j9 (qa (qx (N':=["_law_sign","_law_heads_here"]) (ix:=[none,some 0]) rfl rfl (vh (pv 1)) (fun _ _ _ _ _ _=>(qi (i:=0) qho rfl (Or.inl rfl))) (fun _ _ _ _ _ _=>qv) (fun _ _ _ _ _ _=>(qq hu (pv 1) (pv 0) (fun _ _=>rfl)))) qb)))),?_⟩
  have hv:∀ c∈x,valV (kvf L f) (kc c)=some (tx [f c]):=fun c hc=>zt (hxL c hc)
  have efl:((x.map fun c=>[f c])).flatten=x.map f:=by
   clear hv hxL hx k
   induction x with
   | nil=>rfl
   | cons a x ih=>rw [List.map_cons,List.map_cons,List.flatten_cons,ih];rfl
  refine ⟨rfl,_,rfl,⟨x.toArray⟩,rfl,?_⟩
  have el_:((⟨(x).toArray⟩:Str).cps.toList.map sign).length=(x).length:=by simp
  refine qu (τ0:=[none,some (.ref d)]) (jr (x:=⟨(x).toArray⟩)) (by rw [el_];omega)
   (fun i ys τ Hx=>Hx=H/\(∃ v,τ=[v,some (.ref d)])/\ys=(((x).take i).map (fun c=>[f c])).map tx) ⟨rfl,⟨_,rfl⟩,rfl⟩ ?_ ?_ ?_
  ·rintro i ys τ Hx hi ⟨rfl,_,rfl⟩
   refine ⟨trivial,?_⟩
   rw [List.length_map,List.length_map,List.length_take]
   omega
  ·rintro i y ys τ Hx hy ⟨rfl,⟨v,rfl⟩,rfl⟩
   have hy':((x).map sign)[i]? = some y:=hy
   rw [List.getElem?_map] at hy'
   cases ee:(x)[i]? with
   | none=>rw [ee] at hy';cases hy'
   | some c =>
    rw [ee] at hy'
    cases hy'
    have g1:=DGet.k (k:=kc c) hd
    rw [hv c (List.mem_of_getElem? ee)] at g1
    refine ⟨_,rfl,_,rfl,d,_,rfl,g1,rfl,⟨_,rfl⟩,?_⟩
    rw [jc (fun c=>[f c]) ee,List.map_append]
    rfl
  rintro ys τ Hx D ⟨rfl,_,rfl⟩ nD
  rw [el_,List.take_length]
  have sD:=Same.add (o:=.lst (((x).map (fun c=>[f c])).map tx)) nD
  have fl_:=Jg (f:=(fun c=>[f c])) (x:=x) (fun c _=>(by decide:1<=6))
  refine ⟨_,D,((x).map (fun c=>[f c])).map fun x=>(⟨x.toArray⟩:Str),rfl,rfl,(by rw [<- J6];exact SqL.of upd_same),?_,?_⟩
  ·rw [Ya]
   show _+_ * 0<=_
   omega
  rw [J7]
  rw [efl]
  exact k _ sD
def spRwa (K:W.Frag):Sp:=fun vs H Q _=>∃ (t t' d h:Addr) (first:List Nat) (us rs:List Rule) (gs:List (List Nat)),vs=[.ref t,.ref t',.ref d,.ref h]/\BookAt H t first rs/\BookAt H t' (first.map (fst1 rs gs)) (shr rs gs)/\H d=some (.dK (kvw us))/\H h=some (.dK (kvf (ltr rs) (fst1 rs gs)))/\Gk first us rs gs/\∀ H',Same H H'->Q (.bl true) H'
theorem scRwa:FnScope ["_law_book","_law_told","_law_words_here","_law_heads_here","_law_lines","_law_sign","_law_text","_law_mine","_law_other","_law_age"] ["_law_book","_law_told","_law_words_here","_law_heads_here"] (defScope sRwa):=⟨rfl,rfl,rfl,by decide +kernel,rfl,by decide +kernel,by decide +kernel⟩
theorem qhp:(["_law_sign","_law_words_here"]:List Str).Nodup:=by decide +kernel
theorem qhq:(["_law_sign","_law_lines"]:List Str).Nodup:=by decide +kernel
theorem qj8 {f fRpd:Addr} {fd fdRpd:FuncData} (F:Fun K "_law_rows_alike" "_law_rows_alike" sRwa f fd)
  (GRpd:FnOk P w K mg base CX0 1 fRpd fdRpd ["_law_heads_here","_law_text"] (spRpd K))
  (gRpd:Gf K mg "_law_replaced" fRpd fdRpd ["_law_heads_here","_law_text"])
  (hlen:mg "len" = none)
  (hrange:mg "range" = none)
  : FnOk P w K mg base CX0 2 f fd ["_law_book","_law_told","_law_words_here","_law_heads_here"] (spRwa K):=by
 refine F.ok scRwa (fun vs H Q E h=>?_) (fun cdv A outer s H vs Q E hr h=>?_)
 ·obtain ⟨t,t',d,h,first,us,rs,gs,rfl,_⟩:=h
  rfl
 ·obtain ⟨t,t',d,h,first,us,rs,gs,rfl,hB,hB',hd,hh,hK,k⟩:=h
  have hu:=zo hr
  refine ⟨_,(qd (qj (i:=4) scRwa.nd rfl (Or.inr rfl) zd)
   (qd (jy PassesOwn.never rfl (qci K (pe_ix (jd K) (pv 1) qf (fun _ _=>rfl))) (vz K (n:=2) rfl (jf (qi (i:=5) scRwa.nd rfl (Or.inl rfl)) (jf (qi (i:=6) scRwa.nd rfl (Or.inl rfl)) vv))) (qg (vn hu (pv 4) (pv 5) (pv 6) rfl)))
   (qd (qh8 (i:=7) (j:=8) rfl scRwa.nd rfl rfl (by decide) rfl rfl (qa (pe_ix (jd K) (pv 0) qf (fun _ _=>rfl)) (qa (pe_ix (jd K) (pv 1) qf (fun _ _=>rfl)) qb)) (by rfl))
   (qd (jy PassesOwn.never rfl (jx rfl hrange (qa qf qb)) (qi (i:=9) scRwa.nd rfl (Or.inl rfl)) (qd (vm (qz Yh (qh GRpd hr rfl gRpd.m gRpd.k gRpd.b .nil pass0 (qa (pv 3) (qa (pv 7) qb))) (pv 8) (nomark _)) (qg (qp Zl)) jh)
   (qd (vm (qz qb0 (qm vb (by rfl) hlen PySem.boot_len (qa (pv 7) qb)) qf (nomark _)) (qg (qp Zl)) jh)
   (qd (qj (i:=7) scRwa.nd rfl (Or.inl rfl) (ju K PySem.F.plainAttrs_str PySem.F.slot_str_join PySem.F.type_str_join (js K) j9 (qa (qx (N':=["_law_sign","_law_words_here"]) (ix:=[none,some 2]) rfl rfl (vh (pv 7)) (fun _ _ _ _ _ _=>(qi (i:=0) qhp rfl (Or.inl rfl))) (fun _ _ _ _ _ _=>qv) (fun _ _ _ _ _ _=>(qq hu (pv 1) (pv 0) (fun _ _=>rfl)))) qb)))
   (qg (qj (i:=8) scRwa.nd rfl (Or.inl rfl) (ju K PySem.F.plainAttrs_str PySem.F.slot_str_join PySem.F.type_str_join (js K) j9 (qa (qx (N':=["_law_sign","_law_lines"]) (ix:=[none,some 4]) rfl rfl (vh (pv 8)) (fun _ _ _ _ _ _=>(qi (i:=0) qhq rfl (Or.inl rfl))) (fun _ _ _ _ _ _=>qv) (fun _ _ _ _ _ _=>(qq hu (pv 1) (pv 0) (fun _ _=>rfl)))) qb))))))))
   (qg (qp Zl)))))),?_⟩
  have hG:=hK.G
  have hS:=yi (gs:=gs) hG
  obtain ⟨r0,ps0,b01,b02,b03⟩:=hB.ex
  obtain ⟨r1,ps1,b11,b12,b13⟩:=hB'.ex
  intro e ne
  have se:=Same.add (o:=.dK []) ne
  have upe:∀ {H8:Hp} {z:List (Key × V)},Same H H8->Same H (upd H8 e (.dK z)):=fun s8 c o h=>by rw [qe (ne_of_none h ne)];exact s8 _ _ h
  dsimp only [gName]
  refine seq_by (fun σ H4=>Same H H4/\H4 e=some (.dK (kvw (shr rs gs)))/\∃ v5 v6,σ=[some (.ref t),some (.ref t'),some (.ref d),some (.ref h),some (.ref e),v5,v6,none,none,none]) (fun nx hn=>?_) ?_
  ·refine ⟨_,rfl,t',_,_,_,rfl,rfl,SqT.of (se _ _ b11),atI_nat (j:=1) rfl,r1,rfl,⟨_,SqT.of (se _ _ b12)⟩,?_⟩
   refine for_by (yx (xs:=ps1.map V.ref)) (fun i σ H4=>Same H H4/\H4 e=some (.dK (kvw ((shr rs gs).take i)))/\∃ v5 v6,σ=[some (.ref t),some (.ref t'),some (.ref d),some (.ref h),some (.ref e),v5,v6,none,none,none])
    ⟨se,upd_same,_,_,rfl⟩ ?_ ?_ ?_
   ·rintro i σ H4 hi ⟨s4,_⟩
    exact SqT.of (s4 _ _ b12)
   ·rintro i y σ H4 hy ⟨s4,he4,v5,v6,rfl⟩
    rw [List.getElem?_map] at hy
    cases ep:ps1[i]? with
    | none=>rw [ep] at hy;cases hy
    | some p =>
     rw [ep] at hy
     cases hy
     obtain ⟨qc,qw,eq,hp⟩:=b13.get ep
     obtain ⟨q,hq⟩:∃ q:Rule,q=(qc,qw):=⟨_,rfl⟩
     rw [<- hq] at eq
     have hp:H p=some (.tup [sign q.1,tx q.2]):=by rw [hq];exact hp
     have hil:i < (shr rs gs).length:=(List.getElem?_eq_some_iff.mp eq).1
     obtain ⟨ei,eni⟩:=qje hS.nd eq
     have hfew:=hS.few
     refine ⟨p,_,rfl,SqT.of (s4 _ _ hp),rfl,_,_,rfl,_,_,rfl,rfl,?_⟩
     have hno:valV (kvw ((shr rs gs).take i)) (kc q.1)=none:=qat (by unfold ltr at eni ⊢;rw [List.map_take];exact eni)
     refine ⟨_,rfl,_,rfl,_,rfl,e,_,rfl,DPut.k (k:=kc q.1) he4 (small1000 (by rw [List.length_map,List.length_take];omega)),upe s4,?_,_,_,rfl⟩
     rw [upd_same,yv _ hno,List.take_add_one,eq]
     unfold kvw
     rw [List.map_append]
     rfl
   ·rintro σ H4 ⟨s4,he4,v5,v6,rfl⟩
    rw [List.length_map,b13.len,List.take_length] at he4
    exact hn _ _ ⟨s4,he4,_,_,rfl⟩
  rintro σ H4 ⟨s4,he4,v5,v6,rfl⟩
  refine ⟨_,rfl,t,_,_,_,rfl,rfl,SqT.of (s4 _ _ b01),atI_nat (j:=0) rfl,_,rfl,t',_,_,_,rfl,rfl,SqT.of (s4 _ _ b11),atI_nat (j:=0) rfl,_,_,rfl,?_⟩
  dsimp only [List.set]
  refine ⟨20,rfl,by decide,by decide,?_⟩
  have hfl:=hG.fl
  refine for_by (ji (lo:=0) (n:=Int.toNat 20)) (fun i σ H5=>Same H H5/\H5 e=some (.dK (kvw (shr rs gs)))/\(rowN rs first i).length<=1200/\∃ v9,σ=[some (.ref t),some (.ref t'),some (.ref d),some (.ref h),some (.ref e),v5,v6,some (tx (rowN rs first i)),some (tx ((rowN rs first i).map (fst1 rs gs))),v9])
   ⟨s4,he4,by show first.length<=_;omega,_,rfl⟩ (fun _ _ _ _ _=>trivial) ?_ ?_
  ·rintro n y σ H5 hy ⟨s5,he5,hln,v9,rfl⟩
   have hrin:=zr hG hG.fin n
   have hnx:rowN rs first (n+1)=nxt rs (rowN rs first n):=rfl
   generalize hx:rowN rs first n=x at *
   refine seq_by (fun σ H6=>Same H5 H6/\σ=[some (.ref t),some (.ref t'),some (.ref d),some (.ref h),some (.ref e),v5,v6,some (tx x),some (tx (x.map (fst1 rs gs))),some y]) (fun nx hn=>?_) ?_
   ·refine ⟨_,rfl,_,rfl,h,x,ltr rs,fst1 rs gs,rfl,s5 _ _ hh,by omega,hrin,fun H6 s6=>⟨_,rfl,rfl,_,rfl,iteNS rfl (hn _ _ ⟨s6,rfl⟩)⟩⟩
   rintro σ H6 ⟨s6,rfl⟩
   refine seq_by (fun σ H7=>H7=H6/\x.length<=200/\σ=[some (.ref t),some (.ref t'),some (.ref d),some (.ref h),some (.ref e),v5,v6,some (tx x),some (tx (x.map (fst1 rs gs))),some y]) (fun nx hn=>?_) ?_
   ·refine ⟨_,rfl,⟨x.toArray⟩,rfl,?_,_,_,rfl,rfl,_,rfl,ite2 (fun hc=>k _ (s5.trans s6)) (fun hc=>hn _ _ ⟨rfl,?_,rfl⟩)⟩
    ·show x.length<=sizeLine
     unfold sizeLine
     omega
    ·have:¬ (200:Int) < ((x.length:Nat):Int):=fun z=>hc (decide_eq_true z)
     omega
   rintro σ H7 ⟨rfl,hx200,rfl⟩
   have s7:=s5.trans s6
   have hv1:∀ c∈x,valV (kvw us) (kc c)=some (tx (wd rs c)):=fun c hc=>by
    have hcu:=(hK.L.mem c).mp (hrin c hc)
    rw [za hK.nd hcu,<- hK.L.wd c hcu]
   have hw6:∀ c∈x,(wd rs c).length<=6:=fun c hc=>Zc hG (hrin c hc)
   refine seq_by (fun σ H8=>Same H7 H8/\σ=[some (.ref t),some (.ref t'),some (.ref d),some (.ref h),some (.ref e),v5,v6,some (tx (nxt rs x)),some (tx (x.map (fst1 rs gs))),some y]) (fun nx hn=>?_) ?_
   ·refine ⟨rfl,_,rfl,⟨x.toArray⟩,rfl,?_⟩
    have el_:((⟨(x).toArray⟩:Str).cps.toList.map sign).length=(x).length:=by simp
    refine qu (τ0:=[none,some (.ref d)]) (jr (x:=⟨(x).toArray⟩)) (by rw [el_];omega)
     (fun i ys τ Hx=>Hx=H7/\(∃ v,τ=[v,some (.ref d)])/\ys=(((x).take i).map (wd rs)).map tx) ⟨rfl,⟨_,rfl⟩,rfl⟩ ?_ ?_ ?_
    ·rintro i ys τ Hx hi ⟨rfl,_,rfl⟩
     refine ⟨trivial,?_⟩
     rw [List.length_map,List.length_map,List.length_take]
     omega
    ·rintro i y ys τ Hx hy ⟨rfl,⟨v,rfl⟩,rfl⟩
     have hy':((x).map sign)[i]? = some y:=hy
     rw [List.getElem?_map] at hy'
     cases ee:(x)[i]? with
     | none=>rw [ee] at hy';cases hy'
     | some c =>
      rw [ee] at hy'
      cases hy'
      have g1:=DGet.k (k:=kc c) (s7 _ _ hd)
      rw [hv1 c (List.mem_of_getElem? ee)] at g1
      refine ⟨_,rfl,_,rfl,d,_,rfl,g1,rfl,⟨_,rfl⟩,?_⟩
      rw [jc (wd rs) ee,List.map_append]
      rfl
    rintro ys τ Hx D ⟨rfl,_,rfl⟩ nD
    rw [el_,List.take_length]
    have sD:=Same.add (o:=.lst (((x).map (wd rs)).map tx)) nD
    have fl_:=Jg (f:=(wd rs)) (x:=x) hw6
    refine ⟨_,D,((x).map (wd rs)).map fun x=>(⟨x.toArray⟩:Str),rfl,rfl,(by rw [<- J6];exact SqL.of upd_same),?_,?_⟩
    ·rw [Ya]
     show _+_ * 0<=_
     omega
    rw [J7]
    exact hn _ _ ⟨sD,rfl⟩
   rintro σ H8 ⟨s8,rfl⟩
   have hin2:∀ c∈x.map (fst1 rs gs),c∈ltr (shr rs gs):=fun c hc=>by
    obtain ⟨a,ha,rfl⟩:=List.mem_map.mp hc
    exact shr_mem.mpr ⟨vq (hrin a ha),yh hG (hrin a ha)⟩
   have hv2:∀ c∈x.map (fst1 rs gs),valV (kvw (shr rs gs)) (kc c)=some (tx (wd (shr rs gs) c)):=fun c hc=>za (qj5 hG) (hin2 c hc)
   have hw62:∀ c∈x.map (fst1 rs gs),(wd (shr rs gs) c).length<=6:=fun c hc=>Zc hS (hin2 c hc)
   have hxl:(x.map (fst1 rs gs)).length=x.length:=List.length_map _
   have enx:((x.map (fst1 rs gs)).map (wd (shr rs gs))).flatten=(nxt rs x).map (fst1 rs gs):=Y1 hG hrin
   refine ⟨rfl,_,rfl,⟨(x.map (fst1 rs gs)).toArray⟩,rfl,?_⟩
   have he8:H8 e=some (.dK (kvw (shr rs gs))):=s8 _ _ (s6 _ _ he5)
   have el_:((⟨(x.map (fst1 rs gs)).toArray⟩:Str).cps.toList.map sign).length=(x.map (fst1 rs gs)).length:=by simp
   refine qu (τ0:=[none,some (.ref e)]) (jr (x:=⟨(x.map (fst1 rs gs)).toArray⟩)) (by rw [el_];omega)
    (fun i ys τ Hx=>Hx=H8/\(∃ v,τ=[v,some (.ref e)])/\ys=(((x.map (fst1 rs gs)).take i).map (wd (shr rs gs))).map tx) ⟨rfl,⟨_,rfl⟩,rfl⟩ ?_ ?_ ?_
   ·rintro i ys τ Hx hi ⟨rfl,_,rfl⟩
    refine ⟨trivial,?_⟩
    rw [List.length_map,List.length_map,List.length_take]
    omega
   ·rintro i y ys τ Hx hy ⟨rfl,⟨v,rfl⟩,rfl⟩
    have hy':((x.map (fst1 rs gs)).map sign)[i]? = some y:=hy
    rw [List.getElem?_map] at hy'
    cases ee:(x.map (fst1 rs gs))[i]? with
    | none=>rw [ee] at hy';cases hy'
    | some c =>
     rw [ee] at hy'
     cases hy'
     have g1:=DGet.k (k:=kc c) he8
     rw [hv2 c (List.mem_of_getElem? ee)] at g1
     refine ⟨_,rfl,_,rfl,e,_,rfl,g1,rfl,⟨_,rfl⟩,?_⟩
     rw [jc (wd (shr rs gs)) ee,List.map_append]
     rfl
   rintro ys τ Hx D ⟨rfl,_,rfl⟩ nD
   rw [el_,List.take_length]
   have sD:=Same.add (o:=.lst (((x.map (fst1 rs gs)).map (wd (shr rs gs))).map tx)) nD
   have fl_:=Jg (f:=(wd (shr rs gs))) (x:=x.map (fst1 rs gs)) hw62
   refine ⟨_,D,((x.map (fst1 rs gs)).map (wd (shr rs gs))).map fun x=>(⟨x.toArray⟩:Str),rfl,rfl,(by rw [<- J6];exact SqL.of upd_same),?_,?_⟩
   ·rw [Ya]
    show _+_ * 0<=_
    omega
   rw [J7]
   rw [enx]
   have hle:=qfp hG hrin
   exact ⟨s7.trans (s8.trans sD),sD _ _ he8,by rw [hnx];omega,_,by rw [hnx];rfl⟩
  ·rintro σ H5 ⟨s5,_,_,v9,rfl⟩
   exact k _ s5
end
end Lw
namespace Lw
open PySem L2 PyProof.Rows
theorem BookAt.but {p t:Addr} {H H':Hp} {b:Nat} {first:List Nat} {rs:List Rule} (h:BookAt H t first rs) (bt:But p H H') (hp:PenAt H p b):BookAt H' t first rs:=by
 refine h.mono fun c xs e=>bt c _ e fun z=>?_
 obtain ⟨a,n,f,e1,_⟩:=hp.ex
 rw [z,e1] at e
 cases e
theorem qdo {first:List Nat} {rs:List Rule} (hG:Good first rs) (n:Nat):(cntN rs.length (tabI rs) (c0 rs first) n).sum=((rowN rs first n).length:Int):=by
 rw [Ys hG hG.fin,qfq hG (zr hG hG.fin n)]
theorem three {a1 a2 a3:Int} (j:Nat) (h:j < 3) (h1:0<=a1/\a1 < 40) (h2:0<=a2/\a2 < 3) (h3:0<=a3/\a3 < 301):∃ n:Nat,([V.int a1,V.int (300 - a2),V.int a3]:List V)[j]? = some (.int (n:Int))/\n<=300:=by
 match j,h with
 | 0,_=>exact ⟨a1.toNat,by show some (V.int a1)=_;congr 2;omega,by omega⟩
 | 1,_=>exact ⟨(300 - a2).toNat,by show some (V.int (300 - a2))=_;congr 2;omega,by omega⟩
 | 2,_=>exact ⟨a3.toNat,by show some (V.int a3)=_;congr 2;omega,by omega⟩
section
variable {P:Program} {w:World} {K:W.Frag} {mg:Str->Option Value} {base:Heap}
def spGra (K:W.Frag):Sp:=fun vs H Q _=>∃ (p t t' h:Addr) (b:Nat) (first:List Nat) (rs:List Rule) (gs:List (List Nat)),vs=[.ref p,.ref t,.ref t',.ref h]/\PenAt H p b/\b<=800000/\BookAt H t first rs/\BookAt H t' (first.map (fst1 rs gs)) (shr rs gs)/\H h=some (.dK (kvf (ltr rs) (fst1 rs gs)))/\Good first rs/\h≠p/\∀ H',But p H H'->PenAt H' p (b+100)->Q (.bl true) H'
theorem scGra:FnScope ["_law_pen_here","_law_book","_law_told","_law_heads_here","_law_age","_law_size","_law_time","_law_number","_law_k","_law_place"] ["_law_pen_here","_law_book","_law_told","_law_heads_here"] (defScope sGra):=⟨rfl,rfl,rfl,by decide +kernel,rfl,by decide +kernel,by decide +kernel⟩
theorem qj9 {f fLng fTak fLea:Addr} {fd fdLng fdTak fdLea:FuncData} (F:Fun K "_law_great_alike" "_law_great_alike" sGra f fd)
  (GLng:FnOk P w K mg base CX0 7 fLng fdLng ["book","age"] spLng)
  (gLng:Gf K mg "length" fLng fdLng ["book","age"])
  (GTak:FnOk P w K mg base CX0 1 fTak fdTak ["_law_pen_here","_law_size"] spTak)
  (gTak:Gf K mg "_law_take" fTak fdTak ["_law_pen_here","_law_size"])
  (GLea:FnOk P w K mg base CX0 6 fLea fdLea ["book","age","place"] spLea)
  (gLea:Gf K mg "letter_at" fLea fdLea ["book","age","place"])
  (hrange:mg "range" = none)
  : FnOk P w K mg base CX0 8 f fd ["_law_pen_here","_law_book","_law_told","_law_heads_here"] (spGra K):=by
 refine F.ok scGra (fun vs H Q E h=>?_) (fun cdv A outer s H vs Q E hr h=>?_)
 ·obtain ⟨p,t,t',h,b,first,rs,gs,rfl,_⟩:=h
  rfl
 ·obtain ⟨p,t,t',h,b,first,rs,gs,rfl,hP,hb,hB,hB',hh,hG,nhp,k⟩:=h
  have hr1:Room 1 _:=hr.mono (by decide)
  have hr6:Room 6 _:=hr.mono (by decide)
  have hu:=zo hr
  refine ⟨_,(qd (qj (i:=4) scGra.nd rfl (Or.inl rfl) (pe_ix (qy K) (j0 (qa (qh GTak hr1 rfl gTak.m gTak.k gTak.b .nil pass0 (qa (pv 0) (qa qf qb))) (qa (je Y8 qf (qh GTak hr1 rfl gTak.m gTak.k gTak.b .nil pass0 (qa (pv 0) (qa qf qb)))) (qa (qh GTak hr1 rfl gTak.m gTak.k gTak.b .nil pass0 (qa (pv 0) (qa qf qb))) qb)))) (qh GTak hr1 rfl gTak.m gTak.k gTak.b .nil pass0 (qa (pv 0) (qa qf qb))) (fun _ _=>rfl)))
   (qd (qj (i:=5) scGra.nd rfl (Or.inl rfl) (qh GLng hr rfl gLng.m gLng.k gLng.b .nil pass0 (qa (pv 1) (qa (pv 4) qb))))
   (qd (vm (qz Yh (qh GLng hr rfl gLng.m gLng.k gLng.b .nil pass0 (qa (pv 2) (qa (pv 4) qb))) (pv 5) (nomark _)) (qg (qp Zl)) jh)
   (qd (jy PassesOwn.never rfl (jx rfl hrange (qa qf qb)) (qi (i:=6) scGra.nd rfl (Or.inl rfl)) (qg (vm (qz qb0 (pv 5) qf (nomark _)) (qd (qj (i:=7) scGra.nd rfl (Or.inl rfl) qf)
   (qd (jy PassesOwn.never rfl (jx rfl hrange (qa qf qb)) (qi (i:=8) scGra.nd rfl (Or.inl rfl)) (qg (qj (i:=7) scGra.nd rfl (Or.inl rfl) (je vw (je Vm (pv 7) (je Vn qf qf)) (qh GTak hr1 rfl gTak.m gTak.k gTak.b .nil pass0 (qa (pv 0) (qa (je Vn qf qf) qb)))))))
   (qd (qj (i:=9) scGra.nd rfl (Or.inl rfl) (je yt (pv 7) (pv 5)))
   (qg (vm (qz Yh (qh GLea hr6 rfl gLea.m gLea.k gLea.b .nil pass0 (qa (pv 2) (qa (pv 4) (qa (pv 9) qb)))) (qq hu (pv 3) (qh GLea hr6 rfl gLea.m gLea.k gLea.b .nil pass0 (qa (pv 1) (qa (pv 4) (qa (pv 9) qb)))) (fun _ _=>rfl)) (nomark _)) (qg (qp Zl)) jh))))) jh)))
   (qg (qp Zl)))))),?_⟩
  have hS:=yi (gs:=gs) hG
  refine ⟨_,rfl,p,b,40,rfl,hP,by omega,by decide,by decide,fun a1 H1 a10 a11 hP1 e1=>?_⟩
  refine ⟨_,rfl,p,b+1,3,rfl,hP1,by omega,by decide,by decide,fun a2 H2 a20 a21 hP2 e2=>⟨_,_,rfl,rfl,?_⟩⟩
  refine ⟨_,rfl,p,b+2,301,rfl,hP2,by omega,by decide,by decide,fun a3 H3 a30 a31 hP3 e3=>?_⟩
  refine ⟨szl (show 3<=1000 by decide),fun L nL=>?_⟩
  have nLp:=jw hP3 nL
  have sL:=Same.add (o:=.lst [V.int a1,V.int (300 - a2),V.int a3]) nL
  refine ⟨_,rfl,p,b+3,3,rfl,qk hP3 sL (Nat.le_refl _),by omega,by decide,by decide,fun v H4 v0 v1 hP4 e4=>?_⟩
  obtain ⟨j,rfl⟩:=Int.eq_ofNat_of_zero_le v0
  obtain ⟨n,hn,hn3⟩:=three j (by omega) ⟨a10,a11⟩ ⟨a20,a21⟩ ⟨a30,a31⟩
  refine ⟨L,_,_,_,rfl,rfl,SqL.of ((e4 L nLp).trans upd_same),atI_nat hn,?_⟩
  have b4:But p H H4:=(vj e1).trans ((vj e2).trans ((vj e3).trans ((But.same sL).trans (vj e4))))
  clear e1 e2 e3 e4 hn nL sL
  dsimp only [gName]
  refine ⟨_,rfl,_,rfl,t,first,rs,n,rfl,hB.but b4 hP,hG,hn3,fun H5 s5=>?_⟩
  rw [qdo hG n]
  have b5:=b4.trans (But.same s5)
  have hP5:=qk hP4 s5 (Nat.le_refl _)
  have elen:(rowN (shr rs gs) (first.map (fst1 rs gs)) n).length=(rowN rs first n).length:=by rw [Y2 hG,List.length_map]
  dsimp only [gName]
  refine seq_by (fun σ H6=>Same H5 H6/\σ=[some (.ref p),some (.ref t),some (.ref t'),some (.ref h),some (.int (n:Int)),some (.int ((rowN rs first n).length:Int)),none,none,none,none]) (fun nx hn=>?_) ?_
  ·refine ⟨_,rfl,_,rfl,t',first.map (fst1 rs gs),shr rs gs,n,rfl,hB'.but b5 hP,hS,hn3,fun H6 s6=>⟨_,rfl,rfl,_,rfl,?_⟩⟩
   rw [qdo hS n,elen]
   exact iteNS rfl (hn _ _ ⟨s6,rfl⟩)
  rintro σ H6 ⟨s6,rfl⟩
  have b6:=b5.trans (But.same s6)
  have hP6:PenAt H6 p (b+4):=qk hP5 s6 (by omega)
  refine seq_by (fun σ H7=>But p H H7/\PenAt H7 p (b+100)) (fun nx hn=>?_) (fun σ H7 ⟨h1,h2⟩=>k _ h1 h2)
  refine ⟨2,rfl,by decide,by decide,?_⟩
  refine for_by (ji (lo:=0) (n:=Int.toNat 2)) (fun i σ H7=>But p H H7/\PenAt H7 p (b+4+30 * i)/\∃ v6 v7 v8 v9,σ=[some (.ref p),some (.ref t),some (.ref t'),some (.ref h),some (.int (n:Int)),some (.int ((rowN rs first n).length:Int)),v6,v7,v8,v9])
   ⟨b6,hP6,_,_,_,_,rfl⟩ (fun _ _ _ _ _=>trivial) ?_ ?_
  ·rintro i y σ H7 hy ⟨b7,hP7,v6,v7,v8,v9,rfl⟩
   obtain ⟨hi2,rfl⟩:=Vt hy
   have hi2':i < 2:=hi2
   refine ⟨_,rfl,_,_,rfl,rfl,_,rfl,ite2 (fun hc=>?_) (fun hc=>⟨b7,hP7.mono (by omega),_,_,_,_,rfl⟩)⟩
   have hpos:0 < (rowN rs first n).length:=by have:=of_decide_eq_true hc;omega
   refine seq_by (fun σ H8=>H8=H7/\σ=[some (.ref p),some (.ref t),some (.ref t'),some (.ref h),some (.int (n:Int)),some (.int ((rowN rs first n).length:Int)),some (.int (i:Int)),some (.int 0),v8,v9]) (fun nx hn=>hn _ _ ⟨rfl,rfl⟩) ?_
   rintro σ Hz ⟨rfl,rfl⟩
   refine seq_by (fun σ H8=>But p H H8/\PenAt H8 p (b+4+30 * (i+1))/\∃ (N:Nat) (v8:Option V),σ=[some (.ref p),some (.ref t),some (.ref t'),some (.ref h),some (.int (n:Int)),some (.int ((rowN rs first n).length:Int)),some (.int (i:Int)),some (.int (N:Int)),v8,v9]) (fun nx hn=>?_) ?_
   ·refine ⟨30,rfl,by decide,by decide,?_⟩
    refine for_by (ji (lo:=0) (n:=Int.toNat 30)) (fun m σ H8=>But p H H8/\PenAt H8 p (b+4+30 * i+m)/\∃ (N:Nat) (v8:Option V),σ=[some (.ref p),some (.ref t),some (.ref t'),some (.ref h),some (.int (n:Int)),some (.int ((rowN rs first n).length:Int)),some (.int (i:Int)),some (.int (N:Int)),v8,v9])
     ⟨b7,hP7,0,_,rfl⟩ (fun _ _ _ _ _=>trivial) ?_ ?_
    ·rintro m y σ H8 hy ⟨b8,hP8,N,v8,rfl⟩
     obtain ⟨hm,rfl⟩:=Vt hy
     have hm':m < 30:=hm
     refine ⟨_,rfl,_,_,rfl,rfl,⟨by decide,by decide,by decide⟩,_,_,rfl,rfl,.inr ⟨by decide,by decide⟩,?_⟩
     refine ⟨_,rfl,_,_,rfl,rfl,⟨by decide,by decide,by decide⟩,p,b+4+30 * i+m,_,rfl,hP8,by omega,by decide,by decide,fun v H9 v0 v1 hP9 e9=>⟨_,_,rfl,rfl,?_⟩⟩
     obtain ⟨v,rfl⟩:=Int.eq_ofNat_of_zero_le v0
     obtain ⟨M,hM⟩:∃ M:Nat,(10:Int) ^ Int.toNat 8=(M:Int):=⟨100000000,by decide⟩
     have e0:(N:Int) * (10:Int) ^ Int.toNat 8+(v:Int)=((N * M+v:Nat):Int):=by
      rw [hM,Int.natCast_add,Int.natCast_mul]
     refine ⟨b8.trans (vj e9),hP9.mono (by omega),N * M+v,some (.int (m:Int)),?_⟩
     show [some (V.ref p),some (.ref t),some (.ref t'),some (.ref h),some (.int (n:Int)),some (.int ((rowN rs first n).length:Int)),some (.int (i:Int)),some (V.int ((N:Int) * (10:Int) ^ Int.toNat 8+(v:Int))),some (.int (m:Int)),v9]=_
     rw [e0]
    ·rintro σ H8 ⟨b8,hP8,N,v8,rfl⟩
     rw [rngV_length] at hP8
     exact hn _ _ ⟨b8,hP8.mono (by show b+4+30 * i+30<=_;omega),N,v8,rfl⟩
   rintro σ H8 ⟨b8,hP8,N,v8,rfl⟩
   refine ⟨_,rfl,_,rfl,_,_,rfl,rfl,(show (0:Int) < ((rowN rs first n).length:Int) by omega),?_⟩
   obtain ⟨pl,hpl,epl⟩:∃ pl:Nat,pl < (rowN rs first n).length/\((N:Int) % ((rowN rs first n).length:Int))=(pl:Int):=⟨N % (rowN rs first n).length,Nat.mod_lt _ hpos,by omega⟩
   rw [show (fun i j:Int=>V.int (i % j)) (N:Int) ((rowN rs first n).length:Int)=V.int (pl:Int) from congrArg V.int epl]
   have hpl1:pl < (first.map (szG rs n)).sum:=by rw [<- Yu];exact hpl
   have hpl2:pl < ((first.map (fst1 rs gs)).map (szG (shr rs gs) n)).sum:=by rw [<- Yu,elen];exact hpl
   have l1:=qas rs n first pl 0 hpl1
   have l2:=qas (shr rs gs) n (first.map (fst1 rs gs)) pl 0 hpl2
   rw [Y2 hG,List.getElem?_map,l1] at l2
   have hlin:=zr hG hG.fin n _ (List.mem_of_getElem? l1)
   dsimp only [gName]
   refine ⟨_,rfl,_,rfl,_,rfl,t',first.map (fst1 rs gs),shr rs gs,n,pl,rfl,hB'.but b8 hP,hS,hn3,hpl2,fun H9 s9=>?_⟩
   have b9:=b8.trans (But.same s9)
   refine ⟨_,rfl,_,rfl,_,rfl,_,rfl,t,first,rs,n,pl,rfl,hB.but b9 hP,hG,hn3,hpl1,fun HA sA=>?_⟩
   have bA:=b9.trans (But.same sA)
   have g1:=DGet.k (k:=kc (lastL (wayG rs (szG rs) (n+1) first pl) 0)) (bA _ _ hh nhp)
   rw [zt hlin] at g1
   refine ⟨h,_,rfl,g1,rfl,_,rfl,iteNS ?_ ⟨bA,qk hP8 (s9.trans sA) (Nat.le_refl _),_,_,_,_,rfl⟩⟩
   rw [<- Option.some.inj l2]
  ·rintro σ H7 ⟨b7,hP7,v6,v7,v8,v9,rfl⟩
   rw [rngV_length] at hP7
   exact hn _ _ ⟨b7,hP7.mono (by show b+4+30 * 2<=_;omega)⟩
end
end Lw
namespace Lw
open PySem L2 PyProof.Rows
theorem vs_flat {K:W.Frag} {H:Hp} {n:Nat} {a b:Addr} {xs:List V} (ha:H a=some (.tup xs)) (hb:H b=some (.tup xs)) (hx:∀ x∈xs,flatV x=true):VSame K H (n+1) (.ref a) (.ref b) :=
 .seq true (SqT.of ha) (SqT.of hb) rfl fun i p q e1 e2=>by
  rw [e1] at e2
  cases e2
  exact .flat (hx _ (List.mem_of_getElem? e1))
theorem qe7 {K:W.Frag} {H:Hp} {ps qs:List Addr} {rs:List Rule} (hp:RulesAt H ps rs) (hq:RulesAt H qs rs) {n i:Nat} {x y:V} (e1:(ps.map V.ref)[i]? = some x) (e2:(qs.map V.ref)[i]? = some y):VSame K H (n+1) x y:=by
 rw [List.getElem?_map] at e1 e2
 cases q1:ps[i]? with
 | none=>rw [q1] at e1;cases e1
 | some p =>
  cases q2:qs[i]? with
  | none=>rw [q2] at e2;cases e2
  | some q =>
   rw [q1] at e1
   rw [q2] at e2
   cases e1
   cases e2
   obtain ⟨c,w,r1,h1⟩:=hp.get q1
   obtain ⟨c',w',r2,h2⟩:=hq.get q2
   rw [r1] at r2
   cases r2
   refine vs_flat h1 h2 fun x hx=>?_
   rcases List.mem_cons.mp hx with z | z
   ·rw [z];rfl
   ·rw [List.mem_singleton.mp z];rfl
theorem Y3 {K:W.Frag} {H:Hp} {t u:Addr} {first:List Nat} {rs:List Rule} (ht:BookAt H t first rs) (hu:BookAt H u first rs):VSame K H 3 (.ref t) (.ref u):=by
 obtain ⟨r,ps,a1,a2,a3⟩:=ht.ex
 obtain ⟨r',ps',b1,b2,b3⟩:=hu.ex
 refine .seq true (SqT.of a1) (SqT.of b1) rfl fun i x y e1 e2=>?_
 rcases i with _ | _ | i
 ·cases e1
  cases e2
  exact .flat rfl
 ·cases e1
  cases e2
  exact .seq true (SqT.of a2) (SqT.of b2) (by rw [List.length_map,List.length_map,a3.len,b3.len]) fun i x y e1 e2=>qe7 a3 b3 e1 e2
 ·simp at e1
theorem qe8 {gs:List (List Nat)} (nd:gs.flatten.Nodup) {g:List Nat} (hg:g∈gs) {x y:Nat} (hx:x∈g) (hy:y∈g):gix gs x=gix gs y:=by
 obtain ⟨i,hi⟩:=List.mem_iff_getElem?.mp hg
 have hl:=(List.getElem?_eq_some_iff.mp hi).1
 have v1:valV (gdk gs) (kc x)=some (.int (i:Int)):=Zi hi hx nd hl
 have v2:valV (gdk gs) (kc y)=some (.int (i:Int)):=Zi hi hy nd hl
 rw [Vc nd (List.mem_flatten.mpr ⟨g,hg,hx⟩)] at v1
 rw [Vc nd (List.mem_flatten.mpr ⟨g,hg,hy⟩)] at v2
 have h1:=V.int.inj (Option.some.inj v1)
 have h2:=V.int.inj (Option.some.inj v2)
 omega
theorem zw:∀ xs:List (List Nat),(xs.filter fun x=>decide (x≠[])).flatten=xs.flatten
 | []=>rfl
 | [] :: xs=>by rw [List.filter_cons_of_neg (by simp)];exact zw xs
 | (a :: l) :: xs=>by
  rw [List.filter_cons_of_pos (by simp)]
  show (a :: l)++_=(a :: l)++_
  rw [zw xs]
def lft (rs:List Rule) (gs:List (List Nat)):List (List Nat):=(gs.map fun x=>x.filter fun c=>decide (fst1 rs gs c=c)).filter fun x=>decide (x≠[])
section
variable {first:List Nat} {us rs:List Rule} {gs:List (List Nat)}
theorem qa8:(lft rs gs).flatten=gs.flatten.filter fun c=>decide (fst1 rs gs c=c):=by
 unfold lft
 rw [zw,List.filter_flatten]
theorem qa9 (hK:Gk first us rs gs):(lft rs gs).flatten.Perm (ltr (shr rs gs)):=by
 rw [qa8,Zj]
 exact hK.gp.filter _
theorem qka (hK:Gk first us rs gs):(lft rs gs).flatten.Nodup:=by
 rw [qa8]
 exact hK.fnd.filter _
theorem qhr (hK:Gk first us rs gs):∀ x y,x∈(lft rs gs).flatten->y∈(lft rs gs).flatten->gix (lft rs gs) x=gix (lft rs gs) y->gix gs x=gix gs y:=fun x y hx hy e=>by
 obtain ⟨z,hz,zx⟩:=qdj hx
 obtain ⟨z',hz',zy⟩:=qdj hy
 rw [e,hz'] at hz
 rw [Option.some.inj hz] at zy
 have hm:=List.mem_of_getElem? hz'
 rw [Option.some.inj hz] at hm
 unfold lft at hm
 obtain ⟨g,hg,rfl⟩:=List.mem_map.mp (List.mem_filter.mp hm).1
 exact qe8 hK.fnd hg (List.mem_filter.mp zx).1 (List.mem_filter.mp zy).1
theorem qe9 (hK:Gk first us rs gs):shr (shr rs gs) (lft rs gs)=shr rs gs/\(first.map (fst1 rs gs)).map (fst1 (shr rs gs) (lft rs gs))=first.map (fst1 rs gs) :=
 qe6 hK.G fun c hc=>qhn hK.G hK.fnd (fun c hc=>hK.fin hc) (qka hK) (fun c hc=>(qa9 hK).mem_iff.mpr hc) (qhr hK) hc
end
theorem qfa {K:W.Frag} {s0 s2 s3 s4 s7 s8 s12 s13 s14 s15:Option V} {p d l2 g t:Addr} {first:List Nat} {us rs:List Rule} {gs:List (List Nat)} {H:Hp} {Q:VK} {nx:L2.St->Hp->Prop} {b:Nat} (hK:Gk first us rs gs) (hP:PenAt H p b) (hb:b<=700000) (hd:H d=some (.dK (kvw us))) (hl:H l2=some (.lst ((ltr rs).map sign))) (hg:H g=some (.lst (gs.map tx))) (hgn:∀ x∈gs,x≠[]) (hB:BookAt H t first rs) (k:∀ H',Q (.bl true) H') :
  tSeq (tAsg (tCall (spHds K) [] E0 (tCons (tVar 5) (tCons (tVar 9) tNil))) (gName 12))
             (tSeq
              (tAsg
               (tCall (spShr K) [] E0
                (tCons (tVar 11) (tCons (tCB (rListOf K) (tCons (tVar 9) tNil)) tNil)))
               (gName 13))
              (tSeq
               (fun D σ H =>
                tComp [none,some 12,some 5] (iList K (tVar 6)) (gName 0)
                 (tTest (tOp rEq (tDGet (tVar 1) (tVar 0)) (tVar 0)))
                 (tTup
                  (tCons (tVar 0)
                   (tCons
                    (tCall (spRpd K) [] E0 (tCons (tVar 1) (tCons (tDGet (tVar 2) (tVar 0)) tNil)))
                    tNil)))
                 σ H fun v H1=>D.nx (List.set σ 14 (some v)) H1)
               (tSeq
                (tIfS
                 (tOr (tNot (tB (tCB (rIsi K) (tCons (tVar 13) (tCons (tC (V.ty "tuple")) tNil)))))
                  (tTest
                   (tOp (rSameV K false) (tVar 13)
                    (tTup
                     (tCons (tCall (spRpd K) [] E0 (tCons (tVar 12) (tCons (tVar 10) tNil)))
                      (tCons (tCB (rTupOf K) (tCons (tVar 14) tNil)) tNil))))))
                 (tRet (tC (V.bl false))) tNext)
                (tSeq
                 (tIfS
                  (tOr
                   (tNot
                    (tB
                     (tCall (spRwa K) [] E0
                      (tCons (tVar 11)
                       (tCons (tVar 13) (tCons (tVar 5) (tCons (tVar 12) tNil)))))))
                   (tNot
                    (tB
                     (tCall (spGra K) [] E0
                      (tCons (tVar 1)
                       (tCons (tVar 11) (tCons (tVar 13) (tCons (tVar 12) tNil))))))))
                  (tRet (tC (V.bl false))) tNext)
                 (tSeq
                  (fun D σ H =>
                   tComp [none,some 12] (iList K (tVar 9)) (gName 0) tAll
                    (tBM K "str" (rJoin K) (tC (V.str (Str.ofString "")))
                     (tCons
                      (tComp [none,some 1] (iStr (tVar 0)) (gName 0)
                       (tTest (tOp rEq (tDGet (tVar 1) (tVar 0)) (tVar 0))) (tVar 0))
                      tNil))
                    σ H fun v H1=>D.nx (List.set σ 15 (some v)) H1)
                  (tRet
                   (tAndV
                    (tOp (rSameV K true)
                     (tCall (spShr K) [] E0
                      (tCons (tVar 13)
                       (tCons
                        (tComp [none] (iList K (tVar 15)) (gName 0)
                         (tTest (tOp rNe (tVar 0) (tC (V.str (Str.ofString ""))))) (tVar 0))
                        tNil)))
                     (tVar 13))
                    (tOp (rSameV K true)
                     (tCall (spShr K) [] E0
                      (tCons (tVar 11) (tCons (tCB (rListOf K) (tCons (tVar 9) tNil)) tNil)))
                     (tVar 13)))))))))
  { nx:=nx,rt:=Q } [s0,some (.ref p),s2,s3,s4,some (.ref d),some (.ref l2),s7,s8,some (.ref g),some (tx first),some (.ref t),s12,s13,s14,s15] H:=by
 have hG:=hK.G
 have hS:=yi (gs:=gs) hG
 have e8:(ltr rs).length<=8:=by rw [ltr_len];exact hG.few
 have hgl:=hK.gl
 refine ⟨_,rfl,_,rfl,d,g,first,us,rs,gs,rfl,hd,hg,hK,fun e H1 s1 ne he=>?_⟩
 have nep:e≠p:=jw hP ne
 dsimp only [gName]
 refine ⟨_,rfl,_,rfl,g,_,rfl,.inl (SqL.of (s1 _ _ hg)),fun gc ngc=>?_⟩
 have s2':=Same.add (o:=.lst (gs.map tx)) ngc
 have s12':=s1.trans s2'
 refine ⟨t,gc,first,rs,gs,rfl,hB.mono (TupS.same s12'),hG,upd_same,hgl,hgn,hK.gp,fun B H3 s3' hB3=>?_⟩
 have s03:=s12'.trans s3'
 have he3:=(s2'.trans s3') _ _ he
 clear s2' s12' s3' ngc
 have hl3:=s03 _ _ hl
 have elr:∀ i,((ltr rs).map sign)[i]? = (rs[i]?).map fun q:Rule=>sign q.1:=fun i=>by unfold ltr;rw [List.map_map,List.getElem?_map];rfl
 dsimp only [gName]
 refine seq_cmp ?_
 refine ⟨_,rfl,l2,rfl,⟨_,SqL.of hl3⟩,?_⟩
 refine comp_byR (τ0:=[none,some (.ref e),some (.ref d)]) (sure_list (xs:=(ltr rs).map sign)) (by rw [List.length_map];omega)
  (fun i ys τ H4=>Same H3 H4/\(∃ v,τ=[v,some (.ref e),some (.ref d)])/\∃ ps:List Addr,ys=ps.map V.ref/\ps.length<=i/\RulesAt H4 ps (((rs.take i).filter fun q=>decide (fst1 rs gs q.1=q.1)).map fun q=>(q.1,q.2.map (fst1 rs gs)))) ⟨Same.refl _,⟨_,rfl⟩,[],rfl,Nat.le_refl _,.nil⟩ ?_ ?_ ?_
 ·rintro i ys τ H4 hi ⟨s4,_,ps,rfl,hpl,_⟩
  exact ⟨SqL.of (s4 _ _ hl3),by rw [List.length_map];exact hpl⟩
 ·rintro i y ys τ H4 hy ⟨s4,⟨v,rfl⟩,ps,rfl,hpl,hR⟩
  rw [elr] at hy
  cases eq:rs[i]? with
  | none=>rw [eq] at hy;cases hy
  | some q =>
   rw [eq] at hy
   cases hy
   have hqm:=List.mem_of_getElem? eq
   have hq:q.1∈ltr rs:=List.mem_map_of_mem hqm
   have g1:=DGet.k (k:=kc q.1) (s4 _ _ he3)
   rw [zt hq] at g1
   rw [j3 (fun q:Rule=>decide (fst1 rs gs q.1=q.1)) eq]
   refine ⟨_,rfl,_,rfl,e,_,rfl,g1,_,rfl,rfl,_,rfl,ite2 (fun hc=>?_) (fun hc=>?_)⟩
   ·have hf:fst1 rs gs q.1=q.1:=by
     have:=V.str.inj (of_decide_eq_true hc)
     simpa [one] using this
    have ew:wd rs q.1=q.2:=qdm hG.nd hqm
    refine ⟨_,rfl,_,rfl,_,rfl,_,rfl,d,_,rfl,hK.get ((s03.trans s4) _ _ hd) hq,e,wd rs q.1,ltr rs,fst1 rs gs,rfl,s4 _ _ he3,by have:=Zc hG hq;omega,zh hG hq,fun H5 s5=>?_⟩
    refine ⟨szl (show 2<=1000 by decide),fun T nT=>?_⟩
    have sT:=Same.add (o:=.tup [sign q.1,tx ((wd rs q.1).map (fst1 rs gs))]) nT
    refine ⟨s4.trans (s5.trans sT),⟨_,rfl⟩,ps++[T],by rw [List.map_append];rfl,by rw [List.length_append];show _+1<=_;omega,?_⟩
    rw [if_pos (decide_eq_true hf),List.map_append]
    refine (hR.mono (TupS.same (s5.trans sT))).snoc ?_
    rw [upd_same,ew]
   ·have hf:fst1 rs gs q.1≠q.1:=fun z=>hc (decide_eq_true (by rw [z]))
    refine ⟨s4,⟨_,rfl⟩,ps,rfl,by omega,?_⟩
    rw [if_neg (by simpa using hf),List.append_nil]
    exact hR
 rintro ys τ H4 D ⟨s4,_,ps,rfl,hpl,hR⟩ nD
 rw [List.length_map,ltr_len,List.take_length] at hR
 have hR:RulesAt H4 ps (shr rs gs):=hR
 have sD:=Same.add (o:=.lst (ps.map V.ref)) nD
 have hD:=upd_same (H:=H4) (a:=D) (o:=.lst (ps.map V.ref))
 have s35:=s4.trans sD
 have hR5:=hR.mono (TupS.same sD)
 revert hD s35 hR5
 generalize upd H4 D (.lst (ps.map V.ref))=H5
 intro hD s35 hR5
 have s05:=s03.trans s35
 have he5:=s35 _ _ he3
 have hB5:=hB3.mono (TupS.same s35)
 clear hR sD nD s4
 have hfl:=hG.fl
 refine seq_by (fun σ H6=>Same H5 H6/\σ=[s0,some (.ref p),s2,s3,s4,some (.ref d),some (.ref l2),s7,s8,some (.ref g),some (tx first),some (.ref t),some (.ref e),some (.ref B),some (.ref D),s15]) (fun nx hn=>?_) ?_
 ·obtain ⟨rB,psB,c1,c2,c3⟩:=hB5.ex
  refine ⟨_,rfl,_,_,_,true,rfl,TyOf.tup c1,(by rfl),_,rfl,iteF ?_⟩
  refine ⟨_,rfl,_,rfl,_,rfl,e,first,ltr rs,fst1 rs gs,rfl,he5,by omega,hG.fin,fun H6 s6=>?_⟩
  refine ⟨_,rfl,D,_,rfl,.inl ⟨SqL.of (s6 _ _ hD),fun r nr=>?_⟩⟩
  have sr:=Same.add (o:=.tup (ps.map V.ref)) nr
  refine ⟨szl (show 2<=1000 by decide),fun T2 nT=>?_⟩
  have sT:=Same.add (o:=.tup [tx (first.map (fst1 rs gs)),V.ref r]) nT
  have s6T:=s6.trans (sr.trans sT)
  have hBT:BookAt (upd (upd H6 r (.tup (ps.map V.ref))) T2 (.tup [tx (first.map (fst1 rs gs)),V.ref r])) T2 (first.map (fst1 rs gs)) (shr rs gs):=⟨r,ps,upd_same,sT _ _ upd_same,hR5.mono (TupS.same s6T)⟩
  exact ⟨2,B,T2,rfl,rfl,Y3 (hB5.mono (TupS.same s6T)) hBT,by decide,_,rfl,iteF (hn _ _ ⟨s6T,rfl⟩)⟩
 rintro σ H6 ⟨s6,rfl⟩
 have s06:=s05.trans s6
 refine seq_by (fun σ H7=>But p H6 H7/\σ=[s0,some (.ref p),s2,s3,s4,some (.ref d),some (.ref l2),s7,s8,some (.ref g),some (tx first),some (.ref t),some (.ref e),some (.ref B),some (.ref D),s15]) (fun nx hn=>?_) ?_
 ·refine ⟨_,rfl,_,rfl,_,rfl,_,rfl,t,B,d,e,first,us,rs,gs,rfl,hB.mono (TupS.same s06),hB5.mono (TupS.same s6),s06 _ _ hd,s6 _ _ he5,hK,fun H7 s7=>⟨_,rfl,iteF ?_⟩⟩
  refine ⟨_,rfl,_,rfl,_,rfl,_,rfl,p,t,B,e,b,first,rs,gs,rfl,qk hP (s06.trans s7) (Nat.le_refl _),by omega,hB.mono (TupS.same (s06.trans s7)),hB5.mono (TupS.same (s6.trans s7)),(s6.trans s7) _ _ he5,hG,nep,fun H8 b8 hP8=>⟨_,rfl,iteF (hn _ _ ⟨(But.same s7).trans b8,rfl⟩)⟩⟩
 rintro σ H7 ⟨b7,rfl⟩
 have hP6:=qk hP s06 (Nat.le_refl _)
 have ngp:g≠p:=fun z=>by
  obtain ⟨a,n,f,e1,_⟩:=hP.ex
  rw [z,e1] at hg
  have h2:=HO.lst.inj (Option.some.inj hg)
  cases gs with
  | nil=>cases h2
  | cons x r =>
   rw [List.map_cons] at h2
   cases (List.cons.inj h2).1
 have he7:=b7 _ _ (s6 _ _ he5) nep
 have hg7:=b7 _ _ (s06 _ _ hg) ngp
 have hB7:=(hB.mono (TupS.same s06)).but b7 hP6
 have hBB7:=(hB5.mono (TupS.same s6)).but b7 hP6
 clear hB5 hB3 hP6 b7 s6 s06 he5 he3 hR5 hD
 refine seq_cmp ?_
 refine ⟨_,rfl,g,rfl,⟨_,SqL.of hg7⟩,?_⟩
 refine qu (τ0:=[none,some (.ref e)]) (sure_list (xs:=gs.map tx)) (by rw [List.length_map];omega)
  (fun i ys τ H8=>Same H7 H8/\(∃ v,τ=[v,some (.ref e)])/\ys=((gs.take i).map fun x=>x.filter fun c=>decide (fst1 rs gs c=c)).map tx) ⟨Same.refl _,⟨_,rfl⟩,rfl⟩ ?_ ?_ ?_
 ·rintro i ys τ H8 hi ⟨s8,_,rfl⟩
  refine ⟨SqL.of (s8 _ _ hg7),?_⟩
  rw [List.length_map,List.length_map,List.length_take]
  omega
 ·rintro i y ys τ H8 hy ⟨s8,⟨v,rfl⟩,rfl⟩
  rw [List.getElem?_map] at hy
  cases ex:gs[i]? with
  | none=>rw [ex] at hy;cases hy
  | some x =>
   rw [ex] at hy
   cases hy
   have hxm:=List.mem_of_getElem? ex
   have hx8:x.length<=8:=by
    have h1:=(List.sublist_flatten_of_mem hxm).length_le
    have h2:=hK.gp.length_eq
    omega
   have hxL:∀ c∈x,c∈ltr rs:=fun c hc=>hK.gp.mem_iff.mp (List.mem_flatten.mpr ⟨x,hxm,hc⟩)
   refine ⟨rfl,_,rfl,⟨x.toArray⟩,rfl,?_⟩
   have elx:((⟨x.toArray⟩:Str).cps.toList.map sign).length=x.length:=by simp
   refine comp_byR (τ0:=[none,some (.ref e)]) (jr (x:=⟨x.toArray⟩)) (by rw [elx];omega)
    (fun j us' τ H9=>H9=H8/\(∃ v,τ=[v,some (.ref e)])/\us'=((x.take j).filter fun c=>decide (fst1 rs gs c=c)).map sign) ⟨rfl,⟨_,rfl⟩,rfl⟩ ?_ ?_ ?_
   ·rintro j us' τ H9 hj ⟨rfl,_,rfl⟩
    refine ⟨trivial,?_⟩
    rw [List.length_map]
    have:=List.length_filter_le (fun c=>decide (fst1 rs gs c=c)) (x.take j)
    rw [List.length_take] at this
    omega
   ·rintro j y us' τ H9 hy ⟨rfl,⟨v,rfl⟩,rfl⟩
    have hy':(x.map sign)[j]? = some y:=hy
    rw [List.getElem?_map] at hy'
    cases ec:x[j]? with
    | none=>rw [ec] at hy';cases hy'
    | some c =>
     rw [ec] at hy'
     cases hy'
     have g1:=DGet.k (k:=kc c) (s8 _ _ he7)
     rw [zt (hxL c (List.mem_of_getElem? ec))] at g1
     rw [j3 (fun c=>decide (fst1 rs gs c=c)) ec]
     refine ⟨_,rfl,_,rfl,e,_,rfl,g1,_,rfl,rfl,_,rfl,ite2 (fun hc=>?_) (fun hc=>?_)⟩
     ·have hf:fst1 rs gs c=c:=by
       have:=V.str.inj (of_decide_eq_true hc)
       simpa [one] using this
      refine ⟨_,rfl,rfl,⟨_,rfl⟩,?_⟩
      rw [if_pos (decide_eq_true hf),List.map_append]
      rfl
     ·have hf:fst1 rs gs c≠c:=fun z=>hc (decide_eq_true (by rw [z]))
      refine ⟨rfl,⟨_,rfl⟩,?_⟩
      rw [if_neg (by simpa using hf),List.append_nil]
   ·rintro us' τ H9 D' ⟨rfl,_,rfl⟩ nD'
    rw [elx,List.take_length]
    have ey:∀ ys:List Nat,ys.map sign=(ys.map one).map V.str:=fun ys=>by rw [List.map_map];rfl
    have hfl':=List.length_filter_le (fun c=>decide (fst1 rs gs c=c)) x
    refine ⟨_,D',(x.filter fun c=>decide (fst1 rs gs c=c)).map one,rfl,rfl,(by rw [<- ey];exact SqL.of upd_same),?_,?_⟩
    ·rw [show (((x.filter fun c=>decide (fst1 rs gs c=c)).map one).map (·.length)).sum=(x.filter fun c=>decide (fst1 rs gs c=c)).length from yc _]
     show _+_ * 0<=_
     omega
    rw [show Txt.join (Str.ofString "") ((x.filter fun c=>decide (fst1 rs gs c=c)).map one)=⟨(x.filter fun c=>decide (fst1 rs gs c=c)).toArray⟩ from jv _]
    refine ⟨s8.trans (Same.add nD'),⟨_,rfl⟩,?_⟩
    rw [jc (fun x:List Nat=>x.filter fun c=>decide (fst1 rs gs c=c)) ex,List.map_append]
    rfl
 rintro ys τ H8 L nL0 nL
 obtain ⟨s8,_,rfl⟩:=nL0
 rw [List.length_map,List.take_length]
 have sL:=Same.add (o:=.lst ((gs.map fun x=>x.filter fun c=>decide (fst1 rs gs c=c)).map tx)) nL
 have hL:=upd_same (H:=H8) (a:=L) (o:=.lst ((gs.map fun x=>x.filter fun c=>decide (fst1 rs gs c=c)).map tx))
 have s79:=s8.trans sL
 revert hL s79
 generalize upd H8 L (.lst ((gs.map fun x=>x.filter fun c=>decide (fst1 rs gs c=c)).map tx))=H9
 intro hL s79
 clear sL nL s8
 have hB9:=hB7.mono (TupS.same s79)
 have hBB9:=hBB7.mono (TupS.same s79)
 have hg9:=s79 _ _ hg7
 refine ⟨_,rfl,_,rfl,L,rfl,⟨_,SqL.of hL⟩,?_⟩
 have lenL:(gs.map fun x=>x.filter fun c=>decide (fst1 rs gs c=c)).length=gs.length:=List.length_map _
 generalize hxs:(gs.map fun x=>x.filter fun c=>decide (fst1 rs gs c=c))=xs at hL lenL
 refine comp_byR (τ0:=[none]) (sure_list (xs:=xs.map tx)) (by rw [List.length_map];omega)
  (fun i us' τ Hx=>Hx=H9/\(∃ v,τ=[v])/\us'=((xs.take i).filter fun x=>decide (x≠[])).map tx) ⟨rfl,⟨_,rfl⟩,rfl⟩ ?_ ?_ ?_
 ·rintro i us' τ Hx hi ⟨rfl,_,rfl⟩
  refine ⟨SqL.of hL,?_⟩
  rw [List.length_map]
  have:=List.length_filter_le (fun x:List Nat=>decide (x≠[])) (xs.take i)
  rw [List.length_take] at this
  omega
 ·rintro i y us' τ Hx hy ⟨rfl,⟨v,rfl⟩,rfl⟩
  rw [List.getElem?_map] at hy
  cases ez:xs[i]? with
  | none=>rw [ez] at hy;cases hy
  | some x =>
   rw [ez] at hy
   cases hy
   have ef:=j3 (fun x:List Nat=>decide (x≠[])) ez
   rw [ef]
   refine ⟨_,rfl,rfl,_,rfl,ite2 (fun hc=>?_) (fun hc=>?_)⟩
   ·have hne:x≠[]:=fun z=>by subst z;exact absurd hc (by decide)
    refine ⟨_,rfl,rfl,⟨_,rfl⟩,?_⟩
    rw [if_pos (decide_eq_true hne),List.map_append]
    rfl
   ·have heq:x=[]:=Classical.byContradiction fun z=>hc (by
     rw [decide_eq_false fun y=>z (by have:=V.str.inj y;have:=congrArg (fun s:Str=>s.cps.toList) this;exact (by simpa using this:x=(Str.ofString "").cps.toList).trans (by decide +kernel))]
     rfl)
    refine ⟨rfl,⟨_,rfl⟩,?_⟩
    rw [if_neg (by rw [heq];decide),List.append_nil]
 rintro us' τ Hx M ⟨rfl,_,rfl⟩ nM
 rw [List.length_map,List.take_length]
 have elft:xs.filter (fun x=>decide (x≠[]))=lft rs gs:=by rw [<- hxs];rfl
 rw [elft]
 have sM:=Same.add (o:=.lst ((lft rs gs).map tx)) nM
 have lle:(lft rs gs).length<=30:=by rw [<- elft];exact Nat.le_trans (List.length_filter_le _ _) (by omega)
 refine ⟨B,M,first.map (fst1 rs gs),shr rs gs,lft rs gs,rfl,hBB9.mono (TupS.same sM),hS,upd_same,lle,fun x hx=>of_decide_eq_true (List.mem_filter.mp hx).2,qa9 hK,fun B2 HA sA hB2=>?_⟩
 obtain ⟨eb1,eb2⟩:=qe9 hK
 rw [eb1,eb2] at hB2
 have sMA:=sM.trans sA
 refine ⟨_,rfl,2,B2,B,rfl,rfl,Y3 hB2 (hBB9.mono (TupS.same sMA)),by decide,_,rfl,iteT ?_⟩
 refine ⟨_,rfl,_,rfl,g,_,rfl,.inl (SqL.of (sMA _ _ hg9)),fun gd ngd=>?_⟩
 have sd:=Same.add (o:=.lst (gs.map tx)) ngd
 refine ⟨t,gd,first,rs,gs,rfl,hB9.mono (TupS.same (sMA.trans sd)),hG,upd_same,hgl,hgn,hK.gp,fun B3 HB sB hB3=>?_⟩
 exact ⟨_,rfl,2,B3,B,rfl,rfl,Y3 hB3 (hBB9.mono (TupS.same (sMA.trans (sd.trans sB)))),by decide,k _⟩
end Lw
namespace Lw
open PySem L2 PyProof.Rows
theorem nine (j:Nat) (h:j < 9):∃ m:Nat,([V.int 4,V.int 5,V.int 3,V.int 8,V.int 6,V.int 2,V.int 7,V.int 1,V.int 0]:List V)[j]? = some (.int (m:Int))/\m<=8:=by
 match j,h with
 | 0,_=>exact ⟨4,rfl,by decide⟩
 | 1,_=>exact ⟨5,rfl,by decide⟩
 | 2,_=>exact ⟨3,rfl,by decide⟩
 | 3,_=>exact ⟨8,rfl,by decide⟩
 | 4,_=>exact ⟨6,rfl,by decide⟩
 | 5,_=>exact ⟨2,rfl,by decide⟩
 | 6,_=>exact ⟨7,rfl,by decide⟩
 | 7,_=>exact ⟨1,rfl,by decide⟩
 | 8,_=>exact ⟨0,rfl,by decide⟩
theorem Y4 (x:List Nat) (i:Nat):Txt.slice ⟨x.toArray⟩ (some (i:Int)) none=⟨(x.drop i).toArray⟩:=by
 by_cases h:i<=x.length
 ·exact Vs x i h
 ·have e:Txt.slice ⟨x.toArray⟩ (some (i:Int)) none=Txt.slice ⟨x.toArray⟩ (some ((x.length:Nat):Int)) none:=by
   unfold Txt.slice
   rw [PyProof.Rows.indices_beyond (show (((⟨x.toArray⟩:Str).length:Nat):Int)<=(i:Int) by show ((x.length:Nat):Int)<=_;omega)]
   rfl
  rw [e,Vs x x.length (Nat.le_refl _),List.drop_length,List.drop_of_length_le (by omega)]
theorem Ws.put {us:List Rule} {c:Nat} {w:List Nat} (h:Ws us) (h1:w.length<=6) (h2:∀ e∈w,e∈ltr us):Ws (rpl us c w):=by
 have el:=Yw us c w
 have hm:∀ q∈rpl us c w,q.2=w\/q∈us:=fun q hq=>by
  unfold rpl at hq
  obtain ⟨r,hr,e⟩:=List.mem_map.mp hq
  split at e
  ·left;rw [<- e]
  ·right;rw [<- e];exact hr
 refine ⟨by rw [<- ltr_len,el,ltr_len];exact h.few,by rw [el];exact h.nd,by rw [el];exact h.abc,fun q hq=>?_,fun q hq e he=>?_⟩
 ·rcases hm q hq with z | z
  ·rw [z];exact h1
  ·exact h.wl q z
 ·rw [el]
  rcases hm q hq with z | z
  ·rw [z] at he;exact h2 e he
  ·exact h.win q z e he
theorem qfb {K:W.Frag} {a:Addr} {ns:List Int} {H:Hp} {Q:VK} {nx:L2.St->Hp->Prop} (hS:SqL K H a (ns.map V.int)) (h63:ns.length<=63) (k:∀ H',Q (.bl true) H') :
tSeq (tAsg (tCall (spPen K) [] E0 (tCons (tVar 0) (tCons (tC (V.int 0)) tNil))) (gName 1))
  (tSeq (tAsg (tCall spTak [] E0 (tCons (tVar 1) (tCons (tC (V.int 2)) tNil))) (gName 2))
   (tSeq (tAsg (tCall spTak [] E0 (tCons (tVar 1) (tCons (tC (V.int 3)) tNil))) (gName 3))
    (tSeq
     (tAsg
      (tCall spHms [] E0
       (tCons (tVar 1)
        (tCons
         (tOp (rIxL K)
          (tLst
           (tCons (tC (V.int 4))
            (tCons (tC (V.int 5))
             (tCons (tC (V.int 3))
              (tCons (tC (V.int 8))
               (tCons (tC (V.int 6))
                (tCons (tC (V.int 2))
                 (tCons (tC (V.int 7)) (tCons (tC (V.int 1)) (tCons (tC (V.int 0)) tNil))))))))))
          (tCall spTak [] E0 (tCons (tVar 1) (tCons (tC (V.int 9)) tNil))))
         tNil)))
      (gName 4))
     (tSeq (tAsg (tCall spWds [] E0 (tCons (tVar 1) (tCons (tVar 4) tNil))) (gName 5))
      (tSeq (tAsg (tCB (rSortT K) (tCons (tCB rListD (tCons (tVar 5) tNil)) tNil)) (gName 6))
       (tSeq
        (tIfS (tAnd (tTest (tOp rEq (tVar 2) (tC (V.int 1)))) (tTest (tOp (rNeL0 K) (tVar 6) (tLst tNil))))
         (tSeq
          (tAsg
           (tOp (rIxL K) (tVar 6)
            (tCall spTak [] E0 (tCons (tVar 1) (tCons (tCB (rLen K) (tCons (tVar 6) tNil)) tNil))))
           (gName 7))
          (tSeq (tAsg (tCall spTak [] E0 (tCons (tVar 1) (tCons (tC (V.int 6)) tNil))) (gName 8))
           (sDPut (tVar 5) (tVar 7)
            (tOp
             (fun x y H Q =>
              ∃ i j,x=V.str i/\y=V.str j/\i.length+j.length<=sizeLine/\Q (V.str (i++j)) H)
             (tOp
              (fun x y H Q =>
               ∃ i j,x=V.str i/\y=V.str j/\i.length+j.length<=sizeLine/\Q (V.str (i++j)) H)
              (tSl rSlS (tDGet (tVar 5) (tVar 7)) tNoPart (tPart (tVar 8)))
              (tOp (rIxL K) (tVar 6)
               (tCall spTak [] E0 (tCons (tVar 1) (tCons (tCB (rLen K) (tCons (tVar 6) tNil)) tNil)))))
             (tSl rSlS (tDGet (tVar 5) (tVar 7))
              (tPart (tOp (rI0 fun i j=>V.int (i+j)) (tVar 8) (tC (V.int 1)))) tNoPart)))))
         tNext)
        (tSeq
         (tAsg
          (tCall spMix [] E0
           (tCons (tVar 1)
            (tCons
             (tComp [none,some 1] (iList K (tVar 4)) (gName 0) tAll
              (tBM K "str" (rJoin K) (tC (V.str (Str.ofString "")))
               (tCons (tCall spMix [] E0 (tCons (tVar 1) (tCons (tVar 0) tNil))) tNil)))
             tNil)))
          (gName 9))
         (tSeq
          (tIfS (tAnd (tTest (tOp rEq (tVar 3) (tC (V.int 0)))) (tTest (tOp (rNeL0 K) (tVar 9) (tLst tNil))))
           (tAsg
            (tLst (tCons (tBM K "str" (rJoin K) (tC (V.str (Str.ofString ""))) (tCons (tVar 9) tNil)) tNil))
            (gName 9))
           tNext)
          (tSeq
           (tAsg
            (tBM K "str" (rJoin K) (tC (V.str (Str.ofString "")))
             (tCons
              (tComp [none,some 6,some 1]
               (iRng1
                (tCons
                 (tOp (rI CMul fun i j=>V.int (i * j))
                  (tCall spTak [] E0 (tCons (tVar 1) (tCons (tC (V.int 13)) tNil)))
                  (tCB
                   (fun xs H Q =>
                    (∃ i,xs=[V.int i]/\Q (V.int i) H) \/
                     ∃ k,xs=[V.bl k]/\Q (V.int (if k=true then 1 else 0)) H)
                   (tCons (tOp (rNeL0 K) (tVar 6) (tLst tNil)) tNil)))
                 tNil))
               (gName 0) tAll
               (tOp (rIxL K) (tVar 1)
                (tCall spTak [] E0 (tCons (tVar 2) (tCons (tCB (rLen K) (tCons (tVar 1) tNil)) tNil)))))
              tNil))
            (gName 10))
           (tSeq
            (tAsg
             (tTup
              (tCons (tVar 10)
               (tCons
                (tCB (rTupOf K)
                 (tCons
                  (tComp [none,some 5] (iList K (tVar 6)) (gName 0) tAll
                   (tTup (tCons (tVar 0) (tCons (tDGet (tVar 1) (tVar 0)) tNil))))
                  tNil))
                tNil)))
             (gName 11))
            (tSeq (tAsg (tCall (spHds K) [] E0 (tCons (tVar 5) (tCons (tVar 9) tNil))) (gName 12))
             (tSeq
              (tAsg
               (tCall (spShr K) [] E0
                (tCons (tVar 11) (tCons (tCB (rListOf K) (tCons (tVar 9) tNil)) tNil)))
               (gName 13))
              (tSeq
               (fun D σ H =>
                tComp [none,some 12,some 5] (iList K (tVar 6)) (gName 0)
                 (tTest (tOp rEq (tDGet (tVar 1) (tVar 0)) (tVar 0)))
                 (tTup
                  (tCons (tVar 0)
                   (tCons
                    (tCall (spRpd K) [] E0 (tCons (tVar 1) (tCons (tDGet (tVar 2) (tVar 0)) tNil)))
                    tNil)))
                 σ H fun v H1=>D.nx (List.set σ 14 (some v)) H1)
               (tSeq
                (tIfS
                 (tOr (tNot (tB (tCB (rIsi K) (tCons (tVar 13) (tCons (tC (V.ty "tuple")) tNil)))))
                  (tTest
                   (tOp (rSameV K false) (tVar 13)
                    (tTup
                     (tCons (tCall (spRpd K) [] E0 (tCons (tVar 12) (tCons (tVar 10) tNil)))
                      (tCons (tCB (rTupOf K) (tCons (tVar 14) tNil)) tNil))))))
                 (tRet (tC (V.bl false))) tNext)
                (tSeq
                 (tIfS
                  (tOr
                   (tNot
                    (tB
                     (tCall (spRwa K) [] E0
                      (tCons (tVar 11)
                       (tCons (tVar 13) (tCons (tVar 5) (tCons (tVar 12) tNil)))))))
                   (tNot
                    (tB
                     (tCall (spGra K) [] E0
                      (tCons (tVar 1)
                       (tCons (tVar 11) (tCons (tVar 13) (tCons (tVar 12) tNil))))))))
                  (tRet (tC (V.bl false))) tNext)
                 (tSeq
                  (fun D σ H =>
                   tComp [none,some 12] (iList K (tVar 9)) (gName 0) tAll
                    (tBM K "str" (rJoin K) (tC (V.str (Str.ofString "")))
                     (tCons
                      (tComp [none,some 1] (iStr (tVar 0)) (gName 0)
                       (tTest (tOp rEq (tDGet (tVar 1) (tVar 0)) (tVar 0))) (tVar 0))
                      tNil))
                    σ H fun v H1=>D.nx (List.set σ 15 (some v)) H1)
                  (tRet
                   (tAndV
                    (tOp (rSameV K true)
                     (tCall (spShr K) [] E0
                      (tCons (tVar 13)
                       (tCons
                        (tComp [none] (iList K (tVar 15)) (gName 0)
                         (tTest (tOp rNe (tVar 0) (tC (V.str (Str.ofString ""))))) (tVar 0))
                        tNil)))
                     (tVar 13))
                    (tOp (rSameV K true)
                     (tCall (spShr K) [] E0
                      (tCons (tVar 11) (tCons (tCB (rListOf K) (tCons (tVar 9) tNil)) tNil)))
                     (tVar 13))))))))))))))))))))
  { nx:=nx,rt:=Q } [some (.ref a),none,none,none,none,none,none,none,none,none,none,none,none,none,none,none] H:=by
 refine ⟨_,rfl,a,ns,0,rfl,hS,h63,by omega,by omega,fun p H1 s1 np hP1=>?_⟩
 dsimp only [gName]
 refine ⟨_,rfl,p,0,2,rfl,hP1,by omega,by decide,by decide,fun sp H2 sp0 sp1 hP2 e2=>?_⟩
 dsimp only [gName]
 refine ⟨_,rfl,p,1,3,rfl,hP2,by omega,by decide,by decide,fun tg Hb tg0 tg1 hPb eb=>?_⟩
 dsimp only [gName]
 refine ⟨_,rfl,szl (show 9<=1000 by decide),fun L9 n9=>?_⟩
 have n9p:=jw hPb n9
 have s9:=Same.add (o:=.lst [V.int 4,V.int 5,V.int 3,V.int 8,V.int 6,V.int 2,V.int 7,V.int 1,V.int 0]) n9
 refine ⟨_,rfl,p,2,9,rfl,qk hPb s9 (Nat.le_refl _),by omega,by decide,by decide,fun v H3 v0 v1 hP3 e3=>?_⟩
 obtain ⟨j,rfl⟩:=Int.eq_ofNat_of_zero_le v0
 obtain ⟨m,hm,m8⟩:=nine j (by omega)
 refine ⟨L9,_,_,_,rfl,rfl,SqL.of ((e3 L9 n9p).trans upd_same),atI_nat hm,?_⟩
 refine ⟨p,3,m,rfl,hP3,by omega,m8,fun h hs H4 b4 nh nhs hH4 hO hP4=>?_⟩
 have nhp:=jw hP3 nh
 have nqp:∀ q∈hs,q.1≠p:=fun q hq=>jw hP3 (nhs q hq)
 clear hm e3 s9 n9 n9p hP1 hP2 hP3 b4 nhs nh e2 v1 hPb eb
 dsimp only [gName]
 refine ⟨_,rfl,_,rfl,p,h,hs,53,rfl,hP4,by omega,hH4,hO,nhp,nqp,fun d us H5 b5 nd hd5 hW5 el5 hP5=>?_⟩
 have ndp:=jw hP4 nd
 have nhd:h≠d:=ne_of_none hH4.h nd
 have nqd:∀ q∈hs,q.1≠d:=fun q hq=>ne_of_none (hH4.l q hq) nd
 have hH5:Hom H5 h hs:=⟨b5 _ _ hH4.h nhp,fun q hq=>b5 _ _ (hH4.l q hq) (nqp q hq)⟩
 have es:∀ xs:List Nat,(xs.map one).map V.str=xs.map sign:=fun xs=>by rw [List.map_map];rfl
 have hfew5:=hW5.few
 dsimp only [gName]
 refine ⟨_,rfl,d,kvw us,(ltr us).map one,rfl,hd5,qau us,fun l nl=>?_⟩
 rw [es]
 have s1':=Same.add (o:=.lst ((ltr us).map sign)) nl
 refine ⟨l,false,(ltr us).map one,rfl,(by show SqL K _ l _;rw [es];exact SqL.of upd_same),by rw [List.length_map,ltr_len];omega,fun l2 ss' hl2 hperm hsort=>?_⟩
 obtain ⟨cs,hp',rfl⟩:=Jw hperm
 rw [es]
 have nd':cs.Nodup:=hp'.nodup_iff.mpr hW5.nd
 have hlt:=Jv hsort nd'
 have hlen:cs.length=us.length:=by rw [hp'.length_eq];exact ltr_len us
 have s2':=Same.add (o:=.lst (cs.map sign)) hl2
 have s02:=s1'.trans s2'
 have hl8:=upd_same (H:=upd H5 l (.lst ((ltr us).map sign))) (a:=l2) (o:=.lst (cs.map sign))
 have nlp:l2≠p:=jw (qk hP5 s1' (Nat.le_refl _)) hl2
 have nld:l2≠d:=(ne_of_none (s1' _ _ hd5) hl2).symm
 have hP6:PenAt _ p 253:=qk hP5 s02 (Nat.le_refl _)
 have hd6:=s02 _ _ hd5
 have hH6:Hom (upd (upd H5 l (.lst ((ltr us).map sign))) l2 (.lst (cs.map sign))) h hs:=⟨s02 _ _ hH5.h,fun q hq=>s02 _ _ (hH5.l q hq)⟩
 revert hl8 hP6 hd6 hH6
 generalize upd (upd H5 l (.lst ((ltr us).map sign))) l2 (.lst (cs.map sign))=H6
 intro hl8 hP6 hd6 hH6
 have hcf:∀ c,c∈cs ↔ c∈flt hs:=fun c=>by rw [<- el5];exact hp'.mem_iff
 have el:(cs.map sign).length=cs.length:=List.length_map _
 clear s02 s1' s2' hl2 nl hperm hsort hd5 hP5 hH5 b5 hH4 hP4 nd
 dsimp only [gName]
 refine seq_by (fun σ H7=>∃ (us:List Rule) (v7 v8:Option V),Hom H7 h hs/\H7 d=some (.dK (kvw us))/\H7 l2=some (.lst (cs.map sign))/\Ws us/\ltr us=flt hs/\PenAt H7 p 260/\σ=[some (.ref a),some (.ref p),some (.int sp),some (.int tg),some (.ref h),some (.ref d),some (.ref l2),v7,v8,none,none,none,none,none,none,none]) (fun nx hn=>?_) ?_
 ·refine ⟨_,rfl,rfl,_,rfl,ite2 (fun hc=>?_) (fun hc=>hn _ _ ⟨us,_,_,hH6,hd6,hl8,hW5,el5,hP6.mono (by decide),rfl⟩)⟩
  refine ⟨_,rfl,szl (show 0<=1000 by decide),fun E nE=>?_⟩
  have sE:=Same.add (o:=.lst []) nE
  have hP7:=qk hP6 sE (Nat.le_refl _)
  have hd7:=sE _ _ hd6
  have hl7:=sE _ _ hl8
  have hH7:Hom (upd H6 E (.lst [])) h hs:=⟨sE _ _ hH6.h,fun q hq=>sE _ _ (hH6.l q hq)⟩
  refine ⟨l2,E,_,rfl,rfl,SqL.of hl7,SqL.of upd_same,_,rfl,?_⟩
  revert hP7 hd7 hl7 hH7
  generalize upd H6 E (.lst [])=H7
  intro hP7 hd7 hl7 hH7
  cases ecs:cs with
  | nil=>exact iteF (hn _ _ ⟨us,_,_,hH7,hd7,hl7,hW5,el5,hP7.mono (by decide),rfl⟩)
  | cons c0 cs0 =>
   have hpos:0 < cs.length:=by rw [ecs];exact Nat.succ_pos _
   refine iteT ?_
   refine ⟨_,rfl,_,rfl,_,rfl,l2,_,rfl,.inl (SqL.of hl7),p,253,_,rfl,hP7,by omega,by rw [el];omega,by rw [el];omega,fun v H8 v0 v1 hP8 e8=>?_⟩
   obtain ⟨j,rfl⟩:=Int.eq_ofNat_of_zero_le v0
   rw [el] at v1
   have hj:j < cs.length:=by omega
   have ej:(cs.map sign)[j]? = some (sign cs[j]):=by rw [List.getElem?_map,List.getElem?_eq_getElem hj];rfl
   have hl8':=(e8 l2 nlp).trans hl7
   have hd8:=(e8 d ndp).trans hd7
   refine ⟨l2,_,_,_,rfl,rfl,SqL.of hl8',atI_nat ej,?_⟩
   have hcj:cs[j]∈ltr us:=hp'.mem_iff.mp (List.getElem_mem hj)
   generalize cs[j]=c at hcj
   clear ej
   dsimp only [gName]
   refine ⟨_,rfl,p,254,6,rfl,hP8,by omega,by decide,by decide,fun v H9 w0 w1 hP9 e9=>?_⟩
   obtain ⟨at_,rfl⟩:=Int.eq_ofNat_of_zero_le w0
   have hl9:=(e9 l2 nlp).trans hl8'
   have hd9:=(e9 d ndp).trans hd8
   obtain ⟨hx6,hxin⟩:=qg0 hW5 hcj
   have hg:∀ {Hz:Hp},Hz d=some (.dK (kvw us))->DGet Hz d (sign c) (some (tx (wd us c))):=fun hz=>by
    have:=DGet.k (k:=kc c) hz
    rw [za hW5.nd hcj] at this
    exact this
   generalize wd us c=x at hx6 hxin hg
   have hxs:(⟨x.toArray⟩:Str).length<=sizeLine:=szl (show x.length<=1000 by omega)
   dsimp only [gName]
   refine ⟨_,rfl,_,rfl,d,_,rfl,hg hd9,_,rfl,_,rfl,⟨x.toArray⟩,rfl,hxs,?_⟩
   rw [qbi]
   refine ⟨_,rfl,_,rfl,_,rfl,l2,_,rfl,.inl (SqL.of hl9),p,255,_,rfl,hP9,by omega,by rw [el];omega,by rw [el];omega,fun v HA x0 x1 hPA eA=>?_⟩
   obtain ⟨i,rfl⟩:=Int.eq_ofNat_of_zero_le x0
   rw [el] at x1
   have hi:i < cs.length:=by omega
   have hlA:=(eA l2 nlp).trans hl9
   have hdA:=(eA d ndp).trans hd9
   have ei:(cs.map sign)[i]? = some (sign cs[i]):=by rw [List.getElem?_map,List.getElem?_eq_getElem hi];rfl
   refine ⟨l2,_,_,_,rfl,rfl,SqL.of hlA,atI_nat ei,?_⟩
   have hyi:cs[i]∈ltr us:=hp'.mem_iff.mp (List.getElem_mem hi)
   generalize cs[i]=y at hyi
   clear ei
   have e1:(x.take at_++[y]++x.drop (at_+1)).length<=6:=by
    rw [List.length_append,List.length_append,List.length_take,List.length_drop]
    show _+1+_<=_
    omega
   refine ⟨⟨(x.take at_).toArray⟩,⟨[y].toArray⟩,rfl,rfl,szl (show (x.take at_).length+1<=1000 by rw [List.length_take];omega),?_⟩
   rw [qft]
   refine ⟨_,rfl,_,rfl,d,_,rfl,hg hdA,_,rfl,_,_,rfl,rfl,_,rfl,⟨x.toArray⟩,rfl,hxs,?_⟩
   rw [show ((at_:Int)+1)=((at_+1:Nat):Int) from rfl,Y4]
   refine ⟨_,_,rfl,rfl,szl (show (x.take at_++[y]).length+(x.drop (at_+1)).length<=1000 by rw [List.length_append] at e1;omega),?_⟩
   rw [qft]
   refine ⟨_,rfl,_,rfl,d,_,rfl,DPut.k (k:=kc c) hdA (small1000 (by rw [List.length_map];omega)),?_⟩
   rw [show putK (kvw us) (kc c) (V.str ⟨(x.take at_++[y]++x.drop (at_+1)).toArray⟩)=kvw (rpl us c (x.take at_++[y]++x.drop (at_+1))) from qgz _ hW5.nd hcj]
   have hW':Ws (rpl us c (x.take at_++[y]++x.drop (at_+1))):=hW5.put e1 fun e he=>by
    rcases List.mem_append.mp he with z | z
    ·rcases List.mem_append.mp z with z | z
     ·exact hxin e (List.mem_of_mem_take z)
     ·rw [List.mem_singleton.mp z];exact hyi
    ·exact hxin e (List.mem_of_mem_drop z)
   have kp:∀ c o,H7 c=some o->c≠p->HA c=some o:=fun c o hc n=>by rw [eA c n,e9 c n,e8 c n];exact hc
   refine hn _ _ ⟨_,_,_,⟨by rw [qe nhd];exact kp _ _ hH7.h nhp,fun q hq=>by rw [qe (nqd q hq)];exact kp _ _ (hH7.l q hq) (nqp q hq)⟩,upd_same,by rw [qe nld];exact hlA,hW',(Yw us c _).trans el5,(hPA.other (qe ndp.symm)).mono (by decide),rfl⟩
 clear hH6 hd6 hP6 hl8 hW5 hfew5
 rintro σ H7 ⟨us,v7,v8,hH7,hd7,hl7,hW,elu,hP7,rfl⟩
 have hlen9:=hO.len
 have hfewO:=hO.few
 have elh:(hs.map fun q=>V.ref q.1).length=hs.length:=List.length_map _
 have hp2:cs.Perm (ltr us):=(List.perm_ext_iff_of_nodup nd' hW.nd).mpr fun c=>by rw [elu];exact hcf c
 have hlen2:cs.length=us.length:=by rw [hp2.length_eq];exact ltr_len us
 have hfewW:=hW.few
 clear hp' hlen el5
 have hfi:∀ i,(flt (hs.take i)).length<=8:=fun i=>by
  have e:=congrArg (fun l:Hs=>(flt l).length) (List.take_append_drop i hs)
  simp only [flt,List.map_append,List.flatten_append,List.length_append] at e hfewO ⊢
  omega
 refine seq_by (fun σ H8=>∃ (g:Addr) (gs:List (List Nat)),But p H7 H8/\H8 g=some (.lst (gs.map tx))/\g≠p/\gs.flatten.Perm (flt hs)/\(∀ x∈gs,x≠[])/\gs.length<=9/\PenAt H8 p 300/\σ=[some (.ref a),some (.ref p),some (.int sp),some (.int tg),some (.ref h),some (.ref d),some (.ref l2),v7,v8,some (.ref g),none,none,none,none,none,none]) (fun nx hn=>?_) ?_
 ·refine ⟨_,rfl,_,rfl,h,rfl,⟨_,SqL.of hH7.h⟩,?_⟩
  refine qu (τ0:=[none,some (.ref p)]) (sure_list (xs:=hs.map fun q=>V.ref q.1)) (by rw [elh];omega)
   (fun i ys τ Hx=>But p H7 Hx/\PenAt Hx p (260+(flt (hs.take i)).length)/\(∃ x,τ=[x,some (.ref p)])/\∃ gs3:List (List Nat),ys=gs3.map tx/\gs3.length=i/\gs3.flatten.Perm (flt (hs.take i))/\∀ x∈gs3,x≠[])
   ⟨But.refl _ _,hP7,⟨_,rfl⟩,[],rfl,rfl,.refl _,fun x hx=>(by cases hx)⟩ ?_ ?_ ?_
  ·rintro i ys τ Hx hi ⟨bx,_,_,gs3,rfl,hw,_⟩
   exact ⟨SqL.of (bx _ _ hH7.h nhp),by rw [List.length_map,hw];exact Nat.le_refl _⟩
  ·rintro i y ys τ Hx hy ⟨bx,hPx,⟨x0,rfl⟩,gs3,rfl,hl3,hp3,hn3⟩
   rw [List.getElem?_map] at hy
   cases eq:hs[i]? with
   | none=>rw [eq] at hy;cases hy
   | some q =>
    rw [eq] at hy
    cases hy
    have hq:=List.mem_of_getElem? eq
    have hq8:=qfw hO hq
    have hft:=hfi i
    refine ⟨rfl,_,rfl,_,rfl,p,q.1,_,q.2.map sign,rfl,hPx,by omega,bx _ _ (hH7.l q hq) (nqp q hq),by rw [List.length_map];omega,nqp q hq,fun m2 ys2 H5 nm2 b5 hP5 hm5 hpy2=>?_⟩
    obtain ⟨xs,hpx,rfl⟩:=Vb hpy2 q.2 rfl
    have eyx:xs.map sign=(xs.map one).map V.str:=by rw [List.map_map];rfl
    have hxl:xs.length=q.2.length:=hpx.length_eq
    refine ⟨_,m2,xs.map one,rfl,rfl,(by rw [<- eyx];exact SqL.of hm5),?_,?_⟩
    ·rw [show ((xs.map one).map (·.length)).sum=xs.length from yc xs]
     show _+_ * 0<=_
     omega
    rw [show Txt.join (Str.ofString "") (xs.map one)=⟨xs.toArray⟩ from jv _]
    refine ⟨bx.trans b5,hP5.mono (by rw [Zg eq,List.length_append,List.length_map];omega),⟨_,rfl⟩,gs3++[xs],by rw [List.map_append];rfl,by rw [List.length_append,hl3];rfl,?_,fun z hz=>?_⟩
    ·rw [Zg eq,List.flatten_append]
     show (_++[xs].flatten).Perm _
     rw [show [xs].flatten=xs from by simp]
     exact hp3.append hpx
    ·rcases List.mem_append.mp hz with z' | z'
     ·exact hn3 z z'
     ·rw [List.mem_singleton.mp z']
      exact fun w=>hO.ne q hq (List.length_eq_zero_iff.mp (by rw [<- hxl,w];rfl))
  ·rintro ys τ Hx D ⟨bx,hPx,_,gs3,rfl,hl3,hp3,hn3⟩ nD
   rw [elh] at hl3 hp3 hPx
   rw [List.take_length] at hp3 hPx
   have nDp:=jw hPx nD
   have sD:=Same.add (o:=.lst (gs3.map tx)) nD
   have elg:(gs3.map tx).length=gs3.length:=List.length_map _
   refine ⟨p,D,_,_,rfl,qk hPx sD (Nat.le_refl _),by omega,upd_same,by rw [elg];omega,nDp,fun m ys H8 nm b8 hP8 hm8 hpy=>?_⟩
   obtain ⟨gs,hpg,rfl⟩:=Vb hpy gs3 rfl
   have nmp:m≠p:=jw (qk hPx sD (Nat.le_refl _)) nm
   exact hn _ _ ⟨m,gs,bx.trans ((But.same sD).trans b8),hm8,nmp,hpg.flatten.trans hp3,fun x hx=>hn3 x (hpg.mem_iff.mp hx),by rw [hpg.length_eq];omega,hP8.mono (by rw [elg];omega),rfl⟩
 rintro σ H8 ⟨g,gs,b8,hg8,ngp,hgp,hgn,hgl,hP8,rfl⟩
 refine seq_by (fun σ H9=>∃ (g:Addr) (gs:List (List Nat)),But p H7 H9/\H9 g=some (.lst (gs.map tx))/\g≠p/\gs.flatten.Perm (flt hs)/\(∀ x∈gs,x≠[])/\gs.length<=9/\PenAt H9 p 300/\σ=[some (.ref a),some (.ref p),some (.int sp),some (.int tg),some (.ref h),some (.ref d),some (.ref l2),v7,v8,some (.ref g),none,none,none,none,none,none]) (fun nx hn=>?_) ?_
 ·refine ⟨_,rfl,rfl,_,rfl,ite2 (fun hc=>?_) (fun hc=>hn _ _ ⟨g,gs,b8,hg8,ngp,hgp,hgn,hgl,hP8,rfl⟩)⟩
  refine ⟨_,rfl,szl (show 0<=1000 by decide),fun E nE=>?_⟩
  have sE:=Same.add (o:=.lst []) nE
  refine ⟨g,E,_,rfl,rfl,SqL.of (sE _ _ hg8),SqL.of upd_same,_,rfl,?_⟩
  cases egs:gs with
  | nil=>exact iteF (hn _ _ ⟨g,gs,b8.trans (But.same sE),sE _ _ hg8,ngp,hgp,hgn,hgl,qk hP8 sE (Nat.le_refl _),rfl⟩)
  | cons x0 gs0 =>
   have hf8:gs.flatten.length<=8:=by rw [hgp.length_eq];exact hfewO
   refine iteT ⟨rfl,_,rfl,_,g,gs.map fun x=>(⟨x.toArray⟩:Str),rfl,rfl,(by rw [<- J6];exact SqL.of (sE _ _ hg8)),?_,?_⟩
   ·rw [Ya]
    show _+_ * 0<=_
    omega
   rw [J7]
   refine ⟨szl (show 1<=1000 by decide),fun G nG=>?_⟩
   have sG:=Same.add (o:=.lst [V.str ⟨gs.flatten.toArray⟩]) nG
   have hne:gs.flatten≠[]:=fun z=>by
    have hx0:x0∈gs:=by rw [egs];exact List.mem_cons_self
    have:=(List.sublist_flatten_of_mem hx0).length_le
    rw [z] at this
    exact hgn x0 hx0 (List.length_eq_zero_iff.mp (by simpa using this))
   refine hn _ _ ⟨G,[gs.flatten],b8.trans (But.same (sE.trans sG)),upd_same,jw (qk hP8 sE (Nat.le_refl _)) nG,by rw [show [gs.flatten].flatten=gs.flatten from by simp];exact hgp,fun x hx=>by rw [List.mem_singleton.mp hx];exact hne,by show 1<=9;decide,qk hP8 (sE.trans sG) (Nat.le_refl _),rfl⟩
 clear hgp hgn hgl hg8 ngp b8 hP8
 rintro σ H9 ⟨g,gs,b9,hg9,ngp,hgp,hgn,hgl,hP9,rfl⟩
 have hl9:=b9 _ _ hl7 nlp
 have hd9:=b9 _ _ hd7 ndp
 refine seq_by (fun σ HA=>∃ x:List Nat,But p H9 HA/\x.length<=12/\(∀ c∈x,c∈cs)/\PenAt HA p 400/\σ=[some (.ref a),some (.ref p),some (.int sp),some (.int tg),some (.ref h),some (.ref d),some (.ref l2),v7,v8,some (.ref g),some (tx x),none,none,none,none,none]) (fun nx hn=>?_) ?_
 ·refine ⟨rfl,_,rfl,p,300,13,rfl,hP9,by omega,by decide,by decide,fun w H8 w0 w1 hP8 e8=>?_⟩
  obtain ⟨wn,rfl⟩:=Int.eq_ofNat_of_zero_le w0
  have b8:=vj e8
  have hl8:=b8 _ _ hl9 nlp
  refine ⟨_,rfl,szl (show 0<=1000 by decide),fun E nE=>?_⟩
  have sE:=Same.add (o:=.lst []) nE
  have hlE:=sE _ _ hl8
  have hPE:=qk hP8 sE (Nat.le_refl _)
  have bE:But p H9 (upd H8 E (.lst [])):=b8.trans (But.same sE)
  refine ⟨l2,E,_,rfl,rfl,SqL.of hlE,SqL.of upd_same,.inr ⟨_,rfl,_,_,rfl,rfl,.inl ⟨by omega,by omega⟩,?_⟩⟩
  revert hlE hPE bE
  generalize upd H8 E (.lst [])=HE
  intro hlE hPE bE
  have eN:∃ N:Nat,(wn:Int) * (if (!(cs.map sign).isEmpty)=true then 1 else 0)=(N:Int)/\N<=12/\(cs.length=0->N=0):=by
   cases cs with
   | nil=>exact ⟨0,by simp,by decide,fun _=>rfl⟩
   | cons c0 cs0=>exact ⟨wn,by simp,by omega,fun z=>by simp at z⟩
  obtain ⟨N,eN,hN,hN0⟩:=eN
  refine ⟨(N:Int),congrArg (fun v=>[v]) (congrArg V.int eN),by omega,by omega,?_⟩
  refine qu (τ0:=[none,some (.ref l2),some (.ref p)]) (ji (lo:=0) (n:=Int.toNat (N:Int))) (by rw [rngV_length];omega)
   (fun i ys τ H2=>But p H9 H2/\PenAt H2 p (301+i)/\(∃ x,τ=[x,some (.ref l2),some (.ref p)])/\∃ w:List Nat,ys=w.map sign/\w.length=i/\∀ c∈w,c∈cs)
   ⟨bE,hPE,⟨_,rfl⟩,[],rfl,rfl,fun c hc=>(by cases hc)⟩ ?_ ?_ ?_
  ·rintro i ys τ H2 hi ⟨_,_,_,w,rfl,hw,_⟩
   exact ⟨trivial,by rw [List.length_map,hw];exact Nat.le_refl _⟩
  ·rintro i x ys τ H2 hx ⟨b2,hP2,⟨x0,rfl⟩,w,rfl,hw,hc⟩
   obtain ⟨hi,rfl⟩:=Vt hx
   have hi':i < N:=by simpa using hi
   have hpos:0 < cs.length:=by
    rcases Nat.eq_zero_or_pos cs.length with z | z
    ·have:=hN0 z
     omega
    ·exact z
   refine ⟨_,rfl,_,rfl,_,rfl,l2,_,rfl,.inl (SqL.of (b2 _ _ hl9 nlp)),p,301+i,_,rfl,hP2,by omega,by rw [el];omega,by rw [el];omega,fun v H3 v0 v1 hP3 e3=>?_⟩
   obtain ⟨j,rfl⟩:=Int.eq_ofNat_of_zero_le v0
   rw [el] at v1
   have hj:j < cs.length:=by omega
   have b3:But p H9 H3:=fun c o h z=>(e3 c z).trans (b2 c o h z)
   have ej:(cs.map sign)[j]? = some (sign cs[j]):=by rw [List.getElem?_map,List.getElem?_eq_getElem hj];rfl
   refine ⟨l2,_,_,_,rfl,rfl,SqL.of (b3 _ _ hl9 nlp),atI_nat ej,b3,hP3,⟨_,rfl⟩,w++[cs[j]],by rw [List.map_append];rfl,by rw [List.length_append,hw];rfl,fun c h=>?_⟩
   rcases List.mem_append.mp h with z | z
   ·exact hc c z
   ·rw [List.mem_singleton.mp z];exact List.getElem_mem hj
  ·rintro ys τ H2 D ⟨b2,hP2,_,w,rfl,hw,hc⟩ nD
   rw [rngV_length] at hw hP2
   have hw:w.length=N:=by simpa using hw
   have ey:w.map sign=(w.map one).map V.str:=by rw [List.map_map];rfl
   refine ⟨_,D,w.map one,rfl,rfl,(by rw [<- ey];exact SqL.of upd_same),?_,?_⟩
   ·rw [show ((w.map one).map (·.length)).sum=w.length from yc w]
    show _+_ * 0<=_
    omega
   ·rw [show Txt.join (Str.ofString "") (w.map one)=⟨w.toArray⟩ from jv _]
    exact hn _ _ ⟨w,b2.trans (But.same (Same.add nD)),by omega,hc,qk hP2 (Same.add nD) (by simp only [Int.toNat_natCast];omega),rfl⟩
 rintro σ HA ⟨x,bA,hx12,hxin,hPA,rfl⟩
 have hlA:=bA _ _ hl9 nlp
 have hdA:=bA _ _ hd9 ndp
 have hgA:=bA _ _ hg9 ngp
 have hin':∀ c∈cs,c∈ltr us:=fun c hc=>hp2.mem_iff.mp hc
 have hfew:=hW.few
 clear hl9 hd9 hg9 hP9 hl7 hd7 hH7 hP7 b9 bA
 refine ⟨_,rfl,_,rfl,l2,rfl,⟨_,SqL.of hlA⟩,?_⟩
 refine qu (τ0:=[none,some (V.ref d)]) (sure_list (xs:=cs.map sign)) (by rw [List.length_map];omega)
  (fun i ys τ H8=>Same HA H8/\(∃ v,τ=[v,some (.ref d)])/\∃ (ps:List Addr),ys=ps.map V.ref/\RulesAt H8 ps ((cs.take i).map fun c=>(c,wd us c)))
  ⟨Same.refl _,⟨_,rfl⟩,[],rfl,.nil⟩ ?_ ?_ ?_
 ·rintro i ys τ H8 hi ⟨s8,_,ps,rfl,hR⟩
  refine ⟨SqL.of (s8 _ _ hlA),?_⟩
  rw [List.length_map,hR.len,List.length_map,List.length_take]
  omega
 ·rintro i y ys τ H8 hy ⟨s8,⟨v0,rfl⟩,ps,rfl,hR⟩
  rw [List.getElem?_map] at hy
  cases ec:cs[i]? with
  | none=>rw [ec] at hy;cases hy
  | some c =>
   rw [ec] at hy
   cases hy
   have hc:=hin' c (List.mem_of_getElem? ec)
   have hg:=DGet.k (k:=(Sum.inr (one c):Key)) (s8 _ _ hdA)
   rw [za hW.nd hc] at hg
   refine ⟨_,rfl,_,rfl,_,rfl,d,_,rfl,hg,(by show 2<=sizeLine;decide),fun T hT=>?_⟩
   refine ⟨s8.trans (Same.add hT),⟨_,rfl⟩,ps++[T],by rw [List.map_append];rfl,?_⟩
   rw [jc (fun c=>(c,wd us c)) ec]
   exact (hR.mono (TupS.same (Same.add hT))).snoc upd_same
 rintro ys τ H8 D ⟨s8,_,ps,rfl,hR⟩ hD
 rw [List.length_map,take_all] at hR
 refine ⟨D,ps.map V.ref,rfl,.inl ⟨SqL.of upd_same,fun r hr=>⟨(by show 2<=sizeLine;decide),fun t ht=>?_⟩⟩⟩
 have sA:Same H8 (upd H8 D (.lst (ps.map V.ref))):=Same.add hD
 have sB:=Same.add (o:=.tup (ps.map V.ref)) hr
 have sC:=Same.add (o:=.tup [tx x,.ref r]) ht
 have ell:ltr (cs.map fun c=>(c,wd us c))=cs:=by
  show List.map _ (List.map _ _)=_
  rw [List.map_map]
  exact List.map_id _
 have hq:∀ r∈cs.map (fun c=>(c,wd us c)),r.1∈ltr us/\r.2=wd us r.1:=fun r hr=>by
  obtain ⟨c,hc,rfl⟩:=List.mem_map.mp hr
  exact ⟨hin' c hc,rfl⟩
 have s6t:=s8.trans (sA.trans (sB.trans sC))
 have hB9:BookAt (upd (upd (upd H8 D (.lst (ps.map V.ref))) r (.tup (ps.map V.ref))) t (.tup [tx x,.ref r])) t x (cs.map fun c=>(c,wd us c)):=⟨r,ps,upd_same,sC _ _ upd_same,hR.mono (TupS.same (sA.trans (sB.trans sC)))⟩
 have hG:Good x (cs.map fun c=>(c,wd us c)):=by
  refine ⟨by rw [List.length_map];omega,by rw [show (cs.map fun c=>(c,wd us c)).map (·.1)=cs from ell];exact hlt,fun r hr=>hW.abc _ (hq r hr).1,fun r hr=>?_,fun r hr c hc=>?_,hx12,fun c hc=>?_⟩
  ·rw [(hq r hr).2]
   exact (qg0 hW (hq r hr).1).1
  ·rw [(hq r hr).2] at hc
   show c∈ltr (cs.map fun c=>(c,wd us c))
   rw [ell]
   exact hp2.mem_iff.mpr ((qg0 hW (hq r hr).1).2 c hc)
  ·show c∈ltr (cs.map fun c=>(c,wd us c))
   rw [ell]
   exact hxin c hc
 have hL:Like us (cs.map fun c=>(c,wd us c)):=by
  refine ⟨fun c=>by rw [ell];exact hp2.mem_iff,fun c hc=>?_,by rw [List.length_map];exact hlen2⟩
  obtain ⟨q',h1,h2,h3⟩:=zm (show c∈ltr (cs.map fun c=>(c,wd us c)) by rw [ell];exact hp2.mem_iff.mpr hc)
  rw [h3,(hq q' h1).2,h2]
 have hK:Gk x us (cs.map fun c=>(c,wd us c)) gs:=⟨hG,hW.nd,hfew,hL,by omega,by rw [ell];rw [<- elu] at hgp;exact hgp.trans hp2.symm⟩
 have hd10:=s6t _ _ hdA
 have hg10:=s6t _ _ hgA
 have hl10:=s6t _ _ hlA
 have hP10:=qk hPA s6t (Nat.le_refl _)
 rw [<- ell] at hl10
 dsimp only [gName]
 exact qfa hK hP10 (by omega) hd10 hl10 hg10 hgn hB9 k
end Lw
namespace Lw
open PySem L2 PyProof.Rows
section
variable {P:Program} {w:World} {K:W.Frag} {mg:Str->Option Value} {base:Heap}
def spLaw (K:W.Frag):Sp:=fun vs H Q _=>∃ (a:Addr) (ns:List Int),vs=[.ref a]/\SqL K H a (ns.map V.int)/\ns.length<=63/\∀ H',Q (.bl true) H'
theorem scLaw:FnScope ["_law_script","_law_pen_here","_law_spoil","_law_together","_law_homes_here","_law_words_here","_law_signs","_law_letter","_law_at","_law_groups","_law_first","_law_book","_law_heads_here","_law_told","_law_due","_law_left"] ["_law_script"] (defScope sLaw):=⟨rfl,rfl,rfl,by decide +kernel,rfl,by decide +kernel,by decide +kernel⟩
theorem qhs:(["_law_home","_law_pen_here"]:List Str).Nodup:=by decide +kernel
theorem qht:(["_law_k","_law_signs","_law_pen_here"]:List Str).Nodup:=by decide +kernel
theorem qhu:(["_law_sign","_law_words_here"]:List Str).Nodup:=by decide +kernel
theorem qhv:(["_law_sign","_law_heads_here","_law_words_here"]:List Str).Nodup:=by decide +kernel
theorem qhw:(["_law_group","_law_heads_here"]:List Str).Nodup:=by decide +kernel
theorem qhx:(["_law_sign","_law_heads_here"]:List Str).Nodup:=by decide +kernel
theorem qhy:(["_law_group"]:List Str).Nodup:=by decide +kernel
theorem qkb {f fPen fTak fHms fWds fMix fHds fShr fRpd fRwa fGra:Addr} {fd fdPen fdTak fdHms fdWds fdMix fdHds fdShr fdRpd fdRwa fdGra:FuncData} (F:Fun K "law" "law" sLaw f fd)
  (GPen:FnOk P w K mg base CX0 1 fPen fdPen ["_law_script","_law_k"] (spPen K))
  (gPen:Gf K mg "_law_pen" fPen fdPen ["_law_script","_law_k"])
  (GTak:FnOk P w K mg base CX0 1 fTak fdTak ["_law_pen_here","_law_size"] spTak)
  (gTak:Gf K mg "_law_take" fTak fdTak ["_law_pen_here","_law_size"])
  (GHms:FnOk P w K mg base CX0 3 fHms fdHms ["_law_pen_here","_law_many"] spHms)
  (gHms:Gf K mg "_law_homes" fHms fdHms ["_law_pen_here","_law_many"])
  (GWds:FnOk P w K mg base CX0 2 fWds fdWds ["_law_pen_here","_law_homes_here"] spWds)
  (gWds:Gf K mg "_law_words" fWds fdWds ["_law_pen_here","_law_homes_here"])
  (GMix:FnOk P w K mg base CX0 2 fMix fdMix ["_law_pen_here","_law_things"] spMix)
  (gMix:Gf K mg "_law_mixed" fMix fdMix ["_law_pen_here","_law_things"])
  (GHds:FnOk P w K mg base CX0 1 fHds fdHds ["_law_words_here","_law_groups"] (spHds K))
  (gHds:Gf K mg "_law_heads" fHds fdHds ["_law_words_here","_law_groups"])
  (GShr:FnOk P w K mg base CX0 4 fShr fdShr ["book","groups"] (spShr K))
  (gShr:Gf K mg "shrunk" fShr fdShr ["book","groups"])
  (GRpd:FnOk P w K mg base CX0 1 fRpd fdRpd ["_law_heads_here","_law_text"] (spRpd K))
  (gRpd:Gf K mg "_law_replaced" fRpd fdRpd ["_law_heads_here","_law_text"])
  (GRwa:FnOk P w K mg base CX0 2 fRwa fdRwa ["_law_book","_law_told","_law_words_here","_law_heads_here"] (spRwa K))
  (gRwa:Gf K mg "_law_rows_alike" fRwa fdRwa ["_law_book","_law_told","_law_words_here","_law_heads_here"])
  (GGra:FnOk P w K mg base CX0 8 fGra fdGra ["_law_pen_here","_law_book","_law_told","_law_heads_here"] (spGra K))
  (gGra:Gf K mg "_law_great_alike" fGra fdGra ["_law_pen_here","_law_book","_law_told","_law_heads_here"])
  (hlen:mg "len" = none)
  (hrange:mg "range" = none)
  (hint:mg "int" = none)
  (hlist:mg "list" = none)
  (htuple:mg "tuple" = none)
  (hsorted:mg "sorted" = none)
  (hisinstance:mg "isinstance" = none)
  : FnOk P w K mg base CX0 9 f fd ["_law_script"] (spLaw K):=by
 refine F.ok scLaw (fun vs H Q E h=>?_) (fun cdv A outer s H vs Q E hr h=>?_)
 ·obtain ⟨a,ns,rfl,_⟩:=h
  rfl
 ·obtain ⟨a,ns,rfl,hS,h63,k⟩:=h
  have hr1:Room 1 _:=hr.mono (by decide)
  have hr2:Room 2 _:=hr.mono (by decide)
  have hr3:Room 3 _:=hr.mono (by decide)
  have hr4:Room 4 _:=hr.mono (by decide)
  have hu:=zo hr
  refine ⟨_,(qd (qj (i:=1) scLaw.nd rfl (Or.inr rfl) (qh GPen hr1 rfl gPen.m gPen.k gPen.b .nil pass0 (qa (pv 0) (qa qf qb))))
   (qd (qj (i:=2) scLaw.nd rfl (Or.inl rfl) (qh GTak hr1 rfl gTak.m gTak.k gTak.b .nil pass0 (qa (pv 1) (qa qf qb))))
   (qd (qj (i:=3) scLaw.nd rfl (Or.inl rfl) (qh GTak hr1 rfl gTak.m gTak.k gTak.b .nil pass0 (qa (pv 1) (qa qf qb))))
   (qd (qj (i:=4) scLaw.nd rfl (Or.inl rfl) (qh GHms hr3 rfl gHms.m gHms.k gHms.b .nil pass0 (qa (pv 1) (qa (pe_ix (qy K) (j0 (qa qf (qa qf (qa qf (qa qf (qa qf (qa qf (qa qf (qa qf (qa qf qb)))))))))) (qh GTak hr1 rfl gTak.m gTak.k gTak.b .nil pass0 (qa (pv 1) (qa qf qb))) (fun _ _=>rfl)) qb))))
   (qd (qj (i:=5) scLaw.nd rfl (Or.inr rfl) (qh GWds hr2 rfl gWds.m gWds.k gWds.b .nil pass0 (qa (pv 1) (qa (pv 4) qb))))
   (qd (qj (i:=6) scLaw.nd rfl (Or.inr rfl) (qm (Ju K) (by rfl) hsorted PyProof.Rows.boot_sorted (qa (jb (zk rfl) (by rfl) hlist (by first | exact PySem.boot_list | decide +kernel) (qa (pv 5) qb)) qb)))
   (qd (vm (PW.pt (Y6 (qz qbc (pv 2) qf (nomark _)) (Vw (qz (Ja K hr.units) (pv 6) (j0 qb) (nomark _))))) (qd (qj (i:=7) scLaw.nd rfl (Or.inl rfl) (pe_ix (qy K) (pv 6) (qh GTak hr1 rfl gTak.m gTak.k gTak.b .nil pass0 (qa (pv 1) (qa (qm (jn K) (by rfl) hlen PySem.boot_len (qa (pv 6) qb)) qb))) (fun _ _=>rfl)))
   (qd (qj (i:=8) scLaw.nd rfl (Or.inl rfl) (qh GTak hr1 rfl gTak.m gTak.k gTak.b .nil pass0 (qa (pv 1) (qa qf qb))))
   (qg (vn hu (pv 5) (pv 7) (je Vp (je Vp (zb qfl (qq hu (pv 5) (pv 7) (fun _ _=>rfl)) yk (po_some (pv 8))) (pe_ix (qy K) (pv 6) (qh GTak hr1 rfl gTak.m gTak.k gTak.b .nil pass0 (qa (pv 1) (qa (qm (jn K) (by rfl) hlen PySem.boot_len (qa (pv 6) qb)) qb))) (fun _ _=>rfl))) (zb qfl (qq hu (pv 5) (pv 7) (fun _ _=>rfl)) (po_some (je vw (pv 8) qf)) yk)) rfl)))) jh)
   (qd (qj (i:=9) scLaw.nd rfl (Or.inl rfl) (qh GMix hr2 rfl gMix.m gMix.k gMix.b .nil pass0 (qa (pv 1) (qa (qx (N':=["_law_home","_law_pen_here"]) (ix:=[none,some 1]) rfl rfl (jk K (pv 4)) (fun _ _ _ _ _ _=>(qi (i:=0) qhs rfl (Or.inl rfl))) (fun _ _ _ _ _ _=>qv) (fun _ _ _ _ _ _=>(ju K PySem.F.plainAttrs_str PySem.F.slot_str_join PySem.F.type_str_join (js K) j9 (qa (qh GMix hr2 rfl gMix.m gMix.k gMix.b .nil pass0 (qa (pv 1) (qa (pv 0) qb))) qb)))) qb))))
   (qd (vm (PW.pt (Y6 (qz qbc (pv 3) qf (nomark _)) (Vw (qz (Ja K hr.units) (pv 9) (j0 qb) (nomark _))))) (qg (qj (i:=9) scLaw.nd rfl (Or.inl rfl) (j0 (qa (ju K PySem.F.plainAttrs_str PySem.F.slot_str_join PySem.F.type_str_join (js K) j9 (qa (pv 9) qb)) qb)))) jh)
   (qd (qj (i:=10) scLaw.nd rfl (Or.inl rfl) (ju K PySem.F.plainAttrs_str PySem.F.slot_str_join PySem.F.type_str_join (js K) j9 (qa (qx (N':=["_law_k","_law_signs","_law_pen_here"]) (ix:=[none,some 6,some 1]) rfl rfl (jx rfl hrange (qa (je Vm (qh GTak hr1 rfl gTak.m gTak.k gTak.b .nil pass0 (qa (pv 1) (qa qf qb))) (jb qb1 (by rfl) hint (by first | exact PySem.boot_int | decide +kernel) (qa (yj (Ja K hr.units) (pv 6) (j0 qb) (nomark _)) qb))) qb)) (fun _ _ _ _ _ _=>(qi (i:=0) qht rfl (Or.inl rfl))) (fun _ _ _ _ _ _=>qv) (fun _ _ _ _ _ _=>(pe_ix (qy K) (pv 1) (qh GTak hr1 rfl gTak.m gTak.k gTak.b .nil pass0 (qa (pv 2) (qa (qm (jn K) (by rfl) hlen PySem.boot_len (qa (pv 1) qb)) qb))) (fun _ _=>rfl)))) qb)))
   (qd (qj (i:=11) scLaw.nd rfl (Or.inl rfl) (vt (qa (pv 10) (qa (jb (vf K) (by rfl) htuple (by first | exact PySem.boot_tuple | decide +kernel) (qa (qx (N':=["_law_sign","_law_words_here"]) (ix:=[none,some 5]) rfl rfl (jk K (pv 6)) (fun _ _ _ _ _ _=>(qi (i:=0) qhu rfl (Or.inl rfl))) (fun _ _ _ _ _ _=>qv) (fun _ _ _ _ _ _=>(vt (qa (pv 0) (qa (qq hu (pv 1) (pv 0) (fun _ _=>rfl)) qb))))) qb)) qb))))
   (qd (qj (i:=12) scLaw.nd rfl (Or.inr rfl) (qh GHds hr1 rfl gHds.m gHds.k gHds.b .nil pass0 (qa (pv 5) (qa (pv 9) qb))))
   (qd (qj (i:=13) scLaw.nd rfl (Or.inl rfl) (qh GShr hr4 rfl gShr.m gShr.k gShr.b .nil pass0 (qa (pv 11) (qa (jb (vo K) (by rfl) hlist (by first | exact PySem.boot_list | decide +kernel) (qa (pv 9) qb)) qb))))
   (qd (yo (i:=14) (N':=["_law_sign","_law_heads_here","_law_words_here"]) (ix:=[none,some 12,some 5]) scLaw.nd rfl rfl rfl rfl (jk K (pv 6)) (fun _ _ _ _ _ _=>(qi (i:=0) qhv rfl (Or.inl rfl))) (fun _ _ _ _ _ _=>(yn (qz qbc (qq hu (pv 1) (pv 0) (fun _ _=>rfl)) (pv 0) (nomark _)))) (fun _ _ _ _ _ _=>(vt (qa (pv 0) (qa (qh GRpd hr1 rfl gRpd.m gRpd.k gRpd.b .nil pass0 (qa (pv 1) (qa (qq hu (pv 2) (pv 0) (fun _ _=>rfl)) qb))) qb)))))
   (qd (vm (PW.pt (qfz (Ji (yr (qm (j4 K) (by rfl) hisinstance (show bootBuiltins "isinstance" = some (.builtin "isinstance") by decide +kernel) (qa (pv 13) (qa (Jh (v:=.ty "tuple") (by rfl) htuple (show bootBuiltins "tuple" = some (.type "tuple") by decide +kernel) rfl) qb))))) (qbu (qz (qge K hr.units) (pv 13) (vt (qa (qh GRpd hr1 rfl gRpd.m gRpd.k gRpd.b .nil pass0 (qa (pv 12) (qa (pv 10) qb))) (qa (jb (vf K) (by rfl) htuple (by first | exact PySem.boot_tuple | decide +kernel) (qa (pv 14) qb)) qb))) (nomark _))))) (qg (qp Zl)) jh)
   (qd (vm (PW.pt (qfz (Ji (yr (qh GRwa hr2 rfl gRwa.m gRwa.k gRwa.b .nil pass0 (qa (pv 11) (qa (pv 13) (qa (pv 5) (qa (pv 12) qb))))))) (qbu (Ji (yr (qh GGra hr rfl gGra.m gGra.k gGra.b .nil pass0 (qa (pv 1) (qa (pv 11) (qa (pv 13) (qa (pv 12) qb)))))))))) (qg (qp Zl)) jh)
   (qd (yo (i:=15) (N':=["_law_group","_law_heads_here"]) (ix:=[none,some 12]) scLaw.nd rfl rfl rfl rfl (jk K (pv 9)) (fun _ _ _ _ _ _=>(qi (i:=0) qhw rfl (Or.inl rfl))) (fun _ _ _ _ _ _=>qv) (fun _ _ _ _ _ _=>(ju K PySem.F.plainAttrs_str PySem.F.slot_str_join PySem.F.type_str_join (js K) j9 (qa (qx (N':=["_law_sign","_law_heads_here"]) (ix:=[none,some 1]) rfl rfl (vh (pv 0)) (fun _ _ _ _ _ _=>(qi (i:=0) qhx rfl (Or.inl rfl))) (fun _ _ _ _ _ _=>(yn (qz qbc (qq hu (pv 1) (pv 0) (fun _ _=>rfl)) (pv 0) (nomark _)))) (fun _ _ _ _ _ _=>(pv 0))) qb))))
   (qg (qp (Y7 (yj (qcl K hr.units) (qh GShr hr4 rfl gShr.m gShr.k gShr.b .nil pass0 (qa (pv 13) (qa (qx (N':=["_law_group"]) (ix:=[none]) rfl rfl (jk K (pv 15)) (fun _ _ _ _ _ _=>(qi (i:=0) qhy rfl (Or.inl rfl))) (fun _ _ _ _ _ _=>(yn (qz Yh (pv 0) j9 (nomark _)))) (fun _ _ _ _ _ _=>(pv 0))) qb))) (pv 13) (nomark _)) (Zm (yj (qcl K hr.units) (qh GShr hr4 rfl gShr.m gShr.k gShr.b .nil pass0 (qa (pv 11) (qa (jb (vo K) (by rfl) hlist (by first | exact PySem.boot_list | decide +kernel) (qa (pv 9) qb)) qb))) (pv 13) (nomark _))))))))))))))))))))))),?_⟩
  exact qfb hS h63 k
end
end Lw
namespace Lw
open PySem L2
theorem jg {K:W.Frag} {h:Heap} {mg:Str->Option Value} {x:Str} {fd:FuncData} {f:Addr} {ps:List Str} (X:K.In h) (G:h.Ns mainGlobals mg) (a:W.nsIn K mainGlobals x=some (some (.ref f))) (k:W.keepIn K (.ref f)=true) (b:Binds K fd ps []):Gf K mg x f fd ps :=
 ⟨W.mg_of X G a,k,b⟩
theorem all_mk {l:W.OpenLaw} {w:World} {K:W.Frag} {h:Heap} {mg:Str->Option Value} {fa f0 f1 f2 f3 f4 f5 f6 f7 f8 f9 f10 f11 f12 f13 f14 f15 f16 f17 f18 f19 f20 f21 f22 f23 f24 f25 f26 f27 f28 f29 f30 f31 f32 f33 f34 f35 f36 f37 f38 f39:Addr} (X:K.In h) (G:h.Ns mainGlobals mg) (hfa:mg "law" = some (.ref fa))
  {od0 an0 od1 an1 od2 an2 od3 an3 od4 an4 od5 an5 od6 an6 od7 an7 od8 an8 od9 an9 od10 an10 od11 an11 od12 an12 od13 an13 od14 an14 od15 an15 od16 an16 od17 an17 od18 an18 od19 an19 od20 an20 od21 an21 od22 an22 od23 an23 od24 an24 od25 an25 od26 an26 od27 an27 od28 an28 od29 an29 od30 an30 od31 an31 od32 an32 od33 an33 od34 an34 od35 an35 od36 an36 od37 an37 od38 an38 od39 an39:Option Addr} {sl0 sl1 sl2 sl3 sl4 sl5 sl6 sl7 sl8 sl9 sl10 sl11 sl12 sl13 sl14 sl15 sl16 sl17 sl18 sl19 sl20 sl21 sl22 sl23 sl24 sl25 sl26 sl27 sl28 sl29 sl30 sl31 sl32 sl33 sl34 sl35 sl36 sl37 sl38 sl39:Array (Option Value)} {oc0 kV0 dc0 pm0 cd0 ct0 oc1 kV1 dc1 pm1 cd1 ct1 oc2 kV2 dc2 pm2 cd2 ct2 oc3 kV3 dc3 pm3 cd3 ct3 oc4 kV4 dc4 pm4 cd4 ct4 oc5 kV5 dc5 pm5 cd5 ct5 oc6 kV6 dc6 pm6 cd6 ct6 oc7 kV7 dc7 pm7 cd7 ct7 oc8 kV8 dc8 pm8 cd8 ct8 oc9 kV9 dc9 pm9 cd9 ct9 oc10 kV10 dc10 pm10 cd10 ct10 oc11 kV11 dc11 pm11 cd11 ct11 oc12 kV12 dc12 pm12 cd12 ct12 oc13 kV13 dc13 pm13 cd13 ct13 oc14 kV14 dc14 pm14 cd14 ct14 oc15 kV15 dc15 pm15 cd15 ct15 oc16 kV16 dc16 pm16 cd16 ct16 oc17 kV17 dc17 pm17 cd17 ct17 oc18 kV18 dc18 pm18 cd18 ct18 oc19 kV19 dc19 pm19 cd19 ct19 oc20 kV20 dc20 pm20 cd20 ct20 oc21 kV21 dc21 pm21 cd21 ct21 oc22 kV22 dc22 pm22 cd22 ct22 oc23 kV23 dc23 pm23 cd23 ct23 oc24 kV24 dc24 pm24 cd24 ct24 oc25 kV25 dc25 pm25 cd25 ct25 oc26 kV26 dc26 pm26 cd26 ct26 oc27 kV27 dc27 pm27 cd27 ct27 oc28 kV28 dc28 pm28 cd28 ct28 oc29 kV29 dc29 pm29 cd29 ct29 oc30 kV30 dc30 pm30 cd30 ct30 oc31 kV31 dc31 pm31 cd31 ct31 oc32 kV32 dc32 pm32 cd32 ct32 oc33 kV33 dc33 pm33 cd33 ct33 oc34 kV34 dc34 pm34 cd34 ct34 oc35 kV35 dc35 pm35 cd35 ct35 oc36 kV36 dc36 pm36 cd36 ct36 oc37 kV37 dc37 pm37 cd37 ct37 oc38 kV38 dc38 pm38 cd38 ct38 oc39 kV39 dc39 pm39 cd39 ct39:Value} {tkLAST_AGE:Tok}
  (a0:W.nsIn K mainGlobals "is_whole" = some (some (.ref f0))) (l0:K.lookup f0=some ⟨oc0,od0,.func (W.fnOf "is_whole" "is_whole" (defArgs sWho) (defBody sWho) (defScope sWho) .none kV0 dc0 pm0 an0 cd0 ct0),sl0⟩) (c0:W.codeIn K cd0 "is_whole" = true) (k0:W.keepIn K (.ref f0)=true)
  (a1:W.nsIn K mainGlobals "is_within" = some (some (.ref f1))) (l1:K.lookup f1=some ⟨oc1,od1,.func (W.fnOf "is_within" "is_within" (defArgs sWin) (defBody sWin) (defScope sWin) .none kV1 dc1 pm1 an1 cd1 ct1),sl1⟩) (c1:W.codeIn K cd1 "is_within" = true) (k1:W.keepIn K (.ref f1)=true)
  (a2:W.nsIn K mainGlobals "need_age" = some (some (.ref f2))) (l2:K.lookup f2=some ⟨oc2,od2,.func (W.fnOf "need_age" "need_age" (defArgs sNag) (defBody sNag) (defScope sNag) .none kV2 dc2 pm2 an2 cd2 ct2),sl2⟩) (c2:W.codeIn K cd2 "need_age" = true) (k2:W.keepIn K (.ref f2)=true)
  (a3:W.nsIn K mainGlobals "ruled_letters" = some (some (.ref f3))) (l3:K.lookup f3=some ⟨oc3,od3,.func (W.fnOf "ruled_letters" "ruled_letters" (defArgs sRul) (defBody sRul) (defScope sRul) .none kV3 dc3 pm3 an3 cd3 ct3),sl3⟩) (c3:W.codeIn K cd3 "ruled_letters" = true) (k3:W.keepIn K (.ref f3)=true)
  (a4:W.nsIn K mainGlobals "letters" = some (some (.ref f4))) (l4:K.lookup f4=some ⟨oc4,od4,.func (W.fnOf "letters" "letters" (defArgs sLet) (defBody sLet) (defScope sLet) .none kV4 dc4 pm4 an4 cd4 ct4),sl4⟩) (c4:W.codeIn K cd4 "letters" = true) (k4:W.keepIn K (.ref f4)=true)
  (a5:W.nsIn K mainGlobals "replaced" = some (some (.ref f5))) (l5:K.lookup f5=some ⟨oc5,od5,.func (W.fnOf "replaced" "replaced" (defArgs sRep) (defBody sRep) (defScope sRep) .none kV5 dc5 pm5 an5 cd5 ct5),sl5⟩) (c5:W.codeIn K cd5 "replaced" = true) (k5:W.keepIn K (.ref f5)=true)
  (a6:W.nsIn K mainGlobals "need_groups" = some (some (.ref f6))) (l6:K.lookup f6=some ⟨oc6,od6,.func (W.fnOf "need_groups" "need_groups" (defArgs sNgr) (defBody sNgr) (defScope sNgr) .none kV6 dc6 pm6 an6 cd6 ct6),sl6⟩) (c6:W.codeIn K cd6 "need_groups" = true) (k6:W.keepIn K (.ref f6)=true)
  (a7:W.nsIn K mainGlobals "group_numbers" = some (some (.ref f7))) (l7:K.lookup f7=some ⟨oc7,od7,.func (W.fnOf "group_numbers" "group_numbers" (defArgs sGnu) (defBody sGnu) (defScope sGnu) .none kV7 dc7 pm7 an7 cd7 ct7),sl7⟩) (c7:W.codeIn K cd7 "group_numbers" = true) (k7:W.keepIn K (.ref f7)=true)
  (a8:W.nsIn K mainGlobals "differ" = some (some (.ref f8))) (l8:K.lookup f8=some ⟨oc8,od8,.func (W.fnOf "differ" "differ" (defArgs sDif) (defBody sDif) (defScope sDif) .none kV8 dc8 pm8 an8 cd8 ct8),sl8⟩) (c8:W.codeIn K cd8 "differ" = true) (k8:W.keepIn K (.ref f8)=true)
  (a9:W.nsIn K mainGlobals "way_apart" = some (some (.ref f9))) (l9:K.lookup f9=some ⟨oc9,od9,.func (W.fnOf "way_apart" "way_apart" (defArgs sWay) (defBody sWay) (defScope sWay) .none kV9 dc9 pm9 an9 cd9 ct9),sl9⟩) (c9:W.codeIn K cd9 "way_apart" = true) (k9:W.keepIn K (.ref f9)=true)
  (a10:W.nsIn K mainGlobals "alike_with" = some (some (.ref f10))) (l10:K.lookup f10=some ⟨oc10,od10,.func (W.fnOf "alike_with" "alike_with" (defArgs sAlw) (defBody sAlw) (defScope sAlw) .none kV10 dc10 pm10 an10 cd10 ct10),sl10⟩) (c10:W.codeIn K cd10 "alike_with" = true) (k10:W.keepIn K (.ref f10)=true)
  (a11:W.nsIn K mainGlobals "shrunk" = some (some (.ref f11))) (l11:K.lookup f11=some ⟨oc11,od11,.func (W.fnOf "shrunk" "shrunk" (defArgs sShr) (defBody sShr) (defScope sShr) .none kV11 dc11 pm11 an11 cd11 ct11),sl11⟩) (c11:W.codeIn K cd11 "shrunk" = true) (k11:W.keepIn K (.ref f11)=true)
  (a12:W.nsIn K mainGlobals "tally" = some (some (.ref f12))) (l12:K.lookup f12=some ⟨oc12,od12,.func (W.fnOf "tally" "tally" (defArgs sTal) (defBody sTal) (defScope sTal) .none kV12 dc12 pm12 an12 cd12 ct12),sl12⟩) (c12:W.codeIn K cd12 "tally" = true) (k12:W.keepIn K (.ref f12)=true)
  (a13:W.nsIn K mainGlobals "table" = some (some (.ref f13))) (l13:K.lookup f13=some ⟨oc13,od13,.func (W.fnOf "table" "table" (defArgs sTab) (defBody sTab) (defScope sTab) .none kV13 dc13 pm13 an13 cd13 ct13),sl13⟩) (c13:W.codeIn K cd13 "table" = true) (k13:W.keepIn K (.ref f13)=true)
  (a14:W.nsIn K mainGlobals "column" = some (some (.ref f14))) (l14:K.lookup f14=some ⟨oc14,od14,.func (W.fnOf "column" "column" (defArgs sCol) (defBody sCol) (defScope sCol) .none kV14 dc14 pm14 an14 cd14 ct14),sl14⟩) (c14:W.codeIn K cd14 "column" = true) (k14:W.keepIn K (.ref f14)=true)
  (a15:W.nsIn K mainGlobals "columns" = some (some (.ref f15))) (l15:K.lookup f15=some ⟨oc15,od15,.func (W.fnOf "columns" "columns" (defArgs sCls) (defBody sCls) (defScope sCls) .none kV15 dc15 pm15 an15 cd15 ct15),sl15⟩) (c15:W.codeIn K cd15 "columns" = true) (k15:W.keepIn K (.ref f15)=true)
  (a16:W.nsIn K mainGlobals "paired_sum" = some (some (.ref f16))) (l16:K.lookup f16=some ⟨oc16,od16,.func (W.fnOf "paired_sum" "paired_sum" (defArgs sPrs) (defBody sPrs) (defScope sPrs) .none kV16 dc16 pm16 an16 cd16 ct16),sl16⟩) (c16:W.codeIn K cd16 "paired_sum" = true) (k16:W.keepIn K (.ref f16)=true)
  (a17:W.nsIn K mainGlobals "one_age_on" = some (some (.ref f17))) (l17:K.lookup f17=some ⟨oc17,od17,.func (W.fnOf "one_age_on" "one_age_on" (defArgs sOao) (defBody sOao) (defScope sOao) .none kV17 dc17 pm17 an17 cd17 ct17),sl17⟩) (c17:W.codeIn K cd17 "one_age_on" = true) (k17:W.keepIn K (.ref f17)=true)
  (a18:W.nsIn K mainGlobals "counts" = some (some (.ref f18))) (l18:K.lookup f18=some ⟨oc18,od18,.func (W.fnOf "counts" "counts" (defArgs sCou) (defBody sCou) (defScope sCou) .none kV18 dc18 pm18 an18 cd18 ct18),sl18⟩) (c18:W.codeIn K cd18 "counts" = true) (k18:W.keepIn K (.ref f18)=true)
  (a19:W.nsIn K mainGlobals "first_counts" = some (some (.ref f19))) (l19:K.lookup f19=some ⟨oc19,od19,.func (W.fnOf "first_counts" "first_counts" (defArgs sFcs) (defBody sFcs) (defScope sFcs) .none kV19 dc19 pm19 an19 cd19 ct19),sl19⟩) (c19:W.codeIn K cd19 "first_counts" = true) (k19:W.keepIn K (.ref f19)=true)
  (a20:W.nsIn K mainGlobals "length" = some (some (.ref f20))) (l20:K.lookup f20=some ⟨oc20,od20,.func (W.fnOf "length" "length" (defArgs sLng) (defBody sLng) (defScope sLng) .none kV20 dc20 pm20 an20 cd20 ct20),sl20⟩) (c20:W.codeIn K cd20 "length" = true) (k20:W.keepIn K (.ref f20)=true)
  (a21:W.nsIn K mainGlobals "text_sum" = some (some (.ref f21))) (l21:K.lookup f21=some ⟨oc21,od21,.func (W.fnOf "text_sum" "text_sum" (defArgs sTsm) (defBody sTsm) (defScope sTsm) .none kV21 dc21 pm21 an21 cd21 ct21),sl21⟩) (c21:W.codeIn K cd21 "text_sum" = true) (k21:W.keepIn K (.ref f21)=true)
  (a22:W.nsIn K mainGlobals "words_by_age" = some (some (.ref f22))) (l22:K.lookup f22=some ⟨oc22,od22,.func (W.fnOf "words_by_age" "words_by_age" (defArgs sWba) (defBody sWba) (defScope sWba) .none kV22 dc22 pm22 an22 cd22 ct22),sl22⟩) (c22:W.codeIn K cd22 "words_by_age" = true) (k22:W.keepIn K (.ref f22)=true)
  (a23:W.nsIn K mainGlobals "letter_sums" = some (some (.ref f23))) (l23:K.lookup f23=some ⟨oc23,od23,.func (W.fnOf "letter_sums" "letter_sums" (defArgs sLsm) (defBody sLsm) (defScope sLsm) .none kV23 dc23 pm23 an23 cd23 ct23),sl23⟩) (c23:W.codeIn K cd23 "letter_sums" = true) (k23:W.keepIn K (.ref f23)=true)
  (a24:W.nsIn K mainGlobals "size_sums" = some (some (.ref f24))) (l24:K.lookup f24=some ⟨oc24,od24,.func (W.fnOf "size_sums" "size_sums" (defArgs sSsm) (defBody sSsm) (defScope sSsm) .none kV24 dc24 pm24 an24 cd24 ct24),sl24⟩) (c24:W.codeIn K cd24 "size_sums" = true) (k24:W.keepIn K (.ref f24)=true)
  (a25:W.nsIn K mainGlobals "length_sums" = some (some (.ref f25))) (l25:K.lookup f25=some ⟨oc25,od25,.func (W.fnOf "length_sums" "length_sums" (defArgs sLns) (defBody sLns) (defScope sLns) .none kV25 dc25 pm25 an25 cd25 ct25),sl25⟩) (c25:W.codeIn K cd25 "length_sums" = true) (k25:W.keepIn K (.ref f25)=true)
  (a26:W.nsIn K mainGlobals "need_place" = some (some (.ref f26))) (l26:K.lookup f26=some ⟨oc26,od26,.func (W.fnOf "need_place" "need_place" (defArgs sNpl) (defBody sNpl) (defScope sNpl) .none kV26 dc26 pm26 an26 cd26 ct26),sl26⟩) (c26:W.codeIn K cd26 "need_place" = true) (k26:W.keepIn K (.ref f26)=true)
  (a27:W.nsIn K mainGlobals "way_behind" = some (some (.ref f27))) (l27:K.lookup f27=some ⟨oc27,od27,.func (W.fnOf "way_behind" "way_behind" (defArgs sWbh) (defBody sWbh) (defScope sWbh) .none kV27 dc27 pm27 an27 cd27 ct27),sl27⟩) (c27:W.codeIn K cd27 "way_behind" = true) (k27:W.keepIn K (.ref f27)=true)
  (a28:W.nsIn K mainGlobals "way" = some (some (.ref f28))) (l28:K.lookup f28=some ⟨oc28,od28,.func (W.fnOf "way" "way" (defArgs sWyy) (defBody sWyy) (defScope sWyy) .none kV28 dc28 pm28 an28 cd28 ct28),sl28⟩) (c28:W.codeIn K cd28 "way" = true) (k28:W.keepIn K (.ref f28)=true)
  (a29:W.nsIn K mainGlobals "letter_at" = some (some (.ref f29))) (l29:K.lookup f29=some ⟨oc29,od29,.func (W.fnOf "letter_at" "letter_at" (defArgs sLea) (defBody sLea) (defScope sLea) .none kV29 dc29 pm29 an29 cd29 ct29),sl29⟩) (c29:W.codeIn K cd29 "letter_at" = true) (k29:W.keepIn K (.ref f29)=true)
  (a30:W.nsIn K mainGlobals "_law_pen" = some (some (.ref f30))) (l30:K.lookup f30=some ⟨oc30,od30,.func (W.fnOf "_law_pen" "_law_pen" (defArgs sPen) (defBody sPen) (defScope sPen) .none kV30 dc30 pm30 an30 cd30 ct30),sl30⟩) (c30:W.codeIn K cd30 "_law_pen" = true) (k30:W.keepIn K (.ref f30)=true)
  (a31:W.nsIn K mainGlobals "_law_take" = some (some (.ref f31))) (l31:K.lookup f31=some ⟨oc31,od31,.func (W.fnOf "_law_take" "_law_take" (defArgs sTak) (defBody sTak) (defScope sTak) .none kV31 dc31 pm31 an31 cd31 ct31),sl31⟩) (c31:W.codeIn K cd31 "_law_take" = true) (k31:W.keepIn K (.ref f31)=true)
  (a32:W.nsIn K mainGlobals "_law_mixed" = some (some (.ref f32))) (l32:K.lookup f32=some ⟨oc32,od32,.func (W.fnOf "_law_mixed" "_law_mixed" (defArgs sMix) (defBody sMix) (defScope sMix) .none kV32 dc32 pm32 an32 cd32 ct32),sl32⟩) (c32:W.codeIn K cd32 "_law_mixed" = true) (k32:W.keepIn K (.ref f32)=true)
  (a33:W.nsIn K mainGlobals "_law_homes" = some (some (.ref f33))) (l33:K.lookup f33=some ⟨oc33,od33,.func (W.fnOf "_law_homes" "_law_homes" (defArgs sHms) (defBody sHms) (defScope sHms) .none kV33 dc33 pm33 an33 cd33 ct33),sl33⟩) (c33:W.codeIn K cd33 "_law_homes" = true) (k33:W.keepIn K (.ref f33)=true)
  (a34:W.nsIn K mainGlobals "_law_words" = some (some (.ref f34))) (l34:K.lookup f34=some ⟨oc34,od34,.func (W.fnOf "_law_words" "_law_words" (defArgs sWds) (defBody sWds) (defScope sWds) .none kV34 dc34 pm34 an34 cd34 ct34),sl34⟩) (c34:W.codeIn K cd34 "_law_words" = true) (k34:W.keepIn K (.ref f34)=true)
  (a35:W.nsIn K mainGlobals "_law_heads" = some (some (.ref f35))) (l35:K.lookup f35=some ⟨oc35,od35,.func (W.fnOf "_law_heads" "_law_heads" (defArgs sHds) (defBody sHds) (defScope sHds) .none kV35 dc35 pm35 an35 cd35 ct35),sl35⟩) (c35:W.codeIn K cd35 "_law_heads" = true) (k35:W.keepIn K (.ref f35)=true)
  (a36:W.nsIn K mainGlobals "_law_replaced" = some (some (.ref f36))) (l36:K.lookup f36=some ⟨oc36,od36,.func (W.fnOf "_law_replaced" "_law_replaced" (defArgs sRpd) (defBody sRpd) (defScope sRpd) .none kV36 dc36 pm36 an36 cd36 ct36),sl36⟩) (c36:W.codeIn K cd36 "_law_replaced" = true) (k36:W.keepIn K (.ref f36)=true)
  (a37:W.nsIn K mainGlobals "_law_rows_alike" = some (some (.ref f37))) (l37:K.lookup f37=some ⟨oc37,od37,.func (W.fnOf "_law_rows_alike" "_law_rows_alike" (defArgs sRwa) (defBody sRwa) (defScope sRwa) .none kV37 dc37 pm37 an37 cd37 ct37),sl37⟩) (c37:W.codeIn K cd37 "_law_rows_alike" = true) (k37:W.keepIn K (.ref f37)=true)
  (a38:W.nsIn K mainGlobals "_law_great_alike" = some (some (.ref f38))) (l38:K.lookup f38=some ⟨oc38,od38,.func (W.fnOf "_law_great_alike" "_law_great_alike" (defArgs sGra) (defBody sGra) (defScope sGra) .none kV38 dc38 pm38 an38 cd38 ct38),sl38⟩) (c38:W.codeIn K cd38 "_law_great_alike" = true) (k38:W.keepIn K (.ref f38)=true)
  (a39:W.nsIn K mainGlobals "law" = some (some (.ref f39))) (l39:K.lookup f39=some ⟨oc39,od39,.func (W.fnOf "law" "law" (defArgs sLaw) (defBody sLaw) (defScope sLaw) .none kV39 dc39 pm39 an39 cd39 ct39),sl39⟩) (c39:W.codeIn K cd39 "law" = true) (k39:W.keepIn K (.ref f39)=true)
  (z0:W.nsIn K mainGlobals "int" = some none) (z1:W.nsIn K mainGlobals "isinstance" = some none) (z2:W.nsIn K mainGlobals "bool" = some none) (z3:W.nsIn K mainGlobals "len" = some none) (z4:W.nsIn K mainGlobals "list" = some none) (z5:W.nsIn K mainGlobals "sorted" = some none) (z6:W.nsIn K mainGlobals "str" = some none) (z7:W.nsIn K mainGlobals "all" = some none) (z8:W.nsIn K mainGlobals "enumerate" = some none) (z9:W.nsIn K mainGlobals "zip" = some none) (z10:W.nsIn K mainGlobals "dict" = some none) (z11:W.nsIn K mainGlobals "tuple" = some none) (z12:W.nsIn K mainGlobals "range" = some none) (z13:W.nsIn K mainGlobals "sum" = some none) (z14:W.nsIn K mainGlobals "reversed" = some none)
  (y0:W.nsIn K mainGlobals "LAST_AGE" = some (some (.int 300 tkLAST_AGE)))
  : ∃ fd:FuncData,(∀ (s:Shared) (v:Value),BindsTo s fd ⟨[v],[]⟩ [("_law_script",v)])/\∀ base:Heap,K.In base->base.Ns mainGlobals mg->FnOk l.prog w K mg base CX0 9 fa fd ["_law_script"] (spLaw K):=by
 have e:=hfa.symm.trans (W.mg_of X G a39)
 cases e
 have F0:=qt (st:=sWho) l0 c0 k0
 have F1:=qt (st:=sWin) l1 c1 k1
 have F2:=qt (st:=sNag) l2 c2 k2
 have F3:=qt (st:=sRul) l3 c3 k3
 have F4:=qt (st:=sLet) l4 c4 k4
 have F5:=qt (st:=sRep) l5 c5 k5
 have F6:=qt (st:=sNgr) l6 c6 k6
 have F7:=qt (st:=sGnu) l7 c7 k7
 have F8:=qt (st:=sDif) l8 c8 k8
 have F9:=qt (st:=sWay) l9 c9 k9
 have F10:=qt (st:=sAlw) l10 c10 k10
 have F11:=qt (st:=sShr) l11 c11 k11
 have F12:=qt (st:=sTal) l12 c12 k12
 have F13:=qt (st:=sTab) l13 c13 k13
 have F14:=qt (st:=sCol) l14 c14 k14
 have F15:=qt (st:=sCls) l15 c15 k15
 have F16:=qt (st:=sPrs) l16 c16 k16
 have F17:=qt (st:=sOao) l17 c17 k17
 have F18:=qt (st:=sCou) l18 c18 k18
 have F19:=qt (st:=sFcs) l19 c19 k19
 have F20:=qt (st:=sLng) l20 c20 k20
 have F21:=qt (st:=sTsm) l21 c21 k21
 have F22:=qt (st:=sWba) l22 c22 k22
 have F23:=qt (st:=sLsm) l23 c23 k23
 have F24:=qt (st:=sSsm) l24 c24 k24
 have F25:=qt (st:=sLns) l25 c25 k25
 have F26:=qt (st:=sNpl) l26 c26 k26
 have F27:=qt (st:=sWbh) l27 c27 k27
 have F28:=qt (st:=sWyy) l28 c28 k28
 have F29:=qt (st:=sLea) l29 c29 k29
 have F30:=qt (st:=sPen) l30 c30 k30
 have F31:=qt (st:=sTak) l31 c31 k31
 have F32:=qt (st:=sMix) l32 c32 k32
 have F33:=qt (st:=sHms) l33 c33 k33
 have F34:=qt (st:=sWds) l34 c34 k34
 have F35:=qt (st:=sHds) l35 c35 k35
 have F36:=qt (st:=sRpd) l36 c36 k36
 have F37:=qt (st:=sRwa) l37 c37 k37
 have F38:=qt (st:=sGra) l38 c38 k38
 have F39:=qt (st:=sLaw) l39 c39 k39
 have b0:=F0.binds (ps:=["thing"]) fun _ _ _ _ _ _ us hl=>match us,hl with | [_],_=>rfl
 have gWho:=jg X G a0 k0 b0
 have b1:=F1.binds (ps:=["thing","least","most"]) fun _ _ _ _ _ _ us hl=>match us,hl with | [_,_,_],_=>rfl
 have gWin:=jg X G a1 k1 b1
 have b2:=F2.binds (ps:=["age"]) fun _ _ _ _ _ _ us hl=>match us,hl with | [_],_=>rfl
 have gNag:=jg X G a2 k2 b2
 have b3:=F3.binds (ps:=["rules"]) fun _ _ _ _ _ _ us hl=>match us,hl with | [_],_=>rfl
 have gRul:=jg X G a3 k3 b3
 have b4:=F4.binds (ps:=["book"]) fun _ _ _ _ _ _ us hl=>match us,hl with | [_],_=>rfl
 have gLet:=jg X G a4 k4 b4
 have b5:=F5.binds (ps:=["text","words"]) fun _ _ _ _ _ _ us hl=>match us,hl with | [_,_],_=>rfl
 have gRep:=jg X G a5 k5 b5
 have b6:=F6.binds (ps:=["book","groups"]) fun _ _ _ _ _ _ us hl=>match us,hl with | [_,_],_=>rfl
 have gNgr:=jg X G a6 k6 b6
 have b7:=F7.binds (ps:=["groups"]) fun _ _ _ _ _ _ us hl=>match us,hl with | [_],_=>rfl
 have gGnu:=jg X G a7 k7 b7
 have b8:=F8.binds (ps:=["words","numbers","pair"]) fun _ _ _ _ _ _ us hl=>match us,hl with | [_,_,_],_=>rfl
 have gDif:=jg X G a8 k8 b8
 have b9:=F9.binds (ps:=["book","groups","letter","second"]) fun _ _ _ _ _ _ us hl=>match us,hl with | [_,_,_,_],_=>rfl
 have gWay:=jg X G a9 k9 b9
 have b10:=F10.binds (ps:=["book","groups","letter"]) fun _ _ _ _ _ _ us hl=>match us,hl with | [_,_,_],_=>rfl
 have gAlw:=jg X G a10 k10 b10
 have b11:=F11.binds (ps:=["book","groups"]) fun _ _ _ _ _ _ us hl=>match us,hl with | [_,_],_=>rfl
 have gShr:=jg X G a11 k11 b11
 have b12:=F12.binds (ps:=["book","text"]) fun _ _ _ _ _ _ us hl=>match us,hl with | [_,_],_=>rfl
 have gTal:=jg X G a12 k12 b12
 have b13:=F13.binds (ps:=["book"]) fun _ _ _ _ _ _ us hl=>match us,hl with | [_],_=>rfl
 have gTab:=jg X G a13 k13 b13
 have b14:=F14.binds (ps:=["lines","place"]) fun _ _ _ _ _ _ us hl=>match us,hl with | [_,_],_=>rfl
 have gCol:=jg X G a14 k14 b14
 have b15:=F15.binds (ps:=["lines"]) fun _ _ _ _ _ _ us hl=>match us,hl with | [_],_=>rfl
 have gCls:=jg X G a15 k15 b15
 have b16:=F16.binds (ps:=["ones","others"]) fun _ _ _ _ _ _ us hl=>match us,hl with | [_,_],_=>rfl
 have gPrs:=jg X G a16 k16 b16
 have b17:=F17.binds (ps:=["line","sources"]) fun _ _ _ _ _ _ us hl=>match us,hl with | [_,_],_=>rfl
 have gOao:=jg X G a17 k17 b17
 have b18:=F18.binds (ps:=["book","age"]) fun _ _ _ _ _ _ us hl=>match us,hl with | [_,_],_=>rfl
 have gCou:=jg X G a18 k18 b18
 have b19:=F19.binds (ps:=["book","many"]) fun _ _ _ _ _ _ us hl=>match us,hl with | [_,_],_=>rfl
 have gFcs:=jg X G a19 k19 b19
 have b20:=F20.binds (ps:=["book","age"]) fun _ _ _ _ _ _ us hl=>match us,hl with | [_,_],_=>rfl
 have gLng:=jg X G a20 k20 b20
 have b21:=F21.binds (ps:=["text","worths"]) fun _ _ _ _ _ _ us hl=>match us,hl with | [_,_],_=>rfl
 have gTsm:=jg X G a21 k21 b21
 have b22:=F22.binds (ps:=["book","age"]) fun _ _ _ _ _ _ us hl=>match us,hl with | [_,_],_=>rfl
 have gWba:=jg X G a22 k22 b22
 have b23:=F23.binds (ps:=["words","worths"]) fun _ _ _ _ _ _ us hl=>match us,hl with | [_,_],_=>rfl
 have gLsm:=jg X G a23 k23 b23
 have b24:=F24.binds (ps:=["words"]) fun _ _ _ _ _ _ us hl=>match us,hl with | [_],_=>rfl
 have gSsm:=jg X G a24 k24 b24
 have b25:=F25.binds (ps:=["book","age"]) fun _ _ _ _ _ _ us hl=>match us,hl with | [_,_],_=>rfl
 have gLns:=jg X G a25 k25 b25
 have b26:=F26.binds (ps:=["place","last"]) fun _ _ _ _ _ _ us hl=>match us,hl with | [_,_],_=>rfl
 have gNpl:=jg X G a26 k26 b26
 have b27:=F27.binds (ps:=["first","words","sums","many"]) fun _ _ _ _ _ _ us hl=>match us,hl with | [_,_,_,_],_=>rfl
 have gWbh:=jg X G a27 k27 b27
 have b28:=F28.binds (ps:=["book","age","place"]) fun _ _ _ _ _ _ us hl=>match us,hl with | [_,_,_],_=>rfl
 have gWyy:=jg X G a28 k28 b28
 have b29:=F29.binds (ps:=["book","age","place"]) fun _ _ _ _ _ _ us hl=>match us,hl with | [_,_,_],_=>rfl
 have gLea:=jg X G a29 k29 b29
 have b30:=F30.binds (ps:=["_law_script","_law_k"]) fun _ _ _ _ _ _ us hl=>match us,hl with | [_,_],_=>rfl
 have gPen:=jg X G a30 k30 b30
 have b31:=F31.binds (ps:=["_law_pen_here","_law_size"]) fun _ _ _ _ _ _ us hl=>match us,hl with | [_,_],_=>rfl
 have gTak:=jg X G a31 k31 b31
 have b32:=F32.binds (ps:=["_law_pen_here","_law_things"]) fun _ _ _ _ _ _ us hl=>match us,hl with | [_,_],_=>rfl
 have gMix:=jg X G a32 k32 b32
 have b33:=F33.binds (ps:=["_law_pen_here","_law_many"]) fun _ _ _ _ _ _ us hl=>match us,hl with | [_,_],_=>rfl
 have gHms:=jg X G a33 k33 b33
 have b34:=F34.binds (ps:=["_law_pen_here","_law_homes_here"]) fun _ _ _ _ _ _ us hl=>match us,hl with | [_,_],_=>rfl
 have gWds:=jg X G a34 k34 b34
 have b35:=F35.binds (ps:=["_law_words_here","_law_groups"]) fun _ _ _ _ _ _ us hl=>match us,hl with | [_,_],_=>rfl
 have gHds:=jg X G a35 k35 b35
 have b36:=F36.binds (ps:=["_law_heads_here","_law_text"]) fun _ _ _ _ _ _ us hl=>match us,hl with | [_,_],_=>rfl
 have gRpd:=jg X G a36 k36 b36
 have b37:=F37.binds (ps:=["_law_book","_law_told","_law_words_here","_law_heads_here"]) fun _ _ _ _ _ _ us hl=>match us,hl with | [_,_,_,_],_=>rfl
 have gRwa:=jg X G a37 k37 b37
 have b38:=F38.binds (ps:=["_law_pen_here","_law_book","_law_told","_law_heads_here"]) fun _ _ _ _ _ _ us hl=>match us,hl with | [_,_,_,_],_=>rfl
 have gGra:=jg X G a38 k38 b38
 have m_int:=W.mg_none_of X G z0
 have m_isinstance:=W.mg_none_of X G z1
 have m_bool:=W.mg_none_of X G z2
 have m_len:=W.mg_none_of X G z3
 have m_list:=W.mg_none_of X G z4
 have m_sorted:=W.mg_none_of X G z5
 have m_str:=W.mg_none_of X G z6
 have m_all:=W.mg_none_of X G z7
 have m_enumerate:=W.mg_none_of X G z8
 have m_zip:=W.mg_none_of X G z9
 have m_dict:=W.mg_none_of X G z10
 have m_tuple:=W.mg_none_of X G z11
 have m_range:=W.mg_none_of X G z12
 have m_sum:=W.mg_none_of X G z13
 have m_reversed:=W.mg_none_of X G z14
 have m_LAST_AGE:=W.mg_of X G y0
 refine ⟨W.fnOf "law" "law" (defArgs sLaw) (defBody sLaw) (defScope sLaw) .none kV39 dc39 pm39 an39 cd39 ct39,fun s v=>.of_eq rfl,fun base KB GB=>?_⟩
 have oPen:=qi2 (P:=l.prog) (w:=w) (mg:=mg) (base:=base) F30 m_len
 have oTak:=qi1 (P:=l.prog) (w:=w) (mg:=mg) (base:=base) F31
 have oMix:=qjp (P:=l.prog) (w:=w) (mg:=mg) (base:=base) F32 oTak gTak m_len m_range m_list
 have oHms:=qjq (P:=l.prog) (w:=w) (mg:=mg) (base:=base) F33 oMix gMix oTak gTak m_range m_enumerate m_list
 have oWds:=qjt (P:=l.prog) (w:=w) (mg:=mg) (base:=base) F34 oTak gTak m_len m_range
 have oHds:=qj4 (P:=l.prog) (w:=w) (mg:=mg) (base:=base) F35 m_len m_range m_enumerate m_list m_sorted
 have oRul:=qiv (P:=l.prog) (w:=w) (mg:=mg) (base:=base) F3
 have oLet:=qiw (P:=l.prog) (w:=w) (mg:=mg) (base:=base) F4 oRul gRul
 have oNgr:=qjl (P:=l.prog) (w:=w) (mg:=mg) (base:=base) F6 oLet gLet m_len m_list m_sorted m_isinstance m_str m_all
 have oRep:=qjm (P:=l.prog) (w:=w) (mg:=mg) (base:=base) F5
 have oGnu:=qjf (P:=l.prog) (w:=w) (mg:=mg) (base:=base) F7 m_enumerate
 have oDif:=qjg (P:=l.prog) (w:=w) (mg:=mg) (base:=base) F8 m_len
 have oWay:=qjh (P:=l.prog) (w:=w) (mg:=mg) (base:=base) F9 oGnu gGnu oDif gDif m_zip m_enumerate m_dict
 have oAlw:=qji (P:=l.prog) (w:=w) (mg:=mg) (base:=base) F10 oLet gLet oWay gWay
 have oShr:=qjn (P:=l.prog) (w:=w) (mg:=mg) (base:=base) F11 oNgr gNgr oRep gRep oLet gLet oAlw gAlw m_tuple m_dict
 have oRpd:=qj7 (P:=l.prog) (w:=w) (mg:=mg) (base:=base) F36
 have oRwa:=qj8 (P:=l.prog) (w:=w) (mg:=mg) (base:=base) F37 oRpd gRpd m_len m_range
 have oWho:=qi4 (P:=l.prog) (w:=w) (mg:=mg) (base:=base) F0 m_int m_isinstance m_bool
 have oWin:=qi5 (P:=l.prog) (w:=w) (mg:=mg) (base:=base) F1 oWho gWho
 have oNag:=qja (P:=l.prog) (w:=w) (mg:=mg) (base:=base) F2 oWin gWin m_LAST_AGE
 have oCol:=qi6 (P:=l.prog) (w:=w) (mg:=mg) (base:=base) F14
 have oCls:=qi7 (P:=l.prog) (w:=w) (mg:=mg) (base:=base) F15 oCol gCol m_len m_range
 have oTal:=qiy (P:=l.prog) (w:=w) (mg:=mg) (base:=base) F12 oLet gLet
 have oTab:=qi0 (P:=l.prog) (w:=w) (mg:=mg) (base:=base) F13 oTal gTal
 have oPrs:=qi8 (P:=l.prog) (w:=w) (mg:=mg) (base:=base) F16 m_zip m_sum
 have oOao:=qi9 (P:=l.prog) (w:=w) (mg:=mg) (base:=base) F17 oPrs gPrs
 have oFcs:=qjb (P:=l.prog) (w:=w) (mg:=mg) (base:=base) F19 oCls gCls oTab gTab oTal gTal oOao gOao m_len
 have oCou:=qjc (P:=l.prog) (w:=w) (mg:=mg) (base:=base) F18 oNag gNag oFcs gFcs
 have oLng:=qjd (P:=l.prog) (w:=w) (mg:=mg) (base:=base) F20 oCou gCou m_sum
 have oTsm:=qjv (P:=l.prog) (w:=w) (mg:=mg) (base:=base) F21 m_sum
 have oLsm:=qjx (P:=l.prog) (w:=w) (mg:=mg) (base:=base) F23 oTsm gTsm m_dict m_reversed
 have oSsm:=qjy (P:=l.prog) (w:=w) (mg:=mg) (base:=base) F24 oLsm gLsm m_dict
 have oWba:=qjw (P:=l.prog) (w:=w) (mg:=mg) (base:=base) F22 m_dict
 have oLns:=qjz (P:=l.prog) (w:=w) (mg:=mg) (base:=base) F25 oSsm gSsm oWba gWba
 have oNpl:=qju (P:=l.prog) (w:=w) (mg:=mg) (base:=base) F26 oWin gWin
 have oWbh:=qj0 (P:=l.prog) (w:=w) (mg:=mg) (base:=base) F27 m_zip m_reversed
 have oWyy:=qj1 (P:=l.prog) (w:=w) (mg:=mg) (base:=base) F28 oNag gNag oLns gLns oNpl gNpl oWbh gWbh oWba gWba oTsm gTsm
 have oLea:=qj2 (P:=l.prog) (w:=w) (mg:=mg) (base:=base) F29 oWyy gWyy
 have oGra:=qj9 (P:=l.prog) (w:=w) (mg:=mg) (base:=base) F38 oLng gLng oTak gTak oLea gLea m_range
 exact qkb F39 oPen gPen oTak gTak oHms gHms oWds gWds oMix gMix oHds gHds oShr gShr oRpd gRpd oRwa gRwa oGra gGra m_len m_range m_int m_list m_tuple m_sorted m_isinstance
theorem walk {l:W.OpenLaw} {q:Program} {loose:List Str} {XP:(Str->Option Value)->Heap->Prop} {YP:World->Heap->Prop} {d:DefRec} {K:Params->W.Frag} (hn:l.most=some 63) (hdf:d.params.defaults=[])
  (hY:∀ (w:World) (h:Heap),YP w h->(K w.params).In h)
  (F : ∀ (w:World) (mg:Str->Option Value) (fa:Addr) (h:Heap),(K w.params).In h->h.Ns mainGlobals mg->mg d.name=some (.ref fa) ->
   ∃ fd:FuncData,(∀ (s:Shared) (u:Value),BindsTo s fd ⟨[u],[]⟩ [("_law_script",u)])/\∀ base:Heap,(K w.params).In base->base.Ns mainGlobals mg->FnOk l.prog w (K w.params) mg base CX0 9 fa fd ["_law_script"] (spLaw (K w.params))) :
  PySem.W.WalkO q loose XP YP l.row.toRowW d [] (fun f vs=>PySem.call f vs) :=
 L2.qf6 (n:=63) (k:=9) (x:="_law_script") (CX:=fun _=>CX0) (sp:=fun w=>spLaw (K w.params)) hn (by decide) hdf ⟨rfl,by decide,by decide⟩ hY F (fun _ _ a ns hl _ hS=>⟨a,ns,rfl,hS,hl,fun _=>rfl⟩) fun _ _ _ _ _ z=>z
end Lw
open PySem PySem.W PyProof.Rows
-- these names are taken so that no second copy of the great trees is laid (it would make the compiled file too large)
def PySem.W.Fast.tw5939807538608113520:Unit:=()
def PySem.W.Fast.tw12236962961131039154:Unit:=()
def PySem.W.Fast.tw9157864919093648865:Unit:=()
def PySem.W.Fast.tw3492968038823143544:Unit:=()
def PySem.W.Fast.tw6610046150121592326:Unit:=()
def PySem.W.Fast.tw687869430002055802:Unit:=()
def PySem.W.Fast.tw10529873417224754603:Unit:=()
def PySem.W.Fast.tw10261569101974405387:Unit:=()
def PySem.W.Fast.tw2641113647767171493:Unit:=()
def PySem.W.Fast.tw10213684153904421266:Unit:=()
def PySem.W.Fast.tw13390944864465999104:Unit:=()
def PySem.W.Fast.tw8538407755395254876:Unit:=()
def PySem.W.Fast.tw14144231632678245937:Unit:=()
def PySem.W.Fast.tw10122209721452373908:Unit:=()
def PySem.W.Fast.tw18432136986997707225:Unit:=()
def PySem.W.Fast.tw17930071149259709814:Unit:=()
def PySem.W.Fast.tw13489840165121394771:Unit:=()
def PySem.W.Fast.tw11031392671637273784:Unit:=()
def PySem.W.Fast.tw16395743332985799273:Unit:=()
def PySem.W.Fast.tw12681006438680519585:Unit:=()
set_option maxRecDepth 100000 in
set_option maxHeartbeats 0 in
theorem PySem.Challenge.cw_linegrow_k38_shrunk_rows_holds : PySem.Challenge.rw_linegrow_k38_shrunk_rows.Holds := by
 w_on;o_law;k_head;(case hw=>w_witness2)
 k_fill
 refine Lw.walk (l:=PySem.Challenge.rw_linegrow_k38_shrunk_rows) rfl rfl (fun w h Y=>W.kIn_of Y) ?F
 case F =>
  intro w mg fa h KX G hmg
  refine' Lw.all_mk KX G hmg ?a0 ?l0 ?c0 ?k0 ?a1 ?l1 ?c1 ?k1 ?a2 ?l2 ?c2 ?k2 ?a3 ?l3 ?c3 ?k3 ?a4 ?l4 ?c4 ?k4 ?a5 ?l5 ?c5 ?k5 ?a6 ?l6 ?c6 ?k6 ?a7 ?l7 ?c7 ?k7 ?a8 ?l8 ?c8 ?k8 ?a9 ?l9 ?c9 ?k9 ?a10 ?l10 ?c10 ?k10 ?a11 ?l11 ?c11 ?k11 ?a12 ?l12 ?c12 ?k12 ?a13 ?l13 ?c13 ?k13 ?a14 ?l14 ?c14 ?k14 ?a15 ?l15 ?c15 ?k15 ?a16 ?l16 ?c16 ?k16 ?a17 ?l17 ?c17 ?k17 ?a18 ?l18 ?c18 ?k18 ?a19 ?l19 ?c19 ?k19 ?a20 ?l20 ?c20 ?k20 ?a21 ?l21 ?c21 ?k21 ?a22 ?l22 ?c22 ?k22 ?a23 ?l23 ?c23 ?k23 ?a24 ?l24 ?c24 ?k24 ?a25 ?l25 ?c25 ?k25 ?a26 ?l26 ?c26 ?k26 ?a27 ?l27 ?c27 ?k27 ?a28 ?l28 ?c28 ?k28 ?a29 ?l29 ?c29 ?k29 ?a30 ?l30 ?c30 ?k30 ?a31 ?l31 ?c31 ?k31 ?a32 ?l32 ?c32 ?k32 ?a33 ?l33 ?c33 ?k33 ?a34 ?l34 ?c34 ?k34 ?a35 ?l35 ?c35 ?k35 ?a36 ?l36 ?c36 ?k36 ?a37 ?l37 ?c37 ?k37 ?a38 ?l38 ?c38 ?k38 ?a39 ?l39 ?c39 ?k39 ?z0 ?z1 ?z2 ?z3 ?z4 ?z5 ?z6 ?z7 ?z8 ?z9 ?z10 ?z11 ?z12 ?z13 ?z14 ?y0
  (case a0=>k_is)
  (case l0=>k_is)
  (case c0=>k_is)
  (case k0=>k_is)
  (case a1=>k_is)
  (case l1=>k_is)
  (case c1=>k_is)
  (case k1=>k_is)
  (case a2=>k_is)
  (case l2=>k_is)
  (case c2=>k_is)
  (case k2=>k_is)
  (case a3=>k_is)
  (case l3=>k_is)
  (case c3=>k_is)
  (case k3=>k_is)
  (case a4=>k_is)
  (case l4=>k_is)
  (case c4=>k_is)
  (case k4=>k_is)
  (case a5=>k_is)
  (case l5=>k_is)
  (case c5=>k_is)
  (case k5=>k_is)
  (case a6=>k_is)
  (case l6=>k_is)
  (case c6=>k_is)
  (case k6=>k_is)
  (case a7=>k_is)
  (case l7=>k_is)
  (case c7=>k_is)
  (case k7=>k_is)
  (case a8=>k_is)
  (case l8=>k_is)
  (case c8=>k_is)
  (case k8=>k_is)
  (case a9=>k_is)
  (case l9=>k_is)
  (case c9=>k_is)
  (case k9=>k_is)
  (case a10=>k_is)
  (case l10=>k_is)
  (case c10=>k_is)
  (case k10=>k_is)
  (case a11=>k_is)
  (case l11=>k_is)
  (case c11=>k_is)
  (case k11=>k_is)
  (case a12=>k_is)
  (case l12=>k_is)
  (case c12=>k_is)
  (case k12=>k_is)
  (case a13=>k_is)
  (case l13=>k_is)
  (case c13=>k_is)
  (case k13=>k_is)
  (case a14=>k_is)
  (case l14=>k_is)
  (case c14=>k_is)
  (case k14=>k_is)
  (case a15=>k_is)
  (case l15=>k_is)
  (case c15=>k_is)
  (case k15=>k_is)
  (case a16=>k_is)
  (case l16=>k_is)
  (case c16=>k_is)
  (case k16=>k_is)
  (case a17=>k_is)
  (case l17=>k_is)
  (case c17=>k_is)
  (case k17=>k_is)
  (case a18=>k_is)
  (case l18=>k_is)
  (case c18=>k_is)
  (case k18=>k_is)
  (case a19=>k_is)
  (case l19=>k_is)
  (case c19=>k_is)
  (case k19=>k_is)
  (case a20=>k_is)
  (case l20=>k_is)
  (case c20=>k_is)
  (case k20=>k_is)
  (case a21=>k_is)
  (case l21=>k_is)
  (case c21=>k_is)
  (case k21=>k_is)
  (case a22=>k_is)
  (case l22=>k_is)
  (case c22=>k_is)
  (case k22=>k_is)
  (case a23=>k_is)
  (case l23=>k_is)
  (case c23=>k_is)
  (case k23=>k_is)
  (case a24=>k_is)
  (case l24=>k_is)
  (case c24=>k_is)
  (case k24=>k_is)
  (case a25=>k_is)
  (case l25=>k_is)
  (case c25=>k_is)
  (case k25=>k_is)
  (case a26=>k_is)
  (case l26=>k_is)
  (case c26=>k_is)
  (case k26=>k_is)
  (case a27=>k_is)
  (case l27=>k_is)
  (case c27=>k_is)
  (case k27=>k_is)
  (case a28=>k_is)
  (case l28=>k_is)
  (case c28=>k_is)
  (case k28=>k_is)
  (case a29=>k_is)
  (case l29=>k_is)
  (case c29=>k_is)
  (case k29=>k_is)
  (case a30=>k_is)
  (case l30=>k_is)
  (case c30=>k_is)
  (case k30=>k_is)
  (case a31=>k_is)
  (case l31=>k_is)
  (case c31=>k_is)
  (case k31=>k_is)
  (case a32=>k_is)
  (case l32=>k_is)
  (case c32=>k_is)
  (case k32=>k_is)
  (case a33=>k_is)
  (case l33=>k_is)
  (case c33=>k_is)
  (case k33=>k_is)
  (case a34=>k_is)
  (case l34=>k_is)
  (case c34=>k_is)
  (case k34=>k_is)
  (case a35=>k_is)
  (case l35=>k_is)
  (case c35=>k_is)
  (case k35=>k_is)
  (case a36=>k_is)
  (case l36=>k_is)
  (case c36=>k_is)
  (case k36=>k_is)
  (case a37=>k_is)
  (case l37=>k_is)
  (case c37=>k_is)
  (case k37=>k_is)
  (case a38=>k_is)
  (case l38=>k_is)
  (case c38=>k_is)
  (case k38=>k_is)
  (case a39=>k_is)
  (case l39=>k_is)
  (case c39=>k_is)
  (case k39=>k_is)
  (case z0=>k_is)
  (case z1=>k_is)
  (case z2=>k_is)
  (case z3=>k_is)
  (case z4=>k_is)
  (case z5=>k_is)
  (case z6=>k_is)
  (case z7=>k_is)
  (case z8=>k_is)
  (case z9=>k_is)
  (case z10=>k_is)
  (case z11=>k_is)
  (case z12=>k_is)
  (case z13=>k_is)
  (case z14=>k_is)
  (case y0=>k_is)
