import PyProof.Rows.All
import Wide.All
import OpenK.AllK
import Wide.FinOn
import Lean
import PyProof.EqAt
import PyProof.EqKinds
import PyProof.TupleCall
import PyProof.NeKinds
import KE.KDictOf
import PyProof.AttrMissSeq
import PyProof.DictList
import PyProof.WalksMore
import KE.KDictList
import PyProof.FactsAll.dict_4
import PyProof.ZipIter
import PyProof.ListRange
import OpenK.KOwn
import PyProof.Rows.CatchOwn
import KE.KIsNot
import KE.KRevIter
import PyProof.DictWalks
import PyProof.ConsumeWalk
import PyProof.TupleOfStr
import PyProof.StrOps2
import PyProof.SliceStr2
import PyProof.StrBlockI
import PyProof.Rows.StrClose5
import PyProof.Rows.CatFin
import KE.KIsAll
import KE.KSortTup
import PyProof.MeetsStr
import PyProof.MeetsStr2
import PyProof.StrLawsIn
import PyProof.Rows.StrLawsPart
import PyProof.Rows.StrRev
import PyProof.Draws
import PyProof.EnumMake
import PyProof.Rows.CountFlat
import PyProof.CallStr
import PyProof.FitsInt
import PyProof.PureStr
import PyProof.FString5
import KE.KDictSum
import PyProof.WalkInts
import PyProof.Rows.CallKwBuiltin
import KE.KMinBuiltin
import PyProof.CollectStr
import PyProof.FactsAll.set_1
import PyProof.CollectIter
import PySem.Challenge.RW_linegrow_k29_whole_kinds_at_great_ages
set_option Elab.async false
set_option linter.all false
set_option maxRecDepth 100000
set_option maxHeartbeats 4000000
namespace L2
open PySem PySem.Spec PyProof.Rows
abbrev Key:=Sum Int Str
def keyIs:Key→Value→Bool
  | .inl k,v=>Value.isInt k v
  | .inr x,v=>Value.isStrOf x v
def keyH (w:World):Key→Int
  | .inl k=>hashInt k
  | .inr x=>hashStr w x
theorem keyIs_shape:∀ {k:Key} {v:Value},keyIs k v=true→(∃ i t,k=Sum.inl i∧v=Value.int i t)∨(∃ x t,k=Sum.inr x∧v=Value.str x t)
  | .inl i,v,h=>by
    obtain ⟨t,e⟩:=Value.isInt_shape (k:=i) (v:=v) h
    exact .inl ⟨i,t,rfl,e⟩
  | .inr x,v,h=>by
    obtain ⟨t,e⟩:=Value.isStrOf_shape (x:=x) (v:=v) h
    exact .inr ⟨x,t,rfl,e⟩
theorem keyIs_int (i:Int) (t:Tok):keyIs (.inl i) (.int i t)=true:=by simp [keyIs,Value.isInt]
theorem keyIs_str (x:Str) (t:Tok):keyIs (.inr x) (.str x t)=true:=by simp [keyIs,Value.isStrOf]
theorem key_ll (a b:Int):decide ((Sum.inl a:Key)=Sum.inl b)=(a == b):=by
  by_cases e:a=b
  · subst e;simp
  · have h:¬ (Sum.inl a:Key)=Sum.inl b:=fun q=>e (Sum.inl.inj q)
    rw [decide_eq_false h]
    exact (beq_eq_false_iff_ne.mpr e).symm
theorem key_rr (a b:Str):decide ((Sum.inr a:Key)=Sum.inr b)=decide (a=b):=by
  by_cases e:a=b
  · subst e;simp
  · have h:¬ (Sum.inr a:Key)=Sum.inr b:=fun q=>e (Sum.inr.inj q)
    rw [decide_eq_false h,decide_eq_false e]
theorem key_lr (a:Int) (b:Str):decide ((Sum.inl a:Key)=Sum.inr b)=false:=decide_eq_false (fun q=>nomatch q)
theorem key_rl (a:Str) (b:Int):decide ((Sum.inr a:Key)=Sum.inl b)=false:=decide_eq_false (fun q=>nomatch q)
def mixKind (prog:Program) (w:World):PySem.KeyKind prog w Key where
  is:=keyIs
  hash:=keyH w
  inj:=fun v a b ha hb=>by
    rcases keyIs_shape ha with ⟨i,t,rfl,rfl⟩ | ⟨x,t,rfl,rfl⟩
    · rcases keyIs_shape hb with ⟨j,u,rfl,e⟩ | ⟨y,u,rfl,e⟩
      · injection e with e1 _;rw [e1]
      · exact nomatch e
    · rcases keyIs_shape hb with ⟨j,u,rfl,e⟩ | ⟨y,u,rfl,e⟩
      · exact nomatch e
      · injection e with e1 _;rw [e1]
  byValue:=fun k v h=>by
    rcases keyIs_shape h with ⟨i,t,rfl,rfl⟩ | ⟨x,t,rfl,rfl⟩ <;> rfl
  pyHash:=fun hv h=>by
    rcases keyIs_shape hv with ⟨i,t,rfl,rfl⟩ | ⟨x,t,rfl,rfl⟩
    · exact wpAny_pyHash_int h
    · exact wpAny_pyHash_str h
  eqBool:=fun hu hv h=>by
    rcases keyIs_shape hu with ⟨i,t,rfl,rfl⟩ | ⟨x,t,rfl,rfl⟩
    · rcases keyIs_shape hv with ⟨j,u,rfl,rfl⟩ | ⟨y,u,rfl,rfl⟩
      · rw [key_ll] at h;exact wpAny_eqBool_int h
      · rw [key_lr] at h;exact SeqAt.EqAt.int_str i t y u _ _ _ _ h
    · rcases keyIs_shape hv with ⟨j,u,rfl,rfl⟩ | ⟨y,u,rfl,rfl⟩
      · rw [key_rl] at h;exact SeqAt.EqAt.str_int x t j u _ _ _ _ h
      · rw [key_rr] at h;exact wpAny_eqBool_str h
  «strs»:=fun k x t v h=>by
    rcases keyIs_shape h with ⟨i,u,rfl,e⟩ | ⟨y,u,rfl,e⟩
    · exact nomatch e
    · injection e with e1 _
      subst e1
      cases v <;> rfl
theorem mixKind_int (prog:Program) (w:World) (i:Int) (t:Tok):(mixKind prog w).is (.inl i) (.int i t)=true:=keyIs_int i t
theorem mixKind_str (prog:Program) (w:World) (x:Str) (t:Tok):(mixKind prog w).is (.inr x) (.str x t)=true:=keyIs_str x t
end L2
namespace L2
open PySem PySem.Spec PyProof.Rows
inductive V where
  | non | bl (b:Bool) | int (i:Int) | str (x:Str) | byt (b:Array UInt8) | flt (b:UInt64) | ref (a:Addr) | ty (n:String)
  deriving DecidableEq
def RelV:V→Value→Prop
  | .non,u=>u=Value.none
  | .bl b,u=>u=Value.bool b
  | .int i,u=>∃ t,u=Value.int i t
  | .str x,u=>∃ t,u=Value.str x t
  | .byt b,u=>∃ t,u=Value.bytes b t
  | .flt b,u=>∃ t,u=Value.float b t
  | .ref a,u=>u=Value.ref a
  | .ty n,u=>u=Value.type n
abbrev Vals:List V→List Value→Prop:=Paired RelV
theorem Vals.length {xs:List V} {us:List Value} (r:Vals xs us):xs.length=us.length:=Paired.length r
theorem Vals.get:∀ {xs:List V} {us:List Value} {i:Nat} {x:V},Vals xs us→xs[i]? = some x→∃ u,us[i]? = some u∧RelV x u
  | _,_,_,_,.nil,e=>by simp at e
  | _,_,0,_,.cons r _,e=>by simp at e;subst e;exact ⟨_,rfl,r⟩
  | _,_,i+1,x,.cons _ t,e=>by
    obtain ⟨u,h1,h2⟩:=Vals.get (i:=i) (x:=x) t (by simpa using e)
    exact ⟨u,by simpa using h1,h2⟩
theorem Vals.set {x:V} {u:Value} (r:RelV x u):∀ {xs:List V} {us:List Value} (i:Nat),Vals xs us→Vals (xs.set i x) (us.set i u)
  | _,_,_,.nil=>.nil
  | _,_,0,.cons _ t=>.cons r t
  | _,_,i+1,.cons q t=>.cons q (Vals.set r i t)
theorem Vals.append:∀ {xs ys:List V} {us ws:List Value},Vals xs us→Vals ys ws→Vals (xs++ys) (us++ws)
  | _,_,_,_,.nil,s=>s
  | _,_,_,_,.cons r t,s=>.cons r (Vals.append t s)
theorem Vals.take:∀ {xs:List V} {us:List Value} (n:Nat),Vals xs us→Vals (xs.take n) (us.take n)
  | _,_,0,_=>.nil
  | _,_,_+1,.nil=>.nil
  | _,_,n+1,.cons r t=>.cons r (Vals.take n t)
theorem Vals.drop:∀ {xs:List V} {us:List Value} (n:Nat),Vals xs us→Vals (xs.drop n) (us.drop n)
  | _,_,0,r=>r
  | _,_,_+1,.nil=>.nil
  | _,_,n+1,.cons _ t=>Vals.drop n t
def RelO:Option V→Option Value→Prop
  | some v,some u=>RelV v u
  | none,none=>True
  | _,_=>False
def KV {κ:Type}:List (κ × V)→List (κ × Value)→Prop:=Paired fun (p:κ × V) (q:κ × Value)=>p.1=q.1∧RelV p.2 q.2
def kV:Key→V
  | .inl i=>.int i
  | .inr x=>.str x
inductive HO where
  /-- a list -/
  | lst (xs:List V)
  /-- a tuple (never changes) -/
  | tup (xs:List V)
  /-- a dict whose keys are ints and texts;one whose keys are tuples of ints and texts (the empty one is both) -/
  | dK (kvs:List (Key × V)) | dT (kvs:List (List Key × V))
  /-- a set of ints: its members,its size -/
  | set (S:Int→Bool) (n:Nat)
  /-- an instance of the class at C,its dict at dx,its attributes -/
  | ins (C dx:Addr) (fs:List (Str × V))
  /-- the dict of the instance at x -/
  | own (x:Addr)
  /-- the dict of an exception -/
  | xd (fs:List (Str × V))
  /-- a bound method,f of x -/
  | met (f x:Addr)
  /-- a range object lo,lo+1,.. below hi -/
  | rng (lo hi:Int)
  /-- a thing that is known to the object (the script;a dict while a loop walks it): read,never written while it is so -/
  | frz (o:Obj) (u:HO)
  /-- a code object's table -/
  | tbl (ps:Array Value)
  /-- any other thing,by what is true of its one object (a def of one's own: SetO a S n:=HO.ext fun h=>..) -/
  | ext (φ:Heap→Prop)
abbrev Hp:=Addr→Option HO
def upd (H:Hp) (a:Addr) (o:HO):Hp:=fun b=>if b=a then some o else H b
theorem upd_same {H:Hp} {a:Addr} {o:HO}:upd H a o a=some o:=by unfold upd;rw [if_pos rfl]
theorem upd_ne {H:Hp} {a b:Addr} {o:HO} (h:b≠a):upd H a o b=H b:=by unfold upd;rw [if_neg h]
theorem ne_of {H:Hp} {a b:Addr} {o u:HO} (h:H a=some o) (h':H b=some u) (d:o≠u):a≠b:=by
  intro e;subst e;rw [h] at h';exact d (Option.some.inj h')
theorem ne_of_none {H:Hp} {a b:Addr} {o:HO} (h:H a=some o) (h':H b=none):a≠b:=by
  intro e;subst e;rw [h] at h';cases h'
section
variable (P:Program) (w:World)
def Bare (h:Heap) (a:Addr):Prop:=∃ o,h.get? a=some o∧o.dict=none
def ObjOk (H:Hp) (h:Heap) (a:Addr):HO→Prop
  | .lst xs=>xs.length≤sizeLine∧∃ (its:List Value) (n:Nat),Vals xs its∧h.get? a=some { cls:=.type "list",data:=.seq its.toArray n }
  | .tup xs=>xs.length≤sizeLine∧∃ its:List Value,Vals xs its∧IsTup h a its.toArray∧Bare h a
  | .dK kvs=>kvs.length≤sizeLine∧(a == sysModules)=false∧∃ vs,KV kvs vs∧h.DictOf (mixKind P w) a vs
  | .dT kvs=>kvs.length≤sizeLine∧(a == sysModules)=false∧∃ xs:List (List Key × Addr × Value),
      Paired (fun (p:List Key × V) (q:List Key × Addr × Value)=>p.1=q.1∧H q.2.1=some (.tup (p.1.map kV))∧RelV p.2 q.2.2) kvs xs ∧
      ∃ o es ep,h.get? a=some o∧o.ExactDict∧o.data=.dict es ep∧es.toList=xs.map (entryOfKey (tupleKind (mixKind P w)))∧(xs.map (·.1)).Nodup
  | .set S n=>h.SetOf (intKind P w) a S n
  | .ins C dx fs=>H dx=some (.own a)∧fs.length≤1000∧dx≠a∧h.get? a=some (PySem.W.instObj C dx) ∧
      ∃ mA,h.Ns1 dx mA∧(∀ f,RelO (fs.lookup f) (mA f))∧PySem.Within mA (fs.map (·.1))
  | .own _=>∃ o,h.get? a=some o
  | .xd fs=>∃ mA,h.Ns1 a mA∧∀ f,RelO (fs.lookup f) (mA f)
  | .rng lo hi=>∃ t u v,h.get? a=some { cls:=.type "range",data:=.fields #[.int lo t,.int hi u,.int 1 v] }
  | .frz o u=>h.get? a=some o∧ObjOk H h a u
  | .tbl ps=>h.get? a=some { cls:=.none,data:=.fields ps }
  | .met f x=>h.get? a=some (PySem.W.methodObj (.ref f) (.ref x))
  | .ext φ=>φ h∧(∃ o,h.get? a=some o)∧∀ h1 h2:Heap,φ h1→(∀ o,h1.get? a=some o→h2.get? a=some o)→φ h2
def HOk (H:Hp) (h:Heap):Prop:=∀ a o,H a=some o→ObjOk P w H h a o
end
section
variable {P:Program} {w:World} {H H':Hp} {h h':Heap} {a:Addr} {o:HO}
theorem ObjOk.lt (x:ObjOk P w H h a o):a < h.objs.size:=by
  cases o with
  | lst xs=>obtain ⟨_,_,_,_,e⟩:=x;exact Heap.lt_size e
  | tup xs=>obtain ⟨_,_,_,p,_⟩:=x;exact p.lt
  | dK kvs=>obtain ⟨_,_,_,_,o,_,_,e,_⟩:=x;exact Heap.lt_size e
  | dT kvs=>obtain ⟨_,_,_,_,o,_,_,e,_⟩:=x;exact Heap.lt_size e
  | set S n=>obtain ⟨o,_,_,_,e,_⟩:=x;exact Heap.lt_size e
  | ins C dx fs=>obtain ⟨_,_,_,e,_⟩:=x;exact Heap.lt_size e
  | own y=>obtain ⟨_,e⟩:=x;exact Heap.lt_size e
  | xd fs=>obtain ⟨_,⟨_,_,_,e,_⟩,_⟩:=x;exact Heap.lt_size e
  | rng lo hi=>obtain ⟨_,_,_,e⟩:=x;exact Heap.lt_size e
  | frz ob u=>obtain ⟨e,_⟩:=x;exact Heap.lt_size e
  | tbl ps=>exact Heap.lt_size (show h.get? a=some _ from x)
  | met f y=>exact Heap.lt_size (show h.get? a=some _ from x)
  | ext φ=>obtain ⟨_,⟨_,e⟩,_⟩:=x;exact Heap.lt_size e
theorem Paired.mapP {α β:Type} {F G:α→β→Prop}:∀ {l₁:List α} {l₂:List β},Paired F l₁ l₂→(∀ a b,F a b→G a b)→Paired G l₁ l₂
  | _,_,.nil,_=>.nil
  | _,_,.cons r t,f=>.cons (f _ _ r) (Paired.mapP t f)
theorem ObjOk.stay (x:ObjOk P w H h a o) (k:∀ b u,(b=a∨H b=some (.own a))→h.get? b=some u→h'.get? b=some u)
    (ho:∀ b,H b=some (.own a)→H' b=some (.own a)) (ht:∀ b xs,H b=some (.tup xs)→H' b=some (.tup xs)):ObjOk P w H' h' a o:=by
  induction o with
  | lst xs=>obtain ⟨z,its,n,r,e⟩:=x;exact ⟨z,its,n,r,k _ _ (.inl rfl) e⟩
  | tup xs=>obtain ⟨z,its,r,⟨ob,e,c⟩,o2,e2,c2⟩:=x;exact ⟨z,its,r,⟨ob,k _ _ (.inl rfl) e,c⟩,o2,k _ _ (.inl rfl) e2,c2⟩
  | dK kvs=>obtain ⟨z,y,vs,r,ob,es,ep,e,c⟩:=x;exact ⟨z,y,vs,r,ob,es,ep,k _ _ (.inl rfl) e,c⟩
  | dT kvs =>
    obtain ⟨z,y,xs,r,ob,es,ep,e,c⟩:=x
    exact ⟨z,y,xs,Paired.mapP r fun p q z=>⟨z.1,ht _ _ z.2.1,z.2.2⟩,ob,es,ep,k _ _ (.inl rfl) e,c⟩
  | set S n=>obtain ⟨ob,es,ep,t,e,c⟩:=x;exact ⟨ob,es,ep,t,k _ _ (.inl rfl) e,c⟩
  | ins C dx fs =>
    obtain ⟨d,z,ne,e,mA,⟨od,es,ep,e2,c⟩,r⟩:=x
    exact ⟨ho _ d,z,ne,k _ _ (.inl rfl) e,mA,⟨od,es,ep,k _ _ (.inr d) e2,c⟩,r⟩
  | own y=>obtain ⟨ob,e⟩:=x;exact ⟨ob,k _ _ (.inl rfl) e⟩
  | xd fs=>obtain ⟨mA,⟨od,es,ep,e,c⟩,r⟩:=x;exact ⟨mA,⟨od,es,ep,k _ _ (.inl rfl) e,c⟩,r⟩
  | rng lo hi=>obtain ⟨t,u,v,e⟩:=x;exact ⟨t,u,v,k _ _ (.inl rfl) e⟩
  | frz ob u ih=>obtain ⟨e,q⟩:=x;exact ⟨k _ _ (.inl rfl) e,ih q⟩
  | tbl ps =>
    have e:h.get? a=some { cls:=.none,data:=.fields ps }:=x
    show h'.get? a=some { cls:=.none,data:=.fields ps }
    exact k a _ (.inl rfl) e
  | met f y =>
    have e:h.get? a=some (PySem.W.methodObj (.ref f) (.ref y)):=x
    show h'.get? a=some (PySem.W.methodObj (.ref f) (.ref y))
    exact k a _ (.inl rfl) e
  | ext φ=>obtain ⟨p,⟨o,e⟩,st⟩:=x;exact ⟨st _ _ p fun o q=>k _ _ (.inl rfl) q,⟨o,k _ _ (.inl rfl) e⟩,st⟩
theorem HOk.lt (x:HOk P w H h) (e:H a=some o):a < h.objs.size:=(x a o e).lt
theorem HOk.fresh (x:HOk P w H h) (e:h.objs.size≤a):H a=none:=by
  cases q:H a with
  | none=>rfl
  | some u=>exact absurd (Nat.lt_of_lt_of_le (x.lt q) e) (Nat.lt_irrefl _)
theorem HOk.kept (x:HOk P w H h) (k:∀ b u,h.get? b=some u→h'.get? b=some u):HOk P w H h':=fun a o e =>
  (x a o e).stay (fun b u _ q=>k b u q) (fun _ q=>q) fun _ _ q=>q
theorem HOk.laid (x:HOk P w H h) (k:∀ b u,h.get? b=some u→h'.get? b=some u) (hp:h.objs.size≤a) (new:ObjOk P w (upd H a o) h' a o):HOk P w (upd H a o) h':=fun b u e=>by
  have hn:=x.fresh hp
  by_cases hb:b=a
  · subst hb;rw [upd_same] at e;cases e;exact new
  · rw [upd_ne hb] at e
    exact (x b u e).stay (fun c v _ q=>k c v q) (fun c q=>by rw [upd_ne (ne_of_none q hn)];exact q) fun c xs q=>by rw [upd_ne (ne_of_none q hn)];exact q
end
def Rd (H:Hp) (a:Addr) (u:HO):Prop:=H a=some u∨∃ o,H a=some (.frz o u)
theorem Rd.of {H:Hp} {a:Addr} {u:HO} (h:H a=some u):Rd H a u:=.inl h
theorem Rd.ok {P:Program} {w:World} {H:Hp} {h:Heap} {a:Addr} {u:HO} (r:Rd H a u) (x:HOk P w H h):ObjOk P w H h a u:=by
  rcases r with r | ⟨o,r⟩
  · exact x a u r
  · obtain ⟨_,q⟩:=x a _ r
    exact q
def Mut:Option HO→Prop
  | some (.lst _)=>True
  | some (.dK _)=>True
  | some (.dT _)=>True
  | some (.set _ _)=>True
  | some (.ins _ _ _)=>True
  | some (.ext _)=>True
  | _=>False
section
variable {P:Program} {w:World} {H:Hp} {h h':Heap} {x e:Addr} {o':HO}
theorem HOk.write (ok:HOk P w H h) (mu:Mut (H x)) (he:e=x∨H e=some (.own x)) (k:∀ b u,b≠e→h.get? b=some u→h'.get? b=some u) (heo:∃ u,h'.get? e=some u)
    (new:ObjOk P w (upd H x o') h' x o'):HOk P w (upd H x o') h':=fun b u q=>by
  have nown:∀ c y,H c=some (.own y)→c≠x:=fun c y r z=>by subst z;rw [r] at mu;exact mu
  have ntup:∀ c xs,H c=some (.tup xs)→c≠x:=fun c xs r z=>by subst z;rw [r] at mu;exact mu
  by_cases hb:b=x
  · subst hb;rw [upd_same] at q;cases q;exact new
  · rw [upd_ne hb] at q
    by_cases hbe:b=e
    · have q':H b=some (.own x):=by
        rcases he with z | z
        · exact absurd (hbe.trans z) hb
        · rw [hbe];exact z
      rw [q] at q';cases q'
      obtain ⟨v,hv⟩:=heo
      exact ⟨v,by rw [hbe];exact hv⟩
    · refine (ok b u q).stay (fun c v hc r=>k c v ?_ r) (fun c r=>by rw [upd_ne (nown c b r)];exact r) fun c xs r=>by rw [upd_ne (ntup c xs r)];exact r
      rcases hc with rfl | hc
      · exact hbe
      · rintro rfl
        rcases he with z | z
        · exact nown c b hc z
        · rw [hc] at z;cases z;exact hb rfl
end
structure Un (fs ex:List Addr) (H H':Hp) (h h':Heap):Prop where
  keep:∀ b o,h.get? b=some o→H b=none→b ∉ fs→b ∉ ex→h'.get? b=some o
  slot:∀ b o,h.get? b=some o→H b=none→b∈fs→b ∉ ex→∃ sl,h'.get? b=some { o with slots:=sl }
  free:∀ b o,h.get? b=some o→H b=none→b ∉ ex→H' b=none
  there:∀ b o,h.get? b=some o→b ∉ ex→∃ o',h'.get? b=some o'
  tups:∀ b xs,H b=some (.tup xs)→H' b=some (.tup xs)
  frzs:∀ b o u,H b=some (.frz o u)→H' b=some (.frz o u)
  tbls:∀ b ps,H b=some (.tbl ps)→∃ more,H' b=some (.tbl (ps++more))
section
variable {fs fs' ex ex':List Addr} {H H1 H2:Hp} {h h1 h2 h':Heap} {a x e:Addr} {o:HO}
theorem Un.any (u:Un fs ex H H1 h h1) {b:Addr} {ob:Obj} (q:h.get? b=some ob) (n:H b=none) (hx:b ∉ ex):∃ sl,h1.get? b=some { ob with slots:=sl }:=by
  by_cases hb:b∈fs
  · exact u.slot b ob q n hb hx
  · exact ⟨ob.slots,u.keep b ob q n hb hx⟩
theorem Un.trans (a:Un fs ex H H1 h h1) (b:Un fs ex H1 H2 h1 h2):Un fs ex H H2 h h2 where
  keep:=fun c ob q n hc hx=>b.keep c ob (a.keep c ob q n hc hx) (a.free c ob q n hx) hc hx
  slot:=fun c ob q n hc hx=>by
    obtain ⟨sl,e1⟩:=a.slot c ob q n hc hx
    obtain ⟨sl',e2⟩:=b.slot c _ e1 (a.free c ob q n hx) hc hx
    exact ⟨sl',e2⟩
  free:=fun c ob q n hx=>by
    obtain ⟨o',e1⟩:=a.there c ob q hx
    exact b.free c o' e1 (a.free c ob q n hx) hx
  there:=fun c ob q hx=>by
    obtain ⟨o',e1⟩:=a.there c ob q hx
    exact b.there c o' e1 hx
  tups:=fun c xs q=>b.tups c xs (a.tups c xs q)
  frzs:=fun c ob xs q=>b.frzs c ob xs (a.frzs c ob xs q)
  tbls:=fun c ps q=>by
    obtain ⟨m1,e1⟩:=a.tbls c ps q
    obtain ⟨m2,e2⟩:=b.tbls c _ e1
    exact ⟨m1++m2,by rw [e2,Array.append_assoc]⟩
theorem Un.kept (k:∀ b u,h.get? b=some u→h'.get? b=some u):Un fs ex H H h h' :=
  ⟨fun b ob q _ _ _=>k b ob q,fun b ob q _ _ _=>⟨ob.slots,k b ob q⟩,fun _ _ _ n _=>n,fun b ob q _=>⟨ob,k b ob q⟩,fun _ _ q=>q,fun _ _ _ q=>q,fun _ ps q=>⟨#[],by rw [q];simp⟩⟩
theorem Un.refl:Un fs ex H H h h:=Un.kept fun _ _ q=>q
theorem Un.laid (k:∀ b u,h.get? b=some u→h'.get? b=some u) (hp:h.objs.size≤a) (hn:H a=none):Un fs ex H (upd H a o) h h' where
  keep:=fun b u q _ _ _=>k b u q
  slot:=fun b u q _ _ _=>⟨u.slots,k b u q⟩
  free:=fun b u q n _=>by rw [upd_ne (Nat.ne_of_lt (Nat.lt_of_lt_of_le (Heap.lt_size q) hp))];exact n
  there:=fun b u q _=>⟨u,k b u q⟩
  tups:=fun b xs q=>by rw [upd_ne (ne_of_none q hn)];exact q
  frzs:=fun b u xs q=>by rw [upd_ne (ne_of_none q hn)];exact q
  tbls:=fun b ps q=>⟨#[],by rw [upd_ne (ne_of_none q hn),q];simp⟩
theorem Un.write (mu:Mut (H x)) (he:e=x∨H e=some (.own x)) (k:∀ b u,b≠e→h.get? b=some u→h'.get? b=some u) (heo:∃ u,h'.get? e=some u):Un fs ex H (upd H x o) h h':=by
  have hx:∀ b,H b=none→b≠x:=fun b n z=>by subst z;rw [n] at mu;exact mu
  have hb:∀ b,H b=none→b≠e:=fun b n z=>by
    subst z
    rcases he with r | r
    · exact hx b n r
    · rw [n] at r;cases r
  have hm:∀ b u,H b=some u→¬ Mut (some u)→b≠x:=fun b u q nm z=>by subst z;rw [q] at mu;exact nm mu
  refine ⟨fun b u q n _ _=>k b u (hb b n) q,fun b u q n _ _=>⟨u.slots,k b u (hb b n) q⟩,fun b u q n _=>by rw [upd_ne (hx b n)];exact n,fun b u q _=>?_,
    fun b xs q=>by rw [upd_ne (hm b _ q fun z=>z)];exact q,fun b u xs q=>by rw [upd_ne (hm b _ q fun z=>z)];exact q,fun b ps q=>⟨#[],by rw [upd_ne (hm b _ q fun z=>z),q];simp⟩⟩
  by_cases hbe:b=e
  · subst hbe;exact heo
  · exact ⟨u,k b u hbe q⟩
theorem Un.mono (u:Un fs ex H H1 h h1) (hs:∀ b∈fs,b∈fs') (hx:∀ b∈ex,b∈ex'):Un fs' ex' H H1 h h1 :=
  ⟨fun b ob q n hb he=>u.keep b ob q n (fun z=>hb (hs b z)) fun z=>he (hx b z),fun _ _ q n _ he=>u.any q n fun z=>he (hx _ z),fun b ob q n he=>u.free b ob q n fun z=>he (hx b z),fun b ob q he=>u.there b ob q fun z=>he (hx b z),u.tups,u.frzs,u.tbls⟩
end
def trk (h:Heap) (H:Hp):List Addr:=(List.range h.objs.size).filter fun a=>(H a).isSome
def hidT (h:Heap) (H:Hp):Heap:=PySem.W.hideAll h (trk h H)
theorem hidT_size (h:Heap) (H:Hp):(hidT h H).objs.size=h.objs.size:=PySem.W.hideAll_size _ _
theorem hidT_get {h:Heap} {H:Hp} {b:Addr} {o:Obj} (e:h.get? b=some o) (n:H b=none):(hidT h H).get? b=some o :=
  PySem.W.hideAll_get _ e fun hm=>by
    have q:(H b).isSome=true:=(List.mem_filter.mp hm).2
    rw [n] at q;simp at q
theorem of_hidT {h:Heap} {H:Hp} {b:Addr} {o:Obj} (e:(hidT h H).get? b=some o):h.get? b=some o∧H b=none:=by
  have e':h.get? b=some o:=PySem.W.of_hideAll (trk h H) e
  refine ⟨e',?_⟩
  cases q:H b with
  | none=>rfl
  | some x =>
    have hm:b∈trk h H:=List.mem_filter.mpr ⟨List.mem_range.mpr (Heap.lt_size e'),by simp [q]⟩
    have z:(hidT h H).get? b=none:=PySem.W.hideAll_none (trk h H) hm
    rw [z] at e;cases e
def allNews (g h:Heap) (L:Addr):List (Addr × Obj):=(List.range h.objs.size).filterMap fun a=>if a=L∨(g.get? a).isSome=true then none else (h.get? a).map fun o=>(a,o)
def rest (g h:Heap) (L d:Addr):List (Addr × Obj):=(allNews g h L).filter fun p=>decide (p.1≠d)
end L2
namespace L2
open PySem PySem.Spec PyProof.Rows
structure Mod (K:PySem.W.Frag) (mg:Str→Option Value) (base:Heap):Prop where
  kin:K.In base
  glob:base.Ns mainGlobals mg
  blt:∃ mb,base.Ns builtinsNs mb∧∀ x:Str,x≠"__name__"→mb x=bootBuiltins x
  nolimit:base.NoLimit
structure Cx where
  prog:Program
  w:World
  K:PySem.W.Frag
  mg:Str→Option Value
  base:Heap
  A:Around
  N:List Str
  s₀:Shared
  H₀:Hp
  env:Env
  outer:List Env
  stack:List Env
  ex:List Addr
  fn:Str→Bool
  calm:Bool
  pn:List (Addr × Obj)
  xe:Value→Shared→Prop
def frs (l:List Env):List Addr:=l.filterMap (·.frame)
abbrev Cx.fs (X:Cx):List Addr:=frs X.outer
def Vis (sc:Scope) (x:Str):Prop:=sc.names.lookup x=some .local∨sc.names.lookup x=some .cell∨sc.names.lookup x=some .free
def Loc (sc:Scope) (x:Str):Prop:=sc.names.lookup x=some .local∨sc.names.lookup x=some .cell
def Look (env:Env) (h:Heap) (m:Str→Option Value) (x:Str) (u:Value):Prop :=
  (env.kindOf x=some .local∧m x=some u)∨((env.kindOf x=some .cell∨env.kindOf x=some .free)∧∃ c,env.cells.lookup x=some c∧h.IsCell c (some u))
structure Cx.Ok (X:Cx):Prop where
  mod:Mod X.K X.mg X.base
  kind:X.env.scope.kind=.function
  glob:X.env.globals=mainGlobals
  blt:X.env.builtins=builtinsNs
  above:X.s₀.heap.objs.size≤X.env.locals
  inj:∀ x y c,X.env.cells.lookup x=some c→X.env.cells.lookup y=some c→x=y
  has:∀ x,(X.env.kindOf x=some .cell∨X.env.kindOf x=some .free)→∃ c,X.env.cells.lookup x=some c
  cab:∀ x c,X.fn x=true→X.env.cells.lookup x=some c→X.s₀.heap.objs.size≤c
  hd:X.calm=true→X.A.handled=none
  frames:X.A.frames=some X.stack
  stk:X.stack=X.outer∨(X.stack=X.env :: X.outer∧X.env.frame=some X.env.locals)
  exf:∀ b∈X.ex,b≠X.env.locals∧∀ x c,X.env.cells.lookup x=some c→c≠b
  bs:∀ b o,X.base.get? b=some o→X.s₀.heap.get? b=some o∧X.H₀ b=none
  bsz:X.base.objs.size≤X.s₀.heap.objs.size
  noex:∀ b o,X.base.get? b=some o→b ∉ X.ex
  exfs:∀ b∈X.ex,b ∉ X.fs
  funs:X.s₀.heap.FunFrames X.base X.outer
  frf:∀ b∈X.fs,X.H₀ b=none
structure Inv (X:Cx) (pins:List (Addr × Obj)) (σ:List (Option V)) (H:Hp) (s:Shared):Prop where
  ok:X.Ok
  os:s.os=X.s₀.os
  bare:AllBare s.gens
  base:Un X.fs X.ex X.H₀ H X.s₀.heap s.heap
  loc:∃ m,s.heap.Ns X.env.locals m∧∀ (i:Nat) (x:Str) (v:V),X.N[i]? = some x→σ[i]? = some (some v)→Vis X.env.scope x→∃ u,RelV v u∧Look X.env s.heap m x u
  cell:∀ x c,X.env.cells.lookup x=some c→∃ v,s.heap.IsCell c v
  free:H X.env.locals=none
  freeC:∀ x c,X.env.cells.lookup x=some c→H c=none
  pin:∀ p∈X.pn++pins,s.heap.get? p.1=some p.2∧H p.1=none∧p.1≠X.env.locals∧p.1 ∉ X.fs∧∀ v,p.2.data≠.cell v
  hok:HOk X.prog X.w H s.heap
  len:σ.length=X.N.length
section
variable {X:Cx} {pins:List (Addr × Obj)} {σ:List (Option V)} {H H':Hp} {s:Shared} {h':Heap}
theorem Cx.Ok.nofr (ok:X.Ok) {b:Addr} {o:Obj} (e:X.base.get? b=some o):b ∉ X.fs:=fun hb=>by
  have:=(ok.funs.mem hb).1
  rw [e] at this;cases this
theorem Inv.bs (I:Inv X pins σ H s):∀ b o,X.base.get? b=some o→s.heap.get? b=some o∧H b=none:=fun b o e =>
  ⟨I.base.keep b o (I.ok.bs b o e).1 (I.ok.bs b o e).2 (I.ok.nofr e) (I.ok.noex b o e),I.base.free b o (I.ok.bs b o e).1 (I.ok.bs b o e).2 (I.ok.noex b o e)⟩
theorem Inv.bk (I:Inv X pins σ H s):∀ b o,X.base.get? b=some o→s.heap.get? b=some o:=fun b o e=>(I.bs b o e).1
theorem Inv.mod (I:Inv X pins σ H s):Mod X.K X.mg X.base:=I.ok.mod
theorem Inv.kIn (I:Inv X pins σ H s):X.K.In s.heap:=I.ok.mod.kin.keeps I.bk
theorem Inv.nolimit (I:Inv X pins σ H s):s.heap.NoLimit:=I.ok.mod.nolimit.keeps I.bk
theorem Inv.fr (I:Inv X pins σ H s):∃ m,Fr X.base X.env.locals s.heap m :=
  let ⟨m,hn,_⟩:=I.loc
  ⟨m,hn,I.bk,Nat.le_trans I.ok.bsz I.ok.above⟩
theorem Inv.lt (I:Inv X pins σ H s):X.env.locals < s.heap.objs.size:=let ⟨_,hn,_⟩:=I.loc;hn.lt
theorem Inv.sz (I:Inv X pins σ H s):X.s₀.heap.objs.size≤s.heap.objs.size:=Nat.le_trans I.ok.above (Nat.le_of_lt I.lt)
theorem Inv.nofs (I:Inv X pins σ H s) {a:Addr} (h:s.heap.objs.size≤a):a ∉ X.fs:=fun hb=>by
  obtain ⟨_,o,ho,_⟩:=I.ok.funs.mem hb
  exact absurd (Nat.lt_of_lt_of_le (Heap.lt_size ho) (Nat.le_trans I.sz h)) (Nat.lt_irrefl _)
theorem Inv.cne (I:Inv X pins σ H s):∀ x c,X.env.cells.lookup x=some c→c≠X.env.locals:=fun x c e z=>by
  obtain ⟨v,o,ho,hd⟩:=I.cell x c e
  obtain ⟨m,⟨o',es,ep,ho',hd',_⟩,_⟩:=I.loc
  rw [z,ho'] at ho;cases ho;rw [hd'] at hd;cases hd
theorem Inv.funs (I:Inv X pins σ H s):s.heap.FunFrames X.base X.outer:=by
  have all:∀ (l:List Env),(∀ b∈frs l,b∈X.fs)→X.s₀.heap.FunFrames X.base l→s.heap.FunFrames X.base l:=by
    intro l
    induction l with
    | nil=>intro _ _;trivial
    | cons env r ih =>
      intro hs hl
      obtain ⟨hk,⟨L,o,hf,hn,ho,hd⟩,hr⟩:=hl
      have hL:L∈X.fs:=hs L (by unfold frs;rw [List.filterMap_cons,hf];exact List.mem_cons_self)
      obtain ⟨sl,e⟩:=I.base.slot L o ho (I.ok.frf L hL) hL fun z=>I.ok.exfs L z hL
      exact ⟨hk,⟨L,_,hf,hn,e,hd⟩,ih (fun b hb=>hs b (by unfold frs;rw [List.filterMap_cons,hf];exact List.mem_cons_of_mem _ hb)) hr⟩
  exact all X.outer (fun _ hb=>hb) I.ok.funs
theorem Inv.stack (I:Inv X pins σ H s):s.heap.FunFrames X.base X.stack:=by
  rcases I.ok.stk with e | ⟨e,hf⟩
  · rw [e];exact I.funs
  · rw [e]
    obtain ⟨m,hn,_⟩:=I.loc
    refine .cons (by rw [I.ok.kind];decide) hf hn ?_ I.funs
    exact Heap.get?_none_of_le (Nat.le_trans I.ok.bsz I.ok.above)
theorem Inv.stkSub (I:Inv X pins σ H s):∀ b∈frs X.stack,b∈X.env.locals :: X.fs:=fun b hb=>by
  rcases I.ok.stk with e | ⟨e,hf⟩
  · rw [e] at hb;exact List.mem_cons_of_mem _ hb
  · rw [e] at hb
    unfold frs at hb
    rw [List.filterMap_cons,hf] at hb
    exact hb
theorem Inv.stkFree (I:Inv X pins σ H s):∀ b∈frs X.stack,H b=none:=fun b hb=>by
  rcases List.mem_cons.mp (I.stkSub b hb) with e | hb
  · rw [e];exact I.free
  · obtain ⟨_,o,ho,_⟩:=I.ok.funs.mem hb
    exact I.base.free b o ho (I.ok.frf b hb) fun z=>I.ok.exfs b z hb
theorem Inv.step {g':Array GenState} {t':Nat} {d':Drawn} {ch:List Addr} (I:Inv X pins σ H s)
    (hch:∀ b∈ch,(b∈X.ex∨X.s₀.heap.objs.size≤b)∧b≠X.env.locals∧(∀ x c,X.env.cells.lookup x=some c→c≠b)∧∀ p∈X.pn++pins,p.1≠b)
    (keep:∀ b o,b≠X.env.locals→b ∉ X.fs→b ∉ ch→s.heap.get? b=some o→H b=none→h'.get? b=some o)
    (slot:∀ b o,b≠X.env.locals→b∈X.fs→b ∉ ch→s.heap.get? b=some o→H b=none→∃ sl,h'.get? b=some { o with slots:=sl }) (free:∀ b o,b ∉ ch→s.heap.get? b=some o→H b=none→H' b=none)
    (there:∀ b o,b ∉ ch→s.heap.get? b=some o→∃ o',h'.get? b=some o')
    (tups:∀ b xs,H b=some (.tup xs)→H' b=some (.tup xs)) (frzs:∀ b o u,H b=some (.frz o u)→H' b=some (.frz o u)) (tbls:∀ b ps,H b=some (.tbl ps)→∃ more,H' b=some (.tbl (ps++more)))
    (ns:∀ m,s.heap.Ns X.env.locals m→h'.Ns X.env.locals m) (hok:HOk X.prog X.w H' h') (hg:AllBare g') :
    Inv X pins σ H' { s with heap:=h',gens:=g',drawn:=d',toks:=t' }:=by
  have neL:∀ b o,X.s₀.heap.get? b=some o→b≠X.env.locals:=fun b o e=>Nat.ne_of_lt (Nat.lt_of_lt_of_le (Heap.lt_size e) I.ok.above)
  have neC:∀ b o,X.s₀.heap.get? b=some o→b ∉ X.ex→b ∉ ch:=fun b o e hx hb=>by
    rcases (hch b hb).1 with z | z
    · exact hx z
    · exact absurd (Nat.lt_of_lt_of_le (Heap.lt_size e) z) (Nat.lt_irrefl _)
  have cellK:∀ x c,X.env.cells.lookup x=some c→∀ v,s.heap.IsCell c v→h'.IsCell c v:=fun x c e v ⟨o,ho,hd⟩=>by
    have nch:c ∉ ch:=fun z=>(hch c z).2.2.1 x c e rfl
    by_cases hc:c∈X.fs
    · obtain ⟨sl,q⟩:=slot c o (I.cne x c e) hc nch ho (I.freeC x c e)
      exact ⟨_,q,hd⟩
    · exact ⟨o,keep c o (I.cne x c e) hc nch ho (I.freeC x c e),hd⟩
  refine ⟨I.ok,I.os,hg,⟨fun b o e n hb hx=>?_,fun b o e n hb hx=>?_,fun b o e n hx=>?_,fun b o e hx=>?_,fun b xs e=>tups b xs (I.base.tups b xs e),fun b o xs e=>frzs b o xs (I.base.frzs b o xs e),fun b ps e=>?_⟩,?_,fun x c e=>?_,?_,fun x c e=>?_,fun p hp=>?_,hok,I.len⟩
  · exact keep b o (neL b o e) hb (neC b o e hx) (I.base.keep b o e n hb hx) (I.base.free b o e n hx)
  · obtain ⟨sl,e1⟩:=I.base.slot b o e n hb hx
    obtain ⟨sl',e2⟩:=slot b _ (neL b o e) hb (neC b o e hx) e1 (I.base.free b o e n hx)
    exact ⟨sl',e2⟩
  · obtain ⟨o',e1⟩:=I.base.there b o e hx
    exact free b o' (neC b o e hx) e1 (I.base.free b o e n hx)
  · obtain ⟨o',e1⟩:=I.base.there b o e hx
    exact there b o' (neC b o e hx) e1
  · obtain ⟨m1,e1⟩:=I.base.tbls b ps e
    obtain ⟨m2,e2⟩:=tbls b _ e1
    exact ⟨m1++m2,by rw [e2,Array.append_assoc]⟩
  · obtain ⟨m,hn,hl⟩:=I.loc
    refine ⟨m,ns m hn,fun i x v e1 e2 e3=>?_⟩
    obtain ⟨u,r,l⟩:=hl i x v e1 e2 e3
    refine ⟨u,r,?_⟩
    rcases l with l | ⟨k,c,e,z⟩
    · exact .inl l
    · exact .inr ⟨k,c,e,cellK x c e _ z⟩
  · obtain ⟨v,z⟩:=I.cell x c e
    exact ⟨v,cellK x c e v z⟩
  · obtain ⟨m,⟨o,_,_,ho,_⟩,_⟩:=I.loc
    exact free _ o (fun z=>(hch _ z).2.1 rfl) ho I.free
  · obtain ⟨v,o,ho,hd⟩:=I.cell x c e
    exact free c o (fun z=>(hch c z).2.2.1 x c e rfl) ho (I.freeC x c e)
  · obtain ⟨e,n,ne,nf,d⟩:=I.pin p hp
    have nch:p.1 ∉ ch:=fun z=>(hch p.1 z).2.2.2 p hp rfl
    exact ⟨keep p.1 p.2 ne nf nch e n,free p.1 p.2 nch e n,ne,nf,d⟩
theorem Inv.un {t':Nat} (I:Inv X pins σ H s) (u:Un X.fs [] H H' s.heap h') (hok:HOk X.prog X.w H' h'):Inv X pins σ H' { s with heap:=h',toks:=t' }:=by
  obtain ⟨m,⟨o,es,ep,ho,r⟩,_⟩:=id I.loc
  obtain ⟨sl,hL⟩:=u.any ho I.free (by simp)
  exact I.step (g':=s.gens) (d':=s.drawn) (ch:=[]) (fun _ z=>nomatch z) (fun b o _ hb _ e n=>u.keep b o e n hb (by simp)) (fun b o _ hb _ e n=>u.slot b o e n hb (by simp)) (fun b o _ e n=>u.free b o e n (by simp)) (fun b o _ e=>u.there b o e (by simp)) u.tups u.frzs u.tbls (fun m' hm=>by
    obtain ⟨o',es',ep',ho',r'⟩:=hm
    rw [ho] at ho';cases ho'
    exact ⟨_,es',ep',hL,r'⟩) hok I.bare
theorem Inv.call {g':Array GenState} {t':Nat} {d':Drawn} {ch:List Addr} (I:Inv X pins σ H s) (u:Un (frs X.stack) ch H H' s.heap h') (hok:HOk X.prog X.w H' h') (hg:AllBare g')
    (hch:∀ b∈ch,(b∈X.ex∨X.s₀.heap.objs.size≤b)∧b≠X.env.locals∧(∀ x c,X.env.cells.lookup x=some c→c≠b)∧∀ p∈X.pn++pins,p.1≠b) :
    Inv X pins σ H' { s with heap:=h',gens:=g',drawn:=d',toks:=t' }:=by
  obtain ⟨m,⟨o,es,ep,ho,r⟩,_⟩:=id I.loc
  obtain ⟨sl,hL⟩:=u.any ho I.free fun z=>(hch _ z).2.1 rfl
  exact I.step (ch:=ch) hch (fun b o hL hb hc e n=>u.keep b o e n (fun z=>(List.mem_cons.mp (I.stkSub b z)).elim hL hb) hc) (fun b o _ _ hc e n=>u.any e n hc) (fun b o hc e n=>u.free b o e n hc) (fun b o hc e=>u.there b o e hc) u.tups u.frzs u.tbls (fun m' hm=>by
    obtain ⟨o',es',ep',ho',r'⟩:=hm
    rw [ho] at ho';cases ho'
    exact ⟨_,es',ep',hL,r'⟩) hok hg
theorem Inv.turned {t':Nat} {it:Addr} (I:Inv X pins σ H s) (k:∀ b o,b≠it→s.heap.get? b=some o→h'.get? b=some o) (hn:H it=none) (hL:it≠X.env.locals)
    (h1:it∈X.ex∨X.s₀.heap.objs.size≤it) (h2:∀ x c,X.env.cells.lookup x=some c→c≠it) (h3:∀ p∈X.pn++pins,p.1≠it):Inv X pins σ H { s with heap:=h',toks:=t' }:=by
  have nit:∀ b u,H b=some u→b≠it:=fun b u e z=>by rw [z,hn] at e;cases e
  refine I.step (g':=s.gens) (d':=s.drawn) (ch:=[it]) (fun b hb=>?_) (fun b o _ _ hc e _=>k b o (fun z=>hc (by simp [z])) e) (fun b o _ _ hc e _=>⟨o.slots,k b o (fun z=>hc (by simp [z])) e⟩) (fun _ _ _ _ n=>n)
    (fun b o hc e=>⟨o,k b o (fun z=>hc (by simp [z])) e⟩) (fun _ _ e=>e) (fun _ _ _ e=>e) (fun b ps e=>⟨#[],by rw [e];simp⟩) (fun m hm=>?_) (fun b u e=>?_) I.bare
  · have e:b=it:=by simpa using hb
    subst e
    exact ⟨h1,hL,h2,h3⟩
  · obtain ⟨o,es,ep,ho,r⟩:=hm
    exact ⟨o,es,ep,k _ o (Ne.symm hL) ho,r⟩
  · refine (I.hok b u e).stay (fun c v hc q=>k c v ?_ q) (fun _ q=>q) fun _ _ q=>q
    rcases hc with z | z
    · rw [z];exact nit b u e
    · exact nit c _ z
theorem Inv.tok (I:Inv X pins σ H s) (t:Nat):Inv X pins σ H { s with toks:=t }:=I.un (h':=s.heap) (t':=t) Un.refl I.hok
theorem Inv.kept {t':Nat} (I:Inv X pins σ H s) (k:∀ b u,s.heap.get? b=some u→h'.get? b=some u):Inv X pins σ H { s with heap:=h',toks:=t' }:=I.un (Un.kept k) (I.hok.kept k)
theorem Inv.laid {a:Addr} {o:HO} {t':Nat} (I:Inv X pins σ H s) (k:∀ b u,s.heap.get? b=some u→h'.get? b=some u) (hp:s.heap.objs.size≤a) (new:ObjOk X.prog X.w (upd H a o) h' a o) :
    Inv X pins σ (upd H a o) { s with heap:=h',toks:=t' }:=I.un (Un.laid k hp (I.hok.fresh hp)) (I.hok.laid k hp new)
theorem Inv.write {x e:Addr} {o:HO} {t':Nat} (I:Inv X pins σ H s) (mu:Mut (H x)) (he:e=x∨H e=some (.own x)) (k:∀ b u,b≠e→s.heap.get? b=some u→h'.get? b=some u) (heo:∃ u,h'.get? e=some u)
    (new:ObjOk X.prog X.w (upd H x o) h' x o):Inv X pins σ (upd H x o) { s with heap:=h',toks:=t' }:=I.un (Un.write mu he k heo) (I.hok.write mu he k heo new)
theorem Inv.pins_of {pins':List (Addr × Obj)} (I:Inv X pins σ H s) (h:∀ p∈pins',s.heap.get? p.1=some p.2∧H p.1=none∧p.1≠X.env.locals∧p.1 ∉ X.fs∧∀ v,p.2.data≠.cell v):Inv X pins' σ H s :=
  ⟨I.ok,I.os,I.bare,I.base,I.loc,I.cell,I.free,I.freeC,fun p hp=>(List.mem_append.mp hp).elim (fun z=>I.pin p (List.mem_append_left _ z)) (h p),I.hok,I.len⟩
theorem nodup_ix {N:List Str} (hN:N.Nodup) {i j:Nat} {x:Str} (a:N[i]? = some x) (b:N[j]? = some x):i=j:=by
  obtain ⟨h1,e1⟩:=List.getElem?_eq_some_iff.mp a
  obtain ⟨h2,e2⟩:=List.getElem?_eq_some_iff.mp b
  exact (List.getElem_inj hN).mp (e1.trans e2.symm)
theorem store_ok2 {M:Model} {A:Around} {E:Value→Shared→Prop} {i:Nat} {x:Str} {v:V} {u:Value} {Q:Unit→Shared→Prop} (I:Inv X pins σ H s) (hN:X.N.Nodup) (hi:X.N[i]? = some x) (hx:Loc X.env.scope x) (r:RelV v u)
    (h:∀ s',Inv X pins (σ.set i (some v)) H s'→(∃ a,Heap.SameBut a s.heap s'.heap∧(a=X.env.locals∨X.env.cells.lookup x=some a))→Q () s') (hf:X.fn x=true∨X.env.scope.names.lookup x=some .local:=by first | exact .inl rfl | exact .inr rfl | assumption):wpAny M A (storeName X.env x u) Q E s:=by
  obtain ⟨m,hn,hl⟩:=id I.loc
  have hcls:(X.env.scope.kind == .class || (X.env.scope.kind == .module && X.env.locals != X.env.globals))=false:=by rw [I.ok.kind];rfl
  have hiσ:i < σ.length:=by rw [I.len];exact (List.getElem?_eq_some_iff.mp hi).1
  have cne:=I.cne
  have tracked:∀ {a:Addr} {h':Heap},(∃ o,s.heap.get? a=some o∧H a=none)→Heap.SameBut a s.heap h'→HOk X.prog X.w H h':=fun {a h'} ha hs b ob e=>by
    obtain ⟨_,_,hfree⟩:=ha
    refine (I.hok b ob e).stay (fun c w' hc q=>(hs.2 c ?_).trans q) (fun _ q=>q) fun _ _ q=>q
    rintro rfl
    rcases hc with rfl | hc
    · rw [hfree] at e;cases e
    · rw [hfree] at hc;cases hc
  rcases hx with hk | hk
  · refine wpAny_storeName_local hk hn (fun h' hn' hs=>?_) hcls
    obtain ⟨oL,_,_,hoL,_⟩:=id hn
    refine h _ ⟨I.ok,I.os,I.bare,⟨fun b o e n hb hx=>?_,fun b o e n hb hx=>?_,I.base.free,fun b o e hx=>?_,I.base.tups,I.base.frzs,I.base.tbls⟩,⟨_,hn',fun j y v' e1 e2 e3=>?_⟩,fun y c e=>?_,I.free,I.freeC,fun p hp=>?_,tracked ⟨oL,hoL,I.free⟩ hs,by simpa using I.len⟩ ⟨_,hs,.inl rfl⟩
    · exact (hs.2 b (Nat.ne_of_lt (Nat.lt_of_lt_of_le (Heap.lt_size e) I.ok.above))).trans (I.base.keep b o e n hb hx)
    · obtain ⟨sl,e1⟩:=I.base.slot b o e n hb hx
      exact ⟨sl,(hs.2 b (Nat.ne_of_lt (Nat.lt_of_lt_of_le (Heap.lt_size e) I.ok.above))).trans e1⟩
    · obtain ⟨o',e1⟩:=I.base.there b o e hx
      exact ⟨o',(hs.2 b (Nat.ne_of_lt (Nat.lt_of_lt_of_le (Heap.lt_size e) I.ok.above))).trans e1⟩
    · by_cases hj:j=i
      · subst hj
        rw [hi] at e1;cases e1
        rw [List.getElem?_set_self hiσ] at e2
        cases e2
        exact ⟨u,r,.inl ⟨hk,by simp⟩⟩
      · rw [List.getElem?_set_ne (Ne.symm hj)] at e2
        obtain ⟨u',r',q⟩:=hl j y v' e1 e2 e3
        refine ⟨u',r',?_⟩
        rcases q with ⟨k,e⟩ | ⟨k,c,e,z⟩
        · refine .inl ⟨k,?_⟩
          have:y≠x:=fun e=>hj (nodup_ix hN e1 (e ▸ hi))
          simp [this,e]
        · exact .inr ⟨k,c,e,z.sameBut hs (cne y c e)⟩
    · obtain ⟨w',z⟩:=I.cell y c e
      exact ⟨w',z.sameBut hs (cne y c e)⟩
    · obtain ⟨e,n,ne,nf,d⟩:=I.pin p hp
      exact ⟨(hs.2 p.1 ne).trans e,n,ne,nf,d⟩
  · have hfn:X.fn x=true:=by
      rcases hf with z | z
      · exact z
      · rw [z] at hk;cases hk
    obtain ⟨c,hc⟩:=I.ok.has x (.inl hk)
    obtain ⟨w',z⟩:=I.cell x c hc
    refine wpAny_storeName_cell I.ok.kind hk hc z (fun h' hc' hs=>?_)
    obtain ⟨oc,hoc,hocd⟩:=id z
    refine h { s with heap:=h' } ⟨I.ok,I.os,I.bare,⟨fun b o e n hb hx=>?_,fun b o e n hb hx=>?_,I.base.free,fun b o e hx=>?_,I.base.tups,I.base.frzs,I.base.tbls⟩,⟨m,hn.sameBut hs (Ne.symm (cne x c hc)),fun j y v' e1 e2 e3=>?_⟩,fun y c' e=>?_,I.free,I.freeC,fun p hp=>?_,tracked ⟨oc,hoc,I.freeC x c hc⟩ hs,by simpa using I.len⟩ ⟨c,hs,.inr hc⟩
    · exact (hs.2 b (Nat.ne_of_lt (Nat.lt_of_lt_of_le (Heap.lt_size e) (I.ok.cab x c hfn hc)))).trans (I.base.keep b o e n hb hx)
    · obtain ⟨sl,e1⟩:=I.base.slot b o e n hb hx
      exact ⟨sl,(hs.2 b (Nat.ne_of_lt (Nat.lt_of_lt_of_le (Heap.lt_size e) (I.ok.cab x c hfn hc)))).trans e1⟩
    · obtain ⟨o',e1⟩:=I.base.there b o e hx
      exact ⟨o',(hs.2 b (Nat.ne_of_lt (Nat.lt_of_lt_of_le (Heap.lt_size e) (I.ok.cab x c hfn hc)))).trans e1⟩
    · by_cases hj:j=i
      · subst hj
        rw [hi] at e1;cases e1
        rw [List.getElem?_set_self hiσ] at e2
        cases e2
        exact ⟨u,r,.inr ⟨.inl hk,c,hc,hc'⟩⟩
      · rw [List.getElem?_set_ne (Ne.symm hj)] at e2
        obtain ⟨u',r',q⟩:=hl j y v' e1 e2 e3
        refine ⟨u',r',?_⟩
        rcases q with q | ⟨k,c',e,z'⟩
        · exact .inl q
        · refine .inr ⟨k,c',e,z'.sameBut hs ?_⟩
          rintro rfl
          exact hj (nodup_ix hN e1 (I.ok.inj _ _ _ e hc ▸ hi))
    · by_cases hcc:c'=c
      · subst hcc;exact ⟨_,hc'⟩
      · obtain ⟨w2,z2⟩:=I.cell y c' e
        exact ⟨w2,z2.sameBut hs hcc⟩
    · obtain ⟨e,n,ne,nf,d⟩:=I.pin p hp
      refine ⟨(hs.2 p.1 ?_).trans e,n,ne,nf,d⟩
      intro q
      rw [q,hoc] at e
      have q':oc=p.2:=Option.some.inj e
      exact d w' (by rw [← q'];exact hocd)
theorem store_ok {M:Model} {A:Around} {E:Value→Shared→Prop} {i:Nat} {x:Str} {v:V} {u:Value} {Q:Unit→Shared→Prop} (I:Inv X pins σ H s) (hN:X.N.Nodup) (hi:X.N[i]? = some x) (hx:Loc X.env.scope x) (r:RelV v u)
    (h:∀ s',Inv X pins (σ.set i (some v)) H s'→Q () s') (hf:X.fn x=true∨X.env.scope.names.lookup x=some .local:=by first | exact .inl rfl | exact .inr rfl | assumption):wpAny M A (storeName X.env x u) Q E s :=
  store_ok2 I hN hi hx r (fun s' I' _=>h s' I') hf
theorem Inv.call' {s':Shared} {ch:List Addr} (I:Inv X pins σ H s) (ho:s'.os=s.os) (u:Un (frs X.stack) ch H H' s.heap s'.heap) (hok:HOk X.prog X.w H' s'.heap) (hg:AllBare s'.gens)
    (hch:∀ b∈ch,(b∈X.ex∨X.s₀.heap.objs.size≤b)∧b≠X.env.locals∧(∀ x c,X.env.cells.lookup x=some c→c≠b)∧∀ p∈X.pn++pins,p.1≠b):Inv X pins σ H' s':=by
  obtain ⟨h',g',d',t',o'⟩:=s'
  have e:o'=s.os:=ho
  subst e
  exact I.call (g':=g') (t':=t') (d':=d') u hok hg hch
end
abbrev XK:=Value→Option Addr→Hp→Prop
abbrev St:=List (Option V)
abbrev VK:=V→Hp→Prop
abbrev TE:=St→Hp→VK→Prop
abbrev TT:=St→Hp→(Bool→Hp→Prop)→Prop
abbrev TA:=St→Hp→(List V→Hp→Prop)→Prop
structure Ends where
  nx:St→Hp→Prop
  rt:VK
  bk:St→Hp→Prop:=fun _ _=>False
  ct:St→Hp→Prop:=fun _ _=>False
abbrev TS:=Ends→St→Hp→Prop
def EP (X:Cx) (pins:List (Addr × Obj)) (σ:St) (Q:VK) (u:Value) (s':Shared):Prop:=∃ v H',Inv X pins σ H' s'∧RelV v u∧Q v H'
def TP (X:Cx) (pins:List (Addr × Obj)) (σ:St) (Q:Bool→Hp→Prop) (b:Bool) (s':Shared):Prop:=∃ H',Inv X pins σ H' s'∧Q b H'
def AP (X:Cx) (pins:List (Addr × Obj)) (σ:St) (Q:List V→Hp→Prop) (us:List Value) (s':Shared):Prop:=∃ vs H',Inv X pins σ H' s'∧Vals vs us∧Q vs H'
def SP (X:Cx) (pins:List (Addr × Obj)) (D:Ends) (f:Flow) (s':Shared):Prop :=
  match f with
  | .next=>∃ σ' H',Inv X pins σ' H' s'∧D.nx σ' H'
  | .brk=>∃ σ' H',Inv X pins σ' H' s'∧D.bk σ' H'
  | .cont=>∃ σ' H',Inv X pins σ' H' s'∧D.ct σ' H'
  | .ret u=>∃ v σ' H',Inv X pins σ' H' s'∧RelV v u∧D.rt v H'
def PE (X:Cx) (e:Expr) (t:TE):Prop :=
  ∀ (pins:List (Addr × Obj)) (s:Shared) (σ:St) (H:Hp) (Q:VK),Inv X pins σ H s→t σ H Q→wpAny (model X.prog X.w) X.A (eval e X.env) (EP X pins σ Q) X.xe s
def PT (X:Cx) (e:Expr) (t:TT):Prop :=
  ∀ (pins:List (Addr × Obj)) (s:Shared) (σ:St) (H:Hp) (Q:Bool→Hp→Prop),Inv X pins σ H s→t σ H Q→wpAny (model X.prog X.w) X.A (isTrue e X.env (eval e X.env)) (TP X pins σ Q) X.xe s
def PW (X:Cx) (e:Expr) (t:TT):Prop :=
  ∀ (whole:Sem Value) (pins:List (Addr × Obj)) (s:Shared) (σ:St) (H:Hp) (Q:Bool→Hp→Prop),Inv X pins σ H s→t σ H Q→wpAny (model X.prog X.w) X.A (isTrue e X.env whole) (TP X pins σ Q) X.xe s
theorem PW.pt {X:Cx} {e:Expr} {t:TT} (h:PW X e t):PT X e t:=h _
def PA (X:Cx) (es:List Expr) (t:TA):Prop :=
  ∀ (pos:Pos) (pins:List (Addr × Obj)) (s:Shared) (σ:St) (H:Hp) (Q:List V→Hp→Prop),Inv X pins σ H s→t σ H Q→wpAny (model X.prog X.w) X.A (spliced (backTo pos (starEach es X.env))) (AP X pins σ Q) X.xe s
def PS (X:Cx) (st:Stmt) (t:TS):Prop :=
  ∀ (pins:List (Addr × Obj)) (s:Shared) (σ:St) (H:Hp) (D:Ends),Inv X pins σ H s→t D σ H→wpAny (model X.prog X.w) X.A (exec st X.env) (SP X pins D) X.xe s
def PSs (X:Cx) (st:List Stmt) (t:TS):Prop :=
  ∀ (pins:List (Addr × Obj)) (s:Shared) (σ:St) (H:Hp) (D:Ends),Inv X pins σ H s→t D σ H→wpAny (model X.prog X.w) X.A (execs st X.env) (SP X pins D) X.xe s
theorem thn {α:Type} {t:Sem α} {Q Q':α→Shared→Prop} {M:Model} {A:Around} {E:Value→Shared→Prop} {s:Shared} (h:wpAny M A t Q E s) (hQ:∀ a s,Q a s→Q' a s):wpAny M A t Q' E s:=wpAny_mono h hQ fun _ _ x=>x
end L2
namespace L2
open PySem PySem.Spec PyProof.Rows
section
variable {X:Cx}
def tVar (i:Nat):TE:=fun σ H Q=>∃ v,σ[i]? = some (some v)∧Q v H
def tC (v:V):TE:=fun _ H Q=>Q v H
theorem pe_var {i:Nat} {x:Str} {pos:Pos} (hN:X.N[i]? = some x) (hv:Vis X.env.scope x) (hd:(x == ("__debug__" : Str))=false:=by decide) (hcd:(x == ("__classdict__" : Str))=false:=by decide):PE X (.Name x pos) (tVar i):=by
  intro pins s σ H Q I h
  obtain ⟨v,e,h⟩:=h
  obtain ⟨m,hn,hl⟩:=I.loc
  obtain ⟨u,r,l⟩:=hl i x v hN e hv
  have fin:EP X pins σ Q u s:=⟨v,H,I,r,h⟩
  rcases l with ⟨hk,hm⟩ | ⟨hk,c,hc,hcell⟩
  · exact wpAny_Name (wpAny_loadName_local I.ok.kind hk hn hm fin) hd
  · rcases hk with hk | hk
    · exact wpAny_Name (wpAny_loadName_cell I.ok.kind hk hc hcell fin) hd
    · exact wpAny_Name (wpAny_loadName_free I.ok.kind hk hc hcell fin hcd) hd
theorem pe_int {i j pos}:PE X (.Constant (.int i) j pos) (tC (.int i)):=fun _ _ _ H _ I h=>wpAny_Constant_int ⟨.int i,H,I.tok _,⟨_,rfl⟩,h⟩
theorem pe_bl {b j pos}:PE X (.Constant (.bool b) j pos) (tC (.bl b)):=fun _ _ _ H _ I h=>Constant_bool ⟨.bl b,H,I,rfl,h⟩
theorem pe_str {x j pos}:PE X (.Constant (.str x) j pos) (tC (.str x)):=fun _ _ _ H _ I h=>Calls.Constant_str ⟨.str x,H,I.tok _,⟨_,rfl⟩,h⟩
def Gl (X:Cx) (x:Str):Prop:=X.env.kindOf x=some .globalImplicit
theorem ld_glob {E:Value→Shared→Prop} {pins:List (Addr × Obj)} {s:Shared} {σ:St} {H:Hp} {x:Str} {u:Value} {pos:Pos} {Q:Value→Shared→Prop} (I:Inv X pins σ H s) (hg:Gl X x) (hm:X.mg x=some u) (h:Q u s)
    (hd:(x == ("__debug__" : Str))=false:=by decide):wpAny (model X.prog X.w) X.A (eval (.Name x pos) X.env) Q E s :=
  Calls.Name_function_global I.ok.kind hg (Calls.loadGlobal_global (by rw [I.ok.glob];exact I.mod.glob.keeps I.bk) hm h) hd
theorem ld_blt {E:Value→Shared→Prop} {pins:List (Addr × Obj)} {s:Shared} {σ:St} {H:Hp} {x:Str} {u:Value} {pos:Pos} {Q:Value→Shared→Prop} (I:Inv X pins σ H s) (hg:Gl X x) (hm:X.mg x=none) (hv:bootBuiltins x=some u) (h:Q u s)
    (hn:x≠"__name__":=by decide) (hd:(x == ("__debug__" : Str))=false:=by decide):wpAny (model X.prog X.w) X.A (eval (.Name x pos) X.env) Q E s:=by
  obtain ⟨mb,h1,h2⟩:=I.mod.blt
  exact Calls.Name_function_global I.ok.kind hg (Calls.loadGlobal_builtin (by rw [I.ok.glob];exact I.mod.glob.keeps I.bk) hm (by rw [I.ok.blt];exact h1.keeps I.bk) ((h2 x hn).trans hv) h) hd
theorem pe_glob {x:Str} {v:V} {u:Value} {pos:Pos} (hg:Gl X x) (hm:X.mg x=some u) (r:RelV v u) (hd:(x == ("__debug__" : Str))=false:=by decide):PE X (.Name x pos) (tC v) :=
  fun _ _ _ H _ I h=>ld_glob I hg hm ⟨v,H,I,r,h⟩ hd
theorem pe_bltn {x:Str} {v:V} {u:Value} {pos:Pos} (hg:Gl X x) (hm:X.mg x=none) (hv:bootBuiltins x=some u) (r:RelV v u) (hn:x≠"__name__":=by decide) (hd:(x == ("__debug__" : Str))=false:=by decide):PE X (.Name x pos) (tC v) :=
  fun _ _ _ H _ I h=>ld_blt I hg hm hv ⟨v,H,I,r,h⟩ hn hd
variable {a b:Expr} {ta tb:TE} {pos:Pos}
def tB (t:TE):TT:=fun σ H Q=>t σ H fun x H1=>∃ c,x=.bl c∧Q c H1
theorem pt_val {e:Expr} {t:TE} (h:PE X e t) (he:∀ whole,isTrue e X.env whole=(do let v ← whole;standAt e.pos;holding [v] (truthy v)):=by intro _;rfl):PT X e (tB t):=by
  intro pins s σ H Q I hw
  refine isTrue_plain (thn (h pins s σ H _ I hw) fun v s1 ⟨x,H1,I1,r1,q1⟩=>?_) (he _)
  obtain ⟨d,rfl,q⟩:=q1
  cases r1
  exact wpAny_truthy_bool ⟨H1,I1,q⟩
variable {tA tB':TT} {rest:List Expr}
def tAnd (t u:TT):TT:=fun σ H Q=>t σ H fun c H1=>if c=true then u σ H1 Q else Q false H1
def tOr (t u:TT):TT:=fun σ H Q=>t σ H fun c H1=>if c=true then Q true H1 else u σ H1 Q
def tNot (t:TT):TT:=fun σ H Q=>t σ H fun c H1=>Q (!c) H1
theorem pw_and1 (ha:PT X a tA):PW X (.BoolOp .And [a] pos) tA:=by
  intro wh pins s σ H Q I h
  refine isTrue_and (thn (ha pins s σ H Q I h) fun c s1 e=>?_)
  cases c with
  | true=>exact isTrue_and_nil e
  | false=>exact e
theorem pw_or1 (ha:PT X a tA):PW X (.BoolOp .Or [a] pos) tA:=by
  intro wh pins s σ H Q I h
  refine isTrue_or (thn (ha pins s σ H Q I h) fun c s1 e=>?_)
  cases c with
  | false=>exact isTrue_or_nil e
  | true=>exact e
theorem pw_and (ha:PT X a tA) (hb:PW X (.BoolOp .And (b :: rest) pos) tB'):PW X (.BoolOp .And (a :: b :: rest) pos) (tAnd tA tB'):=by
  intro wh pins s σ H Q I h
  refine isTrue_and (thn (ha pins s σ H _ I h) fun c s1 ⟨H1,I1,q1⟩=>?_)
  cases c with
  | true=>exact hb wh pins s1 σ H1 Q I1 q1
  | false=>exact ⟨H1,I1,q1⟩
theorem pw_or (ha:PT X a tA) (hb:PW X (.BoolOp .Or (b :: rest) pos) tB'):PW X (.BoolOp .Or (a :: b :: rest) pos) (tOr tA tB'):=by
  intro wh pins s σ H Q I h
  refine isTrue_or (thn (ha pins s σ H _ I h) fun c s1 ⟨H1,I1,q1⟩=>?_)
  cases c with
  | true=>exact ⟨H1,I1,q1⟩
  | false=>exact hb wh pins s1 σ H1 Q I1 q1
theorem pt_not (ha:PT X a tA):PT X (.UnaryOp .Not a pos) (tNot tA):=by
  intro pins s σ H Q I h
  exact isTrue_not (ha pins s σ H (fun c H1=>Q (!c) H1) I h)
def tAndV (ta tb:TE):TE:=fun σ H Q=>ta σ H fun x H1=>∃ c,x=.bl c∧if c=true then tb σ H1 Q else Q (.bl false) H1
def tNotV (ta:TE):TE:=fun σ H Q=>ta σ H fun x H1=>∃ c,x=.bl c∧Q (.bl (!c)) H1
theorem pe_one {op} {t:TE} (h:PE X a t):PE X (.BoolOp op [a] pos) t:=fun pins s σ H Q I hw=>BoolOp_one (h pins s σ H Q I hw)
theorem pe_and (ha:PE X a ta) (hb:PE X (.BoolOp .And (b :: rest) pos) tb):PE X (.BoolOp .And (a :: b :: rest) pos) (tAndV ta tb):=by
  intro pins s σ H Q I h
  refine BoolOp_and (thn (ha pins s σ H _ I h) fun v s1 ⟨x,H1,I1,r1,q1⟩=>?_)
  obtain ⟨c,rfl,q1⟩:=q1
  cases r1
  refine wpAny_truthy_bool ?_
  cases c with
  | true=>exact hb pins s1 σ H1 Q I1 q1
  | false=>exact ⟨.bl false,H1,I1,rfl,q1⟩
theorem pe_not (ha:PE X a ta):PE X (.UnaryOp .Not a pos) (tNotV ta):=by
  intro pins s σ H Q I h
  refine UnaryOp_ (thn (ha pins s σ H _ I h) fun v s1 ⟨x,H1,I1,r1,q1⟩=>?_)
  obtain ⟨c,rfl,q1⟩:=q1
  cases r1
  exact not_of (wpAny_truthy_bool ⟨.bl (!c),H1,I1,rfl,q1⟩)
end
end L2
namespace L2
open PySem PySem.Spec PyProof.Rows
def SqL (K:PySem.W.Frag) (H:Hp) (a:Addr) (xs:List V):Prop :=
  Rd H a (.lst xs) ∨
    ∃ (o:Obj) (its:Array Value) (n:Nat),K.lookup a=some o∧o.cls=.type "list"∧o.dict=none∧o.data=.seq its n∧its.size≤sizeLine∧Vals xs its.toList
def SqT (K:PySem.W.Frag) (H:Hp) (a:Addr) (xs:List V):Prop :=
  Rd H a (.tup xs) ∨
    ∃ (o:Obj) (its:Array Value) (n:Nat),K.lookup a=some o∧o.cls=.type "tuple"∧o.data=.seq its n∧its.size≤sizeLine∧Vals xs its.toList
def absV:Value→Option V
  | .none=>some .non
  | .bool b=>some (.bl b)
  | .int i _=>some (.int i)
  | .str x _=>some (.str x)
  | .bytes b _=>some (.byt b)
  | .float b _=>some (.flt b)
  | .ref a=>some (.ref a)
  | .type n=>some (.ty n)
  | _=>none
theorem RelV.abs {x:V} {u:Value} (r:RelV x u):absV u=some x:=by
  cases x with
  | non=>cases r;rfl
  | bl _=>cases r;rfl
  | int _=>obtain ⟨t,rfl⟩:=r;rfl
  | str _=>obtain ⟨t,rfl⟩:=r;rfl
  | byt _=>obtain ⟨t,rfl⟩:=r;rfl
  | flt _=>obtain ⟨t,rfl⟩:=r;rfl
  | ref _=>cases r;rfl
  | ty _=>cases r;rfl
theorem RelV.inj {x y:V} {u:Value} (r:RelV x u) (q:RelV y u):x=y:=Option.some.inj (r.abs.symm.trans q.abs)
theorem Vals.inj:∀ {xs ys:List V} {us:List Value},Vals xs us→Vals ys us→xs=ys
  | _,_,_,.nil,.nil=>rfl
  | _,_,_,.cons r t,.cons r' t'=>by rw [r.inj r',Vals.inj t t']
section
variable {X:Cx} {pins:List (Addr × Obj)} {σ:St} {H:Hp} {s:Shared} {a:Addr} {xs ys:List V}
theorem SqL.of {K:PySem.W.Frag} (h:H a=some (.lst xs)):SqL K H a xs:=.inl (.inl h)
theorem SqT.of {K:PySem.W.Frag} (h:H a=some (.tup xs)):SqT K H a xs:=.inl (.inl h)
theorem Inv.list (I:Inv X pins σ H s) (h:SqL X.K H a xs):∃ its:List Value,Vals xs its∧PlainL s.heap a its.toArray∧xs.length≤sizeLine:=by
  rcases h with h | ⟨o,its,n,hk,hc,hd,hs,hz,r⟩
  · obtain ⟨z,its,n,r,e⟩:=h.ok I.hok
    exact ⟨its,r,⟨_,n,e,rfl,rfl,rfl⟩,z⟩
  · refine ⟨its.toList,r,⟨o,n,I.kIn a o hk,hc,hd,by simpa using hs⟩,?_⟩
    have e:=r.length
    simp only [Array.length_toList] at e
    omega
theorem Inv.tuple (I:Inv X pins σ H s) (h:SqT X.K H a xs):∃ its:List Value,Vals xs its∧IsTup s.heap a its.toArray∧xs.length≤sizeLine:=by
  rcases h with h | ⟨o,its,n,hk,hc,hs,hz,r⟩
  · obtain ⟨z,its,r,p,_⟩:=h.ok I.hok
    exact ⟨its,r,p,z⟩
  · refine ⟨its.toList,r,⟨o,I.kIn a o hk,hc,n,by simpa using hs⟩,?_⟩
    have e:=r.length
    simp only [Array.length_toList] at e
    omega
theorem Inv.list_inj (I:Inv X pins σ H s) (h:SqL X.K H a xs) (h':SqL X.K H a ys):xs=ys:=by
  obtain ⟨its,r,⟨o,n,e,_,_,d⟩,_⟩:=I.list h
  obtain ⟨its',r',⟨o',n',e',_,_,d'⟩,_⟩:=I.list h'
  rw [e] at e';cases e'
  rw [d] at d'
  injection d' with d1 _
  have:its=its':=by simpa using congrArg Array.toList d1
  subst this
  exact r.inj r'
theorem Inv.tuple_inj (I:Inv X pins σ H s) (h:SqT X.K H a xs) (h':SqT X.K H a ys):xs=ys:=by
  obtain ⟨its,r,⟨o,e,_,n,d⟩,_⟩:=I.tuple h
  obtain ⟨its',r',⟨o',e',_,n',d'⟩,_⟩:=I.tuple h'
  rw [e] at e';cases e'
  rw [d] at d'
  injection d' with d1 _
  have:its=its':=by simpa using congrArg Array.toList d1
  subst this
  exact r.inj r'
end
abbrev Cx.wish (X:Cx) (E:Value→Shared→Prop):Cx:={ X with xe:=E }
abbrev Cx.nox (X:Cx):Cx:=X.wish fun _ _=>False
theorem Cx.Ok.wish {X:Cx} (ok:X.Ok) (E:Value→Shared→Prop):(X.wish E).Ok :=
  ⟨ok.mod,ok.kind,ok.glob,ok.blt,ok.above,ok.inj,ok.has,ok.cab,ok.hd,ok.frames,ok.stk,ok.exf,ok.bs,ok.bsz,ok.noex,ok.exfs,ok.funs,ok.frf⟩
theorem Cx.Ok.unwish {X:Cx} {E:Value→Shared→Prop} (ok:(X.wish E).Ok):X.Ok :=
  ⟨ok.mod,ok.kind,ok.glob,ok.blt,ok.above,ok.inj,ok.has,ok.cab,ok.hd,ok.frames,ok.stk,ok.exf,ok.bs,ok.bsz,ok.noex,ok.exfs,ok.funs,ok.frf⟩
section
variable {X:Cx} {pins:List (Addr × Obj)} {σ:St} {H:Hp} {s:Shared} {E:Value→Shared→Prop}
theorem Inv.wish (I:Inv X pins σ H s) (E:Value→Shared→Prop):Inv (X.wish E) pins σ H s:=⟨I.ok.wish E,I.os,I.bare,I.base,I.loc,I.cell,I.free,I.freeC,I.pin,I.hok,I.len⟩
theorem Inv.unwish (I:Inv (X.wish E) pins σ H s):Inv X pins σ H s:=⟨I.ok.unwish,I.os,I.bare,I.base,I.loc,I.cell,I.free,I.freeC,I.pin,I.hok,I.len⟩
theorem SP.unwish {D:Ends} {f:Flow} {s':Shared} (h:SP (X.wish E) pins D f s'):SP X pins D f s':=by
  cases f with
  | next=>obtain ⟨σ',H',I,q⟩:=h;exact ⟨σ',H',I.unwish,q⟩
  | brk=>obtain ⟨σ',H',I,q⟩:=h;exact ⟨σ',H',I.unwish,q⟩
  | cont=>obtain ⟨σ',H',I,q⟩:=h;exact ⟨σ',H',I.unwish,q⟩
  | ret u=>obtain ⟨v,σ',H',I,r,q⟩:=h;exact ⟨v,σ',H',I.unwish,r,q⟩
theorem PE.nox {e:Expr} {t:TE} (h:PE X.nox e t):PE X e t:=fun pins s σ H Q I hw =>
  wpAny_mono (h pins s σ H Q (I.wish _) hw) (fun _ _ ⟨v,H',I',r,q⟩=>⟨v,H',I'.unwish,r,q⟩) fun _ _ z=>False.elim z
theorem PT.nox {e:Expr} {t:TT} (h:PT X.nox e t):PT X e t:=fun pins s σ H Q I hw =>
  wpAny_mono (h pins s σ H Q (I.wish _) hw) (fun _ _ ⟨H',I',q⟩=>⟨H',I'.unwish,q⟩) fun _ _ z=>False.elim z
theorem PSs.nox {st:List Stmt} {t:TS} (h:PSs X.nox st t):PSs X st t:=fun pins s σ H D I hw =>
  wpAny_mono (h pins s σ H D (I.wish _) hw) (fun _ _ q=>q.unwish) fun _ _ z=>False.elim z
end
section
variable {X:Cx} {st:Stmt} {rest:List Stmt} {t u:TS} {e:Expr} {te:TE} {pos:Pos}
def tNext:TS:=fun D σ H=>D.nx σ H
def tSeq (t u:TS):TS:=fun D σ H=>t { D with nx:=u D } σ H
theorem pss_nil:PSs X [] tNext:=fun _ _ σ H _ I h=>wpAny_execs_nil ⟨σ,H,I,h⟩
theorem pss_cons (h1:PS X st t) (h2:PSs X rest u):PSs X (st :: rest) (tSeq t u):=by
  intro pins s σ H D I h
  refine wpAny_execs_cons (thn (h1 pins s σ H { D with nx:=u D } I h) fun f s1 q=>?_)
  cases f with
  | next =>
    obtain ⟨σ',H',I',q⟩:=q
    exact h2 pins s1 σ' H' D I' q
  | ret v=>exact q
  | brk=>exact q
  | cont=>exact q
theorem pss_one (h1:PS X st t):PSs X [st] t:=by
  intro pins s σ H D I h
  refine wpAny_execs_cons (thn (h1 pins s σ H D I h) fun f s1 q=>?_)
  cases f with
  | next=>exact wpAny_execs_nil q
  | ret v=>exact q
  | brk=>exact q
  | cont=>exact q
theorem Inv.quiet {pins:List (Addr × Obj)} {σ:St} {H:Hp} {s:Shared} (I:Inv X pins σ H s):interactive X.env=false:=by simp [interactive,I.ok.kind]
def tDrop (te:TE):TS:=fun D σ H=>te σ H fun _ H1=>D.nx σ H1
theorem ps_expr (he:PE X e te) (hs:swapsWith e none pos.line X.env=pure false:=by rfl):PS X (.Expr e pos) (tDrop te):=by
  intro pins s σ H D I h
  exact wpAny_Expr_any (thn (he pins s σ H _ I h) fun v s1 ⟨x,H1,I1,r1,q1⟩=>⟨σ,H1,I1,q1⟩) I.quiet hs
def tRet (te:TE):TS:=fun D σ H=>te σ H D.rt
theorem ps_ret (he:PE X e te):PS X (.Return (some e) pos) (tRet te):=by
  intro pins s σ H D I h
  exact wpAny_Return_some (thn (he pins s σ H _ I h) fun v s1 ⟨x,H1,I1,r1,q1⟩=>⟨x,σ,H1,I1,r1,q1⟩)
def tIfS (c:TT) (t u:TS):TS:=fun D σ H=>c σ H fun b H1=>if b=true then t D σ H1 else u D σ H1
theorem ps_if {c:Expr} {a b:List Stmt} {tc:TT} (hc:PT X c tc) (ha:PSs X a t) (hb:PSs X b u):PS X (.If c a b pos) (tIfS tc t u):=by
  intro pins s σ H D I h
  refine wpAny_If (thn (hc pins s σ H _ I h) fun d s1 ⟨H1,I1,q1⟩=>?_)
  cases d with
  | true=>exact ha pins s1 σ H1 D I1 q1
  | false=>exact hb pins s1 σ H1 D I1 q1
def tNever:TS:=fun _ _ _=>False
theorem pss_never {sts:List Stmt}:PSs X sts tNever:=fun _ _ _ _ _ _ h=>h.elim
end
abbrev TG:=V→St→Hp→(St→Hp→Prop)→Prop
abbrev TGs:=List V→St→Hp→(St→Hp→Prop)→Prop
def PG (X:Cx) (target:Expr) (t:TG):Prop :=
  ∀ (pins:List (Addr × Obj)) (s:Shared) (σ:St) (H:Hp) (v:V) (u:Value) (Q:St→Hp→Prop),Inv X pins σ H s→RelV v u→t v σ H Q →
    wpAny (model X.prog X.w) X.A (assign target X.env u) (fun _ s'=>∃ σ' H',Inv X pins σ' H' s'∧Q σ' H') X.xe s
def PGs (X:Cx) (ts:List Expr) (t:TGs):Prop :=
  ∀ (pins:List (Addr × Obj)) (s:Shared) (σ:St) (H:Hp) (vs:List V) (us:List Value) (Q:St→Hp→Prop),Inv X pins σ H s→Vals vs us→t vs σ H Q →
    wpAny (model X.prog X.w) X.A (assignInOrder ((assignEach ts X.env).map (·.2)) us) (fun _ s'=>∃ σ' H',Inv X pins σ' H' s'∧Q σ' H') X.xe s
abbrev TSet:=V→V→V→Hp→(Hp→Prop)→Prop
def PSet (X:Cx) (t:TSet):Prop :=
  ∀ (pins:List (Addr × Obj)) (s:Shared) (σ:St) (H:Hp) (o i v:V) (ov iv u:Value) (Q:Hp→Prop),Inv X pins σ H s→RelV o ov→RelV i iv→RelV v u→t o i v H Q →
    wpAny (model X.prog X.w) X.A (setItem ov iv u) (fun _ s'=>∃ H',Inv X pins σ H' s'∧Q H') X.xe s
abbrev TIp:=V→V→Hp→VK→Prop
def PIp (X:Cx) (op:Operator) (t:TIp):Prop :=
  ∀ (pins:List (Addr × Obj)) (s:Shared) (σ:St) (H:Hp) (x y:V) (v u:Value) (Q:VK),Inv X pins σ H s→RelV x v→RelV y u→t x y H Q →
    wpAny (model X.prog X.w) X.A (inplaceOp op v u) (EP X pins σ Q) X.xe s
section
variable {X:Cx} {pos:Pos}
def gName (i:Nat):TG:=fun v σ H Q=>Q (σ.set i (some v)) H
theorem pg_name {i:Nat} {x:Str} (hN:X.N.Nodup) (hi:X.N[i]? = some x) (hx:Loc X.env.scope x) (hf:X.fn x=true∨X.env.scope.names.lookup x=some .local:=by first | exact .inl rfl | exact .inr rfl | assumption):PG X (.Name x pos) (gName i):=by
  intro pins s σ H v u Q I r h
  exact wpAny_assign_Name (store_ok I hN hi hx r (fun s' I'=>⟨_,H,I',h⟩) hf)
def gNil:TGs:=fun vs σ H Q=>vs=[]∧Q σ H
def gCons (t:TG) (u:TGs):TGs:=fun vs σ H Q=>∃ v r,vs=v :: r∧t v σ H fun σ' H'=>u r σ' H' Q
theorem pgs_nil:PGs X [] gNil:=by
  intro pins s σ H vs us Q I r h
  obtain ⟨e,h⟩:=h
  subst e
  cases r
  exact assignInOrder_nil ⟨σ,H,I,h⟩
theorem pgs_cons {e:Expr} {es:List Expr} {t:TG} {u:TGs} (h1:PG X e t) (h2:PGs X es u)
    (hs:(assignEach (e :: es) X.env).map (·.2)=assign e X.env :: (assignEach es X.env).map (·.2):=by rfl):PGs X (e :: es) (gCons t u):=by
  intro pins s σ H vs us Q I r h
  obtain ⟨v,vr,e1,h⟩:=h
  subst e1
  cases r with
  | cons r rr =>
    rw [hs]
    refine assignInOrder_cons (thn (h1 pins s σ H _ _ _ I r h) fun _ s1 ⟨σ1,H1,I1,q1⟩=>?_)
    exact h2 pins s1 σ1 H1 _ _ Q I1 rr q1
def gTup (K:PySem.W.Frag) (n:Nat) (t:TGs):TG:=fun v σ H Q=>∃ a xs,v=.ref a∧SqT K H a xs∧xs.length=n∧t xs σ H Q
theorem pg_tup {es:List Expr} {k:Nat} {t:TGs} {n:Nat} (hc:X.calm=true) (h:PGs X es t)
    (hn:(assignEach es X.env).length=n:=by rfl) (hst:(assignEach es X.env).findIdx? (·.1)=none:=by rfl):PG X (.Tuple es k pos) (gTup X.K n t):=by
  intro pins s σ H v u Q I r hw
  obtain ⟨a,xs,e1,hq,hl,hw⟩:=hw
  subst e1
  cases r
  obtain ⟨its,rv,ht,hz⟩:=I.tuple hq
  refine assign_Tuple_tuple (I.ok.hd hc) ht (by simp [hn,← hl,rv.length]) hst fun h' hx=>?_
  have I1:Inv X pins σ H { s with heap:=h' }:=I.kept (t':=s.toks) fun b o e=>hx b o (Nat.ne_of_lt (Heap.lt_size e)) e
  exact h pins _ σ H xs _ Q I1 (by simpa using rv) hw
def gSub (to ti:TE) (t:TSet):TG:=fun v σ H Q=>to σ H fun o H1=>ti σ H1 fun i H2=>t o i v H2 fun H3=>Q σ H3
theorem pg_sub {o i:Expr} {to ti:TE} {t:TSet} (ho:PE X o to) (hi:PE X i ti) (hs:PSet X t)
    (ha:∀ v,assign (.Subscript o i pos) X.env v=(do
      let ov ← holding [v] (eval o X.env)
      let iv ← holding [v,ov] (eval i X.env)
      standAt pos
      holding [v,ov,iv] (setItem ov iv v)
      release [v,ov,iv] []):=by intro _;rfl):PG X (.Subscript o i pos) (gSub to ti t):=by
  intro pins s σ H v u Q I r h
  rw [ha]
  refine wpAny_bind (wpAny_holding (thn (ho pins s σ H _ I h) fun ov s1 ⟨x,H1,I1,r1,q1⟩=>?_))
  refine wpAny_bind (wpAny_holding (thn (hi pins s1 σ H1 _ I1 q1) fun iv s2 ⟨y,H2,I2,r2,q2⟩=>?_))
  refine wpAny_bind (wpAny_standAt (wpAny_bind (wpAny_holding (thn (hs pins s2 σ H2 x y v ov iv u _ I2 r1 r2 r q2) fun _ s3 ⟨H3,I3,q3⟩=>?_))))
  exact wpAny_release ⟨σ,H3,I3,q3⟩
def tAsg (te:TE) (g:TG):TS:=fun D σ H=>te σ H fun x H1=>g x σ H1 D.nx
theorem ps_asg {tg e:Expr} {te:TE} {g:TG} (he:PE X e te) (hg:PG X tg g) (hs:swapsWithSole [tg] e pos.line X.env=pure false:=by rfl) (hw:swappedStores [tg] e X.env=pure none:=by rfl)
    (h1:(assignEach [tg] X.env).map (·.2)=[assign tg X.env]:=by rfl):PS X (.Assign [tg] e pos) (tAsg te g):=by
  intro pins s σ H D I h
  refine wpAny_Assign_stores (thn (he pins s σ H _ I h) fun v s1 ⟨x,H1,I1,r1,q1⟩=>?_) hs hw
  rw [h1]
  exact thn (hg pins s1 σ H1 x v _ I1 r1 q1) fun _ s2 q=>q
theorem ps_set {i:Nat} {x:Str} {e:Expr} {te:TE} {pos':Pos} (hN:X.N.Nodup) (hi:X.N[i]? = some x) (hx:Loc X.env.scope x) (he:PE X e te) (hs:swapsWith e (some (.Name x pos')) pos.line X.env=pure false:=by rfl) (hf:X.fn x=true∨X.env.scope.names.lookup x=some .local:=by first | exact .inl rfl | exact .inr rfl | assumption) :
    PS X (.Assign [.Name x pos'] e pos) (tAsg te (gName i)):=by
  intro pins s σ H D I h
  refine wpAny_Assign_Name (thn (he pins s σ H _ I h) fun v s1 ⟨y,H1,I1,r1,q1⟩=>?_) hs
  exact store_ok I1 hN hi hx r1 (fun s2 I2=>⟨_,H1,I2,q1⟩) hf
def tAug (i:Nat) (te:TE) (ti:TIp):TS:=fun D σ H=>∃ x,σ[i]? = some (some x)∧te σ H fun y H1=>ti x y H1 fun z H2=>D.nx (σ.set i (some z)) H2
theorem ps_aug {i:Nat} {x:Str} {e:Expr} {te:TE} {op:Operator} {ti:TIp} {pos':Pos} (hN:X.N.Nodup) (hi:X.N[i]? = some x) (hx:Loc X.env.scope x) (he:PE X e te) (ho:PIp X op ti) (hf:X.fn x=true∨X.env.scope.names.lookup x=some .local:=by first | exact .inl rfl | exact .inr rfl | assumption) :
    PS X (.AugAssign (.Name x pos') op e pos) (tAug i te ti):=by
  intro pins s σ H D I h
  obtain ⟨v,e1,h⟩:=h
  obtain ⟨m,hn,hl⟩:=I.loc
  have vis:Vis X.env.scope x:=by rcases hx with k | k;exact .inl k;exact .inr (.inl k)
  obtain ⟨u,r,l⟩:=hl i x v hi e1 vis
  refine wpAny_AugAssign_Name ?_
  have go:wpAny (model X.prog X.w) X.A (eval e X.env) (fun w s₂=>wpAny (model X.prog X.w) X.A (inplaceOp op u w) (fun r s₃=>wpAny (model X.prog X.w) X.A (storeName X.env x r) (fun _=>SP X pins D .next) X.xe s₃) X.xe s₂) X.xe s:=by
    refine thn (he pins s σ H _ I h) fun w s1 ⟨y,H1,I1,r1,q1⟩=>?_
    refine thn (ho pins s1 σ H1 v y u w _ I1 r r1 q1) fun z s2 ⟨zv,H2,I2,r2,q2⟩=>?_
    exact store_ok I2 hN hi hx r2 (fun s3 I3=>⟨_,H2,I3,q2⟩) hf
  rcases l with ⟨hk,hm⟩ | ⟨hk,c,hc,hcell⟩
  · exact wpAny_loadName_local I.ok.kind hk hn hm go
  · rcases hk with hk | hk
    · exact wpAny_loadName_cell I.ok.kind hk hc hcell go
    · rcases hx with k | k
      · have:X.env.scope.names.lookup x=some .free:=hk
        rw [k] at this;cases this
      · have:X.env.scope.names.lookup x=some .free:=hk
        rw [k] at this;cases this
def ipI (f:Int→Int→Int):TIp:=fun x y H Q=>∃ i j,x=.int i∧y=.int j∧Q (.int (f i j)) H
theorem ip_add:PIp X .Add (ipI fun i j=>i+j):=by
  intro pins s σ H x y v u Q I r1 r2 h
  obtain ⟨i,j,e1,e2,q⟩:=h
  subst e1;subst e2
  obtain ⟨t,rfl⟩:=r1
  obtain ⟨t',rfl⟩:=r2
  exact iadd_int ⟨.int _,H,I.tok _,⟨_,rfl⟩,q⟩
end
section
variable {X:Cx} {pos:Pos}
def tWhile (c:TT) (tb:TS):TS:=fun D σ H=>∃ W:Nat→St→Hp→Prop,(∃ m,W m σ H)∧∀ m σ H,W m σ H →
  c σ H fun b H1=>if b=true then ∃ N:St→Hp→Prop,(∀ σ' H',N σ' H'→∃ m',m' < m∧W m' σ' H')∧tb { D with nx:=N,ct:=N,bk:=D.nx } σ H1 else D.nx σ H1
theorem ps_while {c:Expr} {body:List Stmt} {tc:TT} {tb:TS} (hp:PassesOwn (model X.prog X.w) X.A X.env X.xe) (hc:PT X c tc) (hb:PSs X body tb):PS X (.While c body [] pos) (tWhile tc tb):=by
  intro pins s σ H D I h
  obtain ⟨W,⟨m0,w0⟩,turn⟩:=h
  refine wpAny_While (codeAny_whileLoop (fun n s'=>∃ σ' H',Inv X pins σ' H' s'∧W n σ' H') ?_ m0 ⟨σ,H,I,w0⟩)
  rintro n s1 ⟨σ1,H1,I1,w1⟩
  refine wpAny_passesOwn hp (thn (hc pins s1 σ1 H1 _ I1 (turn n σ1 H1 w1)) fun b s2 ⟨H2,I2,q2⟩=>?_)
  cases b with
  | true =>
    obtain ⟨N,hN,q2⟩:=q2
    rw [if_pos rfl]
    refine wpAny_passesOwn hp (thn (hb pins s2 σ1 H2 _ I2 q2) fun f s3 q3=>?_)
    cases f with
    | next =>
      obtain ⟨σ3,H3,I3,n3⟩:=q3
      obtain ⟨m',hm,w3⟩:=hN σ3 H3 n3
      exact ⟨m',hm,σ3,H3,I3,w3⟩
    | cont =>
      obtain ⟨σ3,H3,I3,n3⟩:=q3
      obtain ⟨m',hm,w3⟩:=hN σ3 H3 n3
      exact ⟨m',hm,σ3,H3,I3,w3⟩
    | brk=>exact q3
    | ret v=>exact q3
  | false =>
    rw [if_neg Bool.false_ne_true]
    exact wpAny_execs_nil ⟨σ1,H2,I2,q2⟩
end
structure It where
  go:Nat→Hp→Prop
  yld:Nat→Hp→V→Hp→Prop
  stop:Nat→Hp→Prop
def FpOk (X:Cx) (pins:List (Addr × Obj)) (H:Hp) (b:Addr):Prop :=
  H b=none∧b≠X.env.locals∧b ∉ X.fs∧(b∈X.ex∨X.s₀.heap.objs.size≤b)∧(∀ x c,X.env.cells.lookup x=some c→c≠b)∧∀ p∈X.pn++pins,p.1≠b
theorem Inv.fpOk {X:Cx} {pins:List (Addr × Obj)} {σ:St} {H H':Hp} {s:Shared} {b:Addr} (I:Inv X pins σ H s) (hb:s.heap.objs.size≤b) (hn:H' b=none):FpOk X pins H' b:=by
  refine ⟨hn,Nat.ne_of_gt (Nat.lt_of_lt_of_le I.lt hb),I.nofs hb,.inr (Nat.le_trans I.sz hb),fun x c e z=>?_,fun p hp z=>?_⟩
  · obtain ⟨v,q⟩:=I.cell x c e
    exact absurd (Nat.lt_of_lt_of_le q.lt (by rw [z];exact hb)) (Nat.lt_irrefl _)
  · exact absurd (Nat.lt_of_lt_of_le (Heap.lt_size (I.pin p hp).1) (by rw [z];exact hb)) (Nat.lt_irrefl _)
structure Turn (P:Program) (w:World) (K:PySem.W.Frag) (tg:Expr) (J:It) (fp:List Addr) (it:Addr) (tn:Nat→Heap→Prop):Prop where
  mem:it∈fp
  obj:∀ i h,tn i h→∀ b∈fp,∃ o,h.get? b=some o∧∀ v,o.data≠.cell v
  keep:∀ i h h',tn i h→(∀ b∈fp,∀ o,h.get? b=some o→h'.get? b=some o)→tn i h'
  item:∀ (X:Cx),X.prog=P→X.w=w→X.K=K→X.calm=true→∀ (i:Nat) (pins:List (Addr × Obj)) (s:Shared) (σ:St) (H:Hp) (E:Value→Shared→Prop),Inv X pins σ H s→(∀ b∈fp,FpOk X pins H b)→tn i s.heap→J.go i H →
    wpAny (model P w) X.A (pyNext (.ref it)) (fun r s1=>∃ u,r=some u ∧
      wpAny (model P w) X.A (letOwnedTupleGo tg (.ref it) u) (fun _ s2=>∃ x H',Inv X pins σ H' s2∧RelV x u∧J.yld i H x H'∧tn (i+1) s2.heap∧∀ b∈fp,H' b=none) E s1) E s
  done:∀ (X:Cx),X.prog=P→X.w=w→X.K=K→X.calm=true→∀ (i:Nat) (pins:List (Addr × Obj)) (s:Shared) (σ:St) (H:Hp) (E:Value→Shared→Prop),Inv X pins σ H s→(∀ b∈fp,FpOk X pins H b)→tn i s.heap→J.stop i H →
    wpAny (model P w) X.A (pyNext (.ref it)) (fun r s1=>r=none∧Inv X pins σ H s1) E s
  self:∀ (A:Around) (i:Nat) (s:Shared) (Q:Value→Shared→Prop) (E:Value→Shared→Prop),tn i s.heap→Q (.ref it) s→wpAny (model P w) A (pyIter (.ref it)) Q E s
abbrev TI:=St→Hp→(It→Hp→Prop)→Prop
def PIE (X:Cx) (pins:List (Addr × Obj)) (σ:St) (tg:Expr) (R:It→Hp→Prop) (itv:Value) (s2:Shared):Prop :=
  ∃ (it:Addr) (fp:List Addr) (tn:Nat→Heap→Prop) (J:It) (H':Hp),itv=.ref it∧Inv X pins σ H' s2∧Turn X.prog X.w X.K tg J fp it tn∧tn 0 s2.heap∧(∀ b∈fp,FpOk X pins H' b)∧R J H'
def PI (X:Cx) (tg iter:Expr) (wi:TI):Prop :=
  ∀ (pins:List (Addr × Obj)) (s:Shared) (σ:St) (H:Hp) (R:It→Hp→Prop),Inv X pins σ H s→wi σ H R →
    wpAny (model X.prog X.w) X.A (eval iter X.env) (fun v s1=>wpAny (model X.prog X.w) X.A (pyIter v) (PIE X pins σ tg R) X.xe s1) X.xe s
theorem go_of {M:Model} {A:Around} {E:Value→Shared→Prop} {s:Shared} {tg:Expr} {it:Addr} {u:Value} {o:Obj} {n:String} {vs:Array Value} {Q:Unit→Shared→Prop} (ho:s.heap.get? it=some o) (hc:o.cls=.type n) (hd:o.data=.fields vs)
    (hn:["enumerate","zip","dict_itemiterator","dict_reverseitemiterator","odict_iterator","itertools.zip_longest","itertools.pairwise"].contains n=false) (hQ:Q () s):wpAny M A (letOwnedTupleGo tg (.ref it) u) Q E s:=by
  unfold letOwnedTupleGo
  cases tg <;> first
    | exact wpAny_pure hQ
    | (cases u <;> first
        | exact wpAny_pure hQ
        | (refine wpAny_bind (wpAny_load ho ?_)
           rw [hc,hd]
           show wpAny M A (if (["enumerate","zip","dict_itemiterator","dict_reverseitemiterator","odict_iterator","itertools.zip_longest","itertools.pairwise"].contains n && vs[0]? == some (rawInt _))=true then _ else _) Q E s
           rw [if_neg (by intro h;rw [hn,Bool.false_and] at h;cases h)]
           exact wpAny_pure hQ))
def Itl (K:PySem.W.Frag) (a:Addr):It :=
  ⟨fun i H=>∃ xs x,SqL K H a xs∧xs[i]? = some x,fun i H x H'=>H'=H∧∀ xs,SqL K H a xs→xs[i]? = some x,fun i H=>∃ xs,SqL K H a xs∧xs.length≤i⟩
def Itt (K:PySem.W.Frag) (a:Addr):It :=
  ⟨fun i H=>∃ xs x,SqT K H a xs∧xs[i]? = some x,fun i H x H'=>H'=H∧∀ xs,SqT K H a xs→xs[i]? = some x,fun i H=>∃ xs,SqT K H a xs∧xs.length≤i⟩
def Itr (lo:Int) (n:Nat):It:=⟨fun i _=>i < n,fun i H x H'=>H'=H∧x=.int (lo+i),fun i _=>n≤i⟩
theorem turn_list {P:Program} {w:World} {K:PySem.W.Frag} {tg:Expr} (a it:Addr):Turn P w K tg (Itl K a) [it] it (fun i h=>h.IsListIter it a i) where
  mem:=by simp
  obj:=fun i h st b hb=>by
    have e:b=it:=by simpa using hb
    subst e
    obtain ⟨o,e,c,d⟩:=st
    exact ⟨o,e,fun v z=>by rw [d] at z;cases z⟩
  keep:=fun i h h' st k=>st.at fun o e=>k it (by simp) o e
  item:=by
    intro X hP hw hK hc i pins s σ H E I hf st hg
    subst hP hw hK
    obtain ⟨xs,x,hq,hx⟩:=hg
    obtain ⟨its,rv,p,hz⟩:=I.list hq
    obtain ⟨u,hu,ru⟩:=rv.get hx
    obtain ⟨f0,f1,f2,f3,f4,f5⟩:=hf it (by simp)
    refine wpAny_pyNext_list_item st p.isList (x:=u) (by simpa using hu) fun h' st' sb=>?_
    have I1:Inv X pins σ H { s with heap:=h' }:=I.turned (t':=s.toks) (fun b o hb e=>(sb.2 b hb).trans e) f0 f1 f3 f4 f5
    obtain ⟨o,e,c,d⟩:=id st'
    exact ⟨u,rfl,go_of (s:={ s with heap:=h' }) e c d (by decide) ⟨x,H,I1,ru,⟨rfl,fun ys hy=>by rw [I.list_inj hy hq];exact hx⟩,st',fun b hb=>(hf b hb).1⟩⟩
  done:=by
    intro X hP hw hK hc i pins s σ H E I hf st hg
    subst hP hw hK
    obtain ⟨xs,hq,hx⟩:=hg
    obtain ⟨its,rv,p,hz⟩:=I.list hq
    obtain ⟨f0,f1,f2,f3,f4,f5⟩:=hf it (by simp)
    have hl:=rv.length
    exact wpAny_pyNext_list_end (I.ok.hd hc) st p.isList (by simp;omega) fun h' eb=>⟨rfl,I.turned (t':=s.toks) (fun b o hb e=>eb b o hb e) f0 f1 f3 f4 f5⟩
  self:=fun _ _ _ _ _ st h=>wpAny_pyIter_listiter st h
theorem turn_tuple {P:Program} {w:World} {K:PySem.W.Frag} {tg:Expr} (a it:Addr):Turn P w K tg (Itt K a) [it] it (fun i h=>h.IsTupleIter it a i) where
  mem:=by simp
  obj:=fun i h st b hb=>by
    have e:b=it:=by simpa using hb
    subst e
    obtain ⟨o,e,c,d⟩:=st
    exact ⟨o,e,fun v z=>by rw [d] at z;cases z⟩
  keep:=fun i h h' st k=>st.at fun o e=>k it (by simp) o e
  item:=by
    intro X hP hw hK hc i pins s σ H E I hf st hg
    subst hP hw hK
    obtain ⟨xs,x,hq,hx⟩:=hg
    obtain ⟨its,rv,p,hz⟩:=I.tuple hq
    obtain ⟨u,hu,ru⟩:=rv.get hx
    obtain ⟨f0,f1,f2,f3,f4,f5⟩:=hf it (by simp)
    refine wpAny_pyNext_tuple_item st (show s.heap.IsTuple a its.toArray from p) (x:=u) (by simpa using hu) fun h' st' sb=>?_
    have I1:Inv X pins σ H { s with heap:=h' }:=I.turned (t':=s.toks) (fun b o hb e=>(sb.2 b hb).trans e) f0 f1 f3 f4 f5
    obtain ⟨o,e,c,d⟩:=id st'
    exact ⟨u,rfl,go_of (s:={ s with heap:=h' }) e c d (by decide) ⟨x,H,I1,ru,⟨rfl,fun ys hy=>by rw [I.tuple_inj hy hq];exact hx⟩,st',fun b hb=>(hf b hb).1⟩⟩
  done:=by
    intro X hP hw hK hc i pins s σ H E I hf st hg
    subst hP hw hK
    obtain ⟨xs,hq,hx⟩:=hg
    obtain ⟨its,rv,p,hz⟩:=I.tuple hq
    obtain ⟨f0,f1,f2,f3,f4,f5⟩:=hf it (by simp)
    have hl:=rv.length
    exact wpAny_pyNext_tuple_end (I.ok.hd hc) st (show s.heap.IsTuple a its.toArray from p) (by simp;omega) fun h' eb=>⟨rfl,I.turned (t':=s.toks) (fun b o hb e=>eb b o hb e) f0 f1 f3 f4 f5⟩
  self:=fun _ _ _ _ _ st h=>wpAny_pyIter_tupleiter st h
theorem turn_range {P:Program} {w:World} {K:PySem.W.Frag} {tg:Expr} (it:Addr) (lo:Int) (n:Nat):Turn P w K tg (Itr lo n) [it] it (fun i h=>IsRangeIter h it (lo+(i:Nat) * 1) ((n:Int) - (i:Nat)) 1) where
  mem:=by simp
  obj:=fun i h st b hb=>by
    have e:b=it:=by simpa using hb
    subst e
    exact ⟨_,st,fun v z=>by
      have z':Data.fields _=Data.cell v:=z
      cases z'⟩
  keep:=fun i h h' st k=>k it (by simp) _ st
  item:=by
    intro X hP hw hK hc i pins s σ H E I hf st hg
    subst hP hw hK
    obtain ⟨f0,f1,f2,f3,f4,f5⟩:=hf it (by simp)
    have W:=Walks.range (prog:=X.prog) (w:=X.w) (I.ok.hd hc) it lo 1 n
    refine W.item i s _ _ hg st fun v h' tk hv st' kk=>?_
    obtain ⟨t,rfl⟩:=hv
    have I1:Inv X pins σ H { s with heap:=h',toks:=tk }:=I.turned (fun b o hb e=>kk b o (by simpa using hb) e) f0 f1 f3 f4 f5
    refine ⟨_,rfl,go_of (s:={ s with heap:=h',toks:=tk }) (n:="range_iterator") st' rfl rfl (by decide) ⟨.int (lo+i),H,I1,⟨t,?_⟩,⟨rfl,rfl⟩,st',fun b hb=>(hf b hb).1⟩⟩
    rw [Int.mul_one]
  done:=by
    intro X hP hw hK hc i pins s σ H E I hf st hg
    subst hP hw hK
    obtain ⟨f0,f1,f2,f3,f4,f5⟩:=hf it (by simp)
    exact wpAny_pyNext_range_end (I.ok.hd hc) st (by have:n≤i:=hg;omega) fun h' eb=>⟨rfl,I.turned (t':=s.toks) (fun b o hb e=>eb b o hb e) f0 f1 f3 f4 f5⟩
  self:=fun _ _ _ _ _ st h=>wpAny_pyIter_rangeiter st h
end L2
namespace L2
open PySem PySem.Spec PyProof.Rows
section
variable {X:Cx} {tg:Expr}
def iList (K:PySem.W.Frag) (tl:TE):TI:=fun σ H R=>tl σ H fun x H1=>∃ a,x=.ref a∧(∃ xs,SqL K H1 a xs)∧R (Itl K a) H1
def iTup (K:PySem.W.Frag) (tl:TE):TI:=fun σ H R=>tl σ H fun x H1=>∃ a,x=.ref a∧(∃ xs,SqT K H1 a xs)∧R (Itt K a) H1
theorem pi_list {l:Expr} {tl:TE} (hl:PE X l tl):PI X tg l (iList X.K tl):=by
  intro pins s σ H R I h
  refine thn (hl pins s σ H _ I h) fun v s1 ⟨x,H1,I1,r1,q1⟩=>?_
  obtain ⟨a,e,⟨xs,hq⟩,q⟩:=q1
  subst e
  cases r1
  obtain ⟨its,rv,p,hz⟩:=I1.list hq
  refine wpAny_pyIter_list p.isList ?_
  refine ⟨s1.heap.objs.size,[s1.heap.objs.size],_,_,H1,rfl,I1.kept (t':=s1.toks) fun b o e=>Heap.get?_push_of_some _ e,turn_list a _,⟨_,Heap.get?_push_size _ rfl,rfl,rfl⟩,fun b hb=>?_,q⟩
  have e:b=s1.heap.objs.size:=by simpa using hb
  subst e
  exact I1.fpOk (Nat.le_refl _) (I1.hok.fresh (Nat.le_refl _))
theorem pi_tup {l:Expr} {tl:TE} (hl:PE X l tl):PI X tg l (iTup X.K tl):=by
  intro pins s σ H R I h
  refine thn (hl pins s σ H _ I h) fun v s1 ⟨x,H1,I1,r1,q1⟩=>?_
  obtain ⟨a,e,⟨xs,hq⟩,q⟩:=q1
  subst e
  cases r1
  obtain ⟨its,rv,p,hz⟩:=I1.tuple hq
  refine wpAny_pyIter_tuple (show s1.heap.IsTuple a its.toArray from p) ?_
  refine ⟨s1.heap.objs.size,[s1.heap.objs.size],_,_,H1,rfl,I1.kept (t':=s1.toks) fun b o e=>Heap.get?_push_of_some _ e,turn_tuple a _,⟨_,Heap.get?_push_size _ rfl,rfl,rfl⟩,fun b hb=>?_,q⟩
  have e:b=s1.heap.objs.size:=by simpa using hb
  subst e
  exact I1.fpOk (Nat.le_refl _) (I1.hok.fresh (Nat.le_refl _))
theorem range_it {pins:List (Addr × Obj)} {σ:St} {H:Hp} {s:Shared} {R:It→Hp→Prop} {E:Value→Shared→Prop} {lo hi:Int} {t u v:Tok} {tk:Nat} (I:Inv X pins σ H s) (h1:-(2 ^ 62)≤lo) (h2:lo < 2 ^ 62) (h3:-(2 ^ 62)≤hi) (h4:hi < 2 ^ 62)
    (q:R (Itr lo (hi - lo).toNat) H):wpAny (model X.prog X.w) X.A (pyIter (.ref s.heap.objs.size)) (PIE X pins σ tg R) E { s with heap:=s.heap.push { cls:=.type "range",data:=.fields #[.int lo t,.int hi u,.int 1 v] },toks:=tk }:=by
  refine wpAny_pyIter_range (IsRange.new ..) (small_one h1 h2 h3 h4) ?_
  have I1:Inv X pins σ H { s with heap:=s.heap.push { cls:=.type "range",data:=.fields #[.int lo t,.int hi u,.int 1 v] },toks:=tk }:=I.kept fun b o e=>Heap.get?_push_of_some _ e
  refine ⟨(s.heap.push { cls:=.type "range",data:=.fields #[.int lo t,.int hi u,.int 1 v] }).objs.size,[(s.heap.push { cls:=.type "range",data:=.fields #[.int lo t,.int hi u,.int 1 v] }).objs.size],_,_,H,rfl,
    I1.kept (t':=tk) fun b o e=>Heap.get?_push_of_some _ e,turn_range _ lo (hi - lo).toNat,?_,fun b hb=>?_,q⟩
  · have e1:lo+((0:Nat):Int) * 1=lo:=by simp
    have e2:(((hi - lo).toNat:Nat):Int) - ((0:Nat):Int)=Builtin.Range.rangeSize lo hi 1:=by rw [rangeSize_one];split <;> omega
    show IsRangeIter _ _ (lo+((0:Nat):Int) * 1) ((((hi - lo).toNat:Nat):Int) - ((0:Nat):Int)) 1
    rw [e1,e2]
    exact Heap.get?_push_size _ rfl
  · have e:b=(s.heap.push { cls:=.type "range",data:=.fields #[.int lo t,.int hi u,.int 1 v] }).objs.size:=by simpa using hb
    subst e
    exact I1.fpOk (Nat.le_refl _) (I1.hok.fresh (Nat.le_refl _))
def iRng1 (ta:TA):TI:=fun σ H R=>ta σ H fun vs H1=>∃ j:Int,vs=[.int j]∧-(2 ^ 62)≤j∧j < 2 ^ 62∧R (Itr 0 j.toNat) H1
def iRng2 (ta:TA):TI:=fun σ H R=>ta σ H fun vs H1=>∃ i j:Int,vs=[.int i,.int j]∧(-(2 ^ 62)≤i∧i < 2 ^ 62∧-(2 ^ 62)≤j∧j < 2 ^ 62)∧R (Itr i (j - i).toNat) H1
theorem pi_range1 {a:Expr} {ta:TA} {p pos:Pos} (hg:Gl X "range") (hm:X.mg "range" = none) (ha:PA X [a] ta) (hs:starEach [a] X.env=[(false,eval a X.env)]:=by rfl):PI X tg (.Call (.Name "range" p) [a] [] pos) (iRng1 ta):=by
  intro pins s σ H R I h
  refine Call_ (ld_blt I hg hm boot_range (PyProof.Rows.callWith_type1 (thn (ha pos pins s σ H _ I h) fun us s1 ⟨vs,H1,I1,r1,q1⟩=>?_) hs rfl))
  obtain ⟨j,e,q1,q2,q⟩:=q1
  subst e
  cases r1 with
  | cons r rr =>
    cases rr
    obtain ⟨t,rfl⟩:=r
    exact call_range_1 (range_it I1 (by omega) (by omega) q1 q2 (by simpa using q))
theorem pi_range2 {a b:Expr} {ta:TA} {p pos:Pos} (hg:Gl X "range") (hm:X.mg "range" = none) (ha:PA X [a,b] ta) (hs:starEach [a,b] X.env=[(false,eval a X.env),(false,eval b X.env)]:=by rfl) (hs2:starEach [b] X.env=[(false,eval b X.env)]:=by rfl) :
    PI X tg (.Call (.Name "range" p) [a,b] [] pos) (iRng2 ta):=by
  intro pins s σ H R I h
  refine Call_ (ld_blt I hg hm boot_range (PyProof.Rows.callWith_type1 (thn (ha pos pins s σ H _ I h) fun us s1 ⟨vs,H1,I1,r1,q1⟩=>?_) (by rw [hs,hs2]) (by rw [hs2];rfl)))
  obtain ⟨i,j,e,⟨q1,q2,q3,q4⟩,q⟩:=q1
  subst e
  cases r1 with
  | cons r rr =>
    cases rr with
    | cons r' rr =>
      cases rr
      obtain ⟨t,rfl⟩:=r
      obtain ⟨t',rfl⟩:=r'
      exact call_range_2 (range_it I1 q1 q2 q3 q4 q)
def tFor (wi:TI) (g:TG) (tb:TS):TS:=fun D σ H=>wi σ H fun J H1=>∃ W:Nat→Nat→St→Hp→Prop,(∃ m,W 0 m σ H1)∧∀ i m σ H,W i m σ H →
  (J.stop i H∧D.nx σ H)∨(J.go i H∧∃ N:St→Hp→Prop,(∀ σ' H',N σ' H'→∃ m',m' < m∧W (i+1) m' σ' H')∧∀ x H',J.yld i H x H'→g x σ H' fun σ2 H2=>tb { D with nx:=N,ct:=N,bk:=D.nx } σ2 H2)
def pinsAt (fp:List Addr) (h:Heap):List (Addr × Obj):=fp.filterMap fun b=>(h.get? b).map fun o=>(b,o)
theorem mem_pinsAt {fp:List Addr} {h:Heap} {b:Addr} {o:Obj} (hb:b∈fp) (e:h.get? b=some o):(b,o)∈pinsAt fp h:=List.mem_filterMap.mpr ⟨b,hb,by rw [e];rfl⟩
theorem of_pinsAt {fp:List Addr} {h:Heap} {p:Addr × Obj} (hp:p∈pinsAt fp h):p.1∈fp∧h.get? p.1=some p.2:=by
  obtain ⟨b,hb,e⟩:=List.mem_filterMap.mp hp
  cases q:h.get? b with
  | none=>rw [q] at e;cases e
  | some o =>
    rw [q] at e
    have e':(b,o)=p:=Option.some.inj e
    subst e'
    exact ⟨hb,q⟩
theorem Inv.pinned {pins:List (Addr × Obj)} {σ:St} {H:Hp} {s:Shared} {fp:List Addr} (I:Inv X pins σ H s) (hf:∀ b∈fp,FpOk X pins H b) (ho:∀ b∈fp,∃ o,s.heap.get? b=some o∧∀ v,o.data≠.cell v):Inv X (pins++pinsAt fp s.heap) σ H s :=
  I.pins_of fun p hp=>(List.mem_append.mp hp).elim (fun z=>I.pin p (List.mem_append_right _ z)) fun z=>by
    obtain ⟨hb,e⟩:=of_pinsAt z
    obtain ⟨f0,f1,f2,_⟩:=hf p.1 hb
    obtain ⟨o,e',d⟩:=ho p.1 hb
    rw [e] at e';cases e'
    exact ⟨e,f0,f1,f2,d⟩
theorem Inv.unpinned {pins pl:List (Addr × Obj)} {σ:St} {H:Hp} {s:Shared} (I:Inv X (pins++pl) σ H s):Inv X pins σ H s:=I.pins_of fun p hp=>I.pin p (List.mem_append_right _ (List.mem_append_left _ hp))
theorem ps_for {iter:Expr} {body:List Stmt} {wi:TI} {g:TG} {tb:TS} {pos:Pos} (hp:PassesOwn (model X.prog X.w) X.A X.env X.xe) (hc:X.calm=true) (hi:PI X tg iter wi) (hg:PG X tg g) (hb:PSs X body tb)
    (hs:∀ x,foldedSetIterable iter X.env x=pure x:=by intro _;rfl):PS X (.For tg iter body [] pos) (tFor wi g tb):=by
  intro pins s σ H D I h
  refine wpAny_For (thn (hi pins s σ H _ I h) fun v s1 h1=>thn h1 fun itv s2 h2=>?_) hs
  obtain ⟨it,fp,tn,J,H2,e,I2,T,st2,f2,W,⟨m0,w0⟩,turn⟩:=h2
  subst e
  -- what stays true of the iterator's objects through the loop
  have stat:∀ {H':Hp},(∀ b∈fp,H' b=none)→∀ b∈fp,FpOk X pins H' b:=fun hn b hb=>⟨hn b hb,(f2 b hb).2⟩
  refine codeAny_forLoop_any (fun n s'=>∃ i σ' H',Inv X pins σ' H' s'∧tn i s'.heap∧(∀ b∈fp,H' b=none)∧W i n σ' H') ?_ m0 ⟨0,σ,H2,I2,st2,fun b hb=>(f2 b hb).1,w0⟩
  rintro n s3 ⟨i,σ3,H3,I3,st3,fr3,w3⟩
  rcases turn i n σ3 H3 w3 with ⟨stop,qn⟩ | ⟨go,N,hN,step⟩
  · refine wpAny_passesOwn hp (thn (T.done X rfl rfl rfl hc i pins s3 σ3 H3 X.xe I3 (stat fr3) st3 stop) fun r s4 ⟨hr,I4⟩=>?_)
    subst hr
    exact wpAny_execs_nil ⟨σ3,H3,I4,qn⟩
  · refine wpAny_passesOwn hp (thn (T.item X rfl rfl rfl hc i pins s3 σ3 H3 X.xe I3 (stat fr3) st3 go) fun r s4 ⟨u,hr,h4⟩=>?_)
    subst hr
    refine wpAny_passesOwn hp (thn h4 fun _ s5 ⟨x,H5,I5,r5,y5,st5,fr5⟩=>?_)
    have I5':=I5.pinned (stat fr5) (T.obj _ _ st5)
    refine wpAny_passesOwn hp (thn (hg _ s5 σ3 H5 x u _ I5' r5 (step x H5 y5)) fun _ s6 ⟨σ6,H6,I6,q6⟩=>?_)
    refine wpAny_passesOwn hp (thn (hb _ s6 σ6 H6 _ I6 q6) fun f s7 q7=>?_)
    have again:∀ {σ7:St} {H7:Hp},Inv X (pins++pinsAt fp s5.heap) σ7 H7 s7→N σ7 H7→∃ m,m < n∧∃ i σ' H',Inv X pins σ' H' s7∧tn i s7.heap∧(∀ b∈fp,H' b=none)∧W i m σ' H':=fun {σ7 H7} I7 n7=>by
      obtain ⟨m',hm,w7⟩:=hN σ7 H7 n7
      refine ⟨m',hm,i+1,σ7,H7,I7.unpinned,T.keep _ _ _ st5 fun b hb o e=>(I7.pin (b,o) (List.mem_append_right _ (List.mem_append_right _ (mem_pinsAt hb e)))).1,fun b hb=>?_,w7⟩
      obtain ⟨o,e,d⟩:=T.obj _ _ st5 b hb
      exact (I7.pin (b,o) (List.mem_append_right _ (List.mem_append_right _ (mem_pinsAt hb e)))).2.1
    cases f with
    | next=>obtain ⟨σ7,H7,I7,n7⟩:=q7;exact again I7 n7
    | cont=>obtain ⟨σ7,H7,I7,n7⟩:=q7;exact again I7 n7
    | brk=>obtain ⟨σ7,H7,I7,q7⟩:=q7;exact ⟨σ7,H7,I7.unpinned,q7⟩
    | ret v=>obtain ⟨x7,σ7,H7,I7,r7,q7⟩:=q7;exact ⟨x7,σ7,H7,I7.unpinned,r7,q7⟩
end
end L2
namespace L2
open PySem PySem.Spec PyProof.Rows
abbrev R2:=V→V→Hp→VK→Prop
def OpR (X:Cx) (f:Value→Value→Sem Value) (r:R2):Prop :=
  ∀ (pins:List (Addr × Obj)) (s:Shared) (σ:St) (H:Hp) (x y:V) (v u:Value) (Q:VK),Inv X pins σ H s→RelV x v→RelV y u→r x y H Q →
    wpAny (model X.prog X.w) X.A (f v u) (EP X pins σ Q) X.xe s
def UnR (X:Cx) (f:Value→Sem Value) (r:V→Hp→VK→Prop):Prop :=
  ∀ (pins:List (Addr × Obj)) (s:Shared) (σ:St) (H:Hp) (x:V) (v:Value) (Q:VK),Inv X pins σ H s→RelV x v→r x H Q →
    wpAny (model X.prog X.w) X.A (f v) (EP X pins σ Q) X.xe s
def CallR (X:Cx) (f:Value) (r:List V→Hp→VK→Prop):Prop :=
  ∀ (pins:List (Addr × Obj)) (s:Shared) (σ:St) (H:Hp) (xs:List V) (us:List Value) (Q:VK),Inv X pins σ H s→Vals xs us→r xs H Q →
    wpAny (model X.prog X.w) X.A (call f us) (EP X pins σ Q) X.xe s
def TruR (X:Cx) (r:V→Hp→(Bool→Hp→Prop)→Prop):Prop :=
  ∀ (pins:List (Addr × Obj)) (s:Shared) (σ:St) (H:Hp) (x:V) (v:Value) (Q:Bool→Hp→Prop),Inv X pins σ H s→RelV x v→r x H Q →
    wpAny (model X.prog X.w) X.A (truthy v) (TP X pins σ Q) X.xe s
def tOp (r:R2) (ta tb:TE):TE:=fun σ H Q=>ta σ H fun x H1=>tb σ H1 fun y H2=>r x y H2 Q
def tUn (r:V→Hp→VK→Prop) (ta:TE):TE:=fun σ H Q=>ta σ H fun x H1=>r x H1 Q
def rI (C:Int→Int→Prop) (g:Int→Int→V):R2:=fun x y H Q=>∃ i j,x=.int i∧y=.int j∧C i j∧Q (g i j) H
def rI0 (g:Int→Int→V):R2:=fun x y H Q=>∃ i j,x=.int i∧y=.int j∧Q (g i j) H
def rU (g:Int→V):V→Hp→VK→Prop:=fun x H Q=>∃ i,x=.int i∧Q (g i) H
section
variable {X:Cx} {a b c:Expr} {ta tb tc:TE} {pos:Pos}
theorem binT (ha:PE X a ta) (hb:PE X b tb) {pins:List (Addr × Obj)} {s:Shared} {σ:St} {H:Hp} {R:V→V→Hp→Prop} (I:Inv X pins σ H s)
    (h:ta σ H fun x H1=>tb σ H1 fun y H2=>R x y H2) {Q:Value→Shared→Prop} {f:Value→Value→Sem Value}
    (hf:∀ v u s2 x y H2,Inv X pins σ H2 s2→RelV x v→RelV y u→R x y H2→wpAny (model X.prog X.w) X.A (f v u) Q X.xe s2) :
    wpAny (model X.prog X.w) X.A (eval a X.env) (fun v s₁=>wpAny (model X.prog X.w) X.A (eval b X.env) (fun u s₂=>wpAny (model X.prog X.w) X.A (f v u) Q X.xe s₂) X.xe s₁) X.xe s:=by
  refine thn (ha pins s σ H _ I h) fun v s1 ⟨x,H1,I1,r1,q1⟩=>?_
  refine thn (hb pins s1 σ H1 _ I1 q1) fun u s2 ⟨y,H2,I2,r2,q2⟩=>?_
  exact hf v u s2 x y H2 I2 r1 r2 q2
theorem pe_op {op:Operator} {r:R2} (ho:OpR X (binaryOp op) r) (ha:PE X a ta) (hb:PE X b tb):PE X (.BinOp a op b pos) (tOp r ta tb):=by
  intro pins s σ H Q I h
  exact wpAny_BinOp (binT ha hb I h fun v u s2 x y H2 I2 rx ry q=>ho pins s2 σ H2 x y v u Q I2 rx ry q)
theorem pe_un {op:UnaryOp} {r:V→Hp→VK→Prop} (ho:UnR X (unaryOp op) r) (ha:PE X a ta):PE X (.UnaryOp op a pos) (tUn r ta):=by
  intro pins s σ H Q I h
  exact UnaryOp_ (thn (ha pins s σ H _ I h) fun v s1 ⟨x,H1,I1,r1,q1⟩=>ho pins s1 σ H1 x v Q I1 r1 q1)
theorem opI {f:Value→Value→Sem Value} {C:Int→Int→Prop} {g:Int→Int→Int}
    (rule:∀ (i j:Int) (t u:Tok) (s:Shared) (Q:Value→Shared→Prop) (E:Value→Shared→Prop),C i j→Q (.int (g i j) s.toks) { s with toks:=s.toks+1 }→wpAny (model X.prog X.w) X.A (f (.int i t) (.int j u)) Q E s) :
    OpR X f (rI C fun i j=>.int (g i j)):=by
  intro pins s σ H x y v u Q I rx ry h
  obtain ⟨i,j,rfl,rfl,hc,q⟩:=h
  obtain ⟨t,rfl⟩:=rx
  obtain ⟨t',rfl⟩:=ry
  exact rule i j t t' s _ _ hc ⟨.int (g i j),H,I.tok _,⟨_,rfl⟩,q⟩
theorem opI0 {f:Value→Value→Sem Value} {g:Int→Int→Int}
    (rule:∀ (i j:Int) (t u:Tok) (s:Shared) (Q:Value→Shared→Prop) (E:Value→Shared→Prop),Q (.int (g i j) s.toks) { s with toks:=s.toks+1 }→wpAny (model X.prog X.w) X.A (f (.int i t) (.int j u)) Q E s) :
    OpR X f (rI0 fun i j=>.int (g i j)):=by
  intro pins s σ H x y v u Q I rx ry h
  obtain ⟨i,j,rfl,rfl,q⟩:=h
  obtain ⟨t,rfl⟩:=rx
  obtain ⟨t',rfl⟩:=ry
  exact rule i j t t' s _ _ ⟨.int (g i j),H,I.tok _,⟨_,rfl⟩,q⟩
theorem opB0 {f:Value→Value→Sem Value} {g:Int→Int→Bool}
    (rule:∀ (i j:Int) (t u:Tok) (s:Shared) (Q:Value→Shared→Prop) (E:Value→Shared→Prop),Q (.bool (g i j)) s→wpAny (model X.prog X.w) X.A (f (.int i t) (.int j u)) Q E s) :
    OpR X f (rI0 fun i j=>.bl (g i j)):=by
  intro pins s σ H x y v u Q I rx ry h
  obtain ⟨i,j,rfl,rfl,q⟩:=h
  obtain ⟨t,rfl⟩:=rx
  obtain ⟨t',rfl⟩:=ry
  exact rule i j t t' s _ _ ⟨.bl (g i j),H,I,rfl,q⟩
def CDiv (i j:Int):Prop:=0 < j∧j < 1073741824
def CPow (i j:Int):Prop:=0≤j∧j≤1000000∧i.natAbs < 2 ^ 64
def CMul (i j:Int):Prop:=(-(2 ^ 64) < i∧i < 2 ^ 64)∨(-(2 ^ 64) < j∧j < 2 ^ 64)
theorem CMul.ok {i j:Int} (h:CMul i j):IntMulOk i j:=by
  rcases h with ⟨h1,h2⟩ | ⟨h1,h2⟩
  · exact .of_left (intBits_le_64 h1 h2)
  · exact .of_right (intBits_le_64 h1 h2)
theorem op_add:OpR X (binaryOp .Add) (rI0 fun i j=>.int (i+j)):=opI0 fun _ _ _ _ _ _ _ q=>add_int q
theorem op_sub:OpR X (binaryOp .Sub) (rI0 fun i j=>.int (i - j)):=opI0 fun _ _ _ _ _ _ _ q=>sub_int q
theorem op_mul:OpR X (binaryOp .Mult) (rI CMul fun i j=>.int (i * j)):=opI fun _ _ _ _ _ _ _ hc q=>mul_int q hc.ok
theorem op_fdiv:OpR X (binaryOp .FloorDiv) (rI CDiv fun i j=>.int (i / j)):=opI fun i j _ _ _ _ _ hc q=>by
  have h1:(0:Int) < j:=hc.1
  have h2:j < 1073741824:=hc.2
  exact floordiv_int (by omega) (by rw [Int.fdiv_eq_ediv_of_nonneg i (by omega)];exact q) (.inl (PyProof.noPylong_small (by omega)))
theorem op_mod:OpR X (binaryOp .Mod) (rI (fun _ j=>0 < j) fun i j=>.int (i % j)):=opI fun i j _ _ _ _ _ hc q=>by
  have h1:(0:Int) < j:=hc
  exact mod_int' (by omega) (by rw [Int.fmod_eq_emod_of_nonneg i (by omega)];exact q)
theorem op_pow:OpR X (binaryOp .Pow) (rI CPow fun i j=>.int (i ^ j.toNat)):=opI fun _ _ _ _ _ _ _ hc q=>pow_int_small hc.1 hc.2.1 hc.2.2 q
theorem unI {f:Value→Sem Value} {g:Int→Int}
    (rule:∀ (i:Int) (t:Tok) (s:Shared) (Q:Value→Shared→Prop) (E:Value→Shared→Prop),Q (.int (g i) s.toks) { s with toks:=s.toks+1 }→wpAny (model X.prog X.w) X.A (f (.int i t)) Q E s) :
    UnR X f (rU fun i=>.int (g i)):=by
  intro pins s σ H x v Q I rx h
  obtain ⟨i,rfl,q⟩:=h
  obtain ⟨t,rfl⟩:=rx
  exact rule i t s _ _ ⟨.int (g i),H,I.tok _,⟨_,rfl⟩,q⟩
theorem un_neg:UnR X (unaryOp .USub) (rU fun i=>.int (-i)):=unI fun _ _ _ _ _ q=>neg_int q
end
def scal:V→V→Bool
  | .non,.non=>true | .non,.int _=>true | .int _,.non=>true | .non,.bl _=>true | .bl _,.non=>true | .non,.str _=>true | .str _,.non=>true
  | .int _,.int _=>true | .bl _,.bl _=>true | .str _,.str _=>true | .byt _,.byt _=>true
  | .int _,.str _=>true | .str _,.int _=>true | .bl _,.str _=>true | .str _,.bl _=>true
  | _,_=>false
def rEq:R2:=fun x y H Q=>scal x y=true∧Q (.bl (decide (x=y))) H
def rNe:R2:=fun x y H Q=>scal x y=true∧Q (.bl (!decide (x=y))) H
theorem dec_int {i j:Int}:decide (V.int i=V.int j)=(i == j):=by
  rw [Bool.eq_iff_iff]
  simp
theorem dec_bl {i j:Bool}:decide (V.bl i=V.bl j)=(i == j):=by
  rw [Bool.eq_iff_iff]
  simp
theorem dec_str {i j:Str}:decide (V.str i=V.str j)=(i == j):=by
  rw [Bool.eq_iff_iff]
  simp
theorem dec_byt {i j:Array UInt8}:decide (V.byt i=V.byt j)=(i.toList == j.toList):=by
  rw [Bool.eq_iff_iff]
  cases i
  cases j
  simp
section
variable {X:Cx} {a b c:Expr} {ta tb tc:TE} {pos:Pos}
theorem fin_bl {pins:List (Addr × Obj)} {σ:St} {H:Hp} {s:Shared} {Q:VK} {k k':Bool} (I:Inv X pins σ H s) (q:Q (.bl k) H) (e:k=k'):EP X pins σ Q (.bool k') s:=by
  subst e
  exact ⟨.bl k,H,I,rfl,q⟩
theorem op_eq:OpR X (compareOp .Eq) rEq:=by
  intro pins s σ H x y v u Q I rx ry h
  obtain ⟨hs,q⟩:=h
  cases x with
  | non =>
    cases rx
    cases y with
    | non=>cases ry;exact PySem.EqNone.eq_none_none (fin_bl I q (by simp))
    | bl j=>cases ry;exact PySem.EqNone.eq_none_bool (fin_bl I q (by simp))
    | int j=>obtain ⟨t',rfl⟩:=ry;exact PySem.EqNone.eq_none_int (fin_bl I q (by simp))
    | str j=>obtain ⟨t',rfl⟩:=ry;exact PySem.EqNone.eq_none_str (fin_bl I q (by simp))
    | _=>exact absurd (show false=true from hs) Bool.false_ne_true
  | bl i =>
    cases rx
    cases y with
    | non=>cases ry;exact PySem.EqNone.eq_bool_none (fin_bl I q (by simp))
    | bl j=>cases ry;exact eq_bool (fin_bl I q dec_bl)
    | str j=>obtain ⟨t',rfl⟩:=ry;exact PySem.EqMixed.eq_bool_str (fin_bl I q (by simp))
    | _=>exact absurd (show false=true from hs) Bool.false_ne_true
  | int i =>
    obtain ⟨t,rfl⟩:=rx
    cases y with
    | non=>cases ry;exact PySem.EqNone.eq_int_none (fin_bl I q (by simp))
    | int j=>obtain ⟨t',rfl⟩:=ry;exact eq_int (fin_bl I q dec_int)
    | str j=>obtain ⟨t',rfl⟩:=ry;exact PySem.EqMixed.eq_int_str (fin_bl I q (by simp))
    | _=>exact absurd (show false=true from hs) Bool.false_ne_true
  | str i =>
    obtain ⟨t,rfl⟩:=rx
    cases y with
    | non=>cases ry;exact PySem.EqNone.eq_str_none (fin_bl I q (by simp))
    | bl j=>cases ry;exact PySem.EqMixed.eq_str_bool (fin_bl I q (by simp))
    | int j=>obtain ⟨t',rfl⟩:=ry;exact PySem.EqMixed.eq_str_int (fin_bl I q (by simp))
    | str j=>obtain ⟨t',rfl⟩:=ry;exact eq_str (fin_bl I q dec_str)
    | _=>exact absurd (show false=true from hs) Bool.false_ne_true
  | byt i =>
    obtain ⟨t,rfl⟩:=rx
    cases y with
    | byt j=>obtain ⟨t',rfl⟩:=ry;exact PySem.W.eq_bytes (fin_bl I q dec_byt)
    | _=>exact absurd (show false=true from hs) Bool.false_ne_true
  | _=>cases y <;> exact absurd (show false=true from hs) Bool.false_ne_true
theorem op_ne:OpR X (compareOp .NotEq) rNe:=by
  intro pins s σ H x y v u Q I rx ry h
  obtain ⟨hs,q⟩:=h
  cases x with
  | non =>
    cases rx
    cases y with
    | non=>cases ry;exact PySem.EqNone.ne_none_none (fin_bl I q (by simp))
    | bl j=>cases ry;exact PySem.EqNone.ne_none_bool (fin_bl I q (by simp))
    | int j=>obtain ⟨t',rfl⟩:=ry;exact PySem.EqNone.ne_none_int (fin_bl I q (by simp))
    | str j=>obtain ⟨t',rfl⟩:=ry;exact PySem.EqNone.ne_none_str (fin_bl I q (by simp))
    | _=>exact absurd (show false=true from hs) Bool.false_ne_true
  | bl i =>
    cases rx
    cases y with
    | non=>cases ry;exact PySem.EqNone.ne_bool_none (fin_bl I q (by simp))
    | bl j=>cases ry;exact ne_bool (fin_bl I q (congrArg not dec_bl))
    | str j=>obtain ⟨t',rfl⟩:=ry;exact PySem.EqMixed.ne_bool_str (fin_bl I q (by simp))
    | _=>exact absurd (show false=true from hs) Bool.false_ne_true
  | int i =>
    obtain ⟨t,rfl⟩:=rx
    cases y with
    | non=>cases ry;exact PySem.EqNone.ne_int_none (fin_bl I q (by simp))
    | int j=>obtain ⟨t',rfl⟩:=ry;exact ne_int (fin_bl I q (congrArg not dec_int))
    | str j=>obtain ⟨t',rfl⟩:=ry;exact PySem.EqMixed.ne_int_str (fin_bl I q (by simp))
    | _=>exact absurd (show false=true from hs) Bool.false_ne_true
  | str i =>
    obtain ⟨t,rfl⟩:=rx
    cases y with
    | non=>cases ry;exact PySem.EqNone.ne_str_none (fin_bl I q (by simp))
    | bl j=>cases ry;exact PySem.EqMixed.ne_str_bool (fin_bl I q (by simp))
    | int j=>obtain ⟨t',rfl⟩:=ry;exact PySem.EqMixed.ne_str_int (fin_bl I q (by simp))
    | str j=>obtain ⟨t',rfl⟩:=ry;exact ne_str (fin_bl I q (congrArg not dec_str))
    | _=>exact absurd (show false=true from hs) Bool.false_ne_true
  | byt i =>
    obtain ⟨t,rfl⟩:=rx
    cases y with
    | byt j=>obtain ⟨t',rfl⟩:=ry;exact PySem.W.ne_bytes (fin_bl I q (congrArg not dec_byt))
    | _=>exact absurd (show false=true from hs) Bool.false_ne_true
  | _=>cases y <;> exact absurd (show false=true from hs) Bool.false_ne_true
theorem op_lt:OpR X (compareOp .Lt) (rI0 fun i j=>.bl (decide (i < j))):=opB0 fun _ _ _ _ _ _ _ q=>lt_int q
theorem op_le:OpR X (compareOp .LtE) (rI0 fun i j=>.bl (decide (i≤j))):=opB0 fun _ _ _ _ _ _ _ q=>le_int q
theorem op_gt:OpR X (compareOp .Gt) (rI0 fun i j=>.bl (decide (j < i))):=opB0 fun _ _ _ _ _ _ _ q=>gt_int q
theorem op_ge:OpR X (compareOp .GtE) (rI0 fun i j=>.bl (decide (j≤i))):=opB0 fun _ _ _ _ _ _ _ q=>ge_int q
theorem op_in_str:OpR X (compareOp .In) (fun x y H Q=>∃ i j,x=.str i∧y=.str j∧Q (.bl (!(Builtin.Str.occurrences j i 0 j.length 1).isEmpty)) H):=by
  intro pins s σ H x y v u Q I rx ry h
  obtain ⟨i,j,rfl,rfl,q⟩:=h
  obtain ⟨t,rfl⟩:=rx
  obtain ⟨t',rfl⟩:=ry
  exact in_str (fin_bl I q rfl)
theorem op_notin_str:OpR X (compareOp .NotIn) (fun x y H Q=>∃ i j,x=.str i∧y=.str j∧Q (.bl (!(!(Builtin.Str.occurrences j i 0 j.length 1).isEmpty))) H):=by
  intro pins s σ H x y v u Q I rx ry h
  obtain ⟨i,j,rfl,rfl,q⟩:=h
  obtain ⟨t,rfl⟩:=rx
  obtain ⟨t',rfl⟩:=ry
  exact notIn_str (fin_bl I q rfl)
theorem OpR.or {f:Value→Value→Sem Value} {r r':R2} (h:OpR X f r) (h':OpR X f r'):OpR X f (fun x y H Q=>r x y H Q∨r' x y H Q):=by
  intro pins s σ H x y v u Q I rx ry q
  rcases q with q | q
  · exact h pins s σ H x y v u Q I rx ry q
  · exact h' pins s σ H x y v u Q I rx ry q
theorem nomark (b:Expr) {op:CmpOp} (h:op≠.In:=by decide) (h2:op≠.NotIn:=by decide):behindInMarks op b=false:=by
  have e1:(op == CmpOp.In)=false:=by cases op <;> first | rfl | exact absurd rfl h
  have e2:(op == CmpOp.NotIn)=false:=by cases op <;> first | rfl | exact absurd rfl h2
  cases b <;> simp [behindInMarks,e1,e2]
theorem pe_cmpR {op:CmpOp} {r:R2} (ho:OpR X (compareOp op) r) (ha:PE X a ta) (hb:PE X b tb) (hm:behindInMarks op b=false):PE X (.Compare a [op] [b] pos) (tOp r ta tb):=by
  intro pins s σ H Q I h
  exact wpAny_Compare1 (binT ha hb I h fun v u s2 x y H2 I2 rx ry q=>ho pins s2 σ H2 x y v u Q I2 rx ry q) hm
def tTest (t:TE):TT:=fun σ H Q=>t σ H fun x H'=>∃ k,x=.bl k∧Q k H'
theorem pt_cmpR {op:CmpOp} {r:R2} (ho:OpR X (compareOp op) r) (ha:PE X a ta) (hb:PE X b tb) (hm:behindInMarks op b=false):PT X (.Compare a [op] [b] pos) (tTest (tOp r ta tb)):=by
  intro pins s σ H Q I h
  refine wpAny_isTrue_Compare1 (thn (ha pins s σ H _ I h) fun v s1 ⟨x,H1,I1,r1,q1⟩=>thn (hb pins s1 σ H1 _ I1 q1) fun u s2 ⟨y,H2,I2,r2,q2⟩ =>
    thn (ho pins s2 σ H2 x y v u _ I2 r1 r2 q2) fun c s3 ⟨z,H3,I3,r3,k,e,q3⟩=>?_) hm
  subst e
  cases r3
  exact wpAny_truthy_bool ⟨H3,I3,q3⟩
def tChain (r r':R2) (ta tb tc:TE):TE:=fun σ H Q=>ta σ H fun x H1=>tb σ H1 fun y H2=>r x y H2 fun z H3=>∃ k,z=.bl k ∧
  (if k=true then tc σ H3 fun w' H4=>r' y w' H4 Q else Q (.bl false) H3)
theorem pe_chain {op op':CmpOp} {r r':R2} (ho:OpR X (compareOp op) r) (ho':OpR X (compareOp op') r') (ha:PE X a ta) (hb:PE X b tb) (hc:PE X c tc)
    (hm:lastMarks [op,op'] [b,c]=false:=by with_unfolding_all rfl):PE X (.Compare a [op,op'] [b,c] pos) (tChain r r' ta tb tc):=by
  intro pins s σ H Q I h
  refine Compare_chain (thn (ha pins s σ H _ I h) fun v s1 ⟨x,H1,I1,r1,q1⟩=>chain_link (thn (hb pins s1 σ H1 _ I1 q1) fun u s2 ⟨y,H2,I2,r2,q2⟩ =>
    thn (ho pins s2 σ H2 x y v u _ I2 r1 r2 q2) fun d s3 ⟨z,H3,I3,r3,k,e,q3⟩=>?_)) hm
  subst e
  cases r3
  refine wpAny_truthy_bool ?_
  cases k with
  | false=>exact ite_ff ⟨.bl false,H3,I3,rfl,q3⟩
  | true=>exact ite_tt (chain_last (thn (hc pins s3 σ H3 _ I3 q3) fun w' s4 ⟨z',H4,I4,r4,q4⟩=>ho' pins s4 σ H4 y z' u w' Q I4 r2 r4 q4))
theorem pt_chain {op op':CmpOp} {r r':R2} (ho:OpR X (compareOp op) r) (ho':OpR X (compareOp op') r') (ha:PE X a ta) (hb:PE X b tb) (hc:PE X c tc)
    (hm:lastMarks [op,op'] [b,c]=false:=by with_unfolding_all rfl):PT X (.Compare a [op,op'] [b,c] pos) (tTest (tChain r r' ta tb tc)):=by
  intro pins s σ H Q I h
  refine isTrue_chain (thn (ha pins s σ H _ I h) fun v s1 ⟨x,H1,I1,r1,q1⟩=>test_link (thn (hb pins s1 σ H1 _ I1 q1) fun u s2 ⟨y,H2,I2,r2,q2⟩ =>
    thn (ho pins s2 σ H2 x y v u _ I2 r1 r2 q2) fun d s3 ⟨z,H3,I3,r3,k,e,q3⟩=>?_)) hm
  subst e
  cases r3
  refine wpAny_truthy_bool ?_
  cases k with
  | false =>
    obtain ⟨k',e',q'⟩:=q3
    cases e'
    exact ite_ff ⟨H3,I3,q'⟩
  | true =>
    refine ite_tt (test_last (thn (hc pins s3 σ H3 _ I3 q3) fun w' s4 ⟨z',H4,I4,r4,q4⟩=>thn (ho' pins s4 σ H4 y z' u w' _ I4 r2 r4 q4) fun d' s5 ⟨z2,H5,I5,r5,k2,e2,q5⟩=>?_))
    subst e2
    cases r5
    exact wpAny_truthy_bool ⟨H5,I5,q5⟩
def TruV (K:PySem.W.Frag) (x:V) (H:Hp) (k:Bool):Prop :=
  match x with
  | .non=>k=false
  | .bl b=>k=b
  | .int i=>k=(i != 0)
  | .str y=>y.length≤sizeLine∧k=((y.length:Int) != 0)
  | .byt y=>y.size≤sizeLine∧k=((y.size:Int) != 0)
  | .ref p=>(∃ xs,SqL K H p xs∧k = !xs.isEmpty)∨(∃ xs,SqT K H p xs∧k = !xs.isEmpty)∨∃ kvs,H p=some (.dK kvs)∧k = !kvs.isEmpty
  | _=>False
theorem isEmpty_kv {κ:Type} {kvs:List (κ × V)} {vs:List (κ × Value)} (r:KV kvs vs):(!vs.isEmpty) = !kvs.isEmpty:=by
  cases r <;> rfl
theorem isEmpty_of {xs:List V} {its:List Value} (r:Vals xs its):(!its.toArray.isEmpty) = !xs.isEmpty:=by
  cases r <;> simp
theorem line63:(sizeLine:Nat) < 2 ^ 63:=by rw [sizeLine_eq];decide
theorem tru_ok:TruR X (fun x H Q=>∃ k,TruV X.K x H k∧Q k H):=by
  intro pins s σ H x v Q I rx h
  obtain ⟨k,e,q⟩:=h
  have hl:=line63
  have hs:sizeLine=16777216:=sizeLine_eq
  cases x with
  | non =>
    cases rx
    have e':k=false:=e
    subst e'
    exact truthy_none ⟨H,I,q⟩
  | bl b =>
    cases rx
    have e':k=b:=e
    subst e'
    exact wpAny_truthy_bool ⟨H,I,q⟩
  | int i =>
    obtain ⟨t,rfl⟩:=rx
    have e':k=(i != 0):=e
    subst e'
    exact PySem.P.truthy_int ⟨H,I,q⟩
  | str y =>
    obtain ⟨t,rfl⟩:=rx
    obtain ⟨hy,e'⟩:y.length≤sizeLine∧k=((y.length:Int) != 0):=e
    subst e'
    exact PySem.P.truthy_str (by omega) ⟨H,I.tok _,q⟩
  | byt y =>
    obtain ⟨t,rfl⟩:=rx
    obtain ⟨hy,e'⟩:y.size≤sizeLine∧k=((y.size:Int) != 0):=e
    subst e'
    exact PySem.W.truthy_bytes (by omega) ⟨H,I.tok _,q⟩
  | ref p =>
    cases rx
    have e':(∃ xs,SqL X.K H p xs∧k = !xs.isEmpty)∨(∃ xs,SqT X.K H p xs∧k = !xs.isEmpty)∨∃ kvs,H p=some (.dK kvs)∧k = !kvs.isEmpty:=e
    rcases e' with ⟨xs,hx,e'⟩ | ⟨xs,hx,e'⟩ | ⟨kvs,hx,e'⟩
    · subst e'
      obtain ⟨its,r,pl,hz⟩:=I.list hx
      have hlen:=r.length
      exact wpAny_truthy_list pl.isList (by simp only [List.size_toArray];omega) ⟨H,I.tok _,by rw [isEmpty_of r];exact q⟩
    · subst e'
      obtain ⟨its,r,pl,hz⟩:=I.tuple hx
      have hlen:=r.length
      exact truthy_tuple pl (by simp only [List.size_toArray];omega) ⟨H,I.tok _,by rw [isEmpty_of r];exact q⟩
    · subst e'
      obtain ⟨hz,hS,vs,r,m⟩:kvs.length≤sizeLine∧(p == sysModules)=false∧∃ vs,KV kvs vs∧s.heap.DictOf (mixKind X.prog X.w) p vs:=I.hok p _ hx
      have hlen:kvs.length=vs.length:=Paired.length r
      exact wpAny_truthy_dict hS m (by omega) ⟨H,I.tok _,by rw [isEmpty_kv r];exact q⟩
  | _=>exact (show False from e).elim
theorem pt_truth (ha:PE X a ta) (he:∀ whole,isTrue a X.env whole=(do let v ← whole;standAt a.pos;holding [v] (truthy v))) :
    PT X a (fun σ H Q=>ta σ H fun x H'=>∃ k,TruV X.K x H' k∧Q k H'):=by
  intro pins s σ H Q I h
  exact isTrue_plain (thn (ha pins s σ H _ I h) fun v s1 ⟨x,H1,I1,r1,q1⟩=>tru_ok pins s1 σ H1 x v Q I1 r1 q1) (he _)
theorem op_add_str:OpR X (binaryOp .Add) (fun x y H Q=>∃ i j,x=.str i∧y=.str j∧i.length+j.length≤sizeLine∧Q (.str (i++j)) H):=by
  intro pins s σ H x y v u Q I rx ry h
  obtain ⟨i,j,rfl,rfl,hz,q⟩:=h
  obtain ⟨t,rfl⟩:=rx
  obtain ⟨t',rfl⟩:=ry
  exact add_str (fun t' tk=>⟨.str (i++j),H,I.tok _,⟨_,rfl⟩,q⟩) hz
theorem iop_add_str:OpR X (inplaceOp .Add) (fun x y H Q=>∃ i j,x=.str i∧y=.str j∧i.length+j.length≤sizeLine∧Q (.str (i++j)) H):=by
  intro pins s σ H x y v u Q I rx ry h
  obtain ⟨i,j,rfl,rfl,hz,q⟩:=h
  obtain ⟨t,rfl⟩:=rx
  obtain ⟨t',rfl⟩:=ry
  exact iadd_str (fun t' tk=>⟨.str (i++j),H,I.tok _,⟨_,rfl⟩,q⟩) hz
theorem vals1 {x:V} {us:List Value} (r:Vals [x] us):∃ u,us=[u]∧RelV x u:=by
  cases r with
  | cons r1 r2=>cases r2;exact ⟨_,rfl,r1⟩
theorem vals2 {x y:V} {us:List Value} (r:Vals [x,y] us):∃ u w',us=[u,w']∧RelV x u∧RelV y w':=by
  cases r with
  | cons r1 r2 =>
    cases r2 with
    | cons r3 r4=>cases r4;exact ⟨_,_,rfl,r1,r3⟩
theorem call_min2 (hc:X.calm=true):CallR X (.builtin "min") (fun xs H Q=>∃ i j,xs=[.int i,.int j]∧Q (.int (if j < i then j else i)) H):=by
  intro pins s σ H xs us Q I r h
  obtain ⟨i,j,rfl,q⟩:=h
  obtain ⟨u,w',rfl,⟨t,rfl⟩,⟨t',rfl⟩⟩:=vals2 r
  refine min_two_ints (I.ok.hd hc) fun h' tk k=>⟨_,H,I.kept k,?_,q⟩
  by_cases hj:j < i
  · rw [if_pos hj,if_pos hj];exact ⟨_,rfl⟩
  · rw [if_neg hj,if_neg hj];exact ⟨_,rfl⟩
theorem call_int1:CallR X (.type "int") (fun xs H Q=>(∃ i,xs=[.int i]∧Q (.int i) H)∨∃ k,xs=[.bl k]∧Q (.int (if k then 1 else 0)) H):=by
  intro pins s σ H xs us Q I r h
  rcases h with ⟨i,rfl,q⟩ | ⟨k,rfl,q⟩
  · obtain ⟨u,rfl,t,rfl⟩:=vals1 r
    exact call_int_int ⟨.int i,H,I,⟨_,rfl⟩,q⟩
  · obtain ⟨u,rfl,r1⟩:=vals1 r
    cases r1
    exact call_int_bool ⟨.int (if k then 1 else 0),H,I.tok _,⟨_,rfl⟩,q⟩
end
end L2
namespace L2
open PySem PySem.Spec PyProof.Rows
structure ObjM (h:Heap) (x dx C:Addr) (mA:Str→Option Value):Prop where
  obj:h.get? x=some (PySem.W.instObj C dx)
  ns:h.Ns1 dx mA
  ne:dx≠x
theorem lookIn_ns {h:Heap} {dx:Addr} {mA:Str→Option Value} (n:h.Ns1 dx mA):∃ od,h.get? dx=some od∧∀ name,PySem.W.lookIn name od=some (mA name):=by
  obtain ⟨o,es,ep,ho,hd,hk,_,hm⟩:=n
  refine ⟨o,ho,fun name=>?_⟩
  have e:=hm name
  unfold nsFind findBy at e
  rw [← Array.find?_toList] at e
  unfold PySem.W.lookIn
  rw [hd]
  dsimp only
  split
  · rename_i y q
    rw [q] at e
    exact congrArg some e
  · rename_i q
    rw [q] at e
    have a:es.toList.any (·.refKey)=false:=by
      rw [List.any_eq_false]
      intro y hy
      obtain ⟨z,t,hkey⟩:=hk y (Array.mem_toList_iff.mp hy)
      simp [DictEntry.refKey,hkey]
    have a':¬ es.toList.any (·.refKey)=true:=by rw [a];exact Bool.false_ne_true
    rw [if_neg a']
    exact congrArg some e
theorem ObjM.look {h:Heap} {x dx C:Addr} {mA:Str→Option Value} (I:ObjM h x dx C mA):∃ od,PySem.W.InstAt h x (PySem.W.instObj C dx) C (some od)∧∀ name,PySem.W.lookIn name od=some (mA name) :=
  let ⟨od,ho,hl⟩:=lookIn_ns I.ns
  ⟨od,⟨I.obj,rfl,rfl,ho⟩,hl⟩
section
variable {prog:Program} {w:World} {A:Around} {E:Value→Shared→Prop} {s:Shared} {K:PySem.W.Frag} {x dx C f:Addr} {mA:Str→Option Value} {name:Str} {v:Value}
end
theorem RelO.some_of {v:V} {o:Option Value} (r:RelO (some v) o):∃ u,o=some u∧RelV v u:=by
  cases o with
  | none=>exact (show False from r).elim
  | some u=>exact ⟨u,rfl,r⟩
section
variable {P:Program} {w:World} {H H':Hp} {h h':Heap} {a C dx:Addr} {fs fs':List (Str × V)}
theorem ins_get (hok:HOk P w H h) (e:H a=some (.ins C dx fs)):∃ mA,ObjM h a dx C mA∧(∀ f,RelO (fs.lookup f) (mA f))∧PySem.Within mA (fs.map (·.1))∧fs.length≤1000∧H dx=some (.own a):=by
  obtain ⟨d,z,ne,ob,mA,n,r,q⟩:=(show ObjOk P w H h a (.ins C dx fs) from hok a _ e)
  exact ⟨mA,⟨ob,n,ne⟩,r,q,z,d⟩
end
structure Cls (K:PySem.W.Frag) (C:Addr):Prop where
  pg:PySem.W.plainGet K C Str.empty=true
  hd:PySem.W.hasDictIn K C=true
  po:PySem.W.plainOver K C=true
  sa:PySem.W.findIn K (.ref C) "__setattr__" = some (some (.builtin "object.__setattr__"))
theorem Cls.get {K:PySem.W.Frag} {C:Addr} (c:Cls K C) (f:Str):PySem.W.plainGet K C f=true:=c.pg
structure Con (K:PySem.W.Frag) (C:Addr) (f:Str) (v:V) (u:Value):Prop where
  at_:PySem.W.findIn K (.ref C) f=some (some u)
  rel:RelV v u
  get:PySem.W.specialIn K u "__get__" = some none
  cp:PySem.W.copiedNames.contains f=false
structure Meth (K:PySem.W.Frag) (C:Addr) (m:Str) (f:Addr):Prop where
  at_:PySem.W.findIn K (.ref C) m=some (some (.ref f))
  fn:PySem.W.isFn K (.ref f)=true
  kp:PySem.W.keepIn K (.ref f)=true
section
variable {X:Cx} {pins:List (Addr × Obj)} {σ:St} {H:Hp} {s:Shared} {a C dx:Addr} {fs:List (Str × V)} {f:Str} {v:V} {A:Around} {E:Value→Shared→Prop}
theorem Inv.made (I:Inv X pins σ H s):Inv X pins σ (upd (upd H s.heap.objs.size (.own (s.heap.objs.size+1))) (s.heap.objs.size+1) (.ins C s.heap.objs.size []))
    { s with heap:=(s.heap.push PySem.W.emptyDict).push (PySem.W.instObj C s.heap.objs.size) }:=by
  have e1:(s.heap.push PySem.W.emptyDict).get? s.heap.objs.size=some PySem.W.emptyDict:=Heap.get?_push_size s.heap rfl
  have e2:((s.heap.push PySem.W.emptyDict).push (PySem.W.instObj C s.heap.objs.size)).get? (s.heap.objs.size+1)=some (PySem.W.instObj C s.heap.objs.size):=by
    have:=Heap.get?_push_size (s.heap.push PySem.W.emptyDict) (o:=PySem.W.instObj C s.heap.objs.size) rfl
    rwa [Heap.size_push] at this
  have e3:(s.heap.push PySem.W.emptyDict).Ns s.heap.objs.size (fun _=>none):=⟨PySem.W.emptyDict,#[],_,e1,rfl,(fun e he=>absurd he (by simp)),fun _=>rfl⟩
  have I1:=I.laid (a:=s.heap.objs.size) (o:=.own (s.heap.objs.size+1)) (h':=s.heap.push PySem.W.emptyDict) (t':=s.toks) (fun b u q=>Heap.get?_push_of_some _ q) (Nat.le_refl _) ⟨_,e1⟩
  refine I1.laid (a:=s.heap.objs.size+1) (o:=.ins C s.heap.objs.size []) (t':=s.toks) (fun b u q=>Heap.get?_push_of_some _ q) (Nat.le_of_eq (Heap.size_push _ _)) ?_
  have ne:s.heap.objs.size≠s.heap.objs.size+1:=Nat.ne_of_lt (Nat.lt_succ_self _)
  refine ⟨by rw [upd_ne ne,upd_same],Nat.zero_le _,ne,e2,fun _=>none,(Heap.Ns1.of_empty e3).at fun o q=>Heap.get?_push_of_some _ q,fun _=>True.intro,fun y hy=>absurd rfl hy⟩
end
section
variable {X:Cx} {o e value:Expr} {f:Str} {pos pos' tpos:Pos} {ta tv:TE}
end
section
variable {X:Cx} {pins:List (Addr × Obj)} {σ:St} {H:Hp} {s:Shared} {A:Around} {E:Value→Shared→Prop} {Q:Value→Shared→Prop} {c:Value} {b:Bool}
inductive TyOf (K:PySem.W.Frag) (H:Hp):V→Value→Prop where
  | non:TyOf K H .non (.type "NoneType")
  | bl (x:Bool):TyOf K H (.bl x) (.type "bool")
  | int (i:Int):TyOf K H (.int i) (.type "int")
  | str (x:Str):TyOf K H (.str x) (.type "str")
  | flt (x:UInt64):TyOf K H (.flt x) (.type "float")
  | lst {a:Addr} {xs:List V} (e:H a=some (.lst xs)):TyOf K H (.ref a) (.type "list")
  | frz {a:Addr} {o:Obj} {xs:List V} (e:H a=some (.frz o (.lst xs))):TyOf K H (.ref a) (.type "list")
  | tup {a:Addr} {xs:List V} (e:H a=some (.tup xs)):TyOf K H (.ref a) (.type "tuple")
  | dK {a:Addr} {kvs:List (Key × V)} (e:H a=some (.dK kvs)):TyOf K H (.ref a) (.type "dict")
  | dT {a:Addr} {kvs:List (List Key × V)} (e:H a=some (.dT kvs)):TyOf K H (.ref a) (.type "dict")
  | ins {a C dx:Addr} {fs:List (Str × V)} (e:H a=some (.ins C dx fs)) (cl:Cls K C) (ha:PySem.W.findIn K (.ref C) "__class__" = some (some (.builtin "object.__class__")))
      (hn:PySem.W.specialIn K (.builtin "object.__class__") "__get__" = some (some (.builtin "getset_descriptor.__get__"))) (htk:PySem.W.takesIn K (.builtin "object.__class__")=some true)
      (hm:PySem.W.mroIn K C (.type "object")=some true):TyOf K H (.ref a) (.ref C)
theorem isinst_ok {x:V} {u t:Value} (I:Inv X pins σ H s) (rx:RelV x u) (ty:TyOf X.K H x t) (e:PySem.W.kitOne X.K t c=some b) (h:∀ tk,Q (.bool b) { s with toks:=tk }) :
    wpAny (model X.prog X.w) A (call (.builtin "isinstance") [u,c]) Q E s:=by
  cases ty with
  | non=>cases (show u=Value.none from rx);exact PySem.W.kia_one PySem.W.kitx_none I.kIn True.intro e (fun z=>nomatch z) h
  | bl y=>cases (show u=Value.bool y from rx);exact PySem.W.kia_one PySem.W.kitx_bool I.kIn True.intro e (fun z=>nomatch z) h
  | int i=>obtain ⟨t,q⟩:=(show ∃ t,u=Value.int i t from rx);cases q;exact PySem.W.kia_one PySem.W.kitx_int I.kIn True.intro e (fun z=>nomatch z) h
  | str y=>obtain ⟨t,q⟩:=(show ∃ t,u=Value.str y t from rx);cases q;exact PySem.W.kia_one PySem.W.kitx_str I.kIn True.intro e (fun z=>nomatch z) h
  | flt y=>obtain ⟨t,q⟩:=(show ∃ t,u=Value.float y t from rx);cases q;exact PySem.W.kia_one PySem.W.kitx_float I.kIn True.intro e (fun z=>nomatch z) h
  | @lst a xs ea =>
    cases (show u=Value.ref a from rx)
    obtain ⟨_,_,n,_,h1⟩:=(show ObjOk X.prog X.w H s.heap a (.lst xs) from I.hok a _ ea)
    exact PySem.W.kia_one PySem.W.kitx_list I.kIn ⟨_,h1,rfl⟩ e (fun z=>nomatch z) h
  | @frz a ob xs ea =>
    cases (show u=Value.ref a from rx)
    obtain ⟨_,_,_,n,_,h1⟩:=(show ObjOk X.prog X.w H s.heap a (.frz ob (.lst xs)) from I.hok a _ ea)
    exact PySem.W.kia_one PySem.W.kitx_list I.kIn ⟨_,h1,rfl⟩ e (fun z=>nomatch z) h
  | @tup a xs ea =>
    cases (show u=Value.ref a from rx)
    obtain ⟨_,_,_,p,_⟩:=(show ObjOk X.prog X.w H s.heap a (.tup xs) from I.hok a _ ea)
    obtain ⟨o,h1,h2,_⟩:=p
    exact PySem.W.kia_one PySem.W.kitx_tuple I.kIn ⟨o,h1,h2⟩ e (fun z=>nomatch z) h
  | @dK a kvs ea =>
    cases (show u=Value.ref a from rx)
    obtain ⟨_,_,vs,_,p⟩:=(show ObjOk X.prog X.w H s.heap a (.dK kvs) from I.hok a _ ea)
    obtain ⟨o,es,ep,h1,h2,_⟩:=p
    exact PySem.W.kia_one PySem.W.kitx_dict I.kIn ⟨o,h1,h2.1⟩ e (fun z=>nomatch z) h
  | @dT a kvs ea =>
    cases (show u=Value.ref a from rx)
    obtain ⟨_,_,xs,_,o,es,ep,h1,h2,_⟩:=(show ObjOk X.prog X.w H s.heap a (.dT kvs) from I.hok a _ ea)
    exact PySem.W.kia_one PySem.W.kitx_dict I.kIn ⟨o,h1,h2.1⟩ e (fun z=>nomatch z) h
  | @ins a C dx fs ea cl ha hn htk hm =>
    cases (show u=Value.ref a from rx)
    obtain ⟨mA,O,_⟩:=ins_get I.hok ea
    obtain ⟨od,J,_⟩:=O.look
    exact PySem.W.kia_one (PySem.W.kitx_own (cl.get _) cl.hd ha hn htk hm) I.kIn J e (fun z=>nomatch z) h
end
end L2
namespace L2
open PySem PySem.Spec PyProof.Rows
structure Room (k:Nat) (A:Around):Prop where
  hd:A.handled=none
  dp:A.depth+3 * k+5 < recursionLimit
  un:A.units+16 * k+200 < cLine
theorem Room.mono {j k:Nat} {A:Around} (r:Room k A) (h:j≤k):Room j A:=⟨r.hd,by have:=r.dp;omega,by have:=r.un;omega⟩
theorem Room.deeper {k:Nat} {A:Around} (r:Room (k+1) A) (env:Env):Room k (A.deeper env) :=
  ⟨r.hd,by have:=r.dp;show A.depth+1+3 * k+5 < _;omega,by have:=r.un;show A.units+3+16 * k+200 < _;omega⟩
theorem Room.in1 {k:Nat} {A:Around} (r:Room (k+1) A):Room k A.in1 :=
  ⟨r.hd,by have:=r.dp;show A.depth+3 * k+5 < _;omega,by have:=r.un;show A.units+1+16 * k+200 < _;omega⟩
theorem Room.depth {k:Nat} {A:Around} (r:Room k A):A.depth < recursionLimit:=by have:=r.dp;omega
theorem Room.units {k:Nat} {A:Around} (r:Room k A):A.units+64 < cLine:=by have:=r.un;omega
def tNil:TA:=fun _ H Q=>Q [] H
def tCons (ta:TE) (tr:TA):TA:=fun σ H Q=>ta σ H fun x H1=>tr σ H1 fun xs H2=>Q (x :: xs) H2
section
variable {X:Cx} {e:Expr} {es:List Expr} {te:TE} {t:TA} {pos:Pos}
theorem pa_nil:PA X [] tNil:=fun _ _ _ _ H Q I h=>Calls.spliced_nil ⟨[],H,I,.nil,h⟩
theorem pa_cons (ha:PE X e te) (hr:PA X es t) (hs:starEach (e :: es) X.env=(false,eval e X.env) :: starEach es X.env:=by rfl):PA X (e :: es) (tCons te t):=by
  intro pos pins s σ H Q I h
  rw [hs]
  show wpAny _ _ (spliced ((false,eval e X.env) :: backTo pos (starEach es X.env))) _ _ s
  refine Calls.spliced_cons (thn (ha pins s σ H _ I h) fun u s1 ⟨x,H1,I1,r1,q1⟩=>?_)
  exact thn (hr pos pins s1 σ H1 _ I1 q1) fun us s2 ⟨xs,H2,I2,r2,q2⟩=>⟨x :: xs,H2,I2,.cons r1 r2,q2⟩
def tTup (t:TA):TE:=fun σ H Q=>t σ H fun xs H1=>xs.length≤sizeLine∧∀ p,H1 p=none→Q (.ref p) (upd H1 p (.tup xs))
def tLst (t:TA):TE:=fun σ H Q=>t σ H fun xs H1=>xs.length≤sizeLine∧∀ p,H1 p=none→Q (.ref p) (upd H1 p (.lst xs))
theorem pe_tup {x1} (h:PA X es t):PE X (.Tuple es x1 pos) (tTup t):=by
  intro pins s σ H Q I hq
  refine wpAny_Tuple_spliced (thn (h pos pins s σ H _ I hq) fun us s1 ⟨xs,H1,I1,r,z,q⟩=>⟨by rw [← r.length];exact z,?_⟩)
  have hf:H1 s1.heap.objs.size=none:=I1.hok.fresh (Nat.le_refl _)
  refine ⟨.ref s1.heap.objs.size,upd H1 s1.heap.objs.size (.tup xs),I1.laid (t':=s1.toks) (fun b u e=>Heap.get?_push_of_some _ e) (Nat.le_refl _) ?_,rfl,q _ hf⟩
  exact ⟨z,us,r,⟨_,Heap.get?_push_size _ rfl,rfl,_,rfl⟩,_,Heap.get?_push_size _ rfl,rfl⟩
theorem pe_lst (h:PA X es t):PE X (.List es pos) (tLst t):=by
  intro pins s σ H Q I hq
  refine wpAny_List_spliced (thn (h pos pins s σ H _ I hq) fun us s1 ⟨xs,H1,I1,r,z,q⟩=>⟨by rw [← r.length];exact z,?_⟩)
  have hf:H1 s1.heap.objs.size=none:=I1.hok.fresh (Nat.le_refl _)
  refine ⟨.ref s1.heap.objs.size,upd H1 s1.heap.objs.size (.lst xs),I1.laid (t':=s1.toks) (fun b u e=>Heap.get?_push_of_some _ e) (Nat.le_refl _) ?_,rfl,q _ hf⟩
  exact ⟨z,us,0,r,Heap.get?_push_size _ rfl⟩
end
abbrev Sp:=List V→Hp→VK→XK→Prop
abbrev CXT:=List Env→Hp→Shared→XK→Value→Shared→Prop
structure Env0 (P:Program) (w:World) (K:PySem.W.Frag) (mg:Str→Option Value) (base:Heap) (A:Around) (outer:List Env) (s:Shared) (H:Hp):Prop where
  frames:A.frames=some outer
  mod:Mod K mg base
  bs:∀ b o,base.get? b=some o→s.heap.get? b=some o∧H b=none
  bsz:base.objs.size≤s.heap.objs.size
  funs:s.heap.FunFrames base outer
  frf:∀ b∈frs outer,H b=none
  hok:HOk P w H s.heap
  bare:AllBare s.gens
def CE (outer:List Env) (P:Program) (w:World) (H:Hp) (s:Shared) (Q:VK) (u:Value) (s':Shared):Prop :=
  ∃ v H',s'.os=s.os∧AllBare s'.gens∧Un (frs outer) [] H H' s.heap s'.heap∧HOk P w H' s'.heap∧RelV v u∧Q v H'
def CR (CX:CXT) (outer:List Env) (P:Program) (w:World) (H:Hp) (s:Shared) (Q:VK) (E:XK) (r:Result) (s':Shared):Prop :=
  match r with
  | .ok (.ret u)=>CE outer P w H s Q u s'
  | .ok _=>False
  | .error e=>CX outer H s E e s'
structure FnOk (P:Program) (w:World) (K:PySem.W.Frag) (mg:Str→Option Value) (base:Heap) (CX:CXT) (k:Nat) (f:Addr) (fd:FuncData) (ps:List Str) (sp:Sp):Prop where
  len:∀ vs H Q E,sp vs H Q E→vs.length=ps.length
  run:∀ (A:Around) (outer:List Env) (s:Shared) (H:Hp) (args:Args) (us:List Value) (vs:List V) (Q:VK) (E:XK),Room k A→Env0 P w K mg base A outer s H→BindsTo s fd args (ps.zip us)→Vals vs us→sp vs H Q E →
    codeAny (model P w) A (.call (.ref f) args) (CR CX outer P w H s Q E) s
theorem FnOk.mono {P:Program} {w:World} {K:PySem.W.Frag} {mg:Str→Option Value} {base:Heap} {CX:CXT} {j k:Nat} {f:Addr} {fd:FuncData} {ps:List Str} {sp:Sp} (F:FnOk P w K mg base CX j f fd ps sp) (h:j≤k) :
    FnOk P w K mg base CX k f fd ps sp:=⟨F.len,fun A outer s H args us vs Q E hr=>F.run A outer s H args us vs Q E (hr.mono h)⟩
theorem FnOk.imp {P:Program} {w:World} {K:PySem.W.Frag} {mg:Str→Option Value} {base:Heap} {CX:CXT} {k:Nat} {f:Addr} {fd:FuncData} {ps:List Str} {sp sp':Sp} (F:FnOk P w K mg base CX k f fd ps sp)
    (h:∀ vs H Q E,sp' vs H Q E→sp vs H Q E):FnOk P w K mg base CX k f fd ps sp' :=
  ⟨fun vs H Q E q=>F.len vs H Q E (h _ _ _ _ q),fun A outer s H args us vs Q E hr he hb hv hs=>F.run A outer s H args us vs Q E hr he hb hv (h _ _ _ _ hs)⟩
theorem Env0.in1 {P:Program} {w:World} {K:PySem.W.Frag} {mg:Str→Option Value} {base:Heap} {A:Around} {outer:List Env} {s:Shared} {H:Hp} (e:Env0 P w K mg base A outer s H) :
    Env0 P w K mg base A.in1 outer s H:=⟨e.frames,e.mod,e.bs,e.bsz,e.funs,e.frf,e.hok,e.bare⟩
section
variable {X:Cx} {pins:List (Addr × Obj)} {σ:St} {H:Hp} {s s':Shared}
theorem Inv.env0 (I:Inv X pins σ H s):Env0 X.prog X.w X.K X.mg X.base X.A X.stack s H :=
  ⟨I.ok.frames,I.ok.mod,I.bs,Nat.le_trans I.ok.bsz I.sz,I.stack,I.stkFree,I.hok,I.bare⟩
theorem Inv.after {Q:VK} {u:Value} (I:Inv X pins σ H s) (h:CE X.stack X.prog X.w H s Q u s'):EP X pins σ Q u s':=by
  obtain ⟨v,H',os,bare,un,hok,r,q⟩:=h
  obtain ⟨hh,g,d,t,os'⟩:=s'
  obtain rfl:os'=s.os:=os
  exact ⟨v,H',I.call (h':=hh) (g':=g) (d':=d) (t':=t) (ch:=[]) un hok bare (fun b z=>absurd z (by simp)),r,q⟩
end
def tCall (sp:Sp) (dvs:List V) (E:XK) (t:TA):TE:=fun σ H Q=>t σ H fun vs H1=>sp (vs++dvs) H1 Q E
def Binds (K:PySem.W.Frag) (fd:FuncData) (ps:List Str) (ds:List Value):Prop :=
  ∀ (s:Shared) (us:List Value),K.In s.heap→(us++ds).length=ps.length→BindsTo s fd ⟨us,[]⟩ (ps.zip (us++ds))
theorem Binds.all {K:PySem.W.Frag} {fd:FuncData} {ps:List Str} (h:∀ us:List Value,us.length=ps.length→bindArgs fd ⟨us,[]⟩=pure (ps.zip us)):Binds K fd ps []:=fun s us _ hl=>by
  rw [List.append_nil] at hl ⊢
  exact .of_eq (h us hl)
def Passes (CX:CXT) (X:Cx) (E:XK):Prop:=∀ (pins:List (Addr × Obj)) (σ:St) (H:Hp) (s:Shared) (e:Value) (s':Shared),Inv X pins σ H s→CX X.stack H s E e s'→X.xe e s'
section
variable {X:Cx} {CX:CXT} {k:Nat} {f C:Addr} {fd:FuncData} {ps:List Str} {sp:Sp} {dvs:List V} {ds:List Value} {E:XK} {x m:Str} {p pos apos:Pos} {e o:Expr} {es:List Expr} {ta:TE} {t:TA}
theorem run_fn {pins:List (Addr × Obj)} {σ:St} {H:Hp} {s:Shared} {Q:VK} {us:List Value} {vs:List V} (F:FnOk X.prog X.w X.K X.mg X.base CX k f fd ps sp) (hr:Room k X.A) (hb:Binds X.K fd ps ds) (hd:Vals dvs ds) (hx:Passes CX X E)
    (I:Inv X pins σ H s) (r:Vals vs us) (h:sp (vs++dvs) H Q E):wpAny (model X.prog X.w) X.A (call (.ref f) us) (EP X pins σ Q) X.xe s:=by
  have r2:Vals (vs++dvs) (us++ds):=r.append hd
  have hl:(us++ds).length=ps.length:=by rw [← r2.length];exact F.len _ _ _ _ h
  refine wpAny_call (codeAny_mono (F.run X.A X.stack s H ⟨us,[]⟩ (us++ds) (vs++dvs) Q E hr I.env0 (hb s us I.kIn hl) r2 h) fun r s' hq=>?_)
  cases r with
  | error e=>exact hx pins σ H s e s' I hq
  | ok fl =>
    cases fl with
    | ret u=>exact I.after hq
    | next=>exact False.elim hq
    | brk=>exact False.elim hq
    | cont=>exact False.elim hq
theorem pe_call (F:FnOk X.prog X.w X.K X.mg X.base CX k f fd ps sp) (hr:Room k X.A) (hg:Gl X x) (hm:X.mg x=some (.ref f)) (hk:PySem.W.keepIn X.K (.ref f)=true) (hb:Binds X.K fd ps ds) (hd:Vals dvs ds) (hx:Passes CX X E)
    (ha:PA X (e :: es) t) (hdb:(x == ("__debug__" : Str))=false:=by decide) (he:starEach (e :: es) X.env=(false,eval e X.env) :: starEach es X.env:=by rfl) (hpl:(backTo pos (starEach es X.env)).any (·.1)=false:=by rfl) :
    PE X (.Call (.Name x p) (e :: es) [] pos) (tCall sp dvs E t):=by
  intro pins s σ H Q I h
  refine wpAny_Call_Name_kw (ld_glob I hg hm ?_ hdb)
  refine PySem.W.callWith_K (h₀:=X.base) I.ok.mod.kin hk (thn (ha pos pins s σ H _ I h) fun us s1 ⟨vs,H1,I1,r,q⟩=>⟨I1.kIn,?_⟩) he hpl
  exact run_fn F hr hb hd hx I1 r q
structure Mk (K:PySem.W.Frag) (C f:Addr):Prop where
  makes:PySem.W.makesIn K C=true
  init:PySem.W.findIn K (.ref C) "__init__" = some (some (.ref f))
  fn:PySem.W.isFn K (.ref f)=true
  kp:PySem.W.keepIn K (.ref C)=true
end
section
variable {X:Cx} {CX:CXT} {k:Nat} {f C:Addr} {fd:FuncData} {ps ks:List Str} {sp:Sp} {E:XK} {x m:Str} {p pos apos kpos:Pos} {e o:Expr} {es:List Expr} {kws:List Keyword} {te ta:TE} {t tk:TA} {nm:Option Str}
structure KBinds (K:PySem.W.Frag) (fd:FuncData) (ps ks:List Str) (g:List Value→List Value→List Value) (gV:List V→List V→List V):Prop where
  to:∀ (s:Shared) (us ws:List Value),K.In s.heap→(g us ws).length=ps.length→BindsTo s fd ⟨us,ks.zip ws⟩ (ps.zip (g us ws))
  rel:∀ {vs:List V} {us:List Value} {zs:List V} {ws:List Value},Vals vs us→Vals zs ws→Vals (gV vs zs) (g us ws)
variable {g:List Value→List Value→List Value} {gV:List V→List V→List V}
end
structure FnScope (N P:List Str) (sc:Scope):Prop where
  kind:sc.kind=.function
  co:sc.isCoroutine=false
  gen:sc.isGenerator=false
  nd:N.Nodup
  pre:N.take P.length=P
  par:∀ x∈P,sc.names.lookup x=some .local∨sc.names.lookup x=some .cell
  nofree:∀ y∈sc.names,y.2≠.free
theorem bindL_out {kindOf:Str→Option NameKind} {x:Str}:∀ {binds:List (Str × Value)} {m:Str→Option Value},(∀ v,(x,v) ∉ binds)→bindL kindOf binds m x=m x
  | [],_,_=>rfl
  | (n,v) :: r,m,h=>by
    unfold bindL
    rw [bindL_out fun w hw=>h w (List.mem_cons_of_mem _ hw)]
    split
    · have:x≠n:=by rintro rfl;exact h v List.mem_cons_self
      simp [this]
    · rfl
theorem bindC_out {kindOf:Str→Option NameKind} {x:Str}:∀ {binds:List (Str × Value)} {m:Str→Option Value},(∀ v,(x,v) ∉ binds)→bindC kindOf binds m x=m x
  | [],_,_=>rfl
  | (n,v) :: r,m,h=>by
    unfold bindC
    rw [bindC_out fun w hw=>h w (List.mem_cons_of_mem _ hw)]
    split
    · rfl
    · have:x≠n:=by rintro rfl;exact h v List.mem_cons_self
      simp [this]
theorem bindL_get {kindOf:Str→Option NameKind} {x:Str} {v:Value}:∀ {P:List Str} {vs:List Value} {i:Nat} {m:Str→Option Value},P.Nodup→P[i]? = some x→vs[i]? = some v→kindOf x=some .local →
    bindL kindOf (P.zip vs) m x=some v
  | [],_,_,_,_,h,_,_=>by simp at h
  | _ :: _,[],_,_,_,_,h,_=>by simp at h
  | p :: P,w :: vs,0,m,nd,h1,h2,hk=>by
    simp at h1 h2;subst h1;subst h2
    show bindL kindOf ((p,w) :: P.zip vs) m p=_
    unfold bindL
    rw [bindL_out fun v hv=>(List.nodup_cons.mp nd).1 (List.of_mem_zip hv).1,if_pos hk]
    simp
  | p :: P,w :: vs,i+1,m,nd,h1,h2,hk=>by
    show bindL kindOf ((p,w) :: P.zip vs) m x=_
    unfold bindL
    exact bindL_get (i:=i) (List.nodup_cons.mp nd).2 (by simpa using h1) (by simpa using h2) hk
theorem bindC_get {kindOf:Str→Option NameKind} {x:Str} {v:Value}:∀ {P:List Str} {vs:List Value} {i:Nat} {m:Str→Option Value},P.Nodup→P[i]? = some x→vs[i]? = some v→kindOf x≠some .local →
    bindC kindOf (P.zip vs) m x=some v
  | [],_,_,_,_,h,_,_=>by simp at h
  | _ :: _,[],_,_,_,_,h,_=>by simp at h
  | p :: P,w :: vs,0,m,nd,h1,h2,hk=>by
    simp at h1 h2;subst h1;subst h2
    show bindC kindOf ((p,w) :: P.zip vs) m p=_
    unfold bindC
    rw [bindC_out fun v hv=>(List.nodup_cons.mp nd).1 (List.of_mem_zip hv).1,if_neg hk]
    simp
  | p :: P,w :: vs,i+1,m,nd,h1,h2,hk=>by
    show bindC kindOf ((p,w) :: P.zip vs) m x=_
    unfold bindC
    exact bindC_get (i:=i) (List.nodup_cons.mp nd).2 (by simpa using h1) (by simpa using h2) hk
def start (N:List Str) (vs:List V):St:=vs.map some++List.replicate (N.length - vs.length) none
def cxOf (CX:CXT) (P:Program) (w:World) (K:PySem.W.Frag) (mg:Str→Option Value) (base:Heap) (N:List Str) (qual:Str) (scope:Scope) (f:Addr) (cd:Value) (A:Around) (outer:List Env) (s:Shared) (H:Hp) (E:XK):Cx where
  prog:=P
  w:=w
  K:=K
  mg:=mg
  base:=base
  A:=A.deeper (envOfC qual scope s.heap.objs.size f cd)
  N:=N
  s₀:=s
  H₀:=H
  env:=envOfC qual scope s.heap.objs.size f cd
  outer:=outer
  stack:=envOfC qual scope s.heap.objs.size f cd :: outer
  ex:=[]
  calm:=true
  fn:=fun _=>true
  pn:=[]
  xe:=fun e s'=>wpAny (model P w) (A.deeper (envOfC qual scope s.heap.objs.size f cd)) (leaving (envOfC qual scope s.heap.objs.size f cd) e) (fun _ s''=>CX outer H s E e s'') (fun e' s''=>CX outer H s E e' s'') s'
theorem cell_has {sc:Scope} {n:Nat} {x:Str} (h:sc.names.lookup x=some .cell):∃ c,(cellsFrom n sc.names []).lookup x=some c:=by
  have q:=PySem.W.cellsFrom_some sc.names n [] (.inl h)
  exact Option.isSome_iff_exists.mp q
theorem inv_start {CX:CXT} {P:Program} {w:World} {K:PySem.W.Frag} {mg:Str→Option Value} {base:Heap} {N ps:List Str} {qual:Str} {scope:Scope} {f:Addr} {cd:Value} {A:Around} {outer:List Env} {s s1:Shared} {H:Hp} {E:XK} {us:List Value} {vs:List V}
    (S:FnScope N ps scope) (hd:A.handled=none) (e0:Env0 P w K mg base A outer s H) (hl:vs.length=ps.length) (r:Vals vs us)
    (x:InCallC s s.heap.objs.size (bindL (envOfC qual scope s.heap.objs.size f cd).kindOf (ps.zip us) fun _=>none) (cellsFrom (s.heap.objs.size+1) scope.names []) (bindC (envOfC qual scope s.heap.objs.size f cd).kindOf (ps.zip us) fun _=>none) s1) :
    Inv (cxOf CX P w K mg base N qual scope f cd A outer s H E) [] (start N vs) H s1:=by
  have hpl:ps.length≤N.length:=by have:=congrArg List.length S.pre;rw [List.length_take] at this;omega
  obtain ⟨h1,tk,rfl,hk⟩:=x.done
  have noA:∀ b:Addr,b ∉ (cxOf CX P w K mg base N qual scope f cd A outer s H E).ex:=fun b z=>absurd (show b∈([]:List Addr) from z) (by simp)
  refine ⟨⟨e0.mod,S.kind,rfl,rfl,Nat.le_refl _,fun y z c h1 h2=>?_,fun y hy=>?_,fun y c _ h=>?_,fun _=>hd,Around.frames_deeper e0.frames,.inr ⟨rfl,rfl⟩,fun b z=>absurd z (noA b),e0.bs,e0.bsz,fun b _ _=>noA b,fun b z=>absurd z (noA b),e0.funs,e0.frf⟩,
    rfl,e0.bare,Un.kept hk,⟨_,x.toInCall.ns,fun i y v h1 h2 h3=>?_⟩,fun y c h=>⟨_,x.cell y c h⟩,e0.hok.fresh (Nat.le_refl _),fun y c h=>?_,fun p hp=>absurd (show p∈([]:List (Addr × Obj)) from hp) (by simp),e0.hok.kept hk,?_⟩
  · exact name_of_addr x.apart (PySem.mem_of_lookup h1) (PySem.mem_of_lookup h2)
  · have hy:scope.names.lookup y=some .cell∨scope.names.lookup y=some .free:=hy
    rcases hy with hy | hy
    · exact cell_has hy
    · exact absurd rfl (S.nofree _ (PySem.mem_of_lookup hy))
  · exact Nat.le_of_lt (x.above y c (PySem.mem_of_lookup h))
  · have hi:i < vs.length:=by
      unfold start at h2
      by_cases hi:i < vs.length
      · exact hi
      · rw [List.getElem?_append_right (by simpa using hi)] at h2
        rw [List.getElem?_replicate] at h2
        split at h2 <;> cases h2
    have ha:vs[i]? = some v:=by
      unfold start at h2
      rw [List.getElem?_append_left (by simpa using hi),List.getElem?_map] at h2
      cases e:vs[i]? with
      | none=>rw [e] at h2;cases h2
      | some a=>rw [e] at h2;cases h2;rfl
    obtain ⟨u,hu,rv⟩:=r.get ha
    have hp:ps[i]? = some y:=by
      rw [← S.pre,List.getElem?_take_of_lt (by omega)];exact h1
    have ndP:ps.Nodup:=by rw [← S.pre];exact S.nd.sublist (List.take_sublist _ _)
    refine ⟨u,rv,?_⟩
    rcases S.par y (List.mem_of_getElem? hp) with k | k
    · exact .inl ⟨k,bindL_get ndP hp hu k⟩
    · obtain ⟨c,e⟩:=cell_has (n:=s.heap.objs.size+1) k
      refine .inr ⟨.inl k,c,e,?_⟩
      have q:=x.cell y c e
      rw [bindC_get ndP hp hu (by show scope.names.lookup y≠_;rw [k];decide)] at q
      exact q
  · exact e0.hok.fresh (Nat.le_of_lt (x.above y c (PySem.mem_of_lookup h)))
  · unfold start
    show _=N.length
    rw [List.length_append,List.length_map,List.length_replicate]
    omega
theorem fn_of {CX:CXT} {P:Program} {w:World} {K:PySem.W.Frag} {mg:Str→Option Value} {base:Heap} {k:Nat} {f:Addr} {name qual:Str} {params:Arguments} {body:List Stmt} {scope:Scope} {dV kV doc pm cdv ct oc:Value} {an od:Option Addr}
    {osl:Array (Option Value)} {N ps:List Str} {sp:Sp} (lk:K.lookup f=some ⟨oc,od,.func (PySem.W.fnOf name qual params body scope dV kV doc pm an cdv ct),osl⟩) (hcd:PySem.W.codeIn K cdv qual=true) (S:FnScope N ps scope)
    (len:∀ vs H Q E,sp vs H Q E→vs.length=ps.length)
    (hbody:∀ (A:Around) (outer:List Env) (s:Shared) (H:Hp) (vs:List V) (Q:VK) (E:XK),Room k (A.deeper (envOfC qual scope s.heap.objs.size f cdv))→sp vs H Q E →
      ∃ t,PSs (cxOf CX P w K mg base N qual scope f cdv A outer s H E) body t∧t { nx:=fun _ H'=>Q .non H',rt:=Q } (start N vs) H) :
    FnOk P w K mg base CX (k+1) f (PySem.W.fnOf name qual params body scope dV kV doc pm an cdv ct) ps sp:=by
  refine ⟨len,fun A outer s H args us vs Q E hr e0 hb r hsp=>?_⟩
  have hl:=len _ _ _ _ hsp
  have KX:K.In s.heap:=e0.mod.kin.keeps fun b o e=>(e0.bs b o e).1
  have lim:s.heap.NoLimit:=e0.mod.nolimit.keeps fun b o e=>(e0.bs b o e).1
  have hkind:∀ y∈ps.zip us,scope.names.lookup y.1=some .local∨(scope.names.lookup y.1=some .cell∧((cellsFrom (s.heap.objs.size+1) scope.names []).lookup y.1).isSome=true):=fun ⟨n,v⟩ hy=>by
    rcases S.par n (List.of_mem_zip hy).1 with q | q
    · exact .inl q
    · exact .inr ⟨q,PySem.W.cellsFrom_some _ _ _ (.inl q)⟩
  refine codeAny_call_function hr.depth (KX _ _ lk) rfl S.co S.gen rfl (PySem.W.codeRec_of KX hcd) (hb _ _ _ _ ?_)
  refine wpAny_newFunctionEnv_cells S.kind hkind fun env he s1 x=>?_
  subst he
  refine ⟨lim.keeps x.toInCall.keep,codeAny_func ?_⟩
  obtain ⟨t,ht,hq⟩:=hbody A outer s H vs Q E (hr.deeper _) hsp
  have I:Inv (cxOf CX P w K mg base N qual scope f cdv A outer s H E) [] (start N vs) H s1:=inv_start S hr.hd e0 hl r x
  refine wpAny_mono (ht [] s1 (start N vs) H _ I hq) (fun fl s' hs=>?_) fun e s' hs=>hs
  have fin:∀ {σ':St} {H':Hp} {v:V} {u:Value},Inv (cxOf CX P w K mg base N qual scope f cdv A outer s H E) [] σ' H' s'→RelV v u→Q v H'→CE outer P w H s Q u s' :=
    fun {σ' H' v u} J rv q=>⟨v,H',J.os,J.bare,J.base,J.hok,rv,q⟩
  cases fl with
  | ret u =>
    obtain ⟨v,σ',H',J,rv,q⟩:=hs
    exact fin J rv q
  | next =>
    obtain ⟨σ',H',J,q⟩:=hs
    exact fin (v:=V.non) (u:=Value.none) J rfl q
  | brk =>
    obtain ⟨_,_,_,q⟩:=hs
    exact False.elim q
  | cont =>
    obtain ⟨_,_,_,q⟩:=hs
    exact False.elim q
end L2
namespace L2
open PySem PySem.Spec PyProof.Rows
section
variable {X:Cx} {x:Str} {p pos:Pos} {e:Expr} {es:List Expr} {t:TA} {id T:String} {r:List V→Hp→VK→Prop}
def tCB (r:List V→Hp→VK→Prop) (t:TA):TE:=fun σ H Q=>t σ H fun vs H1=>r vs H1 Q
theorem pe_callB (hc:CallR X (.builtin id) r) (hg:Gl X x) (hm:X.mg x=none) (hv:bootBuiltins x=some (.builtin id)) (ha:PA X (e :: es) t) (hn:x≠"__name__":=by decide) (hdb:(x == ("__debug__" : Str))=false:=by decide)
    (he:starEach (e :: es) X.env=(false,eval e X.env) :: starEach es X.env:=by rfl) (hpl:(backTo pos (starEach es X.env)).any (·.1)=false:=by rfl):PE X (.Call (.Name x p) (e :: es) [] pos) (tCB r t):=by
  intro pins s σ H Q I h
  refine wpAny_Call_Name_kw (ld_blt I hg hm hv ?_ hn hdb)
  exact PyProof.Rows.callWith_builtin1 (thn (ha pos pins s σ H _ I h) fun us s1 ⟨vs,H1,I1,r1,q1⟩=>hc pins s1 σ H1 vs us Q I1 r1 q1) he hpl
theorem pe_callTy (hc:CallR X (.type T) r) (hg:Gl X x) (hm:X.mg x=none) (hv:bootBuiltins x=some (.type T)) (ha:PA X (e :: es) t) (hn:x≠"__name__":=by decide) (hdb:(x == ("__debug__" : Str))=false:=by decide)
    (he:starEach (e :: es) X.env=(false,eval e X.env) :: starEach es X.env:=by rfl) (hpl:(backTo pos (starEach es X.env)).any (·.1)=false:=by rfl):PE X (.Call (.Name x p) (e :: es) [] pos) (tCB r t):=by
  intro pins s σ H Q I h
  refine wpAny_Call_Name_kw (ld_blt I hg hm hv ?_ hn hdb)
  exact PyProof.Rows.callWith_type1 (thn (ha pos pins s σ H _ I h) fun us s1 ⟨vs,H1,I1,r1,q1⟩=>hc pins s1 σ H1 vs us Q I1 r1 q1) he hpl
end
end L2
namespace HT
open PySem PyProof.Rows
section
open PySem.SeqAt
open PySem.AutoSeq1 (wpAny_loadPart')
open PySem.MeetsSeq PySem.MeetsSeq2 PySem.MeetsSeq3
end
section
variable {prog:Program} {w:World} {A:Around} {E:Value→Shared→Prop} {s:Shared}
def sIx (n d:Nat):Option Int→Nat
  | none=>d
  | some v=>if v < 0 then (v+(n:Int)).toNat else min v.toNat n
theorem sIx_none (n d:Nat):sIx n d none=d:=rfl
theorem sIx_nat (n d k:Nat):sIx n d (some (k:Int))=min k n:=by
  show (if (k:Int) < 0 then ((k:Int)+(n:Int)).toNat else min (k:Int).toNat n)=min k n
  rw [if_neg (by omega),Int.toNat_natCast]
end
end HT
namespace L2
open PySem PySem.Spec PyProof.Rows
abbrev TO:=St→Hp→(Option Int→Hp→Prop)→Prop
def PO (X:Cx) (e:Option Expr) (t:TO):Prop :=
  ∀ (pins:List (Addr × Obj)) (s:Shared) (σ:St) (H:Hp) (Q:Option Int→Hp→Prop),Inv X pins σ H s→t σ H Q →
    wpAny (model X.prog X.w) X.A (evalPart e X.env) (fun u s'=>∃ o H',Inv X pins σ H' s'∧IsPart u o∧Q o H') X.xe s
def tNoPart:TO:=fun _ H Q=>Q none H
def tPart (t:TE):TO:=fun σ H Q=>t σ H fun x H1=>∃ i,x=.int i∧Q (some i) H1
theorem intsAre_of {ns:List Int}:∀ {us:List Value},Vals (ns.map V.int) us→IntsAre us ns:=by
  induction ns with
  | nil=>intro us r;rw [List.map_nil] at r;cases r;exact .nil
  | cons n ns ih =>
    intro us r
    rw [List.map_cons] at r
    cases r with
    | cons r1 r2 =>
      obtain ⟨t,e⟩:=r1
      subst e
      exact .cons n t (ih r2)
section
variable {X:Cx} {e:Expr} {te:TE} {lo hi:Option Expr} {tl th:TO} {pos p2:Pos}
theorem po_none:PO X none tNoPart:=by
  intro pins s σ H Q I h
  rw [evalPart_none]
  exact wpAny_pure ⟨none,H,I,.none,h⟩
theorem po_some (h:PE X e te):PO X (some e) (tPart te):=by
  intro pins s σ H Q I hw
  rw [evalPart_some]
  refine thn (h pins s σ H _ I hw) fun u s1 ⟨x,H1,I1,r1,q1⟩=>?_
  obtain ⟨i,rfl,q⟩:=q1
  obtain ⟨t,rfl⟩:=r1
  exact ⟨some i,H1,I1,.int i t,q⟩
def SlR (X:Cx) (r:V→Option Int→Option Int→Hp→VK→Prop):Prop :=
  ∀ (pins:List (Addr × Obj)) (s:Shared) (σ:St) (H:Hp) (x:V) (v vl vu:Value) (lo hi:Option Int) (sl:Addr) (Q:VK),Inv X pins σ H s→RelV x v→s.heap.IsSliceOf sl vl vu .none→IsPart vl lo→IsPart vu hi→r x lo hi H Q →
    ∃ T id,typeLookup (.type T) "__getitem__" = pure (some (.builtin id))∧s.TypeIs v T∧wpAny (model X.prog X.w) X.A (getItem v (.ref sl)) (EP X pins σ Q) X.xe s
theorem SlR.or {r r':V→Option Int→Option Int→Hp→VK→Prop} (h:SlR X r) (h':SlR X r'):SlR X (fun x lo hi H Q=>r x lo hi H Q∨r' x lo hi H Q):=by
  intro pins s σ H x v vl vu lo hi sl Q I rx hs pl pu q
  rcases q with q | q
  · exact h pins s σ H x v vl vu lo hi sl Q I rx hs pl pu q
  · exact h' pins s σ H x v vl vu lo hi sl Q I rx hs pl pu q
def tSl (r:V→Option Int→Option Int→Hp→VK→Prop) (te:TE) (tl th:TO):TE:=fun σ H Q=>te σ H fun x H1=>tl σ H1 fun l H2=>th σ H2 fun u H3=>r x l u H3 Q
theorem pe_slice {r:V→Option Int→Option Int→Hp→VK→Prop} (hr:SlR X r) (he:PE X e te) (hl:PO X lo tl) (hu:PO X hi th):PE X (.Subscript e (.Slice lo hi none p2) pos) (tSl r te tl th):=by
  intro pins s σ H Q I h
  refine Subscript_ (thn (he pins s σ H _ I h) fun v s1 ⟨x,H1,I1,r1,q1⟩=>?_)
  refine wpAny_Slice (thn (hl pins s1 σ H1 _ I1 q1) fun vl s2 ⟨l,H2,I2,pl,q2⟩=>thn (hu pins s2 σ H2 _ I2 q2) fun vu s3 ⟨u,H3,I3,pu,q3⟩=>?_)
  rw [evalPart_none]
  refine wpAny_pure ?_
  have I4:Inv X pins σ H3 { s3 with heap:=s3.heap.push { cls:=.type "slice",data:=.fields #[vl,vu,.none] } }:=I3.kept (t':=s3.toks) fun b ob q=>Heap.get?_push_of_some _ q
  obtain ⟨T,id,hT,ht,hg⟩:=hr pins { s3 with heap:=s3.heap.push { cls:=.type "slice",data:=.fields #[vl,vu,.none] } } σ H3 x v vl vu l u s3.heap.objs.size Q I4 r1 (Heap.IsSliceOf.new ..) pl pu q3
  show wpAny (model X.prog X.w) X.A (subscriptTail e (.Slice lo hi none p2) v (.ref s3.heap.objs.size)) (EP X pins σ Q) X.xe { s3 with heap:=s3.heap.push { cls:=.type "slice",data:=.fields #[vl,vu,.none] } }
  exact tail_any (ops:=[.ref s3.heap.objs.size,v]) ht hT hg (by with_unfolding_all rfl)
def cutV (xs:List V) (lo hi:Option Int):List V:=(xs.drop (HT.sIx xs.length 0 lo)).take (HT.sIx xs.length xs.length hi - HT.sIx xs.length 0 lo)
theorem cutV_length (xs:List V) (lo hi:Option Int):(cutV xs lo hi).length≤xs.length:=by
  unfold cutV
  rw [List.length_take,List.length_drop]
  omega
end
end L2
namespace L2
open PySem PySem.Spec PyProof.Rows
def ixN (n:Nat) (i:Int):Option Nat:=if 0≤i then (if i < n then some i.toNat else none) else if -(n:Int)≤i then some (i+n).toNat else none
def atI {α:Type} (xs:List α) (i:Int):Option α:=(ixN xs.length i).bind fun j=>xs[j]?
theorem ixN_seq {n:Nat} {i:Int} {j:Nat} (h:ixN n i=some j):seqIndex? i n=some j∧j < n∧-(n:Int)≤i∧i < n:=by
  unfold ixN at h
  by_cases h0:0≤i
  · rw [if_pos h0] at h
    by_cases h1:i < n
    · rw [if_pos h1] at h
      have e:i.toNat=j:=Option.some.inj h
      exact ⟨by rw [seqIndex_of h0 h1,e],by omega,by omega,h1⟩
    · rw [if_neg h1] at h;cases h
  · rw [if_neg h0] at h
    by_cases h1:-(n:Int)≤i
    · rw [if_pos h1] at h
      have e:(i+n).toNat=j:=Option.some.inj h
      exact ⟨by rw [seqIndex_neg (by omega) h1,e],by omega,h1,by omega⟩
    · rw [if_neg h1] at h;cases h
theorem atI_get {α:Type} {xs:List α} {i:Int} {v:α} (h:atI xs i=some v):∃ j,seqIndex? i xs.length=some j∧xs[j]? = some v∧j < xs.length∧-(xs.length:Int)≤i∧i < xs.length:=by
  unfold atI at h
  cases e:ixN xs.length i with
  | none=>rw [e] at h;cases h
  | some j =>
    rw [e] at h
    obtain ⟨h1,h2,h3,h4⟩:=ixN_seq e
    exact ⟨j,h1,h,h2,h3,h4⟩
theorem atI_nat {α:Type} {xs:List α} {j:Nat} {v:α} (h:xs[j]? = some v):atI xs (j:Int)=some v:=by
  have hj:j < xs.length:=(List.getElem?_eq_some_iff.mp h).1
  have e:ixN xs.length (j:Int)=some j:=by
    unfold ixN
    rw [if_pos (by omega),if_pos (by omega)];simp
  unfold atI;rw [e];exact h
theorem atI_last {α:Type} (xs:List α) (v:α):atI (xs++[v]) (-1)=some v:=by
  have hl:(xs++[v]).length=xs.length+1:=by simp
  have e:ixN (xs++[v]).length (-1)=some xs.length:=by
    unfold ixN
    rw [hl,if_neg (by decide),if_pos (by omega)]
    congr 1
    omega
  unfold atI
  rw [e]
  show (xs++[v])[xs.length]? = some v
  simp
def PlainIx (b:Expr):Prop:=∀ o i,subscripted b false o i=operate [o,i] (getItem o i)
def IxR (X:Cx) (r:R2):Prop :=
  ∀ (value slice:Expr) (pins:List (Addr × Obj)) (s:Shared) (σ:St) (H:Hp) (x y:V) (v u:Value) (Q:VK),Inv X pins σ H s→RelV x v→RelV y u→r x y H Q →
    subscripted slice false v u=operate [v,u] (getItem v u)→wpAny (model X.prog X.w) X.A (subscriptTail value slice v u) (EP X pins σ Q) X.xe s
def MtR (X:Cx) (id:String) (r:V→List V→Hp→VK→Prop):Prop :=
  ∀ (pins:List (Addr × Obj)) (s:Shared) (σ:St) (H:Hp) (x:V) (xs:List V) (v:Value) (us:List Value) (Q:VK),Inv X pins σ H s→RelV x v→Vals xs us→r x xs H Q →
    wpAny (model X.prog X.w) X.A (call (.builtin id) (v :: us)) (EP X pins σ Q) X.xe s
section
variable {X:Cx} {a b:Expr} {ta tb:TE} {pos:Pos}
theorem IxR.or {r r':R2} (h:IxR X r) (h':IxR X r'):IxR X (fun x y H Q=>r x y H Q∨r' x y H Q):=by
  intro value slice pins s σ H x y v u Q I rx ry q hs
  rcases q with q | q
  · exact h value slice pins s σ H x y v u Q I rx ry q hs
  · exact h' value slice pins s σ H x y v u Q I rx ry q hs
theorem MtR.or {id:String} {r r':V→List V→Hp→VK→Prop} (h:MtR X id r) (h':MtR X id r'):MtR X id (fun x xs H Q=>r x xs H Q∨r' x xs H Q):=by
  intro pins s σ H x xs v us Q I rx rs q
  rcases q with q | q
  · exact h pins s σ H x xs v us Q I rx rs q
  · exact h' pins s σ H x xs v us Q I rx rs q
theorem pe_ix {r:R2} (hr:IxR X r) (ha:PE X a ta) (hb:PE X b tb) (hs:PlainIx b):PE X (.Subscript a b pos) (tOp r ta tb):=by
  intro pins s σ H Q I h
  exact Subscript_ (binT ha hb I h fun v u s2 x y H2 I2 rx ry q=>hr a b pins s2 σ H2 x y v u Q I2 rx ry q (hs _ _))
def rIxL (K:PySem.W.Frag):R2:=fun x y H Q=>∃ p xs i v,x=.ref p∧y=.int i∧SqL K H p xs∧atI xs i=some v∧Q v H
def rIxT (K:PySem.W.Frag):R2:=fun x y H Q=>∃ p xs i v,x=.ref p∧y=.int i∧SqT K H p xs∧atI xs i=some v∧Q v H
def rIxS:R2:=fun x y H Q=>∃ z i c,x=.str z∧y=.int i∧z.length≤sizeLine∧atI z.cps.toList i=some c∧Q (.str ⟨#[c]⟩) H
theorem ix_list:IxR X (rIxL X.K):=by
  intro value slice pins s σ H x y v u Q I rx ry h hs
  obtain ⟨p,xs,i,z,rfl,rfl,hq,he,q⟩:=h
  cases rx
  obtain ⟨t,rfl⟩:=ry
  obtain ⟨its,r,pl,hz⟩:=I.list hq
  obtain ⟨j,h1,h2,h3,h4,h5⟩:=atI_get he
  obtain ⟨w,ew,rw'⟩:=r.get h2
  have hl:=r.length
  have hn:=line63
  have fin:EP X pins σ Q w s:=⟨z,H,I,rw',q⟩
  by_cases h0:0≤i
  · have hj:i.toNat=j:=by
      rw [seqIndex_of h0 h5] at h1
      exact Option.some.inj h1
    exact item_listR pl.isList h0 (by omega) (by rw [hj];simpa using ew) fin hs
  · have hj:(i+(its.toArray.size:Int)).toNat=j:=by
      rw [seqIndex_neg (by omega) h4] at h1
      rw [List.size_toArray,← hl]
      exact Option.some.inj h1
    exact subscriptTail_builtinR (x:=w) pl.isList.typeIs slot_list_getitem.lookup
      (wpAny_getItem_list_neg (Q:=fun r s'=>r=w∧EP X pins σ Q r s') pl.isList (by omega) (by rw [List.size_toArray] <;> omega) (by omega) (by rw [hj];simpa using ew) ⟨rfl,fin⟩) hs
theorem ix_tup:IxR X (rIxT X.K):=by
  intro value slice pins s σ H x y v u Q I rx ry h hs
  obtain ⟨p,xs,i,z,rfl,rfl,hq,he,q⟩:=h
  cases rx
  obtain ⟨t,rfl⟩:=ry
  obtain ⟨its,r,pl,hz⟩:=I.tuple hq
  obtain ⟨j,h1,h2,h3,h4,h5⟩:=atI_get he
  obtain ⟨w,ew,rw'⟩:=r.get h2
  have hl:=r.length
  have hn:=line63
  have fin:EP X pins σ Q w s:=⟨z,H,I,rw',q⟩
  exact subscriptTail_builtinR (x:=w) pl.typeIs slot_tuple_getitem.lookup
    (getItem_tuple (j:=j) (Q:=fun r s'=>r=w∧EP X pins σ Q r s') pl (by omega) (by omega) (by rw [List.size_toArray,← hl];exact h1) (by simpa using ew) ⟨rfl,fin⟩) hs
theorem ix_str:IxR X rIxS:=by
  intro value slice pins s σ H x y v u Q I rx ry h hs
  obtain ⟨z,i,c,rfl,rfl,hz,he,q⟩:=h
  obtain ⟨t,rfl⟩:=rx
  obtain ⟨t',rfl⟩:=ry
  obtain ⟨j,h1,h2,h3,h4,h5⟩:=atI_get he
  have hl:z.cps.toList.length=z.length:=by simp [Str.length]
  rw [hl] at h1 h4 h5
  have hn:=line63
  exact tail_any (typeIs_str s z t) slot_str_getitem.lookup (getItem_str (c:=c) (by
    have e1:decide (i < -(2 ^ 63:Int))=false:=decide_eq_false (by omega)
    have e2:decide (i ≥ 2 ^ 63)=false:=decide_eq_false (by omega)
    rw [e1,e2,Bool.or_false]) (by rw [h1];simpa using h2) ⟨.str ⟨#[c]⟩,H,I.tok _,⟨_,rfl⟩,q⟩) hs
theorem mapSeq_set (its:List Value) (n j:Nat) (u:Value):Obj.mapSeq (·.setIfInBounds j u) { cls:=.type "list",data:=.seq its.toArray n } = { cls:=.type "list",data:=.seq (its.set j u).toArray n }:=by
  simp [Obj.mapSeq]
theorem Inv.lst {pins:List (Addr × Obj)} {σ:St} {H:Hp} {s:Shared} {p:Addr} {xs:List V} (I:Inv X pins σ H s) (h:H p=some (.lst xs)) :
    ∃ (its:List Value) (n:Nat),Vals xs its∧s.heap.get? p=some { cls:=.type "list",data:=.seq its.toArray n }∧xs.length≤sizeLine:=by
  obtain ⟨z,its,n,r,e⟩:=I.hok p _ h
  exact ⟨its,n,r,e,z⟩
theorem Inv.lstUpd {pins:List (Addr × Obj)} {σ:St} {H:Hp} {s:Shared} {p:Addr} {xs ys:List V} {its its':List Value} {n n':Nat} {f:Obj→Obj} (I:Inv X pins σ H s) (h:H p=some (.lst xs))
    (ho:s.heap.get? p=some { cls:=.type "list",data:=.seq its.toArray n }) (hf:f { cls:=.type "list",data:=.seq its.toArray n } = { cls:=.type "list",data:=.seq its'.toArray n' }) (r:Vals ys its') (hz:ys.length≤sizeLine) (t:Nat) :
    Inv X pins σ (upd H p (.lst ys)) { s with heap:=s.heap.update p f,toks:=t }:=by
  have e:(s.heap.update p f).get? p=some { cls:=.type "list",data:=.seq its'.toArray n' }:=by
    rw [Heap.get?_update_self f ho (by rw [hf] <;> rfl),hf]
  refine I.write (x:=p) (e:=p) (by rw [h];trivial) (.inl rfl) (fun b u hb q=>(Heap.get?_update_other _ _ (Ne.symm hb)).trans q) ⟨_,e⟩ ?_
  exact ⟨hz,its',n',r,e⟩
def rSetL:V→V→V→Hp→(Hp→Prop)→Prop:=fun o i v H Q=>∃ p xs k j,o=.ref p∧i=.int k∧H p=some (.lst xs)∧ixN xs.length k=some j∧Q (upd H p (.lst (xs.set j v)))
theorem set_list:PSet X rSetL:=by
  intro pins s σ H o i v ov iv u Q I ro ri rv h
  obtain ⟨p,xs,k,j,rfl,rfl,hp,hj,q⟩:=h
  cases ro
  obtain ⟨t,rfl⟩:=ri
  obtain ⟨its,n,r,ho,hz⟩:=I.lst hp
  obtain ⟨h1,h2,h3,h4⟩:=ixN_seq hj
  have hl:=r.length
  have hn:=line63
  have I':Inv X pins σ (upd H p (.lst (xs.set j v))) { s with heap:=s.heap.update p (Obj.mapSeq (·.setIfInBounds j u)) } :=
    I.lstUpd hp ho (mapSeq_set its n j u) (r.set rv j) (by rw [List.length_set];exact hz) s.toks
  by_cases h0:0≤k
  · have hk:k.toNat=j:=by
      rw [seqIndex_of h0 h4] at h1
      exact Option.some.inj h1
    exact PySem.W.ki_setAt ho h0 (by omega) (by rw [List.size_toArray,← hl];exact h4) (by rw [hk];exact ⟨_,I',q⟩)
  · have hk:(k+(its.toArray.size:Int)).toNat=j:=by
      rw [seqIndex_neg (by omega) h3] at h1
      rw [List.size_toArray,← hl]
      exact Option.some.inj h1
    exact PySem.W.ki_setBack ho (by omega) (by rw [List.size_toArray,← hl];exact h3) (by omega) (by rw [hk];exact ⟨_,I',q⟩)
theorem slice_bounds (lo hi:Option Int) (n:Nat):(sliceBounds lo hi none n).1=((HT.sIx n 0 lo:Nat):Int)∧(sliceBounds lo hi none n).2.1=((HT.sIx n n hi:Nat):Int)∧(sliceBounds lo hi none n).2.2=1:=by
  refine ⟨?_,?_,rfl⟩
  · cases lo with
    | none=>simp [sliceBounds,HT.sIx]
    | some i =>
      simp only [sliceBounds,HT.sIx,Option.getD_none,show (1:Int) > 0 by decide,if_true]
      by_cases h:i < 0
      · simp only [h,if_true] <;> omega
      · simp only [h,if_false] <;> omega
  · cases hi with
    | none=>simp [sliceBounds,HT.sIx]
    | some i =>
      simp only [sliceBounds,HT.sIx,Option.getD_none,show (1:Int) > 0 by decide,if_true]
      by_cases h:i < 0
      · simp only [h,if_true] <;> omega
      · simp only [h,if_false] <;> omega
theorem slicePick_cut (its:List Value) (lo hi:Option Int):slicePick its.toArray lo hi none=((its.drop (HT.sIx its.length 0 lo)).take (HT.sIx its.length its.length hi - HT.sIx its.length 0 lo)).toArray:=by
  obtain ⟨h1,h2,h3⟩:=slice_bounds lo hi its.toArray.size
  unfold slicePick
  rw [h1,h2,h3]
  simp only [sliceRange_one,pick_run,List.size_toArray] <;> rfl
def rSlL (K:PySem.W.Frag):V→Option Int→Option Int→Hp→VK→Prop:=fun x lo hi H Q=>∃ a xs,x=.ref a∧SqL K H a xs∧∀ p,H p=none→Q (.ref p) (upd H p (.lst (cutV xs lo hi)))
theorem sl_list:SlR X (rSlL X.K):=by
  intro pins s σ H x v vl vu lo hi sl Q I rx hs pl pu h
  obtain ⟨a,xs,rfl,hx,q⟩:=h
  cases rx
  obtain ⟨its,r,ht,hz⟩:=I.list hx
  have hlen:=r.length
  refine ⟨"list",_,slot_list_getitem.lookup,ht.isList.typeIs,?_⟩
  refine wpAny_getItem_list_slice ht.isList hs pl pu .none (by simp) ?_ (by rw [List.size_toArray] <;> omega)
  rw [slicePick_cut,← hlen]
  refine ⟨.ref s.heap.objs.size,_,I.laid (t':=s.toks) (o:=.lst (cutV xs lo hi)) (fun b ob q=>Heap.get?_push_of_some _ q) (Nat.le_refl _) ?_,rfl,q _ (I.hok.fresh (Nat.le_refl _))⟩
  exact ⟨Nat.le_trans (cutV_length xs lo hi) hz,_,0,(r.drop (HT.sIx xs.length 0 lo)).take (HT.sIx xs.length xs.length hi - HT.sIx xs.length 0 lo),Heap.get?_push_size _ rfl⟩
def flatV:V→Bool
  | .non=>true
  | .bl _=>true
  | .int _=>true
  | .str _=>true
  | _=>false
def eqV:V→V→Bool
  | .non,.non=>true
  | .bl a,.bl b=>a == b
  | .bl a,.int b=>(if a then 1 else 0) == b
  | .int a,.bl b=>a == (if b then 1 else 0)
  | .int a,.int b=>a == b
  | .str a,.str b=>a == b
  | _,_=>false
theorem eqAt_V {A:Around} {s:Shared} {y x:V} {u v:Value} (ry:RelV y u) (rx:RelV x v) (fy:flatV y=true) (fx:flatV x=true):SeqAt.EqAt A s u v (eqV y x):=by
  cases y with
  | non =>
    cases ry
    cases x with
    | non=>cases rx;exact SeqAt.EqAt.same _
    | bl b=>cases rx;exact SeqAt.EqAt.none_bool b
    | int b=>obtain ⟨t,rfl⟩:=rx;exact SeqAt.EqAt.none_int b t
    | str b=>obtain ⟨t,rfl⟩:=rx;exact SeqAt.EqAt.none_str b t
    | _=>exact absurd (show false=true from fx) Bool.false_ne_true
  | bl a =>
    cases ry
    cases x with
    | non=>cases rx;exact SeqAt.EqAt.bool_none a
    | bl b=>cases rx;exact SeqAt.EqAt.bool_bool a b
    | int b=>obtain ⟨t,rfl⟩:=rx;exact SeqAt.EqAt.bool_int a b t
    | str b=>obtain ⟨t,rfl⟩:=rx;exact SeqAt.EqAt.bool_str a b t
    | _=>exact absurd (show false=true from fx) Bool.false_ne_true
  | int a =>
    obtain ⟨t',rfl⟩:=ry
    cases x with
    | non=>cases rx;exact SeqAt.EqAt.int_none a t'
    | bl b=>cases rx;exact SeqAt.EqAt.int_bool a t' b
    | int b=>obtain ⟨t,rfl⟩:=rx;exact SeqAt.EqAt.int_int a t' b t
    | str b=>obtain ⟨t,rfl⟩:=rx;exact SeqAt.EqAt.int_str a t' b t
    | _=>exact absurd (show false=true from fx) Bool.false_ne_true
  | str a =>
    obtain ⟨t',rfl⟩:=ry
    cases x with
    | non=>cases rx;exact SeqAt.EqAt.str_none a t'
    | bl b=>cases rx;exact SeqAt.EqAt.str_bool a t' b
    | int b=>obtain ⟨t,rfl⟩:=rx;exact SeqAt.EqAt.str_int a t' b t
    | str b=>obtain ⟨t,rfl⟩:=rx;exact SeqAt.EqAt.str_str a t' b t
    | _=>exact absurd (show false=true from fx) Bool.false_ne_true
  | _=>exact absurd (show false=true from fy) Bool.false_ne_true
def eqU (x:V) (u:Value):Bool:=match u with
  | .none=>eqV .non x
  | .bool b=>eqV (.bl b) x
  | .int i _=>eqV (.int i) x
  | .str z _=>eqV (.str z) x
  | _=>false
theorem eqU_of {x y:V} {u:Value} (r:RelV y u) (f:flatV y=true):eqU x u=eqV y x:=by
  cases y with
  | non=>cases r;rfl
  | bl b=>cases r;rfl
  | int i=>obtain ⟨t,rfl⟩:=r;rfl
  | str z=>obtain ⟨t,rfl⟩:=r;rfl
  | _=>exact absurd (show false=true from f) Bool.false_ne_true
theorem any_eqU {x:V}:∀ {xs:List V} {us:List Value},Vals xs us→xs.all flatV=true→us.any (eqU x)=xs.any fun y=>eqV y x
  | _,_,.nil,_=>rfl
  | y :: xs,u :: us,.cons r t,f=>by
    rw [List.all_cons,Bool.and_eq_true] at f
    rw [List.any_cons,List.any_cons,eqU_of r f.1,any_eqU t f.2]
theorem mem_eqAt {A:Around} {s:Shared} {x:V} {v:Value} (rx:RelV x v) (fx:flatV x=true):∀ {xs:List V} {us:List Value},Vals xs us→xs.all flatV=true→∀ u∈us,SeqAt.EqAt A s u v (eqU x u)
  | _,_,.nil,_=>fun u hu=>by cases hu
  | y :: xs,u :: us,.cons r t,f=>fun u' hu=>by
    rw [List.all_cons,Bool.and_eq_true] at f
    rcases List.mem_cons.mp hu with rfl | hu
    · rw [eqU_of r f.1];exact eqAt_V r rx f.1 fx
    · exact mem_eqAt rx fx t f.2 u' hu
def inV (x:V) (xs:List V):Bool:=xs.any fun y=>eqV y x
def rIn (K:PySem.W.Frag) (neg:Bool):R2:=fun x y H Q=>∃ p xs,y=.ref p∧(SqL K H p xs∨SqT K H p xs)∧flatV x=true∧xs.all flatV=true∧Q (.bl (if neg then !inV x xs else inV x xs)) H
theorem op_in_seq:OpR X (compareOp .In) (rIn X.K false):=by
  intro pins s σ H x y v u Q I rx ry h
  obtain ⟨p,xs,rfl,hq,fx,fs,q⟩:=h
  cases ry
  rcases hq with hq | hq
  · obtain ⟨its,r,pl,hz⟩:=I.list hq
    refine SeqAt.in_listAt (eqU x) pl.isList (fun w hw=>mem_eqAt rx fx r fs w (by simpa using hw)) ⟨.bl _,H,I,rfl,?_⟩
    rw [show its.toArray.any (eqU x)=its.any (eqU x) by simp,any_eqU r fs]
    exact q
  · obtain ⟨its,r,pl,hz⟩:=I.tuple hq
    refine SeqAt.in_tupleAt (eqU x) pl (fun w hw=>mem_eqAt rx fx r fs w (by simpa using hw)) ⟨.bl _,H,I,rfl,?_⟩
    rw [show its.toArray.any (eqU x)=its.any (eqU x) by simp,any_eqU r fs]
    exact q
theorem call_len_seq:CallR X (.builtin "len") (fun xs H Q=>∃ p ys,xs=[.ref p]∧(SqL X.K H p ys∨SqT X.K H p ys)∧Q (.int ys.length) H):=by
  intro pins s σ H xs us Q I r h
  obtain ⟨p,ys,rfl,hq,q⟩:=h
  obtain ⟨u,rfl,rx⟩:=vals1 r
  cases rx
  have hn:=line63
  rcases hq with hq | hq
  · obtain ⟨its,r',pl,hz⟩:=I.list hq
    have hlen:=r'.length
    exact Calls.call_len_list pl.isList (by simp only [List.size_toArray] <;> omega) ⟨.int ys.length,H,I.tok _,⟨s.toks+1,by rw [List.size_toArray,hlen]⟩,q⟩
  · obtain ⟨its,r',pl,hz⟩:=I.tuple hq
    have hlen:=r'.length
    exact len_tuple pl (by simp only [List.size_toArray] <;> omega) ⟨.int ys.length,H,I.tok _,⟨s.toks+1,by rw [List.size_toArray,hlen]⟩,q⟩
theorem call_len_str:CallR X (.builtin "len") (fun xs H Q=>∃ z,xs=[.str z]∧z.length≤sizeLine∧Q (.int z.length) H):=by
  intro pins s σ H xs us Q I r h
  obtain ⟨z,rfl,hz,q⟩:=h
  obtain ⟨u,rfl,t,rfl⟩:=vals1 r
  have hn:=line63
  exact len_str (by omega) ⟨.int z.length,H,I.tok _,⟨_,rfl⟩,q⟩
theorem CallR.or {f:Value} {r r':List V→Hp→VK→Prop} (h:CallR X f r) (h':CallR X f r'):CallR X f (fun xs H Q=>r xs H Q∨r' xs H Q):=by
  intro pins s σ H xs us Q I rs q
  rcases q with q | q
  · exact h pins s σ H xs us Q I rs q
  · exact h' pins s σ H xs us Q I rs q
theorem call_tuple_of:CallR X (.type "tuple") (fun xs H Q=>∃ p ys,xs=[.ref p]∧((SqL X.K H p ys∧∀ l,H l=none→Q (.ref l) (upd H l (.tup ys)))∨(SqT X.K H p ys∧Q (.ref p) H))):=by
  intro pins s σ H xs us Q I r h
  obtain ⟨p,ys,rfl,h⟩:=h
  obtain ⟨u,rfl,rx⟩:=vals1 r
  cases rx
  rcases h with ⟨hq,q⟩ | ⟨hq,q⟩
  · obtain ⟨its,r',pl,hz⟩:=I.list hq
    have hlen:=r'.length
    refine call_tuple_list pl.isList (fun h' kp=>?_) (by simp only [List.size_toArray] <;> omega)
    have I1:Inv X pins σ H { s with heap:=h' }:=I.kept (t':=s.toks) kp
    have I2:Inv X pins σ (upd H h'.objs.size (.tup ys)) { s with heap:=h'.push { cls:=.type "tuple",data:=.seq its.toArray } } :=
      I1.laid (t':=s.toks) (fun b o e=>Heap.get?_push_of_some _ e) (Nat.le_refl _) (show ObjOk X.prog X.w _ _ _ (.tup ys) from ⟨hz,its,r',IsTup.new _ _,_,Heap.get?_push_size _ rfl,rfl⟩)
    exact ⟨.ref h'.objs.size,_,I2,rfl,q _ (I1.hok.fresh (Nat.le_refl _))⟩
  · obtain ⟨its,r',pl,hz⟩:=I.tuple hq
    exact call_tuple_same pl ⟨.ref p,H,I,rfl,q⟩
def tyV (K:PySem.W.Frag) (T:String) (x:V) (H:Hp):Prop:=match x with
  | .str _=>T = "str"
  | .int _=>T = "int"
  | .ref p=>(T = "list"∧∃ xs,SqL K H p xs)∨(T = "tuple"∧∃ o,K.lookup p=some o∧o.cls=.type "tuple"∧o.dict=none) ∨
      (T = "dict"∧((∃ kvs,H p=some (.dK kvs))∨∃ kvs,H p=some (.dT kvs)))∨(T = "set"∧∃ S n,H p=some (.set S n))
  | _=>False
theorem tyV_is {pins:List (Addr × Obj)} {σ:St} {H:Hp} {s:Shared} {T:String} {x:V} {v:Value} (I:Inv X pins σ H s) (r:RelV x v) (ty:tyV X.K T x H) :
    s.TypeIs v T∧∀ a,v=.ref a→∃ ob,s.heap.get? a=some ob∧ob.dict=none:=by
  cases x with
  | str z =>
    obtain ⟨t,rfl⟩:=r
    cases (show T = "str" from ty)
    exact ⟨typeIs_str s z t,fun _ e=>nomatch e⟩
  | int i =>
    obtain ⟨t,rfl⟩:=r
    cases (show T = "int" from ty)
    exact ⟨typeIs_int s i t,fun _ e=>nomatch e⟩
  | ref p =>
    cases r
    rcases ty with ⟨rfl,xs,hq⟩ | ⟨rfl,o,hk,hc,hd⟩ | ⟨rfl,hk⟩ | ⟨rfl,S,n,hk⟩
    · obtain ⟨its,_,pl,_⟩:=I.list hq
      refine ⟨pl.isList.typeIs,fun a e=>?_⟩
      cases e
      obtain ⟨o,n,e,c,hd,_⟩:=pl
      exact ⟨o,e,hd⟩
    · refine ⟨⟨o,I.kIn p o hk,hc⟩,fun a e=>?_⟩
      cases e
      exact ⟨o,I.kIn _ o hk,hd⟩
    · have z:∃ o,s.heap.get? p=some o∧o.ExactDict:=by
        rcases hk with ⟨kvs,hk⟩ | ⟨kvs,hk⟩
        · obtain ⟨_,_,_,_,o,_,_,e,ex,_⟩:=I.hok p _ hk
          exact ⟨o,e,ex⟩
        · obtain ⟨_,_,_,_,o,_,_,e,ex,_⟩:=I.hok p _ hk
          exact ⟨o,e,ex⟩
      obtain ⟨o,e,ex⟩:=z
      refine ⟨⟨o,e,ex.1⟩,fun a e2=>?_⟩
      cases e2
      exact ⟨o,e,ex.2.1⟩
    · obtain ⟨o,_,_,_,e,ex,_⟩:=I.hok p _ hk
      refine ⟨⟨o,e,ex.1⟩,fun a e2=>?_⟩
      cases e2
      exact ⟨o,e,ex.2.1⟩
  | _=>exact False.elim ty
def tBM (K:PySem.W.Frag) (T:String) (r:V→List V→Hp→VK→Prop) (to:TE) (t:TA):TE:=fun σ H Q=>to σ H fun x H1=>tyV K T x H1∧t σ H1 fun xs H2=>r x xs H2 Q
variable {o e:Expr} {es:List Expr} {to:TE} {t:TA} {name:Str} {apos cpos:Pos} {T id:String} {r:V→List V→Hp→VK→Prop}
theorem pe_bm (pa:PlainAttrs T) (slot:Slot T name id) (hty:typeOf (.builtin id)=pure (.type "method_descriptor")) (hm:MtR X id r) (ho:PE X o to) (ha:PA X (e :: es) t)
    (hbase:attributeBase o name X.env (eval o X.env)=eval o X.env:=by rfl)
    (hfew:((backTo cpos (starEach (e :: es) X.env)).all (fun x=>!x.1) && (backToKw cpos (keywordEach [] X.env)).all (fun x=>x.1.isSome)
      && decide ((e :: es).length+([]:List Keyword).length+(if ([]:List Keyword).isEmpty then 0 else 1) < 30))=true:=by rfl)
    (hline:(apos.endLine == cpos.line)=true:=by rfl) (hs:starEach (e :: es) X.env=(false,eval e X.env) :: starEach es X.env:=by rfl) (hplain:(backTo cpos (starEach es X.env)).any (·.1)=false:=by rfl) :
    PE X (.Call (.Attribute o name apos) (e :: es) [] cpos) (tBM X.K T r to t):=by
  intro pins s σ H Q I h
  refine wpAny_Call_method_late hbase hfew hline rfl (thn (ho pins s σ H _ I h) fun v s1 ⟨x,H1,I1,r1,ty,q1⟩=>?_)
  obtain ⟨h1,h2⟩:=tyV_is I1 r1 ty
  refine ⟨T,id,pa,slot,hty,h1,h2,?_⟩
  have hA:=ha cpos pins s1 σ H1 _ I1 q1
  rw [hs] at hA ⊢
  refine Calls.callWith_builtin (by show (false || (backTo cpos (starEach es X.env)).any (·.1))=false;rw [hplain] <;> rfl) (Calls.evalArgs_plain ?_)
  exact thn hA fun us s2 ⟨vs,H2,I2,r2,q2⟩=>hm pins s2 σ H2 x vs v us Q I2 r1 r2 q2
/- xs.append(e),list.index on a module's tuple .. are MtR facts of 06m -/
end
end L2
namespace L2
open PySem PySem.Spec PyProof.Rows
def MtM (X:Cx) (id:String) (r:V→List V→Hp→VK→Prop):Prop :=
  ∀ (pins:List (Addr × Obj)) (s:Shared) (σ:St) (H:Hp) (x:V) (xs:List V) (v:Value) (us:List Value) (Q:VK),Inv X pins σ H s→RelV x v→Vals xs us→r x xs H Q →
    wpAny (model X.prog X.w) X.A (call (.builtin id) (v :: us)) (EP X pins σ Q) X.xe s
theorem Vals.one:∀ {x:V} {us:List Value},Vals [x] us→∃ u,us=[u]∧RelV x u
  | _,_,.cons r .nil=>⟨_,rfl,r⟩
theorem Vals.two:∀ {x y:V} {us:List Value},Vals [x,y] us→∃ u v,us=[u,v]∧RelV x u∧RelV y v
  | _,_,_,.cons r (.cons q .nil)=>⟨_,_,rfl,r,q⟩
theorem Vals.zero:∀ {us:List Value},Vals [] us→us=[]
  | _,.nil=>rfl
theorem Vals.eraseIdx:∀ {xs:List V} {us:List Value} (i:Nat),Vals xs us→Vals (xs.eraseIdx i) (us.eraseIdx i)
  | _,_,_,.nil=>.nil
  | _,_,0,.cons _ t=>t
  | _,_,i+1,.cons r t=>.cons r (Vals.eraseIdx i t)
theorem Vals.reverse {xs:List V} {us:List Value} (h:Vals xs us):Vals xs.reverse us.reverse:=by
  induction h with
  | nil=>exact .nil
  | cons r t ih=>rw [List.reverse_cons,List.reverse_cons];exact Vals.append ih (.cons r .nil)
theorem Vals.rep {xs:List V} {us:List Value} (h:Vals xs us):∀ k:Nat,Vals (List.replicate k xs).flatten (List.replicate k us).flatten
  | 0=>.nil
  | k+1=>by
    rw [List.replicate_succ,List.replicate_succ,List.flatten_cons,List.flatten_cons]
    exact Vals.append h (Vals.rep h k)
theorem len_erase {α:Type}:∀ (l:List α) (i:Nat),(l.eraseIdx i).length≤l.length
  | [],_=>Nat.le_refl _
  | _ :: _,0=>Nat.le_succ _
  | _ :: r,i+1=>Nat.succ_le_succ (len_erase r i)
theorem foldl_rep (its:List Value):∀ (k:Nat) (acc:List Value),
    List.foldl (fun x1 x2=>x1++x2) acc.toArray (List.replicate k its.toArray)=(acc++(List.replicate k its).flatten).toArray
  | 0,acc=>by simp
  | k+1,acc=>by
    have e:acc.toArray++its.toArray=(acc++its).toArray:=by simp
    have e2:(acc++its)++(List.replicate k its).flatten=acc++(List.replicate (k+1) its).flatten:=by
      rw [List.replicate_succ,List.flatten_cons,List.append_assoc]
    rw [← e2,← foldl_rep its k (acc++its),← e,List.replicate_succ,List.foldl_cons]
section
variable {X:Cx} {pins:List (Addr × Obj)} {σ:St} {H:Hp} {s:Shared} {l b:Addr} {xs ys zs:List V}
theorem Inv.lset {its its':List Value} {n:Nat} {f:Array Value→Array Value} {t':Nat} (I:Inv X pins σ H s) (hH:H l=some (.lst xs))
    (e:s.heap.get? l=some { cls:=.type "list",data:=.seq its.toArray n }) (hf:f its.toArray=its'.toArray) (hv:Vals ys its') (hz:ys.length≤sizeLine) :
    Inv X pins σ (upd H l (.lst ys)) { s with heap:=s.heap.update l (Obj.mapSeq f),toks:=t' }:=by
  have q:=PySem.IsL.update e f
  rw [hf] at q
  refine I.write (x:=l) (e:=l) (by rw [hH];exact trivial) (.inl rfl) (fun b' u hb hu=>(Heap.get?_update_other s.heap (Obj.mapSeq f) (Ne.symm hb)).trans hu) ⟨_,q⟩ ?_
  exact ⟨hz,its',_,hv,q⟩
theorem Inv.lnew {its:List Value} {t':Nat} (I:Inv X pins σ H s) (hv:Vals ys its) (hz:ys.length≤sizeLine) :
    Inv X pins σ (upd H s.heap.objs.size (.lst ys)) { s with heap:=s.heap.push { cls:=.type "list",data:=.seq its.toArray },toks:=t' } :=
  I.laid (fun _ _ q=>Heap.get?_push_of_some _ q) (Nat.le_refl _) ⟨hz,its,0,hv,Heap.get?_push_size _ rfl⟩
theorem Inv.fresh (I:Inv X pins σ H s):H s.heap.objs.size=none:=I.hok.fresh (Nat.le_refl _)
theorem Inv.lstM (I:Inv X pins σ H s) (hH:H l=some (.lst xs)):xs.length≤sizeLine∧∃ (its:List Value) (n:Nat),Vals xs its∧xs.length=its.length∧s.heap.get? l=some { cls:=.type "list",data:=.seq its.toArray n }:=by
  obtain ⟨z,its,n,r,e⟩:=I.hok l _ hH
  exact ⟨z,its,n,r,r.length,e⟩
theorem notLongL {n:Nat} (h:n≤sizeLine):Builtin.List.listTooLong n=false:=by
  unfold Builtin.List.listTooLong
  exact decide_eq_false (by omega)
end
section
variable {X:Cx}
def rAppend:V→List V→Hp→VK→Prop:=fun x vs H Q=>∃ l xs y,x=.ref l∧vs=[y]∧H l=some (.lst xs)∧xs.length < sizeLine∧Q .non (upd H l (.lst (xs++[y])))
theorem mt_append:MtM X "list.append" rAppend:=by
  intro pins s σ H x vs v us Q I rx rv h
  obtain ⟨l,xs,y,rfl,rfl,hH,hz,q⟩:=h
  cases rx
  obtain ⟨u,rfl,ru⟩:=rv.one
  obtain ⟨z,its,n,r,hl,e⟩:=I.lstM hH
  refine call_meets F.slot_list_append ⟨_,e,rfl⟩ F.entry_list_append (F.args_list_append_2 _ _) (PySem.list_append l its.toArray n u (by rw [List.size_toArray];omega)) ⟨e,?_⟩
  refine ⟨.non,_,I.lset (its':=its++[u]) hH e (by simp) (r.append (.cons ru .nil)) ?_,rfl,q⟩
  rw [List.length_append,List.length_singleton]
  omega
def rPopAt:V→List V→Hp→VK→Prop:=fun x vs H Q=>∃ l xs i k y,x=.ref l∧vs=[.int i]∧H l=some (.lst xs)∧-(2 ^ 63)≤i∧i < 2 ^ 63∧seqIndex? i xs.length=some k∧xs[k]? = some y∧Q y (upd H l (.lst (xs.eraseIdx k)))
theorem mt_popAt:MtM X "list.pop" rPopAt:=by
  intro pins s σ H x vs v us Q I rx rv h
  obtain ⟨l,xs,i,k,y,rfl,rfl,hH,h1,h2,hk,hy,q⟩:=h
  cases rx
  obtain ⟨u,rfl,ru⟩:=rv.one
  obtain ⟨t,rfl⟩:=ru
  obtain ⟨z,its,n,r,hl,e⟩:=I.lstM hH
  obtain ⟨w,hw,rw'⟩:=r.get hy
  refine call_meets F.slot_list_pop ⟨_,e,rfl⟩ F.entry_list_pop (F.args_list_pop_2 _ _)
    (MeetsSeq.list_pop_at l its.toArray n i t k w (fitsIndex_both h1 h2) (by rw [List.size_toArray,← hl];exact hk) (by rw [← Array.getElem?_toList];exact hw) (by rw [List.size_toArray];omega)) ⟨e,?_⟩
  refine ⟨y,_,I.lset (its':=its.eraseIdx k) hH e ?_ (r.eraseIdx k) ?_,rw',q⟩
  · show its.toArray.eraseIdxIfInBounds k=(its.eraseIdx k).toArray
    rw [List.eraseIdxIfInBounds_toArray]
  · have:=len_erase xs k
    omega
def rRep:R2:=fun x y H Q=>∃ l k xs,x=.ref l∧y=.int k∧H l=some (.lst xs)∧-(2 ^ 63)≤k∧k < 2 ^ 63∧xs.length * k.toNat≤sizeLine ∧
  ∀ p,H p=none→Q (.ref p) (upd H p (.lst (List.replicate k.toNat xs).flatten))
theorem len_rep {α:Type} (xs:List α) (k:Nat):(List.replicate k xs).flatten.length=k * xs.length:=by
  induction k with
  | zero=>simp
  | succ k ih=>rw [List.replicate_succ,List.flatten_cons,List.length_append,ih,Nat.succ_mul,Nat.add_comm]
theorem op_rep:OpR X (binaryOp .Mult) rRep:=by
  intro pins s σ H x y v u Q I rx ry h
  obtain ⟨l,k,xs,rfl,rfl,hH,h1,h2,hz,q⟩:=h
  cases rx
  obtain ⟨t,rfl⟩:=ry
  obtain ⟨z,its,n,r,hl,e⟩:=I.lstM hH
  have hlen:its.toArray.size * k.toNat≤sizeLine:=by rw [List.size_toArray,← hl];exact hz
  have hcap:¬ its.toArray.size * k.toNat > (2 ^ 63 - 1) / 8:=by
    have:(sizeLine:Nat)≤(2 ^ 63 - 1) / 8:=by decide
    omega
  have hfit:¬ (!Builtin.List.listFitsIndex k)=true:=by
    rw [fitsIndex_both h1 h2]
    exact Bool.false_ne_true
  have hlong:¬ Builtin.List.listTooLong (its.toArray.size * k.toNat)=true:=by
    rw [notLongL hlen]
    exact Bool.false_ne_true
  have hnew:List.foldl (fun x1 x2=>x1++x2) #[] (List.replicate (if its.toArray.isEmpty=true then 0 else k.toNat) its.toArray)=(List.replicate k.toNat its).flatten.toArray:=by
    have f0:∀ m:Nat,List.foldl (fun x1 x2=>x1++x2) #[] (List.replicate m its.toArray)=(List.replicate m its).flatten.toArray:=fun m=>by
      have:=foldl_rep its m []
      rw [List.nil_append] at this
      exact this
    rw [f0]
    cases its with
    | nil=>simp
    | cons a r'=>rw [if_neg (by simp)]
  refine wpAny_binaryOp_repeat_ref (T:="list") (U:="int") (by decide) ⟨_,e,rfl⟩ (fun s'=>typeIs_int s' k t) noFill_list_mul F.fills_int_mul F.slot_int_rmul repeat_list F.slot_int_index.lookup
    (call_meets F.slot_int_rmul (typeIs_int s k t) F.entry_int_rmul (F.args_int_rmul_2 _ _) (int___rmul___int_list k t l its.toArray n)
      ⟨e,rfl,⟨_,e,rfl⟩,call_meets F.slot_list_mul ⟨_,e,rfl⟩ F.entry_list_mul (F.args_list_mul_2 _ _) (AutoListH.list___mul___list_int_3 l its.toArray n k t hfit hcap hlong) ⟨e,?_⟩⟩)
  rw [hnew]
  exact ⟨.ref _,_,I.lnew (t':=s.toks) (r.rep k.toNat) (by rw [len_rep,Nat.mul_comm];exact hz),rfl,q _ I.fresh⟩
end
section
variable {prog:Program} {w:World} {A:Around} {E:Value→Shared→Prop} {s:Shared}
set_option maxRecDepth 100000 in
end
section
variable {X:Cx}
end
end L2
namespace L2
open PySem PySem.Spec PyProof.Rows
section
variable {κ:Type} [DecidableEq κ]
def valV (kvs:List (κ × V)) (k:κ):Option V:=(kvs.find? fun kv=>decide (kv.1=k)).map (·.2)
def putK (kvs:List (κ × V)) (k:κ) (v:V):List (κ × V) :=
  if (kvs.any fun kv=>decide (kv.1=k))=true then kvs.map (fun kv=>if kv.1=k then (kv.1,v) else kv) else kvs++[(k,v)]
def dropK (kvs:List (κ × V)) (k:κ):List (κ × V):=kvs.filter fun kv=>decide (kv.1≠k)
theorem valV_pos {p:κ × V} {r:List (κ × V)} {k:κ} (e:p.1=k):valV (p :: r) k=some p.2:=by simp [valV,List.find?_cons,e]
theorem valV_neg {p:κ × V} {r:List (κ × V)} {k:κ} (e:¬ p.1=k):valV (p :: r) k=valV r k:=by simp [valV,List.find?_cons,e]
theorem valV_any (k:κ):∀ kvs:List (κ × V),(kvs.any fun kv=>decide (kv.1=k))=(valV kvs k).isSome
  | []=>rfl
  | p :: r=>by
    rw [List.any_cons]
    by_cases e:p.1=k
    · simp only [valV_pos e,decide_eq_true e,Bool.true_or,Option.isSome_some]
    · rw [valV_neg e,decide_eq_false e,Bool.false_or];exact valV_any k r
theorem length_putK (kvs:List (κ × V)) (k:κ) (v:V):(putK kvs k v).length≤kvs.length+1:=by
  unfold putK
  split
  · rw [List.length_map];omega
  · rw [List.length_append,List.length_cons,List.length_nil];omega
theorem putK_new {kvs:List (κ × V)} {k:κ} (v:V) (h:valV kvs k=none):putK kvs k v=kvs++[(k,v)]:=by
  unfold putK
  rw [valV_any,h]
  exact if_neg (by decide)
theorem RelO.isSome_eq {o:Option V} {u:Option Value} (r:RelO o u):o.isSome=u.isSome:=by
  cases o with
  | none=>cases u with
    | none=>rfl
    | some _=>exact (show False from r).elim
  | some _=>cases u with
    | none=>exact (show False from r).elim
    | some _=>rfl
theorem RelO.getD {o:Option V} {u:Option Value} {d:V} {d':Value} (r:RelO o u) (rd:RelV d d'):RelV (o.getD d) (u.getD d'):=by
  cases o with
  | none=>cases u with
    | none=>exact rd
    | some _=>exact (show False from r).elim
  | some _=>cases u with
    | none=>exact (show False from r).elim
    | some _=>exact r
theorem KV.val {kvs:List (κ × V)} {vs:List (κ × Value)} (r:KV kvs vs) (k:κ):RelO (valV kvs k) (valueAt vs k):=by
  unfold KV at r
  induction r with
  | nil=>exact True.intro
  | @cons p q ps qs h t ih =>
    obtain ⟨h1,h2⟩:=h
    by_cases e:p.1=k
    · have e':q.1=k:=h1.symm.trans e
      have b:valueAt (q :: qs) k=some q.2:=by simp [valueAt,List.find?_cons,e']
      rw [valV_pos e,b];exact h2
    · have e':¬ q.1=k:=fun z=>e (h1.trans z)
      have b:valueAt (q :: qs) k=valueAt qs k:=by simp [valueAt,List.find?_cons,e']
      rw [valV_neg e,b];exact ih
theorem KV.any {kvs:List (κ × V)} {vs:List (κ × Value)} (r:KV kvs vs) (k:κ):(kvs.any fun kv=>decide (kv.1=k))=vs.any fun kv=>decide (kv.1=k):=by
  unfold KV at r
  induction r with
  | nil=>rfl
  | cons h t ih=>rw [List.any_cons,List.any_cons,ih,h.1]
theorem KV.repl {kvs:List (κ × V)} {vs:List (κ × Value)} (r:KV kvs vs) (k:κ) {y:V} {u:Value} (ry:RelV y u) :
    KV (kvs.map fun kv=>if kv.1=k then (kv.1,y) else kv) (vs.map fun kv=>if kv.1=k then (kv.1,u) else kv):=by
  unfold KV at r ⊢
  induction r with
  | nil=>exact .nil
  | @cons p q ps qs h t ih =>
    rw [List.map_cons,List.map_cons]
    refine .cons ?_ ih
    obtain ⟨h1,h2⟩:=h
    by_cases e:p.1=k
    · rw [if_pos e,if_pos (h1.symm.trans e)];exact ⟨h1,ry⟩
    · rw [if_neg e,if_neg (fun z=>e (h1.trans z))];exact ⟨h1,h2⟩
theorem KV.put {kvs:List (κ × V)} {vs:List (κ × Value)} (r:KV kvs vs) (k:κ) {y:V} {u:Value} (ry:RelV y u):KV (putK kvs k y) (stored vs k u):=by
  unfold putK stored
  rw [r.any k]
  by_cases e:(vs.any fun kv=>decide (kv.1=k))=true
  · rw [if_pos e,if_pos e];exact r.repl k ry
  · rw [if_neg e,if_neg e];exact Paired.snoc r ⟨rfl,ry⟩
theorem KV.drop {kvs:List (κ × V)} {vs:List (κ × Value)} (r:KV kvs vs) (k:κ):KV (dropK kvs k) (without vs k):=by
  unfold KV at r ⊢
  unfold dropK without
  induction r with
  | nil=>exact .nil
  | @cons p q ps qs h t ih =>
    obtain ⟨h1,h2⟩:=h
    rw [List.filter_cons,List.filter_cons]
    by_cases e:p.1=k
    · have a:¬ decide (p.1≠k)=true:=by simp [e]
      have b:¬ decide (q.1≠k)=true:=by simp [h1.symm.trans e]
      rw [if_neg a,if_neg b];exact ih
    · have e':¬ q.1=k:=fun z=>e (h1.trans z)
      have a:decide (p.1≠k)=true:=by simp [e]
      have b:decide (q.1≠k)=true:=by simp [e']
      rw [if_pos a,if_pos b];exact .cons ⟨h1,h2⟩ ih
theorem KV.keys {kvs:List (κ × V)} {vs:List (κ × Value)} (r:KV kvs vs):kvs.map (·.1)=vs.map (·.1):=by
  unfold KV at r
  induction r with
  | nil=>rfl
  | cons h t ih=>rw [List.map_cons,List.map_cons,ih,h.1]
theorem KV.length {kvs:List (κ × V)} {vs:List (κ × Value)} (r:KV kvs vs):kvs.length=vs.length:=Paired.length r
end
theorem kV_is {P:Program} {w:World} {k:Key} {u:Value} (r:RelV (kV k) u):(mixKind P w).is k u=true:=by
  cases k with
  | inl i=>obtain ⟨t,e⟩:=(show ∃ t,u=Value.int i t from r);subst e;exact mixKind_int P w i t
  | inr x=>obtain ⟨t,e⟩:=(show ∃ t,u=Value.str x t from r);subst e;exact mixKind_str P w x t
theorem items_are {P:Program} {w:World}:∀ {ks:List Key} {us:List Value},Vals (ks.map kV) us→ItemsAre (mixKind P w) ks us
  | [],_,r=>by rw [List.map_nil] at r;cases r;exact .nil
  | k :: ks,_,r=>by
    rw [List.map_cons] at r
    cases r with
    | cons h t=>exact .cons (kV_is h) (items_are t)
abbrev KT (H:Hp):List (List Key × V)→List (List Key × Addr × Value)→Prop:=Paired fun p q=>p.1=q.1∧H q.2.1=some (.tup (p.1.map kV))∧RelV p.2 q.2.2
theorem KT.val {H:Hp} {kvs:List (List Key × V)} {xs:List (List Key × Addr × Value)} (r:KT H kvs xs) (k:List Key):RelO (valV kvs k) ((atKey xs k).map (·.2)):=by
  induction r with
  | nil=>exact True.intro
  | @cons p q ps qs h t ih =>
    obtain ⟨h1,_,h2⟩:=h
    by_cases e:p.1=k
    · have e':q.1=k:=h1.symm.trans e
      have b:atKey (q :: qs) k=some q.2:=by simp [atKey,List.find?_cons,e']
      rw [valV_pos e,b];exact h2
    · have e':¬ q.1=k:=fun z=>e (h1.trans z)
      have b:atKey (q :: qs) k=atKey qs k:=by simp [atKey,List.find?_cons,e']
      rw [valV_neg e,b];exact ih
theorem KT.repl {H:Hp} {kvs:List (List Key × V)} {xs:List (List Key × Addr × Value)} (r:KT H kvs xs) (k:List Key) {y:V} {u:Value} (ry:RelV y u) :
    KT H (kvs.map fun kv=>if kv.1=k then (kv.1,y) else kv) (xs.map (putAt k u)):=by
  induction r with
  | nil=>exact .nil
  | @cons p q ps qs h t ih =>
    rw [List.map_cons,List.map_cons]
    refine .cons ?_ ih
    obtain ⟨h1,h2,h3⟩:=h
    unfold putAt
    by_cases e:p.1=k
    · rw [if_pos e,if_pos (h1.symm.trans e)];exact ⟨h1,h2,ry⟩
    · rw [if_neg e,if_neg (fun z=>e (h1.trans z))];exact ⟨h1,h2,h3⟩
theorem KT.put {H:Hp} {kvs:List (List Key × V)} {xs:List (List Key × Addr × Value)} (r:KT H kvs xs) (k:List Key) {b:Addr} {y:V} {u:Value} (hb:H b=some (.tup (k.map kV))) (ry:RelV y u) :
    KT H (putK kvs k y) (storedH xs k b u):=by
  have e:(kvs.any fun kv=>decide (kv.1=k))=(atKey xs k).isSome:=by
    rw [valV_any,(r.val k).isSome_eq,Option.isSome_map]
  unfold putK storedH
  rw [e]
  by_cases q:(atKey xs k).isSome=true
  · rw [if_pos q,if_pos q];exact r.repl k ry
  · rw [if_neg q,if_neg q];exact Paired.snoc r ⟨rfl,hb,ry⟩
theorem KT.keeps {H H':Hp} {kvs:List (List Key × V)} {xs:List (List Key × Addr × Value)} (r:KT H kvs xs) (ht:∀ b ys,H b=some (.tup ys)→H' b=some (.tup ys)):KT H' kvs xs :=
  Paired.mapP r fun _ _ z=>⟨z.1,ht _ _ z.2.1,z.2.2⟩
section
variable {P:Program} {w:World} {H:Hp} {h:Heap} {a:Addr}
theorem rd_of {u:HO} (ok:HOk P w H h) (e:Rd H a u):ObjOk P w H h a u:=e.ok ok
theorem dk_rd {kvs:List (Key × V)} (ok:HOk P w H h) (e:Rd H a (.dK kvs)):kvs.length≤sizeLine∧(a == sysModules)=false∧∃ vs,KV kvs vs∧h.DictOf (mixKind P w) a vs :=
  show ObjOk P w H h a (.dK kvs) from rd_of ok e
theorem dk_of {kvs:List (Key × V)} (ok:HOk P w H h) (e:H a=some (.dK kvs)):kvs.length≤sizeLine∧(a == sysModules)=false∧∃ vs,KV kvs vs∧h.DictOf (mixKind P w) a vs:=dk_rd ok (.inl e)
theorem key_of {ks:List Key} (ok:HOk P w H h) (e:H a=some (.tup (ks.map kV))):(tupleKind (mixKind P w)).is h ks a:=by
  obtain ⟨_,its,r,⟨o,h1,h2,n,h3⟩,_⟩:=(show ObjOk P w H h a (.tup (ks.map kV)) from ok a _ e)
  exact ⟨o,its.toArray,n,h1,h2,h3,by simpa using items_are r⟩
theorem dt_rd {kvs:List (List Key × V)} (ok:HOk P w H h) (e:Rd H a (.dT kvs)):kvs.length≤sizeLine∧(a == sysModules)=false ∧
    ∃ xs,KT H kvs xs∧h.DictOfH (tupleKind (mixKind P w)) a xs:=by
  obtain ⟨z,y,xs,r,o,es,ep,h1,h2,h3,h4,h5⟩:=(show ObjOk P w H h a (.dT kvs) from rd_of ok e)
  refine ⟨z,y,xs,r,o,es,ep,h1,h2,h3,h4,fun x hx=>?_,h5⟩
  have all:∀ {l:List (List Key × V)} {m:List (List Key × Addr × Value)},KT H l m→∀ x∈m,(tupleKind (mixKind P w)).is h x.1 x.2.1:=by
    intro l m q
    induction q with
    | nil=>intro x hx;exact nomatch hx
    | @cons p q ps qs hq t ih =>
      intro x hx
      rcases List.mem_cons.mp hx with e | hx
      · subst e
        exact key_of ok (by rw [← hq.1];exact hq.2.1)
      · exact ih x hx
  exact all r x hx
theorem dt_of {kvs:List (List Key × V)} (ok:HOk P w H h) (e:H a=some (.dT kvs)):kvs.length≤sizeLine∧(a == sysModules)=false ∧
    ∃ xs,KT H kvs xs∧h.DictOfH (tupleKind (mixKind P w)) a xs:=dt_rd ok (.inl e)
end
def DGet (H:Hp) (a:Addr) (y:V) (r:Option V):Prop :=
  (∃ kvs k,Rd H a (.dK kvs)∧y=kV k∧r=valV kvs k)∨∃ kvs k b,Rd H a (.dT kvs)∧y=.ref b∧H b=some (.tup (k.map kV))∧r=valV kvs k
def DPut (H:Hp) (a:Addr) (y v:V) (H':Hp):Prop :=
  (∃ kvs k,H a=some (.dK kvs)∧y=kV k∧kvs.length < sizeLine∧H'=upd H a (.dK (putK kvs k v))) ∨
  ∃ kvs k b,H a=some (.dT kvs)∧y=.ref b∧H b=some (.tup (k.map kV))∧kvs.length < sizeLine∧H'=upd H a (.dT (putK kvs k v))
theorem DGet.k {H:Hp} {a:Addr} {kvs:List (Key × V)} {k:Key} (e:H a=some (.dK kvs)):DGet H a (kV k) (valV kvs k):=.inl ⟨kvs,k,.inl e,rfl,rfl⟩
theorem DGet.t {H:Hp} {a b:Addr} {kvs:List (List Key × V)} {k:List Key} (e:H a=some (.dT kvs)) (eb:H b=some (.tup (k.map kV))):DGet H a (.ref b) (valV kvs k):=.inr ⟨kvs,k,b,.inl e,rfl,eb,rfl⟩
theorem DPut.k {H:Hp} {a:Addr} {kvs:List (Key × V)} {k:Key} {v:V} (e:H a=some (.dK kvs)) (hl:kvs.length < sizeLine):DPut H a (kV k) v (upd H a (.dK (putK kvs k v))):=.inl ⟨kvs,k,e,rfl,hl,rfl⟩
theorem DPut.t {H:Hp} {a b:Addr} {kvs:List (List Key × V)} {k:List Key} {v:V} (e:H a=some (.dT kvs)) (eb:H b=some (.tup (k.map kV))) (hl:kvs.length < sizeLine) :
    DPut H a (.ref b) v (upd H a (.dT (putK kvs k v))):=.inr ⟨kvs,k,b,e,rfl,eb,hl,rfl⟩
section
variable {X:Cx} {pins:List (Addr × Obj)} {σ:St} {H:Hp} {s:Shared} {a:Addr} {y v:V} {u r:Value} {o:Option V} {A:Around} {E:Value→Shared→Prop}
theorem Inv.big (I:Inv X pins σ H s):sysModules < s.heap.objs.size:=by
  have h:mainGlobals < s.heap.objs.size:=(I.mod.glob.keeps I.bk).lt
  exact Nat.lt_trans (by decide) h
theorem d_getItem {Q:Value→Shared→Prop} (hu:A.units+1 < cLine) (I:Inv X pins σ H s) (g:DGet H a y (some v)) (ry:RelV y u) (h:∀ w' s',Inv X pins σ H s'→RelV v w'→Q w' s') :
    wpAny (model X.prog X.w) A (getItem (.ref a) u) Q E s:=by
  rcases g with ⟨kvs,k,e,ey,l⟩ | ⟨kvs,k,b,e,ey,eb,l⟩
  · subst ey
    obtain ⟨z,hd,vs,rel,dd⟩:=dk_rd I.hok e
    obtain ⟨w',hw,rw'⟩:=RelO.some_of (v:=v) (o:=valueAt vs k) (by rw [l];exact rel.val k)
    exact wpAny_getItem_of (kV_is ry) dd.mapOf hw (h w' _ (I.tok _) rw')
  · subst ey
    cases (show u=Value.ref b from ry)
    obtain ⟨z,hd,xs,rel,dd⟩:=dt_rd I.hok e
    obtain ⟨w',hw,rw'⟩:=RelO.some_of (v:=v) (o:=(atKey xs k).map (·.2)) (by rw [l];exact rel.val k)
    obtain ⟨p,hp,hp2⟩:=Option.map_eq_some_iff.mp hw
    refine wpAny_getItem_heap (tupleKind_room_in1 hu) (key_of I.hok eb) dd hp ?_
    rw [hp2]
    exact h w' _ (I.tok _) rw'
theorem d_in {Q:Value→Shared→Prop} (hu:A.units+1 < cLine) (I:Inv X pins σ H s) (g:DGet H a y o) (ry:RelV y u) (h:∀ s',Inv X pins σ H s'→Q (.bool o.isSome) s') :
    wpAny (model X.prog X.w) A (compareOp .In u (.ref a)) Q E s:=by
  rcases g with ⟨kvs,k,e,ey,l⟩ | ⟨kvs,k,b,e,ey,eb,l⟩
  · subst ey
    obtain ⟨z,hd,vs,rel,dd⟩:=dk_rd I.hok e
    refine wpAny_in_of (kV_is ry) hd dd.mapOf ?_
    rw [← (rel.val k).isSome_eq,← l]
    exact h _ (I.tok _)
  · subst ey
    cases (show u=Value.ref b from ry)
    obtain ⟨z,hd,xs,rel,dd⟩:=dt_rd I.hok e
    refine wpAny_in_heap (tupleKind_room_in1 hu) (key_of I.hok eb) hd dd ?_
    have q:=(rel.val k).isSome_eq
    rw [Option.isSome_map] at q
    rw [← q,← l]
    exact h _ (I.tok _)
theorem d_write {h':Heap} {t':Nat} {ob:HO} (I:Inv X pins σ H s) (mu:Mut (H a)) (hs:Heap.SameBut a s.heap h') (he:∃ q,h'.get? a=some q) (new:ObjOk X.prog X.w (upd H a ob) h' a ob) :
    Inv X pins σ (upd H a ob) { s with heap:=h',toks:=t' } :=
  I.write (x:=a) (e:=a) mu (.inl rfl) (fun b q hb z=>(hs.2 b hb).trans z) he new
theorem dk_new {P:Program} {w:World} {H':Hp} {h':Heap} {kvs:List (Key × V)} {vs:List (Key × Value)} (z:kvs.length≤sizeLine) (hd:(a == sysModules)=false) (rel:KV kvs vs) (dd:h'.DictOf (mixKind P w) a vs) :
    ObjOk P w H' h' a (.dK kvs):=⟨z,hd,vs,rel,dd⟩
theorem d_setItem {H':Hp} {Q:Unit→Shared→Prop} (hu:A.units+1 < cLine) (I:Inv X pins σ H s) (g:DPut H a y v H') (ry:RelV y u) (rv:RelV v r) (h:∀ s',Inv X pins σ H' s'→Q () s') :
    wpAny (model X.prog X.w) A (setItem (.ref a) u r) Q E s:=by
  rcases g with ⟨kvs,k,e,ey,l,eH⟩ | ⟨kvs,k,b,e,ey,eb,l,eH⟩
  · subst ey eH
    obtain ⟨z,hd,vs,rel,dd⟩:=dk_of I.hok e
    have hz:vs.length≤sizeLine:=by rw [← rel.length];exact z
    have hl:(putK kvs k v).length≤sizeLine:=by have:=length_putK kvs k v;omega
    refine wpAny_setItem_pairs (hsz:=hz) (kV_is ry) dd fun h' dd' hs=>h _ ?_
    have he:∃ q,h'.get? a=some q:=let ⟨q,_,_,hq,_⟩:=dd';⟨q,hq⟩
    exact d_write I (by rw [e];exact True.intro) hs he (dk_new hl hd (rel.put k rv) dd')
  · subst ey eH
    cases (show u=Value.ref b from ry)
    obtain ⟨z,hd,xs,rel,dd⟩:=dt_of I.hok e
    have hz:xs.length≤sizeLine:=by rw [← Paired.length rel];exact z
    have hl:(putK kvs k v).length≤sizeLine:=by have:=length_putK kvs k v;omega
    refine wpAny_setItem_heap (hsz:=hz) (tupleKind_room_in1 hu) (key_of I.hok eb) dd fun h' dd' hs=>h _ ?_
    obtain ⟨q,es,ep,hq,h2,h3,h4,_,h5⟩:=dd'
    refine d_write I (by rw [e];exact True.intro) hs ⟨q,hq⟩ ⟨hl,hd,_,(rel.put k eb rv).keeps fun c ys ec=>?_,q,es,ep,hq,h2,h3,h4,h5⟩
    rw [upd_ne (ne_of ec e (fun z=>nomatch z))]
    exact ec
end
section
variable {X:Cx} {pins:List (Addr × Obj)} {σ:St} {H:Hp} {s:Shared} {a:Addr} {kvs:List (Key × V)} {k:Key} {u:Value} {A:Around} {E:Value→Shared→Prop}
theorem d_len {Q:Value→Shared→Prop} (I:Inv X pins σ H s) (e:Rd H a (.dK kvs)) (h:∀ t s',Inv X pins σ H s'→Q (.int kvs.length t) s'):wpAny (model X.prog X.w) A (call (.builtin "len") [.ref a]) Q E s:=by
  obtain ⟨z,hd,vs,rel,dd⟩:=dk_rd I.hok e
  refine call_len_dict hd dd (by rw [← rel.length];rw [sizeLine_eq] at z;omega) ?_
  rw [← rel.length]
  exact h _ _ (I.tok _)
end
def NoSl (i:Expr):Prop:=∀ ov iv,subscripted i false ov iv=operate [ov,iv] (getItem ov iv)
theorem subD_of {prog:Program} {w:World} {A:Around} {E:Value→Shared→Prop} {s:Shared} {env:Env} {value slice:Expr} {pos:Pos} {T id:String} {Q:Value→Shared→Prop}
    (hl:typeLookup (.type T) "__getitem__" = pure (some (.builtin id))) (hs:NoSl slice)
    (h:wpAny (model prog w) A (eval value env) (fun o s₁=>wpAny (model prog w) A (eval slice env) (fun i s₂=>s₂.TypeIs o T∧wpAny (model prog w) A (getItem o i) Q E s₂) E s₁) E s) :
    wpAny (model prog w) A (eval (.Subscript value slice pos) env) Q E s:=by
  refine Subscript_ (wpAny_mono h (fun o s₁ h₁=>wpAny_mono h₁ (fun i s₂ h₂=>?_) fun _ _ x=>x) fun _ _ x=>x)
  obtain ⟨hT,h₂⟩:=h₂
  unfold subscriptTail
  refine wpAny_bind ?_
  rw [getitemInPython_of_ne hT.not_modules]
  refine wpAny_bind (wpAny_specialOf hT hl ?_)
  have fin:wpAny (model prog w) A (subscripted slice false o i) (fun r s₃=>wpAny (model prog w) A (letTemporaryGo value o r >>= fun _=>pure r) Q E s₃) E s₂:=by
    rw [hs o i]
    exact wpAny_operating (wpAny_mono h₂ (fun r s₃ h₃=>wpAny_bind (wpAny_letTemporaryGo (wpAny_pure h₃))) fun _ _ x=>x)
  first
    | exact wpAny_pure (wpAny_bind fin)
    | exact wpAny_bind (wpAny_pure (wpAny_bind fin))
    | exact wpAny_bind fin
theorem dict_typeIs {X:Cx} {pins:List (Addr × Obj)} {σ:St} {H:Hp} {s:Shared} {a:Addr} {y:V} {o:Option V} (I:Inv X pins σ H s) (g:DGet H a y o):s.TypeIs (.ref a) "dict":=by
  rcases g with ⟨kvs,k,e,_,_⟩ | ⟨kvs,k,b,e,_,_,_⟩
  · obtain ⟨_,_,vs,_,dd⟩:=dk_rd I.hok e
    exact dd.typeIs
  · obtain ⟨_,_,xs,_,dd⟩:=dt_rd I.hok e
    exact dd.typeIs
def tDGet (td ty:TE):TE:=fun σ H Q=>td σ H fun x H1=>ty σ H1 fun y H2=>∃ a v,x=.ref a∧DGet H2 a y (some v)∧Q v H2
def sDPut (td ty tv:TE):TS:=fun D σ H=>tv σ H fun v H1=>td σ H1 fun x H2=>ty σ H2 fun y H3=>∃ a H4,x=.ref a∧DPut H3 a y v H4∧D.nx σ H4
section
variable {X:Cx} {o i e value:Expr} {pos pos' tpos:Pos} {td ty tv:TE}
theorem pe_dget (hu:X.A.units+1 < cLine) (ho:PE X o td) (hi:PE X i ty) (hs:NoSl i):PE X (.Subscript o i pos) (tDGet td ty):=by
  intro pins s σ H Q I h
  refine subD_of PySem.F.slot_dict_getitem.lookup hs (thn (ho pins s σ H _ I h) fun u s1 ⟨x,H1,I1,rx,q1⟩=>thn (hi pins s1 σ H1 _ I1 q1) fun iv s2 ⟨y,H2,I2,ry,a,v,ex,g,q2⟩=>?_)
  subst ex
  obtain rfl:u=Value.ref a:=rx
  exact ⟨dict_typeIs I2 g,d_getItem hu I2 g ry fun w' s3 I3 rw'=>⟨v,H2,I3,rw',q2⟩⟩
theorem ps_dput (hu:X.A.units+1 < cLine) (ho:PE X o td) (hi:PE X i ty) (hv:PE X value tv) (hs:swapsWith value (some (.Subscript o i pos')) pos.line X.env=pure false) :
    PS X (.Assign [.Subscript o i pos'] value pos) (sDPut td ty tv):=by
  intro pins s σ H D I h
  refine wpAny_Assign_Subscript (thn (hv pins s σ H _ I h) fun r s1 ⟨v,H1,I1,rv,q1⟩=>thn (ho pins s1 σ H1 _ I1 q1) fun u s2 ⟨x,H2,I2,rx,q2⟩=>thn (hi pins s2 σ H2 _ I2 q2) fun iv s3 ⟨y,H3,I3,ry,a,H4,ex,g,q3⟩=>?_) hs
  subst ex
  obtain rfl:u=Value.ref a:=rx
  exact d_setItem hu I3 g ry rv fun s4 I4=>⟨σ,H4,I4,q3⟩
end
theorem dk_empty {P:Program} {w:World} {H:Hp} (h:Heap) (hb:sysModules < h.objs.size):ObjOk P w H (h.push { cls:=.type "dict",data:=.dict #[] }) h.objs.size (.dK []) :=
  ⟨Nat.zero_le _,beq_eq_false_iff_ne.mpr (Ne.symm (Nat.ne_of_lt hb)),[],.nil,Heap.DictOf.new h⟩
def tDNewK:TE:=fun _ H Q=>∀ p,H p=none→Q (.ref p) (upd H p (.dK []))
section
variable {X:Cx} {pos:Pos}
theorem pe_dnewK:PE X (.Dict [] [] pos) tDNewK:=fun pins s σ H Q I h =>
  wpAny_Dict_empty ⟨.ref s.heap.objs.size,_,I.laid (a:=s.heap.objs.size) (o:=.dK []) (t':=s.toks) (fun _ _ q=>Heap.get?_push_of_some _ q) (Nat.le_refl _) (dk_empty s.heap I.big),rfl,h _ (I.hok.fresh (Nat.le_refl _))⟩
end
structure M1 (X:Cx) (o:Expr) (m:Str) (apos:Pos) (e:Expr) (cpos:Pos):Prop where
  base:attributeBase o m X.env (eval o X.env)=eval o X.env
  few:((backTo cpos (starEach [e] X.env)).all (fun x=>!x.1) && (backToKw cpos (keywordEach [] X.env)).all (fun x=>x.1.isSome)
    && decide (([e]:List Expr).length+([]:List Keyword).length+(if ([]:List Keyword).isEmpty then 0 else 1) < 30))=true
  line:(apos.endLine == cpos.line)=true
  trees:backTo cpos (starEach [e] X.env)=[(false,eval e X.env)]
structure M2 (X:Cx) (o:Expr) (m:Str) (apos:Pos) (e f:Expr) (cpos:Pos):Prop where
  base:attributeBase o m X.env (eval o X.env)=eval o X.env
  few:((backTo cpos (starEach [e,f] X.env)).all (fun x=>!x.1) && (backToKw cpos (keywordEach [] X.env)).all (fun x=>x.1.isSome)
    && decide (([e,f]:List Expr).length+([]:List Keyword).length+(if ([]:List Keyword).isEmpty then 0 else 1) < 30))=true
  line:(apos.endLine == cpos.line)=true
  trees:backTo cpos (starEach [e,f] X.env)=[(false,eval e X.env),(false,eval f X.env)]
section
variable {X:Cx} {pins:List (Addr × Obj)} {σ:St} {H:Hp} {s:Shared} {a:Addr} {y d:V} {u r:Value} {o:Option V} {A:Around} {E:Value→Shared→Prop}
end
section
variable {X:Cx} {o e f:Expr} {apos cpos:Pos} {td ty tx:TE}
end
section
variable {X:Cx} {pins:List (Addr × Obj)} {σ:St} {H:Hp} {s:Shared} {a:Addr} {kvs:List (Key × V)} {A:Around} {E:Value→Shared→Prop}
end
section
variable {X:Cx} {pins:List (Addr × Obj)} {σ:St} {H:Hp} {s:Shared} {a:Addr} {y:V} {u:Value} {A:Around} {E:Value→Shared→Prop}
end
end L2
namespace Att
open PySem PySem.W PySem.Calls PyProof.Rows
theorem ints_of_wellAll {P:Params} {h:Heap}:∀ (ns:List Int) (vs:List Value),WellAll P h vs (ns.map WData.int)→IntsAre vs ns:=by
  intro ns
  induction ns with
  | nil =>
    intro vs w
    rw [List.map_nil] at w
    cases w
    exact .nil
  | cons n ns ih =>
    intro vs w
    rw [List.map_cons] at w
    cases w with
    | cons a b =>
      cases a
      exact .cons _ _ (ih _ b)
theorem script_of {l:OpenLaw} {n:Nat} (hn:l.most=some n) {P:Params} {h:Heap} {args:List WData} {vals:List Value}
    (hpre:l.row.toRowW.claim.pre args=true) (hwl:WellAll P h vals args) :
    ∃ a vs ns,vals=[Value.ref a]∧args=[WData.list (ns.map WData.int)]∧h.get? a=some { cls:=.type "list",data:=.seq vs.toArray }∧IntsAre vs ns∧ns.length≤n:=by
  have hsh:WShape.hasAll [] args [.list .int]=true:=(pre_splitW hpre).1
  have hc:l.pre.holds [] { args:=args }=true:=(pre_splitW hpre).2
  obtain ⟨d,r,rfl,h1,h2⟩:=hasAllW_cons hsh
  obtain rfl:=hasAllW_nil h2
  obtain ⟨xs,rfl,h3⟩:=hasW_list h1
  obtain ⟨ns,rfl⟩:=items_int h3
  have hlen:ns.length≤n:=by
    unfold OpenLaw.pre at hc
    have h4:(WTm.not (.lt (.lit (.int (n:Int))) (.len (.arg 0)))).holds [] { args:=[.list (ns.map .int)] }=true:=by
      have h4:=(holds_andW hc).1
      rw [hn] at h4
      exact h4
    have h5:=condW_of h4 (w_not (w_lt w_lit (w_len_list (w_arg rfl))))
    rw [List.length_map] at h5
    refine Nat.le_of_not_lt fun q=>?_
    have q':(n:Int) < ((ns.length:Nat):Int):=by omega
    first
      | (rw [decide_eq_true q'] at h5;exact absurd h5 (by decide))
      | (simp at h5;omega)
  cases hwl with
  | cons w1 w2 =>
    cases w2
    cases w1 with
    | list ho hall=>exact ⟨_,_,ns,rfl,rfl,ho,ints_of_wellAll ns _ hall,hlen⟩
theorem post_true (l:OpenLaw) (args:List WData):l.row.toRowW.claim.post args (.bool true) args=true :=
  postW_of (r:=l.row.toRowW) (X:=(true == true))
    (show WShape.has [] (.bool true) .bool=true by first | rfl | decide | simp [WShape.has,WShape.arms,WShape.armsAll])
    (show (WTm.eq .res (.lit (.bool true))).value [] { args:=args,res:=some (.bool true),after:=args }=some (.bool (true == true)) from w_eq_bool (w_res rfl) w_lit) rfl
theorem attach_call {l:OpenLaw} {n:Nat} {q:Program} {loose:List Str} {XP:(Str→Option Value)→Heap→Prop} {YP:World→Heap→Prop} {d:DefRec}
    (hn:l.most=some n) (hdf:d.params.defaults=[])
    (call:∀ (w:World) (s₀ s₁:Shared) (mg mb:Str→Option Value) (fa:Addr) (o:Obj) (pm cd doc:Value) (a:Addr) (vs:List Value) (ns:List Int),
      Ground q loose [] XP w s₀ mg mb s₁.heap→YP w s₁.heap →
      s₁.heap.get? fa=some o→o.data=.func (docDef d.name d.params d.body d.scope pm cd doc)→s₁.heap.CodeRec cd d.name→mg d.name=some (.ref fa) →
      s₁.heap.get? a=some { cls:=.type "list",data:=.seq vs.toArray }→IntsAre vs ns→ns.length≤n→s₁.gens = #[] →
      codeAny (model l.prog w) callerA (.call (.ref fa) ⟨[.ref a],[]⟩) (fun r s'=>r=.ok (.ret (.bool true))∧OldK s₁.heap s'.heap∧s'.os=s₁.os∧AllBare s'.gens) s₁) :
    WalkO q loose XP YP l.row.toRowW d [] (fun f vs=>PySem.call f vs):=by
  intro w s₀ s₁ mg mb G Y fa o pm cd doc dV kV ho hd hcd hD hmg hg args vals as hpre hlay hrd hwl hlo
  obtain rfl:dV=.none:=Dflts.none hD hdf
  obtain rfl:kV=.none:=Dflts.noKw hD
  obtain ⟨a,vs,ns,rfl,rfl,hobj,hints,hlen⟩:=script_of hn hpre hwl
  refine enter_call (codeAny_mono (call w s₀ s₁ mg mb fa o pm cd doc a vs ns G Y ho (fd_plain hd) hcd hmg hobj hints hlen hg) fun r s' hq=>?_)
  obtain ⟨rfl,h2,h3,h4⟩:=hq
  exact ⟨.inl ⟨.bool true,.bool true,[],rfl,fun _=>rfl,.bool true,post_true l _,fun _=>⟨List.Pairwise.nil,fun _ hm=>(nomatch hm)⟩⟩,h2,h3,h4⟩
section
variable {prog:Program} {w:World} {A:Around} {E:Value→Shared→Prop} {s:Shared} {K:Frag}
def ledger (h:Heap) (L d:Addr):List (Addr × Obj):=(List.range h.objs.size).filterMap fun a=>if a=L∨a=d then none else (h.get? a).map fun o=>(a,o)
end
end Att
namespace L2
open PySem PySem.Spec PyProof.Rows
theorem vals_ints:∀ {vs:List Value} {ns:List Int},IntsAre vs ns→Vals (ns.map V.int) vs
  | _,_,.nil=>.nil
  | _,_,.cons n t h=>.cons ⟨t,rfl⟩ (vals_ints h)
def Only (H:Hp):Prop:=∀ b,H b=none∨∃ o xs,H b=some (.frz o (.lst xs))
theorem law_call {P:Program} {w:World} {K:PySem.W.Frag} {mg mb:Str→Option Value} {CX:CXT} {k:Nat} {fa a:Addr} {fd:FuncData} {x:Str} {sp:Sp} {s₁:Shared} {vs:List Value} {ns:List Int}
    (KX:K.In s₁.heap) (hns:s₁.heap.Ns mainGlobals mg) (hb:s₁.heap.Ns builtinsNs mb) (hbb:∀ x:Str,x≠"__name__"→mb x=bootBuiltins x) (hlim:s₁.heap.NoLimit) (hg:s₁.gens = #[])
    (ha:s₁.heap.get? a=some { cls:=.type "list",data:=.seq vs.toArray }) (hi:IntsAre vs ns) (hl:ns.length≤sizeLine) (hr:Room k callerA)
    (F:∀ base:Heap,K.In base→base.Ns mainGlobals mg→FnOk P w K mg base CX k fa fd [x] sp) (hbind:∀ (s:Shared) (u:Value),BindsTo s fd ⟨[u],[]⟩ [(x,u)])
    (hsp:∀ H:Hp,Only H→SqL K H a (ns.map V.int)→sp [.ref a] H (fun v _=>v=.bl true) fun _ _ _=>False)
    (hCX:∀ H e s',CX [] H s₁ (fun _ _ _=>False) e s'→False) :
    codeAny (model P w) callerA (.call (.ref fa) ⟨[.ref a],[]⟩) (fun r s'=>r=.ok (.ret (.bool true))∧OldK s₁.heap s'.heap∧s'.os=s₁.os∧AllBare s'.gens) s₁:=by
  have rv:=vals_ints hi
  have lenV:=hi.length
  -- from an abstract heap in which nothing but the script may be tracked
  have core:∀ H:Hp,Only H→SqL K H a (ns.map V.int)→HOk P w H s₁.heap→(∀ b,H b≠none→b=a)→(H a≠none→K.lookup a=none) →
      codeAny (model P w) callerA (.call (.ref fa) ⟨[.ref a],[]⟩) (fun r s'=>r=.ok (.ret (.bool true))∧OldK s₁.heap s'.heap∧s'.os=s₁.os∧AllBare s'.gens) s₁:=by
    intro H hO hS hok hA hK
    have base_of:∀ {b:Addr} {o:Obj},s₁.heap.get? b=some o→H b=none→(hidT s₁.heap H).get? b=some o:=fun e n=>hidT_get e n
    have noA:∀ {b:Addr} {o:Obj} {es:Array DictEntry} {ep:Nat},s₁.heap.get? b=some o→o.data=.dict es ep→H b=none:=fun {b o es ep} e d=>by
      cases q:H b with
      | none=>rfl
      | some u =>
        have e':b=a:=hA b (by rw [q];simp)
        subst e'
        rw [ha] at e;cases e
        have d':Data.seq vs.toArray _=Data.dict es ep:=d
        cases d'
    have nsK:∀ {b:Addr} {m:Str→Option Value},s₁.heap.Ns b m→(hidT s₁.heap H).Ns b m:=fun {b m} ⟨o,es,ep,e,d,r⟩=>⟨o,es,ep,base_of e (noA e d),d,r⟩
    have hKb:K.In (hidT s₁.heap H):=fun b o e=>base_of (KX b o e) (by
      cases q:H b with
      | none=>rfl
      | some u =>
        have e':b=a:=hA b (by rw [q];simp)
        subst e'
        rw [hK (by rw [q];simp)] at e;cases e)
    have hM:Mod K mg (hidT s₁.heap H):=⟨hKb,nsK hns,⟨mb,nsK hb,hbb⟩,let ⟨mc,h1,h2⟩:=hlim;⟨mc,nsK h1,h2⟩⟩
    have e0:Env0 P w K mg (hidT s₁.heap H) callerA [] s₁ H:=⟨rfl,hM,fun b o e=>of_hidT e,Nat.le_of_eq (hidT_size _ _),trivial,fun b hb=>absurd (show b∈([]:List Addr) from hb) (by simp),hok,.of_eq hg⟩
    refine codeAny_mono ((F _ hKb (nsK hns)).run callerA [] s₁ H ⟨[.ref a],[]⟩ [.ref a] [.ref a] _ _ hr e0 (hbind s₁ (.ref a)) (.cons rfl .nil) (hsp H hO hS)) fun r s' h=>?_
    cases r with
    | error e=>exact (hCX H e s' h).elim
    | ok fl =>
      cases fl with
      | next=>exact False.elim h
      | brk=>exact False.elim h
      | cont=>exact False.elim h
      | ret u =>
        obtain ⟨v,H',os,bare,un,hok',r',q⟩:=h
        have q':v=.bl true:=q
        subst q'
        obtain rfl:u=Value.bool true:=r'
        refine ⟨rfl,OldK.of_keep fun b o e=>?_,os,bare⟩
        cases q:H b with
        | none=>exact un.keep b o e q (by intro z;exact absurd (show b∈([]:List Addr) from z) (by simp)) (by simp)
        | some u =>
          rcases hO b with z | ⟨ob,xs,z⟩
          · rw [q] at z;cases z
          · have z2:=un.frzs b ob _ z
            obtain ⟨e1,_⟩:=hok b _ z
            obtain ⟨e2,_⟩:=hok' b _ z2
            rw [e] at e1;cases e1
            exact e2
  cases hk:K.lookup a with
  | some o =>
    -- the script is one of the module's own objects
    have e:=KX a o hk
    rw [ha] at e
    cases e
    refine core (fun _=>none) (fun _=>.inl rfl) (.inr ⟨_,vs.toArray,_,hk,rfl,rfl,rfl,by rw [List.size_toArray,lenV];exact hl,by simpa using rv⟩) (fun b u z=>by have z':(none:Option HO)=some u:=z;cases z') (fun b z=>absurd rfl z) fun z=>absurd rfl z
  | none =>
    refine core (fun b=>if b=a then some (.frz { cls:=.type "list",data:=.seq vs.toArray } (.lst (ns.map V.int))) else none) (fun b=>?_) (.inl (.inr ⟨{ cls:=.type "list",data:=.seq vs.toArray },if_pos rfl⟩)) (fun b u z=>?_) (fun b z=>?_) fun _=>hk
    · by_cases hb:b=a
      · exact .inr ⟨_,_,if_pos hb⟩
      · exact .inl (if_neg hb)
    · by_cases hb:b=a
      · have z':=(if_pos hb).symm.trans z
        cases z'
        subst hb
        exact ⟨ha,by rw [List.length_map];exact hl,vs,_,rv,ha⟩
      · have z':=(if_neg hb).symm.trans z
        cases z'
    · by_cases hb:b=a
      · exact hb
      · exact absurd (if_neg hb) z
end L2
namespace L2
open PySem PySem.Spec PyProof.Rows
theorem walk_of {l:PySem.W.OpenLaw} {n k:Nat} {q:Program} {loose:List Str} {XP:(Str→Option Value)→Heap→Prop} {YP:World→Heap→Prop} {d:DefRec} {K:Params→PySem.W.Frag} {CX:World→CXT} {sp:World→Sp} {x:Str}
    (hn:l.most=some n) (hn2:n≤sizeLine) (hdf:d.params.defaults=[]) (hr:Room k callerA)
    (hY:∀ (w:World) (h:Heap),YP w h→(K w.params).In h)
    (F : ∀ (w:World) (mg:Str→Option Value) (fa:Addr) (h:Heap),(K w.params).In h→h.Ns mainGlobals mg→mg d.name=some (.ref fa) →
      ∃ fd:FuncData,(∀ (s:Shared) (u:Value),BindsTo s fd ⟨[u],[]⟩ [(x,u)]) ∧
        ∀ base:Heap,(K w.params).In base→base.Ns mainGlobals mg→FnOk l.prog w (K w.params) mg base (CX w) k fa fd [x] (sp w))
    (hsp:∀ (w:World) (H:Hp) (a:Addr) (ns:List Int),ns.length≤n→Only H→SqL (K w.params) H a (ns.map V.int)→sp w [.ref a] H (fun v _=>v=.bl true) fun _ _ _=>False)
    (hCX:∀ (w:World) (H:Hp) (s:Shared) (e:Value) (s':Shared),CX w [] H s (fun _ _ _=>False) e s'→False) :
    PySem.W.WalkO q loose XP YP l.row.toRowW d [] (fun f vs=>PySem.call f vs):=by
  refine Att.attach_call hn hdf fun w s₀ s₁ mg mb fa o pm cd doc a vs ns G Y ho hd hcd hmg hobj hints hlen hg=>?_
  have KX:=hY w _ Y
  obtain ⟨fd,hb,hF⟩:=F w mg fa _ KX G.T.g hmg
  exact law_call KX G.T.g G.T.b G.T.builtins G.T.nolimit hg hobj hints (Nat.le_trans hlen hn2) hr hF hb (fun H hO hS=>hsp w H a ns hlen hO hS) fun H e s'=>hCX w H s₁ e s'
end L2
namespace L2
open PySem PySem.Spec PyProof.Rows
def defArgs (s:Stmt):Arguments:=match s with
  | .FunctionDef _ a _ _ _ _ _ _ _ _=>a
  | _=>{ posonlyargs:=[],args:=[],vararg:=none,kwonlyargs:=[],kw_defaults:=[],kwarg:=none,defaults:=[] }
def defBody (s:Stmt):List Stmt:=match s with
  | .FunctionDef _ _ b _ _ _ _ _ _ _=>b
  | _=>[]
def defScope (s:Stmt):Scope:=match s with
  | .FunctionDef _ _ _ _ _ _ sc _ _ _=>sc
  | _=>{ kind:=.function,names:=[],isGenerator:=false,isCoroutine:=false }
abbrev CX0:CXT:=fun _ _ _ _ _ _=>False
abbrev E0:XK:=fun _ _ _=>False
theorem pass0 {X:Cx}:Passes CX0 X E0:=fun _ _ _ _ _ _ _ h=>h.elim
structure Fun (K:PySem.W.Frag) (x qual:Str) (st:Stmt) (f:Addr) (fd:FuncData):Prop where
  ex : ∃ (oc:Value) (od:Option Addr) (kV doc pm:Value) (an:Option Addr) (cdv ct:Value) (osl:Array (Option Value)),
    fd=PySem.W.fnOf x qual (defArgs st) (defBody st) (defScope st) .none kV doc pm an cdv ct∧K.lookup f=some ⟨oc,od,.func fd,osl⟩∧PySem.W.codeIn K cdv qual=true
  kp:PySem.W.keepIn K (.ref f)=true
section
variable {P:Program} {w:World} {K:PySem.W.Frag} {mg:Str→Option Value} {base:Heap}
theorem Fun.ok {x qual:Str} {st:Stmt} {f:Addr} {fd:FuncData} {N ps:List Str} {k:Nat} {sp:Sp} (F:Fun K x qual st f fd) (S:FnScope N ps (defScope st)) (len:∀ vs H Q E,sp vs H Q E→vs.length=ps.length)
    (hbody:∀ (cdv:Value) (A:Around) (outer:List Env) (s:Shared) (H:Hp) (vs:List V) (Q:VK) (E:XK),Room k (A.deeper (envOfC qual (defScope st) s.heap.objs.size f cdv))→sp vs H Q E →
      ∃ t,PSs (cxOf CX0 P w K mg base N qual (defScope st) f cdv A outer s H E).nox (defBody st) t∧t { nx:=fun _ H'=>Q .non H',rt:=Q } (start N vs) H):FnOk P w K mg base CX0 (k+1) f fd ps sp:=by
  obtain ⟨oc,od,kV,doc,pm,an,cdv,ct,osl,rfl,lk,hcd⟩:=F.ex
  refine fn_of lk hcd S len fun A outer s H vs Q E hr hsp=>?_
  obtain ⟨t,h,q⟩:=hbody cdv A outer s H vs Q E hr hsp
  exact ⟨t,h.nox,q⟩
theorem Fun.binds {x qual:Str} {st:Stmt} {f:Addr} {fd:FuncData} {ps:List Str} (F:Fun K x qual st f fd)
    (h:∀ (kV doc pm:Value) (an:Option Addr) (cdv ct:Value) (us:List Value),us.length=ps.length→bindArgs (PySem.W.fnOf x qual (defArgs st) (defBody st) (defScope st) .none kV doc pm an cdv ct) ⟨us,[]⟩=pure (ps.zip us)):Binds K fd ps []:=by
  obtain ⟨oc,od,kV,doc,pm,an,cdv,ct,osl,rfl,lk,hcd⟩:=F.ex
  exact .all (h kV doc pm an cdv ct)
theorem fun_mk {x qual:Str} {st:Stmt} {f:Addr} {oc:Value} {od an:Option Addr} {osl:Array (Option Value)} {kV doc pm cdv ct:Value} (l:K.lookup f=some ⟨oc,od,.func (PySem.W.fnOf x qual (defArgs st) (defBody st) (defScope st) .none kV doc pm an cdv ct),osl⟩)
    (c:PySem.W.codeIn K cdv qual=true) (k:PySem.W.keepIn K (.ref f)=true):Fun K x qual st f (PySem.W.fnOf x qual (defArgs st) (defBody st) (defScope st) .none kV doc pm an cdv ct):=⟨⟨oc,od,kV,doc,pm,an,cdv,ct,osl,rfl,l,c⟩,k⟩
end
theorem hu_of {A:Around} {k:Nat} (hr:Room k A):A.units+1 < cLine:=Nat.lt_of_le_of_lt (Nat.add_le_add_left (by decide:1≤64) _) hr.units
theorem small1000 {n:Nat} (h:n≤1000):n < sizeLine:=Nat.lt_of_le_of_lt h (by decide)
section
variable {X:Cx}
theorem pv (i:Nat) {x:Str} {pos:Pos} (hN:X.N[i]? = some x:=by rfl) (hv:Vis X.env.scope x:=by first | exact Or.inl rfl | exact Or.inr (Or.inl rfl) | exact Or.inr (Or.inr rfl)) (hd:(x == ("__debug__" : Str))=false:=by decide)
    (hcd:(x == ("__classdict__" : Str))=false:=by decide):PE X (.Name x pos) (tVar i):=pe_var hN hv hd hcd
end
theorem iteF {A B:Prop} (h:B):if false=true then A else B:=by
  rw [if_neg Bool.false_ne_true]
  exact h
theorem iteT {A B:Prop} (h:A):if true=true then A else B:=by
  rw [if_pos rfl]
  exact h
theorem ite2 {c A B:Prop} [Decidable c] (h1:c→A) (h2:¬ c→B):if c then A else B:=by
  by_cases h:c
  · rw [if_pos h]
    exact h1 h
  · rw [if_neg h]
    exact h2 h
theorem iteNS {c A B:Prop} [Decidable c] (hc:c) (h:B):if (!decide c)=true then A else B:=by
  rw [decide_eq_true hc]
  exact iteF h
def Same (H H':Hp):Prop:=∀ b o,H b=some o→H' b=some o
theorem Same.refl (H:Hp):Same H H:=fun _ _ h=>h
theorem Same.trans {H H1 H2:Hp} (a:Same H H1) (b:Same H1 H2):Same H H2:=fun c o h=>b c o (a c o h)
theorem Same.free {H H':Hp} (e:Same H H') {l:Addr} (h:H' l=Option.none):H l=Option.none:=by
  cases q:H l with
  | none=>rfl
  | some o =>
    rw [e l o q] at h
    cases h
theorem Same.seq {K:PySem.W.Frag} {H H':Hp} {a:Addr} {xs:List V} (e:Same H H') (h:SqL K H a xs):SqL K H' a xs:=by
  rcases h with (h | ⟨o,h⟩) | h
  · exact .inl (.inl (e _ _ h))
  · exact .inl (.inr ⟨o,e _ _ h⟩)
  · exact .inr h
section
variable {X:Cx}
theorem call_lenD:CallR X (.builtin "len") (fun xs H Q=>∃ a kvs,xs=[V.ref a]∧H a=some (.dK kvs)∧Q (.int kvs.length) H):=by
  intro pins s σ H xs us Q I r h
  obtain ⟨a,kvs,rfl,ha,q⟩:=h
  obtain ⟨u,rfl,ru⟩:=vals1 r
  cases ru
  exact d_len I (.inl ha) fun t s' I'=>⟨.int kvs.length,H,I',⟨t,rfl⟩,q⟩
end
section
variable {κ:Type} [DecidableEq κ]
theorem nd_snoc:∀ {l:List κ} {k:κ},l.Nodup→¬ k∈l→(l++[k]).Nodup
  | [],k,_,_=>by simp
  | a :: r,k,h,hk=>by
    obtain ⟨h1,h2⟩:=List.nodup_cons.mp h
    show (a :: (r++[k])).Nodup
    refine List.nodup_cons.mpr ⟨fun m=>?_,nd_snoc h2 fun m=>hk (List.mem_cons.mpr (Or.inr m))⟩
    rcases List.mem_append.mp m with q | q
    · exact h1 q
    · exact hk (List.mem_cons.mpr (Or.inl (List.mem_singleton.mp q).symm))
end
end L2
namespace L2
open PySem PySem.Spec PyProof.Rows
theorem closure_go {env:Env} (f:Str × NameKind→List (Str × Addr)→Sem (ForInStep (List (Str × Addr))))
    (hf:∀ name kind cs,f (name,kind) cs=if kind == .free then (do let a ← cellOf env name;pure (.yield ((name,a) :: cs))) else pure (.yield cs)) :
    ∀ (names:List (Str × NameKind)) (acc:List (Str × Addr)),(∀ p∈names,p.2=.free→∃ c,env.cells.lookup p.1=some c) →
      (∀ x c,acc.lookup x=some c→env.cells.lookup x=some c) →
      ∃ cl,(forIn names acc f:Sem _)=pure cl∧(∀ x c,cl.lookup x=some c→env.cells.lookup x=some c)∧(∀ p∈names,p.2=.free→(cl.lookup p.1).isSome=true)∧(∀ x,(acc.lookup x).isSome=true→(cl.lookup x).isSome=true)
  | [],acc,_,ha=>⟨acc,by rw [List.forIn_nil],ha,(fun _ h=>by cases h),fun _ h=>h⟩
  | (n,k) :: r,acc,hn,ha=>by
    rw [List.forIn_cons,hf]
    by_cases hk:k=.free
    · subst hk
      obtain ⟨c,hc⟩:=hn (n,.free) List.mem_cons_self rfl
      obtain ⟨cl,e,h1,h2,h3⟩:=closure_go f hf r ((n,c) :: acc) (fun p hp=>hn p (List.mem_cons_of_mem _ hp)) (fun x d hx=>by
        rw [List.lookup_cons] at hx
        cases hb:x == n with
        | true=>rw [hb] at hx;cases hx;rw [beq_iff_eq.mp hb];exact hc
        | false=>rw [hb] at hx;exact ha x d hx)
      refine ⟨cl,?_,h1,fun p hp hpf=>?_,fun x hx=>h3 x ?_⟩
      · have ec:cellOf env n=pure c:=by unfold cellOf;rw [hc]
        rw [if_pos (by rfl),ec]
        simpa using e
      · rcases List.mem_cons.mp hp with z | z
        · subst z;exact h3 n (by rw [List.lookup_cons];simp)
        · exact h2 p z hpf
      · rw [List.lookup_cons]
        cases hb:x == n with
        | true=>rfl
        | false=>exact hx
    · obtain ⟨cl,e,h1,h2,h3⟩:=closure_go f hf r acc (fun p hp=>hn p (List.mem_cons_of_mem _ hp)) ha
      refine ⟨cl,?_,h1,fun p hp hpf=>?_,h3⟩
      · have hb:(k == NameKind.free)=false:=by simpa using hk
        rw [hb]
        simpa using e
      · rcases List.mem_cons.mp hp with z | z
        · subst z;exact absurd hpf hk
        · exact h2 p z hpf
theorem closure_ok {env:Env} {scope:Scope} (h:∀ p∈scope.names,p.2=.free→∃ c,env.cells.lookup p.1=some c) :
    ∃ cl,closureFor scope env=pure cl∧(∀ x c,cl.lookup x=some c→env.cells.lookup x=some c)∧(∀ p∈scope.names,p.2=.free→(cl.lookup p.1).isSome=true):=by
  unfold closureFor
  obtain ⟨cl,e,h1,h2,_⟩:=closure_go (env:=env) (fun x r=>match x,r with
    | (name,kind),cs=>if kind == .free then (do let a ← cellOf env name;pure (.yield ((name,a) :: cs))) else pure (.yield cs)) (fun _ _ _=>rfl) scope.names [] h (fun _ _ z=>nomatch z)
  refine ⟨cl,?_,h1,h2⟩
  have e':=congrArg (fun t:Sem (List (Str × Addr))=>t >>= fun cs=>pure cs) e
  first
    | simpa using e'
    | (simp only [pure_bind,bind_pure] at e' ⊢;exact e')
theorem cells_inj:∀ (names:List (Str × NameKind)) (n:Nat) (acc:List (Str × Addr)),(∀ (x y:Str) (c:Nat),acc.lookup x=some c→acc.lookup y=some c→x=y)→(∀ (x:Str) (c:Nat),acc.lookup x=some c→c < n) →
    (∀ (x y:Str) (c:Nat),(cellsFrom n names acc).lookup x=some c→(cellsFrom n names acc).lookup y=some c→x=y)∧(∀ (x:Str) (c:Nat),(cellsFrom n names acc).lookup x=some c→acc.lookup x=some c∨n≤c)
  | [],n,acc,h,hl=>⟨h,fun _ _ z=>.inl z⟩
  | (nm,k) :: r,n,acc,h,hl=>by
    unfold cellsFrom
    split
    · have lt:∀ (x:Str) (c:Nat),List.lookup x ((nm,n) :: acc)=some c→(x=nm∧c=n)∨(x≠nm∧acc.lookup x=some c):=fun x c e=>by
        rw [List.lookup_cons] at e
        cases hb:x == nm with
        | true=>rw [hb] at e;cases e;exact .inl ⟨beq_iff_eq.mp hb,rfl⟩
        | false=>rw [hb] at e;exact .inr ⟨by simpa using hb,e⟩
      obtain ⟨a,b⟩:=cells_inj r (n+1) ((nm,n) :: acc) (fun x y c e1 e2=>by
        rcases lt x c e1 with ⟨z1,z2⟩ | ⟨z1,z2⟩ <;> rcases lt y c e2 with ⟨w1,w2⟩ | ⟨w1,w2⟩
        · rw [z1,w1]
        · have:=hl y c w2;omega
        · have:=hl x c z2;omega
        · exact h x y c z2 w2) (fun x c e=>by
        rcases lt x c e with ⟨z1,z2⟩ | ⟨z1,z2⟩
        · omega
        · have:=hl x c z2;omega)
      refine ⟨a,fun x c e=>?_⟩
      rcases b x c e with z | z
      · rcases lt x c z with ⟨z1,z2⟩ | ⟨z1,z2⟩
        · exact .inr (by omega)
        · exact .inl z2
      · exact .inr (by omega)
    · exact cells_inj r n acc h hl
theorem cells_out {x:Str}:∀ (names:List (Str × NameKind)) (n:Nat) (acc:List (Str × Addr)),(∀ p∈names,p.1=x→p.2≠.cell)→(cellsFrom n names acc).lookup x=acc.lookup x
  | [],_,_,_=>rfl
  | (nm,k) :: r,n,acc,h=>by
    unfold cellsFrom
    split
    · rename_i hk
      have hk':k=.cell:=by simpa using hk
      have ne:x≠nm:=fun e=>h (nm,k) List.mem_cons_self e.symm hk'
      rw [cells_out r (n+1) ((nm,n) :: acc) fun p hp=>h p (List.mem_cons_of_mem _ hp),List.lookup_cons]
      have:(x == nm)=false:=by simpa using ne
      rw [this]
    · exact cells_out r n acc fun p hp=>h p (List.mem_cons_of_mem _ hp)
theorem own_keep {x:Str} {c:Nat}:∀ (names:List (Str × NameKind)) (n:Nat) (acc:List (Str × Addr)) (d:Nat),acc.lookup x=some d→d≤n→(cellsFrom n names acc).lookup x=some c→d≤c
  | [],_,_,_,h,_,e=>by
    have e':_=some c:=e
    unfold cellsFrom at e'
    rw [h] at e';cases e';exact Nat.le_refl _
  | (nm,k) :: r,n,acc,d,h,hd,e=>by
    unfold cellsFrom at e
    split at e
    · cases hb:x == nm with
      | true =>
        have:=own_keep r (n+1) ((nm,n) :: acc) n (by rw [List.lookup_cons,hb]) (Nat.le_succ _) e
        omega
      | false=>exact own_keep r (n+1) ((nm,n) :: acc) d (by rw [List.lookup_cons,hb];exact h) (Nat.le_succ_of_le hd) e
    · exact own_keep r n acc d h hd e
theorem own_new {x:Str} {c:Nat}:∀ (names:List (Str × NameKind)) (n:Nat) (acc:List (Str × Addr)),(∀ (y:Str) (d:Nat),acc.lookup y=some d→d < n)→names.lookup x=some .cell→(cellsFrom n names acc).lookup x=some c→n≤c
  | [],_,_,_,h,_=>by cases h
  | (nm,k) :: r,n,acc,ha,h,e=>by
    rw [List.lookup_cons] at h
    unfold cellsFrom at e
    cases hb:x == nm with
    | true =>
      rw [hb] at h
      cases h
      rw [if_pos (by rfl)] at e
      by_cases hr:r.lookup x=some .cell
      · have:=own_new r (n+1) ((nm,n) :: acc) (fun y d z=>by
          rw [List.lookup_cons] at z
          cases hy:y == nm with
          | true=>rw [hy] at z;cases z;omega
          | false=>rw [hy] at z;have:=ha y d z;omega) hr e
        omega
      · exact own_keep r (n+1) ((nm,n) :: acc) n (by rw [List.lookup_cons,hb]) (Nat.le_succ _) e
    | false =>
      rw [hb] at h
      split at e
      · have:=own_new r (n+1) ((nm,n) :: acc) (fun y d z=>by
          rw [List.lookup_cons] at z
          cases hy:y == nm with
          | true=>rw [hy] at z;cases z;omega
          | false=>rw [hy] at z;have:=ha y d z;omega) h e
        omega
      · exact own_new r n acc ha h e
theorem cells_are:∀ (names:List (Str × NameKind)) (h:Heap) (acc:List (Str × Addr)) (x:Str) (c:Addr),(∀ x c,acc.lookup x=some c→∃ v,h.IsCell c v)→(cellsFrom h.objs.size names acc).lookup x=some c→∃ v,(pushCells h names).IsCell c v
  | [],h,acc,x,c,ha,e=>ha x c e
  | (nm,k) :: r,h,acc,x,c,ha,e=>by
    unfold cellsFrom at e
    unfold pushCells
    split at e
    · rename_i hk
      rw [if_pos hk]
      refine cells_are r (h.push { cls:=.type "cell",data:=.cell none }) ((nm,h.objs.size) :: acc) x c (fun y d z=>?_) (by rw [Heap.size_push];exact e)
      rw [List.lookup_cons] at z
      cases hb:y == nm with
      | true=>rw [hb] at z;cases z;exact ⟨none,_,Heap.get?_push_size _ rfl,rfl⟩
      | false =>
        rw [hb] at z
        obtain ⟨v,q⟩:=ha y d z
        exact ⟨v,q.keeps fun b o e=>Heap.get?_push_of_some _ e⟩
    · rename_i hk
      rw [if_neg hk]
      exact cells_are r h acc x c ha e
end L2
namespace L2
open PySem PySem.Spec PyProof.Rows
section
variable {prog:Program} {w:World} {A:Around} {E:Value→Shared→Prop} {R:Result→Shared→Prop} {s:Shared}
theorem compLoop_go {elt target iter:Expr} {ifs:List Expr} {scope:Scope} {pos:Pos} {it acc:Value} {env:Env} (I:Nat→Shared→Prop)
    (turn:∀ n s,I n s→wpAny (model prog w) A (pyNext it) (fun r s₁=>match r with
      | none=>R (.ok .next) s₁
      | some v=>wpAny (model prog w) A (letOwnedTupleGo target it v) (fun _ s₁=>wpAny (model prog w) A (assign target env v) (fun _ s₂ =>
          wpAny (model prog w) A (forIn ifs true fun c r=>if r=true then do let ok ← isTrue c env (eval c env);pure (ForInStep.yield ok) else pure (ForInStep.yield r)) (fun ok s₃ =>
            if ok=true then wpAny (model prog w) A (eval elt env) (fun x s₄ =>
              wpAny (model prog w) A (call (.builtin "list.append") [acc,x]) (fun _ s₅=>∃ m,m < n∧I m s₅) (fun _ _=>False) s₄) (fun _ _=>False) s₃
            else ∃ m,m < n∧I m s₃) (fun _ _=>False) s₂) (fun _ _=>False) s₁) (fun _ _=>False) s₁) (fun _ _=>False) s)
    (n:Nat) (h:I n s) :
    codeAny (model prog w) A (.compLoop (.ListComp elt [⟨target,iter,ifs,0⟩] scope pos) 0 it acc env) R s:=by
  refine codeAny_loop rfl I (fun n s hI=>?_) n h
  show wpAny _ A ((compTurn (.ListComp elt [⟨target,iter,ifs,0⟩] scope pos) 0 it acc env).onRaise (fun x=>do noteFrame x env;theTreesLotGoes x)) _ _ s
  refine wpAny_noted ?_
  rw [compTurn_list]
  refine wpAny_bind (wpAny_standAt (wpAny_bind (wpAny_mono (turn n s hI) (fun r s₁ h₁=>?_) fun _ _ h'=>h'.elim)))
  cases r with
  | none=>exact wpAny_pure h₁
  | some v =>
    refine wpAny_bind (wpAny_mono h₁ (fun _ s₁ h₁=>?_) fun _ _ h'=>h'.elim)
    refine wpAny_bind (wpAny_mono h₁ (fun _ s₂ h₂=>wpAny_bind (wpAny_mono h₂ (fun ok s₃ h₃=>?_) fun _ _ h'=>h'.elim)) fun _ _ h'=>h'.elim)
    cases ok with
    | false=>exact wpAny_pure ⟨rfl,h₃⟩
    | true =>
      exact wpAny_bind (wpAny_bind (wpAny_mono h₃ (fun x s₄ h₄=>wpAny_bind (wpAny_mono h₄ (fun _ s₅ h₅=>wpAny_pure (wpAny_pure ⟨rfl,h₅⟩)) fun _ _ h'=>h'.elim)) fun _ _ h'=>h'.elim))
end
abbrev compCx (X:Cx) (scope:Scope) (N':List Str) (cells:List (Str × Addr)) (C:Addr) (s₀:Shared) (H₀:Hp) (ex:List Addr) (pn:List (Addr × Obj)):Cx where
  prog:=X.prog
  w:=X.w
  K:=X.K
  mg:=X.mg
  base:=X.base
  A:=X.A
  N:=N'
  s₀:=s₀
  H₀:=H₀
  env:={ scope:=relabel scope X.env,locals:=C,globals:=X.env.globals,cells:=cells,qual:=X.env.qual,func:=none,code:=X.env.code,frame:=X.env.frame,builtins:=X.env.builtins }
  outer:=X.stack
  stack:=X.stack
  ex:=ex
  fn:=fun x=>scope.names.lookup x == some .cell
  calm:=X.calm
  pn:=pn
  xe:=fun _ _=>False
def cst (ix:List (Option Nat)) (σ:St):St:=ix.map fun o=>o.bind fun j=>(σ[j]?).bind id
def compChk (X:Cx) (scope:Scope) (N':List Str) (ix:List (Option Nat)):Bool :=
  scope.names.all (fun p=>scope.names.lookup p.1 == some p.2) &&
  scope.names.all (fun p=>!(p.2 == .free) || X.env.scope.names.lookup p.1 == some .cell || X.env.scope.names.lookup p.1 == some .free) &&
  ix.length == N'.length &&
  (N'.zip ix).all (fun p=>match p.2 with | none=>true | some j=>X.N[j]? == some p.1 && scope.names.lookup p.1 == some .free) && scope.kind == .function
def PTs (X:Cx) (ifs:List Expr) (t:TT):Prop :=
  ∀ (pins:List (Addr × Obj)) (s:Shared) (σ:St) (H:Hp) (Q:Bool→Hp→Prop),Inv X pins σ H s→t σ H Q →
    wpAny (model X.prog X.w) X.A (forIn ifs true fun c r=>if r=true then do let ok ← isTrue c X.env (eval c X.env);pure (ForInStep.yield ok) else pure (ForInStep.yield r)) (TP X pins σ Q) X.xe s
def tAll:TT:=fun _ H Q=>Q true H
theorem pts_nil {X:Cx}:PTs X [] tAll:=fun _ _ _ H _ I h=>wpAny_tests_nil ⟨H,I,h⟩
theorem pts_one {X:Cx} {c:Expr} {t:TT} (h:PT X c t):PTs X [c] t:=fun pins s σ H Q I q=>wpAny_tests_one (h pins s σ H Q I q)
def tComp (ix:List (Option Nat)) (wi:TI) (g:TG) (tc:TT) (te:TE):TE:=fun σ H Q=>wi σ H fun J H1=>∃ W:Nat→Nat→List V→St→Hp→Prop,(∃ m,W 0 m [] (cst ix σ) H1)∧∀ i m ys τ H,W i m ys τ H →
  (J.stop i H∧∀ D,H D=none→Q (.ref D) (upd H D (.lst ys))) ∨
  (J.go i H∧ys.length < sizeLine∧∃ N:List V→St→Hp→Prop,(∀ ys' τ' H',N ys' τ' H'→∃ m',m' < m∧W (i+1) m' ys' τ' H') ∧
    ∀ x H',J.yld i H x H'→g x τ H' fun τ2 H2=>tc τ2 H2 fun b H3=>if b=true then te τ2 H3 (fun y H4=>N (ys++[y]) τ2 H4) else N ys τ2 H3)
def rlF (env:Env) (p:Str × NameKind):Str × NameKind:=if (p.2 == NameKind.free && env.scope.kind == .function && env.kindOf p.1 == some .cell)=true then (p.1,NameKind.cell) else (p.1,p.2)
theorem rlF_key (env:Env) (p:Str × NameKind):(rlF env p).1=p.1:=by unfold rlF;split <;> rfl
theorem lookup_key {f:Str × NameKind→Str × NameKind} (hf:∀ p,(f p).1=p.1) (x:Str):∀ names:List (Str × NameKind),(names.map f).lookup x=(names.lookup x).map fun k=>(f (x,k)).2
  | []=>rfl
  | (n,k) :: r=>by
    rw [List.map_cons]
    obtain ⟨a,b,e⟩:∃ a b,f (n,k)=(a,b):=⟨_,_,rfl⟩
    have ha:a=n:=by have:=hf (n,k);rw [e] at this;exact this
    subst ha
    rw [e,List.lookup_cons,List.lookup_cons,lookup_key hf x r]
    cases hb:x == a with
    | true =>
      have:x=a:=beq_iff_eq.mp hb
      subst this
      show some b=some (f (x,k)).2
      rw [e]
    | false=>rfl
theorem relabel_lookup (scope:Scope) (env:Env) (x:Str):(relabel scope env).names.lookup x=(scope.names.lookup x).map fun k=>(rlF env (x,k)).2:=lookup_key (rlF_key env) x scope.names
theorem relabel_look {scope:Scope} {env:Env} {x:Str} (h:scope.names.lookup x=some .free):(relabel scope env).names.lookup x=some .cell∨(relabel scope env).names.lookup x=some .free:=by
  rw [relabel_lookup,h]
  show some (rlF env (x,.free)).2=_∨some (rlF env (x,.free)).2=_
  unfold rlF
  by_cases hc:((x,NameKind.free).snd == NameKind.free && env.scope.kind == ScopeKind.function && env.kindOf (x,NameKind.free).fst == some NameKind.cell)=true
  · rw [if_pos hc];exact .inl rfl
  · rw [if_neg hc];exact .inr rfl
theorem relabel_back {scope:Scope} {env:Env} {x:Str} (h:(relabel scope env).names.lookup x=some .cell∨(relabel scope env).names.lookup x=some .free):scope.names.lookup x=some .cell∨scope.names.lookup x=some .free:=by
  rw [relabel_lookup] at h
  cases e:scope.names.lookup x with
  | none=>rw [e] at h;rcases h with h | h <;> cases h
  | some k =>
    rw [e] at h
    have h':(rlF env (x,k)).2=.cell∨(rlF env (x,k)).2=.free:=by
      rcases h with h | h
      · exact .inl (Option.some.inj h)
      · exact .inr (Option.some.inj h)
    unfold rlF at h'
    split at h'
    · rename_i hc
      have:k=.free:=by
        have:=(Bool.and_eq_true_iff.mp (Bool.and_eq_true_iff.mp hc).1).1
        simpa using this
      exact .inr (by rw [this])
    · rcases h' with z | z
      · have z':k=.cell:=z
        exact .inl (by rw [z'])
      · have z':k=.free:=z
        exact .inr (by rw [z'])
end L2
namespace L2
open PySem PySem.Spec PyProof.Rows
abbrev lobj (its:List Value) (n:Nat):Obj:={ cls:=.type "list",data:=.seq its.toArray n }
section
variable {X:Cx} {pins:List (Addr × Obj)} {σ:St} {H:Hp} {s:Shared}
theorem HOk.add {P:Program} {w:World} {h:Heap} {D:Addr} {o:HO} (x:HOk P w H h) (hn:H D=none) (new:ObjOk P w (upd H D o) h D o):HOk P w (upd H D o) h:=fun b u e=>by
  by_cases hb:b=D
  · subst hb;rw [upd_same] at e;cases e;exact new
  · rw [upd_ne hb] at e
    exact (x b u e).stay (fun c v _ q=>q) (fun c q=>by rw [upd_ne (ne_of_none q hn)];exact q) fun c xs q=>by rw [upd_ne (ne_of_none q hn)];exact q
theorem HOk.but {P:Program} {w:World} {h h':Heap} {C:Addr} (x:HOk P w H h) (hn:H C=none) (sb:Heap.SameBut C h h'):HOk P w H h':=fun b u e=>by
  refine (x b u e).stay (fun c v hc q=>(sb.2 c ?_).trans q) (fun _ q=>q) fun _ _ q=>q
  rintro rfl
  rcases hc with rfl | hc
  · rw [hn] at e;cases e
  · rw [hn] at hc;cases hc
end
theorem comp_inv {X:Cx} {pins:List (Addr × Obj)} {σ:St} {H2:Hp} {s2:Shared} {scope:Scope} {N':List Str} {ix:List (Option Nat)} {cl:List (Str × Addr)} {fp:List Addr}
    (c1:∀ p∈scope.names,scope.names.lookup p.1=some p.2) (c3:ix.length=N'.length)
    (c2:∀ p∈scope.names,p.2=.free→X.env.scope.names.lookup p.1=some .cell∨X.env.scope.names.lookup p.1=some .free)
    (c4:∀ (i:Nat) (x:Str) (j:Nat),N'[i]? = some x→ix[i]? = some (some j)→X.N[j]? = some x∧scope.names.lookup x=some .free) (ck:scope.kind=.function)
    (cl1:∀ x c,cl.lookup x=some c→X.env.cells.lookup x=some c) (cl2:∀ p∈scope.names,p.2=.free→(cl.lookup p.1).isSome=true)
    (I2:Inv X pins σ H2 s2) (f2:∀ b∈fp,FpOk X pins H2 b) (o2:∀ b∈fp,∃ o,s2.heap.get? b=some o∧∀ v,o.data≠.cell v) :
    Inv (compCx X scope N' (cellsFrom (s2.heap.objs.size+2) scope.names cl) (s2.heap.objs.size+1) s2 H2 fp []) [(s2.heap.objs.size,lobj [] 0)] (cst ix σ) H2
      { s2 with heap:=pushCells ((s2.heap.push (lobj [] 0)).push { cls:=.type "dict",data:=.dict #[] }) scope.names }:=by
  have sz3:(s2.heap.push (lobj [] 0)).objs.size=s2.heap.objs.size+1:=Heap.size_push ..
  have sz4:((s2.heap.push (lobj [] 0)).push { cls:=.type "dict",data:=.dict #[] }).objs.size=s2.heap.objs.size+2:=by rw [Heap.size_push,sz3]
  have keep:∀ b o,s2.heap.get? b=some o→(pushCells ((s2.heap.push (lobj [] 0)).push { cls:=.type "dict",data:=.dict #[] }) scope.names).get? b=some o:=fun b o e =>
    pushCells_keeps _ _ b o (Heap.get?_push_of_some _ (Heap.get?_push_of_some _ e))
  have cllt:∀ (x:Str) (c:Nat),cl.lookup x=some c→c < s2.heap.objs.size:=fun x c e=>by
    obtain ⟨v,q⟩:=I2.cell x c (cl1 x c e)
    exact q.lt
  obtain ⟨ci,cc⟩:=cells_inj scope.names (s2.heap.objs.size+2) cl (fun x y c e1 e2=>I2.ok.inj x y c (cl1 x c e1) (cl1 y c e2)) (fun x c e=>by have:=cllt x c e;omega)
  have cell:∀ x c,(cellsFrom (s2.heap.objs.size+2) scope.names cl).lookup x=some c→∃ v,(pushCells ((s2.heap.push (lobj [] 0)).push { cls:=.type "dict",data:=.dict #[] }) scope.names).IsCell c v:=fun x c e=>by
    refine cells_are scope.names _ cl x c (fun y d z=>?_) (by rw [sz4];exact e)
    obtain ⟨v,q⟩:=I2.cell y d (cl1 y d z)
    exact ⟨v,q.keeps fun b o e=>Heap.get?_push_of_some _ (Heap.get?_push_of_some _ e)⟩
  have lt2:∀ (b:Nat),b∈fp→b < s2.heap.objs.size:=fun b hb=>by
    obtain ⟨o,e,_⟩:=o2 b hb
    exact Heap.lt_size e
  refine ⟨⟨I2.ok.mod,ck,I2.ok.glob,I2.ok.blt,Nat.le_succ _,ci,fun x hx=>?_,fun x c hf e=>?_,I2.ok.hd,I2.ok.frames,.inl rfl,fun b hb=>⟨?_,fun x c e=>?_⟩,I2.bs,Nat.le_trans I2.ok.bsz I2.sz,fun b o e hb=>?_,fun b hb z=>?_,I2.stack,I2.stkFree⟩,
    rfl,I2.bare,Un.kept keep,⟨fun _=>none,?_,fun i x v e1 e2 e3=>?_⟩,cell,?_,fun x c e=>?_,fun p hp=>?_,I2.hok.kept keep,?_⟩
  · -- has
    have hx':=relabel_back (scope:=scope) (env:=X.env) (x:=x) hx
    rcases hx' with z | z
    · exact Option.isSome_iff_exists.mp (PySem.W.cellsFrom_some scope.names _ cl (.inl z))
    · exact Option.isSome_iff_exists.mp (PySem.W.cellsFrom_some scope.names _ cl (.inr (cl2 (x,.free) (PySem.mem_of_lookup z) rfl)))
  · -- cab
    have hf':scope.names.lookup x=some .cell:=by simpa using hf
    have:=own_new scope.names (s2.heap.objs.size+2) cl (fun x c e=>by have:=cllt x c e;omega) hf' e
    show s2.heap.objs.size≤c
    omega
  · -- ex: not the frame
    exact Nat.ne_of_lt (Nat.lt_succ_of_lt (lt2 b hb))
  · -- ex: no cell
    rcases cc x c e with z | z
    · exact (f2 b hb).2.2.2.2.1 x c (cl1 x c z)
    · exact Nat.ne_of_gt (Nat.lt_of_lt_of_le (lt2 b hb) (Nat.le_trans (Nat.le_add_right _ 2) z))
  · -- base objects are not iterators
    rcases (f2 b hb).2.2.2.1 with z | z
    · exact I2.ok.noex b o e z
    · exact absurd (Nat.lt_of_lt_of_le (Nat.lt_of_lt_of_le (Heap.lt_size e) I2.ok.bsz) z) (Nat.lt_irrefl _)
  · rcases List.mem_cons.mp (I2.stkSub b z) with q | q
    · exact (f2 b hb).2.1 q
    · exact (f2 b hb).2.2.1 q
  · -- the new frame
    have:=Heap.Ns.new (s2.heap.push (lobj [] 0)) (.type "dict")
    rw [sz3] at this
    exact this.keeps (pushCells_keeps _ _)
  · -- what is seen
    unfold cst at e2
    rw [List.getElem?_map] at e2
    cases ej:ix[i]? with
    | none=>rw [ej] at e2;cases e2
    | some o =>
      rw [ej] at e2
      cases o with
      | none=>cases e2
      | some j =>
        obtain ⟨n1,n2⟩:=c4 i x j e1 ej
        have e2':((σ[j]?).bind id)=some v:=Option.some.inj e2
        have eσ:σ[j]? = some (some v):=by
          cases q:σ[j]? with
          | none=>rw [q] at e2';cases e2'
          | some q'=>rw [q] at e2';cases q' with
            | none=>cases e2'
            | some q''=>cases e2';rfl
        have hv:Vis X.env.scope x:=by
          rcases c2 (x,.free) (PySem.mem_of_lookup n2) rfl with z | z
          · exact .inr (.inl z)
          · exact .inr (.inr z)
        obtain ⟨m,hn,hl⟩:=I2.loc
        obtain ⟨u,ru,lk⟩:=hl j x v n1 eσ hv
        refine ⟨u,ru,.inr ⟨relabel_look (scope:=scope) (env:=X.env) n2,?_⟩⟩
        rcases lk with ⟨z,_⟩ | ⟨_,c,ec,q⟩
        · exfalso
          rcases c2 (x,.free) (PySem.mem_of_lookup n2) rfl with z' | z' <;> (have z2:X.env.scope.names.lookup x=some .local:=z;rw [z2] at z';cases z')
        · refine ⟨c,?_,q.keeps keep⟩
          show (cellsFrom (s2.heap.objs.size+2) scope.names cl).lookup x=some c
          rw [cells_out scope.names _ cl fun p hp e hpc=>by
            have q1:=c1 p hp
            rw [e,n2,hpc] at q1
            cases q1]
          obtain ⟨d,ed⟩:=Option.isSome_iff_exists.mp (cl2 (x,.free) (PySem.mem_of_lookup n2) rfl)
          have:=cl1 x d ed
          rw [ec] at this
          cases this
          exact ed
  · exact I2.hok.fresh (Nat.le_succ _)
  · rcases cc x c e with z | z
    · exact I2.freeC x c (cl1 x c z)
    · exact I2.hok.fresh (by omega)
  · have e:p=(s2.heap.objs.size,lobj [] 0):=by simpa using hp
    subst e
    refine ⟨pushCells_keeps _ _ _ _ (Heap.get?_push_of_some _ (Heap.get?_push_size _ rfl)),I2.hok.fresh (Nat.le_refl _),Nat.ne_of_lt (Nat.lt_succ_self _),fun z=>?_,fun v z=>by cases z⟩
    rcases List.mem_cons.mp (I2.stkSub _ z) with q | q
    · have:=I2.lt;exact absurd (q ▸ this) (Nat.lt_irrefl _)
    · exact I2.nofs (Nat.le_refl _) q
  · show (cst ix σ).length=N'.length
    unfold cst
    rw [List.length_map,c3]
end L2
namespace L2
open PySem PySem.Spec PyProof.Rows
theorem comp_end {X:Cx} {pins pins':List (Addr × Obj)} {σ τ:St} {H2 H':Hp} {s2 s':Shared} {scope:Scope} {N':List Str} {cells:List (Str × Addr)} {fp:List Addr} {C D:Addr} {ys:List V} {its:List Value} {k:Nat} {h':Heap}
    (I2:Inv X pins σ H2 s2) (f2:∀ b∈fp,FpOk X pins H2 b) (I':Inv (compCx X scope N' cells C s2 H2 fp []) pins' τ H' s') (hC:s2.heap.objs.size≤C) (hD:s2.heap.objs.size≤D) (hDC:D≠C)
    (hn:H' D=none) (e:s'.heap.get? D=some (lobj its k)) (hv:Vals ys its) (hz:ys.length≤sizeLine) (sb:Heap.SameBut C s'.heap h'):Inv X pins σ (upd H' D (.lst ys)) { s' with heap:=h' }:=by
  have ne:∀ b o,s2.heap.get? b=some o→b≠C∧b≠D:=fun b o q=>by
    have:=Heap.lt_size q
    exact ⟨Nat.ne_of_lt (Nat.lt_of_lt_of_le this hC),Nat.ne_of_lt (Nat.lt_of_lt_of_le this hD)⟩
  have ok1:HOk X.prog X.w H' h':=HOk.but I'.hok I'.free sb
  have eD:h'.get? D=some (lobj its k):=(sb.2 D hDC).trans e
  have U:=I'.base
  refine I2.call' (s':={ s' with heap:=h' }) (ch:=fp) I'.os ⟨fun b o q n hb hx=>?_,fun b o q n hb hx=>?_,fun b o q n hx=>?_,fun b o q hx=>?_,fun b xs q=>?_,fun b o u q=>?_,fun b ps q=>?_⟩ (HOk.add ok1 hn ⟨hz,its,k,hv,eD⟩) I'.bare fun b hb=>?_
  · exact (sb.2 b (ne b o q).1).trans (U.keep b o q n hb hx)
  · obtain ⟨sl,z⟩:=U.slot b o q n hb hx
    exact ⟨sl,(sb.2 b (ne b o q).1).trans z⟩
  · rw [upd_ne (ne b o q).2];exact U.free b o q n hx
  · obtain ⟨o',z⟩:=U.there b o q hx
    exact ⟨o',(sb.2 b (ne b o q).1).trans z⟩
  · have z:=U.tups b xs q
    rw [upd_ne (ne_of_none z hn)];exact z
  · have z:=U.frzs b o u q
    rw [upd_ne (ne_of_none z hn)];exact z
  · obtain ⟨more,z⟩:=U.tbls b ps q
    exact ⟨more,by rw [upd_ne (ne_of_none z hn)];exact z⟩
  · obtain ⟨_,a1,_,a2,a3,a4⟩:=f2 b hb
    exact ⟨a2,a1,a3,a4⟩
theorem append_un {X:Cx} {τ:St} {H':Hp} {s:Shared} {D:Addr} {its:List Value} {k:Nat} {u:Value} {E:Value→Shared→Prop} {Q:Value→Shared→Prop} (hz:its.length < sizeLine) (e:s.heap.get? D=some (lobj its k))
    (h:∀ h' k',h'.get? D=some (lobj (its++[u]) k')→(∀ b o,b≠D→s.heap.get? b=some o→h'.get? b=some o)→Q .none { s with heap:=h' }) :
    wpAny (model X.prog X.w) X.A (call (.builtin "list.append") [.ref D,u]) Q E s:=by
  refine call_meets F.slot_list_append ⟨_,e,rfl⟩ F.entry_list_append (F.args_list_append_2 _ _) (PySem.list_append D its.toArray k u (by rw [List.size_toArray];omega)) ⟨e,?_⟩
  have q:=PySem.IsL.update e (·.push u)
  have e2:(its++[u]).toArray=its.toArray.push u:=by simp
  refine h _ _ (by show _=some ({ cls:=.type "list",data:=.seq (its++[u]).toArray _ }:Obj);rw [e2];exact q) fun b o hb eb=>(Heap.get?_update_other s.heap _ (Ne.symm hb)).trans eb
theorem pe_comp {X:Cx} {tg iter elt:Expr} {ifs:List Expr} {scope:Scope} {pos:Pos} {N':List Str} {ix:List (Option Nat)} {wi:TI} {g:TG} {tc:TT} {te:TE}
    (hc:X.calm=true) (chk:compChk X scope N' ix=true) (hi:PI X tg iter wi)
    (hg:∀ cells C s₀ H₀ ex pn,PG (compCx X scope N' cells C s₀ H₀ ex pn) tg g)
    (ht:∀ cells C s₀ H₀ ex pn,PTs (compCx X scope N' cells C s₀ H₀ ex pn) ifs tc)
    (he:∀ cells C s₀ H₀ ex pn,PE (compCx X scope N' cells C s₀ H₀ ex pn) elt te)
    (hs:∀ x,foldedSetIterable iter X.env x=pure x:=by intro _;rfl) :
    PE X (.ListComp elt [⟨tg,iter,ifs,0⟩] scope pos) (tComp ix wi g tc te):=by
  intro pins s σ H Q I h
  unfold compChk at chk
  obtain ⟨chk,k5⟩:=Bool.and_eq_true_iff.mp chk
  obtain ⟨chk,k4⟩:=Bool.and_eq_true_iff.mp chk
  obtain ⟨chk,k3⟩:=Bool.and_eq_true_iff.mp chk
  obtain ⟨k1,k2⟩:=Bool.and_eq_true_iff.mp chk
  have c1:∀ p∈scope.names,scope.names.lookup p.1=some p.2:=fun p hp=>by simpa using List.all_eq_true.mp k1 p hp
  have c2:∀ p∈scope.names,p.2=.free→X.env.scope.names.lookup p.1=some .cell∨X.env.scope.names.lookup p.1=some .free:=fun p hp hf=>by
    have:=List.all_eq_true.mp k2 p hp
    rw [hf] at this
    simpa using this
  have c3:ix.length=N'.length:=by simpa using k3
  have ck:scope.kind=.function:=by simpa using k5
  have c4:∀ (i:Nat) (x:Str) (j:Nat),N'[i]? = some x→ix[i]? = some (some j)→X.N[j]? = some x∧scope.names.lookup x=some .free:=fun i x j e1 e2=>by
    have m:(x,some j)∈N'.zip ix:=by
      refine List.mem_of_getElem? (i:=i) ?_
      rw [List.getElem?_zip_eq_some]
      exact ⟨e1,e2⟩
    have:=List.all_eq_true.mp k4 _ m
    have:=Bool.and_eq_true_iff.mp this
    exact ⟨by simpa using this.1,by simpa using this.2⟩
  obtain ⟨cl,ecl,cl1,cl2⟩:=closure_ok (env:=X.env) (scope:=scope) (fun p hp hf=>I.ok.has p.1 (c2 p hp hf))
  rw [eval_ListComp]
  refine wpAny_comprehension_free (use:=none) rfl hs ecl ck (fun y hy hl=>by rw [c1 y hy,hl]) (thn (hi pins s σ H _ I h) fun v s1 h1=>thn h1 fun itv s2 h2=>?_)
  obtain ⟨it,fp,tn,J,H2,e,I2,T,st2,f2,W,⟨m0,w0⟩,turn⟩:=h2
  subst e
  have I5:=comp_inv (N':=N') (ix:=ix) (fp:=fp) c1 c3 c2 c4 ck cl1 cl2 I2 f2 (T.obj _ _ st2)
  refine wpAny_newObj_type ?_
  unfold newFunctionEnv
  refine wpAny_bind (wpAny_alloc ?_)
  refine wpAny_bind (wpAny_layCells _ (fun name kind cells=>by cases hkc:kind == NameKind.cell <;> simp [hkc]) _ _ _ _ ?_)
  refine wpAny_bind ?_
  rw [List.forIn_nil]
  refine wpAny_pure (wpAny_pure ?_)
  have sz3:(s2.heap.push (lobj [] 0)).objs.size=s2.heap.objs.size+1:=Heap.size_push ..
  have sz4:((s2.heap.push (lobj [] 0)).push { cls:=.type "dict",data:=.dict #[] }).objs.size=s2.heap.objs.size+2:=by rw [Heap.size_push,sz3]
  show codeAny (model X.prog X.w) X.A (.compStart (.ListComp elt [⟨tg,iter,ifs,0⟩] scope pos) 0 (.ref it) (.ref s2.heap.objs.size)
    (compCx X scope N' (cellsFrom ((s2.heap.push (lobj [] 0)).push { cls:=.type "dict",data:=.dict #[] }).objs.size scope.names cl) (s2.heap.push (lobj [] 0)).objs.size s2 H2 fp []).env)
    (compPost (model X.prog X.w) X.A X.xe none (EP X pins σ Q) (.ref s2.heap.objs.size) (s2.heap.push (lobj [] 0)).objs.size)
    { s2 with heap:=pushCells ((s2.heap.push (lobj [] 0)).push { cls:=.type "dict",data:=.dict #[] }) scope.names }
  rw [sz4,sz3]
  generalize hcells:cellsFrom (s2.heap.objs.size+2) scope.names cl=cells at I5 ⊢
  have keep5:∀ b o,s2.heap.get? b=some o→(pushCells ((s2.heap.push (lobj [] 0)).push { cls:=.type "dict",data:=.dict #[] }) scope.names).get? b=some o:=fun b o e =>
    pushCells_keeps _ _ b o (Heap.get?_push_of_some _ (Heap.get?_push_of_some _ e))
  generalize hh5:({ s2 with heap:=pushCells ((s2.heap.push (lobj [] 0)).push { cls:=.type "dict",data:=.dict #[] }) scope.names }:Shared)=s5 at I5 ⊢
  have keep5:∀ b o,s2.heap.get? b=some o→s5.heap.get? b=some o:=by rw [← hh5];exact keep5
  have st5:tn 0 s5.heap:=T.keep _ _ _ st2 fun b hb o e=>keep5 b o e
  have lt2:∀ (b:Nat),b∈fp→b < s2.heap.objs.size:=fun b hb=>by
    obtain ⟨o,e,_⟩:=T.obj _ _ st2 b hb
    exact Heap.lt_size e
  -- the iterator within the block
  have stat:∀ {H':Hp} {o:Obj},(∀ b∈fp,H' b=none)→∀ b∈fp,FpOk (compCx X scope N' cells (s2.heap.objs.size+1) s2 H2 fp []) [(s2.heap.objs.size,o)] H' b:=fun {H' o} hn b hb =>
    ⟨hn b hb,(I5.ok.exf b hb).1,I5.ok.exfs b hb,.inl hb,(I5.ok.exf b hb).2,fun p hp=>by
      have e:p=(s2.heap.objs.size,o):=by simpa using hp
      subst e
      exact Nat.ne_of_gt (lt2 b hb)⟩
  have loop:codeAny (model X.prog X.w) X.A (.compLoop (.ListComp elt [⟨tg,iter,ifs,0⟩] scope pos) 0 (.ref it) (.ref s2.heap.objs.size)
      (compCx X scope N' cells (s2.heap.objs.size+1) s2 H2 fp []).env) (compPost (model X.prog X.w) X.A X.xe none (EP X pins σ Q) (.ref s2.heap.objs.size) (s2.heap.objs.size+1)) s5:=by
    refine compLoop_go (fun n s'=>∃ i ys τ H' its k,Inv (compCx X scope N' cells (s2.heap.objs.size+1) s2 H2 fp []) [(s2.heap.objs.size,lobj its k)] τ H' s'∧tn i s'.heap∧(∀ b∈fp,H' b=none)∧Vals ys its∧ys.length≤sizeLine∧W i n ys τ H') ?_ m0
      ⟨0,[],_,H2,[],0,I5,st5,fun b hb=>(f2 b hb).1,.nil,Nat.zero_le _,w0⟩
    rintro n s3 ⟨i,ys,τ,H3,its,k,I3,st3,fr3,hv3,hz3,w3⟩
    rcases turn i n ys τ H3 w3 with ⟨stop,qn⟩ | ⟨go,hlen,N,hN,step⟩
    · refine thn (T.done (compCx X scope N' cells (s2.heap.objs.size+1) s2 H2 fp []) rfl rfl rfl hc i _ s3 τ H3 (fun _ _=>False) I3 (stat fr3) st3 stop) fun r s4 ⟨hr,I4⟩=>?_
      subst hr
      obtain ⟨m,hn,_⟩:=id I4.loc
      obtain ⟨eD,nD,_,_,_⟩:=I4.pin (s2.heap.objs.size,lobj its k) (by simp)
      refine ⟨m,hn,fun h' sb=>⟨.ref s2.heap.objs.size,upd H3 s2.heap.objs.size (.lst ys),?_,rfl,qn _ nD⟩⟩
      exact comp_end I2 f2 I4 (Nat.le_succ _) (Nat.le_refl _) (Nat.ne_of_lt (Nat.lt_succ_self _)) nD eD hv3 hz3 sb
    · refine thn (T.item (compCx X scope N' cells (s2.heap.objs.size+1) s2 H2 fp []) rfl rfl rfl hc i _ s3 τ H3 (fun _ _=>False) I3 (stat fr3) st3 go) fun r s4 ⟨u,hr,h4⟩=>?_
      subst hr
      refine thn h4 fun _ s5' ⟨x,H5,I5',r5,y5,st5',fr5⟩=>?_
      have I6:=I5'.pinned (stat fr5) (T.obj _ _ st5')
      refine thn (hg cells _ s2 H2 fp [] _ s5' τ H5 x u _ I6 r5 (step x H5 y5)) fun _ s6 ⟨τ6,H6,I7,q6⟩=>?_
      refine thn (ht cells _ s2 H2 fp [] _ s6 τ6 H6 _ I7 q6) fun ok s7 ⟨H7,I8,q7⟩=>?_
      have fin:∀ {s8:Shared} {H8:Hp} {its':List Value} {k':Nat} {ys':List V},Inv (compCx X scope N' cells (s2.heap.objs.size+1) s2 H2 fp []) ([(s2.heap.objs.size,lobj its' k')]++pinsAt fp s5'.heap) τ6 H8 s8→Vals ys' its'→ys'.length≤sizeLine→N ys' τ6 H8 →
          ∃ m,m < n∧∃ i ys τ H' its k,Inv (compCx X scope N' cells (s2.heap.objs.size+1) s2 H2 fp []) [(s2.heap.objs.size,lobj its k)] τ H' s8∧tn i s8.heap∧(∀ b∈fp,H' b=none)∧Vals ys its∧ys.length≤sizeLine∧W i m ys τ H':=fun {s8 H8 its' k' ys'} I9 hv hz n9=>by
        obtain ⟨m',hm,w9⟩:=hN ys' τ6 H8 n9
        refine ⟨m',hm,i+1,ys',τ6,H8,its',k',I9.unpinned,T.keep _ _ _ st5' fun b hb o e=>(I9.pin (b,o) (List.mem_append_right _ (List.mem_append_right _ (mem_pinsAt hb e)))).1,fun b hb=>?_,hv,hz,w9⟩
        obtain ⟨o,e,d⟩:=T.obj _ _ st5' b hb
        exact (I9.pin (b,o) (List.mem_append_right _ (List.mem_append_right _ (mem_pinsAt hb e)))).2.1
      cases ok with
      | false=>exact fin I8 hv3 hz3 q7
      | true =>
        refine thn (he cells _ s2 H2 fp [] _ s7 τ6 H7 _ I8 q7) fun y s8 ⟨v8,H8,I9,r8,q8⟩=>?_
        obtain ⟨eD,nD,dL,dF,_⟩:=I9.pin (s2.heap.objs.size,lobj its k) (by simp)
        have hl:=hv3.length
        refine append_un (X:=X) (τ:=τ) (H':=H8) (by omega) eD fun h' k' eD' kp=>?_
        -- the pin on the list is let go,the list turns,and is pinned anew
        have hx:∀ p∈pinsAt fp s5'.heap,p.1≠s2.heap.objs.size:=fun p hp=>by
          have:=lt2 p.1 (of_pinsAt hp).1
          exact Nat.ne_of_lt this
        have J1:Inv (compCx X scope N' cells (s2.heap.objs.size+1) s2 H2 fp []) (pinsAt fp s5'.heap) τ6 H8 s8:=I9.pins_of fun p hp=>I9.pin p (List.mem_append_right _ (List.mem_append_right _ hp))
        have J2:Inv (compCx X scope N' cells (s2.heap.objs.size+1) s2 H2 fp []) (pinsAt fp s5'.heap) τ6 H8 { s8 with heap:=h' }:=J1.turned (t':=s8.toks) (it:=s2.heap.objs.size) kp nD dL (.inr (Nat.le_refl _)) (fun x c e z=>by
          obtain ⟨v,o,ho,hd⟩:=J1.cell x c e
          rw [z,eD] at ho
          cases ho
          cases hd) fun p hp=>hx p (by simpa using hp)
        have J3:Inv (compCx X scope N' cells (s2.heap.objs.size+1) s2 H2 fp []) ([(s2.heap.objs.size,lobj (its++[y]) k')]++pinsAt fp s5'.heap) τ6 H8 { s8 with heap:=h' }:=J2.pins_of fun p hp=>by
          rcases List.mem_append.mp hp with z | z
          · have e:p=(s2.heap.objs.size,lobj (its++[y]) k'):=by simpa using z
            subst e
            exact ⟨eD',nD,dL,dF,fun v z=>by cases z⟩
          · exact J2.pin p (List.mem_append_right _ z)
        exact fin J3 (hv3.append (.cons r8 .nil)) (by rw [List.length_append,List.length_singleton];omega) q8
  exact codeAny_compStart_list loop (T.self X.A 0 s5 _ _ st5 loop)
end L2
namespace L2
open PySem PySem.Spec PyProof.Rows
structure Sure (J:It) (xs:List V) (ok:Hp→Prop):Prop where
  go:∀ i H,i < xs.length→ok H→J.go i H
  yld:∀ i H x H',i < xs.length→ok H→J.yld i H x H'→H'=H∧xs[i]? = some x
  stop:∀ H,ok H→J.stop xs.length H
theorem sure_list {K:PySem.W.Frag} {a:Addr} {xs:List V}:Sure (Itl K a) xs (fun H=>SqL K H a xs) where
  go:=fun i H hi h=>⟨xs,xs[i],h,by simp [hi]⟩
  yld:=fun i H x H' _ h y=>⟨y.1,y.2 xs h⟩
  stop:=fun H h=>⟨xs,h,Nat.le_refl _⟩
theorem sure_tup {K:PySem.W.Frag} {a:Addr} {xs:List V}:Sure (Itt K a) xs (fun H=>SqT K H a xs) where
  go:=fun i H hi h=>⟨xs,xs[i],h,by simp [hi]⟩
  yld:=fun i H x H' _ h y=>⟨y.1,y.2 xs h⟩
  stop:=fun H h=>⟨xs,h,Nat.le_refl _⟩
def rngV (lo:Int) (n:Nat):List V:=(List.range n).map fun (k:Nat)=>V.int (lo+k)
theorem rngV_length (lo:Int) (n:Nat):(rngV lo n).length=n:=by unfold rngV;simp
theorem sure_range {lo:Int} {n:Nat}:Sure (Itr lo n) (rngV lo n) (fun _=>True) where
  go:=fun i H hi h=>by rw [rngV_length] at hi;exact hi
  yld:=fun i H x H' hi h y=>⟨y.1,by
    obtain ⟨_,rfl⟩:=y
    rw [rngV_length] at hi
    unfold rngV
    rw [List.getElem?_map,List.getElem?_range hi]
    rfl⟩
  stop:=fun H h=>by rw [rngV_length];exact Nat.le_refl n
def sign (c:Nat):V:=.str ⟨#[c]⟩
def Its (x:Str):It:=⟨fun i _=>i < x.cps.size,fun i H v H'=>H'=H∧∃ c,x.cps[i]? = some c∧v=sign c,fun i _=>i=x.cps.size⟩
theorem sure_str {x:Str}:Sure (Its x) (x.cps.toList.map sign) (fun _=>True) where
  go:=fun i H hi h=>by
    rw [List.length_map] at hi
    exact hi
  yld:=fun i H v H' _ h y=>⟨y.1,by
    obtain ⟨_,c,e,rfl⟩:=y
    rw [List.getElem?_map,Array.getElem?_toList,e]
    rfl⟩
  stop:=fun H h=>by
    rw [List.length_map]
    rfl
theorem str_walks {P:Program} {w:World} (it:Addr) (x:Str) (t:Tok) {A:Around} (hA:A.handled=none):Walks P w A it [it] [it] x.cps.size (SignAt x) (fun i h=>h.IsStrIter it (strIterType x) x t i):=by
  unfold strIterType
  split
  · exact Walks.strAscii hA it x t
  · exact Walks.strWide hA it x t
theorem str_self {P:Program} {w:World} {it:Addr} {x:Str} {t:Tok} {A:Around} {i:Nat} {s:Shared} {Q:Value→Shared→Prop} {E:Value→Shared→Prop} (st:s.heap.IsStrIter it (strIterType x) x t i) (h:Q (.ref it) s):wpAny (model P w) A (pyIter (.ref it)) Q E s:=by
  unfold strIterType at st
  split at st
  · exact wpAny_pyIter_striter_ascii st h
  · exact wpAny_pyIter_striter_wide st h
theorem str_not (x:Str):["enumerate","zip","dict_itemiterator","dict_reverseitemiterator","odict_iterator","itertools.zip_longest","itertools.pairwise"].contains (strIterType x)=false:=by
  unfold strIterType
  split <;> decide
theorem turn_str {P:Program} {w:World} {K:PySem.W.Frag} {tg:Expr} (it:Addr) (x:Str) (t:Tok):Turn P w K tg (Its x) [it] it (fun i h=>h.IsStrIter it (strIterType x) x t i) where
  mem:=by simp
  obj:=fun i h st b hb=>by
    have e:b=it:=by simpa using hb
    subst e
    obtain ⟨o,e,c,d⟩:=st
    exact ⟨o,e,fun v z=>by rw [d] at z;cases z⟩
  keep:=fun i h h' st k=>by
    obtain ⟨o,e,r⟩:=st
    exact ⟨o,k it (by simp) o e,r⟩
  item:=by
    intro X hP hw hK hc i pins s σ H E I hf st hg
    subst hP hw hK
    obtain ⟨f0,f1,f2,f3,f4,f5⟩:=hf it (by simp)
    refine (str_walks it x t (I.ok.hd hc)).item i s _ _ hg st fun v h' tk hv st' kk=>?_
    obtain ⟨c,u,hcc,rfl⟩:=hv
    have I1:Inv X pins σ H { s with heap:=h',toks:=tk }:=I.turned (fun b o hb e=>kk b o (by simpa using hb) e) f0 f1 f3 f4 f5
    obtain ⟨o,e,cc,d⟩:=id st'
    exact ⟨_,rfl,go_of (s:={ s with heap:=h',toks:=tk }) e cc d (str_not x) ⟨sign c,H,I1,⟨u,rfl⟩,⟨rfl,c,hcc,rfl⟩,st',fun b hb=>(hf b hb).1⟩⟩
  done:=by
    intro X hP hw hK hc i pins s σ H E I hf st hg
    subst hP hw hK
    obtain ⟨f0,f1,f2,f3,f4,f5⟩:=hf it (by simp)
    have e:i=x.cps.size:=hg
    subst e
    exact (str_walks it x t (I.ok.hd hc)).done s _ _ st fun h' tk kk=>⟨rfl,I.turned (fun b o hb e=>kk b o (by simpa using hb) e) f0 f1 f3 f4 f5⟩
  self:=fun _ _ _ _ _ st h=>str_self st h
def iStr (tl:TE):TI:=fun σ H R=>tl σ H fun x H1=>∃ z,x=.str z∧R (Its z) H1
theorem pi_str {X:Cx} {tg l:Expr} {tl:TE} (hl:PE X l tl):PI X tg l (iStr tl):=by
  intro pins s σ H R I h
  refine thn (hl pins s σ H _ I h) fun v s1 ⟨x,H1,I1,r1,q1⟩=>?_
  obtain ⟨z,e,q⟩:=q1
  subst e
  obtain ⟨t,rfl⟩:=r1
  refine wpAny_pyIter_strU ?_
  refine ⟨s1.heap.objs.size,[s1.heap.objs.size],_,_,H1,rfl,I1.kept (t':=s1.toks) fun b o e=>Heap.get?_push_of_some _ e,turn_str _ z t,⟨_,Heap.get?_push_size _ rfl,rfl,rfl⟩,fun b hb=>?_,q⟩
  have e:b=s1.heap.objs.size:=by simpa using hb
  subst e
  exact I1.fpOk (Nat.le_refl _) (I1.hok.fresh (Nat.le_refl _))
theorem for_by {J:It} {xs:List V} {ok:Hp→Prop} {g:TG} {tb:TS} {D:Ends} {σ:St} {H:Hp} (S:Sure J xs ok) (Pv:Nat→St→Hp→Prop) (h0:Pv 0 σ H) (hl:∀ i σ H,i≤xs.length→Pv i σ H→ok H)
    (hs:∀ i x σ H,xs[i]? = some x→Pv i σ H→g x σ H fun σ2 H2=>tb { D with nx:=Pv (i+1),ct:=Pv (i+1),bk:=D.nx } σ2 H2) (hd:∀ σ H,Pv xs.length σ H→D.nx σ H) :
    ∃ W:Nat→Nat→St→Hp→Prop,(∃ m,W 0 m σ H)∧∀ i m σ H,W i m σ H →
      (J.stop i H∧D.nx σ H)∨(J.go i H∧∃ N:St→Hp→Prop,(∀ σ' H',N σ' H'→∃ m',m' < m∧W (i+1) m' σ' H')∧∀ x H',J.yld i H x H'→g x σ H' fun σ2 H2=>tb { D with nx:=N,ct:=N,bk:=D.nx } σ2 H2):=by
  refine ⟨fun i m σ H=>m=xs.length - i∧i≤xs.length∧Pv i σ H,⟨xs.length,by simp,Nat.zero_le _,h0⟩,?_⟩
  rintro i m σ H ⟨rfl,hi,p⟩
  have q:=hl i σ H hi p
  by_cases hlt:i < xs.length
  · refine .inr ⟨S.go i H hlt q,Pv (i+1),fun σ' H' p'=>⟨xs.length - (i+1),by omega,rfl,hlt,p'⟩,fun x H' y=>?_⟩
    obtain ⟨e,y'⟩:=S.yld i H x H' hlt q y
    subst e
    exact hs i x σ _ y' p
  · have e:i=xs.length:=by omega
    subst e
    exact .inl ⟨S.stop H q,hd σ H p⟩
theorem comp_by {J:It} {xs:List V} {ok:Hp→Prop} {g:TG} {tc:TT} {te:TE} {Q:VK} {τ0:St} {H:Hp} (S:Sure J xs ok) (hz:xs.length≤10000) (Pv:Nat→List V→St→Hp→Prop) (h0:Pv 0 [] τ0 H)
    (hl:∀ i ys τ H,i≤xs.length→Pv i ys τ H→ok H∧ys.length≤i)
    (hs:∀ i x ys τ H,xs[i]? = some x→Pv i ys τ H→g x τ H fun τ2 H2=>tc τ2 H2 fun b H3=>if b=true then te τ2 H3 (fun y H4=>Pv (i+1) (ys++[y]) τ2 H4) else Pv (i+1) ys τ2 H3)
    (hd:∀ ys τ H D,Pv xs.length ys τ H→H D=none→Q (.ref D) (upd H D (.lst ys))) :
    ∃ W:Nat→Nat→List V→St→Hp→Prop,(∃ m,W 0 m [] τ0 H)∧∀ i m ys τ H,W i m ys τ H →
      (J.stop i H∧∀ D,H D=none→Q (.ref D) (upd H D (.lst ys))) ∨
      (J.go i H∧ys.length < sizeLine∧∃ N:List V→St→Hp→Prop,(∀ ys' τ' H',N ys' τ' H'→∃ m',m' < m∧W (i+1) m' ys' τ' H') ∧
        ∀ x H',J.yld i H x H'→g x τ H' fun τ2 H2=>tc τ2 H2 fun b H3=>if b=true then te τ2 H3 (fun y H4=>N (ys++[y]) τ2 H4) else N ys τ2 H3):=by
  refine ⟨fun i m ys τ H=>m=xs.length - i∧i≤xs.length∧Pv i ys τ H,⟨xs.length,by simp,Nat.zero_le _,h0⟩,?_⟩
  rintro i m ys τ H ⟨rfl,hi,p⟩
  obtain ⟨q,hy⟩:=hl i ys τ H hi p
  by_cases hlt:i < xs.length
  · refine .inr ⟨S.go i H hlt q,Nat.lt_of_lt_of_le (show ys.length < 10000 by omega) (by decide),Pv (i+1),fun ys' τ' H' p'=>⟨xs.length - (i+1),by omega,rfl,hlt,p'⟩,fun x H' y=>?_⟩
    obtain ⟨e,y'⟩:=S.yld i H x H' hlt q y
    subst e
    exact hs i x ys τ _ y' p
  · have e:i=xs.length:=by omega
    subst e
    exact .inl ⟨S.stop H q,fun D hD=>hd ys τ H D p hD⟩
end L2
namespace L2
open PySem PySem.Spec PyProof.Rows
theorem Inv.newTup {X:Cx} {pins:List (Addr × Obj)} {σ:St} {H:Hp} {s:Shared} {ch:List Addr} {T:Addr} {xs:List V} {its:List Value} {h':Heap} {t':Nat} (I:Inv X pins σ H s) (hch:∀ b∈ch,FpOk X pins H b)
    (k:∀ b o,b ∉ ch→s.heap.get? b=some o→h'.get? b=some o) (hT:s.heap.objs.size≤T) (hv:Vals xs its) (ht:IsTup h' T its.toArray∧Bare h' T) (hz:xs.length≤sizeLine) :
    Inv X pins σ (upd H T (.tup xs)) { s with heap:=h',toks:=t' }:=by
  have neT:∀ b o,s.heap.get? b=some o→b≠T:=fun b o e=>Nat.ne_of_lt (Nat.lt_of_lt_of_le (Heap.lt_size e) hT)
  have neH:∀ b u,H b=some u→b≠T:=fun b u e=>Nat.ne_of_lt (Nat.lt_of_lt_of_le (I.hok.lt e) hT)
  have nch:∀ b u,H b=some u→b ∉ ch:=fun b u e hb=>by rw [(hch b hb).1] at e;cases e
  refine I.step (g':=s.gens) (d':=s.drawn) (ch:=ch) (fun b hb=>?_) (fun b o _ _ hc e _=>k b o hc e) (fun b o _ _ hc e _=>⟨o.slots,k b o hc e⟩) (fun b o _ e n=>?_) (fun b o hc e=>⟨o,k b o hc e⟩)
    (fun b ys e=>?_) (fun b o u e=>?_) (fun b ps e=>⟨#[],?_⟩) (fun m hm=>?_) (fun b u e=>?_) I.bare
  · obtain ⟨_,a1,_,a2,a3,a4⟩:=hch b hb
    exact ⟨a2,a1,a3,a4⟩
  · rw [upd_ne (neT b o e)];exact n
  · rw [upd_ne (neH b _ e)];exact e
  · rw [upd_ne (neH b _ e)];exact e
  · rw [upd_ne (neH b _ e),e];simp
  · obtain ⟨o,es,ep,ho,r⟩:=hm
    exact ⟨o,es,ep,k _ o (fun z=>(hch _ z).2.1 rfl) ho,r⟩
  · by_cases hb:b=T
    · subst hb
      rw [upd_same] at e
      cases e
      exact ⟨hz,its,hv,ht⟩
    · rw [upd_ne hb] at e
      refine (I.hok b u e).stay (fun c v hc q=>k c v ?_ q) (fun c q=>by rw [upd_ne (neH c _ q)];exact q) fun c ys q=>by rw [upd_ne (neH c _ q)];exact q
      rcases hc with z | z
      · rw [z];exact nch b u e
      · exact nch c _ z
def ItP (go:Nat→Hp→Prop) (stop:Nat→Hp→Prop) (at_:Nat→Hp→List V→Prop):It:=⟨go,fun i H v H'=>∃ T ys,H T=none∧v=.ref T∧at_ i H ys∧H'=upd H T (.tup ys),stop⟩
def Itz (K:PySem.W.Frag) (l1 l2:Addr):It:=ItP (fun i H=>∃ xs x ys y,SqL K H l1 xs∧xs[i]? = some x∧SqL K H l2 ys∧ys[i]? = some y) (fun i H=>∃ xs ys,SqL K H l1 xs∧SqL K H l2 ys∧min xs.length ys.length=i)
  (fun i H vs=>∃ x y,(∀ xs,SqL K H l1 xs→xs[i]? = some x)∧(∀ ys,SqL K H l2 ys→ys[i]? = some y)∧vs=[x,y])
structure Sure2 (J:It) (xs:List (List V)) (ok:Hp→Prop):Prop where
  go:∀ i H,i < xs.length→ok H→J.go i H
  yld:∀ i H x H',i < xs.length→ok H→J.yld i H x H'→∃ T ys,H T=none∧x=.ref T∧H'=upd H T (.tup ys)∧xs[i]? = some ys
  stop:∀ H,ok H→J.stop xs.length H
theorem sure_zip {K:PySem.W.Frag} {l1 l2:Addr} {xs ys:List V}:Sure2 (Itz K l1 l2) ((xs.zip ys).map fun p=>[p.1,p.2]) (fun H=>SqL K H l1 xs∧SqL K H l2 ys) where
  go:=fun i H hi h=>by
    have hi':i < xs.length∧i < ys.length:=by simpa [Nat.lt_min] using hi
    exact ⟨xs,xs[i],ys,ys[i],h.1,by simp [hi'.1],h.2,by simp [hi'.2]⟩
  yld:=fun i H v H' hi h z=>by
    obtain ⟨T,vs,hT,rfl,⟨x,y,hx,hy,rfl⟩,rfl⟩:=z
    refine ⟨T,_,hT,rfl,rfl,?_⟩
    have e:(xs.zip ys)[i]? = some (x,y):=List.getElem?_zip_eq_some.mpr ⟨hx xs h.1,hy ys h.2⟩
    rw [List.getElem?_map,e]
    rfl
  stop:=fun H h=>⟨xs,ys,h.1,h.2,by simp⟩
theorem comp_by2 {J:It} {xs:List (List V)} {ok:Hp→Prop} {g:TG} {tc:TT} {te:TE} {Q:VK} {τ0:St} {H:Hp} (S:Sure2 J xs ok) (hz:xs.length≤10000) (Pv:Nat→List V→St→Hp→Prop) (h0:Pv 0 [] τ0 H)
    (hl:∀ i ys τ H,i≤xs.length→Pv i ys τ H→ok H∧ys.length≤i)
    (hs:∀ i zs ys τ H T,xs[i]? = some zs→Pv i ys τ H→H T=none→g (.ref T) τ (upd H T (.tup zs)) fun τ2 H2=>tc τ2 H2 fun b H3=>if b=true then te τ2 H3 (fun y H4=>Pv (i+1) (ys++[y]) τ2 H4) else Pv (i+1) ys τ2 H3)
    (hd:∀ ys τ H D,Pv xs.length ys τ H→H D=none→Q (.ref D) (upd H D (.lst ys))) :
    ∃ W:Nat→Nat→List V→St→Hp→Prop,(∃ m,W 0 m [] τ0 H)∧∀ i m ys τ H,W i m ys τ H →
      (J.stop i H∧∀ D,H D=none→Q (.ref D) (upd H D (.lst ys))) ∨
      (J.go i H∧ys.length < sizeLine∧∃ N:List V→St→Hp→Prop,(∀ ys' τ' H',N ys' τ' H'→∃ m',m' < m∧W (i+1) m' ys' τ' H') ∧
        ∀ x H',J.yld i H x H'→g x τ H' fun τ2 H2=>tc τ2 H2 fun b H3=>if b=true then te τ2 H3 (fun y H4=>N (ys++[y]) τ2 H4) else N ys τ2 H3):=by
  refine ⟨fun i m ys τ H=>m=xs.length - i∧i≤xs.length∧Pv i ys τ H,⟨xs.length,by simp,Nat.zero_le _,h0⟩,?_⟩
  rintro i m ys τ H ⟨rfl,hi,p⟩
  obtain ⟨q,hy⟩:=hl i ys τ H hi p
  by_cases hlt:i < xs.length
  · refine .inr ⟨S.go i H hlt q,Nat.lt_of_lt_of_le (show ys.length < 10000 by omega) (by decide),Pv (i+1),fun ys' τ' H' p'=>⟨xs.length - (i+1),by omega,rfl,hlt,p'⟩,fun x H' y=>?_⟩
    obtain ⟨T,zs,hT,rfl,rfl,y'⟩:=S.yld i H x H' hlt q y
    exact hs i zs ys τ H T y' p hT
  · have e:i=xs.length:=by omega
    subst e
    exact .inl ⟨S.stop H q,fun D hD=>hd ys τ H D p hD⟩
theorem zip_itemB {P:Program} {w:World} {A:Around} (z TI TO i1 i2 l1 l2:Addr) (D:ZipApart z TI TO i1 i2 l1 l2) (xs ys:Array Value) (i:Nat) (s:Shared) (Q:Option Value→Shared→Prop) (E:Value→Shared→Prop) (hi:i < min xs.size ys.size)
    (st:IsZip s.heap z TI TO .none∧IsPair s.heap TI (.ref i1) (.ref i2)∧(∃ a b,IsPair s.heap TO a b)∧s.heap.IsListIter i1 l1 i∧s.heap.IsListIter i2 l2 i∧s.heap.IsList l1 xs∧s.heap.IsList l2 ys)
    (q : ∀ T vals h' tk,(∃ x y,xs[i]? = some x∧ys[i]? = some y∧vals = #[x,y])→s.heap.objs.size≤T→h'.IsTuple T vals∧Bare h' T →
      (IsZip h' z TI TO (rawInt T)∧IsPair h' TI (.ref i1) (.ref i2)∧(∃ a b,IsPair h' TO a b)∧h'.IsListIter i1 l1 (i+1)∧h'.IsListIter i2 l2 (i+1)∧h'.IsList l1 xs∧h'.IsList l2 ys∧T≠z∧T≠TO∧T≠i1∧T≠i2) →
      (∀ b o,b ∉ [z,TO,i1,i2]→s.heap.get? b=some o→h'.get? b=some o)→Q (some (.ref T)) { s with heap:=h',toks:=tk }) :
    wpAny (model P w) A (pyNext (.ref z)) Q E s:=by
  obtain ⟨k1,k2,⟨a,b,k3⟩,k4,k5,k6,k7⟩:=st
  have e1:xs[i]? = some (xs[i]'(by omega)):=Array.getElem?_eq_getElem (by omega)
  have e2:ys[i]? = some (ys[i]'(by omega)):=Array.getElem?_eq_getElem (by omega)
  refine wpAny_pyNext_zip_item D k1 k2 k3 k4 k5 k6 k7 e1 e2 fun g y1 y2 y3 y4 y5 y6 y7=>?_
  have nn:∀ {c o},s.heap.get? c=some o→s.heap.objs.size≠c:=fun m=>Nat.ne_of_gt (Heap.lt_size m)
  have n3:s.heap.objs.size≠i1:=by
    obtain ⟨_,m,_⟩:=k4
    exact nn m
  have n4:s.heap.objs.size≠i2:=by
    obtain ⟨_,m,_⟩:=k5
    exact nn m
  refine q s.heap.objs.size _ g s.toks ⟨_,_,e1,e2,rfl⟩ (Nat.le_refl _) ⟨⟨_,y5,rfl,_,rfl⟩,_,y5,rfl⟩ ⟨y1,y7 _ _ D.TIz D.TITO D.TIi1 D.TIi2 k2,⟨_,_,y2⟩,y3,y4,k6.at fun o m=>y7 _ o D.l1z D.l1TO D.l1i1 D.l1i2 m,k7.at fun o m=>y7 _ o D.l2z D.l2TO D.l2i1 D.l2i2 m,nn k1,nn k3,n3,n4⟩ fun c o nc m=>?_
  simp only [List.mem_cons,List.not_mem_nil,or_false,not_or] at nc
  exact y7 c o nc.1 nc.2.1 nc.2.2.1 nc.2.2.2 m
theorem turn_zip {P:Program} {w:World} {K:PySem.W.Frag} {elts:List Expr} {k:Nat} {pos:Pos} (l1 l2 z TI TO i1 i2:Addr) (d1:TI≠z) (d2:TO≠z) (d3:i1≠z) (d4:i2≠z) (d5:TI≠TO) (d6:TI≠i1) (d7:TI≠i2) (d8:TO≠i1) (d9:TO≠i2) (d10:i1≠i2) :
    Turn P w K (.Tuple elts k pos) (Itz K l1 l2) [z,TI,TO,i1,i2] z (fun i h=>IsZip h z TI TO .none∧IsPair h TI (.ref i1) (.ref i2)∧(∃ a b,IsPair h TO a b)∧h.IsListIter i1 l1 i∧h.IsListIter i2 l2 i):=by
  have ap:∀ {h:Heap} {i:Nat} {xs:Array Value} {l:Addr},h.IsList l xs→IsZip h z TI TO .none→IsPair h TI (.ref i1) (.ref i2)→(∃ a b,IsPair h TO a b)→h.IsListIter i1 l1 i→h.IsListIter i2 l2 i→l≠z∧l≠TO∧l≠i1∧l≠i2:=by
    intro h i xs l hl h1 h2 h3 h4 h5
    obtain ⟨o,ho,hc,_⟩:=hl
    refine ⟨fun e=>?_,fun e=>?_,fun e=>?_,fun e=>?_⟩
    · rw [e,h1] at ho;cases ho;exact absurd (Value.type.inj hc) (by decide)
    · obtain ⟨a,b,h3⟩:=h3
      rw [e,h3] at ho;cases ho;exact absurd (Value.type.inj hc) (by decide)
    · obtain ⟨o',ho',hc',_⟩:=h4
      rw [e,ho'] at ho;cases ho;rw [hc'] at hc;exact absurd (Value.type.inj hc) (by decide)
    · obtain ⟨o',ho',hc',_⟩:=h5
      rw [e,ho'] at ho;cases ho;rw [hc'] at hc;exact absurd (Value.type.inj hc) (by decide)
  exact {
    mem:=by simp
    obj:=fun i h st b hb=>by
      obtain ⟨h1,h2,⟨a,b',h3⟩,⟨o4,e4,c4,q4⟩,⟨o5,e5,c5,q5⟩⟩:=st
      have hb':b=z∨b=TI∨b=TO∨b=i1∨b=i2:=by simpa using hb
      rcases hb' with e | e | e | e | e
      · rw [e];exact ⟨_,h1,fun v z=>by cases z⟩
      · rw [e];exact ⟨_,h2,fun v z=>by cases z⟩
      · rw [e];exact ⟨_,h3,fun v z=>by cases z⟩
      · rw [e];exact ⟨o4,e4,fun v z=>by rw [q4] at z;cases z⟩
      · rw [e];exact ⟨o5,e5,fun v z=>by rw [q5] at z;cases z⟩
    keep:=fun i h h' st kk=>by
      obtain ⟨h1,h2,⟨a,b',h3⟩,h4,h5⟩:=st
      exact ⟨kk z (by simp) _ h1,kk TI (by simp) _ h2,⟨a,b',kk TO (by simp) _ h3⟩,h4.at fun o x=>kk i1 (by simp) o x,h5.at fun o x=>kk i2 (by simp) o x⟩
    item:=by
      intro X hP hw hK hc i pins s σ H E I hf st hg
      subst hP hw hK
      obtain ⟨xs,x,ys,y,hq1,hx,hq2,hy⟩:=hg
      obtain ⟨its1,rv1,p1,hz1⟩:=I.list hq1
      obtain ⟨its2,rv2,p2,hz2⟩:=I.list hq2
      obtain ⟨u,hu,ru⟩:=rv1.get hx
      obtain ⟨v,hv,rv⟩:=rv2.get hy
      obtain ⟨h1,h2,h3,h4,h5⟩:=st
      obtain ⟨n1,n2,n3,n4⟩:=ap p1.isList h1 h2 h3 h4 h5
      obtain ⟨m1,m2,m3,m4⟩:=ap p2.isList h1 h2 h3 h4 h5
      have W:=WalksT.zip2 (prog:=X.prog) (w:=X.w) (I.ok.hd hc) z TI TO i1 i2 l1 l2 ⟨d1,d2,d3,d4,d5,d6,d7,d8,d9,d10,n1,n2,n3,n4,m1,m2,m3,m4⟩ its1.toArray its2.toArray
      refine zip_itemB z TI TO i1 i2 l1 l2 ⟨d1,d2,d3,d4,d5,d6,d7,d8,d9,d10,n1,n2,n3,n4,m1,m2,m3,m4⟩ its1.toArray its2.toArray i s _ _ (by have a1:=(List.getElem?_eq_some_iff.mp hu).1;have a2:=(List.getElem?_eq_some_iff.mp hv).1;simp;omega) ⟨h1,h2,h3,h4,h5,p1.isList,p2.isList⟩ fun T vals h' tk hP hT hTu hM kk=>?_
      obtain ⟨x',y',hx',hy',rfl⟩:=hP
      refine ⟨_,rfl,?_⟩
      refine W.go elts k pos i T { s with heap:=h',toks:=tk } _ _ hM fun h2' st' kk2=>?_
      have eu:x'=u:=by
        have:its1[i]? = some x':=by simpa using hx'
        rw [hu] at this;exact (Option.some.inj this).symm
      have ev:y'=v:=by
        have:its2[i]? = some y':=by simpa using hy'
        rw [hv] at this;exact (Option.some.inj this).symm
      subst eu ev
      have nT:T ∉ [z,TO,i1,i2]:=W.apart i T h' hM
      have sub:∀ b,b ∉ [z,TI,TO,i1,i2]→b ∉ [z,TO,i1,i2]:=fun b hb hb'=>hb (W.sub b hb' |> fun q=>by
        simp at hb' ⊢
        rcases hb' with e | e | e | e <;> simp [e])
      have nTI:T≠TI:=Nat.ne_of_gt (Nat.lt_of_lt_of_le (Heap.lt_size h2) hT)
      refine ⟨.ref T,upd H T (.tup [x,y]),I.newTup (ch:=[z,TI,TO,i1,i2]) (its:=[x',y']) hf (fun b o hb eb=>kk2 b o (sub b hb) (kk b o (sub b hb) eb)) hT (.cons ru (.cons rv .nil)) ?_ (by show 2≤sizeLine;decide),rfl,
        ⟨T,_,I.hok.fresh hT,rfl,⟨x,y,fun zs hz=>by rw [I.list_inj hz hq1];exact hx,fun zs hz=>by rw [I.list_inj hz hq2];exact hy,rfl⟩,rfl⟩,⟨st'.1,st'.2.1,st'.2.2.1,st'.2.2.2.1,st'.2.2.2.2.1⟩,fun b hb=>?_⟩
      · obtain ⟨⟨o,ho,r⟩,o',ho',r'⟩:=hTu
        exact ⟨⟨o,kk2 T o nT ho,r⟩,o',kk2 T o' nT ho',r'⟩
      · have nb:b≠T:=fun q=>by
          have hb':b=z∨b=TI∨b=TO∨b=i1∨b=i2:=by simpa using hb
          rw [q] at hb'
          rcases hb' with e | e | e | e | e
          · exact nT (by simp [e])
          · exact nTI e
          · exact nT (by simp [e])
          · exact nT (by simp [e])
          · exact nT (by simp [e])
        rw [upd_ne nb];exact (hf b hb).1
    done:=by
      intro X hP hw hK hc i pins s σ H E I hf st hg
      subst hP hw hK
      obtain ⟨xs,ys,hq1,hq2,hi⟩:=hg
      obtain ⟨its1,rv1,p1,hz1⟩:=I.list hq1
      obtain ⟨its2,rv2,p2,hz2⟩:=I.list hq2
      obtain ⟨h1,h2,h3,h4,h5⟩:=st
      obtain ⟨n1,n2,n3,n4⟩:=ap p1.isList h1 h2 h3 h4 h5
      obtain ⟨m1,m2,m3,m4⟩:=ap p2.isList h1 h2 h3 h4 h5
      have W:=WalksT.zip2 (prog:=X.prog) (w:=X.w) (I.ok.hd hc) z TI TO i1 i2 l1 l2 ⟨d1,d2,d3,d4,d5,d6,d7,d8,d9,d10,n1,n2,n3,n4,m1,m2,m3,m4⟩ its1.toArray its2.toArray
      have e:i=min its1.toArray.size its2.toArray.size:=by
        have:=rv1.length;have:=rv2.length;simp;omega
      subst e
      refine W.done s _ _ ⟨h1,h2,h3,h4,h5,p1.isList,p2.isList⟩ fun h' tk kk=>⟨rfl,?_⟩
      refine I.step (g':=s.gens) (d':=s.drawn) (ch:=[z,TO,i1,i2]) (fun b hb=>?_) (fun b o _ _ hc e _=>kk b o hc e) (fun b o _ _ hc e _=>⟨o.slots,kk b o hc e⟩) (fun _ _ _ _ n=>n)
        (fun b o hc e=>⟨o,kk b o hc e⟩) (fun _ _ e=>e) (fun _ _ _ e=>e) (fun b ps e=>⟨#[],by rw [e];simp⟩) (fun m hm=>?_) (fun b u e=>?_) I.bare
      · obtain ⟨_,a1,_,a2,a3,a4⟩:=hf b (by simp at hb ⊢;rcases hb with e | e | e | e <;> simp [e])
        exact ⟨a2,a1,a3,a4⟩
      · obtain ⟨o,es,ep,ho,r⟩:=hm
        exact ⟨o,es,ep,kk _ o (fun q=>(hf _ (by simp at q ⊢;rcases q with e | e | e | e <;> simp [e])).2.1 rfl) ho,r⟩
      · have nch:∀ b u,H b=some u→b ∉ [z,TO,i1,i2]:=fun b u e hb=>by
          rw [(hf b (by simp at hb ⊢;rcases hb with e | e | e | e <;> simp [e])).1] at e;cases e
        refine (I.hok b u e).stay (fun c v hc q=>kk c v ?_ q) (fun _ q=>q) fun _ _ q=>q
        rcases hc with z' | z'
        · rw [z'];exact nch b u e
        · exact nch c _ z'
    self:=fun _ _ _ _ _ st h=>wpAny_pyIter_zip st.1 h }
def iZip (K:PySem.W.Frag) (ta:TA):TI:=fun σ H R=>ta σ H fun vs H1=>∃ a b,vs=[.ref a,.ref b]∧(∃ xs,SqL K H1 a xs)∧(∃ ys,SqL K H1 b ys)∧R (Itz K a b) H1
theorem pi_zip {X:Cx} {l l':Expr} {ta:TA} {elts:List Expr} {k:Nat} {tp p pos:Pos} (hg:Gl X "zip") (hm:X.mg "zip" = none) (hl:PA X [l,l'] ta) (hs:starEach [l,l'] X.env=[(false,eval l X.env),(false,eval l' X.env)]:=by rfl) (hs2:starEach [l'] X.env=[(false,eval l' X.env)]:=by rfl) :
    PI X (.Tuple elts k tp) (.Call (.Name "zip" p) [l,l'] [] pos) (iZip X.K ta):=by
  intro pins s σ H R I h
  refine Call_ (ld_blt I hg hm (by first | exact boot_zip | decide +kernel) (PyProof.Rows.callWith_type1 (thn (hl pos pins s σ H _ I h) fun us s1 ⟨vs,H1,I1,r1,q1⟩=>?_) (by rw [hs,hs2]) (by rw [hs2];rfl)))
  obtain ⟨a,b,e,⟨xs,hq1⟩,⟨ys,hq2⟩,q⟩:=q1
  subst e
  cases r1 with
  | cons r rr =>
    cases rr with
    | cons r' rr =>
      cases rr
      cases r
      cases r'
      obtain ⟨its,rv,p,hz⟩:=I1.list hq1
      obtain ⟨its2,rv2,p2,hz2⟩:=I1.list hq2
      refine call_zip_2 p.isList p2.isList fun h' hz' hTI hTO hi1 hi2 hsz kk=>?_
      have I2:Inv X pins σ H1 { s1 with heap:=h' }:=I1.kept (t':=s1.toks) kk
      refine wpAny_pyIter_zip (s:={ s1 with heap:=h' }) hz' ?_
      refine ⟨s1.heap.objs.size+4,[s1.heap.objs.size+4,s1.heap.objs.size+2,s1.heap.objs.size+3,s1.heap.objs.size,s1.heap.objs.size+1],_,_,H1,rfl,I2,
        turn_zip a b _ _ _ _ _ (by simp) (by simp) (by simp) (by simp) (by simp) (by simp) (by simp) (by simp) (by simp) (by simp),⟨hz',hTI,⟨_,_,hTO⟩,hi1,hi2⟩,fun c hb=>?_,q⟩
      have:s1.heap.objs.size≤c:=by
        have hb':c=s1.heap.objs.size+4∨c=s1.heap.objs.size+2∨c=s1.heap.objs.size+3∨c=s1.heap.objs.size∨c=s1.heap.objs.size+1:=by simpa using hb
        rcases hb' with e | e | e | e | e <;> rw [e] <;> first | exact Nat.le_refl _ | exact Nat.le_add_right _ _
      exact I1.fpOk this (I1.hok.fresh this)
theorem comp_all {J:It} {xs:List V} {ok:Hp→Prop} {g:TG} {te:TE} {Q:VK} {τ0:St} {H:Hp} (S:Sure J xs ok) (hz:xs.length≤10000) (Pv:Nat→List V→St→Hp→Prop) (h0:Pv 0 [] τ0 H)
    (hl:∀ i ys τ H,i≤xs.length→Pv i ys τ H→ok H∧ys.length≤i)
    (hs:∀ i x ys τ H,xs[i]? = some x→Pv i ys τ H→g x τ H fun τ2 H2=>te τ2 H2 (fun y H4=>Pv (i+1) (ys++[y]) τ2 H4))
    (hd:∀ ys τ H D,Pv xs.length ys τ H→H D=none→Q (.ref D) (upd H D (.lst ys))) :
    ∃ W:Nat→Nat→List V→St→Hp→Prop,(∃ m,W 0 m [] τ0 H)∧∀ i m ys τ H,W i m ys τ H →
      (J.stop i H∧∀ D,H D=none→Q (.ref D) (upd H D (.lst ys))) ∨
      (J.go i H∧ys.length < sizeLine∧∃ N:List V→St→Hp→Prop,(∀ ys' τ' H',N ys' τ' H'→∃ m',m' < m∧W (i+1) m' ys' τ' H') ∧
        ∀ x H',J.yld i H x H'→g x τ H' fun τ2 H2=>tAll τ2 H2 fun b H3=>if b=true then te τ2 H3 (fun y H4=>N (ys++[y]) τ2 H4) else N ys τ2 H3) :=
  comp_by S hz Pv h0 hl (fun i x ys τ H e p=>by
    have:=hs i x ys τ H e p
    have e2:(fun (τ2:St) (H2:Hp)=>tAll τ2 H2 fun b H3=>if b=true then te τ2 H3 (fun y H4=>Pv (i+1) (ys++[y]) τ2 H4) else Pv (i+1) ys τ2 H3)=fun τ2 H2=>te τ2 H2 (fun y H4=>Pv (i+1) (ys++[y]) τ2 H4):=by
      funext τ2 H2
      unfold tAll
      exact if_pos rfl
    rw [e2]
    exact this) hd
theorem comp_all2 {J:It} {xs:List (List V)} {ok:Hp→Prop} {g:TG} {te:TE} {Q:VK} {τ0:St} {H:Hp} (S:Sure2 J xs ok) (hz:xs.length≤10000) (Pv:Nat→List V→St→Hp→Prop) (h0:Pv 0 [] τ0 H)
    (hl:∀ i ys τ H,i≤xs.length→Pv i ys τ H→ok H∧ys.length≤i)
    (hs:∀ i zs ys τ H T,xs[i]? = some zs→Pv i ys τ H→H T=none→g (.ref T) τ (upd H T (.tup zs)) fun τ2 H2=>te τ2 H2 (fun y H4=>Pv (i+1) (ys++[y]) τ2 H4))
    (hd:∀ ys τ H D,Pv xs.length ys τ H→H D=none→Q (.ref D) (upd H D (.lst ys))) :
    ∃ W:Nat→Nat→List V→St→Hp→Prop,(∃ m,W 0 m [] τ0 H)∧∀ i m ys τ H,W i m ys τ H →
      (J.stop i H∧∀ D,H D=none→Q (.ref D) (upd H D (.lst ys))) ∨
      (J.go i H∧ys.length < sizeLine∧∃ N:List V→St→Hp→Prop,(∀ ys' τ' H',N ys' τ' H'→∃ m',m' < m∧W (i+1) m' ys' τ' H') ∧
        ∀ x H',J.yld i H x H'→g x τ H' fun τ2 H2=>tAll τ2 H2 fun b H3=>if b=true then te τ2 H3 (fun y H4=>N (ys++[y]) τ2 H4) else N ys τ2 H3) :=
  comp_by2 S hz Pv h0 hl (fun i zs ys τ H T e p hT=>by
    have:=hs i zs ys τ H T e p hT
    have e2:(fun (τ2:St) (H2:Hp)=>tAll τ2 H2 fun b H3=>if b=true then te τ2 H3 (fun y H4=>Pv (i+1) (ys++[y]) τ2 H4) else Pv (i+1) ys τ2 H3)=fun τ2 H2=>te τ2 H2 (fun y H4=>Pv (i+1) (ys++[y]) τ2 H4):=by
      funext τ2 H2
      unfold tAll
      exact if_pos rfl
    rw [e2]
    exact this) hd
end L2
namespace L2
open PySem PySem.Spec PyProof.Rows
section
variable {X:Cx}
theorem strsAre_of:∀ {ss:List Str} {us:List Value},Vals (ss.map V.str) us→StrsAre us ss
  | [],_,r=>by cases r;exact .nil
  | x :: ss,_,r=>by
    cases r with
    | cons h r =>
      obtain ⟨t,rfl⟩:=h
      exact .cons x t (strsAre_of r)
theorem vals_strs:∀ {ss:List Str} {us:List Value},StrsAre us ss→Vals (ss.map V.str) us
  | _,_,.nil=>.nil
  | _,_,.cons y t r=>.cons ⟨t,rfl⟩ (vals_strs r)
theorem vals_by:∀ {xs:List V} {us:List Value},xs.length=us.length→(∀ (i:Nat) x u,xs[i]? = some x→us[i]? = some u→RelV x u)→Vals xs us
  | [],[],_,_=>.nil
  | [],_ :: _,h,_=>by cases h
  | _ :: _,[],h,_=>by cases h
  | x :: xs,u :: us,h,k=>.cons (k 0 x u rfl rfl) (vals_by (Nat.succ.inj h) fun i y v e1 e2=>k (i+1) y v e1 e2)
theorem kv_at:∀ {kvs:List (Key × V)} {vs:List (Key × Value)} {i:Nat} {k:Key} {x:Value},KV kvs vs→vs[i]? = some (k,x)→∃ k' v',kvs[i]? = some (k',v')∧k'=k
  | [],[],i,_,_,_,e=>by cases i <;> cases e
  | p :: kvs,q :: vs,0,k,x,h,e=>by
    cases h with
    | cons h1 h2 =>
      have e':q=(k,x):=Option.some.inj e
      subst e'
      exact ⟨p.1,p.2,rfl,h1.1⟩
  | p :: kvs,q :: vs,i+1,k,x,h,e=>by
    cases h with
    | cons h1 h2=>exact kv_at (i:=i) h2 e
theorem ObjOk.there {P:Program} {w:World} {H:Hp} {h:Heap} {a:Addr} {o:HO} (x:ObjOk P w H h a o):∃ ob,h.get? a=some ob:=by
  cases o with
  | lst xs=>obtain ⟨_,_,_,_,e⟩:=x;exact ⟨_,e⟩
  | tup xs=>obtain ⟨_,_,_,⟨ob,e,_⟩,_⟩:=x;exact ⟨_,e⟩
  | dK kvs=>obtain ⟨_,_,_,_,ob,_,_,e,_⟩:=x;exact ⟨_,e⟩
  | dT kvs=>obtain ⟨_,_,_,_,ob,_,_,e,_⟩:=x;exact ⟨_,e⟩
  | set S n=>obtain ⟨ob,_,_,_,e,_⟩:=x;exact ⟨_,e⟩
  | ins C dx fs=>obtain ⟨_,_,_,e,_⟩:=x;exact ⟨_,e⟩
  | own _=>exact x
  | xd fs=>obtain ⟨mA,⟨ob,_,_,e,_⟩,_⟩:=x;exact ⟨_,e⟩
  | rng lo hi=>obtain ⟨_,_,_,e⟩:=x;exact ⟨_,e⟩
  | frz ob u=>exact ⟨_,x.1⟩
  | tbl ps=>exact ⟨_,x⟩
  | met f y=>exact ⟨_,x⟩
  | ext φ=>exact x.2.1
theorem Inv.laid2 {pins:List (Addr × Obj)} {σ:St} {H:Hp} {s:Shared} {h':Heap} {a:Addr} {o:HO} {t':Nat} (I:Inv X pins σ H s) (k:∀ b u,s.heap.get? b=some u→h'.get? b=some u∧b≠a) (hn:H a=none)
    (new:ObjOk X.prog X.w (upd H a o) h' a o):Inv X pins σ (upd H a o) { s with heap:=h',toks:=t' } :=
  I.un ⟨fun b o e _ _ _=>(k b o e).1,fun b o e _ _ _=>⟨o.slots,(k b o e).1⟩,fun b o e n _=>by rw [upd_ne (k b o e).2];exact n,fun b o e _=>⟨o,(k b o e).1⟩,fun b xs e=>by rw [upd_ne (ne_of_none e hn)];exact e,
    fun b o u e=>by rw [upd_ne (ne_of_none e hn)];exact e,fun b ps e=>⟨#[],by rw [upd_ne (ne_of_none e hn),e];simp⟩⟩ (HOk.add (I.hok.kept fun b u e=>(k b u e).1) hn new)
def rJoin (K:PySem.W.Frag):V→List V→Hp→VK→Prop:=fun x vs H Q=>∃ sep l ss,x=.str sep∧vs=[.ref l]∧SqL K H l (ss.map V.str)∧(ss.map (·.length)).sum+ss.length * sep.length≤16777216∧Q (.str (Txt.join sep ss)) H
theorem mt_join:MtR X "str.join" (rJoin X.K):=by
  intro pins s σ H x vs v us Q I rx rv h
  obtain ⟨sep,l,ss,rfl,rfl,hq,hz,q⟩:=h
  obtain ⟨t,rfl⟩:=rx
  obtain ⟨u,rfl,ru⟩:=vals1 rv
  cases ru
  obtain ⟨its,r',pl,_⟩:=I.list hq
  refine join_list pl.isList (by simpa using strsAre_of r') hz fun t' k=>⟨.str _,H,I.tok _,⟨t',rfl⟩,q⟩
def rCount:V→List V→Hp→VK→Prop:=fun x vs H Q=>∃ a b,x=.str a∧vs=[.str b]∧Q (.int (Txt.count a b)) H
theorem mt_count:MtR X "str.count" rCount:=by
  intro pins s σ H x vs v us Q I rx rv h
  obtain ⟨a,b,rfl,rfl,q⟩:=h
  obtain ⟨t,rfl⟩:=rx
  obtain ⟨u,rfl,t',rfl⟩:=vals1 rv
  exact SC.count ⟨.int _,H,I.tok _,⟨_,rfl⟩,q⟩
theorem call_list_text (hc:X.calm=true):CallR X (.type "list") (fun xs H Q=>∃ z:Str,xs=[.str z]∧z.cps.size≤10000∧∀ l,H l=none→Q (.ref l) (upd H l (.lst (z.cps.toList.map sign)))):=by
  intro pins s σ H xs us Q I r h
  obtain ⟨z,rfl,hz,q⟩:=h
  obtain ⟨u,rfl,t,rfl⟩:=vals1 r
  refine call_list_str (I.ok.hd hc) z t (fun h' tk acc' c' hk hS hacc=>?_) (Nat.le_trans hz (by decide))
  have hv:Vals (z.cps.toList.map sign) acc'.toList:=by
    have hl:acc'.toList.length=z.cps.size:=by rw [Array.length_toList];exact hacc.1
    refine vals_by (by rw [List.length_map,Array.length_toList,hl]) fun i x u e1 e2=>?_
    obtain ⟨c,t',e3,rfl⟩:=hacc.2 i u (by rw [← Array.getElem?_toList];exact e2)
    rw [List.getElem?_map,Array.getElem?_toList,e3] at e1
    cases e1
    exact ⟨t',rfl⟩
  exact ⟨.ref s.heap.objs.size,_,I.laid hk (Nat.le_refl _) (show ObjOk X.prog X.w _ h' _ (.lst _) from ⟨by rw [List.length_map,Array.length_toList];exact Nat.le_trans hz (by decide),acc'.toList,c',hv,by simpa using hS⟩),rfl,q _ (I.hok.fresh (Nat.le_refl _))⟩
theorem call_sum (hc:X.calm=true):CallR X (.builtin "sum") (fun xs H Q=>∃ (l:Addr) (ns:List Int),xs=[.ref l]∧SqL X.K H l (ns.map V.int)∧Q (.int ns.sum) H):=by
  intro pins s σ H xs us Q I r h
  obtain ⟨l,ns,rfl,hq,q⟩:=h
  obtain ⟨u,rfl,ru⟩:=vals1 r
  cases ru
  obtain ⟨its,r',pl,_⟩:=I.list hq
  obtain ⟨m,F⟩:=I.fr
  have hi:=intsAre_of r'
  obtain ⟨xs,e⟩:=hi.allInts.items
  have hl:s.heap.IsList l (intItems xs):=by rw [← e];exact pl.isList
  refine sum_intListG (I.ok.hd hc) hl fun h' tk t' hk=>?_
  have es:preSum (numAt xs) xs.size=ns.sum:=by
    have:=hi.numsOf
    rw [show its=(intItems xs).toList by rw [← e]] at this
    rw [nums_intItems] at this
    rw [preSum_eq,List.take_of_length_le (by simp),this]
  rw [es]
  exact ⟨.int _,H,I.kept hk,⟨t',rfl⟩,q⟩
theorem call_isinst:CallR X (.builtin "isinstance") (fun xs H Q=>∃ x T t b,xs=[x,.ty T]∧TyOf X.K H x t∧PySem.W.kitOne X.K t (.type T)=some b∧Q (.bl b) H):=by
  intro pins s σ H xs us Q I r h
  obtain ⟨x,T,t,b,rfl,ty,e,q⟩:=h
  obtain ⟨u,v,rfl,ru,rv⟩:=vals2 r
  cases (show v=Value.type T from rv)
  exact isinst_ok I ru ty e fun tk=>⟨.bl b,H,I.tok _,rfl,q⟩
end
end L2
namespace L2
open PySem PySem.Spec PyProof.Rows
theorem comp_core {X:Cx} {pins:List (Addr × Obj)} {s:Shared} {σ:St} {H:Hp} {Q:VK} {use:Option (Value→Sem Unit)} {Q':Value→Shared→Prop} {cpos:Pos} {tg iter elt:Expr} {ifs:List Expr} {scope:Scope} {pos:Pos} {N':List Str} {ix:List (Option Nat)} {wi:TI} {g:TG} {tc:TT} {te:TE}
    (hc:X.calm=true) (chk:compChk X scope N' ix=true) (hi:PI X tg iter wi)
    (hg:∀ cells C s₀ H₀ ex pn,PG (compCx X scope N' cells C s₀ H₀ ex pn) tg g)
    (ht:∀ cells C s₀ H₀ ex pn,PTs (compCx X scope N' cells C s₀ H₀ ex pn) ifs tc)
    (he:∀ cells C s₀ H₀ ex pn,PE (compCx X scope N' cells C s₀ H₀ ex pn) elt te)
    (hs:∀ x,foldedSetIterable iter X.env x=pure x) (I:Inv X pins σ H s) (h:tComp ix wi g tc te σ H Q)
    (hend:∀ (s2 s4:Shared) (H2 H3:Hp) (C D:Addr) (fp:List Addr) (cells:List (Str × Addr)) (τ:St) (ys:List V) (its:List Value) (k:Nat),Inv X pins σ H2 s2→(∀ b∈fp,FpOk X pins H2 b) →
      Inv (compCx X scope N' cells C s2 H2 fp []) [(D,lobj its k)] τ H3 s4→s2.heap.objs.size≤C→s2.heap.objs.size≤D→D≠C→Vals ys its→ys.length≤sizeLine→Q (.ref D) (upd H3 D (.lst ys)) →
      compPost (model X.prog X.w) X.A X.xe use Q' (.ref D) C (.ok .next) s4) :
    wpAny (model X.prog X.w) X.A (comprehension (.ListComp elt [⟨tg,iter,ifs,0⟩] scope pos) scope X.env cpos (newList []) false (eval iter X.env) use) Q' X.xe s:=by
  unfold compChk at chk
  obtain ⟨chk,k5⟩:=Bool.and_eq_true_iff.mp chk
  obtain ⟨chk,k4⟩:=Bool.and_eq_true_iff.mp chk
  obtain ⟨chk,k3⟩:=Bool.and_eq_true_iff.mp chk
  obtain ⟨k1,k2⟩:=Bool.and_eq_true_iff.mp chk
  have c1:∀ p∈scope.names,scope.names.lookup p.1=some p.2:=fun p hp=>by simpa using List.all_eq_true.mp k1 p hp
  have c2:∀ p∈scope.names,p.2=.free→X.env.scope.names.lookup p.1=some .cell∨X.env.scope.names.lookup p.1=some .free:=fun p hp hf=>by
    have:=List.all_eq_true.mp k2 p hp
    rw [hf] at this
    simpa using this
  have c3:ix.length=N'.length:=by simpa using k3
  have ck:scope.kind=.function:=by simpa using k5
  have c4:∀ (i:Nat) (x:Str) (j:Nat),N'[i]? = some x→ix[i]? = some (some j)→X.N[j]? = some x∧scope.names.lookup x=some .free:=fun i x j e1 e2=>by
    have m:(x,some j)∈N'.zip ix:=by
      refine List.mem_of_getElem? (i:=i) ?_
      rw [List.getElem?_zip_eq_some]
      exact ⟨e1,e2⟩
    have:=List.all_eq_true.mp k4 _ m
    have:=Bool.and_eq_true_iff.mp this
    exact ⟨by simpa using this.1,by simpa using this.2⟩
  obtain ⟨cl,ecl,cl1,cl2⟩:=closure_ok (env:=X.env) (scope:=scope) (fun p hp hf=>I.ok.has p.1 (c2 p hp hf))
  refine wpAny_comprehension_free (use:=use) rfl hs ecl ck (fun y hy hl=>by rw [c1 y hy,hl]) (thn (hi pins s σ H _ I h) fun v s1 h1=>thn h1 fun itv s2 h2=>?_)
  obtain ⟨it,fp,tn,J,H2,e,I2,T,st2,f2,W,⟨m0,w0⟩,turn⟩:=h2
  subst e
  have I5:=comp_inv (N':=N') (ix:=ix) (fp:=fp) c1 c3 c2 c4 ck cl1 cl2 I2 f2 (T.obj _ _ st2)
  refine wpAny_newObj_type ?_
  unfold newFunctionEnv
  refine wpAny_bind (wpAny_alloc ?_)
  refine wpAny_bind (wpAny_layCells _ (fun name kind cells=>by cases hkc:kind == NameKind.cell <;> simp [hkc]) _ _ _ _ ?_)
  refine wpAny_bind ?_
  rw [List.forIn_nil]
  refine wpAny_pure (wpAny_pure ?_)
  have sz3:(s2.heap.push (lobj [] 0)).objs.size=s2.heap.objs.size+1:=Heap.size_push ..
  have sz4:((s2.heap.push (lobj [] 0)).push { cls:=.type "dict",data:=.dict #[] }).objs.size=s2.heap.objs.size+2:=by rw [Heap.size_push,sz3]
  show codeAny (model X.prog X.w) X.A (.compStart (.ListComp elt [⟨tg,iter,ifs,0⟩] scope pos) 0 (.ref it) (.ref s2.heap.objs.size)
    (compCx X scope N' (cellsFrom ((s2.heap.push (lobj [] 0)).push { cls:=.type "dict",data:=.dict #[] }).objs.size scope.names cl) (s2.heap.push (lobj [] 0)).objs.size s2 H2 fp []).env)
    (compPost (model X.prog X.w) X.A X.xe use Q' (.ref s2.heap.objs.size) (s2.heap.push (lobj [] 0)).objs.size)
    { s2 with heap:=pushCells ((s2.heap.push (lobj [] 0)).push { cls:=.type "dict",data:=.dict #[] }) scope.names }
  rw [sz4,sz3]
  generalize hcells:cellsFrom (s2.heap.objs.size+2) scope.names cl=cells at I5 ⊢
  have keep5:∀ b o,s2.heap.get? b=some o→(pushCells ((s2.heap.push (lobj [] 0)).push { cls:=.type "dict",data:=.dict #[] }) scope.names).get? b=some o:=fun b o e =>
    pushCells_keeps _ _ b o (Heap.get?_push_of_some _ (Heap.get?_push_of_some _ e))
  generalize hh5:({ s2 with heap:=pushCells ((s2.heap.push (lobj [] 0)).push { cls:=.type "dict",data:=.dict #[] }) scope.names }:Shared)=s5 at I5 ⊢
  have keep5:∀ b o,s2.heap.get? b=some o→s5.heap.get? b=some o:=by rw [← hh5];exact keep5
  have st5:tn 0 s5.heap:=T.keep _ _ _ st2 fun b hb o e=>keep5 b o e
  have lt2:∀ (b:Nat),b∈fp→b < s2.heap.objs.size:=fun b hb=>by
    obtain ⟨o,e,_⟩:=T.obj _ _ st2 b hb
    exact Heap.lt_size e
  -- the iterator within the block
  have stat:∀ {H':Hp} {o:Obj},(∀ b∈fp,H' b=none)→∀ b∈fp,FpOk (compCx X scope N' cells (s2.heap.objs.size+1) s2 H2 fp []) [(s2.heap.objs.size,o)] H' b:=fun {H' o} hn b hb =>
    ⟨hn b hb,(I5.ok.exf b hb).1,I5.ok.exfs b hb,.inl hb,(I5.ok.exf b hb).2,fun p hp=>by
      have e:p=(s2.heap.objs.size,o):=by simpa using hp
      subst e
      exact Nat.ne_of_gt (lt2 b hb)⟩
  have loop:codeAny (model X.prog X.w) X.A (.compLoop (.ListComp elt [⟨tg,iter,ifs,0⟩] scope pos) 0 (.ref it) (.ref s2.heap.objs.size)
      (compCx X scope N' cells (s2.heap.objs.size+1) s2 H2 fp []).env) (compPost (model X.prog X.w) X.A X.xe use Q' (.ref s2.heap.objs.size) (s2.heap.objs.size+1)) s5:=by
    refine compLoop_go (fun n s'=>∃ i ys τ H' its k,Inv (compCx X scope N' cells (s2.heap.objs.size+1) s2 H2 fp []) [(s2.heap.objs.size,lobj its k)] τ H' s'∧tn i s'.heap∧(∀ b∈fp,H' b=none)∧Vals ys its∧ys.length≤sizeLine∧W i n ys τ H') ?_ m0
      ⟨0,[],_,H2,[],0,I5,st5,fun b hb=>(f2 b hb).1,.nil,Nat.zero_le _,w0⟩
    rintro n s3 ⟨i,ys,τ,H3,its,k,I3,st3,fr3,hv3,hz3,w3⟩
    rcases turn i n ys τ H3 w3 with ⟨stop,qn⟩ | ⟨go,hlen,N,hN,step⟩
    · refine thn (T.done (compCx X scope N' cells (s2.heap.objs.size+1) s2 H2 fp []) rfl rfl rfl hc i _ s3 τ H3 (fun _ _=>False) I3 (stat fr3) st3 stop) fun r s4 ⟨hr,I4⟩=>?_
      subst hr
      obtain ⟨eD,nD,_,_,_⟩:=I4.pin (s2.heap.objs.size,lobj its k) (by simp)
      exact hend s2 s4 H2 H3 _ _ fp cells τ ys its k I2 f2 I4 (Nat.le_succ _) (Nat.le_refl _) (Nat.ne_of_lt (Nat.lt_succ_self _)) hv3 hz3 (qn _ nD)
    · refine thn (T.item (compCx X scope N' cells (s2.heap.objs.size+1) s2 H2 fp []) rfl rfl rfl hc i _ s3 τ H3 (fun _ _=>False) I3 (stat fr3) st3 go) fun r s4 ⟨u,hr,h4⟩=>?_
      subst hr
      refine thn h4 fun _ s5' ⟨x,H5,I5',r5,y5,st5',fr5⟩=>?_
      have I6:=I5'.pinned (stat fr5) (T.obj _ _ st5')
      refine thn (hg cells _ s2 H2 fp [] _ s5' τ H5 x u _ I6 r5 (step x H5 y5)) fun _ s6 ⟨τ6,H6,I7,q6⟩=>?_
      refine thn (ht cells _ s2 H2 fp [] _ s6 τ6 H6 _ I7 q6) fun ok s7 ⟨H7,I8,q7⟩=>?_
      have fin:∀ {s8:Shared} {H8:Hp} {its':List Value} {k':Nat} {ys':List V},Inv (compCx X scope N' cells (s2.heap.objs.size+1) s2 H2 fp []) ([(s2.heap.objs.size,lobj its' k')]++pinsAt fp s5'.heap) τ6 H8 s8→Vals ys' its'→ys'.length≤sizeLine→N ys' τ6 H8 →
          ∃ m,m < n∧∃ i ys τ H' its k,Inv (compCx X scope N' cells (s2.heap.objs.size+1) s2 H2 fp []) [(s2.heap.objs.size,lobj its k)] τ H' s8∧tn i s8.heap∧(∀ b∈fp,H' b=none)∧Vals ys its∧ys.length≤sizeLine∧W i m ys τ H':=fun {s8 H8 its' k' ys'} I9 hv hz n9=>by
        obtain ⟨m',hm,w9⟩:=hN ys' τ6 H8 n9
        refine ⟨m',hm,i+1,ys',τ6,H8,its',k',I9.unpinned,T.keep _ _ _ st5' fun b hb o e=>(I9.pin (b,o) (List.mem_append_right _ (List.mem_append_right _ (mem_pinsAt hb e)))).1,fun b hb=>?_,hv,hz,w9⟩
        obtain ⟨o,e,d⟩:=T.obj _ _ st5' b hb
        exact (I9.pin (b,o) (List.mem_append_right _ (List.mem_append_right _ (mem_pinsAt hb e)))).2.1
      cases ok with
      | false=>exact fin I8 hv3 hz3 q7
      | true =>
        refine thn (he cells _ s2 H2 fp [] _ s7 τ6 H7 _ I8 q7) fun y s8 ⟨v8,H8,I9,r8,q8⟩=>?_
        obtain ⟨eD,nD,dL,dF,_⟩:=I9.pin (s2.heap.objs.size,lobj its k) (by simp)
        have hl:=hv3.length
        refine append_un (X:=X) (τ:=τ) (H':=H8) (by omega) eD fun h' k' eD' kp=>?_
        -- the pin on the list is let go,the list turns,and is pinned anew
        have hx:∀ p∈pinsAt fp s5'.heap,p.1≠s2.heap.objs.size:=fun p hp=>by
          have:=lt2 p.1 (of_pinsAt hp).1
          exact Nat.ne_of_lt this
        have J1:Inv (compCx X scope N' cells (s2.heap.objs.size+1) s2 H2 fp []) (pinsAt fp s5'.heap) τ6 H8 s8:=I9.pins_of fun p hp=>I9.pin p (List.mem_append_right _ (List.mem_append_right _ hp))
        have J2:Inv (compCx X scope N' cells (s2.heap.objs.size+1) s2 H2 fp []) (pinsAt fp s5'.heap) τ6 H8 { s8 with heap:=h' }:=J1.turned (t':=s8.toks) (it:=s2.heap.objs.size) kp nD dL (.inr (Nat.le_refl _)) (fun x c e z=>by
          obtain ⟨v,o,ho,hd⟩:=J1.cell x c e
          rw [z,eD] at ho
          cases ho
          cases hd) fun p hp=>hx p (by simpa using hp)
        have J3:Inv (compCx X scope N' cells (s2.heap.objs.size+1) s2 H2 fp []) ([(s2.heap.objs.size,lobj (its++[y]) k')]++pinsAt fp s5'.heap) τ6 H8 { s8 with heap:=h' }:=J2.pins_of fun p hp=>by
          rcases List.mem_append.mp hp with z | z
          · have e:p=(s2.heap.objs.size,lobj (its++[y]) k'):=by simpa using z
            subst e
            exact ⟨eD',nD,dL,dF,fun v z=>by cases z⟩
          · exact J2.pin p (List.mem_append_right _ z)
        exact fin J3 (hv3.append (.cons r8 .nil)) (by rw [List.length_append,List.length_singleton];omega) q8
  exact codeAny_compStart_list loop (T.self X.A 0 s5 _ _ st5 loop)
theorem ps_setC {X:Cx} {tg iter elt:Expr} {ifs:List Expr} {scope:Scope} {pos px spos:Pos} {N':List Str} {ix:List (Option Nat)} {wi:TI} {g:TG} {tc:TT} {te:TE} {i:Nat} {x:Str}
    (hN:X.N.Nodup) (hi0:X.N[i]? = some x) (hx:X.env.scope.names.lookup x=some .local)
    (hc:X.calm=true) (chk:compChk X scope N' ix=true) (hi:PI X tg iter wi)
    (hg:∀ cells C s₀ H₀ ex pn,PG (compCx X scope N' cells C s₀ H₀ ex pn) tg g)
    (ht:∀ cells C s₀ H₀ ex pn,PTs (compCx X scope N' cells C s₀ H₀ ex pn) ifs tc)
    (he:∀ cells C s₀ H₀ ex pn,PE (compCx X scope N' cells C s₀ H₀ ex pn) elt te)
    (hs:∀ x,foldedSetIterable iter X.env x=pure x:=by intro _;rfl)
    (hsw:swapsWith (.ListComp elt [⟨tg,iter,ifs,0⟩] scope pos) (some (.Name x px)) spos.line X.env=pure true:=by rfl) :
    PS X (.Assign [.Name x px] (.ListComp elt [⟨tg,iter,ifs,0⟩] scope pos) spos) (fun D σ H=>tComp ix wi g tc te σ H fun v H1=>D.nx (σ.set i (some v)) H1):=by
  intro pins s σ H D I h
  rw [exec_Assign_Name_used _ _ _ _ hsw]
  refine wpAny_bind (wpAny_standAt (wpAny_bind ?_))
  show wpAny _ X.A (comprehension (.ListComp elt [⟨tg,iter,ifs,0⟩] scope pos) scope X.env _ (newList []) false (eval iter X.env) (some (assign (.Name x px) X.env)) >>= fun _=>pure ()) _ _ s
  refine wpAny_bind (wpAny_mono (comp_core (use:=some (assign (.Name x px) X.env)) (Q':=fun _ s'=>SP X pins D .next s') hc chk hi hg ht he hs I h ?_) (fun _ s' hq=>wpAny_pure (wpAny_pure hq)) fun _ _ e=>e)
  intro s2 s4 H2 H3 C Da fp cells τ ys its k I2 f2 I4 hC hD hDC hv hz q
  obtain ⟨eD,nD,_,_,_⟩:=I4.pin (Da,lobj its k) (by simp)
  have I5:Inv X pins σ (upd H3 Da (.lst ys)) s4:=comp_end I2 f2 I4 hC hD hDC nD eD hv hz (Heap.SameBut.refl _ _)
  show wpAny _ X.A (assign (.Name x px) X.env (.ref Da)) _ _ s4
  refine wpAny_assign_Name (store_ok2 I5 hN hi0 (.inl hx) (show RelV (.ref Da) (.ref Da) from rfl) (fun s6 I6 ⟨a,sb,ha⟩=>?_) (.inr hx))
  obtain ⟨m,hn,_⟩:=I4.loc
  have neL:C≠X.env.locals:=Nat.ne_of_gt (Nat.lt_of_lt_of_le I2.lt hC)
  have cne:∀ y c,X.env.cells.lookup y=some c→c≠C:=fun y c e=>by
    obtain ⟨v,z⟩:=I2.cell y c e
    exact Nat.ne_of_lt (Nat.lt_of_lt_of_le z.lt hC)
  have nea:C≠a:=by
    rcases ha with e | e
    · rw [e];exact neL
    · exact (cne x a e).symm
  refine ⟨m,hn.sameBut sb nea,fun h' sb'=>⟨σ.set i (some (.ref Da)),upd H3 Da (.lst ys),?_,q⟩⟩
  have nC:upd H3 Da (.lst ys) C=none:=by rw [upd_ne hDC.symm];exact I4.free
  refine I6.turned (t':=s6.toks) (it:=C) (fun b o hb e=>(sb'.2 b hb).trans e) nC neL (.inr (Nat.le_trans I2.sz hC)) cne fun p hp z=>?_
  have:=Heap.lt_size (I2.pin p hp).1
  rw [z] at this
  exact absurd (Nat.lt_of_lt_of_le this hC) (Nat.lt_irrefl _)
end L2
namespace L2
open PySem PySem.Spec PyProof.Rows
theorem op_mulB {X:Cx}:OpR X (binaryOp .Mult) (rI (fun i j=>Builtin.Int.intBits i≤2 ^ 20∧Builtin.Int.intBits j≤2 ^ 20) fun i j=>.int (i * j)):=opI fun _ _ _ _ _ _ _ hc q=>mul_int q (IntMulOk.of_bits hc.1 hc.2)
end L2
namespace L2
open PySem PySem.Spec PyProof.Rows
theorem comp_allR {J:It} {xs:List V} {ok:Hp→Prop} {g:TG} {te:TE} {R:Addr→List V→Hp→Prop} {τ0:St} {H:Hp} (S:Sure J xs ok) (hz:xs.length≤10000) (Pv:Nat→List V→St→Hp→Prop) (h0:Pv 0 [] τ0 H)
    (hl:∀ i ys τ H,i≤xs.length→Pv i ys τ H→ok H∧ys.length≤i)
    (hs:∀ i x ys τ H,xs[i]? = some x→Pv i ys τ H→g x τ H fun τ2 H2=>te τ2 H2 (fun y H4=>Pv (i+1) (ys++[y]) τ2 H4))
    (hd:∀ ys τ H D,Pv xs.length ys τ H→H D=none→R D ys H) :
    ∃ W:Nat→Nat→List V→St→Hp→Prop,(∃ m,W 0 m [] τ0 H)∧∀ i m ys τ H,W i m ys τ H →
      (J.stop i H∧∀ D,H D=none→R D ys H) ∨
      (J.go i H∧ys.length < sizeLine∧∃ N:List V→St→Hp→Prop,(∀ ys' τ' H',N ys' τ' H'→∃ m',m' < m∧W (i+1) m' ys' τ' H') ∧
        ∀ x H',J.yld i H x H'→g x τ H' fun τ2 H2=>tAll τ2 H2 fun b H3=>if b=true then te τ2 H3 (fun y H4=>N (ys++[y]) τ2 H4) else N ys τ2 H3):=by
  refine ⟨fun i m ys τ H=>m=xs.length - i∧i≤xs.length∧Pv i ys τ H,⟨xs.length,by simp,Nat.zero_le _,h0⟩,?_⟩
  rintro i m ys τ H ⟨rfl,hi,p⟩
  obtain ⟨q,hy⟩:=hl i ys τ H hi p
  by_cases hlt:i < xs.length
  · refine .inr ⟨S.go i H hlt q,Nat.lt_of_lt_of_le (show ys.length < 10000 by omega) (by decide),Pv (i+1),fun ys' τ' H' p'=>⟨xs.length - (i+1),by omega,rfl,hlt,p'⟩,fun x H' y=>?_⟩
    obtain ⟨e,y'⟩:=S.yld i H x H' hlt q y
    subst e
    have e2:(fun (τ2:St) (H2:Hp)=>tAll τ2 H2 fun b H3=>if b=true then te τ2 H3 (fun y H4=>Pv (i+1) (ys++[y]) τ2 H4) else Pv (i+1) ys τ2 H3)=fun τ2 H2=>te τ2 H2 (fun y H4=>Pv (i+1) (ys++[y]) τ2 H4):=by
      funext τ2 H2
      unfold tAll
      exact if_pos rfl
    rw [e2]
    exact hs i x ys τ _ y' p
  · have e:i=xs.length:=by omega
    subst e
    exact .inl ⟨S.stop H q,fun D hD=>hd ys τ H D p hD⟩
end L2
namespace L2
open PySem PySem.Spec PyProof.Rows
section
variable {X:Cx} (K:PySem.W.Frag)
theorem pi_listK {tg l:Expr} {tl:TE} (hl:PE X l tl) (hK:X.K=K:=by rfl):PI X tg l (iList K tl):=by subst hK;exact pi_list hl
theorem ix_listK (hK:X.K=K:=by rfl):IxR X (rIxL K):=by subst hK;exact ix_list
theorem ix_tupK (hK:X.K=K:=by rfl):IxR X (rIxT K):=by subst hK;exact ix_tup
theorem sl_listK (hK:X.K=K:=by rfl):SlR X (rSlL K):=by subst hK;exact sl_list
theorem op_in_seqK (hK:X.K=K:=by rfl):OpR X (compareOp .In) (rIn K false):=by subst hK;exact op_in_seq
def rLen (K:PySem.W.Frag):List V→Hp→VK→Prop:=fun xs H Q=>∃ p ys,xs=[.ref p]∧(SqL K H p ys∨SqT K H p ys)∧Q (.int ys.length) H
theorem call_lenK (hK:X.K=K:=by rfl):CallR X (.builtin "len") (rLen K):=by subst hK;exact call_len_seq
def rSum (K:PySem.W.Frag):List V→Hp→VK→Prop:=fun xs H Q=>∃ (l:Addr) (ns:List Int),xs=[.ref l]∧SqL K H l (ns.map V.int)∧Q (.int ns.sum) H
theorem call_sumK2 (hc:X.calm=true) (hK:X.K=K:=by rfl):CallR X (.builtin "sum") (rSum K):=by subst hK;exact call_sum hc
def rIsi (K:PySem.W.Frag):List V→Hp→VK→Prop:=fun xs H Q=>∃ x T t b,xs=[x,.ty T]∧TyOf K H x t∧PySem.W.kitOne K t (.type T)=some b∧Q (.bl b) H
theorem call_isinstK (hK:X.K=K:=by rfl):CallR X (.builtin "isinstance") (rIsi K):=by subst hK;exact call_isinst
def rTupOf (K:PySem.W.Frag):List V→Hp→VK→Prop:=fun xs H Q=>∃ p ys,xs=[.ref p]∧((SqL K H p ys∧∀ l,H l=none→Q (.ref l) (upd H l (.tup ys)))∨(SqT K H p ys∧Q (.ref p) H))
theorem call_tuple_ofK (hK:X.K=K:=by rfl):CallR X (.type "tuple") (rTupOf K):=by subst hK;exact call_tuple_of
theorem mt_joinK (hK:X.K=K:=by rfl):MtR X "str.join" (rJoin K):=by subst hK;exact mt_join
def tTru (K:PySem.W.Frag) (ta:TE):TT:=fun σ H Q=>ta σ H fun x H'=>∃ k,TruV K x H' k∧Q k H'
theorem pt_truthK {a:Expr} {ta:TE} (ha:PE X a ta) (he:∀ whole,isTrue a X.env whole=(do let v ← whole;standAt a.pos;holding [v] (truthy v))) (hK:X.K=K:=by rfl):PT X a (tTru K ta):=by subst hK;exact pt_truth ha he
theorem pg_tupK {es:List Expr} {k:Nat} {t:TGs} {n:Nat} {pos:Pos} (hc:X.calm=true) (h:PGs X es t) (hn:(assignEach es X.env).length=n:=by rfl) (hst:(assignEach es X.env).findIdx? (·.1)=none:=by rfl) (hK:X.K=K:=by rfl):PG X (.Tuple es k pos) (gTup K n t):=by
  subst hK;exact pg_tup hc h hn hst
theorem pi_zipK {l l':Expr} {ta:TA} {elts:List Expr} {k:Nat} {tp p pos:Pos} (hg:Gl X "zip") (hm:X.mg "zip" = none) (hl:PA X [l,l'] ta) (hs:starEach [l,l'] X.env=[(false,eval l X.env),(false,eval l' X.env)]:=by rfl) (hs2:starEach [l'] X.env=[(false,eval l' X.env)]:=by rfl) (hK:X.K=K:=by rfl) :
    PI X (.Tuple elts k tp) (.Call (.Name "zip" p) [l,l'] [] pos) (iZip K ta):=by
  subst hK;exact pi_zip hg hm hl hs hs2
theorem pe_bmK {o e:Expr} {es:List Expr} {to:TE} {t:TA} {name:Str} {apos cpos:Pos} {T id:String} {r:V→List V→Hp→VK→Prop} (pa:PlainAttrs T) (slot:Slot T name id) (hty:typeOf (.builtin id)=pure (.type "method_descriptor")) (hm:MtR X id r) (ho:PE X o to) (ha:PA X (e :: es) t)
    (hbase:attributeBase o name X.env (eval o X.env)=eval o X.env:=by rfl)
    (hfew:((backTo cpos (starEach (e :: es) X.env)).all (fun x=>!x.1) && (backToKw cpos (keywordEach [] X.env)).all (fun x=>x.1.isSome) && decide ((e :: es).length+([]:List Keyword).length+(if ([]:List Keyword).isEmpty then 0 else 1) < 30))=true:=by rfl)
    (hline:(apos.endLine == cpos.line)=true:=by rfl) (hs:starEach (e :: es) X.env=(false,eval e X.env) :: starEach es X.env:=by rfl) (hplain:(backTo cpos (starEach es X.env)).any (·.1)=false:=by rfl) (hK:X.K=K:=by rfl) :
    PE X (.Call (.Attribute o name apos) (e :: es) [] cpos) (tBM K T r to t):=by
  subst hK;exact pe_bm pa slot hty hm ho ha hbase hfew hline hs hplain
end
def CDivB (i j:Int):Prop:=0 < j∧j≤100000000000000000000000000000000000000000000000000000000000000000000000000000000
theorem op_fdivB {X:Cx}:OpR X (binaryOp .FloorDiv) (rI CDivB fun i j=>.int (i / j)):=opI fun i j _ _ _ _ _ hc q=>by
  rw [← Int.fdiv_eq_ediv_of_nonneg i (Int.le_of_lt hc.1)] at q
  refine floordiv_int (by have:=hc.1;omega) q (.inl (PyProof.noPylong_of_log2 ?_))
  obtain ⟨h1,h2⟩:=hc
  have h0:j.natAbs≠0:=by omega
  have h3:j.natAbs < 2 ^ 300:=Nat.lt_of_le_of_lt (show j.natAbs≤100000000000000000000000000000000000000000000000000000000000000000000000000000000 by omega) (by decide +kernel)
  exact Nat.lt_trans ((Nat.log2_lt h0).mpr h3) (by decide)
end L2
namespace L2
open PySem PySem.Spec PyProof.Rows
theorem noKeys_list:typeLookup (.type "list") "keys" = pure none:=by rw [typeLookup_type,builtinLookup_eq_fast];kernel_rfl
theorem keys_of_list {P:Program} {w:World} {A:Around} {E:Value→Shared→Prop} {s:Shared} {a:Addr} {o:Obj} {xs:Array Value} {k:Nat} {Q:Option Value→Shared→Prop}
    (ho:s.heap.get? a=some o) (hc:o.cls=.type "list") (hs:o.data=.seq xs k) (hd:o.dict=none) (hA:A.handled=none)
    (q:∀ h' tk,(∀ b u,s.heap.get? b=some u→h'.get? b=some u)→Q none { s with heap:=h',toks:=tk }):wpAny (model P w) A (getAttr? (.ref a) "keys") Q E s:=by
  obtain ⟨c,dct,dat,sl⟩:=o
  simp only at hc hs hd
  subst hc hs hd
  obtain ⟨hp,g,d,tk,os⟩:=s
  have ty:∀ tk',(⟨hp,g,d,tk',os⟩:Shared).TypeIs (.ref a) "list":=fun _=>⟨_,ho,rfl⟩
  have z1:=sub_AttributeError
  have z3:=F.slot_list_getattribute.lookup
  have z4:=F.slot_list_getattribute.bind (.ref a)
  have z5:=am_list_getattr_none
  unfold getAttr? getAttrBy? getAttrBy
  repeat (any_goals (first | assumption | exact ty _ | ((with_reducible show wpAny _ _ (call (Value.builtin "list.__getattribute__") _ _) _ _ _);refine call_meets F.slot_list_getattribute (ty _) am_entry_list_getattribute (F.args_list_getattribute_2 _ _) (meets_getattribute_miss_list a xs k sl "keys" _ noKeys_list (by decide +kernel) (by decide +kernel)) ⟨ho,hA,fun h' tk' e hx'=>?_⟩) | wp_step))
  obtain ⟨t',u',he⟩:=hx'.there
  have tE:(⟨h',g,d,tk',os⟩:Shared).TypeIs (.ref e) "AttributeError":=⟨_,he,rfl⟩
  show wpAny _ _ (getattributeRaised _ _ _ _ _ _ _) _ _ _
  unfold getattributeRaised
  repeat (any_goals (first | assumption | wp_step))
  exact q h' tk' hx'.keeps
theorem dictOf_keep {P:Program} {w:World} {κ:Type} [DecidableEq κ] {knd:KeyKind P w κ} {d:Addr} {kvs:List (κ × Value)} {h h':Heap} (m:h.DictOf knd d kvs) (e:∀ o,h.get? d=some o→h'.get? d=some o):h'.DictOf knd d kvs:=by
  obtain ⟨o,es,ep,ho,r⟩:=m
  exact ⟨o,es,ep,e o ho,r⟩
theorem entry_upd_loop:entryFor table "dict.update.loop" = some Builtin.«dict.update.loop»:=entryFor_of_tree (by kernel_rfl)
theorem plain_upd_loop:plainId "dict.update.loop" = true:=by decide +kernel
theorem upd_loop {P:Program} {w:World} {A:Around} {κ:Type} [DecidableEq κ] {knd:KeyKind P w κ} {it d:Addr} {fp wr:List Addr} {n:Nat} {Pv:Nat→Value→Prop} {St:Nat→Heap→Prop} {R:Result→Shared→Prop}
    (W:Walks P w A.in1 it fp wr n Pv St) (hd:d ∉ fp) (kvs:List (κ × Value)) (hn:kvs.length=n) (nd:(kvs.map (·.1)).Nodup) (ads:Nat→Addr) (hP:∀ i v,i < n→Pv i v→v=.ref (ads i)) (hw:∀ i,i < n→ads i ∉ wr∧ads i≠d) (hz:n≤sizeLine) :
    ∀ (m i:Nat) (s:Shared),i+m=n→St i s.heap→s.heap.DictOf knd d (kvs.take i)→(∀ j p,kvs[j]? = some p→∃ key,knd.is p.1 key=true∧IsTup s.heap (ads j) #[key,p.2]) →
      (∀ h' tk,h'.DictOf knd d kvs→(∀ b o,b ∉ wr→b≠d→s.heap.get? b=some o→h'.get? b=some o)→R (.ok (.ret .none)) { s with heap:=h',toks:=tk }) →
      codeAny (model P w) A (.builtin "dict.update.loop" ⟨[.ref d,.ref it,.int i 0,.none],[]⟩) R s
  | 0,i,s,hi,st,hD,hT,q=>by
    refine codeAny_builtin entry_upd_loop ?_
    rw [Around.under_plainId plain_upd_loop]
    have e:i=n:=by omega
    subst e
    unfold Builtin.«dict.update.loop»
    show wpAny _ _ (pyNext (.ref it) >>= _) _ _ _
    refine wpAny_bind (W.done s _ _ st fun h' tk kk=>?_)
    show wpAny _ _ (Builtin.Dict.addKeywords d [] >>= _) _ _ _
    refine wpAny_bind (wpAny_pure (wpAny_pure ?_))
    have hdw:d ∉ wr:=fun z=>hd (W.sub d z)
    refine q h' tk ?_ fun b o hb _ e=>kk b o hb e
    have hD':=dictOf_keep (h':=h') hD fun o e=>kk d o hdw e
    rw [← hn,List.take_length] at hD'
    exact hD'
  | m+1,i,s,hi,st,hD,hT,q=>by
    refine codeAny_builtin entry_upd_loop ?_
    rw [Around.under_plainId plain_upd_loop]
    unfold Builtin.«dict.update.loop»
    show wpAny _ _ (pyNext (.ref it) >>= _) _ _ _
    refine wpAny_bind (W.item i s _ _ (by omega) st fun v h' tk hv st' kk=>?_)
    have ev:=hP i v (by omega) hv
    subst ev
    have hil:i < kvs.length:=by omega
    obtain ⟨key,hk,ht⟩:=hT i kvs[i] (List.getElem?_eq_getElem hil)
    have ht':IsTup h' (ads i) #[key,kvs[i].2]:=by
      obtain ⟨o,ho,r⟩:=ht
      exact ⟨o,kk _ o (hw i (by omega)).1 ho,r⟩
    obtain ⟨o,ho,hoc,no,hod⟩:=id ht'
    have tT:({ s with heap:=h',toks:=tk }:Shared).TypeIs (.ref (ads i)) "tuple":=⟨o,ho,hoc⟩
    refine wpAny_bind (wpAny_holding ?_)
    refine wpAny_bind (wpAny_tryCatch ?_)
    unfold Builtin.Dict.pairItems
    refine wpAny_bind (wpAny_typeOf tT ?_)
    rw [if_pos (by decide)]
    refine wpAny_bind (wpAny_seqItems ho hod (wpAny_pure ?_))
    show wpAny _ _ (holding [key,kvs[i].2] (dictSet d key kvs[i].2)) _ _ _
    have hdw:d ∉ wr:=fun z=>hd (W.sub d z)
    have hD':=dictOf_keep (h':=h') hD fun o e=>kk d o hdw e
    refine wpAny_holding (wpAny_dictSet_pairs (s:={ s with heap:=h',toks:=tk }) hk hD' (fun h2 hD2 hs2=>?_) (by rw [List.length_take];omega))
    have en:stored (kvs.take i) kvs[i].1 kvs[i].2=kvs.take (i+1):=by
      unfold stored
      rw [if_neg,List.take_add_one,List.getElem?_eq_getElem hil]
      · rfl
      · intro z
        obtain ⟨p,hp,hpe⟩:=List.any_eq_true.mp z
        have hpe':p.1=kvs[i].1:=of_decide_eq_true hpe
        have:=nd
        rw [← List.take_append_drop i kvs,List.map_append] at this
        obtain ⟨_,_,dis⟩:=List.nodup_append.mp this
        refine dis p.1 (List.mem_map_of_mem hp) kvs[i].1 ?_ hpe'
        rw [List.drop_eq_getElem_cons hil]
        exact List.mem_map_of_mem List.mem_cons_self
    rw [en] at hD2
    refine wpAny_pure ⟨plainId_quiet plain_upd_loop _,?_⟩
    have st2:St (i+1) h2:=W.frame (i+1) h' h2 st' fun b hb o e=>hs2.extBut _ _ (fun z=>hd (by rw [← z];exact hb)) e
    have ei:rawInt ((i:Int)+1)=.int ((i+1:Nat):Int) 0:=by unfold rawInt;push_cast;rfl
    rw [ei]
    refine upd_loop W hd kvs hn nd ads hP hw hz m (i+1) { s with heap:=h2,toks:=tk+1 } (by omega) st2 hD2 (fun j p hj=>?_) fun h3 tk3 hD3 k3=>q h3 tk3 hD3 fun b o hb hbd e=>k3 b o hb hbd (hs2.extBut _ _ hbd (kk b o hb e))
    obtain ⟨key',hk',o',ho',r'⟩:=hT j p hj
    have hj':j < n:=by rw [← hn];exact (List.getElem?_eq_some_iff.mp hj).1
    exact ⟨key',hk',o',hs2.extBut _ _ (hw j hj').2 (kk _ _ (hw j hj').1 ho'),r'⟩
inductive PairsAt (H:Hp):List Addr→List (Key × V)→Prop where
  | nil:PairsAt H [] []
  | cons {p:Addr} {ps:List Addr} {k:Key} {v:V} {kvs:List (Key × V)}:H p=some (.tup [kV k,v])→PairsAt H ps kvs→PairsAt H (p :: ps) ((k,v) :: kvs)
theorem PairsAt.len {H:Hp}:∀ {ps:List Addr} {kvs:List (Key × V)},PairsAt H ps kvs→ps.length=kvs.length
  | _,_,.nil=>rfl
  | _,_,.cons _ r=>congrArg (· + 1) r.len
theorem PairsAt.mem {H:Hp}:∀ {ps:List Addr} {kvs:List (Key × V)},PairsAt H ps kvs→∀ p∈ps,∃ o,H p=some o
  | _,_,.nil,p,h=>by simp at h
  | _,_,.cons e r,p,h=>by
    rcases List.mem_cons.mp h with z | z
    · rw [z];exact ⟨_,e⟩
    · exact r.mem p z
theorem PairsAt.real {X:Cx} {pins:List (Addr × Obj)} {σ:St} {H:Hp} {s:Shared} (I:Inv X pins σ H s):∀ {ps:List Addr} {kvs:List (Key × V)},PairsAt H ps kvs →
    ∃ vs:List (Key × Value),KV kvs vs∧∀ (j:Nat) p,vs[j]? = some p→∃ key,(mixKind X.prog X.w).is p.1 key=true∧IsTup s.heap (ps.getD j 0) #[key,p.2]
  | _,_,.nil=>⟨[],.nil,fun j p e=>by simp at e⟩
  | _,_,.cons (p:=a) (k:=k) (v:=v) e r=>by
    obtain ⟨vs,hv,h⟩:=r.real I
    obtain ⟨its,rv,ht,_⟩:=I.tuple (SqT.of e)
    cases rv with
    | cons r1 rr =>
      rename_i key its1
      cases rr with
      | cons r2 rr2 =>
        rename_i val its2
        cases rr2
        refine ⟨(k,val) :: vs,.cons ⟨rfl,r2⟩ hv,fun j p ep=>?_⟩
        cases j with
        | zero =>
          cases ep
          exact ⟨key,kV_is r1,ht⟩
        | succ j=>exact h j p ep
def rDictL (K:PySem.W.Frag):List V→Hp→VK→Prop:=fun xs H Q=>∃ (l:Addr) (ps:List Addr) (kvs:List (Key × V)),xs=[.ref l]∧SqL K H l (ps.map V.ref)∧PairsAt H ps kvs∧(kvs.map (·.1)).Nodup∧kvs.length≤1000 ∧
  ∀ d,H d=none→Q (.ref d) (upd H d (.dK kvs))
theorem kv_keys {κ:Type}:∀ {kvs:List (κ × V)} {vs:List (κ × Value)},KV kvs vs→vs.map (·.1)=kvs.map (·.1)
  | _,_,.nil=>rfl
  | _,_,.cons h r=>by
    rw [List.map_cons,List.map_cons,kv_keys r,h.1]
theorem call_dict_list {X:Cx} (hc:X.calm=true):CallR X (.type "dict") (rDictL X.K):=by
  intro pins s σ H xs us Q I r h
  obtain ⟨l,ps,kvs,rfl,hL,hP,nd,hz,q⟩:=h
  obtain ⟨u,rfl,ru⟩:=vals1 r
  cases ru
  obtain ⟨its,rv,pl,hl⟩:=I.list hL
  obtain ⟨ol,nl,hol,hcl,hdl,hsl⟩:=id pl
  obtain ⟨vs,hv,hT⟩:=hP.real I
  have hA:=I.ok.hd hc
  refine callType_codes (Q₁:=fun ob s1=>ob=.ref s.heap.objs.size∧s1 = { s with heap:=s.heap.push { cls:=.type "dict",data:=.dict #[] } }) F.kt_called_dict (F.kt_typeCall_dict_1 _) F.entry_dict_init (kt_code_dict_new _ ⟨rfl,rfl⟩) ?_
  rintro ob s1 ⟨rfl,rfl⟩
  have hnew:(s.heap.push { cls:=.type "dict",data:=.dict #[] }).DictOf (mixKind X.prog X.w) s.heap.objs.size []:=Heap.DictOf.new s.heap
  have hol1:(s.heap.push { cls:=.type "dict",data:=.dict #[] }).get? l=some ol:=Heap.get?_push_of_some _ hol
  refine ⟨hnew.typeIs,F.args_dict_init_2 _ _,?_⟩
  unfold Builtin.«dict.__init__» ;unfold Builtin.Dict.selfAndRest
  refine wpAny_bind (wpAny_bind (wpAny_notOrdered_dict hnew.typeIs ?_))
  show wpAny _ _ (pure (s.heap.objs.size,[Value.ref l])) _ _ _
  refine wpAny_pure ?_
  show wpAny _ _ (Builtin.Dict.updateFrom "dict.__init__" s.heap.objs.size (.ref l) [] .none) _ _ _
  unfold Builtin.Dict.updateFrom
  refine wpAny_bind (wpAny_typeOf (T:="list") ⟨ol,hol1,hcl⟩ ?_)
  rw [if_pos (by decide)]
  refine wpAny_bind (keys_of_list (s:={ s with heap:=s.heap.push { cls:=.type "dict",data:=.dict #[] } }) hol1 hcl hsl hdl hA fun h1 tk1 k1=>?_)
  rw [if_pos (by rfl)]
  refine wpAny_bind (wpAny_rule ?_)
  have L1:h1.IsList l its.toArray:=⟨ol,k1 _ _ hol1,hcl,nl,hsl⟩
  refine wpAny_bind (wpAny_pyIter_list (s:={ s with heap:=h1,toks:=tk1 }) L1 ?_)
  refine wpAny_pure ⟨plainId_quiet plain_upd_loop _,?_⟩
  have hdlt:s.heap.objs.size < h1.objs.size:=Heap.lt_size (k1 _ _ (Heap.get?_push_size _ rfl))
  have llt:l < s.heap.objs.size:=Heap.lt_size hol
  have up:∀ b o,s.heap.get? b=some o→h1.get? b=some o:=fun b o e=>k1 b o (Heap.get?_push_of_some _ e)
  have lenp:ps.length=its.length:=by have:=rv.length;rwa [List.length_map] at this
  have lenv:vs.length=kvs.length:=(Paired.length hv).symm
  have n1:l≠h1.objs.size:=Nat.ne_of_lt (Nat.lt_trans llt hdlt)
  have W:=Walks.list (prog:=X.prog) (w:=X.w) (A:=X.A.in1.in1) hA h1.objs.size l n1 its.toArray
  have ei:rawInt 0=.int ((0:Nat):Int) 0:=rfl
  rw [ei]
  have old:∀ j,j < its.toArray.size→ps.getD j 0 < s.heap.objs.size:=fun j hj=>by
    have hj':j < ps.length:=by rw [lenp];simpa using hj
    have hm:ps.getD j 0∈ps:=by rw [List.getD_eq_getElem?_getD,List.getElem?_eq_getElem hj'];exact List.getElem_mem hj'
    obtain ⟨o,ho⟩:=hP.mem _ hm
    exact I.hok.lt ho
  refine upd_loop (κ:=Key) (knd:=mixKind X.prog X.w) (n:=its.toArray.size) W (d:=s.heap.objs.size) ?_ vs ?_ ?_ (fun j=>ps.getD j 0) ?_ ?_ ?_ its.toArray.size 0 _ (Nat.zero_add _) ⟨⟨_,Heap.get?_push_size _ rfl,rfl,rfl⟩,L1.push _⟩ ?_ ?_ ?_
  · intro z
    have z':s.heap.objs.size=h1.objs.size∨s.heap.objs.size=l:=by simpa using z
    exact z'.elim (Nat.ne_of_lt hdlt) (Nat.ne_of_gt llt)
  · rw [lenv,← hP.len,lenp];simp
  · rw [kv_keys hv];exact nd
  · intro i v hi e
    have e':its[i]? = some v:=by simpa using e
    have hi':i < ps.length:=by rw [lenp];simpa using hi
    obtain ⟨u,hu,ru⟩:=rv.get (i:=i) (x:=V.ref ps[i]) (by rw [List.getElem?_map,List.getElem?_eq_getElem hi'];rfl)
    rw [hu] at e'
    cases e'
    rw [List.getD_eq_getElem?_getD,List.getElem?_eq_getElem hi']
    exact ru
  · intro i hi
    have hlt:=old i hi
    refine ⟨fun z=>?_,Nat.ne_of_lt hlt⟩
    have z':ps.getD i 0=h1.objs.size:=by simpa using z
    exact Nat.ne_of_lt (Nat.lt_trans hlt hdlt) z'
  · have:=hP.len
    exact Nat.le_of_lt (small1000 (by simp;omega))
  · rw [List.take_zero]
    exact (dictOf_keep hnew fun o e=>k1 _ o e).push _
  · intro j p hj
    obtain ⟨key,hk,o,ho,r⟩:=hT j p hj
    exact ⟨key,hk,o,Heap.get?_push_of_some _ (up _ _ ho),r⟩
  · intro h3 tk3 hD k3
    refine ⟨rfl,.ref s.heap.objs.size,upd H s.heap.objs.size (.dK kvs),I.laid (a:=s.heap.objs.size) (o:=.dK kvs) (t':=tk3) (fun b o e=>?_) (Nat.le_refl _) ⟨Nat.le_of_lt (small1000 hz),?_,vs,hv,hD⟩,rfl,q _ (I.hok.fresh (Nat.le_refl _))⟩
    · have hlt:=Heap.lt_size e
      refine k3 b o (fun z=>?_) (Nat.ne_of_lt hlt) (Heap.get?_push_of_some _ (up _ _ e))
      have z':b=h1.objs.size:=by simpa using z
      exact Nat.ne_of_lt (Nat.lt_trans hlt hdlt) z'
    · exact beq_eq_false_iff_ne.mpr (Nat.ne_of_gt I.big)
theorem call_dict_pairsK {X:Cx} (K:PySem.W.Frag) (hc:X.calm=true) (hu:X.A.units+1 < cLine) (hK:X.K=K:=by rfl):CallR X (.type "dict") (rDictL K):=by subst hK;exact call_dict_list hc
end L2
namespace L2
open PySem PySem.Spec PyProof.Rows
end L2
namespace L2
open PySem PySem.Spec PyProof.Rows
section
variable {P:Program} {w:World} {A:Around} {E:Value→Shared→Prop} {s:Shared}
end
structure Src (P:Program) (w:World) (it sq:Addr) (xs:Array Value) (St:Nat→Heap→Prop):Prop where
  keep:∀ k h h',St k h→(∀ b,b=it∨b=sq→∀ o,h.get? b=some o→h'.get? b=some o)→St k h'
  obj:∀ k h,St k h→∃ o vs,h.get? it=some o∧o.data=.fields vs
  item:∀ (A:Around) (E:Value→Shared→Prop) (k:Nat) (s:Shared) (x:Value) (Q:Value→Shared→Prop),St k s.heap→xs[k]? = some x →
    (∀ h',St (k+1) h'→Heap.SameBut it s.heap h'→Q x { s with heap:=h' })→wpAny (model P w) A (Builtin.SmallTypes.nextOf (.ref it)) Q E s
  fin:∀ (A:Around) (E:Value→Shared→Prop) (k:Nat) (s:Shared) (Q:Value→Shared→Prop),A.handled=none→St k s.heap→xs[k]? = none →
    (∀ h' e,Heap.ExtBut it s.heap h'→(∃ o,h'.get? e=some o∧o.cls=.type "StopIteration")→E (.ref e) { s with heap:=h' })→wpAny (model P w) A (Builtin.SmallTypes.nextOf (.ref it)) Q E s
theorem Src.off {P:Program} {w:World} {it sq:Addr} {xs:Array Value} {St:Nat→Heap→Prop} (S:Src P w it sq xs St) {k:Nat} {h h':Heap} {b:Addr} (st:St k h) (e:Heap.ExtBut b h h') (n1:it≠b) (n2:sq≠b):St k h' :=
  S.keep k h h' st fun c hc o ho=>e c o (by rcases hc with z | z <;> rw [z] <;> assumption) ho
section
variable {P:Program} {w:World} {A:Around} {E:Value→Shared→Prop} {s:Shared} {z TI TO i1 i2 l1 l2:Addr} {xs ys:Array Value} {S1 S2:Nat→Heap→Prop}
end
def SqA (K:PySem.W.Frag) (H:Hp) (a:Addr) (xs:List V):Bool→Prop
  | true=>SqT K H a xs
  | false=>SqL K H a xs
def ItA (h:Heap) (it l:Addr) (k:Nat):Bool→Prop
  | true=>IsTupIter h it l k
  | false=>h.IsListIter it l k
def HasA (h:Heap) (l:Addr) (xs:Array Value):Bool→Prop
  | true=>IsTup h l xs
  | false=>h.IsList l xs
theorem ItA.at {h h':Heap} {it l:Addr} {k:Nat} (e:∀ o,h.get? it=some o→h'.get? it=some o):∀ {b:Bool},ItA h it l k b→ItA h' it l k b
  | true,x=>let ⟨o,ho,r⟩:=(show IsTupIter h it l k from x);⟨o,e o ho,r⟩
  | false,x=>let ⟨o,ho,r⟩:=(show h.IsListIter it l k from x);⟨o,e o ho,r⟩
theorem ItA.obj {h:Heap} {it l:Addr} {k:Nat}:∀ {b:Bool},ItA h it l k b→∃ o,h.get? it=some o∧o.data=.fields #[.ref l,.int k 0]∧(o.cls=.type "tuple_iterator"∨o.cls=.type "list_iterator")
  | true,x=>let ⟨o,ho,c,d⟩:=(show IsTupIter h it l k from x);⟨o,ho,d,.inl c⟩
  | false,x=>let ⟨o,ho,c,d⟩:=(show h.IsListIter it l k from x);⟨o,ho,d,.inr c⟩
theorem HasA.obj {h:Heap} {l:Addr} {xs:Array Value}:∀ {b:Bool},HasA h l xs b→∃ o,h.get? l=some o∧(o.cls=.type "tuple"∨o.cls=.type "list")∧∃ n,o.data=.seq xs n
  | true,x=>let ⟨o,ho,c,n,d⟩:=(show IsTup h l xs from x);⟨o,ho,.inl c,n,d⟩
  | false,x=>let ⟨o,ho,c,n,d⟩:=(show h.IsList l xs from x);⟨o,ho,.inr c,n,d⟩
theorem Inv.seqA {X:Cx} {pins:List (Addr × Obj)} {σ:St} {H:Hp} {s:Shared} {a:Addr} {xs:List V} (I:Inv X pins σ H s):∀ {b:Bool},SqA X.K H a xs b→∃ its:List Value,Vals xs its∧HasA s.heap a its.toArray b∧xs.length≤sizeLine
  | true,h=>let ⟨its,r,p,z⟩:=I.tuple h;⟨its,r,p,z⟩
  | false,h=>let ⟨its,r,p,z⟩:=I.list h;⟨its,r,p.isList,z⟩
theorem HasA.keep {h h':Heap} {l:Addr} {xs:Array Value} (e:∀ o,h.get? l=some o→h'.get? l=some o):∀ {b:Bool},HasA h l xs b→HasA h' l xs b
  | true,x=>let ⟨o,ho,r⟩:=(show IsTup h l xs from x);⟨o,e o ho,r⟩
  | false,x=>let ⟨o,ho,r⟩:=(show h.IsList l xs from x);⟨o,e o ho,r⟩
end L2
namespace L2
open PySem PySem.Spec PyProof.Rows
inductive VSame (K:PySem.W.Frag) (H:Hp):Nat→V→V→Prop where
  | flat {n:Nat} {x:V} (h:flatV x=true):VSame K H n x x
  | seq {n:Nat} {a b:Addr} {xs ys:List V} (t:Bool) (ha:SqA K H a xs t) (hb:SqA K H b ys t) (hl:xs.length=ys.length) (h:∀ (i:Nat) x y,xs[i]? = some x→ys[i]? = some y→VSame K H n x y):VSame K H (n+1) (.ref a) (.ref b)
section
variable {X:Cx} {pins:List (Addr × Obj)} {σ:St} {H:Hp} {s:Shared}
end
end L2
namespace L2
open PySem PySem.Spec PyProof.Rows
end L2
namespace L2
open PySem PySem.Spec PyProof.Rows
def CX1 (P:Program) (w:World):CXT:=fun outer H s E u s'=>∃ (e t:Addr) (cls:Value) (H':Hp) (b1:Heap),u=.ref e∧s'.os=s.os∧AllBare s'.gens∧Un (frs outer) [] H H' s.heap s'.heap∧HOk P w H' s'.heap∧H' e=none∧s.heap.get? e=none ∧
  Heap.FlyingW b1 outer e cls (.ref t) s'.heap∧(∀ b o,((∃ u,s.heap.get? b=some u)∨∃ u,H' b=some u)→b ∉ frs outer→s'.heap.get? b=some o→b1.get? b=some o)∧E cls none H'
section
variable {P:Program} {w:World} {K:PySem.W.Frag} {mg:Str→Option Value} {base:Heap} {N:List Str} {qual:Str} {scope:Scope} {f:Addr} {cdv:Value} {A:Around} {outer:List Env} {s:Shared} {H:Hp} {E:XK}
theorem Fun.ok1 {x:Str} {st:Stmt} {fd:FuncData} {ps:List Str} {k:Nat} {sp:Sp} (F:Fun K x qual st f fd) (S:FnScope N ps (defScope st)) (len:∀ vs H Q E,sp vs H Q E→vs.length=ps.length)
    (hbody:∀ (cdv:Value) (A:Around) (outer:List Env) (s:Shared) (H:Hp) (vs:List V) (Q:VK) (E:XK),Room k (A.deeper (envOfC qual (defScope st) s.heap.objs.size f cdv))→sp vs H Q E →
      ∃ t,PSs (cxOf (CX1 P w) P w K mg base N qual (defScope st) f cdv A outer s H E) (defBody st) t∧t { nx:=fun _ H'=>Q .non H',rt:=Q } (start N vs) H):FnOk P w K mg base (CX1 P w) (k+1) f fd ps sp:=by
  obtain ⟨oc,od,kV,doc,pm,an,cdv,ct,osl,rfl,lk,hcd⟩:=F.ex
  exact fn_of lk hcd S len fun A outer s H vs Q E hr hsp=>hbody cdv A outer s H vs Q E hr hsp
theorem FnOk.calm {k:Nat} {fd:FuncData} {ps:List Str} {sp sp':Sp} (F:FnOk P w K mg base (CX1 P w) k f fd ps sp) (h:∀ vs H Q E,sp' vs H Q E→sp vs H Q E0):FnOk P w K mg base CX0 k f fd ps sp' :=
  ⟨fun vs H Q E q=>F.len vs H Q E0 (h _ _ _ _ q),fun A outer s H args us vs Q E hr he hb hv hs=>codeAny_mono (F.run A outer s H args us vs Q E0 hr he hb hv (h _ _ _ _ hs)) fun r s' hq=>by
    cases r with
    | error e =>
      obtain ⟨_,_,_,_,_,_,_,_,_,_,_,_,_,_,q⟩:=hq
      exact q.elim
    | ok fl=>cases fl <;> exact hq⟩
end
end L2
namespace L2
open PySem PySem.Spec PySem.Calls PyProof.Rows PySem.W
section
variable {prog:Program} {w:World} {A:Around} {E:Value→Shared→Prop} {s:Shared} {K:PySem.W.Frag} {x D:Addr} {ox:Obj}
structure XAt (h:Heap) (x:Addr) (ox:Obj) (D:Addr):Prop where
  at_:h.get? x=some ox
  cls:ox.cls=.ref D
theorem XAt.type {M:Model} {h:Heap} (I:XAt h x ox D):Looks M h (typeOf (.ref x)) (.ref D):=by
  have:=I.cls
  exact this ▸ (Looks.ld I.at_).andThen Looks.now
structure ExcK (K:PySem.W.Frag) (D:Addr):Prop where
  cls:(clsIn K D).isSome=true
  find:findIn K (.ref D) "__class__" = some (some (.builtin "object.__class__"))
  get:specialIn K (.builtin "object.__class__") "__get__" = some (some (.builtin "getset_descriptor.__get__"))
  takes:takesIn K (.builtin "object.__class__")=some true
  obj:mroIn K D (.type "object")=some true
  bexc:mroIn K D (.type "BaseException")=some true
  ga:findIn K (.ref D) "__getattribute__" = some (some (.builtin "BaseException.__getattribute__"))
  gt:findIn K (.ref D) "__getattr__" = some none
end
end L2
namespace L2
open PySem PySem.Spec PySem.Calls PyProof.Rows PySem.W
section
variable {prog:Program} {w:World} {A:Around} {E:Value→Shared→Prop} {s:Shared} {K:PySem.W.Frag} {x C D:Addr} {ox:Obj}
end
section
variable {X:Cx} {pins:List (Addr × Obj)} {σ:St} {H:Hp} {s:Shared} {e:Addr} {o:HO}
theorem Inv.track (I:Inv X pins σ H s) (he:H e=none) (hs0:X.s₀.heap.get? e=none) (nl:e≠X.env.locals) (nc:∀ x c,X.env.cells.lookup x=some c→c≠e) (np:∀ p∈X.pn++pins,p.1≠e)
    (ho:ObjOk X.prog X.w (upd H e o) s.heap e o):Inv X pins σ (upd H e o) s:=by
  have ne:∀ b u,H b=some u→b≠e:=fun b u h z=>by rw [z,he] at h;cases h
  refine ⟨I.ok,I.os,I.bare,⟨I.base.keep,I.base.slot,fun b u h n hx=>?_,I.base.there,fun b xs h=>?_,fun b u v h=>?_,fun b ps h=>?_⟩,I.loc,I.cell,by rw [upd_ne (Ne.symm nl)];exact I.free,fun x c h=>by rw [upd_ne (nc x c h)];exact I.freeC x c h,fun p hp=>?_,fun a u h=>?_,I.len⟩
  · rw [upd_ne fun z=>by rw [z,hs0] at h;cases h]
    exact I.base.free b u h n hx
  · have:=I.base.tups b xs h
    rw [upd_ne (ne b _ this)]
    exact this
  · have:=I.base.frzs b u v h
    rw [upd_ne (ne b _ this)]
    exact this
  · obtain ⟨more,h1⟩:=I.base.tbls b ps h
    exact ⟨more,by rw [upd_ne (ne b _ h1)];exact h1⟩
  · obtain ⟨a1,a2,a3⟩:=I.pin p hp
    exact ⟨a1,by rw [upd_ne (np p hp)];exact a2,a3⟩
  · by_cases ha:a=e
    · subst ha
      rw [upd_same] at h
      cases h
      exact ho
    · rw [upd_ne ha] at h
      exact (I.hok a u h).stay (fun b w' _ q=>q) (fun b q=>by rw [upd_ne (ne b _ q)];exact q) fun b xs q=>by rw [upd_ne (ne b _ q)];exact q
end
structure Fl (X:Cx) (pins:List (Addr × Obj)) (σ:St) (H0:Hp) (s0:Shared) (H':Hp) (e:Addr) (b1:Heap) (s':Shared):Prop where
  I0:Inv X pins σ H0 s0
  os:s'.os=s0.os
  bare:AllBare s'.gens
  un:Un (frs X.stack) [] H0 H' s0.heap s'.heap
  hok:HOk X.prog X.w H' s'.heap
  he:H' e=none
  hes:s0.heap.get? e=none
  stay:b1.StaysIn s'.heap
  ff:s'.heap.FunFrames b1 X.stack
  cov:∀ b o,((∃ u,s0.heap.get? b=some u)∨∃ u,H' b=some u)→b ∉ frs X.stack→s'.heap.get? b=some o→b1.get? b=some o
section
variable {X:Cx} {pins:List (Addr × Obj)} {σ:St} {H0 H':Hp} {s0 s':Shared} {e:Addr} {b1 h':Heap}
end
end L2
namespace L2
open PySem PySem.Spec PySem.Calls PyProof.Rows PySem.W
abbrev Cx.inSuite (X:Cx) (Ax:Around):Cx:={ X with A:=Ax,calm:=false,xe:=fun _ _=>False }
section
variable {X:Cx} {pins pn:List (Addr × Obj)} {σ:St} {H:Hp} {s:Shared} {Ax:Around} {Ex:Value→Shared→Prop}
theorem Inv.suite (I:Inv X pins σ H s) (hA:Ax.frames=X.A.frames):Inv (X.inSuite Ax) pins σ H s :=
  ⟨⟨I.ok.mod,I.ok.kind,I.ok.glob,I.ok.blt,I.ok.above,I.ok.inj,I.ok.has,I.ok.cab,fun z=>Bool.noConfusion z,hA.trans I.ok.frames,I.ok.stk,I.ok.exf,I.ok.bs,I.ok.bsz,I.ok.noex,I.ok.exfs,I.ok.funs,I.ok.frf⟩,I.os,I.bare,I.base,I.loc,I.cell,I.free,I.freeC,I.pin,I.hok,I.len⟩
end
def Ends.as (D:Ends) (i:Nat):Ends:={ nx:=fun σ H=>D.nx (σ.set i none) H,rt:=D.rt,bk:=fun σ H=>D.bk (σ.set i none) H,ct:=fun σ H=>D.ct (σ.set i none) H }
end L2
namespace L2
open PySem PySem.Spec PySem.Calls PyProof.Rows PySem.W
theorem FnOk.or {P:Program} {w:World} {K:PySem.W.Frag} {mg:Str→Option Value} {base:Heap} {CX:CXT} {k:Nat} {f:Addr} {fd:FuncData} {ps:List Str} {sp sp':Sp} (F:FnOk P w K mg base CX k f fd ps sp) (G:FnOk P w K mg base CX k f fd ps sp') :
    FnOk P w K mg base CX k f fd ps fun vs H Q E=>sp vs H Q E∨sp' vs H Q E :=
  ⟨fun vs H Q E h=>h.elim (F.len vs H Q E) (G.len vs H Q E),fun A outer s H args us vs Q E hr e hb hv h=>h.elim (F.run A outer s H args us vs Q E hr e hb hv) (G.run A outer s H args us vs Q E hr e hb hv)⟩
theorem FnOk.up {P:Program} {w:World} {K:PySem.W.Frag} {mg:Str→Option Value} {base:Heap} {CX:CXT} {k:Nat} {f:Addr} {fd:FuncData} {ps:List Str} {sp:Sp} (F:FnOk P w K mg base CX0 k f fd ps sp):FnOk P w K mg base CX k f fd ps sp :=
  ⟨F.len,fun A outer s H args us vs Q E hr e hb hv h=>codeAny_mono (F.run A outer s H args us vs Q E hr e hb hv h) fun r s' hq=>by
    cases r with
    | error e=>exact False.elim hq
    | ok fl=>cases fl <;> exact hq⟩
end L2
namespace L2
open PySem PySem.Spec PyProof.Rows
theorem noKeys_tuple:typeLookup (.type "tuple") "keys" = pure none:=by rw [typeLookup_type,builtinLookup_eq_fast];kernel_rfl
theorem keys_of_tuple {P:Program} {w:World} {A:Around} {E:Value→Shared→Prop} {s:Shared} {a:Addr} {o:Obj} {xs:Array Value} {k:Nat} {Q:Option Value→Shared→Prop}
    (ho:s.heap.get? a=some o) (hc:o.cls=.type "tuple") (hs:o.data=.seq xs k) (hd:o.dict=none) (hA:A.handled=none)
    (q:∀ h' tk,(∀ b u,s.heap.get? b=some u→h'.get? b=some u)→Q none { s with heap:=h',toks:=tk }):wpAny (model P w) A (getAttr? (.ref a) "keys") Q E s:=by
  obtain ⟨c,dct,dat,sl⟩:=o
  simp only at hc hs hd
  subst hc hs hd
  obtain ⟨hp,g,d,tk,os⟩:=s
  have ty:∀ tk',(⟨hp,g,d,tk',os⟩:Shared).TypeIs (.ref a) "tuple":=fun _=>⟨_,ho,rfl⟩
  have z1:=sub_AttributeError
  have z3:=F.slot_tuple_getattribute.lookup
  have z4:=F.slot_tuple_getattribute.bind (.ref a)
  have z5:=am_tuple_getattr_none
  unfold getAttr? getAttrBy? getAttrBy
  repeat (any_goals (first | assumption | exact ty _ | ((with_reducible show wpAny _ _ (call (Value.builtin "tuple.__getattribute__") _ _) _ _ _);refine call_meets F.slot_tuple_getattribute (ty _) am_entry_tuple_getattribute (F.args_tuple_getattribute_2 _ _) (meets_getattribute_miss_tuple a xs k sl "keys" _ noKeys_tuple (by decide +kernel) (by decide +kernel)) ⟨ho,hA,fun h' tk' e hx'=>?_⟩) | wp_step))
  obtain ⟨t',u',he⟩:=hx'.there
  have tE:(⟨h',g,d,tk',os⟩:Shared).TypeIs (.ref e) "AttributeError":=⟨_,he,rfl⟩
  show wpAny _ _ (getattributeRaised _ _ _ _ _ _ _) _ _ _
  unfold getattributeRaised
  repeat (any_goals (first | assumption | wp_step))
  exact q h' tk' hx'.keeps
def rDictT:List V→Hp→VK→Prop:=fun xs H Q=>∃ (l:Addr) (ps:List Addr) (kvs:List (Key × V)),xs=[.ref l]∧H l=some (.tup (ps.map V.ref))∧PairsAt H ps kvs∧(kvs.map (·.1)).Nodup∧kvs.length≤1000 ∧
  ∀ d,H d=none→Q (.ref d) (upd H d (.dK kvs))
theorem call_dict_tup {X:Cx} (hc:X.calm=true):CallR X (.type "dict") rDictT:=by
  intro pins s σ H xs us Q I r h
  obtain ⟨l,ps,kvs,rfl,hL,hP,nd,hz,q⟩:=h
  obtain ⟨u,rfl,ru⟩:=vals1 r
  cases ru
  obtain ⟨hl,its,rv,pl,ol',hol',hdl⟩:=(show ObjOk X.prog X.w H s.heap l (.tup _) from I.hok l _ hL)
  obtain ⟨ol,hol,hcl,nl,hsl⟩:=id pl
  rw [hol] at hol'
  have e0:=Option.some.inj hol'
  subst e0
  obtain ⟨vs,hv,hT⟩:=hP.real I
  have hA:=I.ok.hd hc
  refine callType_codes (Q₁:=fun ob s1=>ob=.ref s.heap.objs.size∧s1 = { s with heap:=s.heap.push { cls:=.type "dict",data:=.dict #[] } }) F.kt_called_dict (F.kt_typeCall_dict_1 _) F.entry_dict_init (kt_code_dict_new _ ⟨rfl,rfl⟩) ?_
  rintro ob s1 ⟨rfl,rfl⟩
  have hnew:(s.heap.push { cls:=.type "dict",data:=.dict #[] }).DictOf (mixKind X.prog X.w) s.heap.objs.size []:=Heap.DictOf.new s.heap
  have hol1:(s.heap.push { cls:=.type "dict",data:=.dict #[] }).get? l=some ol:=Heap.get?_push_of_some _ hol
  refine ⟨hnew.typeIs,F.args_dict_init_2 _ _,?_⟩
  unfold Builtin.«dict.__init__» ;unfold Builtin.Dict.selfAndRest
  refine wpAny_bind (wpAny_bind (wpAny_notOrdered_dict hnew.typeIs ?_))
  show wpAny _ _ (pure (s.heap.objs.size,[Value.ref l])) _ _ _
  refine wpAny_pure ?_
  show wpAny _ _ (Builtin.Dict.updateFrom "dict.__init__" s.heap.objs.size (.ref l) [] .none) _ _ _
  unfold Builtin.Dict.updateFrom
  refine wpAny_bind (wpAny_typeOf (T:="tuple") ⟨ol,hol1,hcl⟩ ?_)
  rw [if_pos (by decide)]
  refine wpAny_bind (keys_of_tuple (s:={ s with heap:=s.heap.push { cls:=.type "dict",data:=.dict #[] } }) hol1 hcl hsl hdl hA fun h1 tk1 k1=>?_)
  rw [if_pos (by rfl)]
  refine wpAny_bind (wpAny_rule ?_)
  have L1:h1.IsTuple l its.toArray:=⟨ol,k1 _ _ hol1,hcl,nl,hsl⟩
  refine wpAny_bind (wpAny_pyIter_tuple (s:={ s with heap:=h1,toks:=tk1 }) L1 ?_)
  refine wpAny_pure ⟨plainId_quiet plain_upd_loop _,?_⟩
  have hdlt:s.heap.objs.size < h1.objs.size:=Heap.lt_size (k1 _ _ (Heap.get?_push_size _ rfl))
  have llt:l < s.heap.objs.size:=Heap.lt_size hol
  have up:∀ b o,s.heap.get? b=some o→h1.get? b=some o:=fun b o e=>k1 b o (Heap.get?_push_of_some _ e)
  have lenp:ps.length=its.length:=by have:=rv.length;rwa [List.length_map] at this
  have lenv:vs.length=kvs.length:=(Paired.length hv).symm
  have n1:l≠h1.objs.size:=Nat.ne_of_lt (Nat.lt_trans llt hdlt)
  have W:=Walks.tuple (prog:=X.prog) (w:=X.w) (A:=X.A.in1.in1) hA h1.objs.size l n1 its.toArray
  have ei:rawInt 0=.int ((0:Nat):Int) 0:=rfl
  rw [ei]
  have old:∀ j,j < its.toArray.size→ps.getD j 0 < s.heap.objs.size:=fun j hj=>by
    have hj':j < ps.length:=by rw [lenp];simpa using hj
    have hm:ps.getD j 0∈ps:=by rw [List.getD_eq_getElem?_getD,List.getElem?_eq_getElem hj'];exact List.getElem_mem hj'
    obtain ⟨o,ho⟩:=hP.mem _ hm
    exact I.hok.lt ho
  refine upd_loop (κ:=Key) (knd:=mixKind X.prog X.w) (n:=its.toArray.size) W (d:=s.heap.objs.size) ?_ vs ?_ ?_ (fun j=>ps.getD j 0) ?_ ?_ ?_ its.toArray.size 0 _ (Nat.zero_add _) ⟨⟨_,Heap.get?_push_size _ rfl,rfl,rfl⟩,?_⟩ ?_ ?_ ?_
  · intro z
    have z':s.heap.objs.size=h1.objs.size∨s.heap.objs.size=l:=by simpa using z
    exact z'.elim (Nat.ne_of_lt hdlt) (Nat.ne_of_gt llt)
  · rw [lenv,← hP.len,lenp];simp
  · rw [kv_keys hv];exact nd
  · intro i v hi e
    have e':its[i]? = some v:=by simpa using e
    have hi':i < ps.length:=by rw [lenp];simpa using hi
    obtain ⟨u,hu,ru⟩:=rv.get (i:=i) (x:=V.ref ps[i]) (by rw [List.getElem?_map,List.getElem?_eq_getElem hi'];rfl)
    rw [hu] at e'
    cases e'
    rw [List.getD_eq_getElem?_getD,List.getElem?_eq_getElem hi']
    exact ru
  · intro i hi
    have hlt:=old i hi
    refine ⟨fun z=>?_,Nat.ne_of_lt hlt⟩
    have z':ps.getD i 0=h1.objs.size:=by simpa using z
    exact Nat.ne_of_lt (Nat.lt_trans hlt hdlt) z'
  · have:=hP.len
    exact Nat.le_of_lt (small1000 (by simp;omega))
  · exact ⟨ol,Heap.get?_push_of_some _ (k1 _ _ hol1),hcl,nl,hsl⟩
  · rw [List.take_zero]
    exact (dictOf_keep hnew fun o e=>k1 _ o e).push _
  · intro j p hj
    obtain ⟨key,hk,o,ho,r⟩:=hT j p hj
    exact ⟨key,hk,o,Heap.get?_push_of_some _ (up _ _ ho),r⟩
  · intro h3 tk3 hD k3
    refine ⟨rfl,.ref s.heap.objs.size,upd H s.heap.objs.size (.dK kvs),I.laid (a:=s.heap.objs.size) (o:=.dK kvs) (t':=tk3) (fun b o e=>?_) (Nat.le_refl _) ⟨Nat.le_of_lt (small1000 hz),?_,vs,hv,hD⟩,rfl,q _ (I.hok.fresh (Nat.le_refl _))⟩
    · have hlt:=Heap.lt_size e
      refine k3 b o (fun z=>?_) (Nat.ne_of_lt hlt) (Heap.get?_push_of_some _ (up _ _ e))
      have z':b=h1.objs.size:=by simpa using z
      exact Nat.ne_of_lt (Nat.lt_trans hlt hdlt) z'
    · exact beq_eq_false_iff_ne.mpr (Nat.ne_of_gt I.big)
def ItV (K:PySem.W.Frag) (a:Addr) (n:Nat):It :=
  ⟨fun i H=>∃ xs x,SqL K H a xs∧xs.length=n∧xs.reverse[i]? = some x,fun i H x H'=>H'=H∧∀ xs,SqL K H a xs→xs.reverse[i]? = some x,fun i H=>∃ xs,SqL K H a xs∧xs.length=n∧i=n⟩
theorem sure_rev {K:PySem.W.Frag} {a:Addr} {xs:List V}:Sure (ItV K a xs.length) xs.reverse (fun H=>SqL K H a xs) where
  go:=fun i H hi h=>⟨xs,xs.reverse[i],h,rfl,List.getElem?_eq_getElem hi⟩
  yld:=fun i H x H' _ h y=>⟨y.1,y.2 xs h⟩
  stop:=fun H h=>⟨xs,h,rfl,List.length_reverse⟩
theorem turn_rev {P:Program} {w:World} {K:PySem.W.Frag} {tg:Expr} (a it:Addr) (n:Nat):Turn P w K tg (ItV K a n) [it] it (fun i h=>h.IsRevIter it a ((n:Int) - 1 - (i:Int))) where
  mem:=by simp
  obj:=fun i h st b hb=>by
    have e:b=it:=by simpa using hb
    subst e
    obtain ⟨o,e,c,d⟩:=st
    exact ⟨o,e,fun v z=>by rw [d] at z;cases z⟩
  keep:=fun i h h' st k=>st.at fun o e=>k it (by simp) o e
  item:=by
    intro X hP hw hK hc i pins s σ H E I hf st hg
    subst hP hw hK
    obtain ⟨xs,x,hq,hn,hx⟩:=hg
    obtain ⟨its,rv,p,hz⟩:=I.list hq
    have hi:i < xs.length:=by have:=(List.getElem?_eq_some_iff.mp hx).1;rwa [List.length_reverse] at this
    have hx':xs[n - 1 - i]? = some x:=by rw [List.getElem?_reverse hi,hn] at hx;exact hx
    obtain ⟨u,hu,ru⟩:=rv.get hx'
    obtain ⟨f0,f1,f2,f3,f4,f5⟩:=hf it (by simp)
    have e1:(n:Int) - 1 - (i:Int)=((n - 1 - i:Nat):Int):=by omega
    rw [e1] at st
    refine wpAny_pyNext_rev_item st p.isList (x:=u) (by simpa using hu) fun h' st' sb=>?_
    have I1:Inv X pins σ H { s with heap:=h' }:=I.turned (t':=s.toks) (fun b o hb e=>(sb.2 b hb).trans e) f0 f1 f3 f4 f5
    have e2:((n - 1 - i:Nat):Int) - 1=(n:Int) - 1 - ((i+1:Nat):Int):=by omega
    rw [e2] at st'
    obtain ⟨o,e,c,d⟩:=id st'
    exact ⟨u,rfl,go_of (s:={ s with heap:=h' }) e c d (by decide) ⟨x,H,I1,ru,⟨rfl,fun ys hy=>by rw [I.list_inj hy hq];exact hx⟩,st',fun b hb=>(hf b hb).1⟩⟩
  done:=by
    intro X hP hw hK hc i pins s σ H E I hf st hg
    subst hP hw hK
    obtain ⟨xs,hq,hn,hx⟩:=hg
    obtain ⟨f0,f1,f2,f3,f4,f5⟩:=hf it (by simp)
    have e1:(n:Int) - 1 - (i:Int) = -1:=by omega
    rw [e1] at st
    exact wpAny_pyNext_rev_end (I.ok.hd hc) st fun h' eb=>⟨rfl,I.turned (t':=s.toks) (fun b o hb e=>eb b o hb e) f0 f1 f3 f4 f5⟩
  self:=fun _ _ _ _ _ st h=>wpAny_pyIter_revIter st h
def iRev (K:PySem.W.Frag) (ta:TA):TI:=fun σ H R=>ta σ H fun vs H1=>∃ a xs,vs=[.ref a]∧SqL K H1 a xs∧R (ItV K a xs.length) H1
theorem pi_rev {X:Cx} {tg l:Expr} {ta:TA} {p pos:Pos} (hg:Gl X "reversed") (hm:X.mg "reversed" = none) (ha:PA X [l] ta) (hs:starEach [l] X.env=[(false,eval l X.env)]:=by rfl):PI X tg (.Call (.Name "reversed" p) [l] [] pos) (iRev X.K ta):=by
  intro pins s σ H R I h
  refine Call_ (ld_blt I hg hm (show bootBuiltins "reversed" = some (.type "reversed") by decide +kernel) (PyProof.Rows.callWith_type1 (thn (ha pos pins s σ H _ I h) fun us s1 ⟨vs,H1,I1,r1,q1⟩=>?_) hs rfl))
  obtain ⟨a,xs,e,hq,q⟩:=q1
  subst e
  cases r1 with
  | cons r rr =>
    cases rr
    cases r
    obtain ⟨its,rv,pl,hz⟩:=I1.list hq
    refine call_reversed_list pl.isList ?_
    have st:(s1.heap.push (revObj a ((its.toArray.size:Int) - 1))).IsRevIter s1.heap.objs.size a ((xs.length:Int) - 1 - ((0:Nat):Int)):=by
      refine ⟨_,Heap.get?_push_size _ rfl,rfl,?_⟩
      have e1:((its.toArray.size:Nat):Int) - 1=(xs.length:Int) - 1 - ((0:Nat):Int):=by rw [List.size_toArray,← rv.length];simp
      show Data.fields #[.ref a,rawInt (((its.toArray.size:Nat):Int) - 1)]=_
      rw [e1]
    refine wpAny_pyIter_revIter st ?_
    refine ⟨s1.heap.objs.size,[s1.heap.objs.size],_,_,H1,rfl,I1.kept (t':=s1.toks) fun b o e=>Heap.get?_push_of_some _ e,turn_rev a _ xs.length,st,fun b hb=>?_,q⟩
    have e:b=s1.heap.objs.size:=by simpa using hb
    subst e
    exact I1.fpOk (Nat.le_refl _) (I1.hok.fresh (Nat.le_refl _))
theorem pi_revK {X:Cx} (K:PySem.W.Frag) {tg l:Expr} {ta:TA} {p pos:Pos} (hg:Gl X "reversed") (hm:X.mg "reversed" = none) (ha:PA X [l] ta) (hs:starEach [l] X.env=[(false,eval l X.env)]:=by rfl) (hK:X.K=K:=by rfl):PI X tg (.Call (.Name "reversed" p) [l] [] pos) (iRev K ta):=by subst hK;exact pi_rev hg hm ha hs
theorem Inv.swap {X:Cx} {pins:List (Addr × Obj)} {σ:St} {H:Hp} {s:Shared} {d:Addr} {u u':HO} (I:Inv X pins σ H s) (e:H d=some u) (n1:∀ y,u≠.own y) (n2:∀ xs,u≠.tup xs)
    (h1:∀ xs,X.H₀ d≠some (.tup xs)) (h2:∀ o v,X.H₀ d≠some (.frz o v)) (h3:∀ ps,X.H₀ d≠some (.tbl ps)) (new:ObjOk X.prog X.w (upd H d u') s.heap d u'):Inv X pins σ (upd H d u') s:=by
  have ne:∀ b,H b=none→b≠d:=fun b z y=>by rw [y,e] at z;cases z
  refine ⟨I.ok,I.os,I.bare,⟨I.base.keep,I.base.slot,fun b o a1 a2 a3=>?_,I.base.there,fun b xs a1=>?_,fun b o v a1=>?_,fun b ps a1=>?_⟩,I.loc,I.cell,?_,fun x c a1=>?_,fun p hp=>?_,fun b v a1=>?_,I.len⟩
  · have z:=I.base.free b o a1 a2 a3
    rw [upd_ne (ne b z)];exact z
  · have z:=I.base.tups b xs a1
    rw [upd_ne (fun y=>h1 xs (by rw [← y];exact a1))];exact z
  · have z:=I.base.frzs b o v a1
    rw [upd_ne (fun y=>h2 o v (by rw [← y];exact a1))];exact z
  · have z:=I.base.tbls b ps a1
    rw [upd_ne (fun y=>h3 ps (by rw [← y];exact a1))];exact z
  · rw [upd_ne (ne _ I.free)];exact I.free
  · rw [upd_ne (ne _ (I.freeC x c a1))];exact I.freeC x c a1
  · obtain ⟨a1,a2,a3⟩:=I.pin p hp
    exact ⟨a1,by rw [upd_ne (ne _ a2)];exact a2,a3⟩
  · by_cases y:b=d
    · subst y
      rw [upd_same] at a1
      cases a1
      exact new
    · rw [upd_ne y] at a1
      refine (I.hok b v a1).stay (fun c z _ q=>q) (fun c q=>?_) fun c xs q=>?_
      · rw [upd_ne (fun y=>n1 b (by rw [y,e] at q;exact Option.some.inj q))];exact q
      · rw [upd_ne (fun y=>n2 xs (by rw [y,e] at q;exact Option.some.inj q))];exact q
theorem Inv.freeze {X:Cx} {pins:List (Addr × Obj)} {σ:St} {H:Hp} {s:Shared} {d:Addr} {kvs:List (Key × V)} (I:Inv X pins σ H s) (e:H d=some (.dK kvs)) :
    ∃ ob,Inv X pins σ (upd H d (.frz ob (.dK kvs))) s∧∀ (σ':St) (H':Hp) (s':Shared),Inv X pins σ' H' s'→H' d=some (.frz ob (.dK kvs))→Inv X pins σ' (upd H' d (.dK kvs)) s':=by
  obtain ⟨hz,lo,vs,hkv,hD⟩:=(show ObjOk X.prog X.w H s.heap d (.dK kvs) from I.hok d _ e)
  obtain ⟨ob,es,ep,ho,rr⟩:=id hD
  have h1:∀ xs,X.H₀ d≠some (.tup xs):=fun xs z=>by have:=I.base.tups d xs z;rw [e] at this;cases this
  have h2:∀ o v,X.H₀ d≠some (.frz o v):=fun o v z=>by have:=I.base.frzs d o v z;rw [e] at this;cases this
  have h3:∀ ps,X.H₀ d≠some (.tbl ps):=fun ps z=>by obtain ⟨m,q⟩:=I.base.tbls d ps z;rw [e] at q;cases q
  refine ⟨ob,I.swap e (fun y z=>by cases z) (fun xs z=>by cases z) h1 h2 h3 ⟨ho,hz,lo,vs,hkv,hD⟩,fun σ' H' s' J q=>?_⟩
  obtain ⟨_,c1,c2,ws,c3,c4⟩:=(show ObjOk X.prog X.w H' s'.heap d (.frz ob (.dK kvs)) from J.hok d _ q)
  exact J.swap q (fun y z=>by cases z) (fun xs z=>by cases z) h1 h2 h3 ⟨c1,c2,ws,c3,c4⟩
def tFrz (t:TE):TE:=fun σ H Q=>∃ d kvs,H d=some (.dK kvs)∧∀ ob,t σ (upd H d (.frz ob (.dK kvs))) fun v H'=>H' d=some (.frz ob (.dK kvs))∧Q v (upd H' d (.dK kvs))
theorem pe_frz {X:Cx} {e:Expr} {t:TE} (h:PE X e t):PE X e (tFrz t):=by
  intro pins s σ H Q I hq
  obtain ⟨d,kvs,hd,q⟩:=hq
  obtain ⟨ob,I1,back⟩:=I.freeze hd
  refine thn (h pins s σ _ _ I1 (q ob)) fun v s1 ⟨x,H1,J,r,q1,q2⟩=>⟨x,_,back σ H1 s1 J q1,r,q2⟩
def ItD (d:Addr) (ob:Obj) (kvs:List (Key × V)):It :=
  ⟨fun i H=>H d=some (.frz ob (.dK kvs))∧i < kvs.length,fun i H x H'=>H'=H∧(kvs.map fun p=>kV p.1)[i]? = some x,fun i H=>H d=some (.frz ob (.dK kvs))∧i=kvs.length⟩
theorem sure_dict {d:Addr} {ob:Obj} {kvs:List (Key × V)}:Sure (ItD d ob kvs) (kvs.map fun p=>kV p.1) (fun H=>H d=some (.frz ob (.dK kvs))) where
  go:=fun i H hi h=>⟨h,by rwa [List.length_map] at hi⟩
  yld:=fun i H x H' _ h y=>y
  stop:=fun H h=>⟨h,List.length_map ..⟩
theorem key_rel {P:Program} {w:World} {k:Key} {u:Value} (h:(mixKind P w).is k u=true):RelV (kV k) u:=by
  rcases keyIs_shape (show keyIs k u=true from h) with ⟨i,t,rfl,rfl⟩ | ⟨x,t,rfl,rfl⟩
  · exact ⟨t,rfl⟩
  · exact ⟨t,rfl⟩
theorem frz_at {X:Cx} {pins:List (Addr × Obj)} {σ:St} {H:Hp} {s:Shared} {d:Addr} {ob:Obj} {kvs:List (Key × V)} {es:Array DictEntry} {ep:Nat} (I:Inv X pins σ H s) (e:H d=some (.frz ob (.dK kvs))) (hd:ob.data=.dict es ep) :
    (d == sysModules)=false∧kvs.length≤sizeLine∧∃ vs,KV kvs vs∧s.heap.DictAt (mixKind X.prog X.w) d vs ep:=by
  obtain ⟨c0,c1,c2,vs,c3,o,es',ep',ho,x1,x2,x3⟩:=(show ObjOk X.prog X.w H s.heap d (.frz ob (.dK kvs)) from I.hok d _ e)
  rw [c0] at ho
  cases ho
  rw [hd] at x2
  cases x2
  exact ⟨c2,c1,vs,c3,ob,es,c0,x1,hd,x3⟩
theorem turn_dict {P:Program} {w:World} {K:PySem.W.Frag} {tg:Expr} (d it:Addr) (ob:Obj) (kvs:List (Key × V)) (es:Array DictEntry) (ep:Nat) (hd:ob.data=.dict es ep):Turn P w K tg (ItD d ob kvs) [it] it (fun i h=>h.IsKeyIter it d i kvs.length ep) where
  mem:=by simp
  obj:=fun i h st b hb=>by
    have e:b=it:=by simpa using hb
    subst e
    obtain ⟨o,e,c,d⟩:=st
    exact ⟨o,e,fun v z=>by rw [d] at z;cases z⟩
  keep:=fun i h h' st k=>st.at fun o e=>k it (by simp) o e
  item:=by
    intro X hP hw hK hc i pins s σ H E I hf st hg
    subst hP hw hK
    obtain ⟨hq,hi⟩:=hg
    obtain ⟨lo,hz,vs,hkv,hat⟩:=frz_at I hq hd
    have hl:vs.length=kvs.length:=(Paired.length hkv).symm
    rw [← hl] at st hi
    obtain ⟨f0,f1,f2,f3,f4,f5⟩:=hf it (by simp)
    have e3:vs[i]? = some (vs[i].1,vs[i].2):=List.getElem?_eq_getElem hi
    refine wpAny_pyNext_dict_item st hat e3 fun u h' hu st' sb=>?_
    have I1:Inv X pins σ H { s with heap:=h' }:=I.turned (t':=s.toks) (fun b o hb e=>(sb.2 b hb).trans e) f0 f1 f3 f4 f5
    obtain ⟨k',v',e4,e5⟩:=kv_at hkv e3
    rw [hl] at st'
    obtain ⟨o,e,c,dd⟩:=id st'
    refine ⟨u,rfl,go_of (s:={ s with heap:=h' }) e c dd (by decide) ⟨kV vs[i].1,H,I1,key_rel hu,⟨rfl,?_⟩,st',fun b hb=>(hf b hb).1⟩⟩
    rw [List.getElem?_map,e4,← e5]
    rfl
  done:=by
    intro X hP hw hK hc i pins s σ H E I hf st hg
    subst hP hw hK
    obtain ⟨hq,hi⟩:=hg
    obtain ⟨lo,hz,vs,hkv,hat⟩:=frz_at I hq hd
    have hl:vs.length=kvs.length:=(Paired.length hkv).symm
    rw [← hl] at st hi
    obtain ⟨f0,f1,f2,f3,f4,f5⟩:=hf it (by simp)
    exact wpAny_pyNext_dict_end (I.ok.hd hc) st hat (by rw [hi];simp) fun h' eb=>⟨rfl,I.turned (t':=s.toks) (fun b o hb e=>eb b o hb e) f0 f1 f3 f4 f5⟩
  self:=fun _ _ _ _ _ st h=>wpAny_pyIter_keyiter st h
def iDict (tl:TE):TI:=fun σ H R=>tl σ H fun x H1=>∃ d ob kvs,x=.ref d∧H1 d=some (.frz ob (.dK kvs))∧R (ItD d ob kvs) H1
theorem pi_dict {X:Cx} {tg l:Expr} {tl:TE} (hl:PE X l tl):PI X tg l (iDict tl):=by
  intro pins s σ H R I h
  refine thn (hl pins s σ H _ I h) fun v s1 ⟨x,H1,I1,r1,q1⟩=>?_
  obtain ⟨d,ob,kvs,e,hq,q⟩:=q1
  subst e
  cases r1
  obtain ⟨c0,c1,c2,vs,c3,o,es,ep,ho,x1,x2,x3⟩:=(show ObjOk X.prog X.w H1 s1.heap d (.frz ob (.dK kvs)) from I1.hok d _ hq)
  rw [c0] at ho
  cases ho
  have hvl:vs.length=kvs.length:=(Paired.length c3).symm
  refine wpAny_pyIter_dict (knd:=mixKind X.prog X.w) (kvs:=vs) (ep:=ep) c2 ⟨ob,es,c0,x1,x2,x3⟩ ?_
  refine ⟨s1.heap.objs.size,[s1.heap.objs.size],_,_,H1,rfl,I1.kept (t':=s1.toks) fun b o e=>Heap.get?_push_of_some _ e,turn_dict d _ ob kvs es ep x2,⟨_,Heap.get?_push_size _ rfl,rfl,by rw [hvl];rfl⟩,fun b hb=>?_,q⟩
  have e:b=s1.heap.objs.size:=by simpa using hb
  subst e
  exact I1.fpOk (Nat.le_refl _) (I1.hok.fresh (Nat.le_refl _))
end L2
namespace L2
open PySem PySem.Spec PyProof.Rows
def rAll (K:PySem.W.Frag):List V→Hp→VK→Prop:=fun xs H Q=>∃ (l:Addr) (bs:List Bool),xs=[.ref l]∧SqL K H l (bs.map V.bl)∧Q (.bl (bs.all id)) H
theorem call_all_bools {X:Cx} (hc:X.calm=true):CallR X (.builtin "all") (rAll X.K):=by
  intro pins s σ H xs us Q I r h
  obtain ⟨l,bs,rfl,hq,q⟩:=h
  obtain ⟨u,rfl,ru⟩:=vals1 r
  cases ru
  obtain ⟨its,rv,pl,hz⟩:=I.list hq
  have hA:=I.ok.hd hc
  have lb:its.length=bs.length:=by have:=rv.length;rw [List.length_map] at this;exact this.symm
  refine call_all_walk (wpAny_pyIter_list pl.isList ?_)
  have hlt:l < s.heap.objs.size:=by obtain ⟨o,ho,_⟩:=pl.isList;exact Heap.lt_size ho
  refine ⟨s.heap.objs.size,_,_,_,_,_,fun i=>bs.getD i false,rfl,Walks.list (prog:=X.prog) (w:=X.w) (A:=X.A.in1) hA s.heap.objs.size l (Nat.ne_of_lt hlt) its.toArray,⟨⟨_,Heap.get?_push_size _ rfl,rfl,rfl⟩,pl.isList.push _⟩,fun i v s' Q' E' hv hQ=>?_,fun h' tk kk=>?_⟩
  · have hv':its[i]? = some v:=by simpa using hv
    have hi:i < bs.length:=by rw [← lb];exact (List.getElem?_eq_some_iff.mp hv').1
    obtain ⟨u,hu,ru⟩:=rv.get (i:=i) (x:=V.bl bs[i]) (by rw [List.getElem?_map,List.getElem?_eq_getElem hi];rfl)
    rw [hu] at hv'
    cases hv'
    cases (show v=Value.bool bs[i] from ru)
    refine wpAny_truthy_bool ?_
    have e:bs.getD i false=bs[i]:=by rw [List.getD_eq_getElem?_getD,List.getElem?_eq_getElem hi];rfl
    exact e ▸ hQ
  · have e:((List.range its.toArray.size).all fun i=>bs.getD i false)=bs.all id:=by
      have e1:its.toArray.size=bs.length:=by rw [List.size_toArray,lb]
      rw [e1]
      clear kk q hq rv lb pl hz
      rw [Bool.eq_iff_iff,List.all_eq_true,List.all_eq_true]
      constructor
      · intro h b hb
        obtain ⟨i,hi⟩:=List.mem_iff_getElem?.mp hb
        have:=h i (List.mem_range.mpr (List.getElem?_eq_some_iff.mp hi).1)
        rw [List.getD_eq_getElem?_getD,hi] at this
        exact this
      · intro h i hi
        have hi':=List.mem_range.mp hi
        rw [List.getD_eq_getElem?_getD,List.getElem?_eq_getElem hi']
        exact h _ (List.getElem_mem hi')
    rw [e]
    exact ⟨.bl _,H,I.kept (t':=tk) fun b o eb=>kk b o (fun z=>by
      have z':b=s.heap.objs.size:=by simpa using z
      exact absurd (Heap.lt_size eb) (by rw [z'];exact Nat.lt_irrefl _)) (Heap.get?_push_of_some _ eb),rfl,q⟩
theorem call_all_boolsK {X:Cx} (K:PySem.W.Frag) (hc:X.calm=true) (hK:X.K=K:=by rfl):CallR X (.builtin "all") (rAll K):=by subst hK;exact call_all_bools hc
def rSlS:V→Option Int→Option Int→Hp→VK→Prop:=fun x lo hi H Q=>∃ z:Str,x=.str z∧z.length≤sizeLine∧Q (.str (Txt.slice z lo hi)) H
theorem sl_str {X:Cx}:SlR X rSlS:=by
  intro pins s σ H x v vl vu lo hi sl Q I rx hs pl pu h
  obtain ⟨z,rfl,hz,q⟩:=h
  obtain ⟨t,rfl⟩:=rx
  refine ⟨"str",_,F.slot_str_getitem.lookup,typeIs_str _ _ _,?_⟩
  obtain ⟨o,ho,hc,hd⟩:=hs
  have fin:∀ (l u:Option (Int × Tok)),l.map (·.1)=lo→u.map (·.1)=hi→vl=partValue l→vu=partValue u→wpAny (model X.prog X.w) X.A (getItem (.str z t) (.ref sl)) (EP X pins σ Q) X.xe s:=fun l u e1 e2 e3 e4=>by
    subst e1 e2 e3 e4
    refine wpAny_getItem_str_slice (l:=l) (u:=u) (st:=none) ⟨o,ho,hc,hd⟩ rfl (post_val_or_str ⟨Nat.le_trans (Txt.slice_le z (l.map (·.1)) (u.map (·.1))) hz,fun t' k=>?_⟩)
    exact ⟨.str (Txt.slice z (l.map (·.1)) (u.map (·.1))),H,I.tok _,⟨t',rfl⟩,q⟩
  cases pl with
  | none=>cases pu with
    | none=>exact fin none none rfl rfl rfl rfl
    | int j tj=>exact fin none (some (j,tj)) rfl rfl rfl rfl
  | int i ti=>cases pu with
    | none=>exact fin (some (i,ti)) none rfl rfl rfl rfl
    | int j tj=>exact fin (some (i,ti)) (some (j,tj)) rfl rfl rfl rfl
theorem slice_hi (x:Str) (l:Option Int) (j:Nat):Txt.slice x l (some (j:Int))=Txt.slice x l (some ((min j x.length:Nat):Int)):=by
  have e:Builtin.Str.strSliceIndices l (some (j:Int)) 1 x.length=Builtin.Str.strSliceIndices l (some ((min j x.length:Nat):Int)) 1 x.length:=by
    unfold Builtin.Str.strSliceIndices
    simp only
    have e1:max 0 (min (if (j:Int) < 0 then (j:Int)+(x.length:Int) else (j:Int)) (x.length:Int))=max 0 (min (if ((min j x.length:Nat):Int) < 0 then ((min j x.length:Nat):Int)+(x.length:Int) else ((min j x.length:Nat):Int)) (x.length:Int)):=by
      rw [if_neg (by omega),if_neg (by omega)]
      omega
    rw [if_pos (by decide),e1]
    rfl
  unfold Txt.slice
  rw [e]
theorem slice_take (x:List Nat) (j:Nat):Txt.slice ⟨x.toArray⟩ none (some (j:Int))=⟨(x.take j).toArray⟩:=by
  rw [slice_hi]
  have h:=beq_iff_eq.mp (slice_closes_toL (x:=⟨x.toArray⟩) (j:=((min j x.length:Nat):Int)) (by omega) (by show _≤((x.length:Nat):Int);omega))
  refine h.trans ?_
  have e:((((min j x.length:Nat):Int)) - 0).toNat=min j x.length:=by omega
  rw [e]
  show (⟨((x.drop 0).take (min j x.length)).toArray⟩:Str)=_
  rw [List.drop_zero]
  by_cases hj:j≤x.length
  · rw [Nat.min_eq_left hj]
  · rw [Nat.min_eq_right (by omega),List.take_of_length_le (Nat.le_refl _),List.take_of_length_le (by omega)]
theorem slice_drop (x:List Nat) (i:Nat) (h:i≤x.length):Txt.slice ⟨x.toArray⟩ (some (i:Int)) none=⟨(x.drop i).toArray⟩:=by
  refine (slice_from_eq (x:=⟨x.toArray⟩) (i:=(i:Int)) (b:=((x.length:Nat):Int)) (by omega) (by show _≤((x.length:Nat):Int);omega) rfl).trans ?_
  show (⟨((x.drop i).take _).toArray⟩:Str)=_
  rw [List.take_of_length_le (by rw [List.length_drop];omega)]
end L2
namespace L2
open PySem PySem.Spec PyProof.Rows
section
variable {P:Program} {w:World} {A:Around} {E:Value→Shared→Prop}
end
end L2
namespace L2
open PySem PySem.Spec PyProof.Rows
abbrev iK (z:Str):Key:=Sum.inr z
def Cnt (ss:List Str) (c:Nat):Prop:=c≤ss.length∧(c=ss.length ↔ ss.Nodup)
theorem Cnt.nil:Cnt [] 0:=⟨Nat.le_refl _,by simp⟩
theorem Cnt.snoc {ss:List Str} {z:Str} {c:Nat} (h:Cnt ss c):Cnt (ss++[z]) (if z∈ss then c else c+1):=by
  obtain ⟨h1,h2⟩:=h
  by_cases hz:z∈ss
  · rw [if_pos hz]
    refine ⟨by rw [List.length_append];omega,⟨fun e=>?_,fun e=>?_⟩⟩
    · rw [List.length_append,List.length_singleton] at e
      omega
    · exact absurd rfl ((List.nodup_append.mp e).2.2 z hz z (by simp))
  · rw [if_neg hz]
    refine ⟨by rw [List.length_append,List.length_singleton];omega,⟨fun e=>?_,fun e=>?_⟩⟩
    · rw [List.length_append,List.length_singleton] at e
      have:=h2.mp (by omega)
      refine List.nodup_append.mpr ⟨this,by simp,fun a ha b hb e=>?_⟩
      have:b=z:=by simpa using hb
      exact hz (by rw [← this,← e];exact ha)
    · rw [List.length_append,List.length_singleton]
      have:=h2.mpr (List.nodup_append.mp e).1
      omega
def kin (ss:List Str) (k:Key):Bool:=ss.any fun z=>decide (k=iK z)
end L2
namespace L2
open PySem PySem.Spec PyProof.Rows
end L2
namespace L2
open PySem PySem.Spec PyProof.Rows PySem.W
abbrev Fcts:=List (Nat × Nat)
def has (L:Fcts) (i j:Nat):Bool:=L.any fun p=>p.1 == i && p.2 == j
structure Ord (b:Nat→Nat→Bool) (n:Nat):Prop where
  irr:∀ i,b i i=false
  trans:∀ i j k,b i j=true→b j k=true→b i k=true
  tot:∀ i j,i < n→j < n→i≠j→b i j=false→b j i=true
structure Sor (b:Nat→Nat→Bool) (n m:Nat) (p:Array Nat):Prop where
  size:p.size=n
  lt:∀ x∈p.toList,x < n
  nd:p.toList.Nodup
  up:(p.toList.take m).Pairwise fun x y=>b x y=true
theorem getD_at {p:Array Nat} {i:Nat} (h:i < p.size):p.toList[i]? = some (p.getD i 0):=by
  rw [Array.getElem?_toList,Array.getD,dif_pos h]
  exact Array.getElem?_eq_getElem h
theorem Sor.below {b:Nat→Nat→Bool} {n m:Nat} {p:Array Nat} (S:Sor b n m p) {i j:Nat} (hij:i < j) (hj:j < m) (hm:m≤n):b (p.getD i 0) (p.getD j 0)=true:=by
  have hs:=S.size
  have h1:(p.toList.take m)[i]? = some (p.getD i 0):=by rw [List.getElem?_take_of_lt (by omega)];exact getD_at (by omega)
  have h2:(p.toList.take m)[j]? = some (p.getD j 0):=by rw [List.getElem?_take_of_lt hj];exact getD_at (by omega)
  obtain ⟨l1,e1⟩:=List.getElem?_eq_some_iff.mp h1
  obtain ⟨l2,e2⟩:=List.getElem?_eq_some_iff.mp h2
  have:=List.pairwise_iff_getElem.mp S.up i j l1 l2 hij
  rw [e1,e2] at this
  exact this
theorem Sor.mem {b:Nat→Nat→Bool} {n m:Nat} {p:Array Nat} (S:Sor b n m p) {i:Nat} (h:i < n):p.getD i 0 < n:=S.lt _ (List.mem_of_getElem? (getD_at (by rw [S.size];exact h)))
theorem Sor.ne {b:Nat→Nat→Bool} {n m:Nat} {p:Array Nat} (S:Sor b n m p) {i j:Nat} (hij:i < j) (h:j < n):p.getD i 0≠p.getD j 0:=by
  have hs:=S.size
  obtain ⟨l1,e1⟩:=List.getElem?_eq_some_iff.mp (getD_at (p:=p) (i:=i) (by omega))
  obtain ⟨l2,e2⟩:=List.getElem?_eq_some_iff.mp (getD_at (p:=p) (i:=j) (by omega))
  have:=List.pairwise_iff_getElem.mp S.nd i j l1 l2 hij
  rw [e1,e2] at this
  exact this
end L2
namespace L2
open PySem PySem.Spec PyProof.Rows PySem.W
abbrev Tri:=Addr × Str × Str
abbrev d0:Tri:=(0,⟨#[]⟩,⟨#[]⟩)
end L2
namespace L2
open PySem PySem.Spec PyProof.Rows
abbrev sg (c:Nat):Str:=⟨#[c]⟩
abbrev ts (x:List Nat):Str:=⟨x.toArray⟩
end L2
namespace L2
open PySem PyProof.Rows
section
variable {X:Cx} {e est:Expr} {te ts:TE} {p2 pos:Pos}
end
end L2
namespace L2
open PySem PySem.Spec PyProof.Rows
open AutoSeq1 (wpAny_loadPart')
section
variable {X:Cx} {l:Expr} {ta:TA} {elts:List Expr} {k:Nat} {tp p pos:Pos}
end
end L2
namespace L2
open PySem PySem.Spec PyProof.Rows PySem.W
section
variable {K:PySem.W.Frag} {x D:Addr} {ox:Obj}
end
end L2
namespace L2
open PySem PySem.Spec PySem.Calls PyProof.Rows PySem.W
end L2
namespace L2
open PySem PySem.Spec PyProof.Rows
def rNeT (K:PySem.W.Frag):R2:=fun x y H Q=>(scal x y=true∧Q (.bl (!decide (x=y))) H)∨∃ (a:Addr) (xs:List V) (z:Str),x=.ref a∧y=.str z∧(H a=some (.lst xs)∨H a=some (.tup xs))∧Q (.bl true) H
theorem op_neT {X:Cx} (hu:X.A.units+64 < cLine):OpR X (compareOp .NotEq) (rNeT X.K):=by
  intro pins s σ H x y u v Q I rx ry h
  rcases h with h | ⟨a,xs,z,rfl,rfl,h,q⟩
  · exact op_ne pins s σ H x y u v Q I rx ry h
  · cases rx
    obtain ⟨t,rfl⟩:=ry
    rcases h with h | h
    · obtain ⟨i1,r1,p1,_⟩:=I.list (SqL.of h)
      exact PySem.SeqAt.RcNeAt.list_str z t p1.isList (by omega) X.prog X.w _ _ ⟨.bl true,H,I,rfl,q⟩
    · obtain ⟨i1,r1,p1,_⟩:=I.tuple (SqT.of h)
      exact PySem.SeqAt.RcNeAt.tuple_str z t p1 (by omega) X.prog X.w _ _ ⟨.bl true,H,I,rfl,q⟩
theorem op_neTK {X:Cx} (K:PySem.W.Frag) (hu:X.A.units+64 < cLine) (hK:X.K=K:=by rfl):OpR X (compareOp .NotEq) (rNeT K):=by subst hK;exact op_neT hu
end L2
namespace L2
end L2
namespace L2
open PySem PySem.SeqAt PySem.Spec PyProof.Rows
end L2
namespace L2
open PySem PySem.Spec PyProof.Rows
end L2
namespace L2
open PySem PySem.Spec PyProof.Rows
end L2
namespace L2
open PySem PySem.Spec PyProof.Rows PySem.SeqAt
end L2
namespace L2
open PySem PySem.Spec PyProof.Rows PySem.SeqAt
end L2
namespace L2
open PySem PySem.Spec PyProof.Rows
inductive VDec (K:PySem.W.Frag) (H:Hp):Nat→V→V→Bool→Prop where
  | flat {n:Nat} {x y:V} (hx:flatV x=true) (hy:flatV y=true):VDec K H n x y (eqV x y)
  | same {n:Nat} {a:Addr}:VDec K H n (.ref a) (.ref a) true
  | lt {n:Nat} {a b:Addr} {xs ys:List V} (ha:SqL K H a xs) (hb:SqT K H b ys):VDec K H n (.ref a) (.ref b) false
  | tup {n:Nat} {a b:Addr} {xs ys:List V} (e:Nat→Bool) (hne:a≠b) (ha:SqT K H a xs) (hb:SqT K H b ys) (h:∀ (i:Nat) x y,xs[i]? = some x→ys[i]? = some y→VDec K H n x y (e i)):VDec K H (n+1) (.ref a) (.ref b) ((List.range (min xs.length ys.length)).all e && xs.length == ys.length)
section
variable {X:Cx} {pins:List (Addr × Obj)} {σ:St} {H:Hp} {s:Shared}
theorem items_dec {A:Around} {e:Nat→Bool} {xs ys:List V} {i1 i2:List Value} (r1:Vals xs i1) (r2:Vals ys i2) (ih:∀ (i:Nat) x y u v,xs[i]? = some x→ys[i]? = some y→RelV x u→RelV y v→SeqAt.EqAt A s u v (e i)) :
    ∀ j (h1:j < i1.toArray.size) (h2:j < i2.toArray.size),SeqAt.EqAt A s i1.toArray[j] i2.toArray[j] (e j):=fun j h1 h2=>by
  have l1:=r1.length
  have l2:=r2.length
  have h1':j < xs.length:=by simpa [l1] using h1
  have h2':j < ys.length:=by simpa [l2] using h2
  obtain ⟨u1,f1,g1⟩:=r1.get (List.getElem?_eq_getElem h1')
  obtain ⟨u2,f2,g2⟩:=r2.get (List.getElem?_eq_getElem h2')
  have k1:i1.toArray[j]=u1:=by
    have:=(List.getElem?_eq_some_iff.mp f1).2
    simpa using this
  have k2:i2.toArray[j]=u2:=by
    have:=(List.getElem?_eq_some_iff.mp f2).2
    simpa using this
  rw [k1,k2]
  exact ih j _ _ _ _ (List.getElem?_eq_getElem h1') (List.getElem?_eq_getElem h2') g1 g2
theorem tup_dec {A:Around} {e:Nat→Bool} {a b:Addr} {xs ys:List V} {i1 i2:List Value} (r1:Vals xs i1) (r2:Vals ys i2) (p1:IsTup s.heap a i1.toArray) (p2:IsTup s.heap b i2.toArray) (hu:A.units < cLine)
    (ih:∀ (i:Nat) x y u v,xs[i]? = some x→ys[i]? = some y→RelV x u→RelV y v→SeqAt.EqAt A.in1 s u v (e i)):SeqAt.RcAt A s (.ref a) (.ref b) ((List.range (min xs.length ys.length)).all e && xs.length == ys.length):=by
  have:=SeqAt.RcAt.tuples (e:=e) p1 p2 hu (items_dec r1 r2 ih)
  have l1:i1.toArray.size=xs.length:=by rw [List.size_toArray];exact r1.length.symm
  have l2:i2.toArray.size=ys.length:=by rw [List.size_toArray];exact r2.length.symm
  rwa [l1,l2] at this
theorem dec_deep (I:Inv X pins σ H s):∀ {n:Nat} {x y:V} {k:Bool},VDec X.K H n x y k→∀ {u v:Value} (A:Around),RelV x u→RelV y v→A.units+n < cLine→SeqAt.EqAt A s u v k:=by
  intro n x y k h
  induction h with
  | flat hx hy =>
    intro u v A ru rv _
    exact eqAt_V ru rv hx hy
  | same =>
    intro u v A ru rv _
    cases ru
    cases rv
    exact SeqAt.EqAt.same _
  | lt ha hb =>
    intro u v A ru rv hu
    cases ru
    cases rv
    obtain ⟨i1,r1,p1,_⟩:=I.list ha
    obtain ⟨i2,r2,p2,_⟩:=I.tuple hb
    exact SeqAt.EqAt.list_tuple p1.isList p2 (by omega)
  | tup e hne ha hb h ih =>
    rename_i n a b xs ys
    intro u v A ru rv hu
    cases ru
    cases rv
    obtain ⟨i1,r1,p1,_⟩:=I.tuple ha
    obtain ⟨i2,r2,p2,_⟩:=I.tuple hb
    refine SeqAt.EqAt.of_refs hne (tup_dec r1 r2 p1 p2 (by omega) fun i x y u v e1 e2 g1 g2=>ih i x y e1 e2 A.in1 g1 g2 ?_)
    show A.units+1+n < cLine
    omega
end
def rEqT (K:PySem.W.Frag):R2:=fun x y H Q=>∃ (n:Nat) (a b:Addr) (xs ys:List V) (e:Nat→Bool),x=.ref a∧y=.ref b∧SqT K H a xs∧SqT K H b ys∧(∀ (i:Nat) x y,xs[i]? = some x→ys[i]? = some y→VDec K H n x y (e i))∧n≤30∧Q (.bl ((List.range (min xs.length ys.length)).all e && xs.length == ys.length)) H
theorem op_eqT {X:Cx} (hu:X.A.units+64 < cLine):OpR X (compareOp .Eq) (rEqT X.K):=by
  intro pins s σ H x y u v Q I rx ry h
  obtain ⟨n,a,b,xs,ys,e,rfl,rfl,ha,hb,hd,hn,q⟩:=h
  cases rx
  cases ry
  obtain ⟨i1,r1,p1,_⟩:=I.tuple ha
  obtain ⟨i2,r2,p2,_⟩:=I.tuple hb
  refine tup_dec r1 r2 p1 p2 (by omega) (fun i x y u v e1 e2 g1 g2=>dec_deep I (hd i x y e1 e2) X.A.in1 g1 g2 ?_) X.prog X.w _ _ ⟨.bl _,H,I,rfl,q⟩
  show X.A.units+1+n < cLine
  omega
theorem op_eqTK {X:Cx} (K:PySem.W.Frag) (hu:X.A.units+64 < cLine) (hK:X.K=K:=by rfl):OpR X (compareOp .Eq) (rEqT K):=by subst hK;exact op_eqT hu
end L2
namespace L2
open PySem PySem.Spec PyProof.Rows
end L2
namespace L2
open PySem PySem.Spec PyProof.Rows
def rSortT (K:PySem.W.Frag):List V→Hp→VK→Prop:=fun xs H Q=>∃ (p:Addr) (b:Bool) (ss:List Str),xs=[.ref p]∧SqA K H p (ss.map V.str) b∧ss.length < 64 ∧
  ∀ l (ss':List Str),H l=none→ss'.Perm ss→sortedS ss'=true→Q (.ref l) (upd H l (.lst (ss'.map V.str)))
theorem call_sortT {X:Cx}:CallR X (.builtin "sorted") (rSortT X.K):=by
  intro pins s σ H xs us Q I r h
  obtain ⟨p,b,ss,rfl,hS,h64,q⟩:=h
  obtain ⟨u,rfl,ru⟩:=vals1 r
  cases ru
  obtain ⟨its,rv,pA,hz⟩:=I.seqA hS
  have hST:StrsAre its ss:=strsAre_of rv
  have hil:its.length=ss.length:=by rw [← rv.length,List.length_map]
  obtain ⟨T,o,hT',ho,hc,k,hd⟩:∃ T o,(T = "list"∨T = "tuple")∧s.heap.get? p=some o∧o.cls=.type T∧∃ k,o.data=.seq its.toArray k:=by
    cases b with
    | false =>
      obtain ⟨o,h1,h2,k,h3⟩:=(show s.heap.IsList p _ from pA)
      exact ⟨"list",o,.inl rfl,h1,h2,k,h3⟩
    | true =>
      obtain ⟨o,h1,h2,k,h3⟩:=(show IsTup s.heap p _ from pA)
      exact ⟨"tuple",o,.inr rfl,h1,h2,k,h3⟩
  have hbig:1000≤sizeLine:=by decide
  refine Calls.call_function_entry kind_sorted plain_sorted entry_sorted (args_sorted1 _) ?_
  unfold Builtin.«sorted»
  refine wpAny_bind (m:=checkCount "sorted" 1 1 _) (wpAny_pure ?_)
  refine wpAny_bind (wpAny_collect_seq p hT' ho hc hd (fun h' hkp=>?_) (by simp;omega))
  refine wpAny_bind (wpAny_newList ?_ (by simp;omega))
  have hoL:(h'.push { cls:=.type "list",data:=.seq its.toArray.toList.toArray }).get? h'.objs.size=some (seqObj "list" its.toArray 0):=Heap.get?_push_size _ rfl
  refine wpAny_bind (wpAny_holding (wpAny_call_entry slot_list_sort ⟨_,hoL,rfl⟩ entry_list_sort (list_sort_treeK strKind_oneLt hoL hST.keysOf (fun v₁ v₂ rest e=>keyKind_strs (by rw [← e];exact hST)) (by rw [hil];exact h64) fun st' a1 a2=>⟨_,rfl,?_⟩) (args_list_sort _)))
  obtain ⟨ss',b1,b2,b3⟩:=sorted_out_str hST a1 a2
  refine wpAny_pure ⟨_,rfl,?_⟩
  have keep:∀ b o,s.heap.get? b=some o→(sortedHeap (h'.push { cls:=.type "list",data:=.seq its.toArray.toList.toArray }) h'.objs.size its ((arrOf st').map (·.2))).get? b=some o∧b≠h'.objs.size:=fun b o e=>by
    have e1:=hkp b o e
    have lt:=Heap.lt_size e1
    refine ⟨?_,Nat.ne_of_lt lt⟩
    rw [sortedHeap_old (Nat.ne_of_lt lt) (by rw [Heap.size_push];exact Nat.lt_succ_of_lt lt)]
    exact Heap.get?_push_of_some _ e1
  have hn:H h'.objs.size=none:=by
    cases e:H h'.objs.size with
    | none=>rfl
    | some o =>
      obtain ⟨ob,e1⟩:=(I.hok _ _ e).there
      exact absurd (Heap.lt_size (hkp _ _ e1)) (Nat.lt_irrefl _)
  obtain ⟨n',hat'⟩:∃ n',(sortedHeap (h'.push { cls:=.type "list",data:=.seq its.toArray.toList.toArray }) h'.objs.size its ((arrOf st').map (·.2))).get? h'.objs.size=some (seqObj "list" ((arrOf st').map (·.2)) n'):=sortedHeap_at hoL
  have hsl:ss'.length≤sizeLine:=by
    have h1:=b2.length_eq
    rw [h1];omega
  refine ⟨.ref h'.objs.size,upd H h'.objs.size (.lst (ss'.map V.str)),?_,rfl,q _ _ hn b2 b3⟩
  have J:=Inv.laid2 (X:=X) (t':=s.toks) (o:=.lst (ss'.map V.str)) I keep hn ⟨by rw [List.length_map];exact hsl,((arrOf st').map (·.2)).toList,n',vals_strs b1,by rw [hat']⟩
  exact J
theorem call_sortTK {X:Cx} (K:PySem.W.Frag) (hK:X.K=K:=by rfl):CallR X (.builtin "sorted") (rSortT K):=by subst hK;exact call_sortT
end L2
namespace L2
open PySem PySem.Spec PyProof.Rows
end L2
namespace L2
open PySem PySem.Spec PyProof.Rows
def oneS (x:Str):List Str:=x.cps.toList.map fun c=>⟨#[c]⟩
end L2
namespace L2
open PySem PySem.Spec PyProof.Rows PySem.W
end L2
namespace L2
open PySem PySem.Spec PyProof.Rows
end L2
namespace L2
open PySem PySem.Spec PyProof.Rows
def TopOf (n:Nat) (val:Nat→Int) (d0 v:Value):Prop:=(n=0∧v=d0)∨∃ z t,v=.int z t∧(∃ j,j < n∧z=val j)∧∀ j,j < n→val j≤z
def BestIs (i:Nat) (val:Nat→Int) (bs:Array Value):Prop:=(i=0∧bs = #[])∨∃ z t,bs = #[.int z t,.int z t]∧(∃ j,j < i∧z=val j)∧∀ j,j < i→val j≤z
theorem mx_loop {P:Program} {w:World} {A:Around} {I:Addr} {fp wr:List Addr} {n:Nat} {Pv:Nat→Value→Prop} {St:Nat→Heap→Prop} {R:Result→Shared→Prop}
    (W:Walks P w A.in1 I fp wr n Pv St) (val:Nat→Int) (hval:∀ i v,Pv i v→∃ t,v=.int (val i) t) (S:Addr) (hSf:S ∉ fp) (d0:Value) :
    ∀ (m i:Nat) (s:Shared) (bs:Array Value) (c:Nat),i+m=n→St i s.heap→s.heap.get? S=some { cls:=.type "list",dict:=none,data:=.seq bs c,slots:=#[] }→BestIs i val bs →
      (∀ v h' tk,TopOf n val d0 v→(∀ b o,b ∉ wr→b≠S→s.heap.get? b=some o→h'.get? b=some o)→R (.ok (.ret v)) { s with heap:=h',toks:=tk }) →
      codeAny (model P w) A (.builtin "max.loop" ⟨[.ref I,.none,.ref S],[(Str.ofString "default",d0)]⟩) R s
  | 0,i,s,bs,c,hi,hst,hS,hb,hR=>by
    have hSw:S ∉ wr:=fun h=>hSf (W.sub _ h)
    have e:i=n:=by omega
    subst e
    refine codeAny_builtin F.entry_max_loop ?_;rw [Around.under_plainId F.plain_max_loop _]
    show wpAny _ _ (seqItems? (.ref S) >>= _) _ _ s;refine wpAny_bind (wpAny_seqItems hS rfl ?_)
    show wpAny _ _ (tryCatch (pyNext (.ref I)) _ >>= _) _ _ s;refine wpAny_bind (wpAny_tryCatch (W.done s _ _ hst fun h' tk hk'=>?_))
    have hS':=hk' S _ hSw hS
    rcases hb with ⟨h0,rfl⟩ | ⟨z,t,rfl,hz1,hz2⟩
    · show wpAny _ _ (rule _ >>= _) _ _ _;refine wpAny_bind (wpAny_rule (wpAny_pure ?_))
      exact hR d0 h' tk (.inl ⟨h0,rfl⟩) fun b o hbw _ e=>hk' b o hbw e
    · show wpAny _ _ (updateSeq S (fun _=>#[]) >>= _) _ _ _;refine wpAny_bind (wpAny_updateSeq hS' rfl (wpAny_bind (wpAny_letGo (wpAny_pure ?_))))
      refine hR _ _ tk (.inr ⟨z,t,rfl,hz1,hz2⟩) fun b o hbw hbS e=>?_
      rw [Heap.get?_update_other _ _ (Ne.symm hbS)];exact hk' b o hbw e
  | m+1,i,s,bs,c,hi,hst,hS,hb,hR=>by
    have hSw:S ∉ wr:=fun h=>hSf (W.sub _ h)
    have hlt:i < n:=by omega
    have hname:(toString "max"++toString ".loop" : String) = "max.loop":=by decide
    refine codeAny_builtin F.entry_max_loop ?_;rw [Around.under_plainId F.plain_max_loop _]
    show wpAny _ _ (seqItems? (.ref S) >>= _) _ _ s;refine wpAny_bind (wpAny_seqItems hS rfl ?_)
    show wpAny _ _ (tryCatch (pyNext (.ref I)) _ >>= _) _ _ s;refine wpAny_bind (wpAny_tryCatch (W.item i s _ _ hlt hst fun v h' tk hP hst' hk'=>?_))
    have hS':=hk' S _ hSw hS
    obtain ⟨t2,rfl⟩:=hval i v hP
    rcases hb with ⟨h0,rfl⟩ | ⟨z,t,rfl,⟨j,hj,hzj⟩,hz2⟩
    · show wpAny _ _ (updateSeq S (fun _=>#[.int (val i) t2,.int (val i) t2]) >>= _) _ _ _
      refine wpAny_bind (wpAny_updateSeq hS' rfl ?_);rw [hname]
      refine wpAny_pure ⟨plainId_quiet F.plain_max_loop _,mx_loop W val hval S hSf d0 m (i+1) _ _ _ (by omega) (W.frame _ _ _ hst' fun b hbf o e=>?_) (Heap.get?_update_self _ hS' rfl) (.inr ⟨val i,t2,rfl,⟨i,by omega,rfl⟩,fun j hj=>?_⟩) fun v' h'' tk'' hv' hk''=>?_⟩
      · rw [Heap.get?_update_other _ _ (fun h:S=b=>hSf (by rw [h];exact hbf))];exact e
      · have:j=i:=by omega
        rw [this];exact Int.le_refl _
      · refine hR v' h'' tk'' hv' fun b o hbw hbS e=>hk'' b o hbw hbS ?_
        rw [Heap.get?_update_other _ _ (Ne.symm hbS)];exact hk' b o hbw e
    · show wpAny _ _ (tryCatch (holding [.int (val i) t2,.int (val i) t2] (richCompare .Gt (.int (val i) t2) (.int z t) >>= _)) _ >>= _) _ _ _
      have cmp:∀ (Q':Value→Shared→Prop) (E':Value→Shared→Prop) (s':Shared),Q' (.bool (decide (val i > z))) s'→wpAny (model P w) A.in1 (richCompare .Gt (.int (val i) t2) (.int z t)) Q' E' s':=fun Q' E' s' q =>
        richCompare_gives (op:=.Gt) (typeIs_int s' _ t2) (typeIs_int s' _ t) F.slot_int_gt F.entry_int_gt (F.args_int_gt_2 _ _) (gives_int_gt _ _ t2 t) (fun x=>nomatch x) q
      refine wpAny_bind (wpAny_tryCatch (wpAny_holding (wpAny_bind (cmp _ _ _ ?_))))
      refine wpAny_bind (wpAny_holding (wpAny_truthy_bool ?_));refine wpAny_bind (wpAny_letGo (wpAny_pure ?_))
      by_cases hgt:val i > z
      · rw [decide_eq_true hgt,if_pos rfl]
        refine wpAny_bind (wpAny_updateSeq hS' rfl (wpAny_bind (wpAny_letGo ?_)));rw [hname]
        refine wpAny_pure ⟨plainId_quiet F.plain_max_loop _,mx_loop W val hval S hSf d0 m (i+1) _ _ _ (by omega) (W.frame _ _ _ hst' fun b hbf o e=>?_) (Heap.get?_update_self _ hS' rfl) (.inr ⟨val i,t2,rfl,⟨i,by omega,rfl⟩,fun j hj=>?_⟩) fun v' h'' tk'' hv' hk''=>?_⟩
        · rw [Heap.get?_update_other _ _ (fun h:S=b=>hSf (by rw [h];exact hbf))];exact e
        · by_cases h:j < i
          · have:=hz2 j h
            omega
          · have:j=i:=by omega
            rw [this];exact Int.le_refl _
        · refine hR v' h'' tk'' hv' fun b o hbw hbS e=>hk'' b o hbw hbS ?_
          rw [Heap.get?_update_other _ _ (Ne.symm hbS)];exact hk' b o hbw e
      · rw [decide_eq_false hgt,if_neg (by decide)]
        refine wpAny_bind (wpAny_letGo ?_);rw [hname]
        refine wpAny_pure ⟨plainId_quiet F.plain_max_loop _,mx_loop W val hval S hSf d0 m (i+1) _ _ c (by omega) hst' hS' (.inr ⟨z,t,rfl,⟨j,by omega,hzj⟩,fun j hj=>?_⟩) fun v' h'' tk'' hv' hk''=>?_⟩
        · by_cases h:j < i
          · exact hz2 j h
          · have:j=i:=by omega
            rw [this];omega
        · exact hR v' h'' tk'' hv' fun b o hbw hbS e=>hk'' b o hbw hbS (hk' b o hbw e)
theorem args_maxD (a d:Value):argsOk "max" ⟨[a],[(Str.ofString "default",d)]⟩:=by unfold argsOk;kernel_rfl
def MaxIs (ns:List Int) (d m:Int):Prop:=(ns=[]∧m=d)∨(m∈ns∧∀ x∈ns,x≤m)
def rMaxD (K:PySem.W.Frag) (d:Int):List V→Hp→VK→Prop:=fun xs H Q=>∃ (a:Addr) (ns:List Int),xs=[.ref a]∧SqL K H a (ns.map V.int)∧∀ m,MaxIs ns d m→Q (.int m) H
theorem call_maxD {P:Program} {w:World} {A:Around} {E:Value→Shared→Prop} {s:Shared} {l:Addr} {its:List Value} {ns:List Int} {d:Int} {t:Tok} {Q:Value→Shared→Prop} (hh:A.in1.handled=none) (hl:s.heap.IsList l its.toArray) (hn:its.length=ns.length)
    (hv:∀ i v,its[i]? = some v→∃ t,v=Value.int (ns.getD i 0) t) (h:∀ m t' h' tk,MaxIs ns d m→(∀ b o,s.heap.get? b=some o→h'.get? b=some o)→Q (.int m t') { s with heap:=h',toks:=tk }) :
    wpAny (model P w) A (call (.builtin "max") [.ref l] [(Str.ofString "default",Value.int d t)]) Q E s:=by
  have hlt:l < s.heap.objs.size:=by obtain ⟨o,ho,_⟩:=hl;exact Heap.lt_size ho
  have hname:(toString "max"++toString ".loop" : String) = "max.loop":=by decide
  refine kmb_tree F.kind_max F.plain_max F.entry_max (args_maxD _ _) ?_
  show wpAny _ A.in1 (Builtin.Builtins.bindParams "max" ["key","default"] 0 ⟨[],[(Str.ofString "default",Value.int d t)]⟩ >>= _) _ _ s
  refine wpAny_bind (wpAny_of_eq (show Builtin.Builtins.bindParams "max" ["key","default"] 0 ⟨[],[(Str.ofString "default",Value.int d t)]⟩=pure [none,some (Value.int d t)] from rfl) ?_)
  refine wpAny_bind (wpAny_pure (wpAny_bind (wpAny_pyIter_list hl ?_)))
  refine wpAny_bind (wpAny_newObj_type ?_);rw [hname]
  have hSf:(s.heap.push { cls:=.type "list_iterator",data:=.fields #[.ref l,.int 0 0] }).objs.size ∉ [s.heap.objs.size,l]:=by
    rw [Heap.size_push]
    intro hm
    rcases List.mem_cons.mp hm with e | hm
    · exact absurd e (Nat.succ_ne_self _)
    · rw [List.mem_singleton] at hm
      rw [← hm] at hlt
      exact absurd hlt (Nat.not_lt.mpr (Nat.le_succ _))
  refine wpAny_pure ⟨plainId_quiet F.plain_max_loop _,mx_loop (Walks.list (prog:=P) (w:=w) (A:=A.in1) hh s.heap.objs.size l (Nat.ne_of_lt hlt) its.toArray) (fun i=>ns.getD i 0) (fun i v e=>hv i v (by simpa using e)) _ hSf (.int d t) its.toArray.size 0 _ #[] 0 (by omega) ⟨⟨_,Heap.get?_push_of_some _ (Heap.get?_push_size _ rfl),rfl,rfl⟩,(hl.push _).push _⟩ (Heap.get?_push_size _ rfl) (.inl ⟨rfl,rfl⟩) fun v h' tk hT hk=>?_⟩
  have hk':∀ b o,s.heap.get? b=some o→h'.get? b=some o:=fun b o e=>by
    have lt:=Heap.lt_size e
    refine hk b o (fun z=>?_) ?_ (Heap.get?_push_of_some _ (Heap.get?_push_of_some _ e))
    · rw [List.mem_singleton] at z
      rw [z] at lt
      exact absurd lt (Nat.lt_irrefl _)
    · rw [Heap.size_push]
      exact Nat.ne_of_lt (Nat.lt_succ_of_lt lt)
  have hsz:its.toArray.size=ns.length:=by rw [List.size_toArray,hn]
  rw [hsz] at hT
  rcases hT with ⟨h0,rfl⟩ | ⟨z,t',rfl,⟨j,hj,hz⟩,hz2⟩
  · exact h d t h' tk (.inl ⟨List.eq_nil_of_length_eq_zero h0,rfl⟩) hk'
  · refine h z t' h' tk (.inr ⟨?_,fun x hx=>?_⟩) hk'
    · rw [hz]
      show ns.getD j 0∈ns
      rw [List.getD_eq_getElem?_getD,List.getElem?_eq_getElem hj]
      exact List.getElem_mem hj
    · obtain ⟨i,hi⟩:=List.mem_iff_getElem?.mp hx
      have:ns.getD i 0≤z:=hz2 i (List.getElem?_eq_some_iff.mp hi).1
      rw [List.getD_eq_getElem?_getD,hi] at this
      exact this
theorem pe_maxD {X:Cx} {e:Expr} {t:TA} {d:Int} {j:Nat} {p p1 p2 pos:Pos} (hc:X.calm=true) (hg:Gl X "max") (hm:X.mg "max" = none) (ha:PA X [e] t)
    (hb:backTo pos (starEach [e] X.env)=(false,eval e X.env) :: backTo pos (starEach [] X.env):=by rfl) (hp:(backTo pos (starEach [e] X.env)).any (·.1)=false:=by rfl) :
    PE X (.Call (.Name "max" p) [e] [⟨some "default",.Constant (.int d) j p1,p2⟩] pos) (tCB (rMaxD X.K d) t):=by
  intro pins s σ H Q I h
  refine wpAny_Call_Name_kw (ld_blt I hg hm (show bootBuiltins "max" = some (.builtin "max") by decide +kernel) ?_)
  refine callWith_kw (thn (ha pos pins s σ H _ I h) fun us s1 ⟨vs,H1,I1,r1,q1⟩=>?_) hb hp
  refine kws_cons (wpAny_Constant_int (kws_nil ?_))
  obtain ⟨a,ns,rfl,hq,q⟩:=q1
  obtain ⟨u,rfl,ru⟩:=vals1 r1
  cases ru
  obtain ⟨its,rv,pl,hz⟩:=I1.list hq
  have lb:its.length=ns.length:=by have:=rv.length;rw [List.length_map] at this;exact this.symm
  show wpAny _ _ (call (.builtin "max") [.ref a] [(Str.ofString "default",Value.int d s1.toks)]) _ _ _
  refine call_maxD (I1.ok.hd hc) pl.isList lb (fun i v e=>?_) fun m t' h' tk hM hk=>?_
  · have hi:i < ns.length:=by rw [← lb];exact (List.getElem?_eq_some_iff.mp e).1
    obtain ⟨u,hu,ru⟩:=rv.get (i:=i) (x:=V.int ns[i]) (by rw [List.getElem?_map,List.getElem?_eq_getElem hi];rfl)
    rw [e] at hu
    cases hu
    obtain ⟨t,rfl⟩:=ru
    exact ⟨t,by rw [List.getD_eq_getElem?_getD,List.getElem?_eq_getElem hi];rfl⟩
  · exact ⟨.int m,H1,I1.kept (t':=tk) hk,⟨t',rfl⟩,q m hM⟩
theorem pe_maxDK {X:Cx} (K:PySem.W.Frag) {e:Expr} {t:TA} {d:Int} {j:Nat} {p p1 p2 pos:Pos} (hc:X.calm=true) (hg:Gl X "max") (hm:X.mg "max" = none) (ha:PA X [e] t) (hK:X.K=K:=by rfl)
    (hb:backTo pos (starEach [e] X.env)=(false,eval e X.env) :: backTo pos (starEach [] X.env):=by rfl) (hp:(backTo pos (starEach [e] X.env)).any (·.1)=false:=by rfl) :
    PE X (.Call (.Name "max" p) [e] [⟨some "default",.Constant (.int d) j p1,p2⟩] pos) (tCB (rMaxD K d) t):=by subst hK;exact pe_maxD hc hg hm ha hb hp
end L2
namespace L2
open PySem PySem.Spec PyProof.Rows
def rInW (K:PySem.W.Frag):R2:=fun x y H Q=>rIn K false x y H Q∨∃ a o,y=.ref a∧DGet H a x o∧Q (.bl o.isSome) H
theorem op_inW {X:Cx} (K:PySem.W.Frag) (hu:X.A.units+1 < cLine) (hK:X.K=K:=by rfl):OpR X (compareOp .In) (rInW K):=by
  intro pins s σ H x y v u Q I rx ry h
  rcases h with h | ⟨a,ov,rfl,g,q⟩
  · exact op_in_seqK K hK pins s σ H x y v u Q I rx ry h
  · obtain rfl:u=Value.ref a:=ry
    exact d_in hu I g rx fun s3 I3=>⟨.bl ov.isSome,H,I3,rfl,q⟩
def rSortS:List V→Hp→VK→Prop:=fun xs H Q=>∃ z:Str,xs=[.str z]∧z.length < 64∧∀ l ss',H l=none→ss'.Perm (oneS z)→sortedS ss'=true→Q (.ref l) (upd H l (.lst (ss'.map V.str)))
theorem call_sort_text {X:Cx} (hc:X.calm=true):CallR X (.builtin "sorted") rSortS:=by
  intro pins s σ H xs us Q I r h
  obtain ⟨z,rfl,h64,q⟩:=h
  obtain ⟨u,rfl,t,rfl⟩:=vals1 r
  have hz:z.cps.size < 64:=h64
  have hzl:z.cps.size≤sizeLine:=Nat.le_of_lt (Nat.lt_of_lt_of_le hz (by decide))
  refine Calls.call_function_entry kind_sorted plain_sorted entry_sorted (args_sorted1 _) ?_
  unfold Builtin.«sorted»
  refine wpAny_bind (m:=checkCount "sorted" 1 1 _) (wpAny_pure ?_)
  refine wpAny_bind (wpAny_collect_str (A:=X.A.in1) (I.ok.hd hc) z t (fun s' acc hkp g1 g2 g3 hacc=>?_) hzl)
  obtain ⟨h',gn,dr,tk,os'⟩:=s'
  obtain rfl:gn=s.gens:=g1
  obtain rfl:dr=s.drawn:=g2
  obtain rfl:os'=s.os:=g3
  have hal:acc.toList.length=z.cps.size:=by rw [Array.length_toList];exact hacc.1
  have hS:StrsAre acc.toList (oneS z):=by
    refine strsAre_of (vals_by (by rw [List.length_map,hal];unfold oneS;rw [List.length_map,Array.length_toList]) fun i x u e1 e2=>?_)
    obtain ⟨c,t',e3,rfl⟩:=hacc.2 i u (by rw [← Array.getElem?_toList];exact e2)
    unfold oneS at e1
    rw [List.getElem?_map,List.getElem?_map,Array.getElem?_toList,e3] at e1
    cases e1
    exact ⟨t',rfl⟩
  refine wpAny_bind (wpAny_newList ?_ (by rw [hal];exact hzl))
  have hoL:(h'.push { cls:=.type "list",data:=.seq acc.toList.toArray }).get? h'.objs.size=some (seqObj "list" acc.toList.toArray 0):=Heap.get?_push_size _ rfl
  refine wpAny_bind (wpAny_holding (wpAny_call_entry slot_list_sort ⟨_,hoL,rfl⟩ entry_list_sort (list_sort_treeK strKind_oneLt hoL hS.keysOf (fun v₁ v₂ rest e=>keyKind_strs (by rw [← e];exact hS)) (by rw [hal];exact hz) fun st' a1 a2=>⟨_,rfl,?_⟩) (args_list_sort _)))
  obtain ⟨ss',b1,b2,b3⟩:=sorted_out_str hS a1 a2
  refine wpAny_pure ⟨_,rfl,?_⟩
  have keep:∀ b o,s.heap.get? b=some o→(sortedHeap (h'.push { cls:=.type "list",data:=.seq acc.toList.toArray }) h'.objs.size acc.toList ((arrOf st').map (·.2))).get? b=some o∧b≠h'.objs.size:=fun b o e=>by
    have e1:=hkp b o e
    have lt:=Heap.lt_size e1
    refine ⟨?_,Nat.ne_of_lt lt⟩
    rw [sortedHeap_old (Nat.ne_of_lt lt) (by rw [Heap.size_push];exact Nat.lt_succ_of_lt lt)]
    exact Heap.get?_push_of_some _ e1
  have hn:H h'.objs.size=none:=by
    cases e:H h'.objs.size with
    | none=>rfl
    | some o =>
      obtain ⟨ob,e1⟩:=(I.hok _ _ e).there
      exact absurd (Heap.lt_size (hkp _ _ e1)) (Nat.lt_irrefl _)
  obtain ⟨n',hat'⟩:∃ n',(sortedHeap (h'.push { cls:=.type "list",data:=.seq acc.toList.toArray }) h'.objs.size acc.toList ((arrOf st').map (·.2))).get? h'.objs.size=some (seqObj "list" ((arrOf st').map (·.2)) n'):=sortedHeap_at hoL
  have hsl:ss'.length≤sizeLine:=by
    rw [b2.length_eq]
    unfold oneS
    rw [List.length_map,Array.length_toList]
    exact hzl
  refine ⟨.ref h'.objs.size,upd H h'.objs.size (.lst (ss'.map V.str)),?_,rfl,q _ _ hn b2 b3⟩
  have J:=Inv.laid2 (X:=X) (t':=tk) (o:=.lst (ss'.map V.str)) I keep hn ⟨by rw [List.length_map];exact hsl,((arrOf st').map (·.2)).toList,n',vals_strs b1,by rw [hat']⟩
  exact J
end L2
namespace PySem
end PySem
namespace L2
open PySem PySem.Spec PyProof.Rows
def byT (w:World):Bool:=w.params.followText "set-order"
abbrev hT (P:Program) (w:World) (z:Str):Int:=(mixKind P w).hash (Sum.inr z:Key)
abbrev eT (P:Program) (w:World) (p:Str × Tok):Int × Value:=(hT P w p.1,.str p.1 p.2)
structure SetTx (P:Program) (w:World) (h:Heap) (a:Addr) (ss:List Str):Prop where
  ex:∃ (o:Obj) (es:Array (Int × Value)) (ep:Nat) (t:SetTable) (ts:List (Str × Tok)),h.get? a=some o∧o.ExactSet∧o.data=.set es ep t∧es.toList=ts.map (eT P w)∧(ts.map (·.1)).Nodup∧(∀ z,z∈ts.map (·.1) ↔ z∈ss)∧ts.length≤ss.length∧t.fits es.size=true∧(byT w=true∨t.led=true)∧(es.size=0∨t.plain=false)
theorem SetTx.keep {P:Program} {w:World} {h h':Heap} {a:Addr} {ss:List Str} (x:SetTx P w h a ss) (k:∀ o,h.get? a=some o→h'.get? a=some o):SetTx P w h' a ss:=by
  obtain ⟨o,es,ep,t,ts,h1,r⟩:=x.ex
  exact ⟨o,es,ep,t,ts,k o h1,r⟩
section
variable {P:Program} {w:World} {A:Around} {E:Value→Shared→Prop} {s:Shared}
end
end L2
namespace L2
open PySem PySem.Spec PyProof.Rows
section
variable {P:Program} {w:World} {A:Around} {E:Value→Shared→Prop} {s:Shared}
end
end L2
namespace PySem
namespace F
end F
def IsSI (h:Heap) (I:Addr) (f0:Value) (i:Nat) (a:Addr) (n ep:Nat):Prop:=∃ o,h.get? I=some o∧o.cls=.type "set_iterator"∧o.data=.fields #[f0,rawInt (i:Int),.ref a,rawInt (n:Int),rawInt (ep:Int)]
def SetIs (h:Heap) (a:Addr) (es:Array (Int × Value)) (ep:Nat) (t:SetTable):Prop:=∃ o,h.get? a=some o∧o.cls=.type "set"∧o.data=.set es ep t
section
variable {P:Program} {w:World} {A:Around} {E:Value→Shared→Prop} {s:Shared}
theorem IsSI.ty {I a:Addr} {f0:Value} {i n ep:Nat} (x:IsSI s.heap I f0 i a n ep):s.TypeIs (.ref I) "set_iterator":=let ⟨o,h,c,_⟩:=x;⟨o,h,c⟩
theorem IsSI.at {h h':Heap} {I a:Addr} {f0:Value} {i n ep:Nat} (x:IsSI h I f0 i a n ep) (k:∀ o,h.get? I=some o→h'.get? I=some o):IsSI h' I f0 i a n ep:=let ⟨o,e,r⟩:=x;⟨o,k o e,r⟩
theorem SetIs.at {h h':Heap} {a:Addr} {es:Array (Int × Value)} {ep:Nat} {t:SetTable} (x:SetIs h a es ep t) (k:∀ o,h.get? a=some o→h'.get? a=some o):SetIs h' a es ep t:=let ⟨o,e,r⟩:=x;⟨o,k o e,r⟩
end
end PySem
namespace L2
open PySem PySem.Spec PyProof.Rows
theorem SetTx.is {P:Program} {w:World} {h:Heap} {a:Addr} {ss:List Str} (x:SetTx P w h a ss):∃ (es:Array (Int × Value)) (ep:Nat) (t:SetTable) (ts:List (Str × Tok)),SetIs h a es ep t∧es.toList=ts.map (eT P w)∧(ts.map (·.1)).Nodup∧(∀ z,z∈ts.map (·.1) ↔ z∈ss)∧ts.length≤ss.length∧t.fits es.size=true∧(byT w=true∨t.led=true)∧(es.size=0∨t.plain=false):=by
  obtain ⟨o,es,ep,t,ts,h1,h2,h3,r⟩:=x.ex
  exact ⟨es,ep,t,ts,⟨o,h1,h2.1,h3⟩,r⟩
section
variable {P:Program} {w:World}
end
end L2
namespace L2
open PySem PySem.Spec PyProof.Rows
section
variable {P:Program} {w:World} {A:Around} {E:Value→Shared→Prop} {s:Shared}
end
end L2
namespace L2
open PySem PySem.Spec PyProof.Rows
theorem nd_len {α:Type} [DecidableEq α]:∀ {us L:List α},us.Nodup→(∀ z∈us,z∈L)→us.length≤L.length
  | [],_,_,_=>Nat.zero_le _
  | u :: us,L,nd,h=>by
    obtain ⟨h1,h2⟩:=List.nodup_cons.mp nd
    have hu:=h u List.mem_cons_self
    have:=nd_len (us:=us) (L:=L.erase u) h2 fun z hz=>(List.mem_erase_of_ne (fun e:z=u=>h1 (by rw [← e];exact hz))).mpr (h z (List.mem_cons_of_mem _ hz))
    have e:=List.length_erase_of_mem hu
    have:=List.length_pos_of_mem hu
    rw [List.length_cons]
    omega
section
variable {P:Program} {w:World} {A:Around} {E:Value→Shared→Prop} {s:Shared}
end
theorem Inv.drawn {X:Cx} {pins:List (Addr × Obj)} {σ:St} {H:Hp} {s:Shared} (I:Inv X pins σ H s) (d:Drawn):Inv X pins σ H { s with drawn:=d } :=
  I.step (g':=s.gens) (t':=s.toks) (d':=d) (ch:=[]) (h':=s.heap) (H':=H) (fun _ z=>nomatch z) (fun b o _ _ _ e _=>e) (fun b o _ _ _ e _=>⟨o.slots,e⟩) (fun _ _ _ _ n=>n) (fun b o _ e=>⟨o,e⟩) (fun _ _ e=>e) (fun _ _ _ e=>e) (fun b ps e=>⟨#[],by rw [e];simp⟩) (fun _ m=>m) I.hok I.bare
end L2
namespace L2
open PySem PySem.Spec PyProof.Rows
end L2
namespace L2
open PySem PySem.Spec PyProof.Rows
def sFrz (t:TS):TS:=fun D σ H=>∃ d kvs,H d=some (.dK kvs)∧∀ ob,t { nx:=fun σ' H'=>H' d=some (.frz ob (.dK kvs))∧D.nx σ' (upd H' d (.dK kvs)),rt:=fun v H'=>H' d=some (.frz ob (.dK kvs))∧D.rt v (upd H' d (.dK kvs)),bk:=fun σ' H'=>H' d=some (.frz ob (.dK kvs))∧D.bk σ' (upd H' d (.dK kvs)),ct:=fun σ' H'=>H' d=some (.frz ob (.dK kvs))∧D.ct σ' (upd H' d (.dK kvs)) } σ (upd H d (.frz ob (.dK kvs)))
theorem ps_frz {X:Cx} {st:Stmt} {t:TS} (h:PS X st t):PS X st (sFrz t):=by
  intro pins s σ H D I hq
  obtain ⟨d,kvs,hd,q⟩:=hq
  obtain ⟨ob,I1,back⟩:=I.freeze hd
  refine thn (h pins s σ _ _ I1 (q ob)) fun f s1 hf=>?_
  cases f with
  | next =>
    obtain ⟨σ',H',J,q1,q2⟩:=hf
    exact ⟨σ',_,back σ' H' s1 J q1,q2⟩
  | brk =>
    obtain ⟨σ',H',J,q1,q2⟩:=hf
    exact ⟨σ',_,back σ' H' s1 J q1,q2⟩
  | cont =>
    obtain ⟨σ',H',J,q1,q2⟩:=hf
    exact ⟨σ',_,back σ' H' s1 J q1,q2⟩
  | ret u =>
    obtain ⟨v,σ',H',J,r,q1,q2⟩:=hf
    exact ⟨v,σ',_,back σ' H' s1 J q1,r,q2⟩
theorem DGet.f {H:Hp} {a:Addr} {kvs:List (Key × V)} {k:Key} {ob:Obj} (e:H a=some (.frz ob (.dK kvs))):DGet H a (kV k) (valV kvs k):=.inl ⟨kvs,k,.inr ⟨ob,e⟩,rfl,rfl⟩
end L2
namespace L2
open PySem PySem.Spec PyProof.Rows
def rListD:List V→Hp→VK→Prop:=fun xs H Q=>∃ (d:Addr) (kvs:List (Key × V)) (ss:List Str),xs=[.ref d]∧H d=some (.dK kvs)∧kvs.map (·.1)=ss.map Sum.inr∧∀ l,H l=none→Q (.ref l) (upd H l (.lst (ss.map V.str)))
theorem call_list_dict {X:Cx} (hc:X.calm=true):CallR X (.type "list") rListD:=by
  intro pins s σ H xs us Q I r h
  obtain ⟨d,kvs,ss,rfl,hd,hk,q⟩:=h
  obtain ⟨u,rfl,ru⟩:=vals1 r
  cases ru
  obtain ⟨hz,lo,ws,rel,dd⟩:=dk_of I.hok hd
  obtain ⟨ep,hat⟩:=dd.dictAt
  have lw:kvs.length=ws.length:=Paired.length rel
  have hsl:ss.length=kvs.length:=by have:=congrArg List.length hk;simpa using this.symm
  refine PySem.W.kdl_call (PySem.W.kdl_dict (knd:=mixKind X.prog X.w) (kvs:=ws) (ep:=ep) lo) (I.ok.hd hc) hat (by rw [← lw];exact hz) fun h' tk acc' c' kk hl hI=>?_
  have hvs:Vals (ss.map V.str) acc'.toList:=by
    have hlen:acc'.toList.length=ws.length:=by rw [Array.length_toList];exact hI.1
    refine vals_by (by rw [List.length_map,hlen,← lw,hsl]) fun i x u e1 e2=>?_
    obtain ⟨k,x',e3,hkk⟩:=hI.2 i u (by rw [← Array.getElem?_toList];exact e2)
    obtain ⟨k',v',e4,e5⟩:=kv_at rel e3
    have e6:(kvs.map (·.1))[i]? = some k:=by rw [List.getElem?_map,e4];exact congrArg some e5
    rw [hk,List.getElem?_map] at e6
    rw [List.getElem?_map] at e1
    cases e7:ss[i]? with
    | none=>rw [e7] at e1;cases e1
    | some z =>
      rw [e7] at e1 e6
      cases e1
      have e8:Sum.inr z=k:=Option.some.inj e6
      subst e8
      rcases keyIs_shape (show keyIs (Sum.inr z) u=true from hkk) with ⟨_,_,q1,_⟩ | ⟨y,t,q1,q2⟩
      · cases q1
      · cases q1
        exact ⟨t,q2⟩
  exact ⟨.ref s.heap.objs.size,_,I.laid kk (Nat.le_refl _) (show ObjOk X.prog X.w _ h' _ (.lst _) from ⟨by rw [List.length_map,hsl];exact hz,acc'.toList,c',hvs,by simpa using hl⟩),rfl,q _ (I.hok.fresh (Nat.le_refl _))⟩
def rMax1 (K:PySem.W.Frag):List V→Hp→VK→Prop:=fun xs H Q=>∃ (a:Addr) (ns:List Int),xs=[.ref a]∧SqL K H a (ns.map V.int)∧ns≠[]∧∀ m,m∈ns→(∀ x∈ns,x≤m)→Q (.int m) H
theorem argBest_top (val:Nat→Int):∀ n,argBest (fun i j=>decide (val i > val j)) n≤n∧∀ j,j≤n→val j≤val (argBest (fun i j=>decide (val i > val j)) n)
  | 0=>⟨Nat.le_refl _,fun j hj=>by rw [Nat.le_zero.mp hj];exact Int.le_refl _⟩
  | n+1=>by
    obtain ⟨h1,h2⟩:=argBest_top val n
    show (if decide (val (n+1) > val (argBest (fun i j=>decide (val i > val j)) n))=true then n+1 else argBest (fun i j=>decide (val i > val j)) n)≤n+1∧∀ j,j≤n+1→val j≤val (if decide (val (n+1) > val (argBest (fun i j=>decide (val i > val j)) n))=true then n+1 else argBest (fun i j=>decide (val i > val j)) n)
    by_cases h:val (n+1) > val (argBest (fun i j=>decide (val i > val j)) n)
    · rw [if_pos (decide_eq_true h)]
      refine ⟨Nat.le_refl _,fun j hj=>?_⟩
      by_cases e:j=n+1
      · rw [e];exact Int.le_refl _
      · have:=h2 j (by omega)
        omega
    · rw [if_neg (by rw [decide_eq_false h];decide)]
      refine ⟨by omega,fun j hj=>?_⟩
      by_cases e:j=n+1
      · rw [e];omega
      · exact h2 j (by omega)
theorem call_max1 {X:Cx} (hc:X.calm=true):CallR X (.builtin "max") (rMax1 X.K):=by
  intro pins s σ H xs us Q I r h
  obtain ⟨l,ns,rfl,hq,hne,q⟩:=h
  obtain ⟨u,rfl,ru⟩:=vals1 r
  cases ru
  obtain ⟨its,r',pl,_⟩:=I.list hq
  have hi:=intsAre_of r'
  obtain ⟨xs,e⟩:=hi.allInts.items
  have hl:s.heap.IsList l (intItems xs):=by rw [← e];exact pl.isList
  have hns:xs.toList.map (·.1)=ns:=by
    have:=hi.numsOf
    rw [show its=(intItems xs).toList by rw [← e]] at this
    rw [nums_intItems] at this
    exact this
  have hlen:xs.size=ns.length:=by rw [← hns,List.length_map,Array.length_toList]
  have hpos:0 < xs.size:=by rw [hlen];exact List.length_pos_iff.mpr hne
  refine max_intList (I.ok.hd hc) hl hpos fun v h' tk hv hk=>?_
  obtain ⟨t,rfl⟩:=intItems_at hv
  obtain ⟨b1,b2⟩:=argBest_top (numAt xs) (xs.size - 1)
  have at_:∀ j,j < xs.size→ns[j]? = some (numAt xs j):=fun j hj=>by
    rw [← hns,List.getElem?_map,Array.getElem?_toList]
    unfold numAt
    rw [Array.getElem?_eq_getElem hj]
    rfl
  refine ⟨.int _,H,I.kept hk,⟨t,rfl⟩,q _ (List.mem_of_getElem? (at_ _ (by omega))) fun x hx=>?_⟩
  obtain ⟨j,hj⟩:=List.mem_iff_getElem?.mp hx
  have hjl:j < xs.size:=by rw [hlen];exact (List.getElem?_eq_some_iff.mp hj).1
  rw [at_ j hjl] at hj
  have:=b2 j (by omega)
  rw [← Option.some.inj hj]
  exact this
theorem call_max1K {X:Cx} (K:PySem.W.Frag) (hc:X.calm=true) (hK:X.K=K:=by rfl):CallR X (.builtin "max") (rMax1 K):=by subst hK;exact call_max1 hc
end L2
namespace L2
open PySem PySem.Spec PyProof.Rows PySem.SeqAt
end L2
namespace Lw
open PySem L2
abbrev tx (w:List Nat):V:=.str ⟨w.toArray⟩
abbrev Rule:=Nat × List Nat
structure Good (first:List Nat) (rs:List Rule):Prop where
  few:rs.length≤8
  rise:(rs.map (·.1)).Pairwise (· < ·)
  abc:∀ q∈rs,97≤q.1∧q.1≤122
  wl:∀ q∈rs,q.2.length≤6
  win:∀ q∈rs,∀ c∈q.2,c∈rs.map (·.1)
  fl:first.length≤12
  fin:∀ c∈first,c∈rs.map (·.1)
inductive RulesAt (H:Hp):List Addr→List Rule→Prop where
  | nil:RulesAt H [] []
  | cons {p:Addr} {ps:List Addr} {c:Nat} {w:List Nat} {rs:List Rule}:H p=some (.tup [sign c,tx w])→RulesAt H ps rs→RulesAt H (p :: ps) ((c,w) :: rs)
structure BookAt (H:Hp) (t:Addr) (first:List Nat) (rs:List Rule):Prop where
  ex:∃ r ps,H t=some (.tup [tx first,.ref r])∧H r=some (.tup (ps.map V.ref))∧RulesAt H ps rs
def TupS (H H':Hp):Prop:=∀ c xs,H c=some (.tup xs)→H' c=some (.tup xs)
theorem TupS.refl (H:Hp):TupS H H:=fun _ _ h=>h
theorem TupS.trans {H H1 H2:Hp} (a:TupS H H1) (b:TupS H1 H2):TupS H H2:=fun c xs h=>b c xs (a c xs h)
theorem TupS.same {H H':Hp} (s:Same H H'):TupS H H':=fun c xs h=>s c _ h
theorem RulesAt.mono {H H':Hp} (s:TupS H H'):∀ {ps:List Addr} {rs:List Rule},RulesAt H ps rs→RulesAt H' ps rs
  | _,_,.nil=>.nil
  | _,_,.cons h r=>.cons (s _ _ h) (r.mono s)
theorem BookAt.mono {H H':Hp} {t:Addr} {first:List Nat} {rs:List Rule} (s:TupS H H') (b:BookAt H t first rs):BookAt H' t first rs:=by
  obtain ⟨r,ps,h1,h2,h3⟩:=b.ex
  exact ⟨r,ps,s _ _ h1,s _ _ h2,h3.mono s⟩
theorem RulesAt.len {H:Hp}:∀ {ps:List Addr} {rs:List Rule},RulesAt H ps rs→ps.length=rs.length
  | _,_,.nil=>rfl
  | _,_,.cons _ r=>congrArg (· + 1) r.len
theorem RulesAt.get {H:Hp}:∀ {ps:List Addr} {rs:List Rule} {i:Nat} {p:Addr},RulesAt H ps rs→ps[i]? = some p→∃ c w,rs[i]? = some (c,w)∧H p=some (.tup [sign c,tx w])
  | _,_,i,p,.nil,e=>by cases i <;> cases e
  | _,_,0,p,.cons (c:=c) (w:=w) h r,e=>by
    have e':=Option.some.inj e
    subst e'
    exact ⟨c,w,rfl,h⟩
  | _,_,i+1,p,.cons h r,e=>r.get (i:=i) e
theorem Same.add {H:Hp} {l:Addr} {o:HO} (h:H l=none):Same H (upd H l o):=fun b u e=>by rw [upd_ne (ne_of_none e h)];exact e
theorem take_snoc {α β:Type} {xs:List α} {i:Nat} {x:α} (f:α→β) (h:xs[i]? = some x):(xs.take (i+1)).map f=(xs.take i).map f++[f x]:=by
  rw [List.take_add_one,h,List.map_append]
  rfl
theorem take_all {α:Type} (xs:List α):xs.take xs.length=xs:=List.take_length
end Lw
namespace Lw
open PySem L2
theorem join_go:∀ (r:List Str) (acc:Array Nat),r.foldl (fun acc p=>acc++(#[]:Array Nat)++p.cps) acc=acc++((r.map fun p=>p.cps.toList).flatten).toArray
  | [],acc=>by simp
  | p :: r,acc=>by
    rw [List.foldl_cons,join_go r]
    apply Array.ext'
    simp
theorem join_eq (ss:List Str):Txt.join ⟨#[]⟩ ss=⟨((ss.map fun p=>p.cps.toList).flatten).toArray⟩:=by
  unfold Txt.join Builtin.Str.glued
  cases ss with
  | nil=>rfl
  | cons a r =>
    show (⟨r.foldl (fun acc p=>acc++(#[]:Array Nat)++p.cps) a.cps⟩:Str)=_
    rw [join_go]
    congr 1
    apply Array.ext'
    simp
theorem join_signs (cs:List Nat):Txt.join ⟨#[]⟩ (cs.map fun c=>(⟨#[c]⟩:Str))=⟨cs.toArray⟩:=by
  rw [join_eq]
  congr 2
  induction cs with
  | nil=>rfl
  | cons c r ih =>
    simp only [List.map_cons,List.flatten_cons]
    rw [ih]
    rfl
theorem sum_ones (cs:List Nat):((cs.map fun c=>(⟨#[c]⟩:Str)).map (·.length)).sum=cs.length:=by
  induction cs with
  | nil=>rfl
  | cons c r ih =>
    simp only [List.map_cons,List.sum_cons,List.length_cons]
    rw [ih]
    show 1+r.length=r.length+1
    omega
theorem count_go (x:Str) (c:Nat):∀ (n a:Nat) (st:Array Nat × Nat),st.2≤a→st.1.size≤a→a+n≤x.length+1 →
    (forIn (List.range' a n) st (StrLaws.occBody x ⟨#[c]⟩ x.length (x.length+1))).run.fst.size=st.1.size+((x.cps.toList.drop a).take n).count c
  | 0,a,st,_,_,_=>by
    show st.1.size=_
    simp
  | n+1,a,st,h1,h2,h3=>by
    rw [List.range'_succ,List.forIn_cons]
    have one:=StrLaws.subAt_one x c a
    unfold StrLaws.occBody
    by_cases hc:x.cps.toList[a]? = some c
    · have hs:=one.mpr hc
      have hcond:(((st.fst.size < x.length+1∧st.snd≤a)∧a+(⟨#[c]⟩:Str).length≤x.length)∧Builtin.Str.subAt x ⟨#[c]⟩ a=true):=⟨⟨⟨by omega,h1⟩,hs.1⟩,hs.2⟩
      rw [if_pos hcond]
      show (forIn (List.range' (a+1) n) (st.1.push a,a+1) (StrLaws.occBody x ⟨#[c]⟩ x.length (x.length+1))).run.fst.size=_
      rw [count_go x c n (a+1) (st.1.push a,a+1) (Nat.le_refl _) (by simp only [Array.size_push];omega) (by omega)]
      obtain ⟨hlt,he⟩:=List.getElem?_eq_some_iff.mp hc
      rw [List.drop_eq_getElem_cons hlt,List.take_succ_cons,he,List.count_cons_self]
      simp only [Array.size_push]
      omega
    · have hcond:¬ (((st.fst.size < x.length+1∧st.snd≤a)∧a+(⟨#[c]⟩:Str).length≤x.length)∧Builtin.Str.subAt x ⟨#[c]⟩ a=true):=fun z=>hc (one.mp ⟨z.1.2,z.2⟩)
      rw [if_neg hcond]
      show (forIn (List.range' (a+1) n) (st.1,st.2) (StrLaws.occBody x ⟨#[c]⟩ x.length (x.length+1))).run.fst.size=_
      rw [count_go x c n (a+1) (st.1,st.2) (by show st.2≤a+1;omega) (by show st.1.size≤a+1;omega) (by omega)]
      by_cases hlt:a < x.cps.toList.length
      · rw [List.drop_eq_getElem_cons hlt,List.take_succ_cons,List.count_cons_of_ne]
        intro z
        exact hc (by rw [List.getElem?_eq_getElem hlt,z])
      · rw [List.drop_eq_nil_of_le (by omega),List.drop_eq_nil_of_le (by omega)]
        simp
theorem count_one (w:List Nat) (c:Nat):Txt.count ⟨w.toArray⟩ ⟨#[c]⟩=(w.count c:Nat):=by
  unfold Txt.count
  rw [StrLaws.occ_eq,Array.length_toList]
  have e:=count_go ⟨w.toArray⟩ c ((⟨w.toArray⟩:Str).length+1 - 0) 0 (#[],0) (Nat.le_refl _) (Nat.le_refl _) (by omega)
  rw [e]
  simp only [Array.size_empty,Nat.zero_add,List.drop_zero,Nat.sub_zero]
  rw [List.take_of_length_le (by show w.length≤w.toArray.size+1;simp)]
end Lw
namespace Lw
open PySem L2
structure RowsAt (H0 H:Hp) (ls:List Addr) (vs:List (List V)):Prop where
  len:ls.length=vs.length
  at_:∀ (i:Nat) a v,ls[i]? = some a→vs[i]? = some v→H a=some (.lst v)
  new:∀ a∈ls,H0 a=none
  nd:ls.Nodup
theorem RowsAt.nil {H0 H:Hp}:RowsAt H0 H [] []:=⟨rfl,(fun i a v e _=>by simp at e),(fun a h=>by simp at h),List.nodup_nil⟩
theorem RowsAt.mono {H0 H H':Hp} {ls:List Addr} {vs:List (List V)} (r:RowsAt H0 H ls vs) (s:Same H H'):RowsAt H0 H' ls vs:=⟨r.len,fun i a v e1 e2=>s _ _ (r.at_ i a v e1 e2),r.new,r.nd⟩
theorem RowsAt.there {H0 H:Hp} {ls:List Addr} {vs:List (List V)} (r:RowsAt H0 H ls vs) {a:Addr} (h:a∈ls):∃ v,H a=some (.lst v)∧v∈vs:=by
  obtain ⟨i,e⟩:=List.mem_iff_getElem?.mp h
  have hi:i < vs.length:=by rw [← r.len];exact (List.getElem?_eq_some_iff.mp e).1
  exact ⟨vs[i],r.at_ i a _ e (by simp [hi]),List.getElem_mem hi⟩
theorem RowsAt.snoc {H0 H H':Hp} {ls:List Addr} {vs:List (List V)} {a:Addr} {v:List V} (r:RowsAt H0 H ls vs) (s:Same H H') (h0:H0 a=none) (h1:H a=none) (h2:H' a=some (.lst v)):RowsAt H0 H' (ls++[a]) (vs++[v]):=by
  have na:a ∉ ls:=fun h=>by
    obtain ⟨w,e,_⟩:=r.there h
    rw [h1] at e;cases e
  refine ⟨by rw [List.length_append,List.length_append,r.len];rfl,fun i b u e1 e2=>?_,fun b hb=>?_,?_⟩
  · by_cases hi:i < ls.length
    · rw [List.getElem?_append_left hi] at e1
      rw [List.getElem?_append_left (by rw [← r.len];exact hi)] at e2
      exact s _ _ (r.at_ i b u e1 e2)
    · rw [List.getElem?_append_right (by omega)] at e1
      rw [List.getElem?_append_right (by rw [← r.len];omega),← r.len] at e2
      cases z:i - ls.length with
      | zero =>
        rw [z] at e1 e2
        cases e1
        cases e2
        exact h2
      | succ n=>rw [z] at e1;cases e1
  · rcases List.mem_append.mp hb with z | z
    · exact r.new b z
    · have z:b=a:=by simpa using z
      rw [z];exact h0
  · exact L2.nd_snoc r.nd na
structure TabAt (H0 H:Hp) (l:Addr) (ls:List Addr) (vs:List (List V)):Prop where
  top:H l=some (.lst (ls.map V.ref))
  rows:RowsAt H0 H ls vs
  new:H0 l=none
  out:l ∉ ls
theorem TabAt.mono {H0 H H':Hp} {l:Addr} {ls:List Addr} {vs:List (List V)} (t:TabAt H0 H l ls vs) (s:Same H H'):TabAt H0 H' l ls vs:=⟨s _ _ t.top,t.rows.mono s,t.new,t.out⟩
theorem TabAt.elder {H00 H0 H:Hp} {l:Addr} {ls:List Addr} {vs:List (List V)} (t:TabAt H0 H l ls vs) (s:Same H00 H0):TabAt H00 H l ls vs:=⟨t.top,⟨t.rows.len,t.rows.at_,fun a h=>s.free (t.rows.new a h),t.rows.nd⟩,s.free t.new,t.out⟩
end Lw
namespace Lw
open PySem PySem.Spec L2 PyProof.Rows
abbrev one (c:Nat):Str:=⟨#[c]⟩
theorem rising_le:∀ (a:Nat) (r:List Nat),risingS (one a) (r.map one)=true→(a :: r).Pairwise (·≤·)
  | a,[],_=>by simp
  | a,b :: r,h=>by
    have h':(!ltCps (one b).cps.toList (one a).cps.toList && risingS (one b) (r.map one))=true:=h
    obtain ⟨h1,h2⟩:=Bool.and_eq_true_iff.mp h'
    have ih:=rising_le b r h2
    have hab:a≤b:=by
      have h3:(decide (b < a) || (b == a && false))=false:=by
        have:ltCps [b] [a]=false:=by simpa using h1
        exact this
      have:=(Bool.or_eq_false_iff.mp h3).1
      have:=of_decide_eq_false this
      omega
    refine List.pairwise_cons.mpr ⟨fun x hx=>?_,ih⟩
    rcases List.mem_cons.mp hx with e | hx
    · rw [e];exact hab
    · exact Nat.le_trans hab ((List.pairwise_cons.mp ih).1 x hx)
theorem sorted_lt {cs:List Nat} (h:sortedS (cs.map one)=true) (nd:cs.Nodup):cs.Pairwise (· < ·):=by
  have h1:cs.Pairwise (·≤·):=by
    cases cs with
    | nil=>exact List.Pairwise.nil
    | cons a r=>exact rising_le a r h
  exact (h1.and nd).imp fun ⟨a,b⟩=>Nat.lt_of_le_of_ne a b
theorem perm_ones {cs:List Nat} {ss:List Str} (h:ss.Perm (cs.map one)):∃ cs':List Nat,cs'.Perm cs∧ss=cs'.map one:=by
  refine ⟨ss.map fun z=>z.cps.getD 0 0,?_,?_⟩
  · have:=h.map fun z:Str=>z.cps.getD 0 0
    rw [List.map_map] at this
    have e:(fun z:Str=>z.cps.getD 0 0) ∘ one=id:=by funext c;rfl
    rw [e,List.map_id] at this
    exact this
  · rw [List.map_map]
    conv=>lhs;rw [← List.map_id ss]
    refine List.map_congr_left fun z hz=>?_
    obtain ⟨c,_,rfl⟩:=List.mem_map.mp (h.mem_iff.mp hz)
    rfl
end Lw
namespace Lw
open PySem L2
theorem RulesAt.snoc {H:Hp} {p:Addr} {c:Nat} {w:List Nat} (h:H p=some (.tup [sign c,tx w])):∀ {ps:List Addr} {rs:List Rule},RulesAt H ps rs→RulesAt H (ps++[p]) (rs++[(c,w)])
  | _,_,.nil=>.cons h .nil
  | _,_,.cons h1 r=>.cons h1 (r.snoc h)
theorem one_inj {a b:Nat} (h:one a=one b):a=b:=by
  have:=congrArg (fun z:Str=>z.cps.getD 0 0) h
  exact this
end Lw
namespace Lw
def dot (xs ys:List Int):Int:=(List.zipWith (· * ·) xs ys).sum
theorem dot_cons (x y:Int) (xs ys:List Int):dot (x :: xs) (y :: ys)=x * y+dot xs ys:=by
  unfold dot
  rw [List.zipWith_cons_cons,List.sum_cons]
theorem dot_nil_l (ys:List Int):dot [] ys=0:=by unfold dot;simp
theorem dot_nil_r (xs:List Int):dot xs []=0:=by unfold dot;simp
theorem dot_comm:∀ xs ys:List Int,dot xs ys=dot ys xs
  | [],ys=>by rw [dot_nil_l,dot_nil_r]
  | x :: xs,[]=>by rw [dot_nil_l,dot_nil_r]
  | x :: xs,y :: ys=>by rw [dot_cons,dot_cons,dot_comm xs ys,Int.mul_comm]
def colAt (T:List (List Int)) (j:Nat):List Int:=T.map fun r=>r.getD j 0
def stepC (k:Nat) (T:List (List Int)) (c:List Int):List Int:=(List.range k).map fun j=>dot c (colAt T j)
def stepL (T:List (List Int)) (l:List Int):List Int:=T.map fun r=>dot r l
def cntN (k:Nat) (T:List (List Int)) (c:List Int):Nat→List Int
  | 0=>c
  | n+1=>stepC k T (cntN k T c n)
def lenN (k:Nat) (T:List (List Int)):Nat→List Int
  | 0=>List.replicate k 1
  | n+1=>stepL T (lenN k T n)
theorem dot_lin {α:Type} (x:Int) (f g:α→Int):∀ (L:List α) (l:List Int),dot (L.map fun j=>x * f j+g j) l=x * dot (L.map f) l+dot (L.map g) l
  | [],l=>by simp [dot_nil_l]
  | a :: L,[]=>by rw [dot_nil_r,dot_nil_r,dot_nil_r];omega
  | a :: L,y :: l=>by
    rw [List.map_cons,List.map_cons,List.map_cons,dot_cons,dot_cons,dot_cons,dot_lin x f g L l,Int.add_mul,Int.mul_add,Int.mul_assoc]
    omega
theorem dot_zero {α:Type}:∀ (L:List α) (l:List Int),dot (L.map fun _=>0) l=0
  | [],l=>dot_nil_l _
  | a :: L,[]=>dot_nil_r _
  | a :: L,y :: l=>by
    rw [List.map_cons,dot_cons,dot_zero L l]
    omega
theorem range_getD {r:List Int} {k:Nat} (h:r.length=k):(List.range k).map (fun j=>r.getD j 0)=r:=by
  subst h
  refine List.ext_getElem (by simp) fun i h1 h2=>?_
  simp [List.getElem_map]
  rw [List.getElem?_eq_getElem h2]
  rfl
theorem dot_exch (k:Nat) (l:List Int):∀ (T:List (List Int)) (c:List Int),(∀ r∈T,r.length=k)→c.length=T.length→dot c (stepL T l)=dot (stepC k T c) l
  | [],c,_,_=>by
    show dot c []=dot ((List.range k).map fun j=>dot c []) l
    simp only [dot_nil_r]
    rw [dot_zero]
  | r :: T,[],_,hc=>by cases hc
  | r :: T,x :: c,hT,hc=>by
    have ih:=dot_exch k l T c (fun r hr=>hT r (List.mem_cons_of_mem _ hr)) (Nat.succ.inj hc)
    show dot (x :: c) (dot r l :: stepL T l)=dot ((List.range k).map fun j=>dot (x :: c) (r.getD j 0 :: colAt T j)) l
    rw [dot_cons,ih]
    simp only [dot_cons]
    rw [dot_lin x (fun j=>r.getD j 0) (fun j=>dot c (colAt T j)),range_getD (hT r List.mem_cons_self)]
    rfl
theorem dot_ones:∀ c:List Int,dot c (List.replicate c.length 1)=c.sum
  | []=>rfl
  | x :: c=>by
    rw [List.length_cons,List.replicate_succ,dot_cons,dot_ones c,List.sum_cons]
    omega
theorem stepC_len (k:Nat) (T:List (List Int)) (c:List Int):(stepC k T c).length=k:=by unfold stepC;simp
theorem cntN_len {k:Nat} {T:List (List Int)} {c:List Int} (h:c.length=k):∀ n,(cntN k T c n).length=k
  | 0=>h
  | n+1=>stepC_len _ _ _
theorem lenN_len {k:Nat} {T:List (List Int)} (h:T.length=k):∀ n,(lenN k T n).length=k
  | 0=>by unfold lenN;simp
  | n+1=>by unfold lenN stepL;rw [List.length_map,h]
theorem parted {k:Nat} {T:List (List Int)} (hT:∀ r∈T,r.length=k) (hk:T.length=k):∀ (m a:Nat) (c:List Int),c.length=k→(cntN k T c (a+m)).sum=dot (cntN k T c a) (lenN k T m)
  | 0,a,c,hc=>by
    rw [Nat.add_zero]
    have:=dot_ones (cntN k T c a)
    rw [cntN_len hc] at this
    exact this.symm
  | m+1,a,c,hc=>by
    show _=dot (cntN k T c a) (stepL T (lenN k T m))
    rw [dot_exch k _ T _ hT (by rw [cntN_len hc,hk])]
    have ih:=parted hT hk m (a+1) c hc
    rw [show a+(m+1)=a+1+m by omega,ih]
    rfl
def Bd (e:Nat) (c:List Int):Prop:=∀ x∈c,0≤x∧x < 2 ^ e
def Sm (c:List Int):Prop:=∀ x∈c,0≤x∧x≤6
end Lw
namespace Lw
open PySem L2
theorem bits_abs {k:Int} {n:Nat} (h:k.natAbs < 2 ^ n):Builtin.Int.intBits k≤n:=by
  unfold Builtin.Int.intBits
  split
  · exact Nat.zero_le _
  · rename_i hz
    have h0:k.natAbs≠0:=by
      intro e
      apply hz
      simpa using Int.natAbs_eq_zero.mp e
    have:=(Nat.log2_lt h0).mpr h
    omega
def Bz (e:Nat) (c:List Int):Prop:=∀ x∈c,x.natAbs < 2 ^ e
theorem Bd.z {e:Nat} {c:List Int} (h:Bd e c):Bz e c:=fun x hx=>by
  obtain ⟨h1,h2⟩:=h x hx
  have h3:((x.natAbs:Nat):Int)=x:=Int.natAbs_of_nonneg h1
  have h4:((2 ^ e:Nat):Int)=(2:Int) ^ e:=by push_cast;rfl
  rw [← h3,← h4] at h2
  exact Int.ofNat_lt.mp h2
theorem Sm.bd {c:List Int} (h:Sm c):Bd 3 c:=fun x hx=>by
  have:=h x hx
  have e:(2:Int) ^ 3=8:=by decide
  rw [e]
  omega
structure TabV (H:Hp) (l:Addr) (ls:List Addr) (vs:List (List Int)):Prop where
  top:H l=some (.lst (ls.map V.ref))
  len:ls.length=vs.length
  at_:∀ (i:Nat) a v,ls[i]? = some a→vs[i]? = some v→H a=some (.lst (v.map V.int))
theorem TabV.mono {H H':Hp} {l:Addr} {ls:List Addr} {vs:List (List Int)} (t:TabV H l ls vs) (s:Same H H'):TabV H' l ls vs:=⟨s _ _ t.top,t.len,fun i a v e1 e2=>s _ _ (t.at_ i a v e1 e2)⟩
theorem TabV.get {H:Hp} {l:Addr} {ls:List Addr} {vs:List (List Int)} (t:TabV H l ls vs) {i:Nat} {v:List Int} (e:vs[i]? = some v):∃ a,ls[i]? = some a∧H a=some (.lst (v.map V.int)):=by
  have hi:i < ls.length:=by rw [t.len];exact (List.getElem?_eq_some_iff.mp e).1
  exact ⟨ls[i],List.getElem?_eq_getElem hi,t.at_ i _ v (List.getElem?_eq_getElem hi) e⟩
theorem TabV.get' {H:Hp} {l:Addr} {ls:List Addr} {vs:List (List Int)} (t:TabV H l ls vs) {i:Nat} {a:Addr} (e:ls[i]? = some a):∃ v,vs[i]? = some v∧H a=some (.lst (v.map V.int)):=by
  have hi:i < vs.length:=by rw [← t.len];exact (List.getElem?_eq_some_iff.mp e).1
  exact ⟨vs[i],List.getElem?_eq_getElem hi,t.at_ i _ _ e (List.getElem?_eq_getElem hi)⟩
def tabI (rs:List Rule):List (List Int):=rs.map fun q=>rs.map fun q'=>((q.2.count q'.1:Nat):Int)
def c0 (rs:List Rule) (w:List Nat):List Int:=rs.map fun q=>((w.count q.1:Nat):Int)
theorem tabI_len (rs:List Rule):(tabI rs).length=rs.length:=by unfold tabI;rw [List.length_map]
theorem c0_len (rs:List Rule) (f:List Nat):(c0 rs f).length=rs.length:=by unfold c0;rw [List.length_map]
theorem tabI_row {rs:List Rule} {r:List Int} (h:r∈tabI rs):r.length=rs.length:=by
  unfold tabI at h
  obtain ⟨q,_,rfl⟩:=List.mem_map.mp h
  rw [List.length_map]
theorem tabI_sm {first:List Nat} {rs:List Rule} (hG:Good first rs) {r:List Int} (h:r∈tabI rs):Sm r:=fun x hx=>by
  unfold tabI at h
  obtain ⟨q,hq,rfl⟩:=List.mem_map.mp h
  obtain ⟨q',_,rfl⟩:=List.mem_map.mp hx
  have h1:=hG.wl q hq
  have h2:q.2.count q'.1≤q.2.length:=List.count_le_length
  omega
theorem rng_take {k i:Nat} {α:Type} (f:Nat→α) (h:i < k):((List.range k).take (i+1)).map f=((List.range k).take i).map f++[f i]:=take_snoc f (List.getElem?_range h)
theorem rng_at {n i:Nat} {x:V} (h:(rngV 0 n)[i]? = some x):i < n∧x=.int (i:Int):=by
  have h1:i < n:=by
    have:=(List.getElem?_eq_some_iff.mp h).1
    rwa [rngV_length] at this
  refine ⟨h1,?_⟩
  unfold rngV at h
  rw [List.getElem?_map,List.getElem?_range h1] at h
  have:=(Option.some.inj h).symm
  rw [this]
  show V.int (0+(i:Int))=_
  rw [Int.zero_add]
theorem take_rng (k:Nat):(List.range k).take k=List.range k:=by
  have:=take_all (List.range k)
  rwa [List.length_range] at this
def lk:List Nat→List Int→Nat→Int
  | c :: cs,n :: ns,x=>if c=x then n else lk cs ns x
  | _,_,_=>0
def dkI (cs:List Nat) (ns:List Int):List (Key × V):=List.zipWith (fun c n=>((Sum.inr (one c):Key),V.int n)) cs ns
theorem dkI_val:∀ {cs:List Nat} {ns:List Int} {c:Nat},ns.length=cs.length→c∈cs→valV (dkI cs ns) (Sum.inr (one c):Key)=some (.int (lk cs ns c))
  | a :: cs,n :: ns,c,hl,h=>by
    by_cases e:a=c
    · subst e
      unfold valV lk
      show Option.map _ (List.find? _ (((Sum.inr (one a):Key),V.int n) :: dkI cs ns))=_
      rw [List.find?_cons_of_pos,if_pos rfl]
      · rfl
      · exact decide_eq_true rfl
    · have hc:c∈cs:=by
        rcases List.mem_cons.mp h with z | z
        · exact absurd z.symm e
        · exact z
      have ih:=dkI_val (ns:=ns) (Nat.succ.inj hl) hc
      unfold valV at ih ⊢
      show Option.map _ (List.find? _ (((Sum.inr (one a):Key),V.int n) :: dkI cs ns))=some (V.int (if a=c then n else lk cs ns c))
      rw [List.find?_cons_of_neg,if_neg e]
      · exact ih
      · intro z
        have z':(Sum.inr (one a):Key)=Sum.inr (one c):=of_decide_eq_true z
        exact e (one_inj (Sum.inr.inj z'))
  | [],_,_,_,h=>by simp at h
  | _ :: _,[],_,hl,_=>by cases hl
theorem dkI_keys:∀ {cs:List Nat} {ns:List Int},ns.length=cs.length→(dkI cs ns).map (·.1)=cs.map fun c=>(Sum.inr (one c):Key)
  | [],[],_=>rfl
  | c :: cs,n :: ns,h=>by
    show Sum.inr (one c) :: (dkI cs ns).map (·.1)=_
    rw [dkI_keys (Nat.succ.inj h)]
    rfl
  | [],_ :: _,h=>by cases h
  | _ :: _,[],h=>by cases h
theorem dkI_len {cs:List Nat} {ns:List Int} (h:ns.length=cs.length):(dkI cs ns).length=cs.length:=by
  have:=congrArg List.length (dkI_keys h)
  rwa [List.length_map,List.length_map] at this
theorem dkI_snoc {cs:List Nat} {ns:List Int} {c:Nat} {n:Int} (h:ns.length=cs.length):dkI cs ns++[((Sum.inr (one c):Key),V.int n)]=dkI (cs++[c]) (ns++[n]):=by
  unfold dkI
  rw [List.zipWith_append h.symm]
  rfl
theorem keys_nd {cs:List Nat} (h:cs.Nodup):(cs.map fun c=>(Sum.inr (one c):Key)).Nodup :=
  List.Pairwise.map _ (fun a b hab z=>hab (one_inj (Sum.inr.inj z))) h
theorem lk_cons_sum (c:Nat) (n:Int) (cs:List Nat) (ns:List Int) (hc:c ∉ cs):∀ w:List Nat,(w.map (lk (c :: cs) (n :: ns))).sum=(w.count c:Nat) * n+(w.map (lk cs ns)).sum - (w.count c:Nat) * lk cs ns c
  | []=>by simp
  | x :: w=>by
    have ih:=lk_cons_sum c n cs ns hc w
    rw [List.map_cons,List.map_cons,List.sum_cons,List.sum_cons,ih]
    by_cases e:c=x
    · subst e
      rw [List.count_cons_self]
      have:lk (c :: cs) (n :: ns) c=n:=by unfold lk;rw [if_pos rfl]
      rw [this]
      push_cast
      rw [Int.add_mul,Int.add_mul]
      omega
    · rw [List.count_cons_of_ne (by simpa using fun z:x=c=>e z.symm)]
      have:lk (c :: cs) (n :: ns) x=lk cs ns x:=by
        show (if c=x then n else lk cs ns x)=_
        rw [if_neg e]
      rw [this]
      omega
theorem lk_out:∀ {cs:List Nat} {ns:List Int} {c:Nat},c ∉ cs→lk cs ns c=0
  | [],_,_,_=>by unfold lk;rfl
  | _ :: _,[],_,_=>by unfold lk;rfl
  | a :: cs,n :: ns,c,h=>by
    unfold lk
    rw [if_neg fun z=>h (by rw [z];exact List.mem_cons_self)]
    exact lk_out fun z=>h (List.mem_cons_of_mem _ z)
theorem lk_sum:∀ {cs:List Nat} {ns:List Int} (w:List Nat),cs.Nodup→ns.length=cs.length→(w.map (lk cs ns)).sum=dot (cs.map fun c=>((w.count c:Nat):Int)) ns
  | [],[],w,_,_=>by
    rw [dot_nil_r]
    induction w with
    | nil=>rfl
    | cons x w ih =>
      rw [List.map_cons,List.sum_cons,ih]
      unfold lk
      rfl
  | c :: cs,n :: ns,w,nd,hl=>by
    rw [lk_cons_sum c n cs ns (List.nodup_cons.mp nd).1 w,List.map_cons,dot_cons,lk_sum w (List.nodup_cons.mp nd).2 (Nat.succ.inj hl),lk_out (List.nodup_cons.mp nd).1]
    omega
  | [],_ :: _,_,_,h=>by cases h
  | _ :: _,[],_,_,h=>by cases h
def ltr (rs:List Rule):List Nat:=rs.map (·.1)
theorem Good.nd {first:List Nat} {rs:List Rule} (h:Good first rs):(ltr rs).Nodup:=h.rise.imp fun a=>Nat.ne_of_lt a
theorem c0_eq (rs:List Rule) (w:List Nat):c0 rs w=(ltr rs).map fun c=>((w.count c:Nat):Int):=by unfold c0 ltr;rw [List.map_map];rfl
def sumN (T:List (List Int)) (w0:List Int):Nat→List Int
  | 0=>w0
  | n+1=>stepL T (sumN T w0 n)
theorem sumN_len {k:Nat} {T:List (List Int)} {w0:List Int} (hT:T.length=k) (h:w0.length=k):∀ n,(sumN T w0 n).length=k
  | 0=>h
  | n+1=>by unfold sumN stepL;rw [List.length_map,hT]
theorem lenN_eq (k:Nat) (T:List (List Int)):∀ n,lenN k T n=sumN T (List.replicate k 1) n
  | 0=>rfl
  | n+1=>by unfold lenN sumN;rw [lenN_eq k T n]
end Lw
namespace Lw
open PySem L2
theorem atI_last {α:Type} {xs:List α} {j:Nat} {v:α} (hl:xs.length=j+1) (h:xs[j]? = some v):atI xs (-1)=some v:=by
  unfold atI ixN
  rw [if_neg (by omega),if_pos (by omega)]
  have:(-1+(xs.length:Int)).toNat=j:=by omega
  rw [this]
  exact h
theorem TabV.snoc {H H':Hp} {l d:Addr} {ls:List Addr} {vs:List (List Int)} {v:List Int} (t:TabV H l ls vs) (s:∀ a∈ls,∀ o,H a=some o→H' a=some o) (h1:H' l=some (.lst (ls.map V.ref++[V.ref d]))) (h2:H' d=some (.lst (v.map V.int))):TabV H' l (ls++[d]) (vs++[v]):=by
  refine ⟨by rw [h1,List.map_append];rfl,by rw [List.length_append,List.length_append,t.len];rfl,fun i a u e1 e2=>?_⟩
  by_cases hi:i < ls.length
  · rw [List.getElem?_append_left hi] at e1
    rw [List.getElem?_append_left (by rw [← t.len];exact hi)] at e2
    exact s a (List.mem_of_getElem? e1) _ (t.at_ i a u e1 e2)
  · rw [List.getElem?_append_right (by omega)] at e1
    rw [List.getElem?_append_right (by rw [← t.len];omega),← t.len] at e2
    cases z:i - ls.length with
    | zero =>
      rw [z] at e1 e2
      cases e1
      cases e2
      exact h2
    | succ n=>rw [z] at e1;cases e1
theorem TabV.take {H H':Hp} {l d:Addr} {ls:List Addr} {vs:List (List Int)} (m:Nat) (t:TabV H l ls vs) (s:Same H H') (h:H' d=some (.lst ((ls.map V.ref).take m))):TabV H' d (ls.take m) (vs.take m):=by
  refine ⟨by rw [h,List.map_take],by rw [List.length_take,List.length_take,t.len],fun i a u e1 e2=>?_⟩
  rw [List.getElem?_take] at e1 e2
  split at e1
  · rename_i hi
    rw [if_pos hi] at e2
    exact s _ _ (t.at_ i a u e1 e2)
  · cases e1
theorem upd_in {H:Hp} {l:Addr} {o:HO} {c:Addr} {u:HO} (h:H c=some u) (n:c≠l):upd H l o c=some u:=by rw [upd_ne n];exact h
end Lw
namespace Lw
theorem step_cols (k:Nat) (T:List (List Int)) (c:List Int):((List.range k).map fun j=>colAt T j).map (fun r=>dot c r)=stepC k T c:=by rw [List.map_map];rfl
end Lw
namespace Lw
open PySem
end Lw
namespace Lw
open PySem L2
end Lw
namespace Lw
open PySem L2
def md (n:Int) (c:List Int):List Int:=c.map fun x=>x % n
theorem md_len (n:Int) (c:List Int):(md n c).length=c.length:=by unfold md;rw [List.length_map]
theorem md_md (n:Int) (c:List Int):md n (md n c)=md n c:=by
  unfold md
  rw [List.map_map]
  refine List.map_congr_left fun x _=>?_
  exact Int.emod_emod_of_dvd x (Int.dvd_refl n)
theorem dot_md (n:Int):∀ c d:List Int,dot (md n c) d % n=dot c d % n
  | [],d=>rfl
  | x :: c,[]=>by unfold md;rw [dot_nil_r,dot_nil_r]
  | x :: c,y :: d=>by
    have ih:=dot_md n c d
    show dot (x % n :: md n c) (y :: d) % n=_
    rw [dot_cons,dot_cons,Int.add_emod,ih,Int.mul_emod,Int.emod_emod_of_dvd x (Int.dvd_refl n),← Int.mul_emod,← Int.add_emod]
theorem dot_congr {n:Int} {c c':List Int} (h:md n c=md n c') (d:List Int):dot c d % n=dot c' d % n:=by
  rw [← dot_md n c d,h,dot_md]
theorem stepC_congr {n:Int} {k:Nat} {c c':List Int} (S:List (List Int)) (h:md n c=md n c'):md n (stepC k S c)=md n (stepC k S c'):=by
  unfold md stepC
  rw [List.map_map,List.map_map]
  refine List.map_congr_left fun j _=>?_
  exact dot_congr h _
theorem cntN_congr {n:Int} {k:Nat} {T:List (List Int)} {c c':List Int} (h:md n c=md n c'):∀ p,md n (cntN k T c p)=md n (cntN k T c' p)
  | 0=>h
  | p+1=>stepC_congr T (cntN_congr h p)
theorem cntN_add (k:Nat) (T:List (List Int)) (c:List Int) (x:Nat):∀ p,cntN k T (cntN k T c x) p=cntN k T c (x+p)
  | 0=>rfl
  | p+1=>by
    show stepC k T (cntN k T (cntN k T c x) p)=stepC k T (cntN k T c (x+p))
    rw [cntN_add k T c x p]
def mm (k:Nat) (n:Int) (A B:List (List Int)):List (List Int):=A.map fun r=>md n (stepC k B r)
theorem colAt_mm {k:Nat} {n:Int} {A B:List (List Int)} {j:Nat} (hj:j < k):colAt (mm k n A B) j=md n (stepL A (colAt B j)):=by
  unfold colAt mm md stepL
  rw [List.map_map,List.map_map]
  refine List.map_congr_left fun r _=>?_
  show ((stepC k B r).map fun x=>x % n).getD j 0=dot r (colAt B j) % n
  unfold stepC
  rw [List.map_map,List.getD_eq_getElem?_getD,List.getElem?_map,List.getElem?_range hj]
  rfl
theorem mm_step {k:Nat} {n:Int} {A B:List (List Int)} {c:List Int} (hA:∀ r∈A,r.length=k) (hk:A.length=k) (hc:c.length=k):md n (stepC k (mm k n A B) c)=md n (stepC k B (stepC k A c)):=by
  unfold md
  rw [show stepC k (mm k n A B) c=(List.range k).map fun j=>dot c (colAt (mm k n A B) j) from rfl,show stepC k B (stepC k A c)=(List.range k).map fun j=>dot (stepC k A c) (colAt B j) from rfl,List.map_map,List.map_map]
  refine List.map_congr_left fun j hj=>?_
  have hj':=List.mem_range.mp hj
  show dot c (colAt (mm k n A B) j) % n=dot (stepC k A c) (colAt B j) % n
  rw [colAt_mm hj',← dot_exch k _ A c hA (by rw [hc,hk]),dot_comm c,dot_comm c,dot_md]
theorem mm_sq {k:Nat} {n:Int} {A B:List (List Int)} (hk:A.length=k):(mm k n A B).length=k∧∀ r∈mm k n A B,r.length=k:=by
  unfold mm
  refine ⟨by rw [List.length_map,hk],fun r hr=>?_⟩
  obtain ⟨q,_,rfl⟩:=List.mem_map.mp hr
  rw [md_len,stepC_len]
theorem md_bd {n:Int} {e:Nat} (h0:0 < n) (h1:n≤2 ^ e) (c:List Int):Bd e (md n c):=fun x hx=>by
  unfold md at hx
  obtain ⟨y,_,rfl⟩:=List.mem_map.mp hx
  have:=Int.emod_nonneg y (show n≠0 by omega)
  have h2:=Int.emod_lt_of_pos y h0
  exact ⟨this,Int.lt_of_lt_of_le h2 h1⟩
structure Pw (k:Nat) (n:Int) (T S:List (List Int)) (p:Nat):Prop where
  len:S.length=k
  row:∀ r∈S,r.length=k
  is:∀ c:List Int,c.length=k→md n (stepC k S c)=md n (cntN k T c p)
theorem Pw.one {k:Nat} {n:Int} {T:List (List Int)} (h1:T.length=k) (h2:∀ r∈T,r.length=k):Pw k n T T 1:=⟨h1,h2,fun _ _=>rfl⟩
theorem Pw.twice {k:Nat} {n:Int} {T S:List (List Int)} {p:Nat} (h:Pw k n T S p):Pw k n T (mm k n S S) (p+p):=by
  obtain ⟨m1,m2⟩:=mm_sq (n:=n) (B:=S) h.len
  refine ⟨m1,m2,fun c hc=>?_⟩
  rw [mm_step h.row h.len hc,h.is _ (stepC_len _ _ _),← cntN_add k T c p p]
  exact cntN_congr (h.is c hc) p
theorem Pw.led {k:Nat} {n:Int} {T S:List (List Int)} {p x:Nat} (h:Pw k n T S p) {r:List Int} (hr:r.length=k):md n (stepC k S (md n (cntN k T r x)))=md n (cntN k T r (x+p)):=by
  rw [stepC_congr S (md_md n (cntN k T r x)),h.is _ (cntN_len hr x),cntN_add]
end Lw
namespace Lw
open PySem L2
theorem ltr_len (rs:List Rule):(ltr rs).length=rs.length:=by unfold ltr;rw [List.length_map]
end Lw
namespace Lw
open PySem L2
theorem sum_md (n:Int):∀ c:List Int,(md n c).sum % n=c.sum % n
  | []=>rfl
  | x :: c=>by
    show (x % n :: md n c).sum % n=_
    rw [List.sum_cons,List.sum_cons,Int.add_emod,sum_md n c,Int.emod_emod_of_dvd x (Int.dvd_refl n),← Int.add_emod]
end Lw
namespace Lw
open PySem L2
def wd:List Rule→Nat→List Nat
  | [],_=>[]
  | q :: rs,c=>if q.1=c then q.2 else wd rs c
def nxt (rs:List Rule) (x:List Nat):List Nat:=(x.map (wd rs)).flatten
def rowN (rs:List Rule) (x:List Nat):Nat→List Nat
  | 0=>x
  | n+1=>nxt rs (rowN rs x n)
theorem wd_mem:∀ {rs:List Rule} {c:Nat},c∈ltr rs→∃ q∈rs,q.1=c∧wd rs c=q.2
  | [],c,h=>by simp [ltr] at h
  | q :: rs,c,h=>by
    by_cases e:q.1=c
    · exact ⟨q,List.mem_cons_self,e,by unfold wd;rw [if_pos e]⟩
    · have h':c∈ltr rs:=by
        rcases List.mem_cons.mp (show c∈q.1 :: ltr rs from h) with z | z
        · exact absurd z.symm e
        · exact z
      obtain ⟨q',a,b,d⟩:=wd_mem h'
      exact ⟨q',List.mem_cons_of_mem _ a,b,by unfold wd;rw [if_neg e];exact d⟩
theorem lk_wd (f:List Nat→Int):∀ {rs:List Rule} {c:Nat},c∈ltr rs→lk (ltr rs) (rs.map fun q=>f q.2) c=f (wd rs c)
  | [],c,h=>by simp [ltr] at h
  | q :: rs,c,h=>by
    show (if q.1=c then f q.2 else lk (ltr rs) (rs.map fun q=>f q.2) c)=f (if q.1=c then q.2 else wd rs c)
    by_cases e:q.1=c
    · rw [if_pos e,if_pos e]
    · have h':c∈ltr rs:=by
        rcases List.mem_cons.mp (show c∈q.1 :: ltr rs from h) with z | z
        · exact absurd z.symm e
        · exact z
      rw [if_neg e,if_neg e]
      exact lk_wd f h'
theorem nxt_in {first:List Nat} {rs:List Rule} (hG:Good first rs) {x:List Nat} (hx:∀ c∈x,c∈ltr rs):∀ c∈nxt rs x,c∈ltr rs:=fun c hc=>by
  unfold nxt at hc
  obtain ⟨l,hl,hc⟩:=List.mem_flatten.mp hc
  obtain ⟨a,ha,rfl⟩:=List.mem_map.mp hl
  obtain ⟨q,hq,_,e⟩:=wd_mem (hx a ha)
  rw [e] at hc
  exact hG.win q hq c hc
theorem rowN_in {first:List Nat} {rs:List Rule} (hG:Good first rs) {x:List Nat} (hx:∀ c∈x,c∈ltr rs):∀ n,∀ c∈rowN rs x n,c∈ltr rs
  | 0=>hx
  | n+1=>nxt_in hG (rowN_in hG hx n)
theorem count_nxt {rs:List Rule} (d:Nat):∀ {x:List Nat},(∀ c∈x,c∈ltr rs)→(((nxt rs x).count d:Nat):Int)=(x.map (lk (ltr rs) (rs.map fun q=>((q.2.count d:Nat):Int)))).sum
  | [],_=>rfl
  | c :: x,h=>by
    have ih:=count_nxt (rs:=rs) d (x:=x) fun c hc=>h c (List.mem_cons_of_mem _ hc)
    have e:nxt rs (c :: x)=wd rs c++nxt rs x:=by unfold nxt;rw [List.map_cons,List.flatten_cons]
    rw [e,List.count_append,List.map_cons,List.sum_cons,← ih,lk_wd (fun w=>((w.count d:Nat):Int)) (h c List.mem_cons_self)]
    push_cast
    rfl
theorem nxt_le {first:List Nat} {rs:List Rule} (hG:Good first rs):∀ {x:List Nat},(∀ c∈x,c∈ltr rs)→(nxt rs x).length≤6 * x.length
  | [],_=>Nat.le_refl _
  | c :: x,h=>by
    have ih:=nxt_le hG (x:=x) fun c hc=>h c (List.mem_cons_of_mem _ hc)
    have e:nxt rs (c :: x)=wd rs c++nxt rs x:=by unfold nxt;rw [List.map_cons,List.flatten_cons]
    obtain ⟨q,hq,_,e2⟩:=wd_mem (h c List.mem_cons_self)
    have:=hG.wl q hq
    rw [e,List.length_append,e2,List.length_cons]
    omega
theorem col_tabI (rs:List Rule) {j:Nat} {q:Rule} (h:rs[j]? = some q):colAt (tabI rs) j=rs.map fun p=>((p.2.count q.1:Nat):Int):=by
  unfold colAt tabI
  rw [List.map_map]
  refine List.map_congr_left fun p _=>?_
  show (rs.map fun q'=>((p.2.count q'.1:Nat):Int)).getD j 0=_
  rw [List.getD_eq_getElem?_getD,List.getElem?_map,h]
  rfl
theorem word_sum' {first:List Nat} {rs:List Rule} (hG:Good first rs) (ns:List Int) (hl:ns.length=rs.length) (x:List Nat):(x.map (lk (ltr rs) ns)).sum=dot (c0 rs x) ns:=by
  rw [lk_sum x hG.nd (by rw [hl];unfold ltr;rw [List.length_map]),c0_eq]
theorem c0_nxt {first:List Nat} {rs:List Rule} (hG:Good first rs) {x:List Nat} (hx:∀ c∈x,c∈ltr rs):c0 rs (nxt rs x)=stepC rs.length (tabI rs) (c0 rs x):=by
  refine List.ext_getElem? fun j=>?_
  unfold stepC
  rw [List.getElem?_map]
  by_cases hj:j < rs.length
  · have e:=List.getElem?_eq_getElem hj
    rw [List.getElem?_range hj]
    unfold c0
    rw [List.getElem?_map,e]
    show some (((nxt rs x).count rs[j].1:Nat):Int)=some (dot (c0 rs x) (colAt (tabI rs) j))
    rw [col_tabI rs e,count_nxt _ hx,word_sum' hG _ (by rw [List.length_map])]
  · rw [List.getElem?_eq_none (by rw [c0_len];omega),List.getElem?_eq_none (by rw [List.length_range];omega)]
    rfl
theorem cnt_row {first:List Nat} {rs:List Rule} (hG:Good first rs) {x:List Nat} (hx:∀ c∈x,c∈ltr rs):∀ n,cntN rs.length (tabI rs) (c0 rs x) n=c0 rs (rowN rs x n)
  | 0=>rfl
  | n+1=>by
    show stepC rs.length (tabI rs) (cntN rs.length (tabI rs) (c0 rs x) n)=c0 rs (nxt rs (rowN rs x n))
    rw [cnt_row hG hx n,c0_nxt hG (rowN_in hG hx n)]
theorem lk_ones:∀ {cs:List Nat} {c:Nat},c∈cs→lk cs (List.replicate cs.length 1) c=1
  | [],c,h=>by simp at h
  | a :: cs,c,h=>by
    show (if a=c then (1:Int) else lk cs (List.replicate cs.length 1) c)=1
    by_cases e:a=c
    · rw [if_pos e]
    · rw [if_neg e]
      rcases List.mem_cons.mp h with z | z
      · exact absurd z.symm e
      · exact lk_ones z
theorem c0_sum {first:List Nat} {rs:List Rule} (hG:Good first rs) {x:List Nat} (hx:∀ c∈x,c∈ltr rs):(c0 rs x).sum=(x.length:Int):=by
  have h1:=dot_ones (c0 rs x)
  have ll:(ltr rs).length=rs.length:=by unfold ltr;rw [List.length_map]
  rw [c0_len,← word_sum' hG _ (by rw [List.length_replicate]),← ll] at h1
  rw [← h1]
  clear h1
  induction x with
  | nil=>rfl
  | cons a x ih =>
    rw [List.map_cons,List.sum_cons,lk_ones (hx a List.mem_cons_self),ih fun c hc=>hx c (List.mem_cons_of_mem _ hc)]
    rw [List.length_cons]
    push_cast
    omega
theorem one_miss (c:Nat):∀ (cs:List Nat) (l:List Int),c ∉ cs→dot (cs.map fun x=>(([c].count x:Nat):Int)) l=0
  | [],l,_=>dot_nil_l _
  | x :: cs,[],_=>dot_nil_r _
  | x :: cs,y :: l,h=>by
    have hx:[c].count x=0:=List.count_eq_zero.mpr fun z=>h (by
      have:x=c:=by simpa using z
      rw [this];exact List.mem_cons_self)
    rw [List.map_cons,dot_cons,one_miss c cs l (fun z=>h (List.mem_cons_of_mem _ z)),hx]
    simp
theorem one_hit (c:Nat):∀ (cs:List Nat) (l:List Int) (j:Nat) (v:Int),cs.Nodup→cs[j]? = some c→l[j]? = some v→dot (cs.map fun x=>(([c].count x:Nat):Int)) l=v
  | [],l,j,v,_,e,_=>by simp at e
  | x :: cs,[],j,v,_,_,e=>by simp at e
  | x :: cs,y :: l,0,v,nd,e1,e2=>by
    have e1':x=c:=Option.some.inj e1
    have e2':y=v:=Option.some.inj e2
    subst e1' e2'
    rw [List.map_cons,dot_cons,one_miss _ cs l (List.nodup_cons.mp nd).1]
    have:[x].count x=1:=by simp
    rw [this]
    simp
  | x :: cs,y :: l,j+1,v,nd,e1,e2=>by
    have e1':cs[j]? = some c:=e1
    have hne:x≠c:=fun z=>(List.nodup_cons.mp nd).1 (by rw [z];exact List.mem_of_getElem? e1')
    have hx:[c].count x=0:=List.count_eq_zero.mpr fun z=>hne (by simpa using z)
    rw [List.map_cons,dot_cons,one_hit c cs l j v (List.nodup_cons.mp nd).2 e1' e2,hx]
    simp
theorem len_row {first:List Nat} {rs:List Rule} (hG:Good first rs) (n:Nat):lenN rs.length (tabI rs) n=rs.map fun q=>(((rowN rs [q.1] n).length:Nat):Int):=by
  have ln:=lenN_len (k:=rs.length) (tabI_len rs) n
  refine List.ext_getElem? fun j=>?_
  by_cases hj:j < rs.length
  · have e:=List.getElem?_eq_getElem hj
    have e2:=List.getElem?_eq_getElem (l:=lenN rs.length (tabI rs) n) (i:=j) (by rw [ln];exact hj)
    have hx:∀ c∈[rs[j].1],c∈ltr rs:=fun c hc=>by
      rw [List.mem_singleton.mp hc]
      exact List.mem_map_of_mem (f:=(·.1)) (List.getElem_mem hj)
    have h1:=parted (k:=rs.length) (T:=tabI rs) (fun r hr=>tabI_row hr) (tabI_len rs) n 0 (c0 rs [rs[j].1]) (c0_len rs _)
    rw [Nat.zero_add,cnt_row hG hx,c0_sum hG (rowN_in hG hx n)] at h1
    have h2:dot (c0 rs [rs[j].1]) (lenN rs.length (tabI rs) n)=(lenN rs.length (tabI rs) n)[j]'(by rw [ln];exact hj):=by
      rw [c0_eq]
      exact one_hit _ (ltr rs) _ j _ hG.nd (by unfold ltr;rw [List.getElem?_map,e];rfl) e2
    rw [e2,List.getElem?_map,e]
    show some _=some _
    rw [← h2]
    exact congrArg some h1.symm
  · rw [List.getElem?_eq_none (by rw [ln];omega),List.getElem?_eq_none (by rw [List.length_map];omega)]
end Lw
namespace Lw
open PySem L2
theorem nxt_app (rs:List Rule) (x y:List Nat):nxt rs (x++y)=nxt rs x++nxt rs y:=by
  unfold nxt
  rw [List.map_append,List.flatten_append]
theorem rowN_app (rs:List Rule) (x y:List Nat):∀ n,rowN rs (x++y) n=rowN rs x n++rowN rs y n
  | 0=>rfl
  | n+1=>by
    show nxt rs (rowN rs (x++y) n)=nxt rs (rowN rs x n)++nxt rs (rowN rs y n)
    rw [rowN_app rs x y n,nxt_app]
theorem rowN_nil (rs:List Rule):∀ n,rowN rs [] n=[]
  | 0=>rfl
  | n+1=>by
    show nxt rs (rowN rs [] n)=[]
    rw [rowN_nil rs n]
    rfl
theorem rowN_cons (rs:List Rule) (c:Nat) (x:List Nat) (n:Nat):rowN rs (c :: x) n=rowN rs [c] n++rowN rs x n:=rowN_app rs [c] x n
theorem rowN_next (rs:List Rule) (x:List Nat):∀ n,rowN rs x (n+1)=rowN rs (nxt rs x) n
  | 0=>rfl
  | n+1=>by
    show nxt rs (rowN rs x (n+1))=nxt rs (rowN rs (nxt rs x) n)
    rw [rowN_next rs x n]
theorem nxt_one (rs:List Rule) (c:Nat):nxt rs [c]=wd rs c:=by
  unfold nxt
  simp
def szN (rs:List Rule) (n c:Nat):Nat:=(rowN rs [c] n).length
theorem szN_row (rs:List Rule) (n:Nat):∀ x:List Nat,(rowN rs x n).length=(x.map (szN rs n)).sum
  | []=>by rw [rowN_nil];rfl
  | c :: x=>by
    rw [rowN_cons,List.length_append,szN_row rs n x,List.map_cons,List.sum_cons]
    rfl
theorem szN_succ (rs:List Rule) (n c:Nat):szN rs (n+1) c=(rowN rs (wd rs c) n).length:=by
  unfold szN
  rw [rowN_next,nxt_one]
theorem lk_fst (g:Nat→Int):∀ {rs:List Rule} {c:Nat},c∈ltr rs→lk (ltr rs) (rs.map fun q=>g q.1) c=g c
  | [],c,h=>by simp [ltr] at h
  | q :: rs,c,h=>by
    show lk (q.1 :: ltr rs) (g q.1 :: rs.map fun q=>g q.1) c=g c
    unfold lk
    by_cases e:q.1=c
    · rw [if_pos (by first | exact e | exact e.symm | (rw [e];exact beq_self_eq_true c)),e]
    · have h':c∈ltr rs:=by
        rcases List.mem_cons.mp (show c∈q.1 :: ltr rs from h) with z | z
        · exact absurd z.symm e
        · exact z
      rw [if_neg (by first | exact e | exact fun z=>e z.symm | exact fun z=>e (eq_of_beq z))]
      exact lk_fst g h'
theorem lk_size {first:List Nat} {rs:List Rule} (hG:Good first rs) (n:Nat) {c:Nat} (h:c∈ltr rs):lk (ltr rs) (lenN rs.length (tabI rs) n) c=((szN rs n c:Nat):Int):=by
  rw [len_row hG n]
  exact lk_fst (fun c=>((szN rs n c:Nat):Int)) h
theorem sum_size {first:List Nat} {rs:List Rule} (hG:Good first rs) (n:Nat):∀ {x:List Nat},(∀ c∈x,c∈ltr rs)→(x.map (lk (ltr rs) (lenN rs.length (tabI rs) n))).sum=(((rowN rs x n).length:Nat):Int)
  | [],_=>by rw [rowN_nil];rfl
  | c :: x,h=>by
    rw [List.map_cons,List.sum_cons,sum_size hG n fun d hd=>h d (List.mem_cons_of_mem _ hd),lk_size hG n (h c List.mem_cons_self),rowN_cons,List.length_append]
    show ((szN rs n c:Nat):Int)+_=_
    unfold szN
    omega
end Lw
namespace Lw
open PySem L2
def top (i:Nat):Stmt:=PySem.Challenge.pw_linegrow_k29_whole_kinds_at_great_ages.main.body.getD i (.Pass ⟨0,0,0,0⟩)
abbrev sWho:Stmt:=top 7
abbrev sWin:Stmt:=top 8
abbrev sIsl:Stmt:=top 9
abbrev sItx:Stmt:=top 10
abbrev sNfa:Stmt:=top 11
abbrev sNnu:Stmt:=top 12
abbrev sRul:Stmt:=top 14
abbrev sLet:Stmt:=top 15
abbrev sNle:Stmt:=top 16
abbrev sTal:Stmt:=top 18
abbrev sTab:Stmt:=top 19
abbrev sCol:Stmt:=top 20
abbrev sCls:Stmt:=top 21
abbrev sPrs:Stmt:=top 22
abbrev sOao:Stmt:=top 23
abbrev sTsm:Stmt:=top 24
abbrev sWba:Stmt:=top 25
abbrev sLsm:Stmt:=top 26
abbrev sSsm:Stmt:=top 27
abbrev sLns:Stmt:=top 28
abbrev sLov:Stmt:=top 30
abbrev sPro:Stmt:=top 31
abbrev sLed:Stmt:=top 32
abbrev sCat:Stmt:=top 33
abbrev sLat:Stmt:=top 34
abbrev sRep:Stmt:=top 37
abbrev sTrn:Stmt:=top 38
abbrev sSpr:Stmt:=top 40
abbrev sRng:Stmt:=top 41
abbrev sRgs:Stmt:=top 42
abbrev sIns:Stmt:=top 43
abbrev sIsi:Stmt:=top 44
abbrev sCdv:Stmt:=top 46
abbrev sCml:Stmt:=top 47
abbrev sDby:Stmt:=top 48
abbrev sRds:Stmt:=top 49
abbrev sEag:Stmt:=top 50
abbrev sTki:Stmt:=top 51
abbrev sKin:Stmt:=top 52
abbrev sRki:Stmt:=top 53
abbrev sPen:Stmt:=top 55
abbrev sTak:Stmt:=top 56
abbrev sTxt:Stmt:=top 57
abbrev sLwd:Stmt:=top 58
abbrev sGrt:Stmt:=top 59
abbrev sLgs:Stmt:=top 60
abbrev sDfc:Stmt:=top 61
abbrev sWhl:Stmt:=top 62
abbrev sKpt:Stmt:=top 63
abbrev sLaw:Stmt:=top 64
end Lw
namespace Lw
open PySem L2
structure Gf (K:PySem.W.Frag) (mg:Str→Option Value) (x:Str) (f:Addr) (fd:FuncData) (ps:List Str):Prop where
  m:mg x=some (.ref f)
  k:PySem.W.keepIn K (.ref f)=true
  b:Binds K fd ps []
section
variable {P:Program} {w:World} {K:PySem.W.Frag} {mg:Str→Option Value} {base:Heap}
def spRul:Sp:=fun vs H Q _=>∃ (r:Addr) (ps:List Addr) (rs:List Rule),vs=[.ref r]∧H r=some (.tup (ps.map V.ref))∧RulesAt H ps rs∧rs.length≤8 ∧
  ∀ l H',Same H H'→H l=none→H' l=some (.lst (rs.map fun q=>sign q.1))→Q (.ref l) H'
theorem nd_rule:(["rule"]:List Str).Nodup:=by decide +kernel
theorem scRul:FnScope ["rules"] ["rules"] (defScope sRul):=⟨rfl,rfl,rfl,by decide +kernel,rfl,by decide +kernel,by decide +kernel⟩
theorem ok_rul {f:Addr} {fd:FuncData} (F:Fun K "ruled_letters" "ruled_letters" sRul f fd):FnOk P w K mg base CX0 1 f fd ["rules"] spRul:=by
  refine F.ok scRul (fun vs H Q E h=>?_) (fun cdv A outer s H vs Q E hr h=>?_)
  · obtain ⟨r,ps,rs,rfl,_⟩:=h
    rfl
  · obtain ⟨r,ps,rs,rfl,hr1,hR,hl,k⟩:=h
    refine ⟨_,pss_one (ps_ret (pe_comp (N':=["rule"]) (ix:=[none]) rfl rfl (pi_tup (pv 0)) (fun _ _ _ _ _ _=>pg_name (i:=0) nd_rule rfl (Or.inl rfl)) (fun _ _ _ _ _ _=>pts_nil)
      (fun _ _ _ _ _ _=>pe_ix (r:=rIxT K) ix_tup (pv 0) pe_int (fun _ _=>rfl)))),?_⟩
    refine ⟨_,rfl,r,rfl,⟨_,SqT.of hr1⟩,comp_all (sure_tup (xs:=ps.map V.ref)) (by rw [List.length_map,hR.len];omega) (fun i ys τ H2=>H2=H∧ys=(rs.take i).map (fun q=>sign q.1)∧∃ v,τ=[v]) ⟨rfl,rfl,_,rfl⟩ ?_ ?_ ?_⟩
    · rintro i ys τ H2 hi ⟨rfl,rfl,_⟩
      exact ⟨SqT.of hr1,by rw [List.length_map,List.length_take];omega⟩
    · rintro i x ys τ H2 hx ⟨rfl,rfl,v,rfl⟩
      rw [List.getElem?_map] at hx
      cases e:ps[i]? with
      | none=>rw [e] at hx;cases hx
      | some p =>
        rw [e] at hx
        cases hx
        obtain ⟨c,w',e1,e2⟩:=hR.get e
        exact ⟨_,rfl,p,_,_,_,rfl,rfl,SqT.of e2,atI_nat (j:=0) rfl,rfl,(take_snoc _ e1).symm,_,rfl⟩
    · rintro ys τ H2 D ⟨rfl,rfl,_⟩ hD
      refine k D _ (Same.add hD) hD ?_
      rw [upd_same,List.length_map,hR.len,take_all]
def spLet:Sp:=fun vs H Q _=>∃ (t:Addr) (first:List Nat) (rs:List Rule),vs=[.ref t]∧BookAt H t first rs∧rs.length≤8∧∀ H',Same H H'→Q (tx (rs.map (·.1))) H'
theorem scLet:FnScope ["book"] ["book"] (defScope sLet):=⟨rfl,rfl,rfl,by decide +kernel,rfl,by decide +kernel,by decide +kernel⟩
theorem ok_let {f f1:Addr} {fd fd1:FuncData} (F:Fun K "letters" "letters" sLet f fd) (G:FnOk P w K mg base CX0 1 f1 fd1 ["rules"] spRul) (g:Gf K mg "ruled_letters" f1 fd1 ["rules"]):FnOk P w K mg base CX0 2 f fd ["book"] spLet:=by
  refine F.ok scLet (fun vs H Q E h=>?_) (fun cdv A outer s H vs Q E hr h=>?_)
  · obtain ⟨t,first,rs,rfl,_⟩:=h
    rfl
  · obtain ⟨t,first,rs,rfl,hB,hl,k⟩:=h
    refine ⟨_,pss_one (ps_ret (pe_bm PySem.F.plainAttrs_str PySem.F.slot_str_join PySem.F.type_str_join mt_join pe_str (pa_cons (pe_call G hr rfl g.m g.k g.b .nil pass0 (pa_cons (pe_ix ix_tup (pv 0) pe_int (fun _ _=>rfl)) pa_nil)) pa_nil))),?_⟩
    obtain ⟨r,ps,h1,h2,h3⟩:=hB.ex
    refine ⟨rfl,_,rfl,t,_,_,_,rfl,rfl,SqT.of h1,atI_nat (j:=1) rfl,r,ps,rs,rfl,h2,h3,hl,fun l H' s1 hl1 hl2=>?_⟩
    refine ⟨_,l,rs.map fun q=>(⟨#[q.1]⟩:Str),rfl,rfl,SqL.of (by rw [hl2,List.map_map];rfl),?_,?_⟩
    · have e:(rs.map fun q=>(⟨#[q.1]⟩:Str))=(rs.map (·.1)).map fun c=>(⟨#[c]⟩:Str):=by rw [List.map_map];rfl
      rw [e,sum_ones]
      simp only [List.length_map]
      show rs.length+rs.length * 0≤_
      omega
    · have e:(rs.map fun q=>(⟨#[q.1]⟩:Str))=(rs.map (·.1)).map fun c=>(⟨#[c]⟩:Str):=by rw [List.map_map];rfl
      have e2:Txt.join (Str.ofString "") (rs.map fun q=>(⟨#[q.1]⟩:Str))=⟨(rs.map (·.1)).toArray⟩:=by
        rw [e]
        exact join_signs _
      rw [e2]
      exact k H' s1
def cnts (rs:List Rule) (w:List Nat):List V:=rs.map fun q=>V.int ((w.count q.1:Nat):Int)
def spTal:Sp:=fun vs H Q _=>∃ (t:Addr) (first:List Nat) (rs:List Rule) (w:List Nat),vs=[.ref t,tx w]∧BookAt H t first rs∧rs.length≤8∧∀ l H',Same H H'→H l=none→H' l=some (.lst (cnts rs w))→Q (.ref l) H'
theorem scTal:FnScope ["book","text"] ["book","text"] (defScope sTal):=⟨rfl,rfl,rfl,by decide +kernel,rfl,by decide +kernel,by decide +kernel⟩
theorem nd_tal:(["letter","text"]:List Str).Nodup:=by decide +kernel
theorem type_count:typeOf (.builtin "str.count")=pure (.type "method_descriptor"):=by first | exact PySem.F.type_str_count | (show builtinType _=_;rw [builtinType_eq_fast];kernel_rfl)
theorem ok_tal {f f1:Addr} {fd fd1:FuncData} (F:Fun K "tally" "tally" sTal f fd) (G:FnOk P w K mg base CX0 2 f1 fd1 ["book"] spLet) (g:Gf K mg "letters" f1 fd1 ["book"]):FnOk P w K mg base CX0 3 f fd ["book","text"] spTal:=by
  refine F.ok scTal (fun vs H Q E h=>?_) (fun cdv A outer s H vs Q E hr h=>?_)
  · obtain ⟨t,first,rs,w',rfl,_⟩:=h
    rfl
  · obtain ⟨t,first,rs,w',rfl,hB,hl,k⟩:=h
    refine ⟨_,pss_one (ps_ret (pe_comp (N':=["letter","text"]) (ix:=[none,some 1]) rfl rfl (pi_str (pe_call G hr rfl g.m g.k g.b .nil pass0 (pa_cons (pv 0) pa_nil))) (fun _ _ _ _ _ _=>pg_name (i:=0) nd_tal rfl (Or.inl rfl)) (fun _ _ _ _ _ _=>pts_nil)
      (fun _ _ _ _ _ _=>show PE _ _ (tBM K _ _ _ _) from pe_bm PySem.F.plainAttrs_str PySem.F.slot_str_count type_count mt_count (pv 1) (pa_cons (pv 0) pa_nil)))),?_⟩
    refine ⟨_,rfl,t,first,rs,rfl,hB,hl,fun H1 s1=>⟨_,rfl,comp_all sure_str (by rw [List.length_map];show (rs.map (·.1)).length≤_;rw [List.length_map];omega)
      (fun i ys τ H2=>H2=H1∧ys=cnts (rs.take i) w'∧∃ v,τ=[v,some (tx w')]) ⟨rfl,rfl,_,rfl⟩ ?_ ?_ ?_⟩⟩
    · rintro i ys τ H2 hi ⟨rfl,rfl,_⟩
      refine ⟨trivial,?_⟩
      unfold cnts
      rw [List.length_map,List.length_take]
      omega
    · rintro i x ys τ H2 hx ⟨rfl,rfl,v,rfl⟩
      have hx':((rs.map (·.1)).map sign)[i]? = some x:=hx
      rw [List.map_map,List.getElem?_map] at hx'
      cases e:rs[i]? with
      | none=>rw [e] at hx';cases hx'
      | some q =>
        rw [e] at hx'
        cases hx'
        refine ⟨_,rfl,rfl,_,rfl,⟨w'.toArray⟩,⟨#[q.1]⟩,rfl,rfl,rfl,?_,_,rfl⟩
        rw [count_one]
        unfold cnts
        exact (take_snoc _ e).symm
    · rintro ys τ H2 D ⟨rfl,rfl,_⟩ hD
      refine k D _ (s1.trans (Same.add hD)) (s1.free hD) ?_
      rw [upd_same]
      have e:(((⟨(rs.map (·.1)).toArray⟩:Str).cps.toList).map sign).length=rs.length:=by simp
      rw [e,take_all]
end
end Lw
namespace Lw
open PySem L2
section
variable {P:Program} {w:World} {K:PySem.W.Frag} {mg:Str→Option Value} {base:Heap}
def tabV (rs:List Rule):List (List V):=rs.map fun q=>cnts rs q.2
def spTab:Sp:=fun vs H Q _=>∃ (t:Addr) (first:List Nat) (rs:List Rule),vs=[.ref t]∧BookAt H t first rs∧rs.length≤8∧∀ l ls H',Same H H'→TabAt H H' l ls (tabV rs)→Q (.ref l) H'
theorem scTab:FnScope ["book"] ["book"] (defScope sTab):=⟨rfl,rfl,rfl,by decide +kernel,rfl,by decide +kernel,by decide +kernel⟩
theorem nd_tab:(["rule","book"]:List Str).Nodup:=by decide +kernel
theorem ok_tab {f f1:Addr} {fd fd1:FuncData} (F:Fun K "table" "table" sTab f fd) (G:FnOk P w K mg base CX0 3 f1 fd1 ["book","text"] spTal) (g:Gf K mg "tally" f1 fd1 ["book","text"]):FnOk P w K mg base CX0 4 f fd ["book"] spTab:=by
  refine F.ok scTab (fun vs H Q E h=>?_) (fun cdv A outer s H vs Q E hr h=>?_)
  · obtain ⟨t,first,rs,rfl,_⟩:=h
    rfl
  · obtain ⟨t,first,rs,rfl,hB,hl,k⟩:=h
    refine ⟨_,pss_one (ps_ret (pe_comp (N':=["rule","book"]) (ix:=[none,some 0]) rfl rfl (pi_tup (pe_ix ix_tup (pv 0) pe_int (fun _ _=>rfl))) (fun _ _ _ _ _ _=>pg_name (i:=0) nd_tab rfl (Or.inl rfl)) (fun _ _ _ _ _ _=>pts_nil)
      (fun _ _ _ _ _ _=>pe_call G hr rfl g.m g.k g.b .nil pass0 (pa_cons (pv 1) (pa_cons (pe_ix (r:=rIxT K) ix_tup (pv 0) pe_int (fun _ _=>rfl)) pa_nil))))),?_⟩
    obtain ⟨r,ps,h1,h2,h3⟩:=hB.ex
    refine ⟨_,rfl,t,_,_,_,rfl,rfl,SqT.of h1,atI_nat (j:=1) rfl,r,rfl,⟨_,SqT.of h2⟩,comp_all (sure_tup (xs:=ps.map V.ref)) (by rw [List.length_map,h3.len];omega)
      (fun i ys τ H2=>Same H H2∧(∃ v,τ=[v,some (.ref t)])∧∃ ls,ys=ls.map V.ref∧RowsAt H H2 ls ((rs.take i).map fun q=>cnts rs q.2)) ⟨Same.refl _,⟨_,rfl⟩,[],rfl,RowsAt.nil⟩ ?_ ?_ ?_⟩
    · rintro i ys τ H2 hi ⟨s2,_,ls,rfl,hR⟩
      refine ⟨SqT.of (s2 _ _ h2),?_⟩
      rw [List.length_map,hR.len,List.length_map,List.length_take]
      omega
    · rintro i x ys τ H2 hx ⟨s2,⟨v,rfl⟩,ls,rfl,hR⟩
      rw [List.getElem?_map] at hx
      cases e:ps[i]? with
      | none=>rw [e] at hx;cases hx
      | some p =>
        rw [e] at hx
        cases hx
        obtain ⟨c,w',e1,e2⟩:=h3.get e
        refine ⟨_,rfl,_,rfl,p,_,_,_,rfl,rfl,SqT.of (s2 _ _ e2),atI_nat (j:=1) rfl,t,first,rs,w',rfl,hB.mono (TupS.same s2),hl,fun l H3 s3 n3 e3=>?_⟩
        refine ⟨s2.trans s3,⟨_,rfl⟩,ls++[l],by rw [List.map_append];rfl,?_⟩
        rw [take_snoc _ e1]
        exact hR.snoc s3 (s2.free n3) n3 e3
    · rintro ys τ H2 D ⟨s2,_,ls,rfl,hR⟩ hD
      have e:(ps.map V.ref).length=rs.length:=by rw [List.length_map,h3.len]
      rw [e,take_all] at hR
      refine k D ls _ (s2.trans (Same.add hD)) ⟨upd_same,hR.mono (Same.add hD),s2.free hD,fun z=>?_⟩
      obtain ⟨v,q,_⟩:=hR.there z
      rw [hD] at q;cases q
end
end Lw
namespace Lw
open PySem L2
structure PenAt (H:Hp) (p:Addr) (b:Nat):Prop where
  ex:∃ (a n f:Int),H p=some (.lst [.int a,.int n,.int f])∧0≤n∧n≤b∧0≤f∧f < 2147483647
theorem PenAt.mono {H:Hp} {p:Addr} {b b':Nat} (h:PenAt H p b) (hb:b≤b'):PenAt H p b':=by
  obtain ⟨a,n,f,e,h1,h2,h3⟩:=h.ex
  exact ⟨a,n,f,e,h1,by omega,h3⟩
def But (p:Addr) (H H':Hp):Prop:=∀ c o,H c=some o→c≠p→H' c=some o
theorem But.refl (p:Addr) (H:Hp):But p H H:=fun _ _ h _=>h
theorem But.trans {p:Addr} {H H1 H2:Hp} (a:But p H H1) (b:But p H1 H2):But p H H2:=fun c o h n=>b c o (a c o h n) n
theorem But.same {p:Addr} {H H':Hp} (s:Same H H'):But p H H':=fun c o h _=>s c o h
theorem But.free {p:Addr} {H H':Hp} (e:But p H H') {l:Addr} (n:l≠p) (h:H' l=none):H l=none:=by
  cases q:H l with
  | none=>rfl
  | some o=>rw [e l o q n] at h;cases h
section
variable {P:Program} {w:World} {K:PySem.W.Frag} {mg:Str→Option Value} {base:Heap}
def spTak:Sp:=fun vs H Q _=>∃ (p:Addr) (b:Nat) (size:Int),vs=[.ref p,.int size]∧PenAt H p b∧b≤1000000∧0 < size∧size≤10000000000000000000000000000000000000000000000000000000000000000000000∧∀ (v:Int) H',0≤v→v < size→PenAt H' p (b+1)→(∀ c,c≠p→H' c=H c)→Q (.int v) H'
theorem scTak:FnScope ["_law_pen_here","_law_size","_law_found","_law_number"] ["_law_pen_here","_law_size"] (defScope sTak):=⟨rfl,rfl,rfl,by decide +kernel,rfl,by decide +kernel,by decide +kernel⟩
theorem ok_tak {f:Addr} {fd:FuncData} (F:Fun K "_law_take" "_law_take" sTak f fd):FnOk P w K mg base CX0 1 f fd ["_law_pen_here","_law_size"] spTak:=by
  refine F.ok scTak (fun vs H Q E h=>?_) (fun cdv A outer s H vs Q E hr h=>?_)
  · obtain ⟨p,b,size,rfl,_⟩:=h
    rfl
  · obtain ⟨p,b,size,rfl,hp,hb,h1,h2,k⟩:=h
    obtain ⟨a,n,g,e,n1,n2,g1,g2⟩:=hp.ex
    refine ⟨_,pss_cons (ps_if (pt_cmpR op_gt (pe_ix ix_list (pv 0) pe_int (fun _ _=>rfl)) pe_int (nomark _))
        (pss_cons (ps_set (i:=2) scTak.nd rfl (Or.inl rfl) (pe_op op_mod (pe_ix ix_list (pv 0) pe_int (fun _ _=>rfl)) (pv 1)))
        (pss_cons (ps_asg (pe_op op_fdivB (pe_ix ix_list (pv 0) pe_int (fun _ _=>rfl)) (pv 1)) (pg_sub (pv 0) pe_int set_list))
        (pss_one (ps_ret (pv 2))))) pss_nil)
      (pss_cons (ps_asg (pe_op op_add (pe_ix ix_list (pv 0) pe_int (fun _ _=>rfl)) pe_int) (pg_sub (pv 0) pe_int set_list))
      (pss_cons (ps_set (i:=3) scTak.nd rfl (Or.inl rfl) (pe_op op_mod (pe_op op_pow (pe_op op_add (pe_ix ix_list (pv 0) pe_int (fun _ _=>rfl)) (pe_op op_mul pe_int (pe_ix ix_list (pv 0) pe_int (fun _ _=>rfl)))) pe_int) pe_int))
      (pss_cons (ps_set (i:=3) scTak.nd rfl (Or.inl rfl) (pe_op op_mod (pe_op op_pow (pe_op op_add (pv 3) (pe_op op_mul pe_int (pe_ix ix_list (pv 0) pe_int (fun _ _=>rfl)))) pe_int) pe_int))
      (pss_one (ps_ret (pe_op op_mod (pe_op op_fdiv (pv 3) pe_int) (pv 1))))))),?_⟩
    refine ⟨_,rfl,p,_,_,_,rfl,rfl,SqL.of e,atI_nat (j:=0) rfl,_,_,rfl,rfl,_,rfl,?_⟩
    refine ite2 (fun hc=>?_) (fun hc=>?_)
    · refine ⟨_,rfl,p,_,_,_,rfl,rfl,SqL.of e,atI_nat (j:=0) rfl,_,rfl,_,_,rfl,rfl,h1,?_⟩
      refine ⟨_,rfl,p,_,_,_,rfl,rfl,SqL.of e,atI_nat (j:=0) rfl,_,rfl,_,_,rfl,rfl,⟨h1,by omega⟩,?_⟩
      refine ⟨_,rfl,p,_,_,0,rfl,rfl,e,rfl,?_⟩
      refine ⟨_,rfl,?_⟩
      refine k _ _ (Int.emod_nonneg _ (by omega)) (Int.emod_lt_of_pos _ h1) ⟨_,n,g,upd_same,n1,by omega,g1,g2⟩ fun c hc=>upd_ne hc
    · refine ⟨_,rfl,p,_,_,_,rfl,rfl,SqL.of e,atI_nat (j:=1) rfl,_,_,rfl,rfl,_,rfl,p,_,_,1,rfl,rfl,e,rfl,?_⟩
      have e2:upd H p (.lst ([V.int a,V.int n,V.int g].set 1 (V.int (n+1)))) p=some (.lst [.int a,.int (n+1),.int g]):=upd_same
      refine ⟨_,rfl,p,_,_,_,rfl,rfl,SqL.of e2,atI_nat (j:=2) rfl,_,rfl,p,_,_,_,rfl,rfl,SqL.of e2,atI_nat (j:=1) rfl,_,_,rfl,rfl,.inl ⟨by decide,by decide⟩,_,_,rfl,rfl,_,_,rfl,rfl,⟨by decide,by decide,by omega⟩,_,_,rfl,rfl,(by show (0:Int) < 2147483647;decide),?_⟩
      generalize (g+7919 * (n+1)) ^ Int.toNat 5=X1
      refine ⟨_,rfl,_,rfl,p,_,_,_,rfl,rfl,SqL.of e2,atI_nat (j:=1) rfl,_,_,rfl,rfl,.inl ⟨by decide,by decide⟩,_,_,rfl,rfl,_,_,rfl,rfl,⟨by decide,by decide,by omega⟩,_,_,rfl,rfl,(by show (0:Int) < 2147483629;decide),?_⟩
      generalize (X1 % 2147483647+104729 * (n+1)) ^ Int.toNat 5=X2
      refine ⟨_,rfl,_,_,rfl,rfl,⟨by decide,by decide⟩,_,rfl,_,_,rfl,rfl,h1,?_⟩
      exact k _ _ (Int.emod_nonneg _ (by omega)) (Int.emod_lt_of_pos _ h1) ⟨a,n+1,g,e2,by omega,by omega,g1,g2⟩ fun c hc=>upd_ne hc
def spPen (K:PySem.W.Frag):Sp:=fun vs H Q _=>∃ (a:Addr) (ns:List Int) (k:Int),vs=[.ref a,.int k]∧SqL K H a (ns.map V.int)∧ns.length≤63∧0≤k∧k≤100∧∀ p H',Same H H'→H p=none→PenAt H' p 0→Q (.ref p) H'
end
end Lw
namespace Lw
open PySem L2
section
variable {P:Program} {w:World} {K:PySem.W.Frag} {mg:Str→Option Value} {base:Heap}
theorem mem_cutV {xs:List V} {lo hi:Option Int} {x:V} (h:x∈cutV xs lo hi):x∈xs:=List.mem_of_mem_drop (List.mem_of_mem_take h)
theorem scPen:FnScope ["_law_script","_law_k","_law_fold","_law_cell","_law_great_here"] ["_law_script","_law_k"] (defScope sPen):=⟨rfl,rfl,rfl,by decide +kernel,rfl,by decide +kernel,by decide +kernel⟩
theorem ok_pen {f:Addr} {fd:FuncData} (F:Fun K "_law_pen" "_law_pen" sPen f fd) (hlen:mg "len" = none):FnOk P w K mg base CX0 1 f fd ["_law_script","_law_k"] (spPen K):=by
  refine F.ok scPen (fun vs H Q E h=>?_) (fun cdv A outer s H vs Q E hr h=>?_)
  · obtain ⟨a,ns,k,rfl,_⟩:=h
    rfl
  · obtain ⟨a,ns,k,rfl,hS,hl,k0,k1,q⟩:=h
    refine ⟨_,pss_cons (ps_set (i:=2) scPen.nd rfl (Or.inl rfl) (pe_op op_add (pe_op op_mul pe_int (pv 1)) pe_int))
      (pss_cons (ps_for PassesOwn.never rfl (pi_list (pe_slice sl_list (pv 0) po_none (po_some pe_int))) (pg_name (i:=3) scPen.nd rfl (Or.inl rfl))
        (pss_one (ps_set (i:=2) scPen.nd rfl (Or.inl rfl) (pe_op op_mod (pe_op op_add (pe_op op_mul (pv 2) pe_int) (pv 3)) pe_int))))
      (pss_cons (ps_set (i:=4) scPen.nd rfl (Or.inl rfl) pe_int)
      (pss_cons (ps_if (PW.pt (pw_and (pt_cmpR op_gt (pe_callB call_len_seq (by rfl) hlen PySem.boot_len (pa_cons (pv 0) pa_nil)) pe_int (nomark _))
          (pw_and1 (pt_cmpR op_ge (pe_ix ix_list (pv 0) (pe_op op_mod (pv 1) (pe_callB call_len_seq (by rfl) hlen PySem.boot_len (pa_cons (pv 0) pa_nil))) (fun _ _=>rfl)) (pe_op op_pow pe_int pe_int) (nomark _)))))
        (pss_one (ps_set (i:=4) scPen.nd rfl (Or.inl rfl) (pe_op op_sub (pe_ix ix_list (pv 0) (pe_op op_mod (pv 1) (pe_callB call_len_seq (by rfl) hlen PySem.boot_len (pa_cons (pv 0) pa_nil))) (fun _ _=>rfl)) (pe_op op_pow pe_int pe_int)))) pss_nil)
      (pss_one (ps_ret (pe_lst (pa_cons (pv 4) (pa_cons pe_int (pa_cons (pv 2) pa_nil))))))))),?_⟩
    refine ⟨_,rfl,_,_,rfl,rfl,.inl ⟨by decide,by decide⟩,_,_,rfl,rfl,?_⟩
    refine ⟨_,rfl,_,rfl,a,_,rfl,hS,fun p hp=>⟨p,rfl,⟨_,SqL.of upd_same⟩,?_⟩⟩
    refine for_by (sure_list (xs:=cutV (ns.map V.int) none (some 63))) (fun i σ H2=>H2=upd H p (.lst (cutV (ns.map V.int) none (some 63)))∧∃ (g:Int) (v:Option V),σ=[some (.ref a),some (.int k),some (.int g),v,none]∧0≤g∧g < 2147483647)
      ⟨rfl,_,_,rfl,by omega,by omega⟩ ?_ ?_ ?_
    · rintro i σ H2 hi ⟨rfl,_⟩
      exact SqL.of upd_same
    · rintro i x σ H2 hx ⟨rfl,g,v,rfl,g1,g2⟩
      obtain ⟨z,hz,rfl⟩:=List.mem_map.mp (mem_cutV (List.mem_of_getElem? hx))
      refine ⟨_,rfl,_,_,rfl,rfl,.inr ⟨by decide,by decide⟩,_,rfl,_,_,rfl,rfl,_,_,rfl,rfl,(by show (0:Int) < 2147483647;decide),rfl,_,_,rfl,Int.emod_nonneg _ (by decide),Int.emod_lt_of_pos _ (by decide)⟩
    · rintro σ H2 ⟨rfl,g,v,rfl,g1,g2⟩
      have s1:Same H (upd H p (.lst (cutV (ns.map V.int) none (some 63)))):=Same.add hp
      have hS1:=s1.seq hS
      have el:((ns.map V.int).length:Int)=(ns.length:Int):=by rw [List.length_map]
      have fin:∀ (z:Int) (l:Addr),(upd H p (.lst (cutV (ns.map V.int) none (some 63)))) l=none→Q (.ref l) (upd (upd H p (.lst (cutV (ns.map V.int) none (some 63)))) l (.lst [.int z,.int 0,.int g])):=fun z l hn =>
        q l _ (s1.trans (Same.add hn)) (s1.free hn) ⟨z,0,g,upd_same,by decide,by decide,g1,g2⟩
      refine ⟨_,rfl,a,_,rfl,.inl hS1,_,_,rfl,rfl,_,rfl,?_⟩
      refine ite2 (fun hc=>?_) (fun hc=>?_)
      · have hpos:0 < (ns.length:Int):=by
          have:=of_decide_eq_true hc
          rw [el] at this
          exact this
        have hm1:=Int.emod_nonneg k (show (ns.length:Int)≠0 by omega)
        have hm2:=Int.emod_lt_of_pos k hpos
        obtain ⟨j,hj⟩:∃ j:Nat,k % (ns.length:Int)=(j:Int):=⟨(k % (ns.length:Int)).toNat,by omega⟩
        have hjl:j < ns.length:=by omega
        have hat:atI (ns.map V.int) (k % ((ns.map V.int).length:Int))=some (.int ns[j]):=by
          rw [el,hj]
          exact atI_nat (by rw [List.getElem?_map,List.getElem?_eq_getElem hjl];rfl)
        refine ⟨_,rfl,_,rfl,_,rfl,a,_,rfl,.inl hS1,_,_,rfl,rfl,(by show (0:Int) < _;rw [el];exact hpos),a,_,_,_,rfl,rfl,hS1,hat,_,_,rfl,rfl,⟨by decide,by decide,by decide⟩,_,_,rfl,rfl,_,rfl,?_⟩
        refine ite2 (fun hc2=>?_) (fun hc2=>?_)
        · refine ⟨_,rfl,_,rfl,_,rfl,a,_,rfl,.inl hS1,_,_,rfl,rfl,(by show (0:Int) < _;rw [el];exact hpos),a,_,_,_,rfl,rfl,hS1,hat,_,_,rfl,rfl,⟨by decide,by decide,by decide⟩,_,_,rfl,rfl,?_⟩
          exact ⟨_,rfl,_,rfl,(by show 3≤sizeLine;decide),fun l hn=>fin _ l hn⟩
        · exact ⟨_,rfl,_,rfl,(by show 3≤sizeLine;decide),fun l hn=>fin 0 l hn⟩
      · refine iteF ?_
        exact ⟨_,rfl,_,rfl,(by show 3≤sizeLine;decide),fun l hn=>fin 0 l hn⟩
end
end Lw
namespace Lw
open PySem L2
def rLenS (K:PySem.W.Frag):List V→Hp→VK→Prop:=fun xs H Q=>∃ p ys,xs=[.ref p]∧(SqL K H p ys∨SqT K H p ys)∧Q (.int ys.length) H
theorem call_lenS {X:Cx}:CallR X (.builtin "len") (rLenS X.K):=call_len_seq
def abc:List Nat:=[97,98,99,100,101,102,103,104,105,106,107,108,109,110,111,112,113,114,115,116,117,118,119,120,121,122]
theorem abc_str:(Str.ofString "abcdefghijklmnopqrstuvwxyz").cps.toList=abc:=by decide +kernel
theorem abc_nd:abc.Nodup:=by decide
theorem abc_in:∀ c∈abc,97≤c∧c≤122:=by decide
theorem perm_erase:∀ {xs:List Nat} {k:Nat} {y:Nat},xs[k]? = some y→xs.Perm (y :: xs.eraseIdx k)
  | x :: xs,0,y,e=>by cases e;exact List.Perm.refl _
  | x :: xs,k+1,y,e=>by
    have ih:=perm_erase (xs:=xs) (k:=k) (y:=y) e
    show (x :: xs).Perm (y :: x :: xs.eraseIdx k)
    exact (ih.cons x).trans (List.Perm.swap y x _)
  | [],k,y,e=>by simp at e
theorem map_erase {α β:Type} (f:α→β):∀ (xs:List α) (k:Nat),(xs.map f).eraseIdx k=(xs.eraseIdx k).map f
  | [],_=>rfl
  | _ :: _,0=>rfl
  | x :: xs,k+1=>by
    show f x :: (xs.map f).eraseIdx k=f x :: (xs.eraseIdx k).map f
    rw [map_erase f xs k]
theorem PenAt.other {H H':Hp} {p:Addr} {b:Nat} (h:PenAt H p b) (e:H' p=H p):PenAt H' p b:=by
  obtain ⟨a,n,f,e1,r⟩:=h.ex
  exact ⟨a,n,f,e.trans e1,r⟩
theorem PenAt.some {H:Hp} {p:Addr} {b:Nat} (h:PenAt H p b):∃ o,H p=Option.some o:=by
  obtain ⟨a,n,f,e1,r⟩:=h.ex
  exact ⟨_,e1⟩
end Lw
namespace Lw
open PySem L2
theorem strs_sign (w:List Nat):w.map sign=(w.map fun c=>(⟨#[c]⟩:Str)).map V.str:=by rw [List.map_map];rfl
section
variable {P:Program} {w:World} {K:PySem.W.Frag} {mg:Str→Option Value} {base:Heap}
def spTxt:Sp:=fun vs H Q _=>∃ (p l:Addr) (b n:Nat) (cs:List Nat),vs=[.ref p,.ref l,.int (n:Int)]∧PenAt H p b∧b≤900000∧n≤1000∧H l=some (.lst (cs.map sign))∧cs.length≤30∧l≠p ∧
  ∀ (w:List Nat) H',w.length≤n→(cs≠[]→w.length=n)→(∀ c∈w,c∈cs)→But p H H'→PenAt H' p (b+n)→Q (tx w) H'
theorem scTxt:FnScope ["_law_pen_here","_law_signs","_law_many"] ["_law_pen_here","_law_signs","_law_many"] (defScope sTxt):=⟨rfl,rfl,rfl,by decide +kernel,rfl,by decide +kernel,by decide +kernel⟩
theorem nd_txt:(["_law_k","_law_signs","_law_pen_here"]:List Str).Nodup:=by decide +kernel
theorem ok_txt {f f1:Addr} {fd fd1:FuncData} (F:Fun K "_law_text" "_law_text" sTxt f fd) (G:FnOk P w K mg base CX0 1 f1 fd1 ["_law_pen_here","_law_size"] spTak) (g:Gf K mg "_law_take" f1 fd1 ["_law_pen_here","_law_size"])
    (hlen:mg "len" = none) (hint:mg "int" = none) (hrange:mg "range" = none):FnOk P w K mg base CX0 2 f fd ["_law_pen_here","_law_signs","_law_many"] spTxt:=by
  refine F.ok scTxt (fun vs H Q E h=>?_) (fun cdv A outer s H vs Q E hr h=>?_)
  · obtain ⟨p,l,b,n,cs,rfl,_⟩:=h
    rfl
  · obtain ⟨p,l,b,n,cs,rfl,hp,hb,hn,hL,hcs,hlp,q⟩:=h
    refine ⟨_,pss_one (ps_ret (pe_bm PySem.F.plainAttrs_str PySem.F.slot_str_join PySem.F.type_str_join mt_join pe_str (pa_cons
      (pe_comp (N':=["_law_k","_law_signs","_law_pen_here"]) (ix:=[none,some 1,some 0]) rfl rfl
        (pi_range1 rfl hrange (pa_cons (pe_op op_mul (pv 2) (pe_callTy call_int1 (by rfl) hint (by first | exact PySem.boot_int | decide +kernel) (pa_cons (pe_cmpR op_gt (pe_callB call_lenS (by rfl) hlen PySem.boot_len (pa_cons (pv 1) pa_nil)) pe_int (nomark _)) pa_nil))) pa_nil))
        (fun _ _ _ _ _ _=>pg_name (i:=0) nd_txt rfl (Or.inl rfl)) (fun _ _ _ _ _ _=>pts_nil)
        (fun _ _ _ _ _ _=>pe_ix (r:=rIxL K) ix_list (pv 1) (pe_call G hr rfl g.m g.k g.b .nil pass0 (pa_cons (pv 2) (pa_cons (pe_callB (r:=rLenS K) call_lenS (by rfl) hlen PySem.boot_len (pa_cons (pv 1) pa_nil)) pa_nil))) (fun _ _=>rfl))) pa_nil))),?_⟩
    have el:((cs.map sign).length:Int)=(cs.length:Int):=by rw [List.length_map]
    refine ⟨rfl,_,rfl,_,rfl,l,_,rfl,.inl (SqL.of hL),_,_,rfl,rfl,.inr ⟨_,rfl,?_⟩⟩
    -- how many turns
    obtain ⟨m,em,hm1,hm2⟩:∃ m:Nat,(n:Int) * (if decide ((0:Int) < ((cs.map sign).length:Int)) then 1 else 0)=(m:Int)∧m≤n∧(if cs=[] then m=0 else m=n):=by
      cases cs with
      | nil=>exact ⟨0,by simp,Nat.zero_le _,by simp⟩
      | cons c r =>
        refine ⟨n,?_,Nat.le_refl _,by simp⟩
        have hpos:(0:Int) < (((c :: r).map sign).length:Int):=by rw [List.length_map,List.length_cons];omega
        rw [decide_eq_true hpos]
        simp
    refine ⟨_,_,rfl,rfl,.inl ⟨by omega,by omega⟩,_,rfl,?_⟩
    rw [em]
    refine ⟨by omega,by omega,?_⟩
    refine comp_all (Q:=fun x H2=>rJoin K (V.str (Str.ofString "")) [x] H2 Q) (τ0:=[none,some (V.ref l),some (V.ref p)]) (sure_range (lo:=0) (n:=Int.toNat (m:Int))) (by rw [rngV_length];omega)
      (fun i ys τ H2=>∃ w2:List Nat,ys=w2.map sign∧w2.length=i∧(∀ c∈w2,c∈cs)∧But p H H2∧PenAt H2 p (b+i)∧∃ v,τ=[v,some (.ref l),some (.ref p)])
      ⟨[],rfl,rfl,(fun c hc=>by simp at hc),But.refl _ _,hp,_,rfl⟩ ?_ ?_ ?_
    · rintro i ys τ H2 hi ⟨w',rfl,e,_⟩
      exact ⟨trivial,by rw [List.length_map];omega⟩
    · rintro i x ys τ H2 hx ⟨w',rfl,et,hw,hBt,hPn,v,rfl⟩
      have hi:i < m:=by
        have:=(List.getElem?_eq_some_iff.mp hx).1
        rw [rngV_length] at this
        simpa using this
      have hne:cs≠[]:=fun z=>by rw [if_pos z] at hm2;omega
      have hcl:0 < cs.length:=List.length_pos_iff.mpr hne
      have hL2:=hBt l _ hL hlp
      refine ⟨_,rfl,_,rfl,_,rfl,l,_,rfl,.inl (SqL.of hL2),p,b+i,_,rfl,hPn,by omega,by rw [el];omega,by rw [el];omega,fun z H3 z0 z1 hP3 e3=>?_⟩
      rw [el] at z1
      obtain ⟨j,rfl⟩:∃ j:Nat,z=(j:Int):=⟨z.toNat,by omega⟩
      have hj:j < cs.length:=by omega
      refine ⟨l,_,_,_,rfl,rfl,SqL.of ((e3 l hlp).trans hL2),atI_nat (v:=sign cs[j]) (by rw [List.getElem?_map,List.getElem?_eq_getElem hj];rfl),?_⟩
      refine ⟨w'++[cs[j]],by rw [List.map_append];rfl,by rw [List.length_append,et];rfl,fun c hc=>?_,fun c o hc hne=>(e3 c hne).trans (hBt c o hc hne),hP3,_,rfl⟩
      rcases List.mem_append.mp hc with z | z
      · exact hw c z
      · have z:c=cs[j]:=by simpa using z
        rw [z];exact List.getElem_mem hj
    · rintro ys τ H2 D ⟨w',rfl,et,hw,hBt,hPn,v,rfl⟩ hD
      have e:(rngV 0 (Int.toNat (m:Int))).length=m:=by rw [rngV_length];simp
      rw [e] at et hPn
      obtain ⟨oD,hoD⟩:=hPn.some
      have nDp:D≠p:=(ne_of_none hoD hD).symm
      refine ⟨_,D,w'.map fun c=>(⟨#[c]⟩:Str),rfl,rfl,SqL.of (by rw [upd_same,strs_sign]),?_,?_⟩
      · rw [sum_ones,List.length_map]
        show w'.length+w'.length * 0≤_
        omega
      · have e2:Txt.join (Str.ofString "") (w'.map fun c=>(⟨#[c]⟩:Str))=⟨w'.toArray⟩:=join_signs _
        rw [e2]
        refine q w' _ (by omega) (fun hne=>by rw [if_neg hne] at hm2;omega) hw (hBt.trans (But.same (Same.add hD))) ((hPn.other (upd_ne nDp.symm)).mono (by omega))
end
end Lw
namespace Lw
open PySem L2
theorem tabV_eq (rs:List Rule):tabV rs=(tabI rs).map fun v=>v.map V.int:=by
  unfold tabV tabI cnts
  rw [List.map_map]
  refine List.map_congr_left fun q _=>?_
  show _=List.map V.int _
  rw [List.map_map]
  rfl
theorem TabAt.v {H0 H:Hp} {l:Addr} {ls:List Addr} {rs:List Rule} (t:TabAt H0 H l ls (tabV rs)):TabV H l ls (tabI rs):=by
  refine ⟨t.top,?_,fun i a v e1 e2=>?_⟩
  · have:=t.rows.len
    rw [tabV_eq,List.length_map] at this
    exact this
  · refine t.rows.at_ i a _ e1 ?_
    rw [tabV_eq,List.getElem?_map,e2]
    rfl
theorem cnts_eq (rs:List Rule) (w:List Nat):cnts rs w=(c0 rs w).map V.int:=by
  unfold cnts c0
  rw [List.map_map]
  rfl
section
variable {P:Program} {w:World} {K:PySem.W.Frag} {mg:Str→Option Value} {base:Heap}
def spWho:Sp:=fun vs H Q _=>∃ z:Int,vs=[.int z]∧Q (.bl true) H
theorem scWho:FnScope ["thing"] ["thing"] (defScope sWho):=⟨rfl,rfl,rfl,by decide +kernel,rfl,by decide +kernel,by decide +kernel⟩
theorem ok_who {f:Addr} {fd:FuncData} (F:Fun K "is_whole" "is_whole" sWho f fd)
    (hint:mg "int" = none)
    (hisinstance:mg "isinstance" = none)
    (hbool:mg "bool" = none)
    : FnOk P w K mg base CX0 1 f fd ["thing"] spWho:=by
  refine F.ok scWho (fun vs H Q E h=>?_) (fun cdv A outer s H vs Q E hr h=>?_)
  · obtain ⟨z,rfl,_⟩:=h
    rfl
  · obtain ⟨z,rfl,k⟩:=h
    refine ⟨_,(pss_one (ps_ret (pe_and (pe_callB (call_isinstK K) (by rfl) hisinstance (show bootBuiltins "isinstance" = some (.builtin "isinstance") by decide +kernel) (pa_cons (pv 0) (pa_cons (pe_bltn (v:=.ty "int") (by rfl) hint (show bootBuiltins "int" = some (.type "int") by decide +kernel) rfl) pa_nil))) (pe_one (pe_not (pe_callB (call_isinstK K) (by rfl) hisinstance (show bootBuiltins "isinstance" = some (.builtin "isinstance") by decide +kernel) (pa_cons (pv 0) (pa_cons (pe_bltn (v:=.ty "bool") (by rfl) hbool (show bootBuiltins "bool" = some (.type "bool") by decide +kernel) rfl) pa_nil)))))))),?_⟩
    refine ⟨_,rfl,_,_,_,true,rfl,TyOf.int z,(by rfl),_,rfl,?_⟩
    refine iteT ?_
    exact ⟨_,rfl,_,_,_,false,rfl,TyOf.int z,(by rfl),_,rfl,k⟩
def spWin:Sp:=fun vs H Q _=>∃ z a b:Int,vs=[.int z,.int a,.int b]∧a≤z∧z≤b∧Q (.bl true) H
theorem scWin:FnScope ["thing","least","most"] ["thing","least","most"] (defScope sWin):=⟨rfl,rfl,rfl,by decide +kernel,rfl,by decide +kernel,by decide +kernel⟩
theorem ok_win {f fWho:Addr} {fd fdWho:FuncData} (F:Fun K "is_within" "is_within" sWin f fd)
    (GWho:FnOk P w K mg base CX0 1 fWho fdWho ["thing"] spWho)
    (gWho:Gf K mg "is_whole" fWho fdWho ["thing"])
    : FnOk P w K mg base CX0 2 f fd ["thing","least","most"] spWin:=by
  refine F.ok scWin (fun vs H Q E h=>?_) (fun cdv A outer s H vs Q E hr h=>?_)
  · obtain ⟨z,a,b,rfl,_⟩:=h
    rfl
  · obtain ⟨z,a,b,rfl,h1,h2,k⟩:=h
    refine ⟨_,(pss_one (ps_ret (pe_and (pe_call GWho hr rfl gWho.m gWho.k gWho.b .nil pass0 (pa_cons (pv 0) pa_nil)) (pe_one (pe_chain op_le op_le (pv 1) (pv 0) (pv 2)))))),?_⟩
    refine ⟨_,rfl,z,rfl,_,rfl,?_⟩
    refine iteT ?_
    refine ⟨_,rfl,_,rfl,_,_,rfl,rfl,_,rfl,?_⟩
    rw [decide_eq_true h1]
    refine iteT ?_
    refine ⟨_,rfl,_,_,rfl,rfl,?_⟩
    show Q (.bl (decide (z≤b))) H
    rw [decide_eq_true h2]
    exact k
def spCol:Sp:=fun vs H Q _=>∃ (l:Addr) (ls:List Addr) (T:List (List Int)) (j:Nat),vs=[.ref l,.int (j:Int)]∧TabV H l ls T∧T.length≤1000∧(∀ r∈T,j < r.length)∧∀ d H',Same H H'→H d=none→H' d=some (.lst ((colAt T j).map V.int))→Q (.ref d) H'
theorem scCol:FnScope ["lines","place"] ["lines","place"] (defScope sCol):=⟨rfl,rfl,rfl,by decide +kernel,rfl,by decide +kernel,by decide +kernel⟩
theorem nd_col1:(["line","place"]:List Str).Nodup:=by decide +kernel
theorem ok_col {f:Addr} {fd:FuncData} (F:Fun K "column" "column" sCol f fd)
    : FnOk P w K mg base CX0 1 f fd ["lines","place"] spCol:=by
  refine F.ok scCol (fun vs H Q E h=>?_) (fun cdv A outer s H vs Q E hr h=>?_)
  · obtain ⟨l,ls,T,j,rfl,_⟩:=h
    rfl
  · obtain ⟨l,ls,T,j,rfl,hT,h8,hj,k⟩:=h
    refine ⟨_,(pss_one (ps_ret (pe_comp (N':=["line","place"]) (ix:=[none,some 1]) rfl rfl (pi_listK K (pv 0)) (fun _ _ _ _ _ _=>(pg_name (i:=0) nd_col1 rfl (Or.inl rfl))) (fun _ _ _ _ _ _=>pts_nil) (fun _ _ _ _ _ _=>(pe_ix (ix_listK K) (pv 0) (pv 1) (fun _ _=>rfl)))))),?_⟩
    have el:(ls.map V.ref).length=T.length:=by rw [List.length_map,hT.len]
    refine ⟨_,rfl,l,rfl,⟨_,SqL.of hT.top⟩,comp_all (sure_list (xs:=ls.map V.ref)) (by rw [el];omega) (fun i ys τ H2=>H2=H∧ys=((T.take i).map fun r=>r.getD j 0).map V.int∧∃ v,τ=[v,some (.int (j:Int))]) ⟨rfl,rfl,_,rfl⟩ ?_ ?_ ?_⟩
    · rintro i ys τ H2 hi ⟨rfl,rfl,_⟩
      refine ⟨SqL.of hT.top,?_⟩
      rw [List.length_map,List.length_map,List.length_take]
      omega
    · rintro i x ys τ H2 hx ⟨rfl,rfl,v,rfl⟩
      rw [List.getElem?_map] at hx
      cases e:ls[i]? with
      | none=>rw [e] at hx;cases hx
      | some p =>
        rw [e] at hx
        cases hx
        have hi:i < T.length:=by rw [← hT.len];exact (List.getElem?_eq_some_iff.mp e).1
        have e1:T[i]? = some T[i]:=List.getElem?_eq_getElem hi
        have hr:=hj T[i] (List.getElem_mem hi)
        refine ⟨_,rfl,_,rfl,p,_,_,V.int (T[i].getD j 0),rfl,rfl,SqL.of (hT.at_ i p _ e e1),atI_nat (by rw [List.getElem?_map,List.getD_eq_getElem?_getD,List.getElem?_eq_getElem hr];rfl),rfl,?_,_,rfl⟩
        rw [take_snoc (fun r:List Int=>r.getD j 0) e1,List.map_append]
        rfl
    · rintro ys τ H2 D ⟨rfl,rfl,_⟩ hD
      refine k D _ (Same.add hD) hD ?_
      rw [upd_same,el,take_all]
      rfl
def spCls:Sp:=fun vs H Q _=>∃ (l:Addr) (ls:List Addr) (T:List (List Int)),vs=[.ref l]∧TabV H l ls T∧T.length≤1000∧(∀ r∈T,r.length=T.length)∧∀ d ms H',Same H H'→H d=none→TabV H' d ms ((List.range T.length).map fun j=>colAt T j)→Q (.ref d) H'
theorem scCls:FnScope ["lines"] ["lines"] (defScope sCls):=⟨rfl,rfl,rfl,by decide +kernel,rfl,by decide +kernel,by decide +kernel⟩
theorem nd_cls1:(["place","lines"]:List Str).Nodup:=by decide +kernel
theorem ok_cls {f fCol:Addr} {fd fdCol:FuncData} (F:Fun K "columns" "columns" sCls f fd)
    (GCol:FnOk P w K mg base CX0 1 fCol fdCol ["lines","place"] spCol)
    (gCol:Gf K mg "column" fCol fdCol ["lines","place"])
    (hlen:mg "len" = none)
    (hrange:mg "range" = none)
    : FnOk P w K mg base CX0 2 f fd ["lines"] spCls:=by
  refine F.ok scCls (fun vs H Q E h=>?_) (fun cdv A outer s H vs Q E hr h=>?_)
  · obtain ⟨l,ls,T,rfl,_⟩:=h
    rfl
  · obtain ⟨l,ls,T,rfl,hT,h8,hj,k⟩:=h
    refine ⟨_,(pss_one (ps_ret (pe_comp (N':=["place","lines"]) (ix:=[none,some 0]) rfl rfl (pi_range1 rfl hrange (pa_cons (pe_callB (call_lenK K) (by rfl) hlen PySem.boot_len (pa_cons (pv 0) pa_nil)) pa_nil)) (fun _ _ _ _ _ _=>(pg_name (i:=0) nd_cls1 rfl (Or.inl rfl))) (fun _ _ _ _ _ _=>pts_nil) (fun _ _ _ _ _ _=>(pe_call GCol hr rfl gCol.m gCol.k gCol.b .nil pass0 (pa_cons (pv 1) (pa_cons (pv 0) pa_nil))))))),?_⟩
    have el:(ls.map V.ref).length=T.length:=by rw [List.length_map,hT.len]
    refine ⟨_,rfl,l,_,rfl,.inl (SqL.of hT.top),?_⟩
    refine ⟨_,rfl,by omega,by omega,?_⟩
    refine comp_all (τ0:=[none,some (V.ref l)]) (sure_range (lo:=0) (n:=Int.toNat (((ls.map V.ref).length:Nat):Int))) (by rw [rngV_length,el];simp;omega)
      (fun i ys τ H2=>Same H H2∧(∃ v,τ=[v,some (.ref l)])∧∃ ms,ys=ms.map V.ref∧RowsAt H H2 ms (((List.range T.length).take i).map fun j=>(colAt T j).map V.int)) ⟨Same.refl _,⟨_,rfl⟩,[],rfl,RowsAt.nil⟩ ?_ ?_ ?_
    · rintro i ys τ H2 hi ⟨s2,_,ms,rfl,hR⟩
      refine ⟨trivial,?_⟩
      rw [List.length_map,hR.len,List.length_map,List.length_take]
      omega
    · rintro i x ys τ H2 hx ⟨s2,⟨v,rfl⟩,ms,rfl,hR⟩
      obtain ⟨hi,rfl⟩:=rng_at hx
      have hi':i < T.length:=by rw [el] at hi;simpa using hi
      refine ⟨_,rfl,_,rfl,l,ls,T,i,rfl,hT.mono s2,h8,fun r hr=>by rw [hj r hr];exact hi',fun d H3 s3 n3 e3=>?_⟩
      refine ⟨s2.trans s3,⟨_,rfl⟩,ms++[d],by rw [List.map_append];rfl,?_⟩
      rw [rng_take _ hi']
      exact hR.snoc s3 (s2.free n3) n3 e3
    · rintro ys τ H2 D ⟨s2,_,ms,rfl,hR⟩ hD
      have e5:(rngV 0 (Int.toNat (((ls.map V.ref).length:Nat):Int))).length=T.length:=by rw [rngV_length,el];simp
      rw [e5,take_rng] at hR
      refine k D ms _ (s2.trans (Same.add hD)) (s2.free hD) ⟨upd_same,?_,fun j a v e1 e2=>?_⟩
      · rw [hR.len,List.length_map,List.length_map]
      · refine Same.add hD _ _ (hR.at_ j a _ e1 ?_)
        rw [List.getElem?_map] at e2 ⊢
        cases e3:(List.range T.length)[j]? with
        | none=>rw [e3] at e2;cases e2
        | some m =>
          rw [e3] at e2
          cases e2
          rfl
def spPrs:Sp:=fun vs H Q _=>∃ (a b:Addr) (xs ys:List Int) (e1 e2:Nat),vs=[.ref a,.ref b]∧H a=some (.lst (xs.map V.int))∧H b=some (.lst (ys.map V.int))∧xs.length≤1000∧Bz e1 xs∧Bz e2 ys∧e1≤5000∧e2≤5000∧∀ H',Same H H'→Q (.int (dot xs ys)) H'
theorem scPrs:FnScope ["ones","others"] ["ones","others"] (defScope sPrs):=⟨rfl,rfl,rfl,by decide +kernel,rfl,by decide +kernel,by decide +kernel⟩
theorem nd_prs1:(["one","other"]:List Str).Nodup:=by decide +kernel
theorem ok_prs {f:Addr} {fd:FuncData} (F:Fun K "paired_sum" "paired_sum" sPrs f fd)
    (hzip:mg "zip" = none)
    (hsum:mg "sum" = none)
    : FnOk P w K mg base CX0 1 f fd ["ones","others"] spPrs:=by
  refine F.ok scPrs (fun vs H Q E h=>?_) (fun cdv A outer s H vs Q E hr h=>?_)
  · obtain ⟨a,b,xs,ys,e1,e2,rfl,_⟩:=h
    rfl
  · obtain ⟨a,b,xs,ys,e1,e2,rfl,ha,hb,h8,b1,b2,l1,l2,k⟩:=h
    refine ⟨_,(pss_one (ps_ret (pe_callB (call_sumK2 K rfl) (by rfl) hsum (by first | exact PySem.boot_sum | decide +kernel) (pa_cons (pe_comp (N':=["one","other"]) (ix:=[none,none]) rfl rfl (pi_zipK K rfl hzip (pa_cons (pv 0) (pa_cons (pv 1) pa_nil))) (fun _ _ _ _ _ _=>(pg_tupK K (n:=2) rfl (pgs_cons (pg_name (i:=0) nd_prs1 rfl (Or.inl rfl)) (pgs_cons (pg_name (i:=1) nd_prs1 rfl (Or.inl rfl)) pgs_nil)))) (fun _ _ _ _ _ _=>pts_nil) (fun _ _ _ _ _ _=>(pe_op op_mulB (pv 0) (pv 1)))) pa_nil)))),?_⟩
    refine ⟨_,rfl,_,rfl,a,b,rfl,⟨_,SqL.of ha⟩,⟨_,SqL.of hb⟩,?_⟩
    have elen:(((xs.map V.int).zip (ys.map V.int)).map fun p=>[p.1,p.2]).length=(List.zipWith (· * ·) xs ys).length:=by simp
    refine comp_all2 (Q:=fun x Ha=>rSum K [x] Ha Q) (τ0:=[none,none]) (sure_zip (xs:=xs.map V.int) (ys:=ys.map V.int)) (by simp;omega)
      (fun i zs τ H2=>Same H H2∧(∃ v u,τ=[v,u])∧zs=((List.zipWith (· * ·) xs ys).take i).map V.int) ⟨Same.refl _,⟨_,_,rfl⟩,rfl⟩ ?_ ?_ ?_
    · rintro i zs τ H2 hi ⟨s2,_,rfl⟩
      refine ⟨⟨SqL.of (s2 _ _ ha),SqL.of (s2 _ _ hb)⟩,?_⟩
      rw [List.length_map,List.length_take]
      omega
    · rintro i us zs τ H2 T hz ⟨s2,⟨v,u,rfl⟩,rfl⟩ hT
      rw [List.getElem?_map] at hz
      cases ez:((xs.map V.int).zip (ys.map V.int))[i]? with
      | none=>rw [ez] at hz;cases hz
      | some pr =>
        obtain ⟨px,py⟩:=pr
        rw [ez] at hz
        cases hz
        obtain ⟨q1,q2⟩:=List.getElem?_zip_eq_some.mp ez
        rw [List.getElem?_map] at q1 q2
        cases c1:xs[i]? with
        | none=>rw [c1] at q1;cases q1
        | some x =>
          cases c2:ys[i]? with
          | none=>rw [c2] at q2;cases q2
          | some y =>
            rw [c1] at q1
            rw [c2] at q2
            have q1':V.int x=px:=Option.some.inj q1
            have q2':V.int y=py:=Option.some.inj q2
            subst q1' q2'
            have k1:=Nat.le_trans (bits_abs (b1 x (List.mem_of_getElem? c1))) (Nat.le_trans l1 (show 5000≤2 ^ 20 by decide))
            have k2:=Nat.le_trans (bits_abs (b2 y (List.mem_of_getElem? c2))) (Nat.le_trans l2 (show 5000≤2 ^ 20 by decide))
            refine ⟨T,_,rfl,SqT.of upd_same,rfl,_,_,rfl,_,_,rfl,rfl,?_⟩
            refine ⟨_,rfl,_,rfl,_,_,rfl,rfl,⟨k1,k2⟩,s2.trans (Same.add hT),⟨_,_,rfl⟩,?_⟩
            have e3:(List.zipWith (· * ·) xs ys)[i]? = some (x * y):=by rw [List.getElem?_zipWith,c1,c2]
            rw [List.take_add_one,e3,List.map_append]
            rfl
    · rintro zs τ H2 D ⟨s2,_,rfl⟩ hD
      rw [elen,take_all]
      exact ⟨D,_,rfl,SqL.of upd_same,k _ (s2.trans (Same.add hD))⟩
def spOao:Sp:=fun vs H Q _=>∃ (a l:Addr) (ls:List Addr) (xs:List Int) (T:List (List Int)) (e1 e2:Nat),vs=[.ref a,.ref l]∧H a=some (.lst (xs.map V.int))∧TabV H l ls T∧xs.length≤1000∧T.length≤1000∧Bz e1 xs∧(∀ r∈T,Bz e2 r)∧e1≤5000∧e2≤5000 ∧
  ∀ d H',Same H H'→H d=none→H' d=some (.lst ((T.map fun r=>dot xs r).map V.int))→Q (.ref d) H'
theorem scOao:FnScope ["line","sources"] ["line","sources"] (defScope sOao):=⟨rfl,rfl,rfl,by decide +kernel,rfl,by decide +kernel,by decide +kernel⟩
theorem nd_oao1:(["source","line"]:List Str).Nodup:=by decide +kernel
theorem ok_oao {f fPrs:Addr} {fd fdPrs:FuncData} (F:Fun K "one_age_on" "one_age_on" sOao f fd)
    (GPrs:FnOk P w K mg base CX0 1 fPrs fdPrs ["ones","others"] spPrs)
    (gPrs:Gf K mg "paired_sum" fPrs fdPrs ["ones","others"])
    : FnOk P w K mg base CX0 2 f fd ["line","sources"] spOao:=by
  refine F.ok scOao (fun vs H Q E h=>?_) (fun cdv A outer s H vs Q E hr h=>?_)
  · obtain ⟨a,l,ls,xs,T,e1,e2,rfl,_⟩:=h
    rfl
  · obtain ⟨a,l,ls,xs,T,e1,e2,rfl,ha,hT,h8,h9,b1,b2,l1,l2,k⟩:=h
    refine ⟨_,(pss_one (ps_ret (pe_comp (N':=["source","line"]) (ix:=[none,some 0]) rfl rfl (pi_listK K (pv 1)) (fun _ _ _ _ _ _=>(pg_name (i:=0) nd_oao1 rfl (Or.inl rfl))) (fun _ _ _ _ _ _=>pts_nil) (fun _ _ _ _ _ _=>(pe_call GPrs hr rfl gPrs.m gPrs.k gPrs.b .nil pass0 (pa_cons (pv 1) (pa_cons (pv 0) pa_nil))))))),?_⟩
    have el:(ls.map V.ref).length=T.length:=by rw [List.length_map,hT.len]
    refine ⟨_,rfl,l,rfl,⟨_,SqL.of hT.top⟩,comp_allR (τ0:=[none,some (V.ref a)]) (sure_list (xs:=ls.map V.ref)) (by rw [el];omega)
      (fun j zs τ H6=>Same H H6∧(∃ v,τ=[v,some (.ref a)])∧zs=((T.take j).map fun r=>dot xs r).map V.int) ⟨Same.refl _,⟨_,rfl⟩,rfl⟩ ?_ ?_ ?_⟩
    · rintro j zs τ H6 hj ⟨s6,_,rfl⟩
      refine ⟨SqL.of (s6 _ _ hT.top),?_⟩
      rw [List.length_map,List.length_map,List.length_take]
      omega
    · rintro j x zs τ H6 hx2 ⟨s6,⟨v,rfl⟩,rfl⟩
      rw [List.getElem?_map] at hx2
      cases c1:ls[j]? with
      | none=>rw [c1] at hx2;cases hx2
      | some b =>
        rw [c1] at hx2
        cases hx2
        obtain ⟨r,c2,hb⟩:=hT.get' c1
        refine ⟨_,rfl,_,rfl,a,b,xs,r,e1,e2,rfl,s6 _ _ ha,s6 _ _ hb,h8,b1,b2 r (List.mem_of_getElem? c2),l1,l2,fun H7 s7=>⟨s6.trans s7,⟨_,rfl⟩,?_⟩⟩
        rw [take_snoc (fun r=>dot xs r) c2,List.map_append]
        rfl
    · rintro zs τ H6 Dn ⟨s6,_,rfl⟩ hDn
      refine k Dn _ (s6.trans (Same.add hDn)) (s6.free hDn) ?_
      rw [upd_same,el,take_all]
end
end Lw
namespace Lw
open PySem L2
theorem ten60:(10:Int) ^ Int.toNat 60=1000000000000000000000000000000000000000000000000000000000000:=by decide +kernel
theorem ten30:(10:Int) ^ Int.toNat 30=1000000000000000000000000000000:=by decide +kernel
theorem n100 {n:Int} (h:n < 1000000000000000000000000000000):n≤2 ^ 100:=Int.le_trans (Int.le_of_lt h) (by decide +kernel)
section
variable {P:Program} {w:World} {K:PySem.W.Frag} {mg:Str→Option Value} {base:Heap}
def spNfa:Sp:=fun vs H Q _=>∃ n:Nat,vs=[.int (n:Int)]∧n < 1000000000000000000000000000000000000000000000000000000000000∧Q .non H
theorem scNfa:FnScope ["age"] ["age"] (defScope sNfa):=⟨rfl,rfl,rfl,by decide +kernel,rfl,by decide +kernel,by decide +kernel⟩
theorem ok_nfa {f fWin:Addr} {fd fdWin:FuncData} (F:Fun K "need_far_age" "need_far_age" sNfa f fd)
    (GWin:FnOk P w K mg base CX0 2 fWin fdWin ["thing","least","most"] spWin)
    (gWin:Gf K mg "is_within" fWin fdWin ["thing","least","most"])
    : FnOk P w K mg base CX0 3 f fd ["age"] spNfa:=by
  refine F.ok scNfa (fun vs H Q E h=>?_) (fun cdv A outer s H vs Q E hr h=>?_)
  · obtain ⟨n,rfl,_⟩:=h
    rfl
  · obtain ⟨n,rfl,hn,k⟩:=h
    refine ⟨_,(pss_one (ps_if (pt_not (pt_val (pe_call GWin hr rfl gWin.m gWin.k gWin.b .nil pass0 (pa_cons (pv 0) (pa_cons pe_int (pa_cons (pe_op op_sub (pe_op op_pow pe_int pe_int) pe_int) pa_nil)))))) pss_never pss_nil)),?_⟩
    refine ⟨_,rfl,_,_,rfl,rfl,⟨by decide,by decide,by decide⟩,_,_,rfl,rfl,(n:Int),0,_,rfl,by omega,by rw [ten60];omega,_,rfl,?_⟩
    exact iteF k
def spNnu:Sp:=fun vs H Q _=>∃ n:Int,vs=[.int n]∧0 < n∧n < 1000000000000000000000000000000∧Q .non H
theorem scNnu:FnScope ["number"] ["number"] (defScope sNnu):=⟨rfl,rfl,rfl,by decide +kernel,rfl,by decide +kernel,by decide +kernel⟩
theorem ok_nnu {f fWin:Addr} {fd fdWin:FuncData} (F:Fun K "need_number" "need_number" sNnu f fd)
    (GWin:FnOk P w K mg base CX0 2 fWin fdWin ["thing","least","most"] spWin)
    (gWin:Gf K mg "is_within" fWin fdWin ["thing","least","most"])
    : FnOk P w K mg base CX0 3 f fd ["number"] spNnu:=by
  refine F.ok scNnu (fun vs H Q E h=>?_) (fun cdv A outer s H vs Q E hr h=>?_)
  · obtain ⟨n,rfl,_⟩:=h
    rfl
  · obtain ⟨n,rfl,h0,h1,k⟩:=h
    refine ⟨_,(pss_one (ps_if (pt_not (pt_val (pe_call GWin hr rfl gWin.m gWin.k gWin.b .nil pass0 (pa_cons (pv 0) (pa_cons pe_int (pa_cons (pe_op op_sub (pe_op op_pow pe_int pe_int) pe_int) pa_nil)))))) pss_never pss_nil)),?_⟩
    refine ⟨_,rfl,_,_,rfl,rfl,⟨by decide,by decide,by decide⟩,_,_,rfl,rfl,n,1,_,rfl,by omega,by rw [ten30];omega,_,rfl,?_⟩
    exact iteF k
def spLov:Sp:=fun vs H Q _=>∃ (a:Addr) (xs:List Int) (n:Int),vs=[.ref a,.int n]∧H a=some (.lst (xs.map V.int))∧xs.length≤1000∧0 < n∧∀ d H',Same H H'→H d=none→H' d=some (.lst ((md n xs).map V.int))→Q (.ref d) H'
theorem scLov:FnScope ["line","number"] ["line","number"] (defScope sLov):=⟨rfl,rfl,rfl,by decide +kernel,rfl,by decide +kernel,by decide +kernel⟩
theorem nd_lov1:(["entry","number"]:List Str).Nodup:=by decide +kernel
theorem ok_lov {f:Addr} {fd:FuncData} (F:Fun K "left_over" "left_over" sLov f fd)
    : FnOk P w K mg base CX0 1 f fd ["line","number"] spLov:=by
  refine F.ok scLov (fun vs H Q E h=>?_) (fun cdv A outer s H vs Q E hr h=>?_)
  · obtain ⟨a,xs,n,rfl,_⟩:=h
    rfl
  · obtain ⟨a,xs,n,rfl,ha,h8,h0,k⟩:=h
    refine ⟨_,(pss_one (ps_ret (pe_comp (N':=["entry","number"]) (ix:=[none,some 1]) rfl rfl (pi_listK K (pv 0)) (fun _ _ _ _ _ _=>(pg_name (i:=0) nd_lov1 rfl (Or.inl rfl))) (fun _ _ _ _ _ _=>pts_nil) (fun _ _ _ _ _ _=>(pe_op op_mod (pv 0) (pv 1)))))),?_⟩
    refine ⟨_,rfl,a,rfl,⟨_,SqL.of ha⟩,comp_all (sure_list (xs:=xs.map V.int)) (by rw [List.length_map];omega) (fun i ys τ H2=>H2=H∧ys=((xs.take i).map fun x=>x % n).map V.int∧∃ v,τ=[v,some (.int n)]) ⟨rfl,rfl,_,rfl⟩ ?_ ?_ ?_⟩
    · rintro i ys τ H2 hi ⟨rfl,rfl,_⟩
      refine ⟨SqL.of ha,?_⟩
      rw [List.length_map,List.length_map,List.length_take]
      omega
    · rintro i x ys τ H2 hx ⟨rfl,rfl,v,rfl⟩
      rw [List.getElem?_map] at hx
      cases e:xs[i]? with
      | none=>rw [e] at hx;cases hx
      | some z =>
        rw [e] at hx
        cases hx
        refine ⟨_,rfl,_,rfl,_,_,rfl,rfl,h0,rfl,?_,_,rfl⟩
        rw [take_snoc (fun x:Int=>x % n) e,List.map_append]
        rfl
    · rintro ys τ H2 D ⟨rfl,rfl,_⟩ hD
      refine k D _ (Same.add hD) hD ?_
      rw [upd_same,List.length_map,take_all]
      rfl
def spPro:Sp:=fun vs H Q _=>∃ (a b:Addr) (ls ms:List Addr) (A B:List (List Int)) (n:Int) (e:Nat),vs=[.ref a,.ref b,.int n]∧TabV H a ls A∧TabV H b ms B∧A.length≤100∧B.length≤100∧(∀ r∈A,r.length≤1000)∧(∀ r∈B,r.length=B.length)∧(∀ r∈A,Bz e r)∧(∀ r∈B,Bz e r)∧e≤4000∧0 < n ∧
  ∀ d ds H',Same H H'→H d=none→TabV H' d ds (mm B.length n A B)→Q (.ref d) H'
theorem scPro:FnScope ["lines","others","number","sources"] ["lines","others","number"] (defScope sPro):=⟨rfl,rfl,rfl,by decide +kernel,rfl,by decide +kernel,by decide +kernel⟩
theorem nd_pro1:(["line","sources","number"]:List Str).Nodup:=by decide +kernel
theorem ok_pro {f fCls fLov fOao:Addr} {fd fdCls fdLov fdOao:FuncData} (F:Fun K "product" "product" sPro f fd)
    (GCls:FnOk P w K mg base CX0 2 fCls fdCls ["lines"] spCls)
    (gCls:Gf K mg "columns" fCls fdCls ["lines"])
    (GLov:FnOk P w K mg base CX0 1 fLov fdLov ["line","number"] spLov)
    (gLov:Gf K mg "left_over" fLov fdLov ["line","number"])
    (GOao:FnOk P w K mg base CX0 2 fOao fdOao ["line","sources"] spOao)
    (gOao:Gf K mg "one_age_on" fOao fdOao ["line","sources"])
    : FnOk P w K mg base CX0 3 f fd ["lines","others","number"] spPro:=by
  refine F.ok scPro (fun vs H Q E h=>?_) (fun cdv A outer s H vs Q E hr h=>?_)
  · obtain ⟨a,b,ls,ms,M,B,n,e,rfl,_⟩:=h
    rfl
  · obtain ⟨a,b,ls,ms,M,B,n,e,rfl,hA,hB,l1,l2,r1,r2,b1,b2,he,h0,k⟩:=h
    have hr1:Room 1 _:=hr.mono (by decide)
    refine ⟨_,(pss_cons (ps_set (i:=3) scPro.nd rfl (Or.inr rfl) (pe_call GCls hr rfl gCls.m gCls.k gCls.b .nil pass0 (pa_cons (pv 1) pa_nil)))
      (pss_one (ps_ret (pe_comp (N':=["line","sources","number"]) (ix:=[none,some 3,some 2]) rfl rfl (pi_listK K (pv 0)) (fun _ _ _ _ _ _=>(pg_name (i:=0) nd_pro1 rfl (Or.inl rfl))) (fun _ _ _ _ _ _=>pts_nil) (fun _ _ _ _ _ _=>(pe_call GLov hr1 rfl gLov.m gLov.k gLov.b .nil pass0 (pa_cons (pe_call GOao hr rfl gOao.m gOao.k gOao.b .nil pass0 (pa_cons (pv 0) (pa_cons (pv 1) pa_nil))) (pa_cons (pv 2) pa_nil)))))))),?_⟩
    have el:(ls.map V.ref).length=M.length:=by rw [List.length_map,hA.len]
    refine ⟨_,rfl,b,ms,B,rfl,hB,by omega,r2,fun c cs H1 s1 n1 hC=>?_⟩
    have bC:∀ r∈(List.range B.length).map (fun j=>colAt B j),Bz (e+1) r:=fun r hr=>by
      obtain ⟨j,_,rfl⟩:=List.mem_map.mp hr
      intro x hx
      unfold colAt at hx
      obtain ⟨q,hq,rfl⟩:=List.mem_map.mp hx
      have h2:2 ^ e < 2 ^ (e+1):=Nat.pow_lt_pow_right (by decide) (by omega)
      rw [List.getD_eq_getElem?_getD]
      cases z:q[j]? with
      | none=>exact Nat.pow_pos (by decide)
      | some y=>exact Nat.lt_trans (b2 q hq y (List.mem_of_getElem? z)) h2
    refine ⟨_,rfl,a,rfl,⟨_,SqL.of (s1 _ _ hA.top)⟩,?_⟩
    refine comp_allR (τ0:=[none,some (V.ref c),some (.int n)]) (sure_list (xs:=ls.map V.ref)) (by rw [el];omega)
      (fun i ys τ H2=>Same H1 H2∧(∃ v,τ=[v,some (.ref c),some (.int n)])∧∃ ds,ys=ds.map V.ref∧RowsAt H1 H2 ds ((M.take i).map fun r=>(md n (stepC B.length B r)).map V.int)) ⟨Same.refl _,⟨_,rfl⟩,[],rfl,RowsAt.nil⟩ ?_ ?_ ?_
    · rintro i ys τ H2 hi ⟨s2,_,ds,rfl,hR⟩
      refine ⟨SqL.of (s2 _ _ (s1 _ _ hA.top)),?_⟩
      rw [List.length_map,hR.len,List.length_map,List.length_take]
      omega
    · rintro i x ys τ H2 hx ⟨s2,⟨v,rfl⟩,ds,rfl,hR⟩
      rw [List.getElem?_map] at hx
      cases z:ls[i]? with
      | none=>rw [z] at hx;cases hx
      | some p =>
        rw [z] at hx
        cases hx
        obtain ⟨r,z2,hp⟩:=hA.get' z
        have hm:=List.mem_of_getElem? z2
        refine ⟨_,rfl,_,rfl,p,c,cs,r,_,e,e+1,rfl,s2 _ _ (s1 _ _ hp),hC.mono s2,r1 r hm,by rw [List.length_map,List.length_range];omega,b1 r hm,bC,by omega,by omega,fun d H3 s3 n3 e3=>?_⟩
        rw [step_cols] at e3
        refine ⟨_,rfl,d,_,n,rfl,e3,by rw [stepC_len];omega,h0,fun d2 H4 s4 n4 e4=>?_⟩
        refine ⟨s2.trans (s3.trans s4),⟨_,rfl⟩,ds++[d2],by rw [List.map_append];rfl,?_⟩
        rw [take_snoc _ z2]
        exact hR.snoc (s3.trans s4) (s2.free (s3.free n4)) (s3.free n4) e4
    · rintro ys τ H2 D ⟨s2,_,ds,rfl,hR⟩ hD
      rw [el,take_all] at hR
      refine k D ds _ (s1.trans (s2.trans (Same.add hD))) (s1.free (s2.free hD)) ⟨upd_same,?_,fun j q v e1 e2=>?_⟩
      · rw [hR.len];unfold mm;rw [List.length_map,List.length_map]
      · refine Same.add hD _ _ (hR.at_ j q _ e1 ?_)
        unfold mm at e2
        rw [List.getElem?_map] at e2 ⊢
        cases e3:M[j]? with
        | none=>rw [e3] at e2;cases e2
        | some m =>
          rw [e3] at e2
          cases e2
          rfl
end
end Lw
namespace Lw
open PySem L2
def LedI (H:Hp) (t l:Addr) (rs:List Rule) (L:List (List Int)) (a:Nat) (n:Int) (q:Nat) (σ:St) (H5:Hp):Prop :=
  ∃ (d dS:Addr) (es ss:List Addr) (S:List (List Int)) (x p:Nat),σ=[some (.ref t),some (.ref l),some (.int (a:Int)),some (.int n),some (.ref dS),some (.ref d),some (.int (q:Int))]∧a=x+p * q∧Same H H5∧H d=none ∧
    TabV H5 d es (L.map fun r=>md n (cntN rs.length (tabI rs) r x))∧TabV H5 dS ss S∧Pw rs.length n (tabI rs) S p∧(∀ r∈S,Bz 100 r)
section
variable {P:Program} {w:World} {K:PySem.W.Frag} {mg:Str→Option Value} {base:Heap}
def spLed:Sp:=fun vs H Q _=>∃ (t l:Addr) (ls:List Addr) (first:List Nat) (rs:List Rule) (L:List (List Int)) (a:Nat) (n:Int),vs=[.ref t,.ref l,.int (a:Int),.int n]∧BookAt H t first rs∧Good first rs∧TabV H l ls L∧L.length≤8∧(∀ r∈L,r.length=rs.length)∧0 < n∧n < 1000000000000000000000000000000 ∧
  ∀ d ds H',Same H H'→H d=none→TabV H' d ds (L.map fun r=>md n (cntN rs.length (tabI rs) r a))→Q (.ref d) H'
theorem scLed:FnScope ["book","lines","age","number","step","told","rest"] ["book","lines","age","number"] (defScope sLed):=⟨rfl,rfl,rfl,by decide +kernel,rfl,by decide +kernel,by decide +kernel⟩
theorem nd_led1:(["line","number"]:List Str).Nodup:=by decide +kernel
theorem ok_led {f fTab fLov fPro:Addr} {fd fdTab fdLov fdPro:FuncData} (F:Fun K "led_through" "led_through" sLed f fd)
    (GTab:FnOk P w K mg base CX0 4 fTab fdTab ["book"] spTab)
    (gTab:Gf K mg "table" fTab fdTab ["book"])
    (GLov:FnOk P w K mg base CX0 1 fLov fdLov ["line","number"] spLov)
    (gLov:Gf K mg "left_over" fLov fdLov ["line","number"])
    (GPro:FnOk P w K mg base CX0 3 fPro fdPro ["lines","others","number"] spPro)
    (gPro:Gf K mg "product" fPro fdPro ["lines","others","number"])
    : FnOk P w K mg base CX0 5 f fd ["book","lines","age","number"] spLed:=by
  refine F.ok scLed (fun vs H Q E h=>?_) (fun cdv A outer s H vs Q E hr h=>?_)
  · obtain ⟨t,l,ls,first,rs,L,a,n,rfl,_⟩:=h
    rfl
  · obtain ⟨t,l,ls,first,rs,L,a,n,rfl,hB,hG,hL,l8,lr,h0,h1,k⟩:=h
    have hr1:Room 1 _:=hr.mono (by decide)
    have hr3:Room 3 _:=hr.mono (by decide)
    refine ⟨_,(pss_cons (ps_set (i:=4) scLed.nd rfl (Or.inl rfl) (pe_call GTab hr rfl gTab.m gTab.k gTab.b .nil pass0 (pa_cons (pv 0) pa_nil)))
      (pss_cons (ps_setC (i:=5) (N':=["line","number"]) (ix:=[none,some 3]) scLed.nd rfl rfl rfl rfl (pi_listK K (pv 1)) (fun _ _ _ _ _ _=>(pg_name (i:=0) nd_led1 rfl (Or.inl rfl))) (fun _ _ _ _ _ _=>pts_nil) (fun _ _ _ _ _ _=>(pe_call GLov hr1 rfl gLov.m gLov.k gLov.b .nil pass0 (pa_cons (pv 0) (pa_cons (pv 1) pa_nil)))))
      (pss_cons (ps_set (i:=6) scLed.nd rfl (Or.inl rfl) (pv 2))
      (pss_cons (ps_while PassesOwn.never (pt_cmpR op_gt (pv 6) pe_int (nomark _)) (pss_cons (ps_if (pt_cmpR op_eq (pe_op op_mod (pv 6) pe_int) pe_int (nomark _)) (pss_one (ps_set (i:=5) scLed.nd rfl (Or.inl rfl) (pe_call GPro hr3 rfl gPro.m gPro.k gPro.b .nil pass0 (pa_cons (pv 5) (pa_cons (pv 4) (pa_cons (pv 3) pa_nil)))))) pss_nil)
      (pss_cons (ps_set (i:=4) scLed.nd rfl (Or.inl rfl) (pe_call GPro hr3 rfl gPro.m gPro.k gPro.b .nil pass0 (pa_cons (pv 4) (pa_cons (pv 4) (pa_cons (pv 3) pa_nil)))))
      (pss_one (ps_set (i:=6) scLed.nd rfl (Or.inl rfl) (pe_op op_fdiv (pv 6) pe_int))))))
      (pss_one (ps_ret (pv 5))))))),?_⟩
    have hfew:=hG.few
    have el:(ls.map V.ref).length=L.length:=by rw [List.length_map,hL.len]
    refine ⟨_,rfl,t,first,rs,rfl,hB,hG.few,fun dT ts H1 s1 hT=>?_⟩
    have hTV:=hT.v
    refine ⟨_,rfl,l,rfl,⟨_,SqL.of (s1 _ _ hL.top)⟩,?_⟩
    refine comp_allR (τ0:=[none,some (.int n)]) (sure_list (xs:=ls.map V.ref)) (by rw [el];omega)
      (fun i ys τ H2=>Same H1 H2∧(∃ v,τ=[v,some (.int n)])∧∃ ds,ys=ds.map V.ref∧RowsAt H1 H2 ds ((L.take i).map fun r=>(md n r).map V.int)) ⟨Same.refl _,⟨_,rfl⟩,[],rfl,RowsAt.nil⟩ ?_ ?_ ?_
    · rintro i ys τ H2 hi ⟨s2,_,ds,rfl,hR⟩
      refine ⟨SqL.of (s2 _ _ (s1 _ _ hL.top)),?_⟩
      rw [List.length_map,hR.len,List.length_map,List.length_take]
      omega
    · rintro i x ys τ H2 hx ⟨s2,⟨v,rfl⟩,ds,rfl,hR⟩
      rw [List.getElem?_map] at hx
      cases z:ls[i]? with
      | none=>rw [z] at hx;cases hx
      | some p =>
        rw [z] at hx
        cases hx
        obtain ⟨r,z2,hp⟩:=hL.get' z
        refine ⟨_,rfl,_,rfl,p,r,n,rfl,s2 _ _ (s1 _ _ hp),by rw [lr r (List.mem_of_getElem? z2)];omega,h0,fun d2 H4 s4 n4 e4=>?_⟩
        refine ⟨s2.trans s4,⟨_,rfl⟩,ds++[d2],by rw [List.map_append];rfl,?_⟩
        rw [take_snoc _ z2]
        exact hR.snoc s4 (s2.free n4) n4 e4
    · rintro ys τ H2 D0 ⟨s2,_,ds,rfl,hR⟩ hD
      rw [el,take_all] at hR
      have s02:Same H (upd H2 D0 (.lst (ds.map V.ref))):=s1.trans (s2.trans (Same.add hD))
      have hV0:TabV (upd H2 D0 (.lst (ds.map V.ref))) D0 ds (L.map fun r=>md n (cntN rs.length (tabI rs) r 0)):=by
        refine ⟨upd_same,?_,fun j q v e1 e2=>?_⟩
        · rw [hR.len,List.length_map,List.length_map]
        · refine Same.add hD _ _ (hR.at_ j q _ e1 ?_)
          rw [List.getElem?_map] at e2 ⊢
          cases e3:L[j]? with
          | none=>rw [e3] at e2;cases e2
          | some m =>
            rw [e3] at e2
            cases e2
            rfl
      have hS0:=hTV.mono (s2.trans (Same.add (o:=.lst (ds.map V.ref)) hD))
      have nD0:=s1.free (s2.free hD)
      generalize upd H2 D0 (.lst (ds.map V.ref))=H3 at s02 hV0 hS0
      have bT:∀ r∈tabI rs,Bz 100 r:=fun r hr x hx=>Nat.lt_trans ((tabI_sm hG hr).bd.z x hx) (by decide)
      refine ⟨_,rfl,?_⟩
      -- the loop
      refine ⟨LedI H t l rs L a n,
        ⟨a,D0,dT,ds,ts,tabI rs,0,1,rfl,by omega,s02,nD0,hV0,hS0,Pw.one (tabI_len rs) (fun r hr=>tabI_row hr),bT⟩,?_⟩
      rintro q σ H5 ⟨d,dS,es,ss,S,x,p,rfl,hax,s5,nd5,hV,hS,hP,bS⟩
      refine ⟨_,rfl,_,_,rfl,rfl,_,rfl,?_⟩
      refine ite2 (fun hc=>?_) (fun hc=>?_)
      · have hq:0 < q:=by
          have:=of_decide_eq_true hc
          omega
        refine ⟨LedI H t l rs L a n (q / 2),fun σ' H' h=>⟨q / 2,by omega,h⟩,?_⟩
        have kl:S.length=rs.length:=hP.len
        have e2:(q:Int) / 2=((q / 2:Nat):Int):=by omega
        have bm:∀ A:List (List Int),∀ r∈mm rs.length n A S,Bz 100 r:=fun A r hr=>by
          unfold mm at hr
          obtain ⟨y,_,rfl⟩:=List.mem_map.mp hr
          exact (md_bd h0 (n100 h1) _).z
        have sq:∀ (H6:Hp) (Q':VK),Same H5 H6→(∀ d2 ds2 H7,Same H6 H7→TabV H7 d2 ds2 (mm rs.length n S S)→Q' (.ref d2) H7)→spPro ([.ref dS,.ref dS,.int n]++[]) H6 Q' E0:=fun H6 Q' s6 hq'=>by
          refine ⟨dS,dS,ss,ss,S,S,n,100,rfl,hS.mono s6,hS.mono s6,by omega,by omega,fun r hr=>by rw [hP.row r hr];omega,fun r hr=>by rw [hP.row r hr,kl],bS,bS,by omega,h0,fun d2 ds2 H7 s7 _ h7=>?_⟩
          rw [kl] at h7
          exact hq' d2 ds2 H7 s7 h7
        refine ⟨_,rfl,_,_,rfl,rfl,(by show (0:Int) < 2;decide),rfl,_,rfl,?_⟩
        refine ite2 (fun hodd=>?_) (fun heven=>?_)
        · have ho:q=2 * (q / 2)+1:=by
            have:=V.int.inj (of_decide_eq_true hodd)
            omega
          refine ⟨_,rfl,_,rfl,_,rfl,d,dS,es,ss,_,S,n,100,rfl,hV,hS,by rw [List.length_map];omega,by omega,fun r hr=>?_,fun r hr=>by rw [hP.row r hr,kl],fun r hr=>?_,bS,by omega,h0,fun d1 es1 H6 s6 n6 h6=>?_⟩
          · obtain ⟨y,hy,rfl⟩:=List.mem_map.mp hr
            rw [md_len,cntN_len (lr y hy)]
            omega
          · obtain ⟨y,hy,rfl⟩:=List.mem_map.mp hr
            exact (md_bd h0 (n100 h1) _).z
          · rw [kl] at h6
            have e6:mm rs.length n (L.map fun r=>md n (cntN rs.length (tabI rs) r x)) S=L.map fun r=>md n (cntN rs.length (tabI rs) r (x+p)):=by
              unfold mm
              rw [List.map_map]
              exact List.map_congr_left fun r hr=>hP.led (lr r hr)
            rw [e6] at h6
            refine ⟨_,rfl,_,rfl,_,rfl,?_⟩
            dsimp only [tNil]
            refine sq H6 _ s6 fun d2 ds2 H7 s7 h7=>?_
            refine ⟨_,rfl,_,_,rfl,rfl,⟨by decide,by decide⟩,?_⟩
            refine ⟨d1,d2,es1,ds2,_,x+p,p+p,?_,?_,s5.trans (s6.trans s7),s5.free n6,h6.mono s7,h7,hP.twice,bm S⟩
            · rw [← e2];rfl
            · rw [hax,Nat.add_assoc,← Nat.two_mul,Nat.mul_assoc]
              conv=>lhs;rw [ho]
              rw [Nat.mul_add,Nat.mul_one,Nat.mul_left_comm]
              omega
        · have he:q=2 * (q / 2):=by
            have h2:¬ ((q:Int) % 2=1):=fun z=>heven (decide_eq_true (congrArg V.int z))
            omega
          refine ⟨_,rfl,_,rfl,_,rfl,?_⟩
          dsimp only [tNil]
          refine sq H5 _ (Same.refl _) fun d2 ds2 H7 s7 h7=>?_
          refine ⟨_,rfl,_,_,rfl,rfl,⟨by decide,by decide⟩,?_⟩
          refine ⟨d,d2,es,ds2,_,x,p+p,?_,?_,s5.trans s7,nd5,hV.mono s7,h7,hP.twice,bm S⟩
          · rw [← e2];rfl
          · rw [hax,← Nat.two_mul,Nat.mul_assoc]
            conv=>lhs;rw [he]
            rw [Nat.mul_left_comm]
      · have hq:q=0:=by
          have h2:¬ (0:Int) < (q:Int):=fun z=>hc (decide_eq_true z)
          omega
        subst hq
        have:a=x:=by omega
        subst this
        exact ⟨_,rfl,k d es H5 s5 nd5 hV⟩
def spCat:Sp:=fun vs H Q _=>∃ (t:Addr) (first:List Nat) (rs:List Rule) (a:Nat) (n:Int),vs=[.ref t,.int (a:Int),.int n]∧BookAt H t first rs∧Good first rs∧a < 1000000000000000000000000000000000000000000000000000000000000∧0 < n∧n < 1000000000000000000000000000000 ∧
  ∀ d H',Same H H'→H' d=some (.lst ((md n (cntN rs.length (tabI rs) (c0 rs first) a)).map V.int))→Q (.ref d) H'
theorem scCat:FnScope ["book","age","number"] ["book","age","number"] (defScope sCat):=⟨rfl,rfl,rfl,by decide +kernel,rfl,by decide +kernel,by decide +kernel⟩
theorem ok_cat {f fNfa fNnu fLed fTal:Addr} {fd fdNfa fdNnu fdLed fdTal:FuncData} (F:Fun K "counts_at" "counts_at" sCat f fd)
    (GNfa:FnOk P w K mg base CX0 3 fNfa fdNfa ["age"] spNfa)
    (gNfa:Gf K mg "need_far_age" fNfa fdNfa ["age"])
    (GNnu:FnOk P w K mg base CX0 3 fNnu fdNnu ["number"] spNnu)
    (gNnu:Gf K mg "need_number" fNnu fdNnu ["number"])
    (GLed:FnOk P w K mg base CX0 5 fLed fdLed ["book","lines","age","number"] spLed)
    (gLed:Gf K mg "led_through" fLed fdLed ["book","lines","age","number"])
    (GTal:FnOk P w K mg base CX0 3 fTal fdTal ["book","text"] spTal)
    (gTal:Gf K mg "tally" fTal fdTal ["book","text"])
    : FnOk P w K mg base CX0 6 f fd ["book","age","number"] spCat:=by
  refine F.ok scCat (fun vs H Q E h=>?_) (fun cdv A outer s H vs Q E hr h=>?_)
  · obtain ⟨t,first,rs,a,n,rfl,_⟩:=h
    rfl
  · obtain ⟨t,first,rs,a,n,rfl,hB,hG,ha,h0,h1,k⟩:=h
    have hr3:Room 3 _:=hr.mono (by decide)
    refine ⟨_,(pss_cons (ps_expr (pe_call GNfa hr3 rfl gNfa.m gNfa.k gNfa.b .nil pass0 (pa_cons (pv 1) pa_nil)))
      (pss_cons (ps_expr (pe_call GNnu hr3 rfl gNnu.m gNnu.k gNnu.b .nil pass0 (pa_cons (pv 2) pa_nil)))
      (pss_one (ps_ret (pe_ix (ix_listK K) (pe_call GLed hr rfl gLed.m gLed.k gLed.b .nil pass0 (pa_cons (pv 0) (pa_cons (pe_lst (pa_cons (pe_call GTal hr3 rfl gTal.m gTal.k gTal.b .nil pass0 (pa_cons (pv 0) (pa_cons (pe_ix (ix_tupK K) (pv 0) pe_int (fun _ _=>rfl)) pa_nil))) pa_nil)) (pa_cons (pv 1) (pa_cons (pv 2) pa_nil))))) pe_int (fun _ _=>rfl)))))),?_⟩
    obtain ⟨r,ps,b1,b2,b3⟩:=hB.ex
    refine ⟨_,rfl,a,rfl,ha,?_⟩
    refine ⟨_,rfl,n,rfl,h0,h1,?_⟩
    refine ⟨_,rfl,_,rfl,_,rfl,t,_,_,_,rfl,rfl,SqT.of b1,atI_nat (j:=0) rfl,t,first,rs,first,rfl,hB,hG.few,fun d0 H3 s3 n3 e3=>?_⟩
    rw [cnts_eq] at e3
    refine ⟨(by show 1≤sizeLine;decide),fun l hl=>⟨_,rfl,_,rfl,?_⟩⟩
    have sl:=s3.trans (Same.add (o:=.lst [V.ref d0]) hl)
    refine ⟨t,l,[d0],first,rs,[c0 rs first],a,n,rfl,hB.mono (TupS.same sl),hG,⟨upd_same,rfl,fun i q v e1 e2=>?_⟩,by simp,fun r hr=>?_,h0,h1,fun d ds H5 s5 n5 h5=>?_⟩
    · cases i with
      | succ i=>simp at e1
      | zero =>
        cases e1
        cases e2
        exact upd_in e3 (ne_of_none e3 hl)
    · rw [List.mem_singleton.mp hr,c0_len]
    · obtain ⟨q,e1,e2⟩:=h5.get (i:=0) (v:=md n (cntN rs.length (tabI rs) (c0 rs first) a)) rfl
      exact ⟨d,_,_,_,rfl,rfl,SqL.of h5.top,atI_nat (j:=0) (by rw [List.getElem?_map,e1];rfl),k q H5 (sl.trans s5) e2⟩
def spLat:Sp:=fun vs H Q _=>∃ (t:Addr) (first:List Nat) (rs:List Rule) (a:Nat) (n:Int),vs=[.ref t,.int (a:Int),.int n]∧BookAt H t first rs∧Good first rs∧a < 1000000000000000000000000000000000000000000000000000000000000∧0 < n∧n < 1000000000000000000000000000000 ∧
  ∀ H',Same H H'→Q (.int ((md n (cntN rs.length (tabI rs) (c0 rs first) a)).sum % n)) H'
theorem scLat:FnScope ["book","age","number"] ["book","age","number"] (defScope sLat):=⟨rfl,rfl,rfl,by decide +kernel,rfl,by decide +kernel,by decide +kernel⟩
theorem ok_lat {f fCat:Addr} {fd fdCat:FuncData} (F:Fun K "length_at" "length_at" sLat f fd)
    (GCat:FnOk P w K mg base CX0 6 fCat fdCat ["book","age","number"] spCat)
    (gCat:Gf K mg "counts_at" fCat fdCat ["book","age","number"])
    (hsum:mg "sum" = none)
    : FnOk P w K mg base CX0 7 f fd ["book","age","number"] spLat:=by
  refine F.ok scLat (fun vs H Q E h=>?_) (fun cdv A outer s H vs Q E hr h=>?_)
  · obtain ⟨t,first,rs,a,n,rfl,_⟩:=h
    rfl
  · obtain ⟨t,first,rs,a,n,rfl,hB,hG,ha,h0,h1,k⟩:=h
    refine ⟨_,(pss_one (ps_ret (pe_op op_mod (pe_callB (call_sumK2 K rfl) (by rfl) hsum (by first | exact PySem.boot_sum | decide +kernel) (pa_cons (pe_call GCat hr rfl gCat.m gCat.k gCat.b .nil pass0 (pa_cons (pv 0) (pa_cons (pv 1) (pa_cons (pv 2) pa_nil)))) pa_nil)) (pv 2)))),?_⟩
    exact ⟨_,rfl,_,rfl,_,rfl,t,first,rs,a,n,rfl,hB,hG,ha,h0,h1,fun d H' s' e=>⟨d,_,rfl,SqL.of e,_,rfl,_,_,rfl,rfl,h0,k H' s'⟩⟩
end
end Lw
namespace Lw
open PySem L2 PyProof.Rows
def cutN (cs:List Nat) (lo hi:Option Int):List Nat:=(cs.drop (HT.sIx cs.length 0 lo)).take (HT.sIx cs.length cs.length hi - HT.sIx cs.length 0 lo)
theorem cut_sign (cs:List Nat) (lo hi:Option Int):cutV (cs.map sign) lo hi=(cutN cs lo hi).map sign:=by
  unfold cutV cutN
  rw [List.length_map,List.map_take,List.map_drop]
theorem cutN_in {cs:List Nat} {lo hi:Option Int} {c:Nat} (h:c∈cutN cs lo hi):c∈cs:=List.mem_of_mem_drop (List.mem_of_mem_take h)
theorem cutN_len (cs:List Nat) (lo hi:Option Int):(cutN cs lo hi).length≤cs.length:=by
  unfold cutN
  rw [List.length_take,List.length_drop]
  omega
theorem tx_app (a b:List Nat):((⟨a.toArray⟩:Str)++(⟨b.toArray⟩:Str))=⟨(a++b).toArray⟩:=by
  show (⟨a.toArray++b.toArray⟩:Str)=_
  congr 1
  apply Array.ext'
  simp
structure ClsK (K:PySem.W.Frag) (C:Addr):Prop where
  cls:(PySem.W.clsIn K C).isSome=true
  nt:PySem.W.instIn K (.ref C) (.type "tuple")=some false
  bexc:PySem.W.mroIn K C (.type "BaseException")=some true
  ty:PySem.W.typeIn K (.ref C)=some (.type "type")
def NoStr (K:PySem.W.Frag) (H:Hp) (z:V):Prop:=∃ t,TyOf K H z (.type t)∧(t = "bool"∨t = "NoneType"∨t = "int"∨t = "list"∨t = "tuple"∨t = "dict")
abbrev kvw (rs:List Rule):List (Key × V):=rs.map fun q=>((Sum.inr (one q.1):Key),tx q.2)
theorem kvw_pairs {H:Hp}:∀ {ps:List Addr} {rs:List Rule},RulesAt H ps rs→PairsAt H ps (kvw rs)
  | _,_,.nil=>.nil
  | _,_,.cons h r=>.cons h (kvw_pairs r)
theorem kvw_keys (rs:List Rule):(kvw rs).map (·.1)=(ltr rs).map fun c=>(Sum.inr (one c):Key):=by
  unfold kvw ltr
  rw [List.map_map,List.map_map]
  rfl
theorem kvw_val:∀ {rs:List Rule} {q:Rule},(ltr rs).Nodup→q∈rs→valV (kvw rs) (Sum.inr (one q.1):Key)=some (tx q.2)
  | [],_,_,h=>by simp at h
  | p :: rs,q,nd,h=>by
    have nd':=List.nodup_cons.mp (show (p.1 :: ltr rs).Nodup from nd)
    unfold valV
    show Option.map _ (List.find? _ (((Sum.inr (one p.1):Key),tx p.2) :: kvw rs))=_
    rcases List.mem_cons.mp h with z | z
    · subst z
      rw [List.find?_cons_of_pos]
      · rfl
      · exact decide_eq_true rfl
    · rw [List.find?_cons_of_neg]
      · exact kvw_val nd'.2 z
      · intro y
        have y':(Sum.inr (one p.1):Key)=Sum.inr (one q.1):=of_decide_eq_true y
        exact nd'.1 (by rw [one_inj (Sum.inr.inj y')];exact List.mem_map_of_mem z)
theorem small_in (c:Nat):(!(Builtin.Str.occurrences (Str.ofString "abcdefghijklmnopqrstuvwxyz") (one c) 0 (Str.ofString "abcdefghijklmnopqrstuvwxyz").length 1).isEmpty)=decide (97≤c∧c≤122):=by
  refine (PySem.StrLaws.found_one _ c).trans ?_
  have e:(Str.ofString "abcdefghijklmnopqrstuvwxyz").cps.toList=[97,98,99,100,101,102,103,104,105,106,107,108,109,110,111,112,113,114,115,116,117,118,119,120,121,122]:=by decide +kernel
  rw [e]
  by_cases h:97≤c∧c≤122
  · rw [decide_eq_true h]
    refine decide_eq_true ?_
    simp only [List.mem_cons,List.not_mem_nil,or_false]
    omega
  · rw [decide_eq_false h]
    refine decide_eq_false fun z=>h ?_
    simp only [List.mem_cons,List.not_mem_nil,or_false] at z
    omega
theorem szl {n:Nat} (h:n≤1000):n≤sizeLine:=Nat.le_trans h (by decide)
theorem kvw_wd {rs:List Rule} {c:Nat} (nd:(ltr rs).Nodup) (h:c∈ltr rs):valV (kvw rs) (Sum.inr (one c):Key)=some (tx (wd rs c)):=by
  obtain ⟨q,h1,h2,h3⟩:=wd_mem h
  rw [h3,← h2]
  exact kvw_val nd h1
theorem kvw_none {rs:List Rule} {c:Nat} (h:c ∉ ltr rs):valV (kvw rs) (Sum.inr (one c):Key)=none:=by
  unfold valV
  rw [List.find?_eq_none.mpr fun p hp=>?_]
  · rfl
  · obtain ⟨q,hq,rfl⟩:=List.mem_map.mp hp
    intro z
    have z':(Sum.inr (one q.1):Key)=Sum.inr (one c):=of_decide_eq_true z
    exact h (List.mem_map.mpr ⟨q,hq,one_inj (Sum.inr.inj z')⟩)
theorem kvw_some {rs:List Rule} (nd:(ltr rs).Nodup) (c:Nat):(valV (kvw rs) (Sum.inr (one c):Key)).isSome=decide (c∈ltr rs):=by
  by_cases h:c∈ltr rs
  · rw [kvw_wd nd h,decide_eq_true h]
    rfl
  · rw [kvw_none h,decide_eq_false h]
    rfl
theorem wd_in {first:List Nat} {rs:List Rule} (hG:Good first rs) {c:Nat} (h:c∈ltr rs):∀ d∈wd rs c,d∈ltr rs:=by
  obtain ⟨q,h1,h2,h3⟩:=wd_mem h
  rw [h3]
  exact hG.win q h1
theorem wd_le {first:List Nat} {rs:List Rule} (hG:Good first rs) {c:Nat} (h:c∈ltr rs):(wd rs c).length≤6:=by
  obtain ⟨q,h1,h2,h3⟩:=wd_mem h
  rw [h3]
  exact hG.wl q h1
theorem occ_mem (cs:List Nat) (c:Nat):(!(Builtin.Str.occurrences ⟨cs.toArray⟩ ⟨#[c]⟩ 0 (⟨cs.toArray⟩:Str).length 1).isEmpty)=decide (c∈cs):=by
  have h:=StrLaws.found_one ⟨cs.toArray⟩ c
  have e:(⟨cs.toArray⟩:Str).cps.toList=cs:=rfl
  first
  | (rw [e] at h;exact h)
  | (refine Eq.trans h ?_;exact decide_eq_decide.mpr (by simp))
def Rch (rs:List Rule) (x:List Nat) (c:Nat):Prop:=∃ m,c∈rowN rs x m
theorem nxt_mem {rs:List Rule} {x:List Nat} {e:Nat}:e∈nxt rs x ↔ ∃ c∈x,e∈wd rs c:=by
  unfold nxt
  rw [List.mem_flatten]
  constructor
  · rintro ⟨l,hl,he⟩
    obtain ⟨c,hc,rfl⟩:=List.mem_map.mp hl
    exact ⟨c,hc,he⟩
  · rintro ⟨c,hc,he⟩
    exact ⟨_,List.mem_map.mpr ⟨c,hc,rfl⟩,he⟩
theorem Rch.step {rs:List Rule} {x:List Nat} {c e:Nat} (h:Rch rs x c) (he:e∈wd rs c):Rch rs x e:=by
  obtain ⟨m,hm⟩:=h
  exact ⟨m+1,nxt_mem.mpr ⟨c,hm,he⟩⟩
theorem rch_closed {rs:List Rule} {x fs:List Nat} (h0:∀ c∈x,c∈fs) (h1:∀ c∈fs,∀ e∈wd rs c,e∈fs):∀ m,∀ c∈rowN rs x m,c∈fs
  | 0,c,hc=>h0 c hc
  | m+1,c,hc=>by
    obtain ⟨d,hd,he⟩:=nxt_mem.mp hc
    exact h1 d (rch_closed h0 h1 m d hd) c he
structure Srch (rs:List Rule) (x fs ws:List Nat):Prop where
  nd:fs.Nodup
  inf:∀ c∈fs,c∈ltr rs
  inw:∀ c∈ws,c∈ltr rs
  rf:∀ c∈fs,Rch rs x c
  rw:∀ c∈ws,Rch rs x c
  all:∀ c∈x,c∈fs∨c∈ws
  cl:∀ c∈fs,∀ e∈wd rs c,e∈fs∨e∈ws
  le:ws.length≤x.length+6 * fs.length
theorem Srch.start {rs:List Rule} {x:List Nat} (h:∀ c∈x,c∈ltr rs):Srch rs x [] x where
  nd:=List.nodup_nil
  inf:=by intro c hc;cases hc
  inw:=h
  rf:=by intro c hc;cases hc
  rw:=fun c hc=>⟨0,hc⟩
  all:=fun c hc=>.inr hc
  cl:=by intro c hc;cases hc
  le:=by simp
theorem Srch.old {rs:List Rule} {x fs ws:List Nat} {c:Nat} (h:Srch rs x fs (c :: ws)) (hc:c∈fs):Srch rs x fs ws:=by
  refine ⟨h.nd,h.inf,fun e he=>h.inw e (List.mem_cons_of_mem _ he),h.rf,fun e he=>h.rw e (List.mem_cons_of_mem _ he),fun e he=>?_,fun d hd e he=>?_,by have:=h.le;rw [List.length_cons] at this;omega⟩
  · rcases h.all e he with z | z
    · exact .inl z
    · rcases List.mem_cons.mp z with rfl | z
      · exact .inl hc
      · exact .inr z
  · rcases h.cl d hd e he with z | z
    · exact .inl z
    · rcases List.mem_cons.mp z with rfl | z
      · exact .inl hc
      · exact .inr z
theorem Srch.new {first:List Nat} {rs:List Rule} (hG:Good first rs) {x fs ws:List Nat} {c:Nat} (h:Srch rs x fs (c :: ws)) (hc:c ∉ fs):Srch rs x (fs++[c]) (ws++wd rs c):=by
  have hcl:=h.inw c List.mem_cons_self
  have hcr:=h.rw c List.mem_cons_self
  have in':∀ {e},e∈fs∨e∈c :: ws→e∈fs++[c]∨e∈ws++wd rs c:=fun z=>by
    rcases z with z | z
    · exact .inl (List.mem_append_left _ z)
    · rcases List.mem_cons.mp z with rfl | z
      · exact .inl (List.mem_append_right _ List.mem_cons_self)
      · exact .inr (List.mem_append_left _ z)
  refine ⟨?_,fun e he=>?_,fun e he=>?_,fun e he=>?_,fun e he=>?_,fun e he=>in' (h.all e he),fun d hd e he=>?_,?_⟩
  · refine List.nodup_append.mpr ⟨h.nd,by simp,fun a ha b hb e=>?_⟩
    have:b=c:=List.mem_singleton.mp hb
    rw [e,this] at ha
    exact hc ha
  · rcases List.mem_append.mp he with z | z
    · exact h.inf e z
    · rw [List.mem_singleton.mp z];exact hcl
  · rcases List.mem_append.mp he with z | z
    · exact h.inw e (List.mem_cons_of_mem _ z)
    · exact wd_in hG hcl e z
  · rcases List.mem_append.mp he with z | z
    · exact h.rf e z
    · rw [List.mem_singleton.mp z];exact hcr
  · rcases List.mem_append.mp he with z | z
    · exact h.rw e (List.mem_cons_of_mem _ z)
    · exact hcr.step z
  · rcases List.mem_append.mp hd with z | z
    · exact in' (h.cl d z e he)
    · rw [List.mem_singleton.mp z] at he
      exact .inr (List.mem_append_right _ he)
  · have h1:=h.le
    have h2:=wd_le hG hcl
    rw [List.length_cons] at h1
    rw [List.length_append,List.length_append,List.length_singleton]
    omega
theorem Srch.done {rs:List Rule} {x fs:List Nat} (h:Srch rs x fs []) (c:Nat):c∈fs ↔ Rch rs x c:=by
  constructor
  · exact h.rf c
  · rintro ⟨m,hm⟩
    refine rch_closed (fun e he=>?_) (fun d hd e he=>?_) m c hm
    · rcases h.all e he with z | z
      · exact z
      · cases z
    · rcases h.cl d hd e he with z | z
      · exact z
      · cases z
section
variable {P:Program} {w:World} {K:PySem.W.Frag} {mg:Str→Option Value} {base:Heap}
def spIsl (K:PySem.W.Frag):Sp:=fun vs H Q _=>∃ z:V,vs=[z]∧((∃ c,z=sign c∧Q (.bl (decide (97≤c∧c≤122))) H)∨(NoStr K H z∧Q (.bl false) H)∨(∃ x:List Nat,z=tx x∧x.length≠1∧x.length≤1000∧Q (.bl false) H))
theorem scIsl:FnScope ["thing"] ["thing"] (defScope sIsl):=⟨rfl,rfl,rfl,by decide +kernel,rfl,by decide +kernel,by decide +kernel⟩
theorem ok_isl {f:Addr} {fd:FuncData} (F:Fun K "is_letter" "is_letter" sIsl f fd)
    (hlen:mg "len" = none)
    (hisinstance:mg "isinstance" = none)
    (hstr:mg "str" = none)
    {tkSMALL_LETTERS:Tok} (hSMALL_LETTERS:mg "SMALL_LETTERS" = some (.str "abcdefghijklmnopqrstuvwxyz" tkSMALL_LETTERS))
    : FnOk P w K mg base CX0 1 f fd ["thing"] (spIsl K):=by
  refine F.ok scIsl (fun vs H Q E h=>?_) (fun cdv A outer s H vs Q E hr h=>?_)
  · obtain ⟨z,rfl,_⟩:=h
    rfl
  · obtain ⟨z,rfl,k⟩:=h
    refine ⟨_,(pss_one (ps_ret (pe_and (pe_callB (call_isinstK K) (by rfl) hisinstance (show bootBuiltins "isinstance" = some (.builtin "isinstance") by decide +kernel) (pa_cons (pv 0) (pa_cons (pe_bltn (v:=.ty "str") (by rfl) hstr (show bootBuiltins "str" = some (.type "str") by decide +kernel) rfl) pa_nil))) (pe_and (pe_cmpR op_eq (pe_callB call_len_str (by rfl) hlen PySem.boot_len (pa_cons (pv 0) pa_nil)) pe_int (nomark _)) (pe_one (pe_cmpR op_in_str (pv 0) (pe_glob (v:=.str "abcdefghijklmnopqrstuvwxyz") (by rfl) hSMALL_LETTERS ⟨_,rfl⟩) (by rfl))))))),?_⟩
    rcases k with ⟨c,rfl,k⟩ | ⟨⟨t,ty,ht⟩,k⟩ | ⟨x,rfl,hx,hx2,k⟩
    · refine ⟨_,rfl,_,_,_,true,rfl,TyOf.str _,(by rfl),_,rfl,iteT ?_⟩
      refine ⟨_,rfl,one c,rfl,(by show 1≤sizeLine;decide),rfl,_,rfl,?_⟩
      refine ite2 (fun _=>?_) (fun hc=>absurd (decide_eq_true rfl) hc)
      refine ⟨_,rfl,one c,_,rfl,rfl,?_⟩
      rw [small_in]
      exact k
    · rcases ht with rfl | rfl | rfl | rfl | rfl | rfl
      · exact ⟨_,rfl,_,_,_,false,rfl,ty,(by rfl),_,rfl,iteF k⟩
      · exact ⟨_,rfl,_,_,_,false,rfl,ty,(by rfl),_,rfl,iteF k⟩
      · exact ⟨_,rfl,_,_,_,false,rfl,ty,(by rfl),_,rfl,iteF k⟩
      · exact ⟨_,rfl,_,_,_,false,rfl,ty,(by rfl),_,rfl,iteF k⟩
      · exact ⟨_,rfl,_,_,_,false,rfl,ty,(by rfl),_,rfl,iteF k⟩
      · exact ⟨_,rfl,_,_,_,false,rfl,ty,(by rfl),_,rfl,iteF k⟩
    · refine ⟨_,rfl,_,_,_,true,rfl,TyOf.str _,(by rfl),_,rfl,iteT ?_⟩
      refine ⟨_,rfl,⟨x.toArray⟩,rfl,Nat.le_of_lt (small1000 hx2),rfl,_,rfl,?_⟩
      refine ite2 (fun hc=>?_) (fun _=>k)
      have h1:V.int ((x.length:Nat):Int)=V.int 1:=of_decide_eq_true hc
      have h2:((x.length:Nat):Int)=1:=by injection h1
      exact absurd (by omega) hx
def spNle:Sp:=fun vs H Q _=>∃ (t:Addr) (first:List Nat) (rs:List Rule) (c:Nat),vs=[.ref t,sign c]∧BookAt H t first rs∧Good first rs∧c∈ltr rs∧∀ H',Same H H'→Q .non H'
theorem scNle:FnScope ["book","letter"] ["book","letter"] (defScope sNle):=⟨rfl,rfl,rfl,by decide +kernel,rfl,by decide +kernel,by decide +kernel⟩
theorem ok_nle {f fIsl fLet:Addr} {fd fdIsl fdLet:FuncData} (F:Fun K "need_letter" "need_letter" sNle f fd)
    (GIsl:FnOk P w K mg base CX0 1 fIsl fdIsl ["thing"] (spIsl K))
    (gIsl:Gf K mg "is_letter" fIsl fdIsl ["thing"])
    (GLet:FnOk P w K mg base CX0 2 fLet fdLet ["book"] spLet)
    (gLet:Gf K mg "letters" fLet fdLet ["book"])
    : FnOk P w K mg base CX0 3 f fd ["book","letter"] spNle:=by
  refine F.ok scNle (fun vs H Q E h=>?_) (fun cdv A outer s H vs Q E hr h=>?_)
  · obtain ⟨t,first,rs,c,rfl,_⟩:=h
    rfl
  · obtain ⟨t,first,rs,c,rfl,hB,hG,hc,k⟩:=h
    have hr1:Room 1 _:=hr.mono (by decide)
    refine ⟨_,(pss_one (ps_if (PW.pt (pw_or (pt_not (pt_val (pe_call GIsl hr1 rfl gIsl.m gIsl.k gIsl.b .nil pass0 (pa_cons (pv 1) pa_nil)))) (pw_or1 (pt_cmpR op_notin_str (pv 1) (pe_call GLet hr rfl gLet.m gLet.k gLet.b .nil pass0 (pa_cons (pv 0) pa_nil)) (by rfl))))) pss_never pss_nil)),?_⟩
    have hab:97≤c∧c≤122:=by
      obtain ⟨q,hq,rfl⟩:=List.mem_map.mp hc
      exact hG.abc q hq
    refine ⟨_,rfl,sign c,rfl,.inl ⟨c,rfl,?_⟩⟩
    rw [decide_eq_true hab]
    refine ⟨_,rfl,iteF ?_⟩
    refine ⟨_,rfl,_,rfl,t,first,rs,rfl,hB,hG.few,fun H1 s1=>⟨one c,_,rfl,rfl,?_⟩⟩
    refine ⟨_,rfl,?_⟩
    have e:(!(Builtin.Str.occurrences (⟨(ltr rs).toArray⟩:Str) (one c) 0 (⟨(ltr rs).toArray⟩:Str).length 1).isEmpty)=true:=(PySem.StrLaws.found_one _ c).trans (decide_eq_true (by simpa using hc))
    have e':(!(!(Builtin.Str.occurrences (⟨(ltr rs).toArray⟩:Str) (one c) 0 (⟨(ltr rs).toArray⟩:Str).length 1).isEmpty))=false:=by rw [e];rfl
    refine ite2 (fun h=>?_) (fun _=>k H1 s1)
    have h':(!(!(Builtin.Str.occurrences (⟨(ltr rs).toArray⟩:Str) (one c) 0 (⟨(ltr rs).toArray⟩:Str).length 1).isEmpty))=true:=h
    rw [e'] at h'
    cases h'
def spSpr:Sp:=fun vs H Q _=>∃ (t:Addr) (first:List Nat) (rs:List Rule) (x:List Nat),vs=[.ref t,tx x]∧BookAt H t first rs∧Good first rs∧x.length≤900∧(∀ c∈x,c∈ltr rs)∧∀ ys H',Same H H'→ys.Pairwise (· < ·)→(∀ c,c∈ys ↔ Rch rs x c)→Q (tx ys) H'
theorem scSpr:FnScope ["book","text","words","found","waiting","letter"] ["book","text"] (defScope sSpr):=⟨rfl,rfl,rfl,by decide +kernel,rfl,by decide +kernel,by decide +kernel⟩
theorem ok_spr {f:Addr} {fd:FuncData} (F:Fun K "spread" "spread" sSpr f fd)
    (hsorted:mg "sorted" = none)
    (hdict:mg "dict" = none)
    : FnOk P w K mg base CX0 1 f fd ["book","text"] spSpr:=by
  refine F.ok scSpr (fun vs H Q E h=>?_) (fun cdv A outer s H vs Q E hr h=>?_)
  · obtain ⟨t,first,rs,x,rfl,_⟩:=h
    rfl
  · obtain ⟨t,first,rs,x,rfl,hB,hG,hx,hin,k⟩:=h
    have hu:=hu_of hr
    refine ⟨_,(pss_cons (ps_set (i:=2) scSpr.nd rfl (Or.inl rfl) (pe_callTy (call_dict_tup rfl) (by rfl) hdict (by first | exact PySem.boot_dict | decide +kernel) (pa_cons (pe_ix (ix_tupK K) (pv 0) pe_int (fun _ _=>rfl)) pa_nil)))
      (pss_cons (ps_set (i:=3) scSpr.nd rfl (Or.inl rfl) pe_str)
      (pss_cons (ps_set (i:=4) scSpr.nd rfl (Or.inl rfl) (pv 1))
      (pss_cons (ps_while PassesOwn.never (pt_truthK K (pv 4) (fun _=>rfl)) (pss_cons (ps_set (i:=5) scSpr.nd rfl (Or.inl rfl) (pe_ix ix_str (pv 4) pe_int (fun _ _=>rfl)))
      (pss_cons (ps_set (i:=4) scSpr.nd rfl (Or.inl rfl) (pe_slice sl_str (pv 4) (po_some pe_int) po_none))
      (pss_one (ps_if (pt_cmpR op_notin_str (pv 5) (pv 3) (by rfl)) (pss_cons (ps_aug (i:=3) scSpr.nd rfl (Or.inl rfl) (pv 5) iop_add_str)
      (pss_one (ps_aug (i:=4) scSpr.nd rfl (Or.inl rfl) (pe_dget hu (pv 2) (pv 5) (fun _ _=>rfl)) iop_add_str))) pss_nil)))))
      (pss_one (ps_ret (pe_bmK K PySem.F.plainAttrs_str PySem.F.slot_str_join PySem.F.type_str_join (mt_joinK K) pe_str (pa_cons (pe_callB (call_sort_text rfl) (by rfl) hsorted PyProof.Rows.boot_sorted (pa_cons (pv 3) pa_nil)) pa_nil)))))))),?_⟩
    have hfew:=hG.few
    obtain ⟨r,ps,b1,b2,b3⟩:=hB.ex
    refine ⟨_,rfl,t,_,_,_,rfl,rfl,SqT.of b1,atI_nat (j:=1) rfl,r,ps,kvw rs,rfl,b2,kvw_pairs b3,by rw [kvw_keys];exact keys_nd hG.nd,by rw [List.length_map];omega,fun dw ndw=>?_⟩
    have s1:=Same.add (o:=.dK (kvw rs)) ndw
    have hd:upd H dw (.dK (kvw rs)) dw=some (.dK (kvw rs)):=upd_same
    revert s1 hd
    generalize upd H dw (.dK (kvw rs))=H1
    intro s1 hd
    refine ⟨_,rfl,?_⟩
    refine ⟨fun q σ H5=>∃ (fs ws:List Nat) (v5:Option V),σ=[some (.ref t),some (tx x),some (.ref dw),some (tx fs),some (tx ws),v5]∧q=7 * (8 - fs.length)+ws.length∧H5=H1∧Srch rs x fs ws,⟨_,[],x,_,rfl,rfl,rfl,Srch.start hin⟩,?_⟩
    rintro q σ H5 ⟨fs,ws,v5,rfl,rfl,rfl,hI⟩
    have hf8:fs.length≤8:=by
      have:=nd_len hI.nd hI.inf
      unfold ltr at this
      rw [List.length_map] at this
      omega
    have hwl:ws.length≤1000:=by have:=hI.le;omega
    have szw:(⟨ws.toArray⟩:Str).length≤sizeLine:=szl (show ws.length≤1000 from hwl)
    refine ⟨_,rfl,_,⟨szw,rfl⟩,?_⟩
    cases ws with
    | nil =>
      have e0:(((⟨([]:List Nat).toArray⟩:Str).length:Int) != 0)=false:=rfl
      rw [e0]
      refine iteF ?_
      have hl9:fs.length < 64:=by omega
      refine ⟨rfl,_,rfl,⟨fs.toArray⟩,rfl,hl9,fun l ss' nl hp hs=>?_⟩
      have ho:oneS ⟨fs.toArray⟩=fs.map one:=rfl
      rw [ho] at hp
      obtain ⟨ds,hp',rfl⟩:=perm_ones hp
      have hlen:=hp'.length_eq
      refine ⟨_,l,ds.map one,rfl,rfl,SqL.of upd_same,?_,?_⟩
      · rw [List.map_map]
        have e1:∀ l:List Nat,(l.map ((fun z:Str=>z.length) ∘ one)).sum=l.length:=fun l=>by
          induction l with
          | nil=>rfl
          | cons a l ih=>rw [List.map_cons,List.sum_cons,ih];show 1+_=_;rw [List.length_cons];omega
        have e2:=e1 ds
        show _+_ * 0≤_
        omega
      · rw [show Txt.join (Str.ofString "") (ds.map one)=⟨ds.toArray⟩ from join_signs ds]
        exact k ds _ (s1.trans (Same.add nl)) (sorted_lt hs (hp'.nodup_iff.mpr hI.nd)) fun c=>(hp'.mem_iff).trans (hI.done c)
    | cons c ws =>
      have e0:(((⟨(c :: ws).toArray⟩:Str).length:Int) != 0)=true:=by
        show ((((c :: ws).length:Nat):Int) != 0)=true
        rw [List.length_cons]
        simp
        omega
      rw [e0]
      refine iteT ?_
      have hcl:=hI.inw c List.mem_cons_self
      refine ⟨fun σ' H'=>∃ (fs' ws':List Nat),σ'=[some (.ref t),some (tx x),some (.ref dw),some (tx fs'),some (tx ws'),some (sign c)]∧H'=H5∧Srch rs x fs' ws'∧7 * (8 - fs'.length)+ws'.length < 7 * (8 - fs.length)+(c :: ws).length,?_,?_⟩
      · rintro σ' H' ⟨fs',ws',rfl,rfl,hI',hlt⟩
        exact ⟨_,hlt,fs',ws',_,rfl,rfl,rfl,hI'⟩
      · refine ⟨_,rfl,⟨(c :: ws).toArray⟩,_,c,rfl,rfl,szw,atI_nat (j:=0) rfl,?_⟩
        refine ⟨_,rfl,(1:Int),rfl,⟨(c :: ws).toArray⟩,rfl,szw,?_⟩
        have e1:Txt.slice ⟨(c :: ws).toArray⟩ (some 1) none=⟨ws.toArray⟩:=slice_drop (c :: ws) 1 (by rw [List.length_cons];omega)
        rw [e1]
        refine ⟨_,rfl,_,rfl,_,_,rfl,rfl,_,rfl,?_⟩
        have e9:(!!(Builtin.Str.occurrences ⟨fs.toArray⟩ ⟨#[c]⟩ 0 (⟨fs.toArray⟩:Str).length 1).isEmpty) = !decide (c∈fs):=by rw [occ_mem]
        rw [e9]
        rw [List.length_cons] at hwl
        by_cases hm:c∈fs
        · rw [decide_eq_true hm]
          exact iteF ⟨fs,ws,rfl,rfl,hI.old hm,by rw [List.length_cons];omega⟩
        · rw [decide_eq_false hm]
          refine iteT ?_
          have hN:=hI.new hG hm
          have hg:=DGet.k (k:=(Sum.inr (one c):Key)) hd
          rw [kvw_wd hG.nd hcl] at hg
          have hw6:=wd_le hG hcl
          have hle:=hI.le
          rw [List.length_cons] at hle
          have hf8':(fs++[c]).length≤8:=by
            have:=nd_len hN.nd hN.inf
            unfold ltr at this
            rw [List.length_map] at this
            omega
          rw [List.length_append,List.length_singleton] at hf8'
          refine ⟨_,rfl,_,rfl,⟨fs.toArray⟩,⟨#[c]⟩,rfl,rfl,szl (show fs.length+1≤1000 by omega),?_⟩
          rw [show ((⟨fs.toArray⟩:Str)++(⟨#[c]⟩:Str))=⟨(fs++[c]).toArray⟩ from tx_app fs [c]]
          refine ⟨_,rfl,_,rfl,_,rfl,dw,_,rfl,hg,⟨ws.toArray⟩,⟨(wd rs c).toArray⟩,rfl,rfl,szl (show ws.length+(wd rs c).length≤1000 by omega),?_⟩
          rw [tx_app]
          refine ⟨_,_,rfl,rfl,hN,?_⟩
          simp only [List.length_append,List.length_cons,List.length_nil]
          omega
end
end Lw
namespace Lw
open PySem L2 PyProof.Rows
theorem comp_byR {J:It} {xs:List V} {ok:Hp→Prop} {g:TG} {tc:TT} {te:TE} {R:Addr→List V→Hp→Prop} {τ0:L2.St} {H:Hp} (S:Sure J xs ok) (hz:xs.length≤10000) (Pv:Nat→List V→L2.St→Hp→Prop) (h0:Pv 0 [] τ0 H)
    (hl:∀ i ys τ H,i≤xs.length→Pv i ys τ H→ok H∧ys.length≤i)
    (hs:∀ i x ys τ H,xs[i]? = some x→Pv i ys τ H→g x τ H fun τ2 H2=>tc τ2 H2 fun b H3=>if b=true then te τ2 H3 (fun y H4=>Pv (i+1) (ys++[y]) τ2 H4) else Pv (i+1) ys τ2 H3)
    (hd:∀ ys τ H D,Pv xs.length ys τ H→H D=none→R D ys H) :
    ∃ W:Nat→Nat→List V→L2.St→Hp→Prop,(∃ m,W 0 m [] τ0 H)∧∀ i m ys τ H,W i m ys τ H →
      (J.stop i H∧∀ D,H D=none→R D ys H) ∨
      (J.go i H∧ys.length < sizeLine∧∃ N:List V→L2.St→Hp→Prop,(∀ ys' τ' H',N ys' τ' H'→∃ m',m' < m∧W (i+1) m' ys' τ' H') ∧
        ∀ x H',J.yld i H x H'→g x τ H' fun τ2 H2=>tc τ2 H2 fun b H3=>if b=true then te τ2 H3 (fun y H4=>N (ys++[y]) τ2 H4) else N ys τ2 H3):=by
  refine ⟨fun i m ys τ H=>m=xs.length - i∧i≤xs.length∧Pv i ys τ H,⟨xs.length,by simp,Nat.zero_le _,h0⟩,?_⟩
  rintro i m ys τ H ⟨rfl,hi,p⟩
  obtain ⟨q,hy⟩:=hl i ys τ H hi p
  by_cases hlt:i < xs.length
  · refine .inr ⟨S.go i H hlt q,Nat.lt_of_lt_of_le (show ys.length < 10000 by omega) (by decide),fun ys' τ' H'=>Pv (i+1) ys' τ' H',fun ys' τ' H' p'=>⟨xs.length - (i+1),by omega,rfl,hlt,p'⟩,fun x H' y=>?_⟩
    obtain ⟨rfl,y'⟩:=S.yld i H x H' hlt q y
    exact hs i x ys τ _ y' p
  · have e:i=xs.length:=by omega
    subst e
    exact .inl ⟨S.stop H q,fun D hD=>hd ys τ H D p hD⟩
theorem row_on {rs:List Rule} {x:List Nat} {e:Nat} {m:Nat} (he:e∈rowN rs x m):∀ k c,c∈rowN rs (wd rs e) k→c∈rowN rs x (m+1+k)
  | 0,c,hc=>nxt_mem.mpr ⟨e,he,hc⟩
  | k+1,c,hc=>by
    obtain ⟨d,hd,h⟩:=nxt_mem.mp hc
    exact nxt_mem.mpr ⟨d,row_on he k d hd,h⟩
theorem Rch.on {rs:List Rule} {x:List Nat} {e c:Nat} (h:Rch rs x e) (h2:Rch rs (wd rs e) c):Rch rs x c:=by
  obtain ⟨m,hm⟩:=h
  obtain ⟨k,hk⟩:=h2
  exact ⟨_,row_on hm k c hk⟩
theorem Rch.inl {first:List Nat} {rs:List Rule} (hG:Good first rs) {x:List Nat} (hx:∀ c∈x,c∈ltr rs) {c:Nat} (h:Rch rs x c):c∈ltr rs:=by
  obtain ⟨m,hm⟩:=h
  exact rowN_in hG hx m c hm
theorem rise_eq:∀ {a b:List Nat},a.Pairwise (· < ·)→b.Pairwise (· < ·)→(∀ e,e∈a ↔ e∈b)→a=b
  | [],[],_,_,_=>rfl
  | [],y :: b,_,_,h=>absurd ((h y).mpr List.mem_cons_self) (by simp)
  | x :: a,[],_,_,h=>absurd ((h x).mp List.mem_cons_self) (by simp)
  | x :: a,y :: b,ha,hb,h=>by
    obtain ⟨a1,a2⟩:=List.pairwise_cons.mp ha
    obtain ⟨b1,b2⟩:=List.pairwise_cons.mp hb
    have exy:x=y:=by
      rcases List.mem_cons.mp ((h x).mp List.mem_cons_self) with e | e
      · exact e
      · rcases List.mem_cons.mp ((h y).mpr List.mem_cons_self) with e' | e'
        · exact e'.symm
        · have:=b1 x e
          have:=a1 y e'
          omega
    subst exy
    rw [rise_eq a2 b2 fun e=>⟨fun he=>?_,fun he=>?_⟩]
    · rcases List.mem_cons.mp ((h e).mp (List.mem_cons_of_mem _ he)) with z | z
      · have:=a1 e he
        omega
      · exact z
    · rcases List.mem_cons.mp ((h e).mpr (List.mem_cons_of_mem _ he)) with z | z
      · have:=b1 e he
        omega
      · exact z
theorem rise_nd {a:List Nat} (h:a.Pairwise (· < ·)):a.Nodup:=h.imp fun h=>Nat.ne_of_lt h
open Classical in
def Mut (rs:List Rule) (c e:Nat):Prop:=Rch rs (wd rs c) e∧Rch rs (wd rs e) c
open Classical in
noncomputable def rg (rs:List Rule) (c:Nat):List Nat:=(ltr rs).filter fun e=>decide (Mut rs c e)
open Classical in
open Classical in
theorem rg_mem {first:List Nat} {rs:List Rule} (hG:Good first rs) {c e:Nat} (hc:c∈ltr rs):e∈rg rs c ↔ Mut rs c e:=by
  unfold rg
  rw [List.mem_filter,decide_eq_true_iff]
  exact ⟨fun h=>h.2,fun h=>⟨Rch.inl hG (wd_in hG hc) h.1,h⟩⟩
theorem ltr_rise {first:List Nat} {rs:List Rule} (hG:Good first rs):(ltr rs).Pairwise (· < ·):=hG.rise
theorem rg_rise {first:List Nat} {rs:List Rule} (hG:Good first rs) (c:Nat):(rg rs c).Pairwise (· < ·):=(ltr_rise hG).filter _
theorem rg_len {first:List Nat} {rs:List Rule} (hG:Good first rs) (c:Nat):(rg rs c).length≤8:=by
  refine Nat.le_trans (List.length_filter_le _ _) ?_
  unfold ltr
  rw [List.length_map]
  exact hG.few
noncomputable def hds (rs:List Rule):List Nat:=(ltr rs).filter fun c=>decide ((rg rs c).take 1=[c])
section
variable {P:Program} {w:World} {K:PySem.W.Frag} {mg:Str→Option Value} {base:Heap}
def spRng:Sp:=fun vs H Q _=>∃ (t:Addr) (first:List Nat) (rs:List Rule) (c:Nat),vs=[.ref t,sign c]∧BookAt H t first rs∧Good first rs∧c∈ltr rs∧∀ H',Same H H'→Q (tx (rg rs c)) H'
theorem scRng:FnScope ["book","letter","words"] ["book","letter"] (defScope sRng):=⟨rfl,rfl,rfl,by decide +kernel,rfl,by decide +kernel,by decide +kernel⟩
theorem nd_rng1:(["each","letter","book","words"]:List Str).Nodup:=by decide +kernel
theorem ok_rng {f fSpr:Addr} {fd fdSpr:FuncData} (F:Fun K "ring_of" "ring_of" sRng f fd)
    (GSpr:FnOk P w K mg base CX0 1 fSpr fdSpr ["book","text"] spSpr)
    (gSpr:Gf K mg "spread" fSpr fdSpr ["book","text"])
    (hdict:mg "dict" = none)
    : FnOk P w K mg base CX0 2 f fd ["book","letter"] spRng:=by
  refine F.ok scRng (fun vs H Q E h=>?_) (fun cdv A outer s H vs Q E hr h=>?_)
  · obtain ⟨t,first,rs,c,rfl,_⟩:=h
    rfl
  · obtain ⟨t,first,rs,c,rfl,hB,hG,hc,k⟩:=h
    have hu:=hu_of hr
    refine ⟨_,(pss_cons (ps_set (i:=2) scRng.nd rfl (Or.inr rfl) (pe_callTy (call_dict_tup rfl) (by rfl) hdict (by first | exact PySem.boot_dict | decide +kernel) (pa_cons (pe_ix (ix_tupK K) (pv 0) pe_int (fun _ _=>rfl)) pa_nil)))
      (pss_one (ps_ret (pe_bmK K PySem.F.plainAttrs_str PySem.F.slot_str_join PySem.F.type_str_join (mt_joinK K) pe_str (pa_cons (pe_comp (N':=["each","letter","book","words"]) (ix:=[none,some 1,some 0,some 2]) rfl rfl (pi_str (pe_call GSpr hr rfl gSpr.m gSpr.k gSpr.b .nil pass0 (pa_cons (pv 0) (pa_cons (pe_dget hu (pv 2) (pv 1) (fun _ _=>rfl)) pa_nil)))) (fun _ _ _ _ _ _=>(pg_name (i:=0) nd_rng1 rfl (Or.inl rfl))) (fun _ _ _ _ _ _=>(pts_one (pt_cmpR op_in_str (pv 1) (pe_call GSpr hr rfl gSpr.m gSpr.k gSpr.b .nil pass0 (pa_cons (pv 2) (pa_cons (pe_dget hu (pv 3) (pv 0) (fun _ _=>rfl)) pa_nil))) (by rfl)))) (fun _ _ _ _ _ _=>(pv 0))) pa_nil))))),?_⟩
    have hfew:=hG.few
    obtain ⟨r,ps,b1,b2,b3⟩:=hB.ex
    refine ⟨_,rfl,t,_,_,_,rfl,rfl,SqT.of b1,atI_nat (j:=1) rfl,r,ps,kvw rs,rfl,b2,kvw_pairs b3,by rw [kvw_keys];exact keys_nd hG.nd,by rw [List.length_map];omega,fun dw ndw=>?_⟩
    have s1:=Same.add (o:=.dK (kvw rs)) ndw
    have hd:upd H dw (.dK (kvw rs)) dw=some (.dK (kvw rs)):=upd_same
    revert s1 hd
    generalize upd H dw (.dK (kvw rs))=H1
    intro s1 hd
    have hg:=DGet.k (k:=(Sum.inr (one c):Key)) hd
    rw [kvw_wd hG.nd hc] at hg
    have hw6:=wd_le hG hc
    refine ⟨rfl,_,rfl,_,rfl,_,rfl,dw,_,rfl,hg,t,first,rs,wd rs c,rfl,hB.mono (TupS.same s1),hG,by omega,wd_in hG hc,fun xs H2 s2 hxr hxm=>⟨⟨xs.toArray⟩,rfl,?_⟩⟩
    have hx8:xs.length≤8:=by
      have:=nd_len (rise_nd hxr) fun e he=>Rch.inl hG (wd_in hG hc) ((hxm e).mp he)
      unfold ltr at this
      rw [List.length_map] at this
      omega
    have hB2:=hB.mono (TupS.same (s1.trans s2))
    have hd2:=s2 _ _ hd
    have hxl:∀ e∈xs,e∈ltr rs:=fun e he=>Rch.inl hG (wd_in hG hc) ((hxm e).mp he)
    refine comp_byR (τ0:=[none,some (sign c),some (.ref t),some (.ref dw)]) (sure_str (x:=⟨xs.toArray⟩)) (by rw [List.length_map];show xs.length≤_;omega)
      (fun i us τ H6=>Same H2 H6∧(∃ v,τ=[v,some (sign c),some (.ref t),some (.ref dw)])∧∃ ys,us=ys.map sign∧ys.Sublist (xs.take i)∧∀ e,e∈ys ↔ e∈xs.take i∧Rch rs (wd rs e) c) ⟨Same.refl _,⟨_,rfl⟩,[],rfl,List.Sublist.refl _,fun e=>by simp⟩ ?_ ?_ ?_
    · rintro i us τ H6 hi ⟨s6,_,ys,rfl,hl,_⟩
      refine ⟨trivial,?_⟩
      rw [List.length_map]
      have:=hl.length_le
      rw [List.length_take] at this
      omega
    · rintro i y us τ H6 hy ⟨s6,⟨v,rfl⟩,ys,rfl,hl,hm⟩
      have hy':(xs.map sign)[i]? = some y:=hy
      rw [List.getElem?_map] at hy'
      cases e:xs[i]? with
      | none=>rw [e] at hy';cases hy'
      | some a =>
        rw [e] at hy'
        cases hy'
        have hal:=hxl a (List.mem_of_getElem? e)
        have hga:=DGet.k (k:=(Sum.inr (one a):Key)) (s6 _ _ hd2)
        rw [kvw_wd hG.nd hal] at hga
        have ha6:=wd_le hG hal
        refine ⟨_,rfl,_,rfl,_,rfl,_,rfl,dw,_,rfl,hga,t,first,rs,wd rs a,rfl,hB2.mono (TupS.same s6),hG,by omega,wd_in hG hal,fun zs H7 s7 _ hzm=>⟨_,_,rfl,rfl,_,rfl,?_⟩⟩
        have e9:(!(Builtin.Str.occurrences ⟨zs.toArray⟩ ⟨#[c]⟩ 0 (⟨zs.toArray⟩:Str).length 1).isEmpty)=decide (c∈zs):=occ_mem zs c
        rw [e9]
        have et:xs.take (i+1)=xs.take i++[a]:=by rw [List.take_add_one,e];rfl
        by_cases hcz:c∈zs
        · rw [decide_eq_true hcz]
          refine iteT ⟨_,rfl,s6.trans s7,⟨_,rfl⟩,ys++[a],by rw [List.map_append];rfl,by rw [et];exact hl.append (List.Sublist.refl _),fun e'=>?_⟩
          rw [et,List.mem_append,List.mem_append,hm e',List.mem_singleton]
          constructor
          · rintro (⟨h1,h2⟩ | rfl)
            · exact ⟨.inl h1,h2⟩
            · exact ⟨.inr rfl,(hzm c).mp hcz⟩
          · rintro ⟨h1 | h1,h2⟩
            · exact .inl ⟨h1,h2⟩
            · exact .inr h1
        · rw [decide_eq_false hcz]
          refine iteF ⟨s6.trans s7,⟨_,rfl⟩,ys,rfl,by rw [et];exact hl.trans (List.sublist_append_left _ _),fun e'=>?_⟩
          rw [et,List.mem_append,hm e',List.mem_singleton]
          constructor
          · rintro ⟨h1,h2⟩
            exact ⟨.inl h1,h2⟩
          · rintro ⟨h1 | rfl,h2⟩
            · exact ⟨h1,h2⟩
            · exact absurd ((hzm c).mpr h2) hcz
    · rintro us τ H6 D ⟨s6,_,ys,rfl,hl,hm⟩ hD
      have ew:((⟨xs.toArray⟩:Str).cps.toList.map sign).length=xs.length:=by simp
      rw [ew] at hl hm
      rw [List.take_length] at hm hl
      have hyr:ys.Pairwise (· < ·):=hxr.sublist hl
      have hyl:=hl.length_le
      have e1:((ys.map one).map V.str)=ys.map sign:=by rw [List.map_map];rfl
      refine ⟨_,D,ys.map one,rfl,rfl,by rw [e1];exact SqL.of upd_same,?_,?_⟩
      · rw [List.map_map]
        have e1:∀ l:List Nat,(l.map ((fun z:Str=>z.length) ∘ one)).sum=l.length:=fun l=>by
          induction l with
          | nil=>rfl
          | cons a l ih=>rw [List.map_cons,List.sum_cons,ih];show 1+_=_;rw [List.length_cons];omega
        have e2:=e1 ys
        show _+_ * 0≤_
        omega
      · rw [show Txt.join (Str.ofString "") (ys.map one)=⟨ys.toArray⟩ from join_signs ys]
        have ey:ys=rg rs c:=rise_eq hyr (rg_rise hG c) fun e=>by
          rw [hm e,rg_mem hG hc,hxm e]
          exact Iff.rfl
        rw [ey]
        exact k _ (s1.trans (s2.trans (s6.trans (Same.add hD))))
def spRgs:Sp:=fun vs H Q _=>∃ (t:Addr) (first:List Nat) (rs:List Rule),vs=[.ref t]∧BookAt H t first rs∧Good first rs∧∀ D H',Same H H'→H D=none→H' D=some (.lst ((hds rs).map fun c=>tx (rg rs c)))→Q (.ref D) H'
theorem scRgs:FnScope ["book"] ["book"] (defScope sRgs):=⟨rfl,rfl,rfl,by decide +kernel,rfl,by decide +kernel,by decide +kernel⟩
theorem nd_rgs1:(["letter","book"]:List Str).Nodup:=by decide +kernel
theorem ok_rgs {f fRng fLet:Addr} {fd fdRng fdLet:FuncData} (F:Fun K "rings" "rings" sRgs f fd)
    (GRng:FnOk P w K mg base CX0 2 fRng fdRng ["book","letter"] spRng)
    (gRng:Gf K mg "ring_of" fRng fdRng ["book","letter"])
    (GLet:FnOk P w K mg base CX0 2 fLet fdLet ["book"] spLet)
    (gLet:Gf K mg "letters" fLet fdLet ["book"])
    : FnOk P w K mg base CX0 3 f fd ["book"] spRgs:=by
  refine F.ok scRgs (fun vs H Q E h=>?_) (fun cdv A outer s H vs Q E hr h=>?_)
  · obtain ⟨t,first,rs,rfl,_⟩:=h
    rfl
  · obtain ⟨t,first,rs,rfl,hB,hG,k⟩:=h
    refine ⟨_,(pss_one (ps_ret (pe_comp (N':=["letter","book"]) (ix:=[none,some 0]) rfl rfl (pi_str (pe_call GLet hr rfl gLet.m gLet.k gLet.b .nil pass0 (pa_cons (pv 0) pa_nil))) (fun _ _ _ _ _ _=>(pg_name (i:=0) nd_rgs1 rfl (Or.inl rfl))) (fun _ _ _ _ _ _=>(pts_one (pt_cmpR op_eq (pe_slice sl_str (pe_call GRng hr rfl gRng.m gRng.k gRng.b .nil pass0 (pa_cons (pv 1) (pa_cons (pv 0) pa_nil))) po_none (po_some pe_int)) (pv 0) (nomark _)))) (fun _ _ _ _ _ _=>(pe_call GRng hr rfl gRng.m gRng.k gRng.b .nil pass0 (pa_cons (pv 1) (pa_cons (pv 0) pa_nil))))))),?_⟩
    have hfew:=hG.few
    refine ⟨_,rfl,t,first,rs,rfl,hB,hfew,fun H1 s1=>⟨⟨(ltr rs).toArray⟩,rfl,?_⟩⟩
    have ll:(ltr rs).length=rs.length:=by unfold ltr;rw [List.length_map]
    refine comp_by (τ0:=[none,some (.ref t)]) (sure_str (x:=⟨(ltr rs).toArray⟩)) (by rw [List.length_map];show (ltr rs).length≤_;omega)
      (fun i us τ H6=>Same H H6∧(∃ v,τ=[v,some (.ref t)])∧us=(((ltr rs).take i).filter fun c=>decide ((rg rs c).take 1=[c])).map fun c=>tx (rg rs c)) ⟨s1,⟨_,rfl⟩,rfl⟩ ?_ ?_ ?_
    · rintro i us τ H6 hi ⟨s6,_,rfl⟩
      refine ⟨trivial,?_⟩
      rw [List.length_map]
      refine Nat.le_trans (List.length_filter_le _ _) ?_
      rw [List.length_take]
      omega
    · rintro i y us τ H6 hy ⟨s6,⟨v,rfl⟩,rfl⟩
      have hy':((ltr rs).map sign)[i]? = some y:=hy
      rw [List.getElem?_map] at hy'
      cases e:(ltr rs)[i]? with
      | none=>rw [e] at hy';cases hy'
      | some c =>
        rw [e] at hy'
        cases hy'
        have hc:c∈ltr rs:=List.mem_of_getElem? e
        have h8:=rg_len hG c
        refine ⟨_,rfl,_,rfl,t,first,rs,c,rfl,hB.mono (TupS.same s6),hG,hc,fun H7 s7=>⟨(1:Int),rfl,⟨(rg rs c).toArray⟩,rfl,szl (show (rg rs c).length≤1000 by omega),?_⟩⟩
        rw [show Txt.slice ⟨(rg rs c).toArray⟩ none (some (1:Int))=⟨((rg rs c).take 1).toArray⟩ from slice_take _ 1]
        refine ⟨_,rfl,rfl,_,rfl,?_⟩
        have et:(ltr rs).take (i+1)=(ltr rs).take i++[c]:=by rw [List.take_add_one,e];rfl
        by_cases hh:(rg rs c).take 1=[c]
        · refine ite2 (fun _=>?_) (fun h=>absurd (decide_eq_true (show tx ((rg rs c).take 1)=sign c by rw [hh];rfl)) h)
          refine ⟨_,rfl,_,rfl,t,first,rs,c,rfl,hB.mono (TupS.same (s6.trans s7)),hG,hc,fun H8 s8=>⟨s6.trans (s7.trans s8),⟨_,rfl⟩,?_⟩⟩
          rw [et,List.filter_append,List.map_append]
          have ef:[c].filter (fun c=>decide ((rg rs c).take 1=[c]))=[c]:=by simp [hh]
          rw [ef]
          rfl
        · refine ite2 (fun h=>absurd ?_ hh) (fun _=>?_)
          · have h1:tx ((rg rs c).take 1)=sign c:=of_decide_eq_true h
            injection h1 with h1
            exact congrArg (fun z:Str=>z.cps.toList) h1
          · refine ⟨s6.trans s7,⟨_,rfl⟩,?_⟩
            rw [et,List.filter_append,List.map_append]
            have ef:[c].filter (fun c=>decide ((rg rs c).take 1=[c]))=[]:=by simp [hh]
            rw [ef]
            exact (List.append_nil _).symm
    · rintro us τ H6 D ⟨s6,_,rfl⟩ hD
      have ew:((⟨(ltr rs).toArray⟩:Str).cps.toList.map sign).length=(ltr rs).length:=by simp
      rw [ew,List.take_length]
      exact k D _ (s6.trans (Same.add hD)) (s6.free hD) upd_same
end
end Lw
namespace Lw
open PySem L2 PyProof.Rows
theorem strs_tx (ws:List (List Nat)):ws.map tx=(ws.map fun w=>(⟨w.toArray⟩:Str)).map V.str:=by rw [List.map_map];rfl
theorem sum_tx (ws:List (List Nat)):((ws.map fun w=>(⟨w.toArray⟩:Str)).map (·.length)).sum=ws.flatten.length:=by
  rw [List.map_map,List.length_flatten]
  rfl
theorem join_tx (ws:List (List Nat)):Txt.join (Str.ofString "") (ws.map fun w=>(⟨w.toArray⟩:Str))=⟨ws.flatten.toArray⟩:=by
  show Txt.join ⟨#[]⟩ _=_
  rw [join_eq,List.map_map]
  congr 3
  exact (List.map_congr_left fun w _=>rfl).trans (List.map_id _)
theorem nxt_join {K:PySem.W.Frag} {ix:List (Option Nat)} {σ:L2.St} {H:Hp} {Q:VK} {tl:TE} {d:Addr} {first:List Nat} {rs:List Rule} {x:List Nat} (hG:Good first rs) (e:cst ix σ=[none,some (.ref d)]) (hd:∀ c∈ltr rs,DGet H d (sign c) (some (tx (wd rs c)))) (hx:∀ c∈x,c∈ltr rs) (hxl:x.length≤1000) (ht:∀ R:VK,R (tx x) H→tl σ H R)
    (k:∀ H',Same H H'→Q (tx (nxt rs x)) H') :
    tBM K "str" (rJoin K) (tC (.str (Str.ofString ""))) (tCons (tComp ix (iStr tl) (gName 0) tAll (tDGet (tVar 1) (tVar 0))) tNil) σ H Q:=by
  refine ⟨rfl,ht _ ⟨⟨x.toArray⟩,rfl,?_⟩⟩
  rw [e]
  refine comp_all (Q:=fun y Ha=>rJoin K (.str (Str.ofString "")) [y] Ha Q) (τ0:=[none,some (.ref d)]) sure_str (by rw [List.length_map];show x.length≤_;omega)
    (fun n us τ H6=>H6=H∧(∃ v,τ=[v,some (.ref d)])∧us=((x.take n).map (wd rs)).map tx) ⟨rfl,⟨_,rfl⟩,rfl⟩ ?_ ?_ ?_
  · rintro n us τ H6 hn ⟨rfl,_,rfl⟩
    refine ⟨trivial,?_⟩
    rw [List.length_map,List.length_map,List.length_take]
    omega
  · rintro n y us τ H6 hy ⟨rfl,⟨v,rfl⟩,rfl⟩
    have hy':(x.map sign)[n]? = some y:=hy
    rw [List.getElem?_map] at hy'
    cases e6:x[n]? with
    | none=>rw [e6] at hy';cases hy'
    | some c =>
      rw [e6] at hy'
      cases hy'
      refine ⟨_,rfl,_,rfl,d,_,rfl,hd c (hx c (List.mem_of_getElem? e6)),rfl,⟨_,rfl⟩,?_⟩
      rw [take_snoc (wd rs) e6,List.map_append]
      rfl
  · rintro us τ H6 D ⟨rfl,_,rfl⟩ hD
    have ew:((⟨x.toArray⟩:Str).cps.toList.map sign).length=x.length:=by simp
    rw [ew,take_all]
    have lf:=nxt_le hG hx
    unfold nxt at lf
    refine ⟨_,D,(x.map (wd rs)).map fun w=>(⟨w.toArray⟩:Str),rfl,rfl,SqL.of (by rw [upd_same,strs_tx]),?_,?_⟩
    · rw [sum_tx,List.length_map,List.length_map]
      show _+_ * 0≤_
      omega
    · have e2:=join_tx (x.map (wd rs))
      have k2:=k _ (Same.add (o:=.lst (((x.map (wd rs)).map tx))) hD)
      unfold nxt at k2
      rw [e2]
      exact k2
abbrev dkF (L:List Nat) (g:Nat→Int):List (Key × V):=L.map fun c=>((Sum.inr (one c):Key),V.int (g c))
theorem dkF_keys (L:List Nat) (g:Nat→Int):(dkF L g).map (·.1)=L.map fun c=>(Sum.inr (one c):Key):=by
  unfold dkF
  rw [List.map_map]
  rfl
theorem dkF_val {g:Nat→Int}:∀ {L:List Nat} {c:Nat},c∈L→valV (dkF L g) (Sum.inr (one c):Key)=some (V.int (g c))
  | [],c,h=>by cases h
  | e :: L,c,h=>by
    show Option.map _ (List.find? _ (((Sum.inr (one e):Key),V.int (g e)) :: dkF L g))=_
    by_cases z:e=c
    · subst z
      rw [List.find?_cons_of_pos (by exact decide_eq_true rfl)]
      rfl
    · rw [List.find?_cons_of_neg]
      · exact dkF_val ((List.mem_cons.mp h).resolve_left fun y=>z y.symm)
      · intro y
        have y':(Sum.inr (one e):Key)=Sum.inr (one c):=of_decide_eq_true y
        exact z (one_inj (Sum.inr.inj y'))
theorem dkF_snoc {L:List Nat} {i c:Nat} (g:Nat→Int) (e:L[i]? = some c):dkF (L.take (i+1)) g=dkF (L.take i) g++[((Sum.inr (one c):Key),V.int (g c))]:=by
  unfold dkF
  rw [List.take_add_one,e,List.map_append]
  rfl
theorem pairs_mono {H H':Hp} (s:TupS H H'):∀ {ps:List Addr} {kvs:List (Key × V)},PairsAt H ps kvs→PairsAt H' ps kvs
  | _,_,.nil=>.nil
  | _,_,.cons h r=>.cons (s _ _ h) (pairs_mono s r)
theorem pairs_snoc {H:Hp} {p:Addr} {k:Key} {v:V} (h:H p=some (.tup [kV k,v])):∀ {ps:List Addr} {kvs:List (Key × V)},PairsAt H ps kvs→PairsAt H (ps++[p]) (kvs++[(k,v)])
  | _,_,.nil=>.cons h .nil
  | _,_,.cons h1 r=>.cons h1 (pairs_snoc h r)
def lmax (l:List Nat):Nat:=l.foldr max 0
theorem lmax_le:∀ {l:List Nat} {e:Nat},e∈l→e≤lmax l
  | a :: l,e,h=>by
    show e≤max a (lmax l)
    rcases List.mem_cons.mp h with rfl | h
    · omega
    · have:=lmax_le h
      omega
theorem lmax_in:∀ {l:List Nat},l≠[]→lmax l∈l
  | [],h=>absurd rfl h
  | [a],_=>by
    show max a 0∈[a]
    rw [Nat.max_zero]
    exact List.mem_cons_self
  | a :: b :: l,_=>by
    have ih:=lmax_in (l:=b :: l) (by simp)
    show max a (lmax (b :: l))∈_
    by_cases h:a≤lmax (b :: l)
    · rw [Nat.max_eq_right h]
      exact List.mem_cons_of_mem _ ih
    · rw [Nat.max_eq_left (by omega)]
      exact List.mem_cons_self
theorem lmax_top {l:List Nat} {m:Int} (h1:m∈l.map fun (n:Nat)=>(n:Int)) (h2:∀ x∈l.map (fun (n:Nat)=>(n:Int)),x≤m):m=(lmax l:Int):=by
  obtain ⟨a,ha,rfl⟩:=List.mem_map.mp h1
  have h3:=lmax_le ha
  have h4:((lmax l:Nat):Int)≤(a:Int):=h2 _ (List.mem_map.mpr ⟨lmax l,lmax_in (fun z=>by rw [z] at ha;cases ha),rfl⟩)
  show (a:Int)=(lmax l:Int)
  omega
theorem lmax_is {l:List Nat} {m:Int} (h:MaxIs (l.map fun (n:Nat)=>(n:Int)) 0 m):m=(lmax l:Int):=by
  rcases h with ⟨h1,h2⟩ | ⟨h1,h2⟩
  · rw [List.map_eq_nil_iff] at h1
    rw [h1,h2]
    rfl
  · exact lmax_top h1 h2
theorem filt_in {p:Nat→Bool} {b:Nat} (h:p b=true):(some b).toList.filter p=[b]:=by
  show List.filter p [b]=[b]
  rw [List.filter_cons,if_pos h]
  rfl
theorem filt_out {p:Nat→Bool} {b:Nat} (h:p b=false):(some b).toList.filter p=[]:=by
  show List.filter p [b]=[]
  rw [List.filter_cons,if_neg (by rw [h];decide)]
  rfl
def dby (rs:List Rule) (ys:List Nat) (c:Nat) (g:Nat→Nat):Nat:=if ys=[] then lmax ((wd rs c).map g) else 1+lmax (((nxt rs ys).filter fun e=>!decide (e∈ys)).map g)
noncomputable def dep (rs:List Rule):Nat→Nat→Nat
  | 0,_=>0
  | n+1,c=>dby rs (rg rs c) c (dep rs n)
noncomputable def rr (rs:List Rule):List Rule:=(ltr rs).map fun c=>(c,rg rs c)
theorem rr_ltr (rs:List Rule):ltr (rr rs)=ltr rs:=by
  unfold rr
  show List.map _ (List.map _ _)=_
  rw [List.map_map]
  exact List.map_id _
theorem rr_wd {rs:List Rule} {c:Nat} (h:c∈ltr rs):wd (rr rs) c=rg rs c:=by
  obtain ⟨q,h1,h2,h3⟩:=wd_mem (show c∈ltr (rr rs) by rw [rr_ltr];exact h)
  obtain ⟨e,_,rfl⟩:=List.mem_map.mp h1
  have h2':e=c:=h2
  rw [h3,h2']
theorem rg_inl {rs:List Rule} {c e:Nat} (h:e∈rg rs c):e∈ltr rs:=(List.mem_filter.mp h).1
section
variable {P:Program} {w:World} {K:PySem.W.Frag} {mg:Str→Option Value} {base:Heap}
def spItx:Sp:=fun vs H Q _=>∃ (x cs:List Nat) (d:Addr) (kvs:List (Key × V)) (m:Nat),vs=[tx x,.ref d,.int (m:Int)]∧H d=some (.dK kvs)∧(∀ c,(valV kvs (Sum.inr (one c):Key)).isSome=decide (c∈cs))∧m≤600∧x.length≤m∧(∀ c∈x,c∈cs)∧∀ H',Same H H'→Q (.bl true) H'
theorem scItx:FnScope ["thing","signs","most"] ["thing","signs","most"] (defScope sItx):=⟨rfl,rfl,rfl,by decide +kernel,rfl,by decide +kernel,by decide +kernel⟩
theorem nd_itx1:(["sign","signs"]:List Str).Nodup:=by decide +kernel
theorem ok_itx {f:Addr} {fd:FuncData} (F:Fun K "is_text_of" "is_text_of" sItx f fd)
    (hlen:mg "len" = none)
    (hisinstance:mg "isinstance" = none)
    (hstr:mg "str" = none)
    (hall:mg "all" = none)
    : FnOk P w K mg base CX0 1 f fd ["thing","signs","most"] spItx:=by
  refine F.ok scItx (fun vs H Q E h=>?_) (fun cdv A outer s H vs Q E hr h=>?_)
  · obtain ⟨x,cs,d,kvs,m,rfl,_⟩:=h
    rfl
  · obtain ⟨x,cs,d,kvs,m,rfl,hd,hv,hm6,hm,hin,k⟩:=h
    have hu:=hu_of hr
    refine ⟨_,(pss_one (ps_ret (pe_and (pe_callB (call_isinstK K) (by rfl) hisinstance (show bootBuiltins "isinstance" = some (.builtin "isinstance") by decide +kernel) (pa_cons (pv 0) (pa_cons (pe_bltn (v:=.ty "str") (by rfl) hstr (show bootBuiltins "str" = some (.type "str") by decide +kernel) rfl) pa_nil))) (pe_and (pe_cmpR op_le (pe_callB call_len_str (by rfl) hlen PySem.boot_len (pa_cons (pv 0) pa_nil)) (pv 2) (nomark _)) (pe_one (pe_callB (call_all_boolsK K rfl) (by rfl) hall (show bootBuiltins "all" = some (.builtin "all") by decide +kernel) (pa_cons (pe_comp (N':=["sign","signs"]) (ix:=[none,some 1]) rfl rfl (pi_str (pv 0)) (fun _ _ _ _ _ _=>(pg_name (i:=0) nd_itx1 rfl (Or.inl rfl))) (fun _ _ _ _ _ _=>pts_nil) (fun _ _ _ _ _ _=>(pe_cmpR (op_inW K hu) (pv 0) (pv 1) (by rfl)))) pa_nil))))))),?_⟩
    refine ⟨_,rfl,_,_,_,true,rfl,TyOf.str _,(by rfl),_,rfl,iteT ?_⟩
    refine ⟨_,rfl,⟨x.toArray⟩,rfl,Nat.le_of_lt (small1000 (by show x.length≤1000;omega)),_,rfl,_,_,rfl,rfl,_,rfl,?_⟩
    refine ite2 (fun hc=>?_) (fun hc=>absurd (decide_eq_true (show ((x.length:Nat):Int)≤(m:Int) by omega)) hc)
    refine ⟨_,rfl,⟨x.toArray⟩,rfl,?_⟩
    refine comp_allR (τ0:=[none,some (.ref d)]) (sure_str (x:=⟨x.toArray⟩)) (by rw [List.length_map];show x.length≤_;omega)
      (fun i ys τ H2=>H2=H∧(∃ v,τ=[v,some (.ref d)])∧ys=((x.take i).map fun c=>true).map V.bl) ⟨rfl,⟨_,rfl⟩,rfl⟩ ?_ ?_ ?_
    · rintro i ys τ H2 hi ⟨rfl,_,rfl⟩
      refine ⟨trivial,?_⟩
      rw [List.length_map,List.length_map,List.length_take]
      omega
    · rintro i y ys τ H2 hy ⟨rfl,⟨v,rfl⟩,rfl⟩
      have hy':(x.map sign)[i]? = some y:=hy
      rw [List.getElem?_map] at hy'
      cases e:x[i]? with
      | none=>rw [e] at hy';cases hy'
      | some c =>
        rw [e] at hy'
        cases hy'
        refine ⟨_,rfl,_,rfl,.inr ⟨d,_,rfl,DGet.k (k:=(Sum.inr (one c):Key)) hd,rfl,⟨_,rfl⟩,?_⟩⟩
        rw [hv,decide_eq_true (hin c (List.mem_of_getElem? e)),take_snoc (fun c=>true) e,List.map_append]
        rfl
    · rintro ys τ H2 D ⟨rfl,_,rfl⟩ hD
      have ew:((⟨x.toArray⟩:Str).cps.toList.map sign).length=x.length:=by simp
      rw [ew,take_all]
      refine ⟨D,_,rfl,SqL.of upd_same,?_⟩
      have e2:(x.map fun c=>true).all id=true:=by rw [List.all_map];exact List.all_eq_true.mpr fun _ _=>rfl
      rw [e2]
      exact k _ (Same.add hD)
def spRep:Sp:=fun vs H Q _=>∃ (x:List Nat) (d:Addr) (first:List Nat) (rs:List Rule),vs=[tx x,.ref d]∧Good first rs∧H d=some (.dK (kvw rs))∧x.length≤1000∧(∀ c∈x,c∈ltr rs)∧∀ H',Same H H'→Q (tx (nxt rs x)) H'
theorem scRep:FnScope ["text","words"] ["text","words"] (defScope sRep):=⟨rfl,rfl,rfl,by decide +kernel,rfl,by decide +kernel,by decide +kernel⟩
theorem nd_rep1:(["letter","words"]:List Str).Nodup:=by decide +kernel
theorem ok_rep {f:Addr} {fd:FuncData} (F:Fun K "replaced" "replaced" sRep f fd)
    : FnOk P w K mg base CX0 1 f fd ["text","words"] spRep:=by
  refine F.ok scRep (fun vs H Q E h=>?_) (fun cdv A outer s H vs Q E hr h=>?_)
  · obtain ⟨x,d,first,rs,rfl,_⟩:=h
    rfl
  · obtain ⟨x,d,first,rs,rfl,hG,hd,hx,hin,k⟩:=h
    have hu:=hu_of hr
    refine ⟨_,(pss_one (ps_ret (pe_bmK K PySem.F.plainAttrs_str PySem.F.slot_str_join PySem.F.type_str_join (mt_joinK K) pe_str (pa_cons (pe_comp (N':=["letter","words"]) (ix:=[none,some 1]) rfl rfl (pi_str (pv 0)) (fun _ _ _ _ _ _=>(pg_name (i:=0) nd_rep1 rfl (Or.inl rfl))) (fun _ _ _ _ _ _=>pts_nil) (fun _ _ _ _ _ _=>(pe_dget hu (pv 1) (pv 0) (fun _ _=>rfl)))) pa_nil)))),?_⟩
    refine nxt_join hG rfl (fun c hc=>?_) hin hx (fun R h=>⟨_,rfl,h⟩) k
    have hg:=DGet.k (k:=(Sum.inr (one c):Key)) hd
    rw [kvw_wd hG.nd hc] at hg
    exact hg
def spTrn:Sp:=fun vs H Q _=>∃ (t:Addr) (first:List Nat) (rs:List Rule) (x:List Nat),vs=[.ref t,tx x]∧BookAt H t first rs∧Good first rs∧x.length≤600∧(∀ c∈x,c∈ltr rs)∧∀ H',Same H H'→Q (tx (nxt rs x)) H'
theorem scTrn:FnScope ["book","text","words"] ["book","text"] (defScope sTrn):=⟨rfl,rfl,rfl,by decide +kernel,rfl,by decide +kernel,by decide +kernel⟩
theorem ok_trn {f fRep fItx:Addr} {fd fdRep fdItx:FuncData} (F:Fun K "turned" "turned" sTrn f fd)
    (GRep:FnOk P w K mg base CX0 1 fRep fdRep ["text","words"] spRep)
    (gRep:Gf K mg "replaced" fRep fdRep ["text","words"])
    (GItx:FnOk P w K mg base CX0 1 fItx fdItx ["thing","signs","most"] spItx)
    (gItx:Gf K mg "is_text_of" fItx fdItx ["thing","signs","most"])
    (hdict:mg "dict" = none)
    {tkLONGEST_ROW:Tok} (hLONGEST_ROW:mg "LONGEST_ROW" = some (.int 600 tkLONGEST_ROW))
    : FnOk P w K mg base CX0 2 f fd ["book","text"] spTrn:=by
  refine F.ok scTrn (fun vs H Q E h=>?_) (fun cdv A outer s H vs Q E hr h=>?_)
  · obtain ⟨t,first,rs,x,rfl,_⟩:=h
    rfl
  · obtain ⟨t,first,rs,x,rfl,hB,hG,hx,hin,k⟩:=h
    refine ⟨_,(pss_cons (ps_set (i:=2) scTrn.nd rfl (Or.inl rfl) (pe_callTy (call_dict_tup rfl) (by rfl) hdict (by first | exact PySem.boot_dict | decide +kernel) (pa_cons (pe_ix (ix_tupK K) (pv 0) pe_int (fun _ _=>rfl)) pa_nil)))
      (pss_cons (ps_if (pt_not (pt_val (pe_call GItx hr rfl gItx.m gItx.k gItx.b .nil pass0 (pa_cons (pv 1) (pa_cons (pv 2) (pa_cons (pe_glob (v:=.int 600) (by rfl) hLONGEST_ROW ⟨_,rfl⟩) pa_nil)))))) pss_never pss_nil)
      (pss_one (ps_ret (pe_call GRep hr rfl gRep.m gRep.k gRep.b .nil pass0 (pa_cons (pv 1) (pa_cons (pv 2) pa_nil))))))),?_⟩
    have hfew:=hG.few
    obtain ⟨r,ps,b1,b2,b3⟩:=hB.ex
    refine ⟨_,rfl,t,_,_,_,rfl,rfl,SqT.of b1,atI_nat (j:=1) rfl,r,ps,kvw rs,rfl,b2,kvw_pairs b3,by rw [kvw_keys];exact keys_nd hG.nd,by rw [List.length_map];omega,fun dw ndw=>?_⟩
    have s1:=Same.add (o:=.dK (kvw rs)) ndw
    have hd:upd H dw (.dK (kvw rs)) dw=some (.dK (kvw rs)):=upd_same
    revert s1 hd
    generalize upd H dw (.dK (kvw rs))=H1
    intro s1 hd
    refine ⟨_,rfl,_,rfl,x,ltr rs,dw,_,600,rfl,hd,fun c=>kvw_some hG.nd c,by omega,hx,hin,fun H2 s2=>⟨_,rfl,?_⟩⟩
    exact iteF ⟨_,rfl,_,rfl,x,dw,first,rs,rfl,hG,s2 _ _ hd,by omega,hin,fun H3 s3=>k H3 (s1.trans (s2.trans s3))⟩
def spDby:Sp:=fun vs H Q _=>∃ (t:Addr) (first:List Nat) (rs:List Rule) (ys:List Nat) (c:Nat) (d:Addr) (g:Nat→Nat),vs=[.ref t,tx ys,sign c,.ref d]∧BookAt H t first rs∧Good first rs∧c∈ltr rs∧ys.length≤8∧(∀ e∈ys,e∈ltr rs)∧H d=some (.dK (dkF (ltr rs) fun c=>((g c:Nat):Int))) ∧
  ∀ H',Same H H'→Q (.int ((dby rs ys c g:Nat):Int)) H'
theorem scDby:FnScope ["book","ring","letter","depths"] ["book","ring","letter","depths"] (defScope sDby):=⟨rfl,rfl,rfl,by decide +kernel,rfl,by decide +kernel,by decide +kernel⟩
theorem nd_dby1:(["sign","depths"]:List Str).Nodup:=by decide +kernel
theorem nd_dby2:(["sign","depths","ring"]:List Str).Nodup:=by decide +kernel
theorem ok_dby {f fTrn:Addr} {fd fdTrn:FuncData} (F:Fun K "depth_by" "depth_by" sDby f fd)
    (GTrn:FnOk P w K mg base CX0 2 fTrn fdTrn ["book","text"] spTrn)
    (gTrn:Gf K mg "turned" fTrn fdTrn ["book","text"])
    (hmax:mg "max" = none)
    : FnOk P w K mg base CX0 3 f fd ["book","ring","letter","depths"] spDby:=by
  refine F.ok scDby (fun vs H Q E h=>?_) (fun cdv A outer s H vs Q E hr h=>?_)
  · obtain ⟨t,first,rs,ys,c,d,g,rfl,_⟩:=h
    rfl
  · obtain ⟨t,first,rs,ys,c,d,g,rfl,hB,hG,hc,h8,hin,hd,k⟩:=h
    have hu:=hu_of hr
    refine ⟨_,(pss_cons (ps_if (pt_not (pt_truthK K (pv 1) (fun _=>rfl))) (pss_one (ps_ret (pe_maxDK K rfl (by rfl) hmax (pa_cons (pe_comp (N':=["sign","depths"]) (ix:=[none,some 3]) rfl rfl (pi_str (pe_call GTrn hr rfl gTrn.m gTrn.k gTrn.b .nil pass0 (pa_cons (pv 0) (pa_cons (pv 2) pa_nil)))) (fun _ _ _ _ _ _=>(pg_name (i:=0) nd_dby1 rfl (Or.inl rfl))) (fun _ _ _ _ _ _=>pts_nil) (fun _ _ _ _ _ _=>(pe_dget hu (pv 1) (pv 0) (fun _ _=>rfl)))) pa_nil)))) pss_nil)
      (pss_one (ps_ret (pe_op op_add pe_int (pe_maxDK K rfl (by rfl) hmax (pa_cons (pe_comp (N':=["sign","depths","ring"]) (ix:=[none,some 3,some 1]) rfl rfl (pi_str (pe_call GTrn hr rfl gTrn.m gTrn.k gTrn.b .nil pass0 (pa_cons (pv 0) (pa_cons (pv 1) pa_nil)))) (fun _ _ _ _ _ _=>(pg_name (i:=0) nd_dby2 rfl (Or.inl rfl))) (fun _ _ _ _ _ _=>(pts_one (pt_cmpR op_notin_str (pv 0) (pv 2) (by rfl)))) (fun _ _ _ _ _ _=>(pe_dget hu (pv 1) (pv 0) (fun _ _=>rfl)))) pa_nil)))))),?_⟩
    have szy:(⟨ys.toArray⟩:Str).length≤sizeLine:=szl (show ys.length≤1000 by omega)
    refine ⟨_,rfl,_,⟨szy,rfl⟩,?_⟩
    unfold dby at k
    cases ys with
    | nil =>
      rw [if_pos rfl] at k
      have e0:(((⟨([]:List Nat).toArray⟩:Str).length:Int) != 0)=false:=rfl
      rw [e0]
      refine iteT ?_
      have h1:nxt rs [c]=wd rs c:=nxt_one rs c
      refine ⟨_,rfl,_,rfl,t,first,rs,[c],rfl,hB,hG,(show 1≤600 by decide),fun e he=>by rw [List.mem_singleton.mp he];exact hc,fun H1 s1=>⟨⟨(wd rs c).toArray⟩,by rw [h1],?_⟩⟩
      have hw6:=wd_le hG hc
      have hwi:=wd_in hG hc
      refine comp_allR (τ0:=[none,some (.ref d)]) (sure_str (x:=⟨(wd rs c).toArray⟩)) (by rw [List.length_map];show (wd rs c).length≤_;omega) (fun n us τ H6=>H6=H1∧(∃ v,τ=[v,some (.ref d)])∧us=((((wd rs c).take n).map g).map fun (n:Nat)=>(n:Int)).map V.int) ⟨rfl,⟨_,rfl⟩,rfl⟩ ?_ ?_ ?_
      · rintro n us τ H6 hn ⟨rfl,_,rfl⟩
        refine ⟨trivial,?_⟩
        rw [List.length_map,List.length_map,List.length_map,List.length_take]
        omega
      · rintro n y us τ H6 hy ⟨rfl,⟨v,rfl⟩,rfl⟩
        have hy':((wd rs c).map sign)[n]? = some y:=hy
        rw [List.getElem?_map] at hy'
        cases e6:(wd rs c)[n]? with
        | none=>rw [e6] at hy';cases hy'
        | some a =>
          rw [e6] at hy'
          cases hy'
          have hga:=DGet.k (k:=(Sum.inr (one a):Key)) (s1 _ _ hd)
          rw [dkF_val (hwi a (List.mem_of_getElem? e6))] at hga
          refine ⟨_,rfl,_,rfl,d,_,rfl,hga,rfl,⟨_,rfl⟩,?_⟩
          rw [take_snoc g e6,List.map_append,List.map_append]
          rfl
      · rintro us τ H6 D ⟨rfl,_,rfl⟩ hD
        have ew:((⟨(wd rs c).toArray⟩:Str).cps.toList.map sign).length=(wd rs c).length:=by simp
        rw [ew,List.take_length]
        refine ⟨D,((wd rs c).map g).map fun (n:Nat)=>(n:Int),rfl,SqL.of upd_same,fun m hm=>?_⟩
        rw [lmax_is hm]
        exact k _ (s1.trans (Same.add hD))
    | cons a ys =>
      rw [if_neg (by simp)] at k
      have e0:(((⟨(a :: ys).toArray⟩:Str).length:Int) != 0)=true:=by
        show ((((a :: ys).length:Nat):Int) != 0)=true
        rw [List.length_cons]
        simp
        omega
      rw [e0]
      refine iteF ?_
      have hnl:=nxt_le hG hin
      have hni:∀ e∈nxt rs (a :: ys),e∈ltr rs:=fun e he=>by
        obtain ⟨b,hb,h⟩:=nxt_mem.mp he
        exact wd_in hG (hin b hb) e h
      refine ⟨_,rfl,_,rfl,t,first,rs,a :: ys,rfl,hB,hG,by omega,hin,fun H1 s1=>⟨⟨(nxt rs (a :: ys)).toArray⟩,rfl,?_⟩⟩
      revert hnl hni k
      generalize nxt rs (a :: ys)=xs
      intro k hnl hni
      refine comp_byR (τ0:=[none,some (.ref d),some (tx (a :: ys))]) (sure_str (x:=⟨xs.toArray⟩)) (by rw [List.length_map];show xs.length≤_;omega) (fun n us τ H6=>H6=H1∧(∃ v,τ=[v,some (.ref d),some (tx (a :: ys))])∧us=((((xs.take n).filter fun e=>!decide (e∈a :: ys)).map g).map fun (n:Nat)=>(n:Int)).map V.int) ⟨rfl,⟨_,rfl⟩,rfl⟩ ?_ ?_ ?_
      · rintro n us τ H6 hn ⟨rfl,_,rfl⟩
        refine ⟨trivial,?_⟩
        rw [List.length_map,List.length_map,List.length_map]
        refine Nat.le_trans (List.length_filter_le _ _) ?_
        rw [List.length_take]
        omega
      · rintro n y us τ H6 hy ⟨rfl,⟨v,rfl⟩,rfl⟩
        have hy':(xs.map sign)[n]? = some y:=hy
        rw [List.getElem?_map] at hy'
        cases e6:xs[n]? with
        | none=>rw [e6] at hy';cases hy'
        | some b =>
          rw [e6] at hy'
          cases hy'
          have hbl:=hni b (List.mem_of_getElem? e6)
          have hga:=DGet.k (k:=(Sum.inr (one b):Key)) (s1 _ _ hd)
          rw [dkF_val hbl] at hga
          refine ⟨_,rfl,_,rfl,_,_,rfl,rfl,_,rfl,?_⟩
          have e9:(!!(Builtin.Str.occurrences ⟨(a :: ys).toArray⟩ ⟨#[b]⟩ 0 (⟨(a :: ys).toArray⟩:Str).length 1).isEmpty) = !decide (b∈a :: ys):=by rw [occ_mem]
          rw [e9,List.take_add_one,e6,List.filter_append]
          by_cases hm:b∈a :: ys
          · rw [decide_eq_true hm]
            refine iteF ⟨rfl,⟨_,rfl⟩,?_⟩
            rw [filt_out (by rw [decide_eq_true hm];rfl),List.append_nil]
          · rw [decide_eq_false hm]
            refine iteT ⟨_,rfl,_,rfl,d,_,rfl,hga,rfl,⟨_,rfl⟩,?_⟩
            rw [filt_in (by rw [decide_eq_false hm];rfl),List.map_append,List.map_append,List.map_append]
            rfl
      · rintro us τ H6 D ⟨rfl,_,rfl⟩ hD
        have ew:((⟨xs.toArray⟩:Str).cps.toList.map sign).length=xs.length:=by simp
        rw [ew,List.take_length]
        refine ⟨D,_,rfl,SqL.of upd_same,fun m hm=>?_⟩
        rw [lmax_is hm]
        refine ⟨_,_,rfl,rfl,?_⟩
        exact k _ (s1.trans (Same.add hD))
end
end Lw
namespace Lw
open PySem L2 PyProof.Rows
section
variable {P:Program} {w:World} {K:PySem.W.Frag} {mg:Str→Option Value} {base:Heap}
def spRds:Sp:=fun vs H Q _=>∃ (t:Addr) (first:List Nat) (rs:List Rule),vs=[.ref t]∧BookAt H t first rs∧Good first rs∧∀ d H',Same H H'→H d=none→H' d=some (.dK (dkF (ltr rs) fun c=>((dep rs rs.length c:Nat):Int)))→Q (.ref d) H'
theorem scRds:FnScope ["book","ringed","told","step"] ["book"] (defScope sRds):=⟨rfl,rfl,rfl,by decide +kernel,rfl,by decide +kernel,by decide +kernel⟩
theorem nd_rds1:(["letter","book"]:List Str).Nodup:=by decide +kernel
theorem nd_rds2:(["letter"]:List Str).Nodup:=by decide +kernel
theorem nd_rds3:(["letter","book","ringed","told"]:List Str).Nodup:=by decide +kernel
theorem ok_rds {f fLet fRng fDby:Addr} {fd fdLet fdRng fdDby:FuncData} (F:Fun K "ring_depths" "ring_depths" sRds f fd)
    (GLet:FnOk P w K mg base CX0 2 fLet fdLet ["book"] spLet)
    (gLet:Gf K mg "letters" fLet fdLet ["book"])
    (GRng:FnOk P w K mg base CX0 2 fRng fdRng ["book","letter"] spRng)
    (gRng:Gf K mg "ring_of" fRng fdRng ["book","letter"])
    (GDby:FnOk P w K mg base CX0 3 fDby fdDby ["book","ring","letter","depths"] spDby)
    (gDby:Gf K mg "depth_by" fDby fdDby ["book","ring","letter","depths"])
    (hdict:mg "dict" = none)
    : FnOk P w K mg base CX0 4 f fd ["book"] spRds:=by
  refine F.ok scRds (fun vs H Q E h=>?_) (fun cdv A outer s H vs Q E hr h=>?_)
  · obtain ⟨t,first,rs,rfl,_⟩:=h
    rfl
  · obtain ⟨t,first,rs,rfl,hB,hG,k⟩:=h
    have hr2:Room 2 _:=hr.mono (by decide)
    have hu:=hu_of hr
    refine ⟨_,(pss_cons (ps_set (i:=1) scRds.nd rfl (Or.inr rfl) (pe_callTy (call_dict_pairsK K rfl hu) (by rfl) hdict (by first | exact PySem.boot_dict | decide +kernel) (pa_cons (pe_comp (N':=["letter","book"]) (ix:=[none,some 0]) rfl rfl (pi_str (pe_call GLet hr2 rfl gLet.m gLet.k gLet.b .nil pass0 (pa_cons (pv 0) pa_nil))) (fun _ _ _ _ _ _=>(pg_name (i:=0) nd_rds1 rfl (Or.inl rfl))) (fun _ _ _ _ _ _=>pts_nil) (fun _ _ _ _ _ _=>(pe_tup (pa_cons (pv 0) (pa_cons (pe_call GRng hr2 rfl gRng.m gRng.k gRng.b .nil pass0 (pa_cons (pv 1) (pa_cons (pv 0) pa_nil))) pa_nil))))) pa_nil)))
      (pss_cons (ps_set (i:=2) scRds.nd rfl (Or.inr rfl) (pe_callTy (call_dict_pairsK K rfl hu) (by rfl) hdict (by first | exact PySem.boot_dict | decide +kernel) (pa_cons (pe_comp (N':=["letter"]) (ix:=[none]) rfl rfl (pi_str (pe_call GLet hr2 rfl gLet.m gLet.k gLet.b .nil pass0 (pa_cons (pv 0) pa_nil))) (fun _ _ _ _ _ _=>(pg_name (i:=0) nd_rds2 rfl (Or.inl rfl))) (fun _ _ _ _ _ _=>pts_nil) (fun _ _ _ _ _ _=>(pe_tup (pa_cons (pv 0) (pa_cons pe_int pa_nil))))) pa_nil)))
      (pss_cons (ps_for PassesOwn.never rfl (pi_str (pe_call GLet hr2 rfl gLet.m gLet.k gLet.b .nil pass0 (pa_cons (pv 0) pa_nil))) (pg_name (i:=3) scRds.nd rfl (Or.inl rfl)) (pss_one (ps_set (i:=2) scRds.nd rfl (Or.inr rfl) (pe_callTy (call_dict_pairsK K rfl hu) (by rfl) hdict (by first | exact PySem.boot_dict | decide +kernel) (pa_cons (pe_comp (N':=["letter","book","ringed","told"]) (ix:=[none,some 0,some 1,some 2]) rfl rfl (pi_str (pe_call GLet hr2 rfl gLet.m gLet.k gLet.b .nil pass0 (pa_cons (pv 0) pa_nil))) (fun _ _ _ _ _ _=>(pg_name (i:=0) nd_rds3 rfl (Or.inl rfl))) (fun _ _ _ _ _ _=>pts_nil) (fun _ _ _ _ _ _=>(pe_tup (pa_cons (pv 0) (pa_cons (pe_call GDby hr rfl gDby.m gDby.k gDby.b .nil pass0 (pa_cons (pv 1) (pa_cons (pe_dget hu (pv 2) (pv 0) (fun _ _=>rfl)) (pa_cons (pv 0) (pa_cons (pv 3) pa_nil))))) pa_nil))))) pa_nil)))))
      (pss_one (ps_ret (pv 2)))))),?_⟩
    have hfew:=hG.few
    have lr:=ltr_len rs
    have ew:((⟨(ltr rs).toArray⟩:Str).cps.toList.map sign).length=(ltr rs).length:=by simp
    refine ⟨_,rfl,t,first,rs,rfl,hB,hfew,fun H1 s1=>⟨⟨(ltr rs).toArray⟩,rfl,?_⟩⟩
    have hB1:=hB.mono (TupS.same s1)
    refine comp_allR (τ0:=[none,some (.ref t)]) (sure_str (x:=⟨(ltr rs).toArray⟩)) (by rw [ew];omega) (fun i ys τ H6=>Same H1 H6∧(∃ v,τ=[v,some (.ref t)])∧∃ qs,ys=qs.map V.ref∧RulesAt H6 qs (((ltr rs).take i).map fun c=>(c,rg rs c))) ⟨Same.refl _,⟨_,rfl⟩,[],rfl,.nil⟩ ?_ ?_ ?_
    · rintro i ys τ H6 hi ⟨s6,_,qs,rfl,hq⟩
      refine ⟨trivial,?_⟩
      rw [List.length_map,hq.len,List.length_map,List.length_take]
      omega
    · rintro i y ys τ H6 hy ⟨s6,⟨v,rfl⟩,qs,rfl,hq⟩
      have hy':((ltr rs).map sign)[i]? = some y:=hy
      rw [List.getElem?_map] at hy'
      cases e:(ltr rs)[i]? with
      | none=>rw [e] at hy';cases hy'
      | some c =>
        rw [e] at hy'
        cases hy'
        have hc:=List.mem_of_getElem? e
        refine ⟨_,rfl,_,rfl,_,rfl,t,first,rs,c,rfl,hB1.mono (TupS.same s6),hG,hc,fun H7 s7=>⟨szl (show 2≤1000 by decide),fun T nT=>?_⟩⟩
        have sT:=Same.add (o:=.tup [sign c,tx (rg rs c)]) nT
        refine ⟨s6.trans (s7.trans sT),⟨_,rfl⟩,qs++[T],by rw [List.map_append];rfl,?_⟩
        rw [take_snoc (fun c=>(c,rg rs c)) e]
        exact RulesAt.snoc upd_same (hq.mono (TupS.same (s7.trans sT)))
    rintro ys τ H6 D ⟨s6,_,qs,rfl,hq⟩ nD
    rw [ew,List.take_length] at hq
    have hq':RulesAt H6 qs (rr rs):=hq
    have sD:=Same.add (o:=.lst (qs.map V.ref)) nD
    have ndu:(ltr (rr rs)).Nodup:=by rw [rr_ltr];exact hG.nd
    have hul:(rr rs).length=rs.length:=by unfold rr;rw [List.length_map,lr]
    refine ⟨D,qs,kvw (rr rs),rfl,SqL.of upd_same,kvw_pairs (hq'.mono (TupS.same sD)),by rw [kvw_keys,rr_ltr];exact keys_nd hG.nd,by unfold kvw;rw [List.length_map];omega,fun dr ndr=>?_⟩
    have sr:=Same.add (o:=.dK (kvw (rr rs))) ndr
    have s16:=s6.trans (sD.trans sr)
    have hdr:upd (upd H6 D (.lst (qs.map V.ref))) dr (.dK (kvw (rr rs))) dr=some (.dK (kvw (rr rs))):=upd_same
    revert s16 hdr
    generalize upd (upd H6 D (.lst (qs.map V.ref))) dr (.dK (kvw (rr rs)))=H7
    intro s16 hdr
    have s07:=s1.trans s16
    have hB7:=hB.mono (TupS.same s07)
    refine ⟨_,rfl,t,first,rs,rfl,hB7,hfew,fun H8 s8=>⟨⟨(ltr rs).toArray⟩,rfl,?_⟩⟩
    refine comp_allR (τ0:=[none]) (sure_str (x:=⟨(ltr rs).toArray⟩)) (by rw [ew];omega) (fun i ys τ H9=>Same H8 H9∧(∃ v,τ=[v])∧∃ qs,ys=qs.map V.ref∧PairsAt H9 qs (dkF ((ltr rs).take i) fun c=>((dep rs 0 c:Nat):Int))) ⟨Same.refl _,⟨_,rfl⟩,[],rfl,.nil⟩ ?_ ?_ ?_
    · rintro i ys τ H9 hi ⟨s9,_,qs,rfl,hq⟩
      refine ⟨trivial,?_⟩
      rw [List.length_map,hq.len]
      unfold dkF
      rw [List.length_map,List.length_take]
      omega
    · rintro i y ys τ H9 hy ⟨s9,⟨v,rfl⟩,qs,rfl,hq⟩
      have hy':((ltr rs).map sign)[i]? = some y:=hy
      rw [List.getElem?_map] at hy'
      cases e:(ltr rs)[i]? with
      | none=>rw [e] at hy';cases hy'
      | some c =>
        rw [e] at hy'
        cases hy'
        refine ⟨_,rfl,szl (show 2≤1000 by decide),fun T nT=>⟨s9.trans (Same.add nT),⟨_,rfl⟩,qs++[T],by rw [List.map_append];rfl,?_⟩⟩
        rw [dkF_snoc _ e]
        exact pairs_snoc (k:=(Sum.inr (one c):Key)) (v:=V.int 0) (show _=some (.tup [sign c,V.int 0]) from upd_same) (pairs_mono (TupS.same (Same.add nT)) hq)
    rintro ys τ H9 D2 ⟨s9,_,qs2,rfl,hq2⟩ nD2
    rw [ew,List.take_length] at hq2
    have sD2:=Same.add (o:=.lst (qs2.map V.ref)) nD2
    refine ⟨D2,qs2,_,rfl,SqL.of upd_same,pairs_mono (TupS.same sD2) hq2,by rw [dkF_keys];exact keys_nd hG.nd,by unfold dkF;rw [List.length_map];omega,fun d0 nd0=>?_⟩
    have sd0:=Same.add (o:=.dK (dkF (ltr rs) fun c=>((dep rs 0 c:Nat):Int))) nd0
    have s7a:=s8.trans (s9.trans (sD2.trans sd0))
    have hd0:upd (upd H9 D2 (.lst (qs2.map V.ref))) d0 (.dK (dkF (ltr rs) fun c=>((dep rs 0 c:Nat):Int))) d0=some (.dK (dkF (ltr rs) fun c=>((dep rs 0 c:Nat):Int))):=upd_same
    have nd00:H d0=none:=(s07.trans (s8.trans (s9.trans sD2))).free nd0
    revert s7a hd0
    generalize upd (upd H9 D2 (.lst (qs2.map V.ref))) d0 (.dK (dkF (ltr rs) fun c=>((dep rs 0 c:Nat):Int)))=Ha
    intro s7a hd0
    have s0a:=s07.trans s7a
    have hdra:=s7a _ _ hdr
    refine ⟨_,rfl,t,first,rs,rfl,hB.mono (TupS.same s0a),hfew,fun Hb sb=>⟨⟨(ltr rs).toArray⟩,rfl,?_⟩⟩
    refine for_by (sure_str (x:=⟨(ltr rs).toArray⟩)) (fun i σ Hc=>∃ (d:Addr) (v3:Option V),σ=[some (.ref t),some (.ref dr),some (.ref d),v3]∧Same Ha Hc∧H d=none∧Hc d=some (.dK (dkF (ltr rs) fun c=>((dep rs i c:Nat):Int))))
      ⟨d0,_,rfl,sb,nd00,sb _ _ hd0⟩ (fun _ _ _ _ _=>trivial) ?_ ?_
    · rintro i y σ Hc hy ⟨d,v3,rfl,sc,ndd,hdc⟩
      have hBc:=hB.mono (TupS.same (s0a.trans sc))
      refine ⟨_,rfl,t,first,rs,rfl,hBc,hfew,fun Hd sd=>⟨⟨(ltr rs).toArray⟩,rfl,?_⟩⟩
      have hdd:=sd _ _ hdc
      have hdrd:=sd _ _ (sc _ _ hdra)
      have hBd:=hBc.mono (TupS.same sd)
      refine comp_allR (τ0:=[none,some (.ref t),some (.ref dr),some (.ref d)]) (sure_str (x:=⟨(ltr rs).toArray⟩)) (by rw [ew];omega) (fun j ys τ He=>Same Hd He∧(∃ v,τ=[v,some (.ref t),some (.ref dr),some (.ref d)])∧∃ qs,ys=qs.map V.ref∧PairsAt He qs (dkF ((ltr rs).take j) fun c=>((dep rs (i+1) c:Nat):Int))) ⟨Same.refl _,⟨_,rfl⟩,[],rfl,.nil⟩ ?_ ?_ ?_
      · rintro j ys τ He hj ⟨se,_,qs,rfl,hq⟩
        refine ⟨trivial,?_⟩
        rw [List.length_map,hq.len]
        unfold dkF
        rw [List.length_map,List.length_take]
        omega
      · rintro j y ys τ He hy ⟨se,⟨v,rfl⟩,qs,rfl,hq⟩
        have hy':((ltr rs).map sign)[j]? = some y:=hy
        rw [List.getElem?_map] at hy'
        cases e:(ltr rs)[j]? with
        | none=>rw [e] at hy';cases hy'
        | some c =>
          rw [e] at hy'
          cases hy'
          have hc:=List.mem_of_getElem? e
          have hget:=DGet.k (k:=(Sum.inr (one c):Key)) (se _ _ hdrd)
          rw [kvw_wd ndu (show c∈ltr (rr rs) by rw [rr_ltr];exact hc),rr_wd hc] at hget
          refine ⟨_,rfl,_,rfl,_,rfl,_,rfl,dr,_,rfl,hget,_,rfl,_,rfl,t,first,rs,rg rs c,c,d,dep rs i,rfl,hBd.mono (TupS.same se),hG,hc,rg_len hG c,fun e he=>rg_inl he,se _ _ hdd,fun Hf sf=>⟨szl (show 2≤1000 by decide),fun T nT=>?_⟩⟩
          have sT:=Same.add (o:=.tup [sign c,V.int ((dby rs (rg rs c) c (dep rs i):Nat):Int)]) nT
          refine ⟨se.trans (sf.trans sT),⟨_,rfl⟩,qs++[T],by rw [List.map_append];rfl,?_⟩
          rw [dkF_snoc _ e]
          exact pairs_snoc (k:=(Sum.inr (one c):Key)) (v:=V.int ((dep rs (i+1) c:Nat):Int)) (show _=some (.tup [sign c,V.int ((dby rs (rg rs c) c (dep rs i):Nat):Int)]) from upd_same) (pairs_mono (TupS.same (sf.trans sT)) hq)
      rintro ys τ He D3 ⟨se,_,qs,rfl,hq⟩ nD3
      rw [ew,List.take_length] at hq
      have sD3:=Same.add (o:=.lst (qs.map V.ref)) nD3
      refine ⟨D3,qs,_,rfl,SqL.of upd_same,pairs_mono (TupS.same sD3) hq,by rw [dkF_keys];exact keys_nd hG.nd,by unfold dkF;rw [List.length_map];omega,fun d1 nd1=>?_⟩
      have sd1:=Same.add (o:=.dK (dkF (ltr rs) fun c=>((dep rs (i+1) c:Nat):Int))) nd1
      exact ⟨d1,_,rfl,sc.trans (sd.trans (se.trans (sD3.trans sd1))),(s0a.trans (sc.trans (sd.trans (se.trans sD3)))).free nd1,upd_same⟩
    · rintro σ Hc ⟨d,v3,rfl,sc,ndd,hdc⟩
      rw [ew,lr] at hdc
      exact ⟨_,rfl,k d Hc (s0a.trans sc) ndd hdc⟩
end
end Lw
namespace Lw
open PySem L2
abbrev DictI (H:Hp) (d:Addr) (rs:List Rule) (ns:List Int):Prop:=H d=some (.dK (dkI (ltr rs) ns))
structure DicsAt (H:Hp) (l:Addr) (ls:List Addr) (rs:List Rule) (f:Nat→List Int) (m:Nat):Prop where
  top:H l=some (.lst (ls.map V.ref))
  len:ls.length=m
  at_:∀ (i:Nat) a,ls[i]? = some a→DictI H a rs (f i)
theorem DicsAt.mono {H H':Hp} {l:Addr} {ls:List Addr} {rs:List Rule} {f:Nat→List Int} {m:Nat} (t:DicsAt H l ls rs f m) (s:Same H H'):DicsAt H' l ls rs f m:=⟨s _ _ t.top,t.len,fun i a e=>s _ _ (t.at_ i a e)⟩
theorem word_sum {first:List Nat} {rs:List Rule} (hG:Good first rs) (ns:List Int) (hl:ns.length=rs.length) (x:List Nat):(x.map (lk (ltr rs) ns)).sum=dot (c0 rs x) ns:=by
  rw [lk_sum x hG.nd (by rw [hl];unfold ltr;rw [List.length_map]),c0_eq]
theorem stepL_eq (rs:List Rule) (ns:List Int):stepL (tabI rs) ns=rs.map fun q=>dot (c0 rs q.2) ns:=by
  unfold stepL tabI
  rw [List.map_map]
  rfl
theorem thaw {H H':Hp} {d:Addr} {o u:HO} (s:Same (upd H d o) H') (e:H d=some u):Same H (upd H' d u):=fun b v q=>by
  by_cases z:b=d
  · subst z
    rw [e] at q
    cases q
    exact upd_same
  · rw [upd_ne z]
    exact s b v (by rw [upd_ne z];exact q)
theorem thaw_tup {H:Hp} {d:Addr} {ob:Obj} {u u':HO} (e:H d=some (.frz ob u)):TupS H (upd H d u'):=fun c xs q=>by
  have n:c≠d:=fun z=>by rw [z,e] at q;cases q
  rw [upd_ne n]
  exact q
theorem cut_rep (n:Nat) (x:V):cutV (List.replicate (n+1) x) none (some (-1))=List.replicate n x:=by
  unfold cutV
  have e1:HT.sIx (List.replicate (n+1) x).length 0 none=0:=rfl
  have e2:HT.sIx (List.replicate (n+1) x).length (List.replicate (n+1) x).length (some (-1))=n:=by
    rw [List.length_replicate]
    unfold HT.sIx
    simp only
    rw [if_pos (by decide)]
    omega
  rw [e1,e2,List.drop_zero,List.take_replicate]
  congr 1
  omega
section
variable {P:Program} {w:World} {K:PySem.W.Frag} {mg:Str→Option Value} {base:Heap}
def spTsm:Sp:=fun vs H Q _=>∃ (d:Addr) (rs:List Rule) (ns:List Int) (x:List Nat),vs=[tx x,.ref d]∧DictI H d rs ns∧ns.length=rs.length∧x.length≤1000∧(∀ c∈x,c∈ltr rs)∧∀ H',Same H H'→Q (.int (x.map (lk (ltr rs) ns)).sum) H'
theorem scTsm:FnScope ["text","worths"] ["text","worths"] (defScope sTsm):=⟨rfl,rfl,rfl,by decide +kernel,rfl,by decide +kernel,by decide +kernel⟩
theorem nd_tsm1:(["letter","worths"]:List Str).Nodup:=by decide +kernel
theorem ok_tsm {f:Addr} {fd:FuncData} (F:Fun K "text_sum" "text_sum" sTsm f fd)
    (hsum:mg "sum" = none)
    : FnOk P w K mg base CX0 1 f fd ["text","worths"] spTsm:=by
  refine F.ok scTsm (fun vs H Q E h=>?_) (fun cdv A outer s H vs Q E hr h=>?_)
  · obtain ⟨d,rs,ns,x,rfl,_⟩:=h
    rfl
  · obtain ⟨d,rs,ns,x,rfl,hD,hl,hx,hin,k⟩:=h
    have hu:=hu_of hr
    refine ⟨_,(pss_one (ps_ret (pe_callB (call_sumK2 K rfl) (by rfl) hsum (by first | exact PySem.boot_sum | decide +kernel) (pa_cons (pe_comp (N':=["letter","worths"]) (ix:=[none,some 1]) rfl rfl (pi_str (pv 0)) (fun _ _ _ _ _ _=>(pg_name (i:=0) nd_tsm1 rfl (Or.inl rfl))) (fun _ _ _ _ _ _=>pts_nil) (fun _ _ _ _ _ _=>(pe_dget hu (pv 1) (pv 0) (fun _ _=>rfl)))) pa_nil)))),?_⟩
    have ll:ns.length=(ltr rs).length:=by rw [hl];unfold ltr;rw [List.length_map]
    refine ⟨_,rfl,⟨x.toArray⟩,rfl,?_⟩
    refine comp_all (Q:=fun y Ha=>rSum K [y] Ha Q) (τ0:=[none,some (.ref d)]) sure_str (by rw [List.length_map];show x.length≤_;omega)
      (fun i ys τ H2=>H2=H∧(∃ v,τ=[v,some (.ref d)])∧ys=((x.take i).map (lk (ltr rs) ns)).map V.int) ⟨rfl,⟨_,rfl⟩,rfl⟩ ?_ ?_ ?_
    · rintro i ys τ H2 hi ⟨rfl,_,rfl⟩
      refine ⟨trivial,?_⟩
      rw [List.length_map,List.length_map,List.length_take]
      omega
    · rintro i y ys τ H2 hy ⟨rfl,⟨v,rfl⟩,rfl⟩
      have hy':(x.map sign)[i]? = some y:=hy
      rw [List.getElem?_map] at hy'
      cases e:x[i]? with
      | none=>rw [e] at hy';cases hy'
      | some c =>
        rw [e] at hy'
        cases hy'
        have hg:=DGet.k (k:=(Sum.inr (one c):Key)) hD
        rw [dkI_val ll (hin c (List.mem_of_getElem? e))] at hg
        refine ⟨_,rfl,_,rfl,d,_,rfl,hg,rfl,⟨_,rfl⟩,?_⟩
        rw [take_snoc (lk (ltr rs) ns) e,List.map_append]
        rfl
    · rintro ys τ H2 D ⟨rfl,_,rfl⟩ hD2
      have ew:((⟨x.toArray⟩:Str).cps.toList.map sign).length=x.length:=by simp
      rw [ew,take_all]
      exact ⟨D,_,rfl,SqL.of upd_same,k _ (Same.add hD2)⟩
def spWba:Sp:=fun vs H Q _=>∃ (t:Addr) (first:List Nat) (rs:List Rule) (n:Nat),vs=[.ref t,.int (n:Int)]∧BookAt H t first rs∧Good first rs∧n≤600 ∧
  ∀ l dw H',Same H H'→H l=none→H dw=none→H' l=some (.lst (List.replicate (n+1) (V.ref dw)))→H' dw=some (.dK (kvw rs))→Q (.ref l) H'
theorem scWba:FnScope ["book","age"] ["book","age"] (defScope sWba):=⟨rfl,rfl,rfl,by decide +kernel,rfl,by decide +kernel,by decide +kernel⟩
theorem ok_wba {f:Addr} {fd:FuncData} (F:Fun K "words_by_age" "words_by_age" sWba f fd)
    (hdict:mg "dict" = none)
    : FnOk P w K mg base CX0 1 f fd ["book","age"] spWba:=by
  refine F.ok scWba (fun vs H Q E h=>?_) (fun cdv A outer s H vs Q E hr h=>?_)
  · obtain ⟨t,first,rs,n,rfl,_⟩:=h
    rfl
  · obtain ⟨t,first,rs,n,rfl,hB,hG,hn,k⟩:=h
    refine ⟨_,(pss_one (ps_ret (pe_op op_rep (pe_lst (pa_cons (pe_callTy (call_dict_tup rfl) (by rfl) hdict (by first | exact PySem.boot_dict | decide +kernel) (pa_cons (pe_ix (ix_tupK K) (pv 0) pe_int (fun _ _=>rfl)) pa_nil)) pa_nil)) (pe_op op_add (pv 1) pe_int)))),?_⟩
    have hfew:=hG.few
    obtain ⟨r,ps,b1,b2,b3⟩:=hB.ex
    refine ⟨_,rfl,t,_,_,_,rfl,rfl,SqT.of b1,atI_nat (j:=1) rfl,r,ps,kvw rs,rfl,b2,kvw_pairs b3,by rw [kvw_keys];exact keys_nd hG.nd,by rw [List.length_map];omega,fun dw ndw=>?_⟩
    refine ⟨(by show 1≤sizeLine;decide),fun l0 nl0=>?_⟩
    refine ⟨_,rfl,_,_,rfl,rfl,?_⟩
    have eN:((n:Int)+1).toNat=n+1:=by omega
    refine ⟨l0,_,_,rfl,rfl,upd_same,by omega,by omega,?_,fun l nl=>?_⟩
    · rw [eN]
      show 1 * (n+1)≤sizeLine
      exact Nat.le_of_lt (small1000 (by omega))
    · have s1:Same H (upd (upd H dw (.dK (kvw rs))) l0 (.lst [V.ref dw])):=(Same.add ndw).trans (Same.add nl0)
      have nld:l≠dw:=fun z=>by
        rw [z,upd_ne (ne_of_none (upd_same (H:=H) (a:=dw) (o:=.dK (kvw rs))) nl0),upd_same] at nl
        cases nl
      refine k l dw _ (s1.trans (Same.add nl)) (s1.free nl) ndw ?_ ?_
      · rw [upd_same,eN]
        simp
      · exact upd_in (upd_in upd_same (ne_of_none (upd_same (H:=H) (a:=dw) (o:=.dK (kvw rs))) nl0)) nld.symm
def spLsm:Sp:=fun vs H Q _=>∃ (l dw d:Addr) (first:List Nat) (rs:List Rule) (n:Nat) (ns:List Int),vs=[.ref l,.ref d]∧Good first rs∧n≤600∧H l=some (.lst (List.replicate (n+1) (V.ref dw)))∧H dw=some (.dK (kvw rs))∧DictI H d rs ns∧d≠dw∧ns.length=rs.length ∧
  ∀ lo ls H',Same H H'→H lo=none→(∀ x∈ls,x=d∨H x=none)→DicsAt H' lo ls rs (sumN (tabI rs) ns) (n+1)→Q (.ref lo) H'
theorem scLsm:FnScope ["words","worths","told","spelling"] ["words","worths"] (defScope sLsm):=⟨rfl,rfl,rfl,by decide +kernel,rfl,by decide +kernel,by decide +kernel⟩
theorem nd_lsm1:(["letter","spelling","told"]:List Str).Nodup:=by decide +kernel
theorem ok_lsm {f fTsm:Addr} {fd fdTsm:FuncData} (F:Fun K "letter_sums" "letter_sums" sLsm f fd)
    (GTsm:FnOk P w K mg base CX0 1 fTsm fdTsm ["text","worths"] spTsm)
    (gTsm:Gf K mg "text_sum" fTsm fdTsm ["text","worths"])
    (hdict:mg "dict" = none)
    (hreversed:mg "reversed" = none)
    : FnOk P w K mg base CX0 2 f fd ["words","worths"] spLsm:=by
  refine F.ok scLsm (fun vs H Q E h=>?_) (fun cdv A outer s H vs Q E hr h=>?_)
  · obtain ⟨l0,dw,d,first,rs,n,ns,rfl,_⟩:=h
    rfl
  · obtain ⟨l0,dw,d,first,rs,n,ns,rfl,hG,hn,h0,hw,hD,hdw,hl,k⟩:=h
    have hu:=hu_of hr
    refine ⟨_,(pss_cons (ps_set (i:=2) scLsm.nd rfl (Or.inr rfl) (pe_lst (pa_cons (pv 1) pa_nil)))
      (pss_cons (ps_for PassesOwn.never rfl (pi_revK K rfl hreversed (pa_cons (pe_slice (sl_listK K) (pv 0) po_none (po_some (pe_un un_neg pe_int))) pa_nil)) (pg_name (i:=3) scLsm.nd rfl (Or.inr rfl)) (pss_one (ps_expr (pe_bmK K PySem.F.plainAttrs_list PySem.F.slot_list_append PySem.F.type_list_append mt_append (pv 2) (pa_cons (pe_callTy (call_dict_pairsK K rfl hu) (by rfl) hdict (by first | exact PySem.boot_dict | decide +kernel) (pa_cons (pe_frz (pe_comp (N':=["letter","spelling","told"]) (ix:=[none,some 3,some 2]) rfl rfl (pi_dict (pv 3)) (fun _ _ _ _ _ _=>(pg_name (i:=0) nd_lsm1 rfl (Or.inl rfl))) (fun _ _ _ _ _ _=>pts_nil) (fun _ _ _ _ _ _=>(pe_tup (pa_cons (pv 0) (pa_cons (pe_call GTsm hr rfl gTsm.m gTsm.k gTsm.b .nil pass0 (pa_cons (pe_dget hu (pv 1) (pv 0) (fun _ _=>rfl)) (pa_cons (pe_ix (ix_listK K) (pv 2) (pe_un un_neg pe_int) (fun _ _=>rfl)) pa_nil))) pa_nil)))))) pa_nil)) pa_nil)))))
      (pss_one (ps_ret (pv 2))))),?_⟩
    have hfew:=hG.few
    have lsn:∀ j,(sumN (tabI rs) ns j).length=rs.length:=sumN_len (tabI_len rs) hl
    refine ⟨_,rfl,(by show 1≤sizeLine;decide),fun l nl=>?_⟩
    have nll:l0≠l:=ne_of_none h0 nl
    have ndl:d≠l:=ne_of_none hD nl
    have nwl:dw≠l:=ne_of_none hw nl
    refine ⟨_,rfl,_,rfl,_,rfl,l0,_,rfl,SqL.of (upd_in h0 nll),fun p np=>?_⟩
    have npl:l≠p:=ne_of_none (upd_same (H:=H) (a:=l) (o:=.lst [V.ref d])) np
    refine ⟨p,List.replicate n (V.ref dw),rfl,SqL.of (by rw [upd_same];exact congrArg (fun z=>some (HO.lst z)) (cut_rep n (V.ref dw))),?_⟩
    refine for_by (sure_rev (xs:=List.replicate n (V.ref dw))) (fun i σ H5=>∃ (ls:List Addr) (v3:Option V),σ=[some (.ref l0),some (.ref d),some (.ref l),v3]∧Same H H5∧H5 p=some (.lst (List.replicate n (V.ref dw)))∧l ∉ ls∧(∀ x∈ls,x=d∨H x=none)∧DicsAt H5 l ls rs (sumN (tabI rs) ns) (i+1)) ?_ ?_ ?_ ?_
    · refine ⟨[d],none,rfl,(Same.add nl).trans (Same.add np),by rw [upd_same];exact congrArg (fun z=>some (HO.lst z)) (cut_rep n (V.ref dw)),(fun z=>ndl (List.mem_singleton.mp z).symm),fun x hx=>.inl (List.mem_singleton.mp hx),⟨upd_in upd_same npl,rfl,fun i a e1=>?_⟩⟩
      cases i with
      | succ i=>simp at e1
      | zero =>
        cases e1
        exact (Same.add np) _ _ (upd_in hD ndl)
    · rintro i σ H5 hi ⟨ls,v3,rfl,s5,hp5,_⟩
      exact SqL.of hp5
    · rintro j x σ H5 hx ⟨ls,v3,rfl,s5,hp5,hlo,hfr,hTl⟩
      have hx':x=V.ref dw∧j < n:=by
        rw [List.reverse_replicate,List.getElem?_replicate] at hx
        split at hx
        · rename_i hj
          exact ⟨(Option.some.inj hx).symm,hj⟩
        · cases hx
      obtain ⟨rfl,hjn⟩:=hx'
      have ln:(ls.map V.ref).length=j+1:=by rw [List.length_map,hTl.len]
      obtain ⟨a,ha⟩:∃ a,ls[j]? = some a:=⟨ls[j]'(by rw [hTl.len];omega),List.getElem?_eq_getElem _⟩
      have hv:=hTl.at_ j a ha
      have naw:a≠dw:=by
        rcases hfr a (List.mem_of_getElem? ha) with z | z
        · rw [z];exact hdw
        · exact (ne_of_none hw z).symm
      have hw5:=s5 _ _ hw
      refine ⟨_,rfl,.inl ⟨rfl,_,SqL.of hTl.top⟩,dw,kvw rs,hw5,fun ob=>?_⟩
      refine ⟨_,rfl,dw,ob,kvw rs,rfl,upd_same,?_⟩
      have ek:((kvw rs).map fun p=>kV p.1).length=rs.length:=by rw [List.length_map,List.length_map]
      refine comp_allR (τ0:=[none,some (V.ref dw),some (V.ref l)]) (sure_dict (d:=dw) (ob:=ob) (kvs:=kvw rs)) (by rw [ek];omega)
        (fun i ys τ H6=>Same (upd H5 dw (.frz ob (.dK (kvw rs)))) H6∧(∃ v,τ=[v,some (.ref dw),some (.ref l)])∧∃ ps':List Addr,ys=ps'.map V.ref∧ps'.length=i∧PairsAt H6 ps' (dkI ((ltr rs).take i) ((rs.map fun q=>dot (c0 rs q.2) (sumN (tabI rs) ns j)).take i)))
        ⟨Same.refl _,⟨_,rfl⟩,[],rfl,rfl,.nil⟩ ?_ ?_ ?_
      · rintro i ys τ H6 hi ⟨s6,_,ps',rfl,lp,_⟩
        exact ⟨s6 _ _ upd_same,by rw [List.length_map];omega⟩
      · rintro i x ys τ H6 hx ⟨s6,⟨v,rfl⟩,ps',rfl,lp,hP⟩
        rw [List.map_map,List.getElem?_map] at hx
        cases e1:rs[i]? with
        | none=>rw [e1] at hx;cases hx
        | some q =>
          obtain ⟨c,w'⟩:=q
          rw [e1] at hx
          cases hx
          have hm:=List.mem_of_getElem? e1
          have hg:DGet H6 dw (sign c) (some (tx w')):=.inl ⟨kvw rs,Sum.inr (one c),.inr ⟨ob,s6 _ _ upd_same⟩,rfl,(kvw_val hG.nd hm).symm⟩
          have hT6:=s6 _ _ (upd_in (o:=.frz ob (.dK (kvw rs))) hTl.top nwl.symm)
          refine ⟨_,rfl,_,rfl,_,rfl,dw,_,rfl,hg,_,rfl,_,rfl,l,_,_,_,rfl,rfl,SqL.of hT6,atI_last ln (by rw [List.getElem?_map,ha];rfl),?_⟩
          refine ⟨a,rs,_,w',rfl,s6 _ _ (upd_in hv naw),lsn j,by have:=hG.wl _ hm;simp only at this;omega,fun c' hc'=>hG.win _ hm c' hc',fun H7 s7=>⟨(by show 2≤sizeLine;decide),fun T hT=>?_⟩⟩
          have s8:Same H6 (upd H7 T (.tup [sign c,V.int (w'.map (lk (ltr rs) (sumN (tabI rs) ns j))).sum])):=s7.trans (Same.add hT)
          refine ⟨s6.trans s8,⟨_,rfl⟩,ps'++[T],by rw [List.map_append];rfl,by rw [List.length_append,lp];rfl,?_⟩
          have h1:(ltr rs)[i]? = some c:=by unfold ltr;rw [List.getElem?_map,e1];rfl
          have h2:(rs.map fun q=>dot (c0 rs q.2) (sumN (tabI rs) ns j))[i]? = some (dot (c0 rs w') (sumN (tabI rs) ns j)):=by rw [List.getElem?_map,e1];rfl
          have lt:((rs.map fun q=>dot (c0 rs q.2) (sumN (tabI rs) ns j)).take i).length=((ltr rs).take i).length:=by unfold ltr;rw [List.length_take,List.length_take,List.length_map,List.length_map]
          rw [List.take_add_one,List.take_add_one,h1,h2]
          show PairsAt _ _ (dkI (_++[c]) (_++[dot (c0 rs w') (sumN (tabI rs) ns j)]))
          rw [← dkI_snoc lt]
          refine pairs_snoc ?_ (pairs_mono (TupS.same s8) hP)
          rw [upd_same,word_sum hG _ (lsn j)]
          rfl
      · rintro ys τ H6 D0 ⟨s6,_,ps',rfl,lp,hP⟩ hD0
        rw [ek] at hP
        have t1:(ltr rs).take rs.length=ltr rs:=by
          have:=take_all (ltr rs)
          unfold ltr at this ⊢
          rwa [List.length_map] at this
        have t2:(rs.map fun q=>dot (c0 rs q.2) (sumN (tabI rs) ns j)).take rs.length=sumN (tabI rs) ns (j+1):=by
          have:=take_all (rs.map fun q=>dot (c0 rs q.2) (sumN (tabI rs) ns j))
          rw [List.length_map] at this
          rw [this]
          exact (stepL_eq rs _).symm
        rw [t1,t2] at hP
        have ll:(sumN (tabI rs) ns (j+1)).length=(ltr rs).length:=by rw [lsn];unfold ltr;rw [List.length_map]
        have lr:(ltr rs).length=rs.length:=by unfold ltr;rw [List.length_map]
        have f6:=s6 _ _ (upd_same (H:=H5) (a:=dw) (o:=.frz ob (.dK (kvw rs))))
        have nDw:D0≠dw:=(ne_of_none f6 hD0).symm
        have f7:(upd H6 D0 (.lst (ps'.map V.ref))) dw=some (.frz ob (.dK (kvw rs))):=upd_in f6 nDw.symm
        have sC:Same H5 (upd (upd H6 D0 (.lst (ps'.map V.ref))) dw (.dK (kvw rs))):=thaw (s6.trans (Same.add hD0)) hw5
        refine ⟨f7,D0,ps',_,rfl,SqL.of (upd_in upd_same nDw),pairs_mono ((TupS.same (Same.add hD0)).trans (thaw_tup f7)) hP,by rw [dkI_keys ll];exact keys_nd hG.nd,by rw [dkI_len ll,lr];omega,fun dn hdn=>?_⟩
        have nel:dn≠l:=(ne_of_none (sC _ _ hTl.top) hdn).symm
        have sD:Same H5 (upd (upd (upd H6 D0 (.lst (ps'.map V.ref))) dw (.dK (kvw rs))) dn (.dK (dkI (ltr rs) (sumN (tabI rs) ns (j+1))))):=sC.trans (Same.add hdn)
        refine ⟨l,_,_,rfl,rfl,sD _ _ hTl.top,small1000 (by rw [ln];omega),ls++[dn],_,rfl,fun c o hc=>?_,?_,?_,?_,?_⟩
        · exact upd_in (sD _ _ (s5 _ _ hc)) (ne_of_none hc nl)
        · exact upd_in (sD _ _ hp5) npl.symm
        · intro z
          rcases List.mem_append.mp z with z | z
          · exact hlo z
          · exact nel (List.mem_singleton.mp z).symm
        · intro x hx
          rcases List.mem_append.mp hx with z | z
          · exact hfr x z
          · rw [List.mem_singleton.mp z]
            exact .inr (s5.free (sC.free hdn))
        · refine ⟨by rw [upd_same,List.map_append];rfl,by rw [List.length_append,hTl.len];rfl,fun i a' e1=>?_⟩
          by_cases hi:i < ls.length
          · rw [List.getElem?_append_left hi] at e1
            exact upd_in (sD _ _ (hTl.at_ i a' e1)) fun z=>hlo (by rw [← z];exact List.mem_of_getElem? e1)
          · rw [List.getElem?_append_right (by omega)] at e1
            cases z:i - ls.length with
            | zero =>
              rw [z] at e1
              cases e1
              have ei:i=j+1:=by have:=hTl.len;omega
              subst ei
              exact upd_in upd_same nel
            | succ n'=>rw [z] at e1;cases e1
    · rintro σ H5 ⟨ls,v3,rfl,s5,hp5,hlo,hfr,hTl⟩
      rw [List.length_reverse,List.length_replicate] at hTl
      exact ⟨_,rfl,k l ls H5 s5 nl hfr hTl⟩
def spSsm:Sp:=fun vs H Q _=>∃ (l dw:Addr) (first:List Nat) (rs:List Rule) (n:Nat),vs=[.ref l]∧Good first rs∧n≤600∧H l=some (.lst (List.replicate (n+1) (V.ref dw)))∧H dw=some (.dK (kvw rs)) ∧
  ∀ lo ls H',Same H H'→H lo=none→(∀ x∈ls,H x=none)→DicsAt H' lo ls rs (lenN rs.length (tabI rs)) (n+1)→Q (.ref lo) H'
theorem scSsm:FnScope ["words"] ["words"] (defScope sSsm):=⟨rfl,rfl,rfl,by decide +kernel,rfl,by decide +kernel,by decide +kernel⟩
theorem nd_ssm1:(["letter"]:List Str).Nodup:=by decide +kernel
theorem ok_ssm {f fLsm:Addr} {fd fdLsm:FuncData} (F:Fun K "size_sums" "size_sums" sSsm f fd)
    (GLsm:FnOk P w K mg base CX0 2 fLsm fdLsm ["words","worths"] spLsm)
    (gLsm:Gf K mg "letter_sums" fLsm fdLsm ["words","worths"])
    (hdict:mg "dict" = none)
    : FnOk P w K mg base CX0 3 f fd ["words"] spSsm:=by
  refine F.ok scSsm (fun vs H Q E h=>?_) (fun cdv A outer s H vs Q E hr h=>?_)
  · obtain ⟨l0,dw,first,rs,n,rfl,_⟩:=h
    rfl
  · obtain ⟨l0,dw,first,rs,n,rfl,hG,hn,h0,hw,k⟩:=h
    have hu:=hu_of hr
    refine ⟨_,(pss_one (ps_ret (pe_call GLsm hr rfl gLsm.m gLsm.k gLsm.b .nil pass0 (pa_cons (pv 0) (pa_cons (pe_callTy (call_dict_pairsK K rfl hu) (by rfl) hdict (by first | exact PySem.boot_dict | decide +kernel) (pa_cons (pe_frz (pe_comp (N':=["letter"]) (ix:=[none]) rfl rfl (pi_dict (pe_ix (ix_listK K) (pv 0) (pe_un un_neg pe_int) (fun _ _=>rfl))) (fun _ _ _ _ _ _=>(pg_name (i:=0) nd_ssm1 rfl (Or.inl rfl))) (fun _ _ _ _ _ _=>pts_nil) (fun _ _ _ _ _ _=>(pe_tup (pa_cons (pv 0) (pa_cons pe_int pa_nil)))))) pa_nil)) pa_nil))))),?_⟩
    have hfew:=hG.few
    have lr:(ltr rs).length=rs.length:=by unfold ltr;rw [List.length_map]
    have nlw:l0≠dw:=fun z=>by rw [z,hw] at h0;cases h0
    refine ⟨_,rfl,dw,kvw rs,hw,fun ob=>?_⟩
    refine ⟨_,rfl,_,rfl,l0,_,_,_,rfl,rfl,SqL.of (upd_in h0 nlw),atI_last (j:=n) (by rw [List.length_replicate]) (by rw [List.getElem?_replicate,if_pos (Nat.lt_succ_self n)]),dw,ob,kvw rs,rfl,upd_same,?_⟩
    have ek:((kvw rs).map fun p=>kV p.1).length=rs.length:=by rw [List.length_map,List.length_map]
    refine comp_allR (τ0:=[none]) (sure_dict (d:=dw) (ob:=ob) (kvs:=kvw rs)) (by rw [ek];omega)
      (fun i ys τ H6=>Same (upd H dw (.frz ob (.dK (kvw rs)))) H6∧(∃ v,τ=[v])∧∃ ps':List Addr,ys=ps'.map V.ref∧ps'.length=i∧PairsAt H6 ps' (dkI ((ltr rs).take i) (List.replicate i 1)))
      ⟨Same.refl _,⟨_,rfl⟩,[],rfl,rfl,.nil⟩ ?_ ?_ ?_
    · rintro i ys τ H6 hi ⟨s6,_,ps',rfl,lp,_⟩
      exact ⟨s6 _ _ upd_same,by rw [List.length_map];omega⟩
    · rintro i x ys τ H6 hx ⟨s6,⟨v,rfl⟩,ps',rfl,lp,hP⟩
      rw [List.map_map,List.getElem?_map] at hx
      cases e1:rs[i]? with
      | none=>rw [e1] at hx;cases hx
      | some q =>
        obtain ⟨c,w'⟩:=q
        rw [e1] at hx
        cases hx
        refine ⟨_,rfl,(by show 2≤sizeLine;decide),fun T hT=>?_⟩
        refine ⟨s6.trans (Same.add hT),⟨_,rfl⟩,ps'++[T],by rw [List.map_append];rfl,by rw [List.length_append,lp];rfl,?_⟩
        have hi:=(List.getElem?_eq_some_iff.mp e1).1
        have h1:(ltr rs)[i]? = some c:=by unfold ltr;rw [List.getElem?_map,e1];rfl
        rw [List.take_add_one,h1,List.replicate_succ']
        show PairsAt _ _ (dkI (_++[c]) _)
        rw [← dkI_snoc (by rw [List.length_replicate,List.length_take];omega)]
        refine pairs_snoc ?_ (pairs_mono (TupS.same (Same.add hT)) hP)
        rw [upd_same]
        rfl
    · rintro ys τ H6 D0 ⟨s6,_,ps',rfl,lp,hP⟩ hD0
      rw [ek] at hP
      rw [List.take_of_length_le (by omega)] at hP
      have ll:(List.replicate rs.length (1:Int)).length=(ltr rs).length:=by rw [List.length_replicate,lr]
      have f6:=s6 _ _ (upd_same (H:=H) (a:=dw) (o:=.frz ob (.dK (kvw rs))))
      have nDw:D0≠dw:=(ne_of_none f6 hD0).symm
      have f7:(upd H6 D0 (.lst (ps'.map V.ref))) dw=some (.frz ob (.dK (kvw rs))):=upd_in f6 nDw.symm
      have sC:Same H (upd (upd H6 D0 (.lst (ps'.map V.ref))) dw (.dK (kvw rs))):=thaw (s6.trans (Same.add hD0)) hw
      refine ⟨f7,D0,ps',_,rfl,SqL.of (upd_in upd_same nDw),pairs_mono ((TupS.same (Same.add hD0)).trans (thaw_tup f7)) hP,by rw [dkI_keys ll];exact keys_nd hG.nd,by rw [dkI_len ll,lr];omega,fun dn hdn=>?_⟩
      have sD:Same H (upd (upd (upd H6 D0 (.lst (ps'.map V.ref))) dw (.dK (kvw rs))) dn (.dK (dkI (ltr rs) (List.replicate rs.length 1)))):=sC.trans (Same.add hdn)
      refine ⟨l0,dw,dn,first,rs,n,_,rfl,hG,hn,sD _ _ h0,sD _ _ hw,upd_same,(ne_of_none (sC _ _ hw) hdn).symm,by rw [List.length_replicate],fun lo ls H8 s8 n8 hfr h8=>?_⟩
      refine k lo ls H8 (sD.trans s8) (sD.free n8) (fun x hx=>?_) ⟨h8.top,h8.len,fun i a e=>?_⟩
      · rcases hfr x hx with z | z
        · rw [z];exact sC.free hdn
        · exact sD.free z
      · rw [lenN_eq]
        exact h8.at_ i a e
def spLns:Sp:=fun vs H Q _=>∃ (t:Addr) (first:List Nat) (rs:List Rule) (n:Nat),vs=[.ref t,.int (n:Int)]∧BookAt H t first rs∧Good first rs∧n≤600 ∧
  ∀ l ls H',Same H H'→H l=none→(∀ x∈ls,H x=none)→DicsAt H' l ls rs (lenN rs.length (tabI rs)) (n+1)→Q (.ref l) H'
theorem scLns:FnScope ["book","age"] ["book","age"] (defScope sLns):=⟨rfl,rfl,rfl,by decide +kernel,rfl,by decide +kernel,by decide +kernel⟩
theorem ok_lns {f fSsm fWba:Addr} {fd fdSsm fdWba:FuncData} (F:Fun K "length_sums" "length_sums" sLns f fd)
    (GSsm:FnOk P w K mg base CX0 3 fSsm fdSsm ["words"] spSsm)
    (gSsm:Gf K mg "size_sums" fSsm fdSsm ["words"])
    (GWba:FnOk P w K mg base CX0 1 fWba fdWba ["book","age"] spWba)
    (gWba:Gf K mg "words_by_age" fWba fdWba ["book","age"])
    : FnOk P w K mg base CX0 4 f fd ["book","age"] spLns:=by
  refine F.ok scLns (fun vs H Q E h=>?_) (fun cdv A outer s H vs Q E hr h=>?_)
  · obtain ⟨t,first,rs,n,rfl,_⟩:=h
    rfl
  · obtain ⟨t,first,rs,n,rfl,hB,hG,hn,k⟩:=h
    have hr1:Room 1 _:=hr.mono (by decide)
    refine ⟨_,(pss_one (ps_ret (pe_call GSsm hr rfl gSsm.m gSsm.k gSsm.b .nil pass0 (pa_cons (pe_call GWba hr1 rfl gWba.m gWba.k gWba.b .nil pass0 (pa_cons (pv 0) (pa_cons (pv 1) pa_nil))) pa_nil)))),?_⟩
    refine ⟨_,rfl,_,rfl,t,first,rs,n,rfl,hB,hG,hn,fun l dw H1 s1 n1 nw e1 ew=>?_⟩
    refine ⟨l,dw,first,rs,n,rfl,hG,hn,e1,ew,fun lo ls H2 s2 n2 hfr h2=>?_⟩
    exact k lo ls H2 (s1.trans s2) (s1.free n2) (fun x hx=>s1.free (hfr x hx)) h2
end
end Lw
namespace Lw
open PySem L2 PyProof.Rows
section
variable {P:Program} {w:World} {K:PySem.W.Frag} {mg:Str→Option Value} {base:Heap}
def spEag:Sp:=fun vs H Q _=>∃ (t:Addr) (first:List Nat) (rs:List Rule) (x:List Nat),vs=[.ref t,tx x]∧BookAt H t first rs∧Good first rs∧x.length≤600∧(∀ c∈x,c∈ltr rs)∧rowN rs x rs.length=[] ∧
  ∀ (n:Nat) H',Same H H'→rowN rs x n=[]→(∀ m,m < n→rowN rs x m≠[])→n≤rs.length→Q (.int (n:Int)) H'
theorem scEag:FnScope ["book","text","sums","age"] ["book","text"] (defScope sEag):=⟨rfl,rfl,rfl,by decide +kernel,rfl,by decide +kernel,by decide +kernel⟩
theorem ok_eag {f fLns fTsm:Addr} {fd fdLns fdTsm:FuncData} (F:Fun K "end_age" "end_age" sEag f fd)
    (GLns:FnOk P w K mg base CX0 4 fLns fdLns ["book","age"] spLns)
    (gLns:Gf K mg "length_sums" fLns fdLns ["book","age"])
    (GTsm:FnOk P w K mg base CX0 1 fTsm fdTsm ["text","worths"] spTsm)
    (gTsm:Gf K mg "text_sum" fTsm fdTsm ["text","worths"])
    (hlen:mg "len" = none)
    : FnOk P w K mg base CX0 5 f fd ["book","text"] spEag:=by
  refine F.ok scEag (fun vs H Q E h=>?_) (fun cdv A outer s H vs Q E hr h=>?_)
  · obtain ⟨t,first,rs,x,rfl,_⟩:=h
    rfl
  · obtain ⟨t,first,rs,x,rfl,hB,hG,hx,hin,hz,k⟩:=h
    have hr1:Room 1 _:=hr.mono (by decide)
    refine ⟨_,(pss_cons (ps_set (i:=2) scEag.nd rfl (Or.inl rfl) (pe_call GLns hr rfl gLns.m gLns.k gLns.b .nil pass0 (pa_cons (pv 0) (pa_cons (pe_callB (call_lenK K) (by rfl) hlen PySem.boot_len (pa_cons (pe_ix (ix_tupK K) (pv 0) pe_int (fun _ _=>rfl)) pa_nil)) pa_nil))))
      (pss_cons (ps_set (i:=3) scEag.nd rfl (Or.inl rfl) pe_int)
      (pss_cons (ps_while PassesOwn.never (pt_cmpR op_gt (pe_call GTsm hr1 rfl gTsm.m gTsm.k gTsm.b .nil pass0 (pa_cons (pv 1) (pa_cons (pe_ix (ix_listK K) (pv 2) (pv 3) (fun _ _=>rfl)) pa_nil))) pe_int (nomark _)) (pss_one (ps_aug (i:=3) scEag.nd rfl (Or.inl rfl) pe_int ip_add)))
      (pss_one (ps_ret (pv 3)))))),?_⟩
    have hfew:=hG.few
    obtain ⟨r,ps,b1,b2,b3⟩:=hB.ex
    have lp:(ps.map V.ref).length=rs.length:=by rw [List.length_map,b3.len]
    refine ⟨_,rfl,_,rfl,t,_,_,_,rfl,rfl,SqT.of b1,atI_nat (j:=1) rfl,r,_,rfl,.inr (SqT.of b2),t,first,rs,rs.length,by rw [lp];rfl,hB,hG,by omega,fun l ls H1 s1 nl hfr hD=>?_⟩
    refine ⟨fun q σ H5=>∃ n:Nat,σ=[some (.ref t),some (tx x),some (.ref l),some (.int (n:Int))]∧q=rs.length - n∧n≤rs.length∧Same H1 H5∧∀ m,m < n→rowN rs x m≠[],⟨_,0,rfl,rfl,Nat.zero_le _,Same.refl _,fun m hm=>absurd hm (Nat.not_lt_zero _)⟩,?_⟩
    rintro q σ H5 ⟨n,rfl,rfl,hn,s5,hne⟩
    have hD5:=hD.mono s5
    obtain ⟨a,ha⟩:∃ a,ls[n]? = some a:=⟨ls[n]'(by rw [hD.len];omega),List.getElem?_eq_getElem _⟩
    have hv:=hD5.at_ n a ha
    refine ⟨_,rfl,_,rfl,_,rfl,l,_,_,_,rfl,rfl,SqL.of hD5.top,atI_nat (by rw [List.getElem?_map,ha];rfl),a,rs,_,x,rfl,hv,lenN_len (tabI_len rs) n,by omega,hin,fun H6 s6=>?_⟩
    rw [sum_size hG n hin]
    refine ⟨_,_,rfl,rfl,_,rfl,?_⟩
    refine ite2 (fun hc=>?_) (fun hc=>?_)
    · have hc':(0:Int) < (((rowN rs x n).length:Nat):Int):=of_decide_eq_true hc
      have hne':rowN rs x n≠[]:=fun z=>by rw [z] at hc';exact absurd hc' (by decide)
      have hlt:n < rs.length:=by
        rcases Nat.lt_or_ge n rs.length with h | h
        · exact h
        · have:n=rs.length:=by omega
          rw [this] at hne'
          exact absurd hz hne'
      refine ⟨fun σ' H'=>σ'=[some (.ref t),some (tx x),some (.ref l),some (.int ((n+1:Nat):Int))]∧Same H1 H',?_,?_⟩
      · rintro σ' H' ⟨rfl,s'⟩
        refine ⟨rs.length - (n+1),by omega,n+1,rfl,rfl,hlt,s',fun m hm=>?_⟩
        by_cases e:m=n
        · rw [e];exact hne'
        · exact hne m (by omega)
      · exact ⟨_,rfl,_,_,rfl,rfl,rfl,s5.trans s6⟩
    · have hnil:rowN rs x n=[]:=by
        cases e:rowN rs x n with
        | nil=>rfl
        | cons a l =>
          refine absurd (decide_eq_true ?_) hc
          rw [e,List.length_cons]
          omega
      exact ⟨_,rfl,k n H6 (s1.trans (s5.trans s6)) hnil hne hn⟩
end
end Lw
namespace Lw
open PySem L2 PyProof.Rows
theorem rowN_add (rs:List Rule) (x:List Nat) (a:Nat):∀ b,rowN rs x (a+b)=rowN rs (rowN rs x a) b
  | 0=>rfl
  | b+1=>by
    show nxt rs (rowN rs x (a+b))=nxt rs (rowN rs (rowN rs x a) b)
    rw [rowN_add rs x a b]
theorem row_some {rs:List Rule} {m:Nat}:∀ {x:List Nat},rowN rs x m≠[]→∃ e∈x,rowN rs [e] m≠[]
  | [],h=>absurd (rowN_nil rs m) h
  | c :: x,h=>by
    rw [rowN_cons] at h
    by_cases h1:rowN rs [c] m=[]
    · rw [h1,List.nil_append] at h
      obtain ⟨e,he,h2⟩:=row_some h
      exact ⟨e,List.mem_cons_of_mem _ he,h2⟩
    · exact ⟨c,List.mem_cons_self,h1⟩
theorem row_has {rs:List Rule} {m e:Nat}:∀ {x:List Nat},e∈x→rowN rs [e] m≠[]→rowN rs x m≠[]
  | [],h,_=>by cases h
  | c :: x,h,h2=>by
    rw [rowN_cons]
    rcases List.mem_cons.mp h with rfl | h
    · exact fun z=>h2 (List.append_eq_nil_iff.mp z).1
    · exact fun z=>row_has h h2 (List.append_eq_nil_iff.mp z).2
theorem row_succ (rs:List Rule) (c m:Nat):rowN rs [c] (m+1)=rowN rs (wd rs c) m:=by rw [rowN_next,nxt_one]
def Zr (rs:List Rule):Nat→Nat→Prop
  | 0,_=>True
  | n+1,c=>¬ Rch rs (wd rs c) c∧∀ e∈wd rs c,Zr rs n e
theorem zr_path {first:List Nat} {rs:List Rule} (hG:Good first rs):∀ k c,c∈ltr rs→Zr rs k c→rowN rs [c] k≠[]→∃ l:List Nat,l.Nodup∧l.length=k+1∧(∀ x∈l,x∈ltr rs)∧∀ x∈l,x=c∨Rch rs (wd rs c) x
  | 0,c,hc,_,_=>⟨[c],by simp,rfl,fun x hx=>by rw [List.mem_singleton.mp hx];exact hc,fun x hx=>.inl (List.mem_singleton.mp hx)⟩
  | k+1,c,hc,hz,hr=>by
    rw [row_succ] at hr
    obtain ⟨e,he,h2⟩:=row_some hr
    have hel:=wd_in hG hc e he
    obtain ⟨l,l1,l2,l3,l4⟩:=zr_path hG k e hel (hz.2 e he) h2
    have hre:Rch rs (wd rs c) e:=⟨0,he⟩
    refine ⟨c :: l,List.nodup_cons.mpr ⟨fun h=>?_,l1⟩,by rw [List.length_cons,l2],fun x hx=>?_,fun x hx=>?_⟩
    · rcases l4 c h with z | z
      · exact hz.1 (by rw [z];rw [z] at hre;exact hre)
      · exact hz.1 (hre.on z)
    · rcases List.mem_cons.mp hx with rfl | h
      · exact hc
      · exact l3 x h
    · rcases List.mem_cons.mp hx with rfl | h
      · exact .inl rfl
      · rcases l4 x h with rfl | z
        · exact .inr hre
        · exact .inr (hre.on z)
theorem zr_dead {first:List Nat} {rs:List Rule} (hG:Good first rs) {c:Nat} (hc:c∈ltr rs) (hz:Zr rs rs.length c):rowN rs [c] rs.length=[]:=by
  by_cases h:rowN rs [c] rs.length=[]
  · exact h
  · obtain ⟨l,l1,l2,l3,_⟩:=zr_path hG rs.length c hc hz h
    have:=nd_len l1 l3
    rw [l2,ltr_len] at this
    omega
theorem ring_alive {rs:List Rule} {c p:Nat} (h:c∈rowN rs [c] (p+1)):∀ n m,m≤n→rowN rs [c] m≠[]
  | 0,m,hm,z=>by
    have:m=0:=by omega
    subst this
    cases z
  | n+1,m,hm,z=>by
    by_cases hp:m≤p+1
    · have e:p+1=m+(p+1 - m):=by omega
      rw [e,rowN_add,z,rowN_nil] at h
      cases h
    · have e:m=(p+1)+(m - (p+1)):=by omega
      rw [e,rowN_add] at z
      exact row_has h (ring_alive h n (m - (p+1)) (by omega)) z
theorem rg_self {first:List Nat} {rs:List Rule} (hG:Good first rs) {c:Nat} (hc:c∈ltr rs):c∈rg rs c ↔ Rch rs (wd rs c) c:=by
  rw [rg_mem hG hc]
  exact ⟨fun h=>h.1,fun h=>⟨h,h⟩⟩
theorem rg_mut {first:List Nat} {rs:List Rule} (hG:Good first rs) {c e:Nat} (hc:c∈ltr rs) (he:e∈ltr rs) (h:Mut rs c e):rg rs e=rg rs c :=
  rise_eq (rg_rise hG e) (rg_rise hG c) fun d=>by
    rw [rg_mem hG hc,rg_mem hG he]
    exact ⟨fun z=>⟨h.1.on z.1,z.2.on h.2⟩,fun z=>⟨h.2.on z.1,z.2.on h.1⟩⟩
theorem rg_mut_self {first:List Nat} {rs:List Rule} (hG:Good first rs) {c e:Nat} (hc:c∈ltr rs) (h:e∈rg rs c):c∈rg rs c:=by
  have h1:=(rg_mem hG hc).mp h
  exact (rg_mem hG hc).mpr ⟨h1.1.on h1.2,h1.1.on h1.2⟩
theorem hds_mem {first:List Nat} {rs:List Rule} (hG:Good first rs) {c:Nat} (h:c∈hds rs):c∈ltr rs∧c∈rg rs c:=by
  obtain ⟨h1,h2⟩:=List.mem_filter.mp h
  refine ⟨h1,?_⟩
  have h3:=of_decide_eq_true h2
  exact List.mem_of_mem_take (by rw [h3];exact List.mem_cons_self)
theorem rg_head {first:List Nat} {rs:List Rule} (hG:Good first rs) {c:Nat} (hc:c∈ltr rs) (h:c∈rg rs c):∃ e,e∈hds rs∧e∈rg rs c∧rg rs e=rg rs c:=by
  cases hr:rg rs c with
  | nil=>rw [hr] at h;cases h
  | cons e l =>
    have he:e∈rg rs c:=by rw [hr];exact List.mem_cons_self
    have hel:=rg_inl he
    have hm:=(rg_mem hG hc).mp he
    have eq:=rg_mut hG hc hel hm
    refine ⟨e,List.mem_filter.mpr ⟨hel,decide_eq_true ?_⟩,List.mem_cons_self,eq.trans hr⟩
    rw [eq,hr]
    rfl
open Classical in
noncomputable def rchB (rs:List Rule) (x:List Nat) (c:Nat):Bool:=decide (Rch rs x c)
open Classical in
theorem rchB_iff {rs:List Rule} {x:List Nat} {c:Nat}:rchB rs x c=true ↔ Rch rs x c:=decide_eq_true_iff
theorem rchB_no {rs:List Rule} {x:List Nat} {c:Nat} (h:¬ Rch rs x c):rchB rs x c=false:=by
  cases e:rchB rs x c with
  | false=>rfl
  | true=>exact absurd (rchB_iff.mp e) h
noncomputable def mt (rs:List Rule) (x:List Nat):List Nat:=(hds rs).filter (rchB rs x)
theorem mt_mem {rs:List Rule} {x:List Nat} {c:Nat}:c∈mt rs x ↔ c∈hds rs∧Rch rs x c:=by
  unfold mt
  rw [List.mem_filter,rchB_iff]
theorem ring_met {first:List Nat} {rs:List Rule} (hG:Good first rs) {x:List Nat} {c:Nat} (hc:c∈ltr rs) (h1:Rch rs x c) (h2:Rch rs (wd rs c) c):∃ e,e∈mt rs x∧e∈rg rs c∧rg rs e=rg rs c:=by
  obtain ⟨e,he1,he2,he3⟩:=rg_head hG hc ((rg_self hG hc).mpr h2)
  exact ⟨e,mt_mem.mpr ⟨he1,h1.on ((rg_mem hG hc).mp he2).1⟩,he2,he3⟩
theorem mt_zr {first:List Nat} {rs:List Rule} (hG:Good first rs) {x:List Nat} (hx:∀ c∈x,c∈ltr rs) (h:mt rs x=[]):∀ k c,Rch rs x c→Zr rs k c
  | 0,_,_=>trivial
  | k+1,c,hc=>by
    refine ⟨fun z=>?_,fun e he=>mt_zr hG hx h k e (hc.step he)⟩
    obtain ⟨e,he,_⟩:=ring_met hG (Rch.inl hG hx hc) hc z
    rw [h] at he
    cases he
theorem mt_dead {first:List Nat} {rs:List Rule} (hG:Good first rs) {x:List Nat} (hx:∀ c∈x,c∈ltr rs) (h:mt rs x=[]):rowN rs x rs.length=[]:=by
  by_cases z:rowN rs x rs.length=[]
  · exact z
  · obtain ⟨e,he,h2⟩:=row_some z
    exact absurd (zr_dead hG (hx e he) (mt_zr hG hx h _ e ⟨0,he⟩)) h2
theorem mt_alive {first:List Nat} {rs:List Rule} (hG:Good first rs) {x:List Nat} (h:mt rs x≠[]) (m:Nat):rowN rs x m≠[]:=by
  obtain ⟨c,hc⟩:=List.exists_mem_of_ne_nil _ h
  obtain ⟨h1,k,hk⟩:=mt_mem.mp hc
  obtain ⟨h3,h4⟩:=hds_mem hG h1
  obtain ⟨p,hp⟩:=(rg_self hG h3).mp h4
  rw [← row_succ] at hp
  have ha:=ring_alive hp m m (Nat.le_refl _)
  have hb:=row_has hk ha
  rw [← rowN_add] at hb
  intro z
  rw [Nat.add_comm,rowN_add,z,rowN_nil] at hb
  exact hb rfl
def smp (rs:List Rule) (ys:List Nat):Bool:=ys.all fun c=>decide (((wd rs c).filter fun e=>decide (e∈ys)).length=1)
def lcms (ns:List Nat):Nat:=ns.foldl Nat.lcm 1
def KindOf (rs:List Rule) (x:List Nat) (vs:List V):Prop :=
  (mt rs x=[]∧∃ n:Nat,rowN rs x n=[]∧(∀ m,m < n→rowN rs x m≠[])∧n≤rs.length∧vs=[.str (Str.ofString "dies"),.int (n:Int)]) ∨
  (mt rs x≠[]∧(mt rs x).all (fun c=>smp rs (rg rs c))=false∧vs=[.str (Str.ofString "doubles")]) ∨
  (mt rs x≠[]∧(mt rs x).all (fun c=>smp rs (rg rs c))=true∧vs=[.str (Str.ofString "powers"),.int (((lmax (x.map (dep rs rs.length)):Nat):Int) - 1),.int ((lcms ((mt rs x).map fun c=>(rg rs c).length):Nat):Int)])
end Lw
namespace Lw
open PySem L2 PyProof.Rows
theorem ge_lcm (m n:Nat):((m:Int) * (n:Int)) / ((Nat.gcd m n:Nat):Int)=((Nat.lcm m n:Nat):Int):=by
  rw [← Int.natCast_mul,← Int.natCast_ediv]
  rfl
theorem lcms_snoc (ns:List Nat) (n:Nat):lcms (ns++[n])=Nat.lcm (lcms ns) n:=by
  unfold lcms
  rw [List.foldl_append]
  rfl
section
variable {P:Program} {w:World} {K:PySem.W.Frag} {mg:Str→Option Value} {base:Heap}
def spIns:Sp:=fun vs H Q _=>∃ (x ys:List Nat),vs=[tx x,tx ys]∧x.length≤1000∧∀ D H',Same H H'→H D=none→H' D=some (.lst ((x.filter fun c=>decide (c∈ys)).map sign))→Q (.ref D) H'
theorem scIns:FnScope ["text","ring"] ["text","ring"] (defScope sIns):=⟨rfl,rfl,rfl,by decide +kernel,rfl,by decide +kernel,by decide +kernel⟩
theorem nd_ins1:(["letter","ring"]:List Str).Nodup:=by decide +kernel
theorem ok_ins {f:Addr} {fd:FuncData} (F:Fun K "inside" "inside" sIns f fd)
    : FnOk P w K mg base CX0 1 f fd ["text","ring"] spIns:=by
  refine F.ok scIns (fun vs H Q E h=>?_) (fun cdv A outer s H vs Q E hr h=>?_)
  · obtain ⟨x,ys,rfl,_⟩:=h
    rfl
  · obtain ⟨x,ys,rfl,hx,k⟩:=h
    refine ⟨_,(pss_one (ps_ret (pe_comp (N':=["letter","ring"]) (ix:=[none,some 1]) rfl rfl (pi_str (pv 0)) (fun _ _ _ _ _ _=>(pg_name (i:=0) nd_ins1 rfl (Or.inl rfl))) (fun _ _ _ _ _ _=>(pts_one (pt_cmpR op_in_str (pv 0) (pv 1) (by rfl)))) (fun _ _ _ _ _ _=>(pv 0))))),?_⟩
    refine ⟨_,rfl,⟨x.toArray⟩,rfl,?_⟩
    have ew:((⟨x.toArray⟩:Str).cps.toList.map sign).length=x.length:=by simp
    refine comp_byR (τ0:=[none,some (tx ys)]) (sure_str (x:=⟨x.toArray⟩)) (by rw [ew];omega) (fun i us τ H6=>H6=H∧(∃ v,τ=[v,some (tx ys)])∧us=((x.take i).filter fun c=>decide (c∈ys)).map sign) ⟨rfl,⟨_,rfl⟩,rfl⟩ ?_ ?_ ?_
    · rintro i us τ H6 hi ⟨rfl,_,rfl⟩
      refine ⟨trivial,?_⟩
      rw [List.length_map]
      refine Nat.le_trans (List.length_filter_le _ _) ?_
      rw [List.length_take]
      omega
    · rintro i y us τ H6 hy ⟨rfl,⟨v,rfl⟩,rfl⟩
      have hy':(x.map sign)[i]? = some y:=hy
      rw [List.getElem?_map] at hy'
      cases e:x[i]? with
      | none=>rw [e] at hy';cases hy'
      | some b =>
        rw [e] at hy'
        cases hy'
        refine ⟨_,rfl,_,rfl,_,_,rfl,rfl,_,rfl,?_⟩
        have e9:(!(Builtin.Str.occurrences ⟨ys.toArray⟩ ⟨#[b]⟩ 0 (⟨ys.toArray⟩:Str).length 1).isEmpty)=decide (b∈ys):=occ_mem ys b
        rw [e9,List.take_add_one,e,List.filter_append]
        by_cases hm:b∈ys
        · rw [decide_eq_true hm]
          refine iteT ⟨_,rfl,rfl,⟨_,rfl⟩,?_⟩
          rw [filt_in (decide_eq_true hm),List.map_append]
          rfl
        · rw [decide_eq_false hm]
          refine iteF ⟨rfl,⟨_,rfl⟩,?_⟩
          rw [filt_out (decide_eq_false hm),List.append_nil]
    · rintro us τ H6 D ⟨rfl,_,rfl⟩ hD
      rw [ew,List.take_length]
      exact k D _ (Same.add hD) hD upd_same
def spIsi:Sp:=fun vs H Q _=>∃ (t:Addr) (first:List Nat) (rs:List Rule) (ys:List Nat),vs=[.ref t,tx ys]∧BookAt H t first rs∧Good first rs∧ys.length≤8∧(∀ c∈ys,c∈ltr rs)∧∀ H',Same H H'→Q (.bl (smp rs ys)) H'
theorem scIsi:FnScope ["book","ring","words"] ["book","ring"] (defScope sIsi):=⟨rfl,rfl,rfl,by decide +kernel,rfl,by decide +kernel,by decide +kernel⟩
theorem nd_isi1:(["letter","words","ring"]:List Str).Nodup:=by decide +kernel
theorem ok_isi {f fIns:Addr} {fd fdIns:FuncData} (F:Fun K "is_simple" "is_simple" sIsi f fd)
    (GIns:FnOk P w K mg base CX0 1 fIns fdIns ["text","ring"] spIns)
    (gIns:Gf K mg "inside" fIns fdIns ["text","ring"])
    (hlen:mg "len" = none)
    (hdict:mg "dict" = none)
    (hall:mg "all" = none)
    : FnOk P w K mg base CX0 2 f fd ["book","ring"] spIsi:=by
  refine F.ok scIsi (fun vs H Q E h=>?_) (fun cdv A outer s H vs Q E hr h=>?_)
  · obtain ⟨t,first,rs,ys,rfl,_⟩:=h
    rfl
  · obtain ⟨t,first,rs,ys,rfl,hB,hG,h8,hin,k⟩:=h
    have hu:=hu_of hr
    refine ⟨_,(pss_cons (ps_set (i:=2) scIsi.nd rfl (Or.inr rfl) (pe_callTy (call_dict_tup rfl) (by rfl) hdict (by first | exact PySem.boot_dict | decide +kernel) (pa_cons (pe_ix (ix_tupK K) (pv 0) pe_int (fun _ _=>rfl)) pa_nil)))
      (pss_one (ps_ret (pe_callB (call_all_boolsK K rfl) (by rfl) hall (show bootBuiltins "all" = some (.builtin "all") by decide +kernel) (pa_cons (pe_comp (N':=["letter","words","ring"]) (ix:=[none,some 2,some 1]) rfl rfl (pi_str (pv 1)) (fun _ _ _ _ _ _=>(pg_name (i:=0) nd_isi1 rfl (Or.inl rfl))) (fun _ _ _ _ _ _=>pts_nil) (fun _ _ _ _ _ _=>(pe_cmpR op_eq (pe_callB (call_lenK K) (by rfl) hlen PySem.boot_len (pa_cons (pe_call GIns hr rfl gIns.m gIns.k gIns.b .nil pass0 (pa_cons (pe_dget hu (pv 1) (pv 0) (fun _ _=>rfl)) (pa_cons (pv 2) pa_nil))) pa_nil)) pe_int (nomark _)))) pa_nil))))),?_⟩
    have hfew:=hG.few
    obtain ⟨r,ps,b1,b2,b3⟩:=hB.ex
    refine ⟨_,rfl,t,_,_,_,rfl,rfl,SqT.of b1,atI_nat (j:=1) rfl,r,ps,kvw rs,rfl,b2,kvw_pairs b3,by rw [kvw_keys];exact keys_nd hG.nd,by rw [List.length_map];omega,fun dw ndw=>?_⟩
    have s1:=Same.add (o:=.dK (kvw rs)) ndw
    have hd:upd H dw (.dK (kvw rs)) dw=some (.dK (kvw rs)):=upd_same
    revert s1 hd
    generalize upd H dw (.dK (kvw rs))=H1
    intro s1 hd
    have ew:((⟨ys.toArray⟩:Str).cps.toList.map sign).length=ys.length:=by simp
    refine ⟨_,rfl,⟨ys.toArray⟩,rfl,?_⟩
    refine comp_allR (τ0:=[none,some (.ref dw),some (tx ys)]) (sure_str (x:=⟨ys.toArray⟩)) (by rw [ew];omega)
      (fun i us τ H2=>Same H1 H2∧(∃ v,τ=[v,some (.ref dw),some (tx ys)])∧us=((ys.take i).map fun c=>decide (((wd rs c).filter fun e=>decide (e∈ys)).length=1)).map V.bl) ⟨Same.refl _,⟨_,rfl⟩,rfl⟩ ?_ ?_ ?_
    · rintro i us τ H2 hi ⟨s2,_,rfl⟩
      refine ⟨trivial,?_⟩
      rw [List.length_map,List.length_map,List.length_take]
      omega
    · rintro i y us τ H2 hy ⟨s2,⟨v,rfl⟩,rfl⟩
      have hy':(ys.map sign)[i]? = some y:=hy
      rw [List.getElem?_map] at hy'
      cases e:ys[i]? with
      | none=>rw [e] at hy';cases hy'
      | some c =>
        rw [e] at hy'
        cases hy'
        have hc:=hin c (List.mem_of_getElem? e)
        have hw6:=wd_le hG hc
        have hga:=DGet.k (k:=(Sum.inr (one c):Key)) (s2 _ _ hd)
        rw [kvw_wd hG.nd hc] at hga
        refine ⟨_,rfl,_,rfl,dw,_,rfl,hga,_,rfl,wd rs c,ys,rfl,by omega,fun D H3 s3 nD hD=>?_⟩
        refine ⟨D,_,rfl,.inl (SqL.of hD),rfl,s2.trans s3,⟨_,rfl⟩,?_⟩
        rw [take_snoc (fun c=>decide (((wd rs c).filter fun e=>decide (e∈ys)).length=1)) e,List.map_append]
        congr 1
        show [V.bl (decide (V.int ((((wd rs c).filter fun e=>decide (e∈ys)).map sign).length:Int)=V.int 1))]=[V.bl (decide (((wd rs c).filter fun e=>decide (e∈ys)).length=1))]
        congr 2
        rw [List.length_map]
        exact decide_eq_decide.mpr ⟨fun z=>by injection z with z;omega,fun z=>by rw [z];rfl⟩
    · rintro us τ H2 D ⟨s2,_,rfl⟩ hD
      rw [ew,take_all]
      refine ⟨D,_,rfl,SqL.of upd_same,?_⟩
      have e2:(ys.map fun c=>decide (((wd rs c).filter fun e=>decide (e∈ys)).length=1)).all id=smp rs ys:=by rw [List.all_map];rfl
      rw [e2]
      exact k _ (s1.trans (s2.trans (Same.add hD)))
def spCdv:Sp:=fun vs H Q _=>∃ (a b:Nat),vs=[.int (a:Int),.int (b:Int)]∧Q (.int ((Nat.gcd a b:Nat):Int)) H
theorem scCdv:FnScope ["one","other","rest"] ["one","other"] (defScope sCdv):=⟨rfl,rfl,rfl,by decide +kernel,rfl,by decide +kernel,by decide +kernel⟩
theorem ok_cdv {f:Addr} {fd:FuncData} (F:Fun K "common_divisor" "common_divisor" sCdv f fd)
    : FnOk P w K mg base CX0 1 f fd ["one","other"] spCdv:=by
  refine F.ok scCdv (fun vs H Q E h=>?_) (fun cdv A outer s H vs Q E hr h=>?_)
  · obtain ⟨a,b,rfl,_⟩:=h
    rfl
  · obtain ⟨a,b,rfl,k⟩:=h
    refine ⟨_,(pss_cons (ps_while PassesOwn.never (pt_cmpR op_gt (pv 1) pe_int (nomark _)) (pss_cons (ps_set (i:=2) scCdv.nd rfl (Or.inl rfl) (pe_op op_mod (pv 0) (pv 1)))
      (pss_cons (ps_set (i:=0) scCdv.nd rfl (Or.inl rfl) (pv 1))
      (pss_one (ps_set (i:=1) scCdv.nd rfl (Or.inl rfl) (pv 2))))))
      (pss_one (ps_ret (pv 0)))),?_⟩
    refine ⟨fun q σ H5=>∃ (m n:Nat) (v:Option V),σ=[some (.int (m:Int)),some (.int (n:Int)),v]∧n=q∧H5=H∧Nat.gcd m n=Nat.gcd a b,⟨_,a,b,_,rfl,rfl,rfl,rfl⟩,?_⟩
    rintro q σ H5 ⟨m,n,v,rfl,rfl,rfl,hg⟩
    refine ⟨_,rfl,_,_,rfl,rfl,_,rfl,?_⟩
    refine ite2 (fun hc=>?_) (fun hc=>?_)
    · have hc':(0:Int) < (n:Int):=of_decide_eq_true hc
      refine ⟨fun σ' H'=>σ'=[some (.int (n:Int)),some (.int ((m % n:Nat):Int)),some (.int ((m % n:Nat):Int))]∧H'=H5,?_,?_⟩
      · rintro σ' H' ⟨rfl,rfl⟩
        exact ⟨m % n,Nat.mod_lt _ (by omega),n,m % n,_,rfl,rfl,rfl,by rw [← hg,Nat.gcd_comm m n,Nat.gcd_rec n m,Nat.gcd_comm n]⟩
      · exact ⟨_,rfl,_,rfl,_,_,rfl,rfl,hc',_,rfl,_,rfl,rfl,rfl⟩
    · have h0:n=0:=by
        by_cases z:n=0
        · exact z
        · exact absurd (decide_eq_true (show (0:Int) < (n:Int) by omega)) hc
      rw [h0,Nat.gcd_zero_right] at hg
      refine ⟨_,rfl,?_⟩
      rw [hg]
      exact k
def spCml:Sp:=fun vs H Q _=>∃ (l:Addr) (ns:List Nat),vs=[.ref l]∧H l=some (.lst (ns.map fun n=>V.int ((n:Nat):Int)))∧(∀ n∈ns,1≤n∧n≤1000)∧Q (.int ((lcms ns:Nat):Int)) H
theorem scCml:FnScope ["numbers","told","number"] ["numbers"] (defScope sCml):=⟨rfl,rfl,rfl,by decide +kernel,rfl,by decide +kernel,by decide +kernel⟩
theorem ok_cml {f fCdv:Addr} {fd fdCdv:FuncData} (F:Fun K "common_multiple" "common_multiple" sCml f fd)
    (GCdv:FnOk P w K mg base CX0 1 fCdv fdCdv ["one","other"] spCdv)
    (gCdv:Gf K mg "common_divisor" fCdv fdCdv ["one","other"])
    : FnOk P w K mg base CX0 2 f fd ["numbers"] spCml:=by
  refine F.ok scCml (fun vs H Q E h=>?_) (fun cdv A outer s H vs Q E hr h=>?_)
  · obtain ⟨l,ns,rfl,_⟩:=h
    rfl
  · obtain ⟨l,ns,rfl,hl,hn,k⟩:=h
    refine ⟨_,(pss_cons (ps_set (i:=1) scCml.nd rfl (Or.inl rfl) pe_int)
      (pss_cons (ps_for PassesOwn.never rfl (pi_listK K (pv 0)) (pg_name (i:=2) scCml.nd rfl (Or.inl rfl)) (pss_one (ps_set (i:=1) scCml.nd rfl (Or.inl rfl) (pe_op op_fdiv (pe_op op_mul (pv 1) (pv 2)) (pe_call GCdv hr rfl gCdv.m gCdv.k gCdv.b .nil pass0 (pa_cons (pv 1) (pa_cons (pv 2) pa_nil)))))))
      (pss_one (ps_ret (pv 1))))),?_⟩
    refine ⟨_,rfl,l,rfl,⟨_,SqL.of hl⟩,?_⟩
    refine for_by (sure_list (xs:=ns.map fun n=>V.int ((n:Nat):Int))) (fun i σ H5=>H5=H∧∃ v,σ=[some (.ref l),some (.int ((lcms (ns.take i):Nat):Int)),v]) ⟨rfl,_,rfl⟩ ?_ ?_ ?_
    · rintro i σ H5 hi ⟨rfl,_⟩
      exact SqL.of hl
    · rintro i x σ H5 hx ⟨rfl,v,rfl⟩
      rw [List.getElem?_map] at hx
      cases e:ns[i]? with
      | none=>rw [e] at hx;cases hx
      | some n =>
        rw [e] at hx
        cases hx
        obtain ⟨n1,n2⟩:=hn n (List.mem_of_getElem? e)
        have g1:Nat.gcd (lcms (ns.take i)) n≤n:=Nat.gcd_le_right _ (by omega)
        have g0:0 < Nat.gcd (lcms (ns.take i)) n:=Nat.gcd_pos_of_pos_right _ (by omega)
        refine ⟨_,rfl,_,rfl,_,_,rfl,rfl,.inr ⟨by omega,by omega⟩,_,rfl,_,rfl,lcms (ns.take i),n,rfl,_,_,rfl,rfl,⟨by omega,by omega⟩,rfl,some (.int (n:Int)),?_⟩
        show [some (V.ref l),some (V.int (((lcms (ns.take i):Nat):Int) * (n:Int) / ((Nat.gcd (lcms (ns.take i)) n:Nat):Int))),some (V.int (n:Int))]=_
        rw [ge_lcm,List.take_add_one,e]
        show _=[_,some (V.int ((lcms (ns.take i++[n]):Nat):Int)),_]
        rw [lcms_snoc]
    · rintro σ H5 ⟨rfl,v,rfl⟩
      rw [List.length_map,List.take_length]
      exact ⟨_,rfl,k⟩
end
end Lw
namespace Lw
open PySem L2 PyProof.Rows
theorem head_of {l:List Nat} {c:Nat} (h:l.take 1=[c]):l[0]? = some c:=by
  cases l with
  | nil=>cases h
  | cons a l =>
    have:=(List.cons.inj h).1
    rw [this]
    rfl
theorem hds_head {rs:List Rule} {c:Nat} (h:c∈hds rs):c∈ltr rs∧(rg rs c)[0]? = some c:=by
  obtain ⟨h1,h2⟩:=List.mem_filter.mp h
  exact ⟨h1,head_of (of_decide_eq_true h2)⟩
theorem hds_len {first:List Nat} {rs:List Rule} (hG:Good first rs):(hds rs).length≤8:=by
  refine Nat.le_trans (List.length_filter_le _ _) ?_
  rw [ltr_len]
  exact hG.few
theorem mt_len {first:List Nat} {rs:List Rule} (hG:Good first rs) (x:List Nat):(mt rs x).length≤8:=Nat.le_trans (List.length_filter_le _ _) (hds_len hG)
section
variable {P:Program} {w:World} {K:PySem.W.Frag} {mg:Str→Option Value} {base:Heap}
def spTki:Sp:=fun vs H Q _=>∃ (t:Addr) (first:List Nat) (rs:List Rule) (x:List Nat),vs=[.ref t,tx x]∧BookAt H t first rs∧Good first rs∧x.length≤600∧(∀ c∈x,c∈ltr rs) ∧
  ∀ T us H',Same H H'→H T=none→H' T=some (.tup us)→KindOf rs x us→Q (.ref T) H'
theorem scTki:FnScope ["book","text","met","depths"] ["book","text"] (defScope sTki):=⟨rfl,rfl,rfl,by decide +kernel,rfl,by decide +kernel,by decide +kernel⟩
theorem nd_tki1:(["ring","book","text"]:List Str).Nodup:=by decide +kernel
theorem nd_tki2:(["ring","book"]:List Str).Nodup:=by decide +kernel
theorem nd_tki3:(["letter","depths"]:List Str).Nodup:=by decide +kernel
theorem nd_tki4:(["ring"]:List Str).Nodup:=by decide +kernel
theorem ok_tki {f fRds fCml fRgs fEag fSpr fIsi:Addr} {fd fdRds fdCml fdRgs fdEag fdSpr fdIsi:FuncData} (F:Fun K "text_kind" "text_kind" sTki f fd)
    (GRds:FnOk P w K mg base CX0 4 fRds fdRds ["book"] spRds)
    (gRds:Gf K mg "ring_depths" fRds fdRds ["book"])
    (GCml:FnOk P w K mg base CX0 2 fCml fdCml ["numbers"] spCml)
    (gCml:Gf K mg "common_multiple" fCml fdCml ["numbers"])
    (GRgs:FnOk P w K mg base CX0 3 fRgs fdRgs ["book"] spRgs)
    (gRgs:Gf K mg "rings" fRgs fdRgs ["book"])
    (GEag:FnOk P w K mg base CX0 5 fEag fdEag ["book","text"] spEag)
    (gEag:Gf K mg "end_age" fEag fdEag ["book","text"])
    (GSpr:FnOk P w K mg base CX0 1 fSpr fdSpr ["book","text"] spSpr)
    (gSpr:Gf K mg "spread" fSpr fdSpr ["book","text"])
    (GIsi:FnOk P w K mg base CX0 2 fIsi fdIsi ["book","ring"] spIsi)
    (gIsi:Gf K mg "is_simple" fIsi fdIsi ["book","ring"])
    (hlen:mg "len" = none)
    (hmax:mg "max" = none)
    (hall:mg "all" = none)
    : FnOk P w K mg base CX0 6 f fd ["book","text"] spTki:=by
  refine F.ok scTki (fun vs H Q E h=>?_) (fun cdv A outer s H vs Q E hr h=>?_)
  · obtain ⟨t,first,rs,x,rfl,_⟩:=h
    rfl
  · obtain ⟨t,first,rs,x,rfl,hB,hG,hx,hin,k⟩:=h
    have hr1:Room 1 _:=hr.mono (by decide)
    have hr2:Room 2 _:=hr.mono (by decide)
    have hr3:Room 3 _:=hr.mono (by decide)
    have hr4:Room 4 _:=hr.mono (by decide)
    have hu:=hu_of hr
    refine ⟨_,(pss_cons (ps_setC (i:=2) (N':=["ring","book","text"]) (ix:=[none,some 0,some 1]) scTki.nd rfl rfl rfl rfl (pi_listK K (pe_call GRgs hr3 rfl gRgs.m gRgs.k gRgs.b .nil pass0 (pa_cons (pv 0) pa_nil))) (fun _ _ _ _ _ _=>(pg_name (i:=0) nd_tki1 rfl (Or.inl rfl))) (fun _ _ _ _ _ _=>(pts_one (pt_cmpR op_in_str (pe_ix ix_str (pv 0) pe_int (fun _ _=>rfl)) (pe_call GSpr hr1 rfl gSpr.m gSpr.k gSpr.b .nil pass0 (pa_cons (pv 1) (pa_cons (pv 2) pa_nil))) (by rfl)))) (fun _ _ _ _ _ _=>(pv 0)))
      (pss_cons (ps_if (pt_not (pt_truthK K (pv 2) (fun _=>rfl))) (pss_one (ps_ret (pe_tup (pa_cons pe_str (pa_cons (pe_call GEag hr rfl gEag.m gEag.k gEag.b .nil pass0 (pa_cons (pv 0) (pa_cons (pv 1) pa_nil))) pa_nil))))) pss_nil)
      (pss_cons (ps_if (pt_not (pt_val (pe_callB (call_all_boolsK K rfl) (by rfl) hall (show bootBuiltins "all" = some (.builtin "all") by decide +kernel) (pa_cons (pe_comp (N':=["ring","book"]) (ix:=[none,some 0]) rfl rfl (pi_listK K (pv 2)) (fun _ _ _ _ _ _=>(pg_name (i:=0) nd_tki2 rfl (Or.inl rfl))) (fun _ _ _ _ _ _=>pts_nil) (fun _ _ _ _ _ _=>(pe_call GIsi hr2 rfl gIsi.m gIsi.k gIsi.b .nil pass0 (pa_cons (pv 1) (pa_cons (pv 0) pa_nil))))) pa_nil)))) (pss_one (ps_ret (pe_tup (pa_cons pe_str pa_nil)))) pss_nil)
      (pss_cons (ps_set (i:=3) scTki.nd rfl (Or.inr rfl) (pe_call GRds hr4 rfl gRds.m gRds.k gRds.b .nil pass0 (pa_cons (pv 0) pa_nil)))
      (pss_one (ps_ret (pe_tup (pa_cons pe_str (pa_cons (pe_op op_sub (pe_callB (call_max1K K rfl) (by rfl) hmax (show bootBuiltins "max" = some (.builtin "max") by decide +kernel) (pa_cons (pe_comp (N':=["letter","depths"]) (ix:=[none,some 3]) rfl rfl (pi_str (pv 1)) (fun _ _ _ _ _ _=>(pg_name (i:=0) nd_tki3 rfl (Or.inl rfl))) (fun _ _ _ _ _ _=>pts_nil) (fun _ _ _ _ _ _=>(pe_dget hu (pv 1) (pv 0) (fun _ _=>rfl)))) pa_nil)) pe_int) (pa_cons (pe_call GCml hr2 rfl gCml.m gCml.k gCml.b .nil pass0 (pa_cons (pe_comp (N':=["ring"]) (ix:=[none]) rfl rfl (pi_listK K (pv 2)) (fun _ _ _ _ _ _=>(pg_name (i:=0) nd_tki4 rfl (Or.inl rfl))) (fun _ _ _ _ _ _=>pts_nil) (fun _ _ _ _ _ _=>(pe_callB call_len_str (by rfl) hlen PySem.boot_len (pa_cons (pv 0) pa_nil)))) pa_nil)) pa_nil)))))))))),?_⟩
    have hfew:=hG.few
    have h8:=hds_len hG
    have m8:=mt_len hG x
    refine ⟨_,rfl,t,first,rs,rfl,hB,hG,fun L H1 s1 nL hL=>?_⟩
    refine ⟨L,rfl,⟨_,SqL.of hL⟩,?_⟩
    refine comp_byR (τ0:=[none,some (.ref t),some (tx x)]) (sure_list (xs:=(hds rs).map fun c=>tx (rg rs c))) (by rw [List.length_map];omega) (fun i us τ H6=>Same H1 H6∧(∃ v,τ=[v,some (.ref t),some (tx x)])∧us=(((hds rs).take i).filter (rchB rs x)).map fun c=>tx (rg rs c)) ⟨Same.refl _,⟨_,rfl⟩,rfl⟩ ?_ ?_ ?_
    · rintro i us τ H6 hi ⟨s6,_,rfl⟩
      refine ⟨SqL.of (s6 _ _ hL),?_⟩
      rw [List.length_map]
      refine Nat.le_trans (List.length_filter_le _ _) ?_
      rw [List.length_take]
      omega
    · rintro i y us τ H6 hy ⟨s6,⟨v,rfl⟩,rfl⟩
      rw [List.getElem?_map] at hy
      cases e:(hds rs)[i]? with
      | none=>rw [e] at hy;cases hy
      | some c =>
        rw [e] at hy
        cases hy
        obtain ⟨hc,hh⟩:=hds_head (List.mem_of_getElem? e)
        have r8:=rg_len hG c
        refine ⟨_,rfl,⟨(rg rs c).toArray⟩,_,c,rfl,rfl,szl (show (rg rs c).length≤1000 by omega),atI_nat (j:=0) hh,_,rfl,_,rfl,t,first,rs,x,rfl,hB.mono (TupS.same (s1.trans s6)),hG,by omega,hin,fun zs H7 s7 _ hzm=>⟨_,_,rfl,rfl,_,rfl,?_⟩⟩
        have e9:(!(Builtin.Str.occurrences ⟨zs.toArray⟩ ⟨#[c]⟩ 0 (⟨zs.toArray⟩:Str).length 1).isEmpty)=decide (c∈zs):=occ_mem zs c
        rw [e9,List.take_add_one,e,List.filter_append]
        by_cases hm:c∈zs
        · rw [decide_eq_true hm]
          refine iteT ⟨_,rfl,s6.trans s7,⟨_,rfl⟩,?_⟩
          rw [filt_in (rchB_iff.mpr ((hzm c).mp hm)),List.map_append]
          rfl
        · rw [decide_eq_false hm]
          refine iteF ⟨s6.trans s7,⟨_,rfl⟩,?_⟩
          rw [filt_out (rchB_no fun z=>hm ((hzm c).mpr z)),List.append_nil]
    rintro us τ H6 D ⟨s6,_,rfl⟩ nD
    rw [List.length_map,List.take_length]
    have em:((hds rs).filter (rchB rs x))=mt rs x:=rfl
    rw [em]
    have sD:=Same.add (o:=.lst ((mt rs x).map fun c=>tx (rg rs c))) nD
    have s06:=s1.trans (s6.trans sD)
    have hD:upd H6 D (.lst ((mt rs x).map fun c=>tx (rg rs c))) D=some (.lst ((mt rs x).map fun c=>tx (rg rs c))):=upd_same
    revert s06 hD
    generalize upd H6 D (.lst ((mt rs x).map fun c=>tx (rg rs c)))=H7
    intro s06 hD
    have hB7:=hB.mono (TupS.same s06)
    refine ⟨_,rfl,_,.inl ⟨_,SqL.of hD,rfl⟩,?_⟩
    cases hm:mt rs x with
    | nil =>
      refine iteT ?_
      refine ⟨_,rfl,_,rfl,t,first,rs,x,rfl,hB7,hG,hx,hin,mt_dead hG hin hm,fun n H8 s8 h1 h2 h3=>⟨szl (show 2≤1000 by decide),fun T nT=>?_⟩⟩
      exact k T _ _ (s06.trans (s8.trans (Same.add nT))) ((s06.trans s8).free nT) upd_same (.inl ⟨hm,n,h1,h2,h3,rfl⟩)
    | cons c0 ms =>
      refine iteF ?_
      have hne:mt rs x≠[]:=by rw [hm];simp
      have hmin:∀ c∈mt rs x,c∈ltr rs:=fun c hc=>(hds_head (mt_mem.mp hc).1).1
      refine ⟨_,rfl,D,rfl,⟨_,SqL.of hD⟩,?_⟩
      refine comp_allR (τ0:=[none,some (.ref t)]) (sure_list (xs:=(mt rs x).map fun c=>tx (rg rs c))) (by rw [List.length_map];omega) (fun i us τ H8=>Same H7 H8∧(∃ v,τ=[v,some (.ref t)])∧us=(((mt rs x).take i).map fun c=>smp rs (rg rs c)).map V.bl) ⟨Same.refl _,⟨_,rfl⟩,rfl⟩ ?_ ?_ ?_
      · rintro i us τ H8 hi ⟨s8,_,rfl⟩
        refine ⟨SqL.of (s8 _ _ hD),?_⟩
        rw [List.length_map,List.length_map,List.length_take]
        omega
      · rintro i y us τ H8 hy ⟨s8,⟨v,rfl⟩,rfl⟩
        rw [List.getElem?_map] at hy
        cases e:(mt rs x)[i]? with
        | none=>rw [e] at hy;cases hy
        | some c =>
          rw [e] at hy
          cases hy
          refine ⟨_,rfl,_,rfl,t,first,rs,rg rs c,rfl,hB7.mono (TupS.same s8),hG,rg_len hG c,fun e he=>rg_inl he,fun H9 s9=>⟨s8.trans s9,⟨_,rfl⟩,?_⟩⟩
          rw [take_snoc (fun c=>smp rs (rg rs c)) e,List.map_append]
          rfl
      rintro us τ H8 D2 ⟨s8,_,rfl⟩ nD2
      rw [List.length_map,List.take_length]
      refine ⟨D2,_,rfl,SqL.of upd_same,_,rfl,?_⟩
      have s08:=s06.trans (s8.trans (Same.add (o:=.lst (((mt rs x).map fun c=>smp rs (rg rs c)).map V.bl)) nD2))
      have hD8:=(s8.trans (Same.add (o:=.lst (((mt rs x).map fun c=>smp rs (rg rs c)).map V.bl)) nD2)) _ _ hD
      revert s08 hD8
      generalize upd H8 D2 (.lst (((mt rs x).map fun c=>smp rs (rg rs c)).map V.bl))=H9
      intro s08 hD8
      have ea:((mt rs x).map fun c=>smp rs (rg rs c)).all id=(mt rs x).all fun c=>smp rs (rg rs c):=by rw [List.all_map];rfl
      rw [ea]
      cases hs:(mt rs x).all fun c=>smp rs (rg rs c) with
      | false =>
        refine iteT ⟨szl (show 1≤1000 by decide),fun T nT=>?_⟩
        exact k T _ _ (s08.trans (Same.add nT)) (s08.free nT) upd_same (.inr (.inl ⟨hne,hs,rfl⟩))
      | true =>
        refine iteF ?_
        refine ⟨_,rfl,t,first,rs,rfl,hB.mono (TupS.same s08),hG,fun d H10 s10 nd hd=>?_⟩
        have xne:x≠[]:=fun z=>by
          obtain ⟨c,hc⟩:=List.exists_mem_of_ne_nil _ hne
          obtain ⟨_,k',hk⟩:=mt_mem.mp hc
          rw [z,rowN_nil] at hk
          cases hk
        have ew:((⟨x.toArray⟩:Str).cps.toList.map sign).length=x.length:=by simp
        refine ⟨_,rfl,⟨x.toArray⟩,rfl,?_⟩
        refine comp_allR (τ0:=[none,some (.ref d)]) (sure_str (x:=⟨x.toArray⟩)) (by rw [ew];omega) (fun i us τ H11=>H11=H10∧(∃ v,τ=[v,some (.ref d)])∧us=(((x.take i).map (dep rs rs.length)).map fun (n:Nat)=>(n:Int)).map V.int) ⟨rfl,⟨_,rfl⟩,rfl⟩ ?_ ?_ ?_
        · rintro i us τ H11 hi ⟨rfl,_,rfl⟩
          refine ⟨trivial,?_⟩
          rw [List.length_map,List.length_map,List.length_map,List.length_take]
          omega
        · rintro i y us τ H11 hy ⟨rfl,⟨v,rfl⟩,rfl⟩
          have hy':(x.map sign)[i]? = some y:=hy
          rw [List.getElem?_map] at hy'
          cases e:x[i]? with
          | none=>rw [e] at hy';cases hy'
          | some c =>
            rw [e] at hy'
            cases hy'
            have hga:=DGet.k (k:=(Sum.inr (one c):Key)) hd
            rw [dkF_val (hin c (List.mem_of_getElem? e))] at hga
            refine ⟨_,rfl,_,rfl,d,_,rfl,hga,rfl,⟨_,rfl⟩,?_⟩
            rw [take_snoc (dep rs rs.length) e,List.map_append,List.map_append]
            rfl
        rintro us τ H11 D3 ⟨rfl,_,rfl⟩ nD3
        rw [ew,List.take_length]
        have s3:=Same.add (o:=.lst (((x.map (dep rs rs.length)).map fun (n:Nat)=>(n:Int)).map V.int)) nD3
        refine ⟨D3,_,rfl,SqL.of upd_same,(by simpa using xne),fun m hm1 hm2=>?_⟩
        rw [lmax_top hm1 hm2]
        revert s3
        generalize upd H11 D3 (.lst (((x.map (dep rs rs.length)).map fun (n:Nat)=>(n:Int)).map V.int))=H12
        intro s3
        have hD12:=s3 _ _ (s10 _ _ hD8)
        refine ⟨_,_,rfl,rfl,?_⟩
        refine ⟨_,rfl,D,rfl,⟨_,SqL.of hD12⟩,?_⟩
        refine comp_allR (τ0:=[none]) (sure_list (xs:=(mt rs x).map fun c=>tx (rg rs c))) (by rw [List.length_map];omega) (fun i us τ H13=>H13=H12∧(∃ v,τ=[v])∧us=(((mt rs x).take i).map fun c=>(rg rs c).length).map fun n=>V.int ((n:Nat):Int)) ⟨rfl,⟨_,rfl⟩,rfl⟩ ?_ ?_ ?_
        · rintro i us τ H13 hi ⟨rfl,_,rfl⟩
          refine ⟨SqL.of hD12,?_⟩
          rw [List.length_map,List.length_map,List.length_take]
          omega
        · rintro i y us τ H13 hy ⟨rfl,⟨v,rfl⟩,rfl⟩
          rw [List.getElem?_map] at hy
          cases e:(mt rs x)[i]? with
          | none=>rw [e] at hy;cases hy
          | some c =>
            rw [e] at hy
            cases hy
            have r8:=rg_len hG c
            refine ⟨_,rfl,⟨(rg rs c).toArray⟩,rfl,szl (show (rg rs c).length≤1000 by omega),rfl,⟨_,rfl⟩,?_⟩
            rw [take_snoc (fun c=>(rg rs c).length) e,List.map_append]
            rfl
        rintro us τ H13 D4 ⟨rfl,_,rfl⟩ nD4
        rw [List.length_map,List.take_length]
        have s4:=Same.add (o:=.lst (((mt rs x).map fun c=>(rg rs c).length).map fun n=>V.int ((n:Nat):Int))) nD4
        refine ⟨D4,_,rfl,upd_same,fun n hn=>?_,szl (show 3≤1000 by decide),fun T nT=>?_⟩
        · obtain ⟨c,hc,rfl⟩:=List.mem_map.mp hn
          have:=rg_len hG c
          have hh:=(hds_head (mt_mem.mp hc).1).2
          have:=(List.getElem?_eq_some_iff.mp hh).1
          omega
        · have sA:=s08.trans (s10.trans (s3.trans s4))
          exact k T _ _ (sA.trans (Same.add nT)) (sA.free nT) upd_same (.inr (.inr ⟨hne,hs,rfl⟩))
def spKin:Sp:=fun vs H Q _=>∃ (t:Addr) (first:List Nat) (rs:List Rule) (c:Nat),vs=[.ref t,sign c]∧BookAt H t first rs∧Good first rs∧c∈ltr rs ∧
  ∀ T us H',Same H H'→H T=none→H' T=some (.tup us)→KindOf rs [c] us→Q (.ref T) H'
theorem scKin:FnScope ["book","letter"] ["book","letter"] (defScope sKin):=⟨rfl,rfl,rfl,by decide +kernel,rfl,by decide +kernel,by decide +kernel⟩
theorem ok_kin {f fNle fTki:Addr} {fd fdNle fdTki:FuncData} (F:Fun K "kind" "kind" sKin f fd)
    (GNle:FnOk P w K mg base CX0 3 fNle fdNle ["book","letter"] spNle)
    (gNle:Gf K mg "need_letter" fNle fdNle ["book","letter"])
    (GTki:FnOk P w K mg base CX0 6 fTki fdTki ["book","text"] spTki)
    (gTki:Gf K mg "text_kind" fTki fdTki ["book","text"])
    : FnOk P w K mg base CX0 7 f fd ["book","letter"] spKin:=by
  refine F.ok scKin (fun vs H Q E h=>?_) (fun cdv A outer s H vs Q E hr h=>?_)
  · obtain ⟨t,first,rs,c,rfl,_⟩:=h
    rfl
  · obtain ⟨t,first,rs,c,rfl,hB,hG,hc,k⟩:=h
    have hr3:Room 3 _:=hr.mono (by decide)
    refine ⟨_,(pss_cons (ps_expr (pe_call GNle hr3 rfl gNle.m gNle.k gNle.b .nil pass0 (pa_cons (pv 0) (pa_cons (pv 1) pa_nil))))
      (pss_one (ps_ret (pe_call GTki hr rfl gTki.m gTki.k gTki.b .nil pass0 (pa_cons (pv 0) (pa_cons (pv 1) pa_nil)))))),?_⟩
    refine ⟨_,rfl,_,rfl,t,first,rs,c,rfl,hB,hG,hc,fun H1 s1=>?_⟩
    refine ⟨_,rfl,_,rfl,t,first,rs,[c],rfl,hB.mono (TupS.same s1),hG,(by show 1≤600;decide),fun e he=>by rw [List.mem_singleton.mp he];exact hc,fun T us H2 s2 n2 h2 hk=>k T us H2 (s1.trans s2) (s1.free n2) h2 hk⟩
def spRki:Sp:=fun vs H Q _=>∃ (t:Addr) (first:List Nat) (rs:List Rule),vs=[.ref t]∧BookAt H t first rs∧Good first rs ∧
  ∀ T us H',Same H H'→H T=none→H' T=some (.tup us)→KindOf rs first us→Q (.ref T) H'
theorem scRki:FnScope ["book"] ["book"] (defScope sRki):=⟨rfl,rfl,rfl,by decide +kernel,rfl,by decide +kernel,by decide +kernel⟩
theorem ok_rki {f fTki:Addr} {fd fdTki:FuncData} (F:Fun K "row_kind" "row_kind" sRki f fd)
    (GTki:FnOk P w K mg base CX0 6 fTki fdTki ["book","text"] spTki)
    (gTki:Gf K mg "text_kind" fTki fdTki ["book","text"])
    : FnOk P w K mg base CX0 7 f fd ["book"] spRki:=by
  refine F.ok scRki (fun vs H Q E h=>?_) (fun cdv A outer s H vs Q E hr h=>?_)
  · obtain ⟨t,first,rs,rfl,_⟩:=h
    rfl
  · obtain ⟨t,first,rs,rfl,hB,hG,k⟩:=h
    refine ⟨_,(pss_one (ps_ret (pe_call GTki hr rfl gTki.m gTki.k gTki.b .nil pass0 (pa_cons (pv 0) (pa_cons (pe_ix (ix_tupK K) (pv 0) pe_int (fun _ _=>rfl)) pa_nil))))),?_⟩
    obtain ⟨r,ps,b1,b2,b3⟩:=hB.ex
    have hfl:=hG.fl
    exact ⟨_,rfl,_,rfl,t,_,_,_,rfl,rfl,SqT.of b1,atI_nat (j:=0) rfl,t,first,rs,first,rfl,hB,hG,by omega,hG.fin,k⟩
end
end Lw
namespace Lw
open PySem L2 PyProof.Rows
theorem least_of {p:Nat→Prop}:∀ m,p m→∃ n,p n∧∀ k,k < n→¬ p k:=by
  intro m
  induction m using Nat.strongRecOn with
  | _ m ih =>
    intro h
    by_cases e:∃ k,k < m∧p k
    · obtain ⟨k,h1,h2⟩:=e
      exact ih k h1 h2
    · exact ⟨m,h,fun k hk z=>e ⟨k,hk,z⟩⟩
theorem rch_one {rs:List Rule} {x c:Nat}:Rch rs [x] c ↔ c=x∨Rch rs (wd rs x) c:=by
  constructor
  · rintro ⟨m,hm⟩
    cases m with
    | zero=>exact .inl (List.mem_singleton.mp hm)
    | succ m=>rw [row_succ] at hm;exact .inr ⟨m,hm⟩
  · rintro (rfl | ⟨m,hm⟩)
    · exact ⟨0,List.mem_cons_self⟩
    · exact ⟨m+1,by rw [row_succ];exact hm⟩
section
variable {first:List Nat} {rs:List Rule} (hG:Good first rs) {c:Nat} (hc:c∈ltr rs) (hcc:Rch rs (wd rs c) c)
include hG hc
end
end Lw
namespace Lw
open PySem L2 PyProof.Rows
def dl (p:Nat) (f:Nat→Int):Nat→Int:=fun n=>f (n+p) - f n
def dK (p:Nat):Nat→(Nat→Int)→Nat→Int
  | 0,f=>f
  | k+1,f=>dK p k (dl p f)
theorem dK_out (p:Nat):∀ (k:Nat) (f:Nat→Int),dK p (k+1) f=dl p (dK p k f)
  | 0,_=>rfl
  | k+1,f=>dK_out p k (dl p f)
theorem dK_shift (p a:Nat):∀ (k:Nat) (f:Nat→Int) (n:Nat),dK p k (fun n=>f (n+a)) n=dK p k f (n+a)
  | 0,_,_=>rfl
  | k+1,f,n=>by
    have e:dl p (fun n=>f (n+a))=fun n=>dl p f (n+a):=by
      funext m
      show f (m+p+a) - f (m+a)=f (m+a+p) - f (m+a)
      rw [Nat.add_right_comm]
    show dK p k (dl p fun n=>f (n+a)) n=dK p k (dl p f) (n+a)
    rw [e]
    exact dK_shift p a k (dl p f) n
theorem dK_sum {α:Type} (p:Nat) (l:List α):∀ (k:Nat) (g:α→Nat→Int) (n:Nat),dK p k (fun n=>(l.map fun i=>g i n).sum) n=(l.map fun i=>dK p k (g i) n).sum
  | 0,_,_=>rfl
  | k+1,g,n=>by
    have e:dl p (fun n=>(l.map fun i=>g i n).sum)=fun n=>(l.map fun i=>dl p (g i) n).sum:=by
      funext m
      show (l.map fun i=>g i (m+p)).sum - (l.map fun i=>g i m).sum=(l.map fun i=>g i (m+p) - g i m).sum
      induction l with
      | nil=>rfl
      | cons a l ih =>
        simp only [List.map_cons,List.sum_cons]
        omega
    show dK p k (dl p fun n=>(l.map fun i=>g i n).sum) n=(l.map fun i=>dK p k (dl p (g i)) n).sum
    rw [e]
    exact dK_sum p l k (fun i=>dl p (g i)) n
def Pol (p k m:Nat) (f:Nat→Int):Prop:=∀ n,m≤n→dK p k f n=0
def Pos (p k m:Nat) (f:Nat→Int):Prop:=∀ n,m≤n→1≤dK p k f n
theorem Pol.up {p k m:Nat} {f:Nat→Int} (h:Pol p k m f):∀ {k'},k≤k'→Pol p k' m f:=by
  intro k' hk
  induction k' with
  | zero => have:k=0:=by omega
            subst this;exact h
  | succ j ih =>
    by_cases e:k=j+1
    · subst e;exact h
    · intro n hn
      rw [dK_out]
      show dK p j f (n+p) - dK p j f n=0
      rw [ih (by omega) _ (by omega),ih (by omega) _ hn]
      rfl
theorem Pol.mono {p k m m':Nat} {f:Nat→Int} (h:Pol p k m f) (hm:m≤m'):Pol p k m' f:=fun n hn=>h n (by omega)
theorem Pos.mono {p k m m':Nat} {f:Nat→Int} (h:Pos p k m f) (hm:m≤m'):Pos p k m' f:=fun n hn=>h n (by omega)
theorem sum_zero {α:Type} {g:α→Int}:∀ {l:List α},(∀ i∈l,g i=0)→(l.map g).sum=0
  | [],_=>rfl
  | a :: l,h=>by
    rw [List.map_cons,List.sum_cons,h a List.mem_cons_self,sum_zero fun i hi=>h i (List.mem_cons_of_mem _ hi)]
    rfl
theorem sum_nn {α:Type} {g:α→Int}:∀ {l:List α},(∀ i∈l,0≤g i)→0≤(l.map g).sum
  | [],_=>Int.le_refl _
  | a :: l,h=>by
    rw [List.map_cons,List.sum_cons]
    have h1:=h a List.mem_cons_self
    have h2:=sum_nn (g:=g) (l:=l) fun i hi=>h i (List.mem_cons_of_mem _ hi)
    omega
theorem sum_one {α:Type} {g:α→Int}:∀ {l:List α} {i:α},(∀ i∈l,0≤g i)→i∈l→1≤g i→1≤(l.map g).sum
  | a :: l,i,h,hi,h1=>by
    rw [List.map_cons,List.sum_cons]
    have h0:=h a List.mem_cons_self
    have h2:∀ i∈l,0≤g i:=fun i hi=>h i (List.mem_cons_of_mem _ hi)
    rcases List.mem_cons.mp hi with rfl | hi
    · have:=sum_nn h2
      omega
    · have:=sum_one h2 hi h1
      omega
theorem sum_split {g:Nat→Int} (q:Nat→Bool):∀ l:List Nat,(l.map g).sum=((l.filter q).map g).sum+((l.filter fun e=>!q e).map g).sum
  | []=>rfl
  | a :: l=>by
    have ih:=sum_split (g:=g) q l
    cases h:q a with
    | true=>rw [List.filter_cons_of_pos h,List.filter_cons_of_neg (by rw [h];decide)];simp only [List.map_cons,List.sum_cons];omega
    | false=>rw [List.filter_cons_of_neg (by rw [h];decide),List.filter_cons_of_pos (by rw [h];decide)];simp only [List.map_cons,List.sum_cons];omega
noncomputable def bl (rs:List Rule) (c:Nat):List Nat:=(ltr rs).filter (rchB rs [c])
theorem bl_mem {rs:List Rule} {c e:Nat}:e∈bl rs c ↔ e∈ltr rs∧Rch rs [c] e:=by
  unfold bl
  rw [List.mem_filter,rchB_iff]
theorem bl_le (rs:List Rule) (c:Nat):(bl rs c).length≤rs.length:=by
  refine Nat.le_trans (List.length_filter_le _ _) ?_
  rw [ltr_len]
  exact Nat.le_refl _
theorem rch_refl (rs:List Rule) (c:Nat):Rch rs [c] c:=⟨0,List.mem_cons_self⟩
theorem rch_trans {rs:List Rule} {x:List Nat} {c e:Nat} (h:Rch rs x c) (h2:Rch rs [c] e):Rch rs x e:=by
  rcases rch_one.mp h2 with rfl | h2
  · exact h
  · exact h.on h2
section
variable {first:List Nat} {rs:List Rule} (hG:Good first rs)
include hG
theorem bl_lt {c e:Nat} (hc:c∈ltr rs) (h1:Rch rs [c] e) (h2:¬ Rch rs [e] c):(bl rs e).length < (bl rs c).length:=by
  have nd:(bl rs e).Nodup:=hG.nd.filter _
  have hno:c ∉ bl rs e:=fun z=>h2 (bl_mem.mp z).2
  have:=nd_len (us:=c :: bl rs e) (L:=bl rs c) (List.nodup_cons.mpr ⟨hno,nd⟩) fun d hd=>by
    rcases List.mem_cons.mp hd with rfl | hd
    · exact bl_mem.mpr ⟨hc,rch_refl _ _⟩
    · obtain ⟨a,b⟩:=bl_mem.mp hd
      exact bl_mem.mpr ⟨a,rch_trans h1 b⟩
  rw [List.length_cons] at this
  omega
theorem bl_word {c e:Nat} (hc:c∈ltr rs) (hr:rg rs c=[]) (he:e∈wd rs c):(bl rs e).length < (bl rs c).length:=by
  refine bl_lt hG hc (rch_one.mpr (.inr ⟨0,he⟩)) fun z=>?_
  have h:Rch rs (wd rs c) c:=rch_trans ⟨0,he⟩ z
  have:=(rg_self hG hc).mpr h
  rw [hr] at this
  cases this
theorem bl_exit {c f e:Nat} (hc:c∈ltr rs) (hcc:c∈rg rs c) (hf:f∈rg rs c) (he:e∈wd rs f) (hno:e ∉ rg rs c):(bl rs e).length < (bl rs c).length:=by
  obtain ⟨f1,f2⟩:=(rg_mem hG hc).mp hf
  have hce:Rch rs (wd rs c) e:=f1.step he
  refine bl_lt hG hc (rch_one.mpr (.inr hce)) fun z=>hno ?_
  rcases rch_one.mp z with rfl | z
  · exact hcc
  · exact (rg_mem hG hc).mpr ⟨hce,z⟩
theorem bl_pos {c:Nat} (hc:c∈ltr rs):0 < (bl rs c).length:=List.length_pos_of_mem (bl_mem.mpr ⟨hc,rch_refl _ _⟩)
theorem exit_mem {c e:Nat}:e∈(nxt rs (rg rs c)).filter (fun e=>!decide (e∈rg rs c)) ↔ (∃ f∈rg rs c,e∈wd rs f)∧e ∉ rg rs c:=by
  rw [List.mem_filter,nxt_mem]
  constructor
  · rintro ⟨h1,h2⟩
    exact ⟨h1,by simpa using h2⟩
  · rintro ⟨h1,h2⟩
    exact ⟨h1,by simpa using h2⟩
theorem dep_stay:∀ b c,c∈ltr rs→(bl rs c).length≤b→∀ n m,(bl rs c).length≤n→(bl rs c).length≤m→dep rs n c=dep rs m c
  | 0,c,hc,hb,_,_,_,_=>by have:=bl_pos hG hc;omega
  | b+1,c,hc,hb,n,m,hn,hm=>by
    have hp:=bl_pos hG hc
    obtain ⟨n',rfl⟩:∃ n',n=n' + 1:=⟨n - 1,by omega⟩
    obtain ⟨m',rfl⟩:∃ m',m=m' + 1:=⟨m - 1,by omega⟩
    show dby rs (rg rs c) c (dep rs n')=dby rs (rg rs c) c (dep rs m')
    unfold dby
    by_cases hr:rg rs c=[]
    · rw [if_pos hr,if_pos hr]
      congr 1
      refine List.map_congr_left fun e he=>?_
      have:=bl_word hG hc hr he
      exact dep_stay b e (wd_in hG hc e he) (by omega) n' m' (by omega) (by omega)
    · rw [if_neg hr,if_neg hr]
      congr 2
      refine List.map_congr_left fun e he=>?_
      obtain ⟨⟨f,hf,hef⟩,hno⟩:=(exit_mem hG).mp he
      obtain ⟨d,hd⟩:=List.exists_mem_of_ne_nil _ hr
      have:=bl_exit hG hc (rg_mut_self hG hc hd) hf hef hno
      exact dep_stay b e (wd_in hG (rg_inl hf) e hef) (by omega) n' m' (by omega) (by omega)
theorem dep_eq {c:Nat} (hc:c∈ltr rs):dep rs rs.length c=dby rs (rg rs c) c (dep rs rs.length) :=
  dep_stay hG rs.length c hc (bl_le rs c) rs.length (rs.length+1) (bl_le rs c) (Nat.le_trans (bl_le rs c) (Nat.le_succ _))
end
def nx (rs:List Rule) (R:List Nat) (e:Nat):Nat:=((wd rs e).filter fun f=>decide (f∈R)).headD 0
def nxI (rs:List Rule) (R:List Nat):Nat→Nat→Nat
  | 0,c=>c
  | n+1,c=>nx rs R (nxI rs R n c)
theorem nxI_add (rs:List Rule) (R:List Nat) (c a:Nat):∀ b,nxI rs R (a+b) c=nxI rs R b (nxI rs R a c)
  | 0=>rfl
  | b+1=>by
    show nx rs R (nxI rs R (a+b) c)=nx rs R (nxI rs R b (nxI rs R a c))
    rw [nxI_add rs R c a b]
section
variable {first:List Nat} {rs:List Rule} (hG:Good first rs) {c:Nat} (hc:c∈ltr rs) (hcc:c∈rg rs c) (hs:smp rs (rg rs c)=true)
include hG hc hs
theorem nx_one {e:Nat} (he:e∈rg rs c):(wd rs e).filter (fun f=>decide (f∈rg rs c))=[nx rs (rg rs c) e]:=by
  have h:=of_decide_eq_true (List.all_eq_true.mp hs e he)
  unfold nx
  cases hl:(wd rs e).filter (fun f=>decide (f∈rg rs c)) with
  | nil=>rw [hl] at h;cases h
  | cons a l =>
    rw [hl,List.length_cons] at h
    have:l=[]:=List.eq_nil_of_length_eq_zero (by omega)
    rw [this]
    rfl
theorem nx_in {e:Nat} (he:e∈rg rs c):nx rs (rg rs c) e∈rg rs c∧nx rs (rg rs c) e∈wd rs e:=by
  have h:=nx_one hG hc hs he
  have h2:nx rs (rg rs c) e∈(wd rs e).filter (fun f=>decide (f∈rg rs c)):=by rw [h];exact List.mem_cons_self
  obtain ⟨a,b⟩:=List.mem_filter.mp h2
  exact ⟨of_decide_eq_true b,a⟩
theorem nx_only {e f:Nat} (he:e∈rg rs c) (hf:f∈wd rs e) (hfr:f∈rg rs c):f=nx rs (rg rs c) e:=by
  have h:=nx_one hG hc hs he
  have h2:f∈(wd rs e).filter (fun f=>decide (f∈rg rs c)):=List.mem_filter.mpr ⟨hf,decide_eq_true hfr⟩
  rw [h] at h2
  exact List.mem_singleton.mp h2
include hcc
theorem nxI_in:∀ n,nxI rs (rg rs c) n c∈rg rs c
  | 0=>hcc
  | n+1=>(nx_in hG hc hs (nxI_in n)).1
theorem row_nxI:∀ m f,f∈rowN rs [c] m→f∈rg rs c→f=nxI rs (rg rs c) m c
  | 0,f,hf,_=>List.mem_singleton.mp hf
  | m+1,f,hf,hr=>by
    obtain ⟨e,he,hfe⟩:=nxt_mem.mp hf
    obtain ⟨_,f2⟩:=(rg_mem hG hc).mp hr
    have hcc':=(rg_self hG hc).mp hcc
    have h1:Rch rs (wd rs c) e:=by
      rcases rch_one.mp ⟨m,he⟩ with z | z
      · rw [z];exact hcc'
      · exact z
    have hee:e∈rg rs c:=(rg_mem hG hc).mpr ⟨h1,Rch.on ⟨0,hfe⟩ f2⟩
    rw [nx_only hG hc hs hee hfe hr,row_nxI m e he hee]
    rfl
theorem ring_all {f:Nat} (hf:f∈rg rs c):∃ m,f=nxI rs (rg rs c) (m+1) c:=by
  obtain ⟨⟨m,hm⟩,_⟩:=(rg_mem hG hc).mp hf
  rw [← row_succ] at hm
  exact ⟨m,row_nxI hG hc hcc hs (m+1) f hm hf⟩
theorem ring_round:nxI rs (rg rs c) (rg rs c).length c=c∧∀ f∈rg rs c,∃ i,i < (rg rs c).length∧f=nxI rs (rg rs c) i c:=by
  obtain ⟨m,hm⟩:=ring_all hG hc hcc hs hcc
  obtain ⟨s',h1,h2⟩:=least_of (p:=fun m=>nxI rs (rg rs c) (m+1) c=c) m hm.symm
  have hmod:∀ q i,nxI rs (rg rs c) ((s' + 1) * q+i) c=nxI rs (rg rs c) i c:=fun q=>by
    induction q with
    | zero=>intro i;rw [Nat.mul_zero,Nat.zero_add]
    | succ q ih =>
      intro i
      rw [Nat.mul_succ,Nat.add_assoc,Nat.add_comm (s' + 1) i,← Nat.add_assoc,Nat.add_comm _ (s' + 1),nxI_add,h1]
      exact ih i
  have red:∀ k,nxI rs (rg rs c) k c=nxI rs (rg rs c) (k % (s' + 1)) c:=fun k=>by
    have:=hmod (k / (s' + 1)) (k % (s' + 1))
    rw [Nat.div_add_mod] at this
    exact this
  have nd:((List.range (s' + 1)).map fun i=>nxI rs (rg rs c) i c).Nodup:=by
    refine List.pairwise_map.mpr (List.Pairwise.imp_of_mem ?_ (List.pairwise_lt_range (n:=s' + 1)))
    intro i j hi hj hij z
    have hj':=List.mem_range.mp hj
    refine h2 (s' + 1 - j+i - 1) (by omega) ?_
    rw [show s' + 1 - j+i - 1+1=i+(s' + 1 - j) by omega,nxI_add,z,← nxI_add,show j+(s' + 1 - j)=s' + 1 by omega]
    exact h1
  have e1:=nd_len nd fun f hf=>by
    obtain ⟨i,_,rfl⟩:=List.mem_map.mp hf
    exact nxI_in hG hc hcc hs i
  have sub:∀ f∈rg rs c,∃ i,i < s' + 1∧f=nxI rs (rg rs c) i c:=fun f hf=>by
    obtain ⟨k,hk⟩:=ring_all hG hc hcc hs hf
    exact ⟨(k+1) % (s' + 1),Nat.mod_lt _ (by omega),by rw [hk];exact red (k+1)⟩
  have e2:=nd_len (rise_nd (rg_rise hG c)) (L:=(List.range (s' + 1)).map fun i=>nxI rs (rg rs c) i c) fun f hf=>by
    obtain ⟨i,h,e⟩:=sub f hf
    exact List.mem_map.mpr ⟨i,List.mem_range.mpr h,e.symm⟩
  rw [List.length_map,List.length_range] at e1 e2
  have e3:(rg rs c).length=s' + 1:=by omega
  rw [e3]
  exact ⟨h1,sub⟩
theorem ring_times (q:Nat):nxI rs (rg rs c) ((rg rs c).length * q) c=c:=by
  obtain ⟨h,_⟩:=ring_round hG hc hcc hs
  induction q with
  | zero=>rfl
  | succ q ih=>rw [Nat.mul_succ,nxI_add,ih,h]
end
def sz (rs:List Rule) (c:Nat):Nat→Int:=fun n=>((szN rs n c:Nat):Int)
theorem cast_sum (g:Nat→Nat):∀ l:List Nat,(((l.map g).sum:Nat):Int)=(l.map fun e=>((g e:Nat):Int)).sum
  | []=>rfl
  | a :: l=>by
    rw [List.map_cons,List.map_cons,List.sum_cons,List.sum_cons,← cast_sum g l]
    push_cast
    rfl
theorem sz_succ (rs:List Rule) (c n:Nat):sz rs c (n+1)=((wd rs c).map fun e=>sz rs e n).sum:=by
  show ((szN rs (n+1) c:Nat):Int)=_
  rw [szN_succ,szN_row,cast_sum]
  rfl
def ex (rs:List Rule) (R:List Nat) (e:Nat):List Nat:=(wd rs e).filter fun f=>!decide (f∈R)
def exs (rs:List Rule) (R:List Nat) (c:Nat):Nat→List (Nat × Nat)
  | 0=>[]
  | j+1=>(exs rs R c j).map (fun q=>(q.1+1,q.2))++(ex rs R (nxI rs R j c)).map fun f=>(0,f)
theorem exs_mem {rs:List Rule} {R:List Nat} {c:Nat}:∀ {j:Nat} {q:Nat × Nat},q∈exs rs R c j→∃ i,i < j∧q.2∈ex rs R (nxI rs R i c)
  | 0,q,h=>by cases h
  | j+1,q,h=>by
    rcases List.mem_append.mp h with h | h
    · obtain ⟨q',h1,rfl⟩:=List.mem_map.mp h
      obtain ⟨i,h2,h3⟩:=exs_mem h1
      exact ⟨i,by omega,h3⟩
    · obtain ⟨f,h1,rfl⟩:=List.mem_map.mp h
      exact ⟨j,by omega,h1⟩
theorem exs_has {rs:List Rule} {R:List Nat} {c f i:Nat}:∀ {j:Nat},i < j→f∈ex rs R (nxI rs R i c)→∃ a,(a,f)∈exs rs R c j
  | j+1,h,hf=>by
    by_cases e:i=j
    · exact ⟨0,List.mem_append_right _ (List.mem_map.mpr ⟨f,by rw [← e];exact hf,rfl⟩)⟩
    · obtain ⟨a,ha⟩:=exs_has (j:=j) (by omega) hf
      exact ⟨a+1,List.mem_append_left _ (List.mem_map.mpr ⟨(a,f),ha,rfl⟩)⟩
section
variable {first:List Nat} {rs:List Rule} (hG:Good first rs) {c:Nat} (hc:c∈ltr rs) (hcc:c∈rg rs c) (hs:smp rs (rg rs c)=true)
include hG hc hs
theorem sz_ring {e:Nat} (he:e∈rg rs c) (n:Nat):sz rs e (n+1)=sz rs (nx rs (rg rs c) e) n+((ex rs (rg rs c) e).map fun f=>sz rs f n).sum:=by
  rw [sz_succ,sum_split (fun f=>decide (f∈rg rs c)),nx_one hG hc hs he]
  show ((sz rs (nx rs (rg rs c) e) n+0)+_)=_
  rw [Int.add_zero]
  rfl
include hcc
theorem sz_round (n:Nat):∀ j,sz rs c (n+j)=sz rs (nxI rs (rg rs c) j c) n+((exs rs (rg rs c) c j).map fun q=>sz rs q.2 (n+q.1)).sum
  | 0=>by
    show sz rs c n=sz rs c n+0
    rw [Int.add_zero]
  | j+1=>by
    have ih:=sz_round (n+1) j
    rw [show n+(j+1)=n+1+j by omega,ih,sz_ring hG hc hs (nxI_in hG hc hcc hs j)]
    show _=sz rs (nx rs (rg rs c) (nxI rs (rg rs c) j c)) n+(((exs rs (rg rs c) c j).map (fun q:Nat × Nat=>(q.1+1,q.2))++(ex rs (rg rs c) (nxI rs (rg rs c) j c)).map fun f=>((0,f):Nat × Nat)).map fun q:Nat × Nat=>sz rs q.2 (n+q.1)).sum
    rw [List.map_append,List.sum_append,List.map_map,List.map_map]
    have e1:((exs rs (rg rs c) c j).map fun q=>sz rs q.2 (n+1+q.1))=(exs rs (rg rs c) c j).map ((fun q:Nat × Nat=>sz rs q.2 (n+q.1)) ∘ fun q=>(q.1+1,q.2)):=List.map_congr_left fun q _=>by
      show sz rs q.2 (n+1+q.1)=sz rs q.2 (n+(q.1+1))
      congr 1
      omega
    have e2:((ex rs (rg rs c) (nxI rs (rg rs c) j c)).map fun f=>sz rs f n)=(ex rs (rg rs c) (nxI rs (rg rs c) j c)).map ((fun q:Nat × Nat=>sz rs q.2 (n+q.1)) ∘ fun f=>(0,f)):=rfl
    rw [e1,e2]
    omega
end
structure Grow (rs:List Rule) (p c:Nat):Prop where
  pol:Pol p (dep rs rs.length c) (bl rs c).length (sz rs c)
  pos:∀ k,dep rs rs.length c=k+1→Pos p k (bl rs c).length (sz rs c)
def Fit (rs:List Rule) (p c:Nat):Prop:=∀ e∈ltr rs,Rch rs [c] e→e∈rg rs e→smp rs (rg rs e)=true∧(rg rs e).length ∣ p
theorem Fit.on {rs:List Rule} {p c d:Nat} (h:Fit rs p c) (hd:Rch rs [c] d):Fit rs p d:=fun e he hr=>h e he (rch_trans hd hr)
theorem grow_of {first:List Nat} {rs:List Rule} (hG:Good first rs) {p:Nat} (hp:1≤p):∀ b c,c∈ltr rs→(bl rs c).length≤b→Fit rs p c→Grow rs p c
  | 0,c,hc,hb,_=>by have:=bl_pos hG hc;omega
  | b+1,c,hc,hb,hF=>by
    have hD:=dep_eq hG hc
    unfold dby at hD
    have hp0:=bl_pos hG hc
    by_cases hr:rg rs c=[]
    · rw [if_pos hr] at hD
      have sub:∀ e∈wd rs c,Grow rs p e∧(bl rs e).length < (bl rs c).length:=fun e he=>by
        have h1:=bl_word hG hc hr he
        exact ⟨grow_of hG hp b e (wd_in hG hc e he) (by omega) (hF.on (rch_one.mpr (.inr ⟨0,he⟩))),h1⟩
      have le:∀ e∈wd rs c,dep rs rs.length e≤dep rs rs.length c:=fun e he=>by rw [hD];exact lmax_le (List.mem_map.mpr ⟨e,he,rfl⟩)
      have step:∀ k n,dK p k (sz rs c) (n+1)=((wd rs c).map fun e=>dK p k (sz rs e) n).sum:=fun k n=>by
        rw [← dK_shift p 1 k (sz rs c) n,← dK_sum]
        congr 1
        funext m
        exact sz_succ rs c m
      refine ⟨fun n hn=>?_,fun k hk n hn=>?_⟩
      · obtain ⟨n',rfl⟩:∃ n',n=n' + 1:=⟨n - 1,by omega⟩
        rw [step]
        refine sum_zero fun e he=>?_
        obtain ⟨g,h1⟩:=sub e he
        exact g.pol.up (le e he) n' (by omega)
      · obtain ⟨n',rfl⟩:∃ n',n=n' + 1:=⟨n - 1,by omega⟩
        rw [step]
        have nn:∀ e∈wd rs c,dep rs rs.length e=k+1∧1≤dK p k (sz rs e) n'∨dK p k (sz rs e) n'=0:=fun e he=>by
          obtain ⟨g,h1⟩:=sub e he
          by_cases z:dep rs rs.length e=k+1
          · exact .inl ⟨z,g.pos k z n' (by omega)⟩
          · have:=le e he
            exact .inr (g.pol.up (by omega) n' (by omega))
        have hne:(wd rs c).map (dep rs rs.length)≠[]:=fun z=>by rw [z] at hD;rw [hD] at hk;cases hk
        obtain ⟨e,he,e2⟩:=List.mem_map.mp (lmax_in hne)
        refine sum_one (i:=e) (fun e he=>?_) he ?_
        · rcases nn e he with ⟨_,h⟩ | h <;> omega
        · obtain ⟨g,h1⟩:=sub e he
          exact g.pos k (by rw [e2,← hD];exact hk) n' (by omega)
    · rw [if_neg hr] at hD
      obtain ⟨d,hd⟩:=List.exists_mem_of_ne_nil _ hr
      have hcc:=rg_mut_self hG hc hd
      obtain ⟨hs,q,hq⟩:=hF c hc (rch_refl _ _) hcc
      obtain ⟨_,hall⟩:=ring_round hG hc hcc hs
      have hrp:1≤(rg rs c).length:=List.length_pos_of_mem hcc
      have hq1:1≤q:=by
        cases q with
        | zero=>rw [Nat.mul_zero] at hq;omega
        | succ q=>omega
      have hle:(rg rs c).length≤p:=by
        rw [hq]
        exact Nat.le_mul_of_pos_right _ hq1
      have hround:nxI rs (rg rs c) p c=c:=by rw [hq];exact ring_times hG hc hcc hs q
      have sub:∀ f∈rg rs c,∀ e∈ex rs (rg rs c) f,Grow rs p e∧(bl rs e).length < (bl rs c).length∧dep rs rs.length e+1≤dep rs rs.length c:=fun f hf e he=>by
        obtain ⟨h1,h2⟩:=List.mem_filter.mp he
        have h2':e ∉ rg rs c:=by simpa using h2
        have h3:=bl_exit hG hc hcc hf h1 h2'
        refine ⟨grow_of hG hp b e (wd_in hG (rg_inl hf) e h1) (by omega) (hF.on (rch_one.mpr (.inr (((rg_mem hG hc).mp hf).1.step h1)))),h3,?_⟩
        rw [hD]
        have:=lmax_le (List.mem_map.mpr ⟨e,(exit_mem hG).mpr ⟨⟨f,hf,h1⟩,h2'⟩,rfl⟩:dep rs rs.length e∈((nxt rs (rg rs c)).filter fun e=>!decide (e∈rg rs c)).map (dep rs rs.length))
        omega
      have sub':∀ q∈exs rs (rg rs c) c p,Grow rs p q.2∧(bl rs q.2).length < (bl rs c).length∧dep rs rs.length q.2+1≤dep rs rs.length c:=fun q hq=>by
        obtain ⟨i,_,h⟩:=exs_mem hq
        exact sub _ (nxI_in hG hc hcc hs i) q.2 h
      have edl:dl p (sz rs c)=fun n=>((exs rs (rg rs c) c p).map fun q=>sz rs q.2 (n+q.1)).sum:=by
        funext n
        have:=sz_round hG hc hcc hs n p
        rw [hround] at this
        show sz rs c (n+p) - sz rs c n=_
        omega
      have step:∀ k n,dK p (k+1) (sz rs c) n=((exs rs (rg rs c) c p).map fun q=>dK p k (sz rs q.2) (n+q.1)).sum:=fun k n=>by
        show dK p k (dl p (sz rs c)) n=_
        rw [edl,dK_sum p (exs rs (rg rs c) c p) k (fun q n=>sz rs q.2 (n+q.1)) n]
        congr 1
        exact List.map_congr_left fun q _=>dK_shift p q.1 k (sz rs q.2) n
      refine ⟨fun n hn=>?_,fun k hk n hn=>?_⟩
      · obtain ⟨k,hk⟩:∃ k,dep rs rs.length c=k+1:=⟨_,by rw [hD,Nat.add_comm]⟩
        rw [hk,step]
        refine sum_zero fun q hq=>?_
        obtain ⟨g,h1,h2⟩:=sub' q hq
        exact g.pol.up (by omega) _ (by omega)
      · cases k with
        | zero =>
          show 1≤((szN rs n c:Nat):Int)
          obtain ⟨m,hm⟩:=(rg_self hG hc).mp hcc
          rw [← row_succ] at hm
          have:=List.length_pos_iff.mpr (ring_alive hm n n (Nat.le_refl _))
          have e:szN rs n c=(rowN rs [c] n).length:=rfl
          omega
        | succ k =>
          rw [step]
          have hex:lmax (((nxt rs (rg rs c)).filter fun e=>!decide (e∈rg rs c)).map (dep rs rs.length))=k+1:=by omega
          have hne:((nxt rs (rg rs c)).filter fun e=>!decide (e∈rg rs c)).map (dep rs rs.length)≠[]:=fun z=>by rw [z] at hex;cases hex
          obtain ⟨e,he,e2⟩:=List.mem_map.mp (lmax_in hne)
          obtain ⟨⟨f,hf,hef⟩,hno⟩:=(exit_mem hG).mp he
          obtain ⟨i,hi,rfl⟩:=hall f hf
          obtain ⟨a,ha⟩:=exs_has (rs:=rs) (R:=rg rs c) (c:=c) (f:=e) (j:=p) (show i < p by omega) (List.mem_filter.mpr ⟨hef,by simpa using hno⟩)
          refine sum_one (i:=(a,e)) (fun q hq=>?_) ha ?_
          · obtain ⟨g,h1,h2⟩:=sub' q hq
            by_cases z:dep rs rs.length q.2=k+1
            · have:=g.pos k z (n+q.1) (by omega)
              omega
            · have:=g.pol.up (k':=k) (by omega) (n+q.1) (by omega)
              omega
          · obtain ⟨g,h1,h2⟩:=sub' _ ha
            exact g.pos k (by rw [e2];exact hex) (n+a) (by omega)
end Lw
namespace Lw
open PySem L2 PyProof.Rows
theorem lcm_fold:∀ (l:List Nat) (s:Nat),s ∣ l.foldl Nat.lcm s∧(∀ a∈l,a ∣ l.foldl Nat.lcm s)∧∀ m,s ∣ m→(∀ a∈l,a ∣ m)→l.foldl Nat.lcm s ∣ m
  | [],s=>⟨Nat.dvd_refl _,(fun a h=>by cases h),fun m h _=>h⟩
  | b :: l,s=>by
    obtain ⟨h1,h2,h3⟩:=lcm_fold l (Nat.lcm s b)
    refine ⟨Nat.dvd_trans (Nat.dvd_lcm_left s b) h1,fun a ha=>?_,fun m hs hm=>?_⟩
    · rcases List.mem_cons.mp ha with rfl | ha
      · exact Nat.dvd_trans (Nat.dvd_lcm_right s a) h1
      · exact h2 a ha
    · exact h3 m (Nat.lcm_dvd hs (hm b List.mem_cons_self)) fun a ha=>hm a (List.mem_cons_of_mem _ ha)
theorem dvd_lcms {l:List Nat} {a:Nat} (h:a∈l):a ∣ lcms l:=(lcm_fold l 1).2.1 a h
theorem lcms_dvd {l:List Nat} {m:Nat} (h:∀ a∈l,a ∣ m):lcms l ∣ m:=(lcm_fold l 1).2.2 m (Nat.one_dvd m) h
theorem lcms_le {l:List Nat} (h:∀ a∈l,1≤a∧a≤8):1≤lcms l∧lcms l≤840:=by
  have h1:lcms l ∣ 840:=lcms_dvd fun a ha=>by
    obtain ⟨h1,h2⟩:=h a ha
    have:a=1∨a=2∨a=3∨a=4∨a=5∨a=6∨a=7∨a=8:=by omega
    rcases this with rfl | rfl | rfl | rfl | rfl | rfl | rfl | rfl <;> decide
  exact ⟨Nat.pos_of_dvd_of_pos h1 (by decide),Nat.le_of_dvd (by decide) h1⟩
def lenT (rs:List Rule) (x:List Nat):Nat→Int:=fun n=>(((rowN rs x n).length:Nat):Int)
theorem lenT_sum (rs:List Rule) (x:List Nat):lenT rs x=fun n=>(x.map fun c=>sz rs c n).sum:=by
  funext n
  show (((rowN rs x n).length:Nat):Int)=_
  rw [szN_row,cast_sum]
  rfl
section
variable {first:List Nat} {rs:List Rule} (hG:Good first rs)
include hG
theorem dep_le:∀ n c,c∈ltr rs→dep rs n c≤(bl rs c).length
  | 0,c,_=>Nat.zero_le _
  | n+1,c,hc=>by
    show dby rs (rg rs c) c (dep rs n)≤_
    unfold dby
    have hp:=bl_pos hG hc
    have mx:∀ {l:List Nat} {b:Nat},(∀ e∈l,dep rs n e < b)→0 < b→lmax (l.map (dep rs n)) < b:=fun {l b} h hb=>by
      by_cases e:l.map (dep rs n)=[]
      · rw [e];exact hb
      · obtain ⟨a,ha,h2⟩:=List.mem_map.mp (lmax_in e)
        rw [← h2]
        exact h a ha
    by_cases hr:rg rs c=[]
    · rw [if_pos hr]
      refine Nat.le_of_lt (mx (fun e he=>?_) hp)
      exact Nat.lt_of_le_of_lt (dep_le n e (wd_in hG hc e he)) (bl_word hG hc hr he)
    · rw [if_neg hr]
      obtain ⟨d,hd⟩:=List.exists_mem_of_ne_nil _ hr
      have:=mx (l:=(nxt rs (rg rs c)).filter fun e=>!decide (e∈rg rs c)) (b:=(bl rs c).length) (fun e he=>by
        obtain ⟨⟨f,hf,hef⟩,hno⟩:=(exit_mem hG).mp he
        exact Nat.lt_of_le_of_lt (dep_le n e (wd_in hG (rg_inl hf) e hef)) (bl_exit hG hc (rg_mut_self hG hc hd) hf hef hno)) hp
      omega
theorem mt_sizes (x:List Nat):∀ a∈(mt rs x).map (fun c=>(rg rs c).length),1≤a∧a≤8:=fun a ha=>by
  obtain ⟨c,hc,rfl⟩:=List.mem_map.mp ha
  have:=rg_len hG c
  have:=List.length_pos_of_mem (hds_mem hG (mt_mem.mp hc).1).2
  omega
noncomputable def stp (rs:List Rule) (x:List Nat):Nat:=lcms ((mt rs x).map fun c=>(rg rs c).length)
theorem text_grow {x:List Nat} (hx:∀ c∈x,c∈ltr rs) (hm:mt rs x≠[]) (hs:(mt rs x).all (fun c=>smp rs (rg rs c))=true) :
    ∃ d,lmax (x.map (dep rs rs.length))=d+1∧d < rs.length∧1≤stp rs x∧stp rs x≤840∧Pol (stp rs x) (d+1) rs.length (lenT rs x)∧Pos (stp rs x) d rs.length (lenT rs x):=by
  obtain ⟨p1,p2⟩:=lcms_le (mt_sizes hG x)
  have fit:∀ c∈x,Fit rs (stp rs x) c:=fun c hc e he hr hee=>by
    obtain ⟨h,hh,_,er⟩:=ring_met hG he (rch_trans ⟨0,hc⟩ hr) ((rg_self hG he).mp hee)
    refine ⟨by rw [← er];exact List.all_eq_true.mp hs h hh,by rw [← er];exact dvd_lcms (List.mem_map.mpr ⟨h,hh,rfl⟩)⟩
  have gr:∀ c∈x,Grow rs (stp rs x) c:=fun c hc=>grow_of hG p1 rs.length c (hx c hc) (bl_le rs c) (fit c hc)
  have le:∀ c∈x,dep rs rs.length c≤lmax (x.map (dep rs rs.length)):=fun c hc=>lmax_le (List.mem_map.mpr ⟨c,hc,rfl⟩)
  have step:∀ k n,dK (stp rs x) k (lenT rs x) n=(x.map fun c=>dK (stp rs x) k (sz rs c) n).sum:=fun k n=>by
    rw [lenT_sum]
    exact dK_sum (stp rs x) x k (fun c n=>sz rs c n) n
  cases hk:lmax (x.map (dep rs rs.length)) with
  | zero =>
    exfalso
    have h0:lenT rs x rs.length=0:=by
      have:=step 0 rs.length
      show dK (stp rs x) 0 (lenT rs x) rs.length=0
      rw [this]
      refine sum_zero fun c hc=>?_
      have:=le c hc
      exact ((gr c hc).pol.up (k':=0) (by omega)) rs.length (bl_le rs c)
    have h1:(rowN rs x rs.length).length=0:=by
      have h2:(((rowN rs x rs.length).length:Nat):Int)=0:=h0
      omega
    exact mt_alive hG hm rs.length (List.eq_nil_of_length_eq_zero h1)
  | succ d =>
    have hne:x.map (dep rs rs.length)≠[]:=fun z=>by rw [z] at hk;cases hk
    obtain ⟨e,he,e2⟩:=List.mem_map.mp (lmax_in hne)
    rw [hk] at e2
    have hd:=dep_le hG rs.length e (hx e he)
    have hb:=bl_le rs e
    refine ⟨d,rfl,by omega,p1,p2,fun n hn=>?_,fun n hn=>?_⟩
    · rw [step]
      refine sum_zero fun c hc=>?_
      have h1:=le c hc
      have h2:=bl_le rs c
      exact ((gr c hc).pol.up (by omega)) n (by omega)
    · rw [step]
      refine sum_one (i:=e) (fun c hc=>?_) he ?_
      · have h1:=le c hc
        have h2:=bl_le rs c
        by_cases z:dep rs rs.length c=d+1
        · have:=(gr c hc).pos d z n (by omega)
          omega
        · have:=((gr c hc).pol.up (k':=d) (by omega)) n (by omega)
          omega
      · exact (gr e he).pos d e2 n (by omega)
end
end Lw
namespace Lw
open PySem L2 PyProof.Rows
structure Ws (us:List Rule):Prop where
  few:us.length≤8
  nd:(ltr us).Nodup
  abc:∀ c∈ltr us,97≤c∧c≤122
  wl:∀ q∈us,q.2.length≤6
  win:∀ q∈us,∀ c∈q.2,c∈ltr us
theorem rng_lo {lo:Int} {n i:Nat} {x:V} (h:(rngV lo n)[i]? = some x):i < n∧x=.int (lo+(i:Int)):=by
  have h1:i < n:=by
    have:=(List.getElem?_eq_some_iff.mp h).1
    rwa [rngV_length] at this
  refine ⟨h1,?_⟩
  unfold rngV at h
  rw [List.getElem?_map,List.getElem?_range h1] at h
  exact (Option.some.inj h).symm
theorem not_taken {L:List Nat} (nd:L.Nodup) {i c:Nat} (e:L[i]? = some c):c ∉ L.take i:=fun h=>by
  rw [← List.take_append_drop i L] at nd
  obtain ⟨_,_,hdis⟩:=List.nodup_append.mp nd
  obtain ⟨hil,e2⟩:=List.getElem?_eq_some_iff.mp e
  refine hdis c h c ?_ rfl
  rw [List.drop_eq_getElem_cons hil,e2]
  exact List.mem_cons_self
structure Wp (cs:List Nat) (n:Nat) (us:List Rule):Prop where
  lt:ltr us=cs.take n
  ok:∀ q∈us,q.2.length≤6∧∀ c∈q.2,c∈cs
theorem Wp.put {cs:List Nat} {n c:Nat} {us:List Rule} {w:List Nat} (h:Wp cs n us) (nd:cs.Nodup) (e:cs[n]? = some c) (h1:w.length≤6) (h2:∀ e∈w,e∈cs):Wp cs (n+1) (us++[(c,w)])∧putK (kvw us) (Sum.inr (one c):Key) (tx w)=kvw (us++[(c,w)]):=by
  refine ⟨⟨?_,fun q hq=>?_⟩,?_⟩
  · have:=h.lt
    unfold ltr at this ⊢
    rw [List.map_append,this,List.take_add_one,e]
    rfl
  · rcases List.mem_append.mp hq with z | z
    · exact h.ok q z
    · rw [List.mem_singleton.mp z];exact ⟨h1,h2⟩
  · rw [putK_new _ (kvw_none (by rw [h.lt];exact not_taken nd e))]
    unfold kvw
    rw [List.map_append]
    rfl
theorem Wp.ws {cs:List Nat} {us:List Rule} (h:Wp cs cs.length us) (nd:cs.Nodup) (h8:cs.length≤8) (ab:∀ c∈cs,97≤c∧c≤122):Ws us∧ltr us=cs:=by
  have e:ltr us=cs:=by rw [h.lt,List.take_length]
  refine ⟨⟨?_,by rw [e];exact nd,by rw [e];exact ab,fun q hq=>(h.ok q hq).1,fun q hq=>by rw [e];exact (h.ok q hq).2⟩,e⟩
  rw [← ltr_len,e]
  exact h8
theorem Wp.len {cs:List Nat} {n:Nat} {us:List Rule} (h:Wp cs n us):us.length≤n:=by
  rw [← ltr_len,h.lt,List.length_take]
  omega
theorem seq_by {a u:L2.TS} {D:Ends} {σ:L2.St} {H:Hp} (Inv:L2.St→Hp→Prop) (h:∀ nx:L2.St→Hp→Prop,(∀ σ' H',Inv σ' H'→nx σ' H')→a { D with nx:=nx } σ H) (k:∀ σ' H',Inv σ' H'→u D σ' H'):tSeq a u D σ H:=h _ k
def rpl (us:List Rule) (c:Nat) (w:List Nat):List Rule:=us.map fun q=>if q.1=c then (q.1,w) else q
theorem rpl_ltr (us:List Rule) (c:Nat) (w:List Nat):ltr (rpl us c w)=ltr us:=by
  unfold rpl
  show List.map _ (List.map _ _)=List.map _ _
  rw [List.map_map]
  refine List.map_congr_left fun q _=>?_
  show (if q.1=c then (q.1,w) else q).1=q.1
  split <;> rfl
theorem rpl_put {us:List Rule} {c:Nat} (w:List Nat) (nd:(ltr us).Nodup) (h:c∈ltr us):putK (kvw us) (Sum.inr (one c):Key) (tx w)=kvw (rpl us c w):=by
  unfold putK
  rw [valV_any,kvw_wd nd h]
  rw [if_pos (show (some (tx (wd us c))).isSome=true from rfl)]
  unfold rpl kvw
  rw [List.map_map,List.map_map]
  refine List.map_congr_left fun q _=>?_
  show (if (Sum.inr (one q.1):Key)=Sum.inr (one c) then ((Sum.inr (one q.1):Key),tx w) else ((Sum.inr (one q.1):Key),tx q.2))=((Sum.inr (one (if q.1=c then (q.1,w) else q).1):Key),tx (if q.1=c then (q.1,w) else q).2)
  by_cases e:q.1=c
  · rw [if_pos e,if_pos (by rw [e])]
  · rw [if_neg e,if_neg fun z=>e (one_inj (Sum.inr.inj z))]
theorem Wp.rpl {cs:List Nat} {n c:Nat} {us:List Rule} {w:List Nat} (h:Wp cs n us) (h1:w.length≤6) (h2:∀ e∈w,e∈cs):Wp cs n (rpl us c w):=by
  refine ⟨by rw [rpl_ltr];exact h.lt,fun q hq=>?_⟩
  obtain ⟨q0,h0,rfl⟩:=List.mem_map.mp hq
  by_cases e:q0.1=c
  · rw [if_pos e];exact ⟨h1,h2⟩
  · rw [if_neg e];exact h.ok q0 h0
theorem arrM:∀ m:Nat,m < 4→∃ v:Nat,([V.int 2,V.int 3,V.int 2,V.int 4]:List V)[m]? = some (V.int (v:Int))∧2≤v∧v≤6
  | 0,_=>⟨2,rfl,by decide,by decide⟩
  | 1,_=>⟨3,rfl,by decide,by decide⟩
  | 2,_=>⟨2,rfl,by decide,by decide⟩
  | 3,_=>⟨4,rfl,by decide,by decide⟩
  | n+4,h=>by omega
theorem arrN:∀ m:Nat,m < 6→∃ v:Nat,([V.int 4,V.int 5,V.int 3,V.int 2,V.int 4,V.int 1]:List V)[m]? = some (V.int (v:Int))∧1≤v∧v≤5
  | 0,_=>⟨4,rfl,by decide,by decide⟩
  | 1,_=>⟨5,rfl,by decide,by decide⟩
  | 2,_=>⟨3,rfl,by decide,by decide⟩
  | 3,_=>⟨2,rfl,by decide,by decide⟩
  | 4,_=>⟨4,rfl,by decide,by decide⟩
  | 5,_=>⟨1,rfl,by decide,by decide⟩
  | n+6,h=>by omega
theorem arrT:∀ m:Nat,m < 3→∃ v:Nat,([V.int 2,V.int 2,V.int 8]:List V)[m]? = some (V.int (v:Int))∧v≤8
  | 0,_=>⟨2,rfl,by decide⟩
  | 1,_=>⟨2,rfl,by decide⟩
  | 2,_=>⟨8,rfl,by decide⟩
  | n+3,h=>by omega
end Lw
namespace Lw
open PySem L2 PyProof.Rows
theorem body_go {K:PySem.W.Frag} {D:Ends} {p l d:Addr} {v1 v3:Option V} {most lo b:Nat} {cs:List Nat} {us:List Rule} {v8 v9 v10 v11 v12 v20:Option V} {H0 H1:Hp} (hm1:2≤most) (hm2:most≤6) (hnd:cs.Nodup) (h8:cs.length≤8) (hlp:l≠p) (ndp:d≠p) (nd:H0 d=none) (hL:H0 l=some (.lst (cs.map sign))) (hlt:lo < cs.length) (hb:b≤800000)
    (hB:But p H0 H1) (hP:PenAt H1 p b) (hd:H1 d=some (.dK (kvw us))) (hW:Wp cs lo us)
    (hnx : ∀ (lo':Nat) (us':List Rule) (v8 v9 v10 v11 v12:Option V) (H':Hp),lo < lo'→lo'≤cs.length→But p H0 H'→PenAt H' p (b+3+10 * (lo' - lo))→H' d=some (.dK (kvw us'))→Wp cs lo' us'→D.nx [some (.ref p),v1,some (.int (most:Int)),v3,some (.ref l),some (.ref d),some (.int (lo':Int)),v8,v9,v10,v11,v12,v20] H') :
                (tSeq
                  (tAsg
                    (tCB (fun xs H Q=>∃ i j,xs=[V.int i,V.int j]∧Q (V.int (if j < i then j else i)) H)
                      (tCons (tCB (rLen K) (tCons (tVar 4) tNil))
                        (tCons
                          (tOp (rI0 fun i j=>V.int (i+j))
                            (tOp (rI0 fun i j=>V.int (i+j)) (tVar 6) (tC (V.int 1)))
                            (tCall spTak [] E0 (tCons (tVar 0) (tCons (tC (V.int 3)) tNil))))
                          tNil)))
                    (gName 7))
                  (tSeq
                    (tAsg
                      (tOp (rI0 fun i j=>V.bl (decide (j < i)))
                        (tCall spTak [] E0 (tCons (tVar 0) (tCons (tC (V.int 5)) tNil))) (tC (V.int 0)))
                      (gName 8))
                    (tSeq
                      (tFor (iRng2 (tCons (tVar 6) (tCons (tVar 7) tNil))) (gName 9)
                        (tSeq
                          (tAsg
                            (tCall spTxt [] E0
                              (tCons (tVar 0)
                                (tCons (tSl (rSlL K) (tVar 4) tNoPart (tPart (tVar 6)))
                                  (tCons (tCall spTak [] E0 (tCons (tVar 0) (tCons (tVar 2) tNil))) tNil))))
                            (gName 10))
                          (tSeq
                            (tIfS (tB (tVar 8))
                              (tSeq
                                (tAsg
                                  (tCall spTak [] E0
                                    (tCons (tVar 0)
                                      (tCons
                                        (tOp (rI0 fun i j=>V.int (i+j))
                                          (tCB
                                            (fun xs H Q =>
                                              ∃ z,xs=[V.str z]∧z.length≤sizeLine∧Q (V.int ↑z.length) H)
                                            (tCons (tVar 10) tNil))
                                          (tC (V.int 1)))
                                        tNil)))
                                  (gName 11))
                                (tAsg
                                  (tOp
                                    (fun x y H Q =>
                                      ∃ i j,
                                        x = V.str i ∧
                                          y=V.str j∧i.length+j.length≤sizeLine∧Q (V.str (i++j)) H)
                                    (tOp
                                      (fun x y H Q =>
                                        ∃ i j,
                                          x = V.str i ∧
                                            y=V.str j∧i.length+j.length≤sizeLine∧Q (V.str (i++j)) H)
                                      (tSl rSlS (tVar 10) tNoPart (tPart (tVar 11)))
                                      (tOp (rIxL K) (tVar 4)
                                        (tOp (rI0 fun i j=>V.int (i+j)) (tVar 6)
                                          (tOp (rI (fun x j=>0 < j) fun i j=>V.int (i % j))
                                            (tOp (rI0 fun i j=>V.int (i - j))
                                              (tOp (rI0 fun i j=>V.int (i+j)) (tVar 9) (tC (V.int 1))) (tVar 6))
                                            (tOp (rI0 fun i j=>V.int (i - j)) (tVar 7) (tVar 6))))))
                                    (tSl rSlS (tVar 10) (tPart (tVar 11)) tNoPart))
                                  (gName 10)))
                              tNext)
                            (sDPut (tVar 5) (tOp (rIxL K) (tVar 4) (tVar 9)) (tVar 10)))))
                      (tAsg (tVar 7) (gName 6))))) D [some (.ref p),v1,some (.int (most:Int)),v3,some (.ref l),some (.ref d),some (.int (lo:Int)),v8,v9,v10,v11,v12,v20] H1:=by
  have but3:∀ {Ha Hb:Hp},(∀ c,c≠p→Hb c=Ha c)→But p Ha Hb:=fun e c o h n=>(e c n).trans h
  have el:((cs.map sign).length:Int)=(cs.length:Int):=by rw [List.length_map]
  have hL1:=hB l _ hL hlp
  refine ⟨_,rfl,l,_,rfl,.inl (SqL.of hL1),_,rfl,_,_,rfl,rfl,_,rfl,p,b,_,rfl,hP,by omega,by omega,by omega,fun z1 H2 z10 z11 hP2 e2=>?_⟩
  refine ⟨_,_,rfl,rfl,_,_,rfl,?_⟩
  obtain ⟨hi,ehi,hi1,hi2⟩:∃ hi:Nat,(if (lo:Int)+1+z1 < ((cs.map sign).length:Int) then (lo:Int)+1+z1 else ((cs.map sign).length:Int))=(hi:Int)∧lo < hi∧hi≤cs.length:=by
    rw [el]
    split
    · exact ⟨((lo:Int)+1+z1).toNat,by omega,by omega,by omega⟩
    · exact ⟨cs.length,rfl,hlt,Nat.le_refl _⟩
  rw [ehi]
  refine ⟨_,rfl,p,b+1,_,rfl,hP2,by omega,by omega,by omega,fun z2 H4 z20 z21 hP4 e4=>?_⟩
  refine ⟨_,_,rfl,rfl,?_⟩
  have hB4:But p H0 H4:=hB.trans ((but3 e2).trans (but3 e4))
  have hd4:H4 d=some (.dK (kvw us)):=(e4 d ndp).trans ((e2 d ndp).trans hd)
  refine ⟨_,rfl,_,rfl,(lo:Int),(hi:Int),rfl,⟨by omega,by omega,by omega,by omega⟩,?_⟩
  have en:((hi:Int) - (lo:Int)).toNat=hi - lo:=by omega
  rw [en]
  refine for_by (sure_range (lo:=(lo:Int)) (n:=hi - lo)) (fun i σ H8=>∃ (us':List Rule) (v10 v11 v12:Option V),σ=[some (.ref p),v1,some (.int (most:Int)),v3,some (.ref l),some (.ref d),some (.int (lo:Int)),some (.int (hi:Int)),some (.bl (decide ((0:Int) < z2))),v10,v11,v12,v20]∧i≤hi - lo∧But p H0 H8∧PenAt H8 p (b+3+10 * i)∧H8 d=some (.dK (kvw us'))∧Wp cs (lo+i) us')
    ⟨us,_,_,_,rfl,Nat.zero_le _,hB4,hP4.mono (by omega),hd4,hW⟩ (fun _ _ _ _ _=>trivial) ?_ ?_
  · rintro i x σ H8 hx ⟨us',v10,v11,v12,rfl,hi8,hB8,hP8,hd8,hW8⟩
    obtain ⟨hin,rfl⟩:=rng_lo hx
    have hL8:=hB8 l _ hL hlp
    obtain ⟨op8,hop8⟩:=hP8.some
    refine ⟨_,rfl,_,rfl,_,rfl,_,rfl,l,_,rfl,SqL.of hL8,fun t ht=>?_⟩
    have npt:p≠t:=ne_of_none hop8 ht
    have ndt:d≠t:=ne_of_none hd8 ht
    refine ⟨_,rfl,_,rfl,p,b+3+10 * i,_,rfl,hP8.other (upd_ne npt),by omega,by omega,by omega,fun z3 H9 z30 z31 hP9 e9=>?_⟩
    obtain ⟨m3,rfl⟩:∃ m:Nat,z3=(m:Int):=⟨z3.toNat,by omega⟩
    have ht9:H9 t=some (.lst ((cutN cs none (some (lo:Int))).map sign)):=by rw [e9 t npt.symm,upd_same,cut_sign]
    refine ⟨p,t,b+3+10 * i+1,m3,_,rfl,hP9,by omega,by omega,ht9,Nat.le_trans (cutN_len cs _ _) (by omega),npt.symm,fun w0 H10 w0l _ w0i0 hB10 hP10=>?_⟩
    have w0i:∀ c∈w0,c∈cs:=fun c hc=>cutN_in (w0i0 c hc)
    have hB810:But p H8 H10:=(But.same (Same.add ht)).trans ((but3 e9).trans hB10)
    have hBx:But p H0 H10:=hB8.trans hB810
    have hdx:=hB810 d _ hd8 ndp
    have hLx:=hB810 l _ hL8 hlp
    have hat:lo+i < cs.length:=by omega
    obtain ⟨w1,ew1⟩:∃ w1,w1=w0:=⟨w0,rfl⟩
    subst ew1
    have w1l:w1.length≤5:=by omega
    have w1i:=w0i
    have e1110:True:=trivial
    have w1s:(⟨w1.toArray⟩:Str).length≤sizeLine:=szl (show w1.length≤1000 by omega)
    dsimp only [gName]
    refine seq_by (fun σ H11=>∃ (w2:List Nat) (v12:Option V),σ=[some (.ref p),v1,some (.int (most:Int)),v3,some (.ref l),some (.ref d),some (.int (lo:Int)),some (.int (hi:Int)),some (.bl (decide ((0:Int) < z2))),some (.int ((lo:Int)+(i:Int))),some (tx w2),v12,v20]∧w2.length≤6∧(∀ c∈w2,c∈cs)∧But p H10 H11∧PenAt H11 p (b+3+10 * (i+1))) (fun nx hn=>?_) ?_
    · refine ⟨_,rfl,_,rfl,ite2 (fun _=>?_) (fun _=>hn _ _ ⟨w1,_,rfl,by omega,w1i,But.refl _ _,hP10.mono (by omega)⟩)⟩
      refine ⟨_,rfl,_,rfl,⟨w1.toArray⟩,rfl,w1s,_,_,rfl,rfl,p,b+3+10 * i+1+m3,_,rfl,hP10,by omega,(by show (0:Int) < ((w1.length:Nat):Int)+1;omega),(by show ((w1.length:Nat):Int)+1≤_;omega),fun z4 H11 z40 z41 hP11 e11=>?_⟩
      have z41':z4 < ((w1.length:Nat):Int)+1:=z41
      obtain ⟨j,rfl⟩:∃ j:Nat,z4=(j:Int):=⟨z4.toNat,by omega⟩
      have hj:j≤w1.length:=by omega
      have hL11:H11 l=some (.lst (cs.map sign)):=(e11 l hlp).trans hLx
      refine ⟨_,rfl,_,rfl,(j:Int),rfl,⟨w1.toArray⟩,rfl,w1s,?_⟩
      rw [slice_take]
      obtain ⟨m,hm,hm2'⟩:∃ m:Nat,(lo:Int)+((lo:Int)+(i:Int)+1 - (lo:Int)) % ((hi:Int) - (lo:Int))=(m:Int)∧m < cs.length:=by
        have a1:=Int.emod_nonneg ((lo:Int)+(i:Int)+1 - (lo:Int)) (show ((hi:Int) - (lo:Int))≠0 by omega)
        have a2:=Int.emod_lt_of_pos ((lo:Int)+(i:Int)+1 - (lo:Int)) (show (0:Int) < ((hi:Int) - (lo:Int)) by omega)
        exact ⟨((lo:Int)+((lo:Int)+(i:Int)+1 - (lo:Int)) % ((hi:Int) - (lo:Int))).toNat,by omega,by omega⟩
      refine ⟨_,rfl,_,rfl,_,rfl,_,_,rfl,rfl,_,rfl,_,_,rfl,rfl,_,rfl,_,rfl,_,_,rfl,rfl,_,_,rfl,rfl,(by show (0:Int) < (hi:Int) - (lo:Int);omega),_,_,rfl,rfl,l,_,_,sign cs[m],rfl,rfl,SqL.of hL11,(by rw [hm];exact atI_nat (by rw [List.getElem?_map,List.getElem?_eq_getElem hm2'];rfl)),?_⟩
      have lt1:(w1.take j).length≤5:=by rw [List.length_take];omega
      refine ⟨⟨(w1.take j).toArray⟩,⟨#[cs[m]]⟩,rfl,rfl,szl (show (w1.take j).length+1≤1000 by omega),?_⟩
      rw [show ((⟨(w1.take j).toArray⟩:Str)++(⟨#[cs[m]]⟩:Str))=⟨(w1.take j++[cs[m]]).toArray⟩ from tx_app _ [cs[m]]]
      refine ⟨_,rfl,_,rfl,(j:Int),rfl,⟨w1.toArray⟩,rfl,w1s,?_⟩
      rw [slice_drop w1 j hj]
      have lw:(w1.take j++[cs[m]]++w1.drop j).length≤6:=by
        simp only [List.length_append,List.length_take,List.length_drop,List.length_cons,List.length_nil]
        omega
      refine ⟨⟨(w1.take j++[cs[m]]).toArray⟩,⟨(w1.drop j).toArray⟩,rfl,rfl,szl (show (w1.take j++[cs[m]]).length+(w1.drop j).length≤1000 by rw [← List.length_append];omega),?_⟩
      rw [tx_app]
      refine hn _ _ ⟨_,_,rfl,lw,fun c hc=>?_,but3 e11,hP11.mono (by omega)⟩
      rcases List.mem_append.mp hc with hc | hc
      · rcases List.mem_append.mp hc with hc | hc
        · exact w1i c (List.mem_of_mem_take hc)
        · rw [List.mem_singleton.mp hc];exact List.getElem_mem hm2'
      · exact w1i c (List.mem_of_mem_drop hc)
    · rintro σ H11 ⟨w2,v12,rfl,w2l,w2i,hB11,hP11⟩
      have hL11:=hB11 l _ hLx hlp
      have hd11:=hB11 d _ hdx ndp
      have ix:atI (cs.map sign) ((lo:Int)+(i:Int))=some (sign cs[lo+i]):=by
        have:(lo:Int)+(i:Int)=((lo+i:Nat):Int):=by omega
        rw [this]
        exact atI_nat (by rw [List.getElem?_map,List.getElem?_eq_getElem hat];rfl)
      obtain ⟨hW2,eput⟩:=hW8.put hnd (List.getElem?_eq_getElem hat) w2l w2i
      have ul:=hW8.len
      refine ⟨_,rfl,_,rfl,_,rfl,_,rfl,l,_,_,_,rfl,rfl,SqL.of hL11,ix,d,_,rfl,DPut.k (k:=(Sum.inr (one cs[lo+i]):Key)) hd11 (small1000 (by unfold kvw;rw [List.length_map];omega)),?_⟩
      rw [eput]
      refine ⟨_,_,_,_,rfl,by omega,fun c o h n=>?_,hP11.other (upd_ne ndp.symm),upd_same,hW2⟩
      rw [upd_ne (ne_of_none h nd)]
      exact hB11 c o (hBx c o h n) n
  · rintro σ H8 ⟨us',v10,v11,v12,rfl,hi8,hB8,hP8,hd8,hW8⟩
    rw [rngV_length] at hP8 hW8
    rw [show lo+(hi - lo)=hi by omega] at hW8
    exact ⟨_,rfl,hnx hi us' _ _ _ _ _ H8 hi1 hi2 hB8 hP8 hd8 hW8⟩
end Lw
namespace Lw
open PySem L2 PyProof.Rows
section
variable {P:Program} {w:World} {K:PySem.W.Frag} {mg:Str→Option Value} {base:Heap}
def spLwd:Sp:=fun vs H Q _=>∃ (p:Addr) (b:Nat),vs=[.ref p]∧PenAt H p b∧b≤700000 ∧
  ∀ (d:Addr) (us:List Rule) H',H d=none→But p H H'→PenAt H' p (b+600)→H' d=some (.dK (kvw us))→Ws us→1≤us.length→us.length≤5→Q (.ref d) H'
theorem scLwd:FnScope ["_law_pen_here","_law_pick","_law_most","_law_rest","_law_signs","_law_words_here","_law_low","_law_high","_law_ringed","_law_at","_law_text_here","_law_spot","_law_sign"] ["_law_pen_here"] (defScope sLwd):=⟨rfl,rfl,rfl,by decide +kernel,rfl,by decide +kernel,by decide +kernel⟩
theorem nd_lwd1:(["_law_k","_law_rest","_law_pen_here"]:List Str).Nodup:=by decide +kernel
theorem ok_lwd {f fTak fTxt:Addr} {fd fdTak fdTxt:FuncData} (F:Fun K "_law_words" "_law_words" sLwd f fd)
    (GTak:FnOk P w K mg base CX0 1 fTak fdTak ["_law_pen_here","_law_size"] spTak)
    (gTak:Gf K mg "_law_take" fTak fdTak ["_law_pen_here","_law_size"])
    (GTxt:FnOk P w K mg base CX0 2 fTxt fdTxt ["_law_pen_here","_law_signs","_law_many"] spTxt)
    (gTxt:Gf K mg "_law_text" fTxt fdTxt ["_law_pen_here","_law_signs","_law_many"])
    (hlen:mg "len" = none)
    (hrange:mg "range" = none)
    (hlist:mg "list" = none)
    (hmin:mg "min" = none)
    : FnOk P w K mg base CX0 3 f fd ["_law_pen_here"] spLwd:=by
  refine F.ok scLwd (fun vs H Q E h=>?_) (fun cdv A outer s H vs Q E hr h=>?_)
  · obtain ⟨p,b,rfl,_⟩:=h
    rfl
  · obtain ⟨p,b,rfl,hp,hb,q⟩:=h
    have hr1:Room 1 _:=hr.mono (by decide)
    have hu:=hu_of hr
    refine ⟨_,(pss_cons (ps_set (i:=1) scLwd.nd rfl (Or.inl rfl) (pe_call GTak hr1 rfl gTak.m gTak.k gTak.b .nil pass0 (pa_cons (pv 0) (pa_cons pe_int pa_nil))))
      (pss_cons (ps_set (i:=2) scLwd.nd rfl (Or.inl rfl) (pe_ix (ix_listK K) (pe_lst (pa_cons pe_int (pa_cons pe_int (pa_cons pe_int (pa_cons pe_int pa_nil))))) (pe_call GTak hr1 rfl gTak.m gTak.k gTak.b .nil pass0 (pa_cons (pv 0) (pa_cons pe_int pa_nil))) (fun _ _=>rfl)))
      (pss_cons (ps_set (i:=3) scLwd.nd rfl (Or.inr rfl) (pe_callTy (call_list_text rfl) (by rfl) hlist (by first | exact PySem.boot_list | decide +kernel) (pa_cons pe_str pa_nil)))
      (pss_cons (ps_setC (i:=4) (N':=["_law_k","_law_rest","_law_pen_here"]) (ix:=[none,some 3,some 0]) scLwd.nd rfl rfl rfl rfl (pi_range1 rfl hrange (pa_cons (pe_ix (ix_listK K) (pe_lst (pa_cons pe_int (pa_cons pe_int (pa_cons pe_int (pa_cons pe_int (pa_cons pe_int (pa_cons pe_int pa_nil))))))) (pe_call GTak hr1 rfl gTak.m gTak.k gTak.b .nil pass0 (pa_cons (pv 0) (pa_cons pe_int pa_nil))) (fun _ _=>rfl)) pa_nil)) (fun _ _ _ _ _ _=>(pg_name (i:=0) nd_lwd1 rfl (Or.inl rfl))) (fun _ _ _ _ _ _=>pts_nil) (fun _ _ _ _ _ _=>(pe_bmK K PySem.F.plainAttrs_list PySem.F.slot_list_pop PySem.F.type_list_pop mt_popAt (pv 1) (pa_cons (pe_call GTak hr1 rfl gTak.m gTak.k gTak.b .nil pass0 (pa_cons (pv 2) (pa_cons (pe_callB (call_lenK K) (by rfl) hlen PySem.boot_len (pa_cons (pv 1) pa_nil)) pa_nil))) pa_nil))))
      (pss_cons (ps_set (i:=5) scLwd.nd rfl (Or.inl rfl) pe_dnewK)
      (pss_cons (ps_set (i:=6) scLwd.nd rfl (Or.inl rfl) pe_int)
      (pss_cons (ps_while PassesOwn.never (pt_cmpR op_lt (pv 6) (pe_callB (call_lenK K) (by rfl) hlen PySem.boot_len (pa_cons (pv 4) pa_nil)) (nomark _)) (pss_cons (ps_set (i:=7) scLwd.nd rfl (Or.inl rfl) (pe_callB (call_min2 rfl) (by rfl) hmin (show bootBuiltins "min" = some (.builtin "min") by decide +kernel) (pa_cons (pe_callB (call_lenK K) (by rfl) hlen PySem.boot_len (pa_cons (pv 4) pa_nil)) (pa_cons (pe_op op_add (pe_op op_add (pv 6) pe_int) (pe_call GTak hr1 rfl gTak.m gTak.k gTak.b .nil pass0 (pa_cons (pv 0) (pa_cons pe_int pa_nil)))) pa_nil))))
      (pss_cons (ps_set (i:=8) scLwd.nd rfl (Or.inl rfl) (pe_cmpR op_gt (pe_call GTak hr1 rfl gTak.m gTak.k gTak.b .nil pass0 (pa_cons (pv 0) (pa_cons pe_int pa_nil))) pe_int (nomark _)))
      (pss_cons (ps_for PassesOwn.never rfl (pi_range2 rfl hrange (pa_cons (pv 6) (pa_cons (pv 7) pa_nil))) (pg_name (i:=9) scLwd.nd rfl (Or.inl rfl)) (pss_cons (ps_set (i:=10) scLwd.nd rfl (Or.inl rfl) (pe_call GTxt hr rfl gTxt.m gTxt.k gTxt.b .nil pass0 (pa_cons (pv 0) (pa_cons (pe_slice (sl_listK K) (pv 4) po_none (po_some (pv 6))) (pa_cons (pe_call GTak hr1 rfl gTak.m gTak.k gTak.b .nil pass0 (pa_cons (pv 0) (pa_cons (pv 2) pa_nil))) pa_nil)))))
      (pss_cons (ps_if (pt_val (pv 8)) (pss_cons (ps_set (i:=11) scLwd.nd rfl (Or.inl rfl) (pe_call GTak hr1 rfl gTak.m gTak.k gTak.b .nil pass0 (pa_cons (pv 0) (pa_cons (pe_op op_add (pe_callB call_len_str (by rfl) hlen PySem.boot_len (pa_cons (pv 10) pa_nil)) pe_int) pa_nil))))
      (pss_one (ps_set (i:=10) scLwd.nd rfl (Or.inl rfl) (pe_op op_add_str (pe_op op_add_str (pe_slice sl_str (pv 10) po_none (po_some (pv 11))) (pe_ix (ix_listK K) (pv 4) (pe_op op_add (pv 6) (pe_op op_mod (pe_op op_sub (pe_op op_add (pv 9) pe_int) (pv 6)) (pe_op op_sub (pv 7) (pv 6)))) (fun _ _=>rfl))) (pe_slice sl_str (pv 10) (po_some (pv 11)) po_none))))) pss_nil)
      (pss_one (ps_dput hu (pv 5) (pe_ix (ix_listK K) (pv 4) (pv 9) (fun _ _=>rfl)) (pv 10) rfl)))))
      (pss_one (ps_set (i:=6) scLwd.nd rfl (Or.inl rfl) (pv 7)))))))
      (pss_cons (ps_for PassesOwn.never rfl (pi_listK K (pv 4)) (pg_name (i:=12) scLwd.nd rfl (Or.inl rfl)) (pss_one (ps_if (pt_cmpR op_eq (pv 1) pe_int (nomark _)) (pss_one (ps_dput hu (pv 5) (pv 12) (pe_call GTxt hr rfl gTxt.m gTxt.k gTxt.b .nil pass0 (pa_cons (pv 0) (pa_cons (pv 4) (pa_cons (pe_call GTak hr1 rfl gTak.m gTak.k gTak.b .nil pass0 (pa_cons (pv 0) (pa_cons pe_int pa_nil))) pa_nil)))) rfl)) pss_nil)))
      (pss_one (ps_ret (pv 5))))))))))),?_⟩
    have but3:∀ {Ha Hb:Hp},(∀ c,c≠p→Hb c=Ha c)→But p Ha Hb:=fun e c o h n=>(e c n).trans h
    refine ⟨_,rfl,p,b,_,rfl,hp,by omega,by decide,by decide,fun zp Hz zp0 zp1 hPz ez=>?_⟩
    refine ⟨(by show 4≤sizeLine;decide),fun t1 ht1=>?_⟩
    obtain ⟨op0,hop0⟩:=hPz.some
    have np1:p≠t1:=ne_of_none hop0 ht1
    refine ⟨_,rfl,p,b+1,_,rfl,hPz.other (upd_ne np1),by omega,by decide,by decide,fun z1 H2 z10 z11 hP2 e2=>?_⟩
    obtain ⟨m1,rfl⟩:∃ m:Nat,z1=(m:Int):=⟨z1.toNat,by omega⟩
    obtain ⟨most,hmo,hm1,hm2⟩:=arrM m1 (by omega)
    refine ⟨t1,_,_,_,rfl,rfl,SqL.of ((e2 t1 np1.symm).trans upd_same),atI_nat hmo,?_⟩
    have hB2:But p H H2:=(but3 ez).trans ((But.same (Same.add ht1)).trans (but3 e2))
    refine ⟨_,rfl,by decide +kernel,fun l0 hl0=>?_⟩
    rw [abc_str]
    obtain ⟨op2,hop2⟩:=hP2.some
    have np:p≠l0:=ne_of_none hop2 hl0
    refine ⟨(by show 6≤sizeLine;decide),fun t3 ht3=>?_⟩
    have np3:p≠t3:=ne_of_none (o:=op2) (by rw [upd_ne np];exact hop2) ht3
    have n03:l0≠t3:=ne_of_none upd_same ht3
    refine ⟨_,rfl,p,b+2,_,rfl,(hP2.other (upd_ne np)).other (upd_ne np3),by omega,by decide,by decide,fun z3 H3 z30 z31 hP3 e3=>?_⟩
    obtain ⟨m3,rfl⟩:∃ m:Nat,z3=(m:Int):=⟨z3.toNat,by omega⟩
    obtain ⟨n,hn,hn1,hn8⟩:=arrN m3 (by omega)
    refine ⟨t3,_,_,_,rfl,rfl,SqL.of ((e3 t3 np3.symm).trans upd_same),atI_nat hn,?_⟩
    have h03:H3 l0=some (.lst (abc.map sign)):=by rw [e3 l0 np.symm,upd_ne n03,upd_same]
    have hB3:But p H2 H3:=(But.same (Same.add hl0)).trans ((But.same (Same.add ht3)).trans (but3 e3))
    refine ⟨_,rfl,by omega,by omega,comp_allR (τ0:=[none,some (V.ref l0),some (V.ref p)]) (sure_range (lo:=0) (n:=Int.toNat (n:Int))) (by rw [rngV_length];omega)
      (fun i ys τ H4=>∃ taken rem,ys=taken.map sign∧taken.length=i∧(taken++rem).Perm abc∧H4 l0=some (.lst (rem.map sign))∧But p H2 H4∧PenAt H4 p (b+3+i)∧∃ v,τ=[v,some (.ref l0),some (.ref p)])
      ⟨[],abc,rfl,rfl,List.Perm.refl _,h03,hB3,hP3,_,rfl⟩ ?_ ?_ ?_⟩
    · rintro i ys τ H4 hi ⟨taken,rem,rfl,e,_⟩
      exact ⟨trivial,by rw [List.length_map];omega⟩
    · rintro i x ys τ H4 hx ⟨taken,rem,rfl,et,hPm,hR,hBt,hPn,v,rfl⟩
      have hi:i < n:=by
        have:=(List.getElem?_eq_some_iff.mp hx).1
        rw [rngV_length] at this
        simpa using this
      have hlen26:rem.length=26 - i:=by
        have:=hPm.length_eq
        rw [List.length_append,et] at this
        have e26:abc.length=26:=rfl
        omega
      have el:((rem.map sign).length:Int)=(rem.length:Int):=by rw [List.length_map]
      refine ⟨_,rfl,.inl ⟨rfl,_,SqL.of hR⟩,_,rfl,_,rfl,l0,_,rfl,.inl (SqL.of hR),p,b+3+i,_,rfl,hPn,by omega,by rw [el];omega,by rw [el];omega,fun zz H5 zz0 zz1 hP5 e5=>?_⟩
      rw [el] at zz1
      obtain ⟨j,rfl⟩:∃ j:Nat,zz=(j:Int):=⟨zz.toNat,by omega⟩
      have hj:j < rem.length:=by omega
      have hat:(rem.map sign)[j]? = some (sign rem[j]):=by rw [List.getElem?_map,List.getElem?_eq_getElem hj];rfl
      obtain ⟨j',s1,s2,_⟩:=atI_get (atI_nat hat)
      have ejj:j'=j:=by
        obtain ⟨q1,_⟩:=ixN_seq (n:=(rem.map sign).length) (i:=(j:Int)) (j:=j) (by
          unfold ixN
          rw [if_pos (by omega),if_pos (by rw [el];omega)]
          simp)
        rw [q1] at s1
        exact (Option.some.inj s1).symm
      subst ejj
      refine ⟨l0,_,_,j',_,rfl,rfl,(e5 l0 np.symm).trans hR,by omega,by omega,s1,s2,?_⟩
      refine ⟨taken++[rem[j']],rem.eraseIdx j',by rw [List.map_append];rfl,by rw [List.length_append,et];rfl,?_,?_,?_,?_,_,rfl⟩
      · refine List.Perm.trans ?_ hPm
        rw [List.append_assoc]
        exact List.Perm.append_left taken (perm_erase (List.getElem?_eq_getElem hj)).symm
      · rw [upd_same,map_erase]
      · intro c o hc hne
        have nl:c≠l0:=ne_of_none hc hl0
        rw [upd_ne nl,e5 c hne]
        exact hBt c o hc hne
      · exact (hP5.other (upd_ne np)).mono (by omega)
    rintro ys τ H4 l ⟨cs,rem,rfl,et,hPm,hR,hBt,hPn,v,rfl⟩ nl
    have e:(rngV 0 (Int.toNat (n:Int))).length=n:=by rw [rngV_length];simp
    rw [e] at et hPn
    have hnd:cs.Nodup:=(List.nodup_append.mp (hPm.nodup_iff.mpr abc_nd)).1
    have habc:∀ c∈cs,97≤c∧c≤122:=fun c hc=>abc_in c (hPm.mem_iff.mp (List.mem_append_left _ hc))
    obtain ⟨op4,hop4⟩:=hPn.some
    have nlp:l≠p:=(ne_of_none hop4 nl).symm
    have h8:cs.length≤8:=by omega
    have hB4:But p H (upd H4 l (.lst (cs.map sign))):=hB2.trans (hBt.trans (But.same (Same.add nl)))
    have hL4:(upd H4 l (.lst (cs.map sign))) l=some (.lst (cs.map sign)):=upd_same
    have hP4:PenAt (upd H4 l (.lst (cs.map sign))) p (b+13):=(hPn.other (upd_ne nlp.symm)).mono (by omega)
    revert hB4 hL4 hP4
    generalize upd H4 l (.lst (cs.map sign))=H5
    intro hB4 hL4 hP4
    obtain ⟨op5,hop5⟩:=hP4.some
    intro d nd
    have ndp:d≠p:=(ne_of_none hop5 nd).symm
    have ndH:H d=none:=hB4.free ndp nd
    have nld:l≠d:=ne_of_none hL4 nd
    have el:((cs.map sign).length:Int)=(cs.length:Int):=by rw [List.length_map]
    refine ⟨fun qq σ Ha=>∃ (lo:Nat) (us:List Rule) (v8 v9 v10 v11 v12 v20:Option V),σ=[some (.ref p),some (.int zp),some (.int (most:Int)),some (.ref l0),some (.ref l),some (.ref d),some (.int (lo:Int)),v8,v9,v10,v11,v12,v20]∧qq=cs.length - lo∧lo≤cs.length∧But p H5 Ha∧PenAt Ha p (b+13+30 * lo)∧Ha d=some (.dK (kvw us))∧Wp cs lo us,
      ⟨_,0,[],_,_,_,_,_,_,rfl,rfl,Nat.zero_le _,But.same (Same.add nd),hP4.other (upd_ne ndp.symm),upd_same,⟨rfl,fun q hq=>by cases hq⟩⟩,?_⟩
    rintro qq σ Ha ⟨lo,us,v8,v9,v10,v11,v12,v20,rfl,rfl,hlo,hBa,hPa,hda,hWa⟩
    have hLa:=hBa l _ hL4 nlp
    refine ⟨_,rfl,_,rfl,l,_,rfl,.inl (SqL.of hLa),_,_,rfl,rfl,_,rfl,?_⟩
    refine ite2 (fun hc=>?_) (fun hc=>?_)
    · have hlt:lo < cs.length:=by
        have:=of_decide_eq_true hc
        rw [el] at this
        omega
      refine ⟨fun σ' H'=>∃ (lo':Nat) (us':List Rule) (v8 v9 v10 v11 v12 v20:Option V),σ'=[some (.ref p),some (.int zp),some (.int (most:Int)),some (.ref l0),some (.ref l),some (.ref d),some (.int (lo':Int)),v8,v9,v10,v11,v12,v20]∧lo < lo'∧lo'≤cs.length∧But p H5 H'∧PenAt H' p (b+13+30 * lo')∧H' d=some (.dK (kvw us'))∧Wp cs lo' us',?_,?_⟩
      · rintro σ' H' ⟨lo',us',v8,v9,v10,v11,v12,v20,rfl,h1,h2,h3,h4,h5,h6⟩
        exact ⟨cs.length - lo',by omega,lo',us',_,_,_,_,_,_,rfl,rfl,h2,h3,h4,h5,h6⟩
      · exact body_go hm1 hm2 hnd h8 nlp ndp nd hL4 hlt (by omega) hBa hPa hda hWa fun lo' us' v8 v9 v10 v11 v12 H' h1 h2 h3 h4 h5 h6=>⟨lo',us',_,_,_,_,_,_,rfl,h1,h2,h3,h4.mono (by omega),h5,h6⟩
    · have hge:lo=cs.length:=by
        by_cases zz:lo < cs.length
        · exact absurd (decide_eq_true (show (lo:Int) < ((cs.map sign).length:Int) by rw [el];omega)) hc
        · omega
      subst hge
      have cpos:1≤cs.length:=by omega
      obtain ⟨hWs,elt⟩:=hWa.ws hnd h8 habc
      have hul:=hWa.len
      refine ⟨_,rfl,l,rfl,⟨_,SqL.of hLa⟩,?_⟩
      refine for_by (sure_list (xs:=cs.map sign)) (fun i σ Hb=>∃ (us':List Rule) (v20:Option V),σ=[some (.ref p),some (.int zp),some (.int (most:Int)),some (.ref l0),some (.ref l),some (.ref d),some (.int (cs.length:Int)),v8,v9,v10,v11,v12,v20]∧i≤cs.length∧But p H5 Hb∧PenAt Hb p (b+13+30 * cs.length+8 * i)∧Hb d=some (.dK (kvw us'))∧Wp cs cs.length us') ⟨us,v20,rfl,Nat.zero_le _,hBa,hPa,hda,hWa⟩ ?_ ?_ ?_
      · rintro i σ Hb hi ⟨us',v20,rfl,_,hBb,_⟩
        exact SqL.of (hBb l _ hL4 nlp)
      · rintro i x σ Hb hx ⟨us',v20,rfl,hi,hBb,hPb,hdb,hWb⟩
        rw [List.getElem?_map] at hx
        cases ec:cs[i]? with
        | none=>rw [ec] at hx;cases hx
        | some c =>
          rw [ec] at hx
          cases hx
          have hil:i < cs.length:=(List.getElem?_eq_some_iff.mp ec).1
          refine ⟨_,rfl,rfl,_,rfl,ite2 (fun _=>?_) (fun _=>⟨us',_,rfl,hil,hBb,hPb.mono (by omega),hdb,hWb⟩)⟩
          refine ⟨_,rfl,_,rfl,_,rfl,p,b+13+30 * cs.length+8 * i,_,rfl,hPb,by omega,by decide,by decide,fun zz Hc zz0 zz1 hPc ec'=>?_⟩
          obtain ⟨mm,rfl⟩:∃ m:Nat,zz=(m:Int):=⟨zz.toNat,by omega⟩
          refine ⟨p,l,b+13+30 * cs.length+8 * i+1,mm,cs,rfl,hPc,by omega,by omega,(ec' l nlp).trans (hBb l _ hL4 nlp),by omega,nlp,fun w' Hd w1 _ w2 hBd hPd=>?_⟩
          have hdd:Hd d=some (.dK (kvw us')):=hBd d _ ((ec' d ndp).trans hdb) ndp
          have hul:=hWb.len
          obtain ⟨hWs,elt⟩:=hWb.ws hnd h8 habc
          refine ⟨_,rfl,_,rfl,d,_,rfl,DPut.k (k:=(Sum.inr (one c):Key)) hdd (small1000 (by unfold kvw;rw [List.length_map];omega)),?_⟩
          rw [rpl_put _ hWs.nd (by rw [elt];exact List.mem_of_getElem? ec)]
          refine ⟨_,_,rfl,hil,fun c' o h n=>?_,(hPd.other (upd_ne ndp.symm)).mono (by omega),upd_same,hWb.rpl (by omega) w2⟩
          rw [upd_ne (ne_of_none h nd)]
          exact hBd c' o ((ec' c' n).trans (hBb c' o h n)) n
      · rintro σ Hb ⟨us',v20,rfl,_,hBb,hPb,hdb,hWb⟩
        rw [List.length_map] at hPb
        have elu:us'.length=cs.length:=by rw [← ltr_len,(hWb.ws hnd h8 habc).2]
        exact ⟨_,rfl,q d us' Hb ndH (hB4.trans hBb) (hPb.mono (by omega)) hdb (hWb.ws hnd h8 habc).1 (by omega) (by omega)⟩
end
end Lw
namespace Lw
open PySem L2 PyProof.Rows
theorem hds_take {rs:List Rule} {c:Nat} (h:c∈hds rs):c∈ltr rs∧(rg rs c).take 1=[c]:=by
  obtain ⟨h1,h2⟩:=List.mem_filter.mp h
  exact ⟨h1,of_decide_eq_true h2⟩
theorem hds_one {first:List Nat} {rs:List Rule} (hG:Good first rs) {a b e:Nat} (ha:a∈hds rs) (hb:b∈hds rs) (h1:e∈rg rs a) (h2:e∈rg rs b):a=b:=by
  obtain ⟨a1,a2⟩:=hds_take ha
  obtain ⟨b1,b2⟩:=hds_take hb
  obtain ⟨p1,p2⟩:=(rg_mem hG a1).mp h1
  obtain ⟨q1,q2⟩:=(rg_mem hG b1).mp h2
  have hM:Mut rs a b:=⟨p1.on q2,q1.on p2⟩
  have:=rg_mut hG a1 b1 hM
  rw [this,a2] at b2
  exact (List.cons.inj b2).1
theorem rings_sum {first:List Nat} {rs:List Rule} (hG:Good first rs):∀ {hs:List Nat},hs.Nodup→(∀ h∈hs,h∈hds rs)→((hs.map (rg rs)).flatten).Nodup
  | [],_,_=>List.nodup_nil
  | h :: hs,nd,hh=>by
    obtain ⟨n1,n2⟩:=List.nodup_cons.mp nd
    rw [List.map_cons,List.flatten_cons]
    refine List.nodup_append.mpr ⟨rise_nd (rg_rise hG h),rings_sum hG n2 fun g hg=>hh g (List.mem_cons_of_mem _ hg),fun a ha b hb e=>?_⟩
    obtain ⟨l,hl,hbl⟩:=List.mem_flatten.mp hb
    obtain ⟨g,hg,rfl⟩:=List.mem_map.mp hl
    rw [← e] at hbl
    have:=hds_one hG (hh h List.mem_cons_self) (hh g (List.mem_cons_of_mem _ hg)) ha hbl
    rw [this] at n1
    exact n1 hg
def prodN (l:List Nat):Nat:=l.foldr (· * ·) 1
theorem lcms_prod (l:List Nat):lcms l ∣ prodN l:=lcms_dvd fun a ha=>by
  induction l with
  | nil=>cases ha
  | cons b l ih =>
    rcases List.mem_cons.mp ha with rfl | ha
    · exact Nat.dvd_mul_right a (prodN l)
    · exact Nat.dvd_trans (ih ha) (Nat.dvd_mul_left (prodN l) b)
def f5:Nat→Nat
  | 0=>1 | 1=>1 | 2=>2 | 3=>3 | 4=>4 | _=>6
theorem f5_mul:∀ a,a < 6→∀ s,s < 6→1≤a→a+s≤5→a * f5 s≤f5 (a+s):=by decide
theorem prod_le:∀ {l:List Nat},(∀ a∈l,1≤a)→l.sum≤5→prodN l≤f5 l.sum
  | [],_,_=>Nat.le_refl _
  | a :: l,h,hs=>by
    rw [List.sum_cons] at hs ⊢
    have ih:=prod_le (l:=l) (fun a ha=>h a (List.mem_cons_of_mem _ ha)) (by omega)
    have h1:=h a List.mem_cons_self
    exact Nat.le_trans (Nat.mul_le_mul_left a ih) (f5_mul a (by omega) l.sum (by omega) h1 hs)
theorem f5_le:∀ s,s < 6→f5 s≤6:=by decide
theorem prod_pos:∀ {l:List Nat},(∀ a∈l,1≤a)→1≤prodN l
  | [],_=>Nat.le_refl _
  | a :: l,h=>Nat.mul_pos (h a List.mem_cons_self) (prod_pos fun a ha=>h a (List.mem_cons_of_mem _ ha))
theorem stp_le {first:List Nat} {rs:List Rule} (hG:Good first rs) (h5:rs.length≤5) (x:List Nat):stp rs x≤15:=by
  have nd:(mt rs x).Nodup:=(hG.nd.filter _).filter _
  have n1:=rings_sum hG nd fun h hh=>(mt_mem.mp hh).1
  have n2:=nd_len n1 (L:=ltr rs) fun e he=>by
    obtain ⟨l,hl,hel⟩:=List.mem_flatten.mp he
    obtain ⟨g,_,rfl⟩:=List.mem_map.mp hl
    exact rg_inl hel
  rw [List.length_flatten,List.map_map,ltr_len] at n2
  have e:((mt rs x).map (List.length ∘ rg rs))=(mt rs x).map fun c=>(rg rs c).length:=rfl
  rw [e] at n2
  have pos:∀ a∈(mt rs x).map (fun c=>(rg rs c).length),1≤a:=fun a ha=>(mt_sizes hG x a ha).1
  have h1:=prod_le pos (by omega)
  have h2:=f5_le ((mt rs x).map fun c=>(rg rs c).length).sum (by omega)
  have h3:=Nat.le_of_dvd (prod_pos pos) (lcms_prod ((mt rs x).map fun c=>(rg rs c).length))
  show lcms ((mt rs x).map fun c=>(rg rs c).length)≤15
  omega
theorem dK_step (p a:Nat):∀ (k:Nat) (f:Nat→Int) (t:Nat),dK 1 k (fun t=>f (a+t * p)) t=dK p k f (a+t * p)
  | 0,_,_=>rfl
  | k+1,f,t=>by
    have e:dl 1 (fun t=>f (a+t * p))=fun t=>dl p f (a+t * p):=by
      funext m
      show f (a+(m+1) * p) - f (a+m * p)=f (a+m * p+p) - f (a+m * p)
      rw [Nat.add_mul,Nat.one_mul,Nat.add_assoc]
    show dK 1 k (dl 1 fun t=>f (a+t * p)) t=dK p k (dl p f) (a+t * p)
    rw [e]
    exact dK_step p a k (dl p f) t
theorem dK_mod {m:Int} (p:Nat):∀ (k:Nat) (f g:Nat→Int),(∀ n,f n % m=g n % m)→∀ n,dK p k f n % m=dK p k g n % m
  | 0,_,_,h,n=>h n
  | k + 1,f,g,h,n=>dK_mod p k (dl p f) (dl p g) (fun n=>by
      show (f (n+p) - f n) % m=(g (n+p) - g n) % m
      rw [Int.sub_emod,h (n+p),h n,← Int.sub_emod]) n
theorem round_on {p k m:Nat} {f:Nat→Int} (h:Pol p (k+1) m f):∀ q n,m≤n→dK p k f (n+q * p)=dK p k f n
  | 0,n,_=>by rw [Nat.zero_mul,Nat.add_zero]
  | q+1,n,hn=>by
    have h1:=h (n+q * p) (by omega)
    rw [dK_out] at h1
    have h2:dK p k f (n+q * p+p) - dK p k f (n+q * p)=0:=h1
    rw [Nat.succ_mul,← Nat.add_assoc]
    have ih:=round_on h q n hn
    omega
theorem round_mod {p k m a:Nat} {f:Nat→Int} (h:Pol p (k+1) m f) (ha:m≤a):dK p k f a=dK p k f (m+(a - m) % p):=by
  have e:a=(m+(a - m) % p)+((a - m) / p) * p:=by
    have:=Nat.div_add_mod (a - m) p
    rw [Nat.mul_comm] at this
    omega
  have:=round_on h ((a - m) / p) (m+(a - m) % p) (by omega)
  rw [← e] at this
  exact this
end Lw
namespace Lw
open PySem L2 PyProof.Rows
theorem kvw_ones (us:List Rule):(kvw us).map (·.1)=((ltr us).map one).map Sum.inr:=by
  rw [kvw_keys,List.map_map]
  rfl
structure Like (us rs:List Rule):Prop where
  mem:∀ c,c∈ltr rs ↔ c∈ltr us
  wd:∀ c∈ltr us,wd rs c=wd us c
  len:rs.length=us.length
theorem wd_of {us:List Rule} (h:Ws us) {c:Nat} (hc:c∈ltr us):(wd us c).length≤6∧∀ e∈wd us c,e∈ltr us:=by
  obtain ⟨q,h1,h2,h3⟩:=wd_mem hc
  rw [h3]
  exact ⟨h.wl q h1,h.win q h1⟩
theorem ltr_nt {us:List Rule} (nd:(ltr us).Nodup) {i:Nat} {q:Rule} (e:us[i]? = some q):(ltr us)[i]? = some q.1∧q.1 ∉ (ltr us).take i:=by
  have h1:(ltr us)[i]? = some q.1:=by unfold ltr;rw [List.getElem?_map,e];rfl
  exact ⟨h1,not_taken nd h1⟩
theorem dkF_none {g:Nat→Int}:∀ {L:List Nat} {c:Nat},c ∉ L→valV (dkF L g) (Sum.inr (one c):Key)=none
  | [],c,_=>rfl
  | a :: L,c,h=>by
    unfold dkF
    rw [List.map_cons,valV_neg (fun z=>h (by rw [one_inj (Sum.inr.inj z)];exact List.mem_cons_self))]
    exact dkF_none fun z=>h (List.mem_cons_of_mem _ z)
theorem dkF_put {g:Nat→Int} {L:List Nat} (nd:L.Nodup) {i c:Nat} (e:L[i]? = some c):putK (dkF (L.take i) g) (Sum.inr (one c):Key) (V.int (g c))=dkF (L.take (i+1)) g:=by
  rw [putK_new _ (dkF_none (not_taken nd e)),dkF_snoc g e]
theorem dkF_len (g:Nat→Int) (L:List Nat):(dkF L g).length=L.length:=by unfold dkF;rw [List.length_map]
def rg0 (f:Nat→Int) (M:Nat):List Int:=(List.range M).map f
theorem rg0_len (f:Nat→Int) (M:Nat):(rg0 f M).length=M:=by unfold rg0;rw [List.length_map,List.length_range]
theorem rg0_at {f:Nat→Int} {M i:Nat} (h:i < M):((rg0 f M).map V.int)[i]? = some (V.int (f i)):=by
  unfold rg0
  rw [List.getElem?_map,List.getElem?_map,List.getElem?_range h]
  rfl
theorem rg0_snoc (f:Nat→Int) (M:Nat):(rg0 f M).map V.int++[V.int (f M)]=(rg0 f (M+1)).map V.int:=by
  unfold rg0
  rw [List.range_succ,List.map_append,List.map_append]
  rfl
theorem rg0_drop (f:Nat→Int) (N M:Nat):((rg0 f (N+M)).map V.int).drop N=(rg0 (fun i=>f (i+N)) M).map V.int:=by
  refine List.ext_getElem? fun i=>?_
  rw [List.getElem?_drop]
  by_cases h:i < M
  · rw [rg0_at (show N+i < N+M by omega),rg0_at h,Nat.add_comm]
  · rw [List.getElem?_eq_none (by rw [List.length_map,rg0_len];omega),List.getElem?_eq_none (by rw [List.length_map,rg0_len];omega)]
theorem cut_drop (xs:List V) (m:Nat):cutV xs (some (m:Int)) none=xs.drop m:=by
  unfold cutV
  rw [HT.sIx_nat,HT.sIx_none]
  rw [List.take_of_length_le (by rw [List.length_drop];omega)]
  by_cases h:m≤xs.length
  · rw [Nat.min_eq_left h]
  · rw [Nat.min_eq_right (by omega),List.drop_of_length_le (Nat.le_refl _),List.drop_of_length_le (by omega)]
section
variable {P:Program} {w:World} {K:PySem.W.Frag} {mg:Str→Option Value} {base:Heap}
def spWhl:Sp:=fun vs H Q _=>∃ z:Int,vs=[.int z]∧Q (.bl true) H
theorem scWhl:FnScope ["_law_found"] ["_law_found"] (defScope sWhl):=⟨rfl,rfl,rfl,by decide +kernel,rfl,by decide +kernel,by decide +kernel⟩
theorem ok_whl {f:Addr} {fd:FuncData} (F:Fun K "_law_whole" "_law_whole" sWhl f fd)
    (hint:mg "int" = none)
    (hisinstance:mg "isinstance" = none)
    (hbool:mg "bool" = none)
    : FnOk P w K mg base CX0 1 f fd ["_law_found"] spWhl:=by
  refine F.ok scWhl (fun vs H Q E h=>?_) (fun cdv A outer s H vs Q E hr h=>?_)
  · obtain ⟨z,rfl,_⟩:=h
    rfl
  · obtain ⟨z,rfl,k⟩:=h
    refine ⟨_,(pss_one (ps_ret (pe_and (pe_callB (call_isinstK K) (by rfl) hisinstance (show bootBuiltins "isinstance" = some (.builtin "isinstance") by decide +kernel) (pa_cons (pv 0) (pa_cons (pe_bltn (v:=.ty "int") (by rfl) hint (show bootBuiltins "int" = some (.type "int") by decide +kernel) rfl) pa_nil))) (pe_one (pe_not (pe_callB (call_isinstK K) (by rfl) hisinstance (show bootBuiltins "isinstance" = some (.builtin "isinstance") by decide +kernel) (pa_cons (pv 0) (pa_cons (pe_bltn (v:=.ty "bool") (by rfl) hbool (show bootBuiltins "bool" = some (.type "bool") by decide +kernel) rfl) pa_nil)))))))),?_⟩
    refine ⟨_,rfl,_,_,_,true,rfl,TyOf.int z,(by rfl),_,rfl,iteT ?_⟩
    exact ⟨_,rfl,_,_,_,false,rfl,TyOf.int z,(by rfl),_,rfl,k⟩
def spGrt:Sp:=fun vs H Q _=>∃ (p:Addr) (b t:Nat),vs=[.ref p,.int (t:Int)]∧PenAt H p b∧b≤900000∧t≤8∧∀ (z:Int) H',0≤z→PenAt H' p (b+t)→(∀ c,c≠p→H' c=H c)→Q (.int z) H'
theorem scGrt:FnScope ["_law_pen_here","_law_times","_law_number","_law_k"] ["_law_pen_here","_law_times"] (defScope sGrt):=⟨rfl,rfl,rfl,by decide +kernel,rfl,by decide +kernel,by decide +kernel⟩
theorem ok_grt {f fTak:Addr} {fd fdTak:FuncData} (F:Fun K "_law_great" "_law_great" sGrt f fd)
    (GTak:FnOk P w K mg base CX0 1 fTak fdTak ["_law_pen_here","_law_size"] spTak)
    (gTak:Gf K mg "_law_take" fTak fdTak ["_law_pen_here","_law_size"])
    (hrange:mg "range" = none)
    : FnOk P w K mg base CX0 2 f fd ["_law_pen_here","_law_times"] spGrt:=by
  refine F.ok scGrt (fun vs H Q E h=>?_) (fun cdv A outer s H vs Q E hr h=>?_)
  · obtain ⟨p,b,t,rfl,_⟩:=h
    rfl
  · obtain ⟨p,b,t,rfl,hP,hb,ht,k⟩:=h
    refine ⟨_,(pss_cons (ps_set (i:=2) scGrt.nd rfl (Or.inl rfl) pe_int)
      (pss_cons (ps_for PassesOwn.never rfl (pi_range1 rfl hrange (pa_cons (pv 1) pa_nil)) (pg_name (i:=3) scGrt.nd rfl (Or.inl rfl)) (pss_one (ps_set (i:=2) scGrt.nd rfl (Or.inl rfl) (pe_op op_add (pe_op op_mul (pv 2) (pe_op op_pow pe_int pe_int)) (pe_call GTak hr rfl gTak.m gTak.k gTak.b .nil pass0 (pa_cons (pv 0) (pa_cons (pe_op op_pow pe_int pe_int) pa_nil)))))))
      (pss_one (ps_ret (pv 2))))),?_⟩
    refine ⟨_,rfl,_,rfl,by omega,by omega,?_⟩
    refine for_by (sure_range (lo:=0) (n:=Int.toNat (t:Int))) (fun i σ H5=>∃ (z:Int) (v3:Option V),σ=[some (.ref p),some (.int (t:Int)),some (.int z),v3]∧i≤t∧0≤z∧PenAt H5 p (b+i)∧∀ c,c≠p→H5 c=H c) ⟨0,_,rfl,Nat.zero_le _,by omega,hP,fun _ _=>rfl⟩ (fun _ _ _ _ _=>trivial) ?_ ?_
    · rintro i x σ H5 hx ⟨z,v3,rfl,hi,hz,hP5,e5⟩
      obtain ⟨hi2,rfl⟩:=rng_at hx
      have hi3:i < t:=by simpa using hi2
      refine ⟨_,rfl,_,_,rfl,rfl,⟨by decide,by decide,by decide⟩,_,_,rfl,rfl,.inr ⟨by decide,by decide⟩,_,rfl,_,_,rfl,rfl,⟨by decide,by decide,by decide⟩,p,b+i,_,rfl,hP5,by omega,by decide,by decide,fun v H6 v0 v1 hP6 e6=>?_⟩
      refine ⟨_,_,rfl,rfl,_,_,rfl,hi3,?_,hP6,fun c hc=>(e6 c hc).trans (e5 c hc)⟩
      have:0≤z * (10:Int) ^ Int.toNat 8:=Int.mul_nonneg hz (by decide)
      show 0≤z * (10:Int) ^ Int.toNat 8+v
      omega
    · rintro σ H5 ⟨z,v3,rfl,_,hz,hP5,e5⟩
      rw [rngV_length,show Int.toNat (t:Int)=t by omega] at hP5
      exact ⟨_,rfl,k z H5 hz hP5 e5⟩
def spDfc:Sp:=fun vs H Q _=>∃ (l:Addr) (f:Nat→Int) (M t:Nat),vs=[.ref l,.int (t:Int)]∧H l=some (.lst ((rg0 f M).map V.int))∧t < M∧M≤1000∧∀ H',Same H H'→Q (.int (dK 1 t f 0)) H'
theorem scDfc:FnScope ["_law_sizes","_law_times","_law_time"] ["_law_sizes","_law_times"] (defScope sDfc):=⟨rfl,rfl,rfl,by decide +kernel,rfl,by decide +kernel,by decide +kernel⟩
theorem nd_dfc1:(["_law_at","_law_sizes"]:List Str).Nodup:=by decide +kernel
theorem ok_dfc {f:Addr} {fd:FuncData} (F:Fun K "_law_difference" "_law_difference" sDfc f fd)
    (hlen:mg "len" = none)
    (hrange:mg "range" = none)
    : FnOk P w K mg base CX0 1 f fd ["_law_sizes","_law_times"] spDfc:=by
  refine F.ok scDfc (fun vs H Q E h=>?_) (fun cdv A outer s H vs Q E hr h=>?_)
  · obtain ⟨l,f,M,t,rfl,_⟩:=h
    rfl
  · obtain ⟨l,f,M,t,rfl,hl,ht,hM,k⟩:=h
    refine ⟨_,(pss_cons (ps_for PassesOwn.never rfl (pi_range1 rfl hrange (pa_cons (pv 1) pa_nil)) (pg_name (i:=2) scDfc.nd rfl (Or.inl rfl)) (pss_one (ps_set (i:=0) scDfc.nd rfl (Or.inr rfl) (pe_comp (N':=["_law_at","_law_sizes"]) (ix:=[none,some 0]) rfl rfl (pi_range1 rfl hrange (pa_cons (pe_op op_sub (pe_callB (call_lenK K) (by rfl) hlen PySem.boot_len (pa_cons (pv 0) pa_nil)) pe_int) pa_nil)) (fun _ _ _ _ _ _=>(pg_name (i:=0) nd_dfc1 rfl (Or.inl rfl))) (fun _ _ _ _ _ _=>pts_nil) (fun _ _ _ _ _ _=>(pe_op op_sub (pe_ix (ix_listK K) (pv 1) (pe_op op_add (pv 0) pe_int) (fun _ _=>rfl)) (pe_ix (ix_listK K) (pv 1) (pv 0) (fun _ _=>rfl))))))))
      (pss_one (ps_ret (pe_ix (ix_listK K) (pv 0) pe_int (fun _ _=>rfl))))),?_⟩
    refine ⟨_,rfl,_,rfl,by omega,by omega,?_⟩
    refine for_by (sure_range (lo:=0) (n:=Int.toNat (t:Int))) (fun i σ H5=>∃ (l5:Addr) (v2:Option V),σ=[some (.ref l5),some (.int (t:Int)),v2]∧i≤t∧Same H H5∧H5 l5=some (.lst ((rg0 (dK 1 i f) (M - i)).map V.int))) ⟨l,_,rfl,Nat.zero_le _,Same.refl _,hl⟩ (fun _ _ _ _ _=>trivial) ?_ ?_
    · rintro i x σ H5 hx ⟨l5,v2,rfl,hi,s5,h5⟩
      obtain ⟨hi2,rfl⟩:=rng_at hx
      have hi3:i < t:=by simpa using hi2
      have el:((rg0 (dK 1 i f) (M - i)).map V.int).length=M - i:=by rw [List.length_map,rg0_len]
      have en:Int.toNat (((((rg0 (dK 1 i f) (M - i)).map V.int).length:Nat):Int) - 1)=M - (i+1):=by rw [el];omega
      refine ⟨_,rfl,l5,_,rfl,.inl (SqL.of h5),_,_,rfl,rfl,_,rfl,by rw [el];omega,by rw [el];omega,?_⟩
      refine comp_allR (τ0:=[none,some (.ref l5)]) (sure_range (lo:=0) (n:=Int.toNat (((((rg0 (dK 1 i f) (M - i)).map V.int).length:Nat):Int) - 1))) (by rw [rngV_length,en];omega) (fun j us τ H6=>H6=H5∧(∃ v,τ=[v,some (.ref l5)])∧us=(rg0 (dK 1 (i+1) f) j).map V.int) ⟨rfl,⟨_,rfl⟩,rfl⟩ ?_ ?_ ?_
      · rintro j us τ H6 hj ⟨rfl,_,rfl⟩
        exact ⟨trivial,by rw [List.length_map,rg0_len];exact Nat.le_refl _⟩
      · rintro j y us τ H6 hy ⟨rfl,⟨v,rfl⟩,rfl⟩
        obtain ⟨hj,rfl⟩:=rng_at hy
        rw [en] at hj
        refine ⟨_,rfl,_,rfl,_,_,rfl,rfl,l5,_,_,_,rfl,rfl,SqL.of h5,(by rw [show (j:Int)+1=((j+1:Nat):Int) by omega];exact atI_nat (rg0_at (show j+1 < M - i by omega))),_,rfl,_,rfl,l5,_,_,_,rfl,rfl,SqL.of h5,atI_nat (rg0_at (show j < M - i by omega)),_,_,rfl,rfl,rfl,⟨_,rfl⟩,?_⟩
        rw [← rg0_snoc,dK_out]
        rfl
      · rintro us τ H6 D ⟨rfl,_,rfl⟩ hD
        rw [rngV_length,en]
        exact ⟨D,_,rfl,hi3,s5.trans (Same.add hD),upd_same⟩
    · rintro σ H5 ⟨l5,v2,rfl,_,s5,h5⟩
      rw [rngV_length,show Int.toNat (t:Int)=t by omega] at h5
      exact ⟨_,rfl,l5,_,_,_,rfl,rfl,SqL.of h5,atI_nat (j:=0) (rg0_at (show 0 < M - t by omega)),k H5 s5⟩
def spLgs:Sp:=fun vs H Q _=>∃ (d:Addr) (us:List Rule) (first:List Nat) (rs:List Rule) (x:List Nat) (M:Nat),vs=[.ref d,tx x,.int (M:Int)]∧H d=some (.dK (kvw us))∧Ws us∧Good first rs∧Like us rs∧(∀ c∈x,c∈ltr rs)∧x.length≤600∧M≤9000 ∧
  ∀ D H',Same H H'→H D=none→H' D=some (.lst ((rg0 (lenT rs x) M).map V.int))→Q (.ref D) H'
theorem scLgs:FnScope ["_law_words_here","_law_first","_law_many","_law_sizes","_law_sign","_law_found","_law_age","_law_behind"] ["_law_words_here","_law_first","_law_many"] (defScope sLgs):=⟨rfl,rfl,rfl,by decide +kernel,rfl,by decide +kernel,by decide +kernel⟩
theorem nd_lgs2:(["_law_sign","_law_sizes"]:List Str).Nodup:=by decide +kernel
theorem nd_lgs3:(["_law_one","_law_sizes"]:List Str).Nodup:=by decide +kernel
theorem ok_lgs {f:Addr} {fd:FuncData} (F:Fun K "_law_lengths" "_law_lengths" sLgs f fd)
    (hrange:mg "range" = none)
    (hsum:mg "sum" = none)
    : FnOk P w K mg base CX0 1 f fd ["_law_words_here","_law_first","_law_many"] spLgs:=by
  refine F.ok scLgs (fun vs H Q E h=>?_) (fun cdv A outer s H vs Q E hr h=>?_)
  · obtain ⟨d,us,first,rs,x,M,rfl,_⟩:=h
    rfl
  · obtain ⟨d,us,first,rs,x,M,rfl,hd,hW,hG,hL,hx,hx6,hM,k⟩:=h
    have hu:=hu_of hr
    refine ⟨_,(pss_cons (ps_set (i:=3) scLgs.nd rfl (Or.inr rfl) pe_dnewK)
      (pss_cons (ps_frz (ps_for PassesOwn.never rfl (pi_dict (pv 0)) (pg_name (i:=4) scLgs.nd rfl (Or.inl rfl)) (pss_one (ps_dput hu (pv 3) (pv 4) pe_int rfl))))
      (pss_cons (ps_set (i:=5) scLgs.nd rfl (Or.inl rfl) (pe_lst pa_nil))
      (pss_cons (ps_for PassesOwn.never rfl (pi_range1 rfl hrange (pa_cons (pv 2) pa_nil)) (pg_name (i:=6) scLgs.nd rfl (Or.inl rfl)) (pss_cons (ps_expr (pe_bmK K PySem.F.plainAttrs_list PySem.F.slot_list_append PySem.F.type_list_append mt_append (pv 5) (pa_cons (pe_callB (call_sumK2 K rfl) (by rfl) hsum (by first | exact PySem.boot_sum | decide +kernel) (pa_cons (pe_comp (N':=["_law_sign","_law_sizes"]) (ix:=[none,some 3]) rfl rfl (pi_str (pv 1)) (fun _ _ _ _ _ _=>(pg_name (i:=0) nd_lgs2 rfl (Or.inl rfl))) (fun _ _ _ _ _ _=>pts_nil) (fun _ _ _ _ _ _=>(pe_dget hu (pv 1) (pv 0) (fun _ _=>rfl)))) pa_nil)) pa_nil)))
      (pss_cons (ps_set (i:=7) scLgs.nd rfl (Or.inl rfl) pe_dnewK)
      (pss_cons (ps_frz (ps_for PassesOwn.never rfl (pi_dict (pv 0)) (pg_name (i:=4) scLgs.nd rfl (Or.inl rfl)) (pss_one (ps_dput hu (pv 7) (pv 4) (pe_callB (call_sumK2 K rfl) (by rfl) hsum (by first | exact PySem.boot_sum | decide +kernel) (pa_cons (pe_comp (N':=["_law_one","_law_sizes"]) (ix:=[none,some 3]) rfl rfl (pi_str (pe_dget hu (pv 0) (pv 4) (fun _ _=>rfl))) (fun _ _ _ _ _ _=>(pg_name (i:=0) nd_lgs3 rfl (Or.inl rfl))) (fun _ _ _ _ _ _=>pts_nil) (fun _ _ _ _ _ _=>(pe_dget hu (pv 1) (pv 0) (fun _ _=>rfl)))) pa_nil)) rfl))))
      (pss_one (ps_set (i:=3) scLgs.nd rfl (Or.inr rfl) (pv 7)))))))
      (pss_one (ps_ret (pv 5))))))),?_⟩
    have hfew:=hG.few
    have hul:=hL.len
    have ekl:(kvw us).length=us.length:=by unfold kvw;rw [List.length_map]
    have hxu:∀ c∈x,c∈ltr us:=fun c hc=>(hL.mem c).mp (hx c hc)
    have lu:=ltr_len us
    intro ds nds
    have ndd:d≠ds:=ne_of_none hd nds
    refine ⟨d,kvw us,by rw [upd_ne ndd];exact hd,fun ob=>?_⟩
    refine ⟨_,rfl,d,ob,kvw us,rfl,upd_same,?_⟩
    refine for_by (sure_dict (d:=d) (ob:=ob) (kvs:=kvw us)) (fun i σ H5=>(∀ c o,c≠d→H c=some o→H5 c=some o)∧H5 d=some (.frz ob (.dK (kvw us)))∧H5 ds=some (.dK (dkF ((ltr us).take i) fun c=>sz rs c 0))∧∃ v5,σ=[some (.ref d),some (tx x),some (.int (M:Int)),some (.ref ds),v5,none,none,none])
      ⟨fun c o n h=>by rw [upd_ne n,upd_ne (ne_of_none h nds)];exact h,upd_same,by rw [upd_ne ndd.symm,upd_same];rfl,_,rfl⟩ ?_ ?_ ?_
    · rintro i σ H5 hi ⟨_,hd5,_⟩
      exact hd5
    · rintro i y σ H5 hy ⟨s5,hd5,hs5,v5,rfl⟩
      unfold kvw at hy
      rw [List.map_map,List.getElem?_map] at hy
      cases e:us[i]? with
      | none=>rw [e] at hy;cases hy
      | some qq =>
        rw [e] at hy
        obtain rfl:sign qq.1=y:=Option.some.inj hy
        obtain ⟨ec,_⟩:=ltr_nt hW.nd e
        generalize qq.1=c at *
        refine ⟨_,rfl,_,rfl,ds,_,rfl,DPut.k (k:=(Sum.inr (one c):Key)) hs5 (small1000 (by rw [dkF_len,List.length_take];omega)),?_⟩
        refine ⟨fun b o n h=>?_,?_,?_,_,rfl⟩
        · rw [upd_ne (ne_of_none h nds)]
          exact s5 b o n h
        · rw [upd_ne ndd]
          exact hd5
        · rw [upd_same]
          exact congrArg (fun z=>some (HO.dK z)) (dkF_put (g:=fun c=>sz rs c 0) hW.nd ec)
    rintro σ H5 ⟨s5,hd5,hs5,v5,rfl⟩
    have el:((kvw us).map fun p=>kV p.1).length=(ltr us).length:=by unfold kvw ltr;simp
    rw [el,List.take_length] at hs5
    refine ⟨hd5,?_⟩
    have hs0:Same H (upd H5 d (.dK (kvw us))):=fun b o h=>by
      by_cases n:b=d
      · rw [n,upd_same];rw [n,hd] at h;exact h
      · rw [upd_ne n];exact s5 b o n h
    have hds0:upd H5 d (.dK (kvw us)) ds=some (.dK (dkF (ltr us) fun c=>sz rs c 0)):=by rw [upd_ne ndd.symm];exact hs5
    revert hs0 hds0
    generalize upd H5 d (.dK (kvw us))=H6
    intro hs0 hds0
    -- the lengths
    refine ⟨szl (show 0≤1000 by decide),fun lL nlL=>?_⟩
    have nL:H lL=none:=hs0.free nlL
    have nsL:ds≠lL:=ne_of_none hds0 nlL
    have s6L:=Same.add (o:=.lst []) nlL
    refine ⟨_,rfl,_,rfl,by omega,by omega,?_⟩
    have en:Int.toNat (M:Int)=M:=by omega
    refine for_by (sure_range (lo:=0) (n:=Int.toNat (M:Int))) (fun i σ H7=>∃ (dz:Addr) (v5 v7 v8:Option V),σ=[some (.ref d),some (tx x),some (.int (M:Int)),some (.ref dz),v5,some (.ref lL),v7,v8]∧Same H H7∧H7 lL=some (.lst ((rg0 (lenT rs x) i).map V.int))∧H7 dz=some (.dK (dkF (ltr us) fun c=>sz rs c i))∧H dz=none)
      ⟨ds,_,_,_,rfl,hs0.trans s6L,upd_same,s6L _ _ hds0,nds⟩ (fun _ _ _ _ _=>trivial) ?_ ?_
    · rintro i y σ H7 hy ⟨dz,v5,v7,v8,rfl,s7,hL7,hz7,ndz⟩
      obtain ⟨hi,rfl⟩:=rng_at hy
      rw [en] at hi
      have nzL:dz≠lL:=fun z=>by rw [z,hL7] at hz7;cases hz7
      have ndz':d≠dz:=ne_of_none hd ndz
      have ndL:d≠lL:=ne_of_none hd nL
      have exw:((⟨x.toArray⟩:Str).cps.toList.map sign).length=x.length:=by simp
      refine ⟨_,rfl,.inl ⟨rfl,_,SqL.of hL7⟩,_,rfl,⟨x.toArray⟩,rfl,?_⟩
      refine comp_allR (τ0:=[none,some (.ref dz)]) (sure_str (x:=⟨x.toArray⟩)) (by rw [exw];omega) (fun m ws τ Ha=>Ha=H7∧(∃ v,τ=[v,some (.ref dz)])∧ws=((x.take m).map fun e=>sz rs e i).map V.int) ⟨rfl,⟨_,rfl⟩,rfl⟩ ?_ ?_ ?_
      · rintro m ws τ Ha hm ⟨rfl,_,rfl⟩
        refine ⟨trivial,?_⟩
        rw [List.length_map,List.length_map,List.length_take]
        omega
      · rintro m y ws τ Ha hy ⟨rfl,⟨v,rfl⟩,rfl⟩
        have hy':(x.map sign)[m]? = some y:=hy
        rw [List.getElem?_map] at hy'
        cases e6:x[m]? with
        | none=>rw [e6] at hy';cases hy'
        | some a =>
          rw [e6] at hy'
          cases hy'
          have hga:=DGet.k (k:=(Sum.inr (one a):Key)) hz7
          rw [dkF_val (hxu a (List.mem_of_getElem? e6))] at hga
          refine ⟨_,rfl,_,rfl,dz,_,rfl,hga,rfl,⟨_,rfl⟩,?_⟩
          rw [take_snoc (fun e=>sz rs e i) e6,List.map_append]
          rfl
      rintro ws τ Ha D0 ⟨rfl,_,rfl⟩ nD0
      rw [exw,List.take_length]
      have sD0:=Same.add (o:=.lst ((x.map fun e=>sz rs e i).map V.int)) nD0
      have hL7':=sD0 _ _ hL7
      have hz7':=sD0 _ _ hz7
      have s7':=s7.trans sD0
      refine ⟨D0,_,rfl,SqL.of upd_same,lL,_,_,rfl,rfl,hL7',Nat.lt_of_lt_of_le (show _ < 10000 by rw [List.length_map,rg0_len];omega) (by decide),?_⟩
      have esum:(x.map fun e=>sz rs e i).sum=lenT rs x i:=by rw [lenT_sum]
      rw [esum]
      revert hL7' hz7' s7'
      generalize upd Ha D0 (.lst ((x.map fun e=>sz rs e i).map V.int))=H7'
      clear hL7 hz7 s7 sD0 nD0
      intro hL7 hz7 s7
      rw [rg0_snoc]
      have s8:Same H (upd H7' lL (.lst ((rg0 (lenT rs x) (i+1)).map V.int))):=fun b o h=>by
        rw [upd_ne (ne_of_none h nL)]
        exact s7 b o h
      have hL8:upd H7' lL (.lst ((rg0 (lenT rs x) (i+1)).map V.int)) lL=some (.lst ((rg0 (lenT rs x) (i+1)).map V.int)):=upd_same
      have hz8:upd H7' lL (.lst ((rg0 (lenT rs x) (i+1)).map V.int)) dz=some (.dK (dkF (ltr us) fun c=>sz rs c i)):=by rw [upd_ne nzL];exact hz7
      revert s8 hL8 hz8
      generalize upd H7' lL (.lst ((rg0 (lenT rs x) (i+1)).map V.int))=H8
      intro s8 hL8 hz8
      intro db ndb
      have nb:H db=none:=s8.free ndb
      have ndb':d≠db:=ne_of_none hd nb
      have nLb:lL≠db:=ne_of_none hL8 ndb
      have nzb:dz≠db:=ne_of_none hz8 ndb
      refine ⟨d,kvw us,by rw [upd_ne ndb'];exact s8 _ _ hd,fun ob2=>?_⟩
      refine ⟨_,rfl,d,ob2,kvw us,rfl,upd_same,?_⟩
      refine for_by (sure_dict (d:=d) (ob:=ob2) (kvs:=kvw us)) (fun j σ H9=>(∀ c o,c≠d→H8 c=some o→H9 c=some o)∧H9 d=some (.frz ob2 (.dK (kvw us)))∧H9 db=some (.dK (dkF ((ltr us).take j) fun c=>sz rs c (i+1)))∧∃ v5,σ=[some (.ref d),some (tx x),some (.int (M:Int)),some (.ref dz),v5,some (.ref lL),some (.int (i:Int)),some (.ref db)])
        ⟨fun c o n h=>by rw [upd_ne n,upd_ne (ne_of_none h ndb)];exact h,upd_same,by rw [upd_ne ndb'.symm,upd_same];rfl,_,rfl⟩ ?_ ?_ ?_
      · rintro j σ H9 hj ⟨_,hd9,_⟩
        exact hd9
      · rintro j y σ H9 hy ⟨s9,hd9,hb9,v5,rfl⟩
        unfold kvw at hy
        rw [List.map_map,List.getElem?_map] at hy
        cases e:us[j]? with
        | none=>rw [e] at hy;cases hy
        | some qq =>
          rw [e] at hy
          obtain rfl:sign qq.1=y:=Option.some.inj hy
          obtain ⟨ec,_⟩:=ltr_nt hW.nd e
          generalize qq.1=c at *
          have hcu:c∈ltr us:=List.mem_of_getElem? ec
          have hc:c∈ltr rs:=(hL.mem c).mpr hcu
          have hgc:=DGet.f (k:=(Sum.inr (one c):Key)) hd9
          rw [kvw_wd hW.nd hcu,← hL.wd c hcu] at hgc
          have hw6:=wd_le hG hc
          have ew:((⟨(wd rs c).toArray⟩:Str).cps.toList.map sign).length=(wd rs c).length:=by simp
          refine ⟨_,rfl,_,rfl,d,_,rfl,hgc,⟨(wd rs c).toArray⟩,rfl,?_⟩
          refine comp_allR (τ0:=[none,some (.ref dz)]) (sure_str (x:=⟨(wd rs c).toArray⟩)) (by rw [ew];omega) (fun m ws τ Ha=>Ha=H9∧(∃ v,τ=[v,some (.ref dz)])∧ws=(((wd rs c).take m).map fun e=>sz rs e i).map V.int) ⟨rfl,⟨_,rfl⟩,rfl⟩ ?_ ?_ ?_
          · rintro m ws τ Ha hm ⟨rfl,_,rfl⟩
            refine ⟨trivial,?_⟩
            rw [List.length_map,List.length_map,List.length_take]
            omega
          · rintro m y ws τ Ha hy ⟨rfl,⟨v,rfl⟩,rfl⟩
            have hy':((wd rs c).map sign)[m]? = some y:=hy
            rw [List.getElem?_map] at hy'
            cases e6:(wd rs c)[m]? with
            | none=>rw [e6] at hy';cases hy'
            | some a =>
              rw [e6] at hy'
              cases hy'
              have hau:a∈ltr us:=(hL.mem a).mp (wd_in hG hc a (List.mem_of_getElem? e6))
              have hga:=DGet.k (k:=(Sum.inr (one a):Key)) (s9 dz _ ndz'.symm hz8)
              rw [dkF_val hau] at hga
              refine ⟨_,rfl,_,rfl,dz,_,rfl,hga,rfl,⟨_,rfl⟩,?_⟩
              rw [take_snoc (fun e=>sz rs e i) e6,List.map_append]
              rfl
          rintro ws τ Ha D ⟨rfl,_,rfl⟩ nD
          rw [ew,List.take_length]
          have sD:=Same.add (o:=.lst (((wd rs c).map fun e=>sz rs e i).map V.int)) nD
          refine ⟨D,_,rfl,SqL.of upd_same,_,rfl,_,rfl,db,_,rfl,DPut.k (k:=(Sum.inr (one c):Key)) (sD _ _ hb9) (small1000 (by rw [dkF_len,List.length_take];omega)),?_⟩
          rw [← sz_succ]
          refine ⟨fun b o n h=>?_,?_,?_,_,rfl⟩
          · rw [upd_ne (ne_of_none h ndb)]
            exact sD _ _ (s9 b o n h)
          · rw [upd_ne ndb']
            exact sD _ _ hd9
          · rw [upd_same]
            exact congrArg (fun z=>some (HO.dK z)) (dkF_put (g:=fun c=>sz rs c (i+1)) hW.nd ec)
      rintro σ H9 ⟨s9,hd9,hb9,v5,rfl⟩
      rw [el,List.take_length] at hb9
      refine ⟨hd9,_,rfl,db,_,_,_,rfl,fun b o h=>?_,?_,?_,nb⟩
      · by_cases n:b=d
        · rw [n,upd_same];rw [n,hd] at h;exact h
        · rw [upd_ne n];exact s9 b o n (s8 b o h)
      · rw [upd_ne ndL.symm]
        exact s9 lL _ ndL.symm hL8
      · rw [upd_ne ndb'.symm]
        exact hb9
    rintro σ H7 ⟨dz,v5',v7,v8,rfl,s7,hL7,hz7,ndz⟩
    rw [rngV_length,en] at hL7
    exact ⟨_,rfl,k lL H7 s7 nL hL7⟩
end
end Lw
namespace Lw
open PySem L2 PyProof.Rows
theorem cut_last (f:Nat→Int) (M:Nat):cutV ((rg0 f (M+1)).map V.int) none (some (-1))=(rg0 f M).map V.int:=by
  have el:((rg0 f (M+1)).map V.int).length=M+1:=by rw [List.length_map,rg0_len]
  unfold cutV
  have e1:HT.sIx ((rg0 f (M+1)).map V.int).length 0 none=0:=rfl
  have e2:HT.sIx ((rg0 f (M+1)).map V.int).length ((rg0 f (M+1)).map V.int).length (some (-1))=M:=by
    rw [el]
    unfold HT.sIx
    simp only
    rw [if_pos (by decide)]
    omega
  rw [e1,e2,List.drop_zero,← rg0_snoc]
  rw [List.take_append_of_le_length (by rw [List.length_map,rg0_len];omega),Nat.sub_zero]
  have:=take_all ((rg0 f M).map V.int)
  rw [List.length_map,rg0_len] at this
  exact this
theorem lat_eq {first:List Nat} {rs:List Rule} (hG:Good first rs) (a:Nat) (n:Int):(md n (cntN rs.length (tabI rs) (c0 rs first) a)).sum % n=lenT rs first a % n:=by
  rw [sum_md,cnt_row hG hG.fin,c0_sum hG (rowN_in hG hG.fin a)]
  rfl
theorem row_dead {rs:List Rule} {x:List Nat} {n a:Nat} (h:rowN rs x n=[]) (hn:n≤a):rowN rs x a=[]:=by
  have e:a=n+(a - n):=by omega
  rw [e,rowN_add,h,rowN_nil]
section
variable {P:Program} {w:World} {K:PySem.W.Frag} {mg:Str→Option Value} {base:Heap}
theorem told_eq {H:Hp} {T T2:Addr} {s:Str} {rest:List V} {Q:VK} (h1:H T=some (.tup (.str s :: rest))) (h2:H T2=some (.tup [.str (Str.ofString "doubles")])) {b:Bool} (hb:(b=true ↔ s=Str.ofString "doubles"∧rest=[])) (q:Q (.bl b) H):rEqT K (.ref T) (.ref T2) H Q:=by
  refine ⟨0,T,T2,_,_,fun _=>s == Str.ofString "doubles",rfl,rfl,SqT.of h1,SqT.of h2,fun i x y e1 e2=>?_,by omega,?_⟩
  · cases i with
    | succ i=>cases e2
    | zero =>
      cases e1
      cases e2
      exact VDec.flat (x:=.str s) (y:=.str (Str.ofString "doubles")) rfl rfl
  · have e:((List.range (min (V.str s :: rest).length [V.str (Str.ofString "doubles")].length)).all (fun _=>s == Str.ofString "doubles") && (V.str s :: rest).length == [V.str (Str.ofString "doubles")].length)=b:=by
      have em:min (V.str s :: rest).length [V.str (Str.ofString "doubles")].length=1:=by
        rw [List.length_cons]
        show min (rest.length+1) 1=1
        omega
      rw [em]
      show ((s == Str.ofString "doubles" && true) && (rest.length+1 == 1))=b
      rw [Bool.and_true]
      by_cases h:s=Str.ofString "doubles"∧rest=[]
      · rw [hb.mpr h,h.1,h.2]
        decide
      · have hf:b=false:=by
          cases b with
          | false=>rfl
          | true=>exact absurd (hb.mp rfl) h
        rw [hf]
        by_cases h1:s=Str.ofString "doubles"
        · have h3:rest≠[]:=fun z=>h ⟨h1,z⟩
          have h4:=List.length_pos_iff.mpr h3
          have h5:(rest.length+1 == 1)=false:=by
            rw [beq_eq_false_iff_ne]
            omega
          rw [h5,Bool.and_false]
        · have h5:(s == Str.ofString "doubles")=false:=beq_eq_false_iff_ne.mpr h1
          rw [h5,Bool.false_and]
    rw [e]
    exact q
def spKpt:Sp:=fun vs H Q _=>∃ (tb T d:Addr) (age:Nat) (nm:Int) (us:List Rule) (first:List Nat) (rs:List Rule) (ks:List V),vs=[.ref tb,.ref T,.ref d,.int (age:Int),.int nm]∧BookAt H tb first rs∧Good first rs∧H T=some (.tup ks)∧KindOf rs first ks∧H d=some (.dK (kvw us))∧Ws us∧Like us rs∧rs.length≤5∧rs.length≤age∧age+100 < 1000000000000000000000000000000000000000000000000000000000000∧0 < nm∧nm < 1000000000000000000000000000000 ∧
  ∀ H',Same H H'→Q (.bl true) H'
theorem scKpt:FnScope ["_law_book","_law_told","_law_words_here","_law_age","_law_number","_law_d","_law_step","_law_far","_law_one","_law_start","_law_lengths_here","_law_due"] ["_law_book","_law_told","_law_words_here","_law_age","_law_number"] (defScope sKpt):=⟨rfl,rfl,rfl,by decide +kernel,rfl,by decide +kernel,by decide +kernel⟩
theorem nd_kpt1:(["_law_time","_law_book","_law_age","_law_step","_law_number"]:List Str).Nodup:=by decide +kernel
theorem nd_kpt2:(["_law_time","_law_lengths_here","_law_start","_law_step"]:List Str).Nodup:=by decide +kernel
theorem ok_kpt {f fLgs fLat fDfc fWhl:Addr} {fd fdLgs fdLat fdDfc fdWhl:FuncData} (F:Fun K "_law_kept" "_law_kept" sKpt f fd)
    (GLgs:FnOk P w K mg base CX0 1 fLgs fdLgs ["_law_words_here","_law_first","_law_many"] spLgs)
    (gLgs:Gf K mg "_law_lengths" fLgs fdLgs ["_law_words_here","_law_first","_law_many"])
    (GLat:FnOk P w K mg base CX0 7 fLat fdLat ["book","age","number"] spLat)
    (gLat:Gf K mg "length_at" fLat fdLat ["book","age","number"])
    (GDfc:FnOk P w K mg base CX0 1 fDfc fdDfc ["_law_sizes","_law_times"] spDfc)
    (gDfc:Gf K mg "_law_difference" fDfc fdDfc ["_law_sizes","_law_times"])
    (GWhl:FnOk P w K mg base CX0 1 fWhl fdWhl ["_law_found"] spWhl)
    (gWhl:Gf K mg "_law_whole" fWhl fdWhl ["_law_found"])
    (hlen:mg "len" = none)
    (hrange:mg "range" = none)
    : FnOk P w K mg base CX0 8 f fd ["_law_book","_law_told","_law_words_here","_law_age","_law_number"] spKpt:=by
  refine F.ok scKpt (fun vs H Q E h=>?_) (fun cdv A outer s H vs Q E hr h=>?_)
  · obtain ⟨tb,T,d,age,nm,us,first,rs,ks,rfl,_⟩:=h
    rfl
  · obtain ⟨tb,T,d,age,nm,us,first,rs,ks,rfl,hB,hG,hT,hk,hd,hW,hL,h5,hage,hlate,h0,h1,k⟩:=h
    have hr1:Room 1 _:=hr.mono (by decide)
    refine ⟨_,(pss_cons (ps_if (pt_cmpR (op_eqTK K hr.units) (pv 1) (pe_tup (pa_cons pe_str pa_nil)) (nomark _)) (pss_one (ps_ret pe_bl)) pss_nil)
      (pss_cons (ps_if (PW.pt (pw_and (pt_cmpR op_eq (pe_callB (call_lenK K) (by rfl) hlen PySem.boot_len (pa_cons (pv 1) pa_nil)) pe_int (nomark _)) (pw_and1 (pt_cmpR op_eq (pe_ix (ix_tupK K) (pv 1) pe_int (fun _ _=>rfl)) pe_str (nomark _))))) (pss_one (ps_ret (pe_cmpR op_eq (pe_call GLat hr rfl gLat.m gLat.k gLat.b .nil pass0 (pa_cons (pv 0) (pa_cons (pv 3) (pa_cons (pv 4) pa_nil)))) pe_int (nomark _)))) pss_nil)
      (pss_cons (ps_if (PW.pt (pw_or (pt_cmpR op_ne (pe_callB (call_lenK K) (by rfl) hlen PySem.boot_len (pa_cons (pv 1) pa_nil)) pe_int (nomark _)) (pw_or (pt_cmpR (op_neTK K hr.units) (pe_ix (ix_tupK K) (pv 1) pe_int (fun _ _=>rfl)) pe_str (nomark _)) (pw_or (pt_not (pt_val (pe_call GWhl hr1 rfl gWhl.m gWhl.k gWhl.b .nil pass0 (pa_cons (pe_ix (ix_tupK K) (pv 1) pe_int (fun _ _=>rfl)) pa_nil)))) (pw_or1 (pt_not (pt_val (pe_call GWhl hr1 rfl gWhl.m gWhl.k gWhl.b .nil pass0 (pa_cons (pe_ix (ix_tupK K) (pv 1) pe_int (fun _ _=>rfl)) pa_nil))))))))) (pss_one (ps_ret pe_bl)) pss_nil)
      (pss_cons (ps_asg (pe_tup (pa_cons (pe_ix (ix_tupK K) (pv 1) pe_int (fun _ _=>rfl)) (pa_cons (pe_ix (ix_tupK K) (pv 1) pe_int (fun _ _=>rfl)) pa_nil))) (pg_tupK K (n:=2) rfl (pgs_cons (pg_name (i:=5) scKpt.nd rfl (Or.inl rfl)) (pgs_cons (pg_name (i:=6) scKpt.nd rfl (Or.inr rfl)) pgs_nil))))
      (pss_cons (ps_if (PW.pt (pw_or (pt_not (pt_chain op_le op_lt pe_int (pv 5) (pe_callB call_lenD (by rfl) hlen PySem.boot_len (pa_cons (pv 2) pa_nil)))) (pw_or1 (pt_not (pt_chain op_le op_le pe_int (pv 6) pe_int))))) (pss_one (ps_ret pe_bl)) pss_nil)
      (pss_cons (ps_setC (i:=7) (N':=["_law_time","_law_book","_law_age","_law_step","_law_number"]) (ix:=[none,some 0,some 3,some 6,some 4]) scKpt.nd rfl rfl rfl rfl (pi_range1 rfl hrange (pa_cons (pe_op op_add (pv 5) pe_int) pa_nil)) (fun _ _ _ _ _ _=>(pg_name (i:=0) nd_kpt1 rfl (Or.inl rfl))) (fun _ _ _ _ _ _=>pts_nil) (fun _ _ _ _ _ _=>(pe_call GLat hr rfl gLat.m gLat.k gLat.b .nil pass0 (pa_cons (pv 1) (pa_cons (pe_op op_add (pv 2) (pe_op op_mul (pv 0) (pv 3))) (pa_cons (pv 4) pa_nil))))))
      (pss_cons (ps_for PassesOwn.never rfl (pi_listK K (pv 7)) (pg_name (i:=8) scKpt.nd rfl (Or.inl rfl)) (pss_one (ps_if (PW.pt (pw_or (pt_not (pt_val (pe_call GWhl hr1 rfl gWhl.m gWhl.k gWhl.b .nil pass0 (pa_cons (pv 8) pa_nil)))) (pw_or1 (pt_not (pt_chain op_le op_lt pe_int (pv 8) (pv 4)))))) (pss_one (ps_ret pe_bl)) pss_nil)))
      (pss_cons (ps_set (i:=9) scKpt.nd rfl (Or.inr rfl) (pe_op op_add (pe_callB call_lenD (by rfl) hlen PySem.boot_len (pa_cons (pv 2) pa_nil)) (pe_op op_mod (pe_op op_sub (pv 3) (pe_callB call_lenD (by rfl) hlen PySem.boot_len (pa_cons (pv 2) pa_nil))) (pv 6))))
      (pss_cons (ps_set (i:=10) scKpt.nd rfl (Or.inr rfl) (pe_call GLgs hr1 rfl gLgs.m gLgs.k gLgs.b .nil pass0 (pa_cons (pv 2) (pa_cons (pe_ix (ix_tupK K) (pv 0) pe_int (fun _ _=>rfl)) (pa_cons (pe_op op_add (pe_op op_add (pv 9) (pe_op op_mul (pv 5) (pv 6))) pe_int) pa_nil)))))
      (pss_cons (ps_set (i:=11) scKpt.nd rfl (Or.inl rfl) (pe_op op_mod (pe_call GDfc hr1 rfl gDfc.m gDfc.k gDfc.b .nil pass0 (pa_cons (pe_comp (N':=["_law_time","_law_lengths_here","_law_start","_law_step"]) (ix:=[none,some 10,some 9,some 6]) rfl rfl (pi_range1 rfl hrange (pa_cons (pe_op op_add (pv 5) pe_int) pa_nil)) (fun _ _ _ _ _ _=>(pg_name (i:=0) nd_kpt2 rfl (Or.inl rfl))) (fun _ _ _ _ _ _=>pts_nil) (fun _ _ _ _ _ _=>(pe_ix (ix_listK K) (pv 1) (pe_op op_add (pv 2) (pe_op op_mul (pv 0) (pv 3))) (fun _ _=>rfl)))) (pa_cons (pv 5) pa_nil))) (pv 4)))
      (pss_one (ps_ret (pe_and (pe_cmpR op_eq (pe_op op_mod (pe_call GDfc hr1 rfl gDfc.m gDfc.k gDfc.b .nil pass0 (pa_cons (pe_slice (sl_listK K) (pv 7) po_none (po_some (pe_un un_neg pe_int))) (pa_cons (pv 5) pa_nil))) (pv 4)) (pv 11) (nomark _)) (pe_one (pe_cmpR op_eq (pe_op op_mod (pe_call GDfc hr1 rfl gDfc.m gDfc.k gDfc.b .nil pass0 (pa_cons (pe_slice (sl_listK K) (pv 7) (po_some pe_int) po_none) (pa_cons (pv 5) pa_nil))) (pv 4)) (pv 11) (nomark _)))))))))))))))),?_⟩
    have ekl:(kvw us).length=rs.length:=by unfold kvw;rw [List.length_map];exact hL.len.symm
    have hfl:=hG.fl
    rcases hk with ⟨hm,n,g1,g2,g3,rfl⟩ | ⟨hm,hs,rfl⟩ | ⟨hm,hs,rfl⟩
    · refine ⟨_,rfl,szl (show 1≤1000 by decide),fun T2 nT2=>told_eq ((Same.add nT2) _ _ hT) upd_same (b:=false) ⟨(fun z=>by cases z),fun z=>absurd z.1 (by decide)⟩ ?_⟩
      have s1:=Same.add (o:=.tup [V.str (Str.ofString "doubles")]) nT2
      have hT1:=s1 _ _ hT
      revert s1 hT1
      generalize upd H T2 (.tup [V.str (Str.ofString "doubles")])=H1
      intro s1 hT1
      refine ⟨_,rfl,iteF ?_⟩
      refine ⟨_,rfl,T,_,rfl,.inr (SqT.of hT1),rfl,_,rfl,ite2 (fun _=>?_) (fun h=>absurd (decide_eq_true rfl) h)⟩
      refine ⟨_,rfl,T,_,_,_,rfl,rfl,SqT.of hT1,atI_nat (j:=0) rfl,rfl,_,rfl,ite2 (fun _=>?_) (fun h=>absurd (decide_eq_true rfl) h)⟩
      refine ⟨_,rfl,_,rfl,_,rfl,tb,first,rs,age,nm,rfl,hB.mono (TupS.same s1),hG,by omega,h0,h1,fun H2 s2=>⟨rfl,?_⟩⟩
      have e0:(md nm (cntN rs.length (tabI rs) (c0 rs first) age)).sum % nm=0:=by
        rw [lat_eq hG]
        have:lenT rs first age=0:=by
          show (((rowN rs first age).length:Nat):Int)=0
          rw [row_dead g1 (by omega)]
          rfl
        rw [this]
        exact Int.zero_emod nm
      rw [e0,decide_eq_true rfl]
      exact k _ (s1.trans s2)
    · refine ⟨_,rfl,szl (show 1≤1000 by decide),fun T2 nT2=>told_eq ((Same.add nT2) _ _ hT) upd_same (b:=true) ⟨fun _=>⟨rfl,rfl⟩,fun _=>rfl⟩ ?_⟩
      exact ⟨_,rfl,iteT (k _ (Same.add nT2))⟩
    · obtain ⟨dd,e2,hdl,p1,_,hPol,_⟩:=text_grow hG hG.fin hm hs
      have p15:=stp_le hG h5 first
      have e4:((lmax (first.map (dep rs rs.length)):Nat):Int) - 1=(dd:Int):=by omega
      have es:lcms ((mt rs first).map fun c=>(rg rs c).length)=stp rs first:=rfl
      rw [e4,es] at hT
      revert hPol p1 p15 hT
      generalize stp rs first=p
      intro hT p1 hPol p15
      refine ⟨_,rfl,szl (show 1≤1000 by decide),fun T2 nT2=>told_eq ((Same.add nT2) _ _ hT) upd_same (b:=false) ⟨(fun z=>by cases z),fun z=>absurd z.1 (by decide)⟩ ?_⟩
      have s1:=Same.add (o:=.tup [V.str (Str.ofString "doubles")]) nT2
      have hT1:=s1 _ _ hT
      revert s1 hT1
      generalize upd H T2 (.tup [V.str (Str.ofString "doubles")])=H1
      intro s1 hT1
      refine ⟨_,rfl,iteF ?_⟩
      refine ⟨_,rfl,T,_,rfl,.inr (SqT.of hT1),rfl,_,rfl,ite2 (fun h=>absurd h (by show ¬ decide (V.int (3:Int)=V.int 2)=true;decide)) (fun _=>iteF ?_)⟩
      refine ⟨_,rfl,T,_,rfl,.inr (SqT.of hT1),rfl,_,rfl,iteNS rfl ?_⟩
      refine ⟨_,rfl,T,_,_,_,rfl,rfl,SqT.of hT1,atI_nat (j:=0) rfl,.inl ⟨rfl,_,rfl,iteNS rfl ?_⟩⟩
      refine ⟨_,rfl,T,_,_,_,rfl,rfl,SqT.of hT1,atI_nat (j:=1) rfl,_,rfl,_,rfl,iteF ?_⟩
      refine ⟨_,rfl,T,_,_,_,rfl,rfl,SqT.of hT1,atI_nat (j:=2) rfl,_,rfl,_,rfl,iteF ?_⟩
      refine ⟨_,rfl,T,_,_,_,rfl,rfl,SqT.of hT1,atI_nat (j:=1) rfl,_,rfl,T,_,_,_,rfl,rfl,SqT.of hT1,atI_nat (j:=2) rfl,szl (show 2≤1000 by decide),fun T3 nT3=>?_⟩
      have s3:=Same.add (o:=.tup [V.int (dd:Int),V.int (p:Int)]) nT3
      refine ⟨T3,_,rfl,SqT.of upd_same,rfl,_,_,rfl,_,_,rfl,rfl,?_⟩
      have s13:=s1.trans s3
      revert s13
      generalize upd H1 T3 (.tup [V.int (dd:Int),V.int (p:Int)])=H3
      intro s13
      have hd3:=s13 _ _ hd
      have hdlt:decide ((dd:Int) < (((kvw us).length:Nat):Int))=true:=decide_eq_true (by rw [ekl];omega)
      have hp15:decide ((p:Int)≤15)=true:=decide_eq_true (by omega)
      have hB3:=hB.mono (TupS.same s13)
      refine ⟨_,rfl,_,_,rfl,rfl,_,rfl,ite2 (fun _=>?_) (fun h=>absurd (decide_eq_true (show (0:Int)≤(dd:Int) by omega)) h)⟩
      refine ⟨_,rfl,d,kvw us,rfl,hd3,_,_,rfl,rfl,_,rfl,?_⟩
      rw [hdlt]
      refine iteF ?_
      refine ⟨_,rfl,_,_,rfl,rfl,_,rfl,ite2 (fun _=>?_) (fun h=>absurd (decide_eq_true (show (1:Int)≤(p:Int) by omega)) h)⟩
      refine ⟨_,_,rfl,rfl,_,rfl,?_⟩
      rw [hp15]
      refine iteF ?_
      -- lengths far away
      have cast1:∀ (a t:Nat),(a:Int)+(t:Int) * (p:Int)=((a+t * p:Nat):Int):=fun a t=>by rw [Int.natCast_add,Int.natCast_mul]
      have en:Int.toNat ((dd:Int)+2)=dd+2:=by omega
      refine ⟨_,rfl,_,_,rfl,rfl,_,rfl,by omega,by omega,?_⟩
      refine comp_allR (τ0:=[none,some (.ref tb),some (.int (age:Int)),some (.int (p:Int)),some (.int nm)]) (sure_range (lo:=0) (n:=Int.toNat ((dd:Int)+2))) (by rw [rngV_length,en];omega) (fun i ws τ H6=>Same H3 H6∧(∃ v,τ=[v,some (.ref tb),some (.int (age:Int)),some (.int (p:Int)),some (.int nm)])∧ws=(rg0 (fun t=>lenT rs first (age+t * p) % nm) i).map V.int) ⟨Same.refl _,⟨_,rfl⟩,rfl⟩ ?_ ?_ ?_
      · rintro i ws τ H6 hi ⟨_,_,rfl⟩
        exact ⟨trivial,by rw [List.length_map,rg0_len];exact Nat.le_refl _⟩
      · rintro i y ws τ H6 hy ⟨s6,⟨v,rfl⟩,rfl⟩
        obtain ⟨hi,rfl⟩:=rng_at hy
        rw [en] at hi
        have hip:i * p≤6 * 15:=Nat.mul_le_mul (by omega) p15
        refine ⟨_,rfl,_,rfl,_,rfl,_,rfl,_,_,rfl,rfl,.inr ⟨by omega,by omega⟩,_,_,rfl,rfl,_,rfl,tb,first,rs,age+i * p,nm,congrArg (fun z=>[V.ref tb,V.int z,V.int nm]) (cast1 age i),hB3.mono (TupS.same s6),hG,by omega,h0,h1,fun H7 s7=>⟨s6.trans s7,⟨_,rfl⟩,?_⟩⟩
        rw [lat_eq hG]
        exact rg0_snoc (fun t=>lenT rs first (age+t * p) % nm) i
      rintro ws τ H6 F ⟨s6,_,rfl⟩ nF
      rw [rngV_length,en]
      have sF:=Same.add (o:=.lst ((rg0 (fun t=>lenT rs first (age+t * p) % nm) (dd+2)).map V.int)) nF
      have hF:upd H6 F (.lst ((rg0 (fun t=>lenT rs first (age+t * p) % nm) (dd+2)).map V.int)) F=some (.lst ((rg0 (fun t=>lenT rs first (age+t * p) % nm) (dd+2)).map V.int)):=upd_same
      have s17:=s13.trans (s6.trans sF)
      revert hF s17
      generalize upd H6 F (.lst ((rg0 (fun t=>lenT rs first (age+t * p) % nm) (dd+2)).map V.int))=H7
      intro hF s17
      refine ⟨_,rfl,F,rfl,⟨_,SqL.of hF⟩,?_⟩
      have eF:((rg0 (fun t=>lenT rs first (age+t * p) % nm) (dd+2)).map V.int).length=dd+2:=by rw [List.length_map,rg0_len]
      refine for_by (sure_list (xs:=(rg0 (fun t=>lenT rs first (age+t * p) % nm) (dd+2)).map V.int)) (fun i σ H8=>H8=H7∧∃ v8,σ=[some (.ref tb),some (.ref T),some (.ref d),some (.int (age:Int)),some (.int nm),some (.int (dd:Int)),some (.int (p:Int)),some (.ref F),v8,none,none,none]) ⟨rfl,_,rfl⟩ ?_ ?_ ?_
      · rintro i σ H8 hi ⟨rfl,_⟩
        exact SqL.of hF
      · rintro i y σ H8 hy ⟨rfl,v8,rfl⟩
        have hi:i < dd+2:=by
          have:=(List.getElem?_eq_some_iff.mp hy).1
          rwa [eF] at this
        rw [rg0_at hi] at hy
        cases hy
        have a1:=Int.emod_nonneg (lenT rs first (age+i * p)) (show nm≠0 by omega)
        have a2:=Int.emod_lt_of_pos (lenT rs first (age+i * p)) h0
        refine ⟨_,rfl,_,rfl,_,rfl,iteF ?_⟩
        refine ⟨_,rfl,_,_,rfl,rfl,_,rfl,ite2 (fun _=>?_) (fun h=>absurd (decide_eq_true a1) h)⟩
        refine ⟨_,rfl,_,_,rfl,rfl,_,rfl,?_⟩
        have ed:decide (lenT rs first (age+i * p) % nm < nm)=true:=decide_eq_true a2
        rw [ed]
        exact iteF ⟨rfl,_,rfl⟩
      rintro σ H8 ⟨rfl,v8,rfl⟩
      have hd8:=s17 _ _ hd
      -- where the first of its like stands
      have est:(((kvw us).length:Nat):Int)+((age:Int) - (((kvw us).length:Nat):Int)) % (p:Int)=((rs.length+(age - rs.length) % p:Nat):Int):=by
        rw [ekl,show (age:Int) - (rs.length:Int)=((age - rs.length:Nat):Int) by omega,← Int.natCast_emod,Int.natCast_add]
      refine ⟨_,rfl,d,kvw us,rfl,hd8,_,rfl,_,rfl,d,kvw us,rfl,hd8,_,_,rfl,rfl,_,rfl,_,_,rfl,rfl,(by show (0:Int) < (p:Int);omega),_,_,rfl,rfl,?_⟩
      dsimp only
      rw [est]
      have hmod:=Nat.mod_lt (age - rs.length) (show 0 < p by omega)
      have hst:rs.length+(age - rs.length) % p≤20:=by omega
      have hround:dK p dd (lenT rs first) age=dK p dd (lenT rs first) (rs.length+(age - rs.length) % p):=round_mod hPol hage
      have hround2:dK p dd (lenT rs first) (age+p)=dK p dd (lenT rs first) age:=by
        have:=round_on hPol 1 age hage
        rwa [Nat.one_mul] at this
      revert hst hround
      generalize rs.length+(age - rs.length) % p=st
      intro hst hround
      obtain ⟨r,ps,b1,b2,b3⟩:=(hB.mono (TupS.same s17)).ex
      have hdp:dd * p≤5 * 15:=Nat.mul_le_mul (by omega) p15
      have cast2:(st:Int)+(dd:Int) * (p:Int)+1=((st+dd * p+1:Nat):Int):=by rw [cast1];omega
      refine ⟨_,rfl,_,rfl,tb,_,_,_,rfl,rfl,SqT.of b1,atI_nat (j:=0) rfl,_,rfl,_,rfl,_,rfl,_,_,rfl,rfl,.inr ⟨by omega,by omega⟩,_,_,rfl,rfl,_,_,rfl,rfl,d,us,first,rs,first,st+dd * p+1,congrArg (fun z=>[V.ref d,tx first,V.int z]) cast2,hd8,hW,hG,hL,hG.fin,by omega,by omega,fun lL H9 s9 nL hL9=>?_⟩
      have en1:Int.toNat ((dd:Int)+1)=dd+1:=by omega
      refine ⟨_,rfl,_,_,rfl,rfl,_,rfl,by omega,by omega,?_⟩
      refine comp_allR (τ0:=[none,some (.ref lL),some (.int (st:Int)),some (.int (p:Int))]) (sure_range (lo:=0) (n:=Int.toNat ((dd:Int)+1))) (by rw [rngV_length,en1];omega) (fun i ws τ Ha=>Ha=H9∧(∃ v,τ=[v,some (.ref lL),some (.int (st:Int)),some (.int (p:Int))])∧ws=(rg0 (fun t=>lenT rs first (st+t * p)) i).map V.int) ⟨rfl,⟨_,rfl⟩,rfl⟩ ?_ ?_ ?_
      · rintro i ws τ Ha hi ⟨rfl,_,rfl⟩
        exact ⟨trivial,by rw [List.length_map,rg0_len];exact Nat.le_refl _⟩
      · rintro i y ws τ Ha hy ⟨rfl,⟨v,rfl⟩,rfl⟩
        obtain ⟨hi,rfl⟩:=rng_at hy
        rw [en1] at hi
        have hip:i * p≤dd * p:=Nat.mul_le_mul_right p (by omega)
        refine ⟨_,rfl,_,rfl,_,rfl,_,rfl,_,_,rfl,rfl,.inr ⟨by omega,by omega⟩,_,_,rfl,rfl,lL,_,_,_,rfl,rfl,SqL.of hL9,(by rw [cast1];exact atI_nat (rg0_at (show st+i * p < st+dd * p+1 by omega))),rfl,⟨_,rfl⟩,?_⟩
        exact rg0_snoc (fun t=>lenT rs first (st+t * p)) i
      rintro ws τ Ha D ⟨rfl,_,rfl⟩ nD
      rw [rngV_length,en1]
      have sD:=Same.add (o:=.lst ((rg0 (fun t=>lenT rs first (st+t * p)) (dd+1)).map V.int)) nD
      refine ⟨_,rfl,D,_,dd+1,dd,rfl,upd_same,by omega,by omega,fun Hb sb=>?_⟩
      have sHb:=s9.trans (sD.trans sb)
      revert sHb
      intro sHb
      refine ⟨_,rfl,_,_,rfl,rfl,h0,?_⟩
      have edue:dK 1 dd (fun t=>lenT rs first (st+t * p)) 0=dK p dd (lenT rs first) age:=by
        rw [dK_step p st dd (lenT rs first) 0,Nat.zero_mul,Nat.add_zero,hround]
      have hFb:=sHb _ _ hF
      -- the first of them
      refine ⟨_,rfl,_,rfl,_,rfl,F,_,rfl,SqL.of hFb,fun l1 nl1=>?_⟩
      refine ⟨_,rfl,l1,fun t=>lenT rs first (age+t * p) % nm,dd+1,dd,rfl,by rw [upd_same];exact congrArg (fun z=>some (HO.lst z)) (cut_last _ (dd+1)),by omega,by omega,fun Hc sc=>⟨_,rfl,_,_,rfl,rfl,h0,_,rfl,rfl,_,rfl,?_⟩⟩
      have em:∀ t:Nat,(fun t=>lenT rs first (age+t * p) % nm) t % nm=(fun t=>lenT rs first (age+t * p)) t % nm:=fun t=>Int.emod_emod_of_dvd _ (Int.dvd_refl nm)
      have e1:dK 1 dd (fun t=>lenT rs first (age+t * p) % nm) 0 % nm=dK p dd (lenT rs first) age % nm:=by
        rw [dK_mod 1 dd _ _ em 0,dK_step p age dd (lenT rs first) 0,Nat.zero_mul,Nat.add_zero]
      have ed1:decide (V.int (dK 1 dd (fun t=>lenT rs first (age+t * p) % nm) 0 % nm)=V.int (dK 1 dd (fun t=>lenT rs first (st+t * p)) 0 % nm))=true:=decide_eq_true (by rw [e1,edue])
      refine ite2 (fun _=>?_) (fun h=>absurd ed1 h)
      have sHc:=sHb.trans ((Same.add nl1).trans sc)
      refine ⟨_,rfl,(1:Int),rfl,F,_,rfl,SqL.of (sHc _ _ hF),fun l2 nl2=>?_⟩
      refine ⟨_,rfl,l2,fun t=>lenT rs first (age+(t+1) * p) % nm,dd+1,dd,rfl,?_,by omega,by omega,fun Hd sd=>⟨_,rfl,_,_,rfl,rfl,h0,_,rfl,rfl,?_⟩⟩
      · rw [upd_same]
        refine congrArg (fun z=>some (HO.lst z)) ?_
        rw [show dd+2=1+(dd+1) by omega]
        exact (cut_drop _ 1).trans (rg0_drop _ 1 (dd+1))
      · have em2:∀ t:Nat,(fun t=>lenT rs first (age+(t+1) * p) % nm) t % nm=(fun t=>lenT rs first (age+p+t * p)) t % nm:=fun t=>by
          show lenT rs first (age+(t+1) * p) % nm % nm=lenT rs first (age+p+t * p) % nm
          rw [Int.emod_emod_of_dvd _ (Int.dvd_refl nm),show age+(t+1) * p=age+p+t * p by rw [Nat.succ_mul];omega]
        have e2:dK 1 dd (fun t=>lenT rs first (age+(t+1) * p) % nm) 0 % nm=dK p dd (lenT rs first) age % nm:=by
          rw [dK_mod 1 dd _ _ em2 0,dK_step p (age+p) dd (lenT rs first) 0,Nat.zero_mul,Nat.add_zero,hround2]
        have ed2:decide (V.int (dK 1 dd (fun t=>lenT rs first (age+(t+1) * p) % nm) 0 % nm)=V.int (dK 1 dd (fun t=>lenT rs first (st+t * p)) 0 % nm))=true:=decide_eq_true (by rw [e2,edue])
        have hk2:=k Hd (s17.trans (sHc.trans ((Same.add nl2).trans sd)))
        rw [← ed2] at hk2
        exact hk2
end
end Lw
namespace Lw
open PySem L2 PyProof.Rows
section
variable {P:Program} {w:World} {K:PySem.W.Frag} {mg:Str→Option Value} {base:Heap}
theorem seq_keep {H H':Hp} {a:Addr} {xs:List V} (e:∀ o,H a=some o→H' a=some o) (h:SqL K H a xs):SqL K H' a xs:=by
  rcases h with (h | ⟨o,h⟩) | h
  · exact .inl (.inl (e _ h))
  · exact .inl (.inr ⟨o,e _ h⟩)
  · exact .inr h
def spLaw (K:PySem.W.Frag):Sp:=fun vs H Q _=>∃ (a:Addr) (ns:List Int),vs=[.ref a]∧SqL K H a (ns.map V.int)∧ns.length≤63∧∀ H',Q (.bl true) H'
theorem scLaw:FnScope ["_law_script","_law_words_here","_law_asks","_law_times","_law_number","_law_signs","_law_rules","_law_letter","_law_first","_law_age","_law_told"] ["_law_script"] (defScope sLaw):=⟨rfl,rfl,rfl,by decide +kernel,rfl,by decide +kernel,by decide +kernel⟩
theorem nd_law1:(["_law_sign","_law_words_here"]:List Str).Nodup:=by decide +kernel
theorem ok_law {f fLwd fPen fTxt fKin fRki fTak fKpt fGrt:Addr} {fd fdLwd fdPen fdTxt fdKin fdRki fdTak fdKpt fdGrt:FuncData} (F:Fun K "law" "law" sLaw f fd)
    (GLwd:FnOk P w K mg base CX0 3 fLwd fdLwd ["_law_pen_here"] spLwd)
    (gLwd:Gf K mg "_law_words" fLwd fdLwd ["_law_pen_here"])
    (GPen:FnOk P w K mg base CX0 1 fPen fdPen ["_law_script","_law_k"] (spPen K))
    (gPen:Gf K mg "_law_pen" fPen fdPen ["_law_script","_law_k"])
    (GTxt:FnOk P w K mg base CX0 2 fTxt fdTxt ["_law_pen_here","_law_signs","_law_many"] spTxt)
    (gTxt:Gf K mg "_law_text" fTxt fdTxt ["_law_pen_here","_law_signs","_law_many"])
    (GKin:FnOk P w K mg base CX0 7 fKin fdKin ["book","letter"] spKin)
    (gKin:Gf K mg "kind" fKin fdKin ["book","letter"])
    (GRki:FnOk P w K mg base CX0 7 fRki fdRki ["book"] spRki)
    (gRki:Gf K mg "row_kind" fRki fdRki ["book"])
    (GTak:FnOk P w K mg base CX0 1 fTak fdTak ["_law_pen_here","_law_size"] spTak)
    (gTak:Gf K mg "_law_take" fTak fdTak ["_law_pen_here","_law_size"])
    (GKpt:FnOk P w K mg base CX0 8 fKpt fdKpt ["_law_book","_law_told","_law_words_here","_law_age","_law_number"] spKpt)
    (gKpt:Gf K mg "_law_kept" fKpt fdKpt ["_law_book","_law_told","_law_words_here","_law_age","_law_number"])
    (GGrt:FnOk P w K mg base CX0 2 fGrt fdGrt ["_law_pen_here","_law_times"] spGrt)
    (gGrt:Gf K mg "_law_great" fGrt fdGrt ["_law_pen_here","_law_times"])
    (hlen:mg "len" = none)
    (hlist:mg "list" = none)
    (htuple:mg "tuple" = none)
    (hsorted:mg "sorted" = none)
    (hisinstance:mg "isinstance" = none)
    (hmin:mg "min" = none)
    : FnOk P w K mg base CX0 9 f fd ["_law_script"] (spLaw K):=by
  refine F.ok scLaw (fun vs H Q E h=>?_) (fun cdv A outer s H vs Q E hr h=>?_)
  · obtain ⟨a,ns,rfl,_⟩:=h
    rfl
  · obtain ⟨a,ns,rfl,hS,h63,k⟩:=h
    have hr1:Room 1 _:=hr.mono (by decide)
    have hr2:Room 2 _:=hr.mono (by decide)
    have hr3:Room 3 _:=hr.mono (by decide)
    have hr7:Room 7 _:=hr.mono (by decide)
    have hu:=hu_of hr
    refine ⟨_,(pss_cons (ps_set (i:=1) scLaw.nd rfl (Or.inr rfl) (pe_call GLwd hr3 rfl gLwd.m gLwd.k gLwd.b .nil pass0 (pa_cons (pe_call GPen hr1 rfl gPen.m gPen.k gPen.b .nil pass0 (pa_cons (pv 0) (pa_cons pe_int pa_nil))) pa_nil)))
      (pss_cons (ps_set (i:=2) scLaw.nd rfl (Or.inl rfl) (pe_call GPen hr1 rfl gPen.m gPen.k gPen.b .nil pass0 (pa_cons (pv 0) (pa_cons pe_int pa_nil))))
      (pss_cons (ps_set (i:=3) scLaw.nd rfl (Or.inl rfl) (pe_ix (ix_listK K) (pe_lst (pa_cons pe_int (pa_cons pe_int (pa_cons pe_int pa_nil)))) (pe_call GTak hr1 rfl gTak.m gTak.k gTak.b .nil pass0 (pa_cons (pv 2) (pa_cons pe_int pa_nil))) (fun _ _=>rfl)))
      (pss_cons (ps_if (pt_cmpR op_gt (pe_callB call_lenD (by rfl) hlen PySem.boot_len (pa_cons (pv 1) pa_nil)) pe_int (nomark _)) (pss_one (ps_set (i:=3) scLaw.nd rfl (Or.inl rfl) (pe_callB (call_min2 rfl) (by rfl) hmin (show bootBuiltins "min" = some (.builtin "min") by decide +kernel) (pa_cons (pv 3) (pa_cons pe_int pa_nil))))) pss_nil)
      (pss_cons (ps_set (i:=4) scLaw.nd rfl (Or.inl rfl) (pe_op op_add pe_int (pe_ix (ix_listK K) (pe_lst (pa_cons (pe_op op_mod (pe_call GGrt hr2 rfl gGrt.m gGrt.k gGrt.b .nil pass0 (pa_cons (pv 2) (pa_cons pe_int pa_nil))) (pe_op op_sub (pe_op op_pow pe_int pe_int) pe_int)) (pa_cons (pe_call GTak hr1 rfl gTak.m gTak.k gTak.b .nil pass0 (pa_cons (pv 2) (pa_cons pe_int pa_nil))) pa_nil))) (pe_op op_fdiv (pe_call GTak hr1 rfl gTak.m gTak.k gTak.b .nil pass0 (pa_cons (pv 2) (pa_cons pe_int pa_nil))) pe_int) (fun _ _=>rfl))))
      (pss_cons (ps_set (i:=5) scLaw.nd rfl (Or.inl rfl) (pe_callB (call_sortTK K) (by rfl) hsorted PyProof.Rows.boot_sorted (pa_cons (pe_callTy (call_list_dict rfl) (by rfl) hlist (by first | exact PySem.boot_list | decide +kernel) (pa_cons (pv 1) pa_nil)) pa_nil)))
      (pss_cons (ps_set (i:=6) scLaw.nd rfl (Or.inl rfl) (pe_callTy (call_tuple_ofK K) (by rfl) htuple (by first | exact PySem.boot_tuple | decide +kernel) (pa_cons (pe_comp (N':=["_law_sign","_law_words_here"]) (ix:=[none,some 1]) rfl rfl (pi_listK K (pv 5)) (fun _ _ _ _ _ _=>(pg_name (i:=0) nd_law1 rfl (Or.inl rfl))) (fun _ _ _ _ _ _=>pts_nil) (fun _ _ _ _ _ _=>(pe_tup (pa_cons (pv 0) (pa_cons (pe_dget hu (pv 1) (pv 0) (fun _ _=>rfl)) pa_nil))))) pa_nil)))
      (pss_cons (ps_set (i:=7) scLaw.nd rfl (Or.inl rfl) (pe_ix (ix_listK K) (pv 5) (pe_call GTak hr1 rfl gTak.m gTak.k gTak.b .nil pass0 (pa_cons (pv 2) (pa_cons (pe_callB (call_lenK K) (by rfl) hlen PySem.boot_len (pa_cons (pv 5) pa_nil)) pa_nil))) (fun _ _=>rfl)))
      (pss_cons (ps_set (i:=8) scLaw.nd rfl (Or.inl rfl) (pe_call GTxt hr2 rfl gTxt.m gTxt.k gTxt.b .nil pass0 (pa_cons (pv 2) (pa_cons (pv 5) (pa_cons (pe_call GTak hr1 rfl gTak.m gTak.k gTak.b .nil pass0 (pa_cons (pv 2) (pa_cons pe_int pa_nil))) pa_nil)))))
      (pss_cons (ps_set (i:=9) scLaw.nd rfl (Or.inl rfl) (pe_op op_add (pe_callB call_lenD (by rfl) hlen PySem.boot_len (pa_cons (pv 1) pa_nil)) (pe_op op_mod (pe_call GGrt hr2 rfl gGrt.m gGrt.k gGrt.b .nil pass0 (pa_cons (pv 2) (pa_cons (pv 3) pa_nil))) (pe_op op_sub (pe_op op_pow pe_int pe_int) pe_int))))
      (pss_cons (ps_set (i:=10) scLaw.nd rfl (Or.inl rfl) (pe_call GKin hr7 rfl gKin.m gKin.k gKin.b .nil pass0 (pa_cons (pe_tup (pa_cons (pv 8) (pa_cons (pv 6) pa_nil))) (pa_cons (pv 7) pa_nil))))
      (pss_cons (ps_if (PW.pt (pw_or (pt_not (pt_val (pe_callB (call_isinstK K) (by rfl) hisinstance (show bootBuiltins "isinstance" = some (.builtin "isinstance") by decide +kernel) (pa_cons (pv 10) (pa_cons (pe_bltn (v:=.ty "tuple") (by rfl) htuple (show bootBuiltins "tuple" = some (.type "tuple") by decide +kernel) rfl) pa_nil))))) (pw_or1 (pt_not (pt_val (pe_call GKpt hr rfl gKpt.m gKpt.k gKpt.b .nil pass0 (pa_cons (pe_tup (pa_cons (pv 7) (pa_cons (pv 6) pa_nil))) (pa_cons (pv 10) (pa_cons (pv 1) (pa_cons (pv 9) (pa_cons (pv 4) pa_nil))))))))))) (pss_one (ps_ret pe_bl)) pss_nil)
      (pss_cons (ps_set (i:=10) scLaw.nd rfl (Or.inl rfl) (pe_call GRki hr7 rfl gRki.m gRki.k gRki.b .nil pass0 (pa_cons (pe_tup (pa_cons (pv 8) (pa_cons (pv 6) pa_nil))) pa_nil)))
      (pss_one (ps_ret (pe_and (pe_callB (call_isinstK K) (by rfl) hisinstance (show bootBuiltins "isinstance" = some (.builtin "isinstance") by decide +kernel) (pa_cons (pv 10) (pa_cons (pe_bltn (v:=.ty "tuple") (by rfl) htuple (show bootBuiltins "tuple" = some (.type "tuple") by decide +kernel) rfl) pa_nil))) (pe_one (pe_call GKpt hr rfl gKpt.m gKpt.k gKpt.b .nil pass0 (pa_cons (pe_tup (pa_cons (pv 8) (pa_cons (pv 6) pa_nil))) (pa_cons (pv 10) (pa_cons (pv 1) (pa_cons (pv 9) (pa_cons (pv 4) pa_nil))))))))))))))))))))))),?_⟩
    refine ⟨_,rfl,a,ns,_,rfl,hS,h63,by omega,by omega,fun p H1 s1 np hP1=>?_⟩
    refine ⟨p,0,rfl,hP1,by omega,fun d us H2 nd b2 hP2 hd2 hW hu1 hu5=>?_⟩
    have hS2:SqL K H2 a (ns.map V.int):=seq_keep (fun o ho=>b2 a o (s1 a o ho) (fun z=>by rw [z,np] at ho;cases ho)) hS
    refine ⟨_,rfl,a,ns,_,rfl,hS2,h63,by omega,by omega,fun p2 H3 s3 np2 hQ3=>?_⟩
    have but3:∀ {Ha Hb:Hp},(∀ c,c≠p2→Hb c=Ha c)→But p2 Ha Hb:=fun e c o h n=>(e c n).trans h
    have hd3:=s3 _ _ hd2
    have ndp:d≠p2:=fun z=>by obtain ⟨_,_,_,ho,_⟩:=hQ3.ex;rw [z,ho] at hd3;cases hd3
    have ekl:(kvw us).length=us.length:=by unfold kvw;rw [List.length_map]
    obtain ⟨o3,ho3⟩:=hQ3.some
    refine ⟨szl (show 3≤1000 by decide),fun t1 ht1=>?_⟩
    have np1:p2≠t1:=ne_of_none ho3 ht1
    have ndt1:d≠t1:=ne_of_none hd3 ht1
    refine ⟨_,rfl,p2,0,_,rfl,hQ3.other (upd_ne np1),by omega,by decide,by decide,fun z1 H4 z10 z11 hQ4 e4=>?_⟩
    obtain ⟨m1,rfl⟩:∃ m:Nat,z1=(m:Int):=⟨z1.toNat,by omega⟩
    obtain ⟨tms,htm,ht8⟩:=arrT m1 (by omega)
    refine ⟨t1,_,_,_,rfl,rfl,SqL.of ((e4 t1 np1.symm).trans upd_same),atI_nat htm,?_⟩
    have hd4:H4 d=some (.dK (kvw us)):=by rw [e4 d ndp,upd_ne ndt1];exact hd3
    dsimp only [gName]
    refine seq_by (fun σ H5=>∃ tt:Nat,σ=[some (.ref a),some (.ref d),some (.ref p2),some (.int (tt:Int)),none,none,none,none,none,none,none]∧tt≤8∧H5=H4) (fun nx hn=>?_) ?_
    · refine ⟨_,rfl,d,kvw us,rfl,hd4,_,_,rfl,rfl,_,rfl,ite2 (fun _=>?_) (fun _=>hn _ _ ⟨tms,rfl,ht8,rfl⟩)⟩
      refine ⟨_,rfl,_,_,rfl,?_⟩
      by_cases h3:(3:Int) < (tms:Int)
      · rw [if_pos h3]
        exact hn _ _ ⟨3,rfl,by omega,rfl⟩
      · rw [if_neg h3]
        exact hn _ _ ⟨tms,rfl,ht8,rfl⟩
    rintro σ H5' ⟨tt,rfl,htt,rfl⟩
    -- the number
    refine ⟨_,rfl,p2,1,4,rfl,hQ4,by omega,by omega,fun zg H6 zg0 hQ6 e6=>?_⟩
    refine ⟨_,_,rfl,rfl,⟨by decide,by decide,by decide⟩,_,_,rfl,rfl,_,_,rfl,rfl,(by show (0:Int) < (10:Int) ^ Int.toNat 30 - 1;rw [ten30];decide),?_⟩
    refine ⟨_,rfl,p2,5,_,rfl,hQ6,by omega,by decide,by decide,fun zt H7 zt0 zt1 hQ7 e7=>?_⟩
    obtain ⟨o7,ho7⟩:=hQ7.some
    refine ⟨szl (show 2≤1000 by decide),fun L nL=>?_⟩
    have npL:p2≠L:=ne_of_none ho7 nL
    have hd7:H7 d=some (.dK (kvw us)):=(e7 d ndp).trans ((e6 d ndp).trans hd4)
    have ndL:d≠L:=ne_of_none hd7 nL
    refine ⟨_,rfl,p2,6,_,rfl,hQ7.other (upd_ne npL),by omega,by decide,by decide,fun zi H8 zi0 zi1 hQ8 e8=>?_⟩
    have hL8:=(e8 L npL.symm).trans upd_same
    have hd8:H8 d=some (.dK (kvw us)):=by rw [e8 d ndp,upd_ne ndL];exact hd7
    refine ⟨_,_,rfl,rfl,⟨by decide,by decide⟩,?_⟩
    obtain ⟨n0,hn0,n00,n01⟩:∃ n0:Int,atI [V.int (zg % ((10:Int) ^ Int.toNat 30 - 1)),V.int zt] (zi / 2)=some (.int n0)∧0≤n0∧n0 < 999999999999999999999999999999:=by
      have:zi=0∨zi=1∨zi=2:=by omega
      have a1:=Int.emod_nonneg zg (show (999999999999999999999999999999:Int)≠0 by decide)
      have a2:=Int.emod_lt_of_pos zg (show (0:Int) < 999999999999999999999999999999 by decide)
      rw [ten30,show (1000000000000000000000000000000:Int) - 1=999999999999999999999999999999 by decide]
      rcases this with rfl | rfl | rfl
      · exact ⟨_,atI_nat (j:=0) rfl,a1,a2⟩
      · exact ⟨_,atI_nat (j:=0) rfl,a1,a2⟩
      · exact ⟨_,atI_nat (j:=1) rfl,zt0,by omega⟩
    refine ⟨L,_,_,_,rfl,rfl,SqL.of hL8,hn0,_,_,rfl,rfl,?_⟩
    -- the letters and the rules
    have hfew:=hW.few
    have es:∀ xs:List Nat,(xs.map one).map V.str=xs.map sign:=fun xs=>by rw [List.map_map];rfl
    refine ⟨_,rfl,d,kvw us,(ltr us).map one,rfl,hd8,kvw_ones us,fun l nl=>?_⟩
    rw [es]
    have sl:=Same.add (o:=.lst ((ltr us).map sign)) nl
    refine ⟨l,false,(ltr us).map one,rfl,(by show SqL K _ l _;rw [es];exact SqL.of upd_same),by rw [List.length_map,ltr_len];omega,fun g ss' hg hperm hsort=>?_⟩
    obtain ⟨cs,hp',rfl⟩:=perm_ones hperm
    rw [es]
    have c8:cs.length=us.length:=by rw [hp'.length_eq];exact ltr_len us
    have sg:=Same.add (o:=.lst (cs.map sign)) hg
    have s89:=sl.trans sg
    have hg9:upd (upd H8 l (.lst ((ltr us).map sign))) g (.lst (cs.map sign)) g=some (.lst (cs.map sign)):=upd_same
    have hQ9:PenAt (upd (upd H8 l (.lst ((ltr us).map sign))) g (.lst (cs.map sign))) p2 7:=by obtain ⟨o,ho⟩:=hQ8.some;exact hQ8.other ((s89 _ _ ho).trans ho.symm)
    have ngp:g≠p2:=by obtain ⟨o,ho⟩:=hQ8.some;exact (ne_of_none (sl _ _ ho) hg).symm
    have hd9:=s89 _ _ hd8
    revert s89 hg9 hQ9 hd9
    generalize upd (upd H8 l (.lst ((ltr us).map sign))) g (.lst (cs.map sign))=H9
    intro s89 hg9 hQ9 hd9
    have el:((cs.map sign).length:Int)=(cs.length:Int):=by rw [List.length_map]
    have hcu:∀ c,c∈cs ↔ c∈ltr us:=fun c=>hp'.mem_iff
    have nd':cs.Nodup:=hp'.nodup_iff.mpr hW.nd
    have hlt:=sorted_lt hsort nd'
    refine ⟨_,rfl,g,rfl,⟨_,SqL.of hg9⟩,?_⟩
    refine comp_allR (τ0:=[none,some (V.ref d)]) (sure_list (xs:=cs.map sign)) (by rw [List.length_map];omega)
      (fun i ys τ Ha=>Same H9 Ha∧(∃ v,τ=[v,some (.ref d)])∧∃ (ps:List Addr),ys=ps.map V.ref∧RulesAt Ha ps ((cs.take i).map fun c=>(c,wd us c)))
      ⟨Same.refl _,⟨_,rfl⟩,[],rfl,.nil⟩ ?_ ?_ ?_
    · rintro i ys τ Ha hi ⟨sa,_,ps,rfl,hR⟩
      refine ⟨SqL.of (sa _ _ hg9),?_⟩
      rw [List.length_map,hR.len,List.length_map,List.length_take]
      omega
    · rintro i y ys τ Ha hy ⟨sa,⟨v0,rfl⟩,ps,rfl,hR⟩
      rw [List.getElem?_map] at hy
      cases ec:cs[i]? with
      | none=>rw [ec] at hy;cases hy
      | some c =>
        rw [ec] at hy
        cases hy
        have hc:=(hcu c).mp (List.mem_of_getElem? ec)
        have hg':=DGet.k (k:=(Sum.inr (one c):Key)) (sa _ _ hd9)
        rw [kvw_wd hW.nd hc] at hg'
        refine ⟨_,rfl,_,rfl,_,rfl,d,_,rfl,hg',(by show 2≤sizeLine;decide),fun T hT=>?_⟩
        refine ⟨sa.trans (Same.add hT),⟨_,rfl⟩,ps++[T],by rw [List.map_append];rfl,?_⟩
        rw [take_snoc (fun c=>(c,wd us c)) ec]
        exact (hR.mono (TupS.same (Same.add hT))).snoc upd_same
    rintro ys τ Ha D ⟨sa,_,ps,rfl,hR⟩ hD
    rw [List.length_map,take_all] at hR
    refine ⟨D,ps.map V.ref,rfl,.inl ⟨SqL.of upd_same,fun r hr=>?_⟩⟩
    have sA:Same Ha (upd Ha D (.lst (ps.map V.ref))):=Same.add hD
    have sB:=Same.add (o:=.tup (ps.map V.ref)) hr
    have elr:ltr (cs.map fun c=>(c,wd us c))=cs:=by
      show List.map _ (List.map _ _)=_
      rw [List.map_map]
      exact List.map_id _
    have hq:∀ r∈cs.map (fun c=>(c,wd us c)),r.1∈ltr us∧r.2=wd us r.1:=fun r hr=>by
      obtain ⟨c,hc,rfl⟩:=List.mem_map.mp hr
      exact ⟨(hcu c).mp hc,rfl⟩
    have s9b:=sa.trans (sA.trans sB)
    have hRb:=hR.mono (TupS.same (sA.trans sB))
    have hrb:upd (upd Ha D (.lst (ps.map V.ref))) r (.tup (ps.map V.ref)) r=some (.tup (ps.map V.ref)):=upd_same
    have hG:∀ x:List Nat,x.length≤12→(∀ c∈x,c∈cs)→Good x (cs.map fun c=>(c,wd us c)):=fun x hx hin=>by
      refine ⟨by rw [List.length_map];omega,by rw [show (cs.map fun c=>(c,wd us c)).map (·.1)=cs from elr];exact hlt,fun r hr=>hW.abc _ (hq r hr).1,fun r hr=>?_,fun r hr c hc=>?_,hx,fun c hc=>?_⟩
      · rw [(hq r hr).2]
        exact (wd_of hW (hq r hr).1).1
      · rw [(hq r hr).2] at hc
        show c∈ltr (cs.map fun c=>(c,wd us c))
        rw [elr]
        exact (hcu c).mpr ((wd_of hW (hq r hr).1).2 c hc)
      · show c∈ltr (cs.map fun c=>(c,wd us c))
        rw [elr]
        exact hin c hc
    have hL:Like us (cs.map fun c=>(c,wd us c)):=by
      refine ⟨fun c=>by rw [elr];exact hcu c,fun c hc=>?_,by rw [List.length_map];exact c8⟩
      obtain ⟨q',h1,h2,h3⟩:=wd_mem (show c∈ltr (cs.map fun c=>(c,wd us c)) by rw [elr];exact (hcu c).mpr hc)
      rw [h3,(hq q' h1).2,h2]
    have elen:(cs.map fun c=>(c,wd us c)).length=cs.length:=by rw [List.length_map]
    revert hRb hG hL elen elr s9b hrb
    generalize (cs.map fun c=>(c,wd us c))=rs
    generalize upd (upd Ha D (.lst (ps.map V.ref))) r (.tup (ps.map V.ref))=Hb
    intro elr s9b hRb hrb hG hL elen
    have hQb:PenAt Hb p2 7:=by obtain ⟨o,ho⟩:=hQ9.some;exact hQ9.other ((s9b _ _ ho).trans ho.symm)
    have hdb:=s9b _ _ hd9
    have hgb:=s9b _ _ hg9
    -- a letter,a first row and an age
    refine ⟨_,rfl,_,rfl,_,rfl,g,_,rfl,.inl (SqL.of hgb),p2,7,_,rfl,hQb,by omega,by rw [el];omega,by rw [el];omega,fun zc Hc zc0 zc1 hQc ecx=>?_⟩
    rw [el] at zc1
    obtain ⟨j,rfl⟩:∃ j:Nat,zc=(j:Int):=⟨zc.toNat,by omega⟩
    have hj:j < cs.length:=by omega
    refine ⟨g,_,_,sign cs[j],rfl,rfl,SqL.of ((ecx g ngp).trans hgb),atI_nat (by rw [List.getElem?_map,List.getElem?_eq_getElem hj];rfl),?_⟩
    have hcj:cs[j]∈cs:=List.getElem_mem hj
    revert hcj
    generalize cs[j]=c
    intro hcj
    refine ⟨_,rfl,_,rfl,_,rfl,p2,8,_,rfl,hQc,by omega,by decide,by decide,fun zm Hd zm0 zm1 hQd ed=>?_⟩
    obtain ⟨m,rfl⟩:∃ m:Nat,zm=(m:Int):=⟨zm.toNat,by omega⟩
    have bbd:But p2 Hb Hd:=(but3 ecx).trans (but3 ed)
    refine ⟨p2,g,9,m,cs,rfl,hQd,by omega,by omega,bbd _ _ hgb ngp,by omega,ngp,fun first He f1 _ f2 be hQe=>?_⟩
    have bbe:But p2 Hb He:=bbd.trans be
    have hde:=bbe _ _ hdb ndp
    refine ⟨_,rfl,d,kvw us,rfl,hde,_,rfl,_,rfl,p2,9+m,tt,rfl,hQe,by omega,htt,fun zw Hf zw0 hQf ef=>?_⟩
    have bbf:But p2 Hb Hf:=bbe.trans (but3 ef)
    refine ⟨_,_,rfl,rfl,⟨by decide,by decide,by decide⟩,_,_,rfl,rfl,_,_,rfl,rfl,(by show (0:Int) < (10:Int) ^ Int.toNat 60 - 200;rw [ten60];decide),_,_,rfl,rfl,?_⟩
    obtain ⟨age,eage,ag1,ag2⟩:∃ age:Nat,(((kvw us).length:Nat):Int)+zw % ((10:Int) ^ Int.toNat 60 - 200)=(age:Int)∧rs.length≤age∧age+100 < 1000000000000000000000000000000000000000000000000000000000000:=by
      have a1:=Int.emod_nonneg zw (show (999999999999999999999999999999999999999999999999999999999800:Int)≠0 by decide)
      have a2:=Int.emod_lt_of_pos zw (show (0:Int) < 999999999999999999999999999999999999999999999999999999999800 by decide)
      rw [ten60,show (1000000000000000000000000000000000000000000000000000000000000:Int) - 200=999999999999999999999999999999999999999999999999999999999800 by decide,ekl]
      exact ⟨((us.length:Int)+zw % 999999999999999999999999999999999999999999999999999999999800).toNat,by omega,by omega,by omega⟩
    dsimp only
    rw [eage]
    have hGf:=hG first (by omega) f2
    have hGc:=hG [c] (by show 1≤12;decide) fun e he=>by rw [List.mem_singleton.mp he];exact hcj
    have nrp:r≠p2:=fun z=>by obtain ⟨_,_,_,ho,_⟩:=hQb.ex;rw [z,ho] at hrb;cases hrb
    have hrf:=bbf _ _ hrb nrp
    have hdf:=bbf _ _ hdb ndp
    have hRf:RulesAt Hf ps rs:=hRb.mono fun c xs e=>bbf c _ e fun z=>by obtain ⟨_,_,_,ho,_⟩:=hQb.ex;rw [z,ho] at e;cases e
    have nm0:(0:Int) < 1+n0:=by omega
    have nm1:(1:Int)+n0 < 1000000000000000000000000000000:=by omega
    have h5:rs.length≤5:=by omega
    have hcr:c∈ltr rs:=by rw [elr];exact hcj
    have bk:∀ {Hx Hy:Hp} {T:Addr} {x:List Nat},Same Hf Hx→Hx T=none→Same (upd Hx T (.tup [tx x,.ref r])) Hy→BookAt Hy T x rs:=fun sx nT sy=>⟨r,ps,sy _ _ upd_same,(sx.trans ((Same.add nT).trans sy)) _ _ hrf,hRf.mono (TupS.same (sx.trans ((Same.add nT).trans sy)))⟩
    refine ⟨_,rfl,_,rfl,szl (show 2≤1000 by decide),fun T1 nT1=>?_⟩
    have q1:=Same.add (o:=.tup [tx first,V.ref r]) nT1
    refine ⟨_,rfl,T1,first,rs,c,rfl,bk (Same.refl _) nT1 (Same.refl _),hGf,hcr,fun U1 v1 Hg sg1 nU1 hU1 hk1=>?_⟩
    refine ⟨_,rfl,_,_,_,true,rfl,TyOf.tup hU1,(by rfl),_,rfl,iteF ?_⟩
    have fg:=q1.trans sg1
    refine ⟨_,rfl,_,rfl,szl (show 2≤1000 by decide),fun T2 nT2=>?_⟩
    have q2:=Same.add (o:=.tup [sign c,V.ref r]) nT2
    refine ⟨_,rfl,_,rfl,_,rfl,_,rfl,T2,U1,d,age,1+n0,us,[c],rs,v1,rfl,bk (x:=[c]) fg nT2 (Same.refl _),hGc,q2 _ _ hU1,hk1,(fg.trans q2) _ _ hdf,hW,hL,h5,ag1,ag2,nm0,nm1,fun Hh sh=>⟨_,rfl,iteF ?_⟩⟩
    have fh:=fg.trans (q2.trans sh)
    refine ⟨_,rfl,_,rfl,szl (show 2≤1000 by decide),fun T3 nT3=>?_⟩
    have q3:=Same.add (o:=.tup [tx first,V.ref r]) nT3
    refine ⟨T3,first,rs,rfl,bk fh nT3 (Same.refl _),hGf,fun U2 v2 Hi si nU2 hU2 hk2=>?_⟩
    have fi:=fh.trans (q3.trans si)
    refine ⟨_,rfl,_,_,_,true,rfl,TyOf.tup hU2,(by rfl),_,rfl,iteT ?_⟩
    refine ⟨_,rfl,_,rfl,szl (show 2≤1000 by decide),fun T4 nT4=>?_⟩
    have q4:=Same.add (o:=.tup [tx first,V.ref r]) nT4
    exact ⟨_,rfl,_,rfl,_,rfl,_,rfl,T4,U2,d,age,1+n0,us,first,rs,v2,rfl,bk fi nT4 (Same.refl _),hGf,q4 _ _ hU2,hk2,(fi.trans q4) _ _ hdf,hW,hL,h5,ag1,ag2,nm0,nm1,fun Hj sj=>k _⟩
end
end Lw
namespace Lw
open PySem L2
theorem gf_mk {K:PySem.W.Frag} {h:Heap} {mg:Str→Option Value} {x:Str} {fd:FuncData} {f:Addr} {ps:List Str} (X:K.In h) (G:h.Ns mainGlobals mg) (a:PySem.W.nsIn K mainGlobals x=some (some (.ref f))) (k:PySem.W.keepIn K (.ref f)=true) (b:Binds K fd ps []):Gf K mg x f fd ps :=
  ⟨PySem.W.mg_of X G a,k,b⟩
theorem all_mk {l:PySem.W.OpenLaw} {w:World} {K:PySem.W.Frag} {h:Heap} {mg:Str→Option Value} {fa f0 f1 f2 f3 f4 f5 f6 f7 f8 f9 f10 f11 f12 f13 f14 f15 f16 f17 f18 f19 f20 f21 f22 f23 f24 f25 f26 f27 f28 f29 f30 f31 f32 f33 f34 f35 f36 f37 f38 f39 f40 f41 f42 f43 f44 f45 f46 f47 f48 f49:Addr} (X:K.In h) (G:h.Ns mainGlobals mg) (hfa:mg "law" = some (.ref fa))
    {od0 an0 od1 an1 od2 an2 od3 an3 od4 an4 od5 an5 od6 an6 od7 an7 od8 an8 od9 an9 od10 an10 od11 an11 od12 an12 od13 an13 od14 an14 od15 an15 od16 an16 od17 an17 od18 an18 od19 an19 od20 an20 od21 an21 od22 an22 od23 an23 od24 an24 od25 an25 od26 an26 od27 an27 od28 an28 od29 an29 od30 an30 od31 an31 od32 an32 od33 an33 od34 an34 od35 an35 od36 an36 od37 an37 od38 an38 od39 an39 od40 an40 od41 an41 od42 an42 od43 an43 od44 an44 od45 an45 od46 an46 od47 an47 od48 an48 od49 an49:Option Addr} {sl0 sl1 sl2 sl3 sl4 sl5 sl6 sl7 sl8 sl9 sl10 sl11 sl12 sl13 sl14 sl15 sl16 sl17 sl18 sl19 sl20 sl21 sl22 sl23 sl24 sl25 sl26 sl27 sl28 sl29 sl30 sl31 sl32 sl33 sl34 sl35 sl36 sl37 sl38 sl39 sl40 sl41 sl42 sl43 sl44 sl45 sl46 sl47 sl48 sl49:Array (Option Value)} {oc0 kV0 dc0 pm0 cd0 ct0 oc1 kV1 dc1 pm1 cd1 ct1 oc2 kV2 dc2 pm2 cd2 ct2 oc3 kV3 dc3 pm3 cd3 ct3 oc4 kV4 dc4 pm4 cd4 ct4 oc5 kV5 dc5 pm5 cd5 ct5 oc6 kV6 dc6 pm6 cd6 ct6 oc7 kV7 dc7 pm7 cd7 ct7 oc8 kV8 dc8 pm8 cd8 ct8 oc9 kV9 dc9 pm9 cd9 ct9 oc10 kV10 dc10 pm10 cd10 ct10 oc11 kV11 dc11 pm11 cd11 ct11 oc12 kV12 dc12 pm12 cd12 ct12 oc13 kV13 dc13 pm13 cd13 ct13 oc14 kV14 dc14 pm14 cd14 ct14 oc15 kV15 dc15 pm15 cd15 ct15 oc16 kV16 dc16 pm16 cd16 ct16 oc17 kV17 dc17 pm17 cd17 ct17 oc18 kV18 dc18 pm18 cd18 ct18 oc19 kV19 dc19 pm19 cd19 ct19 oc20 kV20 dc20 pm20 cd20 ct20 oc21 kV21 dc21 pm21 cd21 ct21 oc22 kV22 dc22 pm22 cd22 ct22 oc23 kV23 dc23 pm23 cd23 ct23 oc24 kV24 dc24 pm24 cd24 ct24 oc25 kV25 dc25 pm25 cd25 ct25 oc26 kV26 dc26 pm26 cd26 ct26 oc27 kV27 dc27 pm27 cd27 ct27 oc28 kV28 dc28 pm28 cd28 ct28 oc29 kV29 dc29 pm29 cd29 ct29 oc30 kV30 dc30 pm30 cd30 ct30 oc31 kV31 dc31 pm31 cd31 ct31 oc32 kV32 dc32 pm32 cd32 ct32 oc33 kV33 dc33 pm33 cd33 ct33 oc34 kV34 dc34 pm34 cd34 ct34 oc35 kV35 dc35 pm35 cd35 ct35 oc36 kV36 dc36 pm36 cd36 ct36 oc37 kV37 dc37 pm37 cd37 ct37 oc38 kV38 dc38 pm38 cd38 ct38 oc39 kV39 dc39 pm39 cd39 ct39 oc40 kV40 dc40 pm40 cd40 ct40 oc41 kV41 dc41 pm41 cd41 ct41 oc42 kV42 dc42 pm42 cd42 ct42 oc43 kV43 dc43 pm43 cd43 ct43 oc44 kV44 dc44 pm44 cd44 ct44 oc45 kV45 dc45 pm45 cd45 ct45 oc46 kV46 dc46 pm46 cd46 ct46 oc47 kV47 dc47 pm47 cd47 ct47 oc48 kV48 dc48 pm48 cd48 ct48 oc49 kV49 dc49 pm49 cd49 ct49:Value} {tkSMALL_LETTERS tkLONGEST_ROW:Tok}
    (a0:PySem.W.nsIn K mainGlobals "is_whole" = some (some (.ref f0))) (l0:K.lookup f0=some ⟨oc0,od0,.func (PySem.W.fnOf "is_whole" "is_whole" (defArgs sWho) (defBody sWho) (defScope sWho) .none kV0 dc0 pm0 an0 cd0 ct0),sl0⟩) (c0:PySem.W.codeIn K cd0 "is_whole" = true) (k0:PySem.W.keepIn K (.ref f0)=true)
    (a1:PySem.W.nsIn K mainGlobals "is_within" = some (some (.ref f1))) (l1:K.lookup f1=some ⟨oc1,od1,.func (PySem.W.fnOf "is_within" "is_within" (defArgs sWin) (defBody sWin) (defScope sWin) .none kV1 dc1 pm1 an1 cd1 ct1),sl1⟩) (c1:PySem.W.codeIn K cd1 "is_within" = true) (k1:PySem.W.keepIn K (.ref f1)=true)
    (a2:PySem.W.nsIn K mainGlobals "is_letter" = some (some (.ref f2))) (l2:K.lookup f2=some ⟨oc2,od2,.func (PySem.W.fnOf "is_letter" "is_letter" (defArgs sIsl) (defBody sIsl) (defScope sIsl) .none kV2 dc2 pm2 an2 cd2 ct2),sl2⟩) (c2:PySem.W.codeIn K cd2 "is_letter" = true) (k2:PySem.W.keepIn K (.ref f2)=true)
    (a3:PySem.W.nsIn K mainGlobals "is_text_of" = some (some (.ref f3))) (l3:K.lookup f3=some ⟨oc3,od3,.func (PySem.W.fnOf "is_text_of" "is_text_of" (defArgs sItx) (defBody sItx) (defScope sItx) .none kV3 dc3 pm3 an3 cd3 ct3),sl3⟩) (c3:PySem.W.codeIn K cd3 "is_text_of" = true) (k3:PySem.W.keepIn K (.ref f3)=true)
    (a4:PySem.W.nsIn K mainGlobals "need_far_age" = some (some (.ref f4))) (l4:K.lookup f4=some ⟨oc4,od4,.func (PySem.W.fnOf "need_far_age" "need_far_age" (defArgs sNfa) (defBody sNfa) (defScope sNfa) .none kV4 dc4 pm4 an4 cd4 ct4),sl4⟩) (c4:PySem.W.codeIn K cd4 "need_far_age" = true) (k4:PySem.W.keepIn K (.ref f4)=true)
    (a5:PySem.W.nsIn K mainGlobals "need_number" = some (some (.ref f5))) (l5:K.lookup f5=some ⟨oc5,od5,.func (PySem.W.fnOf "need_number" "need_number" (defArgs sNnu) (defBody sNnu) (defScope sNnu) .none kV5 dc5 pm5 an5 cd5 ct5),sl5⟩) (c5:PySem.W.codeIn K cd5 "need_number" = true) (k5:PySem.W.keepIn K (.ref f5)=true)
    (a6:PySem.W.nsIn K mainGlobals "ruled_letters" = some (some (.ref f6))) (l6:K.lookup f6=some ⟨oc6,od6,.func (PySem.W.fnOf "ruled_letters" "ruled_letters" (defArgs sRul) (defBody sRul) (defScope sRul) .none kV6 dc6 pm6 an6 cd6 ct6),sl6⟩) (c6:PySem.W.codeIn K cd6 "ruled_letters" = true) (k6:PySem.W.keepIn K (.ref f6)=true)
    (a7:PySem.W.nsIn K mainGlobals "letters" = some (some (.ref f7))) (l7:K.lookup f7=some ⟨oc7,od7,.func (PySem.W.fnOf "letters" "letters" (defArgs sLet) (defBody sLet) (defScope sLet) .none kV7 dc7 pm7 an7 cd7 ct7),sl7⟩) (c7:PySem.W.codeIn K cd7 "letters" = true) (k7:PySem.W.keepIn K (.ref f7)=true)
    (a8:PySem.W.nsIn K mainGlobals "need_letter" = some (some (.ref f8))) (l8:K.lookup f8=some ⟨oc8,od8,.func (PySem.W.fnOf "need_letter" "need_letter" (defArgs sNle) (defBody sNle) (defScope sNle) .none kV8 dc8 pm8 an8 cd8 ct8),sl8⟩) (c8:PySem.W.codeIn K cd8 "need_letter" = true) (k8:PySem.W.keepIn K (.ref f8)=true)
    (a9:PySem.W.nsIn K mainGlobals "tally" = some (some (.ref f9))) (l9:K.lookup f9=some ⟨oc9,od9,.func (PySem.W.fnOf "tally" "tally" (defArgs sTal) (defBody sTal) (defScope sTal) .none kV9 dc9 pm9 an9 cd9 ct9),sl9⟩) (c9:PySem.W.codeIn K cd9 "tally" = true) (k9:PySem.W.keepIn K (.ref f9)=true)
    (a10:PySem.W.nsIn K mainGlobals "table" = some (some (.ref f10))) (l10:K.lookup f10=some ⟨oc10,od10,.func (PySem.W.fnOf "table" "table" (defArgs sTab) (defBody sTab) (defScope sTab) .none kV10 dc10 pm10 an10 cd10 ct10),sl10⟩) (c10:PySem.W.codeIn K cd10 "table" = true) (k10:PySem.W.keepIn K (.ref f10)=true)
    (a11:PySem.W.nsIn K mainGlobals "column" = some (some (.ref f11))) (l11:K.lookup f11=some ⟨oc11,od11,.func (PySem.W.fnOf "column" "column" (defArgs sCol) (defBody sCol) (defScope sCol) .none kV11 dc11 pm11 an11 cd11 ct11),sl11⟩) (c11:PySem.W.codeIn K cd11 "column" = true) (k11:PySem.W.keepIn K (.ref f11)=true)
    (a12:PySem.W.nsIn K mainGlobals "columns" = some (some (.ref f12))) (l12:K.lookup f12=some ⟨oc12,od12,.func (PySem.W.fnOf "columns" "columns" (defArgs sCls) (defBody sCls) (defScope sCls) .none kV12 dc12 pm12 an12 cd12 ct12),sl12⟩) (c12:PySem.W.codeIn K cd12 "columns" = true) (k12:PySem.W.keepIn K (.ref f12)=true)
    (a13:PySem.W.nsIn K mainGlobals "paired_sum" = some (some (.ref f13))) (l13:K.lookup f13=some ⟨oc13,od13,.func (PySem.W.fnOf "paired_sum" "paired_sum" (defArgs sPrs) (defBody sPrs) (defScope sPrs) .none kV13 dc13 pm13 an13 cd13 ct13),sl13⟩) (c13:PySem.W.codeIn K cd13 "paired_sum" = true) (k13:PySem.W.keepIn K (.ref f13)=true)
    (a14:PySem.W.nsIn K mainGlobals "one_age_on" = some (some (.ref f14))) (l14:K.lookup f14=some ⟨oc14,od14,.func (PySem.W.fnOf "one_age_on" "one_age_on" (defArgs sOao) (defBody sOao) (defScope sOao) .none kV14 dc14 pm14 an14 cd14 ct14),sl14⟩) (c14:PySem.W.codeIn K cd14 "one_age_on" = true) (k14:PySem.W.keepIn K (.ref f14)=true)
    (a15:PySem.W.nsIn K mainGlobals "text_sum" = some (some (.ref f15))) (l15:K.lookup f15=some ⟨oc15,od15,.func (PySem.W.fnOf "text_sum" "text_sum" (defArgs sTsm) (defBody sTsm) (defScope sTsm) .none kV15 dc15 pm15 an15 cd15 ct15),sl15⟩) (c15:PySem.W.codeIn K cd15 "text_sum" = true) (k15:PySem.W.keepIn K (.ref f15)=true)
    (a16:PySem.W.nsIn K mainGlobals "words_by_age" = some (some (.ref f16))) (l16:K.lookup f16=some ⟨oc16,od16,.func (PySem.W.fnOf "words_by_age" "words_by_age" (defArgs sWba) (defBody sWba) (defScope sWba) .none kV16 dc16 pm16 an16 cd16 ct16),sl16⟩) (c16:PySem.W.codeIn K cd16 "words_by_age" = true) (k16:PySem.W.keepIn K (.ref f16)=true)
    (a17:PySem.W.nsIn K mainGlobals "letter_sums" = some (some (.ref f17))) (l17:K.lookup f17=some ⟨oc17,od17,.func (PySem.W.fnOf "letter_sums" "letter_sums" (defArgs sLsm) (defBody sLsm) (defScope sLsm) .none kV17 dc17 pm17 an17 cd17 ct17),sl17⟩) (c17:PySem.W.codeIn K cd17 "letter_sums" = true) (k17:PySem.W.keepIn K (.ref f17)=true)
    (a18:PySem.W.nsIn K mainGlobals "size_sums" = some (some (.ref f18))) (l18:K.lookup f18=some ⟨oc18,od18,.func (PySem.W.fnOf "size_sums" "size_sums" (defArgs sSsm) (defBody sSsm) (defScope sSsm) .none kV18 dc18 pm18 an18 cd18 ct18),sl18⟩) (c18:PySem.W.codeIn K cd18 "size_sums" = true) (k18:PySem.W.keepIn K (.ref f18)=true)
    (a19:PySem.W.nsIn K mainGlobals "length_sums" = some (some (.ref f19))) (l19:K.lookup f19=some ⟨oc19,od19,.func (PySem.W.fnOf "length_sums" "length_sums" (defArgs sLns) (defBody sLns) (defScope sLns) .none kV19 dc19 pm19 an19 cd19 ct19),sl19⟩) (c19:PySem.W.codeIn K cd19 "length_sums" = true) (k19:PySem.W.keepIn K (.ref f19)=true)
    (a20:PySem.W.nsIn K mainGlobals "left_over" = some (some (.ref f20))) (l20:K.lookup f20=some ⟨oc20,od20,.func (PySem.W.fnOf "left_over" "left_over" (defArgs sLov) (defBody sLov) (defScope sLov) .none kV20 dc20 pm20 an20 cd20 ct20),sl20⟩) (c20:PySem.W.codeIn K cd20 "left_over" = true) (k20:PySem.W.keepIn K (.ref f20)=true)
    (a21:PySem.W.nsIn K mainGlobals "product" = some (some (.ref f21))) (l21:K.lookup f21=some ⟨oc21,od21,.func (PySem.W.fnOf "product" "product" (defArgs sPro) (defBody sPro) (defScope sPro) .none kV21 dc21 pm21 an21 cd21 ct21),sl21⟩) (c21:PySem.W.codeIn K cd21 "product" = true) (k21:PySem.W.keepIn K (.ref f21)=true)
    (a22:PySem.W.nsIn K mainGlobals "led_through" = some (some (.ref f22))) (l22:K.lookup f22=some ⟨oc22,od22,.func (PySem.W.fnOf "led_through" "led_through" (defArgs sLed) (defBody sLed) (defScope sLed) .none kV22 dc22 pm22 an22 cd22 ct22),sl22⟩) (c22:PySem.W.codeIn K cd22 "led_through" = true) (k22:PySem.W.keepIn K (.ref f22)=true)
    (a23:PySem.W.nsIn K mainGlobals "counts_at" = some (some (.ref f23))) (l23:K.lookup f23=some ⟨oc23,od23,.func (PySem.W.fnOf "counts_at" "counts_at" (defArgs sCat) (defBody sCat) (defScope sCat) .none kV23 dc23 pm23 an23 cd23 ct23),sl23⟩) (c23:PySem.W.codeIn K cd23 "counts_at" = true) (k23:PySem.W.keepIn K (.ref f23)=true)
    (a24:PySem.W.nsIn K mainGlobals "length_at" = some (some (.ref f24))) (l24:K.lookup f24=some ⟨oc24,od24,.func (PySem.W.fnOf "length_at" "length_at" (defArgs sLat) (defBody sLat) (defScope sLat) .none kV24 dc24 pm24 an24 cd24 ct24),sl24⟩) (c24:PySem.W.codeIn K cd24 "length_at" = true) (k24:PySem.W.keepIn K (.ref f24)=true)
    (a25:PySem.W.nsIn K mainGlobals "replaced" = some (some (.ref f25))) (l25:K.lookup f25=some ⟨oc25,od25,.func (PySem.W.fnOf "replaced" "replaced" (defArgs sRep) (defBody sRep) (defScope sRep) .none kV25 dc25 pm25 an25 cd25 ct25),sl25⟩) (c25:PySem.W.codeIn K cd25 "replaced" = true) (k25:PySem.W.keepIn K (.ref f25)=true)
    (a26:PySem.W.nsIn K mainGlobals "turned" = some (some (.ref f26))) (l26:K.lookup f26=some ⟨oc26,od26,.func (PySem.W.fnOf "turned" "turned" (defArgs sTrn) (defBody sTrn) (defScope sTrn) .none kV26 dc26 pm26 an26 cd26 ct26),sl26⟩) (c26:PySem.W.codeIn K cd26 "turned" = true) (k26:PySem.W.keepIn K (.ref f26)=true)
    (a27:PySem.W.nsIn K mainGlobals "spread" = some (some (.ref f27))) (l27:K.lookup f27=some ⟨oc27,od27,.func (PySem.W.fnOf "spread" "spread" (defArgs sSpr) (defBody sSpr) (defScope sSpr) .none kV27 dc27 pm27 an27 cd27 ct27),sl27⟩) (c27:PySem.W.codeIn K cd27 "spread" = true) (k27:PySem.W.keepIn K (.ref f27)=true)
    (a28:PySem.W.nsIn K mainGlobals "ring_of" = some (some (.ref f28))) (l28:K.lookup f28=some ⟨oc28,od28,.func (PySem.W.fnOf "ring_of" "ring_of" (defArgs sRng) (defBody sRng) (defScope sRng) .none kV28 dc28 pm28 an28 cd28 ct28),sl28⟩) (c28:PySem.W.codeIn K cd28 "ring_of" = true) (k28:PySem.W.keepIn K (.ref f28)=true)
    (a29:PySem.W.nsIn K mainGlobals "rings" = some (some (.ref f29))) (l29:K.lookup f29=some ⟨oc29,od29,.func (PySem.W.fnOf "rings" "rings" (defArgs sRgs) (defBody sRgs) (defScope sRgs) .none kV29 dc29 pm29 an29 cd29 ct29),sl29⟩) (c29:PySem.W.codeIn K cd29 "rings" = true) (k29:PySem.W.keepIn K (.ref f29)=true)
    (a30:PySem.W.nsIn K mainGlobals "inside" = some (some (.ref f30))) (l30:K.lookup f30=some ⟨oc30,od30,.func (PySem.W.fnOf "inside" "inside" (defArgs sIns) (defBody sIns) (defScope sIns) .none kV30 dc30 pm30 an30 cd30 ct30),sl30⟩) (c30:PySem.W.codeIn K cd30 "inside" = true) (k30:PySem.W.keepIn K (.ref f30)=true)
    (a31:PySem.W.nsIn K mainGlobals "is_simple" = some (some (.ref f31))) (l31:K.lookup f31=some ⟨oc31,od31,.func (PySem.W.fnOf "is_simple" "is_simple" (defArgs sIsi) (defBody sIsi) (defScope sIsi) .none kV31 dc31 pm31 an31 cd31 ct31),sl31⟩) (c31:PySem.W.codeIn K cd31 "is_simple" = true) (k31:PySem.W.keepIn K (.ref f31)=true)
    (a32:PySem.W.nsIn K mainGlobals "common_divisor" = some (some (.ref f32))) (l32:K.lookup f32=some ⟨oc32,od32,.func (PySem.W.fnOf "common_divisor" "common_divisor" (defArgs sCdv) (defBody sCdv) (defScope sCdv) .none kV32 dc32 pm32 an32 cd32 ct32),sl32⟩) (c32:PySem.W.codeIn K cd32 "common_divisor" = true) (k32:PySem.W.keepIn K (.ref f32)=true)
    (a33:PySem.W.nsIn K mainGlobals "common_multiple" = some (some (.ref f33))) (l33:K.lookup f33=some ⟨oc33,od33,.func (PySem.W.fnOf "common_multiple" "common_multiple" (defArgs sCml) (defBody sCml) (defScope sCml) .none kV33 dc33 pm33 an33 cd33 ct33),sl33⟩) (c33:PySem.W.codeIn K cd33 "common_multiple" = true) (k33:PySem.W.keepIn K (.ref f33)=true)
    (a34:PySem.W.nsIn K mainGlobals "depth_by" = some (some (.ref f34))) (l34:K.lookup f34=some ⟨oc34,od34,.func (PySem.W.fnOf "depth_by" "depth_by" (defArgs sDby) (defBody sDby) (defScope sDby) .none kV34 dc34 pm34 an34 cd34 ct34),sl34⟩) (c34:PySem.W.codeIn K cd34 "depth_by" = true) (k34:PySem.W.keepIn K (.ref f34)=true)
    (a35:PySem.W.nsIn K mainGlobals "ring_depths" = some (some (.ref f35))) (l35:K.lookup f35=some ⟨oc35,od35,.func (PySem.W.fnOf "ring_depths" "ring_depths" (defArgs sRds) (defBody sRds) (defScope sRds) .none kV35 dc35 pm35 an35 cd35 ct35),sl35⟩) (c35:PySem.W.codeIn K cd35 "ring_depths" = true) (k35:PySem.W.keepIn K (.ref f35)=true)
    (a36:PySem.W.nsIn K mainGlobals "end_age" = some (some (.ref f36))) (l36:K.lookup f36=some ⟨oc36,od36,.func (PySem.W.fnOf "end_age" "end_age" (defArgs sEag) (defBody sEag) (defScope sEag) .none kV36 dc36 pm36 an36 cd36 ct36),sl36⟩) (c36:PySem.W.codeIn K cd36 "end_age" = true) (k36:PySem.W.keepIn K (.ref f36)=true)
    (a37:PySem.W.nsIn K mainGlobals "text_kind" = some (some (.ref f37))) (l37:K.lookup f37=some ⟨oc37,od37,.func (PySem.W.fnOf "text_kind" "text_kind" (defArgs sTki) (defBody sTki) (defScope sTki) .none kV37 dc37 pm37 an37 cd37 ct37),sl37⟩) (c37:PySem.W.codeIn K cd37 "text_kind" = true) (k37:PySem.W.keepIn K (.ref f37)=true)
    (a38:PySem.W.nsIn K mainGlobals "kind" = some (some (.ref f38))) (l38:K.lookup f38=some ⟨oc38,od38,.func (PySem.W.fnOf "kind" "kind" (defArgs sKin) (defBody sKin) (defScope sKin) .none kV38 dc38 pm38 an38 cd38 ct38),sl38⟩) (c38:PySem.W.codeIn K cd38 "kind" = true) (k38:PySem.W.keepIn K (.ref f38)=true)
    (a39:PySem.W.nsIn K mainGlobals "row_kind" = some (some (.ref f39))) (l39:K.lookup f39=some ⟨oc39,od39,.func (PySem.W.fnOf "row_kind" "row_kind" (defArgs sRki) (defBody sRki) (defScope sRki) .none kV39 dc39 pm39 an39 cd39 ct39),sl39⟩) (c39:PySem.W.codeIn K cd39 "row_kind" = true) (k39:PySem.W.keepIn K (.ref f39)=true)
    (a40:PySem.W.nsIn K mainGlobals "_law_pen" = some (some (.ref f40))) (l40:K.lookup f40=some ⟨oc40,od40,.func (PySem.W.fnOf "_law_pen" "_law_pen" (defArgs sPen) (defBody sPen) (defScope sPen) .none kV40 dc40 pm40 an40 cd40 ct40),sl40⟩) (c40:PySem.W.codeIn K cd40 "_law_pen" = true) (k40:PySem.W.keepIn K (.ref f40)=true)
    (a41:PySem.W.nsIn K mainGlobals "_law_take" = some (some (.ref f41))) (l41:K.lookup f41=some ⟨oc41,od41,.func (PySem.W.fnOf "_law_take" "_law_take" (defArgs sTak) (defBody sTak) (defScope sTak) .none kV41 dc41 pm41 an41 cd41 ct41),sl41⟩) (c41:PySem.W.codeIn K cd41 "_law_take" = true) (k41:PySem.W.keepIn K (.ref f41)=true)
    (a42:PySem.W.nsIn K mainGlobals "_law_text" = some (some (.ref f42))) (l42:K.lookup f42=some ⟨oc42,od42,.func (PySem.W.fnOf "_law_text" "_law_text" (defArgs sTxt) (defBody sTxt) (defScope sTxt) .none kV42 dc42 pm42 an42 cd42 ct42),sl42⟩) (c42:PySem.W.codeIn K cd42 "_law_text" = true) (k42:PySem.W.keepIn K (.ref f42)=true)
    (a43:PySem.W.nsIn K mainGlobals "_law_words" = some (some (.ref f43))) (l43:K.lookup f43=some ⟨oc43,od43,.func (PySem.W.fnOf "_law_words" "_law_words" (defArgs sLwd) (defBody sLwd) (defScope sLwd) .none kV43 dc43 pm43 an43 cd43 ct43),sl43⟩) (c43:PySem.W.codeIn K cd43 "_law_words" = true) (k43:PySem.W.keepIn K (.ref f43)=true)
    (a44:PySem.W.nsIn K mainGlobals "_law_great" = some (some (.ref f44))) (l44:K.lookup f44=some ⟨oc44,od44,.func (PySem.W.fnOf "_law_great" "_law_great" (defArgs sGrt) (defBody sGrt) (defScope sGrt) .none kV44 dc44 pm44 an44 cd44 ct44),sl44⟩) (c44:PySem.W.codeIn K cd44 "_law_great" = true) (k44:PySem.W.keepIn K (.ref f44)=true)
    (a45:PySem.W.nsIn K mainGlobals "_law_lengths" = some (some (.ref f45))) (l45:K.lookup f45=some ⟨oc45,od45,.func (PySem.W.fnOf "_law_lengths" "_law_lengths" (defArgs sLgs) (defBody sLgs) (defScope sLgs) .none kV45 dc45 pm45 an45 cd45 ct45),sl45⟩) (c45:PySem.W.codeIn K cd45 "_law_lengths" = true) (k45:PySem.W.keepIn K (.ref f45)=true)
    (a46:PySem.W.nsIn K mainGlobals "_law_difference" = some (some (.ref f46))) (l46:K.lookup f46=some ⟨oc46,od46,.func (PySem.W.fnOf "_law_difference" "_law_difference" (defArgs sDfc) (defBody sDfc) (defScope sDfc) .none kV46 dc46 pm46 an46 cd46 ct46),sl46⟩) (c46:PySem.W.codeIn K cd46 "_law_difference" = true) (k46:PySem.W.keepIn K (.ref f46)=true)
    (a47:PySem.W.nsIn K mainGlobals "_law_whole" = some (some (.ref f47))) (l47:K.lookup f47=some ⟨oc47,od47,.func (PySem.W.fnOf "_law_whole" "_law_whole" (defArgs sWhl) (defBody sWhl) (defScope sWhl) .none kV47 dc47 pm47 an47 cd47 ct47),sl47⟩) (c47:PySem.W.codeIn K cd47 "_law_whole" = true) (k47:PySem.W.keepIn K (.ref f47)=true)
    (a48:PySem.W.nsIn K mainGlobals "_law_kept" = some (some (.ref f48))) (l48:K.lookup f48=some ⟨oc48,od48,.func (PySem.W.fnOf "_law_kept" "_law_kept" (defArgs sKpt) (defBody sKpt) (defScope sKpt) .none kV48 dc48 pm48 an48 cd48 ct48),sl48⟩) (c48:PySem.W.codeIn K cd48 "_law_kept" = true) (k48:PySem.W.keepIn K (.ref f48)=true)
    (a49:PySem.W.nsIn K mainGlobals "law" = some (some (.ref f49))) (l49:K.lookup f49=some ⟨oc49,od49,.func (PySem.W.fnOf "law" "law" (defArgs sLaw) (defBody sLaw) (defScope sLaw) .none kV49 dc49 pm49 an49 cd49 ct49),sl49⟩) (c49:PySem.W.codeIn K cd49 "law" = true) (k49:PySem.W.keepIn K (.ref f49)=true)
    (z0:PySem.W.nsIn K mainGlobals "int" = some none) (z1:PySem.W.nsIn K mainGlobals "isinstance" = some none) (z2:PySem.W.nsIn K mainGlobals "bool" = some none) (z3:PySem.W.nsIn K mainGlobals "len" = some none) (z4:PySem.W.nsIn K mainGlobals "str" = some none) (z5:PySem.W.nsIn K mainGlobals "all" = some none) (z6:PySem.W.nsIn K mainGlobals "range" = some none) (z7:PySem.W.nsIn K mainGlobals "zip" = some none) (z8:PySem.W.nsIn K mainGlobals "sum" = some none) (z9:PySem.W.nsIn K mainGlobals "dict" = some none) (z10:PySem.W.nsIn K mainGlobals "reversed" = some none) (z11:PySem.W.nsIn K mainGlobals "sorted" = some none) (z12:PySem.W.nsIn K mainGlobals "max" = some none) (z13:PySem.W.nsIn K mainGlobals "list" = some none) (z14:PySem.W.nsIn K mainGlobals "min" = some none) (z15:PySem.W.nsIn K mainGlobals "tuple" = some none)
    (y0:PySem.W.nsIn K mainGlobals "SMALL_LETTERS" = some (some (.str "abcdefghijklmnopqrstuvwxyz" tkSMALL_LETTERS)))
    (y1:PySem.W.nsIn K mainGlobals "LONGEST_ROW" = some (some (.int 600 tkLONGEST_ROW)))
    : ∃ fd:FuncData,(∀ (s:Shared) (v:Value),BindsTo s fd ⟨[v],[]⟩ [("_law_script",v)])∧∀ base:Heap,K.In base→base.Ns mainGlobals mg→FnOk l.prog w K mg base CX0 9 fa fd ["_law_script"] (spLaw K):=by
  have e:=hfa.symm.trans (PySem.W.mg_of X G a49)
  cases e
  have F0:=fun_mk (st:=sWho) l0 c0 k0
  have F1:=fun_mk (st:=sWin) l1 c1 k1
  have F2:=fun_mk (st:=sIsl) l2 c2 k2
  have F3:=fun_mk (st:=sItx) l3 c3 k3
  have F4:=fun_mk (st:=sNfa) l4 c4 k4
  have F5:=fun_mk (st:=sNnu) l5 c5 k5
  have F6:=fun_mk (st:=sRul) l6 c6 k6
  have F7:=fun_mk (st:=sLet) l7 c7 k7
  have F8:=fun_mk (st:=sNle) l8 c8 k8
  have F9:=fun_mk (st:=sTal) l9 c9 k9
  have F10:=fun_mk (st:=sTab) l10 c10 k10
  have F11:=fun_mk (st:=sCol) l11 c11 k11
  have F12:=fun_mk (st:=sCls) l12 c12 k12
  have F13:=fun_mk (st:=sPrs) l13 c13 k13
  have F14:=fun_mk (st:=sOao) l14 c14 k14
  have F15:=fun_mk (st:=sTsm) l15 c15 k15
  have F16:=fun_mk (st:=sWba) l16 c16 k16
  have F17:=fun_mk (st:=sLsm) l17 c17 k17
  have F18:=fun_mk (st:=sSsm) l18 c18 k18
  have F19:=fun_mk (st:=sLns) l19 c19 k19
  have F20:=fun_mk (st:=sLov) l20 c20 k20
  have F21:=fun_mk (st:=sPro) l21 c21 k21
  have F22:=fun_mk (st:=sLed) l22 c22 k22
  have F23:=fun_mk (st:=sCat) l23 c23 k23
  have F24:=fun_mk (st:=sLat) l24 c24 k24
  have F25:=fun_mk (st:=sRep) l25 c25 k25
  have F26:=fun_mk (st:=sTrn) l26 c26 k26
  have F27:=fun_mk (st:=sSpr) l27 c27 k27
  have F28:=fun_mk (st:=sRng) l28 c28 k28
  have F29:=fun_mk (st:=sRgs) l29 c29 k29
  have F30:=fun_mk (st:=sIns) l30 c30 k30
  have F31:=fun_mk (st:=sIsi) l31 c31 k31
  have F32:=fun_mk (st:=sCdv) l32 c32 k32
  have F33:=fun_mk (st:=sCml) l33 c33 k33
  have F34:=fun_mk (st:=sDby) l34 c34 k34
  have F35:=fun_mk (st:=sRds) l35 c35 k35
  have F36:=fun_mk (st:=sEag) l36 c36 k36
  have F37:=fun_mk (st:=sTki) l37 c37 k37
  have F38:=fun_mk (st:=sKin) l38 c38 k38
  have F39:=fun_mk (st:=sRki) l39 c39 k39
  have F40:=fun_mk (st:=sPen) l40 c40 k40
  have F41:=fun_mk (st:=sTak) l41 c41 k41
  have F42:=fun_mk (st:=sTxt) l42 c42 k42
  have F43:=fun_mk (st:=sLwd) l43 c43 k43
  have F44:=fun_mk (st:=sGrt) l44 c44 k44
  have F45:=fun_mk (st:=sLgs) l45 c45 k45
  have F46:=fun_mk (st:=sDfc) l46 c46 k46
  have F47:=fun_mk (st:=sWhl) l47 c47 k47
  have F48:=fun_mk (st:=sKpt) l48 c48 k48
  have F49:=fun_mk (st:=sLaw) l49 c49 k49
  have b0:=F0.binds (ps:=["thing"]) fun _ _ _ _ _ _ us hl=>match us,hl with | [_],_=>rfl
  have gWho:=gf_mk X G a0 k0 b0
  have b1:=F1.binds (ps:=["thing","least","most"]) fun _ _ _ _ _ _ us hl=>match us,hl with | [_,_,_],_=>rfl
  have gWin:=gf_mk X G a1 k1 b1
  have b2:=F2.binds (ps:=["thing"]) fun _ _ _ _ _ _ us hl=>match us,hl with | [_],_=>rfl
  have gIsl:=gf_mk X G a2 k2 b2
  have b3:=F3.binds (ps:=["thing","signs","most"]) fun _ _ _ _ _ _ us hl=>match us,hl with | [_,_,_],_=>rfl
  have gItx:=gf_mk X G a3 k3 b3
  have b4:=F4.binds (ps:=["age"]) fun _ _ _ _ _ _ us hl=>match us,hl with | [_],_=>rfl
  have gNfa:=gf_mk X G a4 k4 b4
  have b5:=F5.binds (ps:=["number"]) fun _ _ _ _ _ _ us hl=>match us,hl with | [_],_=>rfl
  have gNnu:=gf_mk X G a5 k5 b5
  have b6:=F6.binds (ps:=["rules"]) fun _ _ _ _ _ _ us hl=>match us,hl with | [_],_=>rfl
  have gRul:=gf_mk X G a6 k6 b6
  have b7:=F7.binds (ps:=["book"]) fun _ _ _ _ _ _ us hl=>match us,hl with | [_],_=>rfl
  have gLet:=gf_mk X G a7 k7 b7
  have b8:=F8.binds (ps:=["book","letter"]) fun _ _ _ _ _ _ us hl=>match us,hl with | [_,_],_=>rfl
  have gNle:=gf_mk X G a8 k8 b8
  have b9:=F9.binds (ps:=["book","text"]) fun _ _ _ _ _ _ us hl=>match us,hl with | [_,_],_=>rfl
  have gTal:=gf_mk X G a9 k9 b9
  have b10:=F10.binds (ps:=["book"]) fun _ _ _ _ _ _ us hl=>match us,hl with | [_],_=>rfl
  have gTab:=gf_mk X G a10 k10 b10
  have b11:=F11.binds (ps:=["lines","place"]) fun _ _ _ _ _ _ us hl=>match us,hl with | [_,_],_=>rfl
  have gCol:=gf_mk X G a11 k11 b11
  have b12:=F12.binds (ps:=["lines"]) fun _ _ _ _ _ _ us hl=>match us,hl with | [_],_=>rfl
  have gCls:=gf_mk X G a12 k12 b12
  have b13:=F13.binds (ps:=["ones","others"]) fun _ _ _ _ _ _ us hl=>match us,hl with | [_,_],_=>rfl
  have gPrs:=gf_mk X G a13 k13 b13
  have b14:=F14.binds (ps:=["line","sources"]) fun _ _ _ _ _ _ us hl=>match us,hl with | [_,_],_=>rfl
  have gOao:=gf_mk X G a14 k14 b14
  have b15:=F15.binds (ps:=["text","worths"]) fun _ _ _ _ _ _ us hl=>match us,hl with | [_,_],_=>rfl
  have gTsm:=gf_mk X G a15 k15 b15
  have b16:=F16.binds (ps:=["book","age"]) fun _ _ _ _ _ _ us hl=>match us,hl with | [_,_],_=>rfl
  have gWba:=gf_mk X G a16 k16 b16
  have b17:=F17.binds (ps:=["words","worths"]) fun _ _ _ _ _ _ us hl=>match us,hl with | [_,_],_=>rfl
  have gLsm:=gf_mk X G a17 k17 b17
  have b18:=F18.binds (ps:=["words"]) fun _ _ _ _ _ _ us hl=>match us,hl with | [_],_=>rfl
  have gSsm:=gf_mk X G a18 k18 b18
  have b19:=F19.binds (ps:=["book","age"]) fun _ _ _ _ _ _ us hl=>match us,hl with | [_,_],_=>rfl
  have gLns:=gf_mk X G a19 k19 b19
  have b20:=F20.binds (ps:=["line","number"]) fun _ _ _ _ _ _ us hl=>match us,hl with | [_,_],_=>rfl
  have gLov:=gf_mk X G a20 k20 b20
  have b21:=F21.binds (ps:=["lines","others","number"]) fun _ _ _ _ _ _ us hl=>match us,hl with | [_,_,_],_=>rfl
  have gPro:=gf_mk X G a21 k21 b21
  have b22:=F22.binds (ps:=["book","lines","age","number"]) fun _ _ _ _ _ _ us hl=>match us,hl with | [_,_,_,_],_=>rfl
  have gLed:=gf_mk X G a22 k22 b22
  have b23:=F23.binds (ps:=["book","age","number"]) fun _ _ _ _ _ _ us hl=>match us,hl with | [_,_,_],_=>rfl
  have gCat:=gf_mk X G a23 k23 b23
  have b24:=F24.binds (ps:=["book","age","number"]) fun _ _ _ _ _ _ us hl=>match us,hl with | [_,_,_],_=>rfl
  have gLat:=gf_mk X G a24 k24 b24
  have b25:=F25.binds (ps:=["text","words"]) fun _ _ _ _ _ _ us hl=>match us,hl with | [_,_],_=>rfl
  have gRep:=gf_mk X G a25 k25 b25
  have b26:=F26.binds (ps:=["book","text"]) fun _ _ _ _ _ _ us hl=>match us,hl with | [_,_],_=>rfl
  have gTrn:=gf_mk X G a26 k26 b26
  have b27:=F27.binds (ps:=["book","text"]) fun _ _ _ _ _ _ us hl=>match us,hl with | [_,_],_=>rfl
  have gSpr:=gf_mk X G a27 k27 b27
  have b28:=F28.binds (ps:=["book","letter"]) fun _ _ _ _ _ _ us hl=>match us,hl with | [_,_],_=>rfl
  have gRng:=gf_mk X G a28 k28 b28
  have b29:=F29.binds (ps:=["book"]) fun _ _ _ _ _ _ us hl=>match us,hl with | [_],_=>rfl
  have gRgs:=gf_mk X G a29 k29 b29
  have b30:=F30.binds (ps:=["text","ring"]) fun _ _ _ _ _ _ us hl=>match us,hl with | [_,_],_=>rfl
  have gIns:=gf_mk X G a30 k30 b30
  have b31:=F31.binds (ps:=["book","ring"]) fun _ _ _ _ _ _ us hl=>match us,hl with | [_,_],_=>rfl
  have gIsi:=gf_mk X G a31 k31 b31
  have b32:=F32.binds (ps:=["one","other"]) fun _ _ _ _ _ _ us hl=>match us,hl with | [_,_],_=>rfl
  have gCdv:=gf_mk X G a32 k32 b32
  have b33:=F33.binds (ps:=["numbers"]) fun _ _ _ _ _ _ us hl=>match us,hl with | [_],_=>rfl
  have gCml:=gf_mk X G a33 k33 b33
  have b34:=F34.binds (ps:=["book","ring","letter","depths"]) fun _ _ _ _ _ _ us hl=>match us,hl with | [_,_,_,_],_=>rfl
  have gDby:=gf_mk X G a34 k34 b34
  have b35:=F35.binds (ps:=["book"]) fun _ _ _ _ _ _ us hl=>match us,hl with | [_],_=>rfl
  have gRds:=gf_mk X G a35 k35 b35
  have b36:=F36.binds (ps:=["book","text"]) fun _ _ _ _ _ _ us hl=>match us,hl with | [_,_],_=>rfl
  have gEag:=gf_mk X G a36 k36 b36
  have b37:=F37.binds (ps:=["book","text"]) fun _ _ _ _ _ _ us hl=>match us,hl with | [_,_],_=>rfl
  have gTki:=gf_mk X G a37 k37 b37
  have b38:=F38.binds (ps:=["book","letter"]) fun _ _ _ _ _ _ us hl=>match us,hl with | [_,_],_=>rfl
  have gKin:=gf_mk X G a38 k38 b38
  have b39:=F39.binds (ps:=["book"]) fun _ _ _ _ _ _ us hl=>match us,hl with | [_],_=>rfl
  have gRki:=gf_mk X G a39 k39 b39
  have b40:=F40.binds (ps:=["_law_script","_law_k"]) fun _ _ _ _ _ _ us hl=>match us,hl with | [_,_],_=>rfl
  have gPen:=gf_mk X G a40 k40 b40
  have b41:=F41.binds (ps:=["_law_pen_here","_law_size"]) fun _ _ _ _ _ _ us hl=>match us,hl with | [_,_],_=>rfl
  have gTak:=gf_mk X G a41 k41 b41
  have b42:=F42.binds (ps:=["_law_pen_here","_law_signs","_law_many"]) fun _ _ _ _ _ _ us hl=>match us,hl with | [_,_,_],_=>rfl
  have gTxt:=gf_mk X G a42 k42 b42
  have b43:=F43.binds (ps:=["_law_pen_here"]) fun _ _ _ _ _ _ us hl=>match us,hl with | [_],_=>rfl
  have gLwd:=gf_mk X G a43 k43 b43
  have b44:=F44.binds (ps:=["_law_pen_here","_law_times"]) fun _ _ _ _ _ _ us hl=>match us,hl with | [_,_],_=>rfl
  have gGrt:=gf_mk X G a44 k44 b44
  have b45:=F45.binds (ps:=["_law_words_here","_law_first","_law_many"]) fun _ _ _ _ _ _ us hl=>match us,hl with | [_,_,_],_=>rfl
  have gLgs:=gf_mk X G a45 k45 b45
  have b46:=F46.binds (ps:=["_law_sizes","_law_times"]) fun _ _ _ _ _ _ us hl=>match us,hl with | [_,_],_=>rfl
  have gDfc:=gf_mk X G a46 k46 b46
  have b47:=F47.binds (ps:=["_law_found"]) fun _ _ _ _ _ _ us hl=>match us,hl with | [_],_=>rfl
  have gWhl:=gf_mk X G a47 k47 b47
  have b48:=F48.binds (ps:=["_law_book","_law_told","_law_words_here","_law_age","_law_number"]) fun _ _ _ _ _ _ us hl=>match us,hl with | [_,_,_,_,_],_=>rfl
  have gKpt:=gf_mk X G a48 k48 b48
  have m_int:=PySem.W.mg_none_of X G z0
  have m_isinstance:=PySem.W.mg_none_of X G z1
  have m_bool:=PySem.W.mg_none_of X G z2
  have m_len:=PySem.W.mg_none_of X G z3
  have m_str:=PySem.W.mg_none_of X G z4
  have m_all:=PySem.W.mg_none_of X G z5
  have m_range:=PySem.W.mg_none_of X G z6
  have m_zip:=PySem.W.mg_none_of X G z7
  have m_sum:=PySem.W.mg_none_of X G z8
  have m_dict:=PySem.W.mg_none_of X G z9
  have m_reversed:=PySem.W.mg_none_of X G z10
  have m_sorted:=PySem.W.mg_none_of X G z11
  have m_max:=PySem.W.mg_none_of X G z12
  have m_list:=PySem.W.mg_none_of X G z13
  have m_min:=PySem.W.mg_none_of X G z14
  have m_tuple:=PySem.W.mg_none_of X G z15
  have m_SMALL_LETTERS:=PySem.W.mg_of X G y0
  have m_LONGEST_ROW:=PySem.W.mg_of X G y1
  refine ⟨PySem.W.fnOf "law" "law" (defArgs sLaw) (defBody sLaw) (defScope sLaw) .none kV49 dc49 pm49 an49 cd49 ct49,fun s v=>.of_eq rfl,fun base KB GB=>?_⟩
  have oTak:=ok_tak (P:=l.prog) (w:=w) (mg:=mg) (base:=base) F41
  have oTxt:=ok_txt (P:=l.prog) (w:=w) (mg:=mg) (base:=base) F42 oTak gTak m_len m_int m_range
  have oLwd:=ok_lwd (P:=l.prog) (w:=w) (mg:=mg) (base:=base) F43 oTak gTak oTxt gTxt m_len m_range m_list m_min
  have oPen:=ok_pen (P:=l.prog) (w:=w) (mg:=mg) (base:=base) F40 m_len
  have oIsl:=ok_isl (P:=l.prog) (w:=w) (mg:=mg) (base:=base) F2 m_len m_isinstance m_str m_SMALL_LETTERS
  have oRul:=ok_rul (P:=l.prog) (w:=w) (mg:=mg) (base:=base) F6
  have oLet:=ok_let (P:=l.prog) (w:=w) (mg:=mg) (base:=base) F7 oRul gRul
  have oNle:=ok_nle (P:=l.prog) (w:=w) (mg:=mg) (base:=base) F8 oIsl gIsl oLet gLet
  have oSpr:=ok_spr (P:=l.prog) (w:=w) (mg:=mg) (base:=base) F27 m_sorted m_dict
  have oRng:=ok_rng (P:=l.prog) (w:=w) (mg:=mg) (base:=base) F28 oSpr gSpr m_dict
  have oRep:=ok_rep (P:=l.prog) (w:=w) (mg:=mg) (base:=base) F25
  have oItx:=ok_itx (P:=l.prog) (w:=w) (mg:=mg) (base:=base) F3 m_len m_isinstance m_str m_all
  have oTrn:=ok_trn (P:=l.prog) (w:=w) (mg:=mg) (base:=base) F26 oRep gRep oItx gItx m_dict m_LONGEST_ROW
  have oDby:=ok_dby (P:=l.prog) (w:=w) (mg:=mg) (base:=base) F34 oTrn gTrn m_max
  have oRds:=ok_rds (P:=l.prog) (w:=w) (mg:=mg) (base:=base) F35 oLet gLet oRng gRng oDby gDby m_dict
  have oCdv:=ok_cdv (P:=l.prog) (w:=w) (mg:=mg) (base:=base) F32
  have oCml:=ok_cml (P:=l.prog) (w:=w) (mg:=mg) (base:=base) F33 oCdv gCdv
  have oRgs:=ok_rgs (P:=l.prog) (w:=w) (mg:=mg) (base:=base) F29 oRng gRng oLet gLet
  have oTsm:=ok_tsm (P:=l.prog) (w:=w) (mg:=mg) (base:=base) F15 m_sum
  have oLsm:=ok_lsm (P:=l.prog) (w:=w) (mg:=mg) (base:=base) F17 oTsm gTsm m_dict m_reversed
  have oSsm:=ok_ssm (P:=l.prog) (w:=w) (mg:=mg) (base:=base) F18 oLsm gLsm m_dict
  have oWba:=ok_wba (P:=l.prog) (w:=w) (mg:=mg) (base:=base) F16 m_dict
  have oLns:=ok_lns (P:=l.prog) (w:=w) (mg:=mg) (base:=base) F19 oSsm gSsm oWba gWba
  have oEag:=ok_eag (P:=l.prog) (w:=w) (mg:=mg) (base:=base) F36 oLns gLns oTsm gTsm m_len
  have oIns:=ok_ins (P:=l.prog) (w:=w) (mg:=mg) (base:=base) F30
  have oIsi:=ok_isi (P:=l.prog) (w:=w) (mg:=mg) (base:=base) F31 oIns gIns m_len m_dict m_all
  have oTki:=ok_tki (P:=l.prog) (w:=w) (mg:=mg) (base:=base) F37 oRds gRds oCml gCml oRgs gRgs oEag gEag oSpr gSpr oIsi gIsi m_len m_max m_all
  have oKin:=ok_kin (P:=l.prog) (w:=w) (mg:=mg) (base:=base) F38 oNle gNle oTki gTki
  have oRki:=ok_rki (P:=l.prog) (w:=w) (mg:=mg) (base:=base) F39 oTki gTki
  have oLgs:=ok_lgs (P:=l.prog) (w:=w) (mg:=mg) (base:=base) F45 m_range m_sum
  have oWho:=ok_who (P:=l.prog) (w:=w) (mg:=mg) (base:=base) F0 m_int m_isinstance m_bool
  have oWin:=ok_win (P:=l.prog) (w:=w) (mg:=mg) (base:=base) F1 oWho gWho
  have oNfa:=ok_nfa (P:=l.prog) (w:=w) (mg:=mg) (base:=base) F4 oWin gWin
  have oNnu:=ok_nnu (P:=l.prog) (w:=w) (mg:=mg) (base:=base) F5 oWin gWin
  have oTal:=ok_tal (P:=l.prog) (w:=w) (mg:=mg) (base:=base) F9 oLet gLet
  have oTab:=ok_tab (P:=l.prog) (w:=w) (mg:=mg) (base:=base) F10 oTal gTal
  have oLov:=ok_lov (P:=l.prog) (w:=w) (mg:=mg) (base:=base) F20
  have oCol:=ok_col (P:=l.prog) (w:=w) (mg:=mg) (base:=base) F11
  have oCls:=ok_cls (P:=l.prog) (w:=w) (mg:=mg) (base:=base) F12 oCol gCol m_len m_range
  have oPrs:=ok_prs (P:=l.prog) (w:=w) (mg:=mg) (base:=base) F13 m_zip m_sum
  have oOao:=ok_oao (P:=l.prog) (w:=w) (mg:=mg) (base:=base) F14 oPrs gPrs
  have oPro:=ok_pro (P:=l.prog) (w:=w) (mg:=mg) (base:=base) F21 oCls gCls oLov gLov oOao gOao
  have oLed:=ok_led (P:=l.prog) (w:=w) (mg:=mg) (base:=base) F22 oTab gTab oLov gLov oPro gPro
  have oCat:=ok_cat (P:=l.prog) (w:=w) (mg:=mg) (base:=base) F23 oNfa gNfa oNnu gNnu oLed gLed oTal gTal
  have oLat:=ok_lat (P:=l.prog) (w:=w) (mg:=mg) (base:=base) F24 oCat gCat m_sum
  have oDfc:=ok_dfc (P:=l.prog) (w:=w) (mg:=mg) (base:=base) F46 m_len m_range
  have oWhl:=ok_whl (P:=l.prog) (w:=w) (mg:=mg) (base:=base) F47 m_int m_isinstance m_bool
  have oKpt:=ok_kpt (P:=l.prog) (w:=w) (mg:=mg) (base:=base) F48 oLgs gLgs oLat gLat oDfc gDfc oWhl gWhl m_len m_range
  have oGrt:=ok_grt (P:=l.prog) (w:=w) (mg:=mg) (base:=base) F44 oTak gTak m_range
  exact ok_law F49 oLwd gLwd oPen gPen oTxt gTxt oKin gKin oRki gRki oTak gTak oKpt gKpt oGrt gGrt m_len m_list m_tuple m_sorted m_isinstance m_min
theorem walk {l:PySem.W.OpenLaw} {q:Program} {loose:List Str} {XP:(Str→Option Value)→Heap→Prop} {YP:World→Heap→Prop} {d:DefRec} {K:Params→PySem.W.Frag} (hn:l.most=some 63) (hdf:d.params.defaults=[])
    (hY:∀ (w:World) (h:Heap),YP w h→(K w.params).In h)
    (F : ∀ (w:World) (mg:Str→Option Value) (fa:Addr) (h:Heap),(K w.params).In h→h.Ns mainGlobals mg→mg d.name=some (.ref fa) →
      ∃ fd:FuncData,(∀ (s:Shared) (u:Value),BindsTo s fd ⟨[u],[]⟩ [("_law_script",u)])∧∀ base:Heap,(K w.params).In base→base.Ns mainGlobals mg→FnOk l.prog w (K w.params) mg base CX0 9 fa fd ["_law_script"] (spLaw (K w.params))) :
    PySem.W.WalkO q loose XP YP l.row.toRowW d [] (fun f vs=>PySem.call f vs) :=
  L2.walk_of (n:=63) (k:=9) (x:="_law_script") (CX:=fun _=>CX0) (sp:=fun w=>spLaw (K w.params)) hn (by decide) hdf ⟨rfl,by decide,by decide⟩ hY F (fun _ _ a ns hl _ hS=>⟨a,ns,rfl,hS,hl,fun _=>rfl⟩) fun _ _ _ _ _ z=>z
end Lw
open PySem PySem.W PyProof.Rows
-- these names are taken so that no second copy of the great trees is laid (it would make the compiled file too large)
def PySem.W.Fast.tw15008918795265643147:Unit:=()
def PySem.W.Fast.tw13497104549423418129:Unit:=()
def PySem.W.Fast.tw9371455530290547951:Unit:=()
def PySem.W.Fast.tw9140504359651447705:Unit:=()
def PySem.W.Fast.tw1429924731065211458:Unit:=()
def PySem.W.Fast.tw4949198485652704034:Unit:=()
def PySem.W.Fast.tw4953481693798108162:Unit:=()
def PySem.W.Fast.tw17447758975047659434:Unit:=()
def PySem.W.Fast.tw4546880496233646101:Unit:=()
def PySem.W.Fast.tw15847945072558825707:Unit:=()
def PySem.W.Fast.tw593171986123748964:Unit:=()
def PySem.W.Fast.tw2524408275612632403:Unit:=()
def PySem.W.Fast.tw5923761908418977198:Unit:=()
def PySem.W.Fast.tw12548768069955749139:Unit:=()
def PySem.W.Fast.tw16097603873055035736:Unit:=()
def PySem.W.Fast.tw4367845999764309658:Unit:=()
def PySem.W.Fast.tw2873324456946087604:Unit:=()
def PySem.W.Fast.tw18018194620505812256:Unit:=()
def PySem.W.Fast.tw9091821801681015218:Unit:=()
def PySem.W.Fast.tw18306951271267958886:Unit:=()
def PySem.W.Fast.tw5740122566693244010:Unit:=()
def PySem.W.Fast.tw12103756352117855711:Unit:=()
set_option maxRecDepth 100000 in
set_option maxHeartbeats 0 in
theorem PySem.Challenge.cw_linegrow_k29_whole_kinds_at_great_ages_holds : PySem.Challenge.rw_linegrow_k29_whole_kinds_at_great_ages.Holds := by
  w_on;o_law;k_head;(case hw=>w_witness2)
  k_fill
  refine Lw.walk (l:=PySem.Challenge.rw_linegrow_k29_whole_kinds_at_great_ages) rfl rfl (fun w h Y=>PySem.W.kIn_of Y) ?F
  case F =>
    intro w mg fa h KX G hmg
    refine' Lw.all_mk KX G hmg ?a0 ?l0 ?c0 ?k0 ?a1 ?l1 ?c1 ?k1 ?a2 ?l2 ?c2 ?k2 ?a3 ?l3 ?c3 ?k3 ?a4 ?l4 ?c4 ?k4 ?a5 ?l5 ?c5 ?k5 ?a6 ?l6 ?c6 ?k6 ?a7 ?l7 ?c7 ?k7 ?a8 ?l8 ?c8 ?k8 ?a9 ?l9 ?c9 ?k9 ?a10 ?l10 ?c10 ?k10 ?a11 ?l11 ?c11 ?k11 ?a12 ?l12 ?c12 ?k12 ?a13 ?l13 ?c13 ?k13 ?a14 ?l14 ?c14 ?k14 ?a15 ?l15 ?c15 ?k15 ?a16 ?l16 ?c16 ?k16 ?a17 ?l17 ?c17 ?k17 ?a18 ?l18 ?c18 ?k18 ?a19 ?l19 ?c19 ?k19 ?a20 ?l20 ?c20 ?k20 ?a21 ?l21 ?c21 ?k21 ?a22 ?l22 ?c22 ?k22 ?a23 ?l23 ?c23 ?k23 ?a24 ?l24 ?c24 ?k24 ?a25 ?l25 ?c25 ?k25 ?a26 ?l26 ?c26 ?k26 ?a27 ?l27 ?c27 ?k27 ?a28 ?l28 ?c28 ?k28 ?a29 ?l29 ?c29 ?k29 ?a30 ?l30 ?c30 ?k30 ?a31 ?l31 ?c31 ?k31 ?a32 ?l32 ?c32 ?k32 ?a33 ?l33 ?c33 ?k33 ?a34 ?l34 ?c34 ?k34 ?a35 ?l35 ?c35 ?k35 ?a36 ?l36 ?c36 ?k36 ?a37 ?l37 ?c37 ?k37 ?a38 ?l38 ?c38 ?k38 ?a39 ?l39 ?c39 ?k39 ?a40 ?l40 ?c40 ?k40 ?a41 ?l41 ?c41 ?k41 ?a42 ?l42 ?c42 ?k42 ?a43 ?l43 ?c43 ?k43 ?a44 ?l44 ?c44 ?k44 ?a45 ?l45 ?c45 ?k45 ?a46 ?l46 ?c46 ?k46 ?a47 ?l47 ?c47 ?k47 ?a48 ?l48 ?c48 ?k48 ?a49 ?l49 ?c49 ?k49 ?z0 ?z1 ?z2 ?z3 ?z4 ?z5 ?z6 ?z7 ?z8 ?z9 ?z10 ?z11 ?z12 ?z13 ?z14 ?z15 ?y0 ?y1
    (case a0=>k_is)
    (case l0=>k_is)
    (case c0=>k_is)
    (case k0=>k_is)
    (case a1=>k_is)
    (case l1=>k_is)
    (case c1=>k_is)
    (case k1=>k_is)
    (case a2=>k_is)
    (case l2=>k_is)
    (case c2=>k_is)
    (case k2=>k_is)
    (case a3=>k_is)
    (case l3=>k_is)
    (case c3=>k_is)
    (case k3=>k_is)
    (case a4=>k_is)
    (case l4=>k_is)
    (case c4=>k_is)
    (case k4=>k_is)
    (case a5=>k_is)
    (case l5=>k_is)
    (case c5=>k_is)
    (case k5=>k_is)
    (case a6=>k_is)
    (case l6=>k_is)
    (case c6=>k_is)
    (case k6=>k_is)
    (case a7=>k_is)
    (case l7=>k_is)
    (case c7=>k_is)
    (case k7=>k_is)
    (case a8=>k_is)
    (case l8=>k_is)
    (case c8=>k_is)
    (case k8=>k_is)
    (case a9=>k_is)
    (case l9=>k_is)
    (case c9=>k_is)
    (case k9=>k_is)
    (case a10=>k_is)
    (case l10=>k_is)
    (case c10=>k_is)
    (case k10=>k_is)
    (case a11=>k_is)
    (case l11=>k_is)
    (case c11=>k_is)
    (case k11=>k_is)
    (case a12=>k_is)
    (case l12=>k_is)
    (case c12=>k_is)
    (case k12=>k_is)
    (case a13=>k_is)
    (case l13=>k_is)
    (case c13=>k_is)
    (case k13=>k_is)
    (case a14=>k_is)
    (case l14=>k_is)
    (case c14=>k_is)
    (case k14=>k_is)
    (case a15=>k_is)
    (case l15=>k_is)
    (case c15=>k_is)
    (case k15=>k_is)
    (case a16=>k_is)
    (case l16=>k_is)
    (case c16=>k_is)
    (case k16=>k_is)
    (case a17=>k_is)
    (case l17=>k_is)
    (case c17=>k_is)
    (case k17=>k_is)
    (case a18=>k_is)
    (case l18=>k_is)
    (case c18=>k_is)
    (case k18=>k_is)
    (case a19=>k_is)
    (case l19=>k_is)
    (case c19=>k_is)
    (case k19=>k_is)
    (case a20=>k_is)
    (case l20=>k_is)
    (case c20=>k_is)
    (case k20=>k_is)
    (case a21=>k_is)
    (case l21=>k_is)
    (case c21=>k_is)
    (case k21=>k_is)
    (case a22=>k_is)
    (case l22=>k_is)
    (case c22=>k_is)
    (case k22=>k_is)
    (case a23=>k_is)
    (case l23=>k_is)
    (case c23=>k_is)
    (case k23=>k_is)
    (case a24=>k_is)
    (case l24=>k_is)
    (case c24=>k_is)
    (case k24=>k_is)
    (case a25=>k_is)
    (case l25=>k_is)
    (case c25=>k_is)
    (case k25=>k_is)
    (case a26=>k_is)
    (case l26=>k_is)
    (case c26=>k_is)
    (case k26=>k_is)
    (case a27=>k_is)
    (case l27=>k_is)
    (case c27=>k_is)
    (case k27=>k_is)
    (case a28=>k_is)
    (case l28=>k_is)
    (case c28=>k_is)
    (case k28=>k_is)
    (case a29=>k_is)
    (case l29=>k_is)
    (case c29=>k_is)
    (case k29=>k_is)
    (case a30=>k_is)
    (case l30=>k_is)
    (case c30=>k_is)
    (case k30=>k_is)
    (case a31=>k_is)
    (case l31=>k_is)
    (case c31=>k_is)
    (case k31=>k_is)
    (case a32=>k_is)
    (case l32=>k_is)
    (case c32=>k_is)
    (case k32=>k_is)
    (case a33=>k_is)
    (case l33=>k_is)
    (case c33=>k_is)
    (case k33=>k_is)
    (case a34=>k_is)
    (case l34=>k_is)
    (case c34=>k_is)
    (case k34=>k_is)
    (case a35=>k_is)
    (case l35=>k_is)
    (case c35=>k_is)
    (case k35=>k_is)
    (case a36=>k_is)
    (case l36=>k_is)
    (case c36=>k_is)
    (case k36=>k_is)
    (case a37=>k_is)
    (case l37=>k_is)
    (case c37=>k_is)
    (case k37=>k_is)
    (case a38=>k_is)
    (case l38=>k_is)
    (case c38=>k_is)
    (case k38=>k_is)
    (case a39=>k_is)
    (case l39=>k_is)
    (case c39=>k_is)
    (case k39=>k_is)
    (case a40=>k_is)
    (case l40=>k_is)
    (case c40=>k_is)
    (case k40=>k_is)
    (case a41=>k_is)
    (case l41=>k_is)
    (case c41=>k_is)
    (case k41=>k_is)
    (case a42=>k_is)
    (case l42=>k_is)
    (case c42=>k_is)
    (case k42=>k_is)
    (case a43=>k_is)
    (case l43=>k_is)
    (case c43=>k_is)
    (case k43=>k_is)
    (case a44=>k_is)
    (case l44=>k_is)
    (case c44=>k_is)
    (case k44=>k_is)
    (case a45=>k_is)
    (case l45=>k_is)
    (case c45=>k_is)
    (case k45=>k_is)
    (case a46=>k_is)
    (case l46=>k_is)
    (case c46=>k_is)
    (case k46=>k_is)
    (case a47=>k_is)
    (case l47=>k_is)
    (case c47=>k_is)
    (case k47=>k_is)
    (case a48=>k_is)
    (case l48=>k_is)
    (case c48=>k_is)
    (case k48=>k_is)
    (case a49=>k_is)
    (case l49=>k_is)
    (case c49=>k_is)
    (case k49=>k_is)
    (case z0=>k_is)
    (case z1=>k_is)
    (case z2=>k_is)
    (case z3=>k_is)
    (case z4=>k_is)
    (case z5=>k_is)
    (case z6=>k_is)
    (case z7=>k_is)
    (case z8=>k_is)
    (case z9=>k_is)
    (case z10=>k_is)
    (case z11=>k_is)
    (case z12=>k_is)
    (case z13=>k_is)
    (case z14=>k_is)
    (case z15=>k_is)
    (case y0=>k_is)
    (case y1=>k_is)
