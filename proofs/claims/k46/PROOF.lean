import PyProof.Rows.All
import Wide.All
import OpenK.AllK
import Wide.FinOn
import Lean
import PyProof.EqAt
import PyProof.EqKinds
import PyProof.TupleCall
import PyProof.NeKinds
import KE.KDictOf
import PyProof.AttrMissSeq
import PyProof.DictList
import PyProof.WalksMore
import KE.KDictList
import PyProof.FactsAll.dict_4
import PyProof.ZipIter
import PyProof.ListRange
import OpenK.KOwn
import PyProof.Rows.CatchOwn
import KE.KIsNot
import KE.KRevIter
import PyProof.DictWalks
import PyProof.ConsumeWalk
import PyProof.TupleOfStr
import PyProof.StrOps2
import PyProof.SliceStr2
import PyProof.StrBlockI
import PyProof.Rows.StrClose5
import PyProof.Rows.CatFin
import KE.KIsAll
import KE.KSortTup
import PyProof.MeetsStr
import PyProof.MeetsStr2
import PyProof.StrLawsIn
import PyProof.Rows.StrLawsPart
import PyProof.Rows.StrRev
import PyProof.Draws
import PyProof.EnumMake
import PyProof.Rows.CountFlat
import PyProof.CallStr
import PyProof.FitsInt
import PyProof.FactsAll.zip_1
import KE.KDictSum
import PyProof.WalkInts
import PyProof.Rows.CallKwBuiltin
import KE.KMinBuiltin
import PyProof.CollectStr
import PyProof.ListStr
import PySem.Challenge.RW_linegrow_k46_settled_lengths
set_option Elab.async false
set_option linter.all false
set_option maxRecDepth 100000
set_option maxHeartbeats 4000000
namespace L2
open PySem PySem.Spec PyProof.Rows
abbrev Key:=Sum Int Str
def keyIs:Key→Value→Bool
  | .inl k,v=>Value.isInt k v
  | .inr x,v=>Value.isStrOf x v
def keyH (w:World):Key→Int
  | .inl k=>hashInt k
  | .inr x=>hashStr w x
theorem keyIs_shape:∀ {k:Key} {v:Value},keyIs k v=true→(∃ i t,k=Sum.inl i∧v=Value.int i t)∨(∃ x t,k=Sum.inr x∧v=Value.str x t)
  | .inl i,v,h=>by
    obtain ⟨t,e⟩:=Value.isInt_shape (k:=i) (v:=v) h
    exact .inl ⟨i,t,rfl,e⟩
  | .inr x,v,h=>by
    obtain ⟨t,e⟩:=Value.isStrOf_shape (x:=x) (v:=v) h
    exact .inr ⟨x,t,rfl,e⟩
theorem keyIs_int (i:Int) (t:Tok):keyIs (.inl i) (.int i t)=true:=by simp [keyIs,Value.isInt]
theorem keyIs_str (x:Str) (t:Tok):keyIs (.inr x) (.str x t)=true:=by simp [keyIs,Value.isStrOf]
theorem key_ll (a b:Int):decide ((Sum.inl a:Key)=Sum.inl b)=(a == b):=by
  by_cases e:a=b
  · subst e;simp
  · have h:¬ (Sum.inl a:Key)=Sum.inl b:=fun q=>e (Sum.inl.inj q)
    rw [decide_eq_false h]
    exact (beq_eq_false_iff_ne.mpr e).symm
theorem key_rr (a b:Str):decide ((Sum.inr a:Key)=Sum.inr b)=decide (a=b):=by
  by_cases e:a=b
  · subst e;simp
  · have h:¬ (Sum.inr a:Key)=Sum.inr b:=fun q=>e (Sum.inr.inj q)
    rw [decide_eq_false h,decide_eq_false e]
theorem key_lr (a:Int) (b:Str):decide ((Sum.inl a:Key)=Sum.inr b)=false:=decide_eq_false (fun q=>nomatch q)
theorem key_rl (a:Str) (b:Int):decide ((Sum.inr a:Key)=Sum.inl b)=false:=decide_eq_false (fun q=>nomatch q)
def mixKind (prog:Program) (w:World):PySem.KeyKind prog w Key where
  is:=keyIs
  hash:=keyH w
  inj:=fun v a b ha hb=>by
    rcases keyIs_shape ha with ⟨i,t,rfl,rfl⟩ | ⟨x,t,rfl,rfl⟩
    · rcases keyIs_shape hb with ⟨j,u,rfl,e⟩ | ⟨y,u,rfl,e⟩
      · injection e with e1 _;rw [e1]
      · exact nomatch e
    · rcases keyIs_shape hb with ⟨j,u,rfl,e⟩ | ⟨y,u,rfl,e⟩
      · exact nomatch e
      · injection e with e1 _;rw [e1]
  byValue:=fun k v h=>by
    rcases keyIs_shape h with ⟨i,t,rfl,rfl⟩ | ⟨x,t,rfl,rfl⟩ <;> rfl
  pyHash:=fun hv h=>by
    rcases keyIs_shape hv with ⟨i,t,rfl,rfl⟩ | ⟨x,t,rfl,rfl⟩
    · exact wpAny_pyHash_int h
    · exact wpAny_pyHash_str h
  eqBool:=fun hu hv h=>by
    rcases keyIs_shape hu with ⟨i,t,rfl,rfl⟩ | ⟨x,t,rfl,rfl⟩
    · rcases keyIs_shape hv with ⟨j,u,rfl,rfl⟩ | ⟨y,u,rfl,rfl⟩
      · rw [key_ll] at h;exact wpAny_eqBool_int h
      · rw [key_lr] at h;exact SeqAt.EqAt.int_str i t y u _ _ _ _ h
    · rcases keyIs_shape hv with ⟨j,u,rfl,rfl⟩ | ⟨y,u,rfl,rfl⟩
      · rw [key_rl] at h;exact SeqAt.EqAt.str_int x t j u _ _ _ _ h
      · rw [key_rr] at h;exact wpAny_eqBool_str h
  «strs»:=fun k x t v h=>by
    rcases keyIs_shape h with ⟨i,u,rfl,e⟩ | ⟨y,u,rfl,e⟩
    · exact nomatch e
    · injection e with e1 _
      subst e1
      cases v <;> rfl
theorem mixKind_int (prog:Program) (w:World) (i:Int) (t:Tok):(mixKind prog w).is (.inl i) (.int i t)=true:=keyIs_int i t
theorem mixKind_str (prog:Program) (w:World) (x:Str) (t:Tok):(mixKind prog w).is (.inr x) (.str x t)=true:=keyIs_str x t
end L2
namespace L2
open PySem PySem.Spec PyProof.Rows
inductive V where
  | non | bl (b:Bool) | int (i:Int) | str (x:Str) | byt (b:Array UInt8) | flt (b:UInt64) | ref (a:Addr) | ty (n:String)
  deriving DecidableEq
def RelV:V→Value→Prop
  | .non,u=>u=Value.none
  | .bl b,u=>u=Value.bool b
  | .int i,u=>∃ t,u=Value.int i t
  | .str x,u=>∃ t,u=Value.str x t
  | .byt b,u=>∃ t,u=Value.bytes b t
  | .flt b,u=>∃ t,u=Value.float b t
  | .ref a,u=>u=Value.ref a
  | .ty n,u=>u=Value.type n
abbrev Vals:List V→List Value→Prop:=Paired RelV
theorem Vals.length {xs:List V} {us:List Value} (r:Vals xs us):xs.length=us.length:=Paired.length r
theorem Vals.get:∀ {xs:List V} {us:List Value} {i:Nat} {x:V},Vals xs us→xs[i]? = some x→∃ u,us[i]? = some u∧RelV x u
  | _,_,_,_,.nil,e=>by simp at e
  | _,_,0,_,.cons r _,e=>by simp at e;subst e;exact ⟨_,rfl,r⟩
  | _,_,i+1,x,.cons _ t,e=>by
    obtain ⟨u,h1,h2⟩:=Vals.get (i:=i) (x:=x) t (by simpa using e)
    exact ⟨u,by simpa using h1,h2⟩
theorem Vals.set {x:V} {u:Value} (r:RelV x u):∀ {xs:List V} {us:List Value} (i:Nat),Vals xs us→Vals (xs.set i x) (us.set i u)
  | _,_,_,.nil=>.nil
  | _,_,0,.cons _ t=>.cons r t
  | _,_,i+1,.cons q t=>.cons q (Vals.set r i t)
theorem Vals.append:∀ {xs ys:List V} {us ws:List Value},Vals xs us→Vals ys ws→Vals (xs++ys) (us++ws)
  | _,_,_,_,.nil,s=>s
  | _,_,_,_,.cons r t,s=>.cons r (Vals.append t s)
theorem Vals.take:∀ {xs:List V} {us:List Value} (n:Nat),Vals xs us→Vals (xs.take n) (us.take n)
  | _,_,0,_=>.nil
  | _,_,_+1,.nil=>.nil
  | _,_,n+1,.cons r t=>.cons r (Vals.take n t)
theorem Vals.drop:∀ {xs:List V} {us:List Value} (n:Nat),Vals xs us→Vals (xs.drop n) (us.drop n)
  | _,_,0,r=>r
  | _,_,_+1,.nil=>.nil
  | _,_,n+1,.cons _ t=>Vals.drop n t
def RelO:Option V→Option Value→Prop
  | some v,some u=>RelV v u
  | none,none=>True
  | _,_=>False
def KV {κ:Type}:List (κ × V)→List (κ × Value)→Prop:=Paired fun (p:κ × V) (q:κ × Value)=>p.1=q.1∧RelV p.2 q.2
def kV:Key→V
  | .inl i=>.int i
  | .inr x=>.str x
inductive HO where
  /-- a list -/
  | lst (xs:List V)
  /-- a tuple (never changes) -/
  | tup (xs:List V)
  /-- a dict whose keys are ints and texts;one whose keys are tuples of ints and texts (the empty one is both) -/
  | dK (kvs:List (Key × V)) | dT (kvs:List (List Key × V))
  /-- a set of ints: its members,its size -/
  | set (S:Int→Bool) (n:Nat)
  /-- an instance of the class at C,its dict at dx,its attributes -/
  | ins (C dx:Addr) (fs:List (Str × V))
  /-- the dict of the instance at x -/
  | own (x:Addr)
  /-- the dict of an exception -/
  | xd (fs:List (Str × V))
  /-- a bound method,f of x -/
  | met (f x:Addr)
  /-- a range object lo,lo+1,.. below hi -/
  | rng (lo hi:Int)
  /-- a thing that is known to the object (the script;a dict while a loop walks it): read,never written while it is so -/
  | frz (o:Obj) (u:HO)
  /-- a code object's table -/
  | tbl (ps:Array Value)
  /-- any other thing,by what is true of its one object (a def of one's own: SetO a S n:=HO.ext fun h=>..) -/
  | ext (φ:Heap→Prop)
abbrev Hp:=Addr→Option HO
def upd (H:Hp) (a:Addr) (o:HO):Hp:=fun b=>if b=a then some o else H b
theorem upd_same {H:Hp} {a:Addr} {o:HO}:upd H a o a=some o:=by unfold upd;rw [if_pos rfl]
theorem upd_ne {H:Hp} {a b:Addr} {o:HO} (h:b≠a):upd H a o b=H b:=by unfold upd;rw [if_neg h]
theorem ne_of {H:Hp} {a b:Addr} {o u:HO} (h:H a=some o) (h':H b=some u) (d:o≠u):a≠b:=by
  intro e;subst e;rw [h] at h';exact d (Option.some.inj h')
theorem ne_of_none {H:Hp} {a b:Addr} {o:HO} (h:H a=some o) (h':H b=none):a≠b:=by
  intro e;subst e;rw [h] at h';cases h'
section
variable (P:Program) (w:World)
def Bare (h:Heap) (a:Addr):Prop:=∃ o,h.get? a=some o∧o.dict=none
def ObjOk (H:Hp) (h:Heap) (a:Addr):HO→Prop
  | .lst xs=>xs.length≤sizeLine∧∃ (its:List Value) (n:Nat),Vals xs its∧h.get? a=some { cls:=.type "list",data:=.seq its.toArray n }
  | .tup xs=>xs.length≤sizeLine∧∃ its:List Value,Vals xs its∧IsTup h a its.toArray∧Bare h a
  | .dK kvs=>kvs.length≤sizeLine∧(a == sysModules)=false∧∃ vs,KV kvs vs∧h.DictOf (mixKind P w) a vs
  | .dT kvs=>kvs.length≤sizeLine∧(a == sysModules)=false∧∃ xs:List (List Key × Addr × Value),
      Paired (fun (p:List Key × V) (q:List Key × Addr × Value)=>p.1=q.1∧H q.2.1=some (.tup (p.1.map kV))∧RelV p.2 q.2.2) kvs xs ∧
      ∃ o es ep,h.get? a=some o∧o.ExactDict∧o.data=.dict es ep∧es.toList=xs.map (entryOfKey (tupleKind (mixKind P w)))∧(xs.map (·.1)).Nodup
  | .set S n=>h.SetOf (intKind P w) a S n
  | .ins C dx fs=>H dx=some (.own a)∧fs.length≤1000∧dx≠a∧h.get? a=some (PySem.W.instObj C dx) ∧
      ∃ mA,h.Ns1 dx mA∧(∀ f,RelO (fs.lookup f) (mA f))∧PySem.Within mA (fs.map (·.1))
  | .own _=>∃ o,h.get? a=some o
  | .xd fs=>∃ mA,h.Ns1 a mA∧∀ f,RelO (fs.lookup f) (mA f)
  | .rng lo hi=>∃ t u v,h.get? a=some { cls:=.type "range",data:=.fields #[.int lo t,.int hi u,.int 1 v] }
  | .frz o u=>h.get? a=some o∧ObjOk H h a u
  | .tbl ps=>h.get? a=some { cls:=.none,data:=.fields ps }
  | .met f x=>h.get? a=some (PySem.W.methodObj (.ref f) (.ref x))
  | .ext φ=>φ h∧(∃ o,h.get? a=some o)∧∀ h1 h2:Heap,φ h1→(∀ o,h1.get? a=some o→h2.get? a=some o)→φ h2
def HOk (H:Hp) (h:Heap):Prop:=∀ a o,H a=some o→ObjOk P w H h a o
end
section
variable {P:Program} {w:World} {H H':Hp} {h h':Heap} {a:Addr} {o:HO}
theorem ObjOk.lt (x:ObjOk P w H h a o):a < h.objs.size:=by
  cases o with
  | lst xs=>obtain ⟨_,_,_,_,e⟩:=x;exact Heap.lt_size e
  | tup xs=>obtain ⟨_,_,_,p,_⟩:=x;exact p.lt
  | dK kvs=>obtain ⟨_,_,_,_,o,_,_,e,_⟩:=x;exact Heap.lt_size e
  | dT kvs=>obtain ⟨_,_,_,_,o,_,_,e,_⟩:=x;exact Heap.lt_size e
  | set S n=>obtain ⟨o,_,_,_,e,_⟩:=x;exact Heap.lt_size e
  | ins C dx fs=>obtain ⟨_,_,_,e,_⟩:=x;exact Heap.lt_size e
  | own y=>obtain ⟨_,e⟩:=x;exact Heap.lt_size e
  | xd fs=>obtain ⟨_,⟨_,_,_,e,_⟩,_⟩:=x;exact Heap.lt_size e
  | rng lo hi=>obtain ⟨_,_,_,e⟩:=x;exact Heap.lt_size e
  | frz ob u=>obtain ⟨e,_⟩:=x;exact Heap.lt_size e
  | tbl ps=>exact Heap.lt_size (show h.get? a=some _ from x)
  | met f y=>exact Heap.lt_size (show h.get? a=some _ from x)
  | ext φ=>obtain ⟨_,⟨_,e⟩,_⟩:=x;exact Heap.lt_size e
theorem Paired.mapP {α β:Type} {F G:α→β→Prop}:∀ {l₁:List α} {l₂:List β},Paired F l₁ l₂→(∀ a b,F a b→G a b)→Paired G l₁ l₂
  | _,_,.nil,_=>.nil
  | _,_,.cons r t,f=>.cons (f _ _ r) (Paired.mapP t f)
theorem ObjOk.stay (x:ObjOk P w H h a o) (k:∀ b u,(b=a∨H b=some (.own a))→h.get? b=some u→h'.get? b=some u)
    (ho:∀ b,H b=some (.own a)→H' b=some (.own a)) (ht:∀ b xs,H b=some (.tup xs)→H' b=some (.tup xs)):ObjOk P w H' h' a o:=by
  induction o with
  | lst xs=>obtain ⟨z,its,n,r,e⟩:=x;exact ⟨z,its,n,r,k _ _ (.inl rfl) e⟩
  | tup xs=>obtain ⟨z,its,r,⟨ob,e,c⟩,o2,e2,c2⟩:=x;exact ⟨z,its,r,⟨ob,k _ _ (.inl rfl) e,c⟩,o2,k _ _ (.inl rfl) e2,c2⟩
  | dK kvs=>obtain ⟨z,y,vs,r,ob,es,ep,e,c⟩:=x;exact ⟨z,y,vs,r,ob,es,ep,k _ _ (.inl rfl) e,c⟩
  | dT kvs =>
    obtain ⟨z,y,xs,r,ob,es,ep,e,c⟩:=x
    exact ⟨z,y,xs,Paired.mapP r fun p q z=>⟨z.1,ht _ _ z.2.1,z.2.2⟩,ob,es,ep,k _ _ (.inl rfl) e,c⟩
  | set S n=>obtain ⟨ob,es,ep,t,e,c⟩:=x;exact ⟨ob,es,ep,t,k _ _ (.inl rfl) e,c⟩
  | ins C dx fs =>
    obtain ⟨d,z,ne,e,mA,⟨od,es,ep,e2,c⟩,r⟩:=x
    exact ⟨ho _ d,z,ne,k _ _ (.inl rfl) e,mA,⟨od,es,ep,k _ _ (.inr d) e2,c⟩,r⟩
  | own y=>obtain ⟨ob,e⟩:=x;exact ⟨ob,k _ _ (.inl rfl) e⟩
  | xd fs=>obtain ⟨mA,⟨od,es,ep,e,c⟩,r⟩:=x;exact ⟨mA,⟨od,es,ep,k _ _ (.inl rfl) e,c⟩,r⟩
  | rng lo hi=>obtain ⟨t,u,v,e⟩:=x;exact ⟨t,u,v,k _ _ (.inl rfl) e⟩
  | frz ob u ih=>obtain ⟨e,q⟩:=x;exact ⟨k _ _ (.inl rfl) e,ih q⟩
  | tbl ps =>
    have e:h.get? a=some { cls:=.none,data:=.fields ps }:=x
    show h'.get? a=some { cls:=.none,data:=.fields ps }
    exact k a _ (.inl rfl) e
  | met f y =>
    have e:h.get? a=some (PySem.W.methodObj (.ref f) (.ref y)):=x
    show h'.get? a=some (PySem.W.methodObj (.ref f) (.ref y))
    exact k a _ (.inl rfl) e
  | ext φ=>obtain ⟨p,⟨o,e⟩,st⟩:=x;exact ⟨st _ _ p fun o q=>k _ _ (.inl rfl) q,⟨o,k _ _ (.inl rfl) e⟩,st⟩
theorem HOk.lt (x:HOk P w H h) (e:H a=some o):a < h.objs.size:=(x a o e).lt
theorem HOk.fresh (x:HOk P w H h) (e:h.objs.size≤a):H a=none:=by
  cases q:H a with
  | none=>rfl
  | some u=>exact absurd (Nat.lt_of_lt_of_le (x.lt q) e) (Nat.lt_irrefl _)
theorem HOk.kept (x:HOk P w H h) (k:∀ b u,h.get? b=some u→h'.get? b=some u):HOk P w H h':=fun a o e =>
  (x a o e).stay (fun b u _ q=>k b u q) (fun _ q=>q) fun _ _ q=>q
theorem HOk.laid (x:HOk P w H h) (k:∀ b u,h.get? b=some u→h'.get? b=some u) (hp:h.objs.size≤a) (new:ObjOk P w (upd H a o) h' a o):HOk P w (upd H a o) h':=fun b u e=>by
  have hn:=x.fresh hp
  by_cases hb:b=a
  · subst hb;rw [upd_same] at e;cases e;exact new
  · rw [upd_ne hb] at e
    exact (x b u e).stay (fun c v _ q=>k c v q) (fun c q=>by rw [upd_ne (ne_of_none q hn)];exact q) fun c xs q=>by rw [upd_ne (ne_of_none q hn)];exact q
end
def Rd (H:Hp) (a:Addr) (u:HO):Prop:=H a=some u∨∃ o,H a=some (.frz o u)
theorem Rd.of {H:Hp} {a:Addr} {u:HO} (h:H a=some u):Rd H a u:=.inl h
theorem Rd.ok {P:Program} {w:World} {H:Hp} {h:Heap} {a:Addr} {u:HO} (r:Rd H a u) (x:HOk P w H h):ObjOk P w H h a u:=by
  rcases r with r | ⟨o,r⟩
  · exact x a u r
  · obtain ⟨_,q⟩:=x a _ r
    exact q
def Mut:Option HO→Prop
  | some (.lst _)=>True
  | some (.dK _)=>True
  | some (.dT _)=>True
  | some (.set _ _)=>True
  | some (.ins _ _ _)=>True
  | some (.ext _)=>True
  | _=>False
section
variable {P:Program} {w:World} {H:Hp} {h h':Heap} {x e:Addr} {o':HO}
theorem HOk.write (ok:HOk P w H h) (mu:Mut (H x)) (he:e=x∨H e=some (.own x)) (k:∀ b u,b≠e→h.get? b=some u→h'.get? b=some u) (heo:∃ u,h'.get? e=some u)
    (new:ObjOk P w (upd H x o') h' x o'):HOk P w (upd H x o') h':=fun b u q=>by
  have nown:∀ c y,H c=some (.own y)→c≠x:=fun c y r z=>by subst z;rw [r] at mu;exact mu
  have ntup:∀ c xs,H c=some (.tup xs)→c≠x:=fun c xs r z=>by subst z;rw [r] at mu;exact mu
  by_cases hb:b=x
  · subst hb;rw [upd_same] at q;cases q;exact new
  · rw [upd_ne hb] at q
    by_cases hbe:b=e
    · have q':H b=some (.own x):=by
        rcases he with z | z
        · exact absurd (hbe.trans z) hb
        · rw [hbe];exact z
      rw [q] at q';cases q'
      obtain ⟨v,hv⟩:=heo
      exact ⟨v,by rw [hbe];exact hv⟩
    · refine (ok b u q).stay (fun c v hc r=>k c v ?_ r) (fun c r=>by rw [upd_ne (nown c b r)];exact r) fun c xs r=>by rw [upd_ne (ntup c xs r)];exact r
      rcases hc with rfl | hc
      · exact hbe
      · rintro rfl
        rcases he with z | z
        · exact nown c b hc z
        · rw [hc] at z;cases z;exact hb rfl
end
structure Un (fs ex:List Addr) (H H':Hp) (h h':Heap):Prop where
  keep:∀ b o,h.get? b=some o→H b=none→b ∉ fs→b ∉ ex→h'.get? b=some o
  slot:∀ b o,h.get? b=some o→H b=none→b∈fs→b ∉ ex→∃ sl,h'.get? b=some { o with slots:=sl }
  free:∀ b o,h.get? b=some o→H b=none→b ∉ ex→H' b=none
  there:∀ b o,h.get? b=some o→b ∉ ex→∃ o',h'.get? b=some o'
  tups:∀ b xs,H b=some (.tup xs)→H' b=some (.tup xs)
  frzs:∀ b o u,H b=some (.frz o u)→H' b=some (.frz o u)
  tbls:∀ b ps,H b=some (.tbl ps)→∃ more,H' b=some (.tbl (ps++more))
section
variable {fs fs' ex ex':List Addr} {H H1 H2:Hp} {h h1 h2 h':Heap} {a x e:Addr} {o:HO}
theorem Un.any (u:Un fs ex H H1 h h1) {b:Addr} {ob:Obj} (q:h.get? b=some ob) (n:H b=none) (hx:b ∉ ex):∃ sl,h1.get? b=some { ob with slots:=sl }:=by
  by_cases hb:b∈fs
  · exact u.slot b ob q n hb hx
  · exact ⟨ob.slots,u.keep b ob q n hb hx⟩
theorem Un.trans (a:Un fs ex H H1 h h1) (b:Un fs ex H1 H2 h1 h2):Un fs ex H H2 h h2 where
  keep:=fun c ob q n hc hx=>b.keep c ob (a.keep c ob q n hc hx) (a.free c ob q n hx) hc hx
  slot:=fun c ob q n hc hx=>by
    obtain ⟨sl,e1⟩:=a.slot c ob q n hc hx
    obtain ⟨sl',e2⟩:=b.slot c _ e1 (a.free c ob q n hx) hc hx
    exact ⟨sl',e2⟩
  free:=fun c ob q n hx=>by
    obtain ⟨o',e1⟩:=a.there c ob q hx
    exact b.free c o' e1 (a.free c ob q n hx) hx
  there:=fun c ob q hx=>by
    obtain ⟨o',e1⟩:=a.there c ob q hx
    exact b.there c o' e1 hx
  tups:=fun c xs q=>b.tups c xs (a.tups c xs q)
  frzs:=fun c ob xs q=>b.frzs c ob xs (a.frzs c ob xs q)
  tbls:=fun c ps q=>by
    obtain ⟨m1,e1⟩:=a.tbls c ps q
    obtain ⟨m2,e2⟩:=b.tbls c _ e1
    exact ⟨m1++m2,by rw [e2,Array.append_assoc]⟩
theorem Un.kept (k:∀ b u,h.get? b=some u→h'.get? b=some u):Un fs ex H H h h' :=
  ⟨fun b ob q _ _ _=>k b ob q,fun b ob q _ _ _=>⟨ob.slots,k b ob q⟩,fun _ _ _ n _=>n,fun b ob q _=>⟨ob,k b ob q⟩,fun _ _ q=>q,fun _ _ _ q=>q,fun _ ps q=>⟨#[],by rw [q];simp⟩⟩
theorem Un.refl:Un fs ex H H h h:=Un.kept fun _ _ q=>q
theorem Un.laid (k:∀ b u,h.get? b=some u→h'.get? b=some u) (hp:h.objs.size≤a) (hn:H a=none):Un fs ex H (upd H a o) h h' where
  keep:=fun b u q _ _ _=>k b u q
  slot:=fun b u q _ _ _=>⟨u.slots,k b u q⟩
  free:=fun b u q n _=>by rw [upd_ne (Nat.ne_of_lt (Nat.lt_of_lt_of_le (Heap.lt_size q) hp))];exact n
  there:=fun b u q _=>⟨u,k b u q⟩
  tups:=fun b xs q=>by rw [upd_ne (ne_of_none q hn)];exact q
  frzs:=fun b u xs q=>by rw [upd_ne (ne_of_none q hn)];exact q
  tbls:=fun b ps q=>⟨#[],by rw [upd_ne (ne_of_none q hn),q];simp⟩
theorem Un.write (mu:Mut (H x)) (he:e=x∨H e=some (.own x)) (k:∀ b u,b≠e→h.get? b=some u→h'.get? b=some u) (heo:∃ u,h'.get? e=some u):Un fs ex H (upd H x o) h h':=by
  have hx:∀ b,H b=none→b≠x:=fun b n z=>by subst z;rw [n] at mu;exact mu
  have hb:∀ b,H b=none→b≠e:=fun b n z=>by
    subst z
    rcases he with r | r
    · exact hx b n r
    · rw [n] at r;cases r
  have hm:∀ b u,H b=some u→¬ Mut (some u)→b≠x:=fun b u q nm z=>by subst z;rw [q] at mu;exact nm mu
  refine ⟨fun b u q n _ _=>k b u (hb b n) q,fun b u q n _ _=>⟨u.slots,k b u (hb b n) q⟩,fun b u q n _=>by rw [upd_ne (hx b n)];exact n,fun b u q _=>?_,
    fun b xs q=>by rw [upd_ne (hm b _ q fun z=>z)];exact q,fun b u xs q=>by rw [upd_ne (hm b _ q fun z=>z)];exact q,fun b ps q=>⟨#[],by rw [upd_ne (hm b _ q fun z=>z),q];simp⟩⟩
  by_cases hbe:b=e
  · subst hbe;exact heo
  · exact ⟨u,k b u hbe q⟩
theorem Un.mono (u:Un fs ex H H1 h h1) (hs:∀ b∈fs,b∈fs') (hx:∀ b∈ex,b∈ex'):Un fs' ex' H H1 h h1 :=
  ⟨fun b ob q n hb he=>u.keep b ob q n (fun z=>hb (hs b z)) fun z=>he (hx b z),fun _ _ q n _ he=>u.any q n fun z=>he (hx _ z),fun b ob q n he=>u.free b ob q n fun z=>he (hx b z),fun b ob q he=>u.there b ob q fun z=>he (hx b z),u.tups,u.frzs,u.tbls⟩
end
def trk (h:Heap) (H:Hp):List Addr:=(List.range h.objs.size).filter fun a=>(H a).isSome
def hidT (h:Heap) (H:Hp):Heap:=PySem.W.hideAll h (trk h H)
theorem hidT_size (h:Heap) (H:Hp):(hidT h H).objs.size=h.objs.size:=PySem.W.hideAll_size _ _
theorem hidT_get {h:Heap} {H:Hp} {b:Addr} {o:Obj} (e:h.get? b=some o) (n:H b=none):(hidT h H).get? b=some o :=
  PySem.W.hideAll_get _ e fun hm=>by
    have q:(H b).isSome=true:=(List.mem_filter.mp hm).2
    rw [n] at q;simp at q
theorem of_hidT {h:Heap} {H:Hp} {b:Addr} {o:Obj} (e:(hidT h H).get? b=some o):h.get? b=some o∧H b=none:=by
  have e':h.get? b=some o:=PySem.W.of_hideAll (trk h H) e
  refine ⟨e',?_⟩
  cases q:H b with
  | none=>rfl
  | some x =>
    have hm:b∈trk h H:=List.mem_filter.mpr ⟨List.mem_range.mpr (Heap.lt_size e'),by simp [q]⟩
    have z:(hidT h H).get? b=none:=PySem.W.hideAll_none (trk h H) hm
    rw [z] at e;cases e
def allNews (g h:Heap) (L:Addr):List (Addr × Obj):=(List.range h.objs.size).filterMap fun a=>if a=L∨(g.get? a).isSome=true then none else (h.get? a).map fun o=>(a,o)
def rest (g h:Heap) (L d:Addr):List (Addr × Obj):=(allNews g h L).filter fun p=>decide (p.1≠d)
end L2
namespace L2
open PySem PySem.Spec PyProof.Rows
structure Mod (K:PySem.W.Frag) (mg:Str→Option Value) (base:Heap):Prop where
  kin:K.In base
  glob:base.Ns mainGlobals mg
  blt:∃ mb,base.Ns builtinsNs mb∧∀ x:Str,x≠"__name__"→mb x=bootBuiltins x
  nolimit:base.NoLimit
structure Cx where
  prog:Program
  w:World
  K:PySem.W.Frag
  mg:Str→Option Value
  base:Heap
  A:Around
  N:List Str
  s₀:Shared
  H₀:Hp
  env:Env
  outer:List Env
  stack:List Env
  ex:List Addr
  fn:Str→Bool
  calm:Bool
  pn:List (Addr × Obj)
  xe:Value→Shared→Prop
def frs (l:List Env):List Addr:=l.filterMap (·.frame)
abbrev Cx.fs (X:Cx):List Addr:=frs X.outer
def Vis (sc:Scope) (x:Str):Prop:=sc.names.lookup x=some .local∨sc.names.lookup x=some .cell∨sc.names.lookup x=some .free
def Loc (sc:Scope) (x:Str):Prop:=sc.names.lookup x=some .local∨sc.names.lookup x=some .cell
def Look (env:Env) (h:Heap) (m:Str→Option Value) (x:Str) (u:Value):Prop :=
  (env.kindOf x=some .local∧m x=some u)∨((env.kindOf x=some .cell∨env.kindOf x=some .free)∧∃ c,env.cells.lookup x=some c∧h.IsCell c (some u))
structure Cx.Ok (X:Cx):Prop where
  mod:Mod X.K X.mg X.base
  kind:X.env.scope.kind=.function
  glob:X.env.globals=mainGlobals
  blt:X.env.builtins=builtinsNs
  above:X.s₀.heap.objs.size≤X.env.locals
  inj:∀ x y c,X.env.cells.lookup x=some c→X.env.cells.lookup y=some c→x=y
  has:∀ x,(X.env.kindOf x=some .cell∨X.env.kindOf x=some .free)→∃ c,X.env.cells.lookup x=some c
  cab:∀ x c,X.fn x=true→X.env.cells.lookup x=some c→X.s₀.heap.objs.size≤c
  hd:X.calm=true→X.A.handled=none
  frames:X.A.frames=some X.stack
  stk:X.stack=X.outer∨(X.stack=X.env :: X.outer∧X.env.frame=some X.env.locals)
  exf:∀ b∈X.ex,b≠X.env.locals∧∀ x c,X.env.cells.lookup x=some c→c≠b
  bs:∀ b o,X.base.get? b=some o→X.s₀.heap.get? b=some o∧X.H₀ b=none
  bsz:X.base.objs.size≤X.s₀.heap.objs.size
  noex:∀ b o,X.base.get? b=some o→b ∉ X.ex
  exfs:∀ b∈X.ex,b ∉ X.fs
  funs:X.s₀.heap.FunFrames X.base X.outer
  frf:∀ b∈X.fs,X.H₀ b=none
structure Inv (X:Cx) (pins:List (Addr × Obj)) (σ:List (Option V)) (H:Hp) (s:Shared):Prop where
  ok:X.Ok
  os:s.os=X.s₀.os
  bare:AllBare s.gens
  base:Un X.fs X.ex X.H₀ H X.s₀.heap s.heap
  loc:∃ m,s.heap.Ns X.env.locals m∧∀ (i:Nat) (x:Str) (v:V),X.N[i]? = some x→σ[i]? = some (some v)→Vis X.env.scope x→∃ u,RelV v u∧Look X.env s.heap m x u
  cell:∀ x c,X.env.cells.lookup x=some c→∃ v,s.heap.IsCell c v
  free:H X.env.locals=none
  freeC:∀ x c,X.env.cells.lookup x=some c→H c=none
  pin:∀ p∈X.pn++pins,s.heap.get? p.1=some p.2∧H p.1=none∧p.1≠X.env.locals∧p.1 ∉ X.fs∧∀ v,p.2.data≠.cell v
  hok:HOk X.prog X.w H s.heap
  len:σ.length=X.N.length
section
variable {X:Cx} {pins:List (Addr × Obj)} {σ:List (Option V)} {H H':Hp} {s:Shared} {h':Heap}
theorem Cx.Ok.nofr (ok:X.Ok) {b:Addr} {o:Obj} (e:X.base.get? b=some o):b ∉ X.fs:=fun hb=>by
  have:=(ok.funs.mem hb).1
  rw [e] at this;cases this
theorem Inv.bs (I:Inv X pins σ H s):∀ b o,X.base.get? b=some o→s.heap.get? b=some o∧H b=none:=fun b o e =>
  ⟨I.base.keep b o (I.ok.bs b o e).1 (I.ok.bs b o e).2 (I.ok.nofr e) (I.ok.noex b o e),I.base.free b o (I.ok.bs b o e).1 (I.ok.bs b o e).2 (I.ok.noex b o e)⟩
theorem Inv.bk (I:Inv X pins σ H s):∀ b o,X.base.get? b=some o→s.heap.get? b=some o:=fun b o e=>(I.bs b o e).1
theorem Inv.mod (I:Inv X pins σ H s):Mod X.K X.mg X.base:=I.ok.mod
theorem Inv.kIn (I:Inv X pins σ H s):X.K.In s.heap:=I.ok.mod.kin.keeps I.bk
theorem Inv.nolimit (I:Inv X pins σ H s):s.heap.NoLimit:=I.ok.mod.nolimit.keeps I.bk
theorem Inv.fr (I:Inv X pins σ H s):∃ m,Fr X.base X.env.locals s.heap m :=
  let ⟨m,hn,_⟩:=I.loc
  ⟨m,hn,I.bk,Nat.le_trans I.ok.bsz I.ok.above⟩
theorem Inv.lt (I:Inv X pins σ H s):X.env.locals < s.heap.objs.size:=let ⟨_,hn,_⟩:=I.loc;hn.lt
theorem Inv.sz (I:Inv X pins σ H s):X.s₀.heap.objs.size≤s.heap.objs.size:=Nat.le_trans I.ok.above (Nat.le_of_lt I.lt)
theorem Inv.nofs (I:Inv X pins σ H s) {a:Addr} (h:s.heap.objs.size≤a):a ∉ X.fs:=fun hb=>by
  obtain ⟨_,o,ho,_⟩:=I.ok.funs.mem hb
  exact absurd (Nat.lt_of_lt_of_le (Heap.lt_size ho) (Nat.le_trans I.sz h)) (Nat.lt_irrefl _)
theorem Inv.cne (I:Inv X pins σ H s):∀ x c,X.env.cells.lookup x=some c→c≠X.env.locals:=fun x c e z=>by
  obtain ⟨v,o,ho,hd⟩:=I.cell x c e
  obtain ⟨m,⟨o',es,ep,ho',hd',_⟩,_⟩:=I.loc
  rw [z,ho'] at ho;cases ho;rw [hd'] at hd;cases hd
theorem Inv.funs (I:Inv X pins σ H s):s.heap.FunFrames X.base X.outer:=by
  have all:∀ (l:List Env),(∀ b∈frs l,b∈X.fs)→X.s₀.heap.FunFrames X.base l→s.heap.FunFrames X.base l:=by
    intro l
    induction l with
    | nil=>intro _ _;trivial
    | cons env r ih =>
      intro hs hl
      obtain ⟨hk,⟨L,o,hf,hn,ho,hd⟩,hr⟩:=hl
      have hL:L∈X.fs:=hs L (by unfold frs;rw [List.filterMap_cons,hf];exact List.mem_cons_self)
      obtain ⟨sl,e⟩:=I.base.slot L o ho (I.ok.frf L hL) hL fun z=>I.ok.exfs L z hL
      exact ⟨hk,⟨L,_,hf,hn,e,hd⟩,ih (fun b hb=>hs b (by unfold frs;rw [List.filterMap_cons,hf];exact List.mem_cons_of_mem _ hb)) hr⟩
  exact all X.outer (fun _ hb=>hb) I.ok.funs
theorem Inv.stack (I:Inv X pins σ H s):s.heap.FunFrames X.base X.stack:=by
  rcases I.ok.stk with e | ⟨e,hf⟩
  · rw [e];exact I.funs
  · rw [e]
    obtain ⟨m,hn,_⟩:=I.loc
    refine .cons (by rw [I.ok.kind];decide) hf hn ?_ I.funs
    exact Heap.get?_none_of_le (Nat.le_trans I.ok.bsz I.ok.above)
theorem Inv.stkSub (I:Inv X pins σ H s):∀ b∈frs X.stack,b∈X.env.locals :: X.fs:=fun b hb=>by
  rcases I.ok.stk with e | ⟨e,hf⟩
  · rw [e] at hb;exact List.mem_cons_of_mem _ hb
  · rw [e] at hb
    unfold frs at hb
    rw [List.filterMap_cons,hf] at hb
    exact hb
theorem Inv.stkFree (I:Inv X pins σ H s):∀ b∈frs X.stack,H b=none:=fun b hb=>by
  rcases List.mem_cons.mp (I.stkSub b hb) with e | hb
  · rw [e];exact I.free
  · obtain ⟨_,o,ho,_⟩:=I.ok.funs.mem hb
    exact I.base.free b o ho (I.ok.frf b hb) fun z=>I.ok.exfs b z hb
theorem Inv.step {g':Array GenState} {t':Nat} {d':Drawn} {ch:List Addr} (I:Inv X pins σ H s)
    (hch:∀ b∈ch,(b∈X.ex∨X.s₀.heap.objs.size≤b)∧b≠X.env.locals∧(∀ x c,X.env.cells.lookup x=some c→c≠b)∧∀ p∈X.pn++pins,p.1≠b)
    (keep:∀ b o,b≠X.env.locals→b ∉ X.fs→b ∉ ch→s.heap.get? b=some o→H b=none→h'.get? b=some o)
    (slot:∀ b o,b≠X.env.locals→b∈X.fs→b ∉ ch→s.heap.get? b=some o→H b=none→∃ sl,h'.get? b=some { o with slots:=sl }) (free:∀ b o,b ∉ ch→s.heap.get? b=some o→H b=none→H' b=none)
    (there:∀ b o,b ∉ ch→s.heap.get? b=some o→∃ o',h'.get? b=some o')
    (tups:∀ b xs,H b=some (.tup xs)→H' b=some (.tup xs)) (frzs:∀ b o u,H b=some (.frz o u)→H' b=some (.frz o u)) (tbls:∀ b ps,H b=some (.tbl ps)→∃ more,H' b=some (.tbl (ps++more)))
    (ns:∀ m,s.heap.Ns X.env.locals m→h'.Ns X.env.locals m) (hok:HOk X.prog X.w H' h') (hg:AllBare g') :
    Inv X pins σ H' { s with heap:=h',gens:=g',drawn:=d',toks:=t' }:=by
  have neL:∀ b o,X.s₀.heap.get? b=some o→b≠X.env.locals:=fun b o e=>Nat.ne_of_lt (Nat.lt_of_lt_of_le (Heap.lt_size e) I.ok.above)
  have neC:∀ b o,X.s₀.heap.get? b=some o→b ∉ X.ex→b ∉ ch:=fun b o e hx hb=>by
    rcases (hch b hb).1 with z | z
    · exact hx z
    · exact absurd (Nat.lt_of_lt_of_le (Heap.lt_size e) z) (Nat.lt_irrefl _)
  have cellK:∀ x c,X.env.cells.lookup x=some c→∀ v,s.heap.IsCell c v→h'.IsCell c v:=fun x c e v ⟨o,ho,hd⟩=>by
    have nch:c ∉ ch:=fun z=>(hch c z).2.2.1 x c e rfl
    by_cases hc:c∈X.fs
    · obtain ⟨sl,q⟩:=slot c o (I.cne x c e) hc nch ho (I.freeC x c e)
      exact ⟨_,q,hd⟩
    · exact ⟨o,keep c o (I.cne x c e) hc nch ho (I.freeC x c e),hd⟩
  refine ⟨I.ok,I.os,hg,⟨fun b o e n hb hx=>?_,fun b o e n hb hx=>?_,fun b o e n hx=>?_,fun b o e hx=>?_,fun b xs e=>tups b xs (I.base.tups b xs e),fun b o xs e=>frzs b o xs (I.base.frzs b o xs e),fun b ps e=>?_⟩,?_,fun x c e=>?_,?_,fun x c e=>?_,fun p hp=>?_,hok,I.len⟩
  · exact keep b o (neL b o e) hb (neC b o e hx) (I.base.keep b o e n hb hx) (I.base.free b o e n hx)
  · obtain ⟨sl,e1⟩:=I.base.slot b o e n hb hx
    obtain ⟨sl',e2⟩:=slot b _ (neL b o e) hb (neC b o e hx) e1 (I.base.free b o e n hx)
    exact ⟨sl',e2⟩
  · obtain ⟨o',e1⟩:=I.base.there b o e hx
    exact free b o' (neC b o e hx) e1 (I.base.free b o e n hx)
  · obtain ⟨o',e1⟩:=I.base.there b o e hx
    exact there b o' (neC b o e hx) e1
  · obtain ⟨m1,e1⟩:=I.base.tbls b ps e
    obtain ⟨m2,e2⟩:=tbls b _ e1
    exact ⟨m1++m2,by rw [e2,Array.append_assoc]⟩
  · obtain ⟨m,hn,hl⟩:=I.loc
    refine ⟨m,ns m hn,fun i x v e1 e2 e3=>?_⟩
    obtain ⟨u,r,l⟩:=hl i x v e1 e2 e3
    refine ⟨u,r,?_⟩
    rcases l with l | ⟨k,c,e,z⟩
    · exact .inl l
    · exact .inr ⟨k,c,e,cellK x c e _ z⟩
  · obtain ⟨v,z⟩:=I.cell x c e
    exact ⟨v,cellK x c e v z⟩
  · obtain ⟨m,⟨o,_,_,ho,_⟩,_⟩:=I.loc
    exact free _ o (fun z=>(hch _ z).2.1 rfl) ho I.free
  · obtain ⟨v,o,ho,hd⟩:=I.cell x c e
    exact free c o (fun z=>(hch c z).2.2.1 x c e rfl) ho (I.freeC x c e)
  · obtain ⟨e,n,ne,nf,d⟩:=I.pin p hp
    have nch:p.1 ∉ ch:=fun z=>(hch p.1 z).2.2.2 p hp rfl
    exact ⟨keep p.1 p.2 ne nf nch e n,free p.1 p.2 nch e n,ne,nf,d⟩
theorem Inv.un {t':Nat} (I:Inv X pins σ H s) (u:Un X.fs [] H H' s.heap h') (hok:HOk X.prog X.w H' h'):Inv X pins σ H' { s with heap:=h',toks:=t' }:=by
  obtain ⟨m,⟨o,es,ep,ho,r⟩,_⟩:=id I.loc
  obtain ⟨sl,hL⟩:=u.any ho I.free (by simp)
  exact I.step (g':=s.gens) (d':=s.drawn) (ch:=[]) (fun _ z=>nomatch z) (fun b o _ hb _ e n=>u.keep b o e n hb (by simp)) (fun b o _ hb _ e n=>u.slot b o e n hb (by simp)) (fun b o _ e n=>u.free b o e n (by simp)) (fun b o _ e=>u.there b o e (by simp)) u.tups u.frzs u.tbls (fun m' hm=>by
    obtain ⟨o',es',ep',ho',r'⟩:=hm
    rw [ho] at ho';cases ho'
    exact ⟨_,es',ep',hL,r'⟩) hok I.bare
theorem Inv.call {g':Array GenState} {t':Nat} {d':Drawn} {ch:List Addr} (I:Inv X pins σ H s) (u:Un (frs X.stack) ch H H' s.heap h') (hok:HOk X.prog X.w H' h') (hg:AllBare g')
    (hch:∀ b∈ch,(b∈X.ex∨X.s₀.heap.objs.size≤b)∧b≠X.env.locals∧(∀ x c,X.env.cells.lookup x=some c→c≠b)∧∀ p∈X.pn++pins,p.1≠b) :
    Inv X pins σ H' { s with heap:=h',gens:=g',drawn:=d',toks:=t' }:=by
  obtain ⟨m,⟨o,es,ep,ho,r⟩,_⟩:=id I.loc
  obtain ⟨sl,hL⟩:=u.any ho I.free fun z=>(hch _ z).2.1 rfl
  exact I.step (ch:=ch) hch (fun b o hL hb hc e n=>u.keep b o e n (fun z=>(List.mem_cons.mp (I.stkSub b z)).elim hL hb) hc) (fun b o _ _ hc e n=>u.any e n hc) (fun b o hc e n=>u.free b o e n hc) (fun b o hc e=>u.there b o e hc) u.tups u.frzs u.tbls (fun m' hm=>by
    obtain ⟨o',es',ep',ho',r'⟩:=hm
    rw [ho] at ho';cases ho'
    exact ⟨_,es',ep',hL,r'⟩) hok hg
theorem Inv.turned {t':Nat} {it:Addr} (I:Inv X pins σ H s) (k:∀ b o,b≠it→s.heap.get? b=some o→h'.get? b=some o) (hn:H it=none) (hL:it≠X.env.locals)
    (h1:it∈X.ex∨X.s₀.heap.objs.size≤it) (h2:∀ x c,X.env.cells.lookup x=some c→c≠it) (h3:∀ p∈X.pn++pins,p.1≠it):Inv X pins σ H { s with heap:=h',toks:=t' }:=by
  have nit:∀ b u,H b=some u→b≠it:=fun b u e z=>by rw [z,hn] at e;cases e
  refine I.step (g':=s.gens) (d':=s.drawn) (ch:=[it]) (fun b hb=>?_) (fun b o _ _ hc e _=>k b o (fun z=>hc (by simp [z])) e) (fun b o _ _ hc e _=>⟨o.slots,k b o (fun z=>hc (by simp [z])) e⟩) (fun _ _ _ _ n=>n)
    (fun b o hc e=>⟨o,k b o (fun z=>hc (by simp [z])) e⟩) (fun _ _ e=>e) (fun _ _ _ e=>e) (fun b ps e=>⟨#[],by rw [e];simp⟩) (fun m hm=>?_) (fun b u e=>?_) I.bare
  · have e:b=it:=by simpa using hb
    subst e
    exact ⟨h1,hL,h2,h3⟩
  · obtain ⟨o,es,ep,ho,r⟩:=hm
    exact ⟨o,es,ep,k _ o (Ne.symm hL) ho,r⟩
  · refine (I.hok b u e).stay (fun c v hc q=>k c v ?_ q) (fun _ q=>q) fun _ _ q=>q
    rcases hc with z | z
    · rw [z];exact nit b u e
    · exact nit c _ z
theorem Inv.tok (I:Inv X pins σ H s) (t:Nat):Inv X pins σ H { s with toks:=t }:=I.un (h':=s.heap) (t':=t) Un.refl I.hok
theorem Inv.kept {t':Nat} (I:Inv X pins σ H s) (k:∀ b u,s.heap.get? b=some u→h'.get? b=some u):Inv X pins σ H { s with heap:=h',toks:=t' }:=I.un (Un.kept k) (I.hok.kept k)
theorem Inv.laid {a:Addr} {o:HO} {t':Nat} (I:Inv X pins σ H s) (k:∀ b u,s.heap.get? b=some u→h'.get? b=some u) (hp:s.heap.objs.size≤a) (new:ObjOk X.prog X.w (upd H a o) h' a o) :
    Inv X pins σ (upd H a o) { s with heap:=h',toks:=t' }:=I.un (Un.laid k hp (I.hok.fresh hp)) (I.hok.laid k hp new)
theorem Inv.write {x e:Addr} {o:HO} {t':Nat} (I:Inv X pins σ H s) (mu:Mut (H x)) (he:e=x∨H e=some (.own x)) (k:∀ b u,b≠e→s.heap.get? b=some u→h'.get? b=some u) (heo:∃ u,h'.get? e=some u)
    (new:ObjOk X.prog X.w (upd H x o) h' x o):Inv X pins σ (upd H x o) { s with heap:=h',toks:=t' }:=I.un (Un.write mu he k heo) (I.hok.write mu he k heo new)
theorem Inv.pins_of {pins':List (Addr × Obj)} (I:Inv X pins σ H s) (h:∀ p∈pins',s.heap.get? p.1=some p.2∧H p.1=none∧p.1≠X.env.locals∧p.1 ∉ X.fs∧∀ v,p.2.data≠.cell v):Inv X pins' σ H s :=
  ⟨I.ok,I.os,I.bare,I.base,I.loc,I.cell,I.free,I.freeC,fun p hp=>(List.mem_append.mp hp).elim (fun z=>I.pin p (List.mem_append_left _ z)) (h p),I.hok,I.len⟩
theorem nodup_ix {N:List Str} (hN:N.Nodup) {i j:Nat} {x:Str} (a:N[i]? = some x) (b:N[j]? = some x):i=j:=by
  obtain ⟨h1,e1⟩:=List.getElem?_eq_some_iff.mp a
  obtain ⟨h2,e2⟩:=List.getElem?_eq_some_iff.mp b
  exact (List.getElem_inj hN).mp (e1.trans e2.symm)
theorem store_ok2 {M:Model} {A:Around} {E:Value→Shared→Prop} {i:Nat} {x:Str} {v:V} {u:Value} {Q:Unit→Shared→Prop} (I:Inv X pins σ H s) (hN:X.N.Nodup) (hi:X.N[i]? = some x) (hx:Loc X.env.scope x) (r:RelV v u)
    (h:∀ s',Inv X pins (σ.set i (some v)) H s'→(∃ a,Heap.SameBut a s.heap s'.heap∧(a=X.env.locals∨X.env.cells.lookup x=some a))→Q () s') (hf:X.fn x=true∨X.env.scope.names.lookup x=some .local:=by first | exact .inl rfl | exact .inr rfl | assumption):wpAny M A (storeName X.env x u) Q E s:=by
  obtain ⟨m,hn,hl⟩:=id I.loc
  have hcls:(X.env.scope.kind == .class || (X.env.scope.kind == .module && X.env.locals != X.env.globals))=false:=by rw [I.ok.kind];rfl
  have hiσ:i < σ.length:=by rw [I.len];exact (List.getElem?_eq_some_iff.mp hi).1
  have cne:=I.cne
  have tracked:∀ {a:Addr} {h':Heap},(∃ o,s.heap.get? a=some o∧H a=none)→Heap.SameBut a s.heap h'→HOk X.prog X.w H h':=fun {a h'} ha hs b ob e=>by
    obtain ⟨_,_,hfree⟩:=ha
    refine (I.hok b ob e).stay (fun c w' hc q=>(hs.2 c ?_).trans q) (fun _ q=>q) fun _ _ q=>q
    rintro rfl
    rcases hc with rfl | hc
    · rw [hfree] at e;cases e
    · rw [hfree] at hc;cases hc
  rcases hx with hk | hk
  · refine wpAny_storeName_local hk hn (fun h' hn' hs=>?_) hcls
    obtain ⟨oL,_,_,hoL,_⟩:=id hn
    refine h _ ⟨I.ok,I.os,I.bare,⟨fun b o e n hb hx=>?_,fun b o e n hb hx=>?_,I.base.free,fun b o e hx=>?_,I.base.tups,I.base.frzs,I.base.tbls⟩,⟨_,hn',fun j y v' e1 e2 e3=>?_⟩,fun y c e=>?_,I.free,I.freeC,fun p hp=>?_,tracked ⟨oL,hoL,I.free⟩ hs,by simpa using I.len⟩ ⟨_,hs,.inl rfl⟩
    · exact (hs.2 b (Nat.ne_of_lt (Nat.lt_of_lt_of_le (Heap.lt_size e) I.ok.above))).trans (I.base.keep b o e n hb hx)
    · obtain ⟨sl,e1⟩:=I.base.slot b o e n hb hx
      exact ⟨sl,(hs.2 b (Nat.ne_of_lt (Nat.lt_of_lt_of_le (Heap.lt_size e) I.ok.above))).trans e1⟩
    · obtain ⟨o',e1⟩:=I.base.there b o e hx
      exact ⟨o',(hs.2 b (Nat.ne_of_lt (Nat.lt_of_lt_of_le (Heap.lt_size e) I.ok.above))).trans e1⟩
    · by_cases hj:j=i
      · subst hj
        rw [hi] at e1;cases e1
        rw [List.getElem?_set_self hiσ] at e2
        cases e2
        exact ⟨u,r,.inl ⟨hk,by simp⟩⟩
      · rw [List.getElem?_set_ne (Ne.symm hj)] at e2
        obtain ⟨u',r',q⟩:=hl j y v' e1 e2 e3
        refine ⟨u',r',?_⟩
        rcases q with ⟨k,e⟩ | ⟨k,c,e,z⟩
        · refine .inl ⟨k,?_⟩
          have:y≠x:=fun e=>hj (nodup_ix hN e1 (e ▸ hi))
          simp [this,e]
        · exact .inr ⟨k,c,e,z.sameBut hs (cne y c e)⟩
    · obtain ⟨w',z⟩:=I.cell y c e
      exact ⟨w',z.sameBut hs (cne y c e)⟩
    · obtain ⟨e,n,ne,nf,d⟩:=I.pin p hp
      exact ⟨(hs.2 p.1 ne).trans e,n,ne,nf,d⟩
  · have hfn:X.fn x=true:=by
      rcases hf with z | z
      · exact z
      · rw [z] at hk;cases hk
    obtain ⟨c,hc⟩:=I.ok.has x (.inl hk)
    obtain ⟨w',z⟩:=I.cell x c hc
    refine wpAny_storeName_cell I.ok.kind hk hc z (fun h' hc' hs=>?_)
    obtain ⟨oc,hoc,hocd⟩:=id z
    refine h { s with heap:=h' } ⟨I.ok,I.os,I.bare,⟨fun b o e n hb hx=>?_,fun b o e n hb hx=>?_,I.base.free,fun b o e hx=>?_,I.base.tups,I.base.frzs,I.base.tbls⟩,⟨m,hn.sameBut hs (Ne.symm (cne x c hc)),fun j y v' e1 e2 e3=>?_⟩,fun y c' e=>?_,I.free,I.freeC,fun p hp=>?_,tracked ⟨oc,hoc,I.freeC x c hc⟩ hs,by simpa using I.len⟩ ⟨c,hs,.inr hc⟩
    · exact (hs.2 b (Nat.ne_of_lt (Nat.lt_of_lt_of_le (Heap.lt_size e) (I.ok.cab x c hfn hc)))).trans (I.base.keep b o e n hb hx)
    · obtain ⟨sl,e1⟩:=I.base.slot b o e n hb hx
      exact ⟨sl,(hs.2 b (Nat.ne_of_lt (Nat.lt_of_lt_of_le (Heap.lt_size e) (I.ok.cab x c hfn hc)))).trans e1⟩
    · obtain ⟨o',e1⟩:=I.base.there b o e hx
      exact ⟨o',(hs.2 b (Nat.ne_of_lt (Nat.lt_of_lt_of_le (Heap.lt_size e) (I.ok.cab x c hfn hc)))).trans e1⟩
    · by_cases hj:j=i
      · subst hj
        rw [hi] at e1;cases e1
        rw [List.getElem?_set_self hiσ] at e2
        cases e2
        exact ⟨u,r,.inr ⟨.inl hk,c,hc,hc'⟩⟩
      · rw [List.getElem?_set_ne (Ne.symm hj)] at e2
        obtain ⟨u',r',q⟩:=hl j y v' e1 e2 e3
        refine ⟨u',r',?_⟩
        rcases q with q | ⟨k,c',e,z'⟩
        · exact .inl q
        · refine .inr ⟨k,c',e,z'.sameBut hs ?_⟩
          rintro rfl
          exact hj (nodup_ix hN e1 (I.ok.inj _ _ _ e hc ▸ hi))
    · by_cases hcc:c'=c
      · subst hcc;exact ⟨_,hc'⟩
      · obtain ⟨w2,z2⟩:=I.cell y c' e
        exact ⟨w2,z2.sameBut hs hcc⟩
    · obtain ⟨e,n,ne,nf,d⟩:=I.pin p hp
      refine ⟨(hs.2 p.1 ?_).trans e,n,ne,nf,d⟩
      intro q
      rw [q,hoc] at e
      have q':oc=p.2:=Option.some.inj e
      exact d w' (by rw [← q'];exact hocd)
theorem store_ok {M:Model} {A:Around} {E:Value→Shared→Prop} {i:Nat} {x:Str} {v:V} {u:Value} {Q:Unit→Shared→Prop} (I:Inv X pins σ H s) (hN:X.N.Nodup) (hi:X.N[i]? = some x) (hx:Loc X.env.scope x) (r:RelV v u)
    (h:∀ s',Inv X pins (σ.set i (some v)) H s'→Q () s') (hf:X.fn x=true∨X.env.scope.names.lookup x=some .local:=by first | exact .inl rfl | exact .inr rfl | assumption):wpAny M A (storeName X.env x u) Q E s :=
  store_ok2 I hN hi hx r (fun s' I' _=>h s' I') hf
theorem Inv.call' {s':Shared} {ch:List Addr} (I:Inv X pins σ H s) (ho:s'.os=s.os) (u:Un (frs X.stack) ch H H' s.heap s'.heap) (hok:HOk X.prog X.w H' s'.heap) (hg:AllBare s'.gens)
    (hch:∀ b∈ch,(b∈X.ex∨X.s₀.heap.objs.size≤b)∧b≠X.env.locals∧(∀ x c,X.env.cells.lookup x=some c→c≠b)∧∀ p∈X.pn++pins,p.1≠b):Inv X pins σ H' s':=by
  obtain ⟨h',g',d',t',o'⟩:=s'
  have e:o'=s.os:=ho
  subst e
  exact I.call (g':=g') (t':=t') (d':=d') u hok hg hch
end
abbrev XK:=Value→Option Addr→Hp→Prop
abbrev St:=List (Option V)
abbrev VK:=V→Hp→Prop
abbrev TE:=St→Hp→VK→Prop
abbrev TT:=St→Hp→(Bool→Hp→Prop)→Prop
abbrev TA:=St→Hp→(List V→Hp→Prop)→Prop
structure Ends where
  nx:St→Hp→Prop
  rt:VK
  bk:St→Hp→Prop:=fun _ _=>False
  ct:St→Hp→Prop:=fun _ _=>False
abbrev TS:=Ends→St→Hp→Prop
def EP (X:Cx) (pins:List (Addr × Obj)) (σ:St) (Q:VK) (u:Value) (s':Shared):Prop:=∃ v H',Inv X pins σ H' s'∧RelV v u∧Q v H'
def TP (X:Cx) (pins:List (Addr × Obj)) (σ:St) (Q:Bool→Hp→Prop) (b:Bool) (s':Shared):Prop:=∃ H',Inv X pins σ H' s'∧Q b H'
def AP (X:Cx) (pins:List (Addr × Obj)) (σ:St) (Q:List V→Hp→Prop) (us:List Value) (s':Shared):Prop:=∃ vs H',Inv X pins σ H' s'∧Vals vs us∧Q vs H'
def SP (X:Cx) (pins:List (Addr × Obj)) (D:Ends) (f:Flow) (s':Shared):Prop :=
  match f with
  | .next=>∃ σ' H',Inv X pins σ' H' s'∧D.nx σ' H'
  | .brk=>∃ σ' H',Inv X pins σ' H' s'∧D.bk σ' H'
  | .cont=>∃ σ' H',Inv X pins σ' H' s'∧D.ct σ' H'
  | .ret u=>∃ v σ' H',Inv X pins σ' H' s'∧RelV v u∧D.rt v H'
def PE (X:Cx) (e:Expr) (t:TE):Prop :=
  ∀ (pins:List (Addr × Obj)) (s:Shared) (σ:St) (H:Hp) (Q:VK),Inv X pins σ H s→t σ H Q→wpAny (model X.prog X.w) X.A (eval e X.env) (EP X pins σ Q) X.xe s
def PT (X:Cx) (e:Expr) (t:TT):Prop :=
  ∀ (pins:List (Addr × Obj)) (s:Shared) (σ:St) (H:Hp) (Q:Bool→Hp→Prop),Inv X pins σ H s→t σ H Q→wpAny (model X.prog X.w) X.A (isTrue e X.env (eval e X.env)) (TP X pins σ Q) X.xe s
def PW (X:Cx) (e:Expr) (t:TT):Prop :=
  ∀ (whole:Sem Value) (pins:List (Addr × Obj)) (s:Shared) (σ:St) (H:Hp) (Q:Bool→Hp→Prop),Inv X pins σ H s→t σ H Q→wpAny (model X.prog X.w) X.A (isTrue e X.env whole) (TP X pins σ Q) X.xe s
theorem PW.pt {X:Cx} {e:Expr} {t:TT} (h:PW X e t):PT X e t:=h _
def PA (X:Cx) (es:List Expr) (t:TA):Prop :=
  ∀ (pos:Pos) (pins:List (Addr × Obj)) (s:Shared) (σ:St) (H:Hp) (Q:List V→Hp→Prop),Inv X pins σ H s→t σ H Q→wpAny (model X.prog X.w) X.A (spliced (backTo pos (starEach es X.env))) (AP X pins σ Q) X.xe s
def PS (X:Cx) (st:Stmt) (t:TS):Prop :=
  ∀ (pins:List (Addr × Obj)) (s:Shared) (σ:St) (H:Hp) (D:Ends),Inv X pins σ H s→t D σ H→wpAny (model X.prog X.w) X.A (exec st X.env) (SP X pins D) X.xe s
def PSs (X:Cx) (st:List Stmt) (t:TS):Prop :=
  ∀ (pins:List (Addr × Obj)) (s:Shared) (σ:St) (H:Hp) (D:Ends),Inv X pins σ H s→t D σ H→wpAny (model X.prog X.w) X.A (execs st X.env) (SP X pins D) X.xe s
theorem thn {α:Type} {t:Sem α} {Q Q':α→Shared→Prop} {M:Model} {A:Around} {E:Value→Shared→Prop} {s:Shared} (h:wpAny M A t Q E s) (hQ:∀ a s,Q a s→Q' a s):wpAny M A t Q' E s:=wpAny_mono h hQ fun _ _ x=>x
end L2
namespace L2
open PySem PySem.Spec PyProof.Rows
section
variable {X:Cx}
def tVar (i:Nat):TE:=fun σ H Q=>∃ v,σ[i]? = some (some v)∧Q v H
def tC (v:V):TE:=fun _ H Q=>Q v H
theorem pe_var {i:Nat} {x:Str} {pos:Pos} (hN:X.N[i]? = some x) (hv:Vis X.env.scope x) (hd:(x == ("__debug__" : Str))=false:=by decide) (hcd:(x == ("__classdict__" : Str))=false:=by decide):PE X (.Name x pos) (tVar i):=by
  intro pins s σ H Q I h
  obtain ⟨v,e,h⟩:=h
  obtain ⟨m,hn,hl⟩:=I.loc
  obtain ⟨u,r,l⟩:=hl i x v hN e hv
  have fin:EP X pins σ Q u s:=⟨v,H,I,r,h⟩
  rcases l with ⟨hk,hm⟩ | ⟨hk,c,hc,hcell⟩
  · exact wpAny_Name (wpAny_loadName_local I.ok.kind hk hn hm fin) hd
  · rcases hk with hk | hk
    · exact wpAny_Name (wpAny_loadName_cell I.ok.kind hk hc hcell fin) hd
    · exact wpAny_Name (wpAny_loadName_free I.ok.kind hk hc hcell fin hcd) hd
theorem pe_int {i j pos}:PE X (.Constant (.int i) j pos) (tC (.int i)):=fun _ _ _ H _ I h=>wpAny_Constant_int ⟨.int i,H,I.tok _,⟨_,rfl⟩,h⟩
theorem pe_bl {b j pos}:PE X (.Constant (.bool b) j pos) (tC (.bl b)):=fun _ _ _ H _ I h=>Constant_bool ⟨.bl b,H,I,rfl,h⟩
theorem pe_str {x j pos}:PE X (.Constant (.str x) j pos) (tC (.str x)):=fun _ _ _ H _ I h=>Calls.Constant_str ⟨.str x,H,I.tok _,⟨_,rfl⟩,h⟩
def Gl (X:Cx) (x:Str):Prop:=X.env.kindOf x=some .globalImplicit
theorem ld_glob {E:Value→Shared→Prop} {pins:List (Addr × Obj)} {s:Shared} {σ:St} {H:Hp} {x:Str} {u:Value} {pos:Pos} {Q:Value→Shared→Prop} (I:Inv X pins σ H s) (hg:Gl X x) (hm:X.mg x=some u) (h:Q u s)
    (hd:(x == ("__debug__" : Str))=false:=by decide):wpAny (model X.prog X.w) X.A (eval (.Name x pos) X.env) Q E s :=
  Calls.Name_function_global I.ok.kind hg (Calls.loadGlobal_global (by rw [I.ok.glob];exact I.mod.glob.keeps I.bk) hm h) hd
theorem ld_blt {E:Value→Shared→Prop} {pins:List (Addr × Obj)} {s:Shared} {σ:St} {H:Hp} {x:Str} {u:Value} {pos:Pos} {Q:Value→Shared→Prop} (I:Inv X pins σ H s) (hg:Gl X x) (hm:X.mg x=none) (hv:bootBuiltins x=some u) (h:Q u s)
    (hn:x≠"__name__":=by decide) (hd:(x == ("__debug__" : Str))=false:=by decide):wpAny (model X.prog X.w) X.A (eval (.Name x pos) X.env) Q E s:=by
  obtain ⟨mb,h1,h2⟩:=I.mod.blt
  exact Calls.Name_function_global I.ok.kind hg (Calls.loadGlobal_builtin (by rw [I.ok.glob];exact I.mod.glob.keeps I.bk) hm (by rw [I.ok.blt];exact h1.keeps I.bk) ((h2 x hn).trans hv) h) hd
theorem pe_glob {x:Str} {v:V} {u:Value} {pos:Pos} (hg:Gl X x) (hm:X.mg x=some u) (r:RelV v u) (hd:(x == ("__debug__" : Str))=false:=by decide):PE X (.Name x pos) (tC v) :=
  fun _ _ _ H _ I h=>ld_glob I hg hm ⟨v,H,I,r,h⟩ hd
theorem pe_bltn {x:Str} {v:V} {u:Value} {pos:Pos} (hg:Gl X x) (hm:X.mg x=none) (hv:bootBuiltins x=some u) (r:RelV v u) (hn:x≠"__name__":=by decide) (hd:(x == ("__debug__" : Str))=false:=by decide):PE X (.Name x pos) (tC v) :=
  fun _ _ _ H _ I h=>ld_blt I hg hm hv ⟨v,H,I,r,h⟩ hn hd
variable {a b:Expr} {ta tb:TE} {pos:Pos}
def tB (t:TE):TT:=fun σ H Q=>t σ H fun x H1=>∃ c,x=.bl c∧Q c H1
theorem pt_val {e:Expr} {t:TE} (h:PE X e t) (he:∀ whole,isTrue e X.env whole=(do let v ← whole;standAt e.pos;holding [v] (truthy v)):=by intro _;rfl):PT X e (tB t):=by
  intro pins s σ H Q I hw
  refine isTrue_plain (thn (h pins s σ H _ I hw) fun v s1 ⟨x,H1,I1,r1,q1⟩=>?_) (he _)
  obtain ⟨d,rfl,q⟩:=q1
  cases r1
  exact wpAny_truthy_bool ⟨H1,I1,q⟩
variable {tA tB':TT} {rest:List Expr}
def tAnd (t u:TT):TT:=fun σ H Q=>t σ H fun c H1=>if c=true then u σ H1 Q else Q false H1
def tOr (t u:TT):TT:=fun σ H Q=>t σ H fun c H1=>if c=true then Q true H1 else u σ H1 Q
def tNot (t:TT):TT:=fun σ H Q=>t σ H fun c H1=>Q (!c) H1
theorem pw_and1 (ha:PT X a tA):PW X (.BoolOp .And [a] pos) tA:=by
  intro wh pins s σ H Q I h
  refine isTrue_and (thn (ha pins s σ H Q I h) fun c s1 e=>?_)
  cases c with
  | true=>exact isTrue_and_nil e
  | false=>exact e
theorem pw_or1 (ha:PT X a tA):PW X (.BoolOp .Or [a] pos) tA:=by
  intro wh pins s σ H Q I h
  refine isTrue_or (thn (ha pins s σ H Q I h) fun c s1 e=>?_)
  cases c with
  | false=>exact isTrue_or_nil e
  | true=>exact e
theorem pw_and (ha:PT X a tA) (hb:PW X (.BoolOp .And (b :: rest) pos) tB'):PW X (.BoolOp .And (a :: b :: rest) pos) (tAnd tA tB'):=by
  intro wh pins s σ H Q I h
  refine isTrue_and (thn (ha pins s σ H _ I h) fun c s1 ⟨H1,I1,q1⟩=>?_)
  cases c with
  | true=>exact hb wh pins s1 σ H1 Q I1 q1
  | false=>exact ⟨H1,I1,q1⟩
theorem pw_or (ha:PT X a tA) (hb:PW X (.BoolOp .Or (b :: rest) pos) tB'):PW X (.BoolOp .Or (a :: b :: rest) pos) (tOr tA tB'):=by
  intro wh pins s σ H Q I h
  refine isTrue_or (thn (ha pins s σ H _ I h) fun c s1 ⟨H1,I1,q1⟩=>?_)
  cases c with
  | true=>exact ⟨H1,I1,q1⟩
  | false=>exact hb wh pins s1 σ H1 Q I1 q1
theorem pt_not (ha:PT X a tA):PT X (.UnaryOp .Not a pos) (tNot tA):=by
  intro pins s σ H Q I h
  exact isTrue_not (ha pins s σ H (fun c H1=>Q (!c) H1) I h)
def tAndV (ta tb:TE):TE:=fun σ H Q=>ta σ H fun x H1=>∃ c,x=.bl c∧if c=true then tb σ H1 Q else Q (.bl false) H1
def tOrV (ta tb:TE):TE:=fun σ H Q=>ta σ H fun x H1=>∃ c,x=.bl c∧if c=true then Q (.bl true) H1 else tb σ H1 Q
def tNotV (ta:TE):TE:=fun σ H Q=>ta σ H fun x H1=>∃ c,x=.bl c∧Q (.bl (!c)) H1
theorem pe_one {op} {t:TE} (h:PE X a t):PE X (.BoolOp op [a] pos) t:=fun pins s σ H Q I hw=>BoolOp_one (h pins s σ H Q I hw)
theorem pe_and (ha:PE X a ta) (hb:PE X (.BoolOp .And (b :: rest) pos) tb):PE X (.BoolOp .And (a :: b :: rest) pos) (tAndV ta tb):=by
  intro pins s σ H Q I h
  refine BoolOp_and (thn (ha pins s σ H _ I h) fun v s1 ⟨x,H1,I1,r1,q1⟩=>?_)
  obtain ⟨c,rfl,q1⟩:=q1
  cases r1
  refine wpAny_truthy_bool ?_
  cases c with
  | true=>exact hb pins s1 σ H1 Q I1 q1
  | false=>exact ⟨.bl false,H1,I1,rfl,q1⟩
theorem pe_or (ha:PE X a ta) (hb:PE X (.BoolOp .Or (b :: rest) pos) tb):PE X (.BoolOp .Or (a :: b :: rest) pos) (tOrV ta tb):=by
  intro pins s σ H Q I h
  refine BoolOp_or (thn (ha pins s σ H _ I h) fun v s1 ⟨x,H1,I1,r1,q1⟩=>?_)
  obtain ⟨c,rfl,q1⟩:=q1
  cases r1
  refine wpAny_truthy_bool ?_
  cases c with
  | false=>exact hb pins s1 σ H1 Q I1 q1
  | true=>exact ⟨.bl true,H1,I1,rfl,q1⟩
theorem pe_not (ha:PE X a ta):PE X (.UnaryOp .Not a pos) (tNotV ta):=by
  intro pins s σ H Q I h
  refine UnaryOp_ (thn (ha pins s σ H _ I h) fun v s1 ⟨x,H1,I1,r1,q1⟩=>?_)
  obtain ⟨c,rfl,q1⟩:=q1
  cases r1
  exact not_of (wpAny_truthy_bool ⟨.bl (!c),H1,I1,rfl,q1⟩)
end
end L2
namespace L2
open PySem PySem.Spec PyProof.Rows
def SqL (K:PySem.W.Frag) (H:Hp) (a:Addr) (xs:List V):Prop :=
  Rd H a (.lst xs) ∨
    ∃ (o:Obj) (its:Array Value) (n:Nat),K.lookup a=some o∧o.cls=.type "list"∧o.dict=none∧o.data=.seq its n∧its.size≤sizeLine∧Vals xs its.toList
def SqT (K:PySem.W.Frag) (H:Hp) (a:Addr) (xs:List V):Prop :=
  Rd H a (.tup xs) ∨
    ∃ (o:Obj) (its:Array Value) (n:Nat),K.lookup a=some o∧o.cls=.type "tuple"∧o.data=.seq its n∧its.size≤sizeLine∧Vals xs its.toList
def absV:Value→Option V
  | .none=>some .non
  | .bool b=>some (.bl b)
  | .int i _=>some (.int i)
  | .str x _=>some (.str x)
  | .bytes b _=>some (.byt b)
  | .float b _=>some (.flt b)
  | .ref a=>some (.ref a)
  | .type n=>some (.ty n)
  | _=>none
theorem RelV.abs {x:V} {u:Value} (r:RelV x u):absV u=some x:=by
  cases x with
  | non=>cases r;rfl
  | bl _=>cases r;rfl
  | int _=>obtain ⟨t,rfl⟩:=r;rfl
  | str _=>obtain ⟨t,rfl⟩:=r;rfl
  | byt _=>obtain ⟨t,rfl⟩:=r;rfl
  | flt _=>obtain ⟨t,rfl⟩:=r;rfl
  | ref _=>cases r;rfl
  | ty _=>cases r;rfl
theorem RelV.inj {x y:V} {u:Value} (r:RelV x u) (q:RelV y u):x=y:=Option.some.inj (r.abs.symm.trans q.abs)
theorem Vals.inj:∀ {xs ys:List V} {us:List Value},Vals xs us→Vals ys us→xs=ys
  | _,_,_,.nil,.nil=>rfl
  | _,_,_,.cons r t,.cons r' t'=>by rw [r.inj r',Vals.inj t t']
section
variable {X:Cx} {pins:List (Addr × Obj)} {σ:St} {H:Hp} {s:Shared} {a:Addr} {xs ys:List V}
theorem SqL.of {K:PySem.W.Frag} (h:H a=some (.lst xs)):SqL K H a xs:=.inl (.inl h)
theorem SqT.of {K:PySem.W.Frag} (h:H a=some (.tup xs)):SqT K H a xs:=.inl (.inl h)
theorem Inv.list (I:Inv X pins σ H s) (h:SqL X.K H a xs):∃ its:List Value,Vals xs its∧PlainL s.heap a its.toArray∧xs.length≤sizeLine:=by
  rcases h with h | ⟨o,its,n,hk,hc,hd,hs,hz,r⟩
  · obtain ⟨z,its,n,r,e⟩:=h.ok I.hok
    exact ⟨its,r,⟨_,n,e,rfl,rfl,rfl⟩,z⟩
  · refine ⟨its.toList,r,⟨o,n,I.kIn a o hk,hc,hd,by simpa using hs⟩,?_⟩
    have e:=r.length
    simp only [Array.length_toList] at e
    omega
theorem Inv.tuple (I:Inv X pins σ H s) (h:SqT X.K H a xs):∃ its:List Value,Vals xs its∧IsTup s.heap a its.toArray∧xs.length≤sizeLine:=by
  rcases h with h | ⟨o,its,n,hk,hc,hs,hz,r⟩
  · obtain ⟨z,its,r,p,_⟩:=h.ok I.hok
    exact ⟨its,r,p,z⟩
  · refine ⟨its.toList,r,⟨o,I.kIn a o hk,hc,n,by simpa using hs⟩,?_⟩
    have e:=r.length
    simp only [Array.length_toList] at e
    omega
theorem Inv.list_inj (I:Inv X pins σ H s) (h:SqL X.K H a xs) (h':SqL X.K H a ys):xs=ys:=by
  obtain ⟨its,r,⟨o,n,e,_,_,d⟩,_⟩:=I.list h
  obtain ⟨its',r',⟨o',n',e',_,_,d'⟩,_⟩:=I.list h'
  rw [e] at e';cases e'
  rw [d] at d'
  injection d' with d1 _
  have:its=its':=by simpa using congrArg Array.toList d1
  subst this
  exact r.inj r'
theorem Inv.tuple_inj (I:Inv X pins σ H s) (h:SqT X.K H a xs) (h':SqT X.K H a ys):xs=ys:=by
  obtain ⟨its,r,⟨o,e,_,n,d⟩,_⟩:=I.tuple h
  obtain ⟨its',r',⟨o',e',_,n',d'⟩,_⟩:=I.tuple h'
  rw [e] at e';cases e'
  rw [d] at d'
  injection d' with d1 _
  have:its=its':=by simpa using congrArg Array.toList d1
  subst this
  exact r.inj r'
end
abbrev Cx.wish (X:Cx) (E:Value→Shared→Prop):Cx:={ X with xe:=E }
abbrev Cx.nox (X:Cx):Cx:=X.wish fun _ _=>False
theorem Cx.Ok.wish {X:Cx} (ok:X.Ok) (E:Value→Shared→Prop):(X.wish E).Ok :=
  ⟨ok.mod,ok.kind,ok.glob,ok.blt,ok.above,ok.inj,ok.has,ok.cab,ok.hd,ok.frames,ok.stk,ok.exf,ok.bs,ok.bsz,ok.noex,ok.exfs,ok.funs,ok.frf⟩
theorem Cx.Ok.unwish {X:Cx} {E:Value→Shared→Prop} (ok:(X.wish E).Ok):X.Ok :=
  ⟨ok.mod,ok.kind,ok.glob,ok.blt,ok.above,ok.inj,ok.has,ok.cab,ok.hd,ok.frames,ok.stk,ok.exf,ok.bs,ok.bsz,ok.noex,ok.exfs,ok.funs,ok.frf⟩
section
variable {X:Cx} {pins:List (Addr × Obj)} {σ:St} {H:Hp} {s:Shared} {E:Value→Shared→Prop}
theorem Inv.wish (I:Inv X pins σ H s) (E:Value→Shared→Prop):Inv (X.wish E) pins σ H s:=⟨I.ok.wish E,I.os,I.bare,I.base,I.loc,I.cell,I.free,I.freeC,I.pin,I.hok,I.len⟩
theorem Inv.unwish (I:Inv (X.wish E) pins σ H s):Inv X pins σ H s:=⟨I.ok.unwish,I.os,I.bare,I.base,I.loc,I.cell,I.free,I.freeC,I.pin,I.hok,I.len⟩
theorem SP.unwish {D:Ends} {f:Flow} {s':Shared} (h:SP (X.wish E) pins D f s'):SP X pins D f s':=by
  cases f with
  | next=>obtain ⟨σ',H',I,q⟩:=h;exact ⟨σ',H',I.unwish,q⟩
  | brk=>obtain ⟨σ',H',I,q⟩:=h;exact ⟨σ',H',I.unwish,q⟩
  | cont=>obtain ⟨σ',H',I,q⟩:=h;exact ⟨σ',H',I.unwish,q⟩
  | ret u=>obtain ⟨v,σ',H',I,r,q⟩:=h;exact ⟨v,σ',H',I.unwish,r,q⟩
theorem PE.nox {e:Expr} {t:TE} (h:PE X.nox e t):PE X e t:=fun pins s σ H Q I hw =>
  wpAny_mono (h pins s σ H Q (I.wish _) hw) (fun _ _ ⟨v,H',I',r,q⟩=>⟨v,H',I'.unwish,r,q⟩) fun _ _ z=>False.elim z
theorem PT.nox {e:Expr} {t:TT} (h:PT X.nox e t):PT X e t:=fun pins s σ H Q I hw =>
  wpAny_mono (h pins s σ H Q (I.wish _) hw) (fun _ _ ⟨H',I',q⟩=>⟨H',I'.unwish,q⟩) fun _ _ z=>False.elim z
theorem PSs.nox {st:List Stmt} {t:TS} (h:PSs X.nox st t):PSs X st t:=fun pins s σ H D I hw =>
  wpAny_mono (h pins s σ H D (I.wish _) hw) (fun _ _ q=>q.unwish) fun _ _ z=>False.elim z
end
section
variable {X:Cx} {st:Stmt} {rest:List Stmt} {t u:TS} {e:Expr} {te:TE} {pos:Pos}
def tNext:TS:=fun D σ H=>D.nx σ H
def tSeq (t u:TS):TS:=fun D σ H=>t { D with nx:=u D } σ H
theorem pss_nil:PSs X [] tNext:=fun _ _ σ H _ I h=>wpAny_execs_nil ⟨σ,H,I,h⟩
theorem pss_cons (h1:PS X st t) (h2:PSs X rest u):PSs X (st :: rest) (tSeq t u):=by
  intro pins s σ H D I h
  refine wpAny_execs_cons (thn (h1 pins s σ H { D with nx:=u D } I h) fun f s1 q=>?_)
  cases f with
  | next =>
    obtain ⟨σ',H',I',q⟩:=q
    exact h2 pins s1 σ' H' D I' q
  | ret v=>exact q
  | brk=>exact q
  | cont=>exact q
theorem pss_one (h1:PS X st t):PSs X [st] t:=by
  intro pins s σ H D I h
  refine wpAny_execs_cons (thn (h1 pins s σ H D I h) fun f s1 q=>?_)
  cases f with
  | next=>exact wpAny_execs_nil q
  | ret v=>exact q
  | brk=>exact q
  | cont=>exact q
theorem Inv.quiet {pins:List (Addr × Obj)} {σ:St} {H:Hp} {s:Shared} (I:Inv X pins σ H s):interactive X.env=false:=by simp [interactive,I.ok.kind]
def tDrop (te:TE):TS:=fun D σ H=>te σ H fun _ H1=>D.nx σ H1
theorem ps_expr (he:PE X e te) (hs:swapsWith e none pos.line X.env=pure false:=by rfl):PS X (.Expr e pos) (tDrop te):=by
  intro pins s σ H D I h
  exact wpAny_Expr_any (thn (he pins s σ H _ I h) fun v s1 ⟨x,H1,I1,r1,q1⟩=>⟨σ,H1,I1,q1⟩) I.quiet hs
def tRet (te:TE):TS:=fun D σ H=>te σ H D.rt
theorem ps_ret (he:PE X e te):PS X (.Return (some e) pos) (tRet te):=by
  intro pins s σ H D I h
  exact wpAny_Return_some (thn (he pins s σ H _ I h) fun v s1 ⟨x,H1,I1,r1,q1⟩=>⟨x,σ,H1,I1,r1,q1⟩)
def tIfS (c:TT) (t u:TS):TS:=fun D σ H=>c σ H fun b H1=>if b=true then t D σ H1 else u D σ H1
theorem ps_if {c:Expr} {a b:List Stmt} {tc:TT} (hc:PT X c tc) (ha:PSs X a t) (hb:PSs X b u):PS X (.If c a b pos) (tIfS tc t u):=by
  intro pins s σ H D I h
  refine wpAny_If (thn (hc pins s σ H _ I h) fun d s1 ⟨H1,I1,q1⟩=>?_)
  cases d with
  | true=>exact ha pins s1 σ H1 D I1 q1
  | false=>exact hb pins s1 σ H1 D I1 q1
def tNever:TS:=fun _ _ _=>False
theorem pss_never {sts:List Stmt}:PSs X sts tNever:=fun _ _ _ _ _ _ h=>h.elim
end
abbrev TG:=V→St→Hp→(St→Hp→Prop)→Prop
abbrev TGs:=List V→St→Hp→(St→Hp→Prop)→Prop
def PG (X:Cx) (target:Expr) (t:TG):Prop :=
  ∀ (pins:List (Addr × Obj)) (s:Shared) (σ:St) (H:Hp) (v:V) (u:Value) (Q:St→Hp→Prop),Inv X pins σ H s→RelV v u→t v σ H Q →
    wpAny (model X.prog X.w) X.A (assign target X.env u) (fun _ s'=>∃ σ' H',Inv X pins σ' H' s'∧Q σ' H') X.xe s
def PGs (X:Cx) (ts:List Expr) (t:TGs):Prop :=
  ∀ (pins:List (Addr × Obj)) (s:Shared) (σ:St) (H:Hp) (vs:List V) (us:List Value) (Q:St→Hp→Prop),Inv X pins σ H s→Vals vs us→t vs σ H Q →
    wpAny (model X.prog X.w) X.A (assignInOrder ((assignEach ts X.env).map (·.2)) us) (fun _ s'=>∃ σ' H',Inv X pins σ' H' s'∧Q σ' H') X.xe s
abbrev TSet:=V→V→V→Hp→(Hp→Prop)→Prop
def PSet (X:Cx) (t:TSet):Prop :=
  ∀ (pins:List (Addr × Obj)) (s:Shared) (σ:St) (H:Hp) (o i v:V) (ov iv u:Value) (Q:Hp→Prop),Inv X pins σ H s→RelV o ov→RelV i iv→RelV v u→t o i v H Q →
    wpAny (model X.prog X.w) X.A (setItem ov iv u) (fun _ s'=>∃ H',Inv X pins σ H' s'∧Q H') X.xe s
abbrev TIp:=V→V→Hp→VK→Prop
def PIp (X:Cx) (op:Operator) (t:TIp):Prop :=
  ∀ (pins:List (Addr × Obj)) (s:Shared) (σ:St) (H:Hp) (x y:V) (v u:Value) (Q:VK),Inv X pins σ H s→RelV x v→RelV y u→t x y H Q →
    wpAny (model X.prog X.w) X.A (inplaceOp op v u) (EP X pins σ Q) X.xe s
section
variable {X:Cx} {pos:Pos}
def gName (i:Nat):TG:=fun v σ H Q=>Q (σ.set i (some v)) H
theorem pg_name {i:Nat} {x:Str} (hN:X.N.Nodup) (hi:X.N[i]? = some x) (hx:Loc X.env.scope x) (hf:X.fn x=true∨X.env.scope.names.lookup x=some .local:=by first | exact .inl rfl | exact .inr rfl | assumption):PG X (.Name x pos) (gName i):=by
  intro pins s σ H v u Q I r h
  exact wpAny_assign_Name (store_ok I hN hi hx r (fun s' I'=>⟨_,H,I',h⟩) hf)
def gNil:TGs:=fun vs σ H Q=>vs=[]∧Q σ H
def gCons (t:TG) (u:TGs):TGs:=fun vs σ H Q=>∃ v r,vs=v :: r∧t v σ H fun σ' H'=>u r σ' H' Q
theorem pgs_nil:PGs X [] gNil:=by
  intro pins s σ H vs us Q I r h
  obtain ⟨e,h⟩:=h
  subst e
  cases r
  exact assignInOrder_nil ⟨σ,H,I,h⟩
theorem pgs_cons {e:Expr} {es:List Expr} {t:TG} {u:TGs} (h1:PG X e t) (h2:PGs X es u)
    (hs:(assignEach (e :: es) X.env).map (·.2)=assign e X.env :: (assignEach es X.env).map (·.2):=by rfl):PGs X (e :: es) (gCons t u):=by
  intro pins s σ H vs us Q I r h
  obtain ⟨v,vr,e1,h⟩:=h
  subst e1
  cases r with
  | cons r rr =>
    rw [hs]
    refine assignInOrder_cons (thn (h1 pins s σ H _ _ _ I r h) fun _ s1 ⟨σ1,H1,I1,q1⟩=>?_)
    exact h2 pins s1 σ1 H1 _ _ Q I1 rr q1
def gTup (K:PySem.W.Frag) (n:Nat) (t:TGs):TG:=fun v σ H Q=>∃ a xs,v=.ref a∧SqT K H a xs∧xs.length=n∧t xs σ H Q
theorem pg_tup {es:List Expr} {k:Nat} {t:TGs} {n:Nat} (hc:X.calm=true) (h:PGs X es t)
    (hn:(assignEach es X.env).length=n:=by rfl) (hst:(assignEach es X.env).findIdx? (·.1)=none:=by rfl):PG X (.Tuple es k pos) (gTup X.K n t):=by
  intro pins s σ H v u Q I r hw
  obtain ⟨a,xs,e1,hq,hl,hw⟩:=hw
  subst e1
  cases r
  obtain ⟨its,rv,ht,hz⟩:=I.tuple hq
  refine assign_Tuple_tuple (I.ok.hd hc) ht (by simp [hn,← hl,rv.length]) hst fun h' hx=>?_
  have I1:Inv X pins σ H { s with heap:=h' }:=I.kept (t':=s.toks) fun b o e=>hx b o (Nat.ne_of_lt (Heap.lt_size e)) e
  exact h pins _ σ H xs _ Q I1 (by simpa using rv) hw
def gSub (to ti:TE) (t:TSet):TG:=fun v σ H Q=>to σ H fun o H1=>ti σ H1 fun i H2=>t o i v H2 fun H3=>Q σ H3
theorem pg_sub {o i:Expr} {to ti:TE} {t:TSet} (ho:PE X o to) (hi:PE X i ti) (hs:PSet X t)
    (ha:∀ v,assign (.Subscript o i pos) X.env v=(do
      let ov ← holding [v] (eval o X.env)
      let iv ← holding [v,ov] (eval i X.env)
      standAt pos
      holding [v,ov,iv] (setItem ov iv v)
      release [v,ov,iv] []):=by intro _;rfl):PG X (.Subscript o i pos) (gSub to ti t):=by
  intro pins s σ H v u Q I r h
  rw [ha]
  refine wpAny_bind (wpAny_holding (thn (ho pins s σ H _ I h) fun ov s1 ⟨x,H1,I1,r1,q1⟩=>?_))
  refine wpAny_bind (wpAny_holding (thn (hi pins s1 σ H1 _ I1 q1) fun iv s2 ⟨y,H2,I2,r2,q2⟩=>?_))
  refine wpAny_bind (wpAny_standAt (wpAny_bind (wpAny_holding (thn (hs pins s2 σ H2 x y v ov iv u _ I2 r1 r2 r q2) fun _ s3 ⟨H3,I3,q3⟩=>?_))))
  exact wpAny_release ⟨σ,H3,I3,q3⟩
def tAsg (te:TE) (g:TG):TS:=fun D σ H=>te σ H fun x H1=>g x σ H1 D.nx
theorem ps_asg {tg e:Expr} {te:TE} {g:TG} (he:PE X e te) (hg:PG X tg g) (hs:swapsWithSole [tg] e pos.line X.env=pure false:=by rfl) (hw:swappedStores [tg] e X.env=pure none:=by rfl)
    (h1:(assignEach [tg] X.env).map (·.2)=[assign tg X.env]:=by rfl):PS X (.Assign [tg] e pos) (tAsg te g):=by
  intro pins s σ H D I h
  refine wpAny_Assign_stores (thn (he pins s σ H _ I h) fun v s1 ⟨x,H1,I1,r1,q1⟩=>?_) hs hw
  rw [h1]
  exact thn (hg pins s1 σ H1 x v _ I1 r1 q1) fun _ s2 q=>q
theorem ps_set {i:Nat} {x:Str} {e:Expr} {te:TE} {pos':Pos} (hN:X.N.Nodup) (hi:X.N[i]? = some x) (hx:Loc X.env.scope x) (he:PE X e te) (hs:swapsWith e (some (.Name x pos')) pos.line X.env=pure false:=by rfl) (hf:X.fn x=true∨X.env.scope.names.lookup x=some .local:=by first | exact .inl rfl | exact .inr rfl | assumption) :
    PS X (.Assign [.Name x pos'] e pos) (tAsg te (gName i)):=by
  intro pins s σ H D I h
  refine wpAny_Assign_Name (thn (he pins s σ H _ I h) fun v s1 ⟨y,H1,I1,r1,q1⟩=>?_) hs
  exact store_ok I1 hN hi hx r1 (fun s2 I2=>⟨_,H1,I2,q1⟩) hf
def tPar (i j:Nat) (ta:TA):TS:=fun D σ H=>ta σ H fun vs H1=>∃ v w,vs=[v,w]∧D.nx ((σ.set i (some v)).set j (some w)) H1
theorem ps_par {i j:Nat} {x y:Str} {a b:Expr} {ta:TA} {px py pt:Pos} {kt k2 pt2} (hc:X.calm=true) (hN:X.N.Nodup) (hi:X.N[i]? = some x) (hj:X.N[j]? = some y) (hij:i≠j)
    (hx:X.env.scope.names.lookup x=some .local) (hy:X.env.scope.names.lookup y=some .local) (ha:PA X [a,b] ta)
    (hw:swappedStores [.Tuple [.Name x px,.Name y py] kt pt] (.Tuple [a,b] k2 pt2) X.env=pure (some [x,y]))
    (hs:swapsWithSole [.Tuple [.Name x px,.Name y py] kt pt] (.Tuple [a,b] k2 pt2) pos.line X.env=pure false:=by rfl) :
    PS X (.Assign [.Tuple [.Name x px,.Name y py] kt pt] (.Tuple [a,b] k2 pt2) pos) (tPar i j ta):=by
  intro pins s σ H D I h
  rw [exec_Assign_arm]
  refine wpAny_bind (wpAny_standAt ?_)
  rw [hs]
  refine wpAny_bind (wpAny_pure ?_)
  rw [if_neg (by decide)]
  refine wpAny_bind (Tuple_ (thn (ha _ pins s σ H _ I h) fun us s1 ⟨vs,H1,I1,r1,q1⟩=>?_))
  obtain ⟨v,w,e1,q1⟩:=q1
  subst e1
  obtain ⟨u1,u2,rfl,rv,rw'⟩:∃ u1 u2,us=[u1,u2]∧RelV v u1∧RelV w u2:=by
    cases r1 with
    | cons p q =>
      cases q with
      | cons p' q' =>
        cases q'
        exact ⟨_,_,rfl,p,p'⟩
  refine wpAny_newObj_type ?_ (by show 2≤sizeLine;decide)
  have I2:Inv X pins σ H1 { s1 with heap:=s1.heap.push { cls:=.type "tuple",data:=.seq [u1,u2].toArray } }:=I1.kept (t':=s1.toks) fun b o e=>Heap.get?_push_of_some _ e
  rw [hw]
  refine wpAny_bind (wpAny_pure ?_)
  show wpAny (model X.prog X.w) X.A (do rule "assign.swapped-stores";let items ← unpackItems (.ref s1.heap.objs.size) 2 none;assignInOrder [fun v=>bindName X.env y v,fun v=>bindName X.env x v] items.reverse;pure Flow.next) _ _ _
  refine wpAny_bind (wpAny_rule (wpAny_bind (unpackItems_tuple (items:=#[u1,u2]) (I.ok.hd hc) (IsTup.new s1.heap _) fun h' hx'=>?_)))
  have I3:=I2.kept (h':=h') (t':=s1.toks) fun b o e=>hx' b o (Nat.ne_of_lt (Heap.lt_size e)) e
  show wpAny _ _ (assignInOrder [fun v=>bindName X.env y v,fun v=>bindName X.env x v] [u2,u1] >>= fun _=>pure Flow.next) _ _ _
  refine wpAny_bind (assignInOrder_cons (wpAny_bindName (store_ok I3 hN hj (.inl hy) rw' (fun s2 I4=>?_) (.inr hy))))
  refine assignInOrder_cons (wpAny_bindName (store_ok I4 hN hi (.inl hx) rv (fun s3 I5=>assignInOrder_nil (wpAny_pure ?_)) (.inr hx)))
  rw [List.set_comm _ _ (Ne.symm hij)] at I5
  exact ⟨_,H1,I5,q1⟩
def tAug (i:Nat) (te:TE) (ti:TIp):TS:=fun D σ H=>∃ x,σ[i]? = some (some x)∧te σ H fun y H1=>ti x y H1 fun z H2=>D.nx (σ.set i (some z)) H2
theorem ps_aug {i:Nat} {x:Str} {e:Expr} {te:TE} {op:Operator} {ti:TIp} {pos':Pos} (hN:X.N.Nodup) (hi:X.N[i]? = some x) (hx:Loc X.env.scope x) (he:PE X e te) (ho:PIp X op ti) (hf:X.fn x=true∨X.env.scope.names.lookup x=some .local:=by first | exact .inl rfl | exact .inr rfl | assumption) :
    PS X (.AugAssign (.Name x pos') op e pos) (tAug i te ti):=by
  intro pins s σ H D I h
  obtain ⟨v,e1,h⟩:=h
  obtain ⟨m,hn,hl⟩:=I.loc
  have vis:Vis X.env.scope x:=by rcases hx with k | k;exact .inl k;exact .inr (.inl k)
  obtain ⟨u,r,l⟩:=hl i x v hi e1 vis
  refine wpAny_AugAssign_Name ?_
  have go:wpAny (model X.prog X.w) X.A (eval e X.env) (fun w s₂=>wpAny (model X.prog X.w) X.A (inplaceOp op u w) (fun r s₃=>wpAny (model X.prog X.w) X.A (storeName X.env x r) (fun _=>SP X pins D .next) X.xe s₃) X.xe s₂) X.xe s:=by
    refine thn (he pins s σ H _ I h) fun w s1 ⟨y,H1,I1,r1,q1⟩=>?_
    refine thn (ho pins s1 σ H1 v y u w _ I1 r r1 q1) fun z s2 ⟨zv,H2,I2,r2,q2⟩=>?_
    exact store_ok I2 hN hi hx r2 (fun s3 I3=>⟨_,H2,I3,q2⟩) hf
  rcases l with ⟨hk,hm⟩ | ⟨hk,c,hc,hcell⟩
  · exact wpAny_loadName_local I.ok.kind hk hn hm go
  · rcases hk with hk | hk
    · exact wpAny_loadName_cell I.ok.kind hk hc hcell go
    · rcases hx with k | k
      · have:X.env.scope.names.lookup x=some .free:=hk
        rw [k] at this;cases this
      · have:X.env.scope.names.lookup x=some .free:=hk
        rw [k] at this;cases this
def ipI (f:Int→Int→Int):TIp:=fun x y H Q=>∃ i j,x=.int i∧y=.int j∧Q (.int (f i j)) H
theorem ip_sub:PIp X .Sub (ipI fun i j=>i - j):=by
  intro pins s σ H x y v u Q I r1 r2 h
  obtain ⟨i,j,e1,e2,q⟩:=h
  subst e1;subst e2
  obtain ⟨t,rfl⟩:=r1
  obtain ⟨t',rfl⟩:=r2
  exact isub_int ⟨.int _,H,I.tok _,⟨_,rfl⟩,q⟩
end
section
variable {X:Cx} {pos:Pos}
def tWhile (c:TT) (tb:TS):TS:=fun D σ H=>∃ W:Nat→St→Hp→Prop,(∃ m,W m σ H)∧∀ m σ H,W m σ H →
  c σ H fun b H1=>if b=true then ∃ N:St→Hp→Prop,(∀ σ' H',N σ' H'→∃ m',m' < m∧W m' σ' H')∧tb { D with nx:=N,ct:=N,bk:=D.nx } σ H1 else D.nx σ H1
theorem ps_while {c:Expr} {body:List Stmt} {tc:TT} {tb:TS} (hp:PassesOwn (model X.prog X.w) X.A X.env X.xe) (hc:PT X c tc) (hb:PSs X body tb):PS X (.While c body [] pos) (tWhile tc tb):=by
  intro pins s σ H D I h
  obtain ⟨W,⟨m0,w0⟩,turn⟩:=h
  refine wpAny_While (codeAny_whileLoop (fun n s'=>∃ σ' H',Inv X pins σ' H' s'∧W n σ' H') ?_ m0 ⟨σ,H,I,w0⟩)
  rintro n s1 ⟨σ1,H1,I1,w1⟩
  refine wpAny_passesOwn hp (thn (hc pins s1 σ1 H1 _ I1 (turn n σ1 H1 w1)) fun b s2 ⟨H2,I2,q2⟩=>?_)
  cases b with
  | true =>
    obtain ⟨N,hN,q2⟩:=q2
    rw [if_pos rfl]
    refine wpAny_passesOwn hp (thn (hb pins s2 σ1 H2 _ I2 q2) fun f s3 q3=>?_)
    cases f with
    | next =>
      obtain ⟨σ3,H3,I3,n3⟩:=q3
      obtain ⟨m',hm,w3⟩:=hN σ3 H3 n3
      exact ⟨m',hm,σ3,H3,I3,w3⟩
    | cont =>
      obtain ⟨σ3,H3,I3,n3⟩:=q3
      obtain ⟨m',hm,w3⟩:=hN σ3 H3 n3
      exact ⟨m',hm,σ3,H3,I3,w3⟩
    | brk=>exact q3
    | ret v=>exact q3
  | false =>
    rw [if_neg Bool.false_ne_true]
    exact wpAny_execs_nil ⟨σ1,H2,I2,q2⟩
end
structure It where
  go:Nat→Hp→Prop
  yld:Nat→Hp→V→Hp→Prop
  stop:Nat→Hp→Prop
def FpOk (X:Cx) (pins:List (Addr × Obj)) (H:Hp) (b:Addr):Prop :=
  H b=none∧b≠X.env.locals∧b ∉ X.fs∧(b∈X.ex∨X.s₀.heap.objs.size≤b)∧(∀ x c,X.env.cells.lookup x=some c→c≠b)∧∀ p∈X.pn++pins,p.1≠b
theorem Inv.fpOk {X:Cx} {pins:List (Addr × Obj)} {σ:St} {H H':Hp} {s:Shared} {b:Addr} (I:Inv X pins σ H s) (hb:s.heap.objs.size≤b) (hn:H' b=none):FpOk X pins H' b:=by
  refine ⟨hn,Nat.ne_of_gt (Nat.lt_of_lt_of_le I.lt hb),I.nofs hb,.inr (Nat.le_trans I.sz hb),fun x c e z=>?_,fun p hp z=>?_⟩
  · obtain ⟨v,q⟩:=I.cell x c e
    exact absurd (Nat.lt_of_lt_of_le q.lt (by rw [z];exact hb)) (Nat.lt_irrefl _)
  · exact absurd (Nat.lt_of_lt_of_le (Heap.lt_size (I.pin p hp).1) (by rw [z];exact hb)) (Nat.lt_irrefl _)
structure Turn (P:Program) (w:World) (K:PySem.W.Frag) (tg:Expr) (J:It) (fp:List Addr) (it:Addr) (tn:Nat→Heap→Prop):Prop where
  mem:it∈fp
  obj:∀ i h,tn i h→∀ b∈fp,∃ o,h.get? b=some o∧∀ v,o.data≠.cell v
  keep:∀ i h h',tn i h→(∀ b∈fp,∀ o,h.get? b=some o→h'.get? b=some o)→tn i h'
  item:∀ (X:Cx),X.prog=P→X.w=w→X.K=K→X.calm=true→∀ (i:Nat) (pins:List (Addr × Obj)) (s:Shared) (σ:St) (H:Hp) (E:Value→Shared→Prop),Inv X pins σ H s→(∀ b∈fp,FpOk X pins H b)→tn i s.heap→J.go i H →
    wpAny (model P w) X.A (pyNext (.ref it)) (fun r s1=>∃ u,r=some u ∧
      wpAny (model P w) X.A (letOwnedTupleGo tg (.ref it) u) (fun _ s2=>∃ x H',Inv X pins σ H' s2∧RelV x u∧J.yld i H x H'∧tn (i+1) s2.heap∧∀ b∈fp,H' b=none) E s1) E s
  done:∀ (X:Cx),X.prog=P→X.w=w→X.K=K→X.calm=true→∀ (i:Nat) (pins:List (Addr × Obj)) (s:Shared) (σ:St) (H:Hp) (E:Value→Shared→Prop),Inv X pins σ H s→(∀ b∈fp,FpOk X pins H b)→tn i s.heap→J.stop i H →
    wpAny (model P w) X.A (pyNext (.ref it)) (fun r s1=>r=none∧Inv X pins σ H s1) E s
  self:∀ (A:Around) (i:Nat) (s:Shared) (Q:Value→Shared→Prop) (E:Value→Shared→Prop),tn i s.heap→Q (.ref it) s→wpAny (model P w) A (pyIter (.ref it)) Q E s
abbrev TI:=St→Hp→(It→Hp→Prop)→Prop
def PIE (X:Cx) (pins:List (Addr × Obj)) (σ:St) (tg:Expr) (R:It→Hp→Prop) (itv:Value) (s2:Shared):Prop :=
  ∃ (it:Addr) (fp:List Addr) (tn:Nat→Heap→Prop) (J:It) (H':Hp),itv=.ref it∧Inv X pins σ H' s2∧Turn X.prog X.w X.K tg J fp it tn∧tn 0 s2.heap∧(∀ b∈fp,FpOk X pins H' b)∧R J H'
def PI (X:Cx) (tg iter:Expr) (wi:TI):Prop :=
  ∀ (pins:List (Addr × Obj)) (s:Shared) (σ:St) (H:Hp) (R:It→Hp→Prop),Inv X pins σ H s→wi σ H R →
    wpAny (model X.prog X.w) X.A (eval iter X.env) (fun v s1=>wpAny (model X.prog X.w) X.A (pyIter v) (PIE X pins σ tg R) X.xe s1) X.xe s
theorem go_of {M:Model} {A:Around} {E:Value→Shared→Prop} {s:Shared} {tg:Expr} {it:Addr} {u:Value} {o:Obj} {n:String} {vs:Array Value} {Q:Unit→Shared→Prop} (ho:s.heap.get? it=some o) (hc:o.cls=.type n) (hd:o.data=.fields vs)
    (hn:["enumerate","zip","dict_itemiterator","dict_reverseitemiterator","odict_iterator","itertools.zip_longest","itertools.pairwise"].contains n=false) (hQ:Q () s):wpAny M A (letOwnedTupleGo tg (.ref it) u) Q E s:=by
  unfold letOwnedTupleGo
  cases tg <;> first
    | exact wpAny_pure hQ
    | (cases u <;> first
        | exact wpAny_pure hQ
        | (refine wpAny_bind (wpAny_load ho ?_)
           rw [hc,hd]
           show wpAny M A (if (["enumerate","zip","dict_itemiterator","dict_reverseitemiterator","odict_iterator","itertools.zip_longest","itertools.pairwise"].contains n && vs[0]? == some (rawInt _))=true then _ else _) Q E s
           rw [if_neg (by intro h;rw [hn,Bool.false_and] at h;cases h)]
           exact wpAny_pure hQ))
def Itl (K:PySem.W.Frag) (a:Addr):It :=
  ⟨fun i H=>∃ xs x,SqL K H a xs∧xs[i]? = some x,fun i H x H'=>H'=H∧∀ xs,SqL K H a xs→xs[i]? = some x,fun i H=>∃ xs,SqL K H a xs∧xs.length≤i⟩
def Itt (K:PySem.W.Frag) (a:Addr):It :=
  ⟨fun i H=>∃ xs x,SqT K H a xs∧xs[i]? = some x,fun i H x H'=>H'=H∧∀ xs,SqT K H a xs→xs[i]? = some x,fun i H=>∃ xs,SqT K H a xs∧xs.length≤i⟩
def Itr (lo:Int) (n:Nat):It:=⟨fun i _=>i < n,fun i H x H'=>H'=H∧x=.int (lo+i),fun i _=>n≤i⟩
theorem turn_list {P:Program} {w:World} {K:PySem.W.Frag} {tg:Expr} (a it:Addr):Turn P w K tg (Itl K a) [it] it (fun i h=>h.IsListIter it a i) where
  mem:=by simp
  obj:=fun i h st b hb=>by
    have e:b=it:=by simpa using hb
    subst e
    obtain ⟨o,e,c,d⟩:=st
    exact ⟨o,e,fun v z=>by rw [d] at z;cases z⟩
  keep:=fun i h h' st k=>st.at fun o e=>k it (by simp) o e
  item:=by
    intro X hP hw hK hc i pins s σ H E I hf st hg
    subst hP hw hK
    obtain ⟨xs,x,hq,hx⟩:=hg
    obtain ⟨its,rv,p,hz⟩:=I.list hq
    obtain ⟨u,hu,ru⟩:=rv.get hx
    obtain ⟨f0,f1,f2,f3,f4,f5⟩:=hf it (by simp)
    refine wpAny_pyNext_list_item st p.isList (x:=u) (by simpa using hu) fun h' st' sb=>?_
    have I1:Inv X pins σ H { s with heap:=h' }:=I.turned (t':=s.toks) (fun b o hb e=>(sb.2 b hb).trans e) f0 f1 f3 f4 f5
    obtain ⟨o,e,c,d⟩:=id st'
    exact ⟨u,rfl,go_of (s:={ s with heap:=h' }) e c d (by decide) ⟨x,H,I1,ru,⟨rfl,fun ys hy=>by rw [I.list_inj hy hq];exact hx⟩,st',fun b hb=>(hf b hb).1⟩⟩
  done:=by
    intro X hP hw hK hc i pins s σ H E I hf st hg
    subst hP hw hK
    obtain ⟨xs,hq,hx⟩:=hg
    obtain ⟨its,rv,p,hz⟩:=I.list hq
    obtain ⟨f0,f1,f2,f3,f4,f5⟩:=hf it (by simp)
    have hl:=rv.length
    exact wpAny_pyNext_list_end (I.ok.hd hc) st p.isList (by simp;omega) fun h' eb=>⟨rfl,I.turned (t':=s.toks) (fun b o hb e=>eb b o hb e) f0 f1 f3 f4 f5⟩
  self:=fun _ _ _ _ _ st h=>wpAny_pyIter_listiter st h
theorem turn_tuple {P:Program} {w:World} {K:PySem.W.Frag} {tg:Expr} (a it:Addr):Turn P w K tg (Itt K a) [it] it (fun i h=>h.IsTupleIter it a i) where
  mem:=by simp
  obj:=fun i h st b hb=>by
    have e:b=it:=by simpa using hb
    subst e
    obtain ⟨o,e,c,d⟩:=st
    exact ⟨o,e,fun v z=>by rw [d] at z;cases z⟩
  keep:=fun i h h' st k=>st.at fun o e=>k it (by simp) o e
  item:=by
    intro X hP hw hK hc i pins s σ H E I hf st hg
    subst hP hw hK
    obtain ⟨xs,x,hq,hx⟩:=hg
    obtain ⟨its,rv,p,hz⟩:=I.tuple hq
    obtain ⟨u,hu,ru⟩:=rv.get hx
    obtain ⟨f0,f1,f2,f3,f4,f5⟩:=hf it (by simp)
    refine wpAny_pyNext_tuple_item st (show s.heap.IsTuple a its.toArray from p) (x:=u) (by simpa using hu) fun h' st' sb=>?_
    have I1:Inv X pins σ H { s with heap:=h' }:=I.turned (t':=s.toks) (fun b o hb e=>(sb.2 b hb).trans e) f0 f1 f3 f4 f5
    obtain ⟨o,e,c,d⟩:=id st'
    exact ⟨u,rfl,go_of (s:={ s with heap:=h' }) e c d (by decide) ⟨x,H,I1,ru,⟨rfl,fun ys hy=>by rw [I.tuple_inj hy hq];exact hx⟩,st',fun b hb=>(hf b hb).1⟩⟩
  done:=by
    intro X hP hw hK hc i pins s σ H E I hf st hg
    subst hP hw hK
    obtain ⟨xs,hq,hx⟩:=hg
    obtain ⟨its,rv,p,hz⟩:=I.tuple hq
    obtain ⟨f0,f1,f2,f3,f4,f5⟩:=hf it (by simp)
    have hl:=rv.length
    exact wpAny_pyNext_tuple_end (I.ok.hd hc) st (show s.heap.IsTuple a its.toArray from p) (by simp;omega) fun h' eb=>⟨rfl,I.turned (t':=s.toks) (fun b o hb e=>eb b o hb e) f0 f1 f3 f4 f5⟩
  self:=fun _ _ _ _ _ st h=>wpAny_pyIter_tupleiter st h
theorem turn_range {P:Program} {w:World} {K:PySem.W.Frag} {tg:Expr} (it:Addr) (lo:Int) (n:Nat):Turn P w K tg (Itr lo n) [it] it (fun i h=>IsRangeIter h it (lo+(i:Nat) * 1) ((n:Int) - (i:Nat)) 1) where
  mem:=by simp
  obj:=fun i h st b hb=>by
    have e:b=it:=by simpa using hb
    subst e
    exact ⟨_,st,fun v z=>by
      have z':Data.fields _=Data.cell v:=z
      cases z'⟩
  keep:=fun i h h' st k=>k it (by simp) _ st
  item:=by
    intro X hP hw hK hc i pins s σ H E I hf st hg
    subst hP hw hK
    obtain ⟨f0,f1,f2,f3,f4,f5⟩:=hf it (by simp)
    have W:=Walks.range (prog:=X.prog) (w:=X.w) (I.ok.hd hc) it lo 1 n
    refine W.item i s _ _ hg st fun v h' tk hv st' kk=>?_
    obtain ⟨t,rfl⟩:=hv
    have I1:Inv X pins σ H { s with heap:=h',toks:=tk }:=I.turned (fun b o hb e=>kk b o (by simpa using hb) e) f0 f1 f3 f4 f5
    refine ⟨_,rfl,go_of (s:={ s with heap:=h',toks:=tk }) (n:="range_iterator") st' rfl rfl (by decide) ⟨.int (lo+i),H,I1,⟨t,?_⟩,⟨rfl,rfl⟩,st',fun b hb=>(hf b hb).1⟩⟩
    rw [Int.mul_one]
  done:=by
    intro X hP hw hK hc i pins s σ H E I hf st hg
    subst hP hw hK
    obtain ⟨f0,f1,f2,f3,f4,f5⟩:=hf it (by simp)
    exact wpAny_pyNext_range_end (I.ok.hd hc) st (by have:n≤i:=hg;omega) fun h' eb=>⟨rfl,I.turned (t':=s.toks) (fun b o hb e=>eb b o hb e) f0 f1 f3 f4 f5⟩
  self:=fun _ _ _ _ _ st h=>wpAny_pyIter_rangeiter st h
end L2
namespace L2
open PySem PySem.Spec PyProof.Rows
section
variable {X:Cx} {tg:Expr}
def iList (K:PySem.W.Frag) (tl:TE):TI:=fun σ H R=>tl σ H fun x H1=>∃ a,x=.ref a∧(∃ xs,SqL K H1 a xs)∧R (Itl K a) H1
def iTup (K:PySem.W.Frag) (tl:TE):TI:=fun σ H R=>tl σ H fun x H1=>∃ a,x=.ref a∧(∃ xs,SqT K H1 a xs)∧R (Itt K a) H1
theorem pi_list {l:Expr} {tl:TE} (hl:PE X l tl):PI X tg l (iList X.K tl):=by
  intro pins s σ H R I h
  refine thn (hl pins s σ H _ I h) fun v s1 ⟨x,H1,I1,r1,q1⟩=>?_
  obtain ⟨a,e,⟨xs,hq⟩,q⟩:=q1
  subst e
  cases r1
  obtain ⟨its,rv,p,hz⟩:=I1.list hq
  refine wpAny_pyIter_list p.isList ?_
  refine ⟨s1.heap.objs.size,[s1.heap.objs.size],_,_,H1,rfl,I1.kept (t':=s1.toks) fun b o e=>Heap.get?_push_of_some _ e,turn_list a _,⟨_,Heap.get?_push_size _ rfl,rfl,rfl⟩,fun b hb=>?_,q⟩
  have e:b=s1.heap.objs.size:=by simpa using hb
  subst e
  exact I1.fpOk (Nat.le_refl _) (I1.hok.fresh (Nat.le_refl _))
theorem pi_tup {l:Expr} {tl:TE} (hl:PE X l tl):PI X tg l (iTup X.K tl):=by
  intro pins s σ H R I h
  refine thn (hl pins s σ H _ I h) fun v s1 ⟨x,H1,I1,r1,q1⟩=>?_
  obtain ⟨a,e,⟨xs,hq⟩,q⟩:=q1
  subst e
  cases r1
  obtain ⟨its,rv,p,hz⟩:=I1.tuple hq
  refine wpAny_pyIter_tuple (show s1.heap.IsTuple a its.toArray from p) ?_
  refine ⟨s1.heap.objs.size,[s1.heap.objs.size],_,_,H1,rfl,I1.kept (t':=s1.toks) fun b o e=>Heap.get?_push_of_some _ e,turn_tuple a _,⟨_,Heap.get?_push_size _ rfl,rfl,rfl⟩,fun b hb=>?_,q⟩
  have e:b=s1.heap.objs.size:=by simpa using hb
  subst e
  exact I1.fpOk (Nat.le_refl _) (I1.hok.fresh (Nat.le_refl _))
theorem range_it {pins:List (Addr × Obj)} {σ:St} {H:Hp} {s:Shared} {R:It→Hp→Prop} {E:Value→Shared→Prop} {lo hi:Int} {t u v:Tok} {tk:Nat} (I:Inv X pins σ H s) (h1:-(2 ^ 62)≤lo) (h2:lo < 2 ^ 62) (h3:-(2 ^ 62)≤hi) (h4:hi < 2 ^ 62)
    (q:R (Itr lo (hi - lo).toNat) H):wpAny (model X.prog X.w) X.A (pyIter (.ref s.heap.objs.size)) (PIE X pins σ tg R) E { s with heap:=s.heap.push { cls:=.type "range",data:=.fields #[.int lo t,.int hi u,.int 1 v] },toks:=tk }:=by
  refine wpAny_pyIter_range (IsRange.new ..) (small_one h1 h2 h3 h4) ?_
  have I1:Inv X pins σ H { s with heap:=s.heap.push { cls:=.type "range",data:=.fields #[.int lo t,.int hi u,.int 1 v] },toks:=tk }:=I.kept fun b o e=>Heap.get?_push_of_some _ e
  refine ⟨(s.heap.push { cls:=.type "range",data:=.fields #[.int lo t,.int hi u,.int 1 v] }).objs.size,[(s.heap.push { cls:=.type "range",data:=.fields #[.int lo t,.int hi u,.int 1 v] }).objs.size],_,_,H,rfl,
    I1.kept (t':=tk) fun b o e=>Heap.get?_push_of_some _ e,turn_range _ lo (hi - lo).toNat,?_,fun b hb=>?_,q⟩
  · have e1:lo+((0:Nat):Int) * 1=lo:=by simp
    have e2:(((hi - lo).toNat:Nat):Int) - ((0:Nat):Int)=Builtin.Range.rangeSize lo hi 1:=by rw [rangeSize_one];split <;> omega
    show IsRangeIter _ _ (lo+((0:Nat):Int) * 1) ((((hi - lo).toNat:Nat):Int) - ((0:Nat):Int)) 1
    rw [e1,e2]
    exact Heap.get?_push_size _ rfl
  · have e:b=(s.heap.push { cls:=.type "range",data:=.fields #[.int lo t,.int hi u,.int 1 v] }).objs.size:=by simpa using hb
    subst e
    exact I1.fpOk (Nat.le_refl _) (I1.hok.fresh (Nat.le_refl _))
def iRng1 (ta:TA):TI:=fun σ H R=>ta σ H fun vs H1=>∃ j:Int,vs=[.int j]∧-(2 ^ 62)≤j∧j < 2 ^ 62∧R (Itr 0 j.toNat) H1
theorem pi_range1 {a:Expr} {ta:TA} {p pos:Pos} (hg:Gl X "range") (hm:X.mg "range" = none) (ha:PA X [a] ta) (hs:starEach [a] X.env=[(false,eval a X.env)]:=by rfl):PI X tg (.Call (.Name "range" p) [a] [] pos) (iRng1 ta):=by
  intro pins s σ H R I h
  refine Call_ (ld_blt I hg hm boot_range (PyProof.Rows.callWith_type1 (thn (ha pos pins s σ H _ I h) fun us s1 ⟨vs,H1,I1,r1,q1⟩=>?_) hs rfl))
  obtain ⟨j,e,q1,q2,q⟩:=q1
  subst e
  cases r1 with
  | cons r rr =>
    cases rr
    obtain ⟨t,rfl⟩:=r
    exact call_range_1 (range_it I1 (by omega) (by omega) q1 q2 (by simpa using q))
def tFor (wi:TI) (g:TG) (tb:TS):TS:=fun D σ H=>wi σ H fun J H1=>∃ W:Nat→Nat→St→Hp→Prop,(∃ m,W 0 m σ H1)∧∀ i m σ H,W i m σ H →
  (J.stop i H∧D.nx σ H)∨(J.go i H∧∃ N:St→Hp→Prop,(∀ σ' H',N σ' H'→∃ m',m' < m∧W (i+1) m' σ' H')∧∀ x H',J.yld i H x H'→g x σ H' fun σ2 H2=>tb { D with nx:=N,ct:=N,bk:=D.nx } σ2 H2)
def pinsAt (fp:List Addr) (h:Heap):List (Addr × Obj):=fp.filterMap fun b=>(h.get? b).map fun o=>(b,o)
theorem mem_pinsAt {fp:List Addr} {h:Heap} {b:Addr} {o:Obj} (hb:b∈fp) (e:h.get? b=some o):(b,o)∈pinsAt fp h:=List.mem_filterMap.mpr ⟨b,hb,by rw [e];rfl⟩
theorem of_pinsAt {fp:List Addr} {h:Heap} {p:Addr × Obj} (hp:p∈pinsAt fp h):p.1∈fp∧h.get? p.1=some p.2:=by
  obtain ⟨b,hb,e⟩:=List.mem_filterMap.mp hp
  cases q:h.get? b with
  | none=>rw [q] at e;cases e
  | some o =>
    rw [q] at e
    have e':(b,o)=p:=Option.some.inj e
    subst e'
    exact ⟨hb,q⟩
theorem Inv.pinned {pins:List (Addr × Obj)} {σ:St} {H:Hp} {s:Shared} {fp:List Addr} (I:Inv X pins σ H s) (hf:∀ b∈fp,FpOk X pins H b) (ho:∀ b∈fp,∃ o,s.heap.get? b=some o∧∀ v,o.data≠.cell v):Inv X (pins++pinsAt fp s.heap) σ H s :=
  I.pins_of fun p hp=>(List.mem_append.mp hp).elim (fun z=>I.pin p (List.mem_append_right _ z)) fun z=>by
    obtain ⟨hb,e⟩:=of_pinsAt z
    obtain ⟨f0,f1,f2,_⟩:=hf p.1 hb
    obtain ⟨o,e',d⟩:=ho p.1 hb
    rw [e] at e';cases e'
    exact ⟨e,f0,f1,f2,d⟩
theorem Inv.unpinned {pins pl:List (Addr × Obj)} {σ:St} {H:Hp} {s:Shared} (I:Inv X (pins++pl) σ H s):Inv X pins σ H s:=I.pins_of fun p hp=>I.pin p (List.mem_append_right _ (List.mem_append_left _ hp))
theorem ps_for {iter:Expr} {body:List Stmt} {wi:TI} {g:TG} {tb:TS} {pos:Pos} (hp:PassesOwn (model X.prog X.w) X.A X.env X.xe) (hc:X.calm=true) (hi:PI X tg iter wi) (hg:PG X tg g) (hb:PSs X body tb)
    (hs:∀ x,foldedSetIterable iter X.env x=pure x:=by intro _;rfl):PS X (.For tg iter body [] pos) (tFor wi g tb):=by
  intro pins s σ H D I h
  refine wpAny_For (thn (hi pins s σ H _ I h) fun v s1 h1=>thn h1 fun itv s2 h2=>?_) hs
  obtain ⟨it,fp,tn,J,H2,e,I2,T,st2,f2,W,⟨m0,w0⟩,turn⟩:=h2
  subst e
  -- what stays true of the iterator's objects through the loop
  have stat:∀ {H':Hp},(∀ b∈fp,H' b=none)→∀ b∈fp,FpOk X pins H' b:=fun hn b hb=>⟨hn b hb,(f2 b hb).2⟩
  refine codeAny_forLoop_any (fun n s'=>∃ i σ' H',Inv X pins σ' H' s'∧tn i s'.heap∧(∀ b∈fp,H' b=none)∧W i n σ' H') ?_ m0 ⟨0,σ,H2,I2,st2,fun b hb=>(f2 b hb).1,w0⟩
  rintro n s3 ⟨i,σ3,H3,I3,st3,fr3,w3⟩
  rcases turn i n σ3 H3 w3 with ⟨stop,qn⟩ | ⟨go,N,hN,step⟩
  · refine wpAny_passesOwn hp (thn (T.done X rfl rfl rfl hc i pins s3 σ3 H3 X.xe I3 (stat fr3) st3 stop) fun r s4 ⟨hr,I4⟩=>?_)
    subst hr
    exact wpAny_execs_nil ⟨σ3,H3,I4,qn⟩
  · refine wpAny_passesOwn hp (thn (T.item X rfl rfl rfl hc i pins s3 σ3 H3 X.xe I3 (stat fr3) st3 go) fun r s4 ⟨u,hr,h4⟩=>?_)
    subst hr
    refine wpAny_passesOwn hp (thn h4 fun _ s5 ⟨x,H5,I5,r5,y5,st5,fr5⟩=>?_)
    have I5':=I5.pinned (stat fr5) (T.obj _ _ st5)
    refine wpAny_passesOwn hp (thn (hg _ s5 σ3 H5 x u _ I5' r5 (step x H5 y5)) fun _ s6 ⟨σ6,H6,I6,q6⟩=>?_)
    refine wpAny_passesOwn hp (thn (hb _ s6 σ6 H6 _ I6 q6) fun f s7 q7=>?_)
    have again:∀ {σ7:St} {H7:Hp},Inv X (pins++pinsAt fp s5.heap) σ7 H7 s7→N σ7 H7→∃ m,m < n∧∃ i σ' H',Inv X pins σ' H' s7∧tn i s7.heap∧(∀ b∈fp,H' b=none)∧W i m σ' H':=fun {σ7 H7} I7 n7=>by
      obtain ⟨m',hm,w7⟩:=hN σ7 H7 n7
      refine ⟨m',hm,i+1,σ7,H7,I7.unpinned,T.keep _ _ _ st5 fun b hb o e=>(I7.pin (b,o) (List.mem_append_right _ (List.mem_append_right _ (mem_pinsAt hb e)))).1,fun b hb=>?_,w7⟩
      obtain ⟨o,e,d⟩:=T.obj _ _ st5 b hb
      exact (I7.pin (b,o) (List.mem_append_right _ (List.mem_append_right _ (mem_pinsAt hb e)))).2.1
    cases f with
    | next=>obtain ⟨σ7,H7,I7,n7⟩:=q7;exact again I7 n7
    | cont=>obtain ⟨σ7,H7,I7,n7⟩:=q7;exact again I7 n7
    | brk=>obtain ⟨σ7,H7,I7,q7⟩:=q7;exact ⟨σ7,H7,I7.unpinned,q7⟩
    | ret v=>obtain ⟨x7,σ7,H7,I7,r7,q7⟩:=q7;exact ⟨x7,σ7,H7,I7.unpinned,r7,q7⟩
end
end L2
namespace L2
open PySem PySem.Spec PyProof.Rows
abbrev R2:=V→V→Hp→VK→Prop
def OpR (X:Cx) (f:Value→Value→Sem Value) (r:R2):Prop :=
  ∀ (pins:List (Addr × Obj)) (s:Shared) (σ:St) (H:Hp) (x y:V) (v u:Value) (Q:VK),Inv X pins σ H s→RelV x v→RelV y u→r x y H Q →
    wpAny (model X.prog X.w) X.A (f v u) (EP X pins σ Q) X.xe s
def UnR (X:Cx) (f:Value→Sem Value) (r:V→Hp→VK→Prop):Prop :=
  ∀ (pins:List (Addr × Obj)) (s:Shared) (σ:St) (H:Hp) (x:V) (v:Value) (Q:VK),Inv X pins σ H s→RelV x v→r x H Q →
    wpAny (model X.prog X.w) X.A (f v) (EP X pins σ Q) X.xe s
def CallR (X:Cx) (f:Value) (r:List V→Hp→VK→Prop):Prop :=
  ∀ (pins:List (Addr × Obj)) (s:Shared) (σ:St) (H:Hp) (xs:List V) (us:List Value) (Q:VK),Inv X pins σ H s→Vals xs us→r xs H Q →
    wpAny (model X.prog X.w) X.A (call f us) (EP X pins σ Q) X.xe s
def tOp (r:R2) (ta tb:TE):TE:=fun σ H Q=>ta σ H fun x H1=>tb σ H1 fun y H2=>r x y H2 Q
def tUn (r:V→Hp→VK→Prop) (ta:TE):TE:=fun σ H Q=>ta σ H fun x H1=>r x H1 Q
def rI (C:Int→Int→Prop) (g:Int→Int→V):R2:=fun x y H Q=>∃ i j,x=.int i∧y=.int j∧C i j∧Q (g i j) H
def rI0 (g:Int→Int→V):R2:=fun x y H Q=>∃ i j,x=.int i∧y=.int j∧Q (g i j) H
def rU (g:Int→V):V→Hp→VK→Prop:=fun x H Q=>∃ i,x=.int i∧Q (g i) H
section
variable {X:Cx} {a b c:Expr} {ta tb tc:TE} {pos:Pos}
theorem binT (ha:PE X a ta) (hb:PE X b tb) {pins:List (Addr × Obj)} {s:Shared} {σ:St} {H:Hp} {R:V→V→Hp→Prop} (I:Inv X pins σ H s)
    (h:ta σ H fun x H1=>tb σ H1 fun y H2=>R x y H2) {Q:Value→Shared→Prop} {f:Value→Value→Sem Value}
    (hf:∀ v u s2 x y H2,Inv X pins σ H2 s2→RelV x v→RelV y u→R x y H2→wpAny (model X.prog X.w) X.A (f v u) Q X.xe s2) :
    wpAny (model X.prog X.w) X.A (eval a X.env) (fun v s₁=>wpAny (model X.prog X.w) X.A (eval b X.env) (fun u s₂=>wpAny (model X.prog X.w) X.A (f v u) Q X.xe s₂) X.xe s₁) X.xe s:=by
  refine thn (ha pins s σ H _ I h) fun v s1 ⟨x,H1,I1,r1,q1⟩=>?_
  refine thn (hb pins s1 σ H1 _ I1 q1) fun u s2 ⟨y,H2,I2,r2,q2⟩=>?_
  exact hf v u s2 x y H2 I2 r1 r2 q2
theorem pe_op {op:Operator} {r:R2} (ho:OpR X (binaryOp op) r) (ha:PE X a ta) (hb:PE X b tb):PE X (.BinOp a op b pos) (tOp r ta tb):=by
  intro pins s σ H Q I h
  exact wpAny_BinOp (binT ha hb I h fun v u s2 x y H2 I2 rx ry q=>ho pins s2 σ H2 x y v u Q I2 rx ry q)
theorem pe_un {op:UnaryOp} {r:V→Hp→VK→Prop} (ho:UnR X (unaryOp op) r) (ha:PE X a ta):PE X (.UnaryOp op a pos) (tUn r ta):=by
  intro pins s σ H Q I h
  exact UnaryOp_ (thn (ha pins s σ H _ I h) fun v s1 ⟨x,H1,I1,r1,q1⟩=>ho pins s1 σ H1 x v Q I1 r1 q1)
theorem opI {f:Value→Value→Sem Value} {C:Int→Int→Prop} {g:Int→Int→Int}
    (rule:∀ (i j:Int) (t u:Tok) (s:Shared) (Q:Value→Shared→Prop) (E:Value→Shared→Prop),C i j→Q (.int (g i j) s.toks) { s with toks:=s.toks+1 }→wpAny (model X.prog X.w) X.A (f (.int i t) (.int j u)) Q E s) :
    OpR X f (rI C fun i j=>.int (g i j)):=by
  intro pins s σ H x y v u Q I rx ry h
  obtain ⟨i,j,rfl,rfl,hc,q⟩:=h
  obtain ⟨t,rfl⟩:=rx
  obtain ⟨t',rfl⟩:=ry
  exact rule i j t t' s _ _ hc ⟨.int (g i j),H,I.tok _,⟨_,rfl⟩,q⟩
theorem opI0 {f:Value→Value→Sem Value} {g:Int→Int→Int}
    (rule:∀ (i j:Int) (t u:Tok) (s:Shared) (Q:Value→Shared→Prop) (E:Value→Shared→Prop),Q (.int (g i j) s.toks) { s with toks:=s.toks+1 }→wpAny (model X.prog X.w) X.A (f (.int i t) (.int j u)) Q E s) :
    OpR X f (rI0 fun i j=>.int (g i j)):=by
  intro pins s σ H x y v u Q I rx ry h
  obtain ⟨i,j,rfl,rfl,q⟩:=h
  obtain ⟨t,rfl⟩:=rx
  obtain ⟨t',rfl⟩:=ry
  exact rule i j t t' s _ _ ⟨.int (g i j),H,I.tok _,⟨_,rfl⟩,q⟩
theorem opB0 {f:Value→Value→Sem Value} {g:Int→Int→Bool}
    (rule:∀ (i j:Int) (t u:Tok) (s:Shared) (Q:Value→Shared→Prop) (E:Value→Shared→Prop),Q (.bool (g i j)) s→wpAny (model X.prog X.w) X.A (f (.int i t) (.int j u)) Q E s) :
    OpR X f (rI0 fun i j=>.bl (g i j)):=by
  intro pins s σ H x y v u Q I rx ry h
  obtain ⟨i,j,rfl,rfl,q⟩:=h
  obtain ⟨t,rfl⟩:=rx
  obtain ⟨t',rfl⟩:=ry
  exact rule i j t t' s _ _ ⟨.bl (g i j),H,I,rfl,q⟩
def CDiv (i j:Int):Prop:=0 < j∧j < 1073741824
def CPow (i j:Int):Prop:=0≤j∧j≤1000000∧i.natAbs < 2 ^ 64
def CMul (i j:Int):Prop:=(-(2 ^ 64) < i∧i < 2 ^ 64)∨(-(2 ^ 64) < j∧j < 2 ^ 64)
theorem CMul.ok {i j:Int} (h:CMul i j):IntMulOk i j:=by
  rcases h with ⟨h1,h2⟩ | ⟨h1,h2⟩
  · exact .of_left (intBits_le_64 h1 h2)
  · exact .of_right (intBits_le_64 h1 h2)
theorem op_add:OpR X (binaryOp .Add) (rI0 fun i j=>.int (i+j)):=opI0 fun _ _ _ _ _ _ _ q=>add_int q
theorem op_sub:OpR X (binaryOp .Sub) (rI0 fun i j=>.int (i - j)):=opI0 fun _ _ _ _ _ _ _ q=>sub_int q
theorem op_mul:OpR X (binaryOp .Mult) (rI CMul fun i j=>.int (i * j)):=opI fun _ _ _ _ _ _ _ hc q=>mul_int q hc.ok
theorem op_fdiv:OpR X (binaryOp .FloorDiv) (rI CDiv fun i j=>.int (i / j)):=opI fun i j _ _ _ _ _ hc q=>by
  have h1:(0:Int) < j:=hc.1
  have h2:j < 1073741824:=hc.2
  exact floordiv_int (by omega) (by rw [Int.fdiv_eq_ediv_of_nonneg i (by omega)];exact q) (.inl (PyProof.noPylong_small (by omega)))
theorem op_mod:OpR X (binaryOp .Mod) (rI (fun _ j=>0 < j) fun i j=>.int (i % j)):=opI fun i j _ _ _ _ _ hc q=>by
  have h1:(0:Int) < j:=hc
  exact mod_int' (by omega) (by rw [Int.fmod_eq_emod_of_nonneg i (by omega)];exact q)
theorem op_pow:OpR X (binaryOp .Pow) (rI CPow fun i j=>.int (i ^ j.toNat)):=opI fun _ _ _ _ _ _ _ hc q=>pow_int_small hc.1 hc.2.1 hc.2.2 q
theorem unI {f:Value→Sem Value} {g:Int→Int}
    (rule:∀ (i:Int) (t:Tok) (s:Shared) (Q:Value→Shared→Prop) (E:Value→Shared→Prop),Q (.int (g i) s.toks) { s with toks:=s.toks+1 }→wpAny (model X.prog X.w) X.A (f (.int i t)) Q E s) :
    UnR X f (rU fun i=>.int (g i)):=by
  intro pins s σ H x v Q I rx h
  obtain ⟨i,rfl,q⟩:=h
  obtain ⟨t,rfl⟩:=rx
  exact rule i t s _ _ ⟨.int (g i),H,I.tok _,⟨_,rfl⟩,q⟩
theorem un_neg:UnR X (unaryOp .USub) (rU fun i=>.int (-i)):=unI fun _ _ _ _ _ q=>neg_int q
end
def scal:V→V→Bool
  | .non,.non=>true | .non,.int _=>true | .int _,.non=>true | .non,.bl _=>true | .bl _,.non=>true | .non,.str _=>true | .str _,.non=>true
  | .int _,.int _=>true | .bl _,.bl _=>true | .str _,.str _=>true | .byt _,.byt _=>true
  | .int _,.str _=>true | .str _,.int _=>true | .bl _,.str _=>true | .str _,.bl _=>true
  | _,_=>false
def rEq:R2:=fun x y H Q=>scal x y=true∧Q (.bl (decide (x=y))) H
def rNe:R2:=fun x y H Q=>scal x y=true∧Q (.bl (!decide (x=y))) H
theorem dec_int {i j:Int}:decide (V.int i=V.int j)=(i == j):=by
  rw [Bool.eq_iff_iff]
  simp
theorem dec_bl {i j:Bool}:decide (V.bl i=V.bl j)=(i == j):=by
  rw [Bool.eq_iff_iff]
  simp
theorem dec_str {i j:Str}:decide (V.str i=V.str j)=(i == j):=by
  rw [Bool.eq_iff_iff]
  simp
theorem dec_byt {i j:Array UInt8}:decide (V.byt i=V.byt j)=(i.toList == j.toList):=by
  rw [Bool.eq_iff_iff]
  cases i
  cases j
  simp
section
variable {X:Cx} {a b c:Expr} {ta tb tc:TE} {pos:Pos}
theorem fin_bl {pins:List (Addr × Obj)} {σ:St} {H:Hp} {s:Shared} {Q:VK} {k k':Bool} (I:Inv X pins σ H s) (q:Q (.bl k) H) (e:k=k'):EP X pins σ Q (.bool k') s:=by
  subst e
  exact ⟨.bl k,H,I,rfl,q⟩
theorem op_eq:OpR X (compareOp .Eq) rEq:=by
  intro pins s σ H x y v u Q I rx ry h
  obtain ⟨hs,q⟩:=h
  cases x with
  | non =>
    cases rx
    cases y with
    | non=>cases ry;exact PySem.EqNone.eq_none_none (fin_bl I q (by simp))
    | bl j=>cases ry;exact PySem.EqNone.eq_none_bool (fin_bl I q (by simp))
    | int j=>obtain ⟨t',rfl⟩:=ry;exact PySem.EqNone.eq_none_int (fin_bl I q (by simp))
    | str j=>obtain ⟨t',rfl⟩:=ry;exact PySem.EqNone.eq_none_str (fin_bl I q (by simp))
    | _=>exact absurd (show false=true from hs) Bool.false_ne_true
  | bl i =>
    cases rx
    cases y with
    | non=>cases ry;exact PySem.EqNone.eq_bool_none (fin_bl I q (by simp))
    | bl j=>cases ry;exact eq_bool (fin_bl I q dec_bl)
    | str j=>obtain ⟨t',rfl⟩:=ry;exact PySem.EqMixed.eq_bool_str (fin_bl I q (by simp))
    | _=>exact absurd (show false=true from hs) Bool.false_ne_true
  | int i =>
    obtain ⟨t,rfl⟩:=rx
    cases y with
    | non=>cases ry;exact PySem.EqNone.eq_int_none (fin_bl I q (by simp))
    | int j=>obtain ⟨t',rfl⟩:=ry;exact eq_int (fin_bl I q dec_int)
    | str j=>obtain ⟨t',rfl⟩:=ry;exact PySem.EqMixed.eq_int_str (fin_bl I q (by simp))
    | _=>exact absurd (show false=true from hs) Bool.false_ne_true
  | str i =>
    obtain ⟨t,rfl⟩:=rx
    cases y with
    | non=>cases ry;exact PySem.EqNone.eq_str_none (fin_bl I q (by simp))
    | bl j=>cases ry;exact PySem.EqMixed.eq_str_bool (fin_bl I q (by simp))
    | int j=>obtain ⟨t',rfl⟩:=ry;exact PySem.EqMixed.eq_str_int (fin_bl I q (by simp))
    | str j=>obtain ⟨t',rfl⟩:=ry;exact eq_str (fin_bl I q dec_str)
    | _=>exact absurd (show false=true from hs) Bool.false_ne_true
  | byt i =>
    obtain ⟨t,rfl⟩:=rx
    cases y with
    | byt j=>obtain ⟨t',rfl⟩:=ry;exact PySem.W.eq_bytes (fin_bl I q dec_byt)
    | _=>exact absurd (show false=true from hs) Bool.false_ne_true
  | _=>cases y <;> exact absurd (show false=true from hs) Bool.false_ne_true
theorem op_ne:OpR X (compareOp .NotEq) rNe:=by
  intro pins s σ H x y v u Q I rx ry h
  obtain ⟨hs,q⟩:=h
  cases x with
  | non =>
    cases rx
    cases y with
    | non=>cases ry;exact PySem.EqNone.ne_none_none (fin_bl I q (by simp))
    | bl j=>cases ry;exact PySem.EqNone.ne_none_bool (fin_bl I q (by simp))
    | int j=>obtain ⟨t',rfl⟩:=ry;exact PySem.EqNone.ne_none_int (fin_bl I q (by simp))
    | str j=>obtain ⟨t',rfl⟩:=ry;exact PySem.EqNone.ne_none_str (fin_bl I q (by simp))
    | _=>exact absurd (show false=true from hs) Bool.false_ne_true
  | bl i =>
    cases rx
    cases y with
    | non=>cases ry;exact PySem.EqNone.ne_bool_none (fin_bl I q (by simp))
    | bl j=>cases ry;exact ne_bool (fin_bl I q (congrArg not dec_bl))
    | str j=>obtain ⟨t',rfl⟩:=ry;exact PySem.EqMixed.ne_bool_str (fin_bl I q (by simp))
    | _=>exact absurd (show false=true from hs) Bool.false_ne_true
  | int i =>
    obtain ⟨t,rfl⟩:=rx
    cases y with
    | non=>cases ry;exact PySem.EqNone.ne_int_none (fin_bl I q (by simp))
    | int j=>obtain ⟨t',rfl⟩:=ry;exact ne_int (fin_bl I q (congrArg not dec_int))
    | str j=>obtain ⟨t',rfl⟩:=ry;exact PySem.EqMixed.ne_int_str (fin_bl I q (by simp))
    | _=>exact absurd (show false=true from hs) Bool.false_ne_true
  | str i =>
    obtain ⟨t,rfl⟩:=rx
    cases y with
    | non=>cases ry;exact PySem.EqNone.ne_str_none (fin_bl I q (by simp))
    | bl j=>cases ry;exact PySem.EqMixed.ne_str_bool (fin_bl I q (by simp))
    | int j=>obtain ⟨t',rfl⟩:=ry;exact PySem.EqMixed.ne_str_int (fin_bl I q (by simp))
    | str j=>obtain ⟨t',rfl⟩:=ry;exact ne_str (fin_bl I q (congrArg not dec_str))
    | _=>exact absurd (show false=true from hs) Bool.false_ne_true
  | byt i =>
    obtain ⟨t,rfl⟩:=rx
    cases y with
    | byt j=>obtain ⟨t',rfl⟩:=ry;exact PySem.W.ne_bytes (fin_bl I q (congrArg not dec_byt))
    | _=>exact absurd (show false=true from hs) Bool.false_ne_true
  | _=>cases y <;> exact absurd (show false=true from hs) Bool.false_ne_true
theorem op_lt:OpR X (compareOp .Lt) (rI0 fun i j=>.bl (decide (i < j))):=opB0 fun _ _ _ _ _ _ _ q=>lt_int q
theorem op_le:OpR X (compareOp .LtE) (rI0 fun i j=>.bl (decide (i≤j))):=opB0 fun _ _ _ _ _ _ _ q=>le_int q
theorem op_gt:OpR X (compareOp .Gt) (rI0 fun i j=>.bl (decide (j < i))):=opB0 fun _ _ _ _ _ _ _ q=>gt_int q
theorem op_ge:OpR X (compareOp .GtE) (rI0 fun i j=>.bl (decide (j≤i))):=opB0 fun _ _ _ _ _ _ _ q=>ge_int q
theorem OpR.or {f:Value→Value→Sem Value} {r r':R2} (h:OpR X f r) (h':OpR X f r'):OpR X f (fun x y H Q=>r x y H Q∨r' x y H Q):=by
  intro pins s σ H x y v u Q I rx ry q
  rcases q with q | q
  · exact h pins s σ H x y v u Q I rx ry q
  · exact h' pins s σ H x y v u Q I rx ry q
theorem nomark (b:Expr) {op:CmpOp} (h:op≠.In:=by decide) (h2:op≠.NotIn:=by decide):behindInMarks op b=false:=by
  have e1:(op == CmpOp.In)=false:=by cases op <;> first | rfl | exact absurd rfl h
  have e2:(op == CmpOp.NotIn)=false:=by cases op <;> first | rfl | exact absurd rfl h2
  cases b <;> simp [behindInMarks,e1,e2]
theorem pe_cmpR {op:CmpOp} {r:R2} (ho:OpR X (compareOp op) r) (ha:PE X a ta) (hb:PE X b tb) (hm:behindInMarks op b=false):PE X (.Compare a [op] [b] pos) (tOp r ta tb):=by
  intro pins s σ H Q I h
  exact wpAny_Compare1 (binT ha hb I h fun v u s2 x y H2 I2 rx ry q=>ho pins s2 σ H2 x y v u Q I2 rx ry q) hm
def tTest (t:TE):TT:=fun σ H Q=>t σ H fun x H'=>∃ k,x=.bl k∧Q k H'
theorem pt_cmpR {op:CmpOp} {r:R2} (ho:OpR X (compareOp op) r) (ha:PE X a ta) (hb:PE X b tb) (hm:behindInMarks op b=false):PT X (.Compare a [op] [b] pos) (tTest (tOp r ta tb)):=by
  intro pins s σ H Q I h
  refine wpAny_isTrue_Compare1 (thn (ha pins s σ H _ I h) fun v s1 ⟨x,H1,I1,r1,q1⟩=>thn (hb pins s1 σ H1 _ I1 q1) fun u s2 ⟨y,H2,I2,r2,q2⟩ =>
    thn (ho pins s2 σ H2 x y v u _ I2 r1 r2 q2) fun c s3 ⟨z,H3,I3,r3,k,e,q3⟩=>?_) hm
  subst e
  cases r3
  exact wpAny_truthy_bool ⟨H3,I3,q3⟩
def tChain (r r':R2) (ta tb tc:TE):TE:=fun σ H Q=>ta σ H fun x H1=>tb σ H1 fun y H2=>r x y H2 fun z H3=>∃ k,z=.bl k ∧
  (if k=true then tc σ H3 fun w' H4=>r' y w' H4 Q else Q (.bl false) H3)
theorem pe_chain {op op':CmpOp} {r r':R2} (ho:OpR X (compareOp op) r) (ho':OpR X (compareOp op') r') (ha:PE X a ta) (hb:PE X b tb) (hc:PE X c tc)
    (hm:lastMarks [op,op'] [b,c]=false:=by with_unfolding_all rfl):PE X (.Compare a [op,op'] [b,c] pos) (tChain r r' ta tb tc):=by
  intro pins s σ H Q I h
  refine Compare_chain (thn (ha pins s σ H _ I h) fun v s1 ⟨x,H1,I1,r1,q1⟩=>chain_link (thn (hb pins s1 σ H1 _ I1 q1) fun u s2 ⟨y,H2,I2,r2,q2⟩ =>
    thn (ho pins s2 σ H2 x y v u _ I2 r1 r2 q2) fun d s3 ⟨z,H3,I3,r3,k,e,q3⟩=>?_)) hm
  subst e
  cases r3
  refine wpAny_truthy_bool ?_
  cases k with
  | false=>exact ite_ff ⟨.bl false,H3,I3,rfl,q3⟩
  | true=>exact ite_tt (chain_last (thn (hc pins s3 σ H3 _ I3 q3) fun w' s4 ⟨z',H4,I4,r4,q4⟩=>ho' pins s4 σ H4 y z' u w' Q I4 r2 r4 q4))
theorem line63:(sizeLine:Nat) < 2 ^ 63:=by rw [sizeLine_eq];decide
theorem op_add_str:OpR X (binaryOp .Add) (fun x y H Q=>∃ i j,x=.str i∧y=.str j∧i.length+j.length≤sizeLine∧Q (.str (i++j)) H):=by
  intro pins s σ H x y v u Q I rx ry h
  obtain ⟨i,j,rfl,rfl,hz,q⟩:=h
  obtain ⟨t,rfl⟩:=rx
  obtain ⟨t',rfl⟩:=ry
  exact add_str (fun t' tk=>⟨.str (i++j),H,I.tok _,⟨_,rfl⟩,q⟩) hz
theorem vals1 {x:V} {us:List Value} (r:Vals [x] us):∃ u,us=[u]∧RelV x u:=by
  cases r with
  | cons r1 r2=>cases r2;exact ⟨_,rfl,r1⟩
theorem vals2 {x y:V} {us:List Value} (r:Vals [x,y] us):∃ u w',us=[u,w']∧RelV x u∧RelV y w':=by
  cases r with
  | cons r1 r2 =>
    cases r2 with
    | cons r3 r4=>cases r4;exact ⟨_,_,rfl,r1,r3⟩
theorem call_int1:CallR X (.type "int") (fun xs H Q=>(∃ i,xs=[.int i]∧Q (.int i) H)∨∃ k,xs=[.bl k]∧Q (.int (if k then 1 else 0)) H):=by
  intro pins s σ H xs us Q I r h
  rcases h with ⟨i,rfl,q⟩ | ⟨k,rfl,q⟩
  · obtain ⟨u,rfl,t,rfl⟩:=vals1 r
    exact call_int_int ⟨.int i,H,I,⟨_,rfl⟩,q⟩
  · obtain ⟨u,rfl,r1⟩:=vals1 r
    cases r1
    exact call_int_bool ⟨.int (if k then 1 else 0),H,I.tok _,⟨_,rfl⟩,q⟩
end
end L2
namespace L2
open PySem PySem.Spec PyProof.Rows
structure ObjM (h:Heap) (x dx C:Addr) (mA:Str→Option Value):Prop where
  obj:h.get? x=some (PySem.W.instObj C dx)
  ns:h.Ns1 dx mA
  ne:dx≠x
theorem lookIn_ns {h:Heap} {dx:Addr} {mA:Str→Option Value} (n:h.Ns1 dx mA):∃ od,h.get? dx=some od∧∀ name,PySem.W.lookIn name od=some (mA name):=by
  obtain ⟨o,es,ep,ho,hd,hk,_,hm⟩:=n
  refine ⟨o,ho,fun name=>?_⟩
  have e:=hm name
  unfold nsFind findBy at e
  rw [← Array.find?_toList] at e
  unfold PySem.W.lookIn
  rw [hd]
  dsimp only
  split
  · rename_i y q
    rw [q] at e
    exact congrArg some e
  · rename_i q
    rw [q] at e
    have a:es.toList.any (·.refKey)=false:=by
      rw [List.any_eq_false]
      intro y hy
      obtain ⟨z,t,hkey⟩:=hk y (Array.mem_toList_iff.mp hy)
      simp [DictEntry.refKey,hkey]
    have a':¬ es.toList.any (·.refKey)=true:=by rw [a];exact Bool.false_ne_true
    rw [if_neg a']
    exact congrArg some e
theorem ObjM.look {h:Heap} {x dx C:Addr} {mA:Str→Option Value} (I:ObjM h x dx C mA):∃ od,PySem.W.InstAt h x (PySem.W.instObj C dx) C (some od)∧∀ name,PySem.W.lookIn name od=some (mA name) :=
  let ⟨od,ho,hl⟩:=lookIn_ns I.ns
  ⟨od,⟨I.obj,rfl,rfl,ho⟩,hl⟩
section
variable {prog:Program} {w:World} {A:Around} {E:Value→Shared→Prop} {s:Shared} {K:PySem.W.Frag} {x dx C f:Addr} {mA:Str→Option Value} {name:Str} {v:Value}
end
theorem RelO.some_of {v:V} {o:Option Value} (r:RelO (some v) o):∃ u,o=some u∧RelV v u:=by
  cases o with
  | none=>exact (show False from r).elim
  | some u=>exact ⟨u,rfl,r⟩
section
variable {P:Program} {w:World} {H H':Hp} {h h':Heap} {a C dx:Addr} {fs fs':List (Str × V)}
theorem ins_get (hok:HOk P w H h) (e:H a=some (.ins C dx fs)):∃ mA,ObjM h a dx C mA∧(∀ f,RelO (fs.lookup f) (mA f))∧PySem.Within mA (fs.map (·.1))∧fs.length≤1000∧H dx=some (.own a):=by
  obtain ⟨d,z,ne,ob,mA,n,r,q⟩:=(show ObjOk P w H h a (.ins C dx fs) from hok a _ e)
  exact ⟨mA,⟨ob,n,ne⟩,r,q,z,d⟩
end
structure Cls (K:PySem.W.Frag) (C:Addr):Prop where
  pg:PySem.W.plainGet K C Str.empty=true
  hd:PySem.W.hasDictIn K C=true
  po:PySem.W.plainOver K C=true
  sa:PySem.W.findIn K (.ref C) "__setattr__" = some (some (.builtin "object.__setattr__"))
theorem Cls.get {K:PySem.W.Frag} {C:Addr} (c:Cls K C) (f:Str):PySem.W.plainGet K C f=true:=c.pg
structure Con (K:PySem.W.Frag) (C:Addr) (f:Str) (v:V) (u:Value):Prop where
  at_:PySem.W.findIn K (.ref C) f=some (some u)
  rel:RelV v u
  get:PySem.W.specialIn K u "__get__" = some none
  cp:PySem.W.copiedNames.contains f=false
structure Meth (K:PySem.W.Frag) (C:Addr) (m:Str) (f:Addr):Prop where
  at_:PySem.W.findIn K (.ref C) m=some (some (.ref f))
  fn:PySem.W.isFn K (.ref f)=true
  kp:PySem.W.keepIn K (.ref f)=true
section
variable {X:Cx} {pins:List (Addr × Obj)} {σ:St} {H:Hp} {s:Shared} {a C dx:Addr} {fs:List (Str × V)} {f:Str} {v:V} {A:Around} {E:Value→Shared→Prop}
theorem Inv.made (I:Inv X pins σ H s):Inv X pins σ (upd (upd H s.heap.objs.size (.own (s.heap.objs.size+1))) (s.heap.objs.size+1) (.ins C s.heap.objs.size []))
    { s with heap:=(s.heap.push PySem.W.emptyDict).push (PySem.W.instObj C s.heap.objs.size) }:=by
  have e1:(s.heap.push PySem.W.emptyDict).get? s.heap.objs.size=some PySem.W.emptyDict:=Heap.get?_push_size s.heap rfl
  have e2:((s.heap.push PySem.W.emptyDict).push (PySem.W.instObj C s.heap.objs.size)).get? (s.heap.objs.size+1)=some (PySem.W.instObj C s.heap.objs.size):=by
    have:=Heap.get?_push_size (s.heap.push PySem.W.emptyDict) (o:=PySem.W.instObj C s.heap.objs.size) rfl
    rwa [Heap.size_push] at this
  have e3:(s.heap.push PySem.W.emptyDict).Ns s.heap.objs.size (fun _=>none):=⟨PySem.W.emptyDict,#[],_,e1,rfl,(fun e he=>absurd he (by simp)),fun _=>rfl⟩
  have I1:=I.laid (a:=s.heap.objs.size) (o:=.own (s.heap.objs.size+1)) (h':=s.heap.push PySem.W.emptyDict) (t':=s.toks) (fun b u q=>Heap.get?_push_of_some _ q) (Nat.le_refl _) ⟨_,e1⟩
  refine I1.laid (a:=s.heap.objs.size+1) (o:=.ins C s.heap.objs.size []) (t':=s.toks) (fun b u q=>Heap.get?_push_of_some _ q) (Nat.le_of_eq (Heap.size_push _ _)) ?_
  have ne:s.heap.objs.size≠s.heap.objs.size+1:=Nat.ne_of_lt (Nat.lt_succ_self _)
  refine ⟨by rw [upd_ne ne,upd_same],Nat.zero_le _,ne,e2,fun _=>none,(Heap.Ns1.of_empty e3).at fun o q=>Heap.get?_push_of_some _ q,fun _=>True.intro,fun y hy=>absurd rfl hy⟩
end
section
variable {X:Cx} {o e value:Expr} {f:Str} {pos pos' tpos:Pos} {ta tv:TE}
end
section
variable {X:Cx} {pins:List (Addr × Obj)} {σ:St} {H:Hp} {s:Shared} {A:Around} {E:Value→Shared→Prop} {Q:Value→Shared→Prop} {c:Value} {b:Bool}
inductive TyOf (K:PySem.W.Frag) (H:Hp):V→Value→Prop where
  | non:TyOf K H .non (.type "NoneType")
  | bl (x:Bool):TyOf K H (.bl x) (.type "bool")
  | int (i:Int):TyOf K H (.int i) (.type "int")
  | str (x:Str):TyOf K H (.str x) (.type "str")
  | flt (x:UInt64):TyOf K H (.flt x) (.type "float")
  | lst {a:Addr} {xs:List V} (e:H a=some (.lst xs)):TyOf K H (.ref a) (.type "list")
  | frz {a:Addr} {o:Obj} {xs:List V} (e:H a=some (.frz o (.lst xs))):TyOf K H (.ref a) (.type "list")
  | tup {a:Addr} {xs:List V} (e:H a=some (.tup xs)):TyOf K H (.ref a) (.type "tuple")
  | dK {a:Addr} {kvs:List (Key × V)} (e:H a=some (.dK kvs)):TyOf K H (.ref a) (.type "dict")
  | dT {a:Addr} {kvs:List (List Key × V)} (e:H a=some (.dT kvs)):TyOf K H (.ref a) (.type "dict")
  | ins {a C dx:Addr} {fs:List (Str × V)} (e:H a=some (.ins C dx fs)) (cl:Cls K C) (ha:PySem.W.findIn K (.ref C) "__class__" = some (some (.builtin "object.__class__")))
      (hn:PySem.W.specialIn K (.builtin "object.__class__") "__get__" = some (some (.builtin "getset_descriptor.__get__"))) (htk:PySem.W.takesIn K (.builtin "object.__class__")=some true)
      (hm:PySem.W.mroIn K C (.type "object")=some true):TyOf K H (.ref a) (.ref C)
theorem isinst_ok {x:V} {u t:Value} (I:Inv X pins σ H s) (rx:RelV x u) (ty:TyOf X.K H x t) (e:PySem.W.kitOne X.K t c=some b) (h:∀ tk,Q (.bool b) { s with toks:=tk }) :
    wpAny (model X.prog X.w) A (call (.builtin "isinstance") [u,c]) Q E s:=by
  cases ty with
  | non=>cases (show u=Value.none from rx);exact PySem.W.kia_one PySem.W.kitx_none I.kIn True.intro e (fun z=>nomatch z) h
  | bl y=>cases (show u=Value.bool y from rx);exact PySem.W.kia_one PySem.W.kitx_bool I.kIn True.intro e (fun z=>nomatch z) h
  | int i=>obtain ⟨t,q⟩:=(show ∃ t,u=Value.int i t from rx);cases q;exact PySem.W.kia_one PySem.W.kitx_int I.kIn True.intro e (fun z=>nomatch z) h
  | str y=>obtain ⟨t,q⟩:=(show ∃ t,u=Value.str y t from rx);cases q;exact PySem.W.kia_one PySem.W.kitx_str I.kIn True.intro e (fun z=>nomatch z) h
  | flt y=>obtain ⟨t,q⟩:=(show ∃ t,u=Value.float y t from rx);cases q;exact PySem.W.kia_one PySem.W.kitx_float I.kIn True.intro e (fun z=>nomatch z) h
  | @lst a xs ea =>
    cases (show u=Value.ref a from rx)
    obtain ⟨_,_,n,_,h1⟩:=(show ObjOk X.prog X.w H s.heap a (.lst xs) from I.hok a _ ea)
    exact PySem.W.kia_one PySem.W.kitx_list I.kIn ⟨_,h1,rfl⟩ e (fun z=>nomatch z) h
  | @frz a ob xs ea =>
    cases (show u=Value.ref a from rx)
    obtain ⟨_,_,_,n,_,h1⟩:=(show ObjOk X.prog X.w H s.heap a (.frz ob (.lst xs)) from I.hok a _ ea)
    exact PySem.W.kia_one PySem.W.kitx_list I.kIn ⟨_,h1,rfl⟩ e (fun z=>nomatch z) h
  | @tup a xs ea =>
    cases (show u=Value.ref a from rx)
    obtain ⟨_,_,_,p,_⟩:=(show ObjOk X.prog X.w H s.heap a (.tup xs) from I.hok a _ ea)
    obtain ⟨o,h1,h2,_⟩:=p
    exact PySem.W.kia_one PySem.W.kitx_tuple I.kIn ⟨o,h1,h2⟩ e (fun z=>nomatch z) h
  | @dK a kvs ea =>
    cases (show u=Value.ref a from rx)
    obtain ⟨_,_,vs,_,p⟩:=(show ObjOk X.prog X.w H s.heap a (.dK kvs) from I.hok a _ ea)
    obtain ⟨o,es,ep,h1,h2,_⟩:=p
    exact PySem.W.kia_one PySem.W.kitx_dict I.kIn ⟨o,h1,h2.1⟩ e (fun z=>nomatch z) h
  | @dT a kvs ea =>
    cases (show u=Value.ref a from rx)
    obtain ⟨_,_,xs,_,o,es,ep,h1,h2,_⟩:=(show ObjOk X.prog X.w H s.heap a (.dT kvs) from I.hok a _ ea)
    exact PySem.W.kia_one PySem.W.kitx_dict I.kIn ⟨o,h1,h2.1⟩ e (fun z=>nomatch z) h
  | @ins a C dx fs ea cl ha hn htk hm =>
    cases (show u=Value.ref a from rx)
    obtain ⟨mA,O,_⟩:=ins_get I.hok ea
    obtain ⟨od,J,_⟩:=O.look
    exact PySem.W.kia_one (PySem.W.kitx_own (cl.get _) cl.hd ha hn htk hm) I.kIn J e (fun z=>nomatch z) h
end
end L2
namespace L2
open PySem PySem.Spec PyProof.Rows
structure Room (k:Nat) (A:Around):Prop where
  hd:A.handled=none
  dp:A.depth+3 * k+5 < recursionLimit
  un:A.units+16 * k+200 < cLine
theorem Room.mono {j k:Nat} {A:Around} (r:Room k A) (h:j≤k):Room j A:=⟨r.hd,by have:=r.dp;omega,by have:=r.un;omega⟩
theorem Room.deeper {k:Nat} {A:Around} (r:Room (k+1) A) (env:Env):Room k (A.deeper env) :=
  ⟨r.hd,by have:=r.dp;show A.depth+1+3 * k+5 < _;omega,by have:=r.un;show A.units+3+16 * k+200 < _;omega⟩
theorem Room.in1 {k:Nat} {A:Around} (r:Room (k+1) A):Room k A.in1 :=
  ⟨r.hd,by have:=r.dp;show A.depth+3 * k+5 < _;omega,by have:=r.un;show A.units+1+16 * k+200 < _;omega⟩
theorem Room.depth {k:Nat} {A:Around} (r:Room k A):A.depth < recursionLimit:=by have:=r.dp;omega
theorem Room.units {k:Nat} {A:Around} (r:Room k A):A.units+64 < cLine:=by have:=r.un;omega
def tNil:TA:=fun _ H Q=>Q [] H
def tCons (ta:TE) (tr:TA):TA:=fun σ H Q=>ta σ H fun x H1=>tr σ H1 fun xs H2=>Q (x :: xs) H2
section
variable {X:Cx} {e:Expr} {es:List Expr} {te:TE} {t:TA} {pos:Pos}
theorem pa_nil:PA X [] tNil:=fun _ _ _ _ H Q I h=>Calls.spliced_nil ⟨[],H,I,.nil,h⟩
theorem pa_cons (ha:PE X e te) (hr:PA X es t) (hs:starEach (e :: es) X.env=(false,eval e X.env) :: starEach es X.env:=by rfl):PA X (e :: es) (tCons te t):=by
  intro pos pins s σ H Q I h
  rw [hs]
  show wpAny _ _ (spliced ((false,eval e X.env) :: backTo pos (starEach es X.env))) _ _ s
  refine Calls.spliced_cons (thn (ha pins s σ H _ I h) fun u s1 ⟨x,H1,I1,r1,q1⟩=>?_)
  exact thn (hr pos pins s1 σ H1 _ I1 q1) fun us s2 ⟨xs,H2,I2,r2,q2⟩=>⟨x :: xs,H2,I2,.cons r1 r2,q2⟩
def tTup (t:TA):TE:=fun σ H Q=>t σ H fun xs H1=>xs.length≤sizeLine∧∀ p,H1 p=none→Q (.ref p) (upd H1 p (.tup xs))
def tLst (t:TA):TE:=fun σ H Q=>t σ H fun xs H1=>xs.length≤sizeLine∧∀ p,H1 p=none→Q (.ref p) (upd H1 p (.lst xs))
theorem pe_tup {x1} (h:PA X es t):PE X (.Tuple es x1 pos) (tTup t):=by
  intro pins s σ H Q I hq
  refine wpAny_Tuple_spliced (thn (h pos pins s σ H _ I hq) fun us s1 ⟨xs,H1,I1,r,z,q⟩=>⟨by rw [← r.length];exact z,?_⟩)
  have hf:H1 s1.heap.objs.size=none:=I1.hok.fresh (Nat.le_refl _)
  refine ⟨.ref s1.heap.objs.size,upd H1 s1.heap.objs.size (.tup xs),I1.laid (t':=s1.toks) (fun b u e=>Heap.get?_push_of_some _ e) (Nat.le_refl _) ?_,rfl,q _ hf⟩
  exact ⟨z,us,r,⟨_,Heap.get?_push_size _ rfl,rfl,_,rfl⟩,_,Heap.get?_push_size _ rfl,rfl⟩
theorem pe_lst (h:PA X es t):PE X (.List es pos) (tLst t):=by
  intro pins s σ H Q I hq
  refine wpAny_List_spliced (thn (h pos pins s σ H _ I hq) fun us s1 ⟨xs,H1,I1,r,z,q⟩=>⟨by rw [← r.length];exact z,?_⟩)
  have hf:H1 s1.heap.objs.size=none:=I1.hok.fresh (Nat.le_refl _)
  refine ⟨.ref s1.heap.objs.size,upd H1 s1.heap.objs.size (.lst xs),I1.laid (t':=s1.toks) (fun b u e=>Heap.get?_push_of_some _ e) (Nat.le_refl _) ?_,rfl,q _ hf⟩
  exact ⟨z,us,0,r,Heap.get?_push_size _ rfl⟩
end
abbrev Sp:=List V→Hp→VK→XK→Prop
abbrev CXT:=List Env→Hp→Shared→XK→Value→Shared→Prop
structure Env0 (P:Program) (w:World) (K:PySem.W.Frag) (mg:Str→Option Value) (base:Heap) (A:Around) (outer:List Env) (s:Shared) (H:Hp):Prop where
  frames:A.frames=some outer
  mod:Mod K mg base
  bs:∀ b o,base.get? b=some o→s.heap.get? b=some o∧H b=none
  bsz:base.objs.size≤s.heap.objs.size
  funs:s.heap.FunFrames base outer
  frf:∀ b∈frs outer,H b=none
  hok:HOk P w H s.heap
  bare:AllBare s.gens
def CE (outer:List Env) (P:Program) (w:World) (H:Hp) (s:Shared) (Q:VK) (u:Value) (s':Shared):Prop :=
  ∃ v H',s'.os=s.os∧AllBare s'.gens∧Un (frs outer) [] H H' s.heap s'.heap∧HOk P w H' s'.heap∧RelV v u∧Q v H'
def CR (CX:CXT) (outer:List Env) (P:Program) (w:World) (H:Hp) (s:Shared) (Q:VK) (E:XK) (r:Result) (s':Shared):Prop :=
  match r with
  | .ok (.ret u)=>CE outer P w H s Q u s'
  | .ok _=>False
  | .error e=>CX outer H s E e s'
structure FnOk (P:Program) (w:World) (K:PySem.W.Frag) (mg:Str→Option Value) (base:Heap) (CX:CXT) (k:Nat) (f:Addr) (fd:FuncData) (ps:List Str) (sp:Sp):Prop where
  len:∀ vs H Q E,sp vs H Q E→vs.length=ps.length
  run:∀ (A:Around) (outer:List Env) (s:Shared) (H:Hp) (args:Args) (us:List Value) (vs:List V) (Q:VK) (E:XK),Room k A→Env0 P w K mg base A outer s H→BindsTo s fd args (ps.zip us)→Vals vs us→sp vs H Q E →
    codeAny (model P w) A (.call (.ref f) args) (CR CX outer P w H s Q E) s
theorem FnOk.mono {P:Program} {w:World} {K:PySem.W.Frag} {mg:Str→Option Value} {base:Heap} {CX:CXT} {j k:Nat} {f:Addr} {fd:FuncData} {ps:List Str} {sp:Sp} (F:FnOk P w K mg base CX j f fd ps sp) (h:j≤k) :
    FnOk P w K mg base CX k f fd ps sp:=⟨F.len,fun A outer s H args us vs Q E hr=>F.run A outer s H args us vs Q E (hr.mono h)⟩
theorem FnOk.imp {P:Program} {w:World} {K:PySem.W.Frag} {mg:Str→Option Value} {base:Heap} {CX:CXT} {k:Nat} {f:Addr} {fd:FuncData} {ps:List Str} {sp sp':Sp} (F:FnOk P w K mg base CX k f fd ps sp)
    (h:∀ vs H Q E,sp' vs H Q E→sp vs H Q E):FnOk P w K mg base CX k f fd ps sp' :=
  ⟨fun vs H Q E q=>F.len vs H Q E (h _ _ _ _ q),fun A outer s H args us vs Q E hr he hb hv hs=>F.run A outer s H args us vs Q E hr he hb hv (h _ _ _ _ hs)⟩
theorem Env0.in1 {P:Program} {w:World} {K:PySem.W.Frag} {mg:Str→Option Value} {base:Heap} {A:Around} {outer:List Env} {s:Shared} {H:Hp} (e:Env0 P w K mg base A outer s H) :
    Env0 P w K mg base A.in1 outer s H:=⟨e.frames,e.mod,e.bs,e.bsz,e.funs,e.frf,e.hok,e.bare⟩
section
variable {X:Cx} {pins:List (Addr × Obj)} {σ:St} {H:Hp} {s s':Shared}
theorem Inv.env0 (I:Inv X pins σ H s):Env0 X.prog X.w X.K X.mg X.base X.A X.stack s H :=
  ⟨I.ok.frames,I.ok.mod,I.bs,Nat.le_trans I.ok.bsz I.sz,I.stack,I.stkFree,I.hok,I.bare⟩
theorem Inv.after {Q:VK} {u:Value} (I:Inv X pins σ H s) (h:CE X.stack X.prog X.w H s Q u s'):EP X pins σ Q u s':=by
  obtain ⟨v,H',os,bare,un,hok,r,q⟩:=h
  obtain ⟨hh,g,d,t,os'⟩:=s'
  obtain rfl:os'=s.os:=os
  exact ⟨v,H',I.call (h':=hh) (g':=g) (d':=d) (t':=t) (ch:=[]) un hok bare (fun b z=>absurd z (by simp)),r,q⟩
end
def tCall (sp:Sp) (dvs:List V) (E:XK) (t:TA):TE:=fun σ H Q=>t σ H fun vs H1=>sp (vs++dvs) H1 Q E
def Binds (K:PySem.W.Frag) (fd:FuncData) (ps:List Str) (ds:List Value):Prop :=
  ∀ (s:Shared) (us:List Value),K.In s.heap→(us++ds).length=ps.length→BindsTo s fd ⟨us,[]⟩ (ps.zip (us++ds))
theorem Binds.all {K:PySem.W.Frag} {fd:FuncData} {ps:List Str} (h:∀ us:List Value,us.length=ps.length→bindArgs fd ⟨us,[]⟩=pure (ps.zip us)):Binds K fd ps []:=fun s us _ hl=>by
  rw [List.append_nil] at hl ⊢
  exact .of_eq (h us hl)
def Passes (CX:CXT) (X:Cx) (E:XK):Prop:=∀ (pins:List (Addr × Obj)) (σ:St) (H:Hp) (s:Shared) (e:Value) (s':Shared),Inv X pins σ H s→CX X.stack H s E e s'→X.xe e s'
section
variable {X:Cx} {CX:CXT} {k:Nat} {f C:Addr} {fd:FuncData} {ps:List Str} {sp:Sp} {dvs:List V} {ds:List Value} {E:XK} {x m:Str} {p pos apos:Pos} {e o:Expr} {es:List Expr} {ta:TE} {t:TA}
theorem run_fn {pins:List (Addr × Obj)} {σ:St} {H:Hp} {s:Shared} {Q:VK} {us:List Value} {vs:List V} (F:FnOk X.prog X.w X.K X.mg X.base CX k f fd ps sp) (hr:Room k X.A) (hb:Binds X.K fd ps ds) (hd:Vals dvs ds) (hx:Passes CX X E)
    (I:Inv X pins σ H s) (r:Vals vs us) (h:sp (vs++dvs) H Q E):wpAny (model X.prog X.w) X.A (call (.ref f) us) (EP X pins σ Q) X.xe s:=by
  have r2:Vals (vs++dvs) (us++ds):=r.append hd
  have hl:(us++ds).length=ps.length:=by rw [← r2.length];exact F.len _ _ _ _ h
  refine wpAny_call (codeAny_mono (F.run X.A X.stack s H ⟨us,[]⟩ (us++ds) (vs++dvs) Q E hr I.env0 (hb s us I.kIn hl) r2 h) fun r s' hq=>?_)
  cases r with
  | error e=>exact hx pins σ H s e s' I hq
  | ok fl =>
    cases fl with
    | ret u=>exact I.after hq
    | next=>exact False.elim hq
    | brk=>exact False.elim hq
    | cont=>exact False.elim hq
theorem pe_call (F:FnOk X.prog X.w X.K X.mg X.base CX k f fd ps sp) (hr:Room k X.A) (hg:Gl X x) (hm:X.mg x=some (.ref f)) (hk:PySem.W.keepIn X.K (.ref f)=true) (hb:Binds X.K fd ps ds) (hd:Vals dvs ds) (hx:Passes CX X E)
    (ha:PA X (e :: es) t) (hdb:(x == ("__debug__" : Str))=false:=by decide) (he:starEach (e :: es) X.env=(false,eval e X.env) :: starEach es X.env:=by rfl) (hpl:(backTo pos (starEach es X.env)).any (·.1)=false:=by rfl) :
    PE X (.Call (.Name x p) (e :: es) [] pos) (tCall sp dvs E t):=by
  intro pins s σ H Q I h
  refine wpAny_Call_Name_kw (ld_glob I hg hm ?_ hdb)
  refine PySem.W.callWith_K (h₀:=X.base) I.ok.mod.kin hk (thn (ha pos pins s σ H _ I h) fun us s1 ⟨vs,H1,I1,r,q⟩=>⟨I1.kIn,?_⟩) he hpl
  exact run_fn F hr hb hd hx I1 r q
structure Mk (K:PySem.W.Frag) (C f:Addr):Prop where
  makes:PySem.W.makesIn K C=true
  init:PySem.W.findIn K (.ref C) "__init__" = some (some (.ref f))
  fn:PySem.W.isFn K (.ref f)=true
  kp:PySem.W.keepIn K (.ref C)=true
end
section
variable {X:Cx} {CX:CXT} {k:Nat} {f C:Addr} {fd:FuncData} {ps ks:List Str} {sp:Sp} {E:XK} {x m:Str} {p pos apos kpos:Pos} {e o:Expr} {es:List Expr} {kws:List Keyword} {te ta:TE} {t tk:TA} {nm:Option Str}
structure KBinds (K:PySem.W.Frag) (fd:FuncData) (ps ks:List Str) (g:List Value→List Value→List Value) (gV:List V→List V→List V):Prop where
  to:∀ (s:Shared) (us ws:List Value),K.In s.heap→(g us ws).length=ps.length→BindsTo s fd ⟨us,ks.zip ws⟩ (ps.zip (g us ws))
  rel:∀ {vs:List V} {us:List Value} {zs:List V} {ws:List Value},Vals vs us→Vals zs ws→Vals (gV vs zs) (g us ws)
variable {g:List Value→List Value→List Value} {gV:List V→List V→List V}
end
structure FnScope (N P:List Str) (sc:Scope):Prop where
  kind:sc.kind=.function
  co:sc.isCoroutine=false
  gen:sc.isGenerator=false
  nd:N.Nodup
  pre:N.take P.length=P
  par:∀ x∈P,sc.names.lookup x=some .local∨sc.names.lookup x=some .cell
  nofree:∀ y∈sc.names,y.2≠.free
theorem bindL_out {kindOf:Str→Option NameKind} {x:Str}:∀ {binds:List (Str × Value)} {m:Str→Option Value},(∀ v,(x,v) ∉ binds)→bindL kindOf binds m x=m x
  | [],_,_=>rfl
  | (n,v) :: r,m,h=>by
    unfold bindL
    rw [bindL_out fun w hw=>h w (List.mem_cons_of_mem _ hw)]
    split
    · have:x≠n:=by rintro rfl;exact h v List.mem_cons_self
      simp [this]
    · rfl
theorem bindC_out {kindOf:Str→Option NameKind} {x:Str}:∀ {binds:List (Str × Value)} {m:Str→Option Value},(∀ v,(x,v) ∉ binds)→bindC kindOf binds m x=m x
  | [],_,_=>rfl
  | (n,v) :: r,m,h=>by
    unfold bindC
    rw [bindC_out fun w hw=>h w (List.mem_cons_of_mem _ hw)]
    split
    · rfl
    · have:x≠n:=by rintro rfl;exact h v List.mem_cons_self
      simp [this]
theorem bindL_get {kindOf:Str→Option NameKind} {x:Str} {v:Value}:∀ {P:List Str} {vs:List Value} {i:Nat} {m:Str→Option Value},P.Nodup→P[i]? = some x→vs[i]? = some v→kindOf x=some .local →
    bindL kindOf (P.zip vs) m x=some v
  | [],_,_,_,_,h,_,_=>by simp at h
  | _ :: _,[],_,_,_,_,h,_=>by simp at h
  | p :: P,w :: vs,0,m,nd,h1,h2,hk=>by
    simp at h1 h2;subst h1;subst h2
    show bindL kindOf ((p,w) :: P.zip vs) m p=_
    unfold bindL
    rw [bindL_out fun v hv=>(List.nodup_cons.mp nd).1 (List.of_mem_zip hv).1,if_pos hk]
    simp
  | p :: P,w :: vs,i+1,m,nd,h1,h2,hk=>by
    show bindL kindOf ((p,w) :: P.zip vs) m x=_
    unfold bindL
    exact bindL_get (i:=i) (List.nodup_cons.mp nd).2 (by simpa using h1) (by simpa using h2) hk
theorem bindC_get {kindOf:Str→Option NameKind} {x:Str} {v:Value}:∀ {P:List Str} {vs:List Value} {i:Nat} {m:Str→Option Value},P.Nodup→P[i]? = some x→vs[i]? = some v→kindOf x≠some .local →
    bindC kindOf (P.zip vs) m x=some v
  | [],_,_,_,_,h,_,_=>by simp at h
  | _ :: _,[],_,_,_,_,h,_=>by simp at h
  | p :: P,w :: vs,0,m,nd,h1,h2,hk=>by
    simp at h1 h2;subst h1;subst h2
    show bindC kindOf ((p,w) :: P.zip vs) m p=_
    unfold bindC
    rw [bindC_out fun v hv=>(List.nodup_cons.mp nd).1 (List.of_mem_zip hv).1,if_neg hk]
    simp
  | p :: P,w :: vs,i+1,m,nd,h1,h2,hk=>by
    show bindC kindOf ((p,w) :: P.zip vs) m x=_
    unfold bindC
    exact bindC_get (i:=i) (List.nodup_cons.mp nd).2 (by simpa using h1) (by simpa using h2) hk
def start (N:List Str) (vs:List V):St:=vs.map some++List.replicate (N.length - vs.length) none
def cxOf (CX:CXT) (P:Program) (w:World) (K:PySem.W.Frag) (mg:Str→Option Value) (base:Heap) (N:List Str) (qual:Str) (scope:Scope) (f:Addr) (cd:Value) (A:Around) (outer:List Env) (s:Shared) (H:Hp) (E:XK):Cx where
  prog:=P
  w:=w
  K:=K
  mg:=mg
  base:=base
  A:=A.deeper (envOfC qual scope s.heap.objs.size f cd)
  N:=N
  s₀:=s
  H₀:=H
  env:=envOfC qual scope s.heap.objs.size f cd
  outer:=outer
  stack:=envOfC qual scope s.heap.objs.size f cd :: outer
  ex:=[]
  calm:=true
  fn:=fun _=>true
  pn:=[]
  xe:=fun e s'=>wpAny (model P w) (A.deeper (envOfC qual scope s.heap.objs.size f cd)) (leaving (envOfC qual scope s.heap.objs.size f cd) e) (fun _ s''=>CX outer H s E e s'') (fun e' s''=>CX outer H s E e' s'') s'
theorem cell_has {sc:Scope} {n:Nat} {x:Str} (h:sc.names.lookup x=some .cell):∃ c,(cellsFrom n sc.names []).lookup x=some c:=by
  have q:=PySem.W.cellsFrom_some sc.names n [] (.inl h)
  exact Option.isSome_iff_exists.mp q
theorem inv_start {CX:CXT} {P:Program} {w:World} {K:PySem.W.Frag} {mg:Str→Option Value} {base:Heap} {N ps:List Str} {qual:Str} {scope:Scope} {f:Addr} {cd:Value} {A:Around} {outer:List Env} {s s1:Shared} {H:Hp} {E:XK} {us:List Value} {vs:List V}
    (S:FnScope N ps scope) (hd:A.handled=none) (e0:Env0 P w K mg base A outer s H) (hl:vs.length=ps.length) (r:Vals vs us)
    (x:InCallC s s.heap.objs.size (bindL (envOfC qual scope s.heap.objs.size f cd).kindOf (ps.zip us) fun _=>none) (cellsFrom (s.heap.objs.size+1) scope.names []) (bindC (envOfC qual scope s.heap.objs.size f cd).kindOf (ps.zip us) fun _=>none) s1) :
    Inv (cxOf CX P w K mg base N qual scope f cd A outer s H E) [] (start N vs) H s1:=by
  have hpl:ps.length≤N.length:=by have:=congrArg List.length S.pre;rw [List.length_take] at this;omega
  obtain ⟨h1,tk,rfl,hk⟩:=x.done
  have noA:∀ b:Addr,b ∉ (cxOf CX P w K mg base N qual scope f cd A outer s H E).ex:=fun b z=>absurd (show b∈([]:List Addr) from z) (by simp)
  refine ⟨⟨e0.mod,S.kind,rfl,rfl,Nat.le_refl _,fun y z c h1 h2=>?_,fun y hy=>?_,fun y c _ h=>?_,fun _=>hd,Around.frames_deeper e0.frames,.inr ⟨rfl,rfl⟩,fun b z=>absurd z (noA b),e0.bs,e0.bsz,fun b _ _=>noA b,fun b z=>absurd z (noA b),e0.funs,e0.frf⟩,
    rfl,e0.bare,Un.kept hk,⟨_,x.toInCall.ns,fun i y v h1 h2 h3=>?_⟩,fun y c h=>⟨_,x.cell y c h⟩,e0.hok.fresh (Nat.le_refl _),fun y c h=>?_,fun p hp=>absurd (show p∈([]:List (Addr × Obj)) from hp) (by simp),e0.hok.kept hk,?_⟩
  · exact name_of_addr x.apart (PySem.mem_of_lookup h1) (PySem.mem_of_lookup h2)
  · have hy:scope.names.lookup y=some .cell∨scope.names.lookup y=some .free:=hy
    rcases hy with hy | hy
    · exact cell_has hy
    · exact absurd rfl (S.nofree _ (PySem.mem_of_lookup hy))
  · exact Nat.le_of_lt (x.above y c (PySem.mem_of_lookup h))
  · have hi:i < vs.length:=by
      unfold start at h2
      by_cases hi:i < vs.length
      · exact hi
      · rw [List.getElem?_append_right (by simpa using hi)] at h2
        rw [List.getElem?_replicate] at h2
        split at h2 <;> cases h2
    have ha:vs[i]? = some v:=by
      unfold start at h2
      rw [List.getElem?_append_left (by simpa using hi),List.getElem?_map] at h2
      cases e:vs[i]? with
      | none=>rw [e] at h2;cases h2
      | some a=>rw [e] at h2;cases h2;rfl
    obtain ⟨u,hu,rv⟩:=r.get ha
    have hp:ps[i]? = some y:=by
      rw [← S.pre,List.getElem?_take_of_lt (by omega)];exact h1
    have ndP:ps.Nodup:=by rw [← S.pre];exact S.nd.sublist (List.take_sublist _ _)
    refine ⟨u,rv,?_⟩
    rcases S.par y (List.mem_of_getElem? hp) with k | k
    · exact .inl ⟨k,bindL_get ndP hp hu k⟩
    · obtain ⟨c,e⟩:=cell_has (n:=s.heap.objs.size+1) k
      refine .inr ⟨.inl k,c,e,?_⟩
      have q:=x.cell y c e
      rw [bindC_get ndP hp hu (by show scope.names.lookup y≠_;rw [k];decide)] at q
      exact q
  · exact e0.hok.fresh (Nat.le_of_lt (x.above y c (PySem.mem_of_lookup h)))
  · unfold start
    show _=N.length
    rw [List.length_append,List.length_map,List.length_replicate]
    omega
theorem fn_of {CX:CXT} {P:Program} {w:World} {K:PySem.W.Frag} {mg:Str→Option Value} {base:Heap} {k:Nat} {f:Addr} {name qual:Str} {params:Arguments} {body:List Stmt} {scope:Scope} {dV kV doc pm cdv ct oc:Value} {an od:Option Addr}
    {osl:Array (Option Value)} {N ps:List Str} {sp:Sp} (lk:K.lookup f=some ⟨oc,od,.func (PySem.W.fnOf name qual params body scope dV kV doc pm an cdv ct),osl⟩) (hcd:PySem.W.codeIn K cdv qual=true) (S:FnScope N ps scope)
    (len:∀ vs H Q E,sp vs H Q E→vs.length=ps.length)
    (hbody:∀ (A:Around) (outer:List Env) (s:Shared) (H:Hp) (vs:List V) (Q:VK) (E:XK),Room k (A.deeper (envOfC qual scope s.heap.objs.size f cdv))→sp vs H Q E →
      ∃ t,PSs (cxOf CX P w K mg base N qual scope f cdv A outer s H E) body t∧t { nx:=fun _ H'=>Q .non H',rt:=Q } (start N vs) H) :
    FnOk P w K mg base CX (k+1) f (PySem.W.fnOf name qual params body scope dV kV doc pm an cdv ct) ps sp:=by
  refine ⟨len,fun A outer s H args us vs Q E hr e0 hb r hsp=>?_⟩
  have hl:=len _ _ _ _ hsp
  have KX:K.In s.heap:=e0.mod.kin.keeps fun b o e=>(e0.bs b o e).1
  have lim:s.heap.NoLimit:=e0.mod.nolimit.keeps fun b o e=>(e0.bs b o e).1
  have hkind:∀ y∈ps.zip us,scope.names.lookup y.1=some .local∨(scope.names.lookup y.1=some .cell∧((cellsFrom (s.heap.objs.size+1) scope.names []).lookup y.1).isSome=true):=fun ⟨n,v⟩ hy=>by
    rcases S.par n (List.of_mem_zip hy).1 with q | q
    · exact .inl q
    · exact .inr ⟨q,PySem.W.cellsFrom_some _ _ _ (.inl q)⟩
  refine codeAny_call_function hr.depth (KX _ _ lk) rfl S.co S.gen rfl (PySem.W.codeRec_of KX hcd) (hb _ _ _ _ ?_)
  refine wpAny_newFunctionEnv_cells S.kind hkind fun env he s1 x=>?_
  subst he
  refine ⟨lim.keeps x.toInCall.keep,codeAny_func ?_⟩
  obtain ⟨t,ht,hq⟩:=hbody A outer s H vs Q E (hr.deeper _) hsp
  have I:Inv (cxOf CX P w K mg base N qual scope f cdv A outer s H E) [] (start N vs) H s1:=inv_start S hr.hd e0 hl r x
  refine wpAny_mono (ht [] s1 (start N vs) H _ I hq) (fun fl s' hs=>?_) fun e s' hs=>hs
  have fin:∀ {σ':St} {H':Hp} {v:V} {u:Value},Inv (cxOf CX P w K mg base N qual scope f cdv A outer s H E) [] σ' H' s'→RelV v u→Q v H'→CE outer P w H s Q u s' :=
    fun {σ' H' v u} J rv q=>⟨v,H',J.os,J.bare,J.base,J.hok,rv,q⟩
  cases fl with
  | ret u =>
    obtain ⟨v,σ',H',J,rv,q⟩:=hs
    exact fin J rv q
  | next =>
    obtain ⟨σ',H',J,q⟩:=hs
    exact fin (v:=V.non) (u:=Value.none) J rfl q
  | brk =>
    obtain ⟨_,_,_,q⟩:=hs
    exact False.elim q
  | cont =>
    obtain ⟨_,_,_,q⟩:=hs
    exact False.elim q
end L2
namespace L2
open PySem PySem.Spec PyProof.Rows
section
variable {X:Cx} {x:Str} {p pos:Pos} {e:Expr} {es:List Expr} {t:TA} {id T:String} {r:List V→Hp→VK→Prop}
def tCB (r:List V→Hp→VK→Prop) (t:TA):TE:=fun σ H Q=>t σ H fun vs H1=>r vs H1 Q
theorem pe_callB (hc:CallR X (.builtin id) r) (hg:Gl X x) (hm:X.mg x=none) (hv:bootBuiltins x=some (.builtin id)) (ha:PA X (e :: es) t) (hn:x≠"__name__":=by decide) (hdb:(x == ("__debug__" : Str))=false:=by decide)
    (he:starEach (e :: es) X.env=(false,eval e X.env) :: starEach es X.env:=by rfl) (hpl:(backTo pos (starEach es X.env)).any (·.1)=false:=by rfl):PE X (.Call (.Name x p) (e :: es) [] pos) (tCB r t):=by
  intro pins s σ H Q I h
  refine wpAny_Call_Name_kw (ld_blt I hg hm hv ?_ hn hdb)
  exact PyProof.Rows.callWith_builtin1 (thn (ha pos pins s σ H _ I h) fun us s1 ⟨vs,H1,I1,r1,q1⟩=>hc pins s1 σ H1 vs us Q I1 r1 q1) he hpl
theorem pe_callTy (hc:CallR X (.type T) r) (hg:Gl X x) (hm:X.mg x=none) (hv:bootBuiltins x=some (.type T)) (ha:PA X (e :: es) t) (hn:x≠"__name__":=by decide) (hdb:(x == ("__debug__" : Str))=false:=by decide)
    (he:starEach (e :: es) X.env=(false,eval e X.env) :: starEach es X.env:=by rfl) (hpl:(backTo pos (starEach es X.env)).any (·.1)=false:=by rfl):PE X (.Call (.Name x p) (e :: es) [] pos) (tCB r t):=by
  intro pins s σ H Q I h
  refine wpAny_Call_Name_kw (ld_blt I hg hm hv ?_ hn hdb)
  exact PyProof.Rows.callWith_type1 (thn (ha pos pins s σ H _ I h) fun us s1 ⟨vs,H1,I1,r1,q1⟩=>hc pins s1 σ H1 vs us Q I1 r1 q1) he hpl
end
end L2
namespace HT
open PySem PyProof.Rows
section
open PySem.SeqAt
open PySem.AutoSeq1 (wpAny_loadPart')
open PySem.MeetsSeq PySem.MeetsSeq2 PySem.MeetsSeq3
end
section
variable {prog:Program} {w:World} {A:Around} {E:Value→Shared→Prop} {s:Shared}
def sIx (n d:Nat):Option Int→Nat
  | none=>d
  | some v=>if v < 0 then (v+(n:Int)).toNat else min v.toNat n
theorem sIx_none (n d:Nat):sIx n d none=d:=rfl
theorem sIx_nat (n d k:Nat):sIx n d (some (k:Int))=min k n:=by
  show (if (k:Int) < 0 then ((k:Int)+(n:Int)).toNat else min (k:Int).toNat n)=min k n
  rw [if_neg (by omega),Int.toNat_natCast]
end
end HT
namespace L2
open PySem PySem.Spec PyProof.Rows
abbrev TO:=St→Hp→(Option Int→Hp→Prop)→Prop
def PO (X:Cx) (e:Option Expr) (t:TO):Prop :=
  ∀ (pins:List (Addr × Obj)) (s:Shared) (σ:St) (H:Hp) (Q:Option Int→Hp→Prop),Inv X pins σ H s→t σ H Q →
    wpAny (model X.prog X.w) X.A (evalPart e X.env) (fun u s'=>∃ o H',Inv X pins σ H' s'∧IsPart u o∧Q o H') X.xe s
def tNoPart:TO:=fun _ H Q=>Q none H
def tPart (t:TE):TO:=fun σ H Q=>t σ H fun x H1=>∃ i,x=.int i∧Q (some i) H1
theorem intsAre_of {ns:List Int}:∀ {us:List Value},Vals (ns.map V.int) us→IntsAre us ns:=by
  induction ns with
  | nil=>intro us r;rw [List.map_nil] at r;cases r;exact .nil
  | cons n ns ih =>
    intro us r
    rw [List.map_cons] at r
    cases r with
    | cons r1 r2 =>
      obtain ⟨t,e⟩:=r1
      subst e
      exact .cons n t (ih r2)
section
variable {X:Cx} {e:Expr} {te:TE} {lo hi:Option Expr} {tl th:TO} {pos p2:Pos}
theorem po_none:PO X none tNoPart:=by
  intro pins s σ H Q I h
  rw [evalPart_none]
  exact wpAny_pure ⟨none,H,I,.none,h⟩
theorem po_some (h:PE X e te):PO X (some e) (tPart te):=by
  intro pins s σ H Q I hw
  rw [evalPart_some]
  refine thn (h pins s σ H _ I hw) fun u s1 ⟨x,H1,I1,r1,q1⟩=>?_
  obtain ⟨i,rfl,q⟩:=q1
  obtain ⟨t,rfl⟩:=r1
  exact ⟨some i,H1,I1,.int i t,q⟩
def SlR (X:Cx) (r:V→Option Int→Option Int→Hp→VK→Prop):Prop :=
  ∀ (pins:List (Addr × Obj)) (s:Shared) (σ:St) (H:Hp) (x:V) (v vl vu:Value) (lo hi:Option Int) (sl:Addr) (Q:VK),Inv X pins σ H s→RelV x v→s.heap.IsSliceOf sl vl vu .none→IsPart vl lo→IsPart vu hi→r x lo hi H Q →
    ∃ T id,typeLookup (.type T) "__getitem__" = pure (some (.builtin id))∧s.TypeIs v T∧wpAny (model X.prog X.w) X.A (getItem v (.ref sl)) (EP X pins σ Q) X.xe s
theorem SlR.or {r r':V→Option Int→Option Int→Hp→VK→Prop} (h:SlR X r) (h':SlR X r'):SlR X (fun x lo hi H Q=>r x lo hi H Q∨r' x lo hi H Q):=by
  intro pins s σ H x v vl vu lo hi sl Q I rx hs pl pu q
  rcases q with q | q
  · exact h pins s σ H x v vl vu lo hi sl Q I rx hs pl pu q
  · exact h' pins s σ H x v vl vu lo hi sl Q I rx hs pl pu q
def tSl (r:V→Option Int→Option Int→Hp→VK→Prop) (te:TE) (tl th:TO):TE:=fun σ H Q=>te σ H fun x H1=>tl σ H1 fun l H2=>th σ H2 fun u H3=>r x l u H3 Q
theorem pe_slice {r:V→Option Int→Option Int→Hp→VK→Prop} (hr:SlR X r) (he:PE X e te) (hl:PO X lo tl) (hu:PO X hi th):PE X (.Subscript e (.Slice lo hi none p2) pos) (tSl r te tl th):=by
  intro pins s σ H Q I h
  refine Subscript_ (thn (he pins s σ H _ I h) fun v s1 ⟨x,H1,I1,r1,q1⟩=>?_)
  refine wpAny_Slice (thn (hl pins s1 σ H1 _ I1 q1) fun vl s2 ⟨l,H2,I2,pl,q2⟩=>thn (hu pins s2 σ H2 _ I2 q2) fun vu s3 ⟨u,H3,I3,pu,q3⟩=>?_)
  rw [evalPart_none]
  refine wpAny_pure ?_
  have I4:Inv X pins σ H3 { s3 with heap:=s3.heap.push { cls:=.type "slice",data:=.fields #[vl,vu,.none] } }:=I3.kept (t':=s3.toks) fun b ob q=>Heap.get?_push_of_some _ q
  obtain ⟨T,id,hT,ht,hg⟩:=hr pins { s3 with heap:=s3.heap.push { cls:=.type "slice",data:=.fields #[vl,vu,.none] } } σ H3 x v vl vu l u s3.heap.objs.size Q I4 r1 (Heap.IsSliceOf.new ..) pl pu q3
  show wpAny (model X.prog X.w) X.A (subscriptTail e (.Slice lo hi none p2) v (.ref s3.heap.objs.size)) (EP X pins σ Q) X.xe { s3 with heap:=s3.heap.push { cls:=.type "slice",data:=.fields #[vl,vu,.none] } }
  exact tail_any (ops:=[.ref s3.heap.objs.size,v]) ht hT hg (by with_unfolding_all rfl)
def cutV (xs:List V) (lo hi:Option Int):List V:=(xs.drop (HT.sIx xs.length 0 lo)).take (HT.sIx xs.length xs.length hi - HT.sIx xs.length 0 lo)
theorem cutV_length (xs:List V) (lo hi:Option Int):(cutV xs lo hi).length≤xs.length:=by
  unfold cutV
  rw [List.length_take,List.length_drop]
  omega
end
end L2
namespace L2
open PySem PySem.Spec PyProof.Rows
def ixN (n:Nat) (i:Int):Option Nat:=if 0≤i then (if i < n then some i.toNat else none) else if -(n:Int)≤i then some (i+n).toNat else none
def atI {α:Type} (xs:List α) (i:Int):Option α:=(ixN xs.length i).bind fun j=>xs[j]?
theorem ixN_seq {n:Nat} {i:Int} {j:Nat} (h:ixN n i=some j):seqIndex? i n=some j∧j < n∧-(n:Int)≤i∧i < n:=by
  unfold ixN at h
  by_cases h0:0≤i
  · rw [if_pos h0] at h
    by_cases h1:i < n
    · rw [if_pos h1] at h
      have e:i.toNat=j:=Option.some.inj h
      exact ⟨by rw [seqIndex_of h0 h1,e],by omega,by omega,h1⟩
    · rw [if_neg h1] at h;cases h
  · rw [if_neg h0] at h
    by_cases h1:-(n:Int)≤i
    · rw [if_pos h1] at h
      have e:(i+n).toNat=j:=Option.some.inj h
      exact ⟨by rw [seqIndex_neg (by omega) h1,e],by omega,h1,by omega⟩
    · rw [if_neg h1] at h;cases h
theorem atI_get {α:Type} {xs:List α} {i:Int} {v:α} (h:atI xs i=some v):∃ j,seqIndex? i xs.length=some j∧xs[j]? = some v∧j < xs.length∧-(xs.length:Int)≤i∧i < xs.length:=by
  unfold atI at h
  cases e:ixN xs.length i with
  | none=>rw [e] at h;cases h
  | some j =>
    rw [e] at h
    obtain ⟨h1,h2,h3,h4⟩:=ixN_seq e
    exact ⟨j,h1,h,h2,h3,h4⟩
theorem atI_nat {α:Type} {xs:List α} {j:Nat} {v:α} (h:xs[j]? = some v):atI xs (j:Int)=some v:=by
  have hj:j < xs.length:=(List.getElem?_eq_some_iff.mp h).1
  have e:ixN xs.length (j:Int)=some j:=by
    unfold ixN
    rw [if_pos (by omega),if_pos (by omega)];simp
  unfold atI;rw [e];exact h
theorem atI_last {α:Type} (xs:List α) (v:α):atI (xs++[v]) (-1)=some v:=by
  have hl:(xs++[v]).length=xs.length+1:=by simp
  have e:ixN (xs++[v]).length (-1)=some xs.length:=by
    unfold ixN
    rw [hl,if_neg (by decide),if_pos (by omega)]
    congr 1
    omega
  unfold atI
  rw [e]
  show (xs++[v])[xs.length]? = some v
  simp
def PlainIx (b:Expr):Prop:=∀ o i,subscripted b false o i=operate [o,i] (getItem o i)
def IxR (X:Cx) (r:R2):Prop :=
  ∀ (value slice:Expr) (pins:List (Addr × Obj)) (s:Shared) (σ:St) (H:Hp) (x y:V) (v u:Value) (Q:VK),Inv X pins σ H s→RelV x v→RelV y u→r x y H Q →
    subscripted slice false v u=operate [v,u] (getItem v u)→wpAny (model X.prog X.w) X.A (subscriptTail value slice v u) (EP X pins σ Q) X.xe s
def MtR (X:Cx) (id:String) (r:V→List V→Hp→VK→Prop):Prop :=
  ∀ (pins:List (Addr × Obj)) (s:Shared) (σ:St) (H:Hp) (x:V) (xs:List V) (v:Value) (us:List Value) (Q:VK),Inv X pins σ H s→RelV x v→Vals xs us→r x xs H Q →
    wpAny (model X.prog X.w) X.A (call (.builtin id) (v :: us)) (EP X pins σ Q) X.xe s
section
variable {X:Cx} {a b:Expr} {ta tb:TE} {pos:Pos}
theorem IxR.or {r r':R2} (h:IxR X r) (h':IxR X r'):IxR X (fun x y H Q=>r x y H Q∨r' x y H Q):=by
  intro value slice pins s σ H x y v u Q I rx ry q hs
  rcases q with q | q
  · exact h value slice pins s σ H x y v u Q I rx ry q hs
  · exact h' value slice pins s σ H x y v u Q I rx ry q hs
theorem MtR.or {id:String} {r r':V→List V→Hp→VK→Prop} (h:MtR X id r) (h':MtR X id r'):MtR X id (fun x xs H Q=>r x xs H Q∨r' x xs H Q):=by
  intro pins s σ H x xs v us Q I rx rs q
  rcases q with q | q
  · exact h pins s σ H x xs v us Q I rx rs q
  · exact h' pins s σ H x xs v us Q I rx rs q
theorem pe_ix {r:R2} (hr:IxR X r) (ha:PE X a ta) (hb:PE X b tb) (hs:PlainIx b):PE X (.Subscript a b pos) (tOp r ta tb):=by
  intro pins s σ H Q I h
  exact Subscript_ (binT ha hb I h fun v u s2 x y H2 I2 rx ry q=>hr a b pins s2 σ H2 x y v u Q I2 rx ry q (hs _ _))
def rIxL (K:PySem.W.Frag):R2:=fun x y H Q=>∃ p xs i v,x=.ref p∧y=.int i∧SqL K H p xs∧atI xs i=some v∧Q v H
def rIxT (K:PySem.W.Frag):R2:=fun x y H Q=>∃ p xs i v,x=.ref p∧y=.int i∧SqT K H p xs∧atI xs i=some v∧Q v H
theorem ix_list:IxR X (rIxL X.K):=by
  intro value slice pins s σ H x y v u Q I rx ry h hs
  obtain ⟨p,xs,i,z,rfl,rfl,hq,he,q⟩:=h
  cases rx
  obtain ⟨t,rfl⟩:=ry
  obtain ⟨its,r,pl,hz⟩:=I.list hq
  obtain ⟨j,h1,h2,h3,h4,h5⟩:=atI_get he
  obtain ⟨w,ew,rw'⟩:=r.get h2
  have hl:=r.length
  have hn:=line63
  have fin:EP X pins σ Q w s:=⟨z,H,I,rw',q⟩
  by_cases h0:0≤i
  · have hj:i.toNat=j:=by
      rw [seqIndex_of h0 h5] at h1
      exact Option.some.inj h1
    exact item_listR pl.isList h0 (by omega) (by rw [hj];simpa using ew) fin hs
  · have hj:(i+(its.toArray.size:Int)).toNat=j:=by
      rw [seqIndex_neg (by omega) h4] at h1
      rw [List.size_toArray,← hl]
      exact Option.some.inj h1
    exact subscriptTail_builtinR (x:=w) pl.isList.typeIs slot_list_getitem.lookup
      (wpAny_getItem_list_neg (Q:=fun r s'=>r=w∧EP X pins σ Q r s') pl.isList (by omega) (by rw [List.size_toArray] <;> omega) (by omega) (by rw [hj];simpa using ew) ⟨rfl,fin⟩) hs
theorem ix_tup:IxR X (rIxT X.K):=by
  intro value slice pins s σ H x y v u Q I rx ry h hs
  obtain ⟨p,xs,i,z,rfl,rfl,hq,he,q⟩:=h
  cases rx
  obtain ⟨t,rfl⟩:=ry
  obtain ⟨its,r,pl,hz⟩:=I.tuple hq
  obtain ⟨j,h1,h2,h3,h4,h5⟩:=atI_get he
  obtain ⟨w,ew,rw'⟩:=r.get h2
  have hl:=r.length
  have hn:=line63
  have fin:EP X pins σ Q w s:=⟨z,H,I,rw',q⟩
  exact subscriptTail_builtinR (x:=w) pl.typeIs slot_tuple_getitem.lookup
    (getItem_tuple (j:=j) (Q:=fun r s'=>r=w∧EP X pins σ Q r s') pl (by omega) (by omega) (by rw [List.size_toArray,← hl];exact h1) (by simpa using ew) ⟨rfl,fin⟩) hs
theorem mapSeq_set (its:List Value) (n j:Nat) (u:Value):Obj.mapSeq (·.setIfInBounds j u) { cls:=.type "list",data:=.seq its.toArray n } = { cls:=.type "list",data:=.seq (its.set j u).toArray n }:=by
  simp [Obj.mapSeq]
theorem Inv.lst {pins:List (Addr × Obj)} {σ:St} {H:Hp} {s:Shared} {p:Addr} {xs:List V} (I:Inv X pins σ H s) (h:H p=some (.lst xs)) :
    ∃ (its:List Value) (n:Nat),Vals xs its∧s.heap.get? p=some { cls:=.type "list",data:=.seq its.toArray n }∧xs.length≤sizeLine:=by
  obtain ⟨z,its,n,r,e⟩:=I.hok p _ h
  exact ⟨its,n,r,e,z⟩
theorem Inv.lstUpd {pins:List (Addr × Obj)} {σ:St} {H:Hp} {s:Shared} {p:Addr} {xs ys:List V} {its its':List Value} {n n':Nat} {f:Obj→Obj} (I:Inv X pins σ H s) (h:H p=some (.lst xs))
    (ho:s.heap.get? p=some { cls:=.type "list",data:=.seq its.toArray n }) (hf:f { cls:=.type "list",data:=.seq its.toArray n } = { cls:=.type "list",data:=.seq its'.toArray n' }) (r:Vals ys its') (hz:ys.length≤sizeLine) (t:Nat) :
    Inv X pins σ (upd H p (.lst ys)) { s with heap:=s.heap.update p f,toks:=t }:=by
  have e:(s.heap.update p f).get? p=some { cls:=.type "list",data:=.seq its'.toArray n' }:=by
    rw [Heap.get?_update_self f ho (by rw [hf] <;> rfl),hf]
  refine I.write (x:=p) (e:=p) (by rw [h];trivial) (.inl rfl) (fun b u hb q=>(Heap.get?_update_other _ _ (Ne.symm hb)).trans q) ⟨_,e⟩ ?_
  exact ⟨hz,its',n',r,e⟩
def rSetL:V→V→V→Hp→(Hp→Prop)→Prop:=fun o i v H Q=>∃ p xs k j,o=.ref p∧i=.int k∧H p=some (.lst xs)∧ixN xs.length k=some j∧Q (upd H p (.lst (xs.set j v)))
theorem set_list:PSet X rSetL:=by
  intro pins s σ H o i v ov iv u Q I ro ri rv h
  obtain ⟨p,xs,k,j,rfl,rfl,hp,hj,q⟩:=h
  cases ro
  obtain ⟨t,rfl⟩:=ri
  obtain ⟨its,n,r,ho,hz⟩:=I.lst hp
  obtain ⟨h1,h2,h3,h4⟩:=ixN_seq hj
  have hl:=r.length
  have hn:=line63
  have I':Inv X pins σ (upd H p (.lst (xs.set j v))) { s with heap:=s.heap.update p (Obj.mapSeq (·.setIfInBounds j u)) } :=
    I.lstUpd hp ho (mapSeq_set its n j u) (r.set rv j) (by rw [List.length_set];exact hz) s.toks
  by_cases h0:0≤k
  · have hk:k.toNat=j:=by
      rw [seqIndex_of h0 h4] at h1
      exact Option.some.inj h1
    exact PySem.W.ki_setAt ho h0 (by omega) (by rw [List.size_toArray,← hl];exact h4) (by rw [hk];exact ⟨_,I',q⟩)
  · have hk:(k+(its.toArray.size:Int)).toNat=j:=by
      rw [seqIndex_neg (by omega) h3] at h1
      rw [List.size_toArray,← hl]
      exact Option.some.inj h1
    exact PySem.W.ki_setBack ho (by omega) (by rw [List.size_toArray,← hl];exact h3) (by omega) (by rw [hk];exact ⟨_,I',q⟩)
theorem slice_bounds (lo hi:Option Int) (n:Nat):(sliceBounds lo hi none n).1=((HT.sIx n 0 lo:Nat):Int)∧(sliceBounds lo hi none n).2.1=((HT.sIx n n hi:Nat):Int)∧(sliceBounds lo hi none n).2.2=1:=by
  refine ⟨?_,?_,rfl⟩
  · cases lo with
    | none=>simp [sliceBounds,HT.sIx]
    | some i =>
      simp only [sliceBounds,HT.sIx,Option.getD_none,show (1:Int) > 0 by decide,if_true]
      by_cases h:i < 0
      · simp only [h,if_true] <;> omega
      · simp only [h,if_false] <;> omega
  · cases hi with
    | none=>simp [sliceBounds,HT.sIx]
    | some i =>
      simp only [sliceBounds,HT.sIx,Option.getD_none,show (1:Int) > 0 by decide,if_true]
      by_cases h:i < 0
      · simp only [h,if_true] <;> omega
      · simp only [h,if_false] <;> omega
theorem slicePick_cut (its:List Value) (lo hi:Option Int):slicePick its.toArray lo hi none=((its.drop (HT.sIx its.length 0 lo)).take (HT.sIx its.length its.length hi - HT.sIx its.length 0 lo)).toArray:=by
  obtain ⟨h1,h2,h3⟩:=slice_bounds lo hi its.toArray.size
  unfold slicePick
  rw [h1,h2,h3]
  simp only [sliceRange_one,pick_run,List.size_toArray] <;> rfl
def rSlL (K:PySem.W.Frag):V→Option Int→Option Int→Hp→VK→Prop:=fun x lo hi H Q=>∃ a xs,x=.ref a∧SqL K H a xs∧∀ p,H p=none→Q (.ref p) (upd H p (.lst (cutV xs lo hi)))
theorem sl_list:SlR X (rSlL X.K):=by
  intro pins s σ H x v vl vu lo hi sl Q I rx hs pl pu h
  obtain ⟨a,xs,rfl,hx,q⟩:=h
  cases rx
  obtain ⟨its,r,ht,hz⟩:=I.list hx
  have hlen:=r.length
  refine ⟨"list",_,slot_list_getitem.lookup,ht.isList.typeIs,?_⟩
  refine wpAny_getItem_list_slice ht.isList hs pl pu .none (by simp) ?_ (by rw [List.size_toArray] <;> omega)
  rw [slicePick_cut,← hlen]
  refine ⟨.ref s.heap.objs.size,_,I.laid (t':=s.toks) (o:=.lst (cutV xs lo hi)) (fun b ob q=>Heap.get?_push_of_some _ q) (Nat.le_refl _) ?_,rfl,q _ (I.hok.fresh (Nat.le_refl _))⟩
  exact ⟨Nat.le_trans (cutV_length xs lo hi) hz,_,0,(r.drop (HT.sIx xs.length 0 lo)).take (HT.sIx xs.length xs.length hi - HT.sIx xs.length 0 lo),Heap.get?_push_size _ rfl⟩
def flatV:V→Bool
  | .non=>true
  | .bl _=>true
  | .int _=>true
  | .str _=>true
  | _=>false
def eqV:V→V→Bool
  | .non,.non=>true
  | .bl a,.bl b=>a == b
  | .bl a,.int b=>(if a then 1 else 0) == b
  | .int a,.bl b=>a == (if b then 1 else 0)
  | .int a,.int b=>a == b
  | .str a,.str b=>a == b
  | _,_=>false
theorem eqAt_V {A:Around} {s:Shared} {y x:V} {u v:Value} (ry:RelV y u) (rx:RelV x v) (fy:flatV y=true) (fx:flatV x=true):SeqAt.EqAt A s u v (eqV y x):=by
  cases y with
  | non =>
    cases ry
    cases x with
    | non=>cases rx;exact SeqAt.EqAt.same _
    | bl b=>cases rx;exact SeqAt.EqAt.none_bool b
    | int b=>obtain ⟨t,rfl⟩:=rx;exact SeqAt.EqAt.none_int b t
    | str b=>obtain ⟨t,rfl⟩:=rx;exact SeqAt.EqAt.none_str b t
    | _=>exact absurd (show false=true from fx) Bool.false_ne_true
  | bl a =>
    cases ry
    cases x with
    | non=>cases rx;exact SeqAt.EqAt.bool_none a
    | bl b=>cases rx;exact SeqAt.EqAt.bool_bool a b
    | int b=>obtain ⟨t,rfl⟩:=rx;exact SeqAt.EqAt.bool_int a b t
    | str b=>obtain ⟨t,rfl⟩:=rx;exact SeqAt.EqAt.bool_str a b t
    | _=>exact absurd (show false=true from fx) Bool.false_ne_true
  | int a =>
    obtain ⟨t',rfl⟩:=ry
    cases x with
    | non=>cases rx;exact SeqAt.EqAt.int_none a t'
    | bl b=>cases rx;exact SeqAt.EqAt.int_bool a t' b
    | int b=>obtain ⟨t,rfl⟩:=rx;exact SeqAt.EqAt.int_int a t' b t
    | str b=>obtain ⟨t,rfl⟩:=rx;exact SeqAt.EqAt.int_str a t' b t
    | _=>exact absurd (show false=true from fx) Bool.false_ne_true
  | str a =>
    obtain ⟨t',rfl⟩:=ry
    cases x with
    | non=>cases rx;exact SeqAt.EqAt.str_none a t'
    | bl b=>cases rx;exact SeqAt.EqAt.str_bool a t' b
    | int b=>obtain ⟨t,rfl⟩:=rx;exact SeqAt.EqAt.str_int a t' b t
    | str b=>obtain ⟨t,rfl⟩:=rx;exact SeqAt.EqAt.str_str a t' b t
    | _=>exact absurd (show false=true from fx) Bool.false_ne_true
  | _=>exact absurd (show false=true from fy) Bool.false_ne_true
theorem call_len_seq:CallR X (.builtin "len") (fun xs H Q=>∃ p ys,xs=[.ref p]∧(SqL X.K H p ys∨SqT X.K H p ys)∧Q (.int ys.length) H):=by
  intro pins s σ H xs us Q I r h
  obtain ⟨p,ys,rfl,hq,q⟩:=h
  obtain ⟨u,rfl,rx⟩:=vals1 r
  cases rx
  have hn:=line63
  rcases hq with hq | hq
  · obtain ⟨its,r',pl,hz⟩:=I.list hq
    have hlen:=r'.length
    exact Calls.call_len_list pl.isList (by simp only [List.size_toArray] <;> omega) ⟨.int ys.length,H,I.tok _,⟨s.toks+1,by rw [List.size_toArray,hlen]⟩,q⟩
  · obtain ⟨its,r',pl,hz⟩:=I.tuple hq
    have hlen:=r'.length
    exact len_tuple pl (by simp only [List.size_toArray] <;> omega) ⟨.int ys.length,H,I.tok _,⟨s.toks+1,by rw [List.size_toArray,hlen]⟩,q⟩
theorem call_len_str:CallR X (.builtin "len") (fun xs H Q=>∃ z,xs=[.str z]∧z.length≤sizeLine∧Q (.int z.length) H):=by
  intro pins s σ H xs us Q I r h
  obtain ⟨z,rfl,hz,q⟩:=h
  obtain ⟨u,rfl,t,rfl⟩:=vals1 r
  have hn:=line63
  exact len_str (by omega) ⟨.int z.length,H,I.tok _,⟨_,rfl⟩,q⟩
theorem CallR.or {f:Value} {r r':List V→Hp→VK→Prop} (h:CallR X f r) (h':CallR X f r'):CallR X f (fun xs H Q=>r xs H Q∨r' xs H Q):=by
  intro pins s σ H xs us Q I rs q
  rcases q with q | q
  · exact h pins s σ H xs us Q I rs q
  · exact h' pins s σ H xs us Q I rs q
theorem call_list_of:CallR X (.type "list") (fun xs H Q=>∃ p ys,xs=[.ref p]∧(SqL X.K H p ys∨SqT X.K H p ys)∧∀ l,H l=none→Q (.ref l) (upd H l (.lst ys))):=by
  intro pins s σ H xs us Q I r h
  obtain ⟨p,ys,rfl,hq,q⟩:=h
  obtain ⟨u,rfl,rx⟩:=vals1 r
  cases rx
  have fin:∀ (its:List Value),Vals ys its→ys.length≤sizeLine→∀ (h':Heap) (c':Nat),(∀ b o',s.heap.get? b=some o'→h'.get? b=some o') →
      h'.get? s.heap.objs.size=some { cls:=.type "list",dict:=none,data:=.seq its.toArray c',slots:=#[] }→EP X pins σ Q (.ref s.heap.objs.size) { s with heap:=h' }:=fun its r' hz h' c' kp e =>
    ⟨.ref s.heap.objs.size,_,I.laid (t':=s.toks) kp (Nat.le_refl _) (show ObjOk X.prog X.w _ h' _ (.lst ys) from ⟨hz,its,c',r',e⟩),rfl,q _ (I.hok.fresh (Nat.le_refl _))⟩
  rcases hq with hq | hq
  · obtain ⟨its,r',pl,hz⟩:=I.list hq
    have hlen:=r'.length
    obtain ⟨o,ho,hc,n,hd⟩:=pl.isList
    exact call_list_seq p (.inl rfl) ho hc hd (fun h' c' kp e=>fin its r' hz h' c' kp e) (by simp only [List.size_toArray] <;> omega)
  · obtain ⟨its,r',pl,hz⟩:=I.tuple hq
    have hlen:=r'.length
    obtain ⟨o,ho,hc,n,hd⟩:=pl
    exact call_list_seq p (.inr rfl) ho hc hd (fun h' c' kp e=>fin its r' hz h' c' kp e) (by simp only [List.size_toArray] <;> omega)
theorem call_tuple_of:CallR X (.type "tuple") (fun xs H Q=>∃ p ys,xs=[.ref p]∧((SqL X.K H p ys∧∀ l,H l=none→Q (.ref l) (upd H l (.tup ys)))∨(SqT X.K H p ys∧Q (.ref p) H))):=by
  intro pins s σ H xs us Q I r h
  obtain ⟨p,ys,rfl,h⟩:=h
  obtain ⟨u,rfl,rx⟩:=vals1 r
  cases rx
  rcases h with ⟨hq,q⟩ | ⟨hq,q⟩
  · obtain ⟨its,r',pl,hz⟩:=I.list hq
    have hlen:=r'.length
    refine call_tuple_list pl.isList (fun h' kp=>?_) (by simp only [List.size_toArray] <;> omega)
    have I1:Inv X pins σ H { s with heap:=h' }:=I.kept (t':=s.toks) kp
    have I2:Inv X pins σ (upd H h'.objs.size (.tup ys)) { s with heap:=h'.push { cls:=.type "tuple",data:=.seq its.toArray } } :=
      I1.laid (t':=s.toks) (fun b o e=>Heap.get?_push_of_some _ e) (Nat.le_refl _) (show ObjOk X.prog X.w _ _ _ (.tup ys) from ⟨hz,its,r',IsTup.new _ _,_,Heap.get?_push_size _ rfl,rfl⟩)
    exact ⟨.ref h'.objs.size,_,I2,rfl,q _ (I1.hok.fresh (Nat.le_refl _))⟩
  · obtain ⟨its,r',pl,hz⟩:=I.tuple hq
    exact call_tuple_same pl ⟨.ref p,H,I,rfl,q⟩
def tyV (K:PySem.W.Frag) (T:String) (x:V) (H:Hp):Prop:=match x with
  | .str _=>T = "str"
  | .int _=>T = "int"
  | .ref p=>(T = "list"∧∃ xs,SqL K H p xs)∨(T = "tuple"∧∃ o,K.lookup p=some o∧o.cls=.type "tuple"∧o.dict=none) ∨
      (T = "dict"∧((∃ kvs,H p=some (.dK kvs))∨∃ kvs,H p=some (.dT kvs)))∨(T = "set"∧∃ S n,H p=some (.set S n))
  | _=>False
theorem tyV_is {pins:List (Addr × Obj)} {σ:St} {H:Hp} {s:Shared} {T:String} {x:V} {v:Value} (I:Inv X pins σ H s) (r:RelV x v) (ty:tyV X.K T x H) :
    s.TypeIs v T∧∀ a,v=.ref a→∃ ob,s.heap.get? a=some ob∧ob.dict=none:=by
  cases x with
  | str z =>
    obtain ⟨t,rfl⟩:=r
    cases (show T = "str" from ty)
    exact ⟨typeIs_str s z t,fun _ e=>nomatch e⟩
  | int i =>
    obtain ⟨t,rfl⟩:=r
    cases (show T = "int" from ty)
    exact ⟨typeIs_int s i t,fun _ e=>nomatch e⟩
  | ref p =>
    cases r
    rcases ty with ⟨rfl,xs,hq⟩ | ⟨rfl,o,hk,hc,hd⟩ | ⟨rfl,hk⟩ | ⟨rfl,S,n,hk⟩
    · obtain ⟨its,_,pl,_⟩:=I.list hq
      refine ⟨pl.isList.typeIs,fun a e=>?_⟩
      cases e
      obtain ⟨o,n,e,c,hd,_⟩:=pl
      exact ⟨o,e,hd⟩
    · refine ⟨⟨o,I.kIn p o hk,hc⟩,fun a e=>?_⟩
      cases e
      exact ⟨o,I.kIn _ o hk,hd⟩
    · have z:∃ o,s.heap.get? p=some o∧o.ExactDict:=by
        rcases hk with ⟨kvs,hk⟩ | ⟨kvs,hk⟩
        · obtain ⟨_,_,_,_,o,_,_,e,ex,_⟩:=I.hok p _ hk
          exact ⟨o,e,ex⟩
        · obtain ⟨_,_,_,_,o,_,_,e,ex,_⟩:=I.hok p _ hk
          exact ⟨o,e,ex⟩
      obtain ⟨o,e,ex⟩:=z
      refine ⟨⟨o,e,ex.1⟩,fun a e2=>?_⟩
      cases e2
      exact ⟨o,e,ex.2.1⟩
    · obtain ⟨o,_,_,_,e,ex,_⟩:=I.hok p _ hk
      refine ⟨⟨o,e,ex.1⟩,fun a e2=>?_⟩
      cases e2
      exact ⟨o,e,ex.2.1⟩
  | _=>exact False.elim ty
def tBM (K:PySem.W.Frag) (T:String) (r:V→List V→Hp→VK→Prop) (to:TE) (t:TA):TE:=fun σ H Q=>to σ H fun x H1=>tyV K T x H1∧t σ H1 fun xs H2=>r x xs H2 Q
variable {o e:Expr} {es:List Expr} {to:TE} {t:TA} {name:Str} {apos cpos:Pos} {T id:String} {r:V→List V→Hp→VK→Prop}
theorem pe_bm (pa:PlainAttrs T) (slot:Slot T name id) (hty:typeOf (.builtin id)=pure (.type "method_descriptor")) (hm:MtR X id r) (ho:PE X o to) (ha:PA X (e :: es) t)
    (hbase:attributeBase o name X.env (eval o X.env)=eval o X.env:=by rfl)
    (hfew:((backTo cpos (starEach (e :: es) X.env)).all (fun x=>!x.1) && (backToKw cpos (keywordEach [] X.env)).all (fun x=>x.1.isSome)
      && decide ((e :: es).length+([]:List Keyword).length+(if ([]:List Keyword).isEmpty then 0 else 1) < 30))=true:=by rfl)
    (hline:(apos.endLine == cpos.line)=true:=by rfl) (hs:starEach (e :: es) X.env=(false,eval e X.env) :: starEach es X.env:=by rfl) (hplain:(backTo cpos (starEach es X.env)).any (·.1)=false:=by rfl) :
    PE X (.Call (.Attribute o name apos) (e :: es) [] cpos) (tBM X.K T r to t):=by
  intro pins s σ H Q I h
  refine wpAny_Call_method_late hbase hfew hline rfl (thn (ho pins s σ H _ I h) fun v s1 ⟨x,H1,I1,r1,ty,q1⟩=>?_)
  obtain ⟨h1,h2⟩:=tyV_is I1 r1 ty
  refine ⟨T,id,pa,slot,hty,h1,h2,?_⟩
  have hA:=ha cpos pins s1 σ H1 _ I1 q1
  rw [hs] at hA ⊢
  refine Calls.callWith_builtin (by show (false || (backTo cpos (starEach es X.env)).any (·.1))=false;rw [hplain] <;> rfl) (Calls.evalArgs_plain ?_)
  exact thn hA fun us s2 ⟨vs,H2,I2,r2,q2⟩=>hm pins s2 σ H2 x vs v us Q I2 r1 r2 q2
/- xs.append(e),list.index on a module's tuple .. are MtR facts of 06m -/
end
end L2
namespace L2
open PySem PySem.Spec PyProof.Rows
def MtM (X:Cx) (id:String) (r:V→List V→Hp→VK→Prop):Prop :=
  ∀ (pins:List (Addr × Obj)) (s:Shared) (σ:St) (H:Hp) (x:V) (xs:List V) (v:Value) (us:List Value) (Q:VK),Inv X pins σ H s→RelV x v→Vals xs us→r x xs H Q →
    wpAny (model X.prog X.w) X.A (call (.builtin id) (v :: us)) (EP X pins σ Q) X.xe s
theorem Vals.one:∀ {x:V} {us:List Value},Vals [x] us→∃ u,us=[u]∧RelV x u
  | _,_,.cons r .nil=>⟨_,rfl,r⟩
theorem Vals.two:∀ {x y:V} {us:List Value},Vals [x,y] us→∃ u v,us=[u,v]∧RelV x u∧RelV y v
  | _,_,_,.cons r (.cons q .nil)=>⟨_,_,rfl,r,q⟩
theorem Vals.zero:∀ {us:List Value},Vals [] us→us=[]
  | _,.nil=>rfl
theorem Vals.eraseIdx:∀ {xs:List V} {us:List Value} (i:Nat),Vals xs us→Vals (xs.eraseIdx i) (us.eraseIdx i)
  | _,_,_,.nil=>.nil
  | _,_,0,.cons _ t=>t
  | _,_,i+1,.cons r t=>.cons r (Vals.eraseIdx i t)
theorem Vals.reverse {xs:List V} {us:List Value} (h:Vals xs us):Vals xs.reverse us.reverse:=by
  induction h with
  | nil=>exact .nil
  | cons r t ih=>rw [List.reverse_cons,List.reverse_cons];exact Vals.append ih (.cons r .nil)
theorem len_erase {α:Type}:∀ (l:List α) (i:Nat),(l.eraseIdx i).length≤l.length
  | [],_=>Nat.le_refl _
  | _ :: _,0=>Nat.le_succ _
  | _ :: r,i+1=>Nat.succ_le_succ (len_erase r i)
section
variable {X:Cx} {pins:List (Addr × Obj)} {σ:St} {H:Hp} {s:Shared} {l b:Addr} {xs ys zs:List V}
theorem Inv.lset {its its':List Value} {n:Nat} {f:Array Value→Array Value} {t':Nat} (I:Inv X pins σ H s) (hH:H l=some (.lst xs))
    (e:s.heap.get? l=some { cls:=.type "list",data:=.seq its.toArray n }) (hf:f its.toArray=its'.toArray) (hv:Vals ys its') (hz:ys.length≤sizeLine) :
    Inv X pins σ (upd H l (.lst ys)) { s with heap:=s.heap.update l (Obj.mapSeq f),toks:=t' }:=by
  have q:=PySem.IsL.update e f
  rw [hf] at q
  refine I.write (x:=l) (e:=l) (by rw [hH];exact trivial) (.inl rfl) (fun b' u hb hu=>(Heap.get?_update_other s.heap (Obj.mapSeq f) (Ne.symm hb)).trans hu) ⟨_,q⟩ ?_
  exact ⟨hz,its',_,hv,q⟩
theorem Inv.fresh (I:Inv X pins σ H s):H s.heap.objs.size=none:=I.hok.fresh (Nat.le_refl _)
theorem Inv.lstM (I:Inv X pins σ H s) (hH:H l=some (.lst xs)):xs.length≤sizeLine∧∃ (its:List Value) (n:Nat),Vals xs its∧xs.length=its.length∧s.heap.get? l=some { cls:=.type "list",data:=.seq its.toArray n }:=by
  obtain ⟨z,its,n,r,e⟩:=I.hok l _ hH
  exact ⟨z,its,n,r,r.length,e⟩
end
section
variable {X:Cx}
def rAppend:V→List V→Hp→VK→Prop:=fun x vs H Q=>∃ l xs y,x=.ref l∧vs=[y]∧H l=some (.lst xs)∧xs.length < sizeLine∧Q .non (upd H l (.lst (xs++[y])))
theorem mt_append:MtM X "list.append" rAppend:=by
  intro pins s σ H x vs v us Q I rx rv h
  obtain ⟨l,xs,y,rfl,rfl,hH,hz,q⟩:=h
  cases rx
  obtain ⟨u,rfl,ru⟩:=rv.one
  obtain ⟨z,its,n,r,hl,e⟩:=I.lstM hH
  refine call_meets F.slot_list_append ⟨_,e,rfl⟩ F.entry_list_append (F.args_list_append_2 _ _) (PySem.list_append l its.toArray n u (by rw [List.size_toArray];omega)) ⟨e,?_⟩
  refine ⟨.non,_,I.lset (its':=its++[u]) hH e (by simp) (r.append (.cons ru .nil)) ?_,rfl,q⟩
  rw [List.length_append,List.length_singleton]
  omega
def rPopAt:V→List V→Hp→VK→Prop:=fun x vs H Q=>∃ l xs i k y,x=.ref l∧vs=[.int i]∧H l=some (.lst xs)∧-(2 ^ 63)≤i∧i < 2 ^ 63∧seqIndex? i xs.length=some k∧xs[k]? = some y∧Q y (upd H l (.lst (xs.eraseIdx k)))
theorem mt_popAt:MtM X "list.pop" rPopAt:=by
  intro pins s σ H x vs v us Q I rx rv h
  obtain ⟨l,xs,i,k,y,rfl,rfl,hH,h1,h2,hk,hy,q⟩:=h
  cases rx
  obtain ⟨u,rfl,ru⟩:=rv.one
  obtain ⟨t,rfl⟩:=ru
  obtain ⟨z,its,n,r,hl,e⟩:=I.lstM hH
  obtain ⟨w,hw,rw'⟩:=r.get hy
  refine call_meets F.slot_list_pop ⟨_,e,rfl⟩ F.entry_list_pop (F.args_list_pop_2 _ _)
    (MeetsSeq.list_pop_at l its.toArray n i t k w (fitsIndex_both h1 h2) (by rw [List.size_toArray,← hl];exact hk) (by rw [← Array.getElem?_toList];exact hw) (by rw [List.size_toArray];omega)) ⟨e,?_⟩
  refine ⟨y,_,I.lset (its':=its.eraseIdx k) hH e ?_ (r.eraseIdx k) ?_,rw',q⟩
  · show its.toArray.eraseIdxIfInBounds k=(its.eraseIdx k).toArray
    rw [List.eraseIdxIfInBounds_toArray]
  · have:=len_erase xs k
    omega
theorem len_rep {α:Type} (xs:List α) (k:Nat):(List.replicate k xs).flatten.length=k * xs.length:=by
  induction k with
  | zero=>simp
  | succ k ih=>rw [List.replicate_succ,List.flatten_cons,List.length_append,ih,Nat.succ_mul,Nat.add_comm]
end
section
variable {prog:Program} {w:World} {A:Around} {E:Value→Shared→Prop} {s:Shared}
set_option maxRecDepth 100000 in
end
section
variable {X:Cx}
end
end L2
namespace L2
open PySem PySem.Spec PyProof.Rows
section
variable {κ:Type} [DecidableEq κ]
def valV (kvs:List (κ × V)) (k:κ):Option V:=(kvs.find? fun kv=>decide (kv.1=k)).map (·.2)
def putK (kvs:List (κ × V)) (k:κ) (v:V):List (κ × V) :=
  if (kvs.any fun kv=>decide (kv.1=k))=true then kvs.map (fun kv=>if kv.1=k then (kv.1,v) else kv) else kvs++[(k,v)]
def dropK (kvs:List (κ × V)) (k:κ):List (κ × V):=kvs.filter fun kv=>decide (kv.1≠k)
theorem valV_pos {p:κ × V} {r:List (κ × V)} {k:κ} (e:p.1=k):valV (p :: r) k=some p.2:=by simp [valV,List.find?_cons,e]
theorem valV_neg {p:κ × V} {r:List (κ × V)} {k:κ} (e:¬ p.1=k):valV (p :: r) k=valV r k:=by simp [valV,List.find?_cons,e]
theorem valV_any (k:κ):∀ kvs:List (κ × V),(kvs.any fun kv=>decide (kv.1=k))=(valV kvs k).isSome
  | []=>rfl
  | p :: r=>by
    rw [List.any_cons]
    by_cases e:p.1=k
    · simp only [valV_pos e,decide_eq_true e,Bool.true_or,Option.isSome_some]
    · rw [valV_neg e,decide_eq_false e,Bool.false_or];exact valV_any k r
theorem length_putK (kvs:List (κ × V)) (k:κ) (v:V):(putK kvs k v).length≤kvs.length+1:=by
  unfold putK
  split
  · rw [List.length_map];omega
  · rw [List.length_append,List.length_cons,List.length_nil];omega
theorem putK_new {kvs:List (κ × V)} {k:κ} (v:V) (h:valV kvs k=none):putK kvs k v=kvs++[(k,v)]:=by
  unfold putK
  rw [valV_any,h]
  exact if_neg (by decide)
theorem RelO.isSome_eq {o:Option V} {u:Option Value} (r:RelO o u):o.isSome=u.isSome:=by
  cases o with
  | none=>cases u with
    | none=>rfl
    | some _=>exact (show False from r).elim
  | some _=>cases u with
    | none=>exact (show False from r).elim
    | some _=>rfl
theorem RelO.getD {o:Option V} {u:Option Value} {d:V} {d':Value} (r:RelO o u) (rd:RelV d d'):RelV (o.getD d) (u.getD d'):=by
  cases o with
  | none=>cases u with
    | none=>exact rd
    | some _=>exact (show False from r).elim
  | some _=>cases u with
    | none=>exact (show False from r).elim
    | some _=>exact r
theorem KV.val {kvs:List (κ × V)} {vs:List (κ × Value)} (r:KV kvs vs) (k:κ):RelO (valV kvs k) (valueAt vs k):=by
  unfold KV at r
  induction r with
  | nil=>exact True.intro
  | @cons p q ps qs h t ih =>
    obtain ⟨h1,h2⟩:=h
    by_cases e:p.1=k
    · have e':q.1=k:=h1.symm.trans e
      have b:valueAt (q :: qs) k=some q.2:=by simp [valueAt,List.find?_cons,e']
      rw [valV_pos e,b];exact h2
    · have e':¬ q.1=k:=fun z=>e (h1.trans z)
      have b:valueAt (q :: qs) k=valueAt qs k:=by simp [valueAt,List.find?_cons,e']
      rw [valV_neg e,b];exact ih
theorem KV.any {kvs:List (κ × V)} {vs:List (κ × Value)} (r:KV kvs vs) (k:κ):(kvs.any fun kv=>decide (kv.1=k))=vs.any fun kv=>decide (kv.1=k):=by
  unfold KV at r
  induction r with
  | nil=>rfl
  | cons h t ih=>rw [List.any_cons,List.any_cons,ih,h.1]
theorem KV.repl {kvs:List (κ × V)} {vs:List (κ × Value)} (r:KV kvs vs) (k:κ) {y:V} {u:Value} (ry:RelV y u) :
    KV (kvs.map fun kv=>if kv.1=k then (kv.1,y) else kv) (vs.map fun kv=>if kv.1=k then (kv.1,u) else kv):=by
  unfold KV at r ⊢
  induction r with
  | nil=>exact .nil
  | @cons p q ps qs h t ih =>
    rw [List.map_cons,List.map_cons]
    refine .cons ?_ ih
    obtain ⟨h1,h2⟩:=h
    by_cases e:p.1=k
    · rw [if_pos e,if_pos (h1.symm.trans e)];exact ⟨h1,ry⟩
    · rw [if_neg e,if_neg (fun z=>e (h1.trans z))];exact ⟨h1,h2⟩
theorem KV.put {kvs:List (κ × V)} {vs:List (κ × Value)} (r:KV kvs vs) (k:κ) {y:V} {u:Value} (ry:RelV y u):KV (putK kvs k y) (stored vs k u):=by
  unfold putK stored
  rw [r.any k]
  by_cases e:(vs.any fun kv=>decide (kv.1=k))=true
  · rw [if_pos e,if_pos e];exact r.repl k ry
  · rw [if_neg e,if_neg e];exact Paired.snoc r ⟨rfl,ry⟩
theorem KV.drop {kvs:List (κ × V)} {vs:List (κ × Value)} (r:KV kvs vs) (k:κ):KV (dropK kvs k) (without vs k):=by
  unfold KV at r ⊢
  unfold dropK without
  induction r with
  | nil=>exact .nil
  | @cons p q ps qs h t ih =>
    obtain ⟨h1,h2⟩:=h
    rw [List.filter_cons,List.filter_cons]
    by_cases e:p.1=k
    · have a:¬ decide (p.1≠k)=true:=by simp [e]
      have b:¬ decide (q.1≠k)=true:=by simp [h1.symm.trans e]
      rw [if_neg a,if_neg b];exact ih
    · have e':¬ q.1=k:=fun z=>e (h1.trans z)
      have a:decide (p.1≠k)=true:=by simp [e]
      have b:decide (q.1≠k)=true:=by simp [e']
      rw [if_pos a,if_pos b];exact .cons ⟨h1,h2⟩ ih
theorem KV.keys {kvs:List (κ × V)} {vs:List (κ × Value)} (r:KV kvs vs):kvs.map (·.1)=vs.map (·.1):=by
  unfold KV at r
  induction r with
  | nil=>rfl
  | cons h t ih=>rw [List.map_cons,List.map_cons,ih,h.1]
theorem KV.length {kvs:List (κ × V)} {vs:List (κ × Value)} (r:KV kvs vs):kvs.length=vs.length:=Paired.length r
end
theorem kV_is {P:Program} {w:World} {k:Key} {u:Value} (r:RelV (kV k) u):(mixKind P w).is k u=true:=by
  cases k with
  | inl i=>obtain ⟨t,e⟩:=(show ∃ t,u=Value.int i t from r);subst e;exact mixKind_int P w i t
  | inr x=>obtain ⟨t,e⟩:=(show ∃ t,u=Value.str x t from r);subst e;exact mixKind_str P w x t
theorem items_are {P:Program} {w:World}:∀ {ks:List Key} {us:List Value},Vals (ks.map kV) us→ItemsAre (mixKind P w) ks us
  | [],_,r=>by rw [List.map_nil] at r;cases r;exact .nil
  | k :: ks,_,r=>by
    rw [List.map_cons] at r
    cases r with
    | cons h t=>exact .cons (kV_is h) (items_are t)
abbrev KT (H:Hp):List (List Key × V)→List (List Key × Addr × Value)→Prop:=Paired fun p q=>p.1=q.1∧H q.2.1=some (.tup (p.1.map kV))∧RelV p.2 q.2.2
theorem KT.val {H:Hp} {kvs:List (List Key × V)} {xs:List (List Key × Addr × Value)} (r:KT H kvs xs) (k:List Key):RelO (valV kvs k) ((atKey xs k).map (·.2)):=by
  induction r with
  | nil=>exact True.intro
  | @cons p q ps qs h t ih =>
    obtain ⟨h1,_,h2⟩:=h
    by_cases e:p.1=k
    · have e':q.1=k:=h1.symm.trans e
      have b:atKey (q :: qs) k=some q.2:=by simp [atKey,List.find?_cons,e']
      rw [valV_pos e,b];exact h2
    · have e':¬ q.1=k:=fun z=>e (h1.trans z)
      have b:atKey (q :: qs) k=atKey qs k:=by simp [atKey,List.find?_cons,e']
      rw [valV_neg e,b];exact ih
theorem KT.repl {H:Hp} {kvs:List (List Key × V)} {xs:List (List Key × Addr × Value)} (r:KT H kvs xs) (k:List Key) {y:V} {u:Value} (ry:RelV y u) :
    KT H (kvs.map fun kv=>if kv.1=k then (kv.1,y) else kv) (xs.map (putAt k u)):=by
  induction r with
  | nil=>exact .nil
  | @cons p q ps qs h t ih =>
    rw [List.map_cons,List.map_cons]
    refine .cons ?_ ih
    obtain ⟨h1,h2,h3⟩:=h
    unfold putAt
    by_cases e:p.1=k
    · rw [if_pos e,if_pos (h1.symm.trans e)];exact ⟨h1,h2,ry⟩
    · rw [if_neg e,if_neg (fun z=>e (h1.trans z))];exact ⟨h1,h2,h3⟩
theorem KT.put {H:Hp} {kvs:List (List Key × V)} {xs:List (List Key × Addr × Value)} (r:KT H kvs xs) (k:List Key) {b:Addr} {y:V} {u:Value} (hb:H b=some (.tup (k.map kV))) (ry:RelV y u) :
    KT H (putK kvs k y) (storedH xs k b u):=by
  have e:(kvs.any fun kv=>decide (kv.1=k))=(atKey xs k).isSome:=by
    rw [valV_any,(r.val k).isSome_eq,Option.isSome_map]
  unfold putK storedH
  rw [e]
  by_cases q:(atKey xs k).isSome=true
  · rw [if_pos q,if_pos q];exact r.repl k ry
  · rw [if_neg q,if_neg q];exact Paired.snoc r ⟨rfl,hb,ry⟩
theorem KT.keeps {H H':Hp} {kvs:List (List Key × V)} {xs:List (List Key × Addr × Value)} (r:KT H kvs xs) (ht:∀ b ys,H b=some (.tup ys)→H' b=some (.tup ys)):KT H' kvs xs :=
  Paired.mapP r fun _ _ z=>⟨z.1,ht _ _ z.2.1,z.2.2⟩
section
variable {P:Program} {w:World} {H:Hp} {h:Heap} {a:Addr}
theorem rd_of {u:HO} (ok:HOk P w H h) (e:Rd H a u):ObjOk P w H h a u:=e.ok ok
theorem dk_rd {kvs:List (Key × V)} (ok:HOk P w H h) (e:Rd H a (.dK kvs)):kvs.length≤sizeLine∧(a == sysModules)=false∧∃ vs,KV kvs vs∧h.DictOf (mixKind P w) a vs :=
  show ObjOk P w H h a (.dK kvs) from rd_of ok e
theorem dk_of {kvs:List (Key × V)} (ok:HOk P w H h) (e:H a=some (.dK kvs)):kvs.length≤sizeLine∧(a == sysModules)=false∧∃ vs,KV kvs vs∧h.DictOf (mixKind P w) a vs:=dk_rd ok (.inl e)
theorem key_of {ks:List Key} (ok:HOk P w H h) (e:H a=some (.tup (ks.map kV))):(tupleKind (mixKind P w)).is h ks a:=by
  obtain ⟨_,its,r,⟨o,h1,h2,n,h3⟩,_⟩:=(show ObjOk P w H h a (.tup (ks.map kV)) from ok a _ e)
  exact ⟨o,its.toArray,n,h1,h2,h3,by simpa using items_are r⟩
theorem dt_rd {kvs:List (List Key × V)} (ok:HOk P w H h) (e:Rd H a (.dT kvs)):kvs.length≤sizeLine∧(a == sysModules)=false ∧
    ∃ xs,KT H kvs xs∧h.DictOfH (tupleKind (mixKind P w)) a xs:=by
  obtain ⟨z,y,xs,r,o,es,ep,h1,h2,h3,h4,h5⟩:=(show ObjOk P w H h a (.dT kvs) from rd_of ok e)
  refine ⟨z,y,xs,r,o,es,ep,h1,h2,h3,h4,fun x hx=>?_,h5⟩
  have all:∀ {l:List (List Key × V)} {m:List (List Key × Addr × Value)},KT H l m→∀ x∈m,(tupleKind (mixKind P w)).is h x.1 x.2.1:=by
    intro l m q
    induction q with
    | nil=>intro x hx;exact nomatch hx
    | @cons p q ps qs hq t ih =>
      intro x hx
      rcases List.mem_cons.mp hx with e | hx
      · subst e
        exact key_of ok (by rw [← hq.1];exact hq.2.1)
      · exact ih x hx
  exact all r x hx
theorem dt_of {kvs:List (List Key × V)} (ok:HOk P w H h) (e:H a=some (.dT kvs)):kvs.length≤sizeLine∧(a == sysModules)=false ∧
    ∃ xs,KT H kvs xs∧h.DictOfH (tupleKind (mixKind P w)) a xs:=dt_rd ok (.inl e)
end
def DGet (H:Hp) (a:Addr) (y:V) (r:Option V):Prop :=
  (∃ kvs k,Rd H a (.dK kvs)∧y=kV k∧r=valV kvs k)∨∃ kvs k b,Rd H a (.dT kvs)∧y=.ref b∧H b=some (.tup (k.map kV))∧r=valV kvs k
def DPut (H:Hp) (a:Addr) (y v:V) (H':Hp):Prop :=
  (∃ kvs k,H a=some (.dK kvs)∧y=kV k∧kvs.length < sizeLine∧H'=upd H a (.dK (putK kvs k v))) ∨
  ∃ kvs k b,H a=some (.dT kvs)∧y=.ref b∧H b=some (.tup (k.map kV))∧kvs.length < sizeLine∧H'=upd H a (.dT (putK kvs k v))
theorem DGet.k {H:Hp} {a:Addr} {kvs:List (Key × V)} {k:Key} (e:H a=some (.dK kvs)):DGet H a (kV k) (valV kvs k):=.inl ⟨kvs,k,.inl e,rfl,rfl⟩
theorem DGet.t {H:Hp} {a b:Addr} {kvs:List (List Key × V)} {k:List Key} (e:H a=some (.dT kvs)) (eb:H b=some (.tup (k.map kV))):DGet H a (.ref b) (valV kvs k):=.inr ⟨kvs,k,b,.inl e,rfl,eb,rfl⟩
theorem DPut.k {H:Hp} {a:Addr} {kvs:List (Key × V)} {k:Key} {v:V} (e:H a=some (.dK kvs)) (hl:kvs.length < sizeLine):DPut H a (kV k) v (upd H a (.dK (putK kvs k v))):=.inl ⟨kvs,k,e,rfl,hl,rfl⟩
theorem DPut.t {H:Hp} {a b:Addr} {kvs:List (List Key × V)} {k:List Key} {v:V} (e:H a=some (.dT kvs)) (eb:H b=some (.tup (k.map kV))) (hl:kvs.length < sizeLine) :
    DPut H a (.ref b) v (upd H a (.dT (putK kvs k v))):=.inr ⟨kvs,k,b,e,rfl,eb,hl,rfl⟩
section
variable {X:Cx} {pins:List (Addr × Obj)} {σ:St} {H:Hp} {s:Shared} {a:Addr} {y v:V} {u r:Value} {o:Option V} {A:Around} {E:Value→Shared→Prop}
theorem Inv.big (I:Inv X pins σ H s):sysModules < s.heap.objs.size:=by
  have h:mainGlobals < s.heap.objs.size:=(I.mod.glob.keeps I.bk).lt
  exact Nat.lt_trans (by decide) h
theorem d_getItem {Q:Value→Shared→Prop} (hu:A.units+1 < cLine) (I:Inv X pins σ H s) (g:DGet H a y (some v)) (ry:RelV y u) (h:∀ w' s',Inv X pins σ H s'→RelV v w'→Q w' s') :
    wpAny (model X.prog X.w) A (getItem (.ref a) u) Q E s:=by
  rcases g with ⟨kvs,k,e,ey,l⟩ | ⟨kvs,k,b,e,ey,eb,l⟩
  · subst ey
    obtain ⟨z,hd,vs,rel,dd⟩:=dk_rd I.hok e
    obtain ⟨w',hw,rw'⟩:=RelO.some_of (v:=v) (o:=valueAt vs k) (by rw [l];exact rel.val k)
    exact wpAny_getItem_of (kV_is ry) dd.mapOf hw (h w' _ (I.tok _) rw')
  · subst ey
    cases (show u=Value.ref b from ry)
    obtain ⟨z,hd,xs,rel,dd⟩:=dt_rd I.hok e
    obtain ⟨w',hw,rw'⟩:=RelO.some_of (v:=v) (o:=(atKey xs k).map (·.2)) (by rw [l];exact rel.val k)
    obtain ⟨p,hp,hp2⟩:=Option.map_eq_some_iff.mp hw
    refine wpAny_getItem_heap (tupleKind_room_in1 hu) (key_of I.hok eb) dd hp ?_
    rw [hp2]
    exact h w' _ (I.tok _) rw'
theorem d_write {h':Heap} {t':Nat} {ob:HO} (I:Inv X pins σ H s) (mu:Mut (H a)) (hs:Heap.SameBut a s.heap h') (he:∃ q,h'.get? a=some q) (new:ObjOk X.prog X.w (upd H a ob) h' a ob) :
    Inv X pins σ (upd H a ob) { s with heap:=h',toks:=t' } :=
  I.write (x:=a) (e:=a) mu (.inl rfl) (fun b q hb z=>(hs.2 b hb).trans z) he new
theorem dk_new {P:Program} {w:World} {H':Hp} {h':Heap} {kvs:List (Key × V)} {vs:List (Key × Value)} (z:kvs.length≤sizeLine) (hd:(a == sysModules)=false) (rel:KV kvs vs) (dd:h'.DictOf (mixKind P w) a vs) :
    ObjOk P w H' h' a (.dK kvs):=⟨z,hd,vs,rel,dd⟩
theorem d_setItem {H':Hp} {Q:Unit→Shared→Prop} (hu:A.units+1 < cLine) (I:Inv X pins σ H s) (g:DPut H a y v H') (ry:RelV y u) (rv:RelV v r) (h:∀ s',Inv X pins σ H' s'→Q () s') :
    wpAny (model X.prog X.w) A (setItem (.ref a) u r) Q E s:=by
  rcases g with ⟨kvs,k,e,ey,l,eH⟩ | ⟨kvs,k,b,e,ey,eb,l,eH⟩
  · subst ey eH
    obtain ⟨z,hd,vs,rel,dd⟩:=dk_of I.hok e
    have hz:vs.length≤sizeLine:=by rw [← rel.length];exact z
    have hl:(putK kvs k v).length≤sizeLine:=by have:=length_putK kvs k v;omega
    refine wpAny_setItem_pairs (hsz:=hz) (kV_is ry) dd fun h' dd' hs=>h _ ?_
    have he:∃ q,h'.get? a=some q:=let ⟨q,_,_,hq,_⟩:=dd';⟨q,hq⟩
    exact d_write I (by rw [e];exact True.intro) hs he (dk_new hl hd (rel.put k rv) dd')
  · subst ey eH
    cases (show u=Value.ref b from ry)
    obtain ⟨z,hd,xs,rel,dd⟩:=dt_of I.hok e
    have hz:xs.length≤sizeLine:=by rw [← Paired.length rel];exact z
    have hl:(putK kvs k v).length≤sizeLine:=by have:=length_putK kvs k v;omega
    refine wpAny_setItem_heap (hsz:=hz) (tupleKind_room_in1 hu) (key_of I.hok eb) dd fun h' dd' hs=>h _ ?_
    obtain ⟨q,es,ep,hq,h2,h3,h4,_,h5⟩:=dd'
    refine d_write I (by rw [e];exact True.intro) hs ⟨q,hq⟩ ⟨hl,hd,_,(rel.put k eb rv).keeps fun c ys ec=>?_,q,es,ep,hq,h2,h3,h4,h5⟩
    rw [upd_ne (ne_of ec e (fun z=>nomatch z))]
    exact ec
end
section
variable {X:Cx} {pins:List (Addr × Obj)} {σ:St} {H:Hp} {s:Shared} {a:Addr} {kvs:List (Key × V)} {k:Key} {u:Value} {A:Around} {E:Value→Shared→Prop}
end
def NoSl (i:Expr):Prop:=∀ ov iv,subscripted i false ov iv=operate [ov,iv] (getItem ov iv)
theorem subD_of {prog:Program} {w:World} {A:Around} {E:Value→Shared→Prop} {s:Shared} {env:Env} {value slice:Expr} {pos:Pos} {T id:String} {Q:Value→Shared→Prop}
    (hl:typeLookup (.type T) "__getitem__" = pure (some (.builtin id))) (hs:NoSl slice)
    (h:wpAny (model prog w) A (eval value env) (fun o s₁=>wpAny (model prog w) A (eval slice env) (fun i s₂=>s₂.TypeIs o T∧wpAny (model prog w) A (getItem o i) Q E s₂) E s₁) E s) :
    wpAny (model prog w) A (eval (.Subscript value slice pos) env) Q E s:=by
  refine Subscript_ (wpAny_mono h (fun o s₁ h₁=>wpAny_mono h₁ (fun i s₂ h₂=>?_) fun _ _ x=>x) fun _ _ x=>x)
  obtain ⟨hT,h₂⟩:=h₂
  unfold subscriptTail
  refine wpAny_bind ?_
  rw [getitemInPython_of_ne hT.not_modules]
  refine wpAny_bind (wpAny_specialOf hT hl ?_)
  have fin:wpAny (model prog w) A (subscripted slice false o i) (fun r s₃=>wpAny (model prog w) A (letTemporaryGo value o r >>= fun _=>pure r) Q E s₃) E s₂:=by
    rw [hs o i]
    exact wpAny_operating (wpAny_mono h₂ (fun r s₃ h₃=>wpAny_bind (wpAny_letTemporaryGo (wpAny_pure h₃))) fun _ _ x=>x)
  first
    | exact wpAny_pure (wpAny_bind fin)
    | exact wpAny_bind (wpAny_pure (wpAny_bind fin))
    | exact wpAny_bind fin
theorem dict_typeIs {X:Cx} {pins:List (Addr × Obj)} {σ:St} {H:Hp} {s:Shared} {a:Addr} {y:V} {o:Option V} (I:Inv X pins σ H s) (g:DGet H a y o):s.TypeIs (.ref a) "dict":=by
  rcases g with ⟨kvs,k,e,_,_⟩ | ⟨kvs,k,b,e,_,_,_⟩
  · obtain ⟨_,_,vs,_,dd⟩:=dk_rd I.hok e
    exact dd.typeIs
  · obtain ⟨_,_,xs,_,dd⟩:=dt_rd I.hok e
    exact dd.typeIs
def tDGet (td ty:TE):TE:=fun σ H Q=>td σ H fun x H1=>ty σ H1 fun y H2=>∃ a v,x=.ref a∧DGet H2 a y (some v)∧Q v H2
def sDPut (td ty tv:TE):TS:=fun D σ H=>tv σ H fun v H1=>td σ H1 fun x H2=>ty σ H2 fun y H3=>∃ a H4,x=.ref a∧DPut H3 a y v H4∧D.nx σ H4
section
variable {X:Cx} {o i e value:Expr} {pos pos' tpos:Pos} {td ty tv:TE}
theorem pe_dget (hu:X.A.units+1 < cLine) (ho:PE X o td) (hi:PE X i ty) (hs:NoSl i):PE X (.Subscript o i pos) (tDGet td ty):=by
  intro pins s σ H Q I h
  refine subD_of PySem.F.slot_dict_getitem.lookup hs (thn (ho pins s σ H _ I h) fun u s1 ⟨x,H1,I1,rx,q1⟩=>thn (hi pins s1 σ H1 _ I1 q1) fun iv s2 ⟨y,H2,I2,ry,a,v,ex,g,q2⟩=>?_)
  subst ex
  obtain rfl:u=Value.ref a:=rx
  exact ⟨dict_typeIs I2 g,d_getItem hu I2 g ry fun w' s3 I3 rw'=>⟨v,H2,I3,rw',q2⟩⟩
theorem ps_dput (hu:X.A.units+1 < cLine) (ho:PE X o td) (hi:PE X i ty) (hv:PE X value tv) (hs:swapsWith value (some (.Subscript o i pos')) pos.line X.env=pure false) :
    PS X (.Assign [.Subscript o i pos'] value pos) (sDPut td ty tv):=by
  intro pins s σ H D I h
  refine wpAny_Assign_Subscript (thn (hv pins s σ H _ I h) fun r s1 ⟨v,H1,I1,rv,q1⟩=>thn (ho pins s1 σ H1 _ I1 q1) fun u s2 ⟨x,H2,I2,rx,q2⟩=>thn (hi pins s2 σ H2 _ I2 q2) fun iv s3 ⟨y,H3,I3,ry,a,H4,ex,g,q3⟩=>?_) hs
  subst ex
  obtain rfl:u=Value.ref a:=rx
  exact d_setItem hu I3 g ry rv fun s4 I4=>⟨σ,H4,I4,q3⟩
end
theorem dk_empty {P:Program} {w:World} {H:Hp} (h:Heap) (hb:sysModules < h.objs.size):ObjOk P w H (h.push { cls:=.type "dict",data:=.dict #[] }) h.objs.size (.dK []) :=
  ⟨Nat.zero_le _,beq_eq_false_iff_ne.mpr (Ne.symm (Nat.ne_of_lt hb)),[],.nil,Heap.DictOf.new h⟩
def tDNewK:TE:=fun _ H Q=>∀ p,H p=none→Q (.ref p) (upd H p (.dK []))
section
variable {X:Cx} {pos:Pos}
theorem pe_dnewK:PE X (.Dict [] [] pos) tDNewK:=fun pins s σ H Q I h =>
  wpAny_Dict_empty ⟨.ref s.heap.objs.size,_,I.laid (a:=s.heap.objs.size) (o:=.dK []) (t':=s.toks) (fun _ _ q=>Heap.get?_push_of_some _ q) (Nat.le_refl _) (dk_empty s.heap I.big),rfl,h _ (I.hok.fresh (Nat.le_refl _))⟩
end
def tPairs:List (TE × TE)→St→Hp→(List (V × V)→Hp→Prop)→Prop
  | [],_,H,Q=>Q [] H
  | (tk,tv) :: r,σ,H,Q=>tk σ H fun x H1=>tv σ H1 fun y H2=>tPairs r σ H2 fun ps H3=>Q ((x,y) :: ps) H3
abbrev VV:List (V × V)→List (Value × Value)→Prop:=Paired fun p q=>RelV p.1 q.1∧RelV p.2 q.2
def PPs (X:Cx) (pos:Pos) (keys:List (Option Expr)) (values:List Expr) (trs:List (TE × TE)):Prop :=
  ∀ (pins:List (Addr × Obj)) (s:Shared) (σ:St) (H:Hp) (Q:List (V × V)→Hp→Prop),Inv X pins σ H s→tPairs trs σ H Q →
    wpAny (model X.prog X.w) X.A (evalPairs (pairTrees keys values X.env pos)) (fun vs s'=>∃ ps H',Inv X pins σ H' s'∧VV ps vs∧Q ps H') X.xe s
theorem pps_nil {X:Cx} {pos:Pos}:PPs X pos [] [] []:=fun pins s σ H Q I h=>pairTrees_nil_walk ⟨[],H,I,.nil,h⟩
theorem pps_cons {X:Cx} {pos:Pos} {k v:Expr} {ks:List (Option Expr)} {vs:List Expr} {tk tv:TE} {trs:List (TE × TE)} (hk:PE X k tk) (hv:PE X v tv) (hr:PPs X pos ks vs trs) :
    PPs X pos (some k :: ks) (v :: vs) ((tk,tv) :: trs):=fun pins s σ H Q I h =>
  pairTrees_cons_walk (thn (hk pins s σ H _ I h) fun u s1 ⟨x,H1,I1,rx,q1⟩=>thn (hv pins s1 σ H1 _ I1 q1) fun w2 s2 ⟨y,H2,I2,ry,q2⟩ =>
    thn (hr pins s2 σ H2 _ I2 q2) fun ws s3 ⟨ps,H3,I3,rel,q3⟩=>⟨(x,y) :: ps,H3,I3,.cons ⟨rx,ry⟩ rel,q3⟩)
def mergeK (kvs more:List (Key × V)):List (Key × V):=more.foldl (fun acc kv=>putK acc kv.1 kv.2) kvs
theorem KV.merge:∀ {more:List (Key × V)} {rs:List (Key × Value)} {kvs:List (Key × V)} {vs:List (Key × Value)},KV more rs→KV kvs vs→KV (mergeK kvs more) (merged vs rs):=by
  intro more rs kvs vs r
  unfold KV at r
  induction r generalizing kvs vs with
  | nil=>intro q;exact q
  | @cons p q ps qs h t ih =>
    intro r0
    have e:KV (putK kvs p.1 p.2) (stored vs q.1 q.2):=by
      have:=r0.put p.1 h.2
      rw [← h.1];exact this
    exact ih e
theorem length_mergeK:∀ (more kvs:List (Key × V)),(mergeK kvs more).length≤kvs.length+more.length
  | [],kvs=>by show kvs.length≤kvs.length+0;omega
  | p :: r,kvs=>by
    have h1:=length_mergeK r (putK kvs p.1 p.2)
    have h2:=length_putK kvs p.1 p.2
    show (mergeK (putK kvs p.1 p.2) r).length≤_
    rw [List.length_cons];omega
theorem carries_of {P:Program} {w:World}:∀ {kvs:List (Key × V)} {ws:List (Value × Value)},VV (kvs.map fun kv=>(kV kv.1,kv.2)) ws→∃ rs,Carries (mixKind P w) ws rs∧KV kvs rs
  | [],_,r=>by rw [List.map_nil] at r;cases r;exact ⟨[],True.intro,.nil⟩
  | p :: kvs,_,r=>by
    rw [List.map_cons] at r
    cases r with
    | @cons a b as bs h t =>
      obtain ⟨rs,c,q⟩:=carries_of (P:=P) (w:=w) t
      obtain ⟨b1,b2⟩:=b
      exact ⟨(p.1,b2) :: rs,⟨kV_is h.1,rfl,c⟩,.cons ⟨rfl,h.2⟩ q⟩
def tDisp (trs:List (TE × TE)):TE:=fun σ H Q=>∀ p,H p=none→tPairs trs σ (upd H p (.dK [])) fun ps H2=>H2 p=some (.dK [])∧∃ kvs:List (Key × V),ps=kvs.map (fun kv=>(kV kv.1,kv.2))∧kvs.length≤15∧Q (.ref p) (upd H2 p (.dK (mergeK [] kvs)))
theorem pe_disp {X:Cx} {pos:Pos} {keys:List (Option Expr)} {values:List Expr} {trs:List (TE × TE)} (h:PPs X pos keys values trs) (hall:keys.all (·.isSome)=true) (hl:keys.length=values.length) (h0:keys≠[])
    (h15:keys.length≤15):PE X (.Dict keys values pos) (tDisp trs):=by
  intro pins s σ H Q I q
  have hn:=I.hok.fresh (Nat.le_refl s.heap.objs.size)
  have I1:=I.laid (a:=s.heap.objs.size) (o:=.dK []) (h':=s.heap.push { cls:=.type "dict",data:=.dict #[] }) (t':=s.toks) (fun _ _ q=>Heap.get?_push_of_some _ q) (Nat.le_refl _) (dk_empty s.heap I.big)
  refine wpAny_Dict_walk (knd:=mixKind X.prog X.w) hall hl h0 h15 (thn (h pins _ σ _ _ I1 (q _ hn)) fun ws s2 ⟨ps,H2,I2,rel,e,kvs,ep,lk,q2⟩=>?_)
  subst ep
  obtain ⟨rs,c,rk⟩:=carries_of (P:=X.prog) (w:=X.w) rel
  obtain ⟨z,hd,vs0,r0,dd⟩:=dk_of I2.hok e
  cases r0
  refine ⟨rs,c,dd,fun h' dd' hs=>⟨.ref s.heap.objs.size,_,?_,rfl,q2⟩⟩
  have hz:(mergeK [] kvs).length≤sizeLine:=by
    have h1:=length_mergeK kvs []
    rw [List.length_nil] at h1
    rw [sizeLine_eq];omega
  have he:∃ q,h'.get? s.heap.objs.size=some q:=let ⟨q,_,_,hq,_⟩:=dd';⟨q,hq⟩
  exact d_write I2 (by rw [e];exact True.intro) hs he (dk_new hz hd (rk.merge .nil) dd')
structure M1 (X:Cx) (o:Expr) (m:Str) (apos:Pos) (e:Expr) (cpos:Pos):Prop where
  base:attributeBase o m X.env (eval o X.env)=eval o X.env
  few:((backTo cpos (starEach [e] X.env)).all (fun x=>!x.1) && (backToKw cpos (keywordEach [] X.env)).all (fun x=>x.1.isSome)
    && decide (([e]:List Expr).length+([]:List Keyword).length+(if ([]:List Keyword).isEmpty then 0 else 1) < 30))=true
  line:(apos.endLine == cpos.line)=true
  trees:backTo cpos (starEach [e] X.env)=[(false,eval e X.env)]
structure M2 (X:Cx) (o:Expr) (m:Str) (apos:Pos) (e f:Expr) (cpos:Pos):Prop where
  base:attributeBase o m X.env (eval o X.env)=eval o X.env
  few:((backTo cpos (starEach [e,f] X.env)).all (fun x=>!x.1) && (backToKw cpos (keywordEach [] X.env)).all (fun x=>x.1.isSome)
    && decide (([e,f]:List Expr).length+([]:List Keyword).length+(if ([]:List Keyword).isEmpty then 0 else 1) < 30))=true
  line:(apos.endLine == cpos.line)=true
  trees:backTo cpos (starEach [e,f] X.env)=[(false,eval e X.env),(false,eval f X.env)]
section
variable {X:Cx} {pins:List (Addr × Obj)} {σ:St} {H:Hp} {s:Shared} {a:Addr} {y d:V} {u r:Value} {o:Option V} {A:Around} {E:Value→Shared→Prop}
end
section
variable {X:Cx} {o e f:Expr} {apos cpos:Pos} {td ty tx:TE}
end
section
variable {X:Cx} {pins:List (Addr × Obj)} {σ:St} {H:Hp} {s:Shared} {a:Addr} {kvs:List (Key × V)} {A:Around} {E:Value→Shared→Prop}
end
section
variable {X:Cx} {pins:List (Addr × Obj)} {σ:St} {H:Hp} {s:Shared} {a:Addr} {y:V} {u:Value} {A:Around} {E:Value→Shared→Prop}
end
end L2
namespace Att
open PySem PySem.W PySem.Calls PyProof.Rows
theorem ints_of_wellAll {P:Params} {h:Heap}:∀ (ns:List Int) (vs:List Value),WellAll P h vs (ns.map WData.int)→IntsAre vs ns:=by
  intro ns
  induction ns with
  | nil =>
    intro vs w
    rw [List.map_nil] at w
    cases w
    exact .nil
  | cons n ns ih =>
    intro vs w
    rw [List.map_cons] at w
    cases w with
    | cons a b =>
      cases a
      exact .cons _ _ (ih _ b)
theorem script_of {l:OpenLaw} {n:Nat} (hn:l.most=some n) {P:Params} {h:Heap} {args:List WData} {vals:List Value}
    (hpre:l.row.toRowW.claim.pre args=true) (hwl:WellAll P h vals args) :
    ∃ a vs ns,vals=[Value.ref a]∧args=[WData.list (ns.map WData.int)]∧h.get? a=some { cls:=.type "list",data:=.seq vs.toArray }∧IntsAre vs ns∧ns.length≤n:=by
  have hsh:WShape.hasAll [] args [.list .int]=true:=(pre_splitW hpre).1
  have hc:l.pre.holds [] { args:=args }=true:=(pre_splitW hpre).2
  obtain ⟨d,r,rfl,h1,h2⟩:=hasAllW_cons hsh
  obtain rfl:=hasAllW_nil h2
  obtain ⟨xs,rfl,h3⟩:=hasW_list h1
  obtain ⟨ns,rfl⟩:=items_int h3
  have hlen:ns.length≤n:=by
    unfold OpenLaw.pre at hc
    have h4:(WTm.not (.lt (.lit (.int (n:Int))) (.len (.arg 0)))).holds [] { args:=[.list (ns.map .int)] }=true:=by
      have h4:=(holds_andW hc).1
      rw [hn] at h4
      exact h4
    have h5:=condW_of h4 (w_not (w_lt w_lit (w_len_list (w_arg rfl))))
    rw [List.length_map] at h5
    refine Nat.le_of_not_lt fun q=>?_
    have q':(n:Int) < ((ns.length:Nat):Int):=by omega
    first
      | (rw [decide_eq_true q'] at h5;exact absurd h5 (by decide))
      | (simp at h5;omega)
  cases hwl with
  | cons w1 w2 =>
    cases w2
    cases w1 with
    | list ho hall=>exact ⟨_,_,ns,rfl,rfl,ho,ints_of_wellAll ns _ hall,hlen⟩
theorem post_true (l:OpenLaw) (args:List WData):l.row.toRowW.claim.post args (.bool true) args=true :=
  postW_of (r:=l.row.toRowW) (X:=(true == true))
    (show WShape.has [] (.bool true) .bool=true by first | rfl | decide | simp [WShape.has,WShape.arms,WShape.armsAll])
    (show (WTm.eq .res (.lit (.bool true))).value [] { args:=args,res:=some (.bool true),after:=args }=some (.bool (true == true)) from w_eq_bool (w_res rfl) w_lit) rfl
theorem attach_call {l:OpenLaw} {n:Nat} {q:Program} {loose:List Str} {XP:(Str→Option Value)→Heap→Prop} {YP:World→Heap→Prop} {d:DefRec}
    (hn:l.most=some n) (hdf:d.params.defaults=[])
    (call:∀ (w:World) (s₀ s₁:Shared) (mg mb:Str→Option Value) (fa:Addr) (o:Obj) (pm cd doc:Value) (a:Addr) (vs:List Value) (ns:List Int),
      Ground q loose [] XP w s₀ mg mb s₁.heap→YP w s₁.heap →
      s₁.heap.get? fa=some o→o.data=.func (docDef d.name d.params d.body d.scope pm cd doc)→s₁.heap.CodeRec cd d.name→mg d.name=some (.ref fa) →
      s₁.heap.get? a=some { cls:=.type "list",data:=.seq vs.toArray }→IntsAre vs ns→ns.length≤n→s₁.gens = #[] →
      codeAny (model l.prog w) callerA (.call (.ref fa) ⟨[.ref a],[]⟩) (fun r s'=>r=.ok (.ret (.bool true))∧OldK s₁.heap s'.heap∧s'.os=s₁.os∧AllBare s'.gens) s₁) :
    WalkO q loose XP YP l.row.toRowW d [] (fun f vs=>PySem.call f vs):=by
  intro w s₀ s₁ mg mb G Y fa o pm cd doc dV kV ho hd hcd hD hmg hg args vals as hpre hlay hrd hwl hlo
  obtain rfl:dV=.none:=Dflts.none hD hdf
  obtain rfl:kV=.none:=Dflts.noKw hD
  obtain ⟨a,vs,ns,rfl,rfl,hobj,hints,hlen⟩:=script_of hn hpre hwl
  refine enter_call (codeAny_mono (call w s₀ s₁ mg mb fa o pm cd doc a vs ns G Y ho (fd_plain hd) hcd hmg hobj hints hlen hg) fun r s' hq=>?_)
  obtain ⟨rfl,h2,h3,h4⟩:=hq
  exact ⟨.inl ⟨.bool true,.bool true,[],rfl,fun _=>rfl,.bool true,post_true l _,fun _=>⟨List.Pairwise.nil,fun _ hm=>(nomatch hm)⟩⟩,h2,h3,h4⟩
section
variable {prog:Program} {w:World} {A:Around} {E:Value→Shared→Prop} {s:Shared} {K:Frag}
def ledger (h:Heap) (L d:Addr):List (Addr × Obj):=(List.range h.objs.size).filterMap fun a=>if a=L∨a=d then none else (h.get? a).map fun o=>(a,o)
end
end Att
namespace L2
open PySem PySem.Spec PyProof.Rows
theorem vals_ints:∀ {vs:List Value} {ns:List Int},IntsAre vs ns→Vals (ns.map V.int) vs
  | _,_,.nil=>.nil
  | _,_,.cons n t h=>.cons ⟨t,rfl⟩ (vals_ints h)
def Only (H:Hp):Prop:=∀ b,H b=none∨∃ o xs,H b=some (.frz o (.lst xs))
theorem law_call {P:Program} {w:World} {K:PySem.W.Frag} {mg mb:Str→Option Value} {CX:CXT} {k:Nat} {fa a:Addr} {fd:FuncData} {x:Str} {sp:Sp} {s₁:Shared} {vs:List Value} {ns:List Int}
    (KX:K.In s₁.heap) (hns:s₁.heap.Ns mainGlobals mg) (hb:s₁.heap.Ns builtinsNs mb) (hbb:∀ x:Str,x≠"__name__"→mb x=bootBuiltins x) (hlim:s₁.heap.NoLimit) (hg:s₁.gens = #[])
    (ha:s₁.heap.get? a=some { cls:=.type "list",data:=.seq vs.toArray }) (hi:IntsAre vs ns) (hl:ns.length≤sizeLine) (hr:Room k callerA)
    (F:∀ base:Heap,K.In base→base.Ns mainGlobals mg→FnOk P w K mg base CX k fa fd [x] sp) (hbind:∀ (s:Shared) (u:Value),BindsTo s fd ⟨[u],[]⟩ [(x,u)])
    (hsp:∀ H:Hp,Only H→SqL K H a (ns.map V.int)→sp [.ref a] H (fun v _=>v=.bl true) fun _ _ _=>False)
    (hCX:∀ H e s',CX [] H s₁ (fun _ _ _=>False) e s'→False) :
    codeAny (model P w) callerA (.call (.ref fa) ⟨[.ref a],[]⟩) (fun r s'=>r=.ok (.ret (.bool true))∧OldK s₁.heap s'.heap∧s'.os=s₁.os∧AllBare s'.gens) s₁:=by
  have rv:=vals_ints hi
  have lenV:=hi.length
  -- from an abstract heap in which nothing but the script may be tracked
  have core:∀ H:Hp,Only H→SqL K H a (ns.map V.int)→HOk P w H s₁.heap→(∀ b,H b≠none→b=a)→(H a≠none→K.lookup a=none) →
      codeAny (model P w) callerA (.call (.ref fa) ⟨[.ref a],[]⟩) (fun r s'=>r=.ok (.ret (.bool true))∧OldK s₁.heap s'.heap∧s'.os=s₁.os∧AllBare s'.gens) s₁:=by
    intro H hO hS hok hA hK
    have base_of:∀ {b:Addr} {o:Obj},s₁.heap.get? b=some o→H b=none→(hidT s₁.heap H).get? b=some o:=fun e n=>hidT_get e n
    have noA:∀ {b:Addr} {o:Obj} {es:Array DictEntry} {ep:Nat},s₁.heap.get? b=some o→o.data=.dict es ep→H b=none:=fun {b o es ep} e d=>by
      cases q:H b with
      | none=>rfl
      | some u =>
        have e':b=a:=hA b (by rw [q];simp)
        subst e'
        rw [ha] at e;cases e
        have d':Data.seq vs.toArray _=Data.dict es ep:=d
        cases d'
    have nsK:∀ {b:Addr} {m:Str→Option Value},s₁.heap.Ns b m→(hidT s₁.heap H).Ns b m:=fun {b m} ⟨o,es,ep,e,d,r⟩=>⟨o,es,ep,base_of e (noA e d),d,r⟩
    have hKb:K.In (hidT s₁.heap H):=fun b o e=>base_of (KX b o e) (by
      cases q:H b with
      | none=>rfl
      | some u =>
        have e':b=a:=hA b (by rw [q];simp)
        subst e'
        rw [hK (by rw [q];simp)] at e;cases e)
    have hM:Mod K mg (hidT s₁.heap H):=⟨hKb,nsK hns,⟨mb,nsK hb,hbb⟩,let ⟨mc,h1,h2⟩:=hlim;⟨mc,nsK h1,h2⟩⟩
    have e0:Env0 P w K mg (hidT s₁.heap H) callerA [] s₁ H:=⟨rfl,hM,fun b o e=>of_hidT e,Nat.le_of_eq (hidT_size _ _),trivial,fun b hb=>absurd (show b∈([]:List Addr) from hb) (by simp),hok,.of_eq hg⟩
    refine codeAny_mono ((F _ hKb (nsK hns)).run callerA [] s₁ H ⟨[.ref a],[]⟩ [.ref a] [.ref a] _ _ hr e0 (hbind s₁ (.ref a)) (.cons rfl .nil) (hsp H hO hS)) fun r s' h=>?_
    cases r with
    | error e=>exact (hCX H e s' h).elim
    | ok fl =>
      cases fl with
      | next=>exact False.elim h
      | brk=>exact False.elim h
      | cont=>exact False.elim h
      | ret u =>
        obtain ⟨v,H',os,bare,un,hok',r',q⟩:=h
        have q':v=.bl true:=q
        subst q'
        obtain rfl:u=Value.bool true:=r'
        refine ⟨rfl,OldK.of_keep fun b o e=>?_,os,bare⟩
        cases q:H b with
        | none=>exact un.keep b o e q (by intro z;exact absurd (show b∈([]:List Addr) from z) (by simp)) (by simp)
        | some u =>
          rcases hO b with z | ⟨ob,xs,z⟩
          · rw [q] at z;cases z
          · have z2:=un.frzs b ob _ z
            obtain ⟨e1,_⟩:=hok b _ z
            obtain ⟨e2,_⟩:=hok' b _ z2
            rw [e] at e1;cases e1
            exact e2
  cases hk:K.lookup a with
  | some o =>
    -- the script is one of the module's own objects
    have e:=KX a o hk
    rw [ha] at e
    cases e
    refine core (fun _=>none) (fun _=>.inl rfl) (.inr ⟨_,vs.toArray,_,hk,rfl,rfl,rfl,by rw [List.size_toArray,lenV];exact hl,by simpa using rv⟩) (fun b u z=>by have z':(none:Option HO)=some u:=z;cases z') (fun b z=>absurd rfl z) fun z=>absurd rfl z
  | none =>
    refine core (fun b=>if b=a then some (.frz { cls:=.type "list",data:=.seq vs.toArray } (.lst (ns.map V.int))) else none) (fun b=>?_) (.inl (.inr ⟨{ cls:=.type "list",data:=.seq vs.toArray },if_pos rfl⟩)) (fun b u z=>?_) (fun b z=>?_) fun _=>hk
    · by_cases hb:b=a
      · exact .inr ⟨_,_,if_pos hb⟩
      · exact .inl (if_neg hb)
    · by_cases hb:b=a
      · have z':=(if_pos hb).symm.trans z
        cases z'
        subst hb
        exact ⟨ha,by rw [List.length_map];exact hl,vs,_,rv,ha⟩
      · have z':=(if_neg hb).symm.trans z
        cases z'
    · by_cases hb:b=a
      · exact hb
      · exact absurd (if_neg hb) z
end L2
namespace L2
open PySem PySem.Spec PyProof.Rows
theorem walk_of {l:PySem.W.OpenLaw} {n k:Nat} {q:Program} {loose:List Str} {XP:(Str→Option Value)→Heap→Prop} {YP:World→Heap→Prop} {d:DefRec} {K:Params→PySem.W.Frag} {CX:World→CXT} {sp:World→Sp} {x:Str}
    (hn:l.most=some n) (hn2:n≤sizeLine) (hdf:d.params.defaults=[]) (hr:Room k callerA)
    (hY:∀ (w:World) (h:Heap),YP w h→(K w.params).In h)
    (F : ∀ (w:World) (mg:Str→Option Value) (fa:Addr) (h:Heap),(K w.params).In h→h.Ns mainGlobals mg→mg d.name=some (.ref fa) →
      ∃ fd:FuncData,(∀ (s:Shared) (u:Value),BindsTo s fd ⟨[u],[]⟩ [(x,u)]) ∧
        ∀ base:Heap,(K w.params).In base→base.Ns mainGlobals mg→FnOk l.prog w (K w.params) mg base (CX w) k fa fd [x] (sp w))
    (hsp:∀ (w:World) (H:Hp) (a:Addr) (ns:List Int),ns.length≤n→Only H→SqL (K w.params) H a (ns.map V.int)→sp w [.ref a] H (fun v _=>v=.bl true) fun _ _ _=>False)
    (hCX:∀ (w:World) (H:Hp) (s:Shared) (e:Value) (s':Shared),CX w [] H s (fun _ _ _=>False) e s'→False) :
    PySem.W.WalkO q loose XP YP l.row.toRowW d [] (fun f vs=>PySem.call f vs):=by
  refine Att.attach_call hn hdf fun w s₀ s₁ mg mb fa o pm cd doc a vs ns G Y ho hd hcd hmg hobj hints hlen hg=>?_
  have KX:=hY w _ Y
  obtain ⟨fd,hb,hF⟩:=F w mg fa _ KX G.T.g hmg
  exact law_call KX G.T.g G.T.b G.T.builtins G.T.nolimit hg hobj hints (Nat.le_trans hlen hn2) hr hF hb (fun H hO hS=>hsp w H a ns hlen hO hS) fun H e s'=>hCX w H s₁ e s'
end L2
namespace L2
open PySem PySem.Spec PyProof.Rows
def defArgs (s:Stmt):Arguments:=match s with
  | .FunctionDef _ a _ _ _ _ _ _ _ _=>a
  | _=>{ posonlyargs:=[],args:=[],vararg:=none,kwonlyargs:=[],kw_defaults:=[],kwarg:=none,defaults:=[] }
def defBody (s:Stmt):List Stmt:=match s with
  | .FunctionDef _ _ b _ _ _ _ _ _ _=>b
  | _=>[]
def defScope (s:Stmt):Scope:=match s with
  | .FunctionDef _ _ _ _ _ _ sc _ _ _=>sc
  | _=>{ kind:=.function,names:=[],isGenerator:=false,isCoroutine:=false }
abbrev CX0:CXT:=fun _ _ _ _ _ _=>False
abbrev E0:XK:=fun _ _ _=>False
theorem pass0 {X:Cx}:Passes CX0 X E0:=fun _ _ _ _ _ _ _ h=>h.elim
structure Fun (K:PySem.W.Frag) (x qual:Str) (st:Stmt) (f:Addr) (fd:FuncData):Prop where
  ex : ∃ (oc:Value) (od:Option Addr) (kV doc pm:Value) (an:Option Addr) (cdv ct:Value) (osl:Array (Option Value)),
    fd=PySem.W.fnOf x qual (defArgs st) (defBody st) (defScope st) .none kV doc pm an cdv ct∧K.lookup f=some ⟨oc,od,.func fd,osl⟩∧PySem.W.codeIn K cdv qual=true
  kp:PySem.W.keepIn K (.ref f)=true
section
variable {P:Program} {w:World} {K:PySem.W.Frag} {mg:Str→Option Value} {base:Heap}
theorem Fun.ok {x qual:Str} {st:Stmt} {f:Addr} {fd:FuncData} {N ps:List Str} {k:Nat} {sp:Sp} (F:Fun K x qual st f fd) (S:FnScope N ps (defScope st)) (len:∀ vs H Q E,sp vs H Q E→vs.length=ps.length)
    (hbody:∀ (cdv:Value) (A:Around) (outer:List Env) (s:Shared) (H:Hp) (vs:List V) (Q:VK) (E:XK),Room k (A.deeper (envOfC qual (defScope st) s.heap.objs.size f cdv))→sp vs H Q E →
      ∃ t,PSs (cxOf CX0 P w K mg base N qual (defScope st) f cdv A outer s H E).nox (defBody st) t∧t { nx:=fun _ H'=>Q .non H',rt:=Q } (start N vs) H):FnOk P w K mg base CX0 (k+1) f fd ps sp:=by
  obtain ⟨oc,od,kV,doc,pm,an,cdv,ct,osl,rfl,lk,hcd⟩:=F.ex
  refine fn_of lk hcd S len fun A outer s H vs Q E hr hsp=>?_
  obtain ⟨t,h,q⟩:=hbody cdv A outer s H vs Q E hr hsp
  exact ⟨t,h.nox,q⟩
theorem Fun.binds {x qual:Str} {st:Stmt} {f:Addr} {fd:FuncData} {ps:List Str} (F:Fun K x qual st f fd)
    (h:∀ (kV doc pm:Value) (an:Option Addr) (cdv ct:Value) (us:List Value),us.length=ps.length→bindArgs (PySem.W.fnOf x qual (defArgs st) (defBody st) (defScope st) .none kV doc pm an cdv ct) ⟨us,[]⟩=pure (ps.zip us)):Binds K fd ps []:=by
  obtain ⟨oc,od,kV,doc,pm,an,cdv,ct,osl,rfl,lk,hcd⟩:=F.ex
  exact .all (h kV doc pm an cdv ct)
theorem fun_mk {x qual:Str} {st:Stmt} {f:Addr} {oc:Value} {od an:Option Addr} {osl:Array (Option Value)} {kV doc pm cdv ct:Value} (l:K.lookup f=some ⟨oc,od,.func (PySem.W.fnOf x qual (defArgs st) (defBody st) (defScope st) .none kV doc pm an cdv ct),osl⟩)
    (c:PySem.W.codeIn K cdv qual=true) (k:PySem.W.keepIn K (.ref f)=true):Fun K x qual st f (PySem.W.fnOf x qual (defArgs st) (defBody st) (defScope st) .none kV doc pm an cdv ct):=⟨⟨oc,od,kV,doc,pm,an,cdv,ct,osl,rfl,l,c⟩,k⟩
end
theorem hu_of {A:Around} {k:Nat} (hr:Room k A):A.units+1 < cLine:=Nat.lt_of_le_of_lt (Nat.add_le_add_left (by decide:1≤64) _) hr.units
theorem small1000 {n:Nat} (h:n≤1000):n < sizeLine:=Nat.lt_of_le_of_lt h (by decide)
section
variable {X:Cx}
theorem pv (i:Nat) {x:Str} {pos:Pos} (hN:X.N[i]? = some x:=by rfl) (hv:Vis X.env.scope x:=by first | exact Or.inl rfl | exact Or.inr (Or.inl rfl) | exact Or.inr (Or.inr rfl)) (hd:(x == ("__debug__" : Str))=false:=by decide)
    (hcd:(x == ("__classdict__" : Str))=false:=by decide):PE X (.Name x pos) (tVar i):=pe_var hN hv hd hcd
end
theorem iteF {A B:Prop} (h:B):if false=true then A else B:=by
  rw [if_neg Bool.false_ne_true]
  exact h
theorem iteT {A B:Prop} (h:A):if true=true then A else B:=by
  rw [if_pos rfl]
  exact h
theorem ite2 {c A B:Prop} [Decidable c] (h1:c→A) (h2:¬ c→B):if c then A else B:=by
  by_cases h:c
  · rw [if_pos h]
    exact h1 h
  · rw [if_neg h]
    exact h2 h
def Same (H H':Hp):Prop:=∀ b o,H b=some o→H' b=some o
theorem Same.refl (H:Hp):Same H H:=fun _ _ h=>h
theorem Same.trans {H H1 H2:Hp} (a:Same H H1) (b:Same H1 H2):Same H H2:=fun c o h=>b c o (a c o h)
theorem Same.free {H H':Hp} (e:Same H H') {l:Addr} (h:H' l=Option.none):H l=Option.none:=by
  cases q:H l with
  | none=>rfl
  | some o =>
    rw [e l o q] at h
    cases h
theorem Same.seq {K:PySem.W.Frag} {H H':Hp} {a:Addr} {xs:List V} (e:Same H H') (h:SqL K H a xs):SqL K H' a xs:=by
  rcases h with (h | ⟨o,h⟩) | h
  · exact .inl (.inl (e _ _ h))
  · exact .inl (.inr ⟨o,e _ _ h⟩)
  · exact .inr h
section
variable {X:Cx}
end
section
variable {κ:Type} [DecidableEq κ]
theorem nd_snoc:∀ {l:List κ} {k:κ},l.Nodup→¬ k∈l→(l++[k]).Nodup
  | [],k,_,_=>by simp
  | a :: r,k,h,hk=>by
    obtain ⟨h1,h2⟩:=List.nodup_cons.mp h
    show (a :: (r++[k])).Nodup
    refine List.nodup_cons.mpr ⟨fun m=>?_,nd_snoc h2 fun m=>hk (List.mem_cons.mpr (Or.inr m))⟩
    rcases List.mem_append.mp m with q | q
    · exact h1 q
    · exact hk (List.mem_cons.mpr (Or.inl (List.mem_singleton.mp q).symm))
end
end L2
namespace L2
open PySem PySem.Spec PyProof.Rows
theorem closure_go {env:Env} (f:Str × NameKind→List (Str × Addr)→Sem (ForInStep (List (Str × Addr))))
    (hf:∀ name kind cs,f (name,kind) cs=if kind == .free then (do let a ← cellOf env name;pure (.yield ((name,a) :: cs))) else pure (.yield cs)) :
    ∀ (names:List (Str × NameKind)) (acc:List (Str × Addr)),(∀ p∈names,p.2=.free→∃ c,env.cells.lookup p.1=some c) →
      (∀ x c,acc.lookup x=some c→env.cells.lookup x=some c) →
      ∃ cl,(forIn names acc f:Sem _)=pure cl∧(∀ x c,cl.lookup x=some c→env.cells.lookup x=some c)∧(∀ p∈names,p.2=.free→(cl.lookup p.1).isSome=true)∧(∀ x,(acc.lookup x).isSome=true→(cl.lookup x).isSome=true)
  | [],acc,_,ha=>⟨acc,by rw [List.forIn_nil],ha,(fun _ h=>by cases h),fun _ h=>h⟩
  | (n,k) :: r,acc,hn,ha=>by
    rw [List.forIn_cons,hf]
    by_cases hk:k=.free
    · subst hk
      obtain ⟨c,hc⟩:=hn (n,.free) List.mem_cons_self rfl
      obtain ⟨cl,e,h1,h2,h3⟩:=closure_go f hf r ((n,c) :: acc) (fun p hp=>hn p (List.mem_cons_of_mem _ hp)) (fun x d hx=>by
        rw [List.lookup_cons] at hx
        cases hb:x == n with
        | true=>rw [hb] at hx;cases hx;rw [beq_iff_eq.mp hb];exact hc
        | false=>rw [hb] at hx;exact ha x d hx)
      refine ⟨cl,?_,h1,fun p hp hpf=>?_,fun x hx=>h3 x ?_⟩
      · have ec:cellOf env n=pure c:=by unfold cellOf;rw [hc]
        rw [if_pos (by rfl),ec]
        simpa using e
      · rcases List.mem_cons.mp hp with z | z
        · subst z;exact h3 n (by rw [List.lookup_cons];simp)
        · exact h2 p z hpf
      · rw [List.lookup_cons]
        cases hb:x == n with
        | true=>rfl
        | false=>exact hx
    · obtain ⟨cl,e,h1,h2,h3⟩:=closure_go f hf r acc (fun p hp=>hn p (List.mem_cons_of_mem _ hp)) ha
      refine ⟨cl,?_,h1,fun p hp hpf=>?_,h3⟩
      · have hb:(k == NameKind.free)=false:=by simpa using hk
        rw [hb]
        simpa using e
      · rcases List.mem_cons.mp hp with z | z
        · subst z;exact absurd hpf hk
        · exact h2 p z hpf
theorem closure_ok {env:Env} {scope:Scope} (h:∀ p∈scope.names,p.2=.free→∃ c,env.cells.lookup p.1=some c) :
    ∃ cl,closureFor scope env=pure cl∧(∀ x c,cl.lookup x=some c→env.cells.lookup x=some c)∧(∀ p∈scope.names,p.2=.free→(cl.lookup p.1).isSome=true):=by
  unfold closureFor
  obtain ⟨cl,e,h1,h2,_⟩:=closure_go (env:=env) (fun x r=>match x,r with
    | (name,kind),cs=>if kind == .free then (do let a ← cellOf env name;pure (.yield ((name,a) :: cs))) else pure (.yield cs)) (fun _ _ _=>rfl) scope.names [] h (fun _ _ z=>nomatch z)
  refine ⟨cl,?_,h1,h2⟩
  have e':=congrArg (fun t:Sem (List (Str × Addr))=>t >>= fun cs=>pure cs) e
  first
    | simpa using e'
    | (simp only [pure_bind,bind_pure] at e' ⊢;exact e')
theorem cells_inj:∀ (names:List (Str × NameKind)) (n:Nat) (acc:List (Str × Addr)),(∀ (x y:Str) (c:Nat),acc.lookup x=some c→acc.lookup y=some c→x=y)→(∀ (x:Str) (c:Nat),acc.lookup x=some c→c < n) →
    (∀ (x y:Str) (c:Nat),(cellsFrom n names acc).lookup x=some c→(cellsFrom n names acc).lookup y=some c→x=y)∧(∀ (x:Str) (c:Nat),(cellsFrom n names acc).lookup x=some c→acc.lookup x=some c∨n≤c)
  | [],n,acc,h,hl=>⟨h,fun _ _ z=>.inl z⟩
  | (nm,k) :: r,n,acc,h,hl=>by
    unfold cellsFrom
    split
    · have lt:∀ (x:Str) (c:Nat),List.lookup x ((nm,n) :: acc)=some c→(x=nm∧c=n)∨(x≠nm∧acc.lookup x=some c):=fun x c e=>by
        rw [List.lookup_cons] at e
        cases hb:x == nm with
        | true=>rw [hb] at e;cases e;exact .inl ⟨beq_iff_eq.mp hb,rfl⟩
        | false=>rw [hb] at e;exact .inr ⟨by simpa using hb,e⟩
      obtain ⟨a,b⟩:=cells_inj r (n+1) ((nm,n) :: acc) (fun x y c e1 e2=>by
        rcases lt x c e1 with ⟨z1,z2⟩ | ⟨z1,z2⟩ <;> rcases lt y c e2 with ⟨w1,w2⟩ | ⟨w1,w2⟩
        · rw [z1,w1]
        · have:=hl y c w2;omega
        · have:=hl x c z2;omega
        · exact h x y c z2 w2) (fun x c e=>by
        rcases lt x c e with ⟨z1,z2⟩ | ⟨z1,z2⟩
        · omega
        · have:=hl x c z2;omega)
      refine ⟨a,fun x c e=>?_⟩
      rcases b x c e with z | z
      · rcases lt x c z with ⟨z1,z2⟩ | ⟨z1,z2⟩
        · exact .inr (by omega)
        · exact .inl z2
      · exact .inr (by omega)
    · exact cells_inj r n acc h hl
theorem cells_out {x:Str}:∀ (names:List (Str × NameKind)) (n:Nat) (acc:List (Str × Addr)),(∀ p∈names,p.1=x→p.2≠.cell)→(cellsFrom n names acc).lookup x=acc.lookup x
  | [],_,_,_=>rfl
  | (nm,k) :: r,n,acc,h=>by
    unfold cellsFrom
    split
    · rename_i hk
      have hk':k=.cell:=by simpa using hk
      have ne:x≠nm:=fun e=>h (nm,k) List.mem_cons_self e.symm hk'
      rw [cells_out r (n+1) ((nm,n) :: acc) fun p hp=>h p (List.mem_cons_of_mem _ hp),List.lookup_cons]
      have:(x == nm)=false:=by simpa using ne
      rw [this]
    · exact cells_out r n acc fun p hp=>h p (List.mem_cons_of_mem _ hp)
theorem own_keep {x:Str} {c:Nat}:∀ (names:List (Str × NameKind)) (n:Nat) (acc:List (Str × Addr)) (d:Nat),acc.lookup x=some d→d≤n→(cellsFrom n names acc).lookup x=some c→d≤c
  | [],_,_,_,h,_,e=>by
    have e':_=some c:=e
    unfold cellsFrom at e'
    rw [h] at e';cases e';exact Nat.le_refl _
  | (nm,k) :: r,n,acc,d,h,hd,e=>by
    unfold cellsFrom at e
    split at e
    · cases hb:x == nm with
      | true =>
        have:=own_keep r (n+1) ((nm,n) :: acc) n (by rw [List.lookup_cons,hb]) (Nat.le_succ _) e
        omega
      | false=>exact own_keep r (n+1) ((nm,n) :: acc) d (by rw [List.lookup_cons,hb];exact h) (Nat.le_succ_of_le hd) e
    · exact own_keep r n acc d h hd e
theorem own_new {x:Str} {c:Nat}:∀ (names:List (Str × NameKind)) (n:Nat) (acc:List (Str × Addr)),(∀ (y:Str) (d:Nat),acc.lookup y=some d→d < n)→names.lookup x=some .cell→(cellsFrom n names acc).lookup x=some c→n≤c
  | [],_,_,_,h,_=>by cases h
  | (nm,k) :: r,n,acc,ha,h,e=>by
    rw [List.lookup_cons] at h
    unfold cellsFrom at e
    cases hb:x == nm with
    | true =>
      rw [hb] at h
      cases h
      rw [if_pos (by rfl)] at e
      by_cases hr:r.lookup x=some .cell
      · have:=own_new r (n+1) ((nm,n) :: acc) (fun y d z=>by
          rw [List.lookup_cons] at z
          cases hy:y == nm with
          | true=>rw [hy] at z;cases z;omega
          | false=>rw [hy] at z;have:=ha y d z;omega) hr e
        omega
      · exact own_keep r (n+1) ((nm,n) :: acc) n (by rw [List.lookup_cons,hb]) (Nat.le_succ _) e
    | false =>
      rw [hb] at h
      split at e
      · have:=own_new r (n+1) ((nm,n) :: acc) (fun y d z=>by
          rw [List.lookup_cons] at z
          cases hy:y == nm with
          | true=>rw [hy] at z;cases z;omega
          | false=>rw [hy] at z;have:=ha y d z;omega) h e
        omega
      · exact own_new r n acc ha h e
theorem cells_are:∀ (names:List (Str × NameKind)) (h:Heap) (acc:List (Str × Addr)) (x:Str) (c:Addr),(∀ x c,acc.lookup x=some c→∃ v,h.IsCell c v)→(cellsFrom h.objs.size names acc).lookup x=some c→∃ v,(pushCells h names).IsCell c v
  | [],h,acc,x,c,ha,e=>ha x c e
  | (nm,k) :: r,h,acc,x,c,ha,e=>by
    unfold cellsFrom at e
    unfold pushCells
    split at e
    · rename_i hk
      rw [if_pos hk]
      refine cells_are r (h.push { cls:=.type "cell",data:=.cell none }) ((nm,h.objs.size) :: acc) x c (fun y d z=>?_) (by rw [Heap.size_push];exact e)
      rw [List.lookup_cons] at z
      cases hb:y == nm with
      | true=>rw [hb] at z;cases z;exact ⟨none,_,Heap.get?_push_size _ rfl,rfl⟩
      | false =>
        rw [hb] at z
        obtain ⟨v,q⟩:=ha y d z
        exact ⟨v,q.keeps fun b o e=>Heap.get?_push_of_some _ e⟩
    · rename_i hk
      rw [if_neg hk]
      exact cells_are r h acc x c ha e
end L2
namespace L2
open PySem PySem.Spec PyProof.Rows
section
variable {prog:Program} {w:World} {A:Around} {E:Value→Shared→Prop} {R:Result→Shared→Prop} {s:Shared}
theorem compLoop_go {elt target iter:Expr} {ifs:List Expr} {scope:Scope} {pos:Pos} {it acc:Value} {env:Env} (I:Nat→Shared→Prop)
    (turn:∀ n s,I n s→wpAny (model prog w) A (pyNext it) (fun r s₁=>match r with
      | none=>R (.ok .next) s₁
      | some v=>wpAny (model prog w) A (letOwnedTupleGo target it v) (fun _ s₁=>wpAny (model prog w) A (assign target env v) (fun _ s₂ =>
          wpAny (model prog w) A (forIn ifs true fun c r=>if r=true then do let ok ← isTrue c env (eval c env);pure (ForInStep.yield ok) else pure (ForInStep.yield r)) (fun ok s₃ =>
            if ok=true then wpAny (model prog w) A (eval elt env) (fun x s₄ =>
              wpAny (model prog w) A (call (.builtin "list.append") [acc,x]) (fun _ s₅=>∃ m,m < n∧I m s₅) (fun _ _=>False) s₄) (fun _ _=>False) s₃
            else ∃ m,m < n∧I m s₃) (fun _ _=>False) s₂) (fun _ _=>False) s₁) (fun _ _=>False) s₁) (fun _ _=>False) s)
    (n:Nat) (h:I n s) :
    codeAny (model prog w) A (.compLoop (.ListComp elt [⟨target,iter,ifs,0⟩] scope pos) 0 it acc env) R s:=by
  refine codeAny_loop rfl I (fun n s hI=>?_) n h
  show wpAny _ A ((compTurn (.ListComp elt [⟨target,iter,ifs,0⟩] scope pos) 0 it acc env).onRaise (fun x=>do noteFrame x env;theTreesLotGoes x)) _ _ s
  refine wpAny_noted ?_
  rw [compTurn_list]
  refine wpAny_bind (wpAny_standAt (wpAny_bind (wpAny_mono (turn n s hI) (fun r s₁ h₁=>?_) fun _ _ h'=>h'.elim)))
  cases r with
  | none=>exact wpAny_pure h₁
  | some v =>
    refine wpAny_bind (wpAny_mono h₁ (fun _ s₁ h₁=>?_) fun _ _ h'=>h'.elim)
    refine wpAny_bind (wpAny_mono h₁ (fun _ s₂ h₂=>wpAny_bind (wpAny_mono h₂ (fun ok s₃ h₃=>?_) fun _ _ h'=>h'.elim)) fun _ _ h'=>h'.elim)
    cases ok with
    | false=>exact wpAny_pure ⟨rfl,h₃⟩
    | true =>
      exact wpAny_bind (wpAny_bind (wpAny_mono h₃ (fun x s₄ h₄=>wpAny_bind (wpAny_mono h₄ (fun _ s₅ h₅=>wpAny_pure (wpAny_pure ⟨rfl,h₅⟩)) fun _ _ h'=>h'.elim)) fun _ _ h'=>h'.elim))
end
abbrev compCx (X:Cx) (scope:Scope) (N':List Str) (cells:List (Str × Addr)) (C:Addr) (s₀:Shared) (H₀:Hp) (ex:List Addr) (pn:List (Addr × Obj)):Cx where
  prog:=X.prog
  w:=X.w
  K:=X.K
  mg:=X.mg
  base:=X.base
  A:=X.A
  N:=N'
  s₀:=s₀
  H₀:=H₀
  env:={ scope:=relabel scope X.env,locals:=C,globals:=X.env.globals,cells:=cells,qual:=X.env.qual,func:=none,code:=X.env.code,frame:=X.env.frame,builtins:=X.env.builtins }
  outer:=X.stack
  stack:=X.stack
  ex:=ex
  fn:=fun x=>scope.names.lookup x == some .cell
  calm:=X.calm
  pn:=pn
  xe:=fun _ _=>False
def cst (ix:List (Option Nat)) (σ:St):St:=ix.map fun o=>o.bind fun j=>(σ[j]?).bind id
def compChk (X:Cx) (scope:Scope) (N':List Str) (ix:List (Option Nat)):Bool :=
  scope.names.all (fun p=>scope.names.lookup p.1 == some p.2) &&
  scope.names.all (fun p=>!(p.2 == .free) || X.env.scope.names.lookup p.1 == some .cell || X.env.scope.names.lookup p.1 == some .free) &&
  ix.length == N'.length &&
  (N'.zip ix).all (fun p=>match p.2 with | none=>true | some j=>X.N[j]? == some p.1 && scope.names.lookup p.1 == some .free) && scope.kind == .function
def PTs (X:Cx) (ifs:List Expr) (t:TT):Prop :=
  ∀ (pins:List (Addr × Obj)) (s:Shared) (σ:St) (H:Hp) (Q:Bool→Hp→Prop),Inv X pins σ H s→t σ H Q →
    wpAny (model X.prog X.w) X.A (forIn ifs true fun c r=>if r=true then do let ok ← isTrue c X.env (eval c X.env);pure (ForInStep.yield ok) else pure (ForInStep.yield r)) (TP X pins σ Q) X.xe s
def tAll:TT:=fun _ H Q=>Q true H
theorem pts_nil {X:Cx}:PTs X [] tAll:=fun _ _ _ H _ I h=>wpAny_tests_nil ⟨H,I,h⟩
theorem pts_one {X:Cx} {c:Expr} {t:TT} (h:PT X c t):PTs X [c] t:=fun pins s σ H Q I q=>wpAny_tests_one (h pins s σ H Q I q)
def tComp (ix:List (Option Nat)) (wi:TI) (g:TG) (tc:TT) (te:TE):TE:=fun σ H Q=>wi σ H fun J H1=>∃ W:Nat→Nat→List V→St→Hp→Prop,(∃ m,W 0 m [] (cst ix σ) H1)∧∀ i m ys τ H,W i m ys τ H →
  (J.stop i H∧∀ D,H D=none→Q (.ref D) (upd H D (.lst ys))) ∨
  (J.go i H∧ys.length < sizeLine∧∃ N:List V→St→Hp→Prop,(∀ ys' τ' H',N ys' τ' H'→∃ m',m' < m∧W (i+1) m' ys' τ' H') ∧
    ∀ x H',J.yld i H x H'→g x τ H' fun τ2 H2=>tc τ2 H2 fun b H3=>if b=true then te τ2 H3 (fun y H4=>N (ys++[y]) τ2 H4) else N ys τ2 H3)
def rlF (env:Env) (p:Str × NameKind):Str × NameKind:=if (p.2 == NameKind.free && env.scope.kind == .function && env.kindOf p.1 == some .cell)=true then (p.1,NameKind.cell) else (p.1,p.2)
theorem rlF_key (env:Env) (p:Str × NameKind):(rlF env p).1=p.1:=by unfold rlF;split <;> rfl
theorem lookup_key {f:Str × NameKind→Str × NameKind} (hf:∀ p,(f p).1=p.1) (x:Str):∀ names:List (Str × NameKind),(names.map f).lookup x=(names.lookup x).map fun k=>(f (x,k)).2
  | []=>rfl
  | (n,k) :: r=>by
    rw [List.map_cons]
    obtain ⟨a,b,e⟩:∃ a b,f (n,k)=(a,b):=⟨_,_,rfl⟩
    have ha:a=n:=by have:=hf (n,k);rw [e] at this;exact this
    subst ha
    rw [e,List.lookup_cons,List.lookup_cons,lookup_key hf x r]
    cases hb:x == a with
    | true =>
      have:x=a:=beq_iff_eq.mp hb
      subst this
      show some b=some (f (x,k)).2
      rw [e]
    | false=>rfl
theorem relabel_lookup (scope:Scope) (env:Env) (x:Str):(relabel scope env).names.lookup x=(scope.names.lookup x).map fun k=>(rlF env (x,k)).2:=lookup_key (rlF_key env) x scope.names
theorem relabel_look {scope:Scope} {env:Env} {x:Str} (h:scope.names.lookup x=some .free):(relabel scope env).names.lookup x=some .cell∨(relabel scope env).names.lookup x=some .free:=by
  rw [relabel_lookup,h]
  show some (rlF env (x,.free)).2=_∨some (rlF env (x,.free)).2=_
  unfold rlF
  by_cases hc:((x,NameKind.free).snd == NameKind.free && env.scope.kind == ScopeKind.function && env.kindOf (x,NameKind.free).fst == some NameKind.cell)=true
  · rw [if_pos hc];exact .inl rfl
  · rw [if_neg hc];exact .inr rfl
theorem relabel_back {scope:Scope} {env:Env} {x:Str} (h:(relabel scope env).names.lookup x=some .cell∨(relabel scope env).names.lookup x=some .free):scope.names.lookup x=some .cell∨scope.names.lookup x=some .free:=by
  rw [relabel_lookup] at h
  cases e:scope.names.lookup x with
  | none=>rw [e] at h;rcases h with h | h <;> cases h
  | some k =>
    rw [e] at h
    have h':(rlF env (x,k)).2=.cell∨(rlF env (x,k)).2=.free:=by
      rcases h with h | h
      · exact .inl (Option.some.inj h)
      · exact .inr (Option.some.inj h)
    unfold rlF at h'
    split at h'
    · rename_i hc
      have:k=.free:=by
        have:=(Bool.and_eq_true_iff.mp (Bool.and_eq_true_iff.mp hc).1).1
        simpa using this
      exact .inr (by rw [this])
    · rcases h' with z | z
      · have z':k=.cell:=z
        exact .inl (by rw [z'])
      · have z':k=.free:=z
        exact .inr (by rw [z'])
end L2
namespace L2
open PySem PySem.Spec PyProof.Rows
abbrev lobj (its:List Value) (n:Nat):Obj:={ cls:=.type "list",data:=.seq its.toArray n }
section
variable {X:Cx} {pins:List (Addr × Obj)} {σ:St} {H:Hp} {s:Shared}
theorem HOk.add {P:Program} {w:World} {h:Heap} {D:Addr} {o:HO} (x:HOk P w H h) (hn:H D=none) (new:ObjOk P w (upd H D o) h D o):HOk P w (upd H D o) h:=fun b u e=>by
  by_cases hb:b=D
  · subst hb;rw [upd_same] at e;cases e;exact new
  · rw [upd_ne hb] at e
    exact (x b u e).stay (fun c v _ q=>q) (fun c q=>by rw [upd_ne (ne_of_none q hn)];exact q) fun c xs q=>by rw [upd_ne (ne_of_none q hn)];exact q
theorem HOk.but {P:Program} {w:World} {h h':Heap} {C:Addr} (x:HOk P w H h) (hn:H C=none) (sb:Heap.SameBut C h h'):HOk P w H h':=fun b u e=>by
  refine (x b u e).stay (fun c v hc q=>(sb.2 c ?_).trans q) (fun _ q=>q) fun _ _ q=>q
  rintro rfl
  rcases hc with rfl | hc
  · rw [hn] at e;cases e
  · rw [hn] at hc;cases hc
end
theorem comp_inv {X:Cx} {pins:List (Addr × Obj)} {σ:St} {H2:Hp} {s2:Shared} {scope:Scope} {N':List Str} {ix:List (Option Nat)} {cl:List (Str × Addr)} {fp:List Addr}
    (c1:∀ p∈scope.names,scope.names.lookup p.1=some p.2) (c3:ix.length=N'.length)
    (c2:∀ p∈scope.names,p.2=.free→X.env.scope.names.lookup p.1=some .cell∨X.env.scope.names.lookup p.1=some .free)
    (c4:∀ (i:Nat) (x:Str) (j:Nat),N'[i]? = some x→ix[i]? = some (some j)→X.N[j]? = some x∧scope.names.lookup x=some .free) (ck:scope.kind=.function)
    (cl1:∀ x c,cl.lookup x=some c→X.env.cells.lookup x=some c) (cl2:∀ p∈scope.names,p.2=.free→(cl.lookup p.1).isSome=true)
    (I2:Inv X pins σ H2 s2) (f2:∀ b∈fp,FpOk X pins H2 b) (o2:∀ b∈fp,∃ o,s2.heap.get? b=some o∧∀ v,o.data≠.cell v) :
    Inv (compCx X scope N' (cellsFrom (s2.heap.objs.size+2) scope.names cl) (s2.heap.objs.size+1) s2 H2 fp []) [(s2.heap.objs.size,lobj [] 0)] (cst ix σ) H2
      { s2 with heap:=pushCells ((s2.heap.push (lobj [] 0)).push { cls:=.type "dict",data:=.dict #[] }) scope.names }:=by
  have sz3:(s2.heap.push (lobj [] 0)).objs.size=s2.heap.objs.size+1:=Heap.size_push ..
  have sz4:((s2.heap.push (lobj [] 0)).push { cls:=.type "dict",data:=.dict #[] }).objs.size=s2.heap.objs.size+2:=by rw [Heap.size_push,sz3]
  have keep:∀ b o,s2.heap.get? b=some o→(pushCells ((s2.heap.push (lobj [] 0)).push { cls:=.type "dict",data:=.dict #[] }) scope.names).get? b=some o:=fun b o e =>
    pushCells_keeps _ _ b o (Heap.get?_push_of_some _ (Heap.get?_push_of_some _ e))
  have cllt:∀ (x:Str) (c:Nat),cl.lookup x=some c→c < s2.heap.objs.size:=fun x c e=>by
    obtain ⟨v,q⟩:=I2.cell x c (cl1 x c e)
    exact q.lt
  obtain ⟨ci,cc⟩:=cells_inj scope.names (s2.heap.objs.size+2) cl (fun x y c e1 e2=>I2.ok.inj x y c (cl1 x c e1) (cl1 y c e2)) (fun x c e=>by have:=cllt x c e;omega)
  have cell:∀ x c,(cellsFrom (s2.heap.objs.size+2) scope.names cl).lookup x=some c→∃ v,(pushCells ((s2.heap.push (lobj [] 0)).push { cls:=.type "dict",data:=.dict #[] }) scope.names).IsCell c v:=fun x c e=>by
    refine cells_are scope.names _ cl x c (fun y d z=>?_) (by rw [sz4];exact e)
    obtain ⟨v,q⟩:=I2.cell y d (cl1 y d z)
    exact ⟨v,q.keeps fun b o e=>Heap.get?_push_of_some _ (Heap.get?_push_of_some _ e)⟩
  have lt2:∀ (b:Nat),b∈fp→b < s2.heap.objs.size:=fun b hb=>by
    obtain ⟨o,e,_⟩:=o2 b hb
    exact Heap.lt_size e
  refine ⟨⟨I2.ok.mod,ck,I2.ok.glob,I2.ok.blt,Nat.le_succ _,ci,fun x hx=>?_,fun x c hf e=>?_,I2.ok.hd,I2.ok.frames,.inl rfl,fun b hb=>⟨?_,fun x c e=>?_⟩,I2.bs,Nat.le_trans I2.ok.bsz I2.sz,fun b o e hb=>?_,fun b hb z=>?_,I2.stack,I2.stkFree⟩,
    rfl,I2.bare,Un.kept keep,⟨fun _=>none,?_,fun i x v e1 e2 e3=>?_⟩,cell,?_,fun x c e=>?_,fun p hp=>?_,I2.hok.kept keep,?_⟩
  · -- has
    have hx':=relabel_back (scope:=scope) (env:=X.env) (x:=x) hx
    rcases hx' with z | z
    · exact Option.isSome_iff_exists.mp (PySem.W.cellsFrom_some scope.names _ cl (.inl z))
    · exact Option.isSome_iff_exists.mp (PySem.W.cellsFrom_some scope.names _ cl (.inr (cl2 (x,.free) (PySem.mem_of_lookup z) rfl)))
  · -- cab
    have hf':scope.names.lookup x=some .cell:=by simpa using hf
    have:=own_new scope.names (s2.heap.objs.size+2) cl (fun x c e=>by have:=cllt x c e;omega) hf' e
    show s2.heap.objs.size≤c
    omega
  · -- ex: not the frame
    exact Nat.ne_of_lt (Nat.lt_succ_of_lt (lt2 b hb))
  · -- ex: no cell
    rcases cc x c e with z | z
    · exact (f2 b hb).2.2.2.2.1 x c (cl1 x c z)
    · exact Nat.ne_of_gt (Nat.lt_of_lt_of_le (lt2 b hb) (Nat.le_trans (Nat.le_add_right _ 2) z))
  · -- base objects are not iterators
    rcases (f2 b hb).2.2.2.1 with z | z
    · exact I2.ok.noex b o e z
    · exact absurd (Nat.lt_of_lt_of_le (Nat.lt_of_lt_of_le (Heap.lt_size e) I2.ok.bsz) z) (Nat.lt_irrefl _)
  · rcases List.mem_cons.mp (I2.stkSub b z) with q | q
    · exact (f2 b hb).2.1 q
    · exact (f2 b hb).2.2.1 q
  · -- the new frame
    have:=Heap.Ns.new (s2.heap.push (lobj [] 0)) (.type "dict")
    rw [sz3] at this
    exact this.keeps (pushCells_keeps _ _)
  · -- what is seen
    unfold cst at e2
    rw [List.getElem?_map] at e2
    cases ej:ix[i]? with
    | none=>rw [ej] at e2;cases e2
    | some o =>
      rw [ej] at e2
      cases o with
      | none=>cases e2
      | some j =>
        obtain ⟨n1,n2⟩:=c4 i x j e1 ej
        have e2':((σ[j]?).bind id)=some v:=Option.some.inj e2
        have eσ:σ[j]? = some (some v):=by
          cases q:σ[j]? with
          | none=>rw [q] at e2';cases e2'
          | some q'=>rw [q] at e2';cases q' with
            | none=>cases e2'
            | some q''=>cases e2';rfl
        have hv:Vis X.env.scope x:=by
          rcases c2 (x,.free) (PySem.mem_of_lookup n2) rfl with z | z
          · exact .inr (.inl z)
          · exact .inr (.inr z)
        obtain ⟨m,hn,hl⟩:=I2.loc
        obtain ⟨u,ru,lk⟩:=hl j x v n1 eσ hv
        refine ⟨u,ru,.inr ⟨relabel_look (scope:=scope) (env:=X.env) n2,?_⟩⟩
        rcases lk with ⟨z,_⟩ | ⟨_,c,ec,q⟩
        · exfalso
          rcases c2 (x,.free) (PySem.mem_of_lookup n2) rfl with z' | z' <;> (have z2:X.env.scope.names.lookup x=some .local:=z;rw [z2] at z';cases z')
        · refine ⟨c,?_,q.keeps keep⟩
          show (cellsFrom (s2.heap.objs.size+2) scope.names cl).lookup x=some c
          rw [cells_out scope.names _ cl fun p hp e hpc=>by
            have q1:=c1 p hp
            rw [e,n2,hpc] at q1
            cases q1]
          obtain ⟨d,ed⟩:=Option.isSome_iff_exists.mp (cl2 (x,.free) (PySem.mem_of_lookup n2) rfl)
          have:=cl1 x d ed
          rw [ec] at this
          cases this
          exact ed
  · exact I2.hok.fresh (Nat.le_succ _)
  · rcases cc x c e with z | z
    · exact I2.freeC x c (cl1 x c z)
    · exact I2.hok.fresh (by omega)
  · have e:p=(s2.heap.objs.size,lobj [] 0):=by simpa using hp
    subst e
    refine ⟨pushCells_keeps _ _ _ _ (Heap.get?_push_of_some _ (Heap.get?_push_size _ rfl)),I2.hok.fresh (Nat.le_refl _),Nat.ne_of_lt (Nat.lt_succ_self _),fun z=>?_,fun v z=>by cases z⟩
    rcases List.mem_cons.mp (I2.stkSub _ z) with q | q
    · have:=I2.lt;exact absurd (q ▸ this) (Nat.lt_irrefl _)
    · exact I2.nofs (Nat.le_refl _) q
  · show (cst ix σ).length=N'.length
    unfold cst
    rw [List.length_map,c3]
end L2
namespace L2
open PySem PySem.Spec PyProof.Rows
theorem comp_end {X:Cx} {pins pins':List (Addr × Obj)} {σ τ:St} {H2 H':Hp} {s2 s':Shared} {scope:Scope} {N':List Str} {cells:List (Str × Addr)} {fp:List Addr} {C D:Addr} {ys:List V} {its:List Value} {k:Nat} {h':Heap}
    (I2:Inv X pins σ H2 s2) (f2:∀ b∈fp,FpOk X pins H2 b) (I':Inv (compCx X scope N' cells C s2 H2 fp []) pins' τ H' s') (hC:s2.heap.objs.size≤C) (hD:s2.heap.objs.size≤D) (hDC:D≠C)
    (hn:H' D=none) (e:s'.heap.get? D=some (lobj its k)) (hv:Vals ys its) (hz:ys.length≤sizeLine) (sb:Heap.SameBut C s'.heap h'):Inv X pins σ (upd H' D (.lst ys)) { s' with heap:=h' }:=by
  have ne:∀ b o,s2.heap.get? b=some o→b≠C∧b≠D:=fun b o q=>by
    have:=Heap.lt_size q
    exact ⟨Nat.ne_of_lt (Nat.lt_of_lt_of_le this hC),Nat.ne_of_lt (Nat.lt_of_lt_of_le this hD)⟩
  have ok1:HOk X.prog X.w H' h':=HOk.but I'.hok I'.free sb
  have eD:h'.get? D=some (lobj its k):=(sb.2 D hDC).trans e
  have U:=I'.base
  refine I2.call' (s':={ s' with heap:=h' }) (ch:=fp) I'.os ⟨fun b o q n hb hx=>?_,fun b o q n hb hx=>?_,fun b o q n hx=>?_,fun b o q hx=>?_,fun b xs q=>?_,fun b o u q=>?_,fun b ps q=>?_⟩ (HOk.add ok1 hn ⟨hz,its,k,hv,eD⟩) I'.bare fun b hb=>?_
  · exact (sb.2 b (ne b o q).1).trans (U.keep b o q n hb hx)
  · obtain ⟨sl,z⟩:=U.slot b o q n hb hx
    exact ⟨sl,(sb.2 b (ne b o q).1).trans z⟩
  · rw [upd_ne (ne b o q).2];exact U.free b o q n hx
  · obtain ⟨o',z⟩:=U.there b o q hx
    exact ⟨o',(sb.2 b (ne b o q).1).trans z⟩
  · have z:=U.tups b xs q
    rw [upd_ne (ne_of_none z hn)];exact z
  · have z:=U.frzs b o u q
    rw [upd_ne (ne_of_none z hn)];exact z
  · obtain ⟨more,z⟩:=U.tbls b ps q
    exact ⟨more,by rw [upd_ne (ne_of_none z hn)];exact z⟩
  · obtain ⟨_,a1,_,a2,a3,a4⟩:=f2 b hb
    exact ⟨a2,a1,a3,a4⟩
theorem append_un {X:Cx} {τ:St} {H':Hp} {s:Shared} {D:Addr} {its:List Value} {k:Nat} {u:Value} {E:Value→Shared→Prop} {Q:Value→Shared→Prop} (hz:its.length < sizeLine) (e:s.heap.get? D=some (lobj its k))
    (h:∀ h' k',h'.get? D=some (lobj (its++[u]) k')→(∀ b o,b≠D→s.heap.get? b=some o→h'.get? b=some o)→Q .none { s with heap:=h' }) :
    wpAny (model X.prog X.w) X.A (call (.builtin "list.append") [.ref D,u]) Q E s:=by
  refine call_meets F.slot_list_append ⟨_,e,rfl⟩ F.entry_list_append (F.args_list_append_2 _ _) (PySem.list_append D its.toArray k u (by rw [List.size_toArray];omega)) ⟨e,?_⟩
  have q:=PySem.IsL.update e (·.push u)
  have e2:(its++[u]).toArray=its.toArray.push u:=by simp
  refine h _ _ (by show _=some ({ cls:=.type "list",data:=.seq (its++[u]).toArray _ }:Obj);rw [e2];exact q) fun b o hb eb=>(Heap.get?_update_other s.heap _ (Ne.symm hb)).trans eb
theorem pe_comp {X:Cx} {tg iter elt:Expr} {ifs:List Expr} {scope:Scope} {pos:Pos} {N':List Str} {ix:List (Option Nat)} {wi:TI} {g:TG} {tc:TT} {te:TE}
    (hc:X.calm=true) (chk:compChk X scope N' ix=true) (hi:PI X tg iter wi)
    (hg:∀ cells C s₀ H₀ ex pn,PG (compCx X scope N' cells C s₀ H₀ ex pn) tg g)
    (ht:∀ cells C s₀ H₀ ex pn,PTs (compCx X scope N' cells C s₀ H₀ ex pn) ifs tc)
    (he:∀ cells C s₀ H₀ ex pn,PE (compCx X scope N' cells C s₀ H₀ ex pn) elt te)
    (hs:∀ x,foldedSetIterable iter X.env x=pure x:=by intro _;rfl) :
    PE X (.ListComp elt [⟨tg,iter,ifs,0⟩] scope pos) (tComp ix wi g tc te):=by
  intro pins s σ H Q I h
  unfold compChk at chk
  obtain ⟨chk,k5⟩:=Bool.and_eq_true_iff.mp chk
  obtain ⟨chk,k4⟩:=Bool.and_eq_true_iff.mp chk
  obtain ⟨chk,k3⟩:=Bool.and_eq_true_iff.mp chk
  obtain ⟨k1,k2⟩:=Bool.and_eq_true_iff.mp chk
  have c1:∀ p∈scope.names,scope.names.lookup p.1=some p.2:=fun p hp=>by simpa using List.all_eq_true.mp k1 p hp
  have c2:∀ p∈scope.names,p.2=.free→X.env.scope.names.lookup p.1=some .cell∨X.env.scope.names.lookup p.1=some .free:=fun p hp hf=>by
    have:=List.all_eq_true.mp k2 p hp
    rw [hf] at this
    simpa using this
  have c3:ix.length=N'.length:=by simpa using k3
  have ck:scope.kind=.function:=by simpa using k5
  have c4:∀ (i:Nat) (x:Str) (j:Nat),N'[i]? = some x→ix[i]? = some (some j)→X.N[j]? = some x∧scope.names.lookup x=some .free:=fun i x j e1 e2=>by
    have m:(x,some j)∈N'.zip ix:=by
      refine List.mem_of_getElem? (i:=i) ?_
      rw [List.getElem?_zip_eq_some]
      exact ⟨e1,e2⟩
    have:=List.all_eq_true.mp k4 _ m
    have:=Bool.and_eq_true_iff.mp this
    exact ⟨by simpa using this.1,by simpa using this.2⟩
  obtain ⟨cl,ecl,cl1,cl2⟩:=closure_ok (env:=X.env) (scope:=scope) (fun p hp hf=>I.ok.has p.1 (c2 p hp hf))
  rw [eval_ListComp]
  refine wpAny_comprehension_free (use:=none) rfl hs ecl ck (fun y hy hl=>by rw [c1 y hy,hl]) (thn (hi pins s σ H _ I h) fun v s1 h1=>thn h1 fun itv s2 h2=>?_)
  obtain ⟨it,fp,tn,J,H2,e,I2,T,st2,f2,W,⟨m0,w0⟩,turn⟩:=h2
  subst e
  have I5:=comp_inv (N':=N') (ix:=ix) (fp:=fp) c1 c3 c2 c4 ck cl1 cl2 I2 f2 (T.obj _ _ st2)
  refine wpAny_newObj_type ?_
  unfold newFunctionEnv
  refine wpAny_bind (wpAny_alloc ?_)
  refine wpAny_bind (wpAny_layCells _ (fun name kind cells=>by cases hkc:kind == NameKind.cell <;> simp [hkc]) _ _ _ _ ?_)
  refine wpAny_bind ?_
  rw [List.forIn_nil]
  refine wpAny_pure (wpAny_pure ?_)
  have sz3:(s2.heap.push (lobj [] 0)).objs.size=s2.heap.objs.size+1:=Heap.size_push ..
  have sz4:((s2.heap.push (lobj [] 0)).push { cls:=.type "dict",data:=.dict #[] }).objs.size=s2.heap.objs.size+2:=by rw [Heap.size_push,sz3]
  show codeAny (model X.prog X.w) X.A (.compStart (.ListComp elt [⟨tg,iter,ifs,0⟩] scope pos) 0 (.ref it) (.ref s2.heap.objs.size)
    (compCx X scope N' (cellsFrom ((s2.heap.push (lobj [] 0)).push { cls:=.type "dict",data:=.dict #[] }).objs.size scope.names cl) (s2.heap.push (lobj [] 0)).objs.size s2 H2 fp []).env)
    (compPost (model X.prog X.w) X.A X.xe none (EP X pins σ Q) (.ref s2.heap.objs.size) (s2.heap.push (lobj [] 0)).objs.size)
    { s2 with heap:=pushCells ((s2.heap.push (lobj [] 0)).push { cls:=.type "dict",data:=.dict #[] }) scope.names }
  rw [sz4,sz3]
  generalize hcells:cellsFrom (s2.heap.objs.size+2) scope.names cl=cells at I5 ⊢
  have keep5:∀ b o,s2.heap.get? b=some o→(pushCells ((s2.heap.push (lobj [] 0)).push { cls:=.type "dict",data:=.dict #[] }) scope.names).get? b=some o:=fun b o e =>
    pushCells_keeps _ _ b o (Heap.get?_push_of_some _ (Heap.get?_push_of_some _ e))
  generalize hh5:({ s2 with heap:=pushCells ((s2.heap.push (lobj [] 0)).push { cls:=.type "dict",data:=.dict #[] }) scope.names }:Shared)=s5 at I5 ⊢
  have keep5:∀ b o,s2.heap.get? b=some o→s5.heap.get? b=some o:=by rw [← hh5];exact keep5
  have st5:tn 0 s5.heap:=T.keep _ _ _ st2 fun b hb o e=>keep5 b o e
  have lt2:∀ (b:Nat),b∈fp→b < s2.heap.objs.size:=fun b hb=>by
    obtain ⟨o,e,_⟩:=T.obj _ _ st2 b hb
    exact Heap.lt_size e
  -- the iterator within the block
  have stat:∀ {H':Hp} {o:Obj},(∀ b∈fp,H' b=none)→∀ b∈fp,FpOk (compCx X scope N' cells (s2.heap.objs.size+1) s2 H2 fp []) [(s2.heap.objs.size,o)] H' b:=fun {H' o} hn b hb =>
    ⟨hn b hb,(I5.ok.exf b hb).1,I5.ok.exfs b hb,.inl hb,(I5.ok.exf b hb).2,fun p hp=>by
      have e:p=(s2.heap.objs.size,o):=by simpa using hp
      subst e
      exact Nat.ne_of_gt (lt2 b hb)⟩
  have loop:codeAny (model X.prog X.w) X.A (.compLoop (.ListComp elt [⟨tg,iter,ifs,0⟩] scope pos) 0 (.ref it) (.ref s2.heap.objs.size)
      (compCx X scope N' cells (s2.heap.objs.size+1) s2 H2 fp []).env) (compPost (model X.prog X.w) X.A X.xe none (EP X pins σ Q) (.ref s2.heap.objs.size) (s2.heap.objs.size+1)) s5:=by
    refine compLoop_go (fun n s'=>∃ i ys τ H' its k,Inv (compCx X scope N' cells (s2.heap.objs.size+1) s2 H2 fp []) [(s2.heap.objs.size,lobj its k)] τ H' s'∧tn i s'.heap∧(∀ b∈fp,H' b=none)∧Vals ys its∧ys.length≤sizeLine∧W i n ys τ H') ?_ m0
      ⟨0,[],_,H2,[],0,I5,st5,fun b hb=>(f2 b hb).1,.nil,Nat.zero_le _,w0⟩
    rintro n s3 ⟨i,ys,τ,H3,its,k,I3,st3,fr3,hv3,hz3,w3⟩
    rcases turn i n ys τ H3 w3 with ⟨stop,qn⟩ | ⟨go,hlen,N,hN,step⟩
    · refine thn (T.done (compCx X scope N' cells (s2.heap.objs.size+1) s2 H2 fp []) rfl rfl rfl hc i _ s3 τ H3 (fun _ _=>False) I3 (stat fr3) st3 stop) fun r s4 ⟨hr,I4⟩=>?_
      subst hr
      obtain ⟨m,hn,_⟩:=id I4.loc
      obtain ⟨eD,nD,_,_,_⟩:=I4.pin (s2.heap.objs.size,lobj its k) (by simp)
      refine ⟨m,hn,fun h' sb=>⟨.ref s2.heap.objs.size,upd H3 s2.heap.objs.size (.lst ys),?_,rfl,qn _ nD⟩⟩
      exact comp_end I2 f2 I4 (Nat.le_succ _) (Nat.le_refl _) (Nat.ne_of_lt (Nat.lt_succ_self _)) nD eD hv3 hz3 sb
    · refine thn (T.item (compCx X scope N' cells (s2.heap.objs.size+1) s2 H2 fp []) rfl rfl rfl hc i _ s3 τ H3 (fun _ _=>False) I3 (stat fr3) st3 go) fun r s4 ⟨u,hr,h4⟩=>?_
      subst hr
      refine thn h4 fun _ s5' ⟨x,H5,I5',r5,y5,st5',fr5⟩=>?_
      have I6:=I5'.pinned (stat fr5) (T.obj _ _ st5')
      refine thn (hg cells _ s2 H2 fp [] _ s5' τ H5 x u _ I6 r5 (step x H5 y5)) fun _ s6 ⟨τ6,H6,I7,q6⟩=>?_
      refine thn (ht cells _ s2 H2 fp [] _ s6 τ6 H6 _ I7 q6) fun ok s7 ⟨H7,I8,q7⟩=>?_
      have fin:∀ {s8:Shared} {H8:Hp} {its':List Value} {k':Nat} {ys':List V},Inv (compCx X scope N' cells (s2.heap.objs.size+1) s2 H2 fp []) ([(s2.heap.objs.size,lobj its' k')]++pinsAt fp s5'.heap) τ6 H8 s8→Vals ys' its'→ys'.length≤sizeLine→N ys' τ6 H8 →
          ∃ m,m < n∧∃ i ys τ H' its k,Inv (compCx X scope N' cells (s2.heap.objs.size+1) s2 H2 fp []) [(s2.heap.objs.size,lobj its k)] τ H' s8∧tn i s8.heap∧(∀ b∈fp,H' b=none)∧Vals ys its∧ys.length≤sizeLine∧W i m ys τ H':=fun {s8 H8 its' k' ys'} I9 hv hz n9=>by
        obtain ⟨m',hm,w9⟩:=hN ys' τ6 H8 n9
        refine ⟨m',hm,i+1,ys',τ6,H8,its',k',I9.unpinned,T.keep _ _ _ st5' fun b hb o e=>(I9.pin (b,o) (List.mem_append_right _ (List.mem_append_right _ (mem_pinsAt hb e)))).1,fun b hb=>?_,hv,hz,w9⟩
        obtain ⟨o,e,d⟩:=T.obj _ _ st5' b hb
        exact (I9.pin (b,o) (List.mem_append_right _ (List.mem_append_right _ (mem_pinsAt hb e)))).2.1
      cases ok with
      | false=>exact fin I8 hv3 hz3 q7
      | true =>
        refine thn (he cells _ s2 H2 fp [] _ s7 τ6 H7 _ I8 q7) fun y s8 ⟨v8,H8,I9,r8,q8⟩=>?_
        obtain ⟨eD,nD,dL,dF,_⟩:=I9.pin (s2.heap.objs.size,lobj its k) (by simp)
        have hl:=hv3.length
        refine append_un (X:=X) (τ:=τ) (H':=H8) (by omega) eD fun h' k' eD' kp=>?_
        -- the pin on the list is let go,the list turns,and is pinned anew
        have hx:∀ p∈pinsAt fp s5'.heap,p.1≠s2.heap.objs.size:=fun p hp=>by
          have:=lt2 p.1 (of_pinsAt hp).1
          exact Nat.ne_of_lt this
        have J1:Inv (compCx X scope N' cells (s2.heap.objs.size+1) s2 H2 fp []) (pinsAt fp s5'.heap) τ6 H8 s8:=I9.pins_of fun p hp=>I9.pin p (List.mem_append_right _ (List.mem_append_right _ hp))
        have J2:Inv (compCx X scope N' cells (s2.heap.objs.size+1) s2 H2 fp []) (pinsAt fp s5'.heap) τ6 H8 { s8 with heap:=h' }:=J1.turned (t':=s8.toks) (it:=s2.heap.objs.size) kp nD dL (.inr (Nat.le_refl _)) (fun x c e z=>by
          obtain ⟨v,o,ho,hd⟩:=J1.cell x c e
          rw [z,eD] at ho
          cases ho
          cases hd) fun p hp=>hx p (by simpa using hp)
        have J3:Inv (compCx X scope N' cells (s2.heap.objs.size+1) s2 H2 fp []) ([(s2.heap.objs.size,lobj (its++[y]) k')]++pinsAt fp s5'.heap) τ6 H8 { s8 with heap:=h' }:=J2.pins_of fun p hp=>by
          rcases List.mem_append.mp hp with z | z
          · have e:p=(s2.heap.objs.size,lobj (its++[y]) k'):=by simpa using z
            subst e
            exact ⟨eD',nD,dL,dF,fun v z=>by cases z⟩
          · exact J2.pin p (List.mem_append_right _ z)
        exact fin J3 (hv3.append (.cons r8 .nil)) (by rw [List.length_append,List.length_singleton];omega) q8
  exact codeAny_compStart_list loop (T.self X.A 0 s5 _ _ st5 loop)
end L2
namespace L2
open PySem PySem.Spec PyProof.Rows
structure Sure (J:It) (xs:List V) (ok:Hp→Prop):Prop where
  go:∀ i H,i < xs.length→ok H→J.go i H
  yld:∀ i H x H',i < xs.length→ok H→J.yld i H x H'→H'=H∧xs[i]? = some x
  stop:∀ H,ok H→J.stop xs.length H
theorem sure_list {K:PySem.W.Frag} {a:Addr} {xs:List V}:Sure (Itl K a) xs (fun H=>SqL K H a xs) where
  go:=fun i H hi h=>⟨xs,xs[i],h,by simp [hi]⟩
  yld:=fun i H x H' _ h y=>⟨y.1,y.2 xs h⟩
  stop:=fun H h=>⟨xs,h,Nat.le_refl _⟩
theorem sure_tup {K:PySem.W.Frag} {a:Addr} {xs:List V}:Sure (Itt K a) xs (fun H=>SqT K H a xs) where
  go:=fun i H hi h=>⟨xs,xs[i],h,by simp [hi]⟩
  yld:=fun i H x H' _ h y=>⟨y.1,y.2 xs h⟩
  stop:=fun H h=>⟨xs,h,Nat.le_refl _⟩
def rngV (lo:Int) (n:Nat):List V:=(List.range n).map fun (k:Nat)=>V.int (lo+k)
theorem rngV_length (lo:Int) (n:Nat):(rngV lo n).length=n:=by unfold rngV;simp
theorem sure_range {lo:Int} {n:Nat}:Sure (Itr lo n) (rngV lo n) (fun _=>True) where
  go:=fun i H hi h=>by rw [rngV_length] at hi;exact hi
  yld:=fun i H x H' hi h y=>⟨y.1,by
    obtain ⟨_,rfl⟩:=y
    rw [rngV_length] at hi
    unfold rngV
    rw [List.getElem?_map,List.getElem?_range hi]
    rfl⟩
  stop:=fun H h=>by rw [rngV_length];exact Nat.le_refl n
def sign (c:Nat):V:=.str ⟨#[c]⟩
def Its (x:Str):It:=⟨fun i _=>i < x.cps.size,fun i H v H'=>H'=H∧∃ c,x.cps[i]? = some c∧v=sign c,fun i _=>i=x.cps.size⟩
theorem sure_str {x:Str}:Sure (Its x) (x.cps.toList.map sign) (fun _=>True) where
  go:=fun i H hi h=>by
    rw [List.length_map] at hi
    exact hi
  yld:=fun i H v H' _ h y=>⟨y.1,by
    obtain ⟨_,c,e,rfl⟩:=y
    rw [List.getElem?_map,Array.getElem?_toList,e]
    rfl⟩
  stop:=fun H h=>by
    rw [List.length_map]
    rfl
theorem str_walks {P:Program} {w:World} (it:Addr) (x:Str) (t:Tok) {A:Around} (hA:A.handled=none):Walks P w A it [it] [it] x.cps.size (SignAt x) (fun i h=>h.IsStrIter it (strIterType x) x t i):=by
  unfold strIterType
  split
  · exact Walks.strAscii hA it x t
  · exact Walks.strWide hA it x t
theorem str_self {P:Program} {w:World} {it:Addr} {x:Str} {t:Tok} {A:Around} {i:Nat} {s:Shared} {Q:Value→Shared→Prop} {E:Value→Shared→Prop} (st:s.heap.IsStrIter it (strIterType x) x t i) (h:Q (.ref it) s):wpAny (model P w) A (pyIter (.ref it)) Q E s:=by
  unfold strIterType at st
  split at st
  · exact wpAny_pyIter_striter_ascii st h
  · exact wpAny_pyIter_striter_wide st h
theorem str_not (x:Str):["enumerate","zip","dict_itemiterator","dict_reverseitemiterator","odict_iterator","itertools.zip_longest","itertools.pairwise"].contains (strIterType x)=false:=by
  unfold strIterType
  split <;> decide
theorem turn_str {P:Program} {w:World} {K:PySem.W.Frag} {tg:Expr} (it:Addr) (x:Str) (t:Tok):Turn P w K tg (Its x) [it] it (fun i h=>h.IsStrIter it (strIterType x) x t i) where
  mem:=by simp
  obj:=fun i h st b hb=>by
    have e:b=it:=by simpa using hb
    subst e
    obtain ⟨o,e,c,d⟩:=st
    exact ⟨o,e,fun v z=>by rw [d] at z;cases z⟩
  keep:=fun i h h' st k=>by
    obtain ⟨o,e,r⟩:=st
    exact ⟨o,k it (by simp) o e,r⟩
  item:=by
    intro X hP hw hK hc i pins s σ H E I hf st hg
    subst hP hw hK
    obtain ⟨f0,f1,f2,f3,f4,f5⟩:=hf it (by simp)
    refine (str_walks it x t (I.ok.hd hc)).item i s _ _ hg st fun v h' tk hv st' kk=>?_
    obtain ⟨c,u,hcc,rfl⟩:=hv
    have I1:Inv X pins σ H { s with heap:=h',toks:=tk }:=I.turned (fun b o hb e=>kk b o (by simpa using hb) e) f0 f1 f3 f4 f5
    obtain ⟨o,e,cc,d⟩:=id st'
    exact ⟨_,rfl,go_of (s:={ s with heap:=h',toks:=tk }) e cc d (str_not x) ⟨sign c,H,I1,⟨u,rfl⟩,⟨rfl,c,hcc,rfl⟩,st',fun b hb=>(hf b hb).1⟩⟩
  done:=by
    intro X hP hw hK hc i pins s σ H E I hf st hg
    subst hP hw hK
    obtain ⟨f0,f1,f2,f3,f4,f5⟩:=hf it (by simp)
    have e:i=x.cps.size:=hg
    subst e
    exact (str_walks it x t (I.ok.hd hc)).done s _ _ st fun h' tk kk=>⟨rfl,I.turned (fun b o hb e=>kk b o (by simpa using hb) e) f0 f1 f3 f4 f5⟩
  self:=fun _ _ _ _ _ st h=>str_self st h
def iStr (tl:TE):TI:=fun σ H R=>tl σ H fun x H1=>∃ z,x=.str z∧R (Its z) H1
theorem pi_str {X:Cx} {tg l:Expr} {tl:TE} (hl:PE X l tl):PI X tg l (iStr tl):=by
  intro pins s σ H R I h
  refine thn (hl pins s σ H _ I h) fun v s1 ⟨x,H1,I1,r1,q1⟩=>?_
  obtain ⟨z,e,q⟩:=q1
  subst e
  obtain ⟨t,rfl⟩:=r1
  refine wpAny_pyIter_strU ?_
  refine ⟨s1.heap.objs.size,[s1.heap.objs.size],_,_,H1,rfl,I1.kept (t':=s1.toks) fun b o e=>Heap.get?_push_of_some _ e,turn_str _ z t,⟨_,Heap.get?_push_size _ rfl,rfl,rfl⟩,fun b hb=>?_,q⟩
  have e:b=s1.heap.objs.size:=by simpa using hb
  subst e
  exact I1.fpOk (Nat.le_refl _) (I1.hok.fresh (Nat.le_refl _))
theorem for_by {J:It} {xs:List V} {ok:Hp→Prop} {g:TG} {tb:TS} {D:Ends} {σ:St} {H:Hp} (S:Sure J xs ok) (Pv:Nat→St→Hp→Prop) (h0:Pv 0 σ H) (hl:∀ i σ H,i≤xs.length→Pv i σ H→ok H)
    (hs:∀ i x σ H,xs[i]? = some x→Pv i σ H→g x σ H fun σ2 H2=>tb { D with nx:=Pv (i+1),ct:=Pv (i+1),bk:=D.nx } σ2 H2) (hd:∀ σ H,Pv xs.length σ H→D.nx σ H) :
    ∃ W:Nat→Nat→St→Hp→Prop,(∃ m,W 0 m σ H)∧∀ i m σ H,W i m σ H →
      (J.stop i H∧D.nx σ H)∨(J.go i H∧∃ N:St→Hp→Prop,(∀ σ' H',N σ' H'→∃ m',m' < m∧W (i+1) m' σ' H')∧∀ x H',J.yld i H x H'→g x σ H' fun σ2 H2=>tb { D with nx:=N,ct:=N,bk:=D.nx } σ2 H2):=by
  refine ⟨fun i m σ H=>m=xs.length - i∧i≤xs.length∧Pv i σ H,⟨xs.length,by simp,Nat.zero_le _,h0⟩,?_⟩
  rintro i m σ H ⟨rfl,hi,p⟩
  have q:=hl i σ H hi p
  by_cases hlt:i < xs.length
  · refine .inr ⟨S.go i H hlt q,Pv (i+1),fun σ' H' p'=>⟨xs.length - (i+1),by omega,rfl,hlt,p'⟩,fun x H' y=>?_⟩
    obtain ⟨e,y'⟩:=S.yld i H x H' hlt q y
    subst e
    exact hs i x σ _ y' p
  · have e:i=xs.length:=by omega
    subst e
    exact .inl ⟨S.stop H q,hd σ H p⟩
theorem comp_by {J:It} {xs:List V} {ok:Hp→Prop} {g:TG} {tc:TT} {te:TE} {Q:VK} {τ0:St} {H:Hp} (S:Sure J xs ok) (hz:xs.length≤10000) (Pv:Nat→List V→St→Hp→Prop) (h0:Pv 0 [] τ0 H)
    (hl:∀ i ys τ H,i≤xs.length→Pv i ys τ H→ok H∧ys.length≤i)
    (hs:∀ i x ys τ H,xs[i]? = some x→Pv i ys τ H→g x τ H fun τ2 H2=>tc τ2 H2 fun b H3=>if b=true then te τ2 H3 (fun y H4=>Pv (i+1) (ys++[y]) τ2 H4) else Pv (i+1) ys τ2 H3)
    (hd:∀ ys τ H D,Pv xs.length ys τ H→H D=none→Q (.ref D) (upd H D (.lst ys))) :
    ∃ W:Nat→Nat→List V→St→Hp→Prop,(∃ m,W 0 m [] τ0 H)∧∀ i m ys τ H,W i m ys τ H →
      (J.stop i H∧∀ D,H D=none→Q (.ref D) (upd H D (.lst ys))) ∨
      (J.go i H∧ys.length < sizeLine∧∃ N:List V→St→Hp→Prop,(∀ ys' τ' H',N ys' τ' H'→∃ m',m' < m∧W (i+1) m' ys' τ' H') ∧
        ∀ x H',J.yld i H x H'→g x τ H' fun τ2 H2=>tc τ2 H2 fun b H3=>if b=true then te τ2 H3 (fun y H4=>N (ys++[y]) τ2 H4) else N ys τ2 H3):=by
  refine ⟨fun i m ys τ H=>m=xs.length - i∧i≤xs.length∧Pv i ys τ H,⟨xs.length,by simp,Nat.zero_le _,h0⟩,?_⟩
  rintro i m ys τ H ⟨rfl,hi,p⟩
  obtain ⟨q,hy⟩:=hl i ys τ H hi p
  by_cases hlt:i < xs.length
  · refine .inr ⟨S.go i H hlt q,Nat.lt_of_lt_of_le (show ys.length < 10000 by omega) (by decide),Pv (i+1),fun ys' τ' H' p'=>⟨xs.length - (i+1),by omega,rfl,hlt,p'⟩,fun x H' y=>?_⟩
    obtain ⟨e,y'⟩:=S.yld i H x H' hlt q y
    subst e
    exact hs i x ys τ _ y' p
  · have e:i=xs.length:=by omega
    subst e
    exact .inl ⟨S.stop H q,fun D hD=>hd ys τ H D p hD⟩
end L2
namespace L2
open PySem PySem.Spec PyProof.Rows
theorem Inv.newTup {X:Cx} {pins:List (Addr × Obj)} {σ:St} {H:Hp} {s:Shared} {ch:List Addr} {T:Addr} {xs:List V} {its:List Value} {h':Heap} {t':Nat} (I:Inv X pins σ H s) (hch:∀ b∈ch,FpOk X pins H b)
    (k:∀ b o,b ∉ ch→s.heap.get? b=some o→h'.get? b=some o) (hT:s.heap.objs.size≤T) (hv:Vals xs its) (ht:IsTup h' T its.toArray∧Bare h' T) (hz:xs.length≤sizeLine) :
    Inv X pins σ (upd H T (.tup xs)) { s with heap:=h',toks:=t' }:=by
  have neT:∀ b o,s.heap.get? b=some o→b≠T:=fun b o e=>Nat.ne_of_lt (Nat.lt_of_lt_of_le (Heap.lt_size e) hT)
  have neH:∀ b u,H b=some u→b≠T:=fun b u e=>Nat.ne_of_lt (Nat.lt_of_lt_of_le (I.hok.lt e) hT)
  have nch:∀ b u,H b=some u→b ∉ ch:=fun b u e hb=>by rw [(hch b hb).1] at e;cases e
  refine I.step (g':=s.gens) (d':=s.drawn) (ch:=ch) (fun b hb=>?_) (fun b o _ _ hc e _=>k b o hc e) (fun b o _ _ hc e _=>⟨o.slots,k b o hc e⟩) (fun b o _ e n=>?_) (fun b o hc e=>⟨o,k b o hc e⟩)
    (fun b ys e=>?_) (fun b o u e=>?_) (fun b ps e=>⟨#[],?_⟩) (fun m hm=>?_) (fun b u e=>?_) I.bare
  · obtain ⟨_,a1,_,a2,a3,a4⟩:=hch b hb
    exact ⟨a2,a1,a3,a4⟩
  · rw [upd_ne (neT b o e)];exact n
  · rw [upd_ne (neH b _ e)];exact e
  · rw [upd_ne (neH b _ e)];exact e
  · rw [upd_ne (neH b _ e),e];simp
  · obtain ⟨o,es,ep,ho,r⟩:=hm
    exact ⟨o,es,ep,k _ o (fun z=>(hch _ z).2.1 rfl) ho,r⟩
  · by_cases hb:b=T
    · subst hb
      rw [upd_same] at e
      cases e
      exact ⟨hz,its,hv,ht⟩
    · rw [upd_ne hb] at e
      refine (I.hok b u e).stay (fun c v hc q=>k c v ?_ q) (fun c q=>by rw [upd_ne (neH c _ q)];exact q) fun c ys q=>by rw [upd_ne (neH c _ q)];exact q
      rcases hc with z | z
      · rw [z];exact nch b u e
      · exact nch c _ z
def ItP (go:Nat→Hp→Prop) (stop:Nat→Hp→Prop) (at_:Nat→Hp→List V→Prop):It:=⟨go,fun i H v H'=>∃ T ys,H T=none∧v=.ref T∧at_ i H ys∧H'=upd H T (.tup ys),stop⟩
def Ite (K:PySem.W.Frag) (l:Addr):It:=ItP (fun i H=>∃ xs x,SqL K H l xs∧xs[i]? = some x) (fun i H=>∃ xs,SqL K H l xs∧xs.length=i) (fun i H ys=>∃ x,(∀ xs,SqL K H l xs→xs[i]? = some x)∧ys=[.int i,x])
def Itz (K:PySem.W.Frag) (l1 l2:Addr):It:=ItP (fun i H=>∃ xs x ys y,SqL K H l1 xs∧xs[i]? = some x∧SqL K H l2 ys∧ys[i]? = some y) (fun i H=>∃ xs ys,SqL K H l1 xs∧SqL K H l2 ys∧min xs.length ys.length=i)
  (fun i H vs=>∃ x y,(∀ xs,SqL K H l1 xs→xs[i]? = some x)∧(∀ ys,SqL K H l2 ys→ys[i]? = some y)∧vs=[x,y])
structure Sure2 (J:It) (xs:List (List V)) (ok:Hp→Prop):Prop where
  go:∀ i H,i < xs.length→ok H→J.go i H
  yld:∀ i H x H',i < xs.length→ok H→J.yld i H x H'→∃ T ys,H T=none∧x=.ref T∧H'=upd H T (.tup ys)∧xs[i]? = some ys
  stop:∀ H,ok H→J.stop xs.length H
theorem sure_enum {K:PySem.W.Frag} {l:Addr} {xs:List V}:Sure2 (Ite K l) (xs.zipIdx.map fun p=>[.int (p.2:Nat),p.1]) (fun H=>SqL K H l xs) where
  go:=fun i H hi h=>by
    have hi':i < xs.length:=by simpa using hi
    exact ⟨xs,xs[i],h,by simp [hi']⟩
  yld:=fun i H v H' hi h y=>by
    obtain ⟨T,ys,hT,rfl,⟨x,hx,rfl⟩,rfl⟩:=y
    exact ⟨T,_,hT,rfl,rfl,by rw [List.getElem?_map,List.getElem?_zipIdx,hx xs h];simp⟩
  stop:=fun H h=>⟨xs,h,by simp⟩
theorem sure_zip {K:PySem.W.Frag} {l1 l2:Addr} {xs ys:List V}:Sure2 (Itz K l1 l2) ((xs.zip ys).map fun p=>[p.1,p.2]) (fun H=>SqL K H l1 xs∧SqL K H l2 ys) where
  go:=fun i H hi h=>by
    have hi':i < xs.length∧i < ys.length:=by simpa [Nat.lt_min] using hi
    exact ⟨xs,xs[i],ys,ys[i],h.1,by simp [hi'.1],h.2,by simp [hi'.2]⟩
  yld:=fun i H v H' hi h z=>by
    obtain ⟨T,vs,hT,rfl,⟨x,y,hx,hy,rfl⟩,rfl⟩:=z
    refine ⟨T,_,hT,rfl,rfl,?_⟩
    have e:(xs.zip ys)[i]? = some (x,y):=List.getElem?_zip_eq_some.mpr ⟨hx xs h.1,hy ys h.2⟩
    rw [List.getElem?_map,e]
    rfl
  stop:=fun H h=>⟨xs,ys,h.1,h.2,by simp⟩
theorem for_by2 {J:It} {xs:List (List V)} {ok:Hp→Prop} {g:TG} {tb:TS} {D:Ends} {σ:St} {H:Hp} (S:Sure2 J xs ok) (Pv:Nat→St→Hp→Prop) (h0:Pv 0 σ H) (hl:∀ i σ H,i≤xs.length→Pv i σ H→ok H)
    (hs:∀ i ys σ H T,xs[i]? = some ys→Pv i σ H→H T=none→g (.ref T) σ (upd H T (.tup ys)) fun σ2 H2=>tb { D with nx:=Pv (i+1),ct:=Pv (i+1),bk:=D.nx } σ2 H2) (hd:∀ σ H,Pv xs.length σ H→D.nx σ H) :
    ∃ W:Nat→Nat→St→Hp→Prop,(∃ m,W 0 m σ H)∧∀ i m σ H,W i m σ H →
      (J.stop i H∧D.nx σ H)∨(J.go i H∧∃ N:St→Hp→Prop,(∀ σ' H',N σ' H'→∃ m',m' < m∧W (i+1) m' σ' H')∧∀ x H',J.yld i H x H'→g x σ H' fun σ2 H2=>tb { D with nx:=N,ct:=N,bk:=D.nx } σ2 H2):=by
  refine ⟨fun i m σ H=>m=xs.length - i∧i≤xs.length∧Pv i σ H,⟨xs.length,by simp,Nat.zero_le _,h0⟩,?_⟩
  rintro i m σ H ⟨rfl,hi,p⟩
  have q:=hl i σ H hi p
  by_cases hlt:i < xs.length
  · refine .inr ⟨S.go i H hlt q,Pv (i+1),fun σ' H' p'=>⟨xs.length - (i+1),by omega,rfl,hlt,p'⟩,fun x H' y=>?_⟩
    obtain ⟨T,ys,hT,rfl,rfl,y'⟩:=S.yld i H x H' hlt q y
    exact hs i ys σ H T y' p hT
  · have e:i=xs.length:=by omega
    subst e
    exact .inl ⟨S.stop H q,hd σ H p⟩
theorem comp_by2 {J:It} {xs:List (List V)} {ok:Hp→Prop} {g:TG} {tc:TT} {te:TE} {Q:VK} {τ0:St} {H:Hp} (S:Sure2 J xs ok) (hz:xs.length≤10000) (Pv:Nat→List V→St→Hp→Prop) (h0:Pv 0 [] τ0 H)
    (hl:∀ i ys τ H,i≤xs.length→Pv i ys τ H→ok H∧ys.length≤i)
    (hs:∀ i zs ys τ H T,xs[i]? = some zs→Pv i ys τ H→H T=none→g (.ref T) τ (upd H T (.tup zs)) fun τ2 H2=>tc τ2 H2 fun b H3=>if b=true then te τ2 H3 (fun y H4=>Pv (i+1) (ys++[y]) τ2 H4) else Pv (i+1) ys τ2 H3)
    (hd:∀ ys τ H D,Pv xs.length ys τ H→H D=none→Q (.ref D) (upd H D (.lst ys))) :
    ∃ W:Nat→Nat→List V→St→Hp→Prop,(∃ m,W 0 m [] τ0 H)∧∀ i m ys τ H,W i m ys τ H →
      (J.stop i H∧∀ D,H D=none→Q (.ref D) (upd H D (.lst ys))) ∨
      (J.go i H∧ys.length < sizeLine∧∃ N:List V→St→Hp→Prop,(∀ ys' τ' H',N ys' τ' H'→∃ m',m' < m∧W (i+1) m' ys' τ' H') ∧
        ∀ x H',J.yld i H x H'→g x τ H' fun τ2 H2=>tc τ2 H2 fun b H3=>if b=true then te τ2 H3 (fun y H4=>N (ys++[y]) τ2 H4) else N ys τ2 H3):=by
  refine ⟨fun i m ys τ H=>m=xs.length - i∧i≤xs.length∧Pv i ys τ H,⟨xs.length,by simp,Nat.zero_le _,h0⟩,?_⟩
  rintro i m ys τ H ⟨rfl,hi,p⟩
  obtain ⟨q,hy⟩:=hl i ys τ H hi p
  by_cases hlt:i < xs.length
  · refine .inr ⟨S.go i H hlt q,Nat.lt_of_lt_of_le (show ys.length < 10000 by omega) (by decide),Pv (i+1),fun ys' τ' H' p'=>⟨xs.length - (i+1),by omega,rfl,hlt,p'⟩,fun x H' y=>?_⟩
    obtain ⟨T,zs,hT,rfl,rfl,y'⟩:=S.yld i H x H' hlt q y
    exact hs i zs ys τ H T y' p hT
  · have e:i=xs.length:=by omega
    subst e
    exact .inl ⟨S.stop H q,fun D hD=>hd ys τ H D p hD⟩
theorem enum_itemB {P:Program} {w:World} {A:Around} (e it l:Addr) (hei:e≠it) (hle:l≠e) (hli:l≠it) (its:Array Value) (i:Nat) (s:Shared) (Q:Option Value→Shared→Prop) (E:Value→Shared→Prop) (hi:i < its.size)
    (st:(∃ old,IsEnum s.heap e it i old)∧s.heap.IsListIter it l i∧s.heap.IsList l its)
    (q : ∀ T vals h' tk,(∃ t x,its[i]? = some x∧vals = #[.int i t,x])→s.heap.objs.size≤T→h'.IsTuple T vals∧Bare h' T →
      ((∃ x,IsEnumOut h' e it ((i:Int)+1) x T)∧h'.IsListIter it l (i+1)∧h'.IsList l its∧T≠e∧T≠it)→(∀ b o,b ∉ [e,it]→s.heap.get? b=some o→h'.get? b=some o)→Q (some (.ref T)) { s with heap:=h',toks:=tk }) :
    wpAny (model P w) A (pyNext (.ref e)) Q E s:=by
  obtain ⟨⟨old,st1⟩,st2,st3⟩:=st
  have hu:its[i]? = some its[i]:=Array.getElem?_eq_getElem hi
  refine wpAny_pyNext_enum_item st1 st2 st3 hu hei fun g y1 y2 y3 y4 y5=>?_
  have n1:e < s.heap.objs.size:=Heap.lt_size st1
  have n2:it < s.heap.objs.size:=by
    obtain ⟨_,z,_⟩:=st2
    exact Heap.lt_size z
  refine q s.heap.objs.size #[.int i s.toks,its[i]] g (s.toks+1) ⟨_,_,hu,rfl⟩ (Nat.le_refl _) ⟨⟨_,y3,rfl,_,rfl⟩,_,y3,rfl⟩ ⟨⟨_,y1⟩,y2,st3.at fun o z=>y5 l o hle hli z,Nat.ne_of_gt n1,Nat.ne_of_gt n2⟩ fun b o nb z=>y5 b o (fun c=>nb ?_) (fun c=>nb ?_) z
  · rw [c];exact List.mem_cons_self
  · rw [c];exact List.mem_cons_of_mem _ List.mem_cons_self
theorem zip_itemB {P:Program} {w:World} {A:Around} (z TI TO i1 i2 l1 l2:Addr) (D:ZipApart z TI TO i1 i2 l1 l2) (xs ys:Array Value) (i:Nat) (s:Shared) (Q:Option Value→Shared→Prop) (E:Value→Shared→Prop) (hi:i < min xs.size ys.size)
    (st:IsZip s.heap z TI TO .none∧IsPair s.heap TI (.ref i1) (.ref i2)∧(∃ a b,IsPair s.heap TO a b)∧s.heap.IsListIter i1 l1 i∧s.heap.IsListIter i2 l2 i∧s.heap.IsList l1 xs∧s.heap.IsList l2 ys)
    (q : ∀ T vals h' tk,(∃ x y,xs[i]? = some x∧ys[i]? = some y∧vals = #[x,y])→s.heap.objs.size≤T→h'.IsTuple T vals∧Bare h' T →
      (IsZip h' z TI TO (rawInt T)∧IsPair h' TI (.ref i1) (.ref i2)∧(∃ a b,IsPair h' TO a b)∧h'.IsListIter i1 l1 (i+1)∧h'.IsListIter i2 l2 (i+1)∧h'.IsList l1 xs∧h'.IsList l2 ys∧T≠z∧T≠TO∧T≠i1∧T≠i2) →
      (∀ b o,b ∉ [z,TO,i1,i2]→s.heap.get? b=some o→h'.get? b=some o)→Q (some (.ref T)) { s with heap:=h',toks:=tk }) :
    wpAny (model P w) A (pyNext (.ref z)) Q E s:=by
  obtain ⟨k1,k2,⟨a,b,k3⟩,k4,k5,k6,k7⟩:=st
  have e1:xs[i]? = some (xs[i]'(by omega)):=Array.getElem?_eq_getElem (by omega)
  have e2:ys[i]? = some (ys[i]'(by omega)):=Array.getElem?_eq_getElem (by omega)
  refine wpAny_pyNext_zip_item D k1 k2 k3 k4 k5 k6 k7 e1 e2 fun g y1 y2 y3 y4 y5 y6 y7=>?_
  have nn:∀ {c o},s.heap.get? c=some o→s.heap.objs.size≠c:=fun m=>Nat.ne_of_gt (Heap.lt_size m)
  have n3:s.heap.objs.size≠i1:=by
    obtain ⟨_,m,_⟩:=k4
    exact nn m
  have n4:s.heap.objs.size≠i2:=by
    obtain ⟨_,m,_⟩:=k5
    exact nn m
  refine q s.heap.objs.size _ g s.toks ⟨_,_,e1,e2,rfl⟩ (Nat.le_refl _) ⟨⟨_,y5,rfl,_,rfl⟩,_,y5,rfl⟩ ⟨y1,y7 _ _ D.TIz D.TITO D.TIi1 D.TIi2 k2,⟨_,_,y2⟩,y3,y4,k6.at fun o m=>y7 _ o D.l1z D.l1TO D.l1i1 D.l1i2 m,k7.at fun o m=>y7 _ o D.l2z D.l2TO D.l2i1 D.l2i2 m,nn k1,nn k3,n3,n4⟩ fun c o nc m=>?_
  simp only [List.mem_cons,List.not_mem_nil,or_false,not_or] at nc
  exact y7 c o nc.1 nc.2.1 nc.2.2.1 nc.2.2.2 m
theorem turn_enum {P:Program} {w:World} {K:PySem.W.Frag} {elts:List Expr} {k:Nat} {pos:Pos} (l e it:Addr) (hei:e≠it):Turn P w K (.Tuple elts k pos) (Ite K l) [e,it] e (fun i h=>(∃ old,IsEnum h e it i old)∧h.IsListIter it l i) where
  mem:=by simp
  obj:=fun i h st b hb=>by
    obtain ⟨⟨old,he⟩,o,ho,c,d⟩:=st
    rcases List.mem_cons.mp hb with z | z
    · subst z;exact ⟨_,he,fun v z=>by cases z⟩
    · have z:b=it:=by simpa using z
      subst z
      exact ⟨o,ho,fun v z=>by rw [d] at z;cases z⟩
  keep:=fun i h h' st kk=>by
    obtain ⟨⟨old,he⟩,hit⟩:=st
    exact ⟨⟨old,kk e (by simp) _ he⟩,hit.at fun o x=>kk it (by simp) o x⟩
  item:=by
    intro X hP hw hK hc i pins s σ H E I hf st hg
    subst hP hw hK
    obtain ⟨xs,x,hq,hx⟩:=hg
    obtain ⟨its,rv,p,hz⟩:=I.list hq
    obtain ⟨u,hu,ru⟩:=rv.get hx
    obtain ⟨st1,st2⟩:=st
    have hll:∃ o,s.heap.get? l=some o:=let ⟨o,ho,_⟩:=p.isList;⟨o,ho⟩
    have hle:l≠e:=fun z=>by
      obtain ⟨old,he⟩:=st1
      obtain ⟨o,ho,hc,_⟩:=p.isList
      rw [z,he] at ho;cases ho;exact absurd (Value.type.inj hc) (by decide)
    have hli:l≠it:=fun z=>by
      obtain ⟨o',ho',hc',_⟩:=st2
      obtain ⟨o,ho,hc,_⟩:=p.isList
      rw [z,ho'] at ho;cases ho;rw [hc'] at hc;exact absurd (Value.type.inj hc) (by decide)
    have W:=WalksT.enumerate (prog:=X.prog) (w:=X.w) (I.ok.hd hc) e it l hei hle hli its.toArray
    refine enum_itemB e it l hei hle hli its.toArray i s _ _ (by have:=(List.getElem?_eq_some_iff.mp hu).1;simpa using this) ⟨st1,st2,p.isList⟩ fun T vals h' tk hP hT hTu hM kk=>?_
    obtain ⟨t,x',hx',rfl⟩:=hP
    refine ⟨_,rfl,?_⟩
    refine W.go elts k pos i T { s with heap:=h',toks:=tk } _ _ hM fun h2 st' kk2=>?_
    have eu:x'=u:=by
      have:its[i]? = some x':=by simpa using hx'
      rw [hu] at this;exact (Option.some.inj this).symm
    subst eu
    have nT:T ∉ [e,it]:=W.apart i T h' hM
    refine ⟨.ref T,upd H T (.tup [.int i,x]),I.newTup (ch:=[e,it]) (its:=[.int i t,x']) hf (fun b o hb eb=>kk2 b o hb (kk b o hb eb)) hT (.cons ⟨t,rfl⟩ (.cons ru .nil)) ?_ (by show 2≤sizeLine;decide),rfl,
      ⟨T,_,I.hok.fresh hT,rfl,⟨x,fun ys hy=>by rw [I.list_inj hy hq];exact hx,rfl⟩,rfl⟩,⟨by simpa using st'.1,st'.2.1⟩,fun b hb=>?_⟩
    · obtain ⟨⟨o,ho,r⟩,o',ho',r'⟩:=hTu
      exact ⟨⟨o,kk2 T o nT ho,r⟩,o',kk2 T o' nT ho',r'⟩
    · have nb:b≠T:=fun z=>nT (by rw [← z];exact hb)
      rw [upd_ne nb];exact (hf b hb).1
  done:=by
    intro X hP hw hK hc i pins s σ H E I hf st hg
    subst hP hw hK
    obtain ⟨xs,hq,hx⟩:=hg
    obtain ⟨its,rv,p,hz⟩:=I.list hq
    obtain ⟨⟨old,he⟩,st2⟩:=st
    have hl:=rv.length
    refine wpAny_pyNext_enum_end (I.ok.hd hc) he st2 p.isList (by simp;omega) fun h' kk=>⟨rfl,?_⟩
    obtain ⟨f0,f1,f2,f3,f4,f5⟩:=hf it (by simp)
    exact I.turned (t':=s.toks) (fun b o hb e=>kk b o hb e) f0 f1 f3 f4 f5
  self:=fun _ _ _ _ _ st h=>by
    obtain ⟨⟨old,he⟩,_⟩:=st
    exact wpAny_pyIter_enum he h
def iEnum (K:PySem.W.Frag) (ta:TA):TI:=fun σ H R=>ta σ H fun vs H1=>∃ a,vs=[.ref a]∧(∃ xs,SqL K H1 a xs)∧R (Ite K a) H1
theorem pi_enum {X:Cx} {l:Expr} {ta:TA} {elts:List Expr} {k:Nat} {tp p pos:Pos} (hg:Gl X "enumerate") (hm:X.mg "enumerate" = none) (hl:PA X [l] ta) (hs:starEach [l] X.env=[(false,eval l X.env)]:=by rfl) :
    PI X (.Tuple elts k tp) (.Call (.Name "enumerate" p) [l] [] pos) (iEnum X.K ta):=by
  intro pins s σ H R I h
  refine Call_ (ld_blt I hg hm (by first | exact boot_enumerate | decide +kernel) (PyProof.Rows.callWith_type1 (thn (hl pos pins s σ H _ I h) fun us s1 ⟨vs,H1,I1,r1,q1⟩=>?_) hs rfl))
  obtain ⟨a,e,⟨xs,hq⟩,q⟩:=q1
  subst e
  cases r1 with
  | cons r rr =>
    cases rr
    cases r
    obtain ⟨its,rv,p,hz⟩:=I1.list hq
    refine call_enumerate_list p.isList fun h' he hi hsz kk=>?_
    have I2:Inv X pins σ H1 { s1 with heap:=h' }:=I1.kept (t':=s1.toks) kk
    refine wpAny_pyIter_enum (s:={ s1 with heap:=h' }) he ?_
    refine ⟨s1.heap.objs.size+1,[s1.heap.objs.size+1,s1.heap.objs.size],_,_,H1,rfl,I2,turn_enum a _ _ (Nat.succ_ne_self _),⟨⟨_,he⟩,hi⟩,fun b hb=>?_,q⟩
    have:s1.heap.objs.size≤b:=by
      rcases List.mem_cons.mp hb with z | z
      · rw [z];exact Nat.le_succ _
      · have z:b=s1.heap.objs.size:=by simpa using z
        rw [z];exact Nat.le_refl _
    exact I1.fpOk this (I1.hok.fresh this)
theorem turn_zip {P:Program} {w:World} {K:PySem.W.Frag} {elts:List Expr} {k:Nat} {pos:Pos} (l1 l2 z TI TO i1 i2:Addr) (d1:TI≠z) (d2:TO≠z) (d3:i1≠z) (d4:i2≠z) (d5:TI≠TO) (d6:TI≠i1) (d7:TI≠i2) (d8:TO≠i1) (d9:TO≠i2) (d10:i1≠i2) :
    Turn P w K (.Tuple elts k pos) (Itz K l1 l2) [z,TI,TO,i1,i2] z (fun i h=>IsZip h z TI TO .none∧IsPair h TI (.ref i1) (.ref i2)∧(∃ a b,IsPair h TO a b)∧h.IsListIter i1 l1 i∧h.IsListIter i2 l2 i):=by
  have ap:∀ {h:Heap} {i:Nat} {xs:Array Value} {l:Addr},h.IsList l xs→IsZip h z TI TO .none→IsPair h TI (.ref i1) (.ref i2)→(∃ a b,IsPair h TO a b)→h.IsListIter i1 l1 i→h.IsListIter i2 l2 i→l≠z∧l≠TO∧l≠i1∧l≠i2:=by
    intro h i xs l hl h1 h2 h3 h4 h5
    obtain ⟨o,ho,hc,_⟩:=hl
    refine ⟨fun e=>?_,fun e=>?_,fun e=>?_,fun e=>?_⟩
    · rw [e,h1] at ho;cases ho;exact absurd (Value.type.inj hc) (by decide)
    · obtain ⟨a,b,h3⟩:=h3
      rw [e,h3] at ho;cases ho;exact absurd (Value.type.inj hc) (by decide)
    · obtain ⟨o',ho',hc',_⟩:=h4
      rw [e,ho'] at ho;cases ho;rw [hc'] at hc;exact absurd (Value.type.inj hc) (by decide)
    · obtain ⟨o',ho',hc',_⟩:=h5
      rw [e,ho'] at ho;cases ho;rw [hc'] at hc;exact absurd (Value.type.inj hc) (by decide)
  exact {
    mem:=by simp
    obj:=fun i h st b hb=>by
      obtain ⟨h1,h2,⟨a,b',h3⟩,⟨o4,e4,c4,q4⟩,⟨o5,e5,c5,q5⟩⟩:=st
      have hb':b=z∨b=TI∨b=TO∨b=i1∨b=i2:=by simpa using hb
      rcases hb' with e | e | e | e | e
      · rw [e];exact ⟨_,h1,fun v z=>by cases z⟩
      · rw [e];exact ⟨_,h2,fun v z=>by cases z⟩
      · rw [e];exact ⟨_,h3,fun v z=>by cases z⟩
      · rw [e];exact ⟨o4,e4,fun v z=>by rw [q4] at z;cases z⟩
      · rw [e];exact ⟨o5,e5,fun v z=>by rw [q5] at z;cases z⟩
    keep:=fun i h h' st kk=>by
      obtain ⟨h1,h2,⟨a,b',h3⟩,h4,h5⟩:=st
      exact ⟨kk z (by simp) _ h1,kk TI (by simp) _ h2,⟨a,b',kk TO (by simp) _ h3⟩,h4.at fun o x=>kk i1 (by simp) o x,h5.at fun o x=>kk i2 (by simp) o x⟩
    item:=by
      intro X hP hw hK hc i pins s σ H E I hf st hg
      subst hP hw hK
      obtain ⟨xs,x,ys,y,hq1,hx,hq2,hy⟩:=hg
      obtain ⟨its1,rv1,p1,hz1⟩:=I.list hq1
      obtain ⟨its2,rv2,p2,hz2⟩:=I.list hq2
      obtain ⟨u,hu,ru⟩:=rv1.get hx
      obtain ⟨v,hv,rv⟩:=rv2.get hy
      obtain ⟨h1,h2,h3,h4,h5⟩:=st
      obtain ⟨n1,n2,n3,n4⟩:=ap p1.isList h1 h2 h3 h4 h5
      obtain ⟨m1,m2,m3,m4⟩:=ap p2.isList h1 h2 h3 h4 h5
      have W:=WalksT.zip2 (prog:=X.prog) (w:=X.w) (I.ok.hd hc) z TI TO i1 i2 l1 l2 ⟨d1,d2,d3,d4,d5,d6,d7,d8,d9,d10,n1,n2,n3,n4,m1,m2,m3,m4⟩ its1.toArray its2.toArray
      refine zip_itemB z TI TO i1 i2 l1 l2 ⟨d1,d2,d3,d4,d5,d6,d7,d8,d9,d10,n1,n2,n3,n4,m1,m2,m3,m4⟩ its1.toArray its2.toArray i s _ _ (by have a1:=(List.getElem?_eq_some_iff.mp hu).1;have a2:=(List.getElem?_eq_some_iff.mp hv).1;simp;omega) ⟨h1,h2,h3,h4,h5,p1.isList,p2.isList⟩ fun T vals h' tk hP hT hTu hM kk=>?_
      obtain ⟨x',y',hx',hy',rfl⟩:=hP
      refine ⟨_,rfl,?_⟩
      refine W.go elts k pos i T { s with heap:=h',toks:=tk } _ _ hM fun h2' st' kk2=>?_
      have eu:x'=u:=by
        have:its1[i]? = some x':=by simpa using hx'
        rw [hu] at this;exact (Option.some.inj this).symm
      have ev:y'=v:=by
        have:its2[i]? = some y':=by simpa using hy'
        rw [hv] at this;exact (Option.some.inj this).symm
      subst eu ev
      have nT:T ∉ [z,TO,i1,i2]:=W.apart i T h' hM
      have sub:∀ b,b ∉ [z,TI,TO,i1,i2]→b ∉ [z,TO,i1,i2]:=fun b hb hb'=>hb (W.sub b hb' |> fun q=>by
        simp at hb' ⊢
        rcases hb' with e | e | e | e <;> simp [e])
      have nTI:T≠TI:=Nat.ne_of_gt (Nat.lt_of_lt_of_le (Heap.lt_size h2) hT)
      refine ⟨.ref T,upd H T (.tup [x,y]),I.newTup (ch:=[z,TI,TO,i1,i2]) (its:=[x',y']) hf (fun b o hb eb=>kk2 b o (sub b hb) (kk b o (sub b hb) eb)) hT (.cons ru (.cons rv .nil)) ?_ (by show 2≤sizeLine;decide),rfl,
        ⟨T,_,I.hok.fresh hT,rfl,⟨x,y,fun zs hz=>by rw [I.list_inj hz hq1];exact hx,fun zs hz=>by rw [I.list_inj hz hq2];exact hy,rfl⟩,rfl⟩,⟨st'.1,st'.2.1,st'.2.2.1,st'.2.2.2.1,st'.2.2.2.2.1⟩,fun b hb=>?_⟩
      · obtain ⟨⟨o,ho,r⟩,o',ho',r'⟩:=hTu
        exact ⟨⟨o,kk2 T o nT ho,r⟩,o',kk2 T o' nT ho',r'⟩
      · have nb:b≠T:=fun q=>by
          have hb':b=z∨b=TI∨b=TO∨b=i1∨b=i2:=by simpa using hb
          rw [q] at hb'
          rcases hb' with e | e | e | e | e
          · exact nT (by simp [e])
          · exact nTI e
          · exact nT (by simp [e])
          · exact nT (by simp [e])
          · exact nT (by simp [e])
        rw [upd_ne nb];exact (hf b hb).1
    done:=by
      intro X hP hw hK hc i pins s σ H E I hf st hg
      subst hP hw hK
      obtain ⟨xs,ys,hq1,hq2,hi⟩:=hg
      obtain ⟨its1,rv1,p1,hz1⟩:=I.list hq1
      obtain ⟨its2,rv2,p2,hz2⟩:=I.list hq2
      obtain ⟨h1,h2,h3,h4,h5⟩:=st
      obtain ⟨n1,n2,n3,n4⟩:=ap p1.isList h1 h2 h3 h4 h5
      obtain ⟨m1,m2,m3,m4⟩:=ap p2.isList h1 h2 h3 h4 h5
      have W:=WalksT.zip2 (prog:=X.prog) (w:=X.w) (I.ok.hd hc) z TI TO i1 i2 l1 l2 ⟨d1,d2,d3,d4,d5,d6,d7,d8,d9,d10,n1,n2,n3,n4,m1,m2,m3,m4⟩ its1.toArray its2.toArray
      have e:i=min its1.toArray.size its2.toArray.size:=by
        have:=rv1.length;have:=rv2.length;simp;omega
      subst e
      refine W.done s _ _ ⟨h1,h2,h3,h4,h5,p1.isList,p2.isList⟩ fun h' tk kk=>⟨rfl,?_⟩
      refine I.step (g':=s.gens) (d':=s.drawn) (ch:=[z,TO,i1,i2]) (fun b hb=>?_) (fun b o _ _ hc e _=>kk b o hc e) (fun b o _ _ hc e _=>⟨o.slots,kk b o hc e⟩) (fun _ _ _ _ n=>n)
        (fun b o hc e=>⟨o,kk b o hc e⟩) (fun _ _ e=>e) (fun _ _ _ e=>e) (fun b ps e=>⟨#[],by rw [e];simp⟩) (fun m hm=>?_) (fun b u e=>?_) I.bare
      · obtain ⟨_,a1,_,a2,a3,a4⟩:=hf b (by simp at hb ⊢;rcases hb with e | e | e | e <;> simp [e])
        exact ⟨a2,a1,a3,a4⟩
      · obtain ⟨o,es,ep,ho,r⟩:=hm
        exact ⟨o,es,ep,kk _ o (fun q=>(hf _ (by simp at q ⊢;rcases q with e | e | e | e <;> simp [e])).2.1 rfl) ho,r⟩
      · have nch:∀ b u,H b=some u→b ∉ [z,TO,i1,i2]:=fun b u e hb=>by
          rw [(hf b (by simp at hb ⊢;rcases hb with e | e | e | e <;> simp [e])).1] at e;cases e
        refine (I.hok b u e).stay (fun c v hc q=>kk c v ?_ q) (fun _ q=>q) fun _ _ q=>q
        rcases hc with z' | z'
        · rw [z'];exact nch b u e
        · exact nch c _ z'
    self:=fun _ _ _ _ _ st h=>wpAny_pyIter_zip st.1 h }
def iZip (K:PySem.W.Frag) (ta:TA):TI:=fun σ H R=>ta σ H fun vs H1=>∃ a b,vs=[.ref a,.ref b]∧(∃ xs,SqL K H1 a xs)∧(∃ ys,SqL K H1 b ys)∧R (Itz K a b) H1
theorem pi_zip {X:Cx} {l l':Expr} {ta:TA} {elts:List Expr} {k:Nat} {tp p pos:Pos} (hg:Gl X "zip") (hm:X.mg "zip" = none) (hl:PA X [l,l'] ta) (hs:starEach [l,l'] X.env=[(false,eval l X.env),(false,eval l' X.env)]:=by rfl) (hs2:starEach [l'] X.env=[(false,eval l' X.env)]:=by rfl) :
    PI X (.Tuple elts k tp) (.Call (.Name "zip" p) [l,l'] [] pos) (iZip X.K ta):=by
  intro pins s σ H R I h
  refine Call_ (ld_blt I hg hm (by first | exact boot_zip | decide +kernel) (PyProof.Rows.callWith_type1 (thn (hl pos pins s σ H _ I h) fun us s1 ⟨vs,H1,I1,r1,q1⟩=>?_) (by rw [hs,hs2]) (by rw [hs2];rfl)))
  obtain ⟨a,b,e,⟨xs,hq1⟩,⟨ys,hq2⟩,q⟩:=q1
  subst e
  cases r1 with
  | cons r rr =>
    cases rr with
    | cons r' rr =>
      cases rr
      cases r
      cases r'
      obtain ⟨its,rv,p,hz⟩:=I1.list hq1
      obtain ⟨its2,rv2,p2,hz2⟩:=I1.list hq2
      refine call_zip_2 p.isList p2.isList fun h' hz' hTI hTO hi1 hi2 hsz kk=>?_
      have I2:Inv X pins σ H1 { s1 with heap:=h' }:=I1.kept (t':=s1.toks) kk
      refine wpAny_pyIter_zip (s:={ s1 with heap:=h' }) hz' ?_
      refine ⟨s1.heap.objs.size+4,[s1.heap.objs.size+4,s1.heap.objs.size+2,s1.heap.objs.size+3,s1.heap.objs.size,s1.heap.objs.size+1],_,_,H1,rfl,I2,
        turn_zip a b _ _ _ _ _ (by simp) (by simp) (by simp) (by simp) (by simp) (by simp) (by simp) (by simp) (by simp) (by simp),⟨hz',hTI,⟨_,_,hTO⟩,hi1,hi2⟩,fun c hb=>?_,q⟩
      have:s1.heap.objs.size≤c:=by
        have hb':c=s1.heap.objs.size+4∨c=s1.heap.objs.size+2∨c=s1.heap.objs.size+3∨c=s1.heap.objs.size∨c=s1.heap.objs.size+1:=by simpa using hb
        rcases hb' with e | e | e | e | e <;> rw [e] <;> first | exact Nat.le_refl _ | exact Nat.le_add_right _ _
      exact I1.fpOk this (I1.hok.fresh this)
theorem comp_all {J:It} {xs:List V} {ok:Hp→Prop} {g:TG} {te:TE} {Q:VK} {τ0:St} {H:Hp} (S:Sure J xs ok) (hz:xs.length≤10000) (Pv:Nat→List V→St→Hp→Prop) (h0:Pv 0 [] τ0 H)
    (hl:∀ i ys τ H,i≤xs.length→Pv i ys τ H→ok H∧ys.length≤i)
    (hs:∀ i x ys τ H,xs[i]? = some x→Pv i ys τ H→g x τ H fun τ2 H2=>te τ2 H2 (fun y H4=>Pv (i+1) (ys++[y]) τ2 H4))
    (hd:∀ ys τ H D,Pv xs.length ys τ H→H D=none→Q (.ref D) (upd H D (.lst ys))) :
    ∃ W:Nat→Nat→List V→St→Hp→Prop,(∃ m,W 0 m [] τ0 H)∧∀ i m ys τ H,W i m ys τ H →
      (J.stop i H∧∀ D,H D=none→Q (.ref D) (upd H D (.lst ys))) ∨
      (J.go i H∧ys.length < sizeLine∧∃ N:List V→St→Hp→Prop,(∀ ys' τ' H',N ys' τ' H'→∃ m',m' < m∧W (i+1) m' ys' τ' H') ∧
        ∀ x H',J.yld i H x H'→g x τ H' fun τ2 H2=>tAll τ2 H2 fun b H3=>if b=true then te τ2 H3 (fun y H4=>N (ys++[y]) τ2 H4) else N ys τ2 H3) :=
  comp_by S hz Pv h0 hl (fun i x ys τ H e p=>by
    have:=hs i x ys τ H e p
    have e2:(fun (τ2:St) (H2:Hp)=>tAll τ2 H2 fun b H3=>if b=true then te τ2 H3 (fun y H4=>Pv (i+1) (ys++[y]) τ2 H4) else Pv (i+1) ys τ2 H3)=fun τ2 H2=>te τ2 H2 (fun y H4=>Pv (i+1) (ys++[y]) τ2 H4):=by
      funext τ2 H2
      unfold tAll
      exact if_pos rfl
    rw [e2]
    exact this) hd
theorem comp_all2 {J:It} {xs:List (List V)} {ok:Hp→Prop} {g:TG} {te:TE} {Q:VK} {τ0:St} {H:Hp} (S:Sure2 J xs ok) (hz:xs.length≤10000) (Pv:Nat→List V→St→Hp→Prop) (h0:Pv 0 [] τ0 H)
    (hl:∀ i ys τ H,i≤xs.length→Pv i ys τ H→ok H∧ys.length≤i)
    (hs:∀ i zs ys τ H T,xs[i]? = some zs→Pv i ys τ H→H T=none→g (.ref T) τ (upd H T (.tup zs)) fun τ2 H2=>te τ2 H2 (fun y H4=>Pv (i+1) (ys++[y]) τ2 H4))
    (hd:∀ ys τ H D,Pv xs.length ys τ H→H D=none→Q (.ref D) (upd H D (.lst ys))) :
    ∃ W:Nat→Nat→List V→St→Hp→Prop,(∃ m,W 0 m [] τ0 H)∧∀ i m ys τ H,W i m ys τ H →
      (J.stop i H∧∀ D,H D=none→Q (.ref D) (upd H D (.lst ys))) ∨
      (J.go i H∧ys.length < sizeLine∧∃ N:List V→St→Hp→Prop,(∀ ys' τ' H',N ys' τ' H'→∃ m',m' < m∧W (i+1) m' ys' τ' H') ∧
        ∀ x H',J.yld i H x H'→g x τ H' fun τ2 H2=>tAll τ2 H2 fun b H3=>if b=true then te τ2 H3 (fun y H4=>N (ys++[y]) τ2 H4) else N ys τ2 H3) :=
  comp_by2 S hz Pv h0 hl (fun i zs ys τ H T e p hT=>by
    have:=hs i zs ys τ H T e p hT
    have e2:(fun (τ2:St) (H2:Hp)=>tAll τ2 H2 fun b H3=>if b=true then te τ2 H3 (fun y H4=>Pv (i+1) (ys++[y]) τ2 H4) else Pv (i+1) ys τ2 H3)=fun τ2 H2=>te τ2 H2 (fun y H4=>Pv (i+1) (ys++[y]) τ2 H4):=by
      funext τ2 H2
      unfold tAll
      exact if_pos rfl
    rw [e2]
    exact this) hd
end L2
namespace L2
open PySem PySem.Spec PyProof.Rows
section
variable {X:Cx}
theorem strsAre_of:∀ {ss:List Str} {us:List Value},Vals (ss.map V.str) us→StrsAre us ss
  | [],_,r=>by cases r;exact .nil
  | x :: ss,_,r=>by
    cases r with
    | cons h r =>
      obtain ⟨t,rfl⟩:=h
      exact .cons x t (strsAre_of r)
theorem vals_strs:∀ {ss:List Str} {us:List Value},StrsAre us ss→Vals (ss.map V.str) us
  | _,_,.nil=>.nil
  | _,_,.cons y t r=>.cons ⟨t,rfl⟩ (vals_strs r)
theorem vals_by:∀ {xs:List V} {us:List Value},xs.length=us.length→(∀ (i:Nat) x u,xs[i]? = some x→us[i]? = some u→RelV x u)→Vals xs us
  | [],[],_,_=>.nil
  | [],_ :: _,h,_=>by cases h
  | _ :: _,[],h,_=>by cases h
  | x :: xs,u :: us,h,k=>.cons (k 0 x u rfl rfl) (vals_by (Nat.succ.inj h) fun i y v e1 e2=>k (i+1) y v e1 e2)
theorem kv_at:∀ {kvs:List (Key × V)} {vs:List (Key × Value)} {i:Nat} {k:Key} {x:Value},KV kvs vs→vs[i]? = some (k,x)→∃ k' v',kvs[i]? = some (k',v')∧k'=k
  | [],[],i,_,_,_,e=>by cases i <;> cases e
  | p :: kvs,q :: vs,0,k,x,h,e=>by
    cases h with
    | cons h1 h2 =>
      have e':q=(k,x):=Option.some.inj e
      subst e'
      exact ⟨p.1,p.2,rfl,h1.1⟩
  | p :: kvs,q :: vs,i+1,k,x,h,e=>by
    cases h with
    | cons h1 h2=>exact kv_at (i:=i) h2 e
theorem ObjOk.there {P:Program} {w:World} {H:Hp} {h:Heap} {a:Addr} {o:HO} (x:ObjOk P w H h a o):∃ ob,h.get? a=some ob:=by
  cases o with
  | lst xs=>obtain ⟨_,_,_,_,e⟩:=x;exact ⟨_,e⟩
  | tup xs=>obtain ⟨_,_,_,⟨ob,e,_⟩,_⟩:=x;exact ⟨_,e⟩
  | dK kvs=>obtain ⟨_,_,_,_,ob,_,_,e,_⟩:=x;exact ⟨_,e⟩
  | dT kvs=>obtain ⟨_,_,_,_,ob,_,_,e,_⟩:=x;exact ⟨_,e⟩
  | set S n=>obtain ⟨ob,_,_,_,e,_⟩:=x;exact ⟨_,e⟩
  | ins C dx fs=>obtain ⟨_,_,_,e,_⟩:=x;exact ⟨_,e⟩
  | own _=>exact x
  | xd fs=>obtain ⟨mA,⟨ob,_,_,e,_⟩,_⟩:=x;exact ⟨_,e⟩
  | rng lo hi=>obtain ⟨_,_,_,e⟩:=x;exact ⟨_,e⟩
  | frz ob u=>exact ⟨_,x.1⟩
  | tbl ps=>exact ⟨_,x⟩
  | met f y=>exact ⟨_,x⟩
  | ext φ=>exact x.2.1
theorem Inv.laid2 {pins:List (Addr × Obj)} {σ:St} {H:Hp} {s:Shared} {h':Heap} {a:Addr} {o:HO} {t':Nat} (I:Inv X pins σ H s) (k:∀ b u,s.heap.get? b=some u→h'.get? b=some u∧b≠a) (hn:H a=none)
    (new:ObjOk X.prog X.w (upd H a o) h' a o):Inv X pins σ (upd H a o) { s with heap:=h',toks:=t' } :=
  I.un ⟨fun b o e _ _ _=>(k b o e).1,fun b o e _ _ _=>⟨o.slots,(k b o e).1⟩,fun b o e n _=>by rw [upd_ne (k b o e).2];exact n,fun b o e _=>⟨o,(k b o e).1⟩,fun b xs e=>by rw [upd_ne (ne_of_none e hn)];exact e,
    fun b o u e=>by rw [upd_ne (ne_of_none e hn)];exact e,fun b ps e=>⟨#[],by rw [upd_ne (ne_of_none e hn),e];simp⟩⟩ (HOk.add (I.hok.kept fun b u e=>(k b u e).1) hn new)
def rJoin (K:PySem.W.Frag):V→List V→Hp→VK→Prop:=fun x vs H Q=>∃ sep l ss,x=.str sep∧vs=[.ref l]∧SqL K H l (ss.map V.str)∧(ss.map (·.length)).sum+ss.length * sep.length≤16777216∧Q (.str (Txt.join sep ss)) H
theorem mt_join:MtR X "str.join" (rJoin X.K):=by
  intro pins s σ H x vs v us Q I rx rv h
  obtain ⟨sep,l,ss,rfl,rfl,hq,hz,q⟩:=h
  obtain ⟨t,rfl⟩:=rx
  obtain ⟨u,rfl,ru⟩:=vals1 rv
  cases ru
  obtain ⟨its,r',pl,_⟩:=I.list hq
  refine join_list pl.isList (by simpa using strsAre_of r') hz fun t' k=>⟨.str _,H,I.tok _,⟨t',rfl⟩,q⟩
def rCount:V→List V→Hp→VK→Prop:=fun x vs H Q=>∃ a b,x=.str a∧vs=[.str b]∧Q (.int (Txt.count a b)) H
theorem mt_count:MtR X "str.count" rCount:=by
  intro pins s σ H x vs v us Q I rx rv h
  obtain ⟨a,b,rfl,rfl,q⟩:=h
  obtain ⟨t,rfl⟩:=rx
  obtain ⟨u,rfl,t',rfl⟩:=vals1 rv
  exact SC.count ⟨.int _,H,I.tok _,⟨_,rfl⟩,q⟩
theorem call_list_text (hc:X.calm=true):CallR X (.type "list") (fun xs H Q=>∃ z:Str,xs=[.str z]∧z.cps.size≤10000∧∀ l,H l=none→Q (.ref l) (upd H l (.lst (z.cps.toList.map sign)))):=by
  intro pins s σ H xs us Q I r h
  obtain ⟨z,rfl,hz,q⟩:=h
  obtain ⟨u,rfl,t,rfl⟩:=vals1 r
  refine call_list_str (I.ok.hd hc) z t (fun h' tk acc' c' hk hS hacc=>?_) (Nat.le_trans hz (by decide))
  have hv:Vals (z.cps.toList.map sign) acc'.toList:=by
    have hl:acc'.toList.length=z.cps.size:=by rw [Array.length_toList];exact hacc.1
    refine vals_by (by rw [List.length_map,Array.length_toList,hl]) fun i x u e1 e2=>?_
    obtain ⟨c,t',e3,rfl⟩:=hacc.2 i u (by rw [← Array.getElem?_toList];exact e2)
    rw [List.getElem?_map,Array.getElem?_toList,e3] at e1
    cases e1
    exact ⟨t',rfl⟩
  exact ⟨.ref s.heap.objs.size,_,I.laid hk (Nat.le_refl _) (show ObjOk X.prog X.w _ h' _ (.lst _) from ⟨by rw [List.length_map,Array.length_toList];exact Nat.le_trans hz (by decide),acc'.toList,c',hv,by simpa using hS⟩),rfl,q _ (I.hok.fresh (Nat.le_refl _))⟩
theorem call_sum (hc:X.calm=true):CallR X (.builtin "sum") (fun xs H Q=>∃ (l:Addr) (ns:List Int),xs=[.ref l]∧SqL X.K H l (ns.map V.int)∧Q (.int ns.sum) H):=by
  intro pins s σ H xs us Q I r h
  obtain ⟨l,ns,rfl,hq,q⟩:=h
  obtain ⟨u,rfl,ru⟩:=vals1 r
  cases ru
  obtain ⟨its,r',pl,_⟩:=I.list hq
  obtain ⟨m,F⟩:=I.fr
  have hi:=intsAre_of r'
  obtain ⟨xs,e⟩:=hi.allInts.items
  have hl:s.heap.IsList l (intItems xs):=by rw [← e];exact pl.isList
  refine sum_intListG (I.ok.hd hc) hl fun h' tk t' hk=>?_
  have es:preSum (numAt xs) xs.size=ns.sum:=by
    have:=hi.numsOf
    rw [show its=(intItems xs).toList by rw [← e]] at this
    rw [nums_intItems] at this
    rw [preSum_eq,List.take_of_length_le (by simp),this]
  rw [es]
  exact ⟨.int _,H,I.kept hk,⟨t',rfl⟩,q⟩
theorem call_isinst:CallR X (.builtin "isinstance") (fun xs H Q=>∃ x T t b,xs=[x,.ty T]∧TyOf X.K H x t∧PySem.W.kitOne X.K t (.type T)=some b∧Q (.bl b) H):=by
  intro pins s σ H xs us Q I r h
  obtain ⟨x,T,t,b,rfl,ty,e,q⟩:=h
  obtain ⟨u,v,rfl,ru,rv⟩:=vals2 r
  cases (show v=Value.type T from rv)
  exact isinst_ok I ru ty e fun tk=>⟨.bl b,H,I.tok _,rfl,q⟩
end
end L2
namespace L2
open PySem PySem.Spec PyProof.Rows
theorem comp_core {X:Cx} {pins:List (Addr × Obj)} {s:Shared} {σ:St} {H:Hp} {Q:VK} {use:Option (Value→Sem Unit)} {Q':Value→Shared→Prop} {cpos:Pos} {tg iter elt:Expr} {ifs:List Expr} {scope:Scope} {pos:Pos} {N':List Str} {ix:List (Option Nat)} {wi:TI} {g:TG} {tc:TT} {te:TE}
    (hc:X.calm=true) (chk:compChk X scope N' ix=true) (hi:PI X tg iter wi)
    (hg:∀ cells C s₀ H₀ ex pn,PG (compCx X scope N' cells C s₀ H₀ ex pn) tg g)
    (ht:∀ cells C s₀ H₀ ex pn,PTs (compCx X scope N' cells C s₀ H₀ ex pn) ifs tc)
    (he:∀ cells C s₀ H₀ ex pn,PE (compCx X scope N' cells C s₀ H₀ ex pn) elt te)
    (hs:∀ x,foldedSetIterable iter X.env x=pure x) (I:Inv X pins σ H s) (h:tComp ix wi g tc te σ H Q)
    (hend:∀ (s2 s4:Shared) (H2 H3:Hp) (C D:Addr) (fp:List Addr) (cells:List (Str × Addr)) (τ:St) (ys:List V) (its:List Value) (k:Nat),Inv X pins σ H2 s2→(∀ b∈fp,FpOk X pins H2 b) →
      Inv (compCx X scope N' cells C s2 H2 fp []) [(D,lobj its k)] τ H3 s4→s2.heap.objs.size≤C→s2.heap.objs.size≤D→D≠C→Vals ys its→ys.length≤sizeLine→Q (.ref D) (upd H3 D (.lst ys)) →
      compPost (model X.prog X.w) X.A X.xe use Q' (.ref D) C (.ok .next) s4) :
    wpAny (model X.prog X.w) X.A (comprehension (.ListComp elt [⟨tg,iter,ifs,0⟩] scope pos) scope X.env cpos (newList []) false (eval iter X.env) use) Q' X.xe s:=by
  unfold compChk at chk
  obtain ⟨chk,k5⟩:=Bool.and_eq_true_iff.mp chk
  obtain ⟨chk,k4⟩:=Bool.and_eq_true_iff.mp chk
  obtain ⟨chk,k3⟩:=Bool.and_eq_true_iff.mp chk
  obtain ⟨k1,k2⟩:=Bool.and_eq_true_iff.mp chk
  have c1:∀ p∈scope.names,scope.names.lookup p.1=some p.2:=fun p hp=>by simpa using List.all_eq_true.mp k1 p hp
  have c2:∀ p∈scope.names,p.2=.free→X.env.scope.names.lookup p.1=some .cell∨X.env.scope.names.lookup p.1=some .free:=fun p hp hf=>by
    have:=List.all_eq_true.mp k2 p hp
    rw [hf] at this
    simpa using this
  have c3:ix.length=N'.length:=by simpa using k3
  have ck:scope.kind=.function:=by simpa using k5
  have c4:∀ (i:Nat) (x:Str) (j:Nat),N'[i]? = some x→ix[i]? = some (some j)→X.N[j]? = some x∧scope.names.lookup x=some .free:=fun i x j e1 e2=>by
    have m:(x,some j)∈N'.zip ix:=by
      refine List.mem_of_getElem? (i:=i) ?_
      rw [List.getElem?_zip_eq_some]
      exact ⟨e1,e2⟩
    have:=List.all_eq_true.mp k4 _ m
    have:=Bool.and_eq_true_iff.mp this
    exact ⟨by simpa using this.1,by simpa using this.2⟩
  obtain ⟨cl,ecl,cl1,cl2⟩:=closure_ok (env:=X.env) (scope:=scope) (fun p hp hf=>I.ok.has p.1 (c2 p hp hf))
  refine wpAny_comprehension_free (use:=use) rfl hs ecl ck (fun y hy hl=>by rw [c1 y hy,hl]) (thn (hi pins s σ H _ I h) fun v s1 h1=>thn h1 fun itv s2 h2=>?_)
  obtain ⟨it,fp,tn,J,H2,e,I2,T,st2,f2,W,⟨m0,w0⟩,turn⟩:=h2
  subst e
  have I5:=comp_inv (N':=N') (ix:=ix) (fp:=fp) c1 c3 c2 c4 ck cl1 cl2 I2 f2 (T.obj _ _ st2)
  refine wpAny_newObj_type ?_
  unfold newFunctionEnv
  refine wpAny_bind (wpAny_alloc ?_)
  refine wpAny_bind (wpAny_layCells _ (fun name kind cells=>by cases hkc:kind == NameKind.cell <;> simp [hkc]) _ _ _ _ ?_)
  refine wpAny_bind ?_
  rw [List.forIn_nil]
  refine wpAny_pure (wpAny_pure ?_)
  have sz3:(s2.heap.push (lobj [] 0)).objs.size=s2.heap.objs.size+1:=Heap.size_push ..
  have sz4:((s2.heap.push (lobj [] 0)).push { cls:=.type "dict",data:=.dict #[] }).objs.size=s2.heap.objs.size+2:=by rw [Heap.size_push,sz3]
  show codeAny (model X.prog X.w) X.A (.compStart (.ListComp elt [⟨tg,iter,ifs,0⟩] scope pos) 0 (.ref it) (.ref s2.heap.objs.size)
    (compCx X scope N' (cellsFrom ((s2.heap.push (lobj [] 0)).push { cls:=.type "dict",data:=.dict #[] }).objs.size scope.names cl) (s2.heap.push (lobj [] 0)).objs.size s2 H2 fp []).env)
    (compPost (model X.prog X.w) X.A X.xe use Q' (.ref s2.heap.objs.size) (s2.heap.push (lobj [] 0)).objs.size)
    { s2 with heap:=pushCells ((s2.heap.push (lobj [] 0)).push { cls:=.type "dict",data:=.dict #[] }) scope.names }
  rw [sz4,sz3]
  generalize hcells:cellsFrom (s2.heap.objs.size+2) scope.names cl=cells at I5 ⊢
  have keep5:∀ b o,s2.heap.get? b=some o→(pushCells ((s2.heap.push (lobj [] 0)).push { cls:=.type "dict",data:=.dict #[] }) scope.names).get? b=some o:=fun b o e =>
    pushCells_keeps _ _ b o (Heap.get?_push_of_some _ (Heap.get?_push_of_some _ e))
  generalize hh5:({ s2 with heap:=pushCells ((s2.heap.push (lobj [] 0)).push { cls:=.type "dict",data:=.dict #[] }) scope.names }:Shared)=s5 at I5 ⊢
  have keep5:∀ b o,s2.heap.get? b=some o→s5.heap.get? b=some o:=by rw [← hh5];exact keep5
  have st5:tn 0 s5.heap:=T.keep _ _ _ st2 fun b hb o e=>keep5 b o e
  have lt2:∀ (b:Nat),b∈fp→b < s2.heap.objs.size:=fun b hb=>by
    obtain ⟨o,e,_⟩:=T.obj _ _ st2 b hb
    exact Heap.lt_size e
  -- the iterator within the block
  have stat:∀ {H':Hp} {o:Obj},(∀ b∈fp,H' b=none)→∀ b∈fp,FpOk (compCx X scope N' cells (s2.heap.objs.size+1) s2 H2 fp []) [(s2.heap.objs.size,o)] H' b:=fun {H' o} hn b hb =>
    ⟨hn b hb,(I5.ok.exf b hb).1,I5.ok.exfs b hb,.inl hb,(I5.ok.exf b hb).2,fun p hp=>by
      have e:p=(s2.heap.objs.size,o):=by simpa using hp
      subst e
      exact Nat.ne_of_gt (lt2 b hb)⟩
  have loop:codeAny (model X.prog X.w) X.A (.compLoop (.ListComp elt [⟨tg,iter,ifs,0⟩] scope pos) 0 (.ref it) (.ref s2.heap.objs.size)
      (compCx X scope N' cells (s2.heap.objs.size+1) s2 H2 fp []).env) (compPost (model X.prog X.w) X.A X.xe use Q' (.ref s2.heap.objs.size) (s2.heap.objs.size+1)) s5:=by
    refine compLoop_go (fun n s'=>∃ i ys τ H' its k,Inv (compCx X scope N' cells (s2.heap.objs.size+1) s2 H2 fp []) [(s2.heap.objs.size,lobj its k)] τ H' s'∧tn i s'.heap∧(∀ b∈fp,H' b=none)∧Vals ys its∧ys.length≤sizeLine∧W i n ys τ H') ?_ m0
      ⟨0,[],_,H2,[],0,I5,st5,fun b hb=>(f2 b hb).1,.nil,Nat.zero_le _,w0⟩
    rintro n s3 ⟨i,ys,τ,H3,its,k,I3,st3,fr3,hv3,hz3,w3⟩
    rcases turn i n ys τ H3 w3 with ⟨stop,qn⟩ | ⟨go,hlen,N,hN,step⟩
    · refine thn (T.done (compCx X scope N' cells (s2.heap.objs.size+1) s2 H2 fp []) rfl rfl rfl hc i _ s3 τ H3 (fun _ _=>False) I3 (stat fr3) st3 stop) fun r s4 ⟨hr,I4⟩=>?_
      subst hr
      obtain ⟨eD,nD,_,_,_⟩:=I4.pin (s2.heap.objs.size,lobj its k) (by simp)
      exact hend s2 s4 H2 H3 _ _ fp cells τ ys its k I2 f2 I4 (Nat.le_succ _) (Nat.le_refl _) (Nat.ne_of_lt (Nat.lt_succ_self _)) hv3 hz3 (qn _ nD)
    · refine thn (T.item (compCx X scope N' cells (s2.heap.objs.size+1) s2 H2 fp []) rfl rfl rfl hc i _ s3 τ H3 (fun _ _=>False) I3 (stat fr3) st3 go) fun r s4 ⟨u,hr,h4⟩=>?_
      subst hr
      refine thn h4 fun _ s5' ⟨x,H5,I5',r5,y5,st5',fr5⟩=>?_
      have I6:=I5'.pinned (stat fr5) (T.obj _ _ st5')
      refine thn (hg cells _ s2 H2 fp [] _ s5' τ H5 x u _ I6 r5 (step x H5 y5)) fun _ s6 ⟨τ6,H6,I7,q6⟩=>?_
      refine thn (ht cells _ s2 H2 fp [] _ s6 τ6 H6 _ I7 q6) fun ok s7 ⟨H7,I8,q7⟩=>?_
      have fin:∀ {s8:Shared} {H8:Hp} {its':List Value} {k':Nat} {ys':List V},Inv (compCx X scope N' cells (s2.heap.objs.size+1) s2 H2 fp []) ([(s2.heap.objs.size,lobj its' k')]++pinsAt fp s5'.heap) τ6 H8 s8→Vals ys' its'→ys'.length≤sizeLine→N ys' τ6 H8 →
          ∃ m,m < n∧∃ i ys τ H' its k,Inv (compCx X scope N' cells (s2.heap.objs.size+1) s2 H2 fp []) [(s2.heap.objs.size,lobj its k)] τ H' s8∧tn i s8.heap∧(∀ b∈fp,H' b=none)∧Vals ys its∧ys.length≤sizeLine∧W i m ys τ H':=fun {s8 H8 its' k' ys'} I9 hv hz n9=>by
        obtain ⟨m',hm,w9⟩:=hN ys' τ6 H8 n9
        refine ⟨m',hm,i+1,ys',τ6,H8,its',k',I9.unpinned,T.keep _ _ _ st5' fun b hb o e=>(I9.pin (b,o) (List.mem_append_right _ (List.mem_append_right _ (mem_pinsAt hb e)))).1,fun b hb=>?_,hv,hz,w9⟩
        obtain ⟨o,e,d⟩:=T.obj _ _ st5' b hb
        exact (I9.pin (b,o) (List.mem_append_right _ (List.mem_append_right _ (mem_pinsAt hb e)))).2.1
      cases ok with
      | false=>exact fin I8 hv3 hz3 q7
      | true =>
        refine thn (he cells _ s2 H2 fp [] _ s7 τ6 H7 _ I8 q7) fun y s8 ⟨v8,H8,I9,r8,q8⟩=>?_
        obtain ⟨eD,nD,dL,dF,_⟩:=I9.pin (s2.heap.objs.size,lobj its k) (by simp)
        have hl:=hv3.length
        refine append_un (X:=X) (τ:=τ) (H':=H8) (by omega) eD fun h' k' eD' kp=>?_
        -- the pin on the list is let go,the list turns,and is pinned anew
        have hx:∀ p∈pinsAt fp s5'.heap,p.1≠s2.heap.objs.size:=fun p hp=>by
          have:=lt2 p.1 (of_pinsAt hp).1
          exact Nat.ne_of_lt this
        have J1:Inv (compCx X scope N' cells (s2.heap.objs.size+1) s2 H2 fp []) (pinsAt fp s5'.heap) τ6 H8 s8:=I9.pins_of fun p hp=>I9.pin p (List.mem_append_right _ (List.mem_append_right _ hp))
        have J2:Inv (compCx X scope N' cells (s2.heap.objs.size+1) s2 H2 fp []) (pinsAt fp s5'.heap) τ6 H8 { s8 with heap:=h' }:=J1.turned (t':=s8.toks) (it:=s2.heap.objs.size) kp nD dL (.inr (Nat.le_refl _)) (fun x c e z=>by
          obtain ⟨v,o,ho,hd⟩:=J1.cell x c e
          rw [z,eD] at ho
          cases ho
          cases hd) fun p hp=>hx p (by simpa using hp)
        have J3:Inv (compCx X scope N' cells (s2.heap.objs.size+1) s2 H2 fp []) ([(s2.heap.objs.size,lobj (its++[y]) k')]++pinsAt fp s5'.heap) τ6 H8 { s8 with heap:=h' }:=J2.pins_of fun p hp=>by
          rcases List.mem_append.mp hp with z | z
          · have e:p=(s2.heap.objs.size,lobj (its++[y]) k'):=by simpa using z
            subst e
            exact ⟨eD',nD,dL,dF,fun v z=>by cases z⟩
          · exact J2.pin p (List.mem_append_right _ z)
        exact fin J3 (hv3.append (.cons r8 .nil)) (by rw [List.length_append,List.length_singleton];omega) q8
  exact codeAny_compStart_list loop (T.self X.A 0 s5 _ _ st5 loop)
theorem ps_setC {X:Cx} {tg iter elt:Expr} {ifs:List Expr} {scope:Scope} {pos px spos:Pos} {N':List Str} {ix:List (Option Nat)} {wi:TI} {g:TG} {tc:TT} {te:TE} {i:Nat} {x:Str}
    (hN:X.N.Nodup) (hi0:X.N[i]? = some x) (hx:X.env.scope.names.lookup x=some .local)
    (hc:X.calm=true) (chk:compChk X scope N' ix=true) (hi:PI X tg iter wi)
    (hg:∀ cells C s₀ H₀ ex pn,PG (compCx X scope N' cells C s₀ H₀ ex pn) tg g)
    (ht:∀ cells C s₀ H₀ ex pn,PTs (compCx X scope N' cells C s₀ H₀ ex pn) ifs tc)
    (he:∀ cells C s₀ H₀ ex pn,PE (compCx X scope N' cells C s₀ H₀ ex pn) elt te)
    (hs:∀ x,foldedSetIterable iter X.env x=pure x:=by intro _;rfl)
    (hsw:swapsWith (.ListComp elt [⟨tg,iter,ifs,0⟩] scope pos) (some (.Name x px)) spos.line X.env=pure true:=by rfl) :
    PS X (.Assign [.Name x px] (.ListComp elt [⟨tg,iter,ifs,0⟩] scope pos) spos) (fun D σ H=>tComp ix wi g tc te σ H fun v H1=>D.nx (σ.set i (some v)) H1):=by
  intro pins s σ H D I h
  rw [exec_Assign_Name_used _ _ _ _ hsw]
  refine wpAny_bind (wpAny_standAt (wpAny_bind ?_))
  show wpAny _ X.A (comprehension (.ListComp elt [⟨tg,iter,ifs,0⟩] scope pos) scope X.env _ (newList []) false (eval iter X.env) (some (assign (.Name x px) X.env)) >>= fun _=>pure ()) _ _ s
  refine wpAny_bind (wpAny_mono (comp_core (use:=some (assign (.Name x px) X.env)) (Q':=fun _ s'=>SP X pins D .next s') hc chk hi hg ht he hs I h ?_) (fun _ s' hq=>wpAny_pure (wpAny_pure hq)) fun _ _ e=>e)
  intro s2 s4 H2 H3 C Da fp cells τ ys its k I2 f2 I4 hC hD hDC hv hz q
  obtain ⟨eD,nD,_,_,_⟩:=I4.pin (Da,lobj its k) (by simp)
  have I5:Inv X pins σ (upd H3 Da (.lst ys)) s4:=comp_end I2 f2 I4 hC hD hDC nD eD hv hz (Heap.SameBut.refl _ _)
  show wpAny _ X.A (assign (.Name x px) X.env (.ref Da)) _ _ s4
  refine wpAny_assign_Name (store_ok2 I5 hN hi0 (.inl hx) (show RelV (.ref Da) (.ref Da) from rfl) (fun s6 I6 ⟨a,sb,ha⟩=>?_) (.inr hx))
  obtain ⟨m,hn,_⟩:=I4.loc
  have neL:C≠X.env.locals:=Nat.ne_of_gt (Nat.lt_of_lt_of_le I2.lt hC)
  have cne:∀ y c,X.env.cells.lookup y=some c→c≠C:=fun y c e=>by
    obtain ⟨v,z⟩:=I2.cell y c e
    exact Nat.ne_of_lt (Nat.lt_of_lt_of_le z.lt hC)
  have nea:C≠a:=by
    rcases ha with e | e
    · rw [e];exact neL
    · exact (cne x a e).symm
  refine ⟨m,hn.sameBut sb nea,fun h' sb'=>⟨σ.set i (some (.ref Da)),upd H3 Da (.lst ys),?_,q⟩⟩
  have nC:upd H3 Da (.lst ys) C=none:=by rw [upd_ne hDC.symm];exact I4.free
  refine I6.turned (t':=s6.toks) (it:=C) (fun b o hb e=>(sb'.2 b hb).trans e) nC neL (.inr (Nat.le_trans I2.sz hC)) cne fun p hp z=>?_
  have:=Heap.lt_size (I2.pin p hp).1
  rw [z] at this
  exact absurd (Nat.lt_of_lt_of_le this hC) (Nat.lt_irrefl _)
end L2
namespace L2
open PySem PySem.Spec PyProof.Rows
theorem op_mulB {X:Cx}:OpR X (binaryOp .Mult) (rI (fun i j=>Builtin.Int.intBits i≤2 ^ 20∧Builtin.Int.intBits j≤2 ^ 20) fun i j=>.int (i * j)):=opI fun _ _ _ _ _ _ _ hc q=>mul_int q (IntMulOk.of_bits hc.1 hc.2)
end L2
namespace L2
open PySem PySem.Spec PyProof.Rows
theorem comp_allR {J:It} {xs:List V} {ok:Hp→Prop} {g:TG} {te:TE} {R:Addr→List V→Hp→Prop} {τ0:St} {H:Hp} (S:Sure J xs ok) (hz:xs.length≤10000) (Pv:Nat→List V→St→Hp→Prop) (h0:Pv 0 [] τ0 H)
    (hl:∀ i ys τ H,i≤xs.length→Pv i ys τ H→ok H∧ys.length≤i)
    (hs:∀ i x ys τ H,xs[i]? = some x→Pv i ys τ H→g x τ H fun τ2 H2=>te τ2 H2 (fun y H4=>Pv (i+1) (ys++[y]) τ2 H4))
    (hd:∀ ys τ H D,Pv xs.length ys τ H→H D=none→R D ys H) :
    ∃ W:Nat→Nat→List V→St→Hp→Prop,(∃ m,W 0 m [] τ0 H)∧∀ i m ys τ H,W i m ys τ H →
      (J.stop i H∧∀ D,H D=none→R D ys H) ∨
      (J.go i H∧ys.length < sizeLine∧∃ N:List V→St→Hp→Prop,(∀ ys' τ' H',N ys' τ' H'→∃ m',m' < m∧W (i+1) m' ys' τ' H') ∧
        ∀ x H',J.yld i H x H'→g x τ H' fun τ2 H2=>tAll τ2 H2 fun b H3=>if b=true then te τ2 H3 (fun y H4=>N (ys++[y]) τ2 H4) else N ys τ2 H3):=by
  refine ⟨fun i m ys τ H=>m=xs.length - i∧i≤xs.length∧Pv i ys τ H,⟨xs.length,by simp,Nat.zero_le _,h0⟩,?_⟩
  rintro i m ys τ H ⟨rfl,hi,p⟩
  obtain ⟨q,hy⟩:=hl i ys τ H hi p
  by_cases hlt:i < xs.length
  · refine .inr ⟨S.go i H hlt q,Nat.lt_of_lt_of_le (show ys.length < 10000 by omega) (by decide),Pv (i+1),fun ys' τ' H' p'=>⟨xs.length - (i+1),by omega,rfl,hlt,p'⟩,fun x H' y=>?_⟩
    obtain ⟨e,y'⟩:=S.yld i H x H' hlt q y
    subst e
    have e2:(fun (τ2:St) (H2:Hp)=>tAll τ2 H2 fun b H3=>if b=true then te τ2 H3 (fun y H4=>Pv (i+1) (ys++[y]) τ2 H4) else Pv (i+1) ys τ2 H3)=fun τ2 H2=>te τ2 H2 (fun y H4=>Pv (i+1) (ys++[y]) τ2 H4):=by
      funext τ2 H2
      unfold tAll
      exact if_pos rfl
    rw [e2]
    exact hs i x ys τ _ y' p
  · have e:i=xs.length:=by omega
    subst e
    exact .inl ⟨S.stop H q,fun D hD=>hd ys τ H D p hD⟩
end L2
namespace L2
open PySem PySem.Spec PyProof.Rows
section
variable {X:Cx} (K:PySem.W.Frag)
theorem pi_listK {tg l:Expr} {tl:TE} (hl:PE X l tl) (hK:X.K=K:=by rfl):PI X tg l (iList K tl):=by subst hK;exact pi_list hl
theorem ix_listK (hK:X.K=K:=by rfl):IxR X (rIxL K):=by subst hK;exact ix_list
theorem ix_tupK (hK:X.K=K:=by rfl):IxR X (rIxT K):=by subst hK;exact ix_tup
theorem sl_listK (hK:X.K=K:=by rfl):SlR X (rSlL K):=by subst hK;exact sl_list
def rLen (K:PySem.W.Frag):List V→Hp→VK→Prop:=fun xs H Q=>∃ p ys,xs=[.ref p]∧(SqL K H p ys∨SqT K H p ys)∧Q (.int ys.length) H
theorem call_lenK (hK:X.K=K:=by rfl):CallR X (.builtin "len") (rLen K):=by subst hK;exact call_len_seq
def rSum (K:PySem.W.Frag):List V→Hp→VK→Prop:=fun xs H Q=>∃ (l:Addr) (ns:List Int),xs=[.ref l]∧SqL K H l (ns.map V.int)∧Q (.int ns.sum) H
theorem call_sumK2 (hc:X.calm=true) (hK:X.K=K:=by rfl):CallR X (.builtin "sum") (rSum K):=by subst hK;exact call_sum hc
def rIsi (K:PySem.W.Frag):List V→Hp→VK→Prop:=fun xs H Q=>∃ x T t b,xs=[x,.ty T]∧TyOf K H x t∧PySem.W.kitOne K t (.type T)=some b∧Q (.bl b) H
theorem call_isinstK (hK:X.K=K:=by rfl):CallR X (.builtin "isinstance") (rIsi K):=by subst hK;exact call_isinst
def rListOf (K:PySem.W.Frag):List V→Hp→VK→Prop:=fun xs H Q=>∃ p ys,xs=[.ref p]∧(SqL K H p ys∨SqT K H p ys)∧∀ l,H l=none→Q (.ref l) (upd H l (.lst ys))
theorem call_list_ofK (hK:X.K=K:=by rfl):CallR X (.type "list") (rListOf K):=by subst hK;exact call_list_of
def rTupOf (K:PySem.W.Frag):List V→Hp→VK→Prop:=fun xs H Q=>∃ p ys,xs=[.ref p]∧((SqL K H p ys∧∀ l,H l=none→Q (.ref l) (upd H l (.tup ys)))∨(SqT K H p ys∧Q (.ref p) H))
theorem call_tuple_ofK (hK:X.K=K:=by rfl):CallR X (.type "tuple") (rTupOf K):=by subst hK;exact call_tuple_of
theorem mt_joinK (hK:X.K=K:=by rfl):MtR X "str.join" (rJoin K):=by subst hK;exact mt_join
theorem pg_tupK {es:List Expr} {k:Nat} {t:TGs} {n:Nat} {pos:Pos} (hc:X.calm=true) (h:PGs X es t) (hn:(assignEach es X.env).length=n:=by rfl) (hst:(assignEach es X.env).findIdx? (·.1)=none:=by rfl) (hK:X.K=K:=by rfl):PG X (.Tuple es k pos) (gTup K n t):=by
  subst hK;exact pg_tup hc h hn hst
theorem pi_zipK {l l':Expr} {ta:TA} {elts:List Expr} {k:Nat} {tp p pos:Pos} (hg:Gl X "zip") (hm:X.mg "zip" = none) (hl:PA X [l,l'] ta) (hs:starEach [l,l'] X.env=[(false,eval l X.env),(false,eval l' X.env)]:=by rfl) (hs2:starEach [l'] X.env=[(false,eval l' X.env)]:=by rfl) (hK:X.K=K:=by rfl) :
    PI X (.Tuple elts k tp) (.Call (.Name "zip" p) [l,l'] [] pos) (iZip K ta):=by
  subst hK;exact pi_zip hg hm hl hs hs2
theorem pi_enumK {l:Expr} {ta:TA} {elts:List Expr} {k:Nat} {tp p pos:Pos} (hg:Gl X "enumerate") (hm:X.mg "enumerate" = none) (hl:PA X [l] ta) (hs:starEach [l] X.env=[(false,eval l X.env)]:=by rfl) (hK:X.K=K:=by rfl) :
    PI X (.Tuple elts k tp) (.Call (.Name "enumerate" p) [l] [] pos) (iEnum K ta):=by
  subst hK;exact pi_enum hg hm hl hs
theorem pe_bmK {o e:Expr} {es:List Expr} {to:TE} {t:TA} {name:Str} {apos cpos:Pos} {T id:String} {r:V→List V→Hp→VK→Prop} (pa:PlainAttrs T) (slot:Slot T name id) (hty:typeOf (.builtin id)=pure (.type "method_descriptor")) (hm:MtR X id r) (ho:PE X o to) (ha:PA X (e :: es) t)
    (hbase:attributeBase o name X.env (eval o X.env)=eval o X.env:=by rfl)
    (hfew:((backTo cpos (starEach (e :: es) X.env)).all (fun x=>!x.1) && (backToKw cpos (keywordEach [] X.env)).all (fun x=>x.1.isSome) && decide ((e :: es).length+([]:List Keyword).length+(if ([]:List Keyword).isEmpty then 0 else 1) < 30))=true:=by rfl)
    (hline:(apos.endLine == cpos.line)=true:=by rfl) (hs:starEach (e :: es) X.env=(false,eval e X.env) :: starEach es X.env:=by rfl) (hplain:(backTo cpos (starEach es X.env)).any (·.1)=false:=by rfl) (hK:X.K=K:=by rfl) :
    PE X (.Call (.Attribute o name apos) (e :: es) [] cpos) (tBM K T r to t):=by
  subst hK;exact pe_bm pa slot hty hm ho ha hbase hfew hline hs hplain
end
def CDivB (i j:Int):Prop:=0 < j∧j≤100000000000000000000000000000000000000000000000000000000000000000000000000000000
theorem op_fdivB {X:Cx}:OpR X (binaryOp .FloorDiv) (rI CDivB fun i j=>.int (i / j)):=opI fun i j _ _ _ _ _ hc q=>by
  rw [← Int.fdiv_eq_ediv_of_nonneg i (Int.le_of_lt hc.1)] at q
  refine floordiv_int (by have:=hc.1;omega) q (.inl (PyProof.noPylong_of_log2 ?_))
  obtain ⟨h1,h2⟩:=hc
  have h0:j.natAbs≠0:=by omega
  have h3:j.natAbs < 2 ^ 300:=Nat.lt_of_le_of_lt (show j.natAbs≤100000000000000000000000000000000000000000000000000000000000000000000000000000000 by omega) (by decide +kernel)
  exact Nat.lt_trans ((Nat.log2_lt h0).mpr h3) (by decide)
end L2
namespace L2
open PySem PySem.Spec PyProof.Rows
theorem noKeys_list:typeLookup (.type "list") "keys" = pure none:=by rw [typeLookup_type,builtinLookup_eq_fast];kernel_rfl
theorem keys_of_list {P:Program} {w:World} {A:Around} {E:Value→Shared→Prop} {s:Shared} {a:Addr} {o:Obj} {xs:Array Value} {k:Nat} {Q:Option Value→Shared→Prop}
    (ho:s.heap.get? a=some o) (hc:o.cls=.type "list") (hs:o.data=.seq xs k) (hd:o.dict=none) (hA:A.handled=none)
    (q:∀ h' tk,(∀ b u,s.heap.get? b=some u→h'.get? b=some u)→Q none { s with heap:=h',toks:=tk }):wpAny (model P w) A (getAttr? (.ref a) "keys") Q E s:=by
  obtain ⟨c,dct,dat,sl⟩:=o
  simp only at hc hs hd
  subst hc hs hd
  obtain ⟨hp,g,d,tk,os⟩:=s
  have ty:∀ tk',(⟨hp,g,d,tk',os⟩:Shared).TypeIs (.ref a) "list":=fun _=>⟨_,ho,rfl⟩
  have z1:=sub_AttributeError
  have z3:=F.slot_list_getattribute.lookup
  have z4:=F.slot_list_getattribute.bind (.ref a)
  have z5:=am_list_getattr_none
  unfold getAttr? getAttrBy? getAttrBy
  repeat (any_goals (first | assumption | exact ty _ | ((with_reducible show wpAny _ _ (call (Value.builtin "list.__getattribute__") _ _) _ _ _);refine call_meets F.slot_list_getattribute (ty _) am_entry_list_getattribute (F.args_list_getattribute_2 _ _) (meets_getattribute_miss_list a xs k sl "keys" _ noKeys_list (by decide +kernel) (by decide +kernel)) ⟨ho,hA,fun h' tk' e hx'=>?_⟩) | wp_step))
  obtain ⟨t',u',he⟩:=hx'.there
  have tE:(⟨h',g,d,tk',os⟩:Shared).TypeIs (.ref e) "AttributeError":=⟨_,he,rfl⟩
  show wpAny _ _ (getattributeRaised _ _ _ _ _ _ _) _ _ _
  unfold getattributeRaised
  repeat (any_goals (first | assumption | wp_step))
  exact q h' tk' hx'.keeps
theorem dictOf_keep {P:Program} {w:World} {κ:Type} [DecidableEq κ] {knd:KeyKind P w κ} {d:Addr} {kvs:List (κ × Value)} {h h':Heap} (m:h.DictOf knd d kvs) (e:∀ o,h.get? d=some o→h'.get? d=some o):h'.DictOf knd d kvs:=by
  obtain ⟨o,es,ep,ho,r⟩:=m
  exact ⟨o,es,ep,e o ho,r⟩
theorem entry_upd_loop:entryFor table "dict.update.loop" = some Builtin.«dict.update.loop»:=entryFor_of_tree (by kernel_rfl)
theorem plain_upd_loop:plainId "dict.update.loop" = true:=by decide +kernel
theorem upd_loop {P:Program} {w:World} {A:Around} {κ:Type} [DecidableEq κ] {knd:KeyKind P w κ} {it d:Addr} {fp wr:List Addr} {n:Nat} {Pv:Nat→Value→Prop} {St:Nat→Heap→Prop} {R:Result→Shared→Prop}
    (W:Walks P w A.in1 it fp wr n Pv St) (hd:d ∉ fp) (kvs:List (κ × Value)) (hn:kvs.length=n) (nd:(kvs.map (·.1)).Nodup) (ads:Nat→Addr) (hP:∀ i v,i < n→Pv i v→v=.ref (ads i)) (hw:∀ i,i < n→ads i ∉ wr∧ads i≠d) (hz:n≤sizeLine) :
    ∀ (m i:Nat) (s:Shared),i+m=n→St i s.heap→s.heap.DictOf knd d (kvs.take i)→(∀ j p,kvs[j]? = some p→∃ key,knd.is p.1 key=true∧IsTup s.heap (ads j) #[key,p.2]) →
      (∀ h' tk,h'.DictOf knd d kvs→(∀ b o,b ∉ wr→b≠d→s.heap.get? b=some o→h'.get? b=some o)→R (.ok (.ret .none)) { s with heap:=h',toks:=tk }) →
      codeAny (model P w) A (.builtin "dict.update.loop" ⟨[.ref d,.ref it,.int i 0,.none],[]⟩) R s
  | 0,i,s,hi,st,hD,hT,q=>by
    refine codeAny_builtin entry_upd_loop ?_
    rw [Around.under_plainId plain_upd_loop]
    have e:i=n:=by omega
    subst e
    unfold Builtin.«dict.update.loop»
    show wpAny _ _ (pyNext (.ref it) >>= _) _ _ _
    refine wpAny_bind (W.done s _ _ st fun h' tk kk=>?_)
    show wpAny _ _ (Builtin.Dict.addKeywords d [] >>= _) _ _ _
    refine wpAny_bind (wpAny_pure (wpAny_pure ?_))
    have hdw:d ∉ wr:=fun z=>hd (W.sub d z)
    refine q h' tk ?_ fun b o hb _ e=>kk b o hb e
    have hD':=dictOf_keep (h':=h') hD fun o e=>kk d o hdw e
    rw [← hn,List.take_length] at hD'
    exact hD'
  | m+1,i,s,hi,st,hD,hT,q=>by
    refine codeAny_builtin entry_upd_loop ?_
    rw [Around.under_plainId plain_upd_loop]
    unfold Builtin.«dict.update.loop»
    show wpAny _ _ (pyNext (.ref it) >>= _) _ _ _
    refine wpAny_bind (W.item i s _ _ (by omega) st fun v h' tk hv st' kk=>?_)
    have ev:=hP i v (by omega) hv
    subst ev
    have hil:i < kvs.length:=by omega
    obtain ⟨key,hk,ht⟩:=hT i kvs[i] (List.getElem?_eq_getElem hil)
    have ht':IsTup h' (ads i) #[key,kvs[i].2]:=by
      obtain ⟨o,ho,r⟩:=ht
      exact ⟨o,kk _ o (hw i (by omega)).1 ho,r⟩
    obtain ⟨o,ho,hoc,no,hod⟩:=id ht'
    have tT:({ s with heap:=h',toks:=tk }:Shared).TypeIs (.ref (ads i)) "tuple":=⟨o,ho,hoc⟩
    refine wpAny_bind (wpAny_holding ?_)
    refine wpAny_bind (wpAny_tryCatch ?_)
    unfold Builtin.Dict.pairItems
    refine wpAny_bind (wpAny_typeOf tT ?_)
    rw [if_pos (by decide)]
    refine wpAny_bind (wpAny_seqItems ho hod (wpAny_pure ?_))
    show wpAny _ _ (holding [key,kvs[i].2] (dictSet d key kvs[i].2)) _ _ _
    have hdw:d ∉ wr:=fun z=>hd (W.sub d z)
    have hD':=dictOf_keep (h':=h') hD fun o e=>kk d o hdw e
    refine wpAny_holding (wpAny_dictSet_pairs (s:={ s with heap:=h',toks:=tk }) hk hD' (fun h2 hD2 hs2=>?_) (by rw [List.length_take];omega))
    have en:stored (kvs.take i) kvs[i].1 kvs[i].2=kvs.take (i+1):=by
      unfold stored
      rw [if_neg,List.take_add_one,List.getElem?_eq_getElem hil]
      · rfl
      · intro z
        obtain ⟨p,hp,hpe⟩:=List.any_eq_true.mp z
        have hpe':p.1=kvs[i].1:=of_decide_eq_true hpe
        have:=nd
        rw [← List.take_append_drop i kvs,List.map_append] at this
        obtain ⟨_,_,dis⟩:=List.nodup_append.mp this
        refine dis p.1 (List.mem_map_of_mem hp) kvs[i].1 ?_ hpe'
        rw [List.drop_eq_getElem_cons hil]
        exact List.mem_map_of_mem List.mem_cons_self
    rw [en] at hD2
    refine wpAny_pure ⟨plainId_quiet plain_upd_loop _,?_⟩
    have st2:St (i+1) h2:=W.frame (i+1) h' h2 st' fun b hb o e=>hs2.extBut _ _ (fun z=>hd (by rw [← z];exact hb)) e
    have ei:rawInt ((i:Int)+1)=.int ((i+1:Nat):Int) 0:=by unfold rawInt;push_cast;rfl
    rw [ei]
    refine upd_loop W hd kvs hn nd ads hP hw hz m (i+1) { s with heap:=h2,toks:=tk+1 } (by omega) st2 hD2 (fun j p hj=>?_) fun h3 tk3 hD3 k3=>q h3 tk3 hD3 fun b o hb hbd e=>k3 b o hb hbd (hs2.extBut _ _ hbd (kk b o hb e))
    obtain ⟨key',hk',o',ho',r'⟩:=hT j p hj
    have hj':j < n:=by rw [← hn];exact (List.getElem?_eq_some_iff.mp hj).1
    exact ⟨key',hk',o',hs2.extBut _ _ (hw j hj').2 (kk _ _ (hw j hj').1 ho'),r'⟩
inductive PairsAt (H:Hp):List Addr→List (Key × V)→Prop where
  | nil:PairsAt H [] []
  | cons {p:Addr} {ps:List Addr} {k:Key} {v:V} {kvs:List (Key × V)}:H p=some (.tup [kV k,v])→PairsAt H ps kvs→PairsAt H (p :: ps) ((k,v) :: kvs)
theorem PairsAt.len {H:Hp}:∀ {ps:List Addr} {kvs:List (Key × V)},PairsAt H ps kvs→ps.length=kvs.length
  | _,_,.nil=>rfl
  | _,_,.cons _ r=>congrArg (· + 1) r.len
theorem PairsAt.mem {H:Hp}:∀ {ps:List Addr} {kvs:List (Key × V)},PairsAt H ps kvs→∀ p∈ps,∃ o,H p=some o
  | _,_,.nil,p,h=>by simp at h
  | _,_,.cons e r,p,h=>by
    rcases List.mem_cons.mp h with z | z
    · rw [z];exact ⟨_,e⟩
    · exact r.mem p z
theorem PairsAt.real {X:Cx} {pins:List (Addr × Obj)} {σ:St} {H:Hp} {s:Shared} (I:Inv X pins σ H s):∀ {ps:List Addr} {kvs:List (Key × V)},PairsAt H ps kvs →
    ∃ vs:List (Key × Value),KV kvs vs∧∀ (j:Nat) p,vs[j]? = some p→∃ key,(mixKind X.prog X.w).is p.1 key=true∧IsTup s.heap (ps.getD j 0) #[key,p.2]
  | _,_,.nil=>⟨[],.nil,fun j p e=>by simp at e⟩
  | _,_,.cons (p:=a) (k:=k) (v:=v) e r=>by
    obtain ⟨vs,hv,h⟩:=r.real I
    obtain ⟨its,rv,ht,_⟩:=I.tuple (SqT.of e)
    cases rv with
    | cons r1 rr =>
      rename_i key its1
      cases rr with
      | cons r2 rr2 =>
        rename_i val its2
        cases rr2
        refine ⟨(k,val) :: vs,.cons ⟨rfl,r2⟩ hv,fun j p ep=>?_⟩
        cases j with
        | zero =>
          cases ep
          exact ⟨key,kV_is r1,ht⟩
        | succ j=>exact h j p ep
def rDictL (K:PySem.W.Frag):List V→Hp→VK→Prop:=fun xs H Q=>∃ (l:Addr) (ps:List Addr) (kvs:List (Key × V)),xs=[.ref l]∧SqL K H l (ps.map V.ref)∧PairsAt H ps kvs∧(kvs.map (·.1)).Nodup∧kvs.length≤1000 ∧
  ∀ d,H d=none→Q (.ref d) (upd H d (.dK kvs))
theorem kv_keys {κ:Type}:∀ {kvs:List (κ × V)} {vs:List (κ × Value)},KV kvs vs→vs.map (·.1)=kvs.map (·.1)
  | _,_,.nil=>rfl
  | _,_,.cons h r=>by
    rw [List.map_cons,List.map_cons,kv_keys r,h.1]
theorem call_dict_list {X:Cx} (hc:X.calm=true):CallR X (.type "dict") (rDictL X.K):=by
  intro pins s σ H xs us Q I r h
  obtain ⟨l,ps,kvs,rfl,hL,hP,nd,hz,q⟩:=h
  obtain ⟨u,rfl,ru⟩:=vals1 r
  cases ru
  obtain ⟨its,rv,pl,hl⟩:=I.list hL
  obtain ⟨ol,nl,hol,hcl,hdl,hsl⟩:=id pl
  obtain ⟨vs,hv,hT⟩:=hP.real I
  have hA:=I.ok.hd hc
  refine callType_codes (Q₁:=fun ob s1=>ob=.ref s.heap.objs.size∧s1 = { s with heap:=s.heap.push { cls:=.type "dict",data:=.dict #[] } }) F.kt_called_dict (F.kt_typeCall_dict_1 _) F.entry_dict_init (kt_code_dict_new _ ⟨rfl,rfl⟩) ?_
  rintro ob s1 ⟨rfl,rfl⟩
  have hnew:(s.heap.push { cls:=.type "dict",data:=.dict #[] }).DictOf (mixKind X.prog X.w) s.heap.objs.size []:=Heap.DictOf.new s.heap
  have hol1:(s.heap.push { cls:=.type "dict",data:=.dict #[] }).get? l=some ol:=Heap.get?_push_of_some _ hol
  refine ⟨hnew.typeIs,F.args_dict_init_2 _ _,?_⟩
  unfold Builtin.«dict.__init__» ;unfold Builtin.Dict.selfAndRest
  refine wpAny_bind (wpAny_bind (wpAny_notOrdered_dict hnew.typeIs ?_))
  show wpAny _ _ (pure (s.heap.objs.size,[Value.ref l])) _ _ _
  refine wpAny_pure ?_
  show wpAny _ _ (Builtin.Dict.updateFrom "dict.__init__" s.heap.objs.size (.ref l) [] .none) _ _ _
  unfold Builtin.Dict.updateFrom
  refine wpAny_bind (wpAny_typeOf (T:="list") ⟨ol,hol1,hcl⟩ ?_)
  rw [if_pos (by decide)]
  refine wpAny_bind (keys_of_list (s:={ s with heap:=s.heap.push { cls:=.type "dict",data:=.dict #[] } }) hol1 hcl hsl hdl hA fun h1 tk1 k1=>?_)
  rw [if_pos (by rfl)]
  refine wpAny_bind (wpAny_rule ?_)
  have L1:h1.IsList l its.toArray:=⟨ol,k1 _ _ hol1,hcl,nl,hsl⟩
  refine wpAny_bind (wpAny_pyIter_list (s:={ s with heap:=h1,toks:=tk1 }) L1 ?_)
  refine wpAny_pure ⟨plainId_quiet plain_upd_loop _,?_⟩
  have hdlt:s.heap.objs.size < h1.objs.size:=Heap.lt_size (k1 _ _ (Heap.get?_push_size _ rfl))
  have llt:l < s.heap.objs.size:=Heap.lt_size hol
  have up:∀ b o,s.heap.get? b=some o→h1.get? b=some o:=fun b o e=>k1 b o (Heap.get?_push_of_some _ e)
  have lenp:ps.length=its.length:=by have:=rv.length;rwa [List.length_map] at this
  have lenv:vs.length=kvs.length:=(Paired.length hv).symm
  have n1:l≠h1.objs.size:=Nat.ne_of_lt (Nat.lt_trans llt hdlt)
  have W:=Walks.list (prog:=X.prog) (w:=X.w) (A:=X.A.in1.in1) hA h1.objs.size l n1 its.toArray
  have ei:rawInt 0=.int ((0:Nat):Int) 0:=rfl
  rw [ei]
  have old:∀ j,j < its.toArray.size→ps.getD j 0 < s.heap.objs.size:=fun j hj=>by
    have hj':j < ps.length:=by rw [lenp];simpa using hj
    have hm:ps.getD j 0∈ps:=by rw [List.getD_eq_getElem?_getD,List.getElem?_eq_getElem hj'];exact List.getElem_mem hj'
    obtain ⟨o,ho⟩:=hP.mem _ hm
    exact I.hok.lt ho
  refine upd_loop (κ:=Key) (knd:=mixKind X.prog X.w) (n:=its.toArray.size) W (d:=s.heap.objs.size) ?_ vs ?_ ?_ (fun j=>ps.getD j 0) ?_ ?_ ?_ its.toArray.size 0 _ (Nat.zero_add _) ⟨⟨_,Heap.get?_push_size _ rfl,rfl,rfl⟩,L1.push _⟩ ?_ ?_ ?_
  · intro z
    have z':s.heap.objs.size=h1.objs.size∨s.heap.objs.size=l:=by simpa using z
    exact z'.elim (Nat.ne_of_lt hdlt) (Nat.ne_of_gt llt)
  · rw [lenv,← hP.len,lenp];simp
  · rw [kv_keys hv];exact nd
  · intro i v hi e
    have e':its[i]? = some v:=by simpa using e
    have hi':i < ps.length:=by rw [lenp];simpa using hi
    obtain ⟨u,hu,ru⟩:=rv.get (i:=i) (x:=V.ref ps[i]) (by rw [List.getElem?_map,List.getElem?_eq_getElem hi'];rfl)
    rw [hu] at e'
    cases e'
    rw [List.getD_eq_getElem?_getD,List.getElem?_eq_getElem hi']
    exact ru
  · intro i hi
    have hlt:=old i hi
    refine ⟨fun z=>?_,Nat.ne_of_lt hlt⟩
    have z':ps.getD i 0=h1.objs.size:=by simpa using z
    exact Nat.ne_of_lt (Nat.lt_trans hlt hdlt) z'
  · have:=hP.len
    exact Nat.le_of_lt (small1000 (by simp;omega))
  · rw [List.take_zero]
    exact (dictOf_keep hnew fun o e=>k1 _ o e).push _
  · intro j p hj
    obtain ⟨key,hk,o,ho,r⟩:=hT j p hj
    exact ⟨key,hk,o,Heap.get?_push_of_some _ (up _ _ ho),r⟩
  · intro h3 tk3 hD k3
    refine ⟨rfl,.ref s.heap.objs.size,upd H s.heap.objs.size (.dK kvs),I.laid (a:=s.heap.objs.size) (o:=.dK kvs) (t':=tk3) (fun b o e=>?_) (Nat.le_refl _) ⟨Nat.le_of_lt (small1000 hz),?_,vs,hv,hD⟩,rfl,q _ (I.hok.fresh (Nat.le_refl _))⟩
    · have hlt:=Heap.lt_size e
      refine k3 b o (fun z=>?_) (Nat.ne_of_lt hlt) (Heap.get?_push_of_some _ (up _ _ e))
      have z':b=h1.objs.size:=by simpa using z
      exact Nat.ne_of_lt (Nat.lt_trans hlt hdlt) z'
    · exact beq_eq_false_iff_ne.mpr (Nat.ne_of_gt I.big)
theorem call_dict_pairsK {X:Cx} (K:PySem.W.Frag) (hc:X.calm=true) (hu:X.A.units+1 < cLine) (hK:X.K=K:=by rfl):CallR X (.type "dict") (rDictL K):=by subst hK;exact call_dict_list hc
end L2
namespace L2
open PySem PySem.Spec PyProof.Rows
end L2
namespace L2
open PySem PySem.Spec PyProof.Rows
section
variable {P:Program} {w:World} {A:Around} {E:Value→Shared→Prop} {s:Shared}
theorem nextOf_tup {it t:Addr} {k:Nat} {xs:Array Value} {x:Value} {Q:Value→Shared→Prop} (hi:IsTupIter s.heap it t k) (ht:IsTup s.heap t xs) (hx:xs[k]? = some x)
    (q:∀ h',IsTupIter h' it t (k+1)→Heap.SameBut it s.heap h'→Q x { s with heap:=h' }):wpAny (model P w) A (Builtin.SmallTypes.nextOf (.ref it)) Q E s:=by
  obtain ⟨oi,hoi,ci,di⟩:=id hi
  obtain ⟨ot,hot,_,nt,dt⟩:=ht
  unfold Builtin.SmallTypes.nextOf
  refine wpAny_bind (wpAny_callSpecial?_slot (name:=Str.ofString "__next__") hi.typeIs slot_tupleiter_next (wpAny_call_entry slot_tupleiter_next hi.typeIs entry_tupleiter_next ?_ (args_tupleiter_next _)))
  show wpAny _ _ (field (.ref it) 0 >>= _) _ _ _
  refine wpAny_bind (wpAny_field hoi di (x:=.ref t) rfl ?_)
  show wpAny _ _ (if (Value.ref t == Value.none)=true then _ else _) _ _ _
  rw [if_neg (show ¬ ((Value.ref t == Value.none)=true) by intro z;cases z)]
  show wpAny _ _ (field (.ref it) 1 >>= _) _ _ _
  refine wpAny_bind (wpAny_field hoi di (x:=.int k 0) rfl ?_)
  show wpAny _ _ (seqItems? (.ref t) >>= _) _ _ _
  refine wpAny_bind (wpAny_seqItems hot dt ?_)
  simp only [Int.toNat_natCast,hx]
  refine wpAny_bind (wpAny_setField hoi di (by simp) (wpAny_pure ⟨x,rfl,wpAny_pure (q _ ?_ (Heap.SameBut.update ..))⟩))
  refine ⟨_,Heap.get?_update_self _ hoi (Obj.isFreed_of_fields (Obj.data_mapFields di _)),(Obj.cls_mapFields ..).trans ci,?_⟩
  rw [Obj.data_mapFields di]
  simp [rawInt]
theorem nextOf_tup_end {it t:Addr} {k:Nat} {xs:Array Value} {Q:Value→Shared→Prop} (hA:A.handled=none) (hi:IsTupIter s.heap it t k) (ht:IsTup s.heap t xs) (hx:xs[k]? = none)
    (q:∀ h' e,Heap.ExtBut it s.heap h'→(∃ o,h'.get? e=some o∧o.cls=.type "StopIteration")→E (.ref e) { s with heap:=h' }):wpAny (model P w) A (Builtin.SmallTypes.nextOf (.ref it)) Q E s:=by
  obtain ⟨oi,hoi,ci,di⟩:=id hi
  obtain ⟨ot,hot,_,nt,dt⟩:=ht
  unfold Builtin.SmallTypes.nextOf
  refine wpAny_bind (wpAny_callSpecial?_slot (name:=Str.ofString "__next__") hi.typeIs slot_tupleiter_next (wpAny_call_entry slot_tupleiter_next hi.typeIs entry_tupleiter_next ?_ (args_tupleiter_next _)))
  show wpAny _ _ (field (.ref it) 0 >>= _) _ _ _
  refine wpAny_bind (wpAny_field hoi di (x:=.ref t) rfl ?_)
  show wpAny _ _ (if (Value.ref t == Value.none)=true then _ else _) _ _ _
  rw [if_neg (show ¬ ((Value.ref t == Value.none)=true) by intro z;cases z)]
  show wpAny _ _ (field (.ref it) 1 >>= _) _ _ _
  refine wpAny_bind (wpAny_field hoi di (x:=.int k 0) rfl ?_)
  show wpAny _ _ (seqItems? (.ref t) >>= _) _ _ _
  refine wpAny_bind (wpAny_seqItems hot dt ?_)
  simp only [Int.toNat_natCast,hx]
  refine wpAny_bind (wpAny_rule (wpAny_bind (wpAny_setField hoi di (by simp) ?_)))
  show wpAny _ _ (newExc (.type "StopIteration") [] >>= _) _ _ _
  simp only [newExc,newTuple]
  refine wpAny_bind (wpAny_bind (wpAny_newObj_type ?_ (by size_fits)))
  refine wpAny_bind (m:=firstArgMember _ _) (wpAny_of_eq (a:=Value.none) (by first | rfl | (simp only [firstArgMember] ;rfl)) ?_)
  refine wpAny_newObj_type ?_ (by size_fits)
  simp only [raiseNew]
  refine wpAny_bind (wpAny_handled ?_)
  first | rw [show A.in1.handled=none from hA] | rw [hA]
  refine wpAny_bind (wpAny_pure (wpAny_throw ?_))
  exact q _ _ (((Heap.SameBut.update ..).extBut.push _).push _) ⟨_,Heap.get?_push_size _ rfl,rfl⟩
end
structure Src (P:Program) (w:World) (it sq:Addr) (xs:Array Value) (St:Nat→Heap→Prop):Prop where
  keep:∀ k h h',St k h→(∀ b,b=it∨b=sq→∀ o,h.get? b=some o→h'.get? b=some o)→St k h'
  obj:∀ k h,St k h→∃ o vs,h.get? it=some o∧o.data=.fields vs
  item:∀ (A:Around) (E:Value→Shared→Prop) (k:Nat) (s:Shared) (x:Value) (Q:Value→Shared→Prop),St k s.heap→xs[k]? = some x →
    (∀ h',St (k+1) h'→Heap.SameBut it s.heap h'→Q x { s with heap:=h' })→wpAny (model P w) A (Builtin.SmallTypes.nextOf (.ref it)) Q E s
  fin:∀ (A:Around) (E:Value→Shared→Prop) (k:Nat) (s:Shared) (Q:Value→Shared→Prop),A.handled=none→St k s.heap→xs[k]? = none →
    (∀ h' e,Heap.ExtBut it s.heap h'→(∃ o,h'.get? e=some o∧o.cls=.type "StopIteration")→E (.ref e) { s with heap:=h' })→wpAny (model P w) A (Builtin.SmallTypes.nextOf (.ref it)) Q E s
theorem Src.off {P:Program} {w:World} {it sq:Addr} {xs:Array Value} {St:Nat→Heap→Prop} (S:Src P w it sq xs St) {k:Nat} {h h':Heap} {b:Addr} (st:St k h) (e:Heap.ExtBut b h h') (n1:it≠b) (n2:sq≠b):St k h' :=
  S.keep k h h' st fun c hc o ho=>e c o (by rcases hc with z | z <;> rw [z] <;> assumption) ho
theorem src_list {P:Program} {w:World} (it l:Addr) (ne:l≠it) (xs:Array Value):Src P w it l xs (fun k h=>h.IsListIter it l k∧h.IsList l xs) where
  keep:=fun k h h' st e=>⟨st.1.at fun o x=>e it (.inl rfl) o x,st.2.at fun o x=>e l (.inr rfl) o x⟩
  obj:=fun k h st=>by
    obtain ⟨o,ho,_,d⟩:=st.1
    exact ⟨o,_,ho,d⟩
  item:=fun A E k s x Q st hx q=>wpAny_nextOf_list_item st.1 st.2 hx fun h' a b=>q h' ⟨a,st.2.extBut b.extBut ne⟩ b
  fin:=fun A E k s Q hA st hx q=>wpAny_nextOf_list_end hA st.1 st.2 hx q
theorem src_tup {P:Program} {w:World} (it t:Addr) (ne:t≠it) (xs:Array Value):Src P w it t xs (fun k h=>IsTupIter h it t k∧IsTup h t xs) where
  keep:=fun k h h' st e=>by
    obtain ⟨⟨o,ho,r⟩,o2,ho2,r2⟩:=st
    exact ⟨⟨o,e it (.inl rfl) o ho,r⟩,o2,e t (.inr rfl) o2 ho2,r2⟩
  obj:=fun k h st=>by
    obtain ⟨o,ho,_,d⟩:=st.1
    exact ⟨o,_,ho,d⟩
  item:=fun A E k s x Q st hx q=>nextOf_tup st.1 st.2 hx fun h' a b=>q h' ⟨a,st.2.extBut b.extBut ne⟩ b
  fin:=fun A E k s Q hA st hx q=>nextOf_tup_end hA st.1 st.2 hx q
section
variable {P:Program} {w:World} {A:Around} {E:Value→Shared→Prop} {s:Shared} {z TI TO i1 i2 l1 l2:Addr} {xs ys:Array Value} {S1 S2:Nat→Heap→Prop}
end
def SqA (K:PySem.W.Frag) (H:Hp) (a:Addr) (xs:List V):Bool→Prop
  | true=>SqT K H a xs
  | false=>SqL K H a xs
def ItA (h:Heap) (it l:Addr) (k:Nat):Bool→Prop
  | true=>IsTupIter h it l k
  | false=>h.IsListIter it l k
def HasA (h:Heap) (l:Addr) (xs:Array Value):Bool→Prop
  | true=>IsTup h l xs
  | false=>h.IsList l xs
theorem srcA {P:Program} {w:World} (it l:Addr) (ne:l≠it) (xs:Array Value):∀ b,Src P w it l xs (fun k h=>ItA h it l k b∧HasA h l xs b)
  | true=>src_tup it l ne xs
  | false=>src_list it l ne xs
theorem ItA.at {h h':Heap} {it l:Addr} {k:Nat} (e:∀ o,h.get? it=some o→h'.get? it=some o):∀ {b:Bool},ItA h it l k b→ItA h' it l k b
  | true,x=>let ⟨o,ho,r⟩:=(show IsTupIter h it l k from x);⟨o,e o ho,r⟩
  | false,x=>let ⟨o,ho,r⟩:=(show h.IsListIter it l k from x);⟨o,e o ho,r⟩
theorem ItA.obj {h:Heap} {it l:Addr} {k:Nat}:∀ {b:Bool},ItA h it l k b→∃ o,h.get? it=some o∧o.data=.fields #[.ref l,.int k 0]∧(o.cls=.type "tuple_iterator"∨o.cls=.type "list_iterator")
  | true,x=>let ⟨o,ho,c,d⟩:=(show IsTupIter h it l k from x);⟨o,ho,d,.inl c⟩
  | false,x=>let ⟨o,ho,c,d⟩:=(show h.IsListIter it l k from x);⟨o,ho,d,.inr c⟩
theorem HasA.obj {h:Heap} {l:Addr} {xs:Array Value}:∀ {b:Bool},HasA h l xs b→∃ o,h.get? l=some o∧(o.cls=.type "tuple"∨o.cls=.type "list")∧∃ n,o.data=.seq xs n
  | true,x=>let ⟨o,ho,c,n,d⟩:=(show IsTup h l xs from x);⟨o,ho,.inl c,n,d⟩
  | false,x=>let ⟨o,ho,c,n,d⟩:=(show h.IsList l xs from x);⟨o,ho,.inr c,n,d⟩
theorem Inv.seqA {X:Cx} {pins:List (Addr × Obj)} {σ:St} {H:Hp} {s:Shared} {a:Addr} {xs:List V} (I:Inv X pins σ H s):∀ {b:Bool},SqA X.K H a xs b→∃ its:List Value,Vals xs its∧HasA s.heap a its.toArray b∧xs.length≤sizeLine
  | true,h=>let ⟨its,r,p,z⟩:=I.tuple h;⟨its,r,p,z⟩
  | false,h=>let ⟨its,r,p,z⟩:=I.list h;⟨its,r,p.isList,z⟩
def itO (l:Addr):Bool→Obj
  | true=>{ cls:=.type "tuple_iterator",data:=.fields #[.ref l,.int 0 0] }
  | false=>{ cls:=.type "list_iterator",data:=.fields #[.ref l,.int 0 0] }
theorem pyIterA {P:Program} {w:World} {A:Around} {E:Value→Shared→Prop} {s:Shared} {l:Addr} {xs:Array Value} {Q:Value→Shared→Prop}:∀ {b:Bool},HasA s.heap l xs b→Q (.ref s.heap.objs.size) { s with heap:=s.heap.push (itO l b) }→wpAny (model P w) A (pyIter (.ref l)) Q E s
  | true,h,q=>iter_tuple h q
  | false,h,q=>wpAny_pyIter_list h q
theorem HasA.keep {h h':Heap} {l:Addr} {xs:Array Value} (e:∀ o,h.get? l=some o→h'.get? l=some o):∀ {b:Bool},HasA h l xs b→HasA h' l xs b
  | true,x=>let ⟨o,ho,r⟩:=(show IsTup h l xs from x);⟨o,e o ho,r⟩
  | false,x=>let ⟨o,ho,r⟩:=(show h.IsList l xs from x);⟨o,e o ho,r⟩
abbrev zh1 (h:Heap) (l1:Addr) (b1:Bool):Heap:=h.push (itO l1 b1)
abbrev zh2 (h:Heap) (l1 l2:Addr) (b1 b2:Bool):Heap:=(zh1 h l1 b1).push (itO l2 b2)
abbrev zh3 (h:Heap) (l1 l2:Addr) (b1 b2:Bool):Heap:=(zh2 h l1 l2 b1 b2).push { cls:=.type "tuple",data:=.seq #[.ref h.objs.size,.ref (zh1 h l1 b1).objs.size] }
abbrev zh4 (h:Heap) (l1 l2:Addr) (b1 b2:Bool):Heap:=(zh3 h l1 l2 b1 b2).push { cls:=.type "tuple",data:=.seq #[.none,.none] }
abbrev zh5 (h:Heap) (l1 l2:Addr) (b1 b2:Bool):Heap:=(zh4 h l1 l2 b1 b2).push { cls:=.type "zip",data:=.fields #[.none,.bool false,.bool false,.ref (zh2 h l1 l2 b1 b2).objs.size,.ref (zh3 h l1 l2 b1 b2).objs.size] }
theorem meets_zipA (l1 l2:Addr) (b1 b2:Bool) (xs ys:Array Value) :
    Meets (Builtin.«zip.__new__» ⟨[.type "zip",.ref l1,.ref l2],[]⟩) (fun _ R s=>HasA s.heap l1 xs b1∧HasA s.heap l2 ys b2∧R (.ok (.ret (.ref (zh4 s.heap l1 l2 b1 b2).objs.size))) { s with heap:=zh5 s.heap l1 l2 b1 b2 }) :=
  .of_wp fun prog w A R s h=>by
    obtain ⟨hp,g,d,tk,os⟩:=s
    obtain ⟨m1,m2,h⟩:=h
    have hsub:=sub_zip
    have n1:HasA (Shared.heap ⟨hp,g,d,tk,os⟩) l1 xs b1:=m1
    have n2:HasA (Shared.heap ⟨hp.push (itO l1 b1),g,d,tk,os⟩) l2 ys b2:=HasA.keep (fun o e=>Heap.get?_push_of_some _ e) m2
    wp_walk using pyIterA n1,pyIterA n2
    exact ⟨_,rfl,h⟩
theorem itO_at {h:Heap} {l:Addr} {k:Addr}:∀ {b:Bool},h.get? k=some (itO l b)→ItA h k l 0 b
  | true,e=>⟨_,e,rfl,rfl⟩
  | false,e=>⟨_,e,rfl,rfl⟩
theorem call_zipA {P:Program} {w:World} {A:Around} {E:Value→Shared→Prop} {s:Shared} {l1 l2:Addr} {b1 b2:Bool} {xs ys:Array Value} {Q:Value→Shared→Prop} (m1:HasA s.heap l1 xs b1) (m2:HasA s.heap l2 ys b2)
    (q : ∀ h',IsZip h' (s.heap.objs.size+4) (s.heap.objs.size+2) (s.heap.objs.size+3) .none→IsPair h' (s.heap.objs.size+2) (.ref s.heap.objs.size) (.ref (s.heap.objs.size+1)) →
      IsPair h' (s.heap.objs.size+3) .none .none→ItA h' s.heap.objs.size l1 0 b1→ItA h' (s.heap.objs.size+1) l2 0 b2→(∀ c o,s.heap.get? c=some o→h'.get? c=some o)→Q (.ref (s.heap.objs.size+4)) { s with heap:=h' }) :
    wpAny (model P w) A (call (.type "zip") [.ref l1,.ref l2]) Q E s:=by
  refine callType_new F.called_zip (by decide) (F.typeCall_zip_2 _ _) (F.newCall_zip_2 _ _) (fun ob=>F.args_object_init_3 ob _ _) F.entry_zip_new (meets_zipA l1 l2 b1 b2 xs ys) ⟨m1,m2,?_⟩
  have k1:(zh1 s.heap l1 b1).objs.size=s.heap.objs.size+1:=Heap.size_push ..
  have k2:(zh2 s.heap l1 l2 b1 b2).objs.size=s.heap.objs.size+2:=by rw [Heap.size_push,k1]
  have k3:(zh3 s.heap l1 l2 b1 b2).objs.size=s.heap.objs.size+3:=by rw [Heap.size_push,k2]
  have k4:(zh4 s.heap l1 l2 b1 b2).objs.size=s.heap.objs.size+4:=by rw [Heap.size_push,k3]
  have t5:(zh5 s.heap l1 l2 b1 b2).get? (zh4 s.heap l1 l2 b1 b2).objs.size=some _:=Heap.get?_push_size _ rfl
  have t4:(zh5 s.heap l1 l2 b1 b2).get? (zh3 s.heap l1 l2 b1 b2).objs.size=some _:=Heap.get?_push_of_some _ (Heap.get?_push_size _ rfl)
  have t3:(zh5 s.heap l1 l2 b1 b2).get? (zh2 s.heap l1 l2 b1 b2).objs.size=some _:=Heap.get?_push_of_some _ (Heap.get?_push_of_some _ (Heap.get?_push_size _ rfl))
  have fr:∀ b l,(itO l b).isFreed=false:=fun b l=>by cases b <;> rfl
  have t2:(zh5 s.heap l1 l2 b1 b2).get? (zh1 s.heap l1 b1).objs.size=some (itO l2 b2):=Heap.get?_push_of_some _ (Heap.get?_push_of_some _ (Heap.get?_push_of_some _ (Heap.get?_push_size _ (fr _ _))))
  have t1:(zh5 s.heap l1 l2 b1 b2).get? s.heap.objs.size=some (itO l1 b1):=Heap.get?_push_of_some _ (Heap.get?_push_of_some _ (Heap.get?_push_of_some _ (Heap.get?_push_of_some _ (Heap.get?_push_size _ (fr _ _)))))
  show _∧_
  rw [k2,k3,k4] at t5
  rw [k1,k2] at t3
  rw [k3] at t4
  rw [k1] at t2
  rw [k4]
  exact ⟨⟨_,t5,rfl⟩,q _ t5 t3 t4 (itO_at t1) (itO_at t2) fun c o e=>Heap.get?_push_of_some _ (Heap.get?_push_of_some _ (Heap.get?_push_of_some _ (Heap.get?_push_of_some _ (Heap.get?_push_of_some _ e))))⟩
end L2
namespace L2
open PySem PySem.Spec PyProof.Rows
inductive VSame (K:PySem.W.Frag) (H:Hp):Nat→V→V→Prop where
  | flat {n:Nat} {x:V} (h:flatV x=true):VSame K H n x x
  | seq {n:Nat} {a b:Addr} {xs ys:List V} (t:Bool) (ha:SqA K H a xs t) (hb:SqA K H b ys t) (hl:xs.length=ys.length) (h:∀ (i:Nat) x y,xs[i]? = some x→ys[i]? = some y→VSame K H n x y):VSame K H (n+1) (.ref a) (.ref b)
theorem eqV_refl {x:V} (h:flatV x=true):eqV x x=true:=by
  cases x <;> first | (cases h;done) | (simp [eqV])
section
variable {X:Cx} {pins:List (Addr × Obj)} {σ:St} {H:Hp} {s:Shared}
theorem all_true (n:Nat):((List.range n).all fun _=>true)=true:=by simp
theorem items_same {n:Nat} {A:Around} {xs ys:List V} {i1 i2:List Value} (r1:Vals xs i1) (r2:Vals ys i2) (ih:∀ (i:Nat) x y u v,xs[i]? = some x→ys[i]? = some y→RelV x u→RelV y v→SeqAt.EqAt A s u v true) :
    ∀ j (h1:j < i1.toArray.size) (h2:j < i2.toArray.size),SeqAt.EqAt A s i1.toArray[j] i2.toArray[j] true:=fun j h1 h2=>by
  have l1:=r1.length
  have l2:=r2.length
  have h1':j < xs.length:=by simpa [l1] using h1
  have h2':j < ys.length:=by simpa [l2] using h2
  obtain ⟨u1,f1,g1⟩:=r1.get (List.getElem?_eq_getElem h1')
  obtain ⟨u2,f2,g2⟩:=r2.get (List.getElem?_eq_getElem h2')
  have k1:i1.toArray[j]=u1:=by
    have:=(List.getElem?_eq_some_iff.mp f1).2
    simpa using this
  have k2:i2.toArray[j]=u2:=by
    have:=(List.getElem?_eq_some_iff.mp f2).2
    simpa using this
  rw [k1,k2]
  exact ih j _ _ _ _ (List.getElem?_eq_getElem h1') (List.getElem?_eq_getElem h2') g1 g2
theorem rc_seq {A:Around} {t:Bool} {a b:Addr} {i1 i2:List Value} (p1:HasA s.heap a i1.toArray t) (p2:HasA s.heap b i2.toArray t) (hl:i1.length=i2.length) (hu:A.units < cLine)
    (h:∀ j (h1:j < i1.toArray.size) (h2:j < i2.toArray.size),SeqAt.EqAt A.in1 s i1.toArray[j] i2.toArray[j] true):SeqAt.RcAt A s (.ref a) (.ref b) true:=by
  cases t with
  | false =>
    have:=SeqAt.RcAt.lists (e:=fun _=>true) p1 p2 (by simpa using hl) hu h
    rwa [all_true] at this
  | true =>
    have:=SeqAt.RcAt.tuples (e:=fun _=>true) p1 p2 hu h
    rw [all_true] at this
    simpa [hl] using this
theorem rcne_seq {A:Around} {t:Bool} {a b:Addr} {i1 i2:List Value} (p1:HasA s.heap a i1.toArray t) (p2:HasA s.heap b i2.toArray t) (hl:i1.length=i2.length) (hu:A.units < cLine)
    (h:∀ j (h1:j < i1.toArray.size) (h2:j < i2.toArray.size),SeqAt.EqAt A.in1 s i1.toArray[j] i2.toArray[j] true):SeqAt.RcNeAt A s (.ref a) (.ref b) false:=by
  cases t with
  | false =>
    have:=SeqAt.RcNeAt.lists (e:=fun _=>true) p1 p2 (by simpa using hl) hu h
    rwa [all_true] at this
  | true =>
    have:=SeqAt.RcNeAt.tuples (e:=fun _=>true) p1 p2 hu h
    rw [all_true] at this
    simpa [hl] using this
theorem eq_deep (I:Inv X pins σ H s):∀ {n:Nat} {x y:V},VSame X.K H n x y→∀ {u v:Value} (A:Around),RelV x u→RelV y v→A.units+n < cLine→SeqAt.EqAt A s u v true:=by
  intro n x y h
  induction h with
  | flat h =>
    intro u v A ru rv _
    have:=eqAt_V (A:=A) (s:=s) ru rv h h
    rwa [eqV_refl h] at this
  | seq t ha hb hl h ih =>
    rename_i n a b xs ys
    intro u v A ru rv hu
    cases ru
    cases rv
    by_cases e:a=b
    · subst e
      exact SeqAt.EqAt.same _
    · obtain ⟨i1,r1,p1,_⟩:=I.seqA ha
      obtain ⟨i2,r2,p2,_⟩:=I.seqA hb
      refine SeqAt.EqAt.of_refs e (rc_seq p1 p2 (by rw [← r1.length,← r2.length,hl]) (by omega) (items_same (n:=n) r1 r2 fun i x y u v e1 e2 g1 g2=>ih i x y e1 e2 A.in1 g1 g2 ?_))
      show A.units+1+n < cLine
      omega
end
def rSameV (K:PySem.W.Frag) (b:Bool):R2:=fun x y H Q=>∃ (n:Nat) (a c:Addr),x=.ref a∧y=.ref c∧VSame K H (n+1) x y∧n≤30∧Q (.bl b) H
theorem op_neV {X:Cx} (hu:X.A.units+64 < cLine):OpR X (compareOp .NotEq) (rSameV X.K false):=by
  intro pins s σ H x y u v Q I rx ry h
  obtain ⟨n,a,c,rfl,rfl,hv,hn,q⟩:=h
  cases rx
  cases ry
  cases hv with
  | flat h=>cases h
  | seq t ha hb hl h =>
    obtain ⟨i1,r1,p1,_⟩:=I.seqA ha
    obtain ⟨i2,r2,p2,_⟩:=I.seqA hb
    refine rcne_seq p1 p2 (by rw [← r1.length,← r2.length,hl]) (by omega) (items_same (n:=n) r1 r2 fun i x y u v e1 e2 g1 g2=>eq_deep I (h i x y e1 e2) X.A.in1 g1 g2 ?_) X.prog X.w _ _ ⟨.bl false,H,I,rfl,q⟩
    show X.A.units+1+n < cLine
    omega
theorem op_neVK {X:Cx} (K:PySem.W.Frag) (hu:X.A.units+64 < cLine) (hK:X.K=K:=by rfl):OpR X (compareOp .NotEq) (rSameV K false):=by subst hK;exact op_neV hu
end L2
namespace L2
open PySem PySem.Spec PyProof.Rows
end L2
namespace L2
open PySem PySem.Spec PyProof.Rows
def CX1 (P:Program) (w:World):CXT:=fun outer H s E u s'=>∃ (e t:Addr) (cls:Value) (H':Hp) (b1:Heap),u=.ref e∧s'.os=s.os∧AllBare s'.gens∧Un (frs outer) [] H H' s.heap s'.heap∧HOk P w H' s'.heap∧H' e=none∧s.heap.get? e=none ∧
  Heap.FlyingW b1 outer e cls (.ref t) s'.heap∧(∀ b o,((∃ u,s.heap.get? b=some u)∨∃ u,H' b=some u)→b ∉ frs outer→s'.heap.get? b=some o→b1.get? b=some o)∧E cls none H'
section
variable {P:Program} {w:World} {K:PySem.W.Frag} {mg:Str→Option Value} {base:Heap} {N:List Str} {qual:Str} {scope:Scope} {f:Addr} {cdv:Value} {A:Around} {outer:List Env} {s:Shared} {H:Hp} {E:XK}
theorem Fun.ok1 {x:Str} {st:Stmt} {fd:FuncData} {ps:List Str} {k:Nat} {sp:Sp} (F:Fun K x qual st f fd) (S:FnScope N ps (defScope st)) (len:∀ vs H Q E,sp vs H Q E→vs.length=ps.length)
    (hbody:∀ (cdv:Value) (A:Around) (outer:List Env) (s:Shared) (H:Hp) (vs:List V) (Q:VK) (E:XK),Room k (A.deeper (envOfC qual (defScope st) s.heap.objs.size f cdv))→sp vs H Q E →
      ∃ t,PSs (cxOf (CX1 P w) P w K mg base N qual (defScope st) f cdv A outer s H E) (defBody st) t∧t { nx:=fun _ H'=>Q .non H',rt:=Q } (start N vs) H):FnOk P w K mg base (CX1 P w) (k+1) f fd ps sp:=by
  obtain ⟨oc,od,kV,doc,pm,an,cdv,ct,osl,rfl,lk,hcd⟩:=F.ex
  exact fn_of lk hcd S len fun A outer s H vs Q E hr hsp=>hbody cdv A outer s H vs Q E hr hsp
theorem FnOk.calm {k:Nat} {fd:FuncData} {ps:List Str} {sp sp':Sp} (F:FnOk P w K mg base (CX1 P w) k f fd ps sp) (h:∀ vs H Q E,sp' vs H Q E→sp vs H Q E0):FnOk P w K mg base CX0 k f fd ps sp' :=
  ⟨fun vs H Q E q=>F.len vs H Q E0 (h _ _ _ _ q),fun A outer s H args us vs Q E hr he hb hv hs=>codeAny_mono (F.run A outer s H args us vs Q E0 hr he hb hv (h _ _ _ _ hs)) fun r s' hq=>by
    cases r with
    | error e =>
      obtain ⟨_,_,_,_,_,_,_,_,_,_,_,_,_,_,q⟩:=hq
      exact q.elim
    | ok fl=>cases fl <;> exact hq⟩
end
end L2
namespace L2
open PySem PySem.Spec PySem.Calls PyProof.Rows PySem.W
section
variable {prog:Program} {w:World} {A:Around} {E:Value→Shared→Prop} {s:Shared} {K:PySem.W.Frag} {x D:Addr} {ox:Obj}
structure XAt (h:Heap) (x:Addr) (ox:Obj) (D:Addr):Prop where
  at_:h.get? x=some ox
  cls:ox.cls=.ref D
theorem XAt.type {M:Model} {h:Heap} (I:XAt h x ox D):Looks M h (typeOf (.ref x)) (.ref D):=by
  have:=I.cls
  exact this ▸ (Looks.ld I.at_).andThen Looks.now
structure ExcK (K:PySem.W.Frag) (D:Addr):Prop where
  cls:(clsIn K D).isSome=true
  find:findIn K (.ref D) "__class__" = some (some (.builtin "object.__class__"))
  get:specialIn K (.builtin "object.__class__") "__get__" = some (some (.builtin "getset_descriptor.__get__"))
  takes:takesIn K (.builtin "object.__class__")=some true
  obj:mroIn K D (.type "object")=some true
  bexc:mroIn K D (.type "BaseException")=some true
  ga:findIn K (.ref D) "__getattribute__" = some (some (.builtin "BaseException.__getattribute__"))
  gt:findIn K (.ref D) "__getattr__" = some none
end
end L2
namespace L2
open PySem PySem.Spec PySem.Calls PyProof.Rows PySem.W
section
variable {prog:Program} {w:World} {A:Around} {E:Value→Shared→Prop} {s:Shared} {K:PySem.W.Frag} {x C D:Addr} {ox:Obj}
end
section
variable {X:Cx} {pins:List (Addr × Obj)} {σ:St} {H:Hp} {s:Shared} {e:Addr} {o:HO}
theorem Inv.track (I:Inv X pins σ H s) (he:H e=none) (hs0:X.s₀.heap.get? e=none) (nl:e≠X.env.locals) (nc:∀ x c,X.env.cells.lookup x=some c→c≠e) (np:∀ p∈X.pn++pins,p.1≠e)
    (ho:ObjOk X.prog X.w (upd H e o) s.heap e o):Inv X pins σ (upd H e o) s:=by
  have ne:∀ b u,H b=some u→b≠e:=fun b u h z=>by rw [z,he] at h;cases h
  refine ⟨I.ok,I.os,I.bare,⟨I.base.keep,I.base.slot,fun b u h n hx=>?_,I.base.there,fun b xs h=>?_,fun b u v h=>?_,fun b ps h=>?_⟩,I.loc,I.cell,by rw [upd_ne (Ne.symm nl)];exact I.free,fun x c h=>by rw [upd_ne (nc x c h)];exact I.freeC x c h,fun p hp=>?_,fun a u h=>?_,I.len⟩
  · rw [upd_ne fun z=>by rw [z,hs0] at h;cases h]
    exact I.base.free b u h n hx
  · have:=I.base.tups b xs h
    rw [upd_ne (ne b _ this)]
    exact this
  · have:=I.base.frzs b u v h
    rw [upd_ne (ne b _ this)]
    exact this
  · obtain ⟨more,h1⟩:=I.base.tbls b ps h
    exact ⟨more,by rw [upd_ne (ne b _ h1)];exact h1⟩
  · obtain ⟨a1,a2,a3⟩:=I.pin p hp
    exact ⟨a1,by rw [upd_ne (np p hp)];exact a2,a3⟩
  · by_cases ha:a=e
    · subst ha
      rw [upd_same] at h
      cases h
      exact ho
    · rw [upd_ne ha] at h
      exact (I.hok a u h).stay (fun b w' _ q=>q) (fun b q=>by rw [upd_ne (ne b _ q)];exact q) fun b xs q=>by rw [upd_ne (ne b _ q)];exact q
end
structure Fl (X:Cx) (pins:List (Addr × Obj)) (σ:St) (H0:Hp) (s0:Shared) (H':Hp) (e:Addr) (b1:Heap) (s':Shared):Prop where
  I0:Inv X pins σ H0 s0
  os:s'.os=s0.os
  bare:AllBare s'.gens
  un:Un (frs X.stack) [] H0 H' s0.heap s'.heap
  hok:HOk X.prog X.w H' s'.heap
  he:H' e=none
  hes:s0.heap.get? e=none
  stay:b1.StaysIn s'.heap
  ff:s'.heap.FunFrames b1 X.stack
  cov:∀ b o,((∃ u,s0.heap.get? b=some u)∨∃ u,H' b=some u)→b ∉ frs X.stack→s'.heap.get? b=some o→b1.get? b=some o
section
variable {X:Cx} {pins:List (Addr × Obj)} {σ:St} {H0 H':Hp} {s0 s':Shared} {e:Addr} {b1 h':Heap}
end
end L2
namespace L2
open PySem PySem.Spec PySem.Calls PyProof.Rows PySem.W
abbrev Cx.inSuite (X:Cx) (Ax:Around):Cx:={ X with A:=Ax,calm:=false,xe:=fun _ _=>False }
section
variable {X:Cx} {pins pn:List (Addr × Obj)} {σ:St} {H:Hp} {s:Shared} {Ax:Around} {Ex:Value→Shared→Prop}
theorem Inv.suite (I:Inv X pins σ H s) (hA:Ax.frames=X.A.frames):Inv (X.inSuite Ax) pins σ H s :=
  ⟨⟨I.ok.mod,I.ok.kind,I.ok.glob,I.ok.blt,I.ok.above,I.ok.inj,I.ok.has,I.ok.cab,fun z=>Bool.noConfusion z,hA.trans I.ok.frames,I.ok.stk,I.ok.exf,I.ok.bs,I.ok.bsz,I.ok.noex,I.ok.exfs,I.ok.funs,I.ok.frf⟩,I.os,I.bare,I.base,I.loc,I.cell,I.free,I.freeC,I.pin,I.hok,I.len⟩
end
def Ends.as (D:Ends) (i:Nat):Ends:={ nx:=fun σ H=>D.nx (σ.set i none) H,rt:=D.rt,bk:=fun σ H=>D.bk (σ.set i none) H,ct:=fun σ H=>D.ct (σ.set i none) H }
end L2
namespace L2
open PySem PySem.Spec PySem.Calls PyProof.Rows PySem.W
theorem FnOk.or {P:Program} {w:World} {K:PySem.W.Frag} {mg:Str→Option Value} {base:Heap} {CX:CXT} {k:Nat} {f:Addr} {fd:FuncData} {ps:List Str} {sp sp':Sp} (F:FnOk P w K mg base CX k f fd ps sp) (G:FnOk P w K mg base CX k f fd ps sp') :
    FnOk P w K mg base CX k f fd ps fun vs H Q E=>sp vs H Q E∨sp' vs H Q E :=
  ⟨fun vs H Q E h=>h.elim (F.len vs H Q E) (G.len vs H Q E),fun A outer s H args us vs Q E hr e hb hv h=>h.elim (F.run A outer s H args us vs Q E hr e hb hv) (G.run A outer s H args us vs Q E hr e hb hv)⟩
theorem FnOk.up {P:Program} {w:World} {K:PySem.W.Frag} {mg:Str→Option Value} {base:Heap} {CX:CXT} {k:Nat} {f:Addr} {fd:FuncData} {ps:List Str} {sp:Sp} (F:FnOk P w K mg base CX0 k f fd ps sp):FnOk P w K mg base CX k f fd ps sp :=
  ⟨F.len,fun A outer s H args us vs Q E hr e hb hv h=>codeAny_mono (F.run A outer s H args us vs Q E hr e hb hv h) fun r s' hq=>by
    cases r with
    | error e=>exact False.elim hq
    | ok fl=>cases fl <;> exact hq⟩
end L2
namespace L2
open PySem PySem.Spec PyProof.Rows
theorem Inv.swap {X:Cx} {pins:List (Addr × Obj)} {σ:St} {H:Hp} {s:Shared} {d:Addr} {u u':HO} (I:Inv X pins σ H s) (e:H d=some u) (n1:∀ y,u≠.own y) (n2:∀ xs,u≠.tup xs)
    (h1:∀ xs,X.H₀ d≠some (.tup xs)) (h2:∀ o v,X.H₀ d≠some (.frz o v)) (h3:∀ ps,X.H₀ d≠some (.tbl ps)) (new:ObjOk X.prog X.w (upd H d u') s.heap d u'):Inv X pins σ (upd H d u') s:=by
  have ne:∀ b,H b=none→b≠d:=fun b z y=>by rw [y,e] at z;cases z
  refine ⟨I.ok,I.os,I.bare,⟨I.base.keep,I.base.slot,fun b o a1 a2 a3=>?_,I.base.there,fun b xs a1=>?_,fun b o v a1=>?_,fun b ps a1=>?_⟩,I.loc,I.cell,?_,fun x c a1=>?_,fun p hp=>?_,fun b v a1=>?_,I.len⟩
  · have z:=I.base.free b o a1 a2 a3
    rw [upd_ne (ne b z)];exact z
  · have z:=I.base.tups b xs a1
    rw [upd_ne (fun y=>h1 xs (by rw [← y];exact a1))];exact z
  · have z:=I.base.frzs b o v a1
    rw [upd_ne (fun y=>h2 o v (by rw [← y];exact a1))];exact z
  · have z:=I.base.tbls b ps a1
    rw [upd_ne (fun y=>h3 ps (by rw [← y];exact a1))];exact z
  · rw [upd_ne (ne _ I.free)];exact I.free
  · rw [upd_ne (ne _ (I.freeC x c a1))];exact I.freeC x c a1
  · obtain ⟨a1,a2,a3⟩:=I.pin p hp
    exact ⟨a1,by rw [upd_ne (ne _ a2)];exact a2,a3⟩
  · by_cases y:b=d
    · subst y
      rw [upd_same] at a1
      cases a1
      exact new
    · rw [upd_ne y] at a1
      refine (I.hok b v a1).stay (fun c z _ q=>q) (fun c q=>?_) fun c xs q=>?_
      · rw [upd_ne (fun y=>n1 b (by rw [y,e] at q;exact Option.some.inj q))];exact q
      · rw [upd_ne (fun y=>n2 xs (by rw [y,e] at q;exact Option.some.inj q))];exact q
theorem Inv.freeze {X:Cx} {pins:List (Addr × Obj)} {σ:St} {H:Hp} {s:Shared} {d:Addr} {kvs:List (Key × V)} (I:Inv X pins σ H s) (e:H d=some (.dK kvs)) :
    ∃ ob,Inv X pins σ (upd H d (.frz ob (.dK kvs))) s∧∀ (σ':St) (H':Hp) (s':Shared),Inv X pins σ' H' s'→H' d=some (.frz ob (.dK kvs))→Inv X pins σ' (upd H' d (.dK kvs)) s':=by
  obtain ⟨hz,lo,vs,hkv,hD⟩:=(show ObjOk X.prog X.w H s.heap d (.dK kvs) from I.hok d _ e)
  obtain ⟨ob,es,ep,ho,rr⟩:=id hD
  have h1:∀ xs,X.H₀ d≠some (.tup xs):=fun xs z=>by have:=I.base.tups d xs z;rw [e] at this;cases this
  have h2:∀ o v,X.H₀ d≠some (.frz o v):=fun o v z=>by have:=I.base.frzs d o v z;rw [e] at this;cases this
  have h3:∀ ps,X.H₀ d≠some (.tbl ps):=fun ps z=>by obtain ⟨m,q⟩:=I.base.tbls d ps z;rw [e] at q;cases q
  refine ⟨ob,I.swap e (fun y z=>by cases z) (fun xs z=>by cases z) h1 h2 h3 ⟨ho,hz,lo,vs,hkv,hD⟩,fun σ' H' s' J q=>?_⟩
  obtain ⟨_,c1,c2,ws,c3,c4⟩:=(show ObjOk X.prog X.w H' s'.heap d (.frz ob (.dK kvs)) from J.hok d _ q)
  exact J.swap q (fun y z=>by cases z) (fun xs z=>by cases z) h1 h2 h3 ⟨c1,c2,ws,c3,c4⟩
def ItD (d:Addr) (ob:Obj) (kvs:List (Key × V)):It :=
  ⟨fun i H=>H d=some (.frz ob (.dK kvs))∧i < kvs.length,fun i H x H'=>H'=H∧(kvs.map fun p=>kV p.1)[i]? = some x,fun i H=>H d=some (.frz ob (.dK kvs))∧i=kvs.length⟩
theorem sure_dict {d:Addr} {ob:Obj} {kvs:List (Key × V)}:Sure (ItD d ob kvs) (kvs.map fun p=>kV p.1) (fun H=>H d=some (.frz ob (.dK kvs))) where
  go:=fun i H hi h=>⟨h,by rwa [List.length_map] at hi⟩
  yld:=fun i H x H' _ h y=>y
  stop:=fun H h=>⟨h,List.length_map ..⟩
theorem key_rel {P:Program} {w:World} {k:Key} {u:Value} (h:(mixKind P w).is k u=true):RelV (kV k) u:=by
  rcases keyIs_shape (show keyIs k u=true from h) with ⟨i,t,rfl,rfl⟩ | ⟨x,t,rfl,rfl⟩
  · exact ⟨t,rfl⟩
  · exact ⟨t,rfl⟩
theorem frz_at {X:Cx} {pins:List (Addr × Obj)} {σ:St} {H:Hp} {s:Shared} {d:Addr} {ob:Obj} {kvs:List (Key × V)} {es:Array DictEntry} {ep:Nat} (I:Inv X pins σ H s) (e:H d=some (.frz ob (.dK kvs))) (hd:ob.data=.dict es ep) :
    (d == sysModules)=false∧kvs.length≤sizeLine∧∃ vs,KV kvs vs∧s.heap.DictAt (mixKind X.prog X.w) d vs ep:=by
  obtain ⟨c0,c1,c2,vs,c3,o,es',ep',ho,x1,x2,x3⟩:=(show ObjOk X.prog X.w H s.heap d (.frz ob (.dK kvs)) from I.hok d _ e)
  rw [c0] at ho
  cases ho
  rw [hd] at x2
  cases x2
  exact ⟨c2,c1,vs,c3,ob,es,c0,x1,hd,x3⟩
theorem turn_dict {P:Program} {w:World} {K:PySem.W.Frag} {tg:Expr} (d it:Addr) (ob:Obj) (kvs:List (Key × V)) (es:Array DictEntry) (ep:Nat) (hd:ob.data=.dict es ep):Turn P w K tg (ItD d ob kvs) [it] it (fun i h=>h.IsKeyIter it d i kvs.length ep) where
  mem:=by simp
  obj:=fun i h st b hb=>by
    have e:b=it:=by simpa using hb
    subst e
    obtain ⟨o,e,c,d⟩:=st
    exact ⟨o,e,fun v z=>by rw [d] at z;cases z⟩
  keep:=fun i h h' st k=>st.at fun o e=>k it (by simp) o e
  item:=by
    intro X hP hw hK hc i pins s σ H E I hf st hg
    subst hP hw hK
    obtain ⟨hq,hi⟩:=hg
    obtain ⟨lo,hz,vs,hkv,hat⟩:=frz_at I hq hd
    have hl:vs.length=kvs.length:=(Paired.length hkv).symm
    rw [← hl] at st hi
    obtain ⟨f0,f1,f2,f3,f4,f5⟩:=hf it (by simp)
    have e3:vs[i]? = some (vs[i].1,vs[i].2):=List.getElem?_eq_getElem hi
    refine wpAny_pyNext_dict_item st hat e3 fun u h' hu st' sb=>?_
    have I1:Inv X pins σ H { s with heap:=h' }:=I.turned (t':=s.toks) (fun b o hb e=>(sb.2 b hb).trans e) f0 f1 f3 f4 f5
    obtain ⟨k',v',e4,e5⟩:=kv_at hkv e3
    rw [hl] at st'
    obtain ⟨o,e,c,dd⟩:=id st'
    refine ⟨u,rfl,go_of (s:={ s with heap:=h' }) e c dd (by decide) ⟨kV vs[i].1,H,I1,key_rel hu,⟨rfl,?_⟩,st',fun b hb=>(hf b hb).1⟩⟩
    rw [List.getElem?_map,e4,← e5]
    rfl
  done:=by
    intro X hP hw hK hc i pins s σ H E I hf st hg
    subst hP hw hK
    obtain ⟨hq,hi⟩:=hg
    obtain ⟨lo,hz,vs,hkv,hat⟩:=frz_at I hq hd
    have hl:vs.length=kvs.length:=(Paired.length hkv).symm
    rw [← hl] at st hi
    obtain ⟨f0,f1,f2,f3,f4,f5⟩:=hf it (by simp)
    exact wpAny_pyNext_dict_end (I.ok.hd hc) st hat (by rw [hi];simp) fun h' eb=>⟨rfl,I.turned (t':=s.toks) (fun b o hb e=>eb b o hb e) f0 f1 f3 f4 f5⟩
  self:=fun _ _ _ _ _ st h=>wpAny_pyIter_keyiter st h
def iDict (tl:TE):TI:=fun σ H R=>tl σ H fun x H1=>∃ d ob kvs,x=.ref d∧H1 d=some (.frz ob (.dK kvs))∧R (ItD d ob kvs) H1
theorem pi_dict {X:Cx} {tg l:Expr} {tl:TE} (hl:PE X l tl):PI X tg l (iDict tl):=by
  intro pins s σ H R I h
  refine thn (hl pins s σ H _ I h) fun v s1 ⟨x,H1,I1,r1,q1⟩=>?_
  obtain ⟨d,ob,kvs,e,hq,q⟩:=q1
  subst e
  cases r1
  obtain ⟨c0,c1,c2,vs,c3,o,es,ep,ho,x1,x2,x3⟩:=(show ObjOk X.prog X.w H1 s1.heap d (.frz ob (.dK kvs)) from I1.hok d _ hq)
  rw [c0] at ho
  cases ho
  have hvl:vs.length=kvs.length:=(Paired.length c3).symm
  refine wpAny_pyIter_dict (knd:=mixKind X.prog X.w) (kvs:=vs) (ep:=ep) c2 ⟨ob,es,c0,x1,x2,x3⟩ ?_
  refine ⟨s1.heap.objs.size,[s1.heap.objs.size],_,_,H1,rfl,I1.kept (t':=s1.toks) fun b o e=>Heap.get?_push_of_some _ e,turn_dict d _ ob kvs es ep x2,⟨_,Heap.get?_push_size _ rfl,rfl,by rw [hvl];rfl⟩,fun b hb=>?_,q⟩
  have e:b=s1.heap.objs.size:=by simpa using hb
  subst e
  exact I1.fpOk (Nat.le_refl _) (I1.hok.fresh (Nat.le_refl _))
end L2
namespace L2
open PySem PySem.Spec PyProof.Rows
theorem foldl_repN (z:List Nat):∀ (k:Nat) (acc:List Nat),List.foldl (fun x1 x2=>x1++x2) acc.toArray (List.replicate k z.toArray)=(acc++(List.replicate k z).flatten).toArray
  | 0,acc=>by simp
  | k+1,acc=>by
    have h:=foldl_repN z k (acc++z)
    rw [List.replicate_succ,List.foldl_cons,List.replicate_succ,List.flatten_cons,← List.append_assoc,← h]
    congr 1
    simp
def rMulS:R2:=fun x y H Q=>∃ (z:List Nat) (n:Nat),x=.str ⟨z.toArray⟩∧y=.int (n:Int)∧2≤n∧n≤1000∧z.length≤1000∧Q (.str ⟨(List.replicate n z).flatten.toArray⟩) H
theorem op_mulS {X:Cx}:OpR X (binaryOp .Mult) rMulS:=by
  intro pins s σ H x y v u Q I rx ry h
  obtain ⟨z,n,rfl,rfl,h2,hn,hz,q⟩:=h
  obtain ⟨t,rfl⟩:=rx
  obtain ⟨t',rfl⟩:=ry
  have hm:z.length * n≤1000 * 1000:=Nat.mul_le_mul hz hn
  refine P.mul_str ?_ ?_ ?_ ?_
  · rw [decide_eq_false (by omega),decide_eq_false (by omega)];rfl
  · intro _ _ hgt
    have h3:((z.length:Nat):Int)≤(2 ^ 63 - 1) / (n:Int):=Int.le_ediv_of_mul_le (by omega) (by
      have h4:((z.length * n:Nat):Int)≤1000 * 1000:=by omega
      push_cast at h4
      omega)
    have h5:(((⟨z.toArray⟩:Str).length:Nat):Int)=((z.length:Nat):Int):=rfl
    rw [h5] at hgt
    omega
  · intro _ _
    refine decide_eq_false ?_
    have h5:(⟨z.toArray⟩:Str).length=z.length:=rfl
    have h6:((n:Int)).toNat=n:=by omega
    rw [h5,h6]
    have:1000000≤sizeLine:=by decide
    omega
  · rw [if_neg (by omega)]
    have e1:(⟨z.toArray⟩:Str).length=z.length:=rfl
    have e2:((n:Int) == 1)=false:=beq_eq_false_iff_ne.mpr (by omega)
    have e3:((n:Int)).toNat=n:=by omega
    rw [e2,Bool.false_or,e3]
    by_cases e:z=[]
    · subst e
      rw [if_pos (by rfl)]
      have e4:(List.replicate n ([]:List Nat)).flatten=[]:=by
        clear q hm e2 e3 h2 hn
        induction n with
        | zero=>rfl
        | succ n ih=>rw [List.replicate_succ,List.flatten_cons,ih];rfl
      rw [e4] at q
      exact ⟨.str ⟨#[]⟩,H,I,⟨t,rfl⟩,q⟩
    · rw [if_neg (by
        rw [e1]
        intro hh
        exact e (List.length_eq_zero_iff.mp (by simpa using hh)))]
      have e5:=foldl_repN z n []
      rw [List.nil_append] at e5
      refine ⟨?_,.str ⟨(List.replicate n z).flatten.toArray⟩,H,I.tok _,⟨s.toks,?_⟩,q⟩
      · show (Array.size (List.foldl (fun x1 x2=>x1++x2) #[] (List.replicate n z.toArray)))≤sizeLine
        rw [show List.foldl (fun x1 x2=>x1++x2) #[] (List.replicate n z.toArray)=(List.replicate n z).flatten.toArray from e5,List.size_toArray,len_rep,Nat.mul_comm]
        have:1000000≤sizeLine:=by decide
        omega
      · show Value.str ⟨List.foldl (fun x1 x2=>x1++x2) #[] (List.replicate n z.toArray)⟩ _=_
        rw [show List.foldl (fun x1 x2=>x1++x2) #[] (List.replicate n z.toArray)=(List.replicate n z).flatten.toArray from e5]
def rSlS:V→Option Int→Option Int→Hp→VK→Prop:=fun x lo hi H Q=>∃ z:Str,x=.str z∧z.length≤sizeLine∧Q (.str (Txt.slice z lo hi)) H
theorem sl_str {X:Cx}:SlR X rSlS:=by
  intro pins s σ H x v vl vu lo hi sl Q I rx hs pl pu h
  obtain ⟨z,rfl,hz,q⟩:=h
  obtain ⟨t,rfl⟩:=rx
  refine ⟨"str",_,F.slot_str_getitem.lookup,typeIs_str _ _ _,?_⟩
  obtain ⟨o,ho,hc,hd⟩:=hs
  have fin:∀ (l u:Option (Int × Tok)),l.map (·.1)=lo→u.map (·.1)=hi→vl=partValue l→vu=partValue u→wpAny (model X.prog X.w) X.A (getItem (.str z t) (.ref sl)) (EP X pins σ Q) X.xe s:=fun l u e1 e2 e3 e4=>by
    subst e1 e2 e3 e4
    refine wpAny_getItem_str_slice (l:=l) (u:=u) (st:=none) ⟨o,ho,hc,hd⟩ rfl (post_val_or_str ⟨Nat.le_trans (Txt.slice_le z (l.map (·.1)) (u.map (·.1))) hz,fun t' k=>?_⟩)
    exact ⟨.str (Txt.slice z (l.map (·.1)) (u.map (·.1))),H,I.tok _,⟨t',rfl⟩,q⟩
  cases pl with
  | none=>cases pu with
    | none=>exact fin none none rfl rfl rfl rfl
    | int j tj=>exact fin none (some (j,tj)) rfl rfl rfl rfl
  | int i ti=>cases pu with
    | none=>exact fin (some (i,ti)) none rfl rfl rfl rfl
    | int j tj=>exact fin (some (i,ti)) (some (j,tj)) rfl rfl rfl rfl
theorem slice_hi (x:Str) (l:Option Int) (j:Nat):Txt.slice x l (some (j:Int))=Txt.slice x l (some ((min j x.length:Nat):Int)):=by
  have e:Builtin.Str.strSliceIndices l (some (j:Int)) 1 x.length=Builtin.Str.strSliceIndices l (some ((min j x.length:Nat):Int)) 1 x.length:=by
    unfold Builtin.Str.strSliceIndices
    simp only
    have e1:max 0 (min (if (j:Int) < 0 then (j:Int)+(x.length:Int) else (j:Int)) (x.length:Int))=max 0 (min (if ((min j x.length:Nat):Int) < 0 then ((min j x.length:Nat):Int)+(x.length:Int) else ((min j x.length:Nat):Int)) (x.length:Int)):=by
      rw [if_neg (by omega),if_neg (by omega)]
      omega
    rw [if_pos (by decide),e1]
    rfl
  unfold Txt.slice
  rw [e]
theorem slice_take (x:List Nat) (j:Nat):Txt.slice ⟨x.toArray⟩ none (some (j:Int))=⟨(x.take j).toArray⟩:=by
  rw [slice_hi]
  have h:=beq_iff_eq.mp (slice_closes_toL (x:=⟨x.toArray⟩) (j:=((min j x.length:Nat):Int)) (by omega) (by show _≤((x.length:Nat):Int);omega))
  refine h.trans ?_
  have e:((((min j x.length:Nat):Int)) - 0).toNat=min j x.length:=by omega
  rw [e]
  show (⟨((x.drop 0).take (min j x.length)).toArray⟩:Str)=_
  rw [List.drop_zero]
  by_cases hj:j≤x.length
  · rw [Nat.min_eq_left hj]
  · rw [Nat.min_eq_right (by omega),List.take_of_length_le (Nat.le_refl _),List.take_of_length_le (by omega)]
theorem slice_drop (x:List Nat) (i:Nat) (h:i≤x.length):Txt.slice ⟨x.toArray⟩ (some (i:Int)) none=⟨(x.drop i).toArray⟩:=by
  refine (slice_from_eq (x:=⟨x.toArray⟩) (i:=(i:Int)) (b:=((x.length:Nat):Int)) (by omega) (by show _≤((x.length:Nat):Int);omega) rfl).trans ?_
  show (⟨((x.drop i).take _).toArray⟩:Str)=_
  rw [List.take_of_length_le (by rw [List.length_drop];omega)]
end L2
namespace L2
open PySem PySem.Spec PyProof.Rows
section
variable {P:Program} {w:World} {A:Around} {E:Value→Shared→Prop}
end
def rMul0:R2:=fun x y H Q=>∃ (z:List Nat) (n:Nat),x=.str ⟨z.toArray⟩∧y=.int (n:Int)∧n≤1000∧z.length≤1000∧Q (.str ⟨(List.replicate n z).flatten.toArray⟩) H
theorem op_mul0 {X:Cx}:OpR X (binaryOp .Mult) rMul0:=by
  intro pins s σ H x y v u Q I rx ry h
  obtain ⟨z,n,rfl,rfl,hn,hz,q⟩:=h
  by_cases h2:2≤n
  · exact op_mulS pins s σ H _ _ v u Q I rx ry ⟨z,n,rfl,rfl,h2,hn,hz,q⟩
  obtain ⟨t,rfl⟩:=rx
  obtain ⟨t',rfl⟩:=ry
  by_cases h0:n=0
  · subst h0
    refine P.mul_str_none (by decide) (by decide) ?_
    exact ⟨.str ⟨#[]⟩,H,I.tok _,⟨_,rfl⟩,q⟩
  · have h1:n=1:=by omega
    subst h1
    refine P.mul_str (by decide) (fun _ h=>by cases h) (fun _ h=>by cases h) ?_
    rw [if_neg (by decide),if_pos (by rfl)]
    have e:(List.replicate 1 z).flatten=z:=by simp
    rw [e] at q
    exact ⟨.str ⟨z.toArray⟩,H,I,⟨t,rfl⟩,q⟩
end L2
namespace L2
open PySem PySem.Spec PyProof.Rows
abbrev iK (z:Str):Key:=Sum.inr z
def Cnt (ss:List Str) (c:Nat):Prop:=c≤ss.length∧(c=ss.length ↔ ss.Nodup)
theorem Cnt.nil:Cnt [] 0:=⟨Nat.le_refl _,by simp⟩
theorem Cnt.snoc {ss:List Str} {z:Str} {c:Nat} (h:Cnt ss c):Cnt (ss++[z]) (if z∈ss then c else c+1):=by
  obtain ⟨h1,h2⟩:=h
  by_cases hz:z∈ss
  · rw [if_pos hz]
    refine ⟨by rw [List.length_append];omega,⟨fun e=>?_,fun e=>?_⟩⟩
    · rw [List.length_append,List.length_singleton] at e
      omega
    · exact absurd rfl ((List.nodup_append.mp e).2.2 z hz z (by simp))
  · rw [if_neg hz]
    refine ⟨by rw [List.length_append,List.length_singleton];omega,⟨fun e=>?_,fun e=>?_⟩⟩
    · rw [List.length_append,List.length_singleton] at e
      have:=h2.mp (by omega)
      refine List.nodup_append.mpr ⟨this,by simp,fun a ha b hb e=>?_⟩
      have:b=z:=by simpa using hb
      exact hz (by rw [← this,← e];exact ha)
    · rw [List.length_append,List.length_singleton]
      have:=h2.mpr (List.nodup_append.mp e).1
      omega
def kin (ss:List Str) (k:Key):Bool:=ss.any fun z=>decide (k=iK z)
end L2
namespace L2
open PySem PySem.Spec PyProof.Rows
end L2
namespace L2
open PySem PySem.Spec PyProof.Rows PySem.W
abbrev Fcts:=List (Nat × Nat)
def has (L:Fcts) (i j:Nat):Bool:=L.any fun p=>p.1 == i && p.2 == j
structure Ord (b:Nat→Nat→Bool) (n:Nat):Prop where
  irr:∀ i,b i i=false
  trans:∀ i j k,b i j=true→b j k=true→b i k=true
  tot:∀ i j,i < n→j < n→i≠j→b i j=false→b j i=true
structure Sor (b:Nat→Nat→Bool) (n m:Nat) (p:Array Nat):Prop where
  size:p.size=n
  lt:∀ x∈p.toList,x < n
  nd:p.toList.Nodup
  up:(p.toList.take m).Pairwise fun x y=>b x y=true
theorem getD_at {p:Array Nat} {i:Nat} (h:i < p.size):p.toList[i]? = some (p.getD i 0):=by
  rw [Array.getElem?_toList,Array.getD,dif_pos h]
  exact Array.getElem?_eq_getElem h
theorem Sor.below {b:Nat→Nat→Bool} {n m:Nat} {p:Array Nat} (S:Sor b n m p) {i j:Nat} (hij:i < j) (hj:j < m) (hm:m≤n):b (p.getD i 0) (p.getD j 0)=true:=by
  have hs:=S.size
  have h1:(p.toList.take m)[i]? = some (p.getD i 0):=by rw [List.getElem?_take_of_lt (by omega)];exact getD_at (by omega)
  have h2:(p.toList.take m)[j]? = some (p.getD j 0):=by rw [List.getElem?_take_of_lt hj];exact getD_at (by omega)
  obtain ⟨l1,e1⟩:=List.getElem?_eq_some_iff.mp h1
  obtain ⟨l2,e2⟩:=List.getElem?_eq_some_iff.mp h2
  have:=List.pairwise_iff_getElem.mp S.up i j l1 l2 hij
  rw [e1,e2] at this
  exact this
theorem Sor.mem {b:Nat→Nat→Bool} {n m:Nat} {p:Array Nat} (S:Sor b n m p) {i:Nat} (h:i < n):p.getD i 0 < n:=S.lt _ (List.mem_of_getElem? (getD_at (by rw [S.size];exact h)))
theorem Sor.ne {b:Nat→Nat→Bool} {n m:Nat} {p:Array Nat} (S:Sor b n m p) {i j:Nat} (hij:i < j) (h:j < n):p.getD i 0≠p.getD j 0:=by
  have hs:=S.size
  obtain ⟨l1,e1⟩:=List.getElem?_eq_some_iff.mp (getD_at (p:=p) (i:=i) (by omega))
  obtain ⟨l2,e2⟩:=List.getElem?_eq_some_iff.mp (getD_at (p:=p) (i:=j) (by omega))
  have:=List.pairwise_iff_getElem.mp S.nd i j l1 l2 hij
  rw [e1,e2] at this
  exact this
end L2
namespace L2
open PySem PySem.Spec PyProof.Rows PySem.W
abbrev Tri:=Addr × Str × Str
abbrev d0:Tri:=(0,⟨#[]⟩,⟨#[]⟩)
end L2
namespace L2
open PySem PySem.Spec PyProof.Rows
abbrev ts (x:List Nat):Str:=⟨x.toArray⟩
end L2
namespace L2
open PySem PyProof.Rows
section
variable {X:Cx} {e est:Expr} {te ts:TE} {p2 pos:Pos}
end
end L2
namespace L2
open PySem PySem.Spec PyProof.Rows
open AutoSeq1 (wpAny_loadPart')
section
variable {X:Cx} {l:Expr} {ta:TA} {elts:List Expr} {k:Nat} {tp p pos:Pos}
end
end L2
namespace L2
open PySem PySem.Spec PyProof.Rows PySem.W
section
variable {K:PySem.W.Frag} {x D:Addr} {ox:Obj}
end
end L2
namespace L2
open PySem PySem.Spec PySem.Calls PyProof.Rows PySem.W
end L2
namespace L2
open PySem PySem.Spec PyProof.Rows
end L2
namespace L2
end L2
namespace L2
open PySem PySem.Spec PyProof.Rows
section
variable {P:Program} {w:World} {A:Around} {E:Value→Shared→Prop} {s:Shared}
end
end L2
namespace L2
open PySem PySem.SeqAt PySem.Spec PyProof.Rows
end L2
namespace L2
open PySem PySem.Spec PyProof.Rows
end L2
namespace L2
open PySem PySem.Spec PyProof.Rows
end L2
namespace L2
open PySem PySem.Spec PyProof.Rows PySem.SeqAt
end L2
namespace L2
open PySem PySem.Spec PyProof.Rows PySem.SeqAt
def rEqL0 (K:PySem.W.Frag):R2:=fun x y H Q=>∃ (a b:Addr) (xs:List V),x=.ref a∧y=.ref b∧SqL K H a xs∧SqL K H b []∧Q (.bl xs.isEmpty) H
theorem op_eqL0 {X:Cx} (hu:X.A.units+64 < cLine):OpR X (compareOp .Eq) (rEqL0 X.K):=by
  intro pins s σ H x y u v Q I rx ry h
  obtain ⟨a,b,xs,rfl,rfl,ha,hb,q⟩:=h
  cases rx
  cases ry
  obtain ⟨i1,r1,p1,_⟩:=I.list ha
  obtain ⟨i2,r2,p2,_⟩:=I.list hb
  cases r2
  cases xs with
  | nil =>
    cases r1
    exact PySem.SeqAt.RcAt.lists (e:=fun _=>true) p1.isList p2.isList rfl (show X.A.units < cLine by omega) (fun j h1 h2=>absurd h2 (by simp)) X.prog X.w _ _ ⟨.bl true,H,I,rfl,q⟩
  | cons x xs =>
    cases r1
    exact PySem.SeqAt.RcAt.lists_lengths p1.isList p2.isList (by simp) (show X.A.units < cLine by omega) X.prog X.w _ _ ⟨.bl false,H,I,rfl,q⟩
theorem op_eqL0K {X:Cx} (K:PySem.W.Frag) (hu:X.A.units+64 < cLine) (hK:X.K=K:=by rfl):OpR X (compareOp .Eq) (rEqL0 K):=by subst hK;exact op_eqL0 hu
end L2
namespace L2
open PySem PySem.Spec PyProof.Rows
inductive VDec (K:PySem.W.Frag) (H:Hp):Nat→V→V→Bool→Prop where
  | flat {n:Nat} {x y:V} (hx:flatV x=true) (hy:flatV y=true):VDec K H n x y (eqV x y)
  | same {n:Nat} {a:Addr}:VDec K H n (.ref a) (.ref a) true
  | lt {n:Nat} {a b:Addr} {xs ys:List V} (ha:SqL K H a xs) (hb:SqT K H b ys):VDec K H n (.ref a) (.ref b) false
  | tup {n:Nat} {a b:Addr} {xs ys:List V} (e:Nat→Bool) (hne:a≠b) (ha:SqT K H a xs) (hb:SqT K H b ys) (h:∀ (i:Nat) x y,xs[i]? = some x→ys[i]? = some y→VDec K H n x y (e i)):VDec K H (n+1) (.ref a) (.ref b) ((List.range (min xs.length ys.length)).all e && xs.length == ys.length)
section
variable {X:Cx} {pins:List (Addr × Obj)} {σ:St} {H:Hp} {s:Shared}
theorem items_dec {A:Around} {e:Nat→Bool} {xs ys:List V} {i1 i2:List Value} (r1:Vals xs i1) (r2:Vals ys i2) (ih:∀ (i:Nat) x y u v,xs[i]? = some x→ys[i]? = some y→RelV x u→RelV y v→SeqAt.EqAt A s u v (e i)) :
    ∀ j (h1:j < i1.toArray.size) (h2:j < i2.toArray.size),SeqAt.EqAt A s i1.toArray[j] i2.toArray[j] (e j):=fun j h1 h2=>by
  have l1:=r1.length
  have l2:=r2.length
  have h1':j < xs.length:=by simpa [l1] using h1
  have h2':j < ys.length:=by simpa [l2] using h2
  obtain ⟨u1,f1,g1⟩:=r1.get (List.getElem?_eq_getElem h1')
  obtain ⟨u2,f2,g2⟩:=r2.get (List.getElem?_eq_getElem h2')
  have k1:i1.toArray[j]=u1:=by
    have:=(List.getElem?_eq_some_iff.mp f1).2
    simpa using this
  have k2:i2.toArray[j]=u2:=by
    have:=(List.getElem?_eq_some_iff.mp f2).2
    simpa using this
  rw [k1,k2]
  exact ih j _ _ _ _ (List.getElem?_eq_getElem h1') (List.getElem?_eq_getElem h2') g1 g2
end
end L2
namespace L2
open PySem PySem.Spec PyProof.Rows
def rSortT (K:PySem.W.Frag):List V→Hp→VK→Prop:=fun xs H Q=>∃ (p:Addr) (b:Bool) (ss:List Str),xs=[.ref p]∧SqA K H p (ss.map V.str) b∧ss.length < 64 ∧
  ∀ l (ss':List Str),H l=none→ss'.Perm ss→sortedS ss'=true→Q (.ref l) (upd H l (.lst (ss'.map V.str)))
theorem call_sortT {X:Cx}:CallR X (.builtin "sorted") (rSortT X.K):=by
  intro pins s σ H xs us Q I r h
  obtain ⟨p,b,ss,rfl,hS,h64,q⟩:=h
  obtain ⟨u,rfl,ru⟩:=vals1 r
  cases ru
  obtain ⟨its,rv,pA,hz⟩:=I.seqA hS
  have hST:StrsAre its ss:=strsAre_of rv
  have hil:its.length=ss.length:=by rw [← rv.length,List.length_map]
  obtain ⟨T,o,hT',ho,hc,k,hd⟩:∃ T o,(T = "list"∨T = "tuple")∧s.heap.get? p=some o∧o.cls=.type T∧∃ k,o.data=.seq its.toArray k:=by
    cases b with
    | false =>
      obtain ⟨o,h1,h2,k,h3⟩:=(show s.heap.IsList p _ from pA)
      exact ⟨"list",o,.inl rfl,h1,h2,k,h3⟩
    | true =>
      obtain ⟨o,h1,h2,k,h3⟩:=(show IsTup s.heap p _ from pA)
      exact ⟨"tuple",o,.inr rfl,h1,h2,k,h3⟩
  have hbig:1000≤sizeLine:=by decide
  refine Calls.call_function_entry kind_sorted plain_sorted entry_sorted (args_sorted1 _) ?_
  unfold Builtin.«sorted»
  refine wpAny_bind (m:=checkCount "sorted" 1 1 _) (wpAny_pure ?_)
  refine wpAny_bind (wpAny_collect_seq p hT' ho hc hd (fun h' hkp=>?_) (by simp;omega))
  refine wpAny_bind (wpAny_newList ?_ (by simp;omega))
  have hoL:(h'.push { cls:=.type "list",data:=.seq its.toArray.toList.toArray }).get? h'.objs.size=some (seqObj "list" its.toArray 0):=Heap.get?_push_size _ rfl
  refine wpAny_bind (wpAny_holding (wpAny_call_entry slot_list_sort ⟨_,hoL,rfl⟩ entry_list_sort (list_sort_treeK strKind_oneLt hoL hST.keysOf (fun v₁ v₂ rest e=>keyKind_strs (by rw [← e];exact hST)) (by rw [hil];exact h64) fun st' a1 a2=>⟨_,rfl,?_⟩) (args_list_sort _)))
  obtain ⟨ss',b1,b2,b3⟩:=sorted_out_str hST a1 a2
  refine wpAny_pure ⟨_,rfl,?_⟩
  have keep:∀ b o,s.heap.get? b=some o→(sortedHeap (h'.push { cls:=.type "list",data:=.seq its.toArray.toList.toArray }) h'.objs.size its ((arrOf st').map (·.2))).get? b=some o∧b≠h'.objs.size:=fun b o e=>by
    have e1:=hkp b o e
    have lt:=Heap.lt_size e1
    refine ⟨?_,Nat.ne_of_lt lt⟩
    rw [sortedHeap_old (Nat.ne_of_lt lt) (by rw [Heap.size_push];exact Nat.lt_succ_of_lt lt)]
    exact Heap.get?_push_of_some _ e1
  have hn:H h'.objs.size=none:=by
    cases e:H h'.objs.size with
    | none=>rfl
    | some o =>
      obtain ⟨ob,e1⟩:=(I.hok _ _ e).there
      exact absurd (Heap.lt_size (hkp _ _ e1)) (Nat.lt_irrefl _)
  obtain ⟨n',hat'⟩:∃ n',(sortedHeap (h'.push { cls:=.type "list",data:=.seq its.toArray.toList.toArray }) h'.objs.size its ((arrOf st').map (·.2))).get? h'.objs.size=some (seqObj "list" ((arrOf st').map (·.2)) n'):=sortedHeap_at hoL
  have hsl:ss'.length≤sizeLine:=by
    have h1:=b2.length_eq
    rw [h1];omega
  refine ⟨.ref h'.objs.size,upd H h'.objs.size (.lst (ss'.map V.str)),?_,rfl,q _ _ hn b2 b3⟩
  have J:=Inv.laid2 (X:=X) (t':=s.toks) (o:=.lst (ss'.map V.str)) I keep hn ⟨by rw [List.length_map];exact hsl,((arrOf st').map (·.2)).toList,n',vals_strs b1,by rw [hat']⟩
  exact J
theorem call_sortTK {X:Cx} (K:PySem.W.Frag) (hK:X.K=K:=by rfl):CallR X (.builtin "sorted") (rSortT K):=by subst hK;exact call_sortT
end L2
namespace L2
open PySem PySem.Spec PyProof.Rows
structure ZipA (z TI TO i1 i2 l1 l2:Addr):Prop where
  TIz:TI≠z
  TOz:TO≠z
  i1z:i1≠z
  i2z:i2≠z
  TITO:TI≠TO
  TIi1:TI≠i1
  TIi2:TI≠i2
  TOi1:TO≠i1
  TOi2:TO≠i2
  i12:i1≠i2
  l1z:l1≠z
  l1TO:l1≠TO
  l1i2:l1≠i2
  l2z:l2≠z
  l2TO:l2≠TO
  l2i1:l2≠i1
structure SrcG (P:Program) (w:World) (it sq:Addr) (n:Nat) (Pv:Nat→Value→Prop) (St:Nat→Heap→Prop):Prop where
  keep:∀ k h h',St k h→(∀ b,b=it∨b=sq→∀ o,h.get? b=some o→h'.get? b=some o)→St k h'
  obj:∀ k h,St k h→∃ o vs,h.get? it=some o∧o.data=.fields vs
  item:∀ (A:Around) (E:Value→Shared→Prop) (k:Nat) (s:Shared) (Q:Value→Shared→Prop),St k s.heap→k < n →
    (∀ x h' tk,Pv k x→St (k+1) h'→Heap.SameBut it s.heap h'→s.toks≤tk→Q x { s with heap:=h',toks:=tk })→wpAny (model P w) A (Builtin.SmallTypes.nextOf (.ref it)) Q E s
  fin:∀ (A:Around) (E:Value→Shared→Prop) (k:Nat) (s:Shared) (Q:Value→Shared→Prop),A.handled=none→St k s.heap→k=n →
    (∀ h' e,Heap.ExtBut it s.heap h'→(∃ o,h'.get? e=some o∧o.cls=.type "StopIteration")→E (.ref e) { s with heap:=h' })→wpAny (model P w) A (Builtin.SmallTypes.nextOf (.ref it)) Q E s
theorem SrcG.off {P:Program} {w:World} {it sq:Addr} {n:Nat} {Pv:Nat→Value→Prop} {St:Nat→Heap→Prop} (S:SrcG P w it sq n Pv St) {k:Nat} {h h':Heap} {b:Addr} (st:St k h) (e:Heap.ExtBut b h h') (n1:it≠b) (n2:sq≠b):St k h' :=
  S.keep k h h' st fun c hc o ho=>e c o (by rcases hc with z | z <;> rw [z] <;> assumption) ho
theorem Src.g {P:Program} {w:World} {it sq:Addr} {xs:Array Value} {St:Nat→Heap→Prop} (S:Src P w it sq xs St):SrcG P w it sq xs.size (fun k v=>xs[k]? = some v) St where
  keep:=S.keep
  obj:=S.obj
  item:=fun A E k s Q st hk q=>S.item A E k s xs[k] Q st (by simp [hk]) fun h' st' u=>q _ h' s.toks (by simp [hk]) st' u (Nat.le_refl _)
  fin:=fun A E k s Q hA st hk q=>S.fin A E k s Q hA st (by rw [hk];simp) q
section
variable {P:Program} {w:World} {A:Around} {E:Value→Shared→Prop} {s:Shared} {z TI TO i1 i2 l1 l2:Addr} {n1 n2:Nat} {P1 P2:Nat→Value→Prop} {S1 S2:Nat→Heap→Prop}
theorem zipG_item {k:Nat} {a b:Value} {Q:Value→Shared→Prop} (c1:SrcG P w i1 l1 n1 P1 S1) (c2:SrcG P w i2 l2 n2 P2 S2) (D:ZipA z TI TO i1 i2 l1 l2) (hz:IsZip s.heap z TI TO .none) (hTI:IsPair s.heap TI (.ref i1) (.ref i2)) (hTO:IsPair s.heap TO a b)
    (st1:S1 k s.heap) (st2:S2 k s.heap) (hx:k < n1) (hy:k < n2)
    (q : ∀ (x y:Value) (h':Heap) (T:Addr) (tk:Nat),P1 k x→P2 k y→s.toks≤tk→IsZip h' z TI TO (rawInt T)→IsPair h' TO x y→S1 (k+1) h'→S2 (k+1) h'→IsPair h' T x y→s.heap.objs.size≤T→T≠z→T≠TO→T≠i1→T≠i2 →
      (∀ c o,c≠z→c≠TO→c≠i1→c≠i2→s.heap.get? c=some o→h'.get? c=some o)→Q (.ref T) { s with heap:=h',toks:=tk }) :
    wpAny (model P w) A (Builtin.«zip.__next__» ⟨[.ref z],[]⟩) (fun fn s'=>∃ v,fn=.done (.ret v)∧Q v s') E s:=by
  show wpAny _ _ (field (.ref z) 2 >>= _) _ _ _
  refine wpAny_bind (wpAny_field hz rfl (x:=.bool false) rfl ?_)
  show wpAny _ _ (field (.ref z) 3 >>= _) _ _ _
  refine wpAny_bind (wpAny_field hz rfl (x:=.ref TI) rfl (wpAny_bind (wpAny_seqItems hTI rfl ?_)))
  show wpAny _ _ (Builtin.SmallTypes.ownedTupleIsFree (.ref z) >>= _) _ _ _
  unfold Builtin.SmallTypes.ownedTupleIsFree
  refine wpAny_bind (wpAny_bind (wpAny_field hz rfl (x:=.none) rfl (wpAny_pure ?_)))
  simp only [if_true]
  refine wpAny_bind (wpAny_rule (wpAny_bind (wpAny_field hz rfl (x:=.ref TO) rfl ?_)))
  refine wpAny_bind (wpAny_setField_rec hz (by simp) fun g1 hz1 u1=>wpAny_bind ?_)
  replace hz1:IsZip g1 z TI TO .ellipsis:=hz1
  simp only [List.zipIdx_cons,List.zipIdx_nil,List.forIn_cons,List.forIn_nil]
  have a1:=c1.off st1 u1.extBut D.i1z D.l1z
  have a2:=c2.off st2 u1.extBut D.i2z D.l2z
  refine wpAny_bind (wpAny_bind (wpAny_onRaise ?_))
  show wpAny _ _ (Builtin.SmallTypes.nextOf (.ref i1) >>= _) _ _ _
  refine wpAny_bind (c1.item _ _ k { s with heap:=g1 } _ a1 hx fun x g2 t2 px b1 u2 ht2=>wpAny_pure ?_)
  have b2:=c2.off a2 u2.extBut D.i12.symm D.l2i1
  have hT2:IsPair g2 TO a b:=u2.extBut _ _ D.TOi1 (u1.extBut _ _ D.TOz hTO)
  refine wpAny_bind (wpAny_seqItems hT2 rfl (wpAny_bind (wpAny_updateSeq_pair hT2 fun g3 hT3 u3=>?_)))
  replace hT3:IsPair g3 TO x b:=hT3
  refine wpAny_bind (wpAny_letGo (wpAny_pure ?_))
  have d1:=c1.off b1 u3.extBut D.TOi1.symm D.l1TO
  have d2:=c2.off b2 u3.extBut D.TOi2.symm D.l2TO
  refine wpAny_bind (wpAny_bind (wpAny_onRaise ?_))
  show wpAny _ _ (Builtin.SmallTypes.nextOf (.ref i2) >>= _) _ _ _
  refine wpAny_bind (c2.item _ _ k { s with heap:=g3,toks:=t2 } _ d2 hy fun y g4 t4 py e2 u4 ht4=>wpAny_pure ?_)
  have e1:=c1.off d1 u4.extBut D.i12 D.l1i2
  have hT4:IsPair g4 TO x b:=u4.extBut _ _ D.TOi2 hT3
  refine wpAny_bind (wpAny_seqItems hT4 rfl (wpAny_bind (wpAny_updateSeq_pair hT4 fun g5 hT5 u5=>?_)))
  replace hT5:IsPair g5 TO x y:=hT5
  refine wpAny_bind (wpAny_letGo (wpAny_pure (wpAny_pure ?_)))
  have f1:=c1.off e1 u5.extBut D.TOi1.symm D.l1TO
  have f2:=c2.off e2 u5.extBut D.TOi2.symm D.l2TO
  refine wpAny_bind (wpAny_seqItems hT5 rfl (wpAny_bind (wpAny_newTuple ?_)))
  have sz:g5.objs.size=s.heap.objs.size:=by rw [u5.1,u4.1,u3.1,u2.1,u1.1]
  have hz5:IsZip g5 z TI TO .ellipsis:=u5.extBut _ _ D.TOz.symm (u4.extBut _ _ D.i2z.symm (u3.extBut _ _ D.TOz.symm (u2.extBut _ _ D.i1z.symm hz1)))
  have k5:∀ c o,c≠z→c≠TO→c≠i1→c≠i2→s.heap.get? c=some o→g5.get? c=some o:=fun c o n1 n2 n3 n4 e =>
    u5.extBut _ _ n2 (u4.extBut _ _ n4 (u3.extBut _ _ n2 (u2.extBut _ _ n3 (u1.extBut _ _ n1 e))))
  have zl:z < g5.objs.size:=Heap.lt_size hz5
  show wpAny _ _ (Builtin.SmallTypes.ownedTupleHandOut (.ref z) (.ref g5.objs.size) >>= _) _ _ _
  unfold Builtin.SmallTypes.ownedTupleHandOut
  have hz6:IsZip (g5.push { cls:=.type "tuple",data:=.seq #[x,y] }) z TI TO .ellipsis:=Heap.get?_push_of_some _ hz5
  refine wpAny_bind (wpAny_bind (wpAny_setField_rec hz6 (by simp) fun g7 hz7 u7=>?_))
  replace hz7:IsZip g7 z TI TO (rawInt g5.objs.size):=hz7
  refine wpAny_setField_rec hz7 (by simp) fun g8 hz8 u8=>?_
  replace hz8:IsZip g8 z TI TO (rawInt g5.objs.size):=hz8
  have up:∀ c o,c≠z→g5.get? c=some o→g8.get? c=some o:=fun c o n e=>u8.extBut _ _ n (u7.extBut _ _ n (Heap.get?_push_of_some _ e))
  have hN:IsPair g8 g5.objs.size x y:=u8.extBut _ _ (Nat.ne_of_gt zl) (u7.extBut _ _ (Nat.ne_of_gt zl) (Heap.get?_push_size _ rfl))
  have o1:g5.objs.size≠i1:=by obtain ⟨o,_,ho,_⟩:=c1.obj _ _ f1;exact Nat.ne_of_gt (Heap.lt_size ho)
  have o2:g5.objs.size≠i2:=by obtain ⟨o,_,ho,_⟩:=c2.obj _ _ f2;exact Nat.ne_of_gt (Heap.lt_size ho)
  refine wpAny_pure ⟨_,rfl,q x y g8 g5.objs.size t4 px py (Nat.le_trans ht2 ht4) hz8 (up _ _ D.TOz hT5) ?_ ?_ hN (Nat.le_of_eq sz.symm) (Nat.ne_of_gt zl) (Nat.ne_of_gt (Heap.lt_size hT5)) o1 o2 fun c o n1 n2 n3 n4 e=>up c o n1 (k5 c o n1 n2 n3 n4 e)⟩
  · exact c1.keep _ _ _ f1 fun c hc o ho=>up c o (by rcases hc with q | q <;> rw [q] <;> first | exact D.i1z | exact D.l1z) ho
  · exact c2.keep _ _ _ f2 fun c hc o ho=>up c o (by rcases hc with q | q <;> rw [q] <;> first | exact D.i2z | exact D.l2z) ho
theorem zipG_end {k:Nat} {a b:Value} {Q:Fin→Shared→Prop} (hA:A.handled=none) (c1:SrcG P w i1 l1 n1 P1 S1) (c2:SrcG P w i2 l2 n2 P2 S2) (D:ZipA z TI TO i1 i2 l1 l2) (hz:IsZip s.heap z TI TO .none) (hTI:IsPair s.heap TI (.ref i1) (.ref i2)) (hTO:IsPair s.heap TO a b)
    (st1:S1 k s.heap) (st2:S2 k s.heap) (hn:k=n1∨(k < n1∧k=n2))
    (q:∀ h' e tk,s.toks≤tk→(∀ c o,c≠z→c≠TO→c≠i1→c≠i2→s.heap.get? c=some o→h'.get? c=some o)→(∃ o,h'.get? e=some o∧o.cls=.type "StopIteration")→E (.ref e) { s with heap:=h',toks:=tk }) :
    wpAny (model P w) A (Builtin.«zip.__next__» ⟨[.ref z],[]⟩) Q E s:=by
  show wpAny _ _ (field (.ref z) 2 >>= _) _ _ _
  refine wpAny_bind (wpAny_field hz rfl (x:=.bool false) rfl ?_)
  show wpAny _ _ (field (.ref z) 3 >>= _) _ _ _
  refine wpAny_bind (wpAny_field hz rfl (x:=.ref TI) rfl (wpAny_bind (wpAny_seqItems hTI rfl ?_)))
  show wpAny _ _ (Builtin.SmallTypes.ownedTupleIsFree (.ref z) >>= _) _ _ _
  unfold Builtin.SmallTypes.ownedTupleIsFree
  refine wpAny_bind (wpAny_bind (wpAny_field hz rfl (x:=.none) rfl (wpAny_pure ?_)))
  simp only [if_true]
  refine wpAny_bind (wpAny_rule (wpAny_bind (wpAny_field hz rfl (x:=.ref TO) rfl ?_)))
  refine wpAny_bind (wpAny_setField_rec hz (by simp) fun g1 hz1 u1=>wpAny_bind ?_)
  replace hz1:IsZip g1 z TI TO .ellipsis:=hz1
  simp only [List.zipIdx_cons,List.zipIdx_nil,List.forIn_cons,List.forIn_nil]
  have a1:=c1.off st1 u1.extBut D.i1z D.l1z
  have a2:=c2.off st2 u1.extBut D.i2z D.l2z
  refine wpAny_bind (wpAny_bind (wpAny_onRaise ?_))
  show wpAny _ _ (Builtin.SmallTypes.nextOf (.ref i1) >>= _) _ _ _
  rcases hn with hx | ⟨hx,hy⟩
  · refine wpAny_bind (c1.fin _ _ k { s with heap:=g1 } _ hA a1 hx fun g2 e u2 he=>?_)
    obtain ⟨oe,hoe,ce⟩:=he
    have hz2:IsZip g2 z TI TO .ellipsis:=u2 _ _ D.i1z.symm hz1
    have ez:e≠z:=fun q=>by subst q;rw [hz2] at hoe;cases hoe;simp at ce
    exact wpAny_setField_rec hz2 (by simp) fun g3 _ u3=>q g3 e s.toks (Nat.le_refl _) (fun c o n1 _ n3 _ ho=>u3.extBut _ _ n1 (u2 _ _ n3 (u1.extBut _ _ n1 ho))) ⟨oe,u3.extBut _ _ ez hoe,ce⟩
  · refine wpAny_bind (c1.item _ _ k { s with heap:=g1 } _ a1 hx fun x g2 t2 px b1 u2 ht2=>wpAny_pure ?_)
    have b2:=c2.off a2 u2.extBut D.i12.symm D.l2i1
    have hT2:IsPair g2 TO a b:=u2.extBut _ _ D.TOi1 (u1.extBut _ _ D.TOz hTO)
    refine wpAny_bind (wpAny_seqItems hT2 rfl (wpAny_bind (wpAny_updateSeq_pair hT2 fun g3 hT3 u3=>?_)))
    refine wpAny_bind (wpAny_letGo (wpAny_pure ?_))
    have d2:=c2.off b2 u3.extBut D.TOi2.symm D.l2TO
    refine wpAny_bind (wpAny_bind (wpAny_onRaise ?_))
    show wpAny _ _ (Builtin.SmallTypes.nextOf (.ref i2) >>= _) _ _ _
    refine wpAny_bind (c2.fin _ _ k { s with heap:=g3,toks:=t2 } _ hA d2 hy fun g4 e u4 he=>?_)
    obtain ⟨oe,hoe,ce⟩:=he
    have hz4:IsZip g4 z TI TO .ellipsis:=u4 _ _ D.i2z.symm (u3.extBut _ _ D.TOz.symm (u2.extBut _ _ D.i1z.symm hz1))
    have ez:e≠z:=fun q=>by subst q;rw [hz4] at hoe;cases hoe;simp at ce
    exact wpAny_setField_rec hz4 (by simp) fun g5 _ u5=>q g5 e t2 ht2 (fun c o n1 n2 n3 n4 ho=>u5.extBut _ _ n1 (u4 _ _ n4 (u3.extBut _ _ n2 (u2.extBut _ _ n3 (u1.extBut _ _ n1 ho))))) ⟨oe,u5.extBut _ _ ez hoe,ce⟩
end
end L2
namespace L2
open PySem PySem.Spec PyProof.Rows
end L2
namespace L2
open PySem PySem.Spec PyProof.Rows
theorem wpAny_loadIfAlive {M:Model} {A:Around} {E:Value→Shared→Prop} {s:Shared} {a:Addr} {Q:Option Obj→Shared→Prop} (h:Q (s.heap.get? a) s):wpAny M A (loadIfAlive a) Q E s:=fun _ _ _=>h
def IsZipP (h:Heap) (z TI TO T:Addr) (f:Bool):Prop:=h.get? z=some { cls:=.type "zip",dict:=none,data:=.fields #[rawInt T,.bool f,.bool false,.ref TI,.ref TO],slots:=#[] }
section
variable {P:Program} {w:World} {A:Around} {E:Value→Shared→Prop} {s:Shared} {z TI TO i1 i2 l1 l2:Addr} {n1 n2:Nat} {P1 P2:Nat→Value→Prop} {S1 S2:Nat→Heap→Prop}
theorem zipP_free {T0:Addr} {f0:Bool} {o0:Obj} {Q:Bool→Shared→Prop} (hz:IsZipP s.heap z TI TO T0 f0) (hT0:s.heap.get? T0=some o0) (q:∀ h',IsZipP h' z TI TO T0 true→Heap.SameBut z s.heap h'→Q false { s with heap:=h' }):wpAny (model P w) A (Builtin.SmallTypes.ownedTupleIsFree (.ref z)) Q E s:=by
  unfold Builtin.SmallTypes.ownedTupleIsFree
  refine wpAny_bind (wpAny_field hz rfl (x:=rawInt T0) rfl ?_)
  show wpAny _ _ (loadIfAlive (Int.toNat (T0:Int)) >>= _) _ _ _
  refine wpAny_bind (wpAny_loadIfAlive ?_)
  rw [Int.toNat_natCast,hT0]
  rw [if_neg (by simp)]
  show wpAny _ _ (field (.ref z) 1 >>= _) _ _ _
  refine wpAny_bind (wpAny_field hz rfl (x:=.bool f0) rfl ?_)
  cases f0 with
  | true =>
    rw [if_neg (by decide)]
    refine wpAny_pure ?_
    exact q s.heap hz (Heap.SameBut.refl _ _)
  | false =>
    rw [if_pos (by decide)]
    exact wpAny_bind (wpAny_setField_rec hz (by simp) fun g1 hz1 u1=>wpAny_pure (q g1 hz1 u1))
theorem zipP_item {k:Nat} {T0:Addr} {f0:Bool} {o0:Obj} {Q:Value→Shared→Prop} (c1:SrcG P w i1 l1 n1 P1 S1) (c2:SrcG P w i2 l2 n2 P2 S2) (D:ZipA z TI TO i1 i2 l1 l2) (hz:IsZipP s.heap z TI TO T0 f0) (hT0:s.heap.get? T0=some o0) (hTI:IsPair s.heap TI (.ref i1) (.ref i2))
    (st1:S1 k s.heap) (st2:S2 k s.heap) (hx:k < n1) (hy:k < n2)
    (q : ∀ (x y:Value) (h':Heap) (T:Addr) (tk:Nat),P1 k x→P2 k y→s.toks≤tk→IsZipP h' z TI TO T0 true→S1 (k+1) h'→S2 (k+1) h'→IsPair h' T x y→s.heap.objs.size≤T →
      (∀ c o,c≠z→c≠i1→c≠i2→s.heap.get? c=some o→h'.get? c=some o)→Q (.ref T) { s with heap:=h',toks:=tk }) :
    wpAny (model P w) A (Builtin.«zip.__next__» ⟨[.ref z],[]⟩) (fun fn s'=>∃ v,fn=.done (.ret v)∧Q v s') E s:=by
  show wpAny _ _ (field (.ref z) 2 >>= _) _ _ _
  refine wpAny_bind (wpAny_field hz rfl (x:=.bool false) rfl ?_)
  show wpAny _ _ (field (.ref z) 3 >>= _) _ _ _
  refine wpAny_bind (wpAny_field hz rfl (x:=.ref TI) rfl (wpAny_bind (wpAny_seqItems hTI rfl ?_)))
  show wpAny _ _ (Builtin.SmallTypes.ownedTupleIsFree (.ref z) >>= _) _ _ _
  refine wpAny_bind (zipP_free hz hT0 fun g1 hz1 u1=>?_)
  rw [if_neg (by decide)]
  have a1:=c1.off st1 u1.extBut D.i1z D.l1z
  have a2:=c2.off st2 u1.extBut D.i2z D.l2z
  simp only [List.forIn_toArray,List.forIn_cons,List.forIn_nil]
  refine wpAny_bind (wpAny_bind (wpAny_bind (wpAny_holding ?_)))
  show wpAny _ _ (Builtin.SmallTypes.nextOf (.ref i1) >>= _) _ _ _
  refine wpAny_bind (c1.item _ _ k { s with heap:=g1 } _ a1 hx fun x g2 t2 px b1 u2 ht2=>wpAny_pure (wpAny_pure ?_))
  have b2:=c2.off a2 u2.extBut D.i12.symm D.l2i1
  refine wpAny_bind (wpAny_bind (wpAny_holding ?_))
  show wpAny _ _ (Builtin.SmallTypes.nextOf (.ref i2) >>= _) _ _ _
  refine wpAny_bind (c2.item _ _ k { s with heap:=g2,toks:=t2 } _ b2 hy fun y g3 t3 py d2 u3 ht3=>wpAny_pure (wpAny_pure (wpAny_pure ?_)))
  have d1:=c1.off b1 u3.extBut D.i12 D.l1i2
  show wpAny _ _ (newTuple [x,y] >>= _) _ _ _
  refine wpAny_bind (wpAny_newTuple ?_)
  have sz:g3.objs.size=s.heap.objs.size:=by rw [u3.1,u2.1,u1.1]
  have hz3:IsZipP g3 z TI TO T0 true:=u3.extBut _ _ D.i2z.symm (u2.extBut _ _ D.i1z.symm hz1)
  refine wpAny_pure ⟨_,rfl,q x y (g3.push { cls:=.type "tuple",data:=.seq #[x,y] }) g3.objs.size t3 px py (Nat.le_trans ht2 ht3) (Heap.get?_push_of_some _ hz3) ?_ ?_ (Heap.get?_push_size _ rfl) (Nat.le_of_eq sz.symm) fun c o n1 n3 n4 e=>Heap.get?_push_of_some _ (u3.extBut _ _ n4 (u2.extBut _ _ n3 (u1.extBut _ _ n1 e)))⟩
  · exact c1.keep _ _ _ d1 fun c hc o ho=>Heap.get?_push_of_some _ ho
  · exact c2.keep _ _ _ d2 fun c hc o ho=>Heap.get?_push_of_some _ ho
theorem zipP_end {k:Nat} {T0:Addr} {f0:Bool} {o0:Obj} {Q:Fin→Shared→Prop} (hA:A.handled=none) (c1:SrcG P w i1 l1 n1 P1 S1) (c2:SrcG P w i2 l2 n2 P2 S2) (D:ZipA z TI TO i1 i2 l1 l2) (hz:IsZipP s.heap z TI TO T0 f0) (hT0:s.heap.get? T0=some o0) (hTI:IsPair s.heap TI (.ref i1) (.ref i2))
    (st1:S1 k s.heap) (st2:S2 k s.heap) (hn:k=n1∨(k < n1∧k=n2))
    (q:∀ h' e tk,s.toks≤tk→(∀ c o,c≠z→c≠i1→c≠i2→s.heap.get? c=some o→h'.get? c=some o)→(∃ o,h'.get? e=some o∧o.cls=.type "StopIteration")→E (.ref e) { s with heap:=h',toks:=tk }) :
    wpAny (model P w) A (Builtin.«zip.__next__» ⟨[.ref z],[]⟩) Q E s:=by
  show wpAny _ _ (field (.ref z) 2 >>= _) _ _ _
  refine wpAny_bind (wpAny_field hz rfl (x:=.bool false) rfl ?_)
  show wpAny _ _ (field (.ref z) 3 >>= _) _ _ _
  refine wpAny_bind (wpAny_field hz rfl (x:=.ref TI) rfl (wpAny_bind (wpAny_seqItems hTI rfl ?_)))
  show wpAny _ _ (Builtin.SmallTypes.ownedTupleIsFree (.ref z) >>= _) _ _ _
  refine wpAny_bind (zipP_free hz hT0 fun g1 hz1 u1=>?_)
  rw [if_neg (by decide)]
  have a1:=c1.off st1 u1.extBut D.i1z D.l1z
  have a2:=c2.off st2 u1.extBut D.i2z D.l2z
  simp only [List.forIn_toArray,List.forIn_cons,List.forIn_nil]
  refine wpAny_bind (wpAny_bind (wpAny_bind (wpAny_holding ?_)))
  show wpAny _ _ (Builtin.SmallTypes.nextOf (.ref i1) >>= _) _ _ _
  rcases hn with hx | ⟨hx,hy⟩
  · exact wpAny_bind (c1.fin _ _ k { s with heap:=g1 } _ hA a1 hx fun g2 e u2 he=>q g2 e s.toks (Nat.le_refl _) (fun c o n1 n3 _ ho=>u2 _ _ n3 (u1.extBut _ _ n1 ho)) he)
  · refine wpAny_bind (c1.item _ _ k { s with heap:=g1 } _ a1 hx fun x g2 t2 px b1 u2 ht2=>wpAny_pure (wpAny_pure ?_))
    have b2:=c2.off a2 u2.extBut D.i12.symm D.l2i1
    refine wpAny_bind (wpAny_bind (wpAny_holding ?_))
    show wpAny _ _ (Builtin.SmallTypes.nextOf (.ref i2) >>= _) _ _ _
    exact wpAny_bind (c2.fin _ _ k { s with heap:=g2,toks:=t2 } _ hA b2 hy fun g4 e u4 he=>q g4 e t2 ht2 (fun c o n1 n3 n4 ho=>u4 _ _ n4 (u2.extBut _ _ n3 (u1.extBut _ _ n1 ho))) he)
end
structure ZSt (S1 S2:Nat→Heap→Prop) (d z TI TO i1 i2:Addr) (k:Nat) (h:Heap):Prop where
  ti:IsPair h TI (.ref i1) (.ref i2)
  to_:∃ a b,IsPair h TO a b
  s1:S1 k h
  s2:S2 k h
  zz:IsZip h z TI TO .none∨∃ T f o,IsZipP h z TI TO T f∧h.get? T=some o∧T≠d∧T≠z∧T≠i1∧T≠i2
section
variable {P:Program} {w:World} {A:Around} {E:Value→Shared→Prop} {s:Shared} {d z TI TO i1 i2 l1 l2:Addr} {n1 n2:Nat} {P1 P2:Nat→Value→Prop} {S1 S2:Nat→Heap→Prop}
theorem ZSt.type {k:Nat} (st:ZSt S1 S2 d z TI TO i1 i2 k s.heap):s.TypeIs (.ref z) "zip":=by
  rcases st.zz with h | ⟨T,f,o,h,_⟩
  · exact ⟨_,h,rfl⟩
  · exact ⟨_,h,rfl⟩
theorem zst_item {k:Nat} {Q:Option Value→Shared→Prop} (c1:SrcG P w i1 l1 n1 P1 S1) (c2:SrcG P w i2 l2 n2 P2 S2) (D:ZipA z TI TO i1 i2 l1 l2) (hd:d < s.heap.objs.size) (st:ZSt S1 S2 d z TI TO i1 i2 k s.heap) (hx:k < n1) (hy:k < n2)
    (q : ∀ (x y:Value) (h':Heap) (T:Addr) (tk:Nat),P1 k x→P2 k y→IsPair h' T x y→s.heap.objs.size≤T→ZSt S1 S2 d z TI TO i1 i2 (k+1) h' →
      (∀ c o,c≠z→c≠TO→c≠i1→c≠i2→s.heap.get? c=some o→h'.get? c=some o)→Q (some (.ref T)) { s with heap:=h',toks:=tk }) :
    wpAny (model P w) A (pyNext (.ref z)) Q E s:=by
  have hT:=st.type
  obtain ⟨ti,⟨a0,b0,to_⟩,s1,s2,zz⟩:=st
  unfold pyNext
  rcases zz with hz | ⟨T0,f0,o0,hz,hT0,n0,n1',n2',n3'⟩
  · refine wpAny_bind (wpAny_attempt (wpAny_callSpecial?_slot (name:=Str.ofString "__next__") hT F.slot_zip_next (wpAny_call_entry F.slot_zip_next hT F.entry_zip_next
      (zipG_item c1 c2 D hz ti to_ s1 s2 hx hy fun x y h' T tk px py htk y1 y2 y3 y4 y5 y6 y7 y8 y9 y10 kk=>wpAny_pure ?_) (F.args_zip_next_1 _))))
    exact q x y h' T tk px py y5 y6 ⟨kk _ _ D.TIz D.TITO D.TIi1 D.TIi2 ti,⟨_,_,y2⟩,y3,y4,.inr ⟨T,false,_,y1,y5,(Nat.ne_of_gt (Nat.lt_of_lt_of_le hd y6)),y7,y9,y10⟩⟩ kk
  · refine wpAny_bind (wpAny_attempt (wpAny_callSpecial?_slot (name:=Str.ofString "__next__") hT F.slot_zip_next (wpAny_call_entry F.slot_zip_next hT F.entry_zip_next
      (zipP_item c1 c2 D hz hT0 ti s1 s2 hx hy fun x y h' T tk px py htk y1 y3 y4 y5 y6 kk=>wpAny_pure ?_) (F.args_zip_next_1 _))))
    exact q x y h' T tk px py y5 y6 ⟨kk _ _ D.TIz D.TIi1 D.TIi2 ti,⟨_,_,kk _ _ D.TOz D.TOi1 D.TOi2 to_⟩,y3,y4,.inr ⟨T0,true,o0,y1,kk _ _ n1' n2' n3' hT0,n0,n1',n2',n3'⟩⟩ fun c o m1 _ m3 m4 e=>kk c o m1 m3 m4 e
theorem zst_done {k:Nat} {Q:Option Value→Shared→Prop} (hA:A.handled=none) (c1:SrcG P w i1 l1 n1 P1 S1) (c2:SrcG P w i2 l2 n2 P2 S2) (D:ZipA z TI TO i1 i2 l1 l2) (st:ZSt S1 S2 d z TI TO i1 i2 k s.heap) (hn:k=n1∨(k < n1∧k=n2))
    (q:∀ (h':Heap) (tk:Nat),(∀ c o,c≠z→c≠TO→c≠i1→c≠i2→s.heap.get? c=some o→h'.get? c=some o)→Q none { s with heap:=h',toks:=tk }) :
    wpAny (model P w) A (pyNext (.ref z)) Q E s:=by
  have hT:=st.type
  obtain ⟨ti,⟨a0,b0,to_⟩,s1,s2,zz⟩:=st
  unfold pyNext
  rcases zz with hz | ⟨T0,f0,o0,hz,hT0,n0,n1',n2',n3'⟩
  · refine wpAny_bind (wpAny_attempt (wpAny_callSpecial?_slot (name:=Str.ofString "__next__") hT F.slot_zip_next (wpAny_call_entry F.slot_zip_next hT F.entry_zip_next
      (zipG_end hA c1 c2 D hz ti to_ s1 s2 hn fun h' e tk htk kk he=>?_) (F.args_zip_next_1 _))))
    obtain ⟨oe,hoe,ce⟩:=he
    exact wpAny_bind (wpAny_isInstance (T:="StopIteration") (b:=true) ⟨oe,hoe,ce⟩ isSubtype_stop (wpAny_pure (q h' tk kk)))
  · refine wpAny_bind (wpAny_attempt (wpAny_callSpecial?_slot (name:=Str.ofString "__next__") hT F.slot_zip_next (wpAny_call_entry F.slot_zip_next hT F.entry_zip_next
      (zipP_end hA c1 c2 D hz hT0 ti s1 s2 hn fun h' e tk htk kk he=>?_) (F.args_zip_next_1 _))))
    obtain ⟨oe,hoe,ce⟩:=he
    exact wpAny_bind (wpAny_isInstance (T:="StopIteration") (b:=true) ⟨oe,hoe,ce⟩ isSubtype_stop (wpAny_pure (q h' tk fun c o m1 _ m3 m4 e=>kk c o m1 m3 m4 e)))
end
end L2
namespace L2
open PySem PySem.Spec PyProof.Rows
theorem ZSt.keep {P:Program} {w:World} {d z TI TO i1 i2 l1 l2:Addr} {n1 n2 k:Nat} {P1 P2:Nat→Value→Prop} {S1 S2:Nat→Heap→Prop} {h h':Heap} (c1:SrcG P w i1 l1 n1 P1 S1) (c2:SrcG P w i2 l2 n2 P2 S2)
    (hd:d≠z∧d≠TI∧d≠TO∧d≠i1∧d≠i2∧d≠l1∧d≠l2) (st:ZSt S1 S2 d z TI TO i1 i2 k h) (e:∀ c o,c≠d→h.get? c=some o→h'.get? c=some o):ZSt S1 S2 d z TI TO i1 i2 k h':=by
  obtain ⟨ti,⟨a0,b0,to_⟩,s1,s2,zz⟩:=st
  obtain ⟨d1,d2,d3,d4,d5,d6,d7⟩:=hd
  refine ⟨e _ _ d2.symm ti,⟨_,_,e _ _ d3.symm to_⟩,c1.keep _ _ _ s1 fun b hb o ho=>e b o ?_ ho,c2.keep _ _ _ s2 fun b hb o ho=>e b o ?_ ho,?_⟩
  · rcases hb with z | z <;> rw [z]
    · exact d4.symm
    · exact d6.symm
  · rcases hb with z | z <;> rw [z]
    · exact d5.symm
    · exact d7.symm
  · rcases zz with hz | ⟨T0,f0,o0,hz,hT0,n0,r⟩
    · exact .inl (e _ _ d1.symm hz)
    · exact .inr ⟨T0,f0,o0,e _ _ d1.symm hz,e _ _ n0 hT0,n0,r⟩
end L2
namespace L2
open PySem PySem.Spec PyProof.Rows PySem.W
end L2
namespace L2
open PySem PySem.Spec PyProof.Rows
end L2
namespace L2
open PySem PySem.Spec PyProof.Rows
end L2
namespace L2
open PySem PySem.Spec PyProof.Rows
end L2
namespace L2
open PySem PySem.Spec PyProof.Rows
def sFrz (t:TS):TS:=fun D σ H=>∃ d kvs,H d=some (.dK kvs)∧∀ ob,t { nx:=fun σ' H'=>H' d=some (.frz ob (.dK kvs))∧D.nx σ' (upd H' d (.dK kvs)),rt:=fun v H'=>H' d=some (.frz ob (.dK kvs))∧D.rt v (upd H' d (.dK kvs)),bk:=fun σ' H'=>H' d=some (.frz ob (.dK kvs))∧D.bk σ' (upd H' d (.dK kvs)),ct:=fun σ' H'=>H' d=some (.frz ob (.dK kvs))∧D.ct σ' (upd H' d (.dK kvs)) } σ (upd H d (.frz ob (.dK kvs)))
theorem ps_frz {X:Cx} {st:Stmt} {t:TS} (h:PS X st t):PS X st (sFrz t):=by
  intro pins s σ H D I hq
  obtain ⟨d,kvs,hd,q⟩:=hq
  obtain ⟨ob,I1,back⟩:=I.freeze hd
  refine thn (h pins s σ _ _ I1 (q ob)) fun f s1 hf=>?_
  cases f with
  | next =>
    obtain ⟨σ',H',J,q1,q2⟩:=hf
    exact ⟨σ',_,back σ' H' s1 J q1,q2⟩
  | brk =>
    obtain ⟨σ',H',J,q1,q2⟩:=hf
    exact ⟨σ',_,back σ' H' s1 J q1,q2⟩
  | cont =>
    obtain ⟨σ',H',J,q1,q2⟩:=hf
    exact ⟨σ',_,back σ' H' s1 J q1,q2⟩
  | ret u =>
    obtain ⟨v,σ',H',J,r,q1,q2⟩:=hf
    exact ⟨v,σ',_,back σ' H' s1 J q1,r,q2⟩
theorem DGet.f {H:Hp} {a:Addr} {kvs:List (Key × V)} {k:Key} {ob:Obj} (e:H a=some (.frz ob (.dK kvs))):DGet H a (kV k) (valV kvs k):=.inl ⟨kvs,k,.inr ⟨ob,e⟩,rfl,rfl⟩
end L2
namespace L2
open PySem PySem.Spec PyProof.Rows
def rListD:List V→Hp→VK→Prop:=fun xs H Q=>∃ (d:Addr) (kvs:List (Key × V)) (ss:List Str),xs=[.ref d]∧H d=some (.dK kvs)∧kvs.map (·.1)=ss.map Sum.inr∧∀ l,H l=none→Q (.ref l) (upd H l (.lst (ss.map V.str)))
theorem call_list_dict {X:Cx} (hc:X.calm=true):CallR X (.type "list") rListD:=by
  intro pins s σ H xs us Q I r h
  obtain ⟨d,kvs,ss,rfl,hd,hk,q⟩:=h
  obtain ⟨u,rfl,ru⟩:=vals1 r
  cases ru
  obtain ⟨hz,lo,ws,rel,dd⟩:=dk_of I.hok hd
  obtain ⟨ep,hat⟩:=dd.dictAt
  have lw:kvs.length=ws.length:=Paired.length rel
  have hsl:ss.length=kvs.length:=by have:=congrArg List.length hk;simpa using this.symm
  refine PySem.W.kdl_call (PySem.W.kdl_dict (knd:=mixKind X.prog X.w) (kvs:=ws) (ep:=ep) lo) (I.ok.hd hc) hat (by rw [← lw];exact hz) fun h' tk acc' c' kk hl hI=>?_
  have hvs:Vals (ss.map V.str) acc'.toList:=by
    have hlen:acc'.toList.length=ws.length:=by rw [Array.length_toList];exact hI.1
    refine vals_by (by rw [List.length_map,hlen,← lw,hsl]) fun i x u e1 e2=>?_
    obtain ⟨k,x',e3,hkk⟩:=hI.2 i u (by rw [← Array.getElem?_toList];exact e2)
    obtain ⟨k',v',e4,e5⟩:=kv_at rel e3
    have e6:(kvs.map (·.1))[i]? = some k:=by rw [List.getElem?_map,e4];exact congrArg some e5
    rw [hk,List.getElem?_map] at e6
    rw [List.getElem?_map] at e1
    cases e7:ss[i]? with
    | none=>rw [e7] at e1;cases e1
    | some z =>
      rw [e7] at e1 e6
      cases e1
      have e8:Sum.inr z=k:=Option.some.inj e6
      subst e8
      rcases keyIs_shape (show keyIs (Sum.inr z) u=true from hkk) with ⟨_,_,q1,_⟩ | ⟨y,t,q1,q2⟩
      · cases q1
      · cases q1
        exact ⟨t,q2⟩
  exact ⟨.ref s.heap.objs.size,_,I.laid kk (Nat.le_refl _) (show ObjOk X.prog X.w _ h' _ (.lst _) from ⟨by rw [List.length_map,hsl];exact hz,acc'.toList,c',hvs,by simpa using hl⟩),rfl,q _ (I.hok.fresh (Nat.le_refl _))⟩
def rDictD:List V→Hp→VK→Prop:=fun xs H Q=>∃ (d:Addr) (kvs:List (Key × V)),xs=[.ref d]∧H d=some (.dK kvs)∧∀ l,H l=none→Q (.ref l) (upd H l (.dK kvs))
theorem call_dict_dict {X:Cx}:CallR X (.type "dict") rDictD:=by
  intro pins s σ H xs us Q I r h
  obtain ⟨d,kvs,rfl,hd,q⟩:=h
  obtain ⟨u,rfl,ru⟩:=vals1 r
  cases ru
  obtain ⟨hz,lo,ws,rel,dd⟩:=dk_of I.hok hd
  have lw:kvs.length=ws.length:=Paired.length rel
  refine kt_call_dict lo dd (by rw [← lw];exact hz) fun h' hD sb=>?_
  refine ⟨.ref s.heap.objs.size,upd H s.heap.objs.size (.dK kvs),I.laid (a:=s.heap.objs.size) (o:=.dK kvs) (t':=s.toks) (fun b o e=>?_) (Nat.le_refl _) ⟨hz,?_,ws,rel,hD⟩,rfl,q _ (I.hok.fresh (Nat.le_refl _))⟩
  · have hlt:=Heap.lt_size e
    exact (sb.2 b (Nat.ne_of_lt hlt)).trans (Heap.get?_push_of_some _ e)
  · exact beq_eq_false_iff_ne.mpr (Nat.ne_of_gt I.big)
end L2
namespace L2
open PySem PySem.Spec PyProof.Rows PySem.SeqAt
def rNeL0 (K:PySem.W.Frag):R2:=fun x y H Q=>∃ (a b:Addr) (xs:List V),x=.ref a∧y=.ref b∧SqL K H a xs∧SqL K H b []∧Q (.bl (!xs.isEmpty)) H
theorem op_neL0 {X:Cx} (hu:X.A.units+64 < cLine):OpR X (compareOp .NotEq) (rNeL0 X.K):=by
  intro pins s σ H x y u v Q I rx ry h
  obtain ⟨a,b,xs,rfl,rfl,ha,hb,q⟩:=h
  cases rx
  cases ry
  obtain ⟨i1,r1,p1,_⟩:=I.list ha
  obtain ⟨i2,r2,p2,_⟩:=I.list hb
  cases r2
  cases xs with
  | nil =>
    cases r1
    exact PySem.SeqAt.RcNeAt.lists (e:=fun _=>true) p1.isList p2.isList rfl (show X.A.units < cLine by omega) (fun j h1 h2=>absurd h2 (by simp)) X.prog X.w _ _ ⟨.bl false,H,I,rfl,q⟩
  | cons x xs =>
    cases r1
    exact PySem.SeqAt.RcNeAt.lists_lengths p1.isList p2.isList (by simp) (show X.A.units < cLine by omega) X.prog X.w _ _ ⟨.bl true,H,I,rfl,q⟩
theorem op_neL0K {X:Cx} (K:PySem.W.Frag) (hu:X.A.units+64 < cLine) (hK:X.K=K:=by rfl):OpR X (compareOp .NotEq) (rNeL0 K):=by subst hK;exact op_neL0 hu
end L2
namespace PySem
namespace F
theorem zip_no_len:typeLookup (.type "zip") "__len__" = pure none:=by rw [typeLookup_type,builtinLookup_eq_fast];kernel_rfl
theorem zip_no_hint:typeLookup (.type "zip") "__length_hint__" = pure none:=by rw [typeLookup_type,builtinLookup_eq_fast];kernel_rfl
end F
end PySem
namespace L2
open PySem PySem.Spec PyProof.Rows
structure ZPrs (h:Heap) (b0:Nat) (xs ys:Array Value) (ts:List Addr):Prop where
  at_:∀ (j:Nat) (T:Addr),ts[j]? = some T→∃ x y,IsPair h T x y∧xs[j]? = some x∧ys[j]? = some y
  lo:∀ T∈ts,b0≤T
  inc:ts.Pairwise (· < ·)
theorem ZPrs.lt {h:Heap} {b0:Nat} {xs ys:Array Value} {ts:List Addr} (p:ZPrs h b0 xs ys ts):∀ T∈ts,T < h.objs.size:=fun T hT=>by
  obtain ⟨j,hj⟩:=List.getElem?_of_mem hT
  obtain ⟨x,y,e,_⟩:=p.at_ j T hj
  exact Heap.lt_size e
theorem ZPrs.keep {h h':Heap} {b0:Nat} {xs ys:Array Value} {ts:List Addr} (p:ZPrs h b0 xs ys ts) (k:∀ b o,b0≤b→h.get? b=some o→h'.get? b=some o):ZPrs h' b0 xs ys ts :=
  ⟨fun j T e=>by
    obtain ⟨x,y,e1,r⟩:=p.at_ j T e
    exact ⟨x,y,k _ _ (p.lo T (List.mem_of_getElem? e)) e1,r⟩,p.lo,p.inc⟩
theorem ZPrs.snoc {h:Heap} {b0 n:Nat} {xs ys:Array Value} {ts:List Addr} {T:Addr} {x y:Value} (p:ZPrs h b0 xs ys ts) (hn:∀ t∈ts,t < n) (hT:n≤T) (hb:b0≤n) (e:IsPair h T x y) (ex:xs[ts.length]? = some x) (ey:ys[ts.length]? = some y):ZPrs h b0 xs ys (ts++[T]):=by
  refine ⟨fun j T' e'=>?_,fun T' hT'=>?_,List.pairwise_append.mpr ⟨p.inc,List.pairwise_singleton _ _,fun a ha b hb'=>?_⟩⟩
  · by_cases hj:j < ts.length
    · rw [List.getElem?_append_left hj] at e'
      exact p.at_ j T' e'
    · rw [List.getElem?_append_right (by omega)] at e'
      have hj2:j - ts.length=0:=by
        have:=(List.getElem?_eq_some_iff.mp e').1
        simp at this
        omega
      rw [hj2] at e'
      obtain rfl:T=T':=by simpa using e'
      have:j=ts.length:=by omega
      subst this
      exact ⟨x,y,e,ex,ey⟩
  · rcases List.mem_append.mp hT' with z | z
    · exact p.lo T' z
    · rw [List.mem_singleton.mp z];omega
  · rw [List.mem_singleton.mp hb']
    exact Nat.lt_of_lt_of_le (hn a ha) hT
theorem zne {b0:Nat} {b c:Addr} (h:c < b0) (h2:b0≤b):b≠c:=Nat.ne_of_gt (Nat.lt_of_lt_of_le h h2)
abbrev zLst (ts:List Addr) (c:Nat):Obj:={ cls:=.type "list",dict:=none,data:=.seq (ts.map Value.ref).toArray c,slots:=#[] }
section
variable {P:Program} {w:World}
theorem extz_loop {A:Around} {S z TI TO i1 i2 l1 l2:Addr} {b0:Nat} {xs ys:Array Value} {res:Value} {R:Result→Shared→Prop} {S1 S2:Nat→Heap→Prop} (hA:A.handled=none) (D:ZipA z TI TO i1 i2 l1 l2) (hxy:xs.size=ys.size) (hz:xs.size≤1000)
    (hS:S≠z∧S≠TI∧S≠TO∧S≠i1∧S≠i2∧S≠l1∧S≠l2) (hb:z < b0∧TO < b0∧i1 < b0∧i2 < b0∧S < b0)
    (c1:SrcG P w i1 l1 xs.size (fun k v=>xs[k]? = some v) S1) (c2:SrcG P w i2 l2 ys.size (fun k v=>ys[k]? = some v) S2) :
    ∀ (m i:Nat) (ts:List Addr) (c:Nat) (s:Shared),i+m=xs.size→b0≤s.heap.objs.size→ZSt S1 S2 S z TI TO i1 i2 i s.heap→s.heap.get? S=some (zLst ts c)→ZPrs s.heap b0 xs ys ts→ts.length=i →
      (∀ h' tk ts' c',h'.get? S=some (zLst ts' c')→ZPrs h' b0 xs ys ts'→ts'.length=xs.size→(∀ b o,b≠z→b≠TO→b≠i1→b≠i2→b≠S→s.heap.get? b=some o→h'.get? b=some o)→R (.ok (.ret res)) { s with heap:=h',toks:=tk }) →
      codeAny (model P w) A (.builtin "list.extend.loop" ⟨[.ref S,.ref z,res],[]⟩) R s
  | 0,i,ts,c,s,hi,hbs,st,hL,hP,hl,q=>by
    refine codeAny_builtin F.entry_extend_loop ?_
    rw [Around.under_plainId F.plain_extend_loop _]
    show wpAny _ A.in1 (pyNext (.ref z) >>= _) _ _ s
    refine wpAny_bind (zst_done hA c1 c2 D st (.inl (by omega)) fun h' tk kk=>?_)
    refine wpAny_pure (q h' tk ts c (kk _ _ hS.1 hS.2.2.1 hS.2.2.2.1 hS.2.2.2.2.1 hL) (hP.keep fun b o hbb e=>kk b o (zne hb.1 hbb) (zne hb.2.1 hbb) (zne hb.2.2.1 hbb) (zne hb.2.2.2.1 hbb) e) (by omega) fun b o n1 n2 n3 n4 _ e=>kk b o n1 n2 n3 n4 e)
  | m+1,i,ts,c,s,hi,hbs,st,hL,hP,hl,q=>by
    refine codeAny_builtin F.entry_extend_loop ?_
    rw [Around.under_plainId F.plain_extend_loop _]
    show wpAny _ A.in1 (pyNext (.ref z) >>= _) _ _ s
    refine wpAny_bind (zst_item c1 c2 D (Heap.lt_size hL) st (by omega) (by omega) fun vx vy h' T tk px py hT hTs st' kk=>?_)
    have hL':=kk _ _ hS.1 hS.2.2.1 hS.2.2.2.1 hS.2.2.2.2.1 hL
    have hlen:((ts.map Value.ref).toArray).size=i:=by simp [hl]
    show wpAny _ A.in1 (updateSeq S (·.push (.ref T)) >>= _) _ _ _
    refine wpAny_bind ?_
    have k1000:(1000:Nat)≤sizeLine:=Nat.le_of_lt (small1000 (Nat.le_refl 1000))
    refine wpAny_updateSeq hL' rfl (wpAny_pure ⟨plainId_quiet F.plain_extend_loop _,?_⟩) (by rw [hlen];omega) (by show (Array.push _ _).size≤sizeLine+1;rw [Array.size_push,hlen];omega)
    have hup:=Heap.get?_update_self (Obj.mapSeq (·.push (Value.ref T))) hL' rfl
    have oth:∀ b o,b≠S→h'.get? b=some o→(h'.update S (Obj.mapSeq (·.push (Value.ref T)))).get? b=some o:=fun b o n e=>(Heap.get?_update_other _ _ (Ne.symm n)).trans e
    have hsz:(h'.update S (Obj.mapSeq (·.push (Value.ref T)))).objs.size=h'.objs.size:=Heap.size_update ..
    have hgr:s.heap.objs.size < h'.objs.size:=Nat.lt_of_le_of_lt hTs (Heap.lt_size hT)
    have st2:=st'.keep (h':=h'.update S (Obj.mapSeq (·.push (Value.ref T)))) c1 c2 hS fun b o n e=>oth b o n e
    have hP1:ZPrs (h'.update S (Obj.mapSeq (·.push (Value.ref T)))) b0 xs ys ts:=hP.keep fun b o hbb e=>oth b o (zne hb.2.2.2.2 hbb) (kk b o (zne hb.1 hbb) (zne hb.2.1 hbb) (zne hb.2.2.1 hbb) (zne hb.2.2.2.1 hbb) e)
    have hP2:=hP1.snoc (T:=T) (x:=vx) (y:=vy) hP.lt hTs hbs (oth _ _ (zne hb.2.2.2.2 (Nat.le_trans hbs hTs)) hT) (by rw [hl];exact px) (by rw [hl];exact py)
    obtain ⟨cc,hcc⟩:∃ cc,(h'.update S (Obj.mapSeq (·.push (Value.ref T)))).get? S=some (zLst (ts++[T]) cc):=by
      have e9:(ts.map Value.ref).toArray.push (Value.ref T)=((ts++[T]).map Value.ref).toArray:=by simp
      refine ⟨if ((ts.map Value.ref).toArray.push (Value.ref T)).size == (ts.map Value.ref).toArray.size then c else c+1,hup.trans ?_⟩
      show some ({ cls:=.type "list",dict:=none,data:=.seq ((ts.map Value.ref).toArray.push (Value.ref T)) (if ((ts.map Value.ref).toArray.push (Value.ref T)).size == (ts.map Value.ref).toArray.size then c else c+1),slots:=#[] }:Obj)=_
      rw [e9]
    refine extz_loop hA D hxy hz hS hb c1 c2 m (i+1) (ts++[T]) cc _ (by omega) (by show b0≤(h'.update S _).objs.size;rw [hsz];omega) st2 hcc hP2 (by rw [List.length_append,hl];rfl) fun h3 tk3 ts3 c3 a1 a2 a3 a4=>?_
    exact q h3 tk3 ts3 c3 a1 a2 a3 fun b o n1 n2 n3 n4 n5 e=>a4 b o n1 n2 n3 n4 n5 (oth b o n5 (kk b o n1 n2 n3 n4 e))
end
section
variable {X:Cx} {pins:List (Addr × Obj)} {σ:St} {s:Shared}
theorem track_all {n0:Nat} (fp:∀ b (H':Hp),n0≤b→H' b=none→FpOk X pins H' b∧X.s₀.heap.get? b=none):∀ (xs ys:List V) (us vs:List Value) (ts:List Addr) (H:Hp),Inv X pins σ H s→Vals xs us→Vals ys vs→xs.length=ys.length→ts.length=xs.length→(∀ t∈ts,n0≤t∧H t=none)→ts.Pairwise (· < ·) →
    (∀ (j:Nat) t,ts[j]? = some t→∃ x y,IsPair s.heap t x y∧us[j]? = some x∧vs[j]? = some y) →
    ∃ H',Inv X pins σ H' s∧(∀ c,c ∉ ts→H' c=H c)∧∀ (j:Nat) t x y,ts[j]? = some t→xs[j]? = some x→ys[j]? = some y→H' t=some (.tup [x,y])
  := by
  intro xs ys us vs ts
  induction ts generalizing xs ys us vs with
  | nil =>
    intro H I _ _ _ _ _ _ _
    exact ⟨H,I,fun _ _=>rfl,fun j t x y e=>by simp at e⟩
  | cons t ts ih =>
    intro H I v1 v2 hl hl2 hn hp hat
    obtain ⟨u',v',e1,e2,e3⟩:=hat 0 t rfl
    cases v1 with
    | nil=>simp at hl2
    | cons r1 v1 =>
      rename_i x u xs us
      cases v2 with
      | nil=>simp at hl
      | cons r2 v2 =>
        rename_i y v ys vs
        have eu:u=u':=by simpa using e2
        have ev:v=v':=by simpa using e3
        rw [← eu,← ev] at e1
        obtain ⟨n1,n2⟩:=hn t List.mem_cons_self
        obtain ⟨⟨_,f1,f2,f3,f4,f5⟩,f6⟩:=fp t H n1 n2
        obtain ⟨hlt,hp'⟩:=List.pairwise_cons.mp hp
        have I2:Inv X pins σ (upd H t (.tup [x,y])) s:=I.track n2 f6 f1 f4 f5 ⟨by show 2≤sizeLine;decide,[u,v],.cons r1 (.cons r2 .nil),⟨_,e1,rfl,_,rfl⟩,_,e1,rfl⟩
        have ntt:∀ t'∈ts,t'≠t:=fun t' h=>Nat.ne_of_gt (hlt t' h)
        obtain ⟨H',I3,k3,a3⟩:=ih xs ys us vs (upd H t (.tup [x,y])) I2 v1 v2 (by simpa using hl) (by simpa using hl2) (fun t' h=>by
          refine ⟨(hn t' (List.mem_cons_of_mem _ h)).1,?_⟩
          rw [upd_ne (ntt t' h)]
          exact (hn t' (List.mem_cons_of_mem _ h)).2) hp' (fun j t' e=>hat (j+1) t' e)
        refine ⟨H',I3,fun c hc=>?_,fun j t' x' y' h1 h2 h3=>?_⟩
        · rw [k3 c fun h=>hc (List.mem_cons_of_mem _ h),upd_ne fun z=>hc (by rw [z];exact List.mem_cons_self)]
        · cases j with
          | zero =>
            have q1:t=t':=by simpa using h1
            have q2:x=x':=by simpa using h2
            have q3:y=y':=by simpa using h3
            rw [← q1,← q2,← q3,k3 t fun h=>ntt t h rfl,upd_same]
          | succ j=>exact a3 j t' x' y' h1 h2 h3
end
def tLZ (K:PySem.W.Frag) (ta:TA):TE:=fun σ H Q=>ta σ H fun vs H1=>∃ (a b:Addr) (xs ys:List V),vs=[.ref a,.ref b]∧SqL K H1 a xs∧SqL K H1 b ys∧xs.length=ys.length∧xs.length≤1000 ∧
  ∀ (d:Addr) (ts:List Addr) H',(∀ c o,H1 c=some o→H' c=some o)→H1 d=none→(∀ t∈ts,H1 t=none)→H' d=some (.lst (ts.map V.ref))→ts.length=xs.length →
    (∀ (j:Nat) t x y,ts[j]? = some t→xs[j]? = some x→ys[j]? = some y→H' t=some (.tup [x,y]))→Q (.ref d) H'
theorem pe_listZip {X:Cx} {e1 e2:Expr} {ta:TA} {p p2 pos pos2:Pos} (hc:X.calm=true) (hgd:Gl X "list") (hmd:X.mg "list" = none) (hgz:Gl X "zip") (hmz:X.mg "zip" = none) (hl:PA X [e1,e2] ta)
    (hs:starEach [e1,e2] X.env=[(false,eval e1 X.env),(false,eval e2 X.env)]:=by rfl) (hs2:starEach [e2] X.env=[(false,eval e2 X.env)]:=by rfl)
    (he:starEach [.Call (.Name "zip" p2) [e1,e2] [] pos2] X.env=[(false,eval (.Call (.Name "zip" p2) [e1,e2] [] pos2) X.env)]:=by rfl) :
    PE X (.Call (.Name "list" p) [.Call (.Name "zip" p2) [e1,e2] [] pos2] [] pos) (tLZ X.K ta):=by
  intro pins s σ H Q I h
  refine wpAny_Call_Name_kw (ld_blt I hgd hmd (show bootBuiltins "list" = some (.type "list") by first | exact PySem.boot_list | decide +kernel) ?_)
  refine PyProof.Rows.callWith_type1 ?_ he rfl
  rw [he]
  show wpAny _ _ (spliced ((false,eval (.Call (.Name "zip" p2) [e1,e2] [] pos2) X.env) :: backTo pos (starEach [] X.env))) _ _ s
  refine Calls.spliced_cons ?_
  refine wpAny_Call_Name_kw (ld_blt I hgz hmz (show bootBuiltins "zip" = some (.type "zip") by first | exact boot_zip | decide +kernel) (PyProof.Rows.callWith_type1 (thn (hl pos2 pins s σ H _ I h) fun us s1 ⟨vs,H1,I1,r1,q1⟩=>?_) (by rw [hs,hs2]) (by rw [hs2];rfl)))
  obtain ⟨a,b,xs,ys,rfl,hqa,hqb,hxy,hz,q⟩:=q1
  obtain ⟨v1,v2,rfl,ru1,ru2⟩:=vals2 r1
  cases ru1
  cases ru2
  obtain ⟨its1,rv1,m1,_⟩:=I1.seqA (b:=false) hqa
  obtain ⟨its2,rv2,m2,_⟩:=I1.seqA (b:=false) hqb
  obtain ⟨oa,hoa,_⟩:=m1.obj
  obtain ⟨ob,hob,_⟩:=m2.obj
  have la:=Heap.lt_size hoa
  have lb:=Heap.lt_size hob
  refine call_zipA m1 m2 fun h' hz' hTI hTO hi1 hi2 kk=>?_
  refine Calls.spliced_nil ?_
  have hA:=I1.ok.hd hc
  refine callType_codes (s:={ s1 with heap:=h' }) (Q₁:=fun obj s₁=>obj=.ref h'.objs.size∧s₁ = { s1 with heap:=h'.push { cls:=.type "list",data:=.seq #[] } }) F.called_list (F.typeCall_list_1 _) F.entry_list_init (code_list_new _ ⟨rfl,rfl⟩) fun obj s₁ h₁=>?_
  obtain ⟨rfl,rfl⟩:=h₁
  have hS:(h'.push { cls:=.type "list",data:=.seq #[] }).get? h'.objs.size=some { cls:=.type "list",data:=.seq #[] }:=Heap.get?_push_size _ rfl
  refine ⟨⟨_,hS,rfl⟩,F.args_list_init_2 _ _,?_⟩
  have zl:s1.heap.objs.size+4 < h'.objs.size:=Heap.lt_size hz'
  have hle:s1.heap.objs.size≤h'.objs.size:=Nat.le_of_lt (Nat.lt_of_le_of_lt (Nat.le_add_right _ 4) zl)
  have hSz:h'.objs.size≠s1.heap.objs.size+4:=Nat.ne_of_gt zl
  show wpAny _ _ (do let old ← Builtin.List.listItems (.ref h'.objs.size);Builtin.List.listUpdate (.ref h'.objs.size) (fun _=>#[]);letGo old.toList.reverse;Builtin.List.listExtendWith (.ref h'.objs.size) (.ref (s1.heap.objs.size+4)) .none) _ _ _
  refine wpAny_bind ?_
  unfold Builtin.List.listItems
  refine wpAny_bind (wpAny_seqItems hS rfl (wpAny_pure ?_))
  show wpAny _ _ (updateSeq h'.objs.size (fun _=>#[]) >>= fun _=>letGo (#[]:Array Value).toList.reverse >>= fun _=>Builtin.List.listExtendWith (.ref h'.objs.size) (.ref (s1.heap.objs.size+4)) .none) _ _ _
  refine wpAny_bind (wpAny_updateSeq hS rfl ?_)
  have hS₂:=Heap.get?_update_self (Obj.mapSeq (fun _=>(#[]:Array Value))) hS rfl
  have oth:∀ b o,h'.get? b=some o→((h'.push { cls:=.type "list",data:=.seq #[] }).update h'.objs.size (Obj.mapSeq (fun _=>(#[]:Array Value)))).get? b=some o :=
    fun b o e=>(Heap.get?_update_other _ _ (Nat.ne_of_gt (Heap.lt_size e))).trans (Heap.get?_push_of_some _ e)
  have hsz2:((h'.push { cls:=.type "list",data:=.seq #[] }).update h'.objs.size (Obj.mapSeq (fun _=>(#[]:Array Value)))).objs.size=h'.objs.size+1:=by rw [Heap.size_update,Heap.size_push]
  obtain ⟨c2,hS₃⟩:∃ c2,((h'.push { cls:=.type "list",data:=.seq #[] }).update h'.objs.size (Obj.mapSeq (fun _=>(#[]:Array Value)))).get? h'.objs.size=some (zLst [] c2):=⟨_,hS₂⟩
  clear hS₂
  refine wpAny_bind (wpAny_letGo ?_)
  revert oth hsz2 hS₃
  show _→_→_→wpAny _ _ _ _ _ { s1 with heap:=_ }
  generalize (h'.push { cls:=.type "list",data:=.seq #[] }).update h'.objs.size (Obj.mapSeq (fun _=>(#[]:Array Value)))=h2
  intro oth hsz2 hS₃
  unfold Builtin.List.listExtendWith
  refine wpAny_bind (wpAny_typeOf (T:="zip") ⟨_,oth _ _ hz',rfl⟩ ?_)
  have g1:Builtin.List.listSameRef (.ref h'.objs.size) (.ref (s1.heap.objs.size+4))=false:=by simp [Builtin.List.listSameRef,hSz]
  have g2:(Value.type "zip" == Value.type "list")=false:=by decide
  have g3:(Value.type "zip" == Value.type "tuple")=false:=by decide
  simp only [g1,g2,g3,Bool.or_false,Bool.false_eq_true,if_false]
  refine wpAny_bind (wpAny_pyIter_zip (oth _ _ hz') ?_)
  refine wpAny_bind (wpAny_holding ?_)
  unfold Builtin.List.listLengthHint
  have tz:({ s1 with heap:=h2 }:Shared).TypeIs (.ref (s1.heap.objs.size+4)) "zip":=⟨_,oth _ _ hz',rfl⟩
  refine wpAny_bind (wpAny_specialOf tz F.zip_no_len ?_)
  refine wpAny_bind (wpAny_specialOf tz F.zip_no_hint ?_)
  refine wpAny_pure ?_
  show wpAny _ _ (rule "list.extend.makes-room" >>= fun _=>Builtin.List.listTouch (.ref h'.objs.size) >>= fun _=>again (.builtin "list.extend.loop" ⟨[.ref h'.objs.size,.ref (s1.heap.objs.size+4),.none],[]⟩)) _ _ _
  refine wpAny_bind (wpAny_rule ?_)
  refine wpAny_bind ?_
  show wpAny _ _ (updateSeq h'.objs.size (·.push .none) >>= fun _=>updateSeq h'.objs.size (·.pop)) _ _ _
  refine wpAny_bind (wpAny_updateSeq hS₃ rfl ?_)
  have hS₄:=Heap.get?_update_self (Obj.mapSeq (·.push Value.none)) hS₃ rfl
  refine wpAny_updateSeq hS₄ rfl ?_
  have hS₅:=Heap.get?_update_self (Obj.mapSeq (·.pop)) hS₄ rfl
  have oth2:∀ b o,h'.get? b=some o→((h2.update h'.objs.size (Obj.mapSeq (·.push Value.none))).update h'.objs.size (Obj.mapSeq (·.pop))).get? b=some o :=
    fun b o e=>(Heap.get?_update_other _ _ (Nat.ne_of_gt (Heap.lt_size e))).trans ((Heap.get?_update_other _ _ (Nat.ne_of_gt (Heap.lt_size e))).trans (oth b o e))
  have hsz3:((h2.update h'.objs.size (Obj.mapSeq (·.push Value.none))).update h'.objs.size (Obj.mapSeq (·.pop))).objs.size=h'.objs.size+1:=by rw [Heap.size_update,Heap.size_update,hsz2]
  obtain ⟨c3,hS₆⟩:∃ c3,((h2.update h'.objs.size (Obj.mapSeq (·.push Value.none))).update h'.objs.size (Obj.mapSeq (·.pop))).get? h'.objs.size=some (zLst [] c3):=⟨_,hS₅⟩
  clear hS₅ hS₄
  revert oth2 hsz3 hS₆
  show _→_→_→wpAny _ _ _ _ _ { s1 with heap:=_ }
  generalize (h2.update h'.objs.size (Obj.mapSeq (·.push Value.none))).update h'.objs.size (Obj.mapSeq (·.pop))=h3
  intro oth2 hsz3 hS₆
  refine wpAny_pure ⟨plainId_quiet F.plain_extend_loop _,?_⟩
  have D:ZipA (s1.heap.objs.size+4) (s1.heap.objs.size+2) (s1.heap.objs.size+3) s1.heap.objs.size (s1.heap.objs.size+1) a b:=by
    have nn:∀ {c:Addr} (j:Nat),c < s1.heap.objs.size→c≠s1.heap.objs.size+j:=fun j hc=>Nat.ne_of_lt (Nat.lt_of_lt_of_le hc (Nat.le_add_right _ _))
    refine ⟨?_,?_,?_,?_,?_,?_,?_,?_,?_,?_,nn 4 la,nn 3 la,nn 1 la,nn 4 lb,nn 3 lb,nn 0 lb⟩ <;> simp
  have lt4:∀ j,j≤4→s1.heap.objs.size+j < h'.objs.size:=fun j hj=>Nat.lt_of_le_of_lt (Nat.add_le_add_left hj _) zl
  have ne4:∀ j,j≤4→h'.objs.size≠s1.heap.objs.size+j:=fun j hj=>Nat.ne_of_gt (lt4 j hj)
  have lt5:∀ j,j≤4→s1.heap.objs.size+j < h'.objs.size+1:=fun j hj=>Nat.lt_succ_of_lt (lt4 j hj)
  have nea:h'.objs.size≠a:=Nat.ne_of_gt (Nat.lt_of_lt_of_le la hle)
  have neb:h'.objs.size≠b:=Nat.ne_of_gt (Nat.lt_of_lt_of_le lb hle)
  have l1:=rv1.length
  have l2:=rv2.length
  refine extz_loop (P:=X.prog) (w:=X.w) (A:=X.A.in1) (b0:=h'.objs.size+1) hA D (xs:=its1.toArray) (ys:=its2.toArray) (by simp;omega) (by simp;omega) ⟨ne4 4 (by omega),ne4 2 (by omega),ne4 3 (by omega),ne4 0 (by omega),ne4 1 (by omega),nea,neb⟩ ⟨lt5 4 (by omega),lt5 3 (by omega),lt5 0 (by omega),lt5 1 (by omega),Nat.lt_succ_self _⟩
    (srcA s1.heap.objs.size a (Nat.ne_of_lt la) its1.toArray false).g (srcA (s1.heap.objs.size+1) b (Nat.ne_of_lt (Nat.lt_succ_of_lt lb)) its2.toArray false).g its1.toArray.size 0 [] c3 { s1 with heap:=h3 } (Nat.zero_add _) (Nat.le_of_eq hsz3.symm)
    ⟨oth2 _ _ hTI,⟨_,_,oth2 _ _ hTO⟩,⟨ItA.at (fun o e=>oth2 _ _ e) hi1,m1.keep fun o e=>oth2 _ _ (kk _ _ e)⟩,⟨ItA.at (fun o e=>oth2 _ _ e) hi2,m2.keep fun o e=>oth2 _ _ (kk _ _ e)⟩,.inl (oth2 _ _ hz')⟩ hS₆ ⟨fun j T e=>by simp at e,fun T h=>by simp at h,.nil⟩ rfl ?_
  intro h4 tk ts c4 hL4 hP4 hlen4 k4
  have kold:∀ b o,s1.heap.get? b=some o→h4.get? b=some o:=fun b o e=>by
    have hlt:=Heap.lt_size e
    have nn:∀ j,b≠s1.heap.objs.size+j:=fun j=>Nat.ne_of_lt (Nat.lt_of_lt_of_le hlt (Nat.le_add_right _ _))
    exact k4 b o (nn 4) (nn 3) (nn 0) (nn 1) (Nat.ne_of_lt (Nat.lt_of_lt_of_le hlt hle)) (oth2 _ _ (kk b o e))
  have I4:Inv X pins σ H1 { s1 with heap:=h4,toks:=tk }:=I1.kept (t':=tk) kold
  have fp:∀ b (H':Hp),s1.heap.objs.size≤b→H' b=none→FpOk X pins H' b∧X.s₀.heap.get? b=none:=fun b H' hb hn=>by
    have h9:X.s₀.heap.objs.size≤b:=Nat.le_trans I1.sz hb
    refine ⟨I1.fpOk hb hn,?_⟩
    cases e:X.s₀.heap.get? b with
    | none=>rfl
    | some o=>exact absurd (Heap.lt_size e) (Nat.not_lt.mpr h9)
  have hts:∀ t∈ts,s1.heap.objs.size≤t∧H1 t=none:=fun t ht=>by
    have:=hP4.lo t ht
    have h9:s1.heap.objs.size≤t:=Nat.le_trans hle (Nat.le_of_succ_le this)
    exact ⟨h9,I1.hok.fresh h9⟩
  obtain ⟨H5,I5,k5,a5⟩:=track_all fp xs ys its1 its2 ts H1 I4 rv1 rv2 hxy (by rw [hlen4];simp;omega) hts hP4.inc (fun j t e=>by
    obtain ⟨x,y,e1,e2,e3⟩:=hP4.at_ j t e
    exact ⟨x,y,e1,by simpa using e2,by simpa using e3⟩)
  have nS:h'.objs.size ∉ ts:=fun h=>absurd (hP4.lo _ h) (Nat.not_le.mpr (Nat.lt_succ_self _))
  have nS1:H1 h'.objs.size=none:=I1.hok.fresh hle
  have nS5:H5 h'.objs.size=none:=by rw [k5 _ nS];exact nS1
  obtain ⟨⟨_,f1,f2,f3,f4,f5⟩,f6⟩:=fp h'.objs.size H5 hle nS5
  have vr:∀ l:List Addr,Vals (l.map V.ref) (l.map Value.ref):=fun l=>by
    induction l with
    | nil=>exact .nil
    | cons t l ih=>exact .cons rfl ih
  have hlx:ts.length=xs.length:=by rw [hlen4];simp;omega
  refine ⟨rfl,.ref h'.objs.size,upd H5 h'.objs.size (.lst (ts.map V.ref)),I5.track nS5 f6 f1 f4 f5 ⟨?_,ts.map Value.ref,c4,vr ts,hL4⟩,rfl,q _ ts _ (fun c o e=>?_) nS1 (fun t ht=>(hts t ht).2) upd_same hlx fun j t x y e1 e2 e3=>?_⟩
  · rw [List.length_map,hlx]
    exact Nat.le_of_lt (small1000 hz)
  · have nc:c ∉ ts:=fun h=>by rw [(hts c h).2] at e;cases e
    have ncS:c≠h'.objs.size:=fun z=>by rw [z,nS1] at e;cases e
    rw [upd_ne ncS,k5 c nc]
    exact e
  · rw [upd_ne fun z=>nS (by rw [← z];exact List.mem_of_getElem? e1)]
    exact a5 j t x y e1 e2 e3
theorem pe_listZipK {X:Cx} (K:PySem.W.Frag) {e1 e2:Expr} {ta:TA} {p p2 pos pos2:Pos} (hc:X.calm=true) (hgd:Gl X "list") (hmd:X.mg "list" = none) (hgz:Gl X "zip") (hmz:X.mg "zip" = none) (hl:PA X [e1,e2] ta)
    (hs:starEach [e1,e2] X.env=[(false,eval e1 X.env),(false,eval e2 X.env)]:=by rfl) (hs2:starEach [e2] X.env=[(false,eval e2 X.env)]:=by rfl)
    (he:starEach [.Call (.Name "zip" p2) [e1,e2] [] pos2] X.env=[(false,eval (.Call (.Name "zip" p2) [e1,e2] [] pos2) X.env)]:=by rfl) (hK:X.K=K:=by rfl) :
    PE X (.Call (.Name "list" p) [.Call (.Name "zip" p2) [e1,e2] [] pos2] [] pos) (tLZ K ta):=by subst hK;exact pe_listZip hc hgd hmd hgz hmz hl hs hs2 he
end L2
namespace L2
open PySem PySem.Spec PyProof.Rows
theorem all_eq:∀ ns ms:List Int,((List.range (min ns.length ms.length)).all (fun i=>decide (ns.getD i 0=ms.getD i 0)) && ns.length == ms.length)=decide (ns=ms):=fun ns ms=>by
  by_cases h:ns=ms
  · subst h
    rw [decide_eq_true rfl]
    simp
  · rw [decide_eq_false h]
    by_cases hl:ns.length=ms.length
    · rw [Bool.and_eq_false_iff]
      left
      rw [Bool.eq_false_iff]
      intro z
      refine h (List.ext_getElem hl fun i h1 h2=>?_)
      have:=List.all_eq_true.mp z i (List.mem_range.mpr (by omega))
      have:=of_decide_eq_true this
      rw [List.getD_eq_getElem?_getD,List.getD_eq_getElem?_getD,List.getElem?_eq_getElem h1,List.getElem?_eq_getElem h2] at this
      exact this
    · rw [Bool.and_eq_false_iff]
      right
      exact beq_eq_false_iff_ne.mpr hl
end L2
namespace L2
open PySem PySem.Spec PyProof.Rows
def rNeLI (K:PySem.W.Frag):R2:=fun x y H Q=>∃ (a b:Addr) (ns ms:List Int),x=.ref a∧y=.ref b∧SqL K H a (ns.map V.int)∧SqL K H b (ms.map V.int)∧Q (.bl (!decide (ns=ms))) H
theorem op_neLI {X:Cx} (hu:X.A.units+64 < cLine):OpR X (compareOp .NotEq) (rNeLI X.K):=by
  intro pins s σ H x y u v Q I rx ry h
  obtain ⟨a,b,ns,ms,rfl,rfl,ha,hb,q⟩:=h
  cases rx
  cases ry
  obtain ⟨i1,r1,p1,_⟩:=I.list ha
  obtain ⟨i2,r2,p2,_⟩:=I.list hb
  have l1:i1.toArray.size=ns.length:=by rw [List.size_toArray,← r1.length,List.length_map]
  have l2:i2.toArray.size=ms.length:=by rw [List.size_toArray,← r2.length,List.length_map]
  by_cases hl:ns.length=ms.length
  · have key:=SeqAt.RcNeAt.lists (A:=X.A) (s:=s) (e:=fun i=>decide (ns.getD i 0=ms.getD i 0)) p1.isList p2.isList (by rw [l1,l2];exact hl) (by omega) (items_dec r1 r2 fun i x y u v e1 e2 g1 g2=>by
      rw [List.getElem?_map] at e1 e2
      cases c1:ns[i]? with
      | none=>rw [c1] at e1;cases e1
      | some n =>
        cases c2:ms[i]? with
        | none=>rw [c2] at e2;cases e2
        | some m =>
          rw [c1] at e1
          rw [c2] at e2
          cases e1
          cases e2
          have:=eqAt_V (A:=X.A.in1) (s:=s) g1 g2 rfl rfl
          rw [List.getD_eq_getElem?_getD,List.getD_eq_getElem?_getD,c1,c2]
          exact this)
    have e9:=all_eq ns ms
    rw [← hl,Nat.min_self,beq_self_eq_true,Bool.and_true] at e9
    rw [l1,e9] at key
    exact key X.prog X.w _ _ ⟨.bl _,H,I,rfl,q⟩
  · have key:=SeqAt.RcNeAt.lists_lengths (A:=X.A) (s:=s) p1.isList p2.isList (by rw [l1,l2];exact bne_iff_ne.mpr hl) (by omega)
    rw [decide_eq_false fun z=>hl (by rw [z])] at q
    exact key X.prog X.w _ _ ⟨.bl _,H,I,rfl,q⟩
theorem op_neLIK {X:Cx} (K:PySem.W.Frag) (hu:X.A.units+64 < cLine) (hK:X.K=K:=by rfl):OpR X (compareOp .NotEq) (rNeLI K):=by subst hK;exact op_neLI hu
end L2
namespace Lw
open PySem L2
abbrev tx (w:List Nat):V:=.str ⟨w.toArray⟩
abbrev Rule:=Nat × List Nat
structure Good (first:List Nat) (rs:List Rule):Prop where
  few:rs.length≤8
  rise:(rs.map (·.1)).Pairwise (· < ·)
  abc:∀ q∈rs,97≤q.1∧q.1≤122
  wl:∀ q∈rs,q.2.length≤6
  win:∀ q∈rs,∀ c∈q.2,c∈rs.map (·.1)
  fl:first.length≤12
  fin:∀ c∈first,c∈rs.map (·.1)
inductive RulesAt (H:Hp):List Addr→List Rule→Prop where
  | nil:RulesAt H [] []
  | cons {p:Addr} {ps:List Addr} {c:Nat} {w:List Nat} {rs:List Rule}:H p=some (.tup [sign c,tx w])→RulesAt H ps rs→RulesAt H (p :: ps) ((c,w) :: rs)
structure BookAt (H:Hp) (t:Addr) (first:List Nat) (rs:List Rule):Prop where
  ex:∃ r ps,H t=some (.tup [tx first,.ref r])∧H r=some (.tup (ps.map V.ref))∧RulesAt H ps rs
def TupS (H H':Hp):Prop:=∀ c xs,H c=some (.tup xs)→H' c=some (.tup xs)
theorem TupS.refl (H:Hp):TupS H H:=fun _ _ h=>h
theorem TupS.trans {H H1 H2:Hp} (a:TupS H H1) (b:TupS H1 H2):TupS H H2:=fun c xs h=>b c xs (a c xs h)
theorem TupS.same {H H':Hp} (s:Same H H'):TupS H H':=fun c xs h=>s c _ h
theorem RulesAt.mono {H H':Hp} (s:TupS H H'):∀ {ps:List Addr} {rs:List Rule},RulesAt H ps rs→RulesAt H' ps rs
  | _,_,.nil=>.nil
  | _,_,.cons h r=>.cons (s _ _ h) (r.mono s)
theorem BookAt.mono {H H':Hp} {t:Addr} {first:List Nat} {rs:List Rule} (s:TupS H H') (b:BookAt H t first rs):BookAt H' t first rs:=by
  obtain ⟨r,ps,h1,h2,h3⟩:=b.ex
  exact ⟨r,ps,s _ _ h1,s _ _ h2,h3.mono s⟩
theorem RulesAt.len {H:Hp}:∀ {ps:List Addr} {rs:List Rule},RulesAt H ps rs→ps.length=rs.length
  | _,_,.nil=>rfl
  | _,_,.cons _ r=>congrArg (· + 1) r.len
theorem RulesAt.get {H:Hp}:∀ {ps:List Addr} {rs:List Rule} {i:Nat} {p:Addr},RulesAt H ps rs→ps[i]? = some p→∃ c w,rs[i]? = some (c,w)∧H p=some (.tup [sign c,tx w])
  | _,_,i,p,.nil,e=>by cases i <;> cases e
  | _,_,0,p,.cons (c:=c) (w:=w) h r,e=>by
    have e':=Option.some.inj e
    subst e'
    exact ⟨c,w,rfl,h⟩
  | _,_,i+1,p,.cons h r,e=>r.get (i:=i) e
theorem Same.add {H:Hp} {l:Addr} {o:HO} (h:H l=none):Same H (upd H l o):=fun b u e=>by rw [upd_ne (ne_of_none e h)];exact e
theorem take_snoc {α β:Type} {xs:List α} {i:Nat} {x:α} (f:α→β) (h:xs[i]? = some x):(xs.take (i+1)).map f=(xs.take i).map f++[f x]:=by
  rw [List.take_add_one,h,List.map_append]
  rfl
theorem take_all {α:Type} (xs:List α):xs.take xs.length=xs:=List.take_length
end Lw
namespace Lw
open PySem L2
theorem join_go:∀ (r:List Str) (acc:Array Nat),r.foldl (fun acc p=>acc++(#[]:Array Nat)++p.cps) acc=acc++((r.map fun p=>p.cps.toList).flatten).toArray
  | [],acc=>by simp
  | p :: r,acc=>by
    rw [List.foldl_cons,join_go r]
    apply Array.ext'
    simp
theorem join_eq (ss:List Str):Txt.join ⟨#[]⟩ ss=⟨((ss.map fun p=>p.cps.toList).flatten).toArray⟩:=by
  unfold Txt.join Builtin.Str.glued
  cases ss with
  | nil=>rfl
  | cons a r =>
    show (⟨r.foldl (fun acc p=>acc++(#[]:Array Nat)++p.cps) a.cps⟩:Str)=_
    rw [join_go]
    congr 1
    apply Array.ext'
    simp
theorem join_signs (cs:List Nat):Txt.join ⟨#[]⟩ (cs.map fun c=>(⟨#[c]⟩:Str))=⟨cs.toArray⟩:=by
  rw [join_eq]
  congr 2
  induction cs with
  | nil=>rfl
  | cons c r ih =>
    simp only [List.map_cons,List.flatten_cons]
    rw [ih]
    rfl
theorem sum_ones (cs:List Nat):((cs.map fun c=>(⟨#[c]⟩:Str)).map (·.length)).sum=cs.length:=by
  induction cs with
  | nil=>rfl
  | cons c r ih =>
    simp only [List.map_cons,List.sum_cons,List.length_cons]
    rw [ih]
    show 1+r.length=r.length+1
    omega
theorem count_go (x:Str) (c:Nat):∀ (n a:Nat) (st:Array Nat × Nat),st.2≤a→st.1.size≤a→a+n≤x.length+1 →
    (forIn (List.range' a n) st (StrLaws.occBody x ⟨#[c]⟩ x.length (x.length+1))).run.fst.size=st.1.size+((x.cps.toList.drop a).take n).count c
  | 0,a,st,_,_,_=>by
    show st.1.size=_
    simp
  | n+1,a,st,h1,h2,h3=>by
    rw [List.range'_succ,List.forIn_cons]
    have one:=StrLaws.subAt_one x c a
    unfold StrLaws.occBody
    by_cases hc:x.cps.toList[a]? = some c
    · have hs:=one.mpr hc
      have hcond:(((st.fst.size < x.length+1∧st.snd≤a)∧a+(⟨#[c]⟩:Str).length≤x.length)∧Builtin.Str.subAt x ⟨#[c]⟩ a=true):=⟨⟨⟨by omega,h1⟩,hs.1⟩,hs.2⟩
      rw [if_pos hcond]
      show (forIn (List.range' (a+1) n) (st.1.push a,a+1) (StrLaws.occBody x ⟨#[c]⟩ x.length (x.length+1))).run.fst.size=_
      rw [count_go x c n (a+1) (st.1.push a,a+1) (Nat.le_refl _) (by simp only [Array.size_push];omega) (by omega)]
      obtain ⟨hlt,he⟩:=List.getElem?_eq_some_iff.mp hc
      rw [List.drop_eq_getElem_cons hlt,List.take_succ_cons,he,List.count_cons_self]
      simp only [Array.size_push]
      omega
    · have hcond:¬ (((st.fst.size < x.length+1∧st.snd≤a)∧a+(⟨#[c]⟩:Str).length≤x.length)∧Builtin.Str.subAt x ⟨#[c]⟩ a=true):=fun z=>hc (one.mp ⟨z.1.2,z.2⟩)
      rw [if_neg hcond]
      show (forIn (List.range' (a+1) n) (st.1,st.2) (StrLaws.occBody x ⟨#[c]⟩ x.length (x.length+1))).run.fst.size=_
      rw [count_go x c n (a+1) (st.1,st.2) (by show st.2≤a+1;omega) (by show st.1.size≤a+1;omega) (by omega)]
      by_cases hlt:a < x.cps.toList.length
      · rw [List.drop_eq_getElem_cons hlt,List.take_succ_cons,List.count_cons_of_ne]
        intro z
        exact hc (by rw [List.getElem?_eq_getElem hlt,z])
      · rw [List.drop_eq_nil_of_le (by omega),List.drop_eq_nil_of_le (by omega)]
        simp
theorem count_one (w:List Nat) (c:Nat):Txt.count ⟨w.toArray⟩ ⟨#[c]⟩=(w.count c:Nat):=by
  unfold Txt.count
  rw [StrLaws.occ_eq,Array.length_toList]
  have e:=count_go ⟨w.toArray⟩ c ((⟨w.toArray⟩:Str).length+1 - 0) 0 (#[],0) (Nat.le_refl _) (Nat.le_refl _) (by omega)
  rw [e]
  simp only [Array.size_empty,Nat.zero_add,List.drop_zero,Nat.sub_zero]
  rw [List.take_of_length_le (by show w.length≤w.toArray.size+1;simp)]
end Lw
namespace Lw
open PySem L2
structure RowsAt (H0 H:Hp) (ls:List Addr) (vs:List (List V)):Prop where
  len:ls.length=vs.length
  at_:∀ (i:Nat) a v,ls[i]? = some a→vs[i]? = some v→H a=some (.lst v)
  new:∀ a∈ls,H0 a=none
  nd:ls.Nodup
theorem RowsAt.nil {H0 H:Hp}:RowsAt H0 H [] []:=⟨rfl,(fun i a v e _=>by simp at e),(fun a h=>by simp at h),List.nodup_nil⟩
theorem RowsAt.mono {H0 H H':Hp} {ls:List Addr} {vs:List (List V)} (r:RowsAt H0 H ls vs) (s:Same H H'):RowsAt H0 H' ls vs:=⟨r.len,fun i a v e1 e2=>s _ _ (r.at_ i a v e1 e2),r.new,r.nd⟩
theorem RowsAt.there {H0 H:Hp} {ls:List Addr} {vs:List (List V)} (r:RowsAt H0 H ls vs) {a:Addr} (h:a∈ls):∃ v,H a=some (.lst v)∧v∈vs:=by
  obtain ⟨i,e⟩:=List.mem_iff_getElem?.mp h
  have hi:i < vs.length:=by rw [← r.len];exact (List.getElem?_eq_some_iff.mp e).1
  exact ⟨vs[i],r.at_ i a _ e (by simp [hi]),List.getElem_mem hi⟩
theorem RowsAt.snoc {H0 H H':Hp} {ls:List Addr} {vs:List (List V)} {a:Addr} {v:List V} (r:RowsAt H0 H ls vs) (s:Same H H') (h0:H0 a=none) (h1:H a=none) (h2:H' a=some (.lst v)):RowsAt H0 H' (ls++[a]) (vs++[v]):=by
  have na:a ∉ ls:=fun h=>by
    obtain ⟨w,e,_⟩:=r.there h
    rw [h1] at e;cases e
  refine ⟨by rw [List.length_append,List.length_append,r.len];rfl,fun i b u e1 e2=>?_,fun b hb=>?_,?_⟩
  · by_cases hi:i < ls.length
    · rw [List.getElem?_append_left hi] at e1
      rw [List.getElem?_append_left (by rw [← r.len];exact hi)] at e2
      exact s _ _ (r.at_ i b u e1 e2)
    · rw [List.getElem?_append_right (by omega)] at e1
      rw [List.getElem?_append_right (by rw [← r.len];omega),← r.len] at e2
      cases z:i - ls.length with
      | zero =>
        rw [z] at e1 e2
        cases e1
        cases e2
        exact h2
      | succ n=>rw [z] at e1;cases e1
  · rcases List.mem_append.mp hb with z | z
    · exact r.new b z
    · have z:b=a:=by simpa using z
      rw [z];exact h0
  · exact L2.nd_snoc r.nd na
structure TabAt (H0 H:Hp) (l:Addr) (ls:List Addr) (vs:List (List V)):Prop where
  top:H l=some (.lst (ls.map V.ref))
  rows:RowsAt H0 H ls vs
  new:H0 l=none
  out:l ∉ ls
theorem TabAt.mono {H0 H H':Hp} {l:Addr} {ls:List Addr} {vs:List (List V)} (t:TabAt H0 H l ls vs) (s:Same H H'):TabAt H0 H' l ls vs:=⟨s _ _ t.top,t.rows.mono s,t.new,t.out⟩
theorem TabAt.elder {H00 H0 H:Hp} {l:Addr} {ls:List Addr} {vs:List (List V)} (t:TabAt H0 H l ls vs) (s:Same H00 H0):TabAt H00 H l ls vs:=⟨t.top,⟨t.rows.len,t.rows.at_,fun a h=>s.free (t.rows.new a h),t.rows.nd⟩,s.free t.new,t.out⟩
end Lw
namespace Lw
open PySem PySem.Spec L2 PyProof.Rows
abbrev one (c:Nat):Str:=⟨#[c]⟩
theorem rising_le:∀ (a:Nat) (r:List Nat),risingS (one a) (r.map one)=true→(a :: r).Pairwise (·≤·)
  | a,[],_=>by simp
  | a,b :: r,h=>by
    have h':(!ltCps (one b).cps.toList (one a).cps.toList && risingS (one b) (r.map one))=true:=h
    obtain ⟨h1,h2⟩:=Bool.and_eq_true_iff.mp h'
    have ih:=rising_le b r h2
    have hab:a≤b:=by
      have h3:(decide (b < a) || (b == a && false))=false:=by
        have:ltCps [b] [a]=false:=by simpa using h1
        exact this
      have:=(Bool.or_eq_false_iff.mp h3).1
      have:=of_decide_eq_false this
      omega
    refine List.pairwise_cons.mpr ⟨fun x hx=>?_,ih⟩
    rcases List.mem_cons.mp hx with e | hx
    · rw [e];exact hab
    · exact Nat.le_trans hab ((List.pairwise_cons.mp ih).1 x hx)
theorem sorted_lt {cs:List Nat} (h:sortedS (cs.map one)=true) (nd:cs.Nodup):cs.Pairwise (· < ·):=by
  have h1:cs.Pairwise (·≤·):=by
    cases cs with
    | nil=>exact List.Pairwise.nil
    | cons a r=>exact rising_le a r h
  exact (h1.and nd).imp fun ⟨a,b⟩=>Nat.lt_of_le_of_ne a b
theorem perm_ones {cs:List Nat} {ss:List Str} (h:ss.Perm (cs.map one)):∃ cs':List Nat,cs'.Perm cs∧ss=cs'.map one:=by
  refine ⟨ss.map fun z=>z.cps.getD 0 0,?_,?_⟩
  · have:=h.map fun z:Str=>z.cps.getD 0 0
    rw [List.map_map] at this
    have e:(fun z:Str=>z.cps.getD 0 0) ∘ one=id:=by funext c;rfl
    rw [e,List.map_id] at this
    exact this
  · rw [List.map_map]
    conv=>lhs;rw [← List.map_id ss]
    refine List.map_congr_left fun z hz=>?_
    obtain ⟨c,_,rfl⟩:=List.mem_map.mp (h.mem_iff.mp hz)
    rfl
end Lw
namespace Lw
open PySem L2
theorem RulesAt.snoc {H:Hp} {p:Addr} {c:Nat} {w:List Nat} (h:H p=some (.tup [sign c,tx w])):∀ {ps:List Addr} {rs:List Rule},RulesAt H ps rs→RulesAt H (ps++[p]) (rs++[(c,w)])
  | _,_,.nil=>.cons h .nil
  | _,_,.cons h1 r=>.cons h1 (r.snoc h)
theorem one_inj {a b:Nat} (h:one a=one b):a=b:=by
  have:=congrArg (fun z:Str=>z.cps.getD 0 0) h
  exact this
end Lw
namespace Lw
def dot (xs ys:List Int):Int:=(List.zipWith (· * ·) xs ys).sum
theorem dot_cons (x y:Int) (xs ys:List Int):dot (x :: xs) (y :: ys)=x * y+dot xs ys:=by
  unfold dot
  rw [List.zipWith_cons_cons,List.sum_cons]
theorem dot_nil_l (ys:List Int):dot [] ys=0:=by unfold dot;simp
theorem dot_nil_r (xs:List Int):dot xs []=0:=by unfold dot;simp
def colAt (T:List (List Int)) (j:Nat):List Int:=T.map fun r=>r.getD j 0
def stepC (k:Nat) (T:List (List Int)) (c:List Int):List Int:=(List.range k).map fun j=>dot c (colAt T j)
def stepL (T:List (List Int)) (l:List Int):List Int:=T.map fun r=>dot r l
def cntN (k:Nat) (T:List (List Int)) (c:List Int):Nat→List Int
  | 0=>c
  | n+1=>stepC k T (cntN k T c n)
def lenN (k:Nat) (T:List (List Int)):Nat→List Int
  | 0=>List.replicate k 1
  | n+1=>stepL T (lenN k T n)
theorem dot_lin {α:Type} (x:Int) (f g:α→Int):∀ (L:List α) (l:List Int),dot (L.map fun j=>x * f j+g j) l=x * dot (L.map f) l+dot (L.map g) l
  | [],l=>by simp [dot_nil_l]
  | a :: L,[]=>by rw [dot_nil_r,dot_nil_r,dot_nil_r];omega
  | a :: L,y :: l=>by
    rw [List.map_cons,List.map_cons,List.map_cons,dot_cons,dot_cons,dot_cons,dot_lin x f g L l,Int.add_mul,Int.mul_add,Int.mul_assoc]
    omega
theorem dot_zero {α:Type}:∀ (L:List α) (l:List Int),dot (L.map fun _=>0) l=0
  | [],l=>dot_nil_l _
  | a :: L,[]=>dot_nil_r _
  | a :: L,y :: l=>by
    rw [List.map_cons,dot_cons,dot_zero L l]
    omega
theorem range_getD {r:List Int} {k:Nat} (h:r.length=k):(List.range k).map (fun j=>r.getD j 0)=r:=by
  subst h
  refine List.ext_getElem (by simp) fun i h1 h2=>?_
  simp [List.getElem_map]
  rw [List.getElem?_eq_getElem h2]
  rfl
theorem dot_exch (k:Nat) (l:List Int):∀ (T:List (List Int)) (c:List Int),(∀ r∈T,r.length=k)→c.length=T.length→dot c (stepL T l)=dot (stepC k T c) l
  | [],c,_,_=>by
    show dot c []=dot ((List.range k).map fun j=>dot c []) l
    simp only [dot_nil_r]
    rw [dot_zero]
  | r :: T,[],_,hc=>by cases hc
  | r :: T,x :: c,hT,hc=>by
    have ih:=dot_exch k l T c (fun r hr=>hT r (List.mem_cons_of_mem _ hr)) (Nat.succ.inj hc)
    show dot (x :: c) (dot r l :: stepL T l)=dot ((List.range k).map fun j=>dot (x :: c) (r.getD j 0 :: colAt T j)) l
    rw [dot_cons,ih]
    simp only [dot_cons]
    rw [dot_lin x (fun j=>r.getD j 0) (fun j=>dot c (colAt T j)),range_getD (hT r List.mem_cons_self)]
    rfl
theorem dot_ones:∀ c:List Int,dot c (List.replicate c.length 1)=c.sum
  | []=>rfl
  | x :: c=>by
    rw [List.length_cons,List.replicate_succ,dot_cons,dot_ones c,List.sum_cons]
    omega
theorem stepC_len (k:Nat) (T:List (List Int)) (c:List Int):(stepC k T c).length=k:=by unfold stepC;simp
theorem cntN_len {k:Nat} {T:List (List Int)} {c:List Int} (h:c.length=k):∀ n,(cntN k T c n).length=k
  | 0=>h
  | n+1=>stepC_len _ _ _
theorem parted {k:Nat} {T:List (List Int)} (hT:∀ r∈T,r.length=k) (hk:T.length=k):∀ (m a:Nat) (c:List Int),c.length=k→(cntN k T c (a+m)).sum=dot (cntN k T c a) (lenN k T m)
  | 0,a,c,hc=>by
    rw [Nat.add_zero]
    have:=dot_ones (cntN k T c a)
    rw [cntN_len hc] at this
    exact this.symm
  | m+1,a,c,hc=>by
    show _=dot (cntN k T c a) (stepL T (lenN k T m))
    rw [dot_exch k _ T _ hT (by rw [cntN_len hc,hk])]
    have ih:=parted hT hk m (a+1) c hc
    rw [show a+(m+1)=a+1+m by omega,ih]
    rfl
def Bd (e:Nat) (c:List Int):Prop:=∀ x∈c,0≤x∧x < 2 ^ e
def Sm (c:List Int):Prop:=∀ x∈c,0≤x∧x≤6
theorem dot_bd {e:Nat}:∀ (c d:List Int),Bd e c→Sm d→0≤dot c d∧dot c d≤(c.length:Int) * (6 * 2 ^ e)
  | [],d,_,_=>by rw [dot_nil_l];simp
  | x :: c,[],_,_=>by
    rw [dot_nil_r]
    refine ⟨Int.le_refl _,Int.mul_nonneg (Int.natCast_nonneg _) (Int.mul_nonneg (by decide) ?_)⟩
    exact Int.le_of_lt (Int.pow_pos (by decide))
  | x :: c,y :: d,hc,hd=>by
    obtain ⟨h1,h2⟩:=dot_bd c d (fun z hz=>hc z (List.mem_cons_of_mem _ hz)) (fun z hz=>hd z (List.mem_cons_of_mem _ hz))
    obtain ⟨a1,a2⟩:=hc x List.mem_cons_self
    obtain ⟨b1,b2⟩:=hd y List.mem_cons_self
    have m1:0≤x * y:=Int.mul_nonneg a1 b1
    have m2:x * y≤2 ^ e * 6:=Int.mul_le_mul (Int.le_of_lt a2) b2 b1 (Int.le_of_lt (Int.pow_pos (by decide)))
    rw [dot_cons,List.length_cons]
    generalize (2:Int) ^ e=E at *
    refine ⟨by omega,?_⟩
    have:((c.length+1:Nat):Int) * (6 * E)=(c.length:Int) * (6 * E)+6 * E:=by
      rw [Int.natCast_add,Int.add_mul]
      simp
    rw [this]
    omega
theorem dot_bd8 {e:Nat} {c d:List Int} (hc:Bd e c) (hd:Sm d) (hl:c.length≤8):0≤dot c d∧dot c d < 2 ^ (e+6):=by
  obtain ⟨h1,h2⟩:=dot_bd c d hc hd
  refine ⟨h1,?_⟩
  have hp:(0:Int) < 2 ^ e:=Int.pow_pos (by decide)
  rw [Int.pow_add]
  generalize (2:Int) ^ e=E at *
  have h3:(c.length:Int) * (6 * E)≤8 * (6 * E):=Int.mul_le_mul_of_nonneg_right (by omega) (by omega)
  have h4:E * 2 ^ 6=64 * E:=by rw [Int.mul_comm];rfl
  rw [h4]
  omega
theorem cntN_bd {k e:Nat} {T:List (List Int)} {c:List Int} (hk:k≤8) (hT:∀ j,Sm (colAt T j)) (hl:c.length=k) (hc:Bd e c):∀ n,Bd (e+6 * n) (cntN k T c n)
  | 0=>hc
  | n+1=>fun x hx=>by
    unfold cntN stepC at hx
    obtain ⟨j,_,rfl⟩:=List.mem_map.mp hx
    exact dot_bd8 (cntN_bd hk hT hl hc n) (hT j) (by rw [cntN_len hl];exact hk)
theorem col_sm {T:List (List Int)} (hT:∀ r∈T,Sm r) (j:Nat):Sm (colAt T j):=fun x hx=>by
  unfold colAt at hx
  obtain ⟨r,hr,rfl⟩:=List.mem_map.mp hx
  rw [List.getD_eq_getElem?_getD]
  cases e:r[j]? with
  | none=>simp
  | some y=>exact hT r hr y (List.mem_of_getElem? e)
end Lw
namespace Lw
open PySem L2
theorem bits_abs {k:Int} {n:Nat} (h:k.natAbs < 2 ^ n):Builtin.Int.intBits k≤n:=by
  unfold Builtin.Int.intBits
  split
  · exact Nat.zero_le _
  · rename_i hz
    have h0:k.natAbs≠0:=by
      intro e
      apply hz
      simpa using Int.natAbs_eq_zero.mp e
    have:=(Nat.log2_lt h0).mpr h
    omega
def Bz (e:Nat) (c:List Int):Prop:=∀ x∈c,x.natAbs < 2 ^ e
theorem Bd.z {e:Nat} {c:List Int} (h:Bd e c):Bz e c:=fun x hx=>by
  obtain ⟨h1,h2⟩:=h x hx
  have h3:((x.natAbs:Nat):Int)=x:=Int.natAbs_of_nonneg h1
  have h4:((2 ^ e:Nat):Int)=(2:Int) ^ e:=by push_cast;rfl
  rw [← h3,← h4] at h2
  exact Int.ofNat_lt.mp h2
theorem Sm.bd {c:List Int} (h:Sm c):Bd 3 c:=fun x hx=>by
  have:=h x hx
  have e:(2:Int) ^ 3=8:=by decide
  rw [e]
  omega
structure TabV (H:Hp) (l:Addr) (ls:List Addr) (vs:List (List Int)):Prop where
  top:H l=some (.lst (ls.map V.ref))
  len:ls.length=vs.length
  at_:∀ (i:Nat) a v,ls[i]? = some a→vs[i]? = some v→H a=some (.lst (v.map V.int))
theorem TabV.mono {H H':Hp} {l:Addr} {ls:List Addr} {vs:List (List Int)} (t:TabV H l ls vs) (s:Same H H'):TabV H' l ls vs:=⟨s _ _ t.top,t.len,fun i a v e1 e2=>s _ _ (t.at_ i a v e1 e2)⟩
theorem TabV.get {H:Hp} {l:Addr} {ls:List Addr} {vs:List (List Int)} (t:TabV H l ls vs) {i:Nat} {v:List Int} (e:vs[i]? = some v):∃ a,ls[i]? = some a∧H a=some (.lst (v.map V.int)):=by
  have hi:i < ls.length:=by rw [t.len];exact (List.getElem?_eq_some_iff.mp e).1
  exact ⟨ls[i],List.getElem?_eq_getElem hi,t.at_ i _ v (List.getElem?_eq_getElem hi) e⟩
theorem TabV.get' {H:Hp} {l:Addr} {ls:List Addr} {vs:List (List Int)} (t:TabV H l ls vs) {i:Nat} {a:Addr} (e:ls[i]? = some a):∃ v,vs[i]? = some v∧H a=some (.lst (v.map V.int)):=by
  have hi:i < vs.length:=by rw [← t.len];exact (List.getElem?_eq_some_iff.mp e).1
  exact ⟨vs[i],List.getElem?_eq_getElem hi,t.at_ i _ _ e (List.getElem?_eq_getElem hi)⟩
def tabI (rs:List Rule):List (List Int):=rs.map fun q=>rs.map fun q'=>((q.2.count q'.1:Nat):Int)
def c0 (rs:List Rule) (w:List Nat):List Int:=rs.map fun q=>((w.count q.1:Nat):Int)
theorem tabI_len (rs:List Rule):(tabI rs).length=rs.length:=by unfold tabI;rw [List.length_map]
theorem c0_len (rs:List Rule) (f:List Nat):(c0 rs f).length=rs.length:=by unfold c0;rw [List.length_map]
theorem tabI_row {rs:List Rule} {r:List Int} (h:r∈tabI rs):r.length=rs.length:=by
  unfold tabI at h
  obtain ⟨q,_,rfl⟩:=List.mem_map.mp h
  rw [List.length_map]
theorem tabI_sm {first:List Nat} {rs:List Rule} (hG:Good first rs) {r:List Int} (h:r∈tabI rs):Sm r:=fun x hx=>by
  unfold tabI at h
  obtain ⟨q,hq,rfl⟩:=List.mem_map.mp h
  obtain ⟨q',_,rfl⟩:=List.mem_map.mp hx
  have h1:=hG.wl q hq
  have h2:q.2.count q'.1≤q.2.length:=List.count_le_length
  omega
theorem c0_bd {first:List Nat} {rs:List Rule} (hG:Good first rs):Bd 4 (c0 rs first):=fun x hx=>by
  unfold c0 at hx
  obtain ⟨q,_,rfl⟩:=List.mem_map.mp hx
  have h2:first.count q.1≤first.length:=List.count_le_length
  have:=hG.fl
  have h3:(2:Int) ^ 4=16:=by decide
  rw [h3]
  omega
theorem rng_take {k i:Nat} {α:Type} (f:Nat→α) (h:i < k):((List.range k).take (i+1)).map f=((List.range k).take i).map f++[f i]:=take_snoc f (List.getElem?_range h)
theorem rng_at {n i:Nat} {x:V} (h:(rngV 0 n)[i]? = some x):i < n∧x=.int (i:Int):=by
  have h1:i < n:=by
    have:=(List.getElem?_eq_some_iff.mp h).1
    rwa [rngV_length] at this
  refine ⟨h1,?_⟩
  unfold rngV at h
  rw [List.getElem?_map,List.getElem?_range h1] at h
  have:=(Option.some.inj h).symm
  rw [this]
  show V.int (0+(i:Int))=_
  rw [Int.zero_add]
theorem take_rng (k:Nat):(List.range k).take k=List.range k:=by
  have:=take_all (List.range k)
  rwa [List.length_range] at this
def lk:List Nat→List Int→Nat→Int
  | c :: cs,n :: ns,x=>if c=x then n else lk cs ns x
  | _,_,_=>0
theorem lk_cons_sum (c:Nat) (n:Int) (cs:List Nat) (ns:List Int) (hc:c ∉ cs):∀ w:List Nat,(w.map (lk (c :: cs) (n :: ns))).sum=(w.count c:Nat) * n+(w.map (lk cs ns)).sum - (w.count c:Nat) * lk cs ns c
  | []=>by simp
  | x :: w=>by
    have ih:=lk_cons_sum c n cs ns hc w
    rw [List.map_cons,List.map_cons,List.sum_cons,List.sum_cons,ih]
    by_cases e:c=x
    · subst e
      rw [List.count_cons_self]
      have:lk (c :: cs) (n :: ns) c=n:=by unfold lk;rw [if_pos rfl]
      rw [this]
      push_cast
      rw [Int.add_mul,Int.add_mul]
      omega
    · rw [List.count_cons_of_ne (by simpa using fun z:x=c=>e z.symm)]
      have:lk (c :: cs) (n :: ns) x=lk cs ns x:=by
        show (if c=x then n else lk cs ns x)=_
        rw [if_neg e]
      rw [this]
      omega
theorem lk_out:∀ {cs:List Nat} {ns:List Int} {c:Nat},c ∉ cs→lk cs ns c=0
  | [],_,_,_=>by unfold lk;rfl
  | _ :: _,[],_,_=>by unfold lk;rfl
  | a :: cs,n :: ns,c,h=>by
    unfold lk
    rw [if_neg fun z=>h (by rw [z];exact List.mem_cons_self)]
    exact lk_out fun z=>h (List.mem_cons_of_mem _ z)
theorem lk_sum:∀ {cs:List Nat} {ns:List Int} (w:List Nat),cs.Nodup→ns.length=cs.length→(w.map (lk cs ns)).sum=dot (cs.map fun c=>((w.count c:Nat):Int)) ns
  | [],[],w,_,_=>by
    rw [dot_nil_r]
    induction w with
    | nil=>rfl
    | cons x w ih =>
      rw [List.map_cons,List.sum_cons,ih]
      unfold lk
      rfl
  | c :: cs,n :: ns,w,nd,hl=>by
    rw [lk_cons_sum c n cs ns (List.nodup_cons.mp nd).1 w,List.map_cons,dot_cons,lk_sum w (List.nodup_cons.mp nd).2 (Nat.succ.inj hl),lk_out (List.nodup_cons.mp nd).1]
    omega
  | [],_ :: _,_,_,h=>by cases h
  | _ :: _,[],_,_,h=>by cases h
def ltr (rs:List Rule):List Nat:=rs.map (·.1)
theorem Good.nd {first:List Nat} {rs:List Rule} (h:Good first rs):(ltr rs).Nodup:=h.rise.imp fun a=>Nat.ne_of_lt a
theorem c0_eq (rs:List Rule) (w:List Nat):c0 rs w=(ltr rs).map fun c=>((w.count c:Nat):Int):=by unfold c0 ltr;rw [List.map_map];rfl
end Lw
namespace Lw
open PySem L2
theorem atI_last {α:Type} {xs:List α} {j:Nat} {v:α} (hl:xs.length=j+1) (h:xs[j]? = some v):atI xs (-1)=some v:=by
  unfold atI ixN
  rw [if_neg (by omega),if_pos (by omega)]
  have:(-1+(xs.length:Int)).toNat=j:=by omega
  rw [this]
  exact h
theorem cut_take (xs:List V) (m:Nat):cutV xs none (some (m:Int))=xs.take m:=by
  unfold cutV HT.sIx
  rw [List.drop_zero]
  simp only [Nat.sub_zero]
  by_cases h:m≤xs.length
  · congr 1
    first | (split <;> omega) | omega | simp [h] <;> omega
  · rw [List.take_of_length_le (l:=xs) (i:=m) (by omega)]
    refine List.take_of_length_le ?_
    first | (split <;> omega) | omega
theorem TabV.snoc {H H':Hp} {l d:Addr} {ls:List Addr} {vs:List (List Int)} {v:List Int} (t:TabV H l ls vs) (s:∀ a∈ls,∀ o,H a=some o→H' a=some o) (h1:H' l=some (.lst (ls.map V.ref++[V.ref d]))) (h2:H' d=some (.lst (v.map V.int))):TabV H' l (ls++[d]) (vs++[v]):=by
  refine ⟨by rw [h1,List.map_append];rfl,by rw [List.length_append,List.length_append,t.len];rfl,fun i a u e1 e2=>?_⟩
  by_cases hi:i < ls.length
  · rw [List.getElem?_append_left hi] at e1
    rw [List.getElem?_append_left (by rw [← t.len];exact hi)] at e2
    exact s a (List.mem_of_getElem? e1) _ (t.at_ i a u e1 e2)
  · rw [List.getElem?_append_right (by omega)] at e1
    rw [List.getElem?_append_right (by rw [← t.len];omega),← t.len] at e2
    cases z:i - ls.length with
    | zero =>
      rw [z] at e1 e2
      cases e1
      cases e2
      exact h2
    | succ n=>rw [z] at e1;cases e1
theorem TabV.take {H H':Hp} {l d:Addr} {ls:List Addr} {vs:List (List Int)} (m:Nat) (t:TabV H l ls vs) (s:Same H H') (h:H' d=some (.lst ((ls.map V.ref).take m))):TabV H' d (ls.take m) (vs.take m):=by
  refine ⟨by rw [h,List.map_take],by rw [List.length_take,List.length_take,t.len],fun i a u e1 e2=>?_⟩
  rw [List.getElem?_take] at e1 e2
  split at e1
  · rename_i hi
    rw [if_pos hi] at e2
    exact s _ _ (t.at_ i a u e1 e2)
  · cases e1
theorem upd_in {H:Hp} {l:Addr} {o:HO} {c:Addr} {u:HO} (h:H c=some u) (n:c≠l):upd H l o c=some u:=by rw [upd_ne n];exact h
end Lw
namespace Lw
theorem step_cols (k:Nat) (T:List (List Int)) (c:List Int):((List.range k).map fun j=>colAt T j).map (fun r=>dot c r)=stepC k T c:=by rw [List.map_map];rfl
end Lw
namespace Lw
open PySem
end Lw
namespace Lw
open PySem L2
end Lw
namespace Lw
open PySem L2
def wd:List Rule→Nat→List Nat
  | [],_=>[]
  | q :: rs,c=>if q.1=c then q.2 else wd rs c
def nxt (rs:List Rule) (x:List Nat):List Nat:=(x.map (wd rs)).flatten
def rowN (rs:List Rule) (x:List Nat):Nat→List Nat
  | 0=>x
  | n+1=>nxt rs (rowN rs x n)
theorem wd_mem:∀ {rs:List Rule} {c:Nat},c∈ltr rs→∃ q∈rs,q.1=c∧wd rs c=q.2
  | [],c,h=>by simp [ltr] at h
  | q :: rs,c,h=>by
    by_cases e:q.1=c
    · exact ⟨q,List.mem_cons_self,e,by unfold wd;rw [if_pos e]⟩
    · have h':c∈ltr rs:=by
        rcases List.mem_cons.mp (show c∈q.1 :: ltr rs from h) with z | z
        · exact absurd z.symm e
        · exact z
      obtain ⟨q',a,b,d⟩:=wd_mem h'
      exact ⟨q',List.mem_cons_of_mem _ a,b,by unfold wd;rw [if_neg e];exact d⟩
theorem lk_wd (f:List Nat→Int):∀ {rs:List Rule} {c:Nat},c∈ltr rs→lk (ltr rs) (rs.map fun q=>f q.2) c=f (wd rs c)
  | [],c,h=>by simp [ltr] at h
  | q :: rs,c,h=>by
    show (if q.1=c then f q.2 else lk (ltr rs) (rs.map fun q=>f q.2) c)=f (if q.1=c then q.2 else wd rs c)
    by_cases e:q.1=c
    · rw [if_pos e,if_pos e]
    · have h':c∈ltr rs:=by
        rcases List.mem_cons.mp (show c∈q.1 :: ltr rs from h) with z | z
        · exact absurd z.symm e
        · exact z
      rw [if_neg e,if_neg e]
      exact lk_wd f h'
theorem nxt_in {first:List Nat} {rs:List Rule} (hG:Good first rs) {x:List Nat} (hx:∀ c∈x,c∈ltr rs):∀ c∈nxt rs x,c∈ltr rs:=fun c hc=>by
  unfold nxt at hc
  obtain ⟨l,hl,hc⟩:=List.mem_flatten.mp hc
  obtain ⟨a,ha,rfl⟩:=List.mem_map.mp hl
  obtain ⟨q,hq,_,e⟩:=wd_mem (hx a ha)
  rw [e] at hc
  exact hG.win q hq c hc
theorem rowN_in {first:List Nat} {rs:List Rule} (hG:Good first rs) {x:List Nat} (hx:∀ c∈x,c∈ltr rs):∀ n,∀ c∈rowN rs x n,c∈ltr rs
  | 0=>hx
  | n+1=>nxt_in hG (rowN_in hG hx n)
theorem count_nxt {rs:List Rule} (d:Nat):∀ {x:List Nat},(∀ c∈x,c∈ltr rs)→(((nxt rs x).count d:Nat):Int)=(x.map (lk (ltr rs) (rs.map fun q=>((q.2.count d:Nat):Int)))).sum
  | [],_=>rfl
  | c :: x,h=>by
    have ih:=count_nxt (rs:=rs) d (x:=x) fun c hc=>h c (List.mem_cons_of_mem _ hc)
    have e:nxt rs (c :: x)=wd rs c++nxt rs x:=by unfold nxt;rw [List.map_cons,List.flatten_cons]
    rw [e,List.count_append,List.map_cons,List.sum_cons,← ih,lk_wd (fun w=>((w.count d:Nat):Int)) (h c List.mem_cons_self)]
    push_cast
    rfl
theorem col_tabI (rs:List Rule) {j:Nat} {q:Rule} (h:rs[j]? = some q):colAt (tabI rs) j=rs.map fun p=>((p.2.count q.1:Nat):Int):=by
  unfold colAt tabI
  rw [List.map_map]
  refine List.map_congr_left fun p _=>?_
  show (rs.map fun q'=>((p.2.count q'.1:Nat):Int)).getD j 0=_
  rw [List.getD_eq_getElem?_getD,List.getElem?_map,h]
  rfl
theorem word_sum' {first:List Nat} {rs:List Rule} (hG:Good first rs) (ns:List Int) (hl:ns.length=rs.length) (x:List Nat):(x.map (lk (ltr rs) ns)).sum=dot (c0 rs x) ns:=by
  rw [lk_sum x hG.nd (by rw [hl];unfold ltr;rw [List.length_map]),c0_eq]
theorem c0_nxt {first:List Nat} {rs:List Rule} (hG:Good first rs) {x:List Nat} (hx:∀ c∈x,c∈ltr rs):c0 rs (nxt rs x)=stepC rs.length (tabI rs) (c0 rs x):=by
  refine List.ext_getElem? fun j=>?_
  unfold stepC
  rw [List.getElem?_map]
  by_cases hj:j < rs.length
  · have e:=List.getElem?_eq_getElem hj
    rw [List.getElem?_range hj]
    unfold c0
    rw [List.getElem?_map,e]
    show some (((nxt rs x).count rs[j].1:Nat):Int)=some (dot (c0 rs x) (colAt (tabI rs) j))
    rw [col_tabI rs e,count_nxt _ hx,word_sum' hG _ (by rw [List.length_map])]
  · rw [List.getElem?_eq_none (by rw [c0_len];omega),List.getElem?_eq_none (by rw [List.length_range];omega)]
    rfl
theorem cnt_row {first:List Nat} {rs:List Rule} (hG:Good first rs) {x:List Nat} (hx:∀ c∈x,c∈ltr rs):∀ n,cntN rs.length (tabI rs) (c0 rs x) n=c0 rs (rowN rs x n)
  | 0=>rfl
  | n+1=>by
    show stepC rs.length (tabI rs) (cntN rs.length (tabI rs) (c0 rs x) n)=c0 rs (nxt rs (rowN rs x n))
    rw [cnt_row hG hx n,c0_nxt hG (rowN_in hG hx n)]
theorem lk_ones:∀ {cs:List Nat} {c:Nat},c∈cs→lk cs (List.replicate cs.length 1) c=1
  | [],c,h=>by simp at h
  | a :: cs,c,h=>by
    show (if a=c then (1:Int) else lk cs (List.replicate cs.length 1) c)=1
    by_cases e:a=c
    · rw [if_pos e]
    · rw [if_neg e]
      rcases List.mem_cons.mp h with z | z
      · exact absurd z.symm e
      · exact lk_ones z
theorem c0_sum {first:List Nat} {rs:List Rule} (hG:Good first rs) {x:List Nat} (hx:∀ c∈x,c∈ltr rs):(c0 rs x).sum=(x.length:Int):=by
  have h1:=dot_ones (c0 rs x)
  have ll:(ltr rs).length=rs.length:=by unfold ltr;rw [List.length_map]
  rw [c0_len,← word_sum' hG _ (by rw [List.length_replicate]),← ll] at h1
  rw [← h1]
  clear h1
  induction x with
  | nil=>rfl
  | cons a x ih =>
    rw [List.map_cons,List.sum_cons,lk_ones (hx a List.mem_cons_self),ih fun c hc=>hx c (List.mem_cons_of_mem _ hc)]
    rw [List.length_cons]
    push_cast
    omega
end Lw
namespace Lw
open PySem L2
theorem nxt_app (rs:List Rule) (x y:List Nat):nxt rs (x++y)=nxt rs x++nxt rs y:=by
  unfold nxt
  rw [List.map_append,List.flatten_append]
theorem rowN_app (rs:List Rule) (x y:List Nat):∀ n,rowN rs (x++y) n=rowN rs x n++rowN rs y n
  | 0=>rfl
  | n+1=>by
    show nxt rs (rowN rs (x++y) n)=nxt rs (rowN rs x n)++nxt rs (rowN rs y n)
    rw [rowN_app rs x y n,nxt_app]
theorem rowN_nil (rs:List Rule):∀ n,rowN rs [] n=[]
  | 0=>rfl
  | n+1=>by
    show nxt rs (rowN rs [] n)=[]
    rw [rowN_nil rs n]
    rfl
theorem rowN_cons (rs:List Rule) (c:Nat) (x:List Nat) (n:Nat):rowN rs (c :: x) n=rowN rs [c] n++rowN rs x n:=rowN_app rs [c] x n
theorem rowN_next (rs:List Rule) (x:List Nat):∀ n,rowN rs x (n+1)=rowN rs (nxt rs x) n
  | 0=>rfl
  | n+1=>by
    show nxt rs (rowN rs x (n+1))=nxt rs (rowN rs (nxt rs x) n)
    rw [rowN_next rs x n]
theorem nxt_one (rs:List Rule) (c:Nat):nxt rs [c]=wd rs c:=by
  unfold nxt
  simp
def szN (rs:List Rule) (n c:Nat):Nat:=(rowN rs [c] n).length
theorem szN_row (rs:List Rule) (n:Nat):∀ x:List Nat,(rowN rs x n).length=(x.map (szN rs n)).sum
  | []=>by rw [rowN_nil];rfl
  | c :: x=>by
    rw [rowN_cons,List.length_append,szN_row rs n x,List.map_cons,List.sum_cons]
    rfl
theorem szN_succ (rs:List Rule) (n c:Nat):szN rs (n+1) c=(rowN rs (wd rs c) n).length:=by
  unfold szN
  rw [rowN_next,nxt_one]
def pick (f:Nat→Nat):List Nat→Nat→Nat × Nat
  | [],l=>(0,l)
  | c :: x,l=>if f c≤l then ((pick f x (l - f c)).1+1,(pick f x (l - f c)).2) else (0,l)
end Lw
namespace Lw
open PySem L2
def top (i:Nat):Stmt:=PySem.Challenge.pw_linegrow_k46_settled_lengths.main.body.getD i (.Pass ⟨0,0,0,0⟩)
abbrev sWho:Stmt:=top 5
abbrev sWin:Stmt:=top 6
abbrev sNag:Stmt:=top 7
abbrev sRul:Stmt:=top 9
abbrev sLet:Stmt:=top 10
abbrev sTal:Stmt:=top 12
abbrev sTab:Stmt:=top 13
abbrev sCol:Stmt:=top 14
abbrev sCls:Stmt:=top 15
abbrev sPrs:Stmt:=top 16
abbrev sOao:Stmt:=top 17
abbrev sCou:Stmt:=top 18
abbrev sFcs:Stmt:=top 19
abbrev sLng:Stmt:=top 20
abbrev sFls:Stmt:=top 21
abbrev sSta:Stmt:=top 23
abbrev sSed:Stmt:=top 24
abbrev sPen:Stmt:=top 26
abbrev sTak:Stmt:=top 27
abbrev sMix:Stmt:=top 28
abbrev sTxt:Stmt:=top 29
abbrev sFre:Stmt:=top 30
abbrev sNam:Stmt:=top 31
abbrev sTai:Stmt:=top 32
abbrev sSwl:Stmt:=top 33
abbrev sPai:Stmt:=top 34
abbrev sLgs:Stmt:=top 35
abbrev sRgt:Stmt:=top 36
abbrev sBok:Stmt:=top 37
abbrev sLaw:Stmt:=top 38
end Lw
namespace Lw
open PySem L2
structure Gf (K:PySem.W.Frag) (mg:Str→Option Value) (x:Str) (f:Addr) (fd:FuncData) (ps:List Str):Prop where
  m:mg x=some (.ref f)
  k:PySem.W.keepIn K (.ref f)=true
  b:Binds K fd ps []
section
variable {P:Program} {w:World} {K:PySem.W.Frag} {mg:Str→Option Value} {base:Heap}
def spRul:Sp:=fun vs H Q _=>∃ (r:Addr) (ps:List Addr) (rs:List Rule),vs=[.ref r]∧H r=some (.tup (ps.map V.ref))∧RulesAt H ps rs∧rs.length≤8 ∧
  ∀ l H',Same H H'→H l=none→H' l=some (.lst (rs.map fun q=>sign q.1))→Q (.ref l) H'
theorem nd_rule:(["rule"]:List Str).Nodup:=by decide +kernel
theorem scRul:FnScope ["rules"] ["rules"] (defScope sRul):=⟨rfl,rfl,rfl,by decide +kernel,rfl,by decide +kernel,by decide +kernel⟩
theorem ok_rul {f:Addr} {fd:FuncData} (F:Fun K "ruled_letters" "ruled_letters" sRul f fd):FnOk P w K mg base CX0 1 f fd ["rules"] spRul:=by
  refine F.ok scRul (fun vs H Q E h=>?_) (fun cdv A outer s H vs Q E hr h=>?_)
  · obtain ⟨r,ps,rs,rfl,_⟩:=h
    rfl
  · obtain ⟨r,ps,rs,rfl,hr1,hR,hl,k⟩:=h
    refine ⟨_,pss_one (ps_ret (pe_comp (N':=["rule"]) (ix:=[none]) rfl rfl (pi_tup (pv 0)) (fun _ _ _ _ _ _=>pg_name (i:=0) nd_rule rfl (Or.inl rfl)) (fun _ _ _ _ _ _=>pts_nil)
      (fun _ _ _ _ _ _=>pe_ix (r:=rIxT K) ix_tup (pv 0) pe_int (fun _ _=>rfl)))),?_⟩
    refine ⟨_,rfl,r,rfl,⟨_,SqT.of hr1⟩,comp_all (sure_tup (xs:=ps.map V.ref)) (by rw [List.length_map,hR.len];omega) (fun i ys τ H2=>H2=H∧ys=(rs.take i).map (fun q=>sign q.1)∧∃ v,τ=[v]) ⟨rfl,rfl,_,rfl⟩ ?_ ?_ ?_⟩
    · rintro i ys τ H2 hi ⟨rfl,rfl,_⟩
      exact ⟨SqT.of hr1,by rw [List.length_map,List.length_take];omega⟩
    · rintro i x ys τ H2 hx ⟨rfl,rfl,v,rfl⟩
      rw [List.getElem?_map] at hx
      cases e:ps[i]? with
      | none=>rw [e] at hx;cases hx
      | some p =>
        rw [e] at hx
        cases hx
        obtain ⟨c,w',e1,e2⟩:=hR.get e
        exact ⟨_,rfl,p,_,_,_,rfl,rfl,SqT.of e2,atI_nat (j:=0) rfl,rfl,(take_snoc _ e1).symm,_,rfl⟩
    · rintro ys τ H2 D ⟨rfl,rfl,_⟩ hD
      refine k D _ (Same.add hD) hD ?_
      rw [upd_same,List.length_map,hR.len,take_all]
def spLet:Sp:=fun vs H Q _=>∃ (t:Addr) (first:List Nat) (rs:List Rule),vs=[.ref t]∧BookAt H t first rs∧rs.length≤8∧∀ H',Same H H'→Q (tx (rs.map (·.1))) H'
theorem scLet:FnScope ["book"] ["book"] (defScope sLet):=⟨rfl,rfl,rfl,by decide +kernel,rfl,by decide +kernel,by decide +kernel⟩
theorem ok_let {f f1:Addr} {fd fd1:FuncData} (F:Fun K "letters" "letters" sLet f fd) (G:FnOk P w K mg base CX0 1 f1 fd1 ["rules"] spRul) (g:Gf K mg "ruled_letters" f1 fd1 ["rules"]):FnOk P w K mg base CX0 2 f fd ["book"] spLet:=by
  refine F.ok scLet (fun vs H Q E h=>?_) (fun cdv A outer s H vs Q E hr h=>?_)
  · obtain ⟨t,first,rs,rfl,_⟩:=h
    rfl
  · obtain ⟨t,first,rs,rfl,hB,hl,k⟩:=h
    refine ⟨_,pss_one (ps_ret (pe_bm PySem.F.plainAttrs_str PySem.F.slot_str_join PySem.F.type_str_join mt_join pe_str (pa_cons (pe_call G hr rfl g.m g.k g.b .nil pass0 (pa_cons (pe_ix ix_tup (pv 0) pe_int (fun _ _=>rfl)) pa_nil)) pa_nil))),?_⟩
    obtain ⟨r,ps,h1,h2,h3⟩:=hB.ex
    refine ⟨rfl,_,rfl,t,_,_,_,rfl,rfl,SqT.of h1,atI_nat (j:=1) rfl,r,ps,rs,rfl,h2,h3,hl,fun l H' s1 hl1 hl2=>?_⟩
    refine ⟨_,l,rs.map fun q=>(⟨#[q.1]⟩:Str),rfl,rfl,SqL.of (by rw [hl2,List.map_map];rfl),?_,?_⟩
    · have e:(rs.map fun q=>(⟨#[q.1]⟩:Str))=(rs.map (·.1)).map fun c=>(⟨#[c]⟩:Str):=by rw [List.map_map];rfl
      rw [e,sum_ones]
      simp only [List.length_map]
      show rs.length+rs.length * 0≤_
      omega
    · have e:(rs.map fun q=>(⟨#[q.1]⟩:Str))=(rs.map (·.1)).map fun c=>(⟨#[c]⟩:Str):=by rw [List.map_map];rfl
      have e2:Txt.join (Str.ofString "") (rs.map fun q=>(⟨#[q.1]⟩:Str))=⟨(rs.map (·.1)).toArray⟩:=by
        rw [e]
        exact join_signs _
      rw [e2]
      exact k H' s1
def cnts (rs:List Rule) (w:List Nat):List V:=rs.map fun q=>V.int ((w.count q.1:Nat):Int)
def spTal:Sp:=fun vs H Q _=>∃ (t:Addr) (first:List Nat) (rs:List Rule) (w:List Nat),vs=[.ref t,tx w]∧BookAt H t first rs∧rs.length≤8∧∀ l H',Same H H'→H l=none→H' l=some (.lst (cnts rs w))→Q (.ref l) H'
theorem scTal:FnScope ["book","text"] ["book","text"] (defScope sTal):=⟨rfl,rfl,rfl,by decide +kernel,rfl,by decide +kernel,by decide +kernel⟩
theorem nd_tal:(["letter","text"]:List Str).Nodup:=by decide +kernel
theorem type_count:typeOf (.builtin "str.count")=pure (.type "method_descriptor"):=by first | exact PySem.F.type_str_count | (show builtinType _=_;rw [builtinType_eq_fast];kernel_rfl)
theorem ok_tal {f f1:Addr} {fd fd1:FuncData} (F:Fun K "tally" "tally" sTal f fd) (G:FnOk P w K mg base CX0 2 f1 fd1 ["book"] spLet) (g:Gf K mg "letters" f1 fd1 ["book"]):FnOk P w K mg base CX0 3 f fd ["book","text"] spTal:=by
  refine F.ok scTal (fun vs H Q E h=>?_) (fun cdv A outer s H vs Q E hr h=>?_)
  · obtain ⟨t,first,rs,w',rfl,_⟩:=h
    rfl
  · obtain ⟨t,first,rs,w',rfl,hB,hl,k⟩:=h
    refine ⟨_,pss_one (ps_ret (pe_comp (N':=["letter","text"]) (ix:=[none,some 1]) rfl rfl (pi_str (pe_call G hr rfl g.m g.k g.b .nil pass0 (pa_cons (pv 0) pa_nil))) (fun _ _ _ _ _ _=>pg_name (i:=0) nd_tal rfl (Or.inl rfl)) (fun _ _ _ _ _ _=>pts_nil)
      (fun _ _ _ _ _ _=>show PE _ _ (tBM K _ _ _ _) from pe_bm PySem.F.plainAttrs_str PySem.F.slot_str_count type_count mt_count (pv 1) (pa_cons (pv 0) pa_nil)))),?_⟩
    refine ⟨_,rfl,t,first,rs,rfl,hB,hl,fun H1 s1=>⟨_,rfl,comp_all sure_str (by rw [List.length_map];show (rs.map (·.1)).length≤_;rw [List.length_map];omega)
      (fun i ys τ H2=>H2=H1∧ys=cnts (rs.take i) w'∧∃ v,τ=[v,some (tx w')]) ⟨rfl,rfl,_,rfl⟩ ?_ ?_ ?_⟩⟩
    · rintro i ys τ H2 hi ⟨rfl,rfl,_⟩
      refine ⟨trivial,?_⟩
      unfold cnts
      rw [List.length_map,List.length_take]
      omega
    · rintro i x ys τ H2 hx ⟨rfl,rfl,v,rfl⟩
      have hx':((rs.map (·.1)).map sign)[i]? = some x:=hx
      rw [List.map_map,List.getElem?_map] at hx'
      cases e:rs[i]? with
      | none=>rw [e] at hx';cases hx'
      | some q =>
        rw [e] at hx'
        cases hx'
        refine ⟨_,rfl,rfl,_,rfl,⟨w'.toArray⟩,⟨#[q.1]⟩,rfl,rfl,rfl,?_,_,rfl⟩
        rw [count_one]
        unfold cnts
        exact (take_snoc _ e).symm
    · rintro ys τ H2 D ⟨rfl,rfl,_⟩ hD
      refine k D _ (s1.trans (Same.add hD)) (s1.free hD) ?_
      rw [upd_same]
      have e:(((⟨(rs.map (·.1)).toArray⟩:Str).cps.toList).map sign).length=rs.length:=by simp
      rw [e,take_all]
end
end Lw
namespace Lw
open PySem L2
section
variable {P:Program} {w:World} {K:PySem.W.Frag} {mg:Str→Option Value} {base:Heap}
def tabV (rs:List Rule):List (List V):=rs.map fun q=>cnts rs q.2
def spTab:Sp:=fun vs H Q _=>∃ (t:Addr) (first:List Nat) (rs:List Rule),vs=[.ref t]∧BookAt H t first rs∧rs.length≤8∧∀ l ls H',Same H H'→TabAt H H' l ls (tabV rs)→Q (.ref l) H'
theorem scTab:FnScope ["book"] ["book"] (defScope sTab):=⟨rfl,rfl,rfl,by decide +kernel,rfl,by decide +kernel,by decide +kernel⟩
theorem nd_tab:(["rule","book"]:List Str).Nodup:=by decide +kernel
theorem ok_tab {f f1:Addr} {fd fd1:FuncData} (F:Fun K "table" "table" sTab f fd) (G:FnOk P w K mg base CX0 3 f1 fd1 ["book","text"] spTal) (g:Gf K mg "tally" f1 fd1 ["book","text"]):FnOk P w K mg base CX0 4 f fd ["book"] spTab:=by
  refine F.ok scTab (fun vs H Q E h=>?_) (fun cdv A outer s H vs Q E hr h=>?_)
  · obtain ⟨t,first,rs,rfl,_⟩:=h
    rfl
  · obtain ⟨t,first,rs,rfl,hB,hl,k⟩:=h
    refine ⟨_,pss_one (ps_ret (pe_comp (N':=["rule","book"]) (ix:=[none,some 0]) rfl rfl (pi_tup (pe_ix ix_tup (pv 0) pe_int (fun _ _=>rfl))) (fun _ _ _ _ _ _=>pg_name (i:=0) nd_tab rfl (Or.inl rfl)) (fun _ _ _ _ _ _=>pts_nil)
      (fun _ _ _ _ _ _=>pe_call G hr rfl g.m g.k g.b .nil pass0 (pa_cons (pv 1) (pa_cons (pe_ix (r:=rIxT K) ix_tup (pv 0) pe_int (fun _ _=>rfl)) pa_nil))))),?_⟩
    obtain ⟨r,ps,h1,h2,h3⟩:=hB.ex
    refine ⟨_,rfl,t,_,_,_,rfl,rfl,SqT.of h1,atI_nat (j:=1) rfl,r,rfl,⟨_,SqT.of h2⟩,comp_all (sure_tup (xs:=ps.map V.ref)) (by rw [List.length_map,h3.len];omega)
      (fun i ys τ H2=>Same H H2∧(∃ v,τ=[v,some (.ref t)])∧∃ ls,ys=ls.map V.ref∧RowsAt H H2 ls ((rs.take i).map fun q=>cnts rs q.2)) ⟨Same.refl _,⟨_,rfl⟩,[],rfl,RowsAt.nil⟩ ?_ ?_ ?_⟩
    · rintro i ys τ H2 hi ⟨s2,_,ls,rfl,hR⟩
      refine ⟨SqT.of (s2 _ _ h2),?_⟩
      rw [List.length_map,hR.len,List.length_map,List.length_take]
      omega
    · rintro i x ys τ H2 hx ⟨s2,⟨v,rfl⟩,ls,rfl,hR⟩
      rw [List.getElem?_map] at hx
      cases e:ps[i]? with
      | none=>rw [e] at hx;cases hx
      | some p =>
        rw [e] at hx
        cases hx
        obtain ⟨c,w',e1,e2⟩:=h3.get e
        refine ⟨_,rfl,_,rfl,p,_,_,_,rfl,rfl,SqT.of (s2 _ _ e2),atI_nat (j:=1) rfl,t,first,rs,w',rfl,hB.mono (TupS.same s2),hl,fun l H3 s3 n3 e3=>?_⟩
        refine ⟨s2.trans s3,⟨_,rfl⟩,ls++[l],by rw [List.map_append];rfl,?_⟩
        rw [take_snoc _ e1]
        exact hR.snoc s3 (s2.free n3) n3 e3
    · rintro ys τ H2 D ⟨s2,_,ls,rfl,hR⟩ hD
      have e:(ps.map V.ref).length=rs.length:=by rw [List.length_map,h3.len]
      rw [e,take_all] at hR
      refine k D ls _ (s2.trans (Same.add hD)) ⟨upd_same,hR.mono (Same.add hD),s2.free hD,fun z=>?_⟩
      obtain ⟨v,q,_⟩:=hR.there z
      rw [hD] at q;cases q
end
end Lw
namespace Lw
open PySem L2
structure PenAt (H:Hp) (p:Addr) (b:Nat):Prop where
  ex:∃ (a n f:Int),H p=some (.lst [.int a,.int n,.int f])∧0≤n∧n≤b∧0≤f∧f < 2147483647
theorem PenAt.mono {H:Hp} {p:Addr} {b b':Nat} (h:PenAt H p b) (hb:b≤b'):PenAt H p b':=by
  obtain ⟨a,n,f,e,h1,h2,h3⟩:=h.ex
  exact ⟨a,n,f,e,h1,by omega,h3⟩
def But (p:Addr) (H H':Hp):Prop:=∀ c o,H c=some o→c≠p→H' c=some o
theorem But.refl (p:Addr) (H:Hp):But p H H:=fun _ _ h _=>h
theorem But.trans {p:Addr} {H H1 H2:Hp} (a:But p H H1) (b:But p H1 H2):But p H H2:=fun c o h n=>b c o (a c o h n) n
theorem But.same {p:Addr} {H H':Hp} (s:Same H H'):But p H H':=fun c o h _=>s c o h
theorem But.free {p:Addr} {H H':Hp} (e:But p H H') {l:Addr} (n:l≠p) (h:H' l=none):H l=none:=by
  cases q:H l with
  | none=>rfl
  | some o=>rw [e l o q n] at h;cases h
section
variable {P:Program} {w:World} {K:PySem.W.Frag} {mg:Str→Option Value} {base:Heap}
def spTak:Sp:=fun vs H Q _=>∃ (p:Addr) (b:Nat) (size:Int),vs=[.ref p,.int size]∧PenAt H p b∧b≤1000000∧0 < size∧size≤10000000000000000000000000000000000000000000000000000000000000000000000∧∀ (v:Int) H',0≤v→v < size→PenAt H' p (b+1)→(∀ c,c≠p→H' c=H c)→Q (.int v) H'
theorem scTak:FnScope ["_law_pen_here","_law_size","_law_found","_law_number"] ["_law_pen_here","_law_size"] (defScope sTak):=⟨rfl,rfl,rfl,by decide +kernel,rfl,by decide +kernel,by decide +kernel⟩
theorem ok_tak {f:Addr} {fd:FuncData} (F:Fun K "_law_take" "_law_take" sTak f fd):FnOk P w K mg base CX0 1 f fd ["_law_pen_here","_law_size"] spTak:=by
  refine F.ok scTak (fun vs H Q E h=>?_) (fun cdv A outer s H vs Q E hr h=>?_)
  · obtain ⟨p,b,size,rfl,_⟩:=h
    rfl
  · obtain ⟨p,b,size,rfl,hp,hb,h1,h2,k⟩:=h
    obtain ⟨a,n,g,e,n1,n2,g1,g2⟩:=hp.ex
    refine ⟨_,pss_cons (ps_if (pt_cmpR op_gt (pe_ix ix_list (pv 0) pe_int (fun _ _=>rfl)) pe_int (nomark _))
        (pss_cons (ps_set (i:=2) scTak.nd rfl (Or.inl rfl) (pe_op op_mod (pe_ix ix_list (pv 0) pe_int (fun _ _=>rfl)) (pv 1)))
        (pss_cons (ps_asg (pe_op op_fdivB (pe_ix ix_list (pv 0) pe_int (fun _ _=>rfl)) (pv 1)) (pg_sub (pv 0) pe_int set_list))
        (pss_one (ps_ret (pv 2))))) pss_nil)
      (pss_cons (ps_asg (pe_op op_add (pe_ix ix_list (pv 0) pe_int (fun _ _=>rfl)) pe_int) (pg_sub (pv 0) pe_int set_list))
      (pss_cons (ps_set (i:=3) scTak.nd rfl (Or.inl rfl) (pe_op op_mod (pe_op op_pow (pe_op op_add (pe_ix ix_list (pv 0) pe_int (fun _ _=>rfl)) (pe_op op_mul pe_int (pe_ix ix_list (pv 0) pe_int (fun _ _=>rfl)))) pe_int) pe_int))
      (pss_cons (ps_set (i:=3) scTak.nd rfl (Or.inl rfl) (pe_op op_mod (pe_op op_pow (pe_op op_add (pv 3) (pe_op op_mul pe_int (pe_ix ix_list (pv 0) pe_int (fun _ _=>rfl)))) pe_int) pe_int))
      (pss_one (ps_ret (pe_op op_mod (pe_op op_fdiv (pv 3) pe_int) (pv 1))))))),?_⟩
    refine ⟨_,rfl,p,_,_,_,rfl,rfl,SqL.of e,atI_nat (j:=0) rfl,_,_,rfl,rfl,_,rfl,?_⟩
    refine ite2 (fun hc=>?_) (fun hc=>?_)
    · refine ⟨_,rfl,p,_,_,_,rfl,rfl,SqL.of e,atI_nat (j:=0) rfl,_,rfl,_,_,rfl,rfl,h1,?_⟩
      refine ⟨_,rfl,p,_,_,_,rfl,rfl,SqL.of e,atI_nat (j:=0) rfl,_,rfl,_,_,rfl,rfl,⟨h1,by omega⟩,?_⟩
      refine ⟨_,rfl,p,_,_,0,rfl,rfl,e,rfl,?_⟩
      refine ⟨_,rfl,?_⟩
      refine k _ _ (Int.emod_nonneg _ (by omega)) (Int.emod_lt_of_pos _ h1) ⟨_,n,g,upd_same,n1,by omega,g1,g2⟩ fun c hc=>upd_ne hc
    · refine ⟨_,rfl,p,_,_,_,rfl,rfl,SqL.of e,atI_nat (j:=1) rfl,_,_,rfl,rfl,_,rfl,p,_,_,1,rfl,rfl,e,rfl,?_⟩
      have e2:upd H p (.lst ([V.int a,V.int n,V.int g].set 1 (V.int (n+1)))) p=some (.lst [.int a,.int (n+1),.int g]):=upd_same
      refine ⟨_,rfl,p,_,_,_,rfl,rfl,SqL.of e2,atI_nat (j:=2) rfl,_,rfl,p,_,_,_,rfl,rfl,SqL.of e2,atI_nat (j:=1) rfl,_,_,rfl,rfl,.inl ⟨by decide,by decide⟩,_,_,rfl,rfl,_,_,rfl,rfl,⟨by decide,by decide,by omega⟩,_,_,rfl,rfl,(by show (0:Int) < 2147483647;decide),?_⟩
      generalize (g+7919 * (n+1)) ^ Int.toNat 5=X1
      refine ⟨_,rfl,_,rfl,p,_,_,_,rfl,rfl,SqL.of e2,atI_nat (j:=1) rfl,_,_,rfl,rfl,.inl ⟨by decide,by decide⟩,_,_,rfl,rfl,_,_,rfl,rfl,⟨by decide,by decide,by omega⟩,_,_,rfl,rfl,(by show (0:Int) < 2147483629;decide),?_⟩
      generalize (X1 % 2147483647+104729 * (n+1)) ^ Int.toNat 5=X2
      refine ⟨_,rfl,_,_,rfl,rfl,⟨by decide,by decide⟩,_,rfl,_,_,rfl,rfl,h1,?_⟩
      exact k _ _ (Int.emod_nonneg _ (by omega)) (Int.emod_lt_of_pos _ h1) ⟨a,n+1,g,e2,by omega,by omega,g1,g2⟩ fun c hc=>upd_ne hc
def spPen (K:PySem.W.Frag):Sp:=fun vs H Q _=>∃ (a:Addr) (ns:List Int) (k:Int),vs=[.ref a,.int k]∧SqL K H a (ns.map V.int)∧ns.length≤63∧0≤k∧k≤100∧∀ p H',Same H H'→H p=none→PenAt H' p 0→Q (.ref p) H'
end
end Lw
namespace Lw
open PySem L2
section
variable {P:Program} {w:World} {K:PySem.W.Frag} {mg:Str→Option Value} {base:Heap}
theorem mem_cutV {xs:List V} {lo hi:Option Int} {x:V} (h:x∈cutV xs lo hi):x∈xs:=List.mem_of_mem_drop (List.mem_of_mem_take h)
theorem scPen:FnScope ["_law_script","_law_k","_law_fold","_law_cell","_law_great"] ["_law_script","_law_k"] (defScope sPen):=⟨rfl,rfl,rfl,by decide +kernel,rfl,by decide +kernel,by decide +kernel⟩
theorem ok_pen {f:Addr} {fd:FuncData} (F:Fun K "_law_pen" "_law_pen" sPen f fd) (hlen:mg "len" = none):FnOk P w K mg base CX0 1 f fd ["_law_script","_law_k"] (spPen K):=by
  refine F.ok scPen (fun vs H Q E h=>?_) (fun cdv A outer s H vs Q E hr h=>?_)
  · obtain ⟨a,ns,k,rfl,_⟩:=h
    rfl
  · obtain ⟨a,ns,k,rfl,hS,hl,k0,k1,q⟩:=h
    refine ⟨_,pss_cons (ps_set (i:=2) scPen.nd rfl (Or.inl rfl) (pe_op op_add (pe_op op_mul pe_int (pv 1)) pe_int))
      (pss_cons (ps_for PassesOwn.never rfl (pi_list (pe_slice sl_list (pv 0) po_none (po_some pe_int))) (pg_name (i:=3) scPen.nd rfl (Or.inl rfl))
        (pss_one (ps_set (i:=2) scPen.nd rfl (Or.inl rfl) (pe_op op_mod (pe_op op_add (pe_op op_mul (pv 2) pe_int) (pv 3)) pe_int))))
      (pss_cons (ps_set (i:=4) scPen.nd rfl (Or.inl rfl) pe_int)
      (pss_cons (ps_if (PW.pt (pw_and (pt_cmpR op_gt (pe_callB call_len_seq (by rfl) hlen PySem.boot_len (pa_cons (pv 0) pa_nil)) pe_int (nomark _))
          (pw_and1 (pt_cmpR op_ge (pe_ix ix_list (pv 0) (pe_op op_mod (pv 1) (pe_callB call_len_seq (by rfl) hlen PySem.boot_len (pa_cons (pv 0) pa_nil))) (fun _ _=>rfl)) (pe_op op_pow pe_int pe_int) (nomark _)))))
        (pss_one (ps_set (i:=4) scPen.nd rfl (Or.inl rfl) (pe_op op_sub (pe_ix ix_list (pv 0) (pe_op op_mod (pv 1) (pe_callB call_len_seq (by rfl) hlen PySem.boot_len (pa_cons (pv 0) pa_nil))) (fun _ _=>rfl)) (pe_op op_pow pe_int pe_int)))) pss_nil)
      (pss_one (ps_ret (pe_lst (pa_cons (pv 4) (pa_cons pe_int (pa_cons (pv 2) pa_nil))))))))),?_⟩
    refine ⟨_,rfl,_,_,rfl,rfl,.inl ⟨by decide,by decide⟩,_,_,rfl,rfl,?_⟩
    refine ⟨_,rfl,_,rfl,a,_,rfl,hS,fun p hp=>⟨p,rfl,⟨_,SqL.of upd_same⟩,?_⟩⟩
    refine for_by (sure_list (xs:=cutV (ns.map V.int) none (some 63))) (fun i σ H2=>H2=upd H p (.lst (cutV (ns.map V.int) none (some 63)))∧∃ (g:Int) (v:Option V),σ=[some (.ref a),some (.int k),some (.int g),v,none]∧0≤g∧g < 2147483647)
      ⟨rfl,_,_,rfl,by omega,by omega⟩ ?_ ?_ ?_
    · rintro i σ H2 hi ⟨rfl,_⟩
      exact SqL.of upd_same
    · rintro i x σ H2 hx ⟨rfl,g,v,rfl,g1,g2⟩
      obtain ⟨z,hz,rfl⟩:=List.mem_map.mp (mem_cutV (List.mem_of_getElem? hx))
      refine ⟨_,rfl,_,_,rfl,rfl,.inr ⟨by decide,by decide⟩,_,rfl,_,_,rfl,rfl,_,_,rfl,rfl,(by show (0:Int) < 2147483647;decide),rfl,_,_,rfl,Int.emod_nonneg _ (by decide),Int.emod_lt_of_pos _ (by decide)⟩
    · rintro σ H2 ⟨rfl,g,v,rfl,g1,g2⟩
      have s1:Same H (upd H p (.lst (cutV (ns.map V.int) none (some 63)))):=Same.add hp
      have hS1:=s1.seq hS
      have el:((ns.map V.int).length:Int)=(ns.length:Int):=by rw [List.length_map]
      have fin:∀ (z:Int) (l:Addr),(upd H p (.lst (cutV (ns.map V.int) none (some 63)))) l=none→Q (.ref l) (upd (upd H p (.lst (cutV (ns.map V.int) none (some 63)))) l (.lst [.int z,.int 0,.int g])):=fun z l hn =>
        q l _ (s1.trans (Same.add hn)) (s1.free hn) ⟨z,0,g,upd_same,by decide,by decide,g1,g2⟩
      refine ⟨_,rfl,a,_,rfl,.inl hS1,_,_,rfl,rfl,_,rfl,?_⟩
      refine ite2 (fun hc=>?_) (fun hc=>?_)
      · have hpos:0 < (ns.length:Int):=by
          have:=of_decide_eq_true hc
          rw [el] at this
          exact this
        have hm1:=Int.emod_nonneg k (show (ns.length:Int)≠0 by omega)
        have hm2:=Int.emod_lt_of_pos k hpos
        obtain ⟨j,hj⟩:∃ j:Nat,k % (ns.length:Int)=(j:Int):=⟨(k % (ns.length:Int)).toNat,by omega⟩
        have hjl:j < ns.length:=by omega
        have hat:atI (ns.map V.int) (k % ((ns.map V.int).length:Int))=some (.int ns[j]):=by
          rw [el,hj]
          exact atI_nat (by rw [List.getElem?_map,List.getElem?_eq_getElem hjl];rfl)
        refine ⟨_,rfl,_,rfl,_,rfl,a,_,rfl,.inl hS1,_,_,rfl,rfl,(by show (0:Int) < _;rw [el];exact hpos),a,_,_,_,rfl,rfl,hS1,hat,_,_,rfl,rfl,⟨by decide,by decide,by decide⟩,_,_,rfl,rfl,_,rfl,?_⟩
        refine ite2 (fun hc2=>?_) (fun hc2=>?_)
        · refine ⟨_,rfl,_,rfl,_,rfl,a,_,rfl,.inl hS1,_,_,rfl,rfl,(by show (0:Int) < _;rw [el];exact hpos),a,_,_,_,rfl,rfl,hS1,hat,_,_,rfl,rfl,⟨by decide,by decide,by decide⟩,_,_,rfl,rfl,?_⟩
          exact ⟨_,rfl,_,rfl,(by show 3≤sizeLine;decide),fun l hn=>fin _ l hn⟩
        · exact ⟨_,rfl,_,rfl,(by show 3≤sizeLine;decide),fun l hn=>fin 0 l hn⟩
      · refine iteF ?_
        exact ⟨_,rfl,_,rfl,(by show 3≤sizeLine;decide),fun l hn=>fin 0 l hn⟩
end
end Lw
namespace Lw
open PySem L2
def rLenS (K:PySem.W.Frag):List V→Hp→VK→Prop:=fun xs H Q=>∃ p ys,xs=[.ref p]∧(SqL K H p ys∨SqT K H p ys)∧Q (.int ys.length) H
theorem call_lenS {X:Cx}:CallR X (.builtin "len") (rLenS X.K):=call_len_seq
def abc:List Nat:=[97,98,99,100,101,102,103,104,105,106,107,108,109,110,111,112,113,114,115,116,117,118,119,120,121,122]
theorem abc_str:(Str.ofString "abcdefghijklmnopqrstuvwxyz").cps.toList=abc:=by decide +kernel
theorem abc_nd:abc.Nodup:=by decide
theorem abc_in:∀ c∈abc,97≤c∧c≤122:=by decide
theorem perm_erase:∀ {xs:List Nat} {k:Nat} {y:Nat},xs[k]? = some y→xs.Perm (y :: xs.eraseIdx k)
  | x :: xs,0,y,e=>by cases e;exact List.Perm.refl _
  | x :: xs,k+1,y,e=>by
    have ih:=perm_erase (xs:=xs) (k:=k) (y:=y) e
    show (x :: xs).Perm (y :: x :: xs.eraseIdx k)
    exact (ih.cons x).trans (List.Perm.swap y x _)
  | [],k,y,e=>by simp at e
theorem map_erase {α β:Type} (f:α→β):∀ (xs:List α) (k:Nat),(xs.map f).eraseIdx k=(xs.eraseIdx k).map f
  | [],_=>rfl
  | _ :: _,0=>rfl
  | x :: xs,k+1=>by
    show f x :: (xs.map f).eraseIdx k=f x :: (xs.eraseIdx k).map f
    rw [map_erase f xs k]
theorem PenAt.other {H H':Hp} {p:Addr} {b:Nat} (h:PenAt H p b) (e:H' p=H p):PenAt H' p b:=by
  obtain ⟨a,n,f,e1,r⟩:=h.ex
  exact ⟨a,n,f,e.trans e1,r⟩
theorem PenAt.some {H:Hp} {p:Addr} {b:Nat} (h:PenAt H p b):∃ o,H p=Option.some o:=by
  obtain ⟨a,n,f,e1,r⟩:=h.ex
  exact ⟨_,e1⟩
end Lw
namespace Lw
open PySem L2
theorem strs_sign (w:List Nat):w.map sign=(w.map fun c=>(⟨#[c]⟩:Str)).map V.str:=by rw [List.map_map];rfl
section
variable {P:Program} {w:World} {K:PySem.W.Frag} {mg:Str→Option Value} {base:Heap}
def spTxt:Sp:=fun vs H Q _=>∃ (p l:Addr) (b n:Nat) (cs:List Nat),vs=[.ref p,.ref l,.int (n:Int)]∧PenAt H p b∧b≤900000∧n≤1000∧H l=some (.lst (cs.map sign))∧cs.length≤30∧l≠p ∧
  ∀ (w:List Nat) H',w.length≤n→(cs≠[]→w.length=n)→(∀ c∈w,c∈cs)→But p H H'→PenAt H' p (b+n)→Q (tx w) H'
theorem scTxt:FnScope ["_law_pen_here","_law_signs","_law_many"] ["_law_pen_here","_law_signs","_law_many"] (defScope sTxt):=⟨rfl,rfl,rfl,by decide +kernel,rfl,by decide +kernel,by decide +kernel⟩
theorem nd_txt:(["_law_k","_law_signs","_law_pen_here"]:List Str).Nodup:=by decide +kernel
theorem ok_txt {f f1:Addr} {fd fd1:FuncData} (F:Fun K "_law_text" "_law_text" sTxt f fd) (G:FnOk P w K mg base CX0 1 f1 fd1 ["_law_pen_here","_law_size"] spTak) (g:Gf K mg "_law_take" f1 fd1 ["_law_pen_here","_law_size"])
    (hlen:mg "len" = none) (hint:mg "int" = none) (hrange:mg "range" = none):FnOk P w K mg base CX0 2 f fd ["_law_pen_here","_law_signs","_law_many"] spTxt:=by
  refine F.ok scTxt (fun vs H Q E h=>?_) (fun cdv A outer s H vs Q E hr h=>?_)
  · obtain ⟨p,l,b,n,cs,rfl,_⟩:=h
    rfl
  · obtain ⟨p,l,b,n,cs,rfl,hp,hb,hn,hL,hcs,hlp,q⟩:=h
    refine ⟨_,pss_one (ps_ret (pe_bm PySem.F.plainAttrs_str PySem.F.slot_str_join PySem.F.type_str_join mt_join pe_str (pa_cons
      (pe_comp (N':=["_law_k","_law_signs","_law_pen_here"]) (ix:=[none,some 1,some 0]) rfl rfl
        (pi_range1 rfl hrange (pa_cons (pe_op op_mul (pv 2) (pe_callTy call_int1 (by rfl) hint (by first | exact PySem.boot_int | decide +kernel) (pa_cons (pe_cmpR op_gt (pe_callB call_lenS (by rfl) hlen PySem.boot_len (pa_cons (pv 1) pa_nil)) pe_int (nomark _)) pa_nil))) pa_nil))
        (fun _ _ _ _ _ _=>pg_name (i:=0) nd_txt rfl (Or.inl rfl)) (fun _ _ _ _ _ _=>pts_nil)
        (fun _ _ _ _ _ _=>pe_ix (r:=rIxL K) ix_list (pv 1) (pe_call G hr rfl g.m g.k g.b .nil pass0 (pa_cons (pv 2) (pa_cons (pe_callB (r:=rLenS K) call_lenS (by rfl) hlen PySem.boot_len (pa_cons (pv 1) pa_nil)) pa_nil))) (fun _ _=>rfl))) pa_nil))),?_⟩
    have el:((cs.map sign).length:Int)=(cs.length:Int):=by rw [List.length_map]
    refine ⟨rfl,_,rfl,_,rfl,l,_,rfl,.inl (SqL.of hL),_,_,rfl,rfl,.inr ⟨_,rfl,?_⟩⟩
    -- how many turns
    obtain ⟨m,em,hm1,hm2⟩:∃ m:Nat,(n:Int) * (if decide ((0:Int) < ((cs.map sign).length:Int)) then 1 else 0)=(m:Int)∧m≤n∧(if cs=[] then m=0 else m=n):=by
      cases cs with
      | nil=>exact ⟨0,by simp,Nat.zero_le _,by simp⟩
      | cons c r =>
        refine ⟨n,?_,Nat.le_refl _,by simp⟩
        have hpos:(0:Int) < (((c :: r).map sign).length:Int):=by rw [List.length_map,List.length_cons];omega
        rw [decide_eq_true hpos]
        simp
    refine ⟨_,_,rfl,rfl,.inl ⟨by omega,by omega⟩,_,rfl,?_⟩
    rw [em]
    refine ⟨by omega,by omega,?_⟩
    refine comp_all (Q:=fun x H2=>rJoin K (V.str (Str.ofString "")) [x] H2 Q) (τ0:=[none,some (V.ref l),some (V.ref p)]) (sure_range (lo:=0) (n:=Int.toNat (m:Int))) (by rw [rngV_length];omega)
      (fun i ys τ H2=>∃ w2:List Nat,ys=w2.map sign∧w2.length=i∧(∀ c∈w2,c∈cs)∧But p H H2∧PenAt H2 p (b+i)∧∃ v,τ=[v,some (.ref l),some (.ref p)])
      ⟨[],rfl,rfl,(fun c hc=>by simp at hc),But.refl _ _,hp,_,rfl⟩ ?_ ?_ ?_
    · rintro i ys τ H2 hi ⟨w',rfl,e,_⟩
      exact ⟨trivial,by rw [List.length_map];omega⟩
    · rintro i x ys τ H2 hx ⟨w',rfl,et,hw,hBt,hPn,v,rfl⟩
      have hi:i < m:=by
        have:=(List.getElem?_eq_some_iff.mp hx).1
        rw [rngV_length] at this
        simpa using this
      have hne:cs≠[]:=fun z=>by rw [if_pos z] at hm2;omega
      have hcl:0 < cs.length:=List.length_pos_iff.mpr hne
      have hL2:=hBt l _ hL hlp
      refine ⟨_,rfl,_,rfl,_,rfl,l,_,rfl,.inl (SqL.of hL2),p,b+i,_,rfl,hPn,by omega,by rw [el];omega,by rw [el];omega,fun z H3 z0 z1 hP3 e3=>?_⟩
      rw [el] at z1
      obtain ⟨j,rfl⟩:∃ j:Nat,z=(j:Int):=⟨z.toNat,by omega⟩
      have hj:j < cs.length:=by omega
      refine ⟨l,_,_,_,rfl,rfl,SqL.of ((e3 l hlp).trans hL2),atI_nat (v:=sign cs[j]) (by rw [List.getElem?_map,List.getElem?_eq_getElem hj];rfl),?_⟩
      refine ⟨w'++[cs[j]],by rw [List.map_append];rfl,by rw [List.length_append,et];rfl,fun c hc=>?_,fun c o hc hne=>(e3 c hne).trans (hBt c o hc hne),hP3,_,rfl⟩
      rcases List.mem_append.mp hc with z | z
      · exact hw c z
      · have z:c=cs[j]:=by simpa using z
        rw [z];exact List.getElem_mem hj
    · rintro ys τ H2 D ⟨w',rfl,et,hw,hBt,hPn,v,rfl⟩ hD
      have e:(rngV 0 (Int.toNat (m:Int))).length=m:=by rw [rngV_length];simp
      rw [e] at et hPn
      obtain ⟨oD,hoD⟩:=hPn.some
      have nDp:D≠p:=(ne_of_none hoD hD).symm
      refine ⟨_,D,w'.map fun c=>(⟨#[c]⟩:Str),rfl,rfl,SqL.of (by rw [upd_same,strs_sign]),?_,?_⟩
      · rw [sum_ones,List.length_map]
        show w'.length+w'.length * 0≤_
        omega
      · have e2:Txt.join (Str.ofString "") (w'.map fun c=>(⟨#[c]⟩:Str))=⟨w'.toArray⟩:=join_signs _
        rw [e2]
        refine q w' _ (by omega) (fun hne=>by rw [if_neg hne] at hm2;omega) hw (hBt.trans (But.same (Same.add hD))) ((hPn.other (upd_ne nDp.symm)).mono (by omega))
end
end Lw
namespace Lw
open PySem L2
theorem tabV_eq (rs:List Rule):tabV rs=(tabI rs).map fun v=>v.map V.int:=by
  unfold tabV tabI cnts
  rw [List.map_map]
  refine List.map_congr_left fun q _=>?_
  show _=List.map V.int _
  rw [List.map_map]
  rfl
theorem TabAt.v {H0 H:Hp} {l:Addr} {ls:List Addr} {rs:List Rule} (t:TabAt H0 H l ls (tabV rs)):TabV H l ls (tabI rs):=by
  refine ⟨t.top,?_,fun i a v e1 e2=>?_⟩
  · have:=t.rows.len
    rw [tabV_eq,List.length_map] at this
    exact this
  · refine t.rows.at_ i a _ e1 ?_
    rw [tabV_eq,List.getElem?_map,e2]
    rfl
theorem cnts_eq (rs:List Rule) (w:List Nat):cnts rs w=(c0 rs w).map V.int:=by
  unfold cnts c0
  rw [List.map_map]
  rfl
section
variable {P:Program} {w:World} {K:PySem.W.Frag} {mg:Str→Option Value} {base:Heap}
def spWho:Sp:=fun vs H Q _=>∃ z:Int,vs=[.int z]∧Q (.bl true) H
theorem scWho:FnScope ["thing"] ["thing"] (defScope sWho):=⟨rfl,rfl,rfl,by decide +kernel,rfl,by decide +kernel,by decide +kernel⟩
theorem ok_who {f:Addr} {fd:FuncData} (F:Fun K "is_whole" "is_whole" sWho f fd)
    (hint:mg "int" = none)
    (hisinstance:mg "isinstance" = none)
    (hbool:mg "bool" = none)
    : FnOk P w K mg base CX0 1 f fd ["thing"] spWho:=by
  refine F.ok scWho (fun vs H Q E h=>?_) (fun cdv A outer s H vs Q E hr h=>?_)
  · obtain ⟨z,rfl,_⟩:=h
    rfl
  · obtain ⟨z,rfl,k⟩:=h
    refine ⟨_,(pss_one (ps_ret (pe_and (pe_callB (call_isinstK K) (by rfl) hisinstance (show bootBuiltins "isinstance" = some (.builtin "isinstance") by decide +kernel) (pa_cons (pv 0) (pa_cons (pe_bltn (v:=.ty "int") (by rfl) hint (show bootBuiltins "int" = some (.type "int") by decide +kernel) rfl) pa_nil))) (pe_one (pe_not (pe_callB (call_isinstK K) (by rfl) hisinstance (show bootBuiltins "isinstance" = some (.builtin "isinstance") by decide +kernel) (pa_cons (pv 0) (pa_cons (pe_bltn (v:=.ty "bool") (by rfl) hbool (show bootBuiltins "bool" = some (.type "bool") by decide +kernel) rfl) pa_nil)))))))),?_⟩
    refine ⟨_,rfl,_,_,_,true,rfl,TyOf.int z,(by rfl),_,rfl,?_⟩
    refine iteT ?_
    exact ⟨_,rfl,_,_,_,false,rfl,TyOf.int z,(by rfl),_,rfl,k⟩
def spWin:Sp:=fun vs H Q _=>∃ z a b:Int,vs=[.int z,.int a,.int b]∧a≤z∧z≤b∧Q (.bl true) H
theorem scWin:FnScope ["thing","least","most"] ["thing","least","most"] (defScope sWin):=⟨rfl,rfl,rfl,by decide +kernel,rfl,by decide +kernel,by decide +kernel⟩
theorem ok_win {f fWho:Addr} {fd fdWho:FuncData} (F:Fun K "is_within" "is_within" sWin f fd)
    (GWho:FnOk P w K mg base CX0 1 fWho fdWho ["thing"] spWho)
    (gWho:Gf K mg "is_whole" fWho fdWho ["thing"])
    : FnOk P w K mg base CX0 2 f fd ["thing","least","most"] spWin:=by
  refine F.ok scWin (fun vs H Q E h=>?_) (fun cdv A outer s H vs Q E hr h=>?_)
  · obtain ⟨z,a,b,rfl,_⟩:=h
    rfl
  · obtain ⟨z,a,b,rfl,h1,h2,k⟩:=h
    refine ⟨_,(pss_one (ps_ret (pe_and (pe_call GWho hr rfl gWho.m gWho.k gWho.b .nil pass0 (pa_cons (pv 0) pa_nil)) (pe_one (pe_chain op_le op_le (pv 1) (pv 0) (pv 2)))))),?_⟩
    refine ⟨_,rfl,z,rfl,_,rfl,?_⟩
    refine iteT ?_
    refine ⟨_,rfl,_,rfl,_,_,rfl,rfl,_,rfl,?_⟩
    rw [decide_eq_true h1]
    refine iteT ?_
    refine ⟨_,rfl,_,_,rfl,rfl,?_⟩
    show Q (.bl (decide (z≤b))) H
    rw [decide_eq_true h2]
    exact k
def spCol:Sp:=fun vs H Q _=>∃ (l:Addr) (ls:List Addr) (T:List (List Int)) (j:Nat),vs=[.ref l,.int (j:Int)]∧TabV H l ls T∧T.length≤1000∧(∀ r∈T,j < r.length)∧∀ d H',Same H H'→H d=none→H' d=some (.lst ((colAt T j).map V.int))→Q (.ref d) H'
theorem scCol:FnScope ["lines","place"] ["lines","place"] (defScope sCol):=⟨rfl,rfl,rfl,by decide +kernel,rfl,by decide +kernel,by decide +kernel⟩
theorem nd_col1:(["line","place"]:List Str).Nodup:=by decide +kernel
theorem ok_col {f:Addr} {fd:FuncData} (F:Fun K "column" "column" sCol f fd)
    : FnOk P w K mg base CX0 1 f fd ["lines","place"] spCol:=by
  refine F.ok scCol (fun vs H Q E h=>?_) (fun cdv A outer s H vs Q E hr h=>?_)
  · obtain ⟨l,ls,T,j,rfl,_⟩:=h
    rfl
  · obtain ⟨l,ls,T,j,rfl,hT,h8,hj,k⟩:=h
    refine ⟨_,(pss_one (ps_ret (pe_comp (N':=["line","place"]) (ix:=[none,some 1]) rfl rfl (pi_listK K (pv 0)) (fun _ _ _ _ _ _=>(pg_name (i:=0) nd_col1 rfl (Or.inl rfl))) (fun _ _ _ _ _ _=>pts_nil) (fun _ _ _ _ _ _=>(pe_ix (ix_listK K) (pv 0) (pv 1) (fun _ _=>rfl)))))),?_⟩
    have el:(ls.map V.ref).length=T.length:=by rw [List.length_map,hT.len]
    refine ⟨_,rfl,l,rfl,⟨_,SqL.of hT.top⟩,comp_all (sure_list (xs:=ls.map V.ref)) (by rw [el];omega) (fun i ys τ H2=>H2=H∧ys=((T.take i).map fun r=>r.getD j 0).map V.int∧∃ v,τ=[v,some (.int (j:Int))]) ⟨rfl,rfl,_,rfl⟩ ?_ ?_ ?_⟩
    · rintro i ys τ H2 hi ⟨rfl,rfl,_⟩
      refine ⟨SqL.of hT.top,?_⟩
      rw [List.length_map,List.length_map,List.length_take]
      omega
    · rintro i x ys τ H2 hx ⟨rfl,rfl,v,rfl⟩
      rw [List.getElem?_map] at hx
      cases e:ls[i]? with
      | none=>rw [e] at hx;cases hx
      | some p =>
        rw [e] at hx
        cases hx
        have hi:i < T.length:=by rw [← hT.len];exact (List.getElem?_eq_some_iff.mp e).1
        have e1:T[i]? = some T[i]:=List.getElem?_eq_getElem hi
        have hr:=hj T[i] (List.getElem_mem hi)
        refine ⟨_,rfl,_,rfl,p,_,_,V.int (T[i].getD j 0),rfl,rfl,SqL.of (hT.at_ i p _ e e1),atI_nat (by rw [List.getElem?_map,List.getD_eq_getElem?_getD,List.getElem?_eq_getElem hr];rfl),rfl,?_,_,rfl⟩
        rw [take_snoc (fun r:List Int=>r.getD j 0) e1,List.map_append]
        rfl
    · rintro ys τ H2 D ⟨rfl,rfl,_⟩ hD
      refine k D _ (Same.add hD) hD ?_
      rw [upd_same,el,take_all]
      rfl
def spCls:Sp:=fun vs H Q _=>∃ (l:Addr) (ls:List Addr) (T:List (List Int)),vs=[.ref l]∧TabV H l ls T∧T.length≤1000∧(∀ r∈T,r.length=T.length)∧∀ d ms H',Same H H'→H d=none→TabV H' d ms ((List.range T.length).map fun j=>colAt T j)→Q (.ref d) H'
theorem scCls:FnScope ["lines"] ["lines"] (defScope sCls):=⟨rfl,rfl,rfl,by decide +kernel,rfl,by decide +kernel,by decide +kernel⟩
theorem nd_cls1:(["place","lines"]:List Str).Nodup:=by decide +kernel
theorem ok_cls {f fCol:Addr} {fd fdCol:FuncData} (F:Fun K "columns" "columns" sCls f fd)
    (GCol:FnOk P w K mg base CX0 1 fCol fdCol ["lines","place"] spCol)
    (gCol:Gf K mg "column" fCol fdCol ["lines","place"])
    (hlen:mg "len" = none)
    (hrange:mg "range" = none)
    : FnOk P w K mg base CX0 2 f fd ["lines"] spCls:=by
  refine F.ok scCls (fun vs H Q E h=>?_) (fun cdv A outer s H vs Q E hr h=>?_)
  · obtain ⟨l,ls,T,rfl,_⟩:=h
    rfl
  · obtain ⟨l,ls,T,rfl,hT,h8,hj,k⟩:=h
    refine ⟨_,(pss_one (ps_ret (pe_comp (N':=["place","lines"]) (ix:=[none,some 0]) rfl rfl (pi_range1 rfl hrange (pa_cons (pe_callB (call_lenK K) (by rfl) hlen PySem.boot_len (pa_cons (pv 0) pa_nil)) pa_nil)) (fun _ _ _ _ _ _=>(pg_name (i:=0) nd_cls1 rfl (Or.inl rfl))) (fun _ _ _ _ _ _=>pts_nil) (fun _ _ _ _ _ _=>(pe_call GCol hr rfl gCol.m gCol.k gCol.b .nil pass0 (pa_cons (pv 1) (pa_cons (pv 0) pa_nil))))))),?_⟩
    have el:(ls.map V.ref).length=T.length:=by rw [List.length_map,hT.len]
    refine ⟨_,rfl,l,_,rfl,.inl (SqL.of hT.top),?_⟩
    refine ⟨_,rfl,by omega,by omega,?_⟩
    refine comp_all (τ0:=[none,some (V.ref l)]) (sure_range (lo:=0) (n:=Int.toNat (((ls.map V.ref).length:Nat):Int))) (by rw [rngV_length,el];simp;omega)
      (fun i ys τ H2=>Same H H2∧(∃ v,τ=[v,some (.ref l)])∧∃ ms,ys=ms.map V.ref∧RowsAt H H2 ms (((List.range T.length).take i).map fun j=>(colAt T j).map V.int)) ⟨Same.refl _,⟨_,rfl⟩,[],rfl,RowsAt.nil⟩ ?_ ?_ ?_
    · rintro i ys τ H2 hi ⟨s2,_,ms,rfl,hR⟩
      refine ⟨trivial,?_⟩
      rw [List.length_map,hR.len,List.length_map,List.length_take]
      omega
    · rintro i x ys τ H2 hx ⟨s2,⟨v,rfl⟩,ms,rfl,hR⟩
      obtain ⟨hi,rfl⟩:=rng_at hx
      have hi':i < T.length:=by rw [el] at hi;simpa using hi
      refine ⟨_,rfl,_,rfl,l,ls,T,i,rfl,hT.mono s2,h8,fun r hr=>by rw [hj r hr];exact hi',fun d H3 s3 n3 e3=>?_⟩
      refine ⟨s2.trans s3,⟨_,rfl⟩,ms++[d],by rw [List.map_append];rfl,?_⟩
      rw [rng_take _ hi']
      exact hR.snoc s3 (s2.free n3) n3 e3
    · rintro ys τ H2 D ⟨s2,_,ms,rfl,hR⟩ hD
      have e5:(rngV 0 (Int.toNat (((ls.map V.ref).length:Nat):Int))).length=T.length:=by rw [rngV_length,el];simp
      rw [e5,take_rng] at hR
      refine k D ms _ (s2.trans (Same.add hD)) (s2.free hD) ⟨upd_same,?_,fun j a v e1 e2=>?_⟩
      · rw [hR.len,List.length_map,List.length_map]
      · refine Same.add hD _ _ (hR.at_ j a _ e1 ?_)
        rw [List.getElem?_map] at e2 ⊢
        cases e3:(List.range T.length)[j]? with
        | none=>rw [e3] at e2;cases e2
        | some m =>
          rw [e3] at e2
          cases e2
          rfl
def spPrs:Sp:=fun vs H Q _=>∃ (a b:Addr) (xs ys:List Int) (e1 e2:Nat),vs=[.ref a,.ref b]∧H a=some (.lst (xs.map V.int))∧H b=some (.lst (ys.map V.int))∧xs.length≤1000∧Bz e1 xs∧Bz e2 ys∧e1≤5000∧e2≤5000∧∀ H',Same H H'→Q (.int (dot xs ys)) H'
theorem scPrs:FnScope ["ones","others"] ["ones","others"] (defScope sPrs):=⟨rfl,rfl,rfl,by decide +kernel,rfl,by decide +kernel,by decide +kernel⟩
theorem nd_prs1:(["one","other"]:List Str).Nodup:=by decide +kernel
theorem ok_prs {f:Addr} {fd:FuncData} (F:Fun K "paired_sum" "paired_sum" sPrs f fd)
    (hzip:mg "zip" = none)
    (hsum:mg "sum" = none)
    : FnOk P w K mg base CX0 1 f fd ["ones","others"] spPrs:=by
  refine F.ok scPrs (fun vs H Q E h=>?_) (fun cdv A outer s H vs Q E hr h=>?_)
  · obtain ⟨a,b,xs,ys,e1,e2,rfl,_⟩:=h
    rfl
  · obtain ⟨a,b,xs,ys,e1,e2,rfl,ha,hb,h8,b1,b2,l1,l2,k⟩:=h
    refine ⟨_,(pss_one (ps_ret (pe_callB (call_sumK2 K rfl) (by rfl) hsum (by first | exact PySem.boot_sum | decide +kernel) (pa_cons (pe_comp (N':=["one","other"]) (ix:=[none,none]) rfl rfl (pi_zipK K rfl hzip (pa_cons (pv 0) (pa_cons (pv 1) pa_nil))) (fun _ _ _ _ _ _=>(pg_tupK K (n:=2) rfl (pgs_cons (pg_name (i:=0) nd_prs1 rfl (Or.inl rfl)) (pgs_cons (pg_name (i:=1) nd_prs1 rfl (Or.inl rfl)) pgs_nil)))) (fun _ _ _ _ _ _=>pts_nil) (fun _ _ _ _ _ _=>(pe_op op_mulB (pv 0) (pv 1)))) pa_nil)))),?_⟩
    refine ⟨_,rfl,_,rfl,a,b,rfl,⟨_,SqL.of ha⟩,⟨_,SqL.of hb⟩,?_⟩
    have elen:(((xs.map V.int).zip (ys.map V.int)).map fun p=>[p.1,p.2]).length=(List.zipWith (· * ·) xs ys).length:=by simp
    refine comp_all2 (Q:=fun x Ha=>rSum K [x] Ha Q) (τ0:=[none,none]) (sure_zip (xs:=xs.map V.int) (ys:=ys.map V.int)) (by simp;omega)
      (fun i zs τ H2=>Same H H2∧(∃ v u,τ=[v,u])∧zs=((List.zipWith (· * ·) xs ys).take i).map V.int) ⟨Same.refl _,⟨_,_,rfl⟩,rfl⟩ ?_ ?_ ?_
    · rintro i zs τ H2 hi ⟨s2,_,rfl⟩
      refine ⟨⟨SqL.of (s2 _ _ ha),SqL.of (s2 _ _ hb)⟩,?_⟩
      rw [List.length_map,List.length_take]
      omega
    · rintro i us zs τ H2 T hz ⟨s2,⟨v,u,rfl⟩,rfl⟩ hT
      rw [List.getElem?_map] at hz
      cases ez:((xs.map V.int).zip (ys.map V.int))[i]? with
      | none=>rw [ez] at hz;cases hz
      | some pr =>
        obtain ⟨px,py⟩:=pr
        rw [ez] at hz
        cases hz
        obtain ⟨q1,q2⟩:=List.getElem?_zip_eq_some.mp ez
        rw [List.getElem?_map] at q1 q2
        cases c1:xs[i]? with
        | none=>rw [c1] at q1;cases q1
        | some x =>
          cases c2:ys[i]? with
          | none=>rw [c2] at q2;cases q2
          | some y =>
            rw [c1] at q1
            rw [c2] at q2
            have q1':V.int x=px:=Option.some.inj q1
            have q2':V.int y=py:=Option.some.inj q2
            subst q1' q2'
            have k1:=Nat.le_trans (bits_abs (b1 x (List.mem_of_getElem? c1))) (Nat.le_trans l1 (show 5000≤2 ^ 20 by decide))
            have k2:=Nat.le_trans (bits_abs (b2 y (List.mem_of_getElem? c2))) (Nat.le_trans l2 (show 5000≤2 ^ 20 by decide))
            refine ⟨T,_,rfl,SqT.of upd_same,rfl,_,_,rfl,_,_,rfl,rfl,?_⟩
            refine ⟨_,rfl,_,rfl,_,_,rfl,rfl,⟨k1,k2⟩,s2.trans (Same.add hT),⟨_,_,rfl⟩,?_⟩
            have e3:(List.zipWith (· * ·) xs ys)[i]? = some (x * y):=by rw [List.getElem?_zipWith,c1,c2]
            rw [List.take_add_one,e3,List.map_append]
            rfl
    · rintro zs τ H2 D ⟨s2,_,rfl⟩ hD
      rw [elen,take_all]
      exact ⟨D,_,rfl,SqL.of upd_same,k _ (s2.trans (Same.add hD))⟩
def spOao:Sp:=fun vs H Q _=>∃ (a l:Addr) (ls:List Addr) (xs:List Int) (T:List (List Int)) (e1 e2:Nat),vs=[.ref a,.ref l]∧H a=some (.lst (xs.map V.int))∧TabV H l ls T∧xs.length≤1000∧T.length≤1000∧Bz e1 xs∧(∀ r∈T,Bz e2 r)∧e1≤5000∧e2≤5000 ∧
  ∀ d H',Same H H'→H d=none→H' d=some (.lst ((T.map fun r=>dot xs r).map V.int))→Q (.ref d) H'
theorem scOao:FnScope ["line","sources"] ["line","sources"] (defScope sOao):=⟨rfl,rfl,rfl,by decide +kernel,rfl,by decide +kernel,by decide +kernel⟩
theorem nd_oao1:(["source","line"]:List Str).Nodup:=by decide +kernel
theorem ok_oao {f fPrs:Addr} {fd fdPrs:FuncData} (F:Fun K "one_age_on" "one_age_on" sOao f fd)
    (GPrs:FnOk P w K mg base CX0 1 fPrs fdPrs ["ones","others"] spPrs)
    (gPrs:Gf K mg "paired_sum" fPrs fdPrs ["ones","others"])
    : FnOk P w K mg base CX0 2 f fd ["line","sources"] spOao:=by
  refine F.ok scOao (fun vs H Q E h=>?_) (fun cdv A outer s H vs Q E hr h=>?_)
  · obtain ⟨a,l,ls,xs,T,e1,e2,rfl,_⟩:=h
    rfl
  · obtain ⟨a,l,ls,xs,T,e1,e2,rfl,ha,hT,h8,h9,b1,b2,l1,l2,k⟩:=h
    refine ⟨_,(pss_one (ps_ret (pe_comp (N':=["source","line"]) (ix:=[none,some 0]) rfl rfl (pi_listK K (pv 1)) (fun _ _ _ _ _ _=>(pg_name (i:=0) nd_oao1 rfl (Or.inl rfl))) (fun _ _ _ _ _ _=>pts_nil) (fun _ _ _ _ _ _=>(pe_call GPrs hr rfl gPrs.m gPrs.k gPrs.b .nil pass0 (pa_cons (pv 1) (pa_cons (pv 0) pa_nil))))))),?_⟩
    have el:(ls.map V.ref).length=T.length:=by rw [List.length_map,hT.len]
    refine ⟨_,rfl,l,rfl,⟨_,SqL.of hT.top⟩,comp_allR (τ0:=[none,some (V.ref a)]) (sure_list (xs:=ls.map V.ref)) (by rw [el];omega)
      (fun j zs τ H6=>Same H H6∧(∃ v,τ=[v,some (.ref a)])∧zs=((T.take j).map fun r=>dot xs r).map V.int) ⟨Same.refl _,⟨_,rfl⟩,rfl⟩ ?_ ?_ ?_⟩
    · rintro j zs τ H6 hj ⟨s6,_,rfl⟩
      refine ⟨SqL.of (s6 _ _ hT.top),?_⟩
      rw [List.length_map,List.length_map,List.length_take]
      omega
    · rintro j x zs τ H6 hx2 ⟨s6,⟨v,rfl⟩,rfl⟩
      rw [List.getElem?_map] at hx2
      cases c1:ls[j]? with
      | none=>rw [c1] at hx2;cases hx2
      | some b =>
        rw [c1] at hx2
        cases hx2
        obtain ⟨r,c2,hb⟩:=hT.get' c1
        refine ⟨_,rfl,_,rfl,a,b,xs,r,e1,e2,rfl,s6 _ _ ha,s6 _ _ hb,h8,b1,b2 r (List.mem_of_getElem? c2),l1,l2,fun H7 s7=>⟨s6.trans s7,⟨_,rfl⟩,?_⟩⟩
        rw [take_snoc (fun r=>dot xs r) c2,List.map_append]
        rfl
    · rintro zs τ H6 Dn ⟨s6,_,rfl⟩ hDn
      refine k Dn _ (s6.trans (Same.add hDn)) (s6.free hDn) ?_
      rw [upd_same,el,take_all]
end
end Lw
namespace Lw
open PySem L2
section
variable {P:Program} {w:World} {K:PySem.W.Frag} {mg:Str→Option Value} {base:Heap}
def spNag:Sp:=fun vs H Q _=>∃ n:Nat,vs=[.int (n:Int)]∧n≤300∧Q .non H
theorem scNag:FnScope ["age"] ["age"] (defScope sNag):=⟨rfl,rfl,rfl,by decide +kernel,rfl,by decide +kernel,by decide +kernel⟩
theorem ok_nag {f fWin:Addr} {fd fdWin:FuncData} (F:Fun K "need_age" "need_age" sNag f fd)
    (GWin:FnOk P w K mg base CX0 2 fWin fdWin ["thing","least","most"] spWin)
    (gWin:Gf K mg "is_within" fWin fdWin ["thing","least","most"])
    {tkLAST_AGE:Tok} (hLAST_AGE:mg "LAST_AGE" = some (.int 300 tkLAST_AGE))
    : FnOk P w K mg base CX0 3 f fd ["age"] spNag:=by
  refine F.ok scNag (fun vs H Q E h=>?_) (fun cdv A outer s H vs Q E hr h=>?_)
  · obtain ⟨n,rfl,_⟩:=h
    rfl
  · obtain ⟨n,rfl,hn,k⟩:=h
    refine ⟨_,(pss_one (ps_if (pt_not (pt_val (pe_call GWin hr rfl gWin.m gWin.k gWin.b .nil pass0 (pa_cons (pv 0) (pa_cons pe_int (pa_cons (pe_glob (v:=.int 300) (by rfl) hLAST_AGE ⟨_,rfl⟩) pa_nil)))))) pss_never pss_nil)),?_⟩
    refine ⟨_,rfl,(n:Int),0,300,rfl,by omega,by omega,_,rfl,?_⟩
    exact iteF k
def spFcs:Sp:=fun vs H Q _=>∃ (t:Addr) (first:List Nat) (rs:List Rule) (m:Nat),vs=[.ref t,.int (m:Int)]∧BookAt H t first rs∧Good first rs∧m≤700 ∧
  ∀ d ms H',Same H H'→H d=none→(∀ x∈ms,H x=none)→TabV H' d ms ((List.range m).map (cntN rs.length (tabI rs) (c0 rs first)))→Q (.ref d) H'
theorem scFcs:FnScope ["book","many","sources","told"] ["book","many"] (defScope sFcs):=⟨rfl,rfl,rfl,by decide +kernel,rfl,by decide +kernel,by decide +kernel⟩
theorem ok_fcs {f fCls fTab fTal fOao:Addr} {fd fdCls fdTab fdTal fdOao:FuncData} (F:Fun K "first_counts" "first_counts" sFcs f fd)
    (GCls:FnOk P w K mg base CX0 2 fCls fdCls ["lines"] spCls)
    (gCls:Gf K mg "columns" fCls fdCls ["lines"])
    (GTab:FnOk P w K mg base CX0 4 fTab fdTab ["book"] spTab)
    (gTab:Gf K mg "table" fTab fdTab ["book"])
    (GTal:FnOk P w K mg base CX0 3 fTal fdTal ["book","text"] spTal)
    (gTal:Gf K mg "tally" fTal fdTal ["book","text"])
    (GOao:FnOk P w K mg base CX0 2 fOao fdOao ["line","sources"] spOao)
    (gOao:Gf K mg "one_age_on" fOao fdOao ["line","sources"])
    (hlen:mg "len" = none)
    : FnOk P w K mg base CX0 5 f fd ["book","many"] spFcs:=by
  refine F.ok scFcs (fun vs H Q E h=>?_) (fun cdv A outer s H vs Q E hr h=>?_)
  · obtain ⟨t,first,rs,m,rfl,_⟩:=h
    rfl
  · obtain ⟨t,first,rs,m,rfl,hB,hG,hm,k⟩:=h
    have hr2:Room 2 _:=hr.mono (by decide)
    have hr3:Room 3 _:=hr.mono (by decide)
    refine ⟨_,(pss_cons (ps_set (i:=2) scFcs.nd rfl (Or.inl rfl) (pe_call GCls hr2 rfl gCls.m gCls.k gCls.b .nil pass0 (pa_cons (pe_call GTab hr rfl gTab.m gTab.k gTab.b .nil pass0 (pa_cons (pv 0) pa_nil)) pa_nil)))
      (pss_cons (ps_set (i:=3) scFcs.nd rfl (Or.inl rfl) (pe_lst (pa_cons (pe_call GTal hr3 rfl gTal.m gTal.k gTal.b .nil pass0 (pa_cons (pv 0) (pa_cons (pe_ix (ix_tupK K) (pv 0) pe_int (fun _ _=>rfl)) pa_nil))) pa_nil)))
      (pss_cons (ps_while PassesOwn.never (pt_cmpR op_lt (pe_callB (call_lenK K) (by rfl) hlen PySem.boot_len (pa_cons (pv 3) pa_nil)) (pv 1) (nomark _)) (pss_one (ps_expr (pe_bmK K PySem.F.plainAttrs_list PySem.F.slot_list_append PySem.F.type_list_append mt_append (pv 3) (pa_cons (pe_call GOao hr2 rfl gOao.m gOao.k gOao.b .nil pass0 (pa_cons (pe_ix (ix_listK K) (pv 3) (pe_un un_neg pe_int) (fun _ _=>rfl)) (pa_cons (pv 2) pa_nil))) pa_nil)))))
      (pss_one (ps_ret (pe_slice (sl_listK K) (pv 3) po_none (po_some (pv 1)))))))),?_⟩
    have hfew:=hG.few
    have kl:=c0_len rs first
    have cb:=cntN_bd hG.few (col_sm fun r hr=>tabI_sm hG hr) kl (c0_bd hG)
    obtain ⟨r,ps,b1,b2,b3⟩:=hB.ex
    refine ⟨_,rfl,t,first,rs,rfl,hB,hG.few,fun l0 ls0 H1 s1 hT=>?_⟩
    refine ⟨l0,ls0,tabI rs,rfl,hT.v,by rw [tabI_len];omega,fun r hr=>by rw [tabI_row hr,tabI_len],fun D ms H2 s2 n2 hC=>?_⟩
    rw [tabI_len] at hC
    have s02:=s1.trans s2
    refine ⟨_,rfl,_,rfl,t,_,_,_,rfl,rfl,SqT.of (s02 _ _ b1),atI_nat (j:=0) rfl,t,first,rs,first,rfl,hB.mono (TupS.same s02),hG.few,fun d0 H3 s3 n3 e3=>?_⟩
    rw [cnts_eq] at e3
    refine ⟨(by show 1≤sizeLine;decide),fun l hl=>?_⟩
    have nd0:d0≠l:=ne_of_none e3 hl
    have s23:Same H2 (upd H3 l (.lst [V.ref d0])):=s3.trans (Same.add hl)
    have nl:H2 l=none:=s3.free hl
    refine ⟨fun q σ H5=>∃ (j:Nat) (ls:List Addr),σ=[some (.ref t),some (.int (m:Int)),some (.ref D),some (.ref l)]∧q=m - (j+1)∧(j+1≤m∨j=0)∧Same H2 H5∧l ∉ ls∧(∀ x∈ls,H x=none)∧TabV H5 l ls ((List.range (j+1)).map (cntN rs.length (tabI rs) (c0 rs first))),
      ⟨_,0,[d0],rfl,rfl,.inr rfl,s23,(by simp;exact fun z=>nd0 z.symm),(fun x hx=>(List.mem_singleton.mp hx).symm ▸ s02.free n3),⟨upd_same,rfl,fun i a v e1 e2=>?_⟩⟩,?_⟩
    · cases i with
      | succ i=>simp at e1
      | zero =>
        cases e1
        cases e2
        exact upd_in e3 nd0
    · rintro q σ H5 ⟨j,ls,rfl,rfl,hj,s5,hlo,hfr,hTl⟩
      have ln:(ls.map V.ref).length=j+1:=by rw [List.length_map,hTl.len,List.length_map,List.length_range]
      refine ⟨_,rfl,l,_,rfl,.inl (SqL.of hTl.top),_,rfl,_,_,rfl,rfl,_,rfl,?_⟩
      refine ite2 (fun hc=>?_) (fun hc=>?_)
      · have hlt:j+1 < m:=by
          have:=of_decide_eq_true hc
          rw [ln] at this
          omega
        refine ⟨fun σ' H'=>∃ ls':List Addr,σ'=[some (.ref t),some (.int (m:Int)),some (.ref D),some (.ref l)]∧Same H2 H'∧l ∉ ls'∧(∀ x∈ls',H x=none)∧TabV H' l ls' ((List.range (j+1+1)).map (cntN rs.length (tabI rs) (c0 rs first))),
          fun σ' H' ⟨ls',e,a1,a2,a3,a4⟩=>⟨m - (j+1+1),by omega,j+1,ls',e,rfl,.inl (by omega),a1,a2,a3,a4⟩,?_⟩
        obtain ⟨a,ha,hv⟩:=hTl.get (i:=j) (v:=cntN rs.length (tabI rs) (c0 rs first) j) (by rw [List.getElem?_map,List.getElem?_range (by omega)];rfl)
        refine ⟨_,rfl,.inl ⟨rfl,_,SqL.of hTl.top⟩,_,rfl,_,rfl,l,_,_,_,rfl,rfl,SqL.of hTl.top,atI_last ln (by rw [List.getElem?_map,ha];rfl),_,rfl,?_⟩
        refine ⟨a,D,ms,_,_,4+6 * j,3,rfl,hv,hC.mono s5,by rw [cntN_len kl];omega,by rw [List.length_map,List.length_range];omega,(cb j).z,fun r hr=>?_,by omega,by omega,fun d H6 s6 n6 e6=>?_⟩
        · obtain ⟨i,_,rfl⟩:=List.mem_map.mp hr
          exact (col_sm (fun r hr=>tabI_sm hG hr) i).bd.z
        · have hl6:=s6 _ _ hTl.top
          have ndl:d≠l:=(ne_of_none hTl.top n6).symm
          refine ⟨l,_,_,rfl,rfl,hl6,small1000 (by rw [ln];omega),ls++[d],rfl,fun c o hc=>?_,?_,?_,?_⟩
          · exact upd_in (s6 _ _ (s5 _ _ hc)) (ne_of_none hc nl)
          · intro z
            rcases List.mem_append.mp z with z | z
            · exact hlo z
            · have z':l=d:=by simpa using z
              exact ndl z'.symm
          · intro x hx
            rcases List.mem_append.mp hx with z | z
            · exact hfr x z
            · have z':x=d:=by simpa using z
              rw [z'];exact s02.free (s5.free n6)
          · rw [List.range_succ,List.map_append]
            refine hTl.snoc (fun a ha o ho=>upd_in (s6 _ _ ho) fun z=>hlo (by rw [← z];exact ha)) upd_same ?_
            rw [upd_ne ndl,e6,step_cols]
            rfl
      · have hge:m≤j+1:=by
          have h2:¬ ((j+1:Nat):Int) < (m:Int):=fun z=>hc (decide_eq_true (by rw [ln];exact z))
          omega
        refine ⟨_,rfl,_,rfl,_,rfl,l,_,rfl,SqL.of hTl.top,fun p hp=>?_⟩
        rw [cut_take]
        refine k p (ls.take m) _ (s02.trans (s5.trans (Same.add hp))) (s02.free (s5.free hp)) (fun x hx=>hfr x (List.mem_of_mem_take hx)) ?_
        have:=TabV.take (H':=upd H5 p (.lst ((ls.map V.ref).take m))) m hTl (Same.add hp) upd_same
        rw [← List.map_take (l:=List.range (j+1)),List.take_range,Nat.min_eq_left hge] at this
        exact this
def spCou:Sp:=fun vs H Q _=>∃ (t:Addr) (first:List Nat) (rs:List Rule) (n:Nat),vs=[.ref t,.int (n:Int)]∧BookAt H t first rs∧Good first rs∧n≤300 ∧
  ∀ d H',Same H H'→H d=none→H' d=some (.lst ((cntN rs.length (tabI rs) (c0 rs first) n).map V.int))→Q (.ref d) H'
theorem scCou:FnScope ["book","age"] ["book","age"] (defScope sCou):=⟨rfl,rfl,rfl,by decide +kernel,rfl,by decide +kernel,by decide +kernel⟩
theorem ok_cou {f fNag fFcs:Addr} {fd fdNag fdFcs:FuncData} (F:Fun K "counts" "counts" sCou f fd)
    (GNag:FnOk P w K mg base CX0 3 fNag fdNag ["age"] spNag)
    (gNag:Gf K mg "need_age" fNag fdNag ["age"])
    (GFcs:FnOk P w K mg base CX0 5 fFcs fdFcs ["book","many"] spFcs)
    (gFcs:Gf K mg "first_counts" fFcs fdFcs ["book","many"])
    : FnOk P w K mg base CX0 6 f fd ["book","age"] spCou:=by
  refine F.ok scCou (fun vs H Q E h=>?_) (fun cdv A outer s H vs Q E hr h=>?_)
  · obtain ⟨t,first,rs,n,rfl,_⟩:=h
    rfl
  · obtain ⟨t,first,rs,n,rfl,hB,hG,hn,k⟩:=h
    have hr3:Room 3 _:=hr.mono (by decide)
    refine ⟨_,(pss_cons (ps_expr (pe_call GNag hr3 rfl gNag.m gNag.k gNag.b .nil pass0 (pa_cons (pv 1) pa_nil)))
      (pss_one (ps_ret (pe_ix (ix_listK K) (pe_call GFcs hr rfl gFcs.m gFcs.k gFcs.b .nil pass0 (pa_cons (pv 0) (pa_cons (pe_op op_add (pv 1) pe_int) pa_nil))) (pv 1) (fun _ _=>rfl))))),?_⟩
    refine ⟨_,rfl,n,rfl,hn,?_⟩
    refine ⟨_,rfl,_,rfl,_,_,rfl,rfl,t,first,rs,n+1,by push_cast;rfl,hB,hG,by omega,fun d ms H' s' n' hfr hT=>?_⟩
    obtain ⟨a,e1,e2⟩:=hT.get (i:=n) (v:=cntN rs.length (tabI rs) (c0 rs first) n) (by rw [List.getElem?_map,List.getElem?_range (by omega)];rfl)
    refine ⟨_,rfl,d,_,_,_,rfl,rfl,SqL.of hT.top,atI_nat (by rw [List.getElem?_map,e1];rfl),k a H' s' (hfr a (List.mem_of_getElem? e1)) e2⟩
def spLng:Sp:=fun vs H Q _=>∃ (t:Addr) (first:List Nat) (rs:List Rule) (n:Nat),vs=[.ref t,.int (n:Int)]∧BookAt H t first rs∧Good first rs∧n≤300 ∧
  ∀ H',Same H H'→Q (.int (cntN rs.length (tabI rs) (c0 rs first) n).sum) H'
theorem scLng:FnScope ["book","age"] ["book","age"] (defScope sLng):=⟨rfl,rfl,rfl,by decide +kernel,rfl,by decide +kernel,by decide +kernel⟩
theorem ok_lng {f fCou:Addr} {fd fdCou:FuncData} (F:Fun K "length" "length" sLng f fd)
    (GCou:FnOk P w K mg base CX0 6 fCou fdCou ["book","age"] spCou)
    (gCou:Gf K mg "counts" fCou fdCou ["book","age"])
    (hsum:mg "sum" = none)
    : FnOk P w K mg base CX0 7 f fd ["book","age"] spLng:=by
  refine F.ok scLng (fun vs H Q E h=>?_) (fun cdv A outer s H vs Q E hr h=>?_)
  · obtain ⟨t,first,rs,n,rfl,_⟩:=h
    rfl
  · obtain ⟨t,first,rs,n,rfl,hB,hG,hn,k⟩:=h
    refine ⟨_,(pss_one (ps_ret (pe_callB (call_sumK2 K rfl) (by rfl) hsum (by first | exact PySem.boot_sum | decide +kernel) (pa_cons (pe_call GCou hr rfl gCou.m gCou.k gCou.b .nil pass0 (pa_cons (pv 0) (pa_cons (pv 1) pa_nil))) pa_nil)))),?_⟩
    exact ⟨_,rfl,_,rfl,t,first,rs,n,rfl,hB,hG,hn,fun d H' s' _ e=>⟨d,_,rfl,SqL.of e,k H' s'⟩⟩
def lenC (rs:List Rule) (x:List Nat):Nat→Int:=fun n=>(cntN rs.length (tabI rs) (c0 rs x) n).sum
def spFls:Sp:=fun vs H Q _=>∃ (t:Addr) (first:List Nat) (rs:List Rule) (m:Nat),vs=[.ref t,.int (m:Int)]∧BookAt H t first rs∧Good first rs∧m≤700 ∧
  ∀ d H',Same H H'→H d=none→H' d=some (.lst (((List.range m).map (lenC rs first)).map V.int))→Q (.ref d) H'
theorem scFls:FnScope ["book","many"] ["book","many"] (defScope sFls):=⟨rfl,rfl,rfl,by decide +kernel,rfl,by decide +kernel,by decide +kernel⟩
theorem nd_fls1:(["line"]:List Str).Nodup:=by decide +kernel
theorem ok_fls {f fFcs:Addr} {fd fdFcs:FuncData} (F:Fun K "first_lengths" "first_lengths" sFls f fd)
    (GFcs:FnOk P w K mg base CX0 5 fFcs fdFcs ["book","many"] spFcs)
    (gFcs:Gf K mg "first_counts" fFcs fdFcs ["book","many"])
    (hsum:mg "sum" = none)
    : FnOk P w K mg base CX0 6 f fd ["book","many"] spFls:=by
  refine F.ok scFls (fun vs H Q E h=>?_) (fun cdv A outer s H vs Q E hr h=>?_)
  · obtain ⟨t,first,rs,m,rfl,_⟩:=h
    rfl
  · obtain ⟨t,first,rs,m,rfl,hB,hG,hm,k⟩:=h
    refine ⟨_,(pss_one (ps_ret (pe_comp (N':=["line"]) (ix:=[none]) rfl rfl (pi_listK K (pe_call GFcs hr rfl gFcs.m gFcs.k gFcs.b .nil pass0 (pa_cons (pv 0) (pa_cons (pv 1) pa_nil)))) (fun _ _ _ _ _ _=>(pg_name (i:=0) nd_fls1 rfl (Or.inl rfl))) (fun _ _ _ _ _ _=>pts_nil) (fun _ _ _ _ _ _=>(pe_callB (call_sumK2 K rfl) (by rfl) hsum (by first | exact PySem.boot_sum | decide +kernel) (pa_cons (pv 0) pa_nil)))))),?_⟩
    refine ⟨_,rfl,_,rfl,t,first,rs,m,rfl,hB,hG,hm,fun d ms H1 s1 n1 hfr hT=>⟨d,rfl,⟨_,SqL.of hT.top⟩,?_⟩⟩
    have el:(ms.map V.ref).length=m:=by rw [List.length_map,hT.len,List.length_map,List.length_range]
    refine comp_allR (τ0:=[none]) (sure_list (xs:=ms.map V.ref)) (by rw [el];omega)
      (fun j zs τ H6=>H6=H1∧(∃ v,τ=[v])∧zs=(((List.range m).take j).map (lenC rs first)).map V.int) ⟨rfl,⟨_,rfl⟩,rfl⟩ ?_ ?_ ?_
    · rintro j zs τ H6 hj ⟨rfl,_,rfl⟩
      refine ⟨SqL.of hT.top,?_⟩
      rw [List.length_map,List.length_map,List.length_take,List.length_range]
      omega
    · rintro j x zs τ H6 hx2 ⟨rfl,⟨v,rfl⟩,rfl⟩
      rw [List.getElem?_map] at hx2
      cases c1:ms[j]? with
      | none=>rw [c1] at hx2;cases hx2
      | some b =>
        rw [c1] at hx2
        cases hx2
        obtain ⟨r,c2,hb⟩:=hT.get' c1
        have hj:j < m:=by
          have:=(List.getElem?_eq_some_iff.mp c1).1
          rw [List.length_map] at el
          omega
        have er:r=cntN rs.length (tabI rs) (c0 rs first) j:=by
          rw [List.getElem?_map,List.getElem?_range hj] at c2
          exact (Option.some.inj c2).symm
        refine ⟨_,rfl,b,_,rfl,SqL.of hb,rfl,⟨_,rfl⟩,?_⟩
        rw [take_snoc (lenC rs first) (List.getElem?_range hj),List.map_append,er]
        rfl
    · rintro zs τ H6 D ⟨rfl,_,rfl⟩ hD
      rw [el,show (List.range m).take m=List.range m from List.take_of_length_le (by rw [List.length_range];omega)]
      exact k D _ (s1.trans (Same.add hD)) (s1.free hD) upd_same
def spSta:Sp:=fun vs H Q _=>∃ (t1 t2:Addr) (x1 x2:List Nat) (rs1 rs2:List Rule),vs=[.ref t1,.ref t2]∧BookAt H t1 x1 rs1∧BookAt H t2 x2 rs2∧Q (.int ((rs1.length:Int)+(rs2.length:Int))) H
theorem scSta:FnScope ["one","other"] ["one","other"] (defScope sSta):=⟨rfl,rfl,rfl,by decide +kernel,rfl,by decide +kernel,by decide +kernel⟩
theorem ok_sta {f:Addr} {fd:FuncData} (F:Fun K "settling_ages" "settling_ages" sSta f fd)
    (hlen:mg "len" = none)
    : FnOk P w K mg base CX0 1 f fd ["one","other"] spSta:=by
  refine F.ok scSta (fun vs H Q E h=>?_) (fun cdv A outer s H vs Q E hr h=>?_)
  · obtain ⟨t1,t2,x1,x2,rs1,rs2,rfl,_⟩:=h
    rfl
  · obtain ⟨t1,t2,x1,x2,rs1,rs2,rfl,h1,h2,k⟩:=h
    refine ⟨_,(pss_one (ps_ret (pe_op op_add (pe_callB (call_lenK K) (by rfl) hlen PySem.boot_len (pa_cons (pe_ix (ix_tupK K) (pv 0) pe_int (fun _ _=>rfl)) pa_nil)) (pe_callB (call_lenK K) (by rfl) hlen PySem.boot_len (pa_cons (pe_ix (ix_tupK K) (pv 1) pe_int (fun _ _=>rfl)) pa_nil))))),?_⟩
    obtain ⟨r1,ps1,a1,a2,a3⟩:=h1.ex
    obtain ⟨r2,ps2,b1,b2,b3⟩:=h2.ex
    refine ⟨_,rfl,t1,_,_,_,rfl,rfl,SqT.of a1,atI_nat (j:=1) rfl,r1,_,rfl,.inr (SqT.of a2),_,rfl,t2,_,_,_,rfl,rfl,SqT.of b1,atI_nat (j:=1) rfl,r2,_,rfl,.inr (SqT.of b2),_,_,rfl,rfl,?_⟩
    rw [List.length_map,List.length_map,a3.len,b3.len]
    exact k
end
end Lw
namespace Lw
open PySem L2 PyProof.Rows
def cutN (cs:List Nat) (lo hi:Option Int):List Nat:=(cs.drop (HT.sIx cs.length 0 lo)).take (HT.sIx cs.length cs.length hi - HT.sIx cs.length 0 lo)
theorem cut_sign (cs:List Nat) (lo hi:Option Int):cutV (cs.map sign) lo hi=(cutN cs lo hi).map sign:=by
  unfold cutV cutN
  rw [List.length_map,List.map_take,List.map_drop]
theorem cutN_in {cs:List Nat} {lo hi:Option Int} {c:Nat} (h:c∈cutN cs lo hi):c∈cs:=List.mem_of_mem_drop (List.mem_of_mem_take h)
theorem cutN_len (cs:List Nat) (lo hi:Option Int):(cutN cs lo hi).length≤cs.length:=by
  unfold cutN
  rw [List.length_take,List.length_drop]
  omega
theorem tx_app (a b:List Nat):((⟨a.toArray⟩:Str)++(⟨b.toArray⟩:Str))=⟨(a++b).toArray⟩:=by
  show (⟨a.toArray++b.toArray⟩:Str)=_
  congr 1
  apply Array.ext'
  simp
structure ClsK (K:PySem.W.Frag) (C:Addr):Prop where
  cls:(PySem.W.clsIn K C).isSome=true
  nt:PySem.W.instIn K (.ref C) (.type "tuple")=some false
  bexc:PySem.W.mroIn K C (.type "BaseException")=some true
  ty:PySem.W.typeIn K (.ref C)=some (.type "type")
abbrev kvw (rs:List Rule):List (Key × V):=rs.map fun q=>((Sum.inr (one q.1):Key),tx q.2)
theorem kvw_keys (rs:List Rule):(kvw rs).map (·.1)=(ltr rs).map fun c=>(Sum.inr (one c):Key):=by
  unfold kvw ltr
  rw [List.map_map,List.map_map]
  rfl
theorem kvw_val:∀ {rs:List Rule} {q:Rule},(ltr rs).Nodup→q∈rs→valV (kvw rs) (Sum.inr (one q.1):Key)=some (tx q.2)
  | [],_,_,h=>by simp at h
  | p :: rs,q,nd,h=>by
    have nd':=List.nodup_cons.mp (show (p.1 :: ltr rs).Nodup from nd)
    unfold valV
    show Option.map _ (List.find? _ (((Sum.inr (one p.1):Key),tx p.2) :: kvw rs))=_
    rcases List.mem_cons.mp h with z | z
    · subst z
      rw [List.find?_cons_of_pos]
      · rfl
      · exact decide_eq_true rfl
    · rw [List.find?_cons_of_neg]
      · exact kvw_val nd'.2 z
      · intro y
        have y':(Sum.inr (one p.1):Key)=Sum.inr (one q.1):=of_decide_eq_true y
        exact nd'.1 (by rw [one_inj (Sum.inr.inj y')];exact List.mem_map_of_mem z)
theorem szl {n:Nat} (h:n≤1000):n≤sizeLine:=Nat.le_trans h (by decide)
theorem kvw_wd {rs:List Rule} {c:Nat} (nd:(ltr rs).Nodup) (h:c∈ltr rs):valV (kvw rs) (Sum.inr (one c):Key)=some (tx (wd rs c)):=by
  obtain ⟨q,h1,h2,h3⟩:=wd_mem h
  rw [h3,← h2]
  exact kvw_val nd h1
theorem kvw_none {rs:List Rule} {c:Nat} (h:c ∉ ltr rs):valV (kvw rs) (Sum.inr (one c):Key)=none:=by
  unfold valV
  rw [List.find?_eq_none.mpr fun p hp=>?_]
  · rfl
  · obtain ⟨q,hq,rfl⟩:=List.mem_map.mp hp
    intro z
    have z':(Sum.inr (one q.1):Key)=Sum.inr (one c):=of_decide_eq_true z
    exact h (List.mem_map.mpr ⟨q,hq,one_inj (Sum.inr.inj z')⟩)
theorem wd_in {first:List Nat} {rs:List Rule} (hG:Good first rs) {c:Nat} (h:c∈ltr rs):∀ d∈wd rs c,d∈ltr rs:=by
  obtain ⟨q,h1,h2,h3⟩:=wd_mem h
  rw [h3]
  exact hG.win q h1
theorem wd_le {first:List Nat} {rs:List Rule} (hG:Good first rs) {c:Nat} (h:c∈ltr rs):(wd rs c).length≤6:=by
  obtain ⟨q,h1,h2,h3⟩:=wd_mem h
  rw [h3]
  exact hG.wl q h1
def Rch (rs:List Rule) (x:List Nat) (c:Nat):Prop:=∃ m,c∈rowN rs x m
theorem nxt_mem {rs:List Rule} {x:List Nat} {e:Nat}:e∈nxt rs x ↔ ∃ c∈x,e∈wd rs c:=by
  unfold nxt
  rw [List.mem_flatten]
  constructor
  · rintro ⟨l,hl,he⟩
    obtain ⟨c,hc,rfl⟩:=List.mem_map.mp hl
    exact ⟨c,hc,he⟩
  · rintro ⟨c,hc,he⟩
    exact ⟨_,List.mem_map.mpr ⟨c,hc,rfl⟩,he⟩
theorem Rch.step {rs:List Rule} {x:List Nat} {c e:Nat} (h:Rch rs x c) (he:e∈wd rs c):Rch rs x e:=by
  obtain ⟨m,hm⟩:=h
  exact ⟨m+1,nxt_mem.mpr ⟨c,hm,he⟩⟩
theorem rch_closed {rs:List Rule} {x fs:List Nat} (h0:∀ c∈x,c∈fs) (h1:∀ c∈fs,∀ e∈wd rs c,e∈fs):∀ m,∀ c∈rowN rs x m,c∈fs
  | 0,c,hc=>h0 c hc
  | m+1,c,hc=>by
    obtain ⟨d,hd,he⟩:=nxt_mem.mp hc
    exact h1 d (rch_closed h0 h1 m d hd) c he
structure Srch (rs:List Rule) (x fs ws:List Nat):Prop where
  nd:fs.Nodup
  inf:∀ c∈fs,c∈ltr rs
  inw:∀ c∈ws,c∈ltr rs
  rf:∀ c∈fs,Rch rs x c
  rw:∀ c∈ws,Rch rs x c
  all:∀ c∈x,c∈fs∨c∈ws
  cl:∀ c∈fs,∀ e∈wd rs c,e∈fs∨e∈ws
  le:ws.length≤x.length+6 * fs.length
theorem Srch.start {rs:List Rule} {x:List Nat} (h:∀ c∈x,c∈ltr rs):Srch rs x [] x where
  nd:=List.nodup_nil
  inf:=by intro c hc;cases hc
  inw:=h
  rf:=by intro c hc;cases hc
  rw:=fun c hc=>⟨0,hc⟩
  all:=fun c hc=>.inr hc
  cl:=by intro c hc;cases hc
  le:=by simp
theorem Srch.old {rs:List Rule} {x fs ws:List Nat} {c:Nat} (h:Srch rs x fs (c :: ws)) (hc:c∈fs):Srch rs x fs ws:=by
  refine ⟨h.nd,h.inf,fun e he=>h.inw e (List.mem_cons_of_mem _ he),h.rf,fun e he=>h.rw e (List.mem_cons_of_mem _ he),fun e he=>?_,fun d hd e he=>?_,by have:=h.le;rw [List.length_cons] at this;omega⟩
  · rcases h.all e he with z | z
    · exact .inl z
    · rcases List.mem_cons.mp z with rfl | z
      · exact .inl hc
      · exact .inr z
  · rcases h.cl d hd e he with z | z
    · exact .inl z
    · rcases List.mem_cons.mp z with rfl | z
      · exact .inl hc
      · exact .inr z
theorem Srch.new {first:List Nat} {rs:List Rule} (hG:Good first rs) {x fs ws:List Nat} {c:Nat} (h:Srch rs x fs (c :: ws)) (hc:c ∉ fs):Srch rs x (fs++[c]) (ws++wd rs c):=by
  have hcl:=h.inw c List.mem_cons_self
  have hcr:=h.rw c List.mem_cons_self
  have in':∀ {e},e∈fs∨e∈c :: ws→e∈fs++[c]∨e∈ws++wd rs c:=fun z=>by
    rcases z with z | z
    · exact .inl (List.mem_append_left _ z)
    · rcases List.mem_cons.mp z with rfl | z
      · exact .inl (List.mem_append_right _ List.mem_cons_self)
      · exact .inr (List.mem_append_left _ z)
  refine ⟨?_,fun e he=>?_,fun e he=>?_,fun e he=>?_,fun e he=>?_,fun e he=>in' (h.all e he),fun d hd e he=>?_,?_⟩
  · refine List.nodup_append.mpr ⟨h.nd,by simp,fun a ha b hb e=>?_⟩
    have:b=c:=List.mem_singleton.mp hb
    rw [e,this] at ha
    exact hc ha
  · rcases List.mem_append.mp he with z | z
    · exact h.inf e z
    · rw [List.mem_singleton.mp z];exact hcl
  · rcases List.mem_append.mp he with z | z
    · exact h.inw e (List.mem_cons_of_mem _ z)
    · exact wd_in hG hcl e z
  · rcases List.mem_append.mp he with z | z
    · exact h.rf e z
    · rw [List.mem_singleton.mp z];exact hcr
  · rcases List.mem_append.mp he with z | z
    · exact h.rw e (List.mem_cons_of_mem _ z)
    · exact hcr.step z
  · rcases List.mem_append.mp hd with z | z
    · exact in' (h.cl d z e he)
    · rw [List.mem_singleton.mp z] at he
      exact .inr (List.mem_append_right _ he)
  · have h1:=h.le
    have h2:=wd_le hG hcl
    rw [List.length_cons] at h1
    rw [List.length_append,List.length_append,List.length_singleton]
    omega
theorem Srch.done {rs:List Rule} {x fs:List Nat} (h:Srch rs x fs []) (c:Nat):c∈fs ↔ Rch rs x c:=by
  constructor
  · exact h.rf c
  · rintro ⟨m,hm⟩
    refine rch_closed (fun e he=>?_) (fun d hd e he=>?_) m c hm
    · rcases h.all e he with z | z
      · exact z
      · cases z
    · rcases h.cl d hd e he with z | z
      · exact z
      · cases z
abbrev dkF (L:List Nat) (g:Nat→Int):List (Key × V):=L.map fun c=>((Sum.inr (one c):Key),V.int (g c))
theorem dkF_val {g:Nat→Int}:∀ {L:List Nat} {c:Nat},c∈L→valV (dkF L g) (Sum.inr (one c):Key)=some (V.int (g c))
  | [],c,h=>by cases h
  | e :: L,c,h=>by
    show Option.map _ (List.find? _ (((Sum.inr (one e):Key),V.int (g e)) :: dkF L g))=_
    by_cases z:e=c
    · subst z
      rw [List.find?_cons_of_pos (by exact decide_eq_true rfl)]
      rfl
    · rw [List.find?_cons_of_neg]
      · exact dkF_val ((List.mem_cons.mp h).resolve_left fun y=>z y.symm)
      · intro y
        have y':(Sum.inr (one e):Key)=Sum.inr (one c):=of_decide_eq_true y
        exact z (one_inj (Sum.inr.inj y'))
theorem dkF_snoc {L:List Nat} {i c:Nat} (g:Nat→Int) (e:L[i]? = some c):dkF (L.take (i+1)) g=dkF (L.take i) g++[((Sum.inr (one c):Key),V.int (g c))]:=by
  unfold dkF
  rw [List.take_add_one,e,List.map_append]
  rfl
theorem ltr_len (us:List Rule):(ltr us).length=us.length:=by unfold ltr;rw [List.length_map]
structure Ws (us:List Rule):Prop where
  few:us.length≤8
  nd:(ltr us).Nodup
  abc:∀ c∈ltr us,97≤c∧c≤122
  wl:∀ q∈us,q.2.length≤6
  win:∀ q∈us,∀ c∈q.2,c∈ltr us
theorem not_taken {L:List Nat} (nd:L.Nodup) {i c:Nat} (e:L[i]? = some c):c ∉ L.take i:=fun h=>by
  rw [← List.take_append_drop i L] at nd
  obtain ⟨_,_,hdis⟩:=List.nodup_append.mp nd
  obtain ⟨hil,e2⟩:=List.getElem?_eq_some_iff.mp e
  refine hdis c h c ?_ rfl
  rw [List.drop_eq_getElem_cons hil,e2]
  exact List.mem_cons_self
structure Wp (cs:List Nat) (n:Nat) (us:List Rule):Prop where
  lt:ltr us=cs.take n
  ok:∀ q∈us,q.2.length≤6∧∀ c∈q.2,c∈cs
theorem Wp.put {cs:List Nat} {n c:Nat} {us:List Rule} {w:List Nat} (h:Wp cs n us) (nd:cs.Nodup) (e:cs[n]? = some c) (h1:w.length≤6) (h2:∀ e∈w,e∈cs):Wp cs (n+1) (us++[(c,w)])∧putK (kvw us) (Sum.inr (one c):Key) (tx w)=kvw (us++[(c,w)]):=by
  refine ⟨⟨?_,fun q hq=>?_⟩,?_⟩
  · have:=h.lt
    unfold ltr at this ⊢
    rw [List.map_append,this,List.take_add_one,e]
    rfl
  · rcases List.mem_append.mp hq with z | z
    · exact h.ok q z
    · rw [List.mem_singleton.mp z];exact ⟨h1,h2⟩
  · rw [putK_new _ (kvw_none (by rw [h.lt];exact not_taken nd e))]
    unfold kvw
    rw [List.map_append]
    rfl
theorem Wp.ws {cs:List Nat} {us:List Rule} (h:Wp cs cs.length us) (nd:cs.Nodup) (h8:cs.length≤8) (ab:∀ c∈cs,97≤c∧c≤122):Ws us∧ltr us=cs:=by
  have e:ltr us=cs:=by rw [h.lt,List.take_length]
  refine ⟨⟨?_,by rw [e];exact nd,by rw [e];exact ab,fun q hq=>(h.ok q hq).1,fun q hq=>by rw [e];exact (h.ok q hq).2⟩,e⟩
  rw [← ltr_len,e]
  exact h8
theorem Wp.len {cs:List Nat} {n:Nat} {us:List Rule} (h:Wp cs n us):us.length≤n:=by
  rw [← ltr_len,h.lt,List.length_take]
  omega
theorem seq_by {a u:L2.TS} {D:Ends} {σ:L2.St} {H:Hp} (Inv:L2.St→Hp→Prop) (h:∀ nx:L2.St→Hp→Prop,(∀ σ' H',Inv σ' H'→nx σ' H')→a { D with nx:=nx } σ H) (k:∀ σ' H',Inv σ' H'→u D σ' H'):tSeq a u D σ H:=h _ k
def rpl (us:List Rule) (c:Nat) (w:List Nat):List Rule:=us.map fun q=>if q.1=c then (q.1,w) else q
theorem rpl_ltr (us:List Rule) (c:Nat) (w:List Nat):ltr (rpl us c w)=ltr us:=by
  unfold rpl
  show List.map _ (List.map _ _)=List.map _ _
  rw [List.map_map]
  refine List.map_congr_left fun q _=>?_
  show (if q.1=c then (q.1,w) else q).1=q.1
  split <;> rfl
theorem rpl_put {us:List Rule} {c:Nat} (w:List Nat) (nd:(ltr us).Nodup) (h:c∈ltr us):putK (kvw us) (Sum.inr (one c):Key) (tx w)=kvw (rpl us c w):=by
  unfold putK
  rw [valV_any,kvw_wd nd h]
  rw [if_pos (show (some (tx (wd us c))).isSome=true from rfl)]
  unfold rpl kvw
  rw [List.map_map,List.map_map]
  refine List.map_congr_left fun q _=>?_
  show (if (Sum.inr (one q.1):Key)=Sum.inr (one c) then ((Sum.inr (one q.1):Key),tx w) else ((Sum.inr (one q.1):Key),tx q.2))=((Sum.inr (one (if q.1=c then (q.1,w) else q).1):Key),tx (if q.1=c then (q.1,w) else q).2)
  by_cases e:q.1=c
  · rw [if_pos e,if_pos (by rw [e])]
  · rw [if_neg e,if_neg fun z=>e (one_inj (Sum.inr.inj z))]
theorem Wp.rpl {cs:List Nat} {n c:Nat} {us:List Rule} {w:List Nat} (h:Wp cs n us) (h1:w.length≤6) (h2:∀ e∈w,e∈cs):Wp cs n (rpl us c w):=by
  refine ⟨by rw [rpl_ltr];exact h.lt,fun q hq=>?_⟩
  obtain ⟨q0,h0,rfl⟩:=List.mem_map.mp hq
  by_cases e:q0.1=c
  · rw [if_pos e];exact ⟨h1,h2⟩
  · rw [if_neg e];exact h.ok q0 h0
theorem kvw_ones (us:List Rule):(kvw us).map (·.1)=((ltr us).map one).map Sum.inr:=by
  rw [kvw_keys,List.map_map]
  rfl
structure Like (us rs:List Rule):Prop where
  mem:∀ c,c∈ltr rs ↔ c∈ltr us
  wd:∀ c∈ltr us,wd rs c=wd us c
  len:rs.length=us.length
theorem wd_of {us:List Rule} (h:Ws us) {c:Nat} (hc:c∈ltr us):(wd us c).length≤6∧∀ e∈wd us c,e∈ltr us:=by
  obtain ⟨q,h1,h2,h3⟩:=wd_mem hc
  rw [h3]
  exact ⟨h.wl q h1,h.win q h1⟩
theorem ltr_nt {us:List Rule} (nd:(ltr us).Nodup) {i:Nat} {q:Rule} (e:us[i]? = some q):(ltr us)[i]? = some q.1∧q.1 ∉ (ltr us).take i:=by
  have h1:(ltr us)[i]? = some q.1:=by unfold ltr;rw [List.getElem?_map,e];rfl
  exact ⟨h1,not_taken nd h1⟩
theorem dkF_none {g:Nat→Int}:∀ {L:List Nat} {c:Nat},c ∉ L→valV (dkF L g) (Sum.inr (one c):Key)=none
  | [],c,_=>rfl
  | a :: L,c,h=>by
    unfold dkF
    rw [List.map_cons,valV_neg (fun z=>h (by rw [one_inj (Sum.inr.inj z)];exact List.mem_cons_self))]
    exact dkF_none fun z=>h (List.mem_cons_of_mem _ z)
theorem dkF_put {g:Nat→Int} {L:List Nat} (nd:L.Nodup) {i c:Nat} (e:L[i]? = some c):putK (dkF (L.take i) g) (Sum.inr (one c):Key) (V.int (g c))=dkF (L.take (i+1)) g:=by
  rw [putK_new _ (dkF_none (not_taken nd e)),dkF_snoc g e]
theorem dkF_len (g:Nat→Int) (L:List Nat):(dkF L g).length=L.length:=by unfold dkF;rw [List.length_map]
def rg0 (f:Nat→Int) (M:Nat):List Int:=(List.range M).map f
theorem rg0_len (f:Nat→Int) (M:Nat):(rg0 f M).length=M:=by unfold rg0;rw [List.length_map,List.length_range]
theorem rg0_snoc (f:Nat→Int) (M:Nat):(rg0 f M).map V.int++[V.int (f M)]=(rg0 f (M+1)).map V.int:=by
  unfold rg0
  rw [List.range_succ,List.map_append,List.map_append]
  rfl
def sz (rs:List Rule) (c:Nat):Nat→Int:=fun n=>((szN rs n c:Nat):Int)
theorem cast_sum (g:Nat→Nat):∀ l:List Nat,(((l.map g).sum:Nat):Int)=(l.map fun e=>((g e:Nat):Int)).sum
  | []=>rfl
  | a :: l=>by
    rw [List.map_cons,List.map_cons,List.sum_cons,List.sum_cons,← cast_sum g l]
    push_cast
    rfl
theorem sz_succ (rs:List Rule) (c n:Nat):sz rs c (n+1)=((wd rs c).map fun e=>sz rs e n).sum:=by
  show ((szN rs (n+1) c:Nat):Int)=_
  rw [szN_succ,szN_row,cast_sum]
  rfl
def lenT (rs:List Rule) (x:List Nat):Nat→Int:=fun n=>(((rowN rs x n).length:Nat):Int)
theorem lenT_sum (rs:List Rule) (x:List Nat):lenT rs x=fun n=>(x.map fun c=>sz rs c n).sum:=by
  funext n
  show (((rowN rs x n).length:Nat):Int)=_
  rw [szN_row,cast_sum]
  rfl
end Lw
namespace Lw
def sm:Nat→(Nat→Int)→Int
  | 0,_=>0
  | n+1,f=>sm n f+f n
theorem sm_congr:∀ {n:Nat} {f g:Nat→Int},(∀ i,i < n→f i=g i)→sm n f=sm n g
  | 0,_,_,_=>rfl
  | n+1,f,g,h=>by
    show sm n f+f n=sm n g+g n
    rw [sm_congr fun i hi=>h i (by omega),h n (by omega)]
theorem sm_zero:∀ {n:Nat} {f:Nat→Int},(∀ i,i < n→f i=0)→sm n f=0
  | 0,_,_=>rfl
  | n+1,f,h=>by
    show sm n f+f n=0
    rw [sm_zero fun i hi=>h i (by omega),h n (by omega)]
    rfl
theorem sm_add (f g:Nat→Int):∀ n,sm n (fun i=>f i+g i)=sm n f+sm n g
  | 0=>rfl
  | n+1=>by
    show sm n (fun i=>f i+g i)+(f n+g n)=sm n f+f n+(sm n g+g n)
    rw [sm_add f g n]
    omega
theorem sm_mul (a:Int) (f:Nat→Int):∀ n,sm n (fun i=>a * f i)=a * sm n f
  | 0=>by show (0:Int)=a * 0;rw [Int.mul_zero]
  | n+1=>by
    show sm n (fun i=>a * f i)+a * f n=a * (sm n f+f n)
    rw [sm_mul a f n,Int.mul_add]
theorem sm_comm (F:Nat→Nat→Int) (m:Nat):∀ n,sm n (fun i=>sm m (fun k=>F k i))=sm m (fun k=>sm n (fun i=>F k i))
  | 0=>(sm_zero fun _ _=>rfl).symm
  | n+1=>by
    show sm n (fun i=>sm m (fun k=>F k i))+sm m (fun k=>F k n)=sm m (fun k=>sm n (fun i=>F k i)+F k n)
    rw [sm_add,sm_comm F m n]
theorem sm_split (f:Nat→Int) (a:Nat):∀ b,sm (a+b) f=sm a f+sm b (fun k=>f (a+k))
  | 0=>by show sm a f=sm a f+0;rw [Int.add_zero]
  | b+1=>by
    show sm (a+b) f+f (a+b)=sm a f+(sm b (fun k=>f (a+k))+f (a+b))
    rw [sm_split f a b]
    omega
theorem top_of (N:Nat) (P:Nat→Prop) (h:∃ k,k≤N∧P k):∃ p,p≤N∧P p∧∀ k,p < k→k≤N→¬ P k:=by
  induction N with
  | zero =>
    obtain ⟨k,hk,hp⟩:=h
    have:k=0:=by omega
    subst this
    exact ⟨0,Nat.le_refl _,hp,fun k h1 h2=>by omega⟩
  | succ N ih =>
    by_cases hp:P (N+1)
    · exact ⟨N+1,Nat.le_refl _,hp,fun k h1 h2=>by omega⟩
    · obtain ⟨k,hk,hpk⟩:=h
      have hkN:k≤N:=by
        by_cases e:k=N+1
        · rw [e] at hpk;exact absurd hpk hp
        · omega
      obtain ⟨p,h1,h2,h3⟩:=ih ⟨k,hkN,hpk⟩
      refine ⟨p,by omega,h2,fun k h4 h5=>?_⟩
      by_cases e:k=N+1
      · rw [e];exact hp
      · exact h3 k h4 (by omega)
theorem dep:∀ (N:Nat) (v:Nat→Nat→Int),∃ c:Nat→Int,(∃ k,k≤N∧c k≠0)∧∀ i,i < N→sm (N+1) (fun k=>c k * v k i)=0
  | 0,_=>⟨fun _=>1,⟨0,Nat.le_refl _,by decide⟩,fun i hi=>by omega⟩
  | N+1,v=>by
    by_cases hz:∃ k,k≤N+1∧v k N≠0
    · obtain ⟨p,hp,hne,hlast⟩:=top_of (N+1) (fun k=>v k N≠0) hz
      have hz':∀ k,p < k→k≤N+1→v k N=0:=fun k h1 h2=>Classical.byContradiction fun z=>hlast k h1 h2 z
      obtain ⟨c,⟨k0,hk0,hc0⟩,hc⟩:=dep N fun k i=>if k < p then v p N * v k i - v k N * v p i else v (k+1) i
      let c':Nat→Int:=fun k=>if k < p then c k * v p N else if k=p then - sm p (fun j=>c j * v j N) else c (k - 1)
      have key:∀ i,sm (N+2) (fun k=>c' k * v k i)=sm (N+1) (fun k=>c k * (if k < p then v p N * v k i - v k N * v p i else v (k+1) i)):=fun i=>by
        obtain ⟨r,hr⟩:∃ r,N+1=p+r:=⟨N+1 - p,by omega⟩
        have e2:N+2=(p+1)+r:=by omega
        rw [e2,sm_split _ (p+1) r,hr,sm_split _ p r]
        have a1:sm (p+1) (fun k=>c' k * v k i)=sm p (fun k=>c k * v p N * v k i)+(- sm p (fun j=>c j * v j N)) * v p i:=by
          show sm p (fun k=>c' k * v k i)+c' p * v p i=_
          have x1:c' p = - sm p (fun j=>c j * v j N):=by
            show (if p < p then _ else if p=p then _ else _)=_
            rw [if_neg (Nat.lt_irrefl _),if_pos rfl]
          rw [x1]
          congr 1
          refine sm_congr fun k hk=>?_
          show (if k < p then c k * v p N else _) * v k i=_
          rw [if_pos hk]
        have a2:sm r (fun k=>c' (p+1+k) * v (p+1+k) i)=sm r (fun k=>c (p+k) * v (p+k+1) i):=sm_congr fun k hk=>by
          show (if p+1+k < p then _ else if p+1+k=p then _ else c (p+1+k - 1)) * _=_
          rw [if_neg (by omega),if_neg (by omega),show p+1+k - 1=p+k by omega,show p+1+k=p+k+1 by omega]
        have b1:sm p (fun k=>c k * (if k < p then v p N * v k i - v k N * v p i else v (k+1) i))=sm p (fun k=>c k * v p N * v k i)+(- sm p (fun j=>c j * v j N)) * v p i:=by
          have:sm p (fun k=>c k * (if k < p then v p N * v k i - v k N * v p i else v (k+1) i))=sm p (fun k=>c k * v p N * v k i+(- v p i) * (c k * v k N)):=sm_congr fun k hk=>by
            rw [if_pos hk,Int.mul_sub,← Int.mul_assoc,← Int.mul_assoc,Int.neg_mul,Int.mul_comm (v p i)]
            omega
          rw [this,sm_add,sm_mul,Int.neg_mul,Int.neg_mul,Int.mul_comm (v p i)]
        have b2:sm r (fun k=>c (p+k) * (if p+k < p then v p N * v (p+k) i - v (p+k) N * v p i else v (p+k+1) i))=sm r (fun k=>c (p+k) * v (p+k+1) i):=sm_congr fun k hk=>by rw [if_neg (by omega)]
        rw [a1,a2,b1,b2]
      refine ⟨c',?_,fun i hi=>?_⟩
      · by_cases h:k0 < p
        · refine ⟨k0,by omega,?_⟩
          show (if k0 < p then c k0 * v p N else _)≠0
          rw [if_pos h]
          exact Int.mul_ne_zero hc0 hne
        · refine ⟨k0+1,by omega,?_⟩
          show (if k0+1 < p then _ else if k0+1=p then _ else c (k0+1 - 1))≠0
          rw [if_neg (by omega),if_neg (by omega)]
          exact hc0
      · rw [key i]
        by_cases h:i < N
        · exact hc i h
        · have e:i=N:=by omega
          subst e
          refine sm_zero fun k hk=>?_
          by_cases h2:k < p
          · rw [if_pos h2,Int.mul_comm (v k i),Int.sub_self,Int.mul_zero]
          · rw [if_neg h2,hz' (k+1) (by omega) (by omega),Int.mul_zero]
    · obtain ⟨c,⟨k0,hk0,hc0⟩,hc⟩:=dep N v
      refine ⟨fun k=>if k≤N then c k else 0,⟨k0,by omega,by show (if k0≤N then c k0 else 0)≠0;rw [if_pos hk0];exact hc0⟩,fun i hi=>?_⟩
      show sm (N+1) (fun k=>(if k≤N then c k else 0) * v k i)+(if N+1≤N then c (N+1) else 0) * v (N+1) i=0
      rw [if_neg (by omega),Int.zero_mul,Int.add_zero]
      by_cases h:i < N
      · rw [← hc i h]
        exact sm_congr fun k hk=>by rw [if_pos (by omega)]
      · have e:i=N:=by omega
        subst e
        refine sm_zero fun k hk=>?_
        have:v k i=0:=Classical.byContradiction fun z=>hz ⟨k,by omega,z⟩
        rw [this,Int.mul_zero]
theorem rec_zero {N:Nat} {f:Nat→Nat→Int} {T:Nat→Nat→Int} {e:Nat→Int} (hf:∀ k j,j < N→f (k+1) j=sm N (fun i=>f k i * T i j)) {s:Nat} (h:∀ m,m < N→sm N (fun i=>f (s+m) i * e i)=0):∀ m,sm N (fun i=>f (s+m) i * e i)=0:=by
  obtain ⟨c,hc,h0⟩:=dep N f
  obtain ⟨D,hD,hne,hlast⟩:=top_of N (fun k=>c k≠0) hc
  have all:∀ n i,i < N→sm (N+1) (fun k=>c k * f (n+k) i)=0:=fun n=>by
    induction n with
    | zero=>intro i hi;rw [← h0 i hi];exact sm_congr fun k _=>by rw [Nat.zero_add]
    | succ n ih =>
      intro j hj
      have:sm (N+1) (fun k=>c k * f (n+1+k) j)=sm (N+1) (fun k=>sm N (fun i=>T i j * (c k * f (n+k) i))):=sm_congr fun k _=>by
        rw [show n+1+k=n+k+1 by omega,hf _ j hj,← sm_mul]
        exact sm_congr fun i _=>by rw [← Int.mul_assoc,Int.mul_comm (T i j)]
      rw [this,← sm_comm]
      refine sm_zero fun i hi=>?_
      rw [sm_mul,ih i hi,Int.mul_zero]
  have rcr:∀ n,sm (N+1) (fun k=>c k * sm N (fun i=>f (n+k) i * e i))=0:=fun n=>by
    have:sm (N+1) (fun k=>c k * sm N (fun i=>f (n+k) i * e i))=sm (N+1) (fun k=>sm N (fun i=>e i * (c k * f (n+k) i))):=sm_congr fun k _=>by
      rw [← sm_mul]
      exact sm_congr fun i _=>by rw [← Int.mul_assoc,Int.mul_comm (e i)]
    rw [this,← sm_comm]
    refine sm_zero fun i hi=>?_
    rw [sm_mul,all n i hi,Int.mul_zero]
  intro m
  induction m using Nat.strongRecOn with
  | ind m ih =>
    by_cases hm:m < N
    · exact h m hm
    · have r:=rcr (s+(m - D))
      obtain ⟨q,hq⟩:∃ q,N+1=(D+1)+q:=⟨N - D,by omega⟩
      rw [hq,sm_split _ (D+1) q] at r
      have z2:sm q (fun k=>c (D+1+k) * sm N (fun i=>f (s+(m - D)+(D+1+k)) i * e i))=0:=sm_zero fun k hk=>by
        have:c (D+1+k)=0:=Classical.byContradiction fun z=>hlast (D+1+k) (by omega) (by omega) z
        rw [this,Int.zero_mul]
      rw [z2,Int.add_zero] at r
      have r':sm D (fun k=>c k * sm N (fun i=>f (s+(m - D)+k) i * e i))+c D * sm N (fun i=>f (s+(m - D)+D) i * e i)=0:=r
      have z1:sm D (fun k=>c k * sm N (fun i=>f (s+(m - D)+k) i * e i))=0:=sm_zero fun k hk=>by
        have:=ih (m - D+k) (by omega)
        rw [show s+(m - D)+k=s+(m - D+k) by omega,this,Int.mul_zero]
      rw [z1,Int.zero_add,show s+(m - D)+D=s+m by omega] at r'
      exact (Int.mul_eq_zero.mp r').resolve_left hne
end Lw
namespace Lw
open PySem L2 PyProof.Rows
section
variable {P:Program} {w:World} {K:PySem.W.Frag} {mg:Str→Option Value} {base:Heap}
def spMix:Sp:=fun vs H Q _=>∃ (p l:Addr) (b:Nat) (cs:List Nat),vs=[.ref p,.ref l]∧PenAt H p b∧b≤900000∧H l=some (.lst (cs.map sign))∧cs.length≤30∧l≠p ∧
  ∀ (m:Addr) (ms:List Nat) H',H m=none→But p H H'→PenAt H' p (b+cs.length)→H' m=some (.lst (ms.map sign))→ms.Perm cs→Q (.ref m) H'
theorem scMix:FnScope ["_law_pen_here","_law_things","_law_rest"] ["_law_pen_here","_law_things"] (defScope sMix):=⟨rfl,rfl,rfl,by decide +kernel,rfl,by decide +kernel,by decide +kernel⟩
theorem nd_mix1:(["_law_k","_law_rest","_law_pen_here"]:List Str).Nodup:=by decide +kernel
theorem ok_mix {f fTak:Addr} {fd fdTak:FuncData} (F:Fun K "_law_mixed" "_law_mixed" sMix f fd)
    (GTak:FnOk P w K mg base CX0 1 fTak fdTak ["_law_pen_here","_law_size"] spTak)
    (gTak:Gf K mg "_law_take" fTak fdTak ["_law_pen_here","_law_size"])
    (hlen:mg "len" = none)
    (hrange:mg "range" = none)
    (hlist:mg "list" = none)
    : FnOk P w K mg base CX0 2 f fd ["_law_pen_here","_law_things"] spMix:=by
  refine F.ok scMix (fun vs H Q E h=>?_) (fun cdv A outer s H vs Q E hr h=>?_)
  · obtain ⟨p,l,b,cs,rfl,_⟩:=h
    rfl
  · obtain ⟨p,l,b,cs,rfl,hp,hb,hl,hn,nlp,q⟩:=h
    refine ⟨_,(pss_cons (ps_set (i:=2) scMix.nd rfl (Or.inr rfl) (pe_callTy (call_list_ofK K) (by rfl) hlist (by first | exact PySem.boot_list | decide +kernel) (pa_cons (pv 1) pa_nil)))
      (pss_one (ps_ret (pe_comp (N':=["_law_k","_law_rest","_law_pen_here"]) (ix:=[none,some 2,some 0]) rfl rfl (pi_range1 rfl hrange (pa_cons (pe_callB (call_lenK K) (by rfl) hlen PySem.boot_len (pa_cons (pv 1) pa_nil)) pa_nil)) (fun _ _ _ _ _ _=>(pg_name (i:=0) nd_mix1 rfl (Or.inl rfl))) (fun _ _ _ _ _ _=>pts_nil) (fun _ _ _ _ _ _=>(pe_bmK K PySem.F.plainAttrs_list PySem.F.slot_list_pop PySem.F.type_list_pop mt_popAt (pv 1) (pa_cons (pe_call GTak hr rfl gTak.m gTak.k gTak.b .nil pass0 (pa_cons (pv 2) (pa_cons (pe_callB (call_lenK K) (by rfl) hlen PySem.boot_len (pa_cons (pv 1) pa_nil)) pa_nil))) pa_nil))))))),?_⟩
    have el:((cs.map sign).length:Int)=(cs.length:Int):=by rw [List.length_map]
    refine ⟨_,rfl,l,_,rfl,.inl (SqL.of hl),fun l0 hl0=>?_⟩
    obtain ⟨op0,hop0⟩:=hp.some
    have np:p≠l0:=ne_of_none hop0 hl0
    have nl0:l≠l0:=ne_of_none hl hl0
    have s0:=Same.add (o:=.lst (cs.map sign)) hl0
    refine ⟨_,rfl,l,_,rfl,.inl (SqL.of (s0 _ _ hl)),?_⟩
    rw [el]
    refine ⟨_,rfl,by omega,by omega,comp_allR (τ0:=[none,some (V.ref l0),some (V.ref p)]) (sure_range (lo:=0) (n:=Int.toNat (cs.length:Int))) (by rw [rngV_length];omega)
      (fun i ys τ H4=>∃ taken rem,ys=taken.map sign∧taken.length=i∧(taken++rem).Perm cs∧H4 l0=some (.lst (rem.map sign))∧But p H H4∧PenAt H4 p (b+i)∧∃ v,τ=[v,some (.ref l0),some (.ref p)])
      ⟨[],cs,rfl,rfl,List.Perm.refl _,upd_same,But.same s0,hp.other (upd_ne np),_,rfl⟩ ?_ ?_ ?_⟩
    · rintro i ys τ H4 hi ⟨taken,rem,rfl,e,_⟩
      exact ⟨trivial,by rw [List.length_map];omega⟩
    · rintro i x ys τ H4 hx ⟨taken,rem,rfl,et,hPm,hR,hBt,hPn,v,rfl⟩
      have hi:i < cs.length:=by
        have:=(List.getElem?_eq_some_iff.mp hx).1
        rw [rngV_length] at this
        simpa using this
      have hlen26:rem.length=cs.length - i:=by
        have:=hPm.length_eq
        rw [List.length_append,et] at this
        omega
      have el:((rem.map sign).length:Int)=(rem.length:Int):=by rw [List.length_map]
      refine ⟨_,rfl,.inl ⟨rfl,_,SqL.of hR⟩,_,rfl,_,rfl,l0,_,rfl,.inl (SqL.of hR),p,b+i,_,rfl,hPn,by omega,by rw [el];omega,by rw [el];omega,fun zz H5 zz0 zz1 hP5 e5=>?_⟩
      rw [el] at zz1
      obtain ⟨j,rfl⟩:∃ j:Nat,zz=(j:Int):=⟨zz.toNat,by omega⟩
      have hj:j < rem.length:=by omega
      have hat:(rem.map sign)[j]? = some (sign rem[j]):=by rw [List.getElem?_map,List.getElem?_eq_getElem hj];rfl
      obtain ⟨j',s1,s2,_⟩:=atI_get (atI_nat hat)
      have ejj:j'=j:=by
        obtain ⟨q1,_⟩:=ixN_seq (n:=(rem.map sign).length) (i:=(j:Int)) (j:=j) (by
          unfold ixN
          rw [if_pos (by omega),if_pos (by rw [el];omega)]
          simp)
        rw [q1] at s1
        exact (Option.some.inj s1).symm
      subst ejj
      refine ⟨l0,_,_,j',_,rfl,rfl,(e5 l0 np.symm).trans hR,by omega,by omega,s1,s2,?_⟩
      refine ⟨taken++[rem[j']],rem.eraseIdx j',by rw [List.map_append];rfl,by rw [List.length_append,et];rfl,?_,?_,?_,?_,_,rfl⟩
      · refine List.Perm.trans ?_ hPm
        rw [List.append_assoc]
        exact List.Perm.append_left taken (perm_erase (List.getElem?_eq_getElem hj)).symm
      · rw [upd_same,map_erase]
      · intro c o hc hne
        have nl:c≠l0:=ne_of_none hc hl0
        rw [upd_ne nl,e5 c hne]
        exact hBt c o hc hne
      · exact (hP5.other (upd_ne np)).mono (by omega)
    rintro ys τ H4 m ⟨ms,rem,rfl,et,hPm,hR,hBt,hPn,v,rfl⟩ nm
    have e:(rngV 0 (Int.toNat (cs.length:Int))).length=cs.length:=by rw [rngV_length];simp
    rw [e] at et hPn
    obtain ⟨op4,hop4⟩:=hPn.some
    have nmp:m≠p:=(ne_of_none hop4 nm).symm
    have hr0:rem=[]:=by
      have:=hPm.length_eq
      rw [List.length_append,et] at this
      exact List.length_eq_zero_iff.mp (by omega)
    rw [hr0,List.append_nil] at hPm
    exact q m ms _ (hBt.free nmp nm) (hBt.trans (But.same (Same.add nm))) (hPn.other (upd_ne nmp.symm)) upd_same hPm
end
end Lw
namespace Lw
open PySem L2 PyProof.Rows
theorem arrF:∀ m:Nat,m < 4→∃ v:Nat,([V.int 3,V.int 2,V.int 4,V.int 7]:List V)[m]? = some (V.int (v:Int))∧2≤v∧v≤7
  | 0,_=>⟨3,rfl,by decide,by decide⟩
  | 1,_=>⟨2,rfl,by decide,by decide⟩
  | 2,_=>⟨4,rfl,by decide,by decide⟩
  | 3,_=>⟨7,rfl,by decide,by decide⟩
  | n+4,h=>by omega
theorem cut_one (cs:List Nat) (i:Nat):(cutN cs (some ((i:Int)+1)) (some ((i:Int)+2))).length≤1:=by
  unfold cutN
  rw [show (i:Int)+1=((i+1:Nat):Int) by omega,show (i:Int)+2=((i+2:Nat):Int) by omega,HT.sIx_nat,HT.sIx_nat,List.length_take]
  omega
section
variable {P:Program} {w:World} {K:PySem.W.Frag} {mg:Str→Option Value} {base:Heap}
def spFre:Sp:=fun vs H Q _=>∃ (p l:Addr) (b:Nat) (cs:List Nat),vs=[.ref p,.ref l]∧PenAt H p b∧b≤800000∧H l=some (.lst (cs.map sign))∧cs.length≤5∧cs.Nodup∧l≠p ∧
  ∀ (t d:Addr) (x:List Nat) (us:List Rule) H',H t=none→H d=none→But p H H'→PenAt H' p (b+100)→H' t=some (.tup [tx x,.ref d])→H' d=some (.dK (kvw us))→Wp cs cs.length us→x.length≤4→(∀ c∈x,c∈cs)→Q (.ref t) H'
theorem scFre:FnScope ["_law_pen_here","_law_signs","_law_most","_law_words","_law_at","_law_sign"] ["_law_pen_here","_law_signs"] (defScope sFre):=⟨rfl,rfl,rfl,by decide +kernel,rfl,by decide +kernel,by decide +kernel⟩
theorem ok_fre {f fTak fTxt:Addr} {fd fdTak fdTxt:FuncData} (F:Fun K "_law_free" "_law_free" sFre f fd)
    (GTak:FnOk P w K mg base CX0 1 fTak fdTak ["_law_pen_here","_law_size"] spTak)
    (gTak:Gf K mg "_law_take" fTak fdTak ["_law_pen_here","_law_size"])
    (GTxt:FnOk P w K mg base CX0 2 fTxt fdTxt ["_law_pen_here","_law_signs","_law_many"] spTxt)
    (gTxt:Gf K mg "_law_text" fTxt fdTxt ["_law_pen_here","_law_signs","_law_many"])
    (henumerate:mg "enumerate" = none)
    : FnOk P w K mg base CX0 3 f fd ["_law_pen_here","_law_signs"] spFre:=by
  refine F.ok scFre (fun vs H Q E h=>?_) (fun cdv A outer s H vs Q E hr h=>?_)
  · obtain ⟨p,l,b,cs,rfl,_⟩:=h
    rfl
  · obtain ⟨p,l,b,cs,rfl,hp,hb,hl,hn,hnd,nlp,q⟩:=h
    have hr1:Room 1 _:=hr.mono (by decide)
    have hu:=hu_of hr
    refine ⟨_,(pss_cons (ps_set (i:=2) scFre.nd rfl (Or.inl rfl) (pe_ix (ix_listK K) (pe_lst (pa_cons pe_int (pa_cons pe_int (pa_cons pe_int (pa_cons pe_int pa_nil))))) (pe_call GTak hr1 rfl gTak.m gTak.k gTak.b .nil pass0 (pa_cons (pv 0) (pa_cons pe_int pa_nil))) (fun _ _=>rfl)))
      (pss_cons (ps_set (i:=3) scFre.nd rfl (Or.inl rfl) pe_dnewK)
      (pss_cons (ps_for PassesOwn.never rfl (pi_enumK K rfl henumerate (pa_cons (pv 1) pa_nil)) (pg_tupK K (n:=2) rfl (pgs_cons (pg_name (i:=4) scFre.nd rfl (Or.inl rfl)) (pgs_cons (pg_name (i:=5) scFre.nd rfl (Or.inl rfl)) pgs_nil))) (pss_one (ps_dput hu (pv 3) (pv 5) (pe_call GTxt hr rfl gTxt.m gTxt.k gTxt.b .nil pass0 (pa_cons (pv 0) (pa_cons (pe_slice (sl_listK K) (pv 1) (po_some (pe_op op_mul (pe_call GTak hr1 rfl gTak.m gTak.k gTak.b .nil pass0 (pa_cons (pv 0) (pa_cons pe_int pa_nil))) (pv 4))) po_none) (pa_cons (pe_call GTak hr1 rfl gTak.m gTak.k gTak.b .nil pass0 (pa_cons (pv 0) (pa_cons (pv 2) pa_nil))) pa_nil)))) rfl)))
      (pss_one (ps_ret (pe_tup (pa_cons (pe_call GTxt hr rfl gTxt.m gTxt.k gTxt.b .nil pass0 (pa_cons (pv 0) (pa_cons (pv 1) (pa_cons (pe_call GTak hr1 rfl gTak.m gTak.k gTak.b .nil pass0 (pa_cons (pv 0) (pa_cons pe_int pa_nil))) pa_nil)))) (pa_cons (pv 3) pa_nil)))))))),?_⟩
    have but3:∀ {Ha Hb:Hp},(∀ c,c≠p→Hb c=Ha c)→But p Ha Hb:=fun e c o h n=>(e c n).trans h
    refine ⟨(by show 4≤sizeLine;decide),fun t1 ht1=>?_⟩
    obtain ⟨op0,hop0⟩:=hp.some
    have np1:p≠t1:=ne_of_none hop0 ht1
    refine ⟨_,rfl,p,b,_,rfl,hp.other (upd_ne np1),by omega,by decide,by decide,fun z1 Ha z10 z11 hPa ea=>?_⟩
    obtain ⟨m1,rfl⟩:∃ m:Nat,z1=(m:Int):=⟨z1.toNat,by omega⟩
    obtain ⟨most,hmo,hm1,hm2⟩:=arrF m1 (by omega)
    refine ⟨t1,_,_,_,rfl,rfl,SqL.of ((ea t1 np1.symm).trans upd_same),atI_nat hmo,?_⟩
    have hBa:But p H Ha:=(But.same (Same.add ht1)).trans (but3 ea)
    have hla:=hBa l _ hl nlp
    intro d nd
    have ndp:d≠p:=by obtain ⟨o,ho⟩:=hPa.some;exact (ne_of_none ho nd).symm
    have nld:l≠d:=ne_of_none hla nd
    have el:((cs.map sign).length:Int)=(cs.length:Int):=by rw [List.length_map]
    refine ⟨_,rfl,l,rfl,⟨_,SqL.of (by rw [upd_ne nld];exact hla)⟩,?_⟩
    refine for_by2 (sure_enum (xs:=cs.map sign)) (fun i σ H4=>∃ (us:List Rule) (v5 v6:Option V),σ=[some (.ref p),some (.ref l),some (.int (most:Int)),some (.ref d),v5,v6]∧i≤cs.length∧H4 d=some (.dK (kvw us))∧Wp cs i us∧But p Ha H4∧PenAt H4 p (b+2+9 * i))
      ⟨[],none,none,rfl,Nat.zero_le _,upd_same,⟨rfl,fun q hq=>by cases hq⟩,But.same (Same.add nd),(hPa.other (upd_ne ndp.symm)).mono (by omega)⟩ ?_ ?_ ?_
    · rintro i σ H4 hi ⟨us,v5,v6,rfl,e6,hd4,hW4,hB4,hP4⟩
      exact SqL.of (hB4 l _ hla nlp)
    · rintro i zs σ H4 T hz ⟨us,v5,v6,rfl,e6,hd4,hW4,hB4,hP4⟩ hT
      rw [List.getElem?_map] at hz
      cases ez:(cs.map sign).zipIdx[i]? with
      | none=>rw [ez] at hz;cases hz
      | some pr =>
        rw [ez] at hz
        cases hz
        rw [List.getElem?_zipIdx,List.getElem?_map] at ez
        cases ec:cs[i]? with
        | none=>rw [ec] at ez;cases ez
        | some c =>
          rw [ec] at ez
          have ez':pr=(sign c,i):=by rw [← Option.some.inj ez,Nat.zero_add]
          subst ez'
          obtain ⟨op4,hop4⟩:=hP4.some
          have npT:p≠T:=ne_of_none hop4 hT
          have hil:i < cs.length:=(List.getElem?_eq_some_iff.mp ec).1
          have hB5:But p Ha (upd H4 T (.tup [V.int (i:Int),sign c])):=hB4.trans (But.same (Same.add hT))
          have hd5:=(Same.add (o:=.tup [V.int (i:Int),sign c]) hT) _ _ hd4
          have hP5:=hP4.other (H':=upd H4 T (.tup [V.int (i:Int),sign c])) (upd_ne npT)
          refine ⟨T,_,rfl,SqT.of upd_same,rfl,_,_,rfl,_,_,rfl,rfl,?_⟩
          have hl5:=hB5 l _ hla nlp
          refine ⟨_,rfl,_,rfl,_,rfl,p,b+2+9 * i,_,rfl,hP5,by omega,by decide,by decide,fun z2 H6 z20 z21 hP6 e6'=>⟨_,rfl,_,_,rfl,rfl,.inl ⟨by omega,by omega⟩,_,rfl,l,_,rfl,SqL.of ((e6' l nlp).trans hl5),fun L nL=>?_⟩⟩
          rw [cut_sign]
          have ci:∀ e∈cutN cs (some (z2 * (i:Int))) none,e∈cs:=fun e he=>cutN_in he
          have cl:=cutN_len cs (some (z2 * (i:Int))) none
          revert ci cl
          generalize cutN cs (some (z2 * (i:Int))) none=cs'
          intro ci cl
          have npL:L≠p:=by obtain ⟨o,ho⟩:=hP6.some;exact (ne_of_none ho nL).symm
          have sL:=Same.add (o:=.lst (cs'.map sign)) nL
          have hP7:=hP6.other (H':=upd H6 L (.lst (cs'.map sign))) (upd_ne npL.symm)
          refine ⟨_,rfl,_,rfl,p,b+2+9 * i+1,_,rfl,hP7,by omega,by omega,by omega,fun z3 H8 z30 z31 hP8 e8=>?_⟩
          obtain ⟨m3,rfl⟩:∃ m:Nat,z3=(m:Int):=⟨z3.toNat,by omega⟩
          refine ⟨p,L,b+2+9 * i+1+1,m3,cs',rfl,hP8,by omega,by omega,(e8 L npL).trans upd_same,by omega,npL,fun w0 H9 w0l _ w0i hB9 hP9=>?_⟩
          have hB59:But p (upd H4 T (.tup [V.int (i:Int),sign c])) H9:=(but3 e6').trans ((But.same sL).trans ((but3 e8).trans hB9))
          have hd9:=hB59 d _ hd5 ndp
          have hul:=hW4.len
          obtain ⟨hW7,eput⟩:=hW4.put hnd ec (w:=w0) (by omega) (fun e he=>ci e (w0i e he))
          refine ⟨_,rfl,_,rfl,d,_,rfl,DPut.k (k:=(Sum.inr (one c):Key)) hd9 (small1000 (by unfold kvw;rw [List.length_map];omega)),?_⟩
          rw [eput]
          refine ⟨_,_,_,rfl,by omega,upd_same,hW7,fun cc o h n=>?_,(hP9.other (upd_ne ndp.symm)).mono (by omega)⟩
          rw [upd_ne (ne_of_none h nd)]
          exact (hB5.trans hB59) cc o h n
    · rintro σ H4 ⟨us,v5,v6,rfl,e6,hd4,hW4,hB4,hP4⟩
      have ezl:((cs.map sign).zipIdx.map fun p=>([V.int (p.2:Nat),p.1]:List V)).length=cs.length:=by simp
      rw [ezl] at hW4 hP4
      have hl4:=hB4 l _ hla nlp
      refine ⟨_,rfl,_,rfl,_,rfl,p,_,_,rfl,hP4,by omega,by decide,by decide,fun z6 H5 z60 z61 hP5 e5=>?_⟩
      obtain ⟨m6,rfl⟩:∃ m:Nat,z6=(m:Int):=⟨z6.toNat,by omega⟩
      refine ⟨p,l,_,m6,cs,rfl,hP5,by omega,by omega,(e5 l nlp).trans hl4,by omega,nlp,fun x H6 xl _ xi hB6 hP6=>?_⟩
      have hB46:But p H4 H6:=(but3 e5).trans hB6
      refine ⟨_,rfl,szl (show 2≤1000 by decide),fun t nt=>?_⟩
      have hB6x:But p H H6:=hBa.trans (hB4.trans hB46)
      have ntp:t≠p:=by obtain ⟨o,ho⟩:=hP6.some;exact (ne_of_none ho nt).symm
      exact q t d x us _ (hB6x.free ntp nt) (hBa.free ndp nd) (hB6x.trans (But.same (Same.add nt))) ((hP6.other (upd_ne ntp.symm)).mono (by omega)) upd_same ((Same.add nt) _ _ (hB46 d _ hd4 ndp)) hW4 (by omega) xi
end
end Lw
namespace Lw
open PySem L2 PyProof.Rows
structure PairAt (H:Hp) (t d:Addr) (x:List Nat) (us:List Rule):Prop where
  t:H t=some (.tup [tx x,.ref d])
  d:H d=some (.dK (kvw us))
end Lw
namespace Lw
open PySem L2 PyProof.Rows
theorem ex_map:∀ {L ns:List Nat},L.Nodup→L.length=ns.length→∃ g:Nat→Nat,L.map g=ns
  | [],[],_,_=>⟨id,rfl⟩
  | [],_ :: _,_,h=>by simp at h
  | _ :: _,[],_,h=>by simp at h
  | a :: L,n :: ns,nd,h=>by
    obtain ⟨h1,h2⟩:=List.nodup_cons.mp nd
    obtain ⟨g,hg⟩:=ex_map (L:=L) (ns:=ns) h2 (by simpa using h)
    refine ⟨fun c=>if c=a then n else g c,?_⟩
    rw [List.map_cons,if_pos rfl,← hg]
    congr 1
    refine List.map_congr_left fun c hc=>?_
    rw [if_neg]
    intro z
    exact h1 (by rw [← z];exact hc)
theorem inj_map {g:Nat→Nat}:∀ {L:List Nat},(L.map g).Nodup→∀ a∈L,∀ b∈L,g a=g b→a=b
  | [],_,a,ha,_,_,_=>by cases ha
  | c :: L,nd,a,ha,b,hb,e=>by
    rw [List.map_cons] at nd
    obtain ⟨h1,h2⟩:=List.nodup_cons.mp nd
    rcases List.mem_cons.mp ha with ea | ha'
    · rcases List.mem_cons.mp hb with eb | hb'
      · rw [ea,eb]
      · exact absurd (by rw [← ea,e];exact List.mem_map_of_mem hb') h1
    · rcases List.mem_cons.mp hb with eb | hb'
      · exact absurd (by rw [← eb,← e];exact List.mem_map_of_mem ha') h1
      · exact inj_map h2 a ha' b hb' e
theorem map_nd {g:Nat→Nat}:∀ {L:List Nat},L.Nodup→(∀ a∈L,∀ b∈L,g a=g b→a=b)→(L.map g).Nodup
  | [],_,_=>List.nodup_nil
  | c :: L,nd,h=>by
    obtain ⟨h1,h2⟩:=List.nodup_cons.mp nd
    rw [List.map_cons]
    refine List.nodup_cons.mpr ⟨fun z=>?_,map_nd h2 fun a ha b hb=>h a (List.mem_cons_of_mem _ ha) b (List.mem_cons_of_mem _ hb)⟩
    obtain ⟨a,ha,e⟩:=List.mem_map.mp z
    exact h1 (by rw [h c List.mem_cons_self a (List.mem_cons_of_mem _ ha) e.symm];exact ha)
abbrev kvg (L:List Nat) (g:Nat→Nat):List (Key × V):=L.map fun c=>((Sum.inr (one c):Key),sign (g c))
theorem kvg_val {g:Nat→Nat}:∀ {L:List Nat} {c:Nat},c∈L→valV (kvg L g) (Sum.inr (one c):Key)=some (sign (g c))
  | [],c,h=>by cases h
  | e :: L,c,h=>by
    show Option.map _ (List.find? _ (((Sum.inr (one e):Key),sign (g e)) :: kvg L g))=_
    by_cases z:e=c
    · subst z
      rw [List.find?_cons_of_pos (by exact decide_eq_true rfl)]
      rfl
    · rw [List.find?_cons_of_neg]
      · exact kvg_val ((List.mem_cons.mp h).resolve_left fun y=>z y.symm)
      · intro y
        have y':(Sum.inr (one e):Key)=Sum.inr (one c):=of_decide_eq_true y
        exact z (one_inj (Sum.inr.inj y'))
theorem pairs_of {H:Hp} {g:Nat→Nat}:∀ {ts:List Addr} {L:List Nat},ts.length=L.length→(∀ (j:Nat) t c,ts[j]? = some t→L[j]? = some c→H t=some (.tup [sign c,sign (g c)]))→PairsAt H ts (kvg L g)
  | [],[],_,_=>.nil
  | [],_ :: _,h,_=>by simp at h
  | _ :: _,[],h,_=>by simp at h
  | t :: ts,c :: L,h,k=>.cons (k 0 t c rfl rfl) (pairs_of (by simpa using h) fun j t' c' e1 e2=>k (j+1) t' c' e1 e2)
theorem turn_join {K:PySem.W.Frag} {ix:List (Option Nat)} {σ:L2.St} {H:Hp} {Q:VK} {tl t0:TE} {p td:Addr} {b:Nat} {x:List Nat} {g:Nat→Nat} (e:cst ix σ=[none,some (.ref td)]) (hp:PenAt H p b) (hb:b≤890000) (ntp:td≠p) {ok:List Nat} (hd:∀ H',But p H H'→∀ c∈ok,DGet H' td (sign c) (some (sign (g c)))) (hx:∀ c∈x,c∈ok) (hxl:x.length≤30)
    (h0:∀ R:VK,R (.ref p) H→t0 σ H R) (ht:∀ R:VK,(∀ l,H l=none→R (.ref l) (upd H l (.lst (x.map sign))))→tl σ H R)
    (k:∀ (y:List Nat) H',But p H H'→PenAt H' p (b+x.length)→y.length=x.length→(∀ c∈y,∃ e∈x,c=g e)→Q (tx y) H') :
    tBM K "str" (rJoin K) (tC (.str (Str.ofString ""))) (tCons (tComp ix (iList K (tCall spMix [] E0 (tCons t0 (tCons tl tNil)))) (gName 0) tAll (tDGet (tVar 1) (tVar 0))) tNil) σ H Q:=by
  refine ⟨rfl,h0 _ (ht _ fun l nl=>?_)⟩
  obtain ⟨op,hop⟩:=hp.some
  have npl:p≠l:=ne_of_none hop nl
  have sl:=Same.add (o:=.lst (x.map sign)) nl
  refine ⟨p,l,b,x,rfl,hp.other (upd_ne npl),by omega,upd_same,hxl,npl.symm,fun m ms H1 nm hB1 hP1 hm hperm=>⟨m,rfl,⟨_,SqL.of hm⟩,?_⟩⟩
  have hBx:But p H H1:=(But.same sl).trans hB1
  have hlen:=hperm.length_eq
  rw [e]
  refine comp_all (Q:=fun y Ha=>rJoin K (.str (Str.ofString "")) [y] Ha Q) (τ0:=[none,some (.ref td)]) (sure_list (xs:=ms.map sign)) (by rw [List.length_map];omega)
    (fun n us τ H6=>H6=H1∧(∃ v,τ=[v,some (.ref td)])∧us=((ms.take n).map g).map sign) ⟨rfl,⟨_,rfl⟩,rfl⟩ ?_ ?_ ?_
  · rintro n us τ H6 hn ⟨rfl,_,rfl⟩
    refine ⟨SqL.of hm,?_⟩
    rw [List.length_map,List.length_map,List.length_take]
    omega
  · rintro n y us τ H6 hy ⟨rfl,⟨v,rfl⟩,rfl⟩
    rw [List.getElem?_map] at hy
    cases e6:ms[n]? with
    | none=>rw [e6] at hy;cases hy
    | some c =>
      rw [e6] at hy
      cases hy
      refine ⟨_,rfl,_,rfl,td,_,rfl,hd _ hBx c (hx c (hperm.mem_iff.mp (List.mem_of_getElem? e6))),rfl,⟨_,rfl⟩,?_⟩
      rw [take_snoc g e6,List.map_append]
      rfl
  · rintro us τ H6 D ⟨rfl,_,rfl⟩ hD
    rw [List.length_map,take_all]
    have nDp:p≠D:=by obtain ⟨o,ho⟩:=hP1.some;exact ne_of_none ho hD
    refine ⟨_,D,(ms.map g).map fun c=>(⟨#[c]⟩:Str),rfl,rfl,SqL.of (by rw [upd_same,strs_sign]),?_,?_⟩
    · rw [sum_ones,List.length_map]
      show ms.length+_ * 0≤_
      omega
    rw [show Txt.join (Str.ofString "") ((ms.map g).map fun c=>(⟨#[c]⟩:Str))=⟨(ms.map g).toArray⟩ from join_signs _]
    refine k (ms.map g) _ (hBx.trans (But.same (Same.add hD))) (hP1.other (upd_ne nDp)) (by rw [List.length_map,hlen]) fun c hc=>?_
    obtain ⟨e0,he,rfl⟩:=List.mem_map.mp hc
    exact ⟨e0,hperm.mem_iff.mp he,rfl⟩
section
variable {P:Program} {w:World} {K:PySem.W.Frag} {mg:Str→Option Value} {base:Heap}
def spNam:Sp:=fun vs H Q _=>∃ (p t d l:Addr) (b:Nat) (x:List Nat) (us:List Rule) (ns:List Nat),vs=[.ref p,.ref t,.ref l]∧PenAt H p b∧b≤800000∧PairAt H t d x us∧Ws us∧us.length≤5∧x.length≤12∧(∀ c∈x,c∈ltr us)∧H l=some (.lst (ns.map sign))∧ns.length=us.length∧ns.Nodup ∧
  ∀ (t2 d2:Addr) (y cs:List Nat) (us2:List Rule) H',H t2=none→H d2=none→But p H H'→PenAt H' p (b+100)→PairAt H' t2 d2 y us2→cs.Nodup→cs.length=us.length→(∀ c∈cs,c∈ns)→Wp cs cs.length us2→y.length=x.length→(∀ c∈y,c∈cs)→Q (.ref t2) H'
theorem scNam:FnScope ["_law_pen_here","_law_one","_law_names","_law_turn","_law_words","_law_sign"] ["_law_pen_here","_law_one","_law_names"] (defScope sNam):=⟨rfl,rfl,rfl,by decide +kernel,rfl,by decide +kernel,by decide +kernel⟩
theorem nd_nam1:(["_law_letter","_law_turn"]:List Str).Nodup:=by decide +kernel
theorem nd_nam2:(["_law_letter","_law_turn"]:List Str).Nodup:=by decide +kernel
theorem ok_nam {f fMix:Addr} {fd fdMix:FuncData} (F:Fun K "_law_named" "_law_named" sNam f fd)
    (GMix:FnOk P w K mg base CX0 2 fMix fdMix ["_law_pen_here","_law_things"] spMix)
    (gMix:Gf K mg "_law_mixed" fMix fdMix ["_law_pen_here","_law_things"])
    (hzip:mg "zip" = none)
    (hlist:mg "list" = none)
    (hsorted:mg "sorted" = none)
    (hdict:mg "dict" = none)
    : FnOk P w K mg base CX0 3 f fd ["_law_pen_here","_law_one","_law_names"] spNam:=by
  refine F.ok scNam (fun vs H Q E h=>?_) (fun cdv A outer s H vs Q E hr h=>?_)
  · obtain ⟨p,t,d,l,b,x,us,ns,rfl,_⟩:=h
    rfl
  · obtain ⟨p,t,d,l,b,x,us,ns,rfl,hp,hb,hT,hW,h5,hx,hin,hl,hnl,hnd,q⟩:=h
    have hu:=hu_of hr
    refine ⟨_,(pss_cons (ps_set (i:=3) scNam.nd rfl (Or.inr rfl) (pe_callTy (call_dict_pairsK K rfl hu) (by rfl) hdict (by first | exact PySem.boot_dict | decide +kernel) (pa_cons (pe_listZipK K rfl rfl hlist rfl hzip (pa_cons (pe_callB (call_sortTK K) (by rfl) hsorted PyProof.Rows.boot_sorted (pa_cons (pe_callTy (call_list_dict rfl) (by rfl) hlist (by first | exact PySem.boot_list | decide +kernel) (pa_cons (pe_ix (ix_tupK K) (pv 1) pe_int (fun _ _=>rfl)) pa_nil)) pa_nil)) (pa_cons (pv 2) pa_nil))) pa_nil)))
      (pss_cons (ps_set (i:=4) scNam.nd rfl (Or.inl rfl) pe_dnewK)
      (pss_cons (ps_frz (ps_for PassesOwn.never rfl (pi_dict (pe_ix (ix_tupK K) (pv 1) pe_int (fun _ _=>rfl))) (pg_name (i:=5) scNam.nd rfl (Or.inl rfl)) (pss_one (ps_dput hu (pv 4) (pe_dget hu (pv 3) (pv 5) (fun _ _=>rfl)) (pe_bmK K PySem.F.plainAttrs_str PySem.F.slot_str_join PySem.F.type_str_join (mt_joinK K) pe_str (pa_cons (pe_comp (N':=["_law_letter","_law_turn"]) (ix:=[none,some 3]) rfl rfl (pi_listK K (pe_call GMix hr rfl gMix.m gMix.k gMix.b .nil pass0 (pa_cons (pv 0) (pa_cons (pe_callTy (call_list_text rfl) (by rfl) hlist (by first | exact PySem.boot_list | decide +kernel) (pa_cons (pe_dget hu (pe_ix (ix_tupK K) (pv 1) pe_int (fun _ _=>rfl)) (pv 5) (fun _ _=>rfl)) pa_nil)) pa_nil)))) (fun _ _ _ _ _ _=>(pg_name (i:=0) nd_nam1 rfl (Or.inl rfl))) (fun _ _ _ _ _ _=>pts_nil) (fun _ _ _ _ _ _=>(pe_dget hu (pv 1) (pv 0) (fun _ _=>rfl)))) pa_nil)) rfl))))
      (pss_one (ps_ret (pe_tup (pa_cons (pe_bmK K PySem.F.plainAttrs_str PySem.F.slot_str_join PySem.F.type_str_join (mt_joinK K) pe_str (pa_cons (pe_comp (N':=["_law_letter","_law_turn"]) (ix:=[none,some 3]) rfl rfl (pi_listK K (pe_call GMix hr rfl gMix.m gMix.k gMix.b .nil pass0 (pa_cons (pv 0) (pa_cons (pe_callTy (call_list_text rfl) (by rfl) hlist (by first | exact PySem.boot_list | decide +kernel) (pa_cons (pe_ix (ix_tupK K) (pv 1) pe_int (fun _ _=>rfl)) pa_nil)) pa_nil)))) (fun _ _ _ _ _ _=>(pg_name (i:=0) nd_nam2 rfl (Or.inl rfl))) (fun _ _ _ _ _ _=>pts_nil) (fun _ _ _ _ _ _=>(pe_dget hu (pv 1) (pv 0) (fun _ _=>rfl)))) pa_nil)) (pa_cons (pv 4) pa_nil)))))))),?_⟩
    have es:∀ xs:List Nat,(xs.map one).map V.str=xs.map sign:=fun xs=>by rw [List.map_map];rfl
    obtain ⟨op0,hop0⟩:=hp.some
    have ndp:d≠p:=fun z=>by obtain ⟨_,_,_,ho,_⟩:=hp.ex;rw [← z,hT.d] at ho;cases ho
    have ntp:t≠p:=fun z=>by obtain ⟨_,_,_,ho,_⟩:=hp.ex;rw [← z,hT.t] at ho;cases ho
    refine ⟨_,rfl,t,_,_,_,rfl,rfl,SqT.of hT.t,atI_nat (j:=1) rfl,d,kvw us,(ltr us).map one,rfl,hT.d,kvw_ones us,fun l1 nl1=>?_⟩
    rw [es]
    have s1:=Same.add (o:=.lst ((ltr us).map sign)) nl1
    refine ⟨l1,false,(ltr us).map one,rfl,(by show SqL K _ l1 _;rw [es];exact SqL.of upd_same),by rw [List.length_map,ltr_len];omega,fun l2 ss' hl2 hperm hsort=>?_⟩
    obtain ⟨cs',hp',rfl⟩:=perm_ones hperm
    rw [es]
    have nd':cs'.Nodup:=hp'.nodup_iff.mpr hW.nd
    have hlen':cs'.length=us.length:=by rw [hp'.length_eq];exact ltr_len us
    have hin':∀ c∈cs',c∈ltr us:=fun c hc=>hp'.mem_iff.mp hc
    obtain ⟨g,hg⟩:=ex_map (L:=cs') (ns:=ns) nd' (by omega)
    have ginj:=inj_map (g:=g) (L:=cs') (by rw [hg];exact hnd)
    have s2:=Same.add (o:=.lst (cs'.map sign)) hl2
    have s02:=s1.trans s2
    refine ⟨_,rfl,l2,l,_,_,rfl,SqL.of upd_same,SqL.of (s02 _ _ hl),by rw [List.length_map,List.length_map];omega,by rw [List.length_map];omega,fun dz ts Hz sz ndz nts hdz htl hatz=>?_⟩
    have hat2:∀ (j:Nat) t c,ts[j]? = some t→cs'[j]? = some c→Hz t=some (.tup [sign c,sign (g c)]):=fun j t c e1 e2=>by
      refine hatz j t _ _ e1 (by rw [List.getElem?_map,e2];rfl) ?_
      rw [← hg,List.getElem?_map,List.getElem?_map,e2]
      rfl
    have s0z:Same H Hz:=s02.trans sz
    refine ⟨dz,ts,kvg cs' g,rfl,SqL.of hdz,pairs_of (by rw [htl,List.length_map]) hat2,?_,by rw [List.length_map];omega,fun td ntd=>?_⟩
    · have ek:(kvg cs' g).map (·.1)=cs'.map fun c=>(Sum.inr (one c):Key):=by rw [List.map_map];rfl
      rw [ek]
      refine List.pairwise_map.mpr (nd'.imp fun h z=>h (one_inj (Sum.inr.inj z)))
    have s1d:=s0z.trans (Same.add (o:=.dK (kvg cs' g)) ntd)
    have htd:upd Hz td (.dK (kvg cs' g)) td=some (.dK (kvg cs' g)):=upd_same
    have ntdp:td≠p:=(ne_of_none (s0z _ _ hop0) ntd).symm
    have ntdd:td≠d:=(ne_of_none (s0z _ _ hT.d) ntd).symm
    have ntdt:td≠t:=(ne_of_none (s0z _ _ hT.t) ntd).symm
    revert s1d htd
    generalize upd Hz td (.dK (kvg cs' g))=H1
    intro s1d htd
    have hP1:PenAt H1 p b:=hp.other ((s1d _ _ hop0).trans hop0.symm)
    have hd1:=s1d _ _ hT.d
    have ht1:=s1d _ _ hT.t
    intro d2 nd2
    have nd2p:d2≠p:=by obtain ⟨o,ho⟩:=hP1.some;exact (ne_of_none ho nd2).symm
    have nd2d:d2≠d:=(ne_of_none hd1 nd2).symm
    have ntd':t≠d:=fun z=>by rw [z,hd1] at ht1;cases ht1
    have hmem:∀ c∈ltr us,c∈cs':=fun c hc=>hp'.mem_iff.mpr hc
    have cnd:((ltr us).map g).Nodup:=map_nd hW.nd fun a ha b hb=>ginj a (hmem a ha) b (hmem b hb)
    have gin:∀ c∈ltr us,g c∈(ltr us).map g:=fun c hc=>List.mem_map_of_mem hc
    have clen:((ltr us).map g).length=us.length:=by rw [List.length_map,ltr_len]
    refine ⟨d,kvw us,by rw [upd_ne nd2d.symm];exact hd1,fun ob=>?_⟩
    refine ⟨_,rfl,t,_,_,_,rfl,rfl,SqT.of (by rw [upd_ne ntd',upd_ne (ne_of_none ht1 nd2)];exact ht1),atI_nat (j:=1) rfl,d,ob,kvw us,rfl,upd_same,?_⟩
    refine for_by (sure_dict (d:=d) (ob:=ob) (kvs:=kvw us)) (fun i σ H5=>∃ (us2:List Rule) (v5:Option V),σ=[some (.ref p),some (.ref t),some (.ref l),some (.ref td),some (.ref d2),v5]∧i≤us.length∧(∀ c o,c≠p→c≠d→H1 c=some o→H5 c=some o)∧H5 d=some (.frz ob (.dK (kvw us)))∧H5 d2=some (.dK (kvw us2))∧Wp ((ltr us).map g) i us2∧PenAt H5 p (b+6 * i))
      ⟨[],none,rfl,Nat.zero_le _,fun c o n1 n2 h=>by rw [upd_ne n2,upd_ne (ne_of_none h nd2)];exact h,upd_same,by rw [upd_ne nd2d,upd_same];rfl,⟨rfl,fun q hq=>by cases hq⟩,(hP1.other (by rw [upd_ne ndp.symm,upd_ne nd2p.symm])).mono (by omega)⟩ ?_ ?_ ?_
    · rintro i σ H5 hi ⟨us2,v5,rfl,hi5,k5,hd5,_⟩
      exact hd5
    · rintro i y σ H5 hy ⟨us2,v5,rfl,hi5,k5,hd5,h25,hW5,hP5⟩
      unfold kvw at hy
      rw [List.map_map,List.getElem?_map] at hy
      cases e:us[i]? with
      | none=>rw [e] at hy;cases hy
      | some qq =>
        rw [e] at hy
        obtain rfl:sign qq.1=y:=Option.some.inj hy
        obtain ⟨ec,_⟩:=ltr_nt hW.nd e
        generalize qq.1=c at *
        have hcu:c∈ltr us:=List.mem_of_getElem? ec
        have hil:i < us.length:=(List.getElem?_eq_some_iff.mp e).1
        obtain ⟨w6,win⟩:=wd_of hW hcu
        have ht5:=k5 _ _ ntp ntd' ht1
        have htd5:=k5 _ _ ntdp ntdd htd
        have hgw:=DGet.f (k:=(Sum.inr (one c):Key)) hd5
        rw [kvw_wd hW.nd hcu] at hgw
        dsimp only [gName]
        unfold sDPut
        refine turn_join (p:=p) (td:=td) (b:=b+6 * i) (x:=wd us c) (g:=g) (ok:=ltr us) rfl hP5 (by omega) ntdp (fun H' hB' c hc=>?_) win (by omega) (fun R r=>⟨_,rfl,r⟩) (fun R r=>⟨_,rfl,t,_,_,_,rfl,rfl,SqT.of ht5,atI_nat (j:=1) rfl,_,rfl,d,_,rfl,hgw,⟨(wd us c).toArray⟩,rfl,(by show (wd us c).length≤_;omega),r⟩) (fun y H6 hB6 hP6 yl yi=>?_)
        · have hg2:=DGet.k (k:=(Sum.inr (one c):Key)) (hB' td _ htd5 ntdp)
          rw [kvg_val (hmem c hc)] at hg2
          exact hg2
        · have hg3:=DGet.k (k:=(Sum.inr (one c):Key)) (hB6 td _ htd5 ntdp)
          rw [kvg_val (hmem c hcu)] at hg3
          have h26:=hB6 d2 _ h25 nd2p
          have hu2:=hW5.len
          obtain ⟨hW6,eput⟩:=hW5.put cnd (show ((ltr us).map g)[i]? = some (g c) by rw [List.getElem?_map,ec];rfl) (w:=y) (by omega) (fun e he=>by
            obtain ⟨e0,h0,rfl⟩:=yi e he
            exact gin e0 (win e0 h0))
          refine ⟨_,rfl,_,rfl,_,rfl,td,_,rfl,hg3,d2,_,rfl,DPut.k (k:=(Sum.inr (one (g c)):Key)) h26 (small1000 (by unfold kvw;rw [List.length_map];omega)),?_⟩
          rw [eput]
          refine ⟨_,_,rfl,by omega,fun c' o n1 n2 h=>?_,?_,upd_same,hW6,(hP6.other (upd_ne nd2p.symm)).mono (by omega)⟩
          · rw [upd_ne (ne_of_none h nd2)]
            exact hB6 c' o (k5 c' o n1 n2 h) n1
          · rw [upd_ne nd2d.symm]
            exact hB6 d _ hd5 ndp
    · rintro σ H5 ⟨us2,v5,rfl,hi5,k5,hd5,h25,hW5,hP5⟩
      have el:((kvw us).map fun p=>kV p.1).length=us.length:=by unfold kvw;simp
      rw [el] at hW5 hP5
      refine ⟨hd5,?_⟩
      have kB:But p H (upd H5 d (.dK (kvw us))):=fun c o h n=>by
        by_cases z:c=d
        · rw [z,upd_same]
          rw [z,hT.d] at h
          exact h
        · rw [upd_ne z]
          exact k5 c o n z (s1d _ _ h)
      have h26:upd H5 d (.dK (kvw us)) d2=some (.dK (kvw us2)):=by rw [upd_ne nd2d];exact h25
      have hP6:PenAt (upd H5 d (.dK (kvw us))) p (b+6 * us.length):=hP5.other (upd_ne ndp.symm)
      have htd6:upd H5 d (.dK (kvw us)) td=some (.dK (kvg cs' g)):=by rw [upd_ne ntdd];exact k5 _ _ ntdp ntdd htd
      revert kB h26 hP6 htd6
      generalize upd H5 d (.dK (kvw us))=H6
      intro kB h26 hP6 htd6
      have ht6:=kB _ _ hT.t ntp
      dsimp only
      unfold tRet tTup
      refine turn_join (p:=p) (td:=td) (b:=b+6 * us.length) (x:=x) (g:=g) (ok:=ltr us) rfl hP6 (by omega) ntdp (fun H' hB' c hc=>?_) hin (by omega) (fun R r=>⟨_,rfl,r⟩) (fun R r=>⟨_,rfl,t,_,_,_,rfl,rfl,SqT.of ht6,atI_nat (j:=0) rfl,⟨x.toArray⟩,rfl,(by show x.length≤_;omega),r⟩) (fun y H7 hB7 hP7 yl yi=>?_)
      · have hg2:=DGet.k (k:=(Sum.inr (one c):Key)) (hB' td _ htd6 ntdp)
        rw [kvg_val (hmem c hc)] at hg2
        exact hg2
      · refine ⟨_,rfl,szl (show 2≤1000 by decide),fun t2 nt2=>?_⟩
        have nt2p:t2≠p:=by obtain ⟨o,ho⟩:=hP7.some;exact (ne_of_none ho nt2).symm
        have hBx:=kB.trans hB7
        have s9:=Same.add (o:=.tup [tx y,.ref d2]) nt2
        refine q t2 d2 y ((ltr us).map g) us2 _ (hBx.free nt2p nt2) ((But.same s1d).free nd2p nd2) (hBx.trans (But.same s9)) ((hP7.other (upd_ne nt2p.symm)).mono (by omega)) ⟨upd_same,s9 _ _ (hB7 _ _ h26 nd2p)⟩ cnd clen (fun c hc=>?_) (by rw [clen];exact hW5) yl (fun c hc=>?_)
        · obtain ⟨e,he,rfl⟩:=List.mem_map.mp hc
          rw [← hg]
          exact List.mem_map_of_mem (hmem e he)
        · obtain ⟨e,he,rfl⟩:=yi c hc
          exact gin e (hin e he)
end
end Lw
namespace Lw
open PySem L2 PyProof.Rows
theorem cutN_hi (ms:List Nat) (m:Nat):cutN ms none (some (m:Int))=ms.take m:=by
  unfold cutN
  rw [HT.sIx_nat,HT.sIx_none,List.drop_zero,Nat.sub_zero]
  by_cases h:m≤ms.length
  · rw [Nat.min_eq_left h]
  · rw [Nat.min_eq_right (by omega),List.take_of_length_le (Nat.le_refl _),List.take_of_length_le (by omega)]
theorem PenAt.sm {H H':Hp} {p:Addr} {b:Nat} (h:PenAt H p b) (s:Same H H'):PenAt H' p b:=by
  obtain ⟨a,n,f,e,h1⟩:=h.ex
  exact ⟨a,n,f,s _ _ e,h1⟩
theorem rep_len (n:Nat) (w:List Nat):(List.replicate n w).flatten.length=n * w.length:=by
  induction n with
  | zero=>simp
  | succ n ih=>rw [List.replicate_succ,List.flatten_cons,List.length_append,ih,Nat.succ_mul];omega
theorem rep_in {n:Nat} {w:List Nat}:∀ e∈(List.replicate n w).flatten,e∈w:=fun e he=>by
  obtain ⟨l,hl,he⟩:=List.mem_flatten.mp he
  rw [(List.mem_replicate.mp hl).2] at he
  exact he
theorem join_sg {K:PySem.W.Frag} {H:Hp} {Q:VK} {l:Addr} {ys:List Nat} (hl:H l=some (.lst (ys.map sign))) (hz:ys.length≤1000) (k:Q (tx ys) H):rJoin K (.str (Str.ofString "")) [.ref l] H Q:=by
  refine ⟨_,l,ys.map fun c=>(⟨#[c]⟩:Str),rfl,rfl,SqL.of (by rw [hl,strs_sign]),?_,?_⟩
  · rw [sum_ones,List.length_map]
    show ys.length+ys.length * 0≤_
    exact szl (by omega)
  · rw [show Txt.join (Str.ofString "") (ys.map fun c=>(⟨#[c]⟩:Str))=⟨ys.toArray⟩ from join_signs _]
    exact k
section
variable {P:Program} {w:World} {K:PySem.W.Frag} {mg:Str→Option Value} {base:Heap}
def spTai:Sp:=fun vs H Q _=>∃ (p t d l:Addr) (b:Nat) (x:List Nat) (us:List Rule) (ns:List Nat),vs=[.ref p,.ref t,.ref l]∧PenAt H p b∧b≤800000∧PairAt H t d x us∧Ws us∧us.length≤4∧x.length≤4∧(∀ c∈x,c∈ltr us)∧H l=some (.lst (ns.map sign))∧ns.length≤4∧(ltr us++ns).Nodup∧(∀ c∈ns,97≤c∧c≤122)∧l≠p ∧
  ∀ (t2 d2:Addr) (y:List Nat) (us2:List Rule) H',H t2=none→H d2=none→But p H H'→PenAt H' p (b+20)→PairAt H' t2 d2 y us2→Ws us2→y.length≤12→(∀ c∈y,c∈ltr us2)→Q (.ref t2) H'
theorem scTai:FnScope ["_law_pen_here","_law_one","_law_signs","_law_words","_law_at","_law_sign","_law_tail","_law_spot"] ["_law_pen_here","_law_one","_law_signs"] (defScope sTai):=⟨rfl,rfl,rfl,by decide +kernel,rfl,by decide +kernel,by decide +kernel⟩
theorem ok_tai {f fTak:Addr} {fd fdTak:FuncData} (F:Fun K "_law_tailed" "_law_tailed" sTai f fd)
    (GTak:FnOk P w K mg base CX0 1 fTak fdTak ["_law_pen_here","_law_size"] spTak)
    (gTak:Gf K mg "_law_take" fTak fdTak ["_law_pen_here","_law_size"])
    (hlen:mg "len" = none)
    (henumerate:mg "enumerate" = none)
    (hdict:mg "dict" = none)
    : FnOk P w K mg base CX0 2 f fd ["_law_pen_here","_law_one","_law_signs"] spTai:=by
  refine F.ok scTai (fun vs H Q E h=>?_) (fun cdv A outer s H vs Q E hr h=>?_)
  · obtain ⟨p,t,d,l,b,x,us,ns0,rfl,_⟩:=h
    rfl
  · obtain ⟨p,t,d,l,b,x,us,ns0,rfl,hP,hb,hT,hW,h5,hx,hin,hl0,hnl0,hnd0,hab0,nlp,q⟩:=h
    have hu:=hu_of hr
    refine ⟨_,(pss_cons (ps_set (i:=2) scTai.nd rfl (Or.inl rfl) (pe_slice (sl_listK K) (pv 2) po_none (po_some (pe_call GTak hr rfl gTak.m gTak.k gTak.b .nil pass0 (pa_cons (pv 0) (pa_cons pe_int pa_nil))))))
      (pss_cons (ps_set (i:=3) scTai.nd rfl (Or.inl rfl) (pe_callTy call_dict_dict (by rfl) hdict (by first | exact PySem.boot_dict | decide +kernel) (pa_cons (pe_ix (ix_tupK K) (pv 1) pe_int (fun _ _=>rfl)) pa_nil)))
      (pss_cons (ps_for PassesOwn.never rfl (pi_enumK K rfl henumerate (pa_cons (pv 2) pa_nil)) (pg_tupK K (n:=2) rfl (pgs_cons (pg_name (i:=4) scTai.nd rfl (Or.inl rfl)) (pgs_cons (pg_name (i:=5) scTai.nd rfl (Or.inl rfl)) pgs_nil))) (pss_one (ps_dput hu (pv 3) (pv 5) (pe_op op_mul0 (pe_bmK K PySem.F.plainAttrs_str PySem.F.slot_str_join PySem.F.type_str_join (mt_joinK K) pe_str (pa_cons (pe_slice (sl_listK K) (pv 2) (po_some (pe_op op_add (pv 4) pe_int)) (po_some (pe_op op_add (pv 4) pe_int))) pa_nil)) (pe_op op_add pe_int (pe_call GTak hr rfl gTak.m gTak.k gTak.b .nil pass0 (pa_cons (pv 0) (pa_cons pe_int pa_nil))))) rfl)))
      (pss_cons (ps_set (i:=6) scTai.nd rfl (Or.inl rfl) (pe_op op_mul0 (pe_bmK K PySem.F.plainAttrs_str PySem.F.slot_str_join PySem.F.type_str_join (mt_joinK K) pe_str (pa_cons (pe_slice (sl_listK K) (pv 2) po_none (po_some pe_int)) pa_nil)) (pe_op op_add pe_int (pe_call GTak hr rfl gTak.m gTak.k gTak.b .nil pass0 (pa_cons (pv 0) (pa_cons pe_int pa_nil))))))
      (pss_cons (ps_set (i:=7) scTai.nd rfl (Or.inl rfl) (pe_call GTak hr rfl gTak.m gTak.k gTak.b .nil pass0 (pa_cons (pv 0) (pa_cons (pe_op op_add (pe_callB call_len_str (by rfl) hlen PySem.boot_len (pa_cons (pe_ix (ix_tupK K) (pv 1) pe_int (fun _ _=>rfl)) pa_nil)) pe_int) pa_nil))))
      (pss_one (ps_ret (pe_tup (pa_cons (pe_op op_add_str (pe_op op_add_str (pe_slice sl_str (pe_ix (ix_tupK K) (pv 1) pe_int (fun _ _=>rfl)) po_none (po_some (pv 7))) (pv 6)) (pe_slice sl_str (pe_ix (ix_tupK K) (pv 1) pe_int (fun _ _=>rfl)) (po_some (pv 7)) po_none)) (pa_cons (pv 3) pa_nil)))))))))),?_⟩
    have but3:∀ {Ha Hb:Hp},(∀ c,c≠p→Hb c=Ha c)→But p Ha Hb:=fun e c o h n=>(e c n).trans h
    have ntp:t≠p:=fun z=>by obtain ⟨_,_,_,ho,_⟩:=hP.ex;rw [← z,hT.t] at ho;cases ho
    have ndp:d≠p:=fun z=>by obtain ⟨_,_,_,ho,_⟩:=hP.ex;rw [← z,hT.d] at ho;cases ho
    refine ⟨_,rfl,_,rfl,p,b,_,rfl,hP,by omega,by decide,by decide,fun z H1 z0 z1 hP1 e1=>⟨_,rfl,l,_,rfl,SqL.of ((e1 l nlp).trans hl0),fun l2 n2=>?_⟩⟩
    obtain ⟨j,rfl⟩:∃ j:Nat,z=(j:Int):=⟨z.toNat,by omega⟩
    rw [cut_sign,cutN_hi]
    have hnd:(ltr us++ns0.take j).Nodup:=hnd0.sublist (List.Sublist.append (List.Sublist.refl _) (List.take_sublist _ _))
    have hab:∀ c∈ns0.take j,97≤c∧c≤122:=fun c hc=>hab0 c (List.mem_of_mem_take hc)
    have hnl:(ns0.take j).length≤4:=by rw [List.length_take];omega
    revert hnd hab hnl
    generalize ns0.take j=ns
    intro hnd hab hnl
    have B01:But p H H1:=but3 e1
    have p2:l2≠p:=by obtain ⟨o,ho⟩:=hP1.some;exact (ne_of_none ho n2).symm
    have sl:=Same.add (o:=.lst (ns.map sign)) n2
    have hl:upd H1 l2 (.lst (ns.map sign)) l2=some (.lst (ns.map sign)):=upd_same
    have hP2:=hP1.sm sl
    have B02:=B01.trans (But.same sl)
    revert hl hP2 B02
    generalize upd H1 l2 (.lst (ns.map sign))=H2
    intro hl hP2 B02
    refine ⟨_,rfl,t,_,_,_,rfl,rfl,SqT.of (B02 _ _ hT.t ntp),atI_nat (j:=1) rfl,d,kvw us,rfl,B02 _ _ hT.d ndp,fun d2 nd2=>?_⟩
    have s1:=Same.add (o:=.dK (kvw us)) nd2
    have ndp2:d2≠p:=by obtain ⟨o,ho⟩:=hP2.some;exact (ne_of_none ho nd2).symm
    have hfew:=hW.few
    have lu:=ltr_len us
    have clen:(ltr us++ns).length=us.length+ns.length:=by rw [List.length_append,lu]
    have ld2:l2≠d2:=ne_of_none hl nd2
    refine ⟨_,rfl,l2,rfl,⟨_,SqL.of (s1 _ _ hl)⟩,?_⟩
    refine for_by2 (sure_enum (xs:=ns.map sign)) (fun i σ H4=>∃ (us3:List Rule) (v4 v5:Option V),σ=[some (.ref p),some (.ref t),some (.ref l2),some (.ref d2),v4,v5,none,none]∧i≤ns.length∧But p H2 H4∧PenAt H4 p (b+1+i)∧H4 d2=some (.dK (kvw us3))∧Wp (ltr us++ns) (us.length+i) us3)
      ⟨us,none,none,rfl,Nat.zero_le _,But.same s1,hP2.sm s1,upd_same,⟨by rw [Nat.add_zero,← lu,List.take_left],fun q hq=>⟨hW.wl q hq,fun c hc=>List.mem_append_left _ (hW.win q hq c hc)⟩⟩⟩ ?_ ?_ ?_
    · rintro i σ H4 hi ⟨us3,v4,v5,rfl,e6,B4,_⟩
      exact SqL.of (B4 _ _ hl p2)
    · rintro i zs σ H4 T hz ⟨us3,v4,v5,rfl,e6,B4,hP4,hd4,hW4⟩ hT'
      rw [List.getElem?_map] at hz
      cases ez:(ns.map sign).zipIdx[i]? with
      | none=>rw [ez] at hz;cases hz
      | some pr =>
        rw [ez] at hz
        cases hz
        rw [List.getElem?_zipIdx,List.getElem?_map] at ez
        cases ec:ns[i]? with
        | none=>rw [ec] at ez;cases ez
        | some c =>
          rw [ec] at ez
          have ez':pr=(sign c,i):=by rw [← Option.some.inj ez,Nat.zero_add]
          subst ez'
          have hil:i < ns.length:=(List.getElem?_eq_some_iff.mp ec).1
          have sT:=Same.add (o:=.tup [V.int (i:Int),sign c]) hT'
          have hlT:=sT _ _ (B4 _ _ hl p2)
          refine ⟨T,_,rfl,SqT.of upd_same,rfl,_,_,rfl,_,_,rfl,rfl,?_⟩
          refine ⟨rfl,_,rfl,_,rfl,_,_,rfl,rfl,_,rfl,_,rfl,_,_,rfl,rfl,_,rfl,l2,_,rfl,SqL.of hlT,fun L nL=>?_⟩
          rw [cut_sign]
          have c1:=cut_one ns i
          have ci:∀ e∈cutN ns (some ((i:Int)+1)) (some ((i:Int)+2)),e∈ns:=fun e he=>cutN_in he
          revert c1 ci
          generalize cutN ns (some ((i:Int)+1)) (some ((i:Int)+2))=w'
          intro c1 ci
          have sL:=Same.add (o:=.lst (w'.map sign)) nL
          dsimp only [tNil]
          refine join_sg (ys:=w') upd_same (by omega) ?_
          have hP5:=hP4.sm (sT.trans sL)
          refine ⟨_,rfl,p,_,_,rfl,hP5,by omega,by decide,by decide,fun z7 H7 z70 z71 hP7 e7=>⟨_,_,rfl,rfl,?_⟩⟩
          obtain ⟨m,rfl⟩:∃ m:Nat,z7=(m:Int):=⟨z7.toNat,by omega⟩
          refine ⟨w',1+m,rfl,by show V.int (1+(m:Int))=_;congr 1,by omega,by omega,?_⟩
          have rl:=rep_len (1+m) w'
          have rl6:(List.replicate (1+m) w').flatten.length≤6:=by
            rw [rl]
            have:(1+m) * w'.length≤2 * 1:=Nat.mul_le_mul (by omega) c1
            omega
          have ri:∀ e∈(List.replicate (1+m) w').flatten,e∈ltr us++ns:=fun e he=>List.mem_append_right _ (ci e (rep_in e he))
          revert rl6 ri
          clear rl
          generalize (List.replicate (1+m) w').flatten=w2
          intro rl6 ri
          have hu3:=hW4.len
          obtain ⟨hW5,eput⟩:=hW4.put hnd (c:=c) (w:=w2) (by rw [List.getElem?_append_right (by omega),lu,Nat.add_sub_cancel_left];exact ec) rl6 ri
          have B47:But p H4 H7:=(But.same (sT.trans sL)).trans (but3 e7)
          refine ⟨_,rfl,_,rfl,d2,_,rfl,DPut.k (k:=(Sum.inr (one c):Key)) (B47 _ _ hd4 ndp2) (small1000 (by unfold kvw;rw [List.length_map];omega)),?_⟩
          rw [eput]
          refine ⟨_,_,_,rfl,by omega,fun b' o h n=>?_,(hP7.other (upd_ne ndp2.symm)).mono (by omega),upd_same,hW5⟩
          rw [upd_ne (ne_of_none h nd2)]
          exact (B4.trans B47) _ _ h n
    rintro σ H4 ⟨us3,v4,v5,rfl,e6,B4,hP4,hd4,hW4⟩
    have ezl:((ns.map sign).zipIdx.map fun p=>([V.int (p.2:Nat),p.1]:List V)).length=ns.length:=by simp
    rw [ezl] at hW4 hP4
    rw [← clen] at hW4
    have hu3:=hW4.len
    have h8:(ltr us++ns).length≤8:=by omega
    have hab':∀ c∈ltr us++ns,97≤c∧c≤122:=fun c hc=>by
      rcases List.mem_append.mp hc with z | z
      · exact hW.abc c z
      · exact hab c z
    obtain ⟨hWs,elt⟩:=hW4.ws hnd h8 hab'
    have hl4:=B4 _ _ hl p2
    refine ⟨rfl,_,rfl,_,rfl,l2,_,rfl,SqL.of hl4,fun L nL=>?_⟩
    rw [show (some (1:Int))=some ((1:Nat):Int) from rfl,cut_sign,cutN_hi]
    have sL:=Same.add (o:=.lst ((ns.take 1).map sign)) nL
    have t1:(ns.take 1).length≤1:=by rw [List.length_take];omega
    dsimp only [tNil]
    refine join_sg (ys:=ns.take 1) upd_same (by omega) ?_
    refine ⟨_,rfl,p,_,_,rfl,hP4.sm sL,by omega,by decide,by decide,fun z7 H7 z70 z71 hP7 e7=>⟨_,_,rfl,rfl,?_⟩⟩
    obtain ⟨m,rfl⟩:∃ m:Nat,z7=(m:Int):=⟨z7.toNat,by omega⟩
    refine ⟨ns.take 1,1+m,rfl,by show V.int (1+(m:Int))=_;congr 1,by omega,by omega,?_⟩
    have rl6:(List.replicate (1+m) (ns.take 1)).flatten.length≤2:=by
      rw [rep_len]
      have:(1+m) * (ns.take 1).length≤2 * 1:=Nat.mul_le_mul (by omega) t1
      omega
    have ri:∀ e∈(List.replicate (1+m) (ns.take 1)).flatten,e∈ltr us++ns:=fun e he=>List.mem_append_right _ (List.mem_of_mem_take (rep_in e he))
    revert rl6 ri
    generalize (List.replicate (1+m) (ns.take 1)).flatten=tl
    intro rl6 ri
    have B47:But p H4 H7:=(But.same sL).trans (but3 e7)
    have B07:But p H H7:=B02.trans (B4.trans B47)
    have ht7:=B07 _ _ hT.t ntp
    have ex:((⟨x.toArray⟩:Str).length:Nat)=x.length:=rfl
    refine ⟨_,rfl,_,rfl,t,_,_,_,rfl,rfl,SqT.of ht7,atI_nat (j:=0) rfl,⟨x.toArray⟩,rfl,szl (show x.length≤1000 by omega),_,_,rfl,rfl,p,_,_,rfl,hP7,by omega,by rw [ex];omega,by rw [ex];omega,fun z8 H8 z80 z81 hP8 e8=>?_⟩
    rw [ex] at z81
    obtain ⟨sp,rfl⟩:∃ m:Nat,z8=(m:Int):=⟨z8.toNat,by omega⟩
    have B08:=B07.trans (but3 e8)
    have ht8:=B08 _ _ hT.t ntp
    refine ⟨_,rfl,t,_,_,_,rfl,rfl,SqT.of ht8,atI_nat (j:=0) rfl,_,rfl,_,rfl,⟨x.toArray⟩,rfl,szl (show x.length≤1000 by omega),?_⟩
    rw [slice_take]
    refine ⟨_,rfl,⟨(x.take sp).toArray⟩,⟨tl.toArray⟩,rfl,rfl,szl (show (x.take sp).length+tl.length≤1000 by rw [List.length_take];omega),?_⟩
    rw [tx_app]
    refine ⟨_,rfl,t,_,_,_,rfl,rfl,SqT.of ht8,atI_nat (j:=0) rfl,_,rfl,_,rfl,⟨x.toArray⟩,rfl,szl (show x.length≤1000 by omega),?_⟩
    rw [slice_drop x sp (by omega)]
    have yl:(x.take sp++tl++x.drop sp).length≤12:=by rw [List.length_append,List.length_append,List.length_take,List.length_drop];omega
    refine ⟨⟨(x.take sp++tl).toArray⟩,⟨(x.drop sp).toArray⟩,rfl,rfl,szl (show (x.take sp++tl).length+(x.drop sp).length≤1000 by rw [← List.length_append];omega),?_⟩
    rw [tx_app]
    refine ⟨_,rfl,szl (show 2≤1000 by decide),fun t2 nt2=>?_⟩
    have s9:=Same.add (o:=.tup [tx (x.take sp++tl++x.drop sp),.ref d2]) nt2
    have nt2p:t2≠p:=by obtain ⟨o,ho⟩:=hP8.some;exact (ne_of_none ho nt2).symm
    have hd8:=(B47.trans (but3 e8)) _ _ hd4 ndp2
    refine q t2 d2 _ us3 _ (B08.free nt2p nt2) (B02.free ndp2 nd2) (B08.trans (But.same s9)) ((hP8.sm s9).mono (by omega)) ⟨upd_same,s9 _ _ hd8⟩ hWs yl fun c hc=>?_
    rw [elt]
    rcases List.mem_append.mp hc with h | h
    · rcases List.mem_append.mp h with h | h
      · exact List.mem_append_left _ (hin c (List.mem_of_mem_take h))
      · exact ri c h
    · exact List.mem_append_left _ (hin c (List.mem_of_mem_drop h))
end
end Lw
namespace Lw
open PySem L2 PyProof.Rows
section
variable {P:Program} {w:World} {K:PySem.W.Frag} {mg:Str→Option Value} {base:Heap}
def spSwl:Sp:=fun vs H Q _=>∃ (p l:Addr) (b:Nat) (cs:List Nat),vs=[.ref p,.ref l]∧PenAt H p b∧b≤800000∧H l=some (.lst (cs.map sign))∧cs.length=8∧cs.Nodup∧(∀ c∈cs,97≤c∧c≤122)∧l≠p ∧
  ∀ (t d:Addr) (x:List Nat) (us:List Rule) H',But p H H'→PenAt H' p (b+10)→PairAt H' t d x us→Ws us→x.length≤12→(∀ c∈x,c∈ltr us)→Q (.ref t) H'
theorem scSwl:FnScope ["_law_pen_here","_law_signs","_law_many","_law_words","_law_at","_law_spot"] ["_law_pen_here","_law_signs"] (defScope sSwl):=⟨rfl,rfl,rfl,by decide +kernel,rfl,by decide +kernel,by decide +kernel⟩
theorem ok_swl {f fTak:Addr} {fd fdTak:FuncData} (F:Fun K "_law_swelling" "_law_swelling" sSwl f fd)
    (GTak:FnOk P w K mg base CX0 1 fTak fdTak ["_law_pen_here","_law_size"] spTak)
    (gTak:Gf K mg "_law_take" fTak fdTak ["_law_pen_here","_law_size"])
    (hrange:mg "range" = none)
    : FnOk P w K mg base CX0 2 f fd ["_law_pen_here","_law_signs"] spSwl:=by
  refine F.ok scSwl (fun vs H Q E h=>?_) (fun cdv A outer s H vs Q E hr h=>?_)
  · obtain ⟨p,l,b,cs,rfl,_⟩:=h
    rfl
  · obtain ⟨p,l,b,cs,rfl,hP,hb,hl,h8,hnd,hab,nlp,q⟩:=h
    have hu:=hu_of hr
    refine ⟨_,(pss_cons (ps_set (i:=2) scSwl.nd rfl (Or.inl rfl) (pe_op op_add pe_int (pe_call GTak hr rfl gTak.m gTak.k gTak.b .nil pass0 (pa_cons (pv 0) (pa_cons pe_int pa_nil)))))
      (pss_cons (ps_set (i:=3) scSwl.nd rfl (Or.inl rfl) (pe_disp (pps_cons (pe_ix (ix_listK K) (pv 1) pe_int (fun _ _=>rfl)) pe_str pps_nil) rfl rfl (fun z=>nomatch z) (by decide)))
      (pss_cons (ps_for PassesOwn.never rfl (pi_range1 rfl hrange (pa_cons (pv 2) pa_nil)) (pg_name (i:=4) scSwl.nd rfl (Or.inl rfl)) (pss_one (ps_dput hu (pv 3) (pe_ix (ix_listK K) (pv 1) (pv 4) (fun _ _=>rfl)) (pe_ix (ix_listK K) (pv 1) (pe_op op_mod (pe_op op_add (pv 4) pe_int) (pv 2)) (fun _ _=>rfl)) rfl)))
      (pss_cons (ps_set (i:=5) scSwl.nd rfl (Or.inl rfl) (pe_call GTak hr rfl gTak.m gTak.k gTak.b .nil pass0 (pa_cons (pv 0) (pa_cons (pv 2) pa_nil))))
      (pss_cons (ps_dput hu (pv 3) (pe_ix (ix_listK K) (pv 1) (pv 5) (fun _ _=>rfl)) (pe_op op_add_str (pe_dget hu (pv 3) (pe_ix (ix_listK K) (pv 1) (pv 5) (fun _ _=>rfl)) (fun _ _=>rfl)) (pe_ix (ix_listK K) (pv 1) pe_int (fun _ _=>rfl))) rfl)
      (pss_one (ps_ret (pe_tup (pa_cons (pe_ix (ix_listK K) (pv 1) pe_int (fun _ _=>rfl)) (pa_cons (pv 3) pa_nil)))))))))),?_⟩
    have but3:∀ {Ha Hb:Hp},(∀ c,c≠p→Hb c=Ha c)→But p Ha Hb:=fun e c o h n=>(e c n).trans h
    have gat:∀ {i:Nat} (h:i < cs.length),(cs.map sign)[i]? = some (sign cs[i]):=fun {i} h=>by rw [List.getElem?_map,List.getElem?_eq_getElem h];rfl
    refine ⟨_,rfl,p,b,_,rfl,hP,by omega,by decide,by decide,fun z H1 z0 z1 hP1 e1=>⟨_,_,rfl,rfl,?_⟩⟩
    obtain ⟨m,rfl⟩:∃ j:Nat,z=(j:Int):=⟨z.toNat,by omega⟩
    rw [show (fun i j:Int=>V.int (i+j)) 2 (m:Int)=V.int ((2+m:Nat):Int) from congrArg V.int (by omega)]
    have hm7:2+m≤7:=by omega
    have hm2:2≤2+m:=by omega
    generalize 2+m=many at hm7 hm2
    have hl1:=(e1 l nlp).trans hl
    intro d nd
    have nld:l≠d:=ne_of_none hl1 nd
    have ndp:d≠p:=by obtain ⟨o,ho⟩:=hP1.some;exact (ne_of_none ho nd).symm
    have g7:=gat (i:=7) (by omega)
    refine ⟨_,rfl,l,_,_,_,rfl,rfl,SqL.of (by rw [upd_ne nld];exact hl1),atI_nat g7,upd_same,[((Sum.inr (one cs[7]):Key),tx [])],rfl,(show 1≤15 by decide),?_⟩
    have hd0:upd (upd H1 d (.dK [])) d (.dK (mergeK [] [((Sum.inr (one cs[7]):Key),tx [])])) d=some (.dK (kvw [(cs[7],[])])):=upd_same
    have B1:But p H1 (upd (upd H1 d (.dK [])) d (.dK (mergeK [] [((Sum.inr (one cs[7]):Key),tx [])]))):=fun c o h n=>by rw [upd_ne (ne_of_none h nd),upd_ne (ne_of_none h nd)];exact h
    have hP2:PenAt (upd (upd H1 d (.dK [])) d (.dK (mergeK [] [((Sum.inr (one cs[7]):Key),tx [])]))) p (b+1):=(hP1.other (upd_ne ndp.symm)).other (upd_ne ndp.symm)
    revert hd0 B1 hP2
    generalize upd (upd H1 d (.dK [])) d (.dK (mergeK [] [((Sum.inr (one cs[7]):Key),tx [])]))=H2
    intro hd0 B1 hP2
    have nds:(cs[7] :: cs.take many).Nodup:=by
      refine List.nodup_cons.mpr ⟨fun h=>?_,hnd.sublist (List.take_sublist _ _)⟩
      obtain ⟨i,hi⟩:=List.mem_iff_getElem?.mp h
      rw [List.getElem?_take] at hi
      split at hi
      · rename_i hlt
        have hi8:=(List.getElem?_eq_some_iff.mp hi)
        obtain ⟨h1,h2⟩:=hi8
        have:=(List.pairwise_iff_getElem.mp hnd) i 7 h1 (by omega) (by omega)
        exact this h2
      · cases hi
    have dlen:(cs[7] :: cs.take many).length=1+many:=by rw [List.length_cons,List.length_take];omega
    have tkm:∀ {i:Nat},i < many→∀ (h:i < cs.length),cs[i]∈cs.take many:=fun {i} hi h=>List.mem_of_getElem? (i:=i) (by rw [List.getElem?_take_of_lt hi];exact List.getElem?_eq_getElem h)
    refine ⟨_,rfl,_,rfl,by omega,by omega,?_⟩
    rw [Int.toNat_natCast]
    refine for_by (sure_range (lo:=0) (n:=many)) (fun i σ H'=>∃ (us:List Rule) (v4:Option V),σ=[some (.ref p),some (.ref l),some (.int (many:Int)),some (.ref d),v4,none]∧But p H1 H'∧PenAt H' p (b+1)∧H' d=some (.dK (kvw us))∧Wp (cs[7] :: cs.take many) (1+i) us∧(∀ r∈us,r.2.length≤1))
      ⟨[(cs[7],[])],_,rfl,B1,hP2,hd0,⟨rfl,fun r hr=>by rw [List.mem_singleton.mp hr];exact ⟨Nat.zero_le _,fun c hc=>by cases hc⟩⟩,fun r hr=>by rw [List.mem_singleton.mp hr];exact Nat.zero_le _⟩ (fun _ _ _ _ _=>trivial) ?_ ?_
    · rintro i y σ H4 hy ⟨us,v4,rfl,B4,hP4,hd4,hW4,h1⟩
      obtain ⟨hi,rfl⟩:=rng_at hy
      have hi':i < many:=hi
      have hl4:=B4 _ _ hl1 nlp
      have hmod:((i:Int)+1) % (many:Int)=(((i+1) % many:Nat):Int):=by
        rw [show (i:Int)+1=((i+1:Nat):Int) by omega]
        exact (Int.natCast_emod _ _).symm
      have hml:(i+1) % many < many:=Nat.mod_lt _ (by omega)
      have hmc:(i+1) % many < cs.length:=by omega
      have hic:i < cs.length:=by omega
      refine ⟨_,rfl,_,rfl,_,_,rfl,rfl,_,rfl,_,_,rfl,rfl,(by omega),l,_,_,sign cs[(i+1) % many],rfl,rfl,SqL.of hl4,(by rw [hmod];exact atI_nat (gat hmc)),?_⟩
      have ec:(cs[7] :: cs.take many)[1+i]? = some cs[i]:=by
        rw [Nat.add_comm,List.getElem?_cons_succ,List.getElem?_take_of_lt hi']
        exact List.getElem?_eq_getElem hic
      have hul:=hW4.len
      obtain ⟨hW5,eput⟩:=hW4.put nds ec (w:=[cs[(i+1) % many]]) (by simp) (fun e he=>by rw [List.mem_singleton.mp he];exact List.mem_cons_of_mem _ (tkm hml hmc))
      refine ⟨_,rfl,_,rfl,_,rfl,l,_,_,sign cs[i],rfl,rfl,SqL.of hl4,atI_nat (gat hic),d,_,rfl,DPut.k (k:=(Sum.inr (one cs[i]):Key)) hd4 (small1000 (by unfold kvw;rw [List.length_map];omega)),?_⟩
      rw [show sign cs[(i+1) % many]=tx [cs[(i+1) % many]] from rfl,eput]
      refine ⟨_,_,rfl,fun c o h n=>?_,hP4.other (upd_ne ndp.symm),upd_same,by rw [Nat.add_assoc] at hW5;exact hW5,fun r hr=>?_⟩
      · rw [upd_ne (ne_of_none h nd)]
        exact B4 c o h n
      · rcases List.mem_append.mp hr with h | h
        · exact h1 r h
        · rw [List.mem_singleton.mp h];exact (show 1≤1 by decide)
    rintro σ H4 ⟨us,v4,rfl,B4,hP4,hd4,hW4,h1⟩
    rw [rngV_length,← dlen] at hW4
    have hab':∀ c∈cs[7] :: cs.take many,97≤c∧c≤122:=fun c hc=>by
      rcases List.mem_cons.mp hc with rfl | h
      · exact hab _ (List.getElem_mem _)
      · exact hab c (List.mem_of_mem_take h)
    obtain ⟨hWs,elt⟩:=hW4.ws nds (by omega) hab'
    refine ⟨_,rfl,_,rfl,p,b+1,_,rfl,hP4,by omega,by omega,by omega,fun z5 H5 z50 z51 hP5 e5=>?_⟩
    obtain ⟨sp,rfl⟩:∃ j:Nat,z5=(j:Int):=⟨z5.toNat,by omega⟩
    have hsp:sp < many:=by omega
    have hsc:sp < cs.length:=by omega
    have hl5:=(e5 l nlp).trans (B4 _ _ hl1 nlp)
    have hd5:=(e5 d ndp).trans hd4
    have hcu:cs[sp]∈ltr us:=by rw [elt];exact List.mem_cons_of_mem _ (tkm hsp hsc)
    have hg:=DGet.k (k:=(Sum.inr (one cs[sp]):Key)) hd5
    rw [kvw_wd hWs.nd hcu] at hg
    obtain ⟨w6,win⟩:=wd_of hWs hcu
    have w1:(wd us cs[sp]).length≤1:=by
      obtain ⟨r,hr,_,e⟩:=wd_mem hcu
      rw [e]
      exact h1 r hr
    have hul:=hW4.len
    refine ⟨_,rfl,_,rfl,_,rfl,l,_,_,sign cs[sp],rfl,rfl,SqL.of hl5,atI_nat (gat hsc),d,_,rfl,hg,_,rfl,l,_,_,sign cs[7],rfl,rfl,SqL.of hl5,atI_nat g7,⟨(wd us cs[sp]).toArray⟩,⟨[cs[7]].toArray⟩,rfl,rfl,szl (show (wd us cs[sp]).length+1≤1000 by omega),?_⟩
    rw [tx_app]
    refine ⟨_,rfl,_,rfl,_,rfl,l,_,_,sign cs[sp],rfl,rfl,SqL.of hl5,atI_nat (gat hsc),d,_,rfl,DPut.k (k:=(Sum.inr (one cs[sp]):Key)) hd5 (small1000 (by unfold kvw;rw [List.length_map];omega)),?_⟩
    rw [show V.str ⟨(wd us cs[sp]++[cs[7]]).toArray⟩=tx (wd us cs[sp]++[cs[7]]) from rfl,rpl_put _ hWs.nd hcu]
    have hW6:=hW4.rpl (c:=cs[sp]) (w:=wd us cs[sp]++[cs[7]]) (by rw [List.length_append];show _+1≤6;omega) (fun e he=>by
      rcases List.mem_append.mp he with h | h
      · rw [← elt];exact win e h
      · rw [List.mem_singleton.mp h];exact List.mem_cons_self)
    obtain ⟨hWs6,elt6⟩:=hW6.ws nds (by omega) hab'
    have B6:But p H (upd H5 d (.dK (kvw (rpl us cs[sp] (wd us cs[sp]++[cs[7]]))))):=(but3 e1).trans fun c o h n=>by
      rw [upd_ne (ne_of_none h nd),e5 c n]
      exact B4 c o h n
    have hP6:PenAt (upd H5 d (.dK (kvw (rpl us cs[sp] (wd us cs[sp]++[cs[7]]))))) p (b+2):=hP5.other (upd_ne ndp.symm)
    have hl6:upd H5 d (.dK (kvw (rpl us cs[sp] (wd us cs[sp]++[cs[7]])))) l=some (.lst (cs.map sign)):=by rw [upd_ne nld];exact hl5
    have hd6:upd H5 d (.dK (kvw (rpl us cs[sp] (wd us cs[sp]++[cs[7]])))) d=some (.dK (kvw (rpl us cs[sp] (wd us cs[sp]++[cs[7]])))):=upd_same
    revert B6 hP6 hl6 hd6
    generalize upd H5 d (.dK (kvw (rpl us cs[sp] (wd us cs[sp]++[cs[7]]))))=H6
    intro B6 hP6 hl6 hd6
    have h0c:0 < cs.length:=by omega
    refine ⟨_,rfl,l,_,_,sign cs[0],rfl,rfl,SqL.of hl6,atI_nat (gat h0c),_,rfl,szl (show 2≤1000 by decide),fun t nt=>?_⟩
    have sT:=Same.add (o:=.tup [sign cs[0],.ref d]) nt
    refine q t d [cs[0]] _ _ (B6.trans (But.same sT)) ((hP6.sm sT).mono (by omega)) ⟨upd_same,sT _ _ hd6⟩ hWs6 (show 1≤12 by decide) fun c hc=>?_
    rw [List.mem_singleton.mp hc,elt6]
    exact List.mem_cons_of_mem _ (tkm (by omega) h0c)
end
end Lw
namespace Lw
open PySem L2 PyProof.Rows
theorem arrP:∀ m:Nat,m < 6→∃ v:Nat,([V.int 2,V.int 1,V.int 3,V.int 4,V.int 2,V.int 0]:List V)[m]? = some (V.int (v:Int))∧v≤4
  | 0,_=>⟨2,rfl,by decide⟩
  | 1,_=>⟨1,rfl,by decide⟩
  | 2,_=>⟨3,rfl,by decide⟩
  | 3,_=>⟨4,rfl,by decide⟩
  | 4,_=>⟨2,rfl,by decide⟩
  | 5,_=>⟨0,rfl,by decide⟩
  | n+6,h=>by omega
theorem slice_lo (x:Str) (j:Nat):Txt.slice x (some (j:Int)) none=Txt.slice x (some ((min j x.length:Nat):Int)) none:=by
  have e:Builtin.Str.strSliceIndices (some (j:Int)) none 1 x.length=Builtin.Str.strSliceIndices (some ((min j x.length:Nat):Int)) none 1 x.length:=by
    unfold Builtin.Str.strSliceIndices
    simp only
    have e1:max 0 (min (if (j:Int) < 0 then (j:Int)+(x.length:Int) else (j:Int)) (x.length:Int))=max 0 (min (if ((min j x.length:Nat):Int) < 0 then ((min j x.length:Nat):Int)+(x.length:Int) else ((min j x.length:Nat):Int)) (x.length:Int)):=by
      rw [if_neg (by omega),if_neg (by omega)]
      omega
    rw [if_pos (by decide),e1]
    rfl
  unfold Txt.slice
  rw [e]
theorem slice_dropG (x:List Nat) (i:Nat):Txt.slice ⟨x.toArray⟩ (some (i:Int)) none=⟨(x.drop i).toArray⟩:=by
  rw [slice_lo]
  show Txt.slice ⟨x.toArray⟩ (some ((min i x.length:Nat):Int)) none=_
  rw [slice_drop x _ (Nat.min_le_right _ _)]
  by_cases h:i≤x.length
  · rw [Nat.min_eq_left h]
  · rw [Nat.min_eq_right (by omega),List.drop_of_length_le (Nat.le_refl _),List.drop_of_length_le (by omega)]
theorem cutN_mid {ms:List Nat} {a b:Nat} (ha:a≤ms.length) (hb:a+b≤ms.length):cutN ms (some (a:Int)) (some ((a:Int)+(b:Int)))=(ms.drop a).take b:=by
  unfold cutN
  rw [show (a:Int)+(b:Int)=((a+b:Nat):Int) by omega,HT.sIx_nat,HT.sIx_nat,Nat.min_eq_left ha,Nat.min_eq_left hb,Nat.add_sub_cancel_left]
structure PairOk (H:Hp) (t d:Addr) (x:List Nat) (us:List Rule):Prop extends PairAt H t d x us where
  ws:Ws us
  xl:x.length≤12
  xi:∀ c∈x,c∈ltr us
theorem Ws.rpl {us:List Rule} {c:Nat} {w:List Nat} (h:Ws us) (h1:w.length≤6) (h2:∀ e∈w,e∈ltr us):Ws (rpl us c w):=by
  have el:=rpl_ltr us c w
  have hq:∀ q∈Lw.rpl us c w,q.2.length≤6∧∀ e∈q.2,e∈ltr us:=fun q hq=>by
    unfold Lw.rpl at hq
    obtain ⟨r,hr,rfl⟩:=List.mem_map.mp hq
    by_cases e:r.1=c
    · rw [if_pos e];exact ⟨h1,h2⟩
    · rw [if_neg e];exact ⟨h.wl r hr,h.win r hr⟩
  exact ⟨by unfold Lw.rpl;rw [List.length_map];exact h.few,by rw [el];exact h.nd,fun c hc=>h.abc c (by rw [← el];exact hc),fun q hr=>(hq q hr).1,fun q hr e he=>by rw [el];exact (hq q hr).2 e he⟩
theorem nd_split {ms A:List Nat} {k:Nat} (nd:ms.Nodup) (hA:∀ c∈A,c∈ms.take 16) (ndA:A.Nodup) (hk:16≤k):(A++(ms.drop k).take 4).Nodup:=by
  refine List.nodup_append.mpr ⟨ndA,nd.sublist ((List.take_sublist _ _).trans (List.drop_sublist _ _)),fun a ha b hb z=>?_⟩
  subst z
  have h1:a∈ms.drop 16:=by
    have h2:=List.mem_of_mem_take hb
    rw [show k=16+(k - 16) by omega,← List.drop_drop] at h2
    exact List.mem_of_mem_drop h2
  have:(ms.take 16++ms.drop 16).Nodup:=by rw [List.take_append_drop];exact nd
  exact (List.nodup_append.mp this).2.2 a (hA a ha) a h1 rfl
section
variable {P:Program} {w:World} {K:PySem.W.Frag} {mg:Str→Option Value} {base:Heap}
def spPai:Sp:=fun vs H Q _=>∃ (p:Addr) (b:Nat),vs=[.ref p]∧PenAt H p b∧b≤700000 ∧
  ∀ (T t1 d1 t2 d2:Addr) (x1 x2:List Nat) (us1 us2:List Rule) H',H T=none→But p H H'→PenAt H' p (b+1000)→H' T=some (.tup [.ref t1,.ref t2])→PairOk H' t1 d1 x1 us1→PairOk H' t2 d2 x2 us2→Q (.ref T) H'
theorem scPai:FnScope ["_law_pen_here","_law_pick","_law_many","_law_signs","_law_one","_law_other","_law_some","_law_sign","_law_spot","_law_more","_law_text_here"] ["_law_pen_here"] (defScope sPai):=⟨rfl,rfl,rfl,by decide +kernel,rfl,by decide +kernel,by decide +kernel⟩
theorem ok_pai {f fTak fMix fFre fTai fNam fTxt fSwl:Addr} {fd fdTak fdMix fdFre fdTai fdNam fdTxt fdSwl:FuncData} (F:Fun K "_law_pair" "_law_pair" sPai f fd)
    (GTak:FnOk P w K mg base CX0 1 fTak fdTak ["_law_pen_here","_law_size"] spTak)
    (gTak:Gf K mg "_law_take" fTak fdTak ["_law_pen_here","_law_size"])
    (GMix:FnOk P w K mg base CX0 2 fMix fdMix ["_law_pen_here","_law_things"] spMix)
    (gMix:Gf K mg "_law_mixed" fMix fdMix ["_law_pen_here","_law_things"])
    (GFre:FnOk P w K mg base CX0 3 fFre fdFre ["_law_pen_here","_law_signs"] spFre)
    (gFre:Gf K mg "_law_free" fFre fdFre ["_law_pen_here","_law_signs"])
    (GTai:FnOk P w K mg base CX0 2 fTai fdTai ["_law_pen_here","_law_one","_law_signs"] spTai)
    (gTai:Gf K mg "_law_tailed" fTai fdTai ["_law_pen_here","_law_one","_law_signs"])
    (GNam:FnOk P w K mg base CX0 3 fNam fdNam ["_law_pen_here","_law_one","_law_names"] spNam)
    (gNam:Gf K mg "_law_named" fNam fdNam ["_law_pen_here","_law_one","_law_names"])
    (GTxt:FnOk P w K mg base CX0 2 fTxt fdTxt ["_law_pen_here","_law_signs","_law_many"] spTxt)
    (gTxt:Gf K mg "_law_text" fTxt fdTxt ["_law_pen_here","_law_signs","_law_many"])
    (GSwl:FnOk P w K mg base CX0 2 fSwl fdSwl ["_law_pen_here","_law_signs"] spSwl)
    (gSwl:Gf K mg "_law_swelling" fSwl fdSwl ["_law_pen_here","_law_signs"])
    (hlen:mg "len" = none)
    (hlist:mg "list" = none)
    (hsorted:mg "sorted" = none)
    : FnOk P w K mg base CX0 4 f fd ["_law_pen_here"] spPai:=by
  refine F.ok scPai (fun vs H Q E h=>?_) (fun cdv A outer s H vs Q E hr h=>?_)
  · obtain ⟨p,b,rfl,_⟩:=h
    rfl
  · obtain ⟨p,b,rfl,hp,hb,q⟩:=h
    have hr1:Room 1 _:=hr.mono (by decide)
    have hr2:Room 2 _:=hr.mono (by decide)
    have hu:=hu_of hr
    refine ⟨_,(pss_cons (ps_set (i:=1) scPai.nd rfl (Or.inl rfl) (pe_call GTak hr1 rfl gTak.m gTak.k gTak.b .nil pass0 (pa_cons (pv 0) (pa_cons pe_int pa_nil))))
      (pss_cons (ps_set (i:=2) scPai.nd rfl (Or.inl rfl) (pe_ix (ix_listK K) (pe_lst (pa_cons pe_int (pa_cons pe_int (pa_cons pe_int (pa_cons pe_int (pa_cons pe_int (pa_cons pe_int pa_nil))))))) (pe_call GTak hr1 rfl gTak.m gTak.k gTak.b .nil pass0 (pa_cons (pv 0) (pa_cons pe_int pa_nil))) (fun _ _=>rfl)))
      (pss_cons (ps_set (i:=3) scPai.nd rfl (Or.inl rfl) (pe_call GMix hr2 rfl gMix.m gMix.k gMix.b .nil pass0 (pa_cons (pv 0) (pa_cons (pe_callTy (call_list_text rfl) (by rfl) hlist (by first | exact PySem.boot_list | decide +kernel) (pa_cons pe_str pa_nil)) pa_nil))))
      (pss_cons (ps_if (pt_cmpR op_eq (pv 1) pe_int (nomark _)) (pss_one (ps_ret (pe_tup (pa_cons (pe_call GSwl hr2 rfl gSwl.m gSwl.k gSwl.b .nil pass0 (pa_cons (pv 0) (pa_cons (pe_slice (sl_listK K) (pv 3) po_none (po_some pe_int)) pa_nil))) (pa_cons (pe_call GSwl hr2 rfl gSwl.m gSwl.k gSwl.b .nil pass0 (pa_cons (pv 0) (pa_cons (pe_slice (sl_listK K) (pv 3) (po_some pe_int) (po_some pe_int)) pa_nil))) pa_nil))))) pss_nil)
      (pss_cons (ps_set (i:=4) scPai.nd rfl (Or.inl rfl) (pe_call GFre hr rfl gFre.m gFre.k gFre.b .nil pass0 (pa_cons (pv 0) (pa_cons (pe_slice (sl_listK K) (pv 3) po_none (po_some (pv 2))) pa_nil))))
      (pss_cons (ps_if (pt_cmpR op_eq (pv 1) pe_int (nomark _)) (pss_one (ps_set (i:=5) scPai.nd rfl (Or.inl rfl) (pe_call GFre hr rfl gFre.m gFre.k gFre.b .nil pass0 (pa_cons (pv 0) (pa_cons (pe_slice (sl_listK K) (pv 3) (po_some pe_int) (po_some (pe_op op_add pe_int (pe_call GTak hr1 rfl gTak.m gTak.k gTak.b .nil pass0 (pa_cons (pv 0) (pa_cons pe_int pa_nil)))))) pa_nil))))) (pss_one (ps_set (i:=5) scPai.nd rfl (Or.inl rfl) (pe_call GNam hr rfl gNam.m gNam.k gNam.b .nil pass0 (pa_cons (pv 0) (pa_cons (pv 4) (pa_cons (pe_slice (sl_listK K) (pv 3) (po_some pe_int) (po_some (pe_op op_add pe_int (pv 2)))) pa_nil)))))))
      (pss_cons (ps_set (i:=4) scPai.nd rfl (Or.inl rfl) (pe_call GTai hr2 rfl gTai.m gTai.k gTai.b .nil pass0 (pa_cons (pv 0) (pa_cons (pv 4) (pa_cons (pe_slice (sl_listK K) (pv 3) (po_some pe_int) (po_some pe_int)) pa_nil)))))
      (pss_cons (ps_set (i:=5) scPai.nd rfl (Or.inl rfl) (pe_call GTai hr2 rfl gTai.m gTai.k gTai.b .nil pass0 (pa_cons (pv 0) (pa_cons (pv 5) (pa_cons (pe_slice (sl_listK K) (pv 3) (po_some pe_int) (po_some pe_int)) pa_nil)))))
      (pss_cons (ps_set (i:=6) scPai.nd rfl (Or.inl rfl) (pe_callB (call_sortTK K) (by rfl) hsorted PyProof.Rows.boot_sorted (pa_cons (pe_callTy (call_list_dict rfl) (by rfl) hlist (by first | exact PySem.boot_list | decide +kernel) (pa_cons (pe_ix (ix_tupK K) (pv 5) pe_int (fun _ _=>rfl)) pa_nil)) pa_nil)))
      (pss_cons (ps_if (PW.pt (pw_and (pt_cmpR op_gt (pv 1) pe_int (nomark _)) (pw_and1 (pt_cmpR (op_neL0K K hr.units) (pv 6) (pe_lst pa_nil) (nomark _))))) (pss_cons (ps_set (i:=7) scPai.nd rfl (Or.inl rfl) (pe_ix (ix_listK K) (pv 6) (pe_call GTak hr1 rfl gTak.m gTak.k gTak.b .nil pass0 (pa_cons (pv 0) (pa_cons (pe_callB (call_lenK K) (by rfl) hlen PySem.boot_len (pa_cons (pv 6) pa_nil)) pa_nil))) (fun _ _=>rfl)))
      (pss_cons (ps_set (i:=8) scPai.nd rfl (Or.inl rfl) (pe_call GTak hr1 rfl gTak.m gTak.k gTak.b .nil pass0 (pa_cons (pv 0) (pa_cons (pe_op op_add (pe_callB call_len_str (by rfl) hlen PySem.boot_len (pa_cons (pe_dget hu (pe_ix (ix_tupK K) (pv 5) pe_int (fun _ _=>rfl)) (pv 7) (fun _ _=>rfl)) pa_nil)) pe_int) pa_nil))))
      (pss_cons (ps_set (i:=9) scPai.nd rfl (Or.inl rfl) (pe_call GTxt hr2 rfl gTxt.m gTxt.k gTxt.b .nil pass0 (pa_cons (pv 0) (pa_cons (pv 6) (pa_cons (pe_call GTak hr1 rfl gTak.m gTak.k gTak.b .nil pass0 (pa_cons (pv 0) (pa_cons pe_int pa_nil))) pa_nil)))))
      (pss_cons (ps_set (i:=10) scPai.nd rfl (Or.inl rfl) (pe_dget hu (pe_ix (ix_tupK K) (pv 5) pe_int (fun _ _=>rfl)) (pv 7) (fun _ _=>rfl)))
      (pss_one (ps_dput hu (pe_ix (ix_tupK K) (pv 5) pe_int (fun _ _=>rfl)) (pv 7) (pe_slice sl_str (pe_op op_add_str (pe_op op_add_str (pe_slice sl_str (pv 10) po_none (po_some (pv 8))) (pv 9)) (pe_slice sl_str (pv 10) (po_some (pe_op op_add (pv 8) pe_int)) po_none)) po_none (po_some pe_int)) rfl)))))) pss_nil)
      (pss_one (ps_ret (pe_tup (pa_cons (pv 4) (pa_cons (pv 5) pa_nil))))))))))))))),?_⟩
    have but3:∀ {Ha Hb:Hp},(∀ c,c≠p→Hb c=Ha c)→But p Ha Hb:=fun e c o h n=>(e c n).trans h
    have es:∀ xs:List Nat,(xs.map one).map V.str=xs.map sign:=fun xs=>by rw [List.map_map];rfl
    have pnt:∀ {H':Hp} {c:Nat} {a:Addr} {vs:List V},PenAt H' p c→H' a=some (.tup vs)→a≠p:=fun h ha z=>by
      obtain ⟨_,_,_,ho,_⟩:=h.ex
      rw [← z,ha] at ho
      cases ho
    have pnd:∀ {H':Hp} {c:Nat} {a:Addr} {kvs:List (Key × V)},PenAt H' p c→H' a=some (.dK kvs)→a≠p:=fun h ha z=>by
      obtain ⟨_,_,_,ho,_⟩:=h.ex
      rw [← z,ha] at ho
      cases ho
    refine ⟨_,rfl,p,b,_,rfl,hp,by omega,by decide,by decide,fun zp Hz zp0 zp1 hPz ez=>?_⟩
    obtain ⟨pick,rfl⟩:∃ m:Nat,zp=(m:Int):=⟨zp.toNat,by omega⟩
    refine ⟨(by show 6≤sizeLine;decide),fun t1 ht1=>?_⟩
    obtain ⟨op0,hop0⟩:=hPz.some
    have np1:p≠t1:=ne_of_none hop0 ht1
    refine ⟨_,rfl,p,b+1,_,rfl,hPz.other (upd_ne np1),by omega,by decide,by decide,fun z1 Ha z10 z11 hPa ea=>?_⟩
    obtain ⟨m1,rfl⟩:∃ m:Nat,z1=(m:Int):=⟨z1.toNat,by omega⟩
    obtain ⟨many,hmo,hm4⟩:=arrP m1 (by omega)
    refine ⟨t1,_,_,_,rfl,rfl,SqL.of ((ea t1 np1.symm).trans upd_same),atI_nat hmo,?_⟩
    have hBa:But p H Ha:=(but3 ez).trans ((But.same (Same.add ht1)).trans (but3 ea))
    clear ht1 hop0 np1 hmo ea ez
    refine ⟨_,rfl,_,rfl,by decide +kernel,fun l0 hl0=>?_⟩
    rw [abc_str]
    obtain ⟨opa,hopa⟩:=hPa.some
    have np0:p≠l0:=ne_of_none hopa hl0
    refine ⟨p,l0,b+2,abc,rfl,hPa.other (upd_ne np0),by omega,upd_same,by decide,np0.symm,fun lm ms H3 nlm hB3 hP3 hlm hperm=>?_⟩
    have hB3':But p H H3:=hBa.trans ((But.same (Same.add hl0)).trans hB3)
    have ms26:ms.length=26:=hperm.length_eq
    have msnd:ms.Nodup:=hperm.nodup_iff.mpr abc_nd
    have msab:∀ c∈ms,97≤c∧c≤122:=fun c hc=>abc_in c (hperm.mem_iff.mp hc)
    have nlmp:lm≠p:=(ne_of_none (show upd Ha l0 (.lst (abc.map sign)) p=some opa by rw [upd_ne np0];exact hopa) nlm).symm
    rw [show b+2+abc.length=b+28 from rfl] at hP3
    dsimp only [gName]
    refine seq_by (fun σ Hw=>Hw=H3∧σ=[some (.ref p),some (.int (pick:Int)),some (.int (many:Int)),some (.ref lm),none,none,none,none,none,none,none]) (fun nx hn=>?_) ?_
    · refine ⟨_,rfl,rfl,_,rfl,ite2 (fun hc=>?_) (fun hc=>hn _ _ ⟨rfl,rfl⟩)⟩
      refine ⟨_,rfl,_,rfl,_,rfl,lm,_,rfl,SqL.of hlm,fun la nla=>?_⟩
      rw [show (some (8:Int))=some ((8:Nat):Int) from rfl,cut_sign,cutN_hi]
      have sla:=Same.add (o:=.lst ((ms.take 8).map sign)) nla
      have nlap:la≠p:=by obtain ⟨o,ho⟩:=hP3.some;exact (ne_of_none ho nla).symm
      refine ⟨p,la,b+28,ms.take 8,rfl,hP3.sm sla,by omega,upd_same,by rw [List.length_take];omega,msnd.sublist (List.take_sublist _ _),fun c hc=>msab c (List.mem_of_mem_take hc),nlap,fun ta da xa ua H4 B4 hP4 hA4 hWa hxa hia=>?_⟩
      have nta:=pnt hP4 hA4.t
      have nda:=pnd hP4 hA4.d
      have hlm4:=B4 _ _ (sla _ _ hlm) nlmp
      refine ⟨_,rfl,_,rfl,_,rfl,_,rfl,lm,_,rfl,SqL.of hlm4,fun lb nlb=>?_⟩
      rw [cut_sign,show cutN ms (some (8:Int)) (some (16:Int))=(ms.drop 8).take 8 from cutN_mid (a:=8) (b:=8) (by omega) (by omega)]
      have slb:=Same.add (o:=.lst (((ms.drop 8).take 8).map sign)) nlb
      have nlbp:lb≠p:=by obtain ⟨o,ho⟩:=hP4.some;exact (ne_of_none ho nlb).symm
      refine ⟨p,lb,b+28+10,(ms.drop 8).take 8,rfl,hP4.sm slb,by omega,upd_same,by rw [List.length_take,List.length_drop];omega,msnd.sublist ((List.take_sublist _ _).trans (List.drop_sublist _ _)),fun c hc=>msab c (List.mem_of_mem_drop (List.mem_of_mem_take hc)),nlbp,fun tb db xb ub H5 B5 hP5 hA5 hWb hxb hib=>?_⟩
      refine ⟨szl (show 2≤1000 by decide),fun T nT=>?_⟩
      have sT:=Same.add (o:=.tup [V.ref ta,V.ref tb]) nT
      have nTp:T≠p:=by obtain ⟨o,ho⟩:=hP5.some;exact (ne_of_none ho nT).symm
      have Ball:But p H H5:=hB3'.trans ((But.same sla).trans (B4.trans ((But.same slb).trans B5)))
      have B45:=(But.same slb).trans B5
      exact q T ta da tb db xa xb ua ub _ (Ball.free nTp nT) (Ball.trans (But.same sT)) ((hP5.sm sT).mono (by omega)) upd_same ⟨⟨sT _ _ (B45 _ _ hA4.t nta),sT _ _ (B45 _ _ hA4.d nda)⟩,hWa,hxa,hia⟩ ⟨⟨sT _ _ hA5.t,sT _ _ hA5.d⟩,hWb,hxb,hib⟩
    rintro σ Hw ⟨rfl,rfl⟩
    -- the first book
    refine ⟨_,rfl,_,rfl,_,rfl,_,rfl,lm,_,rfl,SqL.of hlm,fun lc nlc=>?_⟩
    rw [cut_sign,cutN_hi]
    have nplc:lc≠p:=by obtain ⟨o,ho⟩:=hP3.some;exact (ne_of_none ho nlc).symm
    have csl:(ms.take many).length=many:=by rw [List.length_take];omega
    have csnd:(ms.take many).Nodup:=msnd.sublist (List.take_sublist _ _)
    have slc:=Same.add (o:=.lst ((ms.take many).map sign)) nlc
    refine ⟨p,lc,b+28,ms.take many,rfl,hP3.sm slc,by omega,upd_same,by omega,csnd,nplc,fun t d x us H4 nt nd hB4 hP4 ht hd hWp xl xi=>?_⟩
    obtain ⟨hWs,elt⟩:=hWp.ws csnd (by omega) fun c hc=>msab c (List.mem_of_mem_take hc)
    have hus:us.length=many:=by rw [← ltr_len,elt,csl]
    have hB34:But p Hw H4:=(But.same slc).trans hB4
    have hlm4:=hB34 lm _ hlm nlmp
    have hB4':But p H H4:=hB3'.trans hB34
    have ntp:=pnt hP4 ht
    have ndp:=pnd hP4 hd
    have xi':∀ c∈x,c∈ltr us:=fun c hc=>by rw [elt];exact xi c hc
    -- the second
    dsimp only [gName]
    refine seq_by (fun σ Hx=>∃ (t2 d2:Addr) (y:List Nat) (us2:List Rule),σ=[some (.ref p),some (.int (pick:Int)),some (.int (many:Int)),some (.ref lm),some (.ref t),some (.ref t2),none,none,none,none,none]∧But p H4 Hx∧PenAt Hx p (b+300)∧PairAt Hx t2 d2 y us2∧Ws us2∧us2.length≤4∧y.length≤4∧(∀ c∈y,c∈ltr us2)∧∀ c∈ltr us2,c∈ms.take 16) (fun nx hn=>?_) ?_
    · refine ⟨_,rfl,rfl,_,rfl,ite2 (fun hc=>?_) (fun hc=>?_)⟩
      · refine ⟨_,rfl,_,rfl,(2:Int),rfl,_,rfl,p,b+28+100,_,rfl,hP4,by omega,by decide,by decide,fun z5 H5 z50 z51 hP5 e5=>⟨_,_,rfl,rfl,_,rfl,lm,_,rfl,SqL.of ((e5 lm nlmp).trans hlm4),fun ln nln=>?_⟩⟩
        obtain ⟨k3,rfl⟩:∃ m:Nat,z5=(m:Int):=⟨z5.toNat,by omega⟩
        rw [cut_sign,show cutN ms (some (2:Int)) (some (2+(k3:Int)))=(ms.drop 2).take k3 from cutN_mid (a:=2) (b:=k3) (by omega) (by omega)]
        have sln:=Same.add (o:=.lst (((ms.drop 2).take k3).map sign)) nln
        have nlnp:ln≠p:=by obtain ⟨o,ho⟩:=hP5.some;exact (ne_of_none ho nln).symm
        have nsl:((ms.drop 2).take k3).length=k3:=by rw [List.length_take,List.length_drop];omega
        have nsnd:((ms.drop 2).take k3).Nodup:=msnd.sublist ((List.take_sublist _ _).trans (List.drop_sublist _ _))
        refine ⟨p,ln,_,(ms.drop 2).take k3,rfl,hP5.sm sln,by omega,upd_same,by omega,nsnd,nlnp,fun t2 d2 y us2 H6 nt2 nd2 hB6 hP6 ht2 hd2 hWp2 yl yi=>?_⟩
        obtain ⟨hWs2,elt2⟩:=hWp2.ws nsnd (by omega) fun c hc=>msab c (List.mem_of_mem_drop (List.mem_of_mem_take hc))
        refine hn _ _ ⟨t2,d2,y,us2,rfl,(but3 e5).trans ((But.same sln).trans hB6),hP6.mono (by omega),⟨ht2,hd2⟩,hWs2,by rw [← ltr_len,elt2];omega,yl,fun c hc=>by rw [elt2];exact yi c hc,fun c hc=>?_⟩
        rw [elt2] at hc
        have h16:(ms.drop 2).take k3=((ms.take 16).drop 2).take k3:=by
          rw [List.drop_take,List.take_take,Nat.min_eq_left (by omega)]
        rw [h16] at hc
        exact List.mem_of_mem_drop (List.mem_of_mem_take hc)
      · refine ⟨_,rfl,_,rfl,_,rfl,(8:Int),rfl,_,rfl,_,_,rfl,rfl,_,rfl,lm,_,rfl,SqL.of hlm4,fun ln nln=>?_⟩
        rw [cut_sign,show cutN ms (some (8:Int)) (some (8+(many:Int)))=(ms.drop 8).take many from cutN_mid (a:=8) (b:=many) (by omega) (by omega)]
        have sln:=Same.add (o:=.lst (((ms.drop 8).take many).map sign)) nln
        have nsl:((ms.drop 8).take many).length=many:=by rw [List.length_take,List.length_drop];omega
        have nsnd:((ms.drop 8).take many).Nodup:=msnd.sublist ((List.take_sublist _ _).trans (List.drop_sublist _ _))
        refine ⟨p,t,d,ln,b+28+100,x,us,_,rfl,hP4.sm sln,by omega,⟨sln _ _ ht,sln _ _ hd⟩,hWs,by omega,by omega,xi',upd_same,by omega,nsnd,fun t2 d2 y cs2 us2 H6 nt2 nd2 hB6 hP6 hPr cnd clen cin hWp2 yl yi=>?_⟩
        obtain ⟨hWs2,elt2⟩:=hWp2.ws cnd (by omega) fun c hc=>msab c (List.mem_of_mem_drop (List.mem_of_mem_take (cin c hc)))
        refine hn _ _ ⟨t2,d2,y,us2,rfl,(But.same sln).trans hB6,hP6.mono (by omega),hPr,hWs2,by rw [← ltr_len,elt2];omega,by omega,fun c hc=>by rw [elt2];exact yi c hc,fun c hc=>?_⟩
        rw [elt2] at hc
        have h16:(ms.drop 8).take many=((ms.take 16).drop 8).take many:=by
          rw [List.drop_take,List.take_take,Nat.min_eq_left (by omega)]
        have:=cin c hc
        rw [h16] at this
        exact List.mem_of_mem_drop (List.mem_of_mem_take this)
    rintro σ Hx ⟨t2,d2,y,us2,rfl,B4x,hPx,hPr2,hWs2,hul2,yl2,yi2,u16⟩
    have htx:=B4x _ _ ht ntp
    have hdx:=B4x _ _ hd ndp
    have hlmx:=B4x _ _ hlm4 nlmp
    have nt2p:=pnt hPx hPr2.t
    have nd2p:=pnd hPx hPr2.d
    -- tails
    refine ⟨_,rfl,_,rfl,_,rfl,(16:Int),rfl,(20:Int),rfl,lm,_,rfl,SqL.of hlmx,fun la nla=>?_⟩
    rw [cut_sign,show cutN ms (some (16:Int)) (some (20:Int))=(ms.drop 16).take 4 from cutN_mid (a:=16) (b:=4) (by omega) (by omega)]
    have sla:=Same.add (o:=.lst (((ms.drop 16).take 4).map sign)) nla
    have nlap:la≠p:=by obtain ⟨o,ho⟩:=hPx.some;exact (ne_of_none ho nla).symm
    have u16':∀ c∈ltr us,c∈ms.take 16:=fun c hc=>by
      rw [elt] at hc
      have e17:ms.take many=(ms.take 16).take many:=by rw [List.take_take,Nat.min_eq_left (by omega)]
      rw [e17] at hc
      exact List.mem_of_mem_take hc
    refine ⟨p,t,d,la,b+300,x,us,_,rfl,hPx.sm sla,by omega,⟨sla _ _ htx,sla _ _ hdx⟩,hWs,by omega,xl,xi',upd_same,by rw [List.length_take];omega,nd_split msnd u16' hWs.nd (Nat.le_refl _),fun c hc=>msab c (List.mem_of_mem_drop (List.mem_of_mem_take hc)),nlap,fun ta da ya ua H6 nta nda B6 hP6 hPra hWa yal yai=>?_⟩
    have Bx6:But p Hx H6:=(But.same sla).trans B6
    have ntap:=pnt hP6 hPra.t
    have ndap:=pnd hP6 hPra.d
    have hlm6:=Bx6 _ _ hlmx nlmp
    refine ⟨_,rfl,_,rfl,_,rfl,(20:Int),rfl,(24:Int),rfl,lm,_,rfl,SqL.of hlm6,fun lb nlb=>?_⟩
    rw [cut_sign,show cutN ms (some (20:Int)) (some (24:Int))=(ms.drop 20).take 4 from cutN_mid (a:=20) (b:=4) (by omega) (by omega)]
    have slb:=Same.add (o:=.lst (((ms.drop 20).take 4).map sign)) nlb
    have nlbp:lb≠p:=by obtain ⟨o,ho⟩:=hP6.some;exact (ne_of_none ho nlb).symm
    refine ⟨p,t2,d2,lb,b+300+20,y,us2,_,rfl,hP6.sm slb,by omega,⟨slb _ _ (Bx6 _ _ hPr2.t nt2p),slb _ _ (Bx6 _ _ hPr2.d nd2p)⟩,hWs2,hul2,yl2,yi2,upd_same,by rw [List.length_take];omega,nd_split msnd u16 hWs2.nd (by decide),fun c hc=>msab c (List.mem_of_mem_drop (List.mem_of_mem_take hc)),nlbp,fun tb db yb ub H7 ntb ndb B7 hP7 hPrb hWb ybl ybi=>?_⟩
    have B67:But p H6 H7:=(But.same slb).trans B7
    have ntbp:=pnt hP7 hPrb.t
    have ndbp:=pnd hP7 hPrb.d
    have hta7:=B67 _ _ hPra.t ntap
    have hda7:=B67 _ _ hPra.d ndap
    have ndab:da≠db:=fun z=>by rw [← z] at ndb;rw [(slb _ _ hPra.d)] at ndb;cases ndb
    have B07:But p H H7:=hB4'.trans (B4x.trans (Bx6.trans B67))
    have nH4db:H4 db=none:=(B4x.trans (Bx6.trans (But.same slb))).free ndbp ndb
    -- its letters,sorted
    refine ⟨_,rfl,tb,_,_,_,rfl,rfl,SqT.of hPrb.t,atI_nat (j:=1) rfl,db,kvw ub,(ltr ub).map one,rfl,hPrb.d,kvw_ones ub,fun l3 nl3=>?_⟩
    rw [es]
    have lub:(ltr ub).length≤8:=by rw [ltr_len];exact hWb.few
    refine ⟨l3,false,(ltr ub).map one,rfl,(by show SqL K _ l3 _;rw [es];exact SqL.of upd_same),by rw [List.length_map];omega,fun l4 ss' nl4 hperm4 hsort=>?_⟩
    obtain ⟨cs4,hp4,rfl⟩:=perm_ones hperm4
    rw [es]
    have c4l:cs4.length≤8:=by rw [hp4.length_eq];exact lub
    have s8:=(Same.add (o:=.lst ((ltr ub).map sign)) nl3).trans (Same.add (o:=.lst (cs4.map sign)) nl4)
    have hl4:upd (upd H7 l3 (.lst ((ltr ub).map sign))) l4 (.lst (cs4.map sign)) l4=some (.lst (cs4.map sign)):=upd_same
    revert s8 hl4
    generalize upd (upd H7 l3 (.lst ((ltr ub).map sign))) l4 (.lst (cs4.map sign))=H9
    intro s8 hl4
    have hP9:=hP7.sm s8
    have hd29:=s8 _ _ hPrb.d
    have ht29:=s8 _ _ hPrb.t
    have B79:But p H7 H9:=But.same s8
    dsimp only [gName]
    refine seq_by (fun σ Hw'=>∃ (ub':List Rule) (v7 v8 v9 v10:Option V),σ=[some (.ref p),some (.int (pick:Int)),some (.int (many:Int)),some (.ref lm),some (.ref ta),some (.ref tb),some (.ref l4),v7,v8,v9,v10]∧But p H Hw'∧PenAt Hw' p (b+400)∧Hw' ta=some (.tup [tx ya,.ref da])∧Hw' da=some (.dK (kvw ua))∧Hw' tb=some (.tup [tx yb,.ref db])∧Hw' db=some (.dK (kvw ub'))∧Ws ub'∧ltr ub'=ltr ub) (fun nx hn=>?_) ?_
    · have nthg:∀ {Hy:Hp},But p H7 Hy→PenAt Hy p (b+400)→nx [some (.ref p),some (.int (pick:Int)),some (.int (many:Int)),some (.ref lm),some (.ref ta),some (.ref tb),some (.ref l4),none,none,none,none] Hy:=fun {Hy} By hPy=>hn _ _ ⟨ub,_,_,_,_,rfl,B07.trans By,hPy,By _ _ hta7 ntap,By _ _ hda7 ndap,By _ _ hPrb.t ntbp,By _ _ hPrb.d ndbp,hWb,rfl⟩
      refine ⟨_,rfl,_,_,rfl,rfl,_,rfl,ite2 (fun _=>?_) (fun _=>iteF (nthg B79 (hP9.mono (by omega))))⟩
      refine ⟨_,rfl,szl (show 0≤1000 by decide),fun e0 ne0=>?_⟩
      have se:=Same.add (o:=.lst []) ne0
      refine ⟨l4,e0,_,rfl,rfl,SqL.of (se _ _ hl4),SqL.of upd_same,_,rfl,?_⟩
      have hBw:But p H7 (upd H9 e0 (.lst [])):=B79.trans (But.same se)
      have hPw:=hP9.sm se
      have hlw:=se _ _ hl4
      revert hBw hPw hlw
      generalize upd H9 e0 (.lst [])=HA
      intro hBw hPw hlw
      refine ite2 (fun hne=>?_) (fun _=>nthg hBw (hPw.mono (by omega)))
      have cpos:1≤cs4.length:=by
        cases hcs:cs4 with
        | nil=>rw [hcs] at hne;exact absurd hne (by decide)
        | cons a r=>rw [List.length_cons];omega
      have nl4p:l4≠p:=fun z=>by
        obtain ⟨_,_,_,ho,_⟩:=hPw.ex
        rw [← z,hlw] at ho
        have h2:=HO.lst.inj (Option.some.inj ho)
        cases hcs:cs4 with
        | nil=>rw [hcs] at cpos;exact absurd cpos (by decide)
        | cons a r =>
          rw [hcs,List.map_cons] at h2
          cases (List.cons.inj h2).1
      have el4:((cs4.map sign).length:Int)=(cs4.length:Int):=by rw [List.length_map]
      refine ⟨_,rfl,_,rfl,_,rfl,l4,_,rfl,.inl (SqL.of hlw),p,_,_,rfl,hPw,by omega,by rw [el4];omega,by rw [el4];omega,fun z7 Hc z70 z71 hPc ec=>?_⟩
      rw [el4] at z71
      obtain ⟨j,rfl⟩:∃ m:Nat,z7=(m:Int):=⟨z7.toNat,by omega⟩
      have hj:j < cs4.length:=by omega
      refine ⟨l4,_,_,sign cs4[j],rfl,rfl,SqL.of ((ec l4 nl4p).trans hlw),atI_nat (by rw [List.getElem?_map,List.getElem?_eq_getElem hj];rfl),?_⟩
      have hcu:cs4[j]∈ltr ub:=hp4.mem_iff.mp (List.getElem_mem hj)
      obtain ⟨w6,win⟩:=wd_of hWb hcu
      have Bwc:But p H7 Hc:=hBw.trans (but3 ec)
      have hg:=DGet.k (k:=(Sum.inr (one cs4[j]):Key)) (Bwc _ _ hPrb.d ndbp)
      rw [kvw_wd hWb.nd hcu] at hg
      generalize hww:wd ub cs4[j]=ww at w6 win hg
      have exw:((⟨ww.toArray⟩:Str).length:Nat)=ww.length:=rfl
      refine ⟨_,rfl,_,rfl,tb,_,_,_,rfl,rfl,SqT.of (Bwc _ _ hPrb.t ntbp),atI_nat (j:=1) rfl,_,rfl,db,_,rfl,hg,⟨ww.toArray⟩,rfl,szl (show ww.length≤1000 by omega),_,_,rfl,rfl,p,_,_,rfl,hPc,by omega,by rw [exw];omega,by rw [exw];omega,fun z8 Hd z80 z81 hPd ed=>?_⟩
      obtain ⟨sp,rfl⟩:∃ m:Nat,z8=(m:Int):=⟨z8.toNat,by omega⟩
      have Bwd:But p H7 Hd:=Bwc.trans (but3 ed)
      have hl4d:Hd l4=some (.lst (cs4.map sign)):=(ed l4 nl4p).trans ((ec l4 nl4p).trans hlw)
      refine ⟨_,rfl,_,rfl,_,rfl,p,_,_,rfl,hPd,by omega,by decide,by decide,fun z9 He z90 z91 hPe ee=>?_⟩
      obtain ⟨m9,rfl⟩:∃ m:Nat,z9=(m:Int):=⟨z9.toNat,by omega⟩
      refine ⟨p,l4,_,m9,cs4,rfl,hPe,by omega,by omega,(ee l4 nl4p).trans hl4d,by omega,nl4p,fun mr Hf mrl _ mri Bf hPf=>?_⟩
      have Bwf:But p H7 Hf:=Bwd.trans ((but3 ee).trans Bf)
      have hg2:=DGet.k (k:=(Sum.inr (one cs4[j]):Key)) (Bwf _ _ hPrb.d ndbp)
      rw [kvw_wd hWb.nd hcu,hww] at hg2
      have htf:=Bwf _ _ hPrb.t ntbp
      refine ⟨_,rfl,tb,_,_,_,rfl,rfl,SqT.of htf,atI_nat (j:=1) rfl,_,rfl,db,_,rfl,hg2,?_⟩
      refine ⟨_,rfl,_,rfl,_,rfl,⟨ww.toArray⟩,rfl,szl (show ww.length≤1000 by omega),?_⟩
      rw [slice_take]
      refine ⟨_,rfl,⟨(ww.take sp).toArray⟩,⟨mr.toArray⟩,rfl,rfl,szl (show (ww.take sp).length+mr.length≤1000 by rw [List.length_take];omega),?_⟩
      rw [tx_app]
      refine ⟨_,rfl,_,rfl,_,_,rfl,rfl,_,rfl,⟨ww.toArray⟩,rfl,szl (show ww.length≤1000 by omega),?_⟩
      rw [show (sp:Int)+1=((sp+1:Nat):Int) by omega,slice_dropG]
      have lw:(ww.take sp++mr++ww.drop (sp+1)).length≤20:=by
        simp only [List.length_append,List.length_take,List.length_drop]
        omega
      refine ⟨⟨(ww.take sp++mr).toArray⟩,⟨(ww.drop (sp+1)).toArray⟩,rfl,rfl,szl (show (ww.take sp++mr).length+(ww.drop (sp+1)).length≤1000 by rw [← List.length_append];omega),?_⟩
      rw [tx_app]
      have wi:∀ e∈(ww.take sp++mr++ww.drop (sp+1)).take 6,e∈ltr ub:=fun e he=>by
        rcases List.mem_append.mp (List.mem_of_mem_take he) with h | h
        · rcases List.mem_append.mp h with h | h
          · exact win e (List.mem_of_mem_take h)
          · exact hp4.mem_iff.mp (mri e h)
        · exact win e (List.mem_of_mem_drop h)
      have wl:((ww.take sp++mr++ww.drop (sp+1)).take 6).length≤6:=by rw [List.length_take];exact Nat.min_le_left _ _
      refine ⟨_,rfl,⟨(ww.take sp++mr++ww.drop (sp+1)).toArray⟩,rfl,szl (show (ww.take sp++mr++ww.drop (sp+1)).length≤1000 by omega),?_⟩
      rw [show (6:Int)=((6:Nat):Int) from rfl,slice_take]
      revert wi wl
      generalize (ww.take sp++mr++ww.drop (sp+1)).take 6=nw
      intro wi wl
      refine ⟨_,rfl,tb,_,_,_,rfl,rfl,SqT.of htf,atI_nat (j:=1) rfl,_,rfl,db,_,rfl,DPut.k (k:=(Sum.inr (one cs4[j]):Key)) (Bwf _ _ hPrb.d ndbp) (small1000 (by unfold kvw;rw [List.length_map,← ltr_len];omega)),?_⟩
      rw [show V.str ⟨nw.toArray⟩=tx nw from rfl,rpl_put _ hWb.nd hcu]
      have H7db:∀ {c:Addr} {o:HO},H c=some o→c≠p→c≠db:=fun {c o} h n z=>by
        have:=hB4' c o h n
        rw [z,nH4db] at this
        cases this
      exact hn _ _ ⟨rpl ub cs4[j] nw,_,_,_,_,rfl,fun c o h n=>by rw [upd_ne (H7db h n)];exact Bwf _ _ (B07 _ _ h n) n,(hPf.other (upd_ne ndbp.symm)).mono (by omega),by rw [upd_ne (fun z=>by rw [z,hPrb.d] at hta7;cases hta7)];exact Bwf _ _ hta7 ntap,by rw [upd_ne ndab];exact Bwf _ _ hda7 ndap,by rw [upd_ne (fun z=>by have:=hPrb.t;rw [z,hPrb.d] at this;cases this)];exact htf,upd_same,hWb.rpl wl wi,rpl_ltr _ _ _⟩
    rintro σ Hw' ⟨ub',v7,v8,v9,v10,rfl,BH,hPw,h1,h2,h3,h4,hWb',el'⟩
    refine ⟨_,rfl,_,rfl,szl (show 2≤1000 by decide),fun T nT=>?_⟩
    have sT:=Same.add (o:=.tup [V.ref ta,V.ref tb]) nT
    have nTp:T≠p:=by obtain ⟨o,ho⟩:=hPw.some;exact (ne_of_none ho nT).symm
    exact q T ta da tb db ya yb ua ub' _ (BH.free nTp nT) (BH.trans (But.same sT)) ((hPw.sm sT).mono (by omega)) upd_same ⟨⟨sT _ _ h1,sT _ _ h2⟩,hWa,yal,yai⟩ ⟨⟨sT _ _ h3,sT _ _ h4⟩,hWb',ybl,fun c hc=>by rw [el'];exact ybi c hc⟩
end
end Lw
namespace Lw
open PySem L2 PyProof.Rows
section
variable {P:Program} {w:World} {K:PySem.W.Frag} {mg:Str→Option Value} {base:Heap}
def spLgs:Sp:=fun vs H Q _=>∃ (t d:Addr) (us:List Rule) (first:List Nat) (rs:List Rule) (x:List Nat) (M:Nat),vs=[.ref t,.int (M:Int)]∧PairAt H t d x us∧Ws us∧Good first rs∧Like us rs∧(∀ c∈x,c∈ltr rs)∧x.length≤600∧M≤9000 ∧
  ∀ D H',Same H H'→H D=none→H' D=some (.lst ((rg0 (lenT rs x) M).map V.int))→Q (.ref D) H'
theorem scLgs:FnScope ["_law_one","_law_ages","_law_sizes","_law_sign","_law_found","_law_age","_law_fresh"] ["_law_one","_law_ages"] (defScope sLgs):=⟨rfl,rfl,rfl,by decide +kernel,rfl,by decide +kernel,by decide +kernel⟩
theorem nd_lgs2:(["_law_sign","_law_sizes"]:List Str).Nodup:=by decide +kernel
theorem nd_lgs3:(["_law_letter","_law_sizes"]:List Str).Nodup:=by decide +kernel
theorem ok_lgs {f:Addr} {fd:FuncData} (F:Fun K "_law_lengths" "_law_lengths" sLgs f fd)
    (hrange:mg "range" = none)
    (hsum:mg "sum" = none)
    : FnOk P w K mg base CX0 1 f fd ["_law_one","_law_ages"] spLgs:=by
  refine F.ok scLgs (fun vs H Q E h=>?_) (fun cdv A outer s H vs Q E hr h=>?_)
  · obtain ⟨t,d,us,first,rs,x,M,rfl,_⟩:=h
    rfl
  · obtain ⟨t,d,us,first,rs,x,M,rfl,hT,hW,hG,hL,hx,hx6,hM,k⟩:=h
    have hu:=hu_of hr
    refine ⟨_,(pss_cons (ps_set (i:=2) scLgs.nd rfl (Or.inr rfl) pe_dnewK)
      (pss_cons (ps_frz (ps_for PassesOwn.never rfl (pi_dict (pe_ix (ix_tupK K) (pv 0) pe_int (fun _ _=>rfl))) (pg_name (i:=3) scLgs.nd rfl (Or.inl rfl)) (pss_one (ps_dput hu (pv 2) (pv 3) pe_int rfl))))
      (pss_cons (ps_set (i:=4) scLgs.nd rfl (Or.inl rfl) (pe_lst pa_nil))
      (pss_cons (ps_for PassesOwn.never rfl (pi_range1 rfl hrange (pa_cons (pv 1) pa_nil)) (pg_name (i:=5) scLgs.nd rfl (Or.inl rfl)) (pss_cons (ps_expr (pe_bmK K PySem.F.plainAttrs_list PySem.F.slot_list_append PySem.F.type_list_append mt_append (pv 4) (pa_cons (pe_callB (call_sumK2 K rfl) (by rfl) hsum (by first | exact PySem.boot_sum | decide +kernel) (pa_cons (pe_comp (N':=["_law_sign","_law_sizes"]) (ix:=[none,some 2]) rfl rfl (pi_str (pe_ix (ix_tupK K) (pv 0) pe_int (fun _ _=>rfl))) (fun _ _ _ _ _ _=>(pg_name (i:=0) nd_lgs2 rfl (Or.inl rfl))) (fun _ _ _ _ _ _=>pts_nil) (fun _ _ _ _ _ _=>(pe_dget hu (pv 1) (pv 0) (fun _ _=>rfl)))) pa_nil)) pa_nil)))
      (pss_cons (ps_set (i:=6) scLgs.nd rfl (Or.inl rfl) pe_dnewK)
      (pss_cons (ps_frz (ps_for PassesOwn.never rfl (pi_dict (pe_ix (ix_tupK K) (pv 0) pe_int (fun _ _=>rfl))) (pg_name (i:=3) scLgs.nd rfl (Or.inl rfl)) (pss_one (ps_dput hu (pv 6) (pv 3) (pe_callB (call_sumK2 K rfl) (by rfl) hsum (by first | exact PySem.boot_sum | decide +kernel) (pa_cons (pe_comp (N':=["_law_letter","_law_sizes"]) (ix:=[none,some 2]) rfl rfl (pi_str (pe_dget hu (pe_ix (ix_tupK K) (pv 0) pe_int (fun _ _=>rfl)) (pv 3) (fun _ _=>rfl))) (fun _ _ _ _ _ _=>(pg_name (i:=0) nd_lgs3 rfl (Or.inl rfl))) (fun _ _ _ _ _ _=>pts_nil) (fun _ _ _ _ _ _=>(pe_dget hu (pv 1) (pv 0) (fun _ _=>rfl)))) pa_nil)) rfl))))
      (pss_one (ps_set (i:=2) scLgs.nd rfl (Or.inr rfl) (pv 6)))))))
      (pss_one (ps_ret (pv 4))))))),?_⟩
    have hd:=hT.d
    have ht:=hT.t
    have ntd:t≠d:=fun z=>by rw [z,hd] at ht;cases ht
    have hfew:=hG.few
    have hul:=hL.len
    have ekl:(kvw us).length=us.length:=by unfold kvw;rw [List.length_map]
    have hxu:∀ c∈x,c∈ltr us:=fun c hc=>(hL.mem c).mp (hx c hc)
    have lu:=ltr_len us
    intro ds nds
    have ndd:d≠ds:=ne_of_none hd nds
    refine ⟨d,kvw us,by rw [upd_ne ndd];exact hd,fun ob=>?_⟩
    refine ⟨_,rfl,t,_,_,_,rfl,rfl,SqT.of (by rw [upd_ne ntd,upd_ne (ne_of_none ht nds)];exact ht),atI_nat (j:=1) rfl,d,ob,kvw us,rfl,upd_same,?_⟩
    refine for_by (sure_dict (d:=d) (ob:=ob) (kvs:=kvw us)) (fun i σ H5=>(∀ c o,c≠d→H c=some o→H5 c=some o)∧H5 d=some (.frz ob (.dK (kvw us)))∧H5 ds=some (.dK (dkF ((ltr us).take i) fun c=>sz rs c 0))∧∃ v5,σ=[some (.ref t),some (.int (M:Int)),some (.ref ds),v5,none,none,none])
      ⟨fun c o n h=>by rw [upd_ne n,upd_ne (ne_of_none h nds)];exact h,upd_same,by rw [upd_ne ndd.symm,upd_same];rfl,_,rfl⟩ ?_ ?_ ?_
    · rintro i σ H5 hi ⟨_,hd5,_⟩
      exact hd5
    · rintro i y σ H5 hy ⟨s5,hd5,hs5,v5,rfl⟩
      unfold kvw at hy
      rw [List.map_map,List.getElem?_map] at hy
      cases e:us[i]? with
      | none=>rw [e] at hy;cases hy
      | some qq =>
        rw [e] at hy
        obtain rfl:sign qq.1=y:=Option.some.inj hy
        obtain ⟨ec,_⟩:=ltr_nt hW.nd e
        generalize qq.1=c at *
        refine ⟨_,rfl,_,rfl,ds,_,rfl,DPut.k (k:=(Sum.inr (one c):Key)) hs5 (small1000 (by rw [dkF_len,List.length_take];omega)),?_⟩
        refine ⟨fun b o n h=>?_,?_,?_,_,rfl⟩
        · rw [upd_ne (ne_of_none h nds)]
          exact s5 b o n h
        · rw [upd_ne ndd]
          exact hd5
        · rw [upd_same]
          exact congrArg (fun z=>some (HO.dK z)) (dkF_put (g:=fun c=>sz rs c 0) hW.nd ec)
    rintro σ H5 ⟨s5,hd5,hs5,v5,rfl⟩
    have el:((kvw us).map fun p=>kV p.1).length=(ltr us).length:=by unfold kvw ltr;simp
    rw [el,List.take_length] at hs5
    refine ⟨hd5,?_⟩
    have hs0:Same H (upd H5 d (.dK (kvw us))):=fun b o h=>by
      by_cases n:b=d
      · rw [n,upd_same];rw [n,hd] at h;exact h
      · rw [upd_ne n];exact s5 b o n h
    have hds0:upd H5 d (.dK (kvw us)) ds=some (.dK (dkF (ltr us) fun c=>sz rs c 0)):=by rw [upd_ne ndd.symm];exact hs5
    revert hs0 hds0
    generalize upd H5 d (.dK (kvw us))=H6
    intro hs0 hds0
    -- the lengths
    refine ⟨szl (show 0≤1000 by decide),fun lL nlL=>?_⟩
    have nL:H lL=none:=hs0.free nlL
    have nsL:ds≠lL:=ne_of_none hds0 nlL
    have s6L:=Same.add (o:=.lst []) nlL
    refine ⟨_,rfl,_,rfl,by omega,by omega,?_⟩
    have en:Int.toNat (M:Int)=M:=by omega
    refine for_by (sure_range (lo:=0) (n:=Int.toNat (M:Int))) (fun i σ H7=>∃ (dz:Addr) (v5 v7 v8:Option V),σ=[some (.ref t),some (.int (M:Int)),some (.ref dz),v5,some (.ref lL),v7,v8]∧Same H H7∧H7 lL=some (.lst ((rg0 (lenT rs x) i).map V.int))∧H7 dz=some (.dK (dkF (ltr us) fun c=>sz rs c i))∧H dz=none)
      ⟨ds,_,_,_,rfl,hs0.trans s6L,upd_same,s6L _ _ hds0,nds⟩ (fun _ _ _ _ _=>trivial) ?_ ?_
    · rintro i y σ H7 hy ⟨dz,v5,v7,v8,rfl,s7,hL7,hz7,ndz⟩
      obtain ⟨hi,rfl⟩:=rng_at hy
      rw [en] at hi
      have nzL:dz≠lL:=fun z=>by rw [z,hL7] at hz7;cases hz7
      have ndz':d≠dz:=ne_of_none hd ndz
      have ndL:d≠lL:=ne_of_none hd nL
      have exw:((⟨x.toArray⟩:Str).cps.toList.map sign).length=x.length:=by simp
      refine ⟨_,rfl,.inl ⟨rfl,_,SqL.of hL7⟩,_,rfl,t,_,_,_,rfl,rfl,SqT.of (s7 _ _ ht),atI_nat (j:=0) rfl,⟨x.toArray⟩,rfl,?_⟩
      refine comp_allR (τ0:=[none,some (.ref dz)]) (sure_str (x:=⟨x.toArray⟩)) (by rw [exw];omega) (fun m ws τ Ha=>Ha=H7∧(∃ v,τ=[v,some (.ref dz)])∧ws=((x.take m).map fun e=>sz rs e i).map V.int) ⟨rfl,⟨_,rfl⟩,rfl⟩ ?_ ?_ ?_
      · rintro m ws τ Ha hm ⟨rfl,_,rfl⟩
        refine ⟨trivial,?_⟩
        rw [List.length_map,List.length_map,List.length_take]
        omega
      · rintro m y ws τ Ha hy ⟨rfl,⟨v,rfl⟩,rfl⟩
        have hy':(x.map sign)[m]? = some y:=hy
        rw [List.getElem?_map] at hy'
        cases e6:x[m]? with
        | none=>rw [e6] at hy';cases hy'
        | some a =>
          rw [e6] at hy'
          cases hy'
          have hga:=DGet.k (k:=(Sum.inr (one a):Key)) hz7
          rw [dkF_val (hxu a (List.mem_of_getElem? e6))] at hga
          refine ⟨_,rfl,_,rfl,dz,_,rfl,hga,rfl,⟨_,rfl⟩,?_⟩
          rw [take_snoc (fun e=>sz rs e i) e6,List.map_append]
          rfl
      rintro ws τ Ha D0 ⟨rfl,_,rfl⟩ nD0
      rw [exw,List.take_length]
      have sD0:=Same.add (o:=.lst ((x.map fun e=>sz rs e i).map V.int)) nD0
      have hL7':=sD0 _ _ hL7
      have hz7':=sD0 _ _ hz7
      have s7':=s7.trans sD0
      refine ⟨D0,_,rfl,SqL.of upd_same,lL,_,_,rfl,rfl,hL7',Nat.lt_of_lt_of_le (show _ < 10000 by rw [List.length_map,rg0_len];omega) (by decide),?_⟩
      have esum:(x.map fun e=>sz rs e i).sum=lenT rs x i:=by rw [lenT_sum]
      rw [esum]
      revert hL7' hz7' s7'
      generalize upd Ha D0 (.lst ((x.map fun e=>sz rs e i).map V.int))=H7'
      clear hL7 hz7 s7 sD0 nD0
      intro hL7 hz7 s7
      rw [rg0_snoc]
      have s8:Same H (upd H7' lL (.lst ((rg0 (lenT rs x) (i+1)).map V.int))):=fun b o h=>by
        rw [upd_ne (ne_of_none h nL)]
        exact s7 b o h
      have hL8:upd H7' lL (.lst ((rg0 (lenT rs x) (i+1)).map V.int)) lL=some (.lst ((rg0 (lenT rs x) (i+1)).map V.int)):=upd_same
      have hz8:upd H7' lL (.lst ((rg0 (lenT rs x) (i+1)).map V.int)) dz=some (.dK (dkF (ltr us) fun c=>sz rs c i)):=by rw [upd_ne nzL];exact hz7
      revert s8 hL8 hz8
      generalize upd H7' lL (.lst ((rg0 (lenT rs x) (i+1)).map V.int))=H8
      intro s8 hL8 hz8
      intro db ndb
      have nb:H db=none:=s8.free ndb
      have ndb':d≠db:=ne_of_none hd nb
      have nLb:lL≠db:=ne_of_none hL8 ndb
      have nzb:dz≠db:=ne_of_none hz8 ndb
      refine ⟨d,kvw us,by rw [upd_ne ndb'];exact s8 _ _ hd,fun ob2=>?_⟩
      refine ⟨_,rfl,t,_,_,_,rfl,rfl,SqT.of (by rw [upd_ne ntd,upd_ne (ne_of_none ht nb)];exact s8 _ _ ht),atI_nat (j:=1) rfl,d,ob2,kvw us,rfl,upd_same,?_⟩
      refine for_by (sure_dict (d:=d) (ob:=ob2) (kvs:=kvw us)) (fun j σ H9=>(∀ c o,c≠d→H8 c=some o→H9 c=some o)∧H9 d=some (.frz ob2 (.dK (kvw us)))∧H9 db=some (.dK (dkF ((ltr us).take j) fun c=>sz rs c (i+1)))∧∃ v5,σ=[some (.ref t),some (.int (M:Int)),some (.ref dz),v5,some (.ref lL),some (.int (i:Int)),some (.ref db)])
        ⟨fun c o n h=>by rw [upd_ne n,upd_ne (ne_of_none h ndb)];exact h,upd_same,by rw [upd_ne ndb'.symm,upd_same];rfl,_,rfl⟩ ?_ ?_ ?_
      · rintro j σ H9 hj ⟨_,hd9,_⟩
        exact hd9
      · rintro j y σ H9 hy ⟨s9,hd9,hb9,v5,rfl⟩
        unfold kvw at hy
        rw [List.map_map,List.getElem?_map] at hy
        cases e:us[j]? with
        | none=>rw [e] at hy;cases hy
        | some qq =>
          rw [e] at hy
          obtain rfl:sign qq.1=y:=Option.some.inj hy
          obtain ⟨ec,_⟩:=ltr_nt hW.nd e
          generalize qq.1=c at *
          have hcu:c∈ltr us:=List.mem_of_getElem? ec
          have hc:c∈ltr rs:=(hL.mem c).mpr hcu
          have hgc:=DGet.f (k:=(Sum.inr (one c):Key)) hd9
          rw [kvw_wd hW.nd hcu,← hL.wd c hcu] at hgc
          have hw6:=wd_le hG hc
          have ew:((⟨(wd rs c).toArray⟩:Str).cps.toList.map sign).length=(wd rs c).length:=by simp
          refine ⟨_,rfl,t,_,_,_,rfl,rfl,SqT.of (s9 t _ ntd (s8 _ _ ht)),atI_nat (j:=1) rfl,_,rfl,d,_,rfl,hgc,⟨(wd rs c).toArray⟩,rfl,?_⟩
          refine comp_allR (τ0:=[none,some (.ref dz)]) (sure_str (x:=⟨(wd rs c).toArray⟩)) (by rw [ew];omega) (fun m ws τ Ha=>Ha=H9∧(∃ v,τ=[v,some (.ref dz)])∧ws=(((wd rs c).take m).map fun e=>sz rs e i).map V.int) ⟨rfl,⟨_,rfl⟩,rfl⟩ ?_ ?_ ?_
          · rintro m ws τ Ha hm ⟨rfl,_,rfl⟩
            refine ⟨trivial,?_⟩
            rw [List.length_map,List.length_map,List.length_take]
            omega
          · rintro m y ws τ Ha hy ⟨rfl,⟨v,rfl⟩,rfl⟩
            have hy':((wd rs c).map sign)[m]? = some y:=hy
            rw [List.getElem?_map] at hy'
            cases e6:(wd rs c)[m]? with
            | none=>rw [e6] at hy';cases hy'
            | some a =>
              rw [e6] at hy'
              cases hy'
              have hau:a∈ltr us:=(hL.mem a).mp (wd_in hG hc a (List.mem_of_getElem? e6))
              have hga:=DGet.k (k:=(Sum.inr (one a):Key)) (s9 dz _ ndz'.symm hz8)
              rw [dkF_val hau] at hga
              refine ⟨_,rfl,_,rfl,dz,_,rfl,hga,rfl,⟨_,rfl⟩,?_⟩
              rw [take_snoc (fun e=>sz rs e i) e6,List.map_append]
              rfl
          rintro ws τ Ha D ⟨rfl,_,rfl⟩ nD
          rw [ew,List.take_length]
          have sD:=Same.add (o:=.lst (((wd rs c).map fun e=>sz rs e i).map V.int)) nD
          refine ⟨D,_,rfl,SqL.of upd_same,_,rfl,_,rfl,db,_,rfl,DPut.k (k:=(Sum.inr (one c):Key)) (sD _ _ hb9) (small1000 (by rw [dkF_len,List.length_take];omega)),?_⟩
          rw [← sz_succ]
          refine ⟨fun b o n h=>?_,?_,?_,_,rfl⟩
          · rw [upd_ne (ne_of_none h ndb)]
            exact sD _ _ (s9 b o n h)
          · rw [upd_ne ndb']
            exact sD _ _ hd9
          · rw [upd_same]
            exact congrArg (fun z=>some (HO.dK z)) (dkF_put (g:=fun c=>sz rs c (i+1)) hW.nd ec)
      rintro σ H9 ⟨s9,hd9,hb9,v5,rfl⟩
      rw [el,List.take_length] at hb9
      refine ⟨hd9,_,rfl,db,_,_,_,rfl,fun b o h=>?_,?_,?_,nb⟩
      · by_cases n:b=d
        · rw [n,upd_same];rw [n,hd] at h;exact h
        · rw [upd_ne n];exact s9 b o n (s8 b o h)
      · rw [upd_ne ndL.symm]
        exact s9 lL _ ndL.symm hL8
      · rw [upd_ne ndb'.symm]
        exact hb9
    rintro σ H7 ⟨dz,v5',v7,v8,rfl,s7,hL7,hz7,ndz⟩
    rw [rngV_length,en] at hL7
    exact ⟨_,rfl,k lL H7 s7 nL hL7⟩
end
end Lw
namespace Lw
open PySem L2 PyProof.Rows
section
variable {P:Program} {w:World} {K:PySem.W.Frag} {mg:Str→Option Value} {base:Heap}
def spBok:Sp:=fun vs H Q _=>∃ (t0 d:Addr) (x:List Nat) (us:List Rule),vs=[.ref t0]∧PairOk H t0 d x us∧∀ (B:Addr) (rs:List Rule) H',Same H H'→BookAt H' B x rs→Good x rs→Like us rs→Q (.ref B) H'
theorem scBok:FnScope ["_law_one"] ["_law_one"] (defScope sBok):=⟨rfl,rfl,rfl,by decide +kernel,rfl,by decide +kernel,by decide +kernel⟩
theorem nd_bok1:(["_law_sign","_law_one"]:List Str).Nodup:=by decide +kernel
theorem ok_bok {f:Addr} {fd:FuncData} (F:Fun K "_law_book" "_law_book" sBok f fd)
    (hlist:mg "list" = none)
    (htuple:mg "tuple" = none)
    (hsorted:mg "sorted" = none)
    : FnOk P w K mg base CX0 1 f fd ["_law_one"] spBok:=by
  refine F.ok scBok (fun vs H Q E h=>?_) (fun cdv A outer s H vs Q E hr h=>?_)
  · obtain ⟨t0,d,x,us,rfl,_⟩:=h
    rfl
  · obtain ⟨t0,d,x,us,rfl,hO,k⟩:=h
    have hu:=hu_of hr
    refine ⟨_,(pss_one (ps_ret (pe_tup (pa_cons (pe_ix (ix_tupK K) (pv 0) pe_int (fun _ _=>rfl)) (pa_cons (pe_callTy (call_tuple_ofK K) (by rfl) htuple (by first | exact PySem.boot_tuple | decide +kernel) (pa_cons (pe_comp (N':=["_law_sign","_law_one"]) (ix:=[none,some 0]) rfl rfl (pi_listK K (pe_callB (call_sortTK K) (by rfl) hsorted PyProof.Rows.boot_sorted (pa_cons (pe_callTy (call_list_dict rfl) (by rfl) hlist (by first | exact PySem.boot_list | decide +kernel) (pa_cons (pe_ix (ix_tupK K) (pv 0) pe_int (fun _ _=>rfl)) pa_nil)) pa_nil))) (fun _ _ _ _ _ _=>(pg_name (i:=0) nd_bok1 rfl (Or.inl rfl))) (fun _ _ _ _ _ _=>pts_nil) (fun _ _ _ _ _ _=>(pe_tup (pa_cons (pv 0) (pa_cons (pe_dget hu (pe_ix (ix_tupK K) (pv 1) pe_int (fun _ _=>rfl)) (pv 0) (fun _ _=>rfl)) pa_nil))))) pa_nil)) pa_nil))))),?_⟩
    have hd:=hO.d
    have ht0:=hO.t
    have hW:=hO.ws
    have hx:=hO.xl
    have hin:=hO.xi
    have hfew:=hW.few
    have es:∀ xs:List Nat,(xs.map one).map V.str=xs.map sign:=fun xs=>by rw [List.map_map];rfl
    refine ⟨_,rfl,t0,_,_,_,rfl,rfl,SqT.of ht0,atI_nat (j:=0) rfl,_,rfl,t0,_,_,_,rfl,rfl,SqT.of ht0,atI_nat (j:=1) rfl,d,kvw us,(ltr us).map one,rfl,hd,kvw_ones us,fun l nl=>?_⟩
    rw [es]
    have s1:=Same.add (o:=.lst ((ltr us).map sign)) nl
    refine ⟨l,false,(ltr us).map one,rfl,(by show SqL K _ l _;rw [es];exact SqL.of upd_same),by rw [List.length_map,ltr_len];omega,fun l2 ss' hl2 hperm hsort=>?_⟩
    obtain ⟨cs',hp',rfl⟩:=perm_ones hperm
    rw [es]
    have nd':cs'.Nodup:=hp'.nodup_iff.mpr hW.nd
    have hlt:=sorted_lt hsort nd'
    have hlen':cs'.length=us.length:=by rw [hp'.length_eq];exact ltr_len us
    have s2:=Same.add (o:=.lst (cs'.map sign)) hl2
    have s02:=s1.trans s2
    have hl2':upd (upd H l (.lst ((ltr us).map sign))) l2 (.lst (cs'.map sign)) l2=some (.lst (cs'.map sign)):=upd_same
    revert s02 hl2'
    generalize upd (upd H l (.lst ((ltr us).map sign))) l2 (.lst (cs'.map sign))=H2
    intro s02 hl2'
    have hin':∀ c∈cs',c∈ltr us:=fun c hc=>hp'.mem_iff.mp hc
    refine ⟨l2,rfl,⟨_,SqL.of hl2'⟩,?_⟩
    refine comp_allR (τ0:=[none,some (V.ref t0)]) (sure_list (xs:=cs'.map sign)) (by rw [List.length_map];omega)
      (fun i ys τ H8=>Same H2 H8∧(∃ v,τ=[v,some (.ref t0)])∧∃ (ps:List Addr),ys=ps.map V.ref∧RulesAt H8 ps ((cs'.take i).map fun c=>(c,wd us c)))
      ⟨Same.refl _,⟨_,rfl⟩,[],rfl,.nil⟩ ?_ ?_ ?_
    · rintro i ys τ H8 hi ⟨s8,_,ps,rfl,hR⟩
      refine ⟨SqL.of (s8 _ _ hl2'),?_⟩
      rw [List.length_map,hR.len,List.length_map,List.length_take]
      omega
    · rintro i y ys τ H8 hy ⟨s8,⟨v0,rfl⟩,ps,rfl,hR⟩
      rw [List.getElem?_map] at hy
      cases ec:cs'[i]? with
      | none=>rw [ec] at hy;cases hy
      | some c =>
        rw [ec] at hy
        cases hy
        have hc:=hin' c (List.mem_of_getElem? ec)
        have hg:=DGet.k (k:=(Sum.inr (one c):Key)) (s8 _ _ (s02 _ _ hd))
        rw [kvw_wd hW.nd hc] at hg
        refine ⟨_,rfl,_,rfl,t0,_,_,_,rfl,rfl,SqT.of (s8 _ _ (s02 _ _ ht0)),atI_nat (j:=1) rfl,_,rfl,d,_,rfl,hg,(by show 2≤sizeLine;decide),fun T hT=>?_⟩
        refine ⟨s8.trans (Same.add hT),⟨_,rfl⟩,ps++[T],by rw [List.map_append];rfl,?_⟩
        rw [take_snoc (fun c=>(c,wd us c)) ec]
        exact (hR.mono (TupS.same (Same.add hT))).snoc upd_same
    rintro ys τ H8 D ⟨s8,_,ps,rfl,hR⟩ hD
    rw [List.length_map,take_all] at hR
    refine ⟨D,ps.map V.ref,rfl,.inl ⟨SqL.of upd_same,fun r hr=>⟨(by show 2≤sizeLine;decide),fun t ht=>?_⟩⟩⟩
    have sA:Same H8 (upd H8 D (.lst (ps.map V.ref))):=Same.add hD
    have sB:=Same.add (o:=.tup (ps.map V.ref)) hr
    have sC:=Same.add (o:=.tup [tx x,.ref r]) ht
    have el:ltr (cs'.map fun c=>(c,wd us c))=cs':=by
      show List.map _ (List.map _ _)=_
      rw [List.map_map]
      exact List.map_id _
    have hq:∀ r∈cs'.map (fun c=>(c,wd us c)),r.1∈ltr us∧r.2=wd us r.1:=fun r hr=>by
      obtain ⟨c,hc,rfl⟩:=List.mem_map.mp hr
      exact ⟨hin' c hc,rfl⟩
    have s6t:=s02.trans (s8.trans (sA.trans (sB.trans sC)))
    have hB9:BookAt (upd (upd (upd H8 D (.lst (ps.map V.ref))) r (.tup (ps.map V.ref))) t (.tup [tx x,.ref r])) t x (cs'.map fun c=>(c,wd us c)):=⟨r,ps,upd_same,sC _ _ upd_same,hR.mono (TupS.same (sA.trans (sB.trans sC)))⟩
    have hG:Good x (cs'.map fun c=>(c,wd us c)):=by
      refine ⟨by rw [List.length_map];omega,by rw [show (cs'.map fun c=>(c,wd us c)).map (·.1)=cs' from el];exact hlt,fun r hr=>hW.abc _ (hq r hr).1,fun r hr=>?_,fun r hr c hc=>?_,hx,fun c hc=>?_⟩
      · rw [(hq r hr).2]
        exact (wd_of hW (hq r hr).1).1
      · rw [(hq r hr).2] at hc
        show c∈ltr (cs'.map fun c=>(c,wd us c))
        rw [el]
        exact hp'.mem_iff.mpr ((wd_of hW (hq r hr).1).2 c hc)
      · show c∈ltr (cs'.map fun c=>(c,wd us c))
        rw [el]
        exact hp'.mem_iff.mpr (hin c hc)
    have hL:Like us (cs'.map fun c=>(c,wd us c)):=by
      refine ⟨fun c=>by rw [el];exact hp'.mem_iff,fun c hc=>?_,by rw [List.length_map];exact hlen'⟩
      obtain ⟨q',h1,h2,h3⟩:=wd_mem (show c∈ltr (cs'.map fun c=>(c,wd us c)) by rw [el];exact hp'.mem_iff.mpr hc)
      rw [h3,(hq q' h1).2,h2]
    exact k t _ _ s6t hB9 hG hL
end
end Lw
namespace Lw
theorem sum_sm:∀ {n:Nat} {xs:List Int},xs.length=n→xs.sum=sm n fun i=>xs.getD i 0
  | 0,[],_=>rfl
  | n+1,x :: xs,h=>by
    rw [List.sum_cons,sum_sm (Nat.succ.inj h),Nat.add_comm n 1,sm_split]
    show _=(0+x)+_
    rw [Int.zero_add]
    congr 1
    exact sm_congr fun i _=>by rw [Nat.add_comm 1 i];rfl
theorem dot_sm:∀ {n:Nat} {xs ys:List Int},xs.length=n→ys.length=n→dot xs ys=sm n fun i=>xs.getD i 0 * ys.getD i 0
  | 0,[],[],_,_=>rfl
  | n+1,x :: xs,y :: ys,h,h2=>by
    rw [dot_cons,dot_sm (Nat.succ.inj h) (Nat.succ.inj h2),Nat.add_comm n 1,sm_split]
    show _=(0+x * y)+_
    rw [Int.zero_add]
    congr 1
    exact sm_congr fun i _=>by rw [Nat.add_comm 1 i];rfl
def cA (rs:List Rule) (x:List Nat) (k i:Nat):Int:=(cntN rs.length (tabI rs) (c0 rs x) k).getD i 0
def tA (rs:List Rule) (i j:Nat):Int:=((tabI rs).getD i []).getD j 0
theorem lenC_sm (rs:List Rule) (x:List Nat) (k:Nat):lenC rs x k=sm rs.length (cA rs x k):=sum_sm (cntN_len (c0_len rs x) k)
theorem cA_step {rs:List Rule} {x:List Nat} {k j:Nat} (hj:j < rs.length):cA rs x (k+1) j=sm rs.length fun i=>cA rs x k i * tA rs i j:=by
  show (stepC rs.length (tabI rs) (cntN rs.length (tabI rs) (c0 rs x) k)).getD j 0=_
  unfold stepC
  rw [List.getD_eq_getElem?_getD,List.getElem?_map,List.getElem?_range hj]
  show dot _ _=_
  rw [dot_sm (cntN_len (c0_len rs x) k) (by unfold colAt;rw [List.length_map,tabI_len])]
  refine sm_congr fun i hi=>?_
  show cA rs x k i * _=cA rs x k i * tA rs i j
  congr 1
  unfold colAt tA
  rw [List.getD_eq_getElem?_getD,List.getElem?_map,List.getD_eq_getElem?_getD (l:=tabI rs),List.getElem?_eq_getElem (by rw [tabI_len];exact hi)]
  rfl
theorem lens_for_ever {rs1 rs2:List Rule} {x1 x2:List Nat} {s:Nat} (h:∀ m,m < rs1.length+rs2.length→lenC rs1 x1 (s+m)=lenC rs2 x2 (s+m)) (m:Nat):lenC rs1 x1 (s+m)=lenC rs2 x2 (s+m):=by
  let f:Nat→Nat→Int:=fun k i=>if i < rs1.length then cA rs1 x1 k i else cA rs2 x2 k (i - rs1.length)
  let T:Nat→Nat→Int:=fun i j=>if i < rs1.length then (if j < rs1.length then tA rs1 i j else 0) else (if j < rs1.length then 0 else tA rs2 (i - rs1.length) (j - rs1.length))
  let e:Nat→Int:=fun i=>if i < rs1.length then 1 else -1
  have key:∀ k,sm (rs1.length+rs2.length) (fun i=>f k i * e i)=lenC rs1 x1 k - lenC rs2 x2 k:=fun k=>by
    rw [sm_split,lenC_sm,lenC_sm]
    have a:sm rs1.length (fun i=>f k i * e i)=sm rs1.length (cA rs1 x1 k):=sm_congr fun i hi=>by
      show (if i < rs1.length then _ else _) * (if i < rs1.length then (1:Int) else -1)=_
      rw [if_pos hi,if_pos hi,Int.mul_one]
    have b:sm rs2.length (fun i=>f k (rs1.length+i) * e (rs1.length+i))=sm rs2.length (fun i=>(-1) * cA rs2 x2 k i):=sm_congr fun i hi=>by
      show (if rs1.length+i < rs1.length then _ else cA rs2 x2 k (rs1.length+i - rs1.length)) * (if rs1.length+i < rs1.length then (1:Int) else -1)=_
      rw [if_neg (by omega),if_neg (by omega),Nat.add_sub_cancel_left,Int.mul_comm]
    rw [a,b,sm_mul]
    omega
  have hf:∀ k j,j < rs1.length+rs2.length→f (k+1) j=sm (rs1.length+rs2.length) (fun i=>f k i * T i j):=fun k j hj=>by
    rw [sm_split]
    by_cases h1:j < rs1.length
    · have a:sm rs1.length (fun i=>f k i * T i j)=sm rs1.length (fun i=>cA rs1 x1 k i * tA rs1 i j):=sm_congr fun i hi=>by
        show (if i < rs1.length then _ else _) * (if i < rs1.length then (if j < rs1.length then tA rs1 i j else 0) else _)=_
        rw [if_pos hi,if_pos hi,if_pos h1]
      have b:sm rs2.length (fun i=>f k (rs1.length+i) * T (rs1.length+i) j)=0:=sm_zero fun i hi=>by
        show _ * (if rs1.length+i < rs1.length then _ else (if j < rs1.length then (0:Int) else _))=0
        rw [if_neg (by omega),if_pos h1,Int.mul_zero]
      rw [a,b,Int.add_zero,← cA_step h1]
      show (if j < rs1.length then _ else _)=_
      rw [if_pos h1]
    · have a:sm rs1.length (fun i=>f k i * T i j)=0:=sm_zero fun i hi=>by
        show _ * (if i < rs1.length then (if j < rs1.length then _ else (0:Int)) else _)=0
        rw [if_pos hi,if_neg h1,Int.mul_zero]
      have b:sm rs2.length (fun i=>f k (rs1.length+i) * T (rs1.length+i) j)=sm rs2.length (fun i=>cA rs2 x2 k i * tA rs2 i (j - rs1.length)):=sm_congr fun i hi=>by
        show (if rs1.length+i < rs1.length then _ else cA rs2 x2 k (rs1.length+i - rs1.length)) * (if rs1.length+i < rs1.length then _ else (if j < rs1.length then (0:Int) else tA rs2 (rs1.length+i - rs1.length) (j - rs1.length)))=_
        rw [if_neg (by omega),if_neg (by omega),if_neg h1,Nat.add_sub_cancel_left]
      rw [a,b,Int.zero_add,← cA_step (by omega)]
      show (if j < rs1.length then _ else _)=_
      rw [if_neg h1]
  have:=rec_zero hf (s:=s) (fun m hm=>by rw [key,h m hm,Int.sub_self]) m
  rw [key] at this
  omega
end Lw
namespace Lw
open PySem L2 PyProof.Rows
def SetIs (f g:Nat→Int) (A:Nat) (H:Hp) (r:Addr):Prop:=(H r=some (.tup [.str (Str.ofString "parted")])∧∃ i,A≤i∧i < A+A∧f i≠g i)∨∃ s:Nat,s≤A∧H r=some (.tup [.str (Str.ofString "alike"),.int (s:Int)])∧(∀ i,s≤i→i < A+A→f i=g i)∧(s=0∨f (s - 1)≠g (s - 1))
theorem cut_rgD {f:Nat→Int} {A:Nat}:cutV (((List.range (A+A)).map f).map V.int) (some (A:Int)) none=((List.range A).map fun i=>f (A+i)).map V.int:=by
  unfold cutV
  rw [HT.sIx_nat]
  simp only [List.length_map,List.length_range]
  rw [Nat.min_eq_left (show A≤A+A by omega),show HT.sIx (A+A) (A+A) none=A+A from rfl,Nat.add_sub_cancel_left]
  refine List.ext_getElem? fun i=>?_
  by_cases hi:i < A
  · rw [List.getElem?_take_of_lt (by omega),List.getElem?_drop,List.getElem?_map,List.getElem?_map,List.getElem?_range (by omega),List.getElem?_map,List.getElem?_map,List.getElem?_range hi]
    rfl
  · rw [List.getElem?_eq_none (by rw [List.length_take];omega),List.getElem?_eq_none (by simp;omega)]
section
variable {P:Program} {w:World} {K:PySem.W.Frag} {mg:Str→Option Value} {base:Heap}
def spSed (K:PySem.W.Frag):Sp:=fun vs H Q _=>∃ (t1 t2:Addr) (x1 x2:List Nat) (rs1 rs2:List Rule),vs=[.ref t1,.ref t2]∧BookAt H t1 x1 rs1∧Good x1 rs1∧BookAt H t2 x2 rs2∧Good x2 rs2 ∧
  ∀ r H',Same H H'→SetIs (lenC rs1 x1) (lenC rs2 x2) (rs1.length+rs2.length) H' r→Q (.ref r) H'
theorem scSed:FnScope ["one","other","ages","ones","others","start"] ["one","other"] (defScope sSed):=⟨rfl,rfl,rfl,by decide +kernel,rfl,by decide +kernel,by decide +kernel⟩
theorem ok_sed {f fSta fFls:Addr} {fd fdSta fdFls:FuncData} (F:Fun K "settled" "settled" sSed f fd)
    (GSta:FnOk P w K mg base CX0 1 fSta fdSta ["one","other"] spSta)
    (gSta:Gf K mg "settling_ages" fSta fdSta ["one","other"])
    (GFls:FnOk P w K mg base CX0 6 fFls fdFls ["book","many"] spFls)
    (gFls:Gf K mg "first_lengths" fFls fdFls ["book","many"])
    : FnOk P w K mg base CX0 7 f fd ["one","other"] (spSed K):=by
  refine F.ok scSed (fun vs H Q E h=>?_) (fun cdv A outer s H vs Q E hr h=>?_)
  · obtain ⟨t1,t2,x1,x2,rs1,rs2,rfl,_⟩:=h
    rfl
  · obtain ⟨t1,t2,x1,x2,rs1,rs2,rfl,hB1,hG1,hB2,hG2,k⟩:=h
    have hr1:Room 1 _:=hr.mono (by decide)
    refine ⟨_,(pss_cons (ps_set (i:=2) scSed.nd rfl (Or.inl rfl) (pe_call GSta hr1 rfl gSta.m gSta.k gSta.b .nil pass0 (pa_cons (pv 0) (pa_cons (pv 1) pa_nil))))
      (pss_cons (ps_set (i:=3) scSed.nd rfl (Or.inl rfl) (pe_call GFls hr rfl gFls.m gFls.k gFls.b .nil pass0 (pa_cons (pv 0) (pa_cons (pe_op op_add (pv 2) (pv 2)) pa_nil))))
      (pss_cons (ps_set (i:=4) scSed.nd rfl (Or.inl rfl) (pe_call GFls hr rfl gFls.m gFls.k gFls.b .nil pass0 (pa_cons (pv 1) (pa_cons (pe_op op_add (pv 2) (pv 2)) pa_nil))))
      (pss_cons (ps_if (pt_cmpR (op_neLIK K hr.units) (pe_slice (sl_listK K) (pv 3) (po_some (pv 2)) po_none) (pe_slice (sl_listK K) (pv 4) (po_some (pv 2)) po_none) (nomark _)) (pss_one (ps_ret (pe_tup (pa_cons pe_str pa_nil)))) pss_nil)
      (pss_cons (ps_set (i:=5) scSed.nd rfl (Or.inl rfl) (pv 2))
      (pss_cons (ps_while PassesOwn.never (PW.pt (pw_and (pt_cmpR op_gt (pv 5) pe_int (nomark _)) (pw_and1 (pt_cmpR op_eq (pe_ix (ix_listK K) (pv 3) (pe_op op_sub (pv 5) pe_int) (fun _ _=>rfl)) (pe_ix (ix_listK K) (pv 4) (pe_op op_sub (pv 5) pe_int) (fun _ _=>rfl)) (nomark _))))) (pss_one (ps_aug (i:=5) scSed.nd rfl (Or.inl rfl) pe_int ip_sub)))
      (pss_one (ps_ret (pe_tup (pa_cons pe_str (pa_cons (pv 5) pa_nil))))))))))),?_⟩
    have f1:=hG1.few
    have f2:=hG2.few
    refine ⟨_,rfl,_,rfl,t1,t2,x1,x2,rs1,rs2,rfl,hB1,hB2,?_⟩
    refine ⟨_,rfl,_,rfl,_,rfl,_,_,rfl,rfl,t1,x1,rs1,(rs1.length+rs2.length)+(rs1.length+rs2.length),by push_cast;rfl,hB1,hG1,by omega,fun d1 H1 s1 n1 h1=>?_⟩
    refine ⟨_,rfl,_,rfl,_,rfl,_,_,rfl,rfl,t2,x2,rs2,(rs1.length+rs2.length)+(rs1.length+rs2.length),by push_cast;rfl,hB2.mono (TupS.same s1),hG2,by omega,fun d2 H2 s2 n2 h2=>?_⟩
    have h1':=s2 _ _ h1
    have s02:=s1.trans s2
    revert h1 h2 h1'
    generalize lenC rs1 x1=f at *
    generalize lenC rs2 x2=g at *
    intro h1 h2 h1'
    generalize hA:rs1.length+rs2.length=A at *
    have eA:(rs1.length:Int)+(rs2.length:Int)=(A:Int):=by omega
    rw [eA]
    refine ⟨_,rfl,_,rfl,_,rfl,d1,_,rfl,SqL.of h1',fun L nL=>?_⟩
    rw [cut_rgD]
    have sL:=Same.add (o:=.lst (((List.range A).map fun i=>f (A+i)).map V.int)) nL
    refine ⟨_,rfl,_,rfl,_,rfl,d2,_,rfl,SqL.of (sL _ _ h2),fun M nM=>?_⟩
    rw [cut_rgD]
    have sM:=Same.add (o:=.lst (((List.range A).map fun i=>g (A+i)).map V.int)) nM
    refine ⟨L,M,_,_,rfl,rfl,SqL.of (sM _ _ upd_same),SqL.of upd_same,_,rfl,ite2 (fun hc=>?_) (fun hc=>?_)⟩
    · refine ⟨szl (show 1≤1000 by decide),fun R nR=>?_⟩
      refine k R _ (s02.trans (sL.trans (sM.trans (Same.add nR)))) (.inl ⟨upd_same,?_⟩)
      refine Classical.byContradiction fun z=>?_
      have:((List.range A).map fun i=>f (A+i))=(List.range A).map fun i=>g (A+i):=List.map_congr_left fun i hi=>Classical.byContradiction fun z2=>z ⟨A+i,by omega,by have:=List.mem_range.mp hi;omega,z2⟩
      rw [decide_eq_true this] at hc
      cases hc
    have heq:∀ i,A≤i→i < A+A→f i=g i:=fun i h3 h4=>by
      have e:((List.range A).map fun i=>f (A+i))=(List.range A).map fun i=>g (A+i):=by
        refine Classical.byContradiction fun z=>hc ?_
        rw [decide_eq_false z]
        rfl
      have:=congrArg (fun l=>l[i - A]?) e
      simp only [List.getElem?_map,List.getElem?_range (show i - A < A by omega)] at this
      have:f (A+(i - A))=g (A+(i - A)):=Option.some.inj this
      rwa [show A+(i - A)=i by omega] at this
    have h1'':=sM _ _ (sL _ _ h1')
    have h2'':=sM _ _ (sL _ _ h2)
    have s03:=s02.trans (sL.trans sM)
    revert h1'' h2'' s03
    generalize upd (upd H2 L _) M _=H3
    intro h1'' h2'' s03
    have at_:∀ (h:Nat→Int) (j:Nat),j < A→atI (((List.range (A+A)).map h).map V.int) ((j:Nat):Int)=some (.int (h j)):=fun h j hj=>atI_nat (by rw [List.getElem?_map,List.getElem?_map,List.getElem?_range (by omega)];rfl)
    refine ⟨_,rfl,?_⟩
    have done:∀ q:Nat,q≤A→(∀ i,q≤i→i < A+A→f i=g i)→(q=0∨f (q - 1)≠g (q - 1))→tRet (tTup (tCons (tC (V.str (Str.ofString "alike"))) (tCons (tVar 5) tNil))) { nx:=fun x H'=>Q V.non H',rt:=Q } [some (.ref t1),some (.ref t2),some (.int (A:Int)),some (.ref d1),some (.ref d2),some (.int (q:Int))] H3:=fun q hq hall hz=>by
      refine ⟨_,rfl,szl (show 2≤1000 by decide),fun R nR=>?_⟩
      exact k R _ (s03.trans (Same.add nR)) (.inr ⟨q,hq,upd_same,hall,hz⟩)
    refine ⟨fun q σ H5=>H5=H3∧q≤A∧σ=[some (.ref t1),some (.ref t2),some (.int (A:Int)),some (.ref d1),some (.ref d2),some (.int (q:Int))]∧∀ i,q≤i→i < A+A→f i=g i,⟨A,rfl,Nat.le_refl _,rfl,heq⟩,?_⟩
    rintro q σ H5 ⟨rfl,hq,rfl,hall⟩
    refine ⟨_,rfl,_,_,rfl,rfl,_,rfl,?_⟩
    cases q with
    | zero=>exact iteF (done 0 hq hall (.inl rfl))
    | succ q =>
      rw [decide_eq_true (show (0:Int) < ((q+1:Nat):Int) by omega)]
      refine iteT ?_
      have eq1:((q+1:Nat):Int) - 1=(q:Int):=by omega
      have at1:∀ h:Nat→Int,atI (((List.range (A+A)).map h).map V.int) (((q+1:Nat):Int) - 1)=some (.int (h q)):=fun h=>by rw [eq1];exact at_ h q (by omega)
      refine ⟨_,rfl,_,rfl,_,_,rfl,rfl,d1,_,_,_,rfl,rfl,SqL.of h1'',at1 f,?_⟩
      refine ⟨_,rfl,_,rfl,_,_,rfl,rfl,d2,_,_,_,rfl,rfl,SqL.of h2'',at1 g,rfl,_,rfl,?_⟩
      refine ite2 (fun hc2=>?_) (fun hc2=>?_)
      · have e:f q=g q:=V.int.inj (of_decide_eq_true hc2)
        refine ⟨fun σ' H'=>H'=H5∧σ'=[some (.ref t1),some (.ref t2),some (.int (A:Int)),some (.ref d1),some (.ref d2),some (.int (q:Int))],fun σ' H' ⟨e1,e2⟩=>⟨q,by omega,e1,by omega,e2,fun i h3 h4=>?_⟩,?_⟩
        · by_cases z:i=q
          · rw [z];exact e
          · exact hall i (by omega) h4
        · refine ⟨_,rfl,_,_,rfl,rfl,rfl,?_⟩
          show [some (V.ref t1),some (V.ref t2),some (V.int (A:Int)),some (V.ref d1),some (V.ref d2),some (V.int (((q+1:Nat):Int) - 1))]=[some (V.ref t1),some (V.ref t2),some (V.int (A:Int)),some (V.ref d1),some (V.ref d2),some (V.int (q:Int))]
          rw [eq1]
      · have e:f q≠g q:=fun z=>hc2 (decide_eq_true (congrArg V.int z))
        exact done (q+1) hq hall (.inr e)
end
end Lw
namespace Lw
open PySem L2 PyProof.Rows
section
variable {P:Program} {w:World} {K:PySem.W.Frag} {mg:Str→Option Value} {base:Heap}
def DueT (H:Hp) (r:Addr) (o:Option Nat):Prop:=H r=some (.tup (match o with | none=>[.str (Str.ofString "parted")] | some s=>[.str (Str.ofString "alike"),.int (s:Int)]))
def spRgt (K:PySem.W.Frag):Sp:=fun vs H Q _=>∃ (r t:Addr) (o:Option Nat),vs=[.ref r,.ref t]∧DueT H r o∧DueT H t o∧Q (.bl true) H
theorem scRgt:FnScope ["_law_told","_law_due"] ["_law_told","_law_due"] (defScope sRgt):=⟨rfl,rfl,rfl,by decide +kernel,rfl,by decide +kernel,by decide +kernel⟩
theorem ok_rgt {f:Addr} {fd:FuncData} (F:Fun K "_law_right" "_law_right" sRgt f fd)
    (hlen:mg "len" = none)
    (hint:mg "int" = none)
    (htuple:mg "tuple" = none)
    (hisinstance:mg "isinstance" = none)
    (hbool:mg "bool" = none)
    : FnOk P w K mg base CX0 1 f fd ["_law_told","_law_due"] (spRgt K):=by
  refine F.ok scRgt (fun vs H Q E h=>?_) (fun cdv A outer s H vs Q E hr h=>?_)
  · obtain ⟨r,t,o,rfl,_⟩:=h
    rfl
  · obtain ⟨r,t,o,rfl,hr0,ht0,k⟩:=h
    refine ⟨_,(pss_cons (ps_if (PW.pt (pw_or (pt_not (pt_val (pe_callB (call_isinstK K) (by rfl) hisinstance (show bootBuiltins "isinstance" = some (.builtin "isinstance") by decide +kernel) (pa_cons (pv 0) (pa_cons (pe_bltn (v:=.ty "tuple") (by rfl) htuple (show bootBuiltins "tuple" = some (.type "tuple") by decide +kernel) rfl) pa_nil))))) (pw_or1 (pt_cmpR (op_neVK K hr.units) (pv 0) (pv 1) (nomark _))))) (pss_one (ps_ret pe_bl)) pss_nil)
      (pss_one (ps_ret (pe_or (pe_cmpR op_eq (pe_callB (call_lenK K) (by rfl) hlen PySem.boot_len (pa_cons (pv 1) pa_nil)) pe_int (nomark _)) (pe_one (pe_and (pe_callB (call_isinstK K) (by rfl) hisinstance (show bootBuiltins "isinstance" = some (.builtin "isinstance") by decide +kernel) (pa_cons (pe_ix (ix_tupK K) (pv 0) pe_int (fun _ _=>rfl)) (pa_cons (pe_bltn (v:=.ty "int") (by rfl) hint (show bootBuiltins "int" = some (.type "int") by decide +kernel) rfl) pa_nil))) (pe_one (pe_not (pe_callB (call_isinstK K) (by rfl) hisinstance (show bootBuiltins "isinstance" = some (.builtin "isinstance") by decide +kernel) (pa_cons (pe_ix (ix_tupK K) (pv 0) pe_int (fun _ _=>rfl)) (pa_cons (pe_bltn (v:=.ty "bool") (by rfl) hbool (show bootBuiltins "bool" = some (.type "bool") by decide +kernel) rfl) pa_nil))))))))))),?_⟩
    have same:∀ {xs:List V},H r=some (.tup xs)→H t=some (.tup xs)→(∀ x∈xs,flatV x=true)→VSame K H 1 (.ref r) (.ref t):=fun {xs} h1 h2 h3=>.seq true (SqT.of h1) (SqT.of h2) rfl fun i x y e1 e2=>by
      rw [e1] at e2
      cases e2
      exact .flat (h3 x (List.mem_of_getElem? e1))
    cases o with
    | none =>
      have a1:H r=some (.tup [.str (Str.ofString "parted")]):=hr0
      have a2:H t=some (.tup [.str (Str.ofString "parted")]):=ht0
      refine ⟨_,rfl,_,_,_,true,rfl,TyOf.tup a1,(by rfl),_,rfl,iteF ?_⟩
      refine ⟨_,rfl,_,rfl,0,r,t,rfl,rfl,same a1 a2 (fun x hx=>by rw [List.mem_singleton.mp hx];rfl),by omega,_,rfl,iteF ?_⟩
      refine ⟨_,rfl,t,_,rfl,.inr (SqT.of a2),rfl,_,rfl,?_⟩
      exact iteT k
    | some s =>
      have a1:H r=some (.tup [.str (Str.ofString "alike"),.int (s:Int)]):=hr0
      have a2:H t=some (.tup [.str (Str.ofString "alike"),.int (s:Int)]):=ht0
      refine ⟨_,rfl,_,_,_,true,rfl,TyOf.tup a1,(by rfl),_,rfl,iteF ?_⟩
      refine ⟨_,rfl,_,rfl,0,r,t,rfl,rfl,same a1 a2 (fun x hx=>by
        rcases List.mem_cons.mp hx with rfl | hx
        · rfl
        · rw [List.mem_singleton.mp hx];rfl),by omega,_,rfl,iteF ?_⟩
      refine ⟨_,rfl,t,_,rfl,.inr (SqT.of a2),rfl,_,rfl,?_⟩
      refine iteF ?_
      refine ⟨_,rfl,r,_,_,_,rfl,rfl,SqT.of a1,atI_nat (j:=1) rfl,_,_,_,true,rfl,TyOf.int _,(by rfl),_,rfl,iteT ?_⟩
      refine ⟨_,rfl,r,_,_,_,rfl,rfl,SqT.of a1,atI_nat (j:=1) rfl,_,_,_,false,rfl,TyOf.int _,(by rfl),_,rfl,k⟩
end
end Lw
namespace Lw
open PySem L2 PyProof.Rows
theorem seq_keep {K:PySem.W.Frag} {H H':Hp} {a:Addr} {xs:List V} (e:∀ o,H a=some o→H' a=some o) (h:SqL K H a xs):SqL K H' a xs:=by
  rcases h with (h | ⟨o,h⟩) | h
  · exact .inl (.inl (e _ h))
  · exact .inl (.inr ⟨o,e _ h⟩)
  · exact .inr h
theorem lenC_lenT {first:List Nat} {rs:List Rule} (hG:Good first rs):lenC rs first=lenT rs first:=by
  funext n
  have hx:∀ c∈first,c∈ltr rs:=hG.fin
  unfold lenC lenT
  rw [cnt_row hG hx,c0_sum hG (rowN_in hG hx n)]
theorem PairOk.same {H H':Hp} {t d:Addr} {x:List Nat} {us:List Rule} (h:PairOk H t d x us) (s:Same H H'):PairOk H' t d x us:=⟨⟨s _ _ h.t,s _ _ h.d⟩,h.ws,h.xl,h.xi⟩
def DueOf (f g:Nat→Int) (A:Nat):Option Nat→Prop
  | none=>∃ i,A≤i∧i < A+A∧f i≠g i
  | some s=>s≤A∧(∀ i,s≤i→i < A+A→f i=g i)∧(s=0∨f (s - 1)≠g (s - 1))
theorem SetIs.due {f g:Nat→Int} {A:Nat} {H:Hp} {r:Addr} (h:SetIs f g A H r):∃ o,DueT H r o∧DueOf f g A o:=by
  rcases h with ⟨h1,h2⟩ | ⟨s,h1,h2,h3,h4⟩
  · exact ⟨none,h1,h2⟩
  · exact ⟨some s,h2,h1,h3,h4⟩
theorem DueOf.one {f g:Nat→Int} {A:Nat}:∀ {o o':Option Nat},DueOf f g A o→DueOf f g A o'→o=o'
  | none,none,_,_=>rfl
  | none,some s,⟨i,h1,h2,h3⟩,⟨h4,h5,_⟩=>absurd (h5 i (by omega) h2) h3
  | some s,none,⟨h4,h5,_⟩,⟨i,h1,h2,h3⟩=>absurd (h5 i (by omega) h2) h3
  | some s,some s',⟨h1,h2,h3⟩,⟨h4,h5,h6⟩=>by
    have a:¬ s < s':=fun z=>by
      rcases h6 with h6 | h6
      · omega
      · exact h6 (h2 (s' - 1) (by omega) (by omega))
    have b:¬ s' < s:=fun z=>by
      rcases h3 with h3 | h3
      · omega
      · exact h3 (h5 (s - 1) (by omega) (by omega))
    rw [show s=s' by omega]
theorem DueOf.sym {f g:Nat→Int} {A:Nat}:∀ {o:Option Nat},DueOf f g A o→DueOf g f A o
  | none,⟨i,h1,h2,h3⟩=>⟨i,h1,h2,fun z=>h3 z.symm⟩
  | some s,⟨h1,h2,h3⟩=>⟨h1,fun i a b=>(h2 i a b).symm,h3.imp id fun z e=>z e.symm⟩
theorem due_self (f:Nat→Int) (A:Nat):DueOf f f A (some 0):=⟨Nat.zero_le _,fun _ _ _=>rfl,.inl rfl⟩
end Lw
namespace Lw
open PySem L2 PyProof.Rows
theorem BookAt.but {p t:Addr} {H H':Hp} {b:Nat} {first:List Nat} {rs:List Rule} (h:BookAt H t first rs) (bt:But p H H') (hp:PenAt H p b):BookAt H' t first rs:=by
  refine h.mono fun c xs e=>bt c _ e fun z=>?_
  obtain ⟨a,n,f,e1,_⟩:=hp.ex
  rw [z,e1] at e
  cases e
def UnIs (f g:Nat→Int) (n:Nat) (ys:List V):Prop:=(ys=[]∧∀ j,j < n→f j=g j)∨∃ (l:List V) (s:Nat),ys=l++[.int (s:Int)]∧s < n∧f s≠g s∧∀ j,s < j→j < n→f j=g j
theorem seq_cmp {te:TE} {n:Nat} {u:L2.TS} {D:Ends} {σ:L2.St} {H:Hp} (h:te σ H fun v H1=>u D (List.set σ n (some v)) H1):tSeq (fun D σ H=>te σ H fun v H1=>D.nx (List.set σ n (some v)) H1) u D σ H:=h
theorem unlike_read {K:PySem.W.Frag} {s0 s1 s2 s3 s4 s5 s9 s10 s11 s12:Option V} {D1 D2:Addr} {f g:Nat→Int} {A:Nat} {H8:Hp} {Q:VK} (h6:H8 D1=some (.lst ((rg0 f (2 * A)).map V.int))) (h7:H8 D2=some (.lst ((rg0 g (2 * A)).map V.int))) (hA16:A≤16)
    (k:∀ D ys,H8 D=none→ys.length≤A+A→UnIs f g (A+A) ys→Q (.ref D) (upd H8 D (.lst ys))) :
    tComp [none,some 7,some 8] (iRng1 (tCons (tOp (rI CMul fun i j=>V.int (i * j)) (tC (V.int 2)) (tVar 6)) tNil)) (gName 0) (tTest (tOp rNe (tOp (rIxL K) (tVar 1) (tVar 0)) (tOp (rIxL K) (tVar 2) (tVar 0)))) (tVar 0) [s0,s1,s2,s3,s4,s5,some (.int (A:Int)),some (.ref D1),some (.ref D2),s9,s10,s11,s12] H8 Q:=by
  refine ⟨_,rfl,_,_,rfl,rfl,.inl (by omega),_,rfl,by omega,by omega,?_⟩
  have e2A:Int.toNat (2 * (A:Int))=A+A:=by omega
  refine comp_by (Q:=Q) (τ0:=[none,some (.ref D1),some (.ref D2)]) (sure_range (lo:=0) (n:=Int.toNat (2 * (A:Int)))) (by rw [rngV_length];omega)
    (fun i ys τ H9=>H9=H8∧(∃ v,τ=[v,some (.ref D1),some (.ref D2)])∧ys.length≤i∧UnIs (f) (g) i ys)
    ⟨rfl,⟨_,rfl⟩,Nat.le_refl _,.inl ⟨rfl,fun j hj=>by omega⟩⟩ ?_ ?_ ?_
  · rintro i ys τ H9 hi ⟨_,_,hl,_⟩
    exact ⟨trivial,hl⟩
  · rintro i x ys τ H9 hx ⟨rfl,⟨v,rfl⟩,hl,hc⟩
    obtain ⟨hi,rfl⟩:=rng_at hx
    have at_:∀ h:Nat→Int,atI ((rg0 h (2 * A)).map V.int) ((i:Nat):Int)=some (.int (h i)):=fun h=>atI_nat (by unfold rg0;rw [List.getElem?_map,List.getElem?_map,List.getElem?_range (by omega)];rfl)
    refine ⟨_,rfl,_,rfl,D1,_,_,_,rfl,rfl,SqL.of h6,at_ _,_,rfl,_,rfl,D2,_,_,_,rfl,rfl,SqL.of h7,at_ _,rfl,_,rfl,ite2 (fun he=>?_) (fun he=>?_)⟩
    · have hne:f i≠g i:=fun z=>by
        rw [z,decide_eq_true rfl] at he
        cases he
      refine ⟨_,rfl,rfl,⟨_,rfl⟩,by rw [List.length_append];show _+1≤_;omega,.inr ⟨ys,i,rfl,by omega,hne,fun j h3 h4=>by omega⟩⟩
    · have heq:f i=g i:=Classical.byContradiction fun z=>he (by rw [decide_eq_false fun z2=>z (V.int.inj z2)];rfl)
      refine ⟨rfl,⟨_,rfl⟩,by omega,?_⟩
      rcases hc with ⟨rfl,hno⟩ | ⟨l,s,rfl,h1,h2,h3⟩
      · refine .inl ⟨rfl,fun j hj=>?_⟩
        by_cases e:j=i
        · rw [e];exact heq
        · exact hno j (by omega)
      · refine .inr ⟨l,s,rfl,by omega,h2,fun j h4 h5=>?_⟩
        by_cases e:j=i
        · rw [e];exact heq
        · exact h3 j h4 (by omega)
  rintro ys τ H9 D ⟨rfl,_,hl,hc⟩ nD
  rw [rngV_length,e2A] at hl hc
  exact k D ys nD hl hc
section
variable {P:Program} {w:World} {K:PySem.W.Frag} {mg:Str→Option Value} {base:Heap}
def spLaw (K:PySem.W.Frag):Sp:=fun vs H Q _=>∃ (a:Addr) (ns:List Int),vs=[.ref a]∧SqL K H a (ns.map V.int)∧ns.length≤63∧∀ H',Q (.bl true) H'
theorem scLaw:FnScope ["_law_script","_law_one","_law_other","_law_asks","_law_book_here","_law_second","_law_many","_law_mine","_law_theirs","_law_unlike","_law_due","_law_time","_law_age"] ["_law_script"] (defScope sLaw):=⟨rfl,rfl,rfl,by decide +kernel,rfl,by decide +kernel,by decide +kernel⟩
theorem nd_law1:(["_law_age","_law_mine","_law_theirs"]:List Str).Nodup:=by decide +kernel
theorem ok_law {f fPai fPen fBok fLgs fRgt fTak fLng fSed:Addr} {fd fdPai fdPen fdBok fdLgs fdRgt fdTak fdLng fdSed:FuncData} (F:Fun K "law" "law" sLaw f fd)
    (GPai:FnOk P w K mg base CX0 4 fPai fdPai ["_law_pen_here"] spPai)
    (gPai:Gf K mg "_law_pair" fPai fdPai ["_law_pen_here"])
    (GPen:FnOk P w K mg base CX0 1 fPen fdPen ["_law_script","_law_k"] (spPen K))
    (gPen:Gf K mg "_law_pen" fPen fdPen ["_law_script","_law_k"])
    (GBok:FnOk P w K mg base CX0 1 fBok fdBok ["_law_one"] spBok)
    (gBok:Gf K mg "_law_book" fBok fdBok ["_law_one"])
    (GLgs:FnOk P w K mg base CX0 1 fLgs fdLgs ["_law_one","_law_ages"] spLgs)
    (gLgs:Gf K mg "_law_lengths" fLgs fdLgs ["_law_one","_law_ages"])
    (GRgt:FnOk P w K mg base CX0 1 fRgt fdRgt ["_law_told","_law_due"] (spRgt K))
    (gRgt:Gf K mg "_law_right" fRgt fdRgt ["_law_told","_law_due"])
    (GTak:FnOk P w K mg base CX0 1 fTak fdTak ["_law_pen_here","_law_size"] spTak)
    (gTak:Gf K mg "_law_take" fTak fdTak ["_law_pen_here","_law_size"])
    (GLng:FnOk P w K mg base CX0 7 fLng fdLng ["book","age"] spLng)
    (gLng:Gf K mg "length" fLng fdLng ["book","age"])
    (GSed:FnOk P w K mg base CX0 7 fSed fdSed ["one","other"] (spSed K))
    (gSed:Gf K mg "settled" fSed fdSed ["one","other"])
    (hlen:mg "len" = none)
    (hrange:mg "range" = none)
    : FnOk P w K mg base CX0 8 f fd ["_law_script"] (spLaw K):=by
  refine F.ok scLaw (fun vs H Q E h=>?_) (fun cdv A outer s H vs Q E hr h=>?_)
  · obtain ⟨a,ns,rfl,_⟩:=h
    rfl
  · obtain ⟨a,ns,rfl,hS,h63,k⟩:=h
    have hr1:Room 1 _:=hr.mono (by decide)
    have hr4:Room 4 _:=hr.mono (by decide)
    refine ⟨_,(pss_cons (ps_asg (pe_call GPai hr4 rfl gPai.m gPai.k gPai.b .nil pass0 (pa_cons (pe_call GPen hr1 rfl gPen.m gPen.k gPen.b .nil pass0 (pa_cons (pv 0) (pa_cons pe_int pa_nil))) pa_nil)) (pg_tupK K (n:=2) rfl (pgs_cons (pg_name (i:=1) scLaw.nd rfl (Or.inl rfl)) (pgs_cons (pg_name (i:=2) scLaw.nd rfl (Or.inl rfl)) pgs_nil))))
      (pss_cons (ps_set (i:=3) scLaw.nd rfl (Or.inl rfl) (pe_call GPen hr1 rfl gPen.m gPen.k gPen.b .nil pass0 (pa_cons (pv 0) (pa_cons pe_int pa_nil))))
      (pss_cons (ps_par (i:=4) (j:=5) rfl scLaw.nd rfl rfl (by decide) rfl rfl (pa_cons (pe_call GBok hr1 rfl gBok.m gBok.k gBok.b .nil pass0 (pa_cons (pv 1) pa_nil)) (pa_cons (pe_call GBok hr1 rfl gBok.m gBok.k gBok.b .nil pass0 (pa_cons (pv 2) pa_nil)) pa_nil)) (by rfl))
      (pss_cons (ps_set (i:=6) scLaw.nd rfl (Or.inl rfl) (pe_op op_add (pe_callB (call_lenK K) (by rfl) hlen PySem.boot_len (pa_cons (pe_ix (ix_tupK K) (pv 4) pe_int (fun _ _=>rfl)) pa_nil)) (pe_callB (call_lenK K) (by rfl) hlen PySem.boot_len (pa_cons (pe_ix (ix_tupK K) (pv 5) pe_int (fun _ _=>rfl)) pa_nil))))
      (pss_cons (ps_asg (pe_tup (pa_cons (pe_call GLgs hr1 rfl gLgs.m gLgs.k gLgs.b .nil pass0 (pa_cons (pv 1) (pa_cons (pe_op op_mul pe_int (pv 6)) pa_nil))) (pa_cons (pe_call GLgs hr1 rfl gLgs.m gLgs.k gLgs.b .nil pass0 (pa_cons (pv 2) (pa_cons (pe_op op_mul pe_int (pv 6)) pa_nil))) pa_nil))) (pg_tupK K (n:=2) rfl (pgs_cons (pg_name (i:=7) scLaw.nd rfl (Or.inr rfl)) (pgs_cons (pg_name (i:=8) scLaw.nd rfl (Or.inr rfl)) pgs_nil))))
      (pss_cons (ps_setC (i:=9) (N':=["_law_age","_law_mine","_law_theirs"]) (ix:=[none,some 7,some 8]) scLaw.nd rfl rfl rfl rfl (pi_range1 rfl hrange (pa_cons (pe_op op_mul pe_int (pv 6)) pa_nil)) (fun _ _ _ _ _ _=>(pg_name (i:=0) nd_law1 rfl (Or.inl rfl))) (fun _ _ _ _ _ _=>(pts_one (pt_cmpR op_ne (pe_ix (ix_listK K) (pv 1) (pv 0) (fun _ _=>rfl)) (pe_ix (ix_listK K) (pv 2) (pv 0) (fun _ _=>rfl)) (nomark _)))) (fun _ _ _ _ _ _=>(pv 0)))
      (pss_cons (ps_set (i:=10) scLaw.nd rfl (Or.inl rfl) (pe_tup (pa_cons pe_str pa_nil)))
      (pss_cons (ps_if (pt_cmpR (op_eqL0K K hr.units) (pv 9) (pe_lst pa_nil) (nomark _)) (pss_one (ps_set (i:=10) scLaw.nd rfl (Or.inl rfl) (pe_tup (pa_cons pe_str (pa_cons pe_int pa_nil))))) (pss_one (ps_if (pt_cmpR op_lt (pe_ix (ix_listK K) (pv 9) (pe_un un_neg pe_int) (fun _ _=>rfl)) (pv 6) (nomark _)) (pss_one (ps_set (i:=10) scLaw.nd rfl (Or.inl rfl) (pe_tup (pa_cons pe_str (pa_cons (pe_op op_add (pe_ix (ix_listK K) (pv 9) (pe_un un_neg pe_int) (fun _ _=>rfl)) pe_int) pa_nil))))) pss_nil)))
      (pss_cons (ps_for PassesOwn.never rfl (pi_range1 rfl hrange (pa_cons pe_int pa_nil)) (pg_name (i:=11) scLaw.nd rfl (Or.inl rfl)) (pss_cons (ps_if (PW.pt (pw_or (pt_not (pt_val (pe_call GRgt hr1 rfl gRgt.m gRgt.k gRgt.b .nil pass0 (pa_cons (pe_call GSed hr rfl gSed.m gSed.k gSed.b .nil pass0 (pa_cons (pv 4) (pa_cons (pv 5) pa_nil))) (pa_cons (pv 10) pa_nil))))) (pw_or1 (pt_not (pt_val (pe_call GRgt hr1 rfl gRgt.m gRgt.k gRgt.b .nil pass0 (pa_cons (pe_call GSed hr rfl gSed.m gSed.k gSed.b .nil pass0 (pa_cons (pv 5) (pa_cons (pv 4) pa_nil))) (pa_cons (pv 10) pa_nil)))))))) (pss_one (ps_ret pe_bl)) pss_nil)
      (pss_one (ps_if (pt_not (pt_val (pe_call GRgt hr1 rfl gRgt.m gRgt.k gRgt.b .nil pass0 (pa_cons (pe_call GSed hr rfl gSed.m gSed.k gSed.b .nil pass0 (pa_cons (pv 4) (pa_cons (pv 4) pa_nil))) (pa_cons (pe_tup (pa_cons pe_str (pa_cons pe_int pa_nil))) pa_nil))))) (pss_one (ps_ret pe_bl)) pss_nil))))
      (pss_cons (ps_if (pt_cmpR op_eq (pe_ix (ix_tupK K) (pv 10) pe_int (fun _ _=>rfl)) pe_str (nomark _)) (pss_cons (ps_set (i:=12) scLaw.nd rfl (Or.inl rfl) (pe_op op_add (pe_ix (ix_tupK K) (pv 10) pe_int (fun _ _=>rfl)) (pe_call GTak hr1 rfl gTak.m gTak.k gTak.b .nil pass0 (pa_cons (pv 3) (pa_cons (pe_op op_sub pe_int (pe_ix (ix_tupK K) (pv 10) pe_int (fun _ _=>rfl))) pa_nil)))))
      (pss_cons (ps_if (pt_cmpR op_ne (pe_call GLng hr rfl gLng.m gLng.k gLng.b .nil pass0 (pa_cons (pv 4) (pa_cons (pv 12) pa_nil))) (pe_call GLng hr rfl gLng.m gLng.k gLng.b .nil pass0 (pa_cons (pv 5) (pa_cons (pv 12) pa_nil))) (nomark _)) (pss_one (ps_ret pe_bl)) pss_nil)
      (pss_one (ps_ret (pe_or (pe_cmpR op_eq (pe_ix (ix_tupK K) (pv 10) pe_int (fun _ _=>rfl)) pe_int (nomark _)) (pe_one (pe_cmpR op_ne (pe_call GLng hr rfl gLng.m gLng.k gLng.b .nil pass0 (pa_cons (pv 4) (pa_cons (pe_op op_sub (pe_ix (ix_tupK K) (pv 10) pe_int (fun _ _=>rfl)) pe_int) pa_nil))) (pe_call GLng hr rfl gLng.m gLng.k gLng.b .nil pass0 (pa_cons (pv 5) (pa_cons (pe_op op_sub (pe_ix (ix_tupK K) (pv 10) pe_int (fun _ _=>rfl)) pe_int) pa_nil))) (nomark _)))))))) pss_nil)
      (pss_one (ps_ret pe_bl)))))))))))),?_⟩
    refine ⟨_,rfl,a,ns,_,rfl,hS,h63,by omega,by omega,fun p H1 s1 np hP1=>?_⟩
    refine ⟨p,0,rfl,hP1,by omega,fun T t1 d1 t2 d2 x1 x2 us1 us2 H2 nT hB2 hP2 hT hO1 hO2=>?_⟩
    refine ⟨T,_,rfl,SqT.of hT,rfl,_,_,rfl,_,_,rfl,rfl,?_⟩
    have hS2:SqL K H2 a (ns.map V.int):=seq_keep (fun o h=>hB2 _ _ (s1 _ _ h) (ne_of_none h np)) hS
    refine ⟨_,rfl,a,ns,_,rfl,hS2,h63,by omega,by omega,fun p2 H3 s3 np2 hP3=>?_⟩
    refine ⟨_,rfl,t1,d1,x1,us1,rfl,hO1.same s3,fun B1 rs1 H4 s4 hK1 hG1 hL1=>?_⟩
    refine ⟨_,rfl,t2,d2,x2,us2,rfl,hO2.same (s3.trans s4),fun B2 rs2 H5 s5 hK2 hG2 hL2=>?_⟩
    refine ⟨_,_,rfl,?_⟩
    have hK1:=hK1.mono (TupS.same s5)
    obtain ⟨r1,ps1,b1,b2,b3⟩:=hK1.ex
    obtain ⟨r2,ps2,c1,c2,c3⟩:=hK2.ex
    have f1:=hG1.few
    have f2:=hG2.few
    refine ⟨_,rfl,B1,_,_,_,rfl,rfl,SqT.of b1,atI_nat (j:=1) rfl,r1,_,rfl,.inr (SqT.of b2),_,rfl,B2,_,_,_,rfl,rfl,SqT.of c1,atI_nat (j:=1) rfl,r2,_,rfl,.inr (SqT.of c2),_,_,rfl,rfl,?_⟩
    have eA:(((ps1.map V.ref).length:Nat):Int)+(((ps2.map V.ref).length:Nat):Int)=((rs1.length+rs2.length:Nat):Int):=by rw [List.length_map,List.length_map,b3.len,c3.len];omega
    rw [show (fun i j:Int=>V.int (i+j)) (((ps1.map V.ref).length:Nat):Int) (((ps2.map V.ref).length:Nat):Int)=V.int ((rs1.length+rs2.length:Nat):Int) from congrArg V.int eA]
    have s35:=s3.trans (s4.trans s5)
    refine ⟨_,rfl,_,rfl,_,_,rfl,rfl,.inl (by omega),t1,d1,us1,x1,rs1,x1,2 * (rs1.length+rs2.length),by push_cast;rfl,(hO1.same s35).toPairAt,hO1.ws,hG1,hL1,hG1.fin,by have:=hG1.fl;omega,by omega,fun D1 H6 s6 n6 h6=>?_⟩
    refine ⟨_,rfl,_,rfl,_,_,rfl,rfl,.inl (by omega),t2,d2,us2,x2,rs2,x2,2 * (rs1.length+rs2.length),by push_cast;rfl,(hO2.same (s35.trans s6)).toPairAt,hO2.ws,hG2,hL2,hG2.fin,by have:=hG2.fl;omega,by omega,fun D2 H7 s7 n7 h7=>?_⟩
    refine ⟨szl (show 2≤1000 by decide),fun T2 nT2=>⟨T2,_,rfl,SqT.of upd_same,rfl,_,_,rfl,_,_,rfl,rfl,?_⟩⟩
    have sT2:=Same.add (o:=.tup [V.ref D1,V.ref D2]) nT2
    have h6':=sT2 _ _ (s7 _ _ h6)
    have h7':=sT2 _ _ h7
    have s57:=s6.trans (s7.trans sT2)
    have hK1':=hK1.mono (TupS.same s57)
    have hK2':=hK2.mono (TupS.same s57)
    obtain ⟨op3,hop3⟩:=hP3.some
    have hP7:=hP3.other (((s4.trans (s5.trans s57)) _ _ hop3).trans hop3.symm)
    have hop7:=(s4.trans (s5.trans s57)) _ _ hop3
    have ever:=fun s=>@lens_for_ever rs1 rs2 x1 x2 s
    have e1:lenT rs1 x1=lenC rs1 x1:=(lenC_lenT hG1).symm
    have e2:lenT rs2 x2=lenC rs2 x2:=(lenC_lenT hG2).symm
    rw [e1] at h6'
    rw [e2] at h7'
    revert h6' h7' hK1' hK2' hP7 hop7
    generalize upd H7 T2 (.tup [V.ref D1,V.ref D2])=H8
    intro h6' h7' hK1' hK2' hP7 hop7
    clear b1 b2 b3 c1 c2 c3 eA hK1 hK2 hP3 hop3 hP1 hP2 hB2 hS hS2 s57 sT2 h6 h7 e1 e2
    generalize hA:rs1.length+rs2.length=A at *
    have hA16:A≤16:=by omega
    dsimp only [gName]
    refine seq_cmp ?_
    refine unlike_read (A:=A) h6' h7' hA16 fun D ys nD hl hc=>?_
    have sD:=Same.add (o:=.lst ys) nD
    refine ⟨szl (show 1≤1000 by decide),fun R nR=>?_⟩
    have sR:=Same.add (o:=.tup [V.str (Str.ofString "parted")]) nR
    have hD:=sR _ _ (upd_same (H:=H8) (a:=D) (o:=.lst ys))
    have hR:=upd_same (H:=upd H8 D (.lst ys)) (a:=R) (o:=.tup [V.str (Str.ofString "parted")])
    have s810:=sD.trans sR
    revert hD hR s810
    clear sD sR nR
    generalize upd (upd H8 D (.lst ys)) R (.tup [V.str (Str.ofString "parted")])=H10
    intro hD hR s810
    dsimp only [gName]
    refine seq_by (fun σ Hw=>Same H8 Hw∧∃ t o,DueT Hw t o∧DueOf (lenC rs1 x1) (lenC rs2 x2) A o∧σ=[some (.ref a),some (.ref t1),some (.ref t2),some (.ref p2),some (.ref B1),some (.ref B2),some (.int (A:Int)),some (.ref D1),some (.ref D2),some (.ref D),some (.ref t),none,none]) (fun nx hn=>?_) ?_
    · refine ⟨_,rfl,szl (show 0≤1000 by decide),fun E nE=>?_⟩
      have sE:=Same.add (o:=.lst []) nE
      refine ⟨D,E,ys,rfl,rfl,SqL.of (sE _ _ hD),SqL.of upd_same,_,rfl,?_⟩
      rcases hc with ⟨rfl,hall⟩ | ⟨l,s,rfl,h1,h2,h3⟩
      · refine iteT ⟨szl (show 2≤1000 by decide),fun F nF=>hn _ _ ⟨s810.trans (sE.trans (Same.add nF)),F,some 0,upd_same,⟨Nat.zero_le _,fun i _ h=>hall i h,.inl rfl⟩,rfl⟩⟩
      · rw [show (l++[V.int (s:Int)]).isEmpty=false from by cases l <;> rfl]
        refine iteF ?_
        refine ⟨_,rfl,_,rfl,D,_,_,_,rfl,rfl,SqL.of (sE _ _ hD),L2.atI_last _ _,_,rfl,_,_,rfl,rfl,_,rfl,ite2 (fun hc=>?_) (fun hc=>?_)⟩
        · have hlt:s < A:=by have:=of_decide_eq_true hc;omega
          refine ⟨_,rfl,_,rfl,D,_,_,_,rfl,rfl,SqL.of (sE _ _ hD),L2.atI_last _ _,_,_,rfl,rfl,szl (show 2≤1000 by decide),fun F nF=>hn _ _ ⟨s810.trans (sE.trans (Same.add nF)),F,some (s+1),upd_same,⟨by omega,fun i h4 h5=>h3 i (by omega) h5,.inr ?_⟩,rfl⟩⟩
          exact h2
        · have hge:A≤s:=by
            by_cases q:s < A
            · exact absurd (decide_eq_true (show (s:Int) < (A:Int) by omega)) hc
            · omega
          exact hn _ _ ⟨s810.trans sE,R,none,sE _ _ hR,⟨s,hge,h1,h2⟩,rfl⟩
    rintro σ H11 ⟨s11,t,o,hdt,hdo,rfl⟩
    clear hD hR s810 hc hl
    refine ⟨2,rfl,by decide,by decide,?_⟩
    refine for_by (sure_range (lo:=0) (n:=Int.toNat 2)) (fun i σ H'=>Same H11 H'∧∃ v11,σ=[some (.ref a),some (.ref t1),some (.ref t2),some (.ref p2),some (.ref B1),some (.ref B2),some (.int (A:Int)),some (.ref D1),some (.ref D2),some (.ref D),some (.ref t),v11,none])
      ⟨Same.refl _,_,rfl⟩ (fun _ _ _ _ _=>trivial) ?_ ?_
    · rintro i y σ Ha hy ⟨sa,v11,rfl⟩
      have sA:=s11.trans sa
      have kp:∀ {Hz Hy:Hp} {q:Addr} {o:Option Nat},Same Hz Hy→DueT Hz q o→DueT Hy q o:=fun s h=>s _ _ h
      refine ⟨_,rfl,_,rfl,B1,B2,x1,x2,rs1,rs2,rfl,hK1'.mono (TupS.same sA),hG1,hK2'.mono (TupS.same sA),hG2,fun ra Hb sb hsa=>?_⟩
      rw [hA] at hsa
      obtain ⟨oa,ha1,ha2⟩:=hsa.due
      obtain rfl:=ha2.one hdo
      refine ⟨_,rfl,ra,t,_,rfl,ha1,kp (sa.trans sb) hdt,_,rfl,iteF ?_⟩
      refine ⟨_,rfl,_,rfl,B2,B1,x2,x1,rs2,rs1,rfl,hK2'.mono (TupS.same (sA.trans sb)),hG2,hK1'.mono (TupS.same (sA.trans sb)),hG1,fun rb Hc sc hsb=>?_⟩
      rw [Nat.add_comm,hA] at hsb
      obtain ⟨ob,hb1,hb2⟩:=hsb.due
      obtain rfl:=hb2.one hdo.sym
      refine ⟨_,rfl,rb,t,_,rfl,hb1,kp (sa.trans (sb.trans sc)) hdt,_,rfl,iteF ?_⟩
      have sC:=sA.trans (sb.trans sc)
      refine ⟨_,rfl,_,rfl,B1,B1,x1,x1,rs1,rs1,rfl,hK1'.mono (TupS.same sC),hG1,hK1'.mono (TupS.same sC),hG1,fun rc Hd sd hsc=>?_⟩
      obtain ⟨oc,hc1,hc2⟩:=hsc.due
      obtain rfl:=hc2.one (due_self _ _)
      refine ⟨szl (show 2≤1000 by decide),fun F nF=>⟨rc,F,_,rfl,kp (Same.add nF) hc1,upd_same,_,rfl,iteF ?_⟩⟩
      exact ⟨sa.trans (sb.trans (sc.trans (sd.trans (Same.add nF)))),_,rfl⟩
    · rintro σ Ha ⟨sa,v11,rfl⟩
      have hdt:=(sa _ _ hdt:DueT Ha t o)
      have sA:=s11.trans sa
      have hK1a:=hK1'.mono (TupS.same sA)
      have hK2a:=hK2'.mono (TupS.same sA)
      have hPa:=hP7.other ((sA _ _ hop7).trans hop7.symm)
      cases o with
      | none =>
        have hdt:Ha t=some (.tup [.str (Str.ofString "parted")]):=hdt
        refine ⟨_,rfl,t,_,_,_,rfl,rfl,SqT.of hdt,atI_nat (j:=0) rfl,rfl,_,rfl,?_⟩
        exact iteF (k _)
      | some s =>
        have hdt:Ha t=some (.tup [.str (Str.ofString "alike"),.int (s:Int)]):=hdt
        obtain ⟨h1,h2,h3⟩:=hdo
        refine ⟨_,rfl,t,_,_,_,rfl,rfl,SqT.of hdt,atI_nat (j:=0) rfl,rfl,_,rfl,?_⟩
        refine iteT ?_
        have hall:∀ m,lenC rs1 x1 (s+m)=lenC rs2 x2 (s+m):=ever s (fun m hm=>h2 (s+m) (by omega) (by omega))
        have a1:atI [V.str (Str.ofString "alike"),V.int (s:Int)] 1=some (.int (s:Int)):=atI_nat (j:=1) rfl
        refine ⟨_,rfl,t,_,_,_,rfl,rfl,SqT.of hdt,a1,_,rfl,_,rfl,t,_,_,_,rfl,rfl,SqT.of hdt,a1,_,_,rfl,rfl,p2,0,_,rfl,hPa,by omega,by omega,by omega,fun z Hb z0 z1 hPb eb=>?_⟩
        obtain ⟨m,rfl⟩:∃ m:Nat,z=(m:Int):=⟨z.toNat,by omega⟩
        have bb:But p2 Ha Hb:=fun c o h n=>(eb c n).trans h
        have ntp:t≠p2:=fun z=>by
          obtain ⟨a,n,f,e1,_⟩:=hPa.ex
          rw [z,e1] at hdt
          cases hdt
        have hdt:=bb _ _ hdt ntp
        have hK1b:=hK1a.but bb hPa
        have hK2b:=hK2a.but bb hPa
        refine ⟨_,_,rfl,rfl,?_⟩
        refine ⟨_,rfl,_,rfl,B1,x1,rs1,s+m,by push_cast;rfl,hK1b,hG1,by omega,fun Hc sc=>?_⟩
        refine ⟨_,rfl,_,rfl,B2,x2,rs2,s+m,by push_cast;rfl,hK2b.mono (TupS.same sc),hG2,by omega,fun Hd sd=>⟨rfl,_,rfl,?_⟩⟩
        have:=hall m
        unfold lenC at this
        rw [this,decide_eq_true rfl]
        refine iteF ?_
        have hdt:=(sc.trans sd) _ _ hdt
        refine ⟨_,rfl,t,_,_,_,rfl,rfl,SqT.of hdt,a1,rfl,_,rfl,?_⟩
        cases s with
        | zero=>exact iteT (k _)
        | succ s =>
          rw [decide_eq_false (fun z=>by have:=V.int.inj z;omega)]
          refine iteF ?_
          have e1:(((s+1:Nat):Int)) - 1=(s:Int):=by omega
          refine ⟨_,rfl,_,rfl,t,_,_,_,rfl,rfl,SqT.of hdt,a1,_,_,rfl,rfl,B1,x1,rs1,s,by rw [← e1];rfl,hK1b.mono (TupS.same (sc.trans sd)),hG1,by omega,fun He se=>?_⟩
          refine ⟨_,rfl,_,rfl,t,_,_,_,rfl,rfl,SqT.of (se _ _ hdt),a1,_,_,rfl,rfl,B2,x2,rs2,s,by rw [← e1];rfl,hK2b.mono (TupS.same (sc.trans (sd.trans se))),hG2,by omega,fun Hf sf=>⟨rfl,?_⟩⟩
          have hne:lenC rs1 x1 s≠lenC rs2 x2 s:=h3.resolve_left (by omega)
          unfold lenC at hne
          rw [decide_eq_false (fun z=>hne (V.int.inj z))]
          exact k _
end
end Lw
namespace Lw
open PySem L2
theorem gf_mk {K:PySem.W.Frag} {h:Heap} {mg:Str→Option Value} {x:Str} {fd:FuncData} {f:Addr} {ps:List Str} (X:K.In h) (G:h.Ns mainGlobals mg) (a:PySem.W.nsIn K mainGlobals x=some (some (.ref f))) (k:PySem.W.keepIn K (.ref f)=true) (b:Binds K fd ps []):Gf K mg x f fd ps :=
  ⟨PySem.W.mg_of X G a,k,b⟩
theorem all_mk {l:PySem.W.OpenLaw} {w:World} {K:PySem.W.Frag} {h:Heap} {mg:Str→Option Value} {fa f0 f1 f2 f3 f4 f5 f6 f7 f8 f9 f10 f11 f12 f13 f14 f15 f16 f17 f18 f19 f20 f21 f22 f23 f24 f25 f26 f27 f28 f29:Addr} (X:K.In h) (G:h.Ns mainGlobals mg) (hfa:mg "law" = some (.ref fa))
    {od0 an0 od1 an1 od2 an2 od3 an3 od4 an4 od5 an5 od6 an6 od7 an7 od8 an8 od9 an9 od10 an10 od11 an11 od12 an12 od13 an13 od14 an14 od15 an15 od16 an16 od17 an17 od18 an18 od19 an19 od20 an20 od21 an21 od22 an22 od23 an23 od24 an24 od25 an25 od26 an26 od27 an27 od28 an28 od29 an29:Option Addr} {sl0 sl1 sl2 sl3 sl4 sl5 sl6 sl7 sl8 sl9 sl10 sl11 sl12 sl13 sl14 sl15 sl16 sl17 sl18 sl19 sl20 sl21 sl22 sl23 sl24 sl25 sl26 sl27 sl28 sl29:Array (Option Value)} {oc0 kV0 dc0 pm0 cd0 ct0 oc1 kV1 dc1 pm1 cd1 ct1 oc2 kV2 dc2 pm2 cd2 ct2 oc3 kV3 dc3 pm3 cd3 ct3 oc4 kV4 dc4 pm4 cd4 ct4 oc5 kV5 dc5 pm5 cd5 ct5 oc6 kV6 dc6 pm6 cd6 ct6 oc7 kV7 dc7 pm7 cd7 ct7 oc8 kV8 dc8 pm8 cd8 ct8 oc9 kV9 dc9 pm9 cd9 ct9 oc10 kV10 dc10 pm10 cd10 ct10 oc11 kV11 dc11 pm11 cd11 ct11 oc12 kV12 dc12 pm12 cd12 ct12 oc13 kV13 dc13 pm13 cd13 ct13 oc14 kV14 dc14 pm14 cd14 ct14 oc15 kV15 dc15 pm15 cd15 ct15 oc16 kV16 dc16 pm16 cd16 ct16 oc17 kV17 dc17 pm17 cd17 ct17 oc18 kV18 dc18 pm18 cd18 ct18 oc19 kV19 dc19 pm19 cd19 ct19 oc20 kV20 dc20 pm20 cd20 ct20 oc21 kV21 dc21 pm21 cd21 ct21 oc22 kV22 dc22 pm22 cd22 ct22 oc23 kV23 dc23 pm23 cd23 ct23 oc24 kV24 dc24 pm24 cd24 ct24 oc25 kV25 dc25 pm25 cd25 ct25 oc26 kV26 dc26 pm26 cd26 ct26 oc27 kV27 dc27 pm27 cd27 ct27 oc28 kV28 dc28 pm28 cd28 ct28 oc29 kV29 dc29 pm29 cd29 ct29:Value} {tkLAST_AGE:Tok}
    (a0:PySem.W.nsIn K mainGlobals "is_whole" = some (some (.ref f0))) (l0:K.lookup f0=some ⟨oc0,od0,.func (PySem.W.fnOf "is_whole" "is_whole" (defArgs sWho) (defBody sWho) (defScope sWho) .none kV0 dc0 pm0 an0 cd0 ct0),sl0⟩) (c0:PySem.W.codeIn K cd0 "is_whole" = true) (k0:PySem.W.keepIn K (.ref f0)=true)
    (a1:PySem.W.nsIn K mainGlobals "is_within" = some (some (.ref f1))) (l1:K.lookup f1=some ⟨oc1,od1,.func (PySem.W.fnOf "is_within" "is_within" (defArgs sWin) (defBody sWin) (defScope sWin) .none kV1 dc1 pm1 an1 cd1 ct1),sl1⟩) (c1:PySem.W.codeIn K cd1 "is_within" = true) (k1:PySem.W.keepIn K (.ref f1)=true)
    (a2:PySem.W.nsIn K mainGlobals "need_age" = some (some (.ref f2))) (l2:K.lookup f2=some ⟨oc2,od2,.func (PySem.W.fnOf "need_age" "need_age" (defArgs sNag) (defBody sNag) (defScope sNag) .none kV2 dc2 pm2 an2 cd2 ct2),sl2⟩) (c2:PySem.W.codeIn K cd2 "need_age" = true) (k2:PySem.W.keepIn K (.ref f2)=true)
    (a3:PySem.W.nsIn K mainGlobals "ruled_letters" = some (some (.ref f3))) (l3:K.lookup f3=some ⟨oc3,od3,.func (PySem.W.fnOf "ruled_letters" "ruled_letters" (defArgs sRul) (defBody sRul) (defScope sRul) .none kV3 dc3 pm3 an3 cd3 ct3),sl3⟩) (c3:PySem.W.codeIn K cd3 "ruled_letters" = true) (k3:PySem.W.keepIn K (.ref f3)=true)
    (a4:PySem.W.nsIn K mainGlobals "letters" = some (some (.ref f4))) (l4:K.lookup f4=some ⟨oc4,od4,.func (PySem.W.fnOf "letters" "letters" (defArgs sLet) (defBody sLet) (defScope sLet) .none kV4 dc4 pm4 an4 cd4 ct4),sl4⟩) (c4:PySem.W.codeIn K cd4 "letters" = true) (k4:PySem.W.keepIn K (.ref f4)=true)
    (a5:PySem.W.nsIn K mainGlobals "tally" = some (some (.ref f5))) (l5:K.lookup f5=some ⟨oc5,od5,.func (PySem.W.fnOf "tally" "tally" (defArgs sTal) (defBody sTal) (defScope sTal) .none kV5 dc5 pm5 an5 cd5 ct5),sl5⟩) (c5:PySem.W.codeIn K cd5 "tally" = true) (k5:PySem.W.keepIn K (.ref f5)=true)
    (a6:PySem.W.nsIn K mainGlobals "table" = some (some (.ref f6))) (l6:K.lookup f6=some ⟨oc6,od6,.func (PySem.W.fnOf "table" "table" (defArgs sTab) (defBody sTab) (defScope sTab) .none kV6 dc6 pm6 an6 cd6 ct6),sl6⟩) (c6:PySem.W.codeIn K cd6 "table" = true) (k6:PySem.W.keepIn K (.ref f6)=true)
    (a7:PySem.W.nsIn K mainGlobals "column" = some (some (.ref f7))) (l7:K.lookup f7=some ⟨oc7,od7,.func (PySem.W.fnOf "column" "column" (defArgs sCol) (defBody sCol) (defScope sCol) .none kV7 dc7 pm7 an7 cd7 ct7),sl7⟩) (c7:PySem.W.codeIn K cd7 "column" = true) (k7:PySem.W.keepIn K (.ref f7)=true)
    (a8:PySem.W.nsIn K mainGlobals "columns" = some (some (.ref f8))) (l8:K.lookup f8=some ⟨oc8,od8,.func (PySem.W.fnOf "columns" "columns" (defArgs sCls) (defBody sCls) (defScope sCls) .none kV8 dc8 pm8 an8 cd8 ct8),sl8⟩) (c8:PySem.W.codeIn K cd8 "columns" = true) (k8:PySem.W.keepIn K (.ref f8)=true)
    (a9:PySem.W.nsIn K mainGlobals "paired_sum" = some (some (.ref f9))) (l9:K.lookup f9=some ⟨oc9,od9,.func (PySem.W.fnOf "paired_sum" "paired_sum" (defArgs sPrs) (defBody sPrs) (defScope sPrs) .none kV9 dc9 pm9 an9 cd9 ct9),sl9⟩) (c9:PySem.W.codeIn K cd9 "paired_sum" = true) (k9:PySem.W.keepIn K (.ref f9)=true)
    (a10:PySem.W.nsIn K mainGlobals "one_age_on" = some (some (.ref f10))) (l10:K.lookup f10=some ⟨oc10,od10,.func (PySem.W.fnOf "one_age_on" "one_age_on" (defArgs sOao) (defBody sOao) (defScope sOao) .none kV10 dc10 pm10 an10 cd10 ct10),sl10⟩) (c10:PySem.W.codeIn K cd10 "one_age_on" = true) (k10:PySem.W.keepIn K (.ref f10)=true)
    (a11:PySem.W.nsIn K mainGlobals "counts" = some (some (.ref f11))) (l11:K.lookup f11=some ⟨oc11,od11,.func (PySem.W.fnOf "counts" "counts" (defArgs sCou) (defBody sCou) (defScope sCou) .none kV11 dc11 pm11 an11 cd11 ct11),sl11⟩) (c11:PySem.W.codeIn K cd11 "counts" = true) (k11:PySem.W.keepIn K (.ref f11)=true)
    (a12:PySem.W.nsIn K mainGlobals "first_counts" = some (some (.ref f12))) (l12:K.lookup f12=some ⟨oc12,od12,.func (PySem.W.fnOf "first_counts" "first_counts" (defArgs sFcs) (defBody sFcs) (defScope sFcs) .none kV12 dc12 pm12 an12 cd12 ct12),sl12⟩) (c12:PySem.W.codeIn K cd12 "first_counts" = true) (k12:PySem.W.keepIn K (.ref f12)=true)
    (a13:PySem.W.nsIn K mainGlobals "length" = some (some (.ref f13))) (l13:K.lookup f13=some ⟨oc13,od13,.func (PySem.W.fnOf "length" "length" (defArgs sLng) (defBody sLng) (defScope sLng) .none kV13 dc13 pm13 an13 cd13 ct13),sl13⟩) (c13:PySem.W.codeIn K cd13 "length" = true) (k13:PySem.W.keepIn K (.ref f13)=true)
    (a14:PySem.W.nsIn K mainGlobals "first_lengths" = some (some (.ref f14))) (l14:K.lookup f14=some ⟨oc14,od14,.func (PySem.W.fnOf "first_lengths" "first_lengths" (defArgs sFls) (defBody sFls) (defScope sFls) .none kV14 dc14 pm14 an14 cd14 ct14),sl14⟩) (c14:PySem.W.codeIn K cd14 "first_lengths" = true) (k14:PySem.W.keepIn K (.ref f14)=true)
    (a15:PySem.W.nsIn K mainGlobals "settling_ages" = some (some (.ref f15))) (l15:K.lookup f15=some ⟨oc15,od15,.func (PySem.W.fnOf "settling_ages" "settling_ages" (defArgs sSta) (defBody sSta) (defScope sSta) .none kV15 dc15 pm15 an15 cd15 ct15),sl15⟩) (c15:PySem.W.codeIn K cd15 "settling_ages" = true) (k15:PySem.W.keepIn K (.ref f15)=true)
    (a16:PySem.W.nsIn K mainGlobals "settled" = some (some (.ref f16))) (l16:K.lookup f16=some ⟨oc16,od16,.func (PySem.W.fnOf "settled" "settled" (defArgs sSed) (defBody sSed) (defScope sSed) .none kV16 dc16 pm16 an16 cd16 ct16),sl16⟩) (c16:PySem.W.codeIn K cd16 "settled" = true) (k16:PySem.W.keepIn K (.ref f16)=true)
    (a17:PySem.W.nsIn K mainGlobals "_law_pen" = some (some (.ref f17))) (l17:K.lookup f17=some ⟨oc17,od17,.func (PySem.W.fnOf "_law_pen" "_law_pen" (defArgs sPen) (defBody sPen) (defScope sPen) .none kV17 dc17 pm17 an17 cd17 ct17),sl17⟩) (c17:PySem.W.codeIn K cd17 "_law_pen" = true) (k17:PySem.W.keepIn K (.ref f17)=true)
    (a18:PySem.W.nsIn K mainGlobals "_law_take" = some (some (.ref f18))) (l18:K.lookup f18=some ⟨oc18,od18,.func (PySem.W.fnOf "_law_take" "_law_take" (defArgs sTak) (defBody sTak) (defScope sTak) .none kV18 dc18 pm18 an18 cd18 ct18),sl18⟩) (c18:PySem.W.codeIn K cd18 "_law_take" = true) (k18:PySem.W.keepIn K (.ref f18)=true)
    (a19:PySem.W.nsIn K mainGlobals "_law_mixed" = some (some (.ref f19))) (l19:K.lookup f19=some ⟨oc19,od19,.func (PySem.W.fnOf "_law_mixed" "_law_mixed" (defArgs sMix) (defBody sMix) (defScope sMix) .none kV19 dc19 pm19 an19 cd19 ct19),sl19⟩) (c19:PySem.W.codeIn K cd19 "_law_mixed" = true) (k19:PySem.W.keepIn K (.ref f19)=true)
    (a20:PySem.W.nsIn K mainGlobals "_law_text" = some (some (.ref f20))) (l20:K.lookup f20=some ⟨oc20,od20,.func (PySem.W.fnOf "_law_text" "_law_text" (defArgs sTxt) (defBody sTxt) (defScope sTxt) .none kV20 dc20 pm20 an20 cd20 ct20),sl20⟩) (c20:PySem.W.codeIn K cd20 "_law_text" = true) (k20:PySem.W.keepIn K (.ref f20)=true)
    (a21:PySem.W.nsIn K mainGlobals "_law_free" = some (some (.ref f21))) (l21:K.lookup f21=some ⟨oc21,od21,.func (PySem.W.fnOf "_law_free" "_law_free" (defArgs sFre) (defBody sFre) (defScope sFre) .none kV21 dc21 pm21 an21 cd21 ct21),sl21⟩) (c21:PySem.W.codeIn K cd21 "_law_free" = true) (k21:PySem.W.keepIn K (.ref f21)=true)
    (a22:PySem.W.nsIn K mainGlobals "_law_named" = some (some (.ref f22))) (l22:K.lookup f22=some ⟨oc22,od22,.func (PySem.W.fnOf "_law_named" "_law_named" (defArgs sNam) (defBody sNam) (defScope sNam) .none kV22 dc22 pm22 an22 cd22 ct22),sl22⟩) (c22:PySem.W.codeIn K cd22 "_law_named" = true) (k22:PySem.W.keepIn K (.ref f22)=true)
    (a23:PySem.W.nsIn K mainGlobals "_law_tailed" = some (some (.ref f23))) (l23:K.lookup f23=some ⟨oc23,od23,.func (PySem.W.fnOf "_law_tailed" "_law_tailed" (defArgs sTai) (defBody sTai) (defScope sTai) .none kV23 dc23 pm23 an23 cd23 ct23),sl23⟩) (c23:PySem.W.codeIn K cd23 "_law_tailed" = true) (k23:PySem.W.keepIn K (.ref f23)=true)
    (a24:PySem.W.nsIn K mainGlobals "_law_swelling" = some (some (.ref f24))) (l24:K.lookup f24=some ⟨oc24,od24,.func (PySem.W.fnOf "_law_swelling" "_law_swelling" (defArgs sSwl) (defBody sSwl) (defScope sSwl) .none kV24 dc24 pm24 an24 cd24 ct24),sl24⟩) (c24:PySem.W.codeIn K cd24 "_law_swelling" = true) (k24:PySem.W.keepIn K (.ref f24)=true)
    (a25:PySem.W.nsIn K mainGlobals "_law_pair" = some (some (.ref f25))) (l25:K.lookup f25=some ⟨oc25,od25,.func (PySem.W.fnOf "_law_pair" "_law_pair" (defArgs sPai) (defBody sPai) (defScope sPai) .none kV25 dc25 pm25 an25 cd25 ct25),sl25⟩) (c25:PySem.W.codeIn K cd25 "_law_pair" = true) (k25:PySem.W.keepIn K (.ref f25)=true)
    (a26:PySem.W.nsIn K mainGlobals "_law_lengths" = some (some (.ref f26))) (l26:K.lookup f26=some ⟨oc26,od26,.func (PySem.W.fnOf "_law_lengths" "_law_lengths" (defArgs sLgs) (defBody sLgs) (defScope sLgs) .none kV26 dc26 pm26 an26 cd26 ct26),sl26⟩) (c26:PySem.W.codeIn K cd26 "_law_lengths" = true) (k26:PySem.W.keepIn K (.ref f26)=true)
    (a27:PySem.W.nsIn K mainGlobals "_law_right" = some (some (.ref f27))) (l27:K.lookup f27=some ⟨oc27,od27,.func (PySem.W.fnOf "_law_right" "_law_right" (defArgs sRgt) (defBody sRgt) (defScope sRgt) .none kV27 dc27 pm27 an27 cd27 ct27),sl27⟩) (c27:PySem.W.codeIn K cd27 "_law_right" = true) (k27:PySem.W.keepIn K (.ref f27)=true)
    (a28:PySem.W.nsIn K mainGlobals "_law_book" = some (some (.ref f28))) (l28:K.lookup f28=some ⟨oc28,od28,.func (PySem.W.fnOf "_law_book" "_law_book" (defArgs sBok) (defBody sBok) (defScope sBok) .none kV28 dc28 pm28 an28 cd28 ct28),sl28⟩) (c28:PySem.W.codeIn K cd28 "_law_book" = true) (k28:PySem.W.keepIn K (.ref f28)=true)
    (a29:PySem.W.nsIn K mainGlobals "law" = some (some (.ref f29))) (l29:K.lookup f29=some ⟨oc29,od29,.func (PySem.W.fnOf "law" "law" (defArgs sLaw) (defBody sLaw) (defScope sLaw) .none kV29 dc29 pm29 an29 cd29 ct29),sl29⟩) (c29:PySem.W.codeIn K cd29 "law" = true) (k29:PySem.W.keepIn K (.ref f29)=true)
    (z0:PySem.W.nsIn K mainGlobals "int" = some none) (z1:PySem.W.nsIn K mainGlobals "isinstance" = some none) (z2:PySem.W.nsIn K mainGlobals "bool" = some none) (z3:PySem.W.nsIn K mainGlobals "len" = some none) (z4:PySem.W.nsIn K mainGlobals "range" = some none) (z5:PySem.W.nsIn K mainGlobals "zip" = some none) (z6:PySem.W.nsIn K mainGlobals "sum" = some none) (z7:PySem.W.nsIn K mainGlobals "list" = some none) (z8:PySem.W.nsIn K mainGlobals "enumerate" = some none) (z9:PySem.W.nsIn K mainGlobals "sorted" = some none) (z10:PySem.W.nsIn K mainGlobals "dict" = some none) (z11:PySem.W.nsIn K mainGlobals "tuple" = some none)
    (y0:PySem.W.nsIn K mainGlobals "LAST_AGE" = some (some (.int 300 tkLAST_AGE)))
    : ∃ fd:FuncData,(∀ (s:Shared) (v:Value),BindsTo s fd ⟨[v],[]⟩ [("_law_script",v)])∧∀ base:Heap,K.In base→base.Ns mainGlobals mg→FnOk l.prog w K mg base CX0 8 fa fd ["_law_script"] (spLaw K):=by
  have e:=hfa.symm.trans (PySem.W.mg_of X G a29)
  cases e
  have F0:=fun_mk (st:=sWho) l0 c0 k0
  have F1:=fun_mk (st:=sWin) l1 c1 k1
  have F2:=fun_mk (st:=sNag) l2 c2 k2
  have F3:=fun_mk (st:=sRul) l3 c3 k3
  have F4:=fun_mk (st:=sLet) l4 c4 k4
  have F5:=fun_mk (st:=sTal) l5 c5 k5
  have F6:=fun_mk (st:=sTab) l6 c6 k6
  have F7:=fun_mk (st:=sCol) l7 c7 k7
  have F8:=fun_mk (st:=sCls) l8 c8 k8
  have F9:=fun_mk (st:=sPrs) l9 c9 k9
  have F10:=fun_mk (st:=sOao) l10 c10 k10
  have F11:=fun_mk (st:=sCou) l11 c11 k11
  have F12:=fun_mk (st:=sFcs) l12 c12 k12
  have F13:=fun_mk (st:=sLng) l13 c13 k13
  have F14:=fun_mk (st:=sFls) l14 c14 k14
  have F15:=fun_mk (st:=sSta) l15 c15 k15
  have F16:=fun_mk (st:=sSed) l16 c16 k16
  have F17:=fun_mk (st:=sPen) l17 c17 k17
  have F18:=fun_mk (st:=sTak) l18 c18 k18
  have F19:=fun_mk (st:=sMix) l19 c19 k19
  have F20:=fun_mk (st:=sTxt) l20 c20 k20
  have F21:=fun_mk (st:=sFre) l21 c21 k21
  have F22:=fun_mk (st:=sNam) l22 c22 k22
  have F23:=fun_mk (st:=sTai) l23 c23 k23
  have F24:=fun_mk (st:=sSwl) l24 c24 k24
  have F25:=fun_mk (st:=sPai) l25 c25 k25
  have F26:=fun_mk (st:=sLgs) l26 c26 k26
  have F27:=fun_mk (st:=sRgt) l27 c27 k27
  have F28:=fun_mk (st:=sBok) l28 c28 k28
  have F29:=fun_mk (st:=sLaw) l29 c29 k29
  have b0:=F0.binds (ps:=["thing"]) fun _ _ _ _ _ _ us hl=>match us,hl with | [_],_=>rfl
  have gWho:=gf_mk X G a0 k0 b0
  have b1:=F1.binds (ps:=["thing","least","most"]) fun _ _ _ _ _ _ us hl=>match us,hl with | [_,_,_],_=>rfl
  have gWin:=gf_mk X G a1 k1 b1
  have b2:=F2.binds (ps:=["age"]) fun _ _ _ _ _ _ us hl=>match us,hl with | [_],_=>rfl
  have gNag:=gf_mk X G a2 k2 b2
  have b3:=F3.binds (ps:=["rules"]) fun _ _ _ _ _ _ us hl=>match us,hl with | [_],_=>rfl
  have gRul:=gf_mk X G a3 k3 b3
  have b4:=F4.binds (ps:=["book"]) fun _ _ _ _ _ _ us hl=>match us,hl with | [_],_=>rfl
  have gLet:=gf_mk X G a4 k4 b4
  have b5:=F5.binds (ps:=["book","text"]) fun _ _ _ _ _ _ us hl=>match us,hl with | [_,_],_=>rfl
  have gTal:=gf_mk X G a5 k5 b5
  have b6:=F6.binds (ps:=["book"]) fun _ _ _ _ _ _ us hl=>match us,hl with | [_],_=>rfl
  have gTab:=gf_mk X G a6 k6 b6
  have b7:=F7.binds (ps:=["lines","place"]) fun _ _ _ _ _ _ us hl=>match us,hl with | [_,_],_=>rfl
  have gCol:=gf_mk X G a7 k7 b7
  have b8:=F8.binds (ps:=["lines"]) fun _ _ _ _ _ _ us hl=>match us,hl with | [_],_=>rfl
  have gCls:=gf_mk X G a8 k8 b8
  have b9:=F9.binds (ps:=["ones","others"]) fun _ _ _ _ _ _ us hl=>match us,hl with | [_,_],_=>rfl
  have gPrs:=gf_mk X G a9 k9 b9
  have b10:=F10.binds (ps:=["line","sources"]) fun _ _ _ _ _ _ us hl=>match us,hl with | [_,_],_=>rfl
  have gOao:=gf_mk X G a10 k10 b10
  have b11:=F11.binds (ps:=["book","age"]) fun _ _ _ _ _ _ us hl=>match us,hl with | [_,_],_=>rfl
  have gCou:=gf_mk X G a11 k11 b11
  have b12:=F12.binds (ps:=["book","many"]) fun _ _ _ _ _ _ us hl=>match us,hl with | [_,_],_=>rfl
  have gFcs:=gf_mk X G a12 k12 b12
  have b13:=F13.binds (ps:=["book","age"]) fun _ _ _ _ _ _ us hl=>match us,hl with | [_,_],_=>rfl
  have gLng:=gf_mk X G a13 k13 b13
  have b14:=F14.binds (ps:=["book","many"]) fun _ _ _ _ _ _ us hl=>match us,hl with | [_,_],_=>rfl
  have gFls:=gf_mk X G a14 k14 b14
  have b15:=F15.binds (ps:=["one","other"]) fun _ _ _ _ _ _ us hl=>match us,hl with | [_,_],_=>rfl
  have gSta:=gf_mk X G a15 k15 b15
  have b16:=F16.binds (ps:=["one","other"]) fun _ _ _ _ _ _ us hl=>match us,hl with | [_,_],_=>rfl
  have gSed:=gf_mk X G a16 k16 b16
  have b17:=F17.binds (ps:=["_law_script","_law_k"]) fun _ _ _ _ _ _ us hl=>match us,hl with | [_,_],_=>rfl
  have gPen:=gf_mk X G a17 k17 b17
  have b18:=F18.binds (ps:=["_law_pen_here","_law_size"]) fun _ _ _ _ _ _ us hl=>match us,hl with | [_,_],_=>rfl
  have gTak:=gf_mk X G a18 k18 b18
  have b19:=F19.binds (ps:=["_law_pen_here","_law_things"]) fun _ _ _ _ _ _ us hl=>match us,hl with | [_,_],_=>rfl
  have gMix:=gf_mk X G a19 k19 b19
  have b20:=F20.binds (ps:=["_law_pen_here","_law_signs","_law_many"]) fun _ _ _ _ _ _ us hl=>match us,hl with | [_,_,_],_=>rfl
  have gTxt:=gf_mk X G a20 k20 b20
  have b21:=F21.binds (ps:=["_law_pen_here","_law_signs"]) fun _ _ _ _ _ _ us hl=>match us,hl with | [_,_],_=>rfl
  have gFre:=gf_mk X G a21 k21 b21
  have b22:=F22.binds (ps:=["_law_pen_here","_law_one","_law_names"]) fun _ _ _ _ _ _ us hl=>match us,hl with | [_,_,_],_=>rfl
  have gNam:=gf_mk X G a22 k22 b22
  have b23:=F23.binds (ps:=["_law_pen_here","_law_one","_law_signs"]) fun _ _ _ _ _ _ us hl=>match us,hl with | [_,_,_],_=>rfl
  have gTai:=gf_mk X G a23 k23 b23
  have b24:=F24.binds (ps:=["_law_pen_here","_law_signs"]) fun _ _ _ _ _ _ us hl=>match us,hl with | [_,_],_=>rfl
  have gSwl:=gf_mk X G a24 k24 b24
  have b25:=F25.binds (ps:=["_law_pen_here"]) fun _ _ _ _ _ _ us hl=>match us,hl with | [_],_=>rfl
  have gPai:=gf_mk X G a25 k25 b25
  have b26:=F26.binds (ps:=["_law_one","_law_ages"]) fun _ _ _ _ _ _ us hl=>match us,hl with | [_,_],_=>rfl
  have gLgs:=gf_mk X G a26 k26 b26
  have b27:=F27.binds (ps:=["_law_told","_law_due"]) fun _ _ _ _ _ _ us hl=>match us,hl with | [_,_],_=>rfl
  have gRgt:=gf_mk X G a27 k27 b27
  have b28:=F28.binds (ps:=["_law_one"]) fun _ _ _ _ _ _ us hl=>match us,hl with | [_],_=>rfl
  have gBok:=gf_mk X G a28 k28 b28
  have m_int:=PySem.W.mg_none_of X G z0
  have m_isinstance:=PySem.W.mg_none_of X G z1
  have m_bool:=PySem.W.mg_none_of X G z2
  have m_len:=PySem.W.mg_none_of X G z3
  have m_range:=PySem.W.mg_none_of X G z4
  have m_zip:=PySem.W.mg_none_of X G z5
  have m_sum:=PySem.W.mg_none_of X G z6
  have m_list:=PySem.W.mg_none_of X G z7
  have m_enumerate:=PySem.W.mg_none_of X G z8
  have m_sorted:=PySem.W.mg_none_of X G z9
  have m_dict:=PySem.W.mg_none_of X G z10
  have m_tuple:=PySem.W.mg_none_of X G z11
  have m_LAST_AGE:=PySem.W.mg_of X G y0
  refine ⟨PySem.W.fnOf "law" "law" (defArgs sLaw) (defBody sLaw) (defScope sLaw) .none kV29 dc29 pm29 an29 cd29 ct29,fun s v=>.of_eq rfl,fun base KB GB=>?_⟩
  have oTak:=ok_tak (P:=l.prog) (w:=w) (mg:=mg) (base:=base) F18
  have oMix:=ok_mix (P:=l.prog) (w:=w) (mg:=mg) (base:=base) F19 oTak gTak m_len m_range m_list
  have oTxt:=ok_txt (P:=l.prog) (w:=w) (mg:=mg) (base:=base) F20 oTak gTak m_len m_int m_range
  have oFre:=ok_fre (P:=l.prog) (w:=w) (mg:=mg) (base:=base) F21 oTak gTak oTxt gTxt m_enumerate
  have oTai:=ok_tai (P:=l.prog) (w:=w) (mg:=mg) (base:=base) F23 oTak gTak m_len m_enumerate m_dict
  have oNam:=ok_nam (P:=l.prog) (w:=w) (mg:=mg) (base:=base) F22 oMix gMix m_zip m_list m_sorted m_dict
  have oSwl:=ok_swl (P:=l.prog) (w:=w) (mg:=mg) (base:=base) F24 oTak gTak m_range
  have oPai:=ok_pai (P:=l.prog) (w:=w) (mg:=mg) (base:=base) F25 oTak gTak oMix gMix oFre gFre oTai gTai oNam gNam oTxt gTxt oSwl gSwl m_len m_list m_sorted
  have oPen:=ok_pen (P:=l.prog) (w:=w) (mg:=mg) (base:=base) F17 m_len
  have oBok:=ok_bok (P:=l.prog) (w:=w) (mg:=mg) (base:=base) F28 m_list m_tuple m_sorted
  have oLgs:=ok_lgs (P:=l.prog) (w:=w) (mg:=mg) (base:=base) F26 m_range m_sum
  have oRgt:=ok_rgt (P:=l.prog) (w:=w) (mg:=mg) (base:=base) F27 m_len m_int m_tuple m_isinstance m_bool
  have oWho:=ok_who (P:=l.prog) (w:=w) (mg:=mg) (base:=base) F0 m_int m_isinstance m_bool
  have oWin:=ok_win (P:=l.prog) (w:=w) (mg:=mg) (base:=base) F1 oWho gWho
  have oNag:=ok_nag (P:=l.prog) (w:=w) (mg:=mg) (base:=base) F2 oWin gWin m_LAST_AGE
  have oCol:=ok_col (P:=l.prog) (w:=w) (mg:=mg) (base:=base) F7
  have oCls:=ok_cls (P:=l.prog) (w:=w) (mg:=mg) (base:=base) F8 oCol gCol m_len m_range
  have oRul:=ok_rul (P:=l.prog) (w:=w) (mg:=mg) (base:=base) F3
  have oLet:=ok_let (P:=l.prog) (w:=w) (mg:=mg) (base:=base) F4 oRul gRul
  have oTal:=ok_tal (P:=l.prog) (w:=w) (mg:=mg) (base:=base) F5 oLet gLet
  have oTab:=ok_tab (P:=l.prog) (w:=w) (mg:=mg) (base:=base) F6 oTal gTal
  have oPrs:=ok_prs (P:=l.prog) (w:=w) (mg:=mg) (base:=base) F9 m_zip m_sum
  have oOao:=ok_oao (P:=l.prog) (w:=w) (mg:=mg) (base:=base) F10 oPrs gPrs
  have oFcs:=ok_fcs (P:=l.prog) (w:=w) (mg:=mg) (base:=base) F12 oCls gCls oTab gTab oTal gTal oOao gOao m_len
  have oCou:=ok_cou (P:=l.prog) (w:=w) (mg:=mg) (base:=base) F11 oNag gNag oFcs gFcs
  have oLng:=ok_lng (P:=l.prog) (w:=w) (mg:=mg) (base:=base) F13 oCou gCou m_sum
  have oSta:=ok_sta (P:=l.prog) (w:=w) (mg:=mg) (base:=base) F15 m_len
  have oFls:=ok_fls (P:=l.prog) (w:=w) (mg:=mg) (base:=base) F14 oFcs gFcs m_sum
  have oSed:=ok_sed (P:=l.prog) (w:=w) (mg:=mg) (base:=base) F16 oSta gSta oFls gFls
  exact ok_law F29 oPai gPai oPen gPen oBok gBok oLgs gLgs oRgt gRgt oTak gTak oLng gLng oSed gSed m_len m_range
theorem walk {l:PySem.W.OpenLaw} {q:Program} {loose:List Str} {XP:(Str→Option Value)→Heap→Prop} {YP:World→Heap→Prop} {d:DefRec} {K:Params→PySem.W.Frag} (hn:l.most=some 63) (hdf:d.params.defaults=[])
    (hY:∀ (w:World) (h:Heap),YP w h→(K w.params).In h)
    (F : ∀ (w:World) (mg:Str→Option Value) (fa:Addr) (h:Heap),(K w.params).In h→h.Ns mainGlobals mg→mg d.name=some (.ref fa) →
      ∃ fd:FuncData,(∀ (s:Shared) (u:Value),BindsTo s fd ⟨[u],[]⟩ [("_law_script",u)])∧∀ base:Heap,(K w.params).In base→base.Ns mainGlobals mg→FnOk l.prog w (K w.params) mg base CX0 8 fa fd ["_law_script"] (spLaw (K w.params))) :
    PySem.W.WalkO q loose XP YP l.row.toRowW d [] (fun f vs=>PySem.call f vs) :=
  L2.walk_of (n:=63) (k:=8) (x:="_law_script") (CX:=fun _=>CX0) (sp:=fun w=>spLaw (K w.params)) hn (by decide) hdf ⟨rfl,by decide,by decide⟩ hY F (fun _ _ a ns hl _ hS=>⟨a,ns,rfl,hS,hl,fun _=>rfl⟩) fun _ _ _ _ _ z=>z
end Lw
open PySem PySem.W PyProof.Rows
-- these names are taken so that no second copy of the great trees is laid (it would make the compiled file too large)
def PySem.W.Fast.tw4154122734210796369:Unit:=()
def PySem.W.Fast.tw3302160148052416840:Unit:=()
def PySem.W.Fast.tw11273995274515427521:Unit:=()
def PySem.W.Fast.tw5657143936144517740:Unit:=()
def PySem.W.Fast.tw15222188841935394842:Unit:=()
def PySem.W.Fast.tw10184577604564216379:Unit:=()
def PySem.W.Fast.tw8924014180396684708:Unit:=()
def PySem.W.Fast.tw6163858636325441409:Unit:=()
def PySem.W.Fast.tw12365589375539387517:Unit:=()
def PySem.W.Fast.tw2363792626940317103:Unit:=()
def PySem.W.Fast.tw17483961544939354967:Unit:=()
def PySem.W.Fast.tw15029764219308709702:Unit:=()
def PySem.W.Fast.tw7912622988815960124:Unit:=()
def PySem.W.Fast.tw12702252463021040016:Unit:=()
set_option maxRecDepth 100000 in
set_option maxHeartbeats 0 in
theorem PySem.Challenge.cw_linegrow_k46_settled_lengths_holds : PySem.Challenge.rw_linegrow_k46_settled_lengths.Holds := by
  w_on;o_law;k_head;(case hw=>w_witness2)
  k_fill
  refine Lw.walk (l:=PySem.Challenge.rw_linegrow_k46_settled_lengths) rfl rfl (fun w h Y=>PySem.W.kIn_of Y) ?F
  case F =>
    intro w mg fa h KX G hmg
    refine' Lw.all_mk KX G hmg ?a0 ?l0 ?c0 ?k0 ?a1 ?l1 ?c1 ?k1 ?a2 ?l2 ?c2 ?k2 ?a3 ?l3 ?c3 ?k3 ?a4 ?l4 ?c4 ?k4 ?a5 ?l5 ?c5 ?k5 ?a6 ?l6 ?c6 ?k6 ?a7 ?l7 ?c7 ?k7 ?a8 ?l8 ?c8 ?k8 ?a9 ?l9 ?c9 ?k9 ?a10 ?l10 ?c10 ?k10 ?a11 ?l11 ?c11 ?k11 ?a12 ?l12 ?c12 ?k12 ?a13 ?l13 ?c13 ?k13 ?a14 ?l14 ?c14 ?k14 ?a15 ?l15 ?c15 ?k15 ?a16 ?l16 ?c16 ?k16 ?a17 ?l17 ?c17 ?k17 ?a18 ?l18 ?c18 ?k18 ?a19 ?l19 ?c19 ?k19 ?a20 ?l20 ?c20 ?k20 ?a21 ?l21 ?c21 ?k21 ?a22 ?l22 ?c22 ?k22 ?a23 ?l23 ?c23 ?k23 ?a24 ?l24 ?c24 ?k24 ?a25 ?l25 ?c25 ?k25 ?a26 ?l26 ?c26 ?k26 ?a27 ?l27 ?c27 ?k27 ?a28 ?l28 ?c28 ?k28 ?a29 ?l29 ?c29 ?k29 ?z0 ?z1 ?z2 ?z3 ?z4 ?z5 ?z6 ?z7 ?z8 ?z9 ?z10 ?z11 ?y0
    (case a0=>k_is)
    (case l0=>k_is)
    (case c0=>k_is)
    (case k0=>k_is)
    (case a1=>k_is)
    (case l1=>k_is)
    (case c1=>k_is)
    (case k1=>k_is)
    (case a2=>k_is)
    (case l2=>k_is)
    (case c2=>k_is)
    (case k2=>k_is)
    (case a3=>k_is)
    (case l3=>k_is)
    (case c3=>k_is)
    (case k3=>k_is)
    (case a4=>k_is)
    (case l4=>k_is)
    (case c4=>k_is)
    (case k4=>k_is)
    (case a5=>k_is)
    (case l5=>k_is)
    (case c5=>k_is)
    (case k5=>k_is)
    (case a6=>k_is)
    (case l6=>k_is)
    (case c6=>k_is)
    (case k6=>k_is)
    (case a7=>k_is)
    (case l7=>k_is)
    (case c7=>k_is)
    (case k7=>k_is)
    (case a8=>k_is)
    (case l8=>k_is)
    (case c8=>k_is)
    (case k8=>k_is)
    (case a9=>k_is)
    (case l9=>k_is)
    (case c9=>k_is)
    (case k9=>k_is)
    (case a10=>k_is)
    (case l10=>k_is)
    (case c10=>k_is)
    (case k10=>k_is)
    (case a11=>k_is)
    (case l11=>k_is)
    (case c11=>k_is)
    (case k11=>k_is)
    (case a12=>k_is)
    (case l12=>k_is)
    (case c12=>k_is)
    (case k12=>k_is)
    (case a13=>k_is)
    (case l13=>k_is)
    (case c13=>k_is)
    (case k13=>k_is)
    (case a14=>k_is)
    (case l14=>k_is)
    (case c14=>k_is)
    (case k14=>k_is)
    (case a15=>k_is)
    (case l15=>k_is)
    (case c15=>k_is)
    (case k15=>k_is)
    (case a16=>k_is)
    (case l16=>k_is)
    (case c16=>k_is)
    (case k16=>k_is)
    (case a17=>k_is)
    (case l17=>k_is)
    (case c17=>k_is)
    (case k17=>k_is)
    (case a18=>k_is)
    (case l18=>k_is)
    (case c18=>k_is)
    (case k18=>k_is)
    (case a19=>k_is)
    (case l19=>k_is)
    (case c19=>k_is)
    (case k19=>k_is)
    (case a20=>k_is)
    (case l20=>k_is)
    (case c20=>k_is)
    (case k20=>k_is)
    (case a21=>k_is)
    (case l21=>k_is)
    (case c21=>k_is)
    (case k21=>k_is)
    (case a22=>k_is)
    (case l22=>k_is)
    (case c22=>k_is)
    (case k22=>k_is)
    (case a23=>k_is)
    (case l23=>k_is)
    (case c23=>k_is)
    (case k23=>k_is)
    (case a24=>k_is)
    (case l24=>k_is)
    (case c24=>k_is)
    (case k24=>k_is)
    (case a25=>k_is)
    (case l25=>k_is)
    (case c25=>k_is)
    (case k25=>k_is)
    (case a26=>k_is)
    (case l26=>k_is)
    (case c26=>k_is)
    (case k26=>k_is)
    (case a27=>k_is)
    (case l27=>k_is)
    (case c27=>k_is)
    (case k27=>k_is)
    (case a28=>k_is)
    (case l28=>k_is)
    (case c28=>k_is)
    (case k28=>k_is)
    (case a29=>k_is)
    (case l29=>k_is)
    (case c29=>k_is)
    (case k29=>k_is)
    (case z0=>k_is)
    (case z1=>k_is)
    (case z2=>k_is)
    (case z3=>k_is)
    (case z4=>k_is)
    (case z5=>k_is)
    (case z6=>k_is)
    (case z7=>k_is)
    (case z8=>k_is)
    (case z9=>k_is)
    (case z10=>k_is)
    (case z11=>k_is)
    (case y0=>k_is)
