import PyProof.Rows.All
import Wide.All
import OpenK.AllK
import Wide.FinOn
import Lean
import PyProof.EqAt
import PyProof.EqKinds
import PyProof.TupleCall
import PyProof.NeKinds
import KE.KDictOf
import PyProof.AttrMissSeq
import PyProof.DictList
import PyProof.WalksMore
import KE.KDictList
import PyProof.FactsAll.dict_4
import PyProof.ZipIter
import PyProof.ListRange
import OpenK.KOwn
import PyProof.Rows.CatchOwn
import KE.KIsNot
import KE.KRevIter
import PyProof.DictWalks
import PyProof.ConsumeWalk
import PyProof.TupleOfStr
import PyProof.StrOps2
import PyProof.SliceStr2
import PyProof.StrBlockI
import PyProof.Rows.StrClose5
import PyProof.Rows.CatFin
import KE.KIsAll
import KE.KSortTup
import PyProof.MeetsStr
import PyProof.MeetsStr2
import PyProof.StrLawsIn
import PyProof.Rows.StrLawsPart
import PyProof.Rows.StrRev
import PyProof.Draws
import PyProof.EnumMake
import PyProof.Rows.CountFlat
import PyProof.CallStr
import PyProof.FitsInt
import PyProof.FactsAll.zip_1
import KE.KDictSum
import PyProof.WalkInts
import PyProof.Rows.CallKwBuiltin
import KE.KMinBuiltin
import PyProof.CollectStr
import PyProof.ListStr
import PySem.Challenge.RW_linegrow_k49_whole_three_books
set_option Elab.async false
set_option linter.all false
set_option maxRecDepth 100000
set_option maxHeartbeats 4000000
namespace L2
open PySem PySem.Spec PyProof.Rows
abbrev Key:=Sum Int Str
def keyIs:Key→Value→Bool
  | .inl k,v=>Value.isInt k v
  | .inr x,v=>Value.isStrOf x v
def keyH (w:World):Key→Int
  | .inl k=>hashInt k
  | .inr x=>hashStr w x
theorem keyIs_shape:∀ {k:Key} {v:Value},keyIs k v=true→(∃ i t,k=Sum.inl i∧v=Value.int i t)∨(∃ x t,k=Sum.inr x∧v=Value.str x t)
  | .inl i,v,h=>by
    obtain ⟨t,e⟩:=Value.isInt_shape (k:=i) (v:=v) h
    exact .inl ⟨i,t,rfl,e⟩
  | .inr x,v,h=>by
    obtain ⟨t,e⟩:=Value.isStrOf_shape (x:=x) (v:=v) h
    exact .inr ⟨x,t,rfl,e⟩
theorem keyIs_int (i:Int) (t:Tok):keyIs (.inl i) (.int i t)=true:=by simp [keyIs,Value.isInt]
theorem keyIs_str (x:Str) (t:Tok):keyIs (.inr x) (.str x t)=true:=by simp [keyIs,Value.isStrOf]
theorem key_ll (a b:Int):decide ((Sum.inl a:Key)=Sum.inl b)=(a == b):=by
  by_cases e:a=b
  · subst e;simp
  · have h:¬ (Sum.inl a:Key)=Sum.inl b:=fun q=>e (Sum.inl.inj q)
    rw [decide_eq_false h]
    exact (beq_eq_false_iff_ne.mpr e).symm
theorem key_rr (a b:Str):decide ((Sum.inr a:Key)=Sum.inr b)=decide (a=b):=by
  by_cases e:a=b
  · subst e;simp
  · have h:¬ (Sum.inr a:Key)=Sum.inr b:=fun q=>e (Sum.inr.inj q)
    rw [decide_eq_false h,decide_eq_false e]
theorem key_lr (a:Int) (b:Str):decide ((Sum.inl a:Key)=Sum.inr b)=false:=decide_eq_false (fun q=>nomatch q)
theorem key_rl (a:Str) (b:Int):decide ((Sum.inr a:Key)=Sum.inl b)=false:=decide_eq_false (fun q=>nomatch q)
def mixKind (prog:Program) (w:World):PySem.KeyKind prog w Key where
  is:=keyIs
  hash:=keyH w
  inj:=fun v a b ha hb=>by
    rcases keyIs_shape ha with ⟨i,t,rfl,rfl⟩ | ⟨x,t,rfl,rfl⟩
    · rcases keyIs_shape hb with ⟨j,u,rfl,e⟩ | ⟨y,u,rfl,e⟩
      · injection e with e1 _;rw [e1]
      · exact nomatch e
    · rcases keyIs_shape hb with ⟨j,u,rfl,e⟩ | ⟨y,u,rfl,e⟩
      · exact nomatch e
      · injection e with e1 _;rw [e1]
  byValue:=fun k v h=>by
    rcases keyIs_shape h with ⟨i,t,rfl,rfl⟩ | ⟨x,t,rfl,rfl⟩ <;> rfl
  pyHash:=fun hv h=>by
    rcases keyIs_shape hv with ⟨i,t,rfl,rfl⟩ | ⟨x,t,rfl,rfl⟩
    · exact wpAny_pyHash_int h
    · exact wpAny_pyHash_str h
  eqBool:=fun hu hv h=>by
    rcases keyIs_shape hu with ⟨i,t,rfl,rfl⟩ | ⟨x,t,rfl,rfl⟩
    · rcases keyIs_shape hv with ⟨j,u,rfl,rfl⟩ | ⟨y,u,rfl,rfl⟩
      · rw [key_ll] at h;exact wpAny_eqBool_int h
      · rw [key_lr] at h;exact SeqAt.EqAt.int_str i t y u _ _ _ _ h
    · rcases keyIs_shape hv with ⟨j,u,rfl,rfl⟩ | ⟨y,u,rfl,rfl⟩
      · rw [key_rl] at h;exact SeqAt.EqAt.str_int x t j u _ _ _ _ h
      · rw [key_rr] at h;exact wpAny_eqBool_str h
  «strs»:=fun k x t v h=>by
    rcases keyIs_shape h with ⟨i,u,rfl,e⟩ | ⟨y,u,rfl,e⟩
    · exact nomatch e
    · injection e with e1 _
      subst e1
      cases v <;> rfl
theorem mixKind_int (prog:Program) (w:World) (i:Int) (t:Tok):(mixKind prog w).is (.inl i) (.int i t)=true:=keyIs_int i t
theorem mixKind_str (prog:Program) (w:World) (x:Str) (t:Tok):(mixKind prog w).is (.inr x) (.str x t)=true:=keyIs_str x t
end L2
namespace L2
open PySem PySem.Spec PyProof.Rows
inductive V where
  | non | bl (b:Bool) | int (i:Int) | str (x:Str) | byt (b:Array UInt8) | flt (b:UInt64) | ref (a:Addr) | ty (n:String)
  deriving DecidableEq
def RelV:V→Value→Prop
  | .non,u=>u=Value.none
  | .bl b,u=>u=Value.bool b
  | .int i,u=>∃ t,u=Value.int i t
  | .str x,u=>∃ t,u=Value.str x t
  | .byt b,u=>∃ t,u=Value.bytes b t
  | .flt b,u=>∃ t,u=Value.float b t
  | .ref a,u=>u=Value.ref a
  | .ty n,u=>u=Value.type n
abbrev Vals:List V→List Value→Prop:=Paired RelV
theorem Vals.length {xs:List V} {us:List Value} (r:Vals xs us):xs.length=us.length:=Paired.length r
theorem Vals.get:∀ {xs:List V} {us:List Value} {i:Nat} {x:V},Vals xs us→xs[i]? = some x→∃ u,us[i]? = some u∧RelV x u
  | _,_,_,_,.nil,e=>by simp at e
  | _,_,0,_,.cons r _,e=>by simp at e;subst e;exact ⟨_,rfl,r⟩
  | _,_,i+1,x,.cons _ t,e=>by
    obtain ⟨u,h1,h2⟩:=Vals.get (i:=i) (x:=x) t (by simpa using e)
    exact ⟨u,by simpa using h1,h2⟩
theorem Vals.set {x:V} {u:Value} (r:RelV x u):∀ {xs:List V} {us:List Value} (i:Nat),Vals xs us→Vals (xs.set i x) (us.set i u)
  | _,_,_,.nil=>.nil
  | _,_,0,.cons _ t=>.cons r t
  | _,_,i+1,.cons q t=>.cons q (Vals.set r i t)
theorem Vals.append:∀ {xs ys:List V} {us ws:List Value},Vals xs us→Vals ys ws→Vals (xs++ys) (us++ws)
  | _,_,_,_,.nil,s=>s
  | _,_,_,_,.cons r t,s=>.cons r (Vals.append t s)
theorem Vals.take:∀ {xs:List V} {us:List Value} (n:Nat),Vals xs us→Vals (xs.take n) (us.take n)
  | _,_,0,_=>.nil
  | _,_,_+1,.nil=>.nil
  | _,_,n+1,.cons r t=>.cons r (Vals.take n t)
theorem Vals.drop:∀ {xs:List V} {us:List Value} (n:Nat),Vals xs us→Vals (xs.drop n) (us.drop n)
  | _,_,0,r=>r
  | _,_,_+1,.nil=>.nil
  | _,_,n+1,.cons _ t=>Vals.drop n t
def RelO:Option V→Option Value→Prop
  | some v,some u=>RelV v u
  | none,none=>True
  | _,_=>False
def KV {κ:Type}:List (κ × V)→List (κ × Value)→Prop:=Paired fun (p:κ × V) (q:κ × Value)=>p.1=q.1∧RelV p.2 q.2
def kV:Key→V
  | .inl i=>.int i
  | .inr x=>.str x
inductive HO where
  /-- a list -/
  | lst (xs:List V)
  /-- a tuple (never changes) -/
  | tup (xs:List V)
  /-- a dict whose keys are ints and texts;one whose keys are tuples of ints and texts (the empty one is both) -/
  | dK (kvs:List (Key × V)) | dT (kvs:List (List Key × V))
  /-- a set of ints: its members,its size -/
  | set (S:Int→Bool) (n:Nat)
  /-- an instance of the class at C,its dict at dx,its attributes -/
  | ins (C dx:Addr) (fs:List (Str × V))
  /-- the dict of the instance at x -/
  | own (x:Addr)
  /-- the dict of an exception -/
  | xd (fs:List (Str × V))
  /-- a bound method,f of x -/
  | met (f x:Addr)
  /-- a range object lo,lo+1,.. below hi -/
  | rng (lo hi:Int)
  /-- a thing that is known to the object (the script;a dict while a loop walks it): read,never written while it is so -/
  | frz (o:Obj) (u:HO)
  /-- a code object's table -/
  | tbl (ps:Array Value)
  /-- any other thing,by what is true of its one object (a def of one's own: SetO a S n:=HO.ext fun h=>..) -/
  | ext (φ:Heap→Prop)
abbrev Hp:=Addr→Option HO
def upd (H:Hp) (a:Addr) (o:HO):Hp:=fun b=>if b=a then some o else H b
theorem upd_same {H:Hp} {a:Addr} {o:HO}:upd H a o a=some o:=by unfold upd;rw [if_pos rfl]
theorem upd_ne {H:Hp} {a b:Addr} {o:HO} (h:b≠a):upd H a o b=H b:=by unfold upd;rw [if_neg h]
theorem ne_of {H:Hp} {a b:Addr} {o u:HO} (h:H a=some o) (h':H b=some u) (d:o≠u):a≠b:=by
  intro e;subst e;rw [h] at h';exact d (Option.some.inj h')
theorem ne_of_none {H:Hp} {a b:Addr} {o:HO} (h:H a=some o) (h':H b=none):a≠b:=by
  intro e;subst e;rw [h] at h';cases h'
section
variable (P:Program) (w:World)
def Bare (h:Heap) (a:Addr):Prop:=∃ o,h.get? a=some o∧o.dict=none
def ObjOk (H:Hp) (h:Heap) (a:Addr):HO→Prop
  | .lst xs=>xs.length≤sizeLine∧∃ (its:List Value) (n:Nat),Vals xs its∧h.get? a=some { cls:=.type "list",data:=.seq its.toArray n }
  | .tup xs=>xs.length≤sizeLine∧∃ its:List Value,Vals xs its∧IsTup h a its.toArray∧Bare h a
  | .dK kvs=>kvs.length≤sizeLine∧(a == sysModules)=false∧∃ vs,KV kvs vs∧h.DictOf (mixKind P w) a vs
  | .dT kvs=>kvs.length≤sizeLine∧(a == sysModules)=false∧∃ xs:List (List Key × Addr × Value),
      Paired (fun (p:List Key × V) (q:List Key × Addr × Value)=>p.1=q.1∧H q.2.1=some (.tup (p.1.map kV))∧RelV p.2 q.2.2) kvs xs ∧
      ∃ o es ep,h.get? a=some o∧o.ExactDict∧o.data=.dict es ep∧es.toList=xs.map (entryOfKey (tupleKind (mixKind P w)))∧(xs.map (·.1)).Nodup
  | .set S n=>h.SetOf (intKind P w) a S n
  | .ins C dx fs=>H dx=some (.own a)∧fs.length≤1000∧dx≠a∧h.get? a=some (PySem.W.instObj C dx) ∧
      ∃ mA,h.Ns1 dx mA∧(∀ f,RelO (fs.lookup f) (mA f))∧PySem.Within mA (fs.map (·.1))
  | .own _=>∃ o,h.get? a=some o
  | .xd fs=>∃ mA,h.Ns1 a mA∧∀ f,RelO (fs.lookup f) (mA f)
  | .rng lo hi=>∃ t u v,h.get? a=some { cls:=.type "range",data:=.fields #[.int lo t,.int hi u,.int 1 v] }
  | .frz o u=>h.get? a=some o∧ObjOk H h a u
  | .tbl ps=>h.get? a=some { cls:=.none,data:=.fields ps }
  | .met f x=>h.get? a=some (PySem.W.methodObj (.ref f) (.ref x))
  | .ext φ=>φ h∧(∃ o,h.get? a=some o)∧∀ h1 h2:Heap,φ h1→(∀ o,h1.get? a=some o→h2.get? a=some o)→φ h2
def HOk (H:Hp) (h:Heap):Prop:=∀ a o,H a=some o→ObjOk P w H h a o
end
section
variable {P:Program} {w:World} {H H':Hp} {h h':Heap} {a:Addr} {o:HO}
theorem ObjOk.lt (x:ObjOk P w H h a o):a < h.objs.size:=by
  cases o with
  | lst xs=>obtain ⟨_,_,_,_,e⟩:=x;exact Heap.lt_size e
  | tup xs=>obtain ⟨_,_,_,p,_⟩:=x;exact p.lt
  | dK kvs=>obtain ⟨_,_,_,_,o,_,_,e,_⟩:=x;exact Heap.lt_size e
  | dT kvs=>obtain ⟨_,_,_,_,o,_,_,e,_⟩:=x;exact Heap.lt_size e
  | set S n=>obtain ⟨o,_,_,_,e,_⟩:=x;exact Heap.lt_size e
  | ins C dx fs=>obtain ⟨_,_,_,e,_⟩:=x;exact Heap.lt_size e
  | own y=>obtain ⟨_,e⟩:=x;exact Heap.lt_size e
  | xd fs=>obtain ⟨_,⟨_,_,_,e,_⟩,_⟩:=x;exact Heap.lt_size e
  | rng lo hi=>obtain ⟨_,_,_,e⟩:=x;exact Heap.lt_size e
  | frz ob u=>obtain ⟨e,_⟩:=x;exact Heap.lt_size e
  | tbl ps=>exact Heap.lt_size (show h.get? a=some _ from x)
  | met f y=>exact Heap.lt_size (show h.get? a=some _ from x)
  | ext φ=>obtain ⟨_,⟨_,e⟩,_⟩:=x;exact Heap.lt_size e
theorem Paired.mapP {α β:Type} {F G:α→β→Prop}:∀ {l₁:List α} {l₂:List β},Paired F l₁ l₂→(∀ a b,F a b→G a b)→Paired G l₁ l₂
  | _,_,.nil,_=>.nil
  | _,_,.cons r t,f=>.cons (f _ _ r) (Paired.mapP t f)
theorem ObjOk.stay (x:ObjOk P w H h a o) (k:∀ b u,(b=a∨H b=some (.own a))→h.get? b=some u→h'.get? b=some u)
    (ho:∀ b,H b=some (.own a)→H' b=some (.own a)) (ht:∀ b xs,H b=some (.tup xs)→H' b=some (.tup xs)):ObjOk P w H' h' a o:=by
  induction o with
  | lst xs=>obtain ⟨z,its,n,r,e⟩:=x;exact ⟨z,its,n,r,k _ _ (.inl rfl) e⟩
  | tup xs=>obtain ⟨z,its,r,⟨ob,e,c⟩,o2,e2,c2⟩:=x;exact ⟨z,its,r,⟨ob,k _ _ (.inl rfl) e,c⟩,o2,k _ _ (.inl rfl) e2,c2⟩
  | dK kvs=>obtain ⟨z,y,vs,r,ob,es,ep,e,c⟩:=x;exact ⟨z,y,vs,r,ob,es,ep,k _ _ (.inl rfl) e,c⟩
  | dT kvs =>
    obtain ⟨z,y,xs,r,ob,es,ep,e,c⟩:=x
    exact ⟨z,y,xs,Paired.mapP r fun p q z=>⟨z.1,ht _ _ z.2.1,z.2.2⟩,ob,es,ep,k _ _ (.inl rfl) e,c⟩
  | set S n=>obtain ⟨ob,es,ep,t,e,c⟩:=x;exact ⟨ob,es,ep,t,k _ _ (.inl rfl) e,c⟩
  | ins C dx fs =>
    obtain ⟨d,z,ne,e,mA,⟨od,es,ep,e2,c⟩,r⟩:=x
    exact ⟨ho _ d,z,ne,k _ _ (.inl rfl) e,mA,⟨od,es,ep,k _ _ (.inr d) e2,c⟩,r⟩
  | own y=>obtain ⟨ob,e⟩:=x;exact ⟨ob,k _ _ (.inl rfl) e⟩
  | xd fs=>obtain ⟨mA,⟨od,es,ep,e,c⟩,r⟩:=x;exact ⟨mA,⟨od,es,ep,k _ _ (.inl rfl) e,c⟩,r⟩
  | rng lo hi=>obtain ⟨t,u,v,e⟩:=x;exact ⟨t,u,v,k _ _ (.inl rfl) e⟩
  | frz ob u ih=>obtain ⟨e,q⟩:=x;exact ⟨k _ _ (.inl rfl) e,ih q⟩
  | tbl ps =>
    have e:h.get? a=some { cls:=.none,data:=.fields ps }:=x
    show h'.get? a=some { cls:=.none,data:=.fields ps }
    exact k a _ (.inl rfl) e
  | met f y =>
    have e:h.get? a=some (PySem.W.methodObj (.ref f) (.ref y)):=x
    show h'.get? a=some (PySem.W.methodObj (.ref f) (.ref y))
    exact k a _ (.inl rfl) e
  | ext φ=>obtain ⟨p,⟨o,e⟩,st⟩:=x;exact ⟨st _ _ p fun o q=>k _ _ (.inl rfl) q,⟨o,k _ _ (.inl rfl) e⟩,st⟩
theorem HOk.lt (x:HOk P w H h) (e:H a=some o):a < h.objs.size:=(x a o e).lt
theorem HOk.fresh (x:HOk P w H h) (e:h.objs.size≤a):H a=none:=by
  cases q:H a with
  | none=>rfl
  | some u=>exact absurd (Nat.lt_of_lt_of_le (x.lt q) e) (Nat.lt_irrefl _)
theorem HOk.kept (x:HOk P w H h) (k:∀ b u,h.get? b=some u→h'.get? b=some u):HOk P w H h':=fun a o e =>
  (x a o e).stay (fun b u _ q=>k b u q) (fun _ q=>q) fun _ _ q=>q
theorem HOk.laid (x:HOk P w H h) (k:∀ b u,h.get? b=some u→h'.get? b=some u) (hp:h.objs.size≤a) (new:ObjOk P w (upd H a o) h' a o):HOk P w (upd H a o) h':=fun b u e=>by
  have hn:=x.fresh hp
  by_cases hb:b=a
  · subst hb;rw [upd_same] at e;cases e;exact new
  · rw [upd_ne hb] at e
    exact (x b u e).stay (fun c v _ q=>k c v q) (fun c q=>by rw [upd_ne (ne_of_none q hn)];exact q) fun c xs q=>by rw [upd_ne (ne_of_none q hn)];exact q
end
def Rd (H:Hp) (a:Addr) (u:HO):Prop:=H a=some u∨∃ o,H a=some (.frz o u)
theorem Rd.of {H:Hp} {a:Addr} {u:HO} (h:H a=some u):Rd H a u:=.inl h
theorem Rd.ok {P:Program} {w:World} {H:Hp} {h:Heap} {a:Addr} {u:HO} (r:Rd H a u) (x:HOk P w H h):ObjOk P w H h a u:=by
  rcases r with r | ⟨o,r⟩
  · exact x a u r
  · obtain ⟨_,q⟩:=x a _ r
    exact q
def Mut:Option HO→Prop
  | some (.lst _)=>True
  | some (.dK _)=>True
  | some (.dT _)=>True
  | some (.set _ _)=>True
  | some (.ins _ _ _)=>True
  | some (.ext _)=>True
  | _=>False
section
variable {P:Program} {w:World} {H:Hp} {h h':Heap} {x e:Addr} {o':HO}
theorem HOk.write (ok:HOk P w H h) (mu:Mut (H x)) (he:e=x∨H e=some (.own x)) (k:∀ b u,b≠e→h.get? b=some u→h'.get? b=some u) (heo:∃ u,h'.get? e=some u)
    (new:ObjOk P w (upd H x o') h' x o'):HOk P w (upd H x o') h':=fun b u q=>by
  have nown:∀ c y,H c=some (.own y)→c≠x:=fun c y r z=>by subst z;rw [r] at mu;exact mu
  have ntup:∀ c xs,H c=some (.tup xs)→c≠x:=fun c xs r z=>by subst z;rw [r] at mu;exact mu
  by_cases hb:b=x
  · subst hb;rw [upd_same] at q;cases q;exact new
  · rw [upd_ne hb] at q
    by_cases hbe:b=e
    · have q':H b=some (.own x):=by
        rcases he with z | z
        · exact absurd (hbe.trans z) hb
        · rw [hbe];exact z
      rw [q] at q';cases q'
      obtain ⟨v,hv⟩:=heo
      exact ⟨v,by rw [hbe];exact hv⟩
    · refine (ok b u q).stay (fun c v hc r=>k c v ?_ r) (fun c r=>by rw [upd_ne (nown c b r)];exact r) fun c xs r=>by rw [upd_ne (ntup c xs r)];exact r
      rcases hc with rfl | hc
      · exact hbe
      · rintro rfl
        rcases he with z | z
        · exact nown c b hc z
        · rw [hc] at z;cases z;exact hb rfl
end
structure Un (fs ex:List Addr) (H H':Hp) (h h':Heap):Prop where
  keep:∀ b o,h.get? b=some o→H b=none→b ∉ fs→b ∉ ex→h'.get? b=some o
  slot:∀ b o,h.get? b=some o→H b=none→b∈fs→b ∉ ex→∃ sl,h'.get? b=some { o with slots:=sl }
  free:∀ b o,h.get? b=some o→H b=none→b ∉ ex→H' b=none
  there:∀ b o,h.get? b=some o→b ∉ ex→∃ o',h'.get? b=some o'
  tups:∀ b xs,H b=some (.tup xs)→H' b=some (.tup xs)
  frzs:∀ b o u,H b=some (.frz o u)→H' b=some (.frz o u)
  tbls:∀ b ps,H b=some (.tbl ps)→∃ more,H' b=some (.tbl (ps++more))
section
variable {fs fs' ex ex':List Addr} {H H1 H2:Hp} {h h1 h2 h':Heap} {a x e:Addr} {o:HO}
theorem Un.any (u:Un fs ex H H1 h h1) {b:Addr} {ob:Obj} (q:h.get? b=some ob) (n:H b=none) (hx:b ∉ ex):∃ sl,h1.get? b=some { ob with slots:=sl }:=by
  by_cases hb:b∈fs
  · exact u.slot b ob q n hb hx
  · exact ⟨ob.slots,u.keep b ob q n hb hx⟩
theorem Un.trans (a:Un fs ex H H1 h h1) (b:Un fs ex H1 H2 h1 h2):Un fs ex H H2 h h2 where
  keep:=fun c ob q n hc hx=>b.keep c ob (a.keep c ob q n hc hx) (a.free c ob q n hx) hc hx
  slot:=fun c ob q n hc hx=>by
    obtain ⟨sl,e1⟩:=a.slot c ob q n hc hx
    obtain ⟨sl',e2⟩:=b.slot c _ e1 (a.free c ob q n hx) hc hx
    exact ⟨sl',e2⟩
  free:=fun c ob q n hx=>by
    obtain ⟨o',e1⟩:=a.there c ob q hx
    exact b.free c o' e1 (a.free c ob q n hx) hx
  there:=fun c ob q hx=>by
    obtain ⟨o',e1⟩:=a.there c ob q hx
    exact b.there c o' e1 hx
  tups:=fun c xs q=>b.tups c xs (a.tups c xs q)
  frzs:=fun c ob xs q=>b.frzs c ob xs (a.frzs c ob xs q)
  tbls:=fun c ps q=>by
    obtain ⟨m1,e1⟩:=a.tbls c ps q
    obtain ⟨m2,e2⟩:=b.tbls c _ e1
    exact ⟨m1++m2,by rw [e2,Array.append_assoc]⟩
theorem Un.kept (k:∀ b u,h.get? b=some u→h'.get? b=some u):Un fs ex H H h h' :=
  ⟨fun b ob q _ _ _=>k b ob q,fun b ob q _ _ _=>⟨ob.slots,k b ob q⟩,fun _ _ _ n _=>n,fun b ob q _=>⟨ob,k b ob q⟩,fun _ _ q=>q,fun _ _ _ q=>q,fun _ ps q=>⟨#[],by rw [q];simp⟩⟩
theorem Un.refl:Un fs ex H H h h:=Un.kept fun _ _ q=>q
theorem Un.laid (k:∀ b u,h.get? b=some u→h'.get? b=some u) (hp:h.objs.size≤a) (hn:H a=none):Un fs ex H (upd H a o) h h' where
  keep:=fun b u q _ _ _=>k b u q
  slot:=fun b u q _ _ _=>⟨u.slots,k b u q⟩
  free:=fun b u q n _=>by rw [upd_ne (Nat.ne_of_lt (Nat.lt_of_lt_of_le (Heap.lt_size q) hp))];exact n
  there:=fun b u q _=>⟨u,k b u q⟩
  tups:=fun b xs q=>by rw [upd_ne (ne_of_none q hn)];exact q
  frzs:=fun b u xs q=>by rw [upd_ne (ne_of_none q hn)];exact q
  tbls:=fun b ps q=>⟨#[],by rw [upd_ne (ne_of_none q hn),q];simp⟩
theorem Un.write (mu:Mut (H x)) (he:e=x∨H e=some (.own x)) (k:∀ b u,b≠e→h.get? b=some u→h'.get? b=some u) (heo:∃ u,h'.get? e=some u):Un fs ex H (upd H x o) h h':=by
  have hx:∀ b,H b=none→b≠x:=fun b n z=>by subst z;rw [n] at mu;exact mu
  have hb:∀ b,H b=none→b≠e:=fun b n z=>by
    subst z
    rcases he with r | r
    · exact hx b n r
    · rw [n] at r;cases r
  have hm:∀ b u,H b=some u→¬ Mut (some u)→b≠x:=fun b u q nm z=>by subst z;rw [q] at mu;exact nm mu
  refine ⟨fun b u q n _ _=>k b u (hb b n) q,fun b u q n _ _=>⟨u.slots,k b u (hb b n) q⟩,fun b u q n _=>by rw [upd_ne (hx b n)];exact n,fun b u q _=>?_,
    fun b xs q=>by rw [upd_ne (hm b _ q fun z=>z)];exact q,fun b u xs q=>by rw [upd_ne (hm b _ q fun z=>z)];exact q,fun b ps q=>⟨#[],by rw [upd_ne (hm b _ q fun z=>z),q];simp⟩⟩
  by_cases hbe:b=e
  · subst hbe;exact heo
  · exact ⟨u,k b u hbe q⟩
theorem Un.mono (u:Un fs ex H H1 h h1) (hs:∀ b∈fs,b∈fs') (hx:∀ b∈ex,b∈ex'):Un fs' ex' H H1 h h1 :=
  ⟨fun b ob q n hb he=>u.keep b ob q n (fun z=>hb (hs b z)) fun z=>he (hx b z),fun _ _ q n _ he=>u.any q n fun z=>he (hx _ z),fun b ob q n he=>u.free b ob q n fun z=>he (hx b z),fun b ob q he=>u.there b ob q fun z=>he (hx b z),u.tups,u.frzs,u.tbls⟩
end
def trk (h:Heap) (H:Hp):List Addr:=(List.range h.objs.size).filter fun a=>(H a).isSome
def hidT (h:Heap) (H:Hp):Heap:=PySem.W.hideAll h (trk h H)
theorem hidT_size (h:Heap) (H:Hp):(hidT h H).objs.size=h.objs.size:=PySem.W.hideAll_size _ _
theorem hidT_get {h:Heap} {H:Hp} {b:Addr} {o:Obj} (e:h.get? b=some o) (n:H b=none):(hidT h H).get? b=some o :=
  PySem.W.hideAll_get _ e fun hm=>by
    have q:(H b).isSome=true:=(List.mem_filter.mp hm).2
    rw [n] at q;simp at q
theorem of_hidT {h:Heap} {H:Hp} {b:Addr} {o:Obj} (e:(hidT h H).get? b=some o):h.get? b=some o∧H b=none:=by
  have e':h.get? b=some o:=PySem.W.of_hideAll (trk h H) e
  refine ⟨e',?_⟩
  cases q:H b with
  | none=>rfl
  | some x =>
    have hm:b∈trk h H:=List.mem_filter.mpr ⟨List.mem_range.mpr (Heap.lt_size e'),by simp [q]⟩
    have z:(hidT h H).get? b=none:=PySem.W.hideAll_none (trk h H) hm
    rw [z] at e;cases e
def allNews (g h:Heap) (L:Addr):List (Addr × Obj):=(List.range h.objs.size).filterMap fun a=>if a=L∨(g.get? a).isSome=true then none else (h.get? a).map fun o=>(a,o)
def rest (g h:Heap) (L d:Addr):List (Addr × Obj):=(allNews g h L).filter fun p=>decide (p.1≠d)
end L2
namespace L2
open PySem PySem.Spec PyProof.Rows
structure Mod (K:PySem.W.Frag) (mg:Str→Option Value) (base:Heap):Prop where
  kin:K.In base
  glob:base.Ns mainGlobals mg
  blt:∃ mb,base.Ns builtinsNs mb∧∀ x:Str,x≠"__name__"→mb x=bootBuiltins x
  nolimit:base.NoLimit
structure Cx where
  prog:Program
  w:World
  K:PySem.W.Frag
  mg:Str→Option Value
  base:Heap
  A:Around
  N:List Str
  s₀:Shared
  H₀:Hp
  env:Env
  outer:List Env
  stack:List Env
  ex:List Addr
  fn:Str→Bool
  calm:Bool
  pn:List (Addr × Obj)
  xe:Value→Shared→Prop
def frs (l:List Env):List Addr:=l.filterMap (·.frame)
abbrev Cx.fs (X:Cx):List Addr:=frs X.outer
def Vis (sc:Scope) (x:Str):Prop:=sc.names.lookup x=some .local∨sc.names.lookup x=some .cell∨sc.names.lookup x=some .free
def Loc (sc:Scope) (x:Str):Prop:=sc.names.lookup x=some .local∨sc.names.lookup x=some .cell
def Look (env:Env) (h:Heap) (m:Str→Option Value) (x:Str) (u:Value):Prop :=
  (env.kindOf x=some .local∧m x=some u)∨((env.kindOf x=some .cell∨env.kindOf x=some .free)∧∃ c,env.cells.lookup x=some c∧h.IsCell c (some u))
structure Cx.Ok (X:Cx):Prop where
  mod:Mod X.K X.mg X.base
  kind:X.env.scope.kind=.function
  glob:X.env.globals=mainGlobals
  blt:X.env.builtins=builtinsNs
  above:X.s₀.heap.objs.size≤X.env.locals
  inj:∀ x y c,X.env.cells.lookup x=some c→X.env.cells.lookup y=some c→x=y
  has:∀ x,(X.env.kindOf x=some .cell∨X.env.kindOf x=some .free)→∃ c,X.env.cells.lookup x=some c
  cab:∀ x c,X.fn x=true→X.env.cells.lookup x=some c→X.s₀.heap.objs.size≤c
  hd:X.calm=true→X.A.handled=none
  frames:X.A.frames=some X.stack
  stk:X.stack=X.outer∨(X.stack=X.env :: X.outer∧X.env.frame=some X.env.locals)
  exf:∀ b∈X.ex,b≠X.env.locals∧∀ x c,X.env.cells.lookup x=some c→c≠b
  bs:∀ b o,X.base.get? b=some o→X.s₀.heap.get? b=some o∧X.H₀ b=none
  bsz:X.base.objs.size≤X.s₀.heap.objs.size
  noex:∀ b o,X.base.get? b=some o→b ∉ X.ex
  exfs:∀ b∈X.ex,b ∉ X.fs
  funs:X.s₀.heap.FunFrames X.base X.outer
  frf:∀ b∈X.fs,X.H₀ b=none
structure Inv (X:Cx) (pins:List (Addr × Obj)) (σ:List (Option V)) (H:Hp) (s:Shared):Prop where
  ok:X.Ok
  os:s.os=X.s₀.os
  bare:AllBare s.gens
  base:Un X.fs X.ex X.H₀ H X.s₀.heap s.heap
  loc:∃ m,s.heap.Ns X.env.locals m∧∀ (i:Nat) (x:Str) (v:V),X.N[i]? = some x→σ[i]? = some (some v)→Vis X.env.scope x→∃ u,RelV v u∧Look X.env s.heap m x u
  cell:∀ x c,X.env.cells.lookup x=some c→∃ v,s.heap.IsCell c v
  free:H X.env.locals=none
  freeC:∀ x c,X.env.cells.lookup x=some c→H c=none
  pin:∀ p∈X.pn++pins,s.heap.get? p.1=some p.2∧H p.1=none∧p.1≠X.env.locals∧p.1 ∉ X.fs∧∀ v,p.2.data≠.cell v
  hok:HOk X.prog X.w H s.heap
  len:σ.length=X.N.length
section
variable {X:Cx} {pins:List (Addr × Obj)} {σ:List (Option V)} {H H':Hp} {s:Shared} {h':Heap}
theorem Cx.Ok.nofr (ok:X.Ok) {b:Addr} {o:Obj} (e:X.base.get? b=some o):b ∉ X.fs:=fun hb=>by
  have:=(ok.funs.mem hb).1
  rw [e] at this;cases this
theorem Inv.bs (I:Inv X pins σ H s):∀ b o,X.base.get? b=some o→s.heap.get? b=some o∧H b=none:=fun b o e =>
  ⟨I.base.keep b o (I.ok.bs b o e).1 (I.ok.bs b o e).2 (I.ok.nofr e) (I.ok.noex b o e),I.base.free b o (I.ok.bs b o e).1 (I.ok.bs b o e).2 (I.ok.noex b o e)⟩
theorem Inv.bk (I:Inv X pins σ H s):∀ b o,X.base.get? b=some o→s.heap.get? b=some o:=fun b o e=>(I.bs b o e).1
theorem Inv.mod (I:Inv X pins σ H s):Mod X.K X.mg X.base:=I.ok.mod
theorem Inv.kIn (I:Inv X pins σ H s):X.K.In s.heap:=I.ok.mod.kin.keeps I.bk
theorem Inv.nolimit (I:Inv X pins σ H s):s.heap.NoLimit:=I.ok.mod.nolimit.keeps I.bk
theorem Inv.fr (I:Inv X pins σ H s):∃ m,Fr X.base X.env.locals s.heap m :=
  let ⟨m,hn,_⟩:=I.loc
  ⟨m,hn,I.bk,Nat.le_trans I.ok.bsz I.ok.above⟩
theorem Inv.lt (I:Inv X pins σ H s):X.env.locals < s.heap.objs.size:=let ⟨_,hn,_⟩:=I.loc;hn.lt
theorem Inv.sz (I:Inv X pins σ H s):X.s₀.heap.objs.size≤s.heap.objs.size:=Nat.le_trans I.ok.above (Nat.le_of_lt I.lt)
theorem Inv.nofs (I:Inv X pins σ H s) {a:Addr} (h:s.heap.objs.size≤a):a ∉ X.fs:=fun hb=>by
  obtain ⟨_,o,ho,_⟩:=I.ok.funs.mem hb
  exact absurd (Nat.lt_of_lt_of_le (Heap.lt_size ho) (Nat.le_trans I.sz h)) (Nat.lt_irrefl _)
theorem Inv.cne (I:Inv X pins σ H s):∀ x c,X.env.cells.lookup x=some c→c≠X.env.locals:=fun x c e z=>by
  obtain ⟨v,o,ho,hd⟩:=I.cell x c e
  obtain ⟨m,⟨o',es,ep,ho',hd',_⟩,_⟩:=I.loc
  rw [z,ho'] at ho;cases ho;rw [hd'] at hd;cases hd
theorem Inv.funs (I:Inv X pins σ H s):s.heap.FunFrames X.base X.outer:=by
  have all:∀ (l:List Env),(∀ b∈frs l,b∈X.fs)→X.s₀.heap.FunFrames X.base l→s.heap.FunFrames X.base l:=by
    intro l
    induction l with
    | nil=>intro _ _;trivial
    | cons env r ih =>
      intro hs hl
      obtain ⟨hk,⟨L,o,hf,hn,ho,hd⟩,hr⟩:=hl
      have hL:L∈X.fs:=hs L (by unfold frs;rw [List.filterMap_cons,hf];exact List.mem_cons_self)
      obtain ⟨sl,e⟩:=I.base.slot L o ho (I.ok.frf L hL) hL fun z=>I.ok.exfs L z hL
      exact ⟨hk,⟨L,_,hf,hn,e,hd⟩,ih (fun b hb=>hs b (by unfold frs;rw [List.filterMap_cons,hf];exact List.mem_cons_of_mem _ hb)) hr⟩
  exact all X.outer (fun _ hb=>hb) I.ok.funs
theorem Inv.stack (I:Inv X pins σ H s):s.heap.FunFrames X.base X.stack:=by
  rcases I.ok.stk with e | ⟨e,hf⟩
  · rw [e];exact I.funs
  · rw [e]
    obtain ⟨m,hn,_⟩:=I.loc
    refine .cons (by rw [I.ok.kind];decide) hf hn ?_ I.funs
    exact Heap.get?_none_of_le (Nat.le_trans I.ok.bsz I.ok.above)
theorem Inv.stkSub (I:Inv X pins σ H s):∀ b∈frs X.stack,b∈X.env.locals :: X.fs:=fun b hb=>by
  rcases I.ok.stk with e | ⟨e,hf⟩
  · rw [e] at hb;exact List.mem_cons_of_mem _ hb
  · rw [e] at hb
    unfold frs at hb
    rw [List.filterMap_cons,hf] at hb
    exact hb
theorem Inv.stkFree (I:Inv X pins σ H s):∀ b∈frs X.stack,H b=none:=fun b hb=>by
  rcases List.mem_cons.mp (I.stkSub b hb) with e | hb
  · rw [e];exact I.free
  · obtain ⟨_,o,ho,_⟩:=I.ok.funs.mem hb
    exact I.base.free b o ho (I.ok.frf b hb) fun z=>I.ok.exfs b z hb
theorem Inv.step {g':Array GenState} {t':Nat} {d':Drawn} {ch:List Addr} (I:Inv X pins σ H s)
    (hch:∀ b∈ch,(b∈X.ex∨X.s₀.heap.objs.size≤b)∧b≠X.env.locals∧(∀ x c,X.env.cells.lookup x=some c→c≠b)∧∀ p∈X.pn++pins,p.1≠b)
    (keep:∀ b o,b≠X.env.locals→b ∉ X.fs→b ∉ ch→s.heap.get? b=some o→H b=none→h'.get? b=some o)
    (slot:∀ b o,b≠X.env.locals→b∈X.fs→b ∉ ch→s.heap.get? b=some o→H b=none→∃ sl,h'.get? b=some { o with slots:=sl }) (free:∀ b o,b ∉ ch→s.heap.get? b=some o→H b=none→H' b=none)
    (there:∀ b o,b ∉ ch→s.heap.get? b=some o→∃ o',h'.get? b=some o')
    (tups:∀ b xs,H b=some (.tup xs)→H' b=some (.tup xs)) (frzs:∀ b o u,H b=some (.frz o u)→H' b=some (.frz o u)) (tbls:∀ b ps,H b=some (.tbl ps)→∃ more,H' b=some (.tbl (ps++more)))
    (ns:∀ m,s.heap.Ns X.env.locals m→h'.Ns X.env.locals m) (hok:HOk X.prog X.w H' h') (hg:AllBare g') :
    Inv X pins σ H' { s with heap:=h',gens:=g',drawn:=d',toks:=t' }:=by
  have neL:∀ b o,X.s₀.heap.get? b=some o→b≠X.env.locals:=fun b o e=>Nat.ne_of_lt (Nat.lt_of_lt_of_le (Heap.lt_size e) I.ok.above)
  have neC:∀ b o,X.s₀.heap.get? b=some o→b ∉ X.ex→b ∉ ch:=fun b o e hx hb=>by
    rcases (hch b hb).1 with z | z
    · exact hx z
    · exact absurd (Nat.lt_of_lt_of_le (Heap.lt_size e) z) (Nat.lt_irrefl _)
  have cellK:∀ x c,X.env.cells.lookup x=some c→∀ v,s.heap.IsCell c v→h'.IsCell c v:=fun x c e v ⟨o,ho,hd⟩=>by
    have nch:c ∉ ch:=fun z=>(hch c z).2.2.1 x c e rfl
    by_cases hc:c∈X.fs
    · obtain ⟨sl,q⟩:=slot c o (I.cne x c e) hc nch ho (I.freeC x c e)
      exact ⟨_,q,hd⟩
    · exact ⟨o,keep c o (I.cne x c e) hc nch ho (I.freeC x c e),hd⟩
  refine ⟨I.ok,I.os,hg,⟨fun b o e n hb hx=>?_,fun b o e n hb hx=>?_,fun b o e n hx=>?_,fun b o e hx=>?_,fun b xs e=>tups b xs (I.base.tups b xs e),fun b o xs e=>frzs b o xs (I.base.frzs b o xs e),fun b ps e=>?_⟩,?_,fun x c e=>?_,?_,fun x c e=>?_,fun p hp=>?_,hok,I.len⟩
  · exact keep b o (neL b o e) hb (neC b o e hx) (I.base.keep b o e n hb hx) (I.base.free b o e n hx)
  · obtain ⟨sl,e1⟩:=I.base.slot b o e n hb hx
    obtain ⟨sl',e2⟩:=slot b _ (neL b o e) hb (neC b o e hx) e1 (I.base.free b o e n hx)
    exact ⟨sl',e2⟩
  · obtain ⟨o',e1⟩:=I.base.there b o e hx
    exact free b o' (neC b o e hx) e1 (I.base.free b o e n hx)
  · obtain ⟨o',e1⟩:=I.base.there b o e hx
    exact there b o' (neC b o e hx) e1
  · obtain ⟨m1,e1⟩:=I.base.tbls b ps e
    obtain ⟨m2,e2⟩:=tbls b _ e1
    exact ⟨m1++m2,by rw [e2,Array.append_assoc]⟩
  · obtain ⟨m,hn,hl⟩:=I.loc
    refine ⟨m,ns m hn,fun i x v e1 e2 e3=>?_⟩
    obtain ⟨u,r,l⟩:=hl i x v e1 e2 e3
    refine ⟨u,r,?_⟩
    rcases l with l | ⟨k,c,e,z⟩
    · exact .inl l
    · exact .inr ⟨k,c,e,cellK x c e _ z⟩
  · obtain ⟨v,z⟩:=I.cell x c e
    exact ⟨v,cellK x c e v z⟩
  · obtain ⟨m,⟨o,_,_,ho,_⟩,_⟩:=I.loc
    exact free _ o (fun z=>(hch _ z).2.1 rfl) ho I.free
  · obtain ⟨v,o,ho,hd⟩:=I.cell x c e
    exact free c o (fun z=>(hch c z).2.2.1 x c e rfl) ho (I.freeC x c e)
  · obtain ⟨e,n,ne,nf,d⟩:=I.pin p hp
    have nch:p.1 ∉ ch:=fun z=>(hch p.1 z).2.2.2 p hp rfl
    exact ⟨keep p.1 p.2 ne nf nch e n,free p.1 p.2 nch e n,ne,nf,d⟩
theorem Inv.un {t':Nat} (I:Inv X pins σ H s) (u:Un X.fs [] H H' s.heap h') (hok:HOk X.prog X.w H' h'):Inv X pins σ H' { s with heap:=h',toks:=t' }:=by
  obtain ⟨m,⟨o,es,ep,ho,r⟩,_⟩:=id I.loc
  obtain ⟨sl,hL⟩:=u.any ho I.free (by simp)
  exact I.step (g':=s.gens) (d':=s.drawn) (ch:=[]) (fun _ z=>nomatch z) (fun b o _ hb _ e n=>u.keep b o e n hb (by simp)) (fun b o _ hb _ e n=>u.slot b o e n hb (by simp)) (fun b o _ e n=>u.free b o e n (by simp)) (fun b o _ e=>u.there b o e (by simp)) u.tups u.frzs u.tbls (fun m' hm=>by
    obtain ⟨o',es',ep',ho',r'⟩:=hm
    rw [ho] at ho';cases ho'
    exact ⟨_,es',ep',hL,r'⟩) hok I.bare
theorem Inv.call {g':Array GenState} {t':Nat} {d':Drawn} {ch:List Addr} (I:Inv X pins σ H s) (u:Un (frs X.stack) ch H H' s.heap h') (hok:HOk X.prog X.w H' h') (hg:AllBare g')
    (hch:∀ b∈ch,(b∈X.ex∨X.s₀.heap.objs.size≤b)∧b≠X.env.locals∧(∀ x c,X.env.cells.lookup x=some c→c≠b)∧∀ p∈X.pn++pins,p.1≠b) :
    Inv X pins σ H' { s with heap:=h',gens:=g',drawn:=d',toks:=t' }:=by
  obtain ⟨m,⟨o,es,ep,ho,r⟩,_⟩:=id I.loc
  obtain ⟨sl,hL⟩:=u.any ho I.free fun z=>(hch _ z).2.1 rfl
  exact I.step (ch:=ch) hch (fun b o hL hb hc e n=>u.keep b o e n (fun z=>(List.mem_cons.mp (I.stkSub b z)).elim hL hb) hc) (fun b o _ _ hc e n=>u.any e n hc) (fun b o hc e n=>u.free b o e n hc) (fun b o hc e=>u.there b o e hc) u.tups u.frzs u.tbls (fun m' hm=>by
    obtain ⟨o',es',ep',ho',r'⟩:=hm
    rw [ho] at ho';cases ho'
    exact ⟨_,es',ep',hL,r'⟩) hok hg
theorem Inv.turned {t':Nat} {it:Addr} (I:Inv X pins σ H s) (k:∀ b o,b≠it→s.heap.get? b=some o→h'.get? b=some o) (hn:H it=none) (hL:it≠X.env.locals)
    (h1:it∈X.ex∨X.s₀.heap.objs.size≤it) (h2:∀ x c,X.env.cells.lookup x=some c→c≠it) (h3:∀ p∈X.pn++pins,p.1≠it):Inv X pins σ H { s with heap:=h',toks:=t' }:=by
  have nit:∀ b u,H b=some u→b≠it:=fun b u e z=>by rw [z,hn] at e;cases e
  refine I.step (g':=s.gens) (d':=s.drawn) (ch:=[it]) (fun b hb=>?_) (fun b o _ _ hc e _=>k b o (fun z=>hc (by simp [z])) e) (fun b o _ _ hc e _=>⟨o.slots,k b o (fun z=>hc (by simp [z])) e⟩) (fun _ _ _ _ n=>n)
    (fun b o hc e=>⟨o,k b o (fun z=>hc (by simp [z])) e⟩) (fun _ _ e=>e) (fun _ _ _ e=>e) (fun b ps e=>⟨#[],by rw [e];simp⟩) (fun m hm=>?_) (fun b u e=>?_) I.bare
  · have e:b=it:=by simpa using hb
    subst e
    exact ⟨h1,hL,h2,h3⟩
  · obtain ⟨o,es,ep,ho,r⟩:=hm
    exact ⟨o,es,ep,k _ o (Ne.symm hL) ho,r⟩
  · refine (I.hok b u e).stay (fun c v hc q=>k c v ?_ q) (fun _ q=>q) fun _ _ q=>q
    rcases hc with z | z
    · rw [z];exact nit b u e
    · exact nit c _ z
theorem Inv.tok (I:Inv X pins σ H s) (t:Nat):Inv X pins σ H { s with toks:=t }:=I.un (h':=s.heap) (t':=t) Un.refl I.hok
theorem Inv.kept {t':Nat} (I:Inv X pins σ H s) (k:∀ b u,s.heap.get? b=some u→h'.get? b=some u):Inv X pins σ H { s with heap:=h',toks:=t' }:=I.un (Un.kept k) (I.hok.kept k)
theorem Inv.laid {a:Addr} {o:HO} {t':Nat} (I:Inv X pins σ H s) (k:∀ b u,s.heap.get? b=some u→h'.get? b=some u) (hp:s.heap.objs.size≤a) (new:ObjOk X.prog X.w (upd H a o) h' a o) :
    Inv X pins σ (upd H a o) { s with heap:=h',toks:=t' }:=I.un (Un.laid k hp (I.hok.fresh hp)) (I.hok.laid k hp new)
theorem Inv.write {x e:Addr} {o:HO} {t':Nat} (I:Inv X pins σ H s) (mu:Mut (H x)) (he:e=x∨H e=some (.own x)) (k:∀ b u,b≠e→s.heap.get? b=some u→h'.get? b=some u) (heo:∃ u,h'.get? e=some u)
    (new:ObjOk X.prog X.w (upd H x o) h' x o):Inv X pins σ (upd H x o) { s with heap:=h',toks:=t' }:=I.un (Un.write mu he k heo) (I.hok.write mu he k heo new)
theorem Inv.pins_of {pins':List (Addr × Obj)} (I:Inv X pins σ H s) (h:∀ p∈pins',s.heap.get? p.1=some p.2∧H p.1=none∧p.1≠X.env.locals∧p.1 ∉ X.fs∧∀ v,p.2.data≠.cell v):Inv X pins' σ H s :=
  ⟨I.ok,I.os,I.bare,I.base,I.loc,I.cell,I.free,I.freeC,fun p hp=>(List.mem_append.mp hp).elim (fun z=>I.pin p (List.mem_append_left _ z)) (h p),I.hok,I.len⟩
theorem nodup_ix {N:List Str} (hN:N.Nodup) {i j:Nat} {x:Str} (a:N[i]? = some x) (b:N[j]? = some x):i=j:=by
  obtain ⟨h1,e1⟩:=List.getElem?_eq_some_iff.mp a
  obtain ⟨h2,e2⟩:=List.getElem?_eq_some_iff.mp b
  exact (List.getElem_inj hN).mp (e1.trans e2.symm)
theorem store_ok2 {M:Model} {A:Around} {E:Value→Shared→Prop} {i:Nat} {x:Str} {v:V} {u:Value} {Q:Unit→Shared→Prop} (I:Inv X pins σ H s) (hN:X.N.Nodup) (hi:X.N[i]? = some x) (hx:Loc X.env.scope x) (r:RelV v u)
    (h:∀ s',Inv X pins (σ.set i (some v)) H s'→(∃ a,Heap.SameBut a s.heap s'.heap∧(a=X.env.locals∨X.env.cells.lookup x=some a))→Q () s') (hf:X.fn x=true∨X.env.scope.names.lookup x=some .local:=by first | exact .inl rfl | exact .inr rfl | assumption):wpAny M A (storeName X.env x u) Q E s:=by
  obtain ⟨m,hn,hl⟩:=id I.loc
  have hcls:(X.env.scope.kind == .class || (X.env.scope.kind == .module && X.env.locals != X.env.globals))=false:=by rw [I.ok.kind];rfl
  have hiσ:i < σ.length:=by rw [I.len];exact (List.getElem?_eq_some_iff.mp hi).1
  have cne:=I.cne
  have tracked:∀ {a:Addr} {h':Heap},(∃ o,s.heap.get? a=some o∧H a=none)→Heap.SameBut a s.heap h'→HOk X.prog X.w H h':=fun {a h'} ha hs b ob e=>by
    obtain ⟨_,_,hfree⟩:=ha
    refine (I.hok b ob e).stay (fun c w' hc q=>(hs.2 c ?_).trans q) (fun _ q=>q) fun _ _ q=>q
    rintro rfl
    rcases hc with rfl | hc
    · rw [hfree] at e;cases e
    · rw [hfree] at hc;cases hc
  rcases hx with hk | hk
  · refine wpAny_storeName_local hk hn (fun h' hn' hs=>?_) hcls
    obtain ⟨oL,_,_,hoL,_⟩:=id hn
    refine h _ ⟨I.ok,I.os,I.bare,⟨fun b o e n hb hx=>?_,fun b o e n hb hx=>?_,I.base.free,fun b o e hx=>?_,I.base.tups,I.base.frzs,I.base.tbls⟩,⟨_,hn',fun j y v' e1 e2 e3=>?_⟩,fun y c e=>?_,I.free,I.freeC,fun p hp=>?_,tracked ⟨oL,hoL,I.free⟩ hs,by simpa using I.len⟩ ⟨_,hs,.inl rfl⟩
    · exact (hs.2 b (Nat.ne_of_lt (Nat.lt_of_lt_of_le (Heap.lt_size e) I.ok.above))).trans (I.base.keep b o e n hb hx)
    · obtain ⟨sl,e1⟩:=I.base.slot b o e n hb hx
      exact ⟨sl,(hs.2 b (Nat.ne_of_lt (Nat.lt_of_lt_of_le (Heap.lt_size e) I.ok.above))).trans e1⟩
    · obtain ⟨o',e1⟩:=I.base.there b o e hx
      exact ⟨o',(hs.2 b (Nat.ne_of_lt (Nat.lt_of_lt_of_le (Heap.lt_size e) I.ok.above))).trans e1⟩
    · by_cases hj:j=i
      · subst hj
        rw [hi] at e1;cases e1
        rw [List.getElem?_set_self hiσ] at e2
        cases e2
        exact ⟨u,r,.inl ⟨hk,by simp⟩⟩
      · rw [List.getElem?_set_ne (Ne.symm hj)] at e2
        obtain ⟨u',r',q⟩:=hl j y v' e1 e2 e3
        refine ⟨u',r',?_⟩
        rcases q with ⟨k,e⟩ | ⟨k,c,e,z⟩
        · refine .inl ⟨k,?_⟩
          have:y≠x:=fun e=>hj (nodup_ix hN e1 (e ▸ hi))
          simp [this,e]
        · exact .inr ⟨k,c,e,z.sameBut hs (cne y c e)⟩
    · obtain ⟨w',z⟩:=I.cell y c e
      exact ⟨w',z.sameBut hs (cne y c e)⟩
    · obtain ⟨e,n,ne,nf,d⟩:=I.pin p hp
      exact ⟨(hs.2 p.1 ne).trans e,n,ne,nf,d⟩
  · have hfn:X.fn x=true:=by
      rcases hf with z | z
      · exact z
      · rw [z] at hk;cases hk
    obtain ⟨c,hc⟩:=I.ok.has x (.inl hk)
    obtain ⟨w',z⟩:=I.cell x c hc
    refine wpAny_storeName_cell I.ok.kind hk hc z (fun h' hc' hs=>?_)
    obtain ⟨oc,hoc,hocd⟩:=id z
    refine h { s with heap:=h' } ⟨I.ok,I.os,I.bare,⟨fun b o e n hb hx=>?_,fun b o e n hb hx=>?_,I.base.free,fun b o e hx=>?_,I.base.tups,I.base.frzs,I.base.tbls⟩,⟨m,hn.sameBut hs (Ne.symm (cne x c hc)),fun j y v' e1 e2 e3=>?_⟩,fun y c' e=>?_,I.free,I.freeC,fun p hp=>?_,tracked ⟨oc,hoc,I.freeC x c hc⟩ hs,by simpa using I.len⟩ ⟨c,hs,.inr hc⟩
    · exact (hs.2 b (Nat.ne_of_lt (Nat.lt_of_lt_of_le (Heap.lt_size e) (I.ok.cab x c hfn hc)))).trans (I.base.keep b o e n hb hx)
    · obtain ⟨sl,e1⟩:=I.base.slot b o e n hb hx
      exact ⟨sl,(hs.2 b (Nat.ne_of_lt (Nat.lt_of_lt_of_le (Heap.lt_size e) (I.ok.cab x c hfn hc)))).trans e1⟩
    · obtain ⟨o',e1⟩:=I.base.there b o e hx
      exact ⟨o',(hs.2 b (Nat.ne_of_lt (Nat.lt_of_lt_of_le (Heap.lt_size e) (I.ok.cab x c hfn hc)))).trans e1⟩
    · by_cases hj:j=i
      · subst hj
        rw [hi] at e1;cases e1
        rw [List.getElem?_set_self hiσ] at e2
        cases e2
        exact ⟨u,r,.inr ⟨.inl hk,c,hc,hc'⟩⟩
      · rw [List.getElem?_set_ne (Ne.symm hj)] at e2
        obtain ⟨u',r',q⟩:=hl j y v' e1 e2 e3
        refine ⟨u',r',?_⟩
        rcases q with q | ⟨k,c',e,z'⟩
        · exact .inl q
        · refine .inr ⟨k,c',e,z'.sameBut hs ?_⟩
          rintro rfl
          exact hj (nodup_ix hN e1 (I.ok.inj _ _ _ e hc ▸ hi))
    · by_cases hcc:c'=c
      · subst hcc;exact ⟨_,hc'⟩
      · obtain ⟨w2,z2⟩:=I.cell y c' e
        exact ⟨w2,z2.sameBut hs hcc⟩
    · obtain ⟨e,n,ne,nf,d⟩:=I.pin p hp
      refine ⟨(hs.2 p.1 ?_).trans e,n,ne,nf,d⟩
      intro q
      rw [q,hoc] at e
      have q':oc=p.2:=Option.some.inj e
      exact d w' (by rw [← q'];exact hocd)
theorem store_ok {M:Model} {A:Around} {E:Value→Shared→Prop} {i:Nat} {x:Str} {v:V} {u:Value} {Q:Unit→Shared→Prop} (I:Inv X pins σ H s) (hN:X.N.Nodup) (hi:X.N[i]? = some x) (hx:Loc X.env.scope x) (r:RelV v u)
    (h:∀ s',Inv X pins (σ.set i (some v)) H s'→Q () s') (hf:X.fn x=true∨X.env.scope.names.lookup x=some .local:=by first | exact .inl rfl | exact .inr rfl | assumption):wpAny M A (storeName X.env x u) Q E s :=
  store_ok2 I hN hi hx r (fun s' I' _=>h s' I') hf
theorem Inv.call' {s':Shared} {ch:List Addr} (I:Inv X pins σ H s) (ho:s'.os=s.os) (u:Un (frs X.stack) ch H H' s.heap s'.heap) (hok:HOk X.prog X.w H' s'.heap) (hg:AllBare s'.gens)
    (hch:∀ b∈ch,(b∈X.ex∨X.s₀.heap.objs.size≤b)∧b≠X.env.locals∧(∀ x c,X.env.cells.lookup x=some c→c≠b)∧∀ p∈X.pn++pins,p.1≠b):Inv X pins σ H' s':=by
  obtain ⟨h',g',d',t',o'⟩:=s'
  have e:o'=s.os:=ho
  subst e
  exact I.call (g':=g') (t':=t') (d':=d') u hok hg hch
end
abbrev XK:=Value→Option Addr→Hp→Prop
abbrev St:=List (Option V)
abbrev VK:=V→Hp→Prop
abbrev TE:=St→Hp→VK→Prop
abbrev TT:=St→Hp→(Bool→Hp→Prop)→Prop
abbrev TA:=St→Hp→(List V→Hp→Prop)→Prop
structure Ends where
  nx:St→Hp→Prop
  rt:VK
  bk:St→Hp→Prop:=fun _ _=>False
  ct:St→Hp→Prop:=fun _ _=>False
abbrev TS:=Ends→St→Hp→Prop
def EP (X:Cx) (pins:List (Addr × Obj)) (σ:St) (Q:VK) (u:Value) (s':Shared):Prop:=∃ v H',Inv X pins σ H' s'∧RelV v u∧Q v H'
def TP (X:Cx) (pins:List (Addr × Obj)) (σ:St) (Q:Bool→Hp→Prop) (b:Bool) (s':Shared):Prop:=∃ H',Inv X pins σ H' s'∧Q b H'
def AP (X:Cx) (pins:List (Addr × Obj)) (σ:St) (Q:List V→Hp→Prop) (us:List Value) (s':Shared):Prop:=∃ vs H',Inv X pins σ H' s'∧Vals vs us∧Q vs H'
def SP (X:Cx) (pins:List (Addr × Obj)) (D:Ends) (f:Flow) (s':Shared):Prop :=
  match f with
  | .next=>∃ σ' H',Inv X pins σ' H' s'∧D.nx σ' H'
  | .brk=>∃ σ' H',Inv X pins σ' H' s'∧D.bk σ' H'
  | .cont=>∃ σ' H',Inv X pins σ' H' s'∧D.ct σ' H'
  | .ret u=>∃ v σ' H',Inv X pins σ' H' s'∧RelV v u∧D.rt v H'
def PE (X:Cx) (e:Expr) (t:TE):Prop :=
  ∀ (pins:List (Addr × Obj)) (s:Shared) (σ:St) (H:Hp) (Q:VK),Inv X pins σ H s→t σ H Q→wpAny (model X.prog X.w) X.A (eval e X.env) (EP X pins σ Q) X.xe s
def PT (X:Cx) (e:Expr) (t:TT):Prop :=
  ∀ (pins:List (Addr × Obj)) (s:Shared) (σ:St) (H:Hp) (Q:Bool→Hp→Prop),Inv X pins σ H s→t σ H Q→wpAny (model X.prog X.w) X.A (isTrue e X.env (eval e X.env)) (TP X pins σ Q) X.xe s
def PW (X:Cx) (e:Expr) (t:TT):Prop :=
  ∀ (whole:Sem Value) (pins:List (Addr × Obj)) (s:Shared) (σ:St) (H:Hp) (Q:Bool→Hp→Prop),Inv X pins σ H s→t σ H Q→wpAny (model X.prog X.w) X.A (isTrue e X.env whole) (TP X pins σ Q) X.xe s
theorem PW.pt {X:Cx} {e:Expr} {t:TT} (h:PW X e t):PT X e t:=h _
def PA (X:Cx) (es:List Expr) (t:TA):Prop :=
  ∀ (pos:Pos) (pins:List (Addr × Obj)) (s:Shared) (σ:St) (H:Hp) (Q:List V→Hp→Prop),Inv X pins σ H s→t σ H Q→wpAny (model X.prog X.w) X.A (spliced (backTo pos (starEach es X.env))) (AP X pins σ Q) X.xe s
def PS (X:Cx) (st:Stmt) (t:TS):Prop :=
  ∀ (pins:List (Addr × Obj)) (s:Shared) (σ:St) (H:Hp) (D:Ends),Inv X pins σ H s→t D σ H→wpAny (model X.prog X.w) X.A (exec st X.env) (SP X pins D) X.xe s
def PSs (X:Cx) (st:List Stmt) (t:TS):Prop :=
  ∀ (pins:List (Addr × Obj)) (s:Shared) (σ:St) (H:Hp) (D:Ends),Inv X pins σ H s→t D σ H→wpAny (model X.prog X.w) X.A (execs st X.env) (SP X pins D) X.xe s
theorem thn {α:Type} {t:Sem α} {Q Q':α→Shared→Prop} {M:Model} {A:Around} {E:Value→Shared→Prop} {s:Shared} (h:wpAny M A t Q E s) (hQ:∀ a s,Q a s→Q' a s):wpAny M A t Q' E s:=wpAny_mono h hQ fun _ _ x=>x
end L2
namespace L2
open PySem PySem.Spec PyProof.Rows
section
variable {X:Cx}
def tVar (i:Nat):TE:=fun σ H Q=>∃ v,σ[i]? = some (some v)∧Q v H
def tC (v:V):TE:=fun _ H Q=>Q v H
theorem pe_var {i:Nat} {x:Str} {pos:Pos} (hN:X.N[i]? = some x) (hv:Vis X.env.scope x) (hd:(x == ("__debug__" : Str))=false:=by decide) (hcd:(x == ("__classdict__" : Str))=false:=by decide):PE X (.Name x pos) (tVar i):=by
  intro pins s σ H Q I h
  obtain ⟨v,e,h⟩:=h
  obtain ⟨m,hn,hl⟩:=I.loc
  obtain ⟨u,r,l⟩:=hl i x v hN e hv
  have fin:EP X pins σ Q u s:=⟨v,H,I,r,h⟩
  rcases l with ⟨hk,hm⟩ | ⟨hk,c,hc,hcell⟩
  · exact wpAny_Name (wpAny_loadName_local I.ok.kind hk hn hm fin) hd
  · rcases hk with hk | hk
    · exact wpAny_Name (wpAny_loadName_cell I.ok.kind hk hc hcell fin) hd
    · exact wpAny_Name (wpAny_loadName_free I.ok.kind hk hc hcell fin hcd) hd
theorem pe_int {i j pos}:PE X (.Constant (.int i) j pos) (tC (.int i)):=fun _ _ _ H _ I h=>wpAny_Constant_int ⟨.int i,H,I.tok _,⟨_,rfl⟩,h⟩
theorem pe_bl {b j pos}:PE X (.Constant (.bool b) j pos) (tC (.bl b)):=fun _ _ _ H _ I h=>Constant_bool ⟨.bl b,H,I,rfl,h⟩
theorem pe_non {j pos}:PE X (.Constant .none j pos) (tC .non):=fun _ _ _ H _ I h=>Constant_none ⟨.non,H,I,rfl,h⟩
theorem pe_str {x j pos}:PE X (.Constant (.str x) j pos) (tC (.str x)):=fun _ _ _ H _ I h=>Calls.Constant_str ⟨.str x,H,I.tok _,⟨_,rfl⟩,h⟩
def Gl (X:Cx) (x:Str):Prop:=X.env.kindOf x=some .globalImplicit
theorem ld_glob {E:Value→Shared→Prop} {pins:List (Addr × Obj)} {s:Shared} {σ:St} {H:Hp} {x:Str} {u:Value} {pos:Pos} {Q:Value→Shared→Prop} (I:Inv X pins σ H s) (hg:Gl X x) (hm:X.mg x=some u) (h:Q u s)
    (hd:(x == ("__debug__" : Str))=false:=by decide):wpAny (model X.prog X.w) X.A (eval (.Name x pos) X.env) Q E s :=
  Calls.Name_function_global I.ok.kind hg (Calls.loadGlobal_global (by rw [I.ok.glob];exact I.mod.glob.keeps I.bk) hm h) hd
theorem ld_blt {E:Value→Shared→Prop} {pins:List (Addr × Obj)} {s:Shared} {σ:St} {H:Hp} {x:Str} {u:Value} {pos:Pos} {Q:Value→Shared→Prop} (I:Inv X pins σ H s) (hg:Gl X x) (hm:X.mg x=none) (hv:bootBuiltins x=some u) (h:Q u s)
    (hn:x≠"__name__":=by decide) (hd:(x == ("__debug__" : Str))=false:=by decide):wpAny (model X.prog X.w) X.A (eval (.Name x pos) X.env) Q E s:=by
  obtain ⟨mb,h1,h2⟩:=I.mod.blt
  exact Calls.Name_function_global I.ok.kind hg (Calls.loadGlobal_builtin (by rw [I.ok.glob];exact I.mod.glob.keeps I.bk) hm (by rw [I.ok.blt];exact h1.keeps I.bk) ((h2 x hn).trans hv) h) hd
theorem pe_bltn {x:Str} {v:V} {u:Value} {pos:Pos} (hg:Gl X x) (hm:X.mg x=none) (hv:bootBuiltins x=some u) (r:RelV v u) (hn:x≠"__name__":=by decide) (hd:(x == ("__debug__" : Str))=false:=by decide):PE X (.Name x pos) (tC v) :=
  fun _ _ _ H _ I h=>ld_blt I hg hm hv ⟨v,H,I,r,h⟩ hn hd
variable {a b:Expr} {ta tb:TE} {pos:Pos}
def tB (t:TE):TT:=fun σ H Q=>t σ H fun x H1=>∃ c,x=.bl c∧Q c H1
theorem pt_val {e:Expr} {t:TE} (h:PE X e t) (he:∀ whole,isTrue e X.env whole=(do let v ← whole;standAt e.pos;holding [v] (truthy v)):=by intro _;rfl):PT X e (tB t):=by
  intro pins s σ H Q I hw
  refine isTrue_plain (thn (h pins s σ H _ I hw) fun v s1 ⟨x,H1,I1,r1,q1⟩=>?_) (he _)
  obtain ⟨d,rfl,q⟩:=q1
  cases r1
  exact wpAny_truthy_bool ⟨H1,I1,q⟩
variable {tA tB':TT} {rest:List Expr}
def tAnd (t u:TT):TT:=fun σ H Q=>t σ H fun c H1=>if c=true then u σ H1 Q else Q false H1
def tOr (t u:TT):TT:=fun σ H Q=>t σ H fun c H1=>if c=true then Q true H1 else u σ H1 Q
def tNot (t:TT):TT:=fun σ H Q=>t σ H fun c H1=>Q (!c) H1
theorem pw_and1 (ha:PT X a tA):PW X (.BoolOp .And [a] pos) tA:=by
  intro wh pins s σ H Q I h
  refine isTrue_and (thn (ha pins s σ H Q I h) fun c s1 e=>?_)
  cases c with
  | true=>exact isTrue_and_nil e
  | false=>exact e
theorem pw_or1 (ha:PT X a tA):PW X (.BoolOp .Or [a] pos) tA:=by
  intro wh pins s σ H Q I h
  refine isTrue_or (thn (ha pins s σ H Q I h) fun c s1 e=>?_)
  cases c with
  | false=>exact isTrue_or_nil e
  | true=>exact e
theorem pw_and (ha:PT X a tA) (hb:PW X (.BoolOp .And (b :: rest) pos) tB'):PW X (.BoolOp .And (a :: b :: rest) pos) (tAnd tA tB'):=by
  intro wh pins s σ H Q I h
  refine isTrue_and (thn (ha pins s σ H _ I h) fun c s1 ⟨H1,I1,q1⟩=>?_)
  cases c with
  | true=>exact hb wh pins s1 σ H1 Q I1 q1
  | false=>exact ⟨H1,I1,q1⟩
theorem pw_or (ha:PT X a tA) (hb:PW X (.BoolOp .Or (b :: rest) pos) tB'):PW X (.BoolOp .Or (a :: b :: rest) pos) (tOr tA tB'):=by
  intro wh pins s σ H Q I h
  refine isTrue_or (thn (ha pins s σ H _ I h) fun c s1 ⟨H1,I1,q1⟩=>?_)
  cases c with
  | true=>exact ⟨H1,I1,q1⟩
  | false=>exact hb wh pins s1 σ H1 Q I1 q1
theorem pt_not (ha:PT X a tA):PT X (.UnaryOp .Not a pos) (tNot tA):=by
  intro pins s σ H Q I h
  exact isTrue_not (ha pins s σ H (fun c H1=>Q (!c) H1) I h)
def tIf (t:TT) (ta tb:TE):TE:=fun σ H Q=>t σ H fun c H1=>if c=true then ta σ H1 Q else tb σ H1 Q
theorem pe_ifExp {c:Expr} (hc:PT X c tA) (ha:PE X a ta) (hb:PE X b tb):PE X (.IfExp c a b pos) (tIf tA ta tb):=by
  intro pins s σ H Q I h
  refine wpAny_IfExp (thn (hc pins s σ H _ I h) fun d s1 ⟨H1,I1,q1⟩=>?_)
  cases d with
  | true=>exact ha pins s1 σ H1 Q I1 q1
  | false=>exact hb pins s1 σ H1 Q I1 q1
end
end L2
namespace L2
open PySem PySem.Spec PyProof.Rows
def SqL (K:PySem.W.Frag) (H:Hp) (a:Addr) (xs:List V):Prop :=
  Rd H a (.lst xs) ∨
    ∃ (o:Obj) (its:Array Value) (n:Nat),K.lookup a=some o∧o.cls=.type "list"∧o.dict=none∧o.data=.seq its n∧its.size≤sizeLine∧Vals xs its.toList
def SqT (K:PySem.W.Frag) (H:Hp) (a:Addr) (xs:List V):Prop :=
  Rd H a (.tup xs) ∨
    ∃ (o:Obj) (its:Array Value) (n:Nat),K.lookup a=some o∧o.cls=.type "tuple"∧o.data=.seq its n∧its.size≤sizeLine∧Vals xs its.toList
def absV:Value→Option V
  | .none=>some .non
  | .bool b=>some (.bl b)
  | .int i _=>some (.int i)
  | .str x _=>some (.str x)
  | .bytes b _=>some (.byt b)
  | .float b _=>some (.flt b)
  | .ref a=>some (.ref a)
  | .type n=>some (.ty n)
  | _=>none
theorem RelV.abs {x:V} {u:Value} (r:RelV x u):absV u=some x:=by
  cases x with
  | non=>cases r;rfl
  | bl _=>cases r;rfl
  | int _=>obtain ⟨t,rfl⟩:=r;rfl
  | str _=>obtain ⟨t,rfl⟩:=r;rfl
  | byt _=>obtain ⟨t,rfl⟩:=r;rfl
  | flt _=>obtain ⟨t,rfl⟩:=r;rfl
  | ref _=>cases r;rfl
  | ty _=>cases r;rfl
theorem RelV.inj {x y:V} {u:Value} (r:RelV x u) (q:RelV y u):x=y:=Option.some.inj (r.abs.symm.trans q.abs)
theorem Vals.inj:∀ {xs ys:List V} {us:List Value},Vals xs us→Vals ys us→xs=ys
  | _,_,_,.nil,.nil=>rfl
  | _,_,_,.cons r t,.cons r' t'=>by rw [r.inj r',Vals.inj t t']
section
variable {X:Cx} {pins:List (Addr × Obj)} {σ:St} {H:Hp} {s:Shared} {a:Addr} {xs ys:List V}
theorem SqL.of {K:PySem.W.Frag} (h:H a=some (.lst xs)):SqL K H a xs:=.inl (.inl h)
theorem SqT.of {K:PySem.W.Frag} (h:H a=some (.tup xs)):SqT K H a xs:=.inl (.inl h)
theorem Inv.list (I:Inv X pins σ H s) (h:SqL X.K H a xs):∃ its:List Value,Vals xs its∧PlainL s.heap a its.toArray∧xs.length≤sizeLine:=by
  rcases h with h | ⟨o,its,n,hk,hc,hd,hs,hz,r⟩
  · obtain ⟨z,its,n,r,e⟩:=h.ok I.hok
    exact ⟨its,r,⟨_,n,e,rfl,rfl,rfl⟩,z⟩
  · refine ⟨its.toList,r,⟨o,n,I.kIn a o hk,hc,hd,by simpa using hs⟩,?_⟩
    have e:=r.length
    simp only [Array.length_toList] at e
    omega
theorem Inv.tuple (I:Inv X pins σ H s) (h:SqT X.K H a xs):∃ its:List Value,Vals xs its∧IsTup s.heap a its.toArray∧xs.length≤sizeLine:=by
  rcases h with h | ⟨o,its,n,hk,hc,hs,hz,r⟩
  · obtain ⟨z,its,r,p,_⟩:=h.ok I.hok
    exact ⟨its,r,p,z⟩
  · refine ⟨its.toList,r,⟨o,I.kIn a o hk,hc,n,by simpa using hs⟩,?_⟩
    have e:=r.length
    simp only [Array.length_toList] at e
    omega
theorem Inv.list_inj (I:Inv X pins σ H s) (h:SqL X.K H a xs) (h':SqL X.K H a ys):xs=ys:=by
  obtain ⟨its,r,⟨o,n,e,_,_,d⟩,_⟩:=I.list h
  obtain ⟨its',r',⟨o',n',e',_,_,d'⟩,_⟩:=I.list h'
  rw [e] at e';cases e'
  rw [d] at d'
  injection d' with d1 _
  have:its=its':=by simpa using congrArg Array.toList d1
  subst this
  exact r.inj r'
theorem Inv.tuple_inj (I:Inv X pins σ H s) (h:SqT X.K H a xs) (h':SqT X.K H a ys):xs=ys:=by
  obtain ⟨its,r,⟨o,e,_,n,d⟩,_⟩:=I.tuple h
  obtain ⟨its',r',⟨o',e',_,n',d'⟩,_⟩:=I.tuple h'
  rw [e] at e';cases e'
  rw [d] at d'
  injection d' with d1 _
  have:its=its':=by simpa using congrArg Array.toList d1
  subst this
  exact r.inj r'
end
abbrev Cx.wish (X:Cx) (E:Value→Shared→Prop):Cx:={ X with xe:=E }
abbrev Cx.nox (X:Cx):Cx:=X.wish fun _ _=>False
theorem Cx.Ok.wish {X:Cx} (ok:X.Ok) (E:Value→Shared→Prop):(X.wish E).Ok :=
  ⟨ok.mod,ok.kind,ok.glob,ok.blt,ok.above,ok.inj,ok.has,ok.cab,ok.hd,ok.frames,ok.stk,ok.exf,ok.bs,ok.bsz,ok.noex,ok.exfs,ok.funs,ok.frf⟩
theorem Cx.Ok.unwish {X:Cx} {E:Value→Shared→Prop} (ok:(X.wish E).Ok):X.Ok :=
  ⟨ok.mod,ok.kind,ok.glob,ok.blt,ok.above,ok.inj,ok.has,ok.cab,ok.hd,ok.frames,ok.stk,ok.exf,ok.bs,ok.bsz,ok.noex,ok.exfs,ok.funs,ok.frf⟩
section
variable {X:Cx} {pins:List (Addr × Obj)} {σ:St} {H:Hp} {s:Shared} {E:Value→Shared→Prop}
theorem Inv.wish (I:Inv X pins σ H s) (E:Value→Shared→Prop):Inv (X.wish E) pins σ H s:=⟨I.ok.wish E,I.os,I.bare,I.base,I.loc,I.cell,I.free,I.freeC,I.pin,I.hok,I.len⟩
theorem Inv.unwish (I:Inv (X.wish E) pins σ H s):Inv X pins σ H s:=⟨I.ok.unwish,I.os,I.bare,I.base,I.loc,I.cell,I.free,I.freeC,I.pin,I.hok,I.len⟩
theorem SP.unwish {D:Ends} {f:Flow} {s':Shared} (h:SP (X.wish E) pins D f s'):SP X pins D f s':=by
  cases f with
  | next=>obtain ⟨σ',H',I,q⟩:=h;exact ⟨σ',H',I.unwish,q⟩
  | brk=>obtain ⟨σ',H',I,q⟩:=h;exact ⟨σ',H',I.unwish,q⟩
  | cont=>obtain ⟨σ',H',I,q⟩:=h;exact ⟨σ',H',I.unwish,q⟩
  | ret u=>obtain ⟨v,σ',H',I,r,q⟩:=h;exact ⟨v,σ',H',I.unwish,r,q⟩
theorem PE.nox {e:Expr} {t:TE} (h:PE X.nox e t):PE X e t:=fun pins s σ H Q I hw =>
  wpAny_mono (h pins s σ H Q (I.wish _) hw) (fun _ _ ⟨v,H',I',r,q⟩=>⟨v,H',I'.unwish,r,q⟩) fun _ _ z=>False.elim z
theorem PT.nox {e:Expr} {t:TT} (h:PT X.nox e t):PT X e t:=fun pins s σ H Q I hw =>
  wpAny_mono (h pins s σ H Q (I.wish _) hw) (fun _ _ ⟨H',I',q⟩=>⟨H',I'.unwish,q⟩) fun _ _ z=>False.elim z
theorem PSs.nox {st:List Stmt} {t:TS} (h:PSs X.nox st t):PSs X st t:=fun pins s σ H D I hw =>
  wpAny_mono (h pins s σ H D (I.wish _) hw) (fun _ _ q=>q.unwish) fun _ _ z=>False.elim z
end
section
variable {X:Cx} {st:Stmt} {rest:List Stmt} {t u:TS} {e:Expr} {te:TE} {pos:Pos}
def tNext:TS:=fun D σ H=>D.nx σ H
def tSeq (t u:TS):TS:=fun D σ H=>t { D with nx:=u D } σ H
theorem pss_nil:PSs X [] tNext:=fun _ _ σ H _ I h=>wpAny_execs_nil ⟨σ,H,I,h⟩
theorem pss_cons (h1:PS X st t) (h2:PSs X rest u):PSs X (st :: rest) (tSeq t u):=by
  intro pins s σ H D I h
  refine wpAny_execs_cons (thn (h1 pins s σ H { D with nx:=u D } I h) fun f s1 q=>?_)
  cases f with
  | next =>
    obtain ⟨σ',H',I',q⟩:=q
    exact h2 pins s1 σ' H' D I' q
  | ret v=>exact q
  | brk=>exact q
  | cont=>exact q
theorem pss_one (h1:PS X st t):PSs X [st] t:=by
  intro pins s σ H D I h
  refine wpAny_execs_cons (thn (h1 pins s σ H D I h) fun f s1 q=>?_)
  cases f with
  | next=>exact wpAny_execs_nil q
  | ret v=>exact q
  | brk=>exact q
  | cont=>exact q
theorem Inv.quiet {pins:List (Addr × Obj)} {σ:St} {H:Hp} {s:Shared} (I:Inv X pins σ H s):interactive X.env=false:=by simp [interactive,I.ok.kind]
def tDrop (te:TE):TS:=fun D σ H=>te σ H fun _ H1=>D.nx σ H1
theorem ps_expr (he:PE X e te) (hs:swapsWith e none pos.line X.env=pure false:=by rfl):PS X (.Expr e pos) (tDrop te):=by
  intro pins s σ H D I h
  exact wpAny_Expr_any (thn (he pins s σ H _ I h) fun v s1 ⟨x,H1,I1,r1,q1⟩=>⟨σ,H1,I1,q1⟩) I.quiet hs
def tRet (te:TE):TS:=fun D σ H=>te σ H D.rt
theorem ps_ret (he:PE X e te):PS X (.Return (some e) pos) (tRet te):=by
  intro pins s σ H D I h
  exact wpAny_Return_some (thn (he pins s σ H _ I h) fun v s1 ⟨x,H1,I1,r1,q1⟩=>⟨x,σ,H1,I1,r1,q1⟩)
def tIfS (c:TT) (t u:TS):TS:=fun D σ H=>c σ H fun b H1=>if b=true then t D σ H1 else u D σ H1
theorem ps_if {c:Expr} {a b:List Stmt} {tc:TT} (hc:PT X c tc) (ha:PSs X a t) (hb:PSs X b u):PS X (.If c a b pos) (tIfS tc t u):=by
  intro pins s σ H D I h
  refine wpAny_If (thn (hc pins s σ H _ I h) fun d s1 ⟨H1,I1,q1⟩=>?_)
  cases d with
  | true=>exact ha pins s1 σ H1 D I1 q1
  | false=>exact hb pins s1 σ H1 D I1 q1
end
abbrev TG:=V→St→Hp→(St→Hp→Prop)→Prop
abbrev TGs:=List V→St→Hp→(St→Hp→Prop)→Prop
def PG (X:Cx) (target:Expr) (t:TG):Prop :=
  ∀ (pins:List (Addr × Obj)) (s:Shared) (σ:St) (H:Hp) (v:V) (u:Value) (Q:St→Hp→Prop),Inv X pins σ H s→RelV v u→t v σ H Q →
    wpAny (model X.prog X.w) X.A (assign target X.env u) (fun _ s'=>∃ σ' H',Inv X pins σ' H' s'∧Q σ' H') X.xe s
def PGs (X:Cx) (ts:List Expr) (t:TGs):Prop :=
  ∀ (pins:List (Addr × Obj)) (s:Shared) (σ:St) (H:Hp) (vs:List V) (us:List Value) (Q:St→Hp→Prop),Inv X pins σ H s→Vals vs us→t vs σ H Q →
    wpAny (model X.prog X.w) X.A (assignInOrder ((assignEach ts X.env).map (·.2)) us) (fun _ s'=>∃ σ' H',Inv X pins σ' H' s'∧Q σ' H') X.xe s
abbrev TSet:=V→V→V→Hp→(Hp→Prop)→Prop
def PSet (X:Cx) (t:TSet):Prop :=
  ∀ (pins:List (Addr × Obj)) (s:Shared) (σ:St) (H:Hp) (o i v:V) (ov iv u:Value) (Q:Hp→Prop),Inv X pins σ H s→RelV o ov→RelV i iv→RelV v u→t o i v H Q →
    wpAny (model X.prog X.w) X.A (setItem ov iv u) (fun _ s'=>∃ H',Inv X pins σ H' s'∧Q H') X.xe s
section
variable {X:Cx} {pos:Pos}
def gName (i:Nat):TG:=fun v σ H Q=>Q (σ.set i (some v)) H
theorem pg_name {i:Nat} {x:Str} (hN:X.N.Nodup) (hi:X.N[i]? = some x) (hx:Loc X.env.scope x) (hf:X.fn x=true∨X.env.scope.names.lookup x=some .local:=by first | exact .inl rfl | exact .inr rfl | assumption):PG X (.Name x pos) (gName i):=by
  intro pins s σ H v u Q I r h
  exact wpAny_assign_Name (store_ok I hN hi hx r (fun s' I'=>⟨_,H,I',h⟩) hf)
def gNil:TGs:=fun vs σ H Q=>vs=[]∧Q σ H
def gCons (t:TG) (u:TGs):TGs:=fun vs σ H Q=>∃ v r,vs=v :: r∧t v σ H fun σ' H'=>u r σ' H' Q
theorem pgs_nil:PGs X [] gNil:=by
  intro pins s σ H vs us Q I r h
  obtain ⟨e,h⟩:=h
  subst e
  cases r
  exact assignInOrder_nil ⟨σ,H,I,h⟩
theorem pgs_cons {e:Expr} {es:List Expr} {t:TG} {u:TGs} (h1:PG X e t) (h2:PGs X es u)
    (hs:(assignEach (e :: es) X.env).map (·.2)=assign e X.env :: (assignEach es X.env).map (·.2):=by rfl):PGs X (e :: es) (gCons t u):=by
  intro pins s σ H vs us Q I r h
  obtain ⟨v,vr,e1,h⟩:=h
  subst e1
  cases r with
  | cons r rr =>
    rw [hs]
    refine assignInOrder_cons (thn (h1 pins s σ H _ _ _ I r h) fun _ s1 ⟨σ1,H1,I1,q1⟩=>?_)
    exact h2 pins s1 σ1 H1 _ _ Q I1 rr q1
def gTup (K:PySem.W.Frag) (n:Nat) (t:TGs):TG:=fun v σ H Q=>∃ a xs,v=.ref a∧SqT K H a xs∧xs.length=n∧t xs σ H Q
theorem pg_tup {es:List Expr} {k:Nat} {t:TGs} {n:Nat} (hc:X.calm=true) (h:PGs X es t)
    (hn:(assignEach es X.env).length=n:=by rfl) (hst:(assignEach es X.env).findIdx? (·.1)=none:=by rfl):PG X (.Tuple es k pos) (gTup X.K n t):=by
  intro pins s σ H v u Q I r hw
  obtain ⟨a,xs,e1,hq,hl,hw⟩:=hw
  subst e1
  cases r
  obtain ⟨its,rv,ht,hz⟩:=I.tuple hq
  refine assign_Tuple_tuple (I.ok.hd hc) ht (by simp [hn,← hl,rv.length]) hst fun h' hx=>?_
  have I1:Inv X pins σ H { s with heap:=h' }:=I.kept (t':=s.toks) fun b o e=>hx b o (Nat.ne_of_lt (Heap.lt_size e)) e
  exact h pins _ σ H xs _ Q I1 (by simpa using rv) hw
def gSub (to ti:TE) (t:TSet):TG:=fun v σ H Q=>to σ H fun o H1=>ti σ H1 fun i H2=>t o i v H2 fun H3=>Q σ H3
theorem pg_sub {o i:Expr} {to ti:TE} {t:TSet} (ho:PE X o to) (hi:PE X i ti) (hs:PSet X t)
    (ha:∀ v,assign (.Subscript o i pos) X.env v=(do
      let ov ← holding [v] (eval o X.env)
      let iv ← holding [v,ov] (eval i X.env)
      standAt pos
      holding [v,ov,iv] (setItem ov iv v)
      release [v,ov,iv] []):=by intro _;rfl):PG X (.Subscript o i pos) (gSub to ti t):=by
  intro pins s σ H v u Q I r h
  rw [ha]
  refine wpAny_bind (wpAny_holding (thn (ho pins s σ H _ I h) fun ov s1 ⟨x,H1,I1,r1,q1⟩=>?_))
  refine wpAny_bind (wpAny_holding (thn (hi pins s1 σ H1 _ I1 q1) fun iv s2 ⟨y,H2,I2,r2,q2⟩=>?_))
  refine wpAny_bind (wpAny_standAt (wpAny_bind (wpAny_holding (thn (hs pins s2 σ H2 x y v ov iv u _ I2 r1 r2 r q2) fun _ s3 ⟨H3,I3,q3⟩=>?_))))
  exact wpAny_release ⟨σ,H3,I3,q3⟩
def tAsg (te:TE) (g:TG):TS:=fun D σ H=>te σ H fun x H1=>g x σ H1 D.nx
theorem ps_asg {tg e:Expr} {te:TE} {g:TG} (he:PE X e te) (hg:PG X tg g) (hs:swapsWithSole [tg] e pos.line X.env=pure false:=by rfl) (hw:swappedStores [tg] e X.env=pure none:=by rfl)
    (h1:(assignEach [tg] X.env).map (·.2)=[assign tg X.env]:=by rfl):PS X (.Assign [tg] e pos) (tAsg te g):=by
  intro pins s σ H D I h
  refine wpAny_Assign_stores (thn (he pins s σ H _ I h) fun v s1 ⟨x,H1,I1,r1,q1⟩=>?_) hs hw
  rw [h1]
  exact thn (hg pins s1 σ H1 x v _ I1 r1 q1) fun _ s2 q=>q
theorem ps_set {i:Nat} {x:Str} {e:Expr} {te:TE} {pos':Pos} (hN:X.N.Nodup) (hi:X.N[i]? = some x) (hx:Loc X.env.scope x) (he:PE X e te) (hs:swapsWith e (some (.Name x pos')) pos.line X.env=pure false:=by rfl) (hf:X.fn x=true∨X.env.scope.names.lookup x=some .local:=by first | exact .inl rfl | exact .inr rfl | assumption) :
    PS X (.Assign [.Name x pos'] e pos) (tAsg te (gName i)):=by
  intro pins s σ H D I h
  refine wpAny_Assign_Name (thn (he pins s σ H _ I h) fun v s1 ⟨y,H1,I1,r1,q1⟩=>?_) hs
  exact store_ok I1 hN hi hx r1 (fun s2 I2=>⟨_,H1,I2,q1⟩) hf
end
section
variable {X:Cx} {pos:Pos}
def tWhile (c:TT) (tb:TS):TS:=fun D σ H=>∃ W:Nat→St→Hp→Prop,(∃ m,W m σ H)∧∀ m σ H,W m σ H →
  c σ H fun b H1=>if b=true then ∃ N:St→Hp→Prop,(∀ σ' H',N σ' H'→∃ m',m' < m∧W m' σ' H')∧tb { D with nx:=N,ct:=N,bk:=D.nx } σ H1 else D.nx σ H1
theorem ps_while {c:Expr} {body:List Stmt} {tc:TT} {tb:TS} (hp:PassesOwn (model X.prog X.w) X.A X.env X.xe) (hc:PT X c tc) (hb:PSs X body tb):PS X (.While c body [] pos) (tWhile tc tb):=by
  intro pins s σ H D I h
  obtain ⟨W,⟨m0,w0⟩,turn⟩:=h
  refine wpAny_While (codeAny_whileLoop (fun n s'=>∃ σ' H',Inv X pins σ' H' s'∧W n σ' H') ?_ m0 ⟨σ,H,I,w0⟩)
  rintro n s1 ⟨σ1,H1,I1,w1⟩
  refine wpAny_passesOwn hp (thn (hc pins s1 σ1 H1 _ I1 (turn n σ1 H1 w1)) fun b s2 ⟨H2,I2,q2⟩=>?_)
  cases b with
  | true =>
    obtain ⟨N,hN,q2⟩:=q2
    rw [if_pos rfl]
    refine wpAny_passesOwn hp (thn (hb pins s2 σ1 H2 _ I2 q2) fun f s3 q3=>?_)
    cases f with
    | next =>
      obtain ⟨σ3,H3,I3,n3⟩:=q3
      obtain ⟨m',hm,w3⟩:=hN σ3 H3 n3
      exact ⟨m',hm,σ3,H3,I3,w3⟩
    | cont =>
      obtain ⟨σ3,H3,I3,n3⟩:=q3
      obtain ⟨m',hm,w3⟩:=hN σ3 H3 n3
      exact ⟨m',hm,σ3,H3,I3,w3⟩
    | brk=>exact q3
    | ret v=>exact q3
  | false =>
    rw [if_neg Bool.false_ne_true]
    exact wpAny_execs_nil ⟨σ1,H2,I2,q2⟩
end
structure It where
  go:Nat→Hp→Prop
  yld:Nat→Hp→V→Hp→Prop
  stop:Nat→Hp→Prop
def FpOk (X:Cx) (pins:List (Addr × Obj)) (H:Hp) (b:Addr):Prop :=
  H b=none∧b≠X.env.locals∧b ∉ X.fs∧(b∈X.ex∨X.s₀.heap.objs.size≤b)∧(∀ x c,X.env.cells.lookup x=some c→c≠b)∧∀ p∈X.pn++pins,p.1≠b
theorem Inv.fpOk {X:Cx} {pins:List (Addr × Obj)} {σ:St} {H H':Hp} {s:Shared} {b:Addr} (I:Inv X pins σ H s) (hb:s.heap.objs.size≤b) (hn:H' b=none):FpOk X pins H' b:=by
  refine ⟨hn,Nat.ne_of_gt (Nat.lt_of_lt_of_le I.lt hb),I.nofs hb,.inr (Nat.le_trans I.sz hb),fun x c e z=>?_,fun p hp z=>?_⟩
  · obtain ⟨v,q⟩:=I.cell x c e
    exact absurd (Nat.lt_of_lt_of_le q.lt (by rw [z];exact hb)) (Nat.lt_irrefl _)
  · exact absurd (Nat.lt_of_lt_of_le (Heap.lt_size (I.pin p hp).1) (by rw [z];exact hb)) (Nat.lt_irrefl _)
structure Turn (P:Program) (w:World) (K:PySem.W.Frag) (tg:Expr) (J:It) (fp:List Addr) (it:Addr) (tn:Nat→Heap→Prop):Prop where
  mem:it∈fp
  obj:∀ i h,tn i h→∀ b∈fp,∃ o,h.get? b=some o∧∀ v,o.data≠.cell v
  keep:∀ i h h',tn i h→(∀ b∈fp,∀ o,h.get? b=some o→h'.get? b=some o)→tn i h'
  item:∀ (X:Cx),X.prog=P→X.w=w→X.K=K→X.calm=true→∀ (i:Nat) (pins:List (Addr × Obj)) (s:Shared) (σ:St) (H:Hp) (E:Value→Shared→Prop),Inv X pins σ H s→(∀ b∈fp,FpOk X pins H b)→tn i s.heap→J.go i H →
    wpAny (model P w) X.A (pyNext (.ref it)) (fun r s1=>∃ u,r=some u ∧
      wpAny (model P w) X.A (letOwnedTupleGo tg (.ref it) u) (fun _ s2=>∃ x H',Inv X pins σ H' s2∧RelV x u∧J.yld i H x H'∧tn (i+1) s2.heap∧∀ b∈fp,H' b=none) E s1) E s
  done:∀ (X:Cx),X.prog=P→X.w=w→X.K=K→X.calm=true→∀ (i:Nat) (pins:List (Addr × Obj)) (s:Shared) (σ:St) (H:Hp) (E:Value→Shared→Prop),Inv X pins σ H s→(∀ b∈fp,FpOk X pins H b)→tn i s.heap→J.stop i H →
    wpAny (model P w) X.A (pyNext (.ref it)) (fun r s1=>r=none∧Inv X pins σ H s1) E s
  self:∀ (A:Around) (i:Nat) (s:Shared) (Q:Value→Shared→Prop) (E:Value→Shared→Prop),tn i s.heap→Q (.ref it) s→wpAny (model P w) A (pyIter (.ref it)) Q E s
abbrev TI:=St→Hp→(It→Hp→Prop)→Prop
def PIE (X:Cx) (pins:List (Addr × Obj)) (σ:St) (tg:Expr) (R:It→Hp→Prop) (itv:Value) (s2:Shared):Prop :=
  ∃ (it:Addr) (fp:List Addr) (tn:Nat→Heap→Prop) (J:It) (H':Hp),itv=.ref it∧Inv X pins σ H' s2∧Turn X.prog X.w X.K tg J fp it tn∧tn 0 s2.heap∧(∀ b∈fp,FpOk X pins H' b)∧R J H'
def PI (X:Cx) (tg iter:Expr) (wi:TI):Prop :=
  ∀ (pins:List (Addr × Obj)) (s:Shared) (σ:St) (H:Hp) (R:It→Hp→Prop),Inv X pins σ H s→wi σ H R →
    wpAny (model X.prog X.w) X.A (eval iter X.env) (fun v s1=>wpAny (model X.prog X.w) X.A (pyIter v) (PIE X pins σ tg R) X.xe s1) X.xe s
theorem go_of {M:Model} {A:Around} {E:Value→Shared→Prop} {s:Shared} {tg:Expr} {it:Addr} {u:Value} {o:Obj} {n:String} {vs:Array Value} {Q:Unit→Shared→Prop} (ho:s.heap.get? it=some o) (hc:o.cls=.type n) (hd:o.data=.fields vs)
    (hn:["enumerate","zip","dict_itemiterator","dict_reverseitemiterator","odict_iterator","itertools.zip_longest","itertools.pairwise"].contains n=false) (hQ:Q () s):wpAny M A (letOwnedTupleGo tg (.ref it) u) Q E s:=by
  unfold letOwnedTupleGo
  cases tg <;> first
    | exact wpAny_pure hQ
    | (cases u <;> first
        | exact wpAny_pure hQ
        | (refine wpAny_bind (wpAny_load ho ?_)
           rw [hc,hd]
           show wpAny M A (if (["enumerate","zip","dict_itemiterator","dict_reverseitemiterator","odict_iterator","itertools.zip_longest","itertools.pairwise"].contains n && vs[0]? == some (rawInt _))=true then _ else _) Q E s
           rw [if_neg (by intro h;rw [hn,Bool.false_and] at h;cases h)]
           exact wpAny_pure hQ))
def Itl (K:PySem.W.Frag) (a:Addr):It :=
  ⟨fun i H=>∃ xs x,SqL K H a xs∧xs[i]? = some x,fun i H x H'=>H'=H∧∀ xs,SqL K H a xs→xs[i]? = some x,fun i H=>∃ xs,SqL K H a xs∧xs.length≤i⟩
def Itt (K:PySem.W.Frag) (a:Addr):It :=
  ⟨fun i H=>∃ xs x,SqT K H a xs∧xs[i]? = some x,fun i H x H'=>H'=H∧∀ xs,SqT K H a xs→xs[i]? = some x,fun i H=>∃ xs,SqT K H a xs∧xs.length≤i⟩
def Itr (lo:Int) (n:Nat):It:=⟨fun i _=>i < n,fun i H x H'=>H'=H∧x=.int (lo+i),fun i _=>n≤i⟩
theorem turn_list {P:Program} {w:World} {K:PySem.W.Frag} {tg:Expr} (a it:Addr):Turn P w K tg (Itl K a) [it] it (fun i h=>h.IsListIter it a i) where
  mem:=by simp
  obj:=fun i h st b hb=>by
    have e:b=it:=by simpa using hb
    subst e
    obtain ⟨o,e,c,d⟩:=st
    exact ⟨o,e,fun v z=>by rw [d] at z;cases z⟩
  keep:=fun i h h' st k=>st.at fun o e=>k it (by simp) o e
  item:=by
    intro X hP hw hK hc i pins s σ H E I hf st hg
    subst hP hw hK
    obtain ⟨xs,x,hq,hx⟩:=hg
    obtain ⟨its,rv,p,hz⟩:=I.list hq
    obtain ⟨u,hu,ru⟩:=rv.get hx
    obtain ⟨f0,f1,f2,f3,f4,f5⟩:=hf it (by simp)
    refine wpAny_pyNext_list_item st p.isList (x:=u) (by simpa using hu) fun h' st' sb=>?_
    have I1:Inv X pins σ H { s with heap:=h' }:=I.turned (t':=s.toks) (fun b o hb e=>(sb.2 b hb).trans e) f0 f1 f3 f4 f5
    obtain ⟨o,e,c,d⟩:=id st'
    exact ⟨u,rfl,go_of (s:={ s with heap:=h' }) e c d (by decide) ⟨x,H,I1,ru,⟨rfl,fun ys hy=>by rw [I.list_inj hy hq];exact hx⟩,st',fun b hb=>(hf b hb).1⟩⟩
  done:=by
    intro X hP hw hK hc i pins s σ H E I hf st hg
    subst hP hw hK
    obtain ⟨xs,hq,hx⟩:=hg
    obtain ⟨its,rv,p,hz⟩:=I.list hq
    obtain ⟨f0,f1,f2,f3,f4,f5⟩:=hf it (by simp)
    have hl:=rv.length
    exact wpAny_pyNext_list_end (I.ok.hd hc) st p.isList (by simp;omega) fun h' eb=>⟨rfl,I.turned (t':=s.toks) (fun b o hb e=>eb b o hb e) f0 f1 f3 f4 f5⟩
  self:=fun _ _ _ _ _ st h=>wpAny_pyIter_listiter st h
theorem turn_tuple {P:Program} {w:World} {K:PySem.W.Frag} {tg:Expr} (a it:Addr):Turn P w K tg (Itt K a) [it] it (fun i h=>h.IsTupleIter it a i) where
  mem:=by simp
  obj:=fun i h st b hb=>by
    have e:b=it:=by simpa using hb
    subst e
    obtain ⟨o,e,c,d⟩:=st
    exact ⟨o,e,fun v z=>by rw [d] at z;cases z⟩
  keep:=fun i h h' st k=>st.at fun o e=>k it (by simp) o e
  item:=by
    intro X hP hw hK hc i pins s σ H E I hf st hg
    subst hP hw hK
    obtain ⟨xs,x,hq,hx⟩:=hg
    obtain ⟨its,rv,p,hz⟩:=I.tuple hq
    obtain ⟨u,hu,ru⟩:=rv.get hx
    obtain ⟨f0,f1,f2,f3,f4,f5⟩:=hf it (by simp)
    refine wpAny_pyNext_tuple_item st (show s.heap.IsTuple a its.toArray from p) (x:=u) (by simpa using hu) fun h' st' sb=>?_
    have I1:Inv X pins σ H { s with heap:=h' }:=I.turned (t':=s.toks) (fun b o hb e=>(sb.2 b hb).trans e) f0 f1 f3 f4 f5
    obtain ⟨o,e,c,d⟩:=id st'
    exact ⟨u,rfl,go_of (s:={ s with heap:=h' }) e c d (by decide) ⟨x,H,I1,ru,⟨rfl,fun ys hy=>by rw [I.tuple_inj hy hq];exact hx⟩,st',fun b hb=>(hf b hb).1⟩⟩
  done:=by
    intro X hP hw hK hc i pins s σ H E I hf st hg
    subst hP hw hK
    obtain ⟨xs,hq,hx⟩:=hg
    obtain ⟨its,rv,p,hz⟩:=I.tuple hq
    obtain ⟨f0,f1,f2,f3,f4,f5⟩:=hf it (by simp)
    have hl:=rv.length
    exact wpAny_pyNext_tuple_end (I.ok.hd hc) st (show s.heap.IsTuple a its.toArray from p) (by simp;omega) fun h' eb=>⟨rfl,I.turned (t':=s.toks) (fun b o hb e=>eb b o hb e) f0 f1 f3 f4 f5⟩
  self:=fun _ _ _ _ _ st h=>wpAny_pyIter_tupleiter st h
theorem turn_range {P:Program} {w:World} {K:PySem.W.Frag} {tg:Expr} (it:Addr) (lo:Int) (n:Nat):Turn P w K tg (Itr lo n) [it] it (fun i h=>IsRangeIter h it (lo+(i:Nat) * 1) ((n:Int) - (i:Nat)) 1) where
  mem:=by simp
  obj:=fun i h st b hb=>by
    have e:b=it:=by simpa using hb
    subst e
    exact ⟨_,st,fun v z=>by
      have z':Data.fields _=Data.cell v:=z
      cases z'⟩
  keep:=fun i h h' st k=>k it (by simp) _ st
  item:=by
    intro X hP hw hK hc i pins s σ H E I hf st hg
    subst hP hw hK
    obtain ⟨f0,f1,f2,f3,f4,f5⟩:=hf it (by simp)
    have W:=Walks.range (prog:=X.prog) (w:=X.w) (I.ok.hd hc) it lo 1 n
    refine W.item i s _ _ hg st fun v h' tk hv st' kk=>?_
    obtain ⟨t,rfl⟩:=hv
    have I1:Inv X pins σ H { s with heap:=h',toks:=tk }:=I.turned (fun b o hb e=>kk b o (by simpa using hb) e) f0 f1 f3 f4 f5
    refine ⟨_,rfl,go_of (s:={ s with heap:=h',toks:=tk }) (n:="range_iterator") st' rfl rfl (by decide) ⟨.int (lo+i),H,I1,⟨t,?_⟩,⟨rfl,rfl⟩,st',fun b hb=>(hf b hb).1⟩⟩
    rw [Int.mul_one]
  done:=by
    intro X hP hw hK hc i pins s σ H E I hf st hg
    subst hP hw hK
    obtain ⟨f0,f1,f2,f3,f4,f5⟩:=hf it (by simp)
    exact wpAny_pyNext_range_end (I.ok.hd hc) st (by have:n≤i:=hg;omega) fun h' eb=>⟨rfl,I.turned (t':=s.toks) (fun b o hb e=>eb b o hb e) f0 f1 f3 f4 f5⟩
  self:=fun _ _ _ _ _ st h=>wpAny_pyIter_rangeiter st h
end L2
namespace L2
open PySem PySem.Spec PyProof.Rows
section
variable {X:Cx} {tg:Expr}
def iList (K:PySem.W.Frag) (tl:TE):TI:=fun σ H R=>tl σ H fun x H1=>∃ a,x=.ref a∧(∃ xs,SqL K H1 a xs)∧R (Itl K a) H1
def iTup (K:PySem.W.Frag) (tl:TE):TI:=fun σ H R=>tl σ H fun x H1=>∃ a,x=.ref a∧(∃ xs,SqT K H1 a xs)∧R (Itt K a) H1
theorem pi_list {l:Expr} {tl:TE} (hl:PE X l tl):PI X tg l (iList X.K tl):=by
  intro pins s σ H R I h
  refine thn (hl pins s σ H _ I h) fun v s1 ⟨x,H1,I1,r1,q1⟩=>?_
  obtain ⟨a,e,⟨xs,hq⟩,q⟩:=q1
  subst e
  cases r1
  obtain ⟨its,rv,p,hz⟩:=I1.list hq
  refine wpAny_pyIter_list p.isList ?_
  refine ⟨s1.heap.objs.size,[s1.heap.objs.size],_,_,H1,rfl,I1.kept (t':=s1.toks) fun b o e=>Heap.get?_push_of_some _ e,turn_list a _,⟨_,Heap.get?_push_size _ rfl,rfl,rfl⟩,fun b hb=>?_,q⟩
  have e:b=s1.heap.objs.size:=by simpa using hb
  subst e
  exact I1.fpOk (Nat.le_refl _) (I1.hok.fresh (Nat.le_refl _))
theorem pi_tup {l:Expr} {tl:TE} (hl:PE X l tl):PI X tg l (iTup X.K tl):=by
  intro pins s σ H R I h
  refine thn (hl pins s σ H _ I h) fun v s1 ⟨x,H1,I1,r1,q1⟩=>?_
  obtain ⟨a,e,⟨xs,hq⟩,q⟩:=q1
  subst e
  cases r1
  obtain ⟨its,rv,p,hz⟩:=I1.tuple hq
  refine wpAny_pyIter_tuple (show s1.heap.IsTuple a its.toArray from p) ?_
  refine ⟨s1.heap.objs.size,[s1.heap.objs.size],_,_,H1,rfl,I1.kept (t':=s1.toks) fun b o e=>Heap.get?_push_of_some _ e,turn_tuple a _,⟨_,Heap.get?_push_size _ rfl,rfl,rfl⟩,fun b hb=>?_,q⟩
  have e:b=s1.heap.objs.size:=by simpa using hb
  subst e
  exact I1.fpOk (Nat.le_refl _) (I1.hok.fresh (Nat.le_refl _))
theorem range_it {pins:List (Addr × Obj)} {σ:St} {H:Hp} {s:Shared} {R:It→Hp→Prop} {E:Value→Shared→Prop} {lo hi:Int} {t u v:Tok} {tk:Nat} (I:Inv X pins σ H s) (h1:-(2 ^ 62)≤lo) (h2:lo < 2 ^ 62) (h3:-(2 ^ 62)≤hi) (h4:hi < 2 ^ 62)
    (q:R (Itr lo (hi - lo).toNat) H):wpAny (model X.prog X.w) X.A (pyIter (.ref s.heap.objs.size)) (PIE X pins σ tg R) E { s with heap:=s.heap.push { cls:=.type "range",data:=.fields #[.int lo t,.int hi u,.int 1 v] },toks:=tk }:=by
  refine wpAny_pyIter_range (IsRange.new ..) (small_one h1 h2 h3 h4) ?_
  have I1:Inv X pins σ H { s with heap:=s.heap.push { cls:=.type "range",data:=.fields #[.int lo t,.int hi u,.int 1 v] },toks:=tk }:=I.kept fun b o e=>Heap.get?_push_of_some _ e
  refine ⟨(s.heap.push { cls:=.type "range",data:=.fields #[.int lo t,.int hi u,.int 1 v] }).objs.size,[(s.heap.push { cls:=.type "range",data:=.fields #[.int lo t,.int hi u,.int 1 v] }).objs.size],_,_,H,rfl,
    I1.kept (t':=tk) fun b o e=>Heap.get?_push_of_some _ e,turn_range _ lo (hi - lo).toNat,?_,fun b hb=>?_,q⟩
  · have e1:lo+((0:Nat):Int) * 1=lo:=by simp
    have e2:(((hi - lo).toNat:Nat):Int) - ((0:Nat):Int)=Builtin.Range.rangeSize lo hi 1:=by rw [rangeSize_one];split <;> omega
    show IsRangeIter _ _ (lo+((0:Nat):Int) * 1) ((((hi - lo).toNat:Nat):Int) - ((0:Nat):Int)) 1
    rw [e1,e2]
    exact Heap.get?_push_size _ rfl
  · have e:b=(s.heap.push { cls:=.type "range",data:=.fields #[.int lo t,.int hi u,.int 1 v] }).objs.size:=by simpa using hb
    subst e
    exact I1.fpOk (Nat.le_refl _) (I1.hok.fresh (Nat.le_refl _))
def iRng1 (ta:TA):TI:=fun σ H R=>ta σ H fun vs H1=>∃ j:Int,vs=[.int j]∧-(2 ^ 62)≤j∧j < 2 ^ 62∧R (Itr 0 j.toNat) H1
theorem pi_range1 {a:Expr} {ta:TA} {p pos:Pos} (hg:Gl X "range") (hm:X.mg "range" = none) (ha:PA X [a] ta) (hs:starEach [a] X.env=[(false,eval a X.env)]:=by rfl):PI X tg (.Call (.Name "range" p) [a] [] pos) (iRng1 ta):=by
  intro pins s σ H R I h
  refine Call_ (ld_blt I hg hm boot_range (PyProof.Rows.callWith_type1 (thn (ha pos pins s σ H _ I h) fun us s1 ⟨vs,H1,I1,r1,q1⟩=>?_) hs rfl))
  obtain ⟨j,e,q1,q2,q⟩:=q1
  subst e
  cases r1 with
  | cons r rr =>
    cases rr
    obtain ⟨t,rfl⟩:=r
    exact call_range_1 (range_it I1 (by omega) (by omega) q1 q2 (by simpa using q))
def tFor (wi:TI) (g:TG) (tb:TS):TS:=fun D σ H=>wi σ H fun J H1=>∃ W:Nat→Nat→St→Hp→Prop,(∃ m,W 0 m σ H1)∧∀ i m σ H,W i m σ H →
  (J.stop i H∧D.nx σ H)∨(J.go i H∧∃ N:St→Hp→Prop,(∀ σ' H',N σ' H'→∃ m',m' < m∧W (i+1) m' σ' H')∧∀ x H',J.yld i H x H'→g x σ H' fun σ2 H2=>tb { D with nx:=N,ct:=N,bk:=D.nx } σ2 H2)
def pinsAt (fp:List Addr) (h:Heap):List (Addr × Obj):=fp.filterMap fun b=>(h.get? b).map fun o=>(b,o)
theorem mem_pinsAt {fp:List Addr} {h:Heap} {b:Addr} {o:Obj} (hb:b∈fp) (e:h.get? b=some o):(b,o)∈pinsAt fp h:=List.mem_filterMap.mpr ⟨b,hb,by rw [e];rfl⟩
theorem of_pinsAt {fp:List Addr} {h:Heap} {p:Addr × Obj} (hp:p∈pinsAt fp h):p.1∈fp∧h.get? p.1=some p.2:=by
  obtain ⟨b,hb,e⟩:=List.mem_filterMap.mp hp
  cases q:h.get? b with
  | none=>rw [q] at e;cases e
  | some o =>
    rw [q] at e
    have e':(b,o)=p:=Option.some.inj e
    subst e'
    exact ⟨hb,q⟩
theorem Inv.pinned {pins:List (Addr × Obj)} {σ:St} {H:Hp} {s:Shared} {fp:List Addr} (I:Inv X pins σ H s) (hf:∀ b∈fp,FpOk X pins H b) (ho:∀ b∈fp,∃ o,s.heap.get? b=some o∧∀ v,o.data≠.cell v):Inv X (pins++pinsAt fp s.heap) σ H s :=
  I.pins_of fun p hp=>(List.mem_append.mp hp).elim (fun z=>I.pin p (List.mem_append_right _ z)) fun z=>by
    obtain ⟨hb,e⟩:=of_pinsAt z
    obtain ⟨f0,f1,f2,_⟩:=hf p.1 hb
    obtain ⟨o,e',d⟩:=ho p.1 hb
    rw [e] at e';cases e'
    exact ⟨e,f0,f1,f2,d⟩
theorem Inv.unpinned {pins pl:List (Addr × Obj)} {σ:St} {H:Hp} {s:Shared} (I:Inv X (pins++pl) σ H s):Inv X pins σ H s:=I.pins_of fun p hp=>I.pin p (List.mem_append_right _ (List.mem_append_left _ hp))
theorem ps_for {iter:Expr} {body:List Stmt} {wi:TI} {g:TG} {tb:TS} {pos:Pos} (hp:PassesOwn (model X.prog X.w) X.A X.env X.xe) (hc:X.calm=true) (hi:PI X tg iter wi) (hg:PG X tg g) (hb:PSs X body tb)
    (hs:∀ x,foldedSetIterable iter X.env x=pure x:=by intro _;rfl):PS X (.For tg iter body [] pos) (tFor wi g tb):=by
  intro pins s σ H D I h
  refine wpAny_For (thn (hi pins s σ H _ I h) fun v s1 h1=>thn h1 fun itv s2 h2=>?_) hs
  obtain ⟨it,fp,tn,J,H2,e,I2,T,st2,f2,W,⟨m0,w0⟩,turn⟩:=h2
  subst e
  -- what stays true of the iterator's objects through the loop
  have stat:∀ {H':Hp},(∀ b∈fp,H' b=none)→∀ b∈fp,FpOk X pins H' b:=fun hn b hb=>⟨hn b hb,(f2 b hb).2⟩
  refine codeAny_forLoop_any (fun n s'=>∃ i σ' H',Inv X pins σ' H' s'∧tn i s'.heap∧(∀ b∈fp,H' b=none)∧W i n σ' H') ?_ m0 ⟨0,σ,H2,I2,st2,fun b hb=>(f2 b hb).1,w0⟩
  rintro n s3 ⟨i,σ3,H3,I3,st3,fr3,w3⟩
  rcases turn i n σ3 H3 w3 with ⟨stop,qn⟩ | ⟨go,N,hN,step⟩
  · refine wpAny_passesOwn hp (thn (T.done X rfl rfl rfl hc i pins s3 σ3 H3 X.xe I3 (stat fr3) st3 stop) fun r s4 ⟨hr,I4⟩=>?_)
    subst hr
    exact wpAny_execs_nil ⟨σ3,H3,I4,qn⟩
  · refine wpAny_passesOwn hp (thn (T.item X rfl rfl rfl hc i pins s3 σ3 H3 X.xe I3 (stat fr3) st3 go) fun r s4 ⟨u,hr,h4⟩=>?_)
    subst hr
    refine wpAny_passesOwn hp (thn h4 fun _ s5 ⟨x,H5,I5,r5,y5,st5,fr5⟩=>?_)
    have I5':=I5.pinned (stat fr5) (T.obj _ _ st5)
    refine wpAny_passesOwn hp (thn (hg _ s5 σ3 H5 x u _ I5' r5 (step x H5 y5)) fun _ s6 ⟨σ6,H6,I6,q6⟩=>?_)
    refine wpAny_passesOwn hp (thn (hb _ s6 σ6 H6 _ I6 q6) fun f s7 q7=>?_)
    have again:∀ {σ7:St} {H7:Hp},Inv X (pins++pinsAt fp s5.heap) σ7 H7 s7→N σ7 H7→∃ m,m < n∧∃ i σ' H',Inv X pins σ' H' s7∧tn i s7.heap∧(∀ b∈fp,H' b=none)∧W i m σ' H':=fun {σ7 H7} I7 n7=>by
      obtain ⟨m',hm,w7⟩:=hN σ7 H7 n7
      refine ⟨m',hm,i+1,σ7,H7,I7.unpinned,T.keep _ _ _ st5 fun b hb o e=>(I7.pin (b,o) (List.mem_append_right _ (List.mem_append_right _ (mem_pinsAt hb e)))).1,fun b hb=>?_,w7⟩
      obtain ⟨o,e,d⟩:=T.obj _ _ st5 b hb
      exact (I7.pin (b,o) (List.mem_append_right _ (List.mem_append_right _ (mem_pinsAt hb e)))).2.1
    cases f with
    | next=>obtain ⟨σ7,H7,I7,n7⟩:=q7;exact again I7 n7
    | cont=>obtain ⟨σ7,H7,I7,n7⟩:=q7;exact again I7 n7
    | brk=>obtain ⟨σ7,H7,I7,q7⟩:=q7;exact ⟨σ7,H7,I7.unpinned,q7⟩
    | ret v=>obtain ⟨x7,σ7,H7,I7,r7,q7⟩:=q7;exact ⟨x7,σ7,H7,I7.unpinned,r7,q7⟩
end
end L2
namespace L2
open PySem PySem.Spec PyProof.Rows
abbrev R2:=V→V→Hp→VK→Prop
def OpR (X:Cx) (f:Value→Value→Sem Value) (r:R2):Prop :=
  ∀ (pins:List (Addr × Obj)) (s:Shared) (σ:St) (H:Hp) (x y:V) (v u:Value) (Q:VK),Inv X pins σ H s→RelV x v→RelV y u→r x y H Q →
    wpAny (model X.prog X.w) X.A (f v u) (EP X pins σ Q) X.xe s
def UnR (X:Cx) (f:Value→Sem Value) (r:V→Hp→VK→Prop):Prop :=
  ∀ (pins:List (Addr × Obj)) (s:Shared) (σ:St) (H:Hp) (x:V) (v:Value) (Q:VK),Inv X pins σ H s→RelV x v→r x H Q →
    wpAny (model X.prog X.w) X.A (f v) (EP X pins σ Q) X.xe s
def CallR (X:Cx) (f:Value) (r:List V→Hp→VK→Prop):Prop :=
  ∀ (pins:List (Addr × Obj)) (s:Shared) (σ:St) (H:Hp) (xs:List V) (us:List Value) (Q:VK),Inv X pins σ H s→Vals xs us→r xs H Q →
    wpAny (model X.prog X.w) X.A (call f us) (EP X pins σ Q) X.xe s
def tOp (r:R2) (ta tb:TE):TE:=fun σ H Q=>ta σ H fun x H1=>tb σ H1 fun y H2=>r x y H2 Q
def tUn (r:V→Hp→VK→Prop) (ta:TE):TE:=fun σ H Q=>ta σ H fun x H1=>r x H1 Q
def rI (C:Int→Int→Prop) (g:Int→Int→V):R2:=fun x y H Q=>∃ i j,x=.int i∧y=.int j∧C i j∧Q (g i j) H
def rI0 (g:Int→Int→V):R2:=fun x y H Q=>∃ i j,x=.int i∧y=.int j∧Q (g i j) H
def rU (g:Int→V):V→Hp→VK→Prop:=fun x H Q=>∃ i,x=.int i∧Q (g i) H
section
variable {X:Cx} {a b c:Expr} {ta tb tc:TE} {pos:Pos}
theorem binT (ha:PE X a ta) (hb:PE X b tb) {pins:List (Addr × Obj)} {s:Shared} {σ:St} {H:Hp} {R:V→V→Hp→Prop} (I:Inv X pins σ H s)
    (h:ta σ H fun x H1=>tb σ H1 fun y H2=>R x y H2) {Q:Value→Shared→Prop} {f:Value→Value→Sem Value}
    (hf:∀ v u s2 x y H2,Inv X pins σ H2 s2→RelV x v→RelV y u→R x y H2→wpAny (model X.prog X.w) X.A (f v u) Q X.xe s2) :
    wpAny (model X.prog X.w) X.A (eval a X.env) (fun v s₁=>wpAny (model X.prog X.w) X.A (eval b X.env) (fun u s₂=>wpAny (model X.prog X.w) X.A (f v u) Q X.xe s₂) X.xe s₁) X.xe s:=by
  refine thn (ha pins s σ H _ I h) fun v s1 ⟨x,H1,I1,r1,q1⟩=>?_
  refine thn (hb pins s1 σ H1 _ I1 q1) fun u s2 ⟨y,H2,I2,r2,q2⟩=>?_
  exact hf v u s2 x y H2 I2 r1 r2 q2
theorem pe_op {op:Operator} {r:R2} (ho:OpR X (binaryOp op) r) (ha:PE X a ta) (hb:PE X b tb):PE X (.BinOp a op b pos) (tOp r ta tb):=by
  intro pins s σ H Q I h
  exact wpAny_BinOp (binT ha hb I h fun v u s2 x y H2 I2 rx ry q=>ho pins s2 σ H2 x y v u Q I2 rx ry q)
theorem pe_un {op:UnaryOp} {r:V→Hp→VK→Prop} (ho:UnR X (unaryOp op) r) (ha:PE X a ta):PE X (.UnaryOp op a pos) (tUn r ta):=by
  intro pins s σ H Q I h
  exact UnaryOp_ (thn (ha pins s σ H _ I h) fun v s1 ⟨x,H1,I1,r1,q1⟩=>ho pins s1 σ H1 x v Q I1 r1 q1)
theorem opI {f:Value→Value→Sem Value} {C:Int→Int→Prop} {g:Int→Int→Int}
    (rule:∀ (i j:Int) (t u:Tok) (s:Shared) (Q:Value→Shared→Prop) (E:Value→Shared→Prop),C i j→Q (.int (g i j) s.toks) { s with toks:=s.toks+1 }→wpAny (model X.prog X.w) X.A (f (.int i t) (.int j u)) Q E s) :
    OpR X f (rI C fun i j=>.int (g i j)):=by
  intro pins s σ H x y v u Q I rx ry h
  obtain ⟨i,j,rfl,rfl,hc,q⟩:=h
  obtain ⟨t,rfl⟩:=rx
  obtain ⟨t',rfl⟩:=ry
  exact rule i j t t' s _ _ hc ⟨.int (g i j),H,I.tok _,⟨_,rfl⟩,q⟩
theorem opI0 {f:Value→Value→Sem Value} {g:Int→Int→Int}
    (rule:∀ (i j:Int) (t u:Tok) (s:Shared) (Q:Value→Shared→Prop) (E:Value→Shared→Prop),Q (.int (g i j) s.toks) { s with toks:=s.toks+1 }→wpAny (model X.prog X.w) X.A (f (.int i t) (.int j u)) Q E s) :
    OpR X f (rI0 fun i j=>.int (g i j)):=by
  intro pins s σ H x y v u Q I rx ry h
  obtain ⟨i,j,rfl,rfl,q⟩:=h
  obtain ⟨t,rfl⟩:=rx
  obtain ⟨t',rfl⟩:=ry
  exact rule i j t t' s _ _ ⟨.int (g i j),H,I.tok _,⟨_,rfl⟩,q⟩
theorem opB0 {f:Value→Value→Sem Value} {g:Int→Int→Bool}
    (rule:∀ (i j:Int) (t u:Tok) (s:Shared) (Q:Value→Shared→Prop) (E:Value→Shared→Prop),Q (.bool (g i j)) s→wpAny (model X.prog X.w) X.A (f (.int i t) (.int j u)) Q E s) :
    OpR X f (rI0 fun i j=>.bl (g i j)):=by
  intro pins s σ H x y v u Q I rx ry h
  obtain ⟨i,j,rfl,rfl,q⟩:=h
  obtain ⟨t,rfl⟩:=rx
  obtain ⟨t',rfl⟩:=ry
  exact rule i j t t' s _ _ ⟨.bl (g i j),H,I,rfl,q⟩
def CDiv (i j:Int):Prop:=0 < j∧j < 1073741824
def CPow (i j:Int):Prop:=0≤j∧j≤1000000∧i.natAbs < 2 ^ 64
def CMul (i j:Int):Prop:=(-(2 ^ 64) < i∧i < 2 ^ 64)∨(-(2 ^ 64) < j∧j < 2 ^ 64)
theorem CMul.ok {i j:Int} (h:CMul i j):IntMulOk i j:=by
  rcases h with ⟨h1,h2⟩ | ⟨h1,h2⟩
  · exact .of_left (intBits_le_64 h1 h2)
  · exact .of_right (intBits_le_64 h1 h2)
theorem op_add:OpR X (binaryOp .Add) (rI0 fun i j=>.int (i+j)):=opI0 fun _ _ _ _ _ _ _ q=>add_int q
theorem op_sub:OpR X (binaryOp .Sub) (rI0 fun i j=>.int (i - j)):=opI0 fun _ _ _ _ _ _ _ q=>sub_int q
theorem op_mul:OpR X (binaryOp .Mult) (rI CMul fun i j=>.int (i * j)):=opI fun _ _ _ _ _ _ _ hc q=>mul_int q hc.ok
theorem op_fdiv:OpR X (binaryOp .FloorDiv) (rI CDiv fun i j=>.int (i / j)):=opI fun i j _ _ _ _ _ hc q=>by
  have h1:(0:Int) < j:=hc.1
  have h2:j < 1073741824:=hc.2
  exact floordiv_int (by omega) (by rw [Int.fdiv_eq_ediv_of_nonneg i (by omega)];exact q) (.inl (PyProof.noPylong_small (by omega)))
theorem op_mod:OpR X (binaryOp .Mod) (rI (fun _ j=>0 < j) fun i j=>.int (i % j)):=opI fun i j _ _ _ _ _ hc q=>by
  have h1:(0:Int) < j:=hc
  exact mod_int' (by omega) (by rw [Int.fmod_eq_emod_of_nonneg i (by omega)];exact q)
theorem op_pow:OpR X (binaryOp .Pow) (rI CPow fun i j=>.int (i ^ j.toNat)):=opI fun _ _ _ _ _ _ _ hc q=>pow_int_small hc.1 hc.2.1 hc.2.2 q
theorem unI {f:Value→Sem Value} {g:Int→Int}
    (rule:∀ (i:Int) (t:Tok) (s:Shared) (Q:Value→Shared→Prop) (E:Value→Shared→Prop),Q (.int (g i) s.toks) { s with toks:=s.toks+1 }→wpAny (model X.prog X.w) X.A (f (.int i t)) Q E s) :
    UnR X f (rU fun i=>.int (g i)):=by
  intro pins s σ H x v Q I rx h
  obtain ⟨i,rfl,q⟩:=h
  obtain ⟨t,rfl⟩:=rx
  exact rule i t s _ _ ⟨.int (g i),H,I.tok _,⟨_,rfl⟩,q⟩
theorem un_neg:UnR X (unaryOp .USub) (rU fun i=>.int (-i)):=unI fun _ _ _ _ _ q=>neg_int q
end
def scal:V→V→Bool
  | .non,.non=>true | .non,.int _=>true | .int _,.non=>true | .non,.bl _=>true | .bl _,.non=>true | .non,.str _=>true | .str _,.non=>true
  | .int _,.int _=>true | .bl _,.bl _=>true | .str _,.str _=>true | .byt _,.byt _=>true
  | .int _,.str _=>true | .str _,.int _=>true | .bl _,.str _=>true | .str _,.bl _=>true
  | _,_=>false
def rEq:R2:=fun x y H Q=>scal x y=true∧Q (.bl (decide (x=y))) H
def rNe:R2:=fun x y H Q=>scal x y=true∧Q (.bl (!decide (x=y))) H
theorem dec_int {i j:Int}:decide (V.int i=V.int j)=(i == j):=by
  rw [Bool.eq_iff_iff]
  simp
theorem dec_bl {i j:Bool}:decide (V.bl i=V.bl j)=(i == j):=by
  rw [Bool.eq_iff_iff]
  simp
theorem dec_str {i j:Str}:decide (V.str i=V.str j)=(i == j):=by
  rw [Bool.eq_iff_iff]
  simp
theorem dec_byt {i j:Array UInt8}:decide (V.byt i=V.byt j)=(i.toList == j.toList):=by
  rw [Bool.eq_iff_iff]
  cases i
  cases j
  simp
section
variable {X:Cx} {a b c:Expr} {ta tb tc:TE} {pos:Pos}
theorem fin_bl {pins:List (Addr × Obj)} {σ:St} {H:Hp} {s:Shared} {Q:VK} {k k':Bool} (I:Inv X pins σ H s) (q:Q (.bl k) H) (e:k=k'):EP X pins σ Q (.bool k') s:=by
  subst e
  exact ⟨.bl k,H,I,rfl,q⟩
theorem op_eq:OpR X (compareOp .Eq) rEq:=by
  intro pins s σ H x y v u Q I rx ry h
  obtain ⟨hs,q⟩:=h
  cases x with
  | non =>
    cases rx
    cases y with
    | non=>cases ry;exact PySem.EqNone.eq_none_none (fin_bl I q (by simp))
    | bl j=>cases ry;exact PySem.EqNone.eq_none_bool (fin_bl I q (by simp))
    | int j=>obtain ⟨t',rfl⟩:=ry;exact PySem.EqNone.eq_none_int (fin_bl I q (by simp))
    | str j=>obtain ⟨t',rfl⟩:=ry;exact PySem.EqNone.eq_none_str (fin_bl I q (by simp))
    | _=>exact absurd (show false=true from hs) Bool.false_ne_true
  | bl i =>
    cases rx
    cases y with
    | non=>cases ry;exact PySem.EqNone.eq_bool_none (fin_bl I q (by simp))
    | bl j=>cases ry;exact eq_bool (fin_bl I q dec_bl)
    | str j=>obtain ⟨t',rfl⟩:=ry;exact PySem.EqMixed.eq_bool_str (fin_bl I q (by simp))
    | _=>exact absurd (show false=true from hs) Bool.false_ne_true
  | int i =>
    obtain ⟨t,rfl⟩:=rx
    cases y with
    | non=>cases ry;exact PySem.EqNone.eq_int_none (fin_bl I q (by simp))
    | int j=>obtain ⟨t',rfl⟩:=ry;exact eq_int (fin_bl I q dec_int)
    | str j=>obtain ⟨t',rfl⟩:=ry;exact PySem.EqMixed.eq_int_str (fin_bl I q (by simp))
    | _=>exact absurd (show false=true from hs) Bool.false_ne_true
  | str i =>
    obtain ⟨t,rfl⟩:=rx
    cases y with
    | non=>cases ry;exact PySem.EqNone.eq_str_none (fin_bl I q (by simp))
    | bl j=>cases ry;exact PySem.EqMixed.eq_str_bool (fin_bl I q (by simp))
    | int j=>obtain ⟨t',rfl⟩:=ry;exact PySem.EqMixed.eq_str_int (fin_bl I q (by simp))
    | str j=>obtain ⟨t',rfl⟩:=ry;exact eq_str (fin_bl I q dec_str)
    | _=>exact absurd (show false=true from hs) Bool.false_ne_true
  | byt i =>
    obtain ⟨t,rfl⟩:=rx
    cases y with
    | byt j=>obtain ⟨t',rfl⟩:=ry;exact PySem.W.eq_bytes (fin_bl I q dec_byt)
    | _=>exact absurd (show false=true from hs) Bool.false_ne_true
  | _=>cases y <;> exact absurd (show false=true from hs) Bool.false_ne_true
theorem op_ne:OpR X (compareOp .NotEq) rNe:=by
  intro pins s σ H x y v u Q I rx ry h
  obtain ⟨hs,q⟩:=h
  cases x with
  | non =>
    cases rx
    cases y with
    | non=>cases ry;exact PySem.EqNone.ne_none_none (fin_bl I q (by simp))
    | bl j=>cases ry;exact PySem.EqNone.ne_none_bool (fin_bl I q (by simp))
    | int j=>obtain ⟨t',rfl⟩:=ry;exact PySem.EqNone.ne_none_int (fin_bl I q (by simp))
    | str j=>obtain ⟨t',rfl⟩:=ry;exact PySem.EqNone.ne_none_str (fin_bl I q (by simp))
    | _=>exact absurd (show false=true from hs) Bool.false_ne_true
  | bl i =>
    cases rx
    cases y with
    | non=>cases ry;exact PySem.EqNone.ne_bool_none (fin_bl I q (by simp))
    | bl j=>cases ry;exact ne_bool (fin_bl I q (congrArg not dec_bl))
    | str j=>obtain ⟨t',rfl⟩:=ry;exact PySem.EqMixed.ne_bool_str (fin_bl I q (by simp))
    | _=>exact absurd (show false=true from hs) Bool.false_ne_true
  | int i =>
    obtain ⟨t,rfl⟩:=rx
    cases y with
    | non=>cases ry;exact PySem.EqNone.ne_int_none (fin_bl I q (by simp))
    | int j=>obtain ⟨t',rfl⟩:=ry;exact ne_int (fin_bl I q (congrArg not dec_int))
    | str j=>obtain ⟨t',rfl⟩:=ry;exact PySem.EqMixed.ne_int_str (fin_bl I q (by simp))
    | _=>exact absurd (show false=true from hs) Bool.false_ne_true
  | str i =>
    obtain ⟨t,rfl⟩:=rx
    cases y with
    | non=>cases ry;exact PySem.EqNone.ne_str_none (fin_bl I q (by simp))
    | bl j=>cases ry;exact PySem.EqMixed.ne_str_bool (fin_bl I q (by simp))
    | int j=>obtain ⟨t',rfl⟩:=ry;exact PySem.EqMixed.ne_str_int (fin_bl I q (by simp))
    | str j=>obtain ⟨t',rfl⟩:=ry;exact ne_str (fin_bl I q (congrArg not dec_str))
    | _=>exact absurd (show false=true from hs) Bool.false_ne_true
  | byt i =>
    obtain ⟨t,rfl⟩:=rx
    cases y with
    | byt j=>obtain ⟨t',rfl⟩:=ry;exact PySem.W.ne_bytes (fin_bl I q (congrArg not dec_byt))
    | _=>exact absurd (show false=true from hs) Bool.false_ne_true
  | _=>cases y <;> exact absurd (show false=true from hs) Bool.false_ne_true
theorem op_lt:OpR X (compareOp .Lt) (rI0 fun i j=>.bl (decide (i < j))):=opB0 fun _ _ _ _ _ _ _ q=>lt_int q
theorem op_gt:OpR X (compareOp .Gt) (rI0 fun i j=>.bl (decide (j < i))):=opB0 fun _ _ _ _ _ _ _ q=>gt_int q
theorem op_ge:OpR X (compareOp .GtE) (rI0 fun i j=>.bl (decide (j≤i))):=opB0 fun _ _ _ _ _ _ _ q=>ge_int q
theorem op_isN:OpR X (compareOp .Is) (fun x y H Q=>y=.non∧Q (.bl (decide (x=.non))) H):=by
  intro pins s σ H x y v u Q I rx ry h
  obtain ⟨rfl,q⟩:=h
  cases ry
  refine is_none_gen (fin_bl I q ?_)
  cases x <;> first
    | (cases rx;rfl)
    | (obtain ⟨t,rfl⟩:=rx;rfl)
theorem OpR.or {f:Value→Value→Sem Value} {r r':R2} (h:OpR X f r) (h':OpR X f r'):OpR X f (fun x y H Q=>r x y H Q∨r' x y H Q):=by
  intro pins s σ H x y v u Q I rx ry q
  rcases q with q | q
  · exact h pins s σ H x y v u Q I rx ry q
  · exact h' pins s σ H x y v u Q I rx ry q
theorem nomark (b:Expr) {op:CmpOp} (h:op≠.In:=by decide) (h2:op≠.NotIn:=by decide):behindInMarks op b=false:=by
  have e1:(op == CmpOp.In)=false:=by cases op <;> first | rfl | exact absurd rfl h
  have e2:(op == CmpOp.NotIn)=false:=by cases op <;> first | rfl | exact absurd rfl h2
  cases b <;> simp [behindInMarks,e1,e2]
theorem pe_cmpR {op:CmpOp} {r:R2} (ho:OpR X (compareOp op) r) (ha:PE X a ta) (hb:PE X b tb) (hm:behindInMarks op b=false):PE X (.Compare a [op] [b] pos) (tOp r ta tb):=by
  intro pins s σ H Q I h
  exact wpAny_Compare1 (binT ha hb I h fun v u s2 x y H2 I2 rx ry q=>ho pins s2 σ H2 x y v u Q I2 rx ry q) hm
def tTest (t:TE):TT:=fun σ H Q=>t σ H fun x H'=>∃ k,x=.bl k∧Q k H'
theorem pt_cmpR {op:CmpOp} {r:R2} (ho:OpR X (compareOp op) r) (ha:PE X a ta) (hb:PE X b tb) (hm:behindInMarks op b=false):PT X (.Compare a [op] [b] pos) (tTest (tOp r ta tb)):=by
  intro pins s σ H Q I h
  refine wpAny_isTrue_Compare1 (thn (ha pins s σ H _ I h) fun v s1 ⟨x,H1,I1,r1,q1⟩=>thn (hb pins s1 σ H1 _ I1 q1) fun u s2 ⟨y,H2,I2,r2,q2⟩ =>
    thn (ho pins s2 σ H2 x y v u _ I2 r1 r2 q2) fun c s3 ⟨z,H3,I3,r3,k,e,q3⟩=>?_) hm
  subst e
  cases r3
  exact wpAny_truthy_bool ⟨H3,I3,q3⟩
theorem line63:(sizeLine:Nat) < 2 ^ 63:=by rw [sizeLine_eq];decide
theorem op_add_str:OpR X (binaryOp .Add) (fun x y H Q=>∃ i j,x=.str i∧y=.str j∧i.length+j.length≤sizeLine∧Q (.str (i++j)) H):=by
  intro pins s σ H x y v u Q I rx ry h
  obtain ⟨i,j,rfl,rfl,hz,q⟩:=h
  obtain ⟨t,rfl⟩:=rx
  obtain ⟨t',rfl⟩:=ry
  exact add_str (fun t' tk=>⟨.str (i++j),H,I.tok _,⟨_,rfl⟩,q⟩) hz
theorem vals1 {x:V} {us:List Value} (r:Vals [x] us):∃ u,us=[u]∧RelV x u:=by
  cases r with
  | cons r1 r2=>cases r2;exact ⟨_,rfl,r1⟩
theorem vals2 {x y:V} {us:List Value} (r:Vals [x,y] us):∃ u w',us=[u,w']∧RelV x u∧RelV y w':=by
  cases r with
  | cons r1 r2 =>
    cases r2 with
    | cons r3 r4=>cases r4;exact ⟨_,_,rfl,r1,r3⟩
theorem call_int1:CallR X (.type "int") (fun xs H Q=>(∃ i,xs=[.int i]∧Q (.int i) H)∨∃ k,xs=[.bl k]∧Q (.int (if k then 1 else 0)) H):=by
  intro pins s σ H xs us Q I r h
  rcases h with ⟨i,rfl,q⟩ | ⟨k,rfl,q⟩
  · obtain ⟨u,rfl,t,rfl⟩:=vals1 r
    exact call_int_int ⟨.int i,H,I,⟨_,rfl⟩,q⟩
  · obtain ⟨u,rfl,r1⟩:=vals1 r
    cases r1
    exact call_int_bool ⟨.int (if k then 1 else 0),H,I.tok _,⟨_,rfl⟩,q⟩
end
end L2
namespace L2
open PySem PySem.Spec PyProof.Rows
structure ObjM (h:Heap) (x dx C:Addr) (mA:Str→Option Value):Prop where
  obj:h.get? x=some (PySem.W.instObj C dx)
  ns:h.Ns1 dx mA
  ne:dx≠x
theorem lookIn_ns {h:Heap} {dx:Addr} {mA:Str→Option Value} (n:h.Ns1 dx mA):∃ od,h.get? dx=some od∧∀ name,PySem.W.lookIn name od=some (mA name):=by
  obtain ⟨o,es,ep,ho,hd,hk,_,hm⟩:=n
  refine ⟨o,ho,fun name=>?_⟩
  have e:=hm name
  unfold nsFind findBy at e
  rw [← Array.find?_toList] at e
  unfold PySem.W.lookIn
  rw [hd]
  dsimp only
  split
  · rename_i y q
    rw [q] at e
    exact congrArg some e
  · rename_i q
    rw [q] at e
    have a:es.toList.any (·.refKey)=false:=by
      rw [List.any_eq_false]
      intro y hy
      obtain ⟨z,t,hkey⟩:=hk y (Array.mem_toList_iff.mp hy)
      simp [DictEntry.refKey,hkey]
    have a':¬ es.toList.any (·.refKey)=true:=by rw [a];exact Bool.false_ne_true
    rw [if_neg a']
    exact congrArg some e
theorem ObjM.look {h:Heap} {x dx C:Addr} {mA:Str→Option Value} (I:ObjM h x dx C mA):∃ od,PySem.W.InstAt h x (PySem.W.instObj C dx) C (some od)∧∀ name,PySem.W.lookIn name od=some (mA name) :=
  let ⟨od,ho,hl⟩:=lookIn_ns I.ns
  ⟨od,⟨I.obj,rfl,rfl,ho⟩,hl⟩
section
variable {prog:Program} {w:World} {A:Around} {E:Value→Shared→Prop} {s:Shared} {K:PySem.W.Frag} {x dx C f:Addr} {mA:Str→Option Value} {name:Str} {v:Value}
end
theorem RelO.some_of {v:V} {o:Option Value} (r:RelO (some v) o):∃ u,o=some u∧RelV v u:=by
  cases o with
  | none=>exact (show False from r).elim
  | some u=>exact ⟨u,rfl,r⟩
section
variable {P:Program} {w:World} {H H':Hp} {h h':Heap} {a C dx:Addr} {fs fs':List (Str × V)}
theorem ins_get (hok:HOk P w H h) (e:H a=some (.ins C dx fs)):∃ mA,ObjM h a dx C mA∧(∀ f,RelO (fs.lookup f) (mA f))∧PySem.Within mA (fs.map (·.1))∧fs.length≤1000∧H dx=some (.own a):=by
  obtain ⟨d,z,ne,ob,mA,n,r,q⟩:=(show ObjOk P w H h a (.ins C dx fs) from hok a _ e)
  exact ⟨mA,⟨ob,n,ne⟩,r,q,z,d⟩
end
structure Cls (K:PySem.W.Frag) (C:Addr):Prop where
  pg:PySem.W.plainGet K C Str.empty=true
  hd:PySem.W.hasDictIn K C=true
  po:PySem.W.plainOver K C=true
  sa:PySem.W.findIn K (.ref C) "__setattr__" = some (some (.builtin "object.__setattr__"))
theorem Cls.get {K:PySem.W.Frag} {C:Addr} (c:Cls K C) (f:Str):PySem.W.plainGet K C f=true:=c.pg
structure Con (K:PySem.W.Frag) (C:Addr) (f:Str) (v:V) (u:Value):Prop where
  at_:PySem.W.findIn K (.ref C) f=some (some u)
  rel:RelV v u
  get:PySem.W.specialIn K u "__get__" = some none
  cp:PySem.W.copiedNames.contains f=false
structure Meth (K:PySem.W.Frag) (C:Addr) (m:Str) (f:Addr):Prop where
  at_:PySem.W.findIn K (.ref C) m=some (some (.ref f))
  fn:PySem.W.isFn K (.ref f)=true
  kp:PySem.W.keepIn K (.ref f)=true
section
variable {X:Cx} {pins:List (Addr × Obj)} {σ:St} {H:Hp} {s:Shared} {a C dx:Addr} {fs:List (Str × V)} {f:Str} {v:V} {A:Around} {E:Value→Shared→Prop}
theorem Inv.made (I:Inv X pins σ H s):Inv X pins σ (upd (upd H s.heap.objs.size (.own (s.heap.objs.size+1))) (s.heap.objs.size+1) (.ins C s.heap.objs.size []))
    { s with heap:=(s.heap.push PySem.W.emptyDict).push (PySem.W.instObj C s.heap.objs.size) }:=by
  have e1:(s.heap.push PySem.W.emptyDict).get? s.heap.objs.size=some PySem.W.emptyDict:=Heap.get?_push_size s.heap rfl
  have e2:((s.heap.push PySem.W.emptyDict).push (PySem.W.instObj C s.heap.objs.size)).get? (s.heap.objs.size+1)=some (PySem.W.instObj C s.heap.objs.size):=by
    have:=Heap.get?_push_size (s.heap.push PySem.W.emptyDict) (o:=PySem.W.instObj C s.heap.objs.size) rfl
    rwa [Heap.size_push] at this
  have e3:(s.heap.push PySem.W.emptyDict).Ns s.heap.objs.size (fun _=>none):=⟨PySem.W.emptyDict,#[],_,e1,rfl,(fun e he=>absurd he (by simp)),fun _=>rfl⟩
  have I1:=I.laid (a:=s.heap.objs.size) (o:=.own (s.heap.objs.size+1)) (h':=s.heap.push PySem.W.emptyDict) (t':=s.toks) (fun b u q=>Heap.get?_push_of_some _ q) (Nat.le_refl _) ⟨_,e1⟩
  refine I1.laid (a:=s.heap.objs.size+1) (o:=.ins C s.heap.objs.size []) (t':=s.toks) (fun b u q=>Heap.get?_push_of_some _ q) (Nat.le_of_eq (Heap.size_push _ _)) ?_
  have ne:s.heap.objs.size≠s.heap.objs.size+1:=Nat.ne_of_lt (Nat.lt_succ_self _)
  refine ⟨by rw [upd_ne ne,upd_same],Nat.zero_le _,ne,e2,fun _=>none,(Heap.Ns1.of_empty e3).at fun o q=>Heap.get?_push_of_some _ q,fun _=>True.intro,fun y hy=>absurd rfl hy⟩
end
section
variable {X:Cx} {o e value:Expr} {f:Str} {pos pos' tpos:Pos} {ta tv:TE}
end
section
variable {X:Cx} {pins:List (Addr × Obj)} {σ:St} {H:Hp} {s:Shared} {A:Around} {E:Value→Shared→Prop} {Q:Value→Shared→Prop} {c:Value} {b:Bool}
inductive TyOf (K:PySem.W.Frag) (H:Hp):V→Value→Prop where
  | non:TyOf K H .non (.type "NoneType")
  | bl (x:Bool):TyOf K H (.bl x) (.type "bool")
  | int (i:Int):TyOf K H (.int i) (.type "int")
  | str (x:Str):TyOf K H (.str x) (.type "str")
  | flt (x:UInt64):TyOf K H (.flt x) (.type "float")
  | lst {a:Addr} {xs:List V} (e:H a=some (.lst xs)):TyOf K H (.ref a) (.type "list")
  | frz {a:Addr} {o:Obj} {xs:List V} (e:H a=some (.frz o (.lst xs))):TyOf K H (.ref a) (.type "list")
  | tup {a:Addr} {xs:List V} (e:H a=some (.tup xs)):TyOf K H (.ref a) (.type "tuple")
  | dK {a:Addr} {kvs:List (Key × V)} (e:H a=some (.dK kvs)):TyOf K H (.ref a) (.type "dict")
  | dT {a:Addr} {kvs:List (List Key × V)} (e:H a=some (.dT kvs)):TyOf K H (.ref a) (.type "dict")
  | ins {a C dx:Addr} {fs:List (Str × V)} (e:H a=some (.ins C dx fs)) (cl:Cls K C) (ha:PySem.W.findIn K (.ref C) "__class__" = some (some (.builtin "object.__class__")))
      (hn:PySem.W.specialIn K (.builtin "object.__class__") "__get__" = some (some (.builtin "getset_descriptor.__get__"))) (htk:PySem.W.takesIn K (.builtin "object.__class__")=some true)
      (hm:PySem.W.mroIn K C (.type "object")=some true):TyOf K H (.ref a) (.ref C)
theorem isinst_ok {x:V} {u t:Value} (I:Inv X pins σ H s) (rx:RelV x u) (ty:TyOf X.K H x t) (e:PySem.W.kitOne X.K t c=some b) (h:∀ tk,Q (.bool b) { s with toks:=tk }) :
    wpAny (model X.prog X.w) A (call (.builtin "isinstance") [u,c]) Q E s:=by
  cases ty with
  | non=>cases (show u=Value.none from rx);exact PySem.W.kia_one PySem.W.kitx_none I.kIn True.intro e (fun z=>nomatch z) h
  | bl y=>cases (show u=Value.bool y from rx);exact PySem.W.kia_one PySem.W.kitx_bool I.kIn True.intro e (fun z=>nomatch z) h
  | int i=>obtain ⟨t,q⟩:=(show ∃ t,u=Value.int i t from rx);cases q;exact PySem.W.kia_one PySem.W.kitx_int I.kIn True.intro e (fun z=>nomatch z) h
  | str y=>obtain ⟨t,q⟩:=(show ∃ t,u=Value.str y t from rx);cases q;exact PySem.W.kia_one PySem.W.kitx_str I.kIn True.intro e (fun z=>nomatch z) h
  | flt y=>obtain ⟨t,q⟩:=(show ∃ t,u=Value.float y t from rx);cases q;exact PySem.W.kia_one PySem.W.kitx_float I.kIn True.intro e (fun z=>nomatch z) h
  | @lst a xs ea =>
    cases (show u=Value.ref a from rx)
    obtain ⟨_,_,n,_,h1⟩:=(show ObjOk X.prog X.w H s.heap a (.lst xs) from I.hok a _ ea)
    exact PySem.W.kia_one PySem.W.kitx_list I.kIn ⟨_,h1,rfl⟩ e (fun z=>nomatch z) h
  | @frz a ob xs ea =>
    cases (show u=Value.ref a from rx)
    obtain ⟨_,_,_,n,_,h1⟩:=(show ObjOk X.prog X.w H s.heap a (.frz ob (.lst xs)) from I.hok a _ ea)
    exact PySem.W.kia_one PySem.W.kitx_list I.kIn ⟨_,h1,rfl⟩ e (fun z=>nomatch z) h
  | @tup a xs ea =>
    cases (show u=Value.ref a from rx)
    obtain ⟨_,_,_,p,_⟩:=(show ObjOk X.prog X.w H s.heap a (.tup xs) from I.hok a _ ea)
    obtain ⟨o,h1,h2,_⟩:=p
    exact PySem.W.kia_one PySem.W.kitx_tuple I.kIn ⟨o,h1,h2⟩ e (fun z=>nomatch z) h
  | @dK a kvs ea =>
    cases (show u=Value.ref a from rx)
    obtain ⟨_,_,vs,_,p⟩:=(show ObjOk X.prog X.w H s.heap a (.dK kvs) from I.hok a _ ea)
    obtain ⟨o,es,ep,h1,h2,_⟩:=p
    exact PySem.W.kia_one PySem.W.kitx_dict I.kIn ⟨o,h1,h2.1⟩ e (fun z=>nomatch z) h
  | @dT a kvs ea =>
    cases (show u=Value.ref a from rx)
    obtain ⟨_,_,xs,_,o,es,ep,h1,h2,_⟩:=(show ObjOk X.prog X.w H s.heap a (.dT kvs) from I.hok a _ ea)
    exact PySem.W.kia_one PySem.W.kitx_dict I.kIn ⟨o,h1,h2.1⟩ e (fun z=>nomatch z) h
  | @ins a C dx fs ea cl ha hn htk hm =>
    cases (show u=Value.ref a from rx)
    obtain ⟨mA,O,_⟩:=ins_get I.hok ea
    obtain ⟨od,J,_⟩:=O.look
    exact PySem.W.kia_one (PySem.W.kitx_own (cl.get _) cl.hd ha hn htk hm) I.kIn J e (fun z=>nomatch z) h
end
end L2
namespace L2
open PySem PySem.Spec PyProof.Rows
structure Room (k:Nat) (A:Around):Prop where
  hd:A.handled=none
  dp:A.depth+3 * k+5 < recursionLimit
  un:A.units+16 * k+200 < cLine
theorem Room.mono {j k:Nat} {A:Around} (r:Room k A) (h:j≤k):Room j A:=⟨r.hd,by have:=r.dp;omega,by have:=r.un;omega⟩
theorem Room.deeper {k:Nat} {A:Around} (r:Room (k+1) A) (env:Env):Room k (A.deeper env) :=
  ⟨r.hd,by have:=r.dp;show A.depth+1+3 * k+5 < _;omega,by have:=r.un;show A.units+3+16 * k+200 < _;omega⟩
theorem Room.in1 {k:Nat} {A:Around} (r:Room (k+1) A):Room k A.in1 :=
  ⟨r.hd,by have:=r.dp;show A.depth+3 * k+5 < _;omega,by have:=r.un;show A.units+1+16 * k+200 < _;omega⟩
theorem Room.depth {k:Nat} {A:Around} (r:Room k A):A.depth < recursionLimit:=by have:=r.dp;omega
theorem Room.units {k:Nat} {A:Around} (r:Room k A):A.units+64 < cLine:=by have:=r.un;omega
def tNil:TA:=fun _ H Q=>Q [] H
def tCons (ta:TE) (tr:TA):TA:=fun σ H Q=>ta σ H fun x H1=>tr σ H1 fun xs H2=>Q (x :: xs) H2
section
variable {X:Cx} {e:Expr} {es:List Expr} {te:TE} {t:TA} {pos:Pos}
theorem pa_nil:PA X [] tNil:=fun _ _ _ _ H Q I h=>Calls.spliced_nil ⟨[],H,I,.nil,h⟩
theorem pa_cons (ha:PE X e te) (hr:PA X es t) (hs:starEach (e :: es) X.env=(false,eval e X.env) :: starEach es X.env:=by rfl):PA X (e :: es) (tCons te t):=by
  intro pos pins s σ H Q I h
  rw [hs]
  show wpAny _ _ (spliced ((false,eval e X.env) :: backTo pos (starEach es X.env))) _ _ s
  refine Calls.spliced_cons (thn (ha pins s σ H _ I h) fun u s1 ⟨x,H1,I1,r1,q1⟩=>?_)
  exact thn (hr pos pins s1 σ H1 _ I1 q1) fun us s2 ⟨xs,H2,I2,r2,q2⟩=>⟨x :: xs,H2,I2,.cons r1 r2,q2⟩
def tTup (t:TA):TE:=fun σ H Q=>t σ H fun xs H1=>xs.length≤sizeLine∧∀ p,H1 p=none→Q (.ref p) (upd H1 p (.tup xs))
def tLst (t:TA):TE:=fun σ H Q=>t σ H fun xs H1=>xs.length≤sizeLine∧∀ p,H1 p=none→Q (.ref p) (upd H1 p (.lst xs))
theorem pe_tup {x1} (h:PA X es t):PE X (.Tuple es x1 pos) (tTup t):=by
  intro pins s σ H Q I hq
  refine wpAny_Tuple_spliced (thn (h pos pins s σ H _ I hq) fun us s1 ⟨xs,H1,I1,r,z,q⟩=>⟨by rw [← r.length];exact z,?_⟩)
  have hf:H1 s1.heap.objs.size=none:=I1.hok.fresh (Nat.le_refl _)
  refine ⟨.ref s1.heap.objs.size,upd H1 s1.heap.objs.size (.tup xs),I1.laid (t':=s1.toks) (fun b u e=>Heap.get?_push_of_some _ e) (Nat.le_refl _) ?_,rfl,q _ hf⟩
  exact ⟨z,us,r,⟨_,Heap.get?_push_size _ rfl,rfl,_,rfl⟩,_,Heap.get?_push_size _ rfl,rfl⟩
theorem pe_lst (h:PA X es t):PE X (.List es pos) (tLst t):=by
  intro pins s σ H Q I hq
  refine wpAny_List_spliced (thn (h pos pins s σ H _ I hq) fun us s1 ⟨xs,H1,I1,r,z,q⟩=>⟨by rw [← r.length];exact z,?_⟩)
  have hf:H1 s1.heap.objs.size=none:=I1.hok.fresh (Nat.le_refl _)
  refine ⟨.ref s1.heap.objs.size,upd H1 s1.heap.objs.size (.lst xs),I1.laid (t':=s1.toks) (fun b u e=>Heap.get?_push_of_some _ e) (Nat.le_refl _) ?_,rfl,q _ hf⟩
  exact ⟨z,us,0,r,Heap.get?_push_size _ rfl⟩
end
abbrev Sp:=List V→Hp→VK→XK→Prop
abbrev CXT:=List Env→Hp→Shared→XK→Value→Shared→Prop
structure Env0 (P:Program) (w:World) (K:PySem.W.Frag) (mg:Str→Option Value) (base:Heap) (A:Around) (outer:List Env) (s:Shared) (H:Hp):Prop where
  frames:A.frames=some outer
  mod:Mod K mg base
  bs:∀ b o,base.get? b=some o→s.heap.get? b=some o∧H b=none
  bsz:base.objs.size≤s.heap.objs.size
  funs:s.heap.FunFrames base outer
  frf:∀ b∈frs outer,H b=none
  hok:HOk P w H s.heap
  bare:AllBare s.gens
def CE (outer:List Env) (P:Program) (w:World) (H:Hp) (s:Shared) (Q:VK) (u:Value) (s':Shared):Prop :=
  ∃ v H',s'.os=s.os∧AllBare s'.gens∧Un (frs outer) [] H H' s.heap s'.heap∧HOk P w H' s'.heap∧RelV v u∧Q v H'
def CR (CX:CXT) (outer:List Env) (P:Program) (w:World) (H:Hp) (s:Shared) (Q:VK) (E:XK) (r:Result) (s':Shared):Prop :=
  match r with
  | .ok (.ret u)=>CE outer P w H s Q u s'
  | .ok _=>False
  | .error e=>CX outer H s E e s'
structure FnOk (P:Program) (w:World) (K:PySem.W.Frag) (mg:Str→Option Value) (base:Heap) (CX:CXT) (k:Nat) (f:Addr) (fd:FuncData) (ps:List Str) (sp:Sp):Prop where
  len:∀ vs H Q E,sp vs H Q E→vs.length=ps.length
  run:∀ (A:Around) (outer:List Env) (s:Shared) (H:Hp) (args:Args) (us:List Value) (vs:List V) (Q:VK) (E:XK),Room k A→Env0 P w K mg base A outer s H→BindsTo s fd args (ps.zip us)→Vals vs us→sp vs H Q E →
    codeAny (model P w) A (.call (.ref f) args) (CR CX outer P w H s Q E) s
theorem FnOk.mono {P:Program} {w:World} {K:PySem.W.Frag} {mg:Str→Option Value} {base:Heap} {CX:CXT} {j k:Nat} {f:Addr} {fd:FuncData} {ps:List Str} {sp:Sp} (F:FnOk P w K mg base CX j f fd ps sp) (h:j≤k) :
    FnOk P w K mg base CX k f fd ps sp:=⟨F.len,fun A outer s H args us vs Q E hr=>F.run A outer s H args us vs Q E (hr.mono h)⟩
theorem FnOk.imp {P:Program} {w:World} {K:PySem.W.Frag} {mg:Str→Option Value} {base:Heap} {CX:CXT} {k:Nat} {f:Addr} {fd:FuncData} {ps:List Str} {sp sp':Sp} (F:FnOk P w K mg base CX k f fd ps sp)
    (h:∀ vs H Q E,sp' vs H Q E→sp vs H Q E):FnOk P w K mg base CX k f fd ps sp' :=
  ⟨fun vs H Q E q=>F.len vs H Q E (h _ _ _ _ q),fun A outer s H args us vs Q E hr he hb hv hs=>F.run A outer s H args us vs Q E hr he hb hv (h _ _ _ _ hs)⟩
theorem Env0.in1 {P:Program} {w:World} {K:PySem.W.Frag} {mg:Str→Option Value} {base:Heap} {A:Around} {outer:List Env} {s:Shared} {H:Hp} (e:Env0 P w K mg base A outer s H) :
    Env0 P w K mg base A.in1 outer s H:=⟨e.frames,e.mod,e.bs,e.bsz,e.funs,e.frf,e.hok,e.bare⟩
section
variable {X:Cx} {pins:List (Addr × Obj)} {σ:St} {H:Hp} {s s':Shared}
theorem Inv.env0 (I:Inv X pins σ H s):Env0 X.prog X.w X.K X.mg X.base X.A X.stack s H :=
  ⟨I.ok.frames,I.ok.mod,I.bs,Nat.le_trans I.ok.bsz I.sz,I.stack,I.stkFree,I.hok,I.bare⟩
theorem Inv.after {Q:VK} {u:Value} (I:Inv X pins σ H s) (h:CE X.stack X.prog X.w H s Q u s'):EP X pins σ Q u s':=by
  obtain ⟨v,H',os,bare,un,hok,r,q⟩:=h
  obtain ⟨hh,g,d,t,os'⟩:=s'
  obtain rfl:os'=s.os:=os
  exact ⟨v,H',I.call (h':=hh) (g':=g) (d':=d) (t':=t) (ch:=[]) un hok bare (fun b z=>absurd z (by simp)),r,q⟩
end
def tCall (sp:Sp) (dvs:List V) (E:XK) (t:TA):TE:=fun σ H Q=>t σ H fun vs H1=>sp (vs++dvs) H1 Q E
def Binds (K:PySem.W.Frag) (fd:FuncData) (ps:List Str) (ds:List Value):Prop :=
  ∀ (s:Shared) (us:List Value),K.In s.heap→(us++ds).length=ps.length→BindsTo s fd ⟨us,[]⟩ (ps.zip (us++ds))
theorem Binds.all {K:PySem.W.Frag} {fd:FuncData} {ps:List Str} (h:∀ us:List Value,us.length=ps.length→bindArgs fd ⟨us,[]⟩=pure (ps.zip us)):Binds K fd ps []:=fun s us _ hl=>by
  rw [List.append_nil] at hl ⊢
  exact .of_eq (h us hl)
def Passes (CX:CXT) (X:Cx) (E:XK):Prop:=∀ (pins:List (Addr × Obj)) (σ:St) (H:Hp) (s:Shared) (e:Value) (s':Shared),Inv X pins σ H s→CX X.stack H s E e s'→X.xe e s'
section
variable {X:Cx} {CX:CXT} {k:Nat} {f C:Addr} {fd:FuncData} {ps:List Str} {sp:Sp} {dvs:List V} {ds:List Value} {E:XK} {x m:Str} {p pos apos:Pos} {e o:Expr} {es:List Expr} {ta:TE} {t:TA}
theorem run_fn {pins:List (Addr × Obj)} {σ:St} {H:Hp} {s:Shared} {Q:VK} {us:List Value} {vs:List V} (F:FnOk X.prog X.w X.K X.mg X.base CX k f fd ps sp) (hr:Room k X.A) (hb:Binds X.K fd ps ds) (hd:Vals dvs ds) (hx:Passes CX X E)
    (I:Inv X pins σ H s) (r:Vals vs us) (h:sp (vs++dvs) H Q E):wpAny (model X.prog X.w) X.A (call (.ref f) us) (EP X pins σ Q) X.xe s:=by
  have r2:Vals (vs++dvs) (us++ds):=r.append hd
  have hl:(us++ds).length=ps.length:=by rw [← r2.length];exact F.len _ _ _ _ h
  refine wpAny_call (codeAny_mono (F.run X.A X.stack s H ⟨us,[]⟩ (us++ds) (vs++dvs) Q E hr I.env0 (hb s us I.kIn hl) r2 h) fun r s' hq=>?_)
  cases r with
  | error e=>exact hx pins σ H s e s' I hq
  | ok fl =>
    cases fl with
    | ret u=>exact I.after hq
    | next=>exact False.elim hq
    | brk=>exact False.elim hq
    | cont=>exact False.elim hq
theorem pe_call (F:FnOk X.prog X.w X.K X.mg X.base CX k f fd ps sp) (hr:Room k X.A) (hg:Gl X x) (hm:X.mg x=some (.ref f)) (hk:PySem.W.keepIn X.K (.ref f)=true) (hb:Binds X.K fd ps ds) (hd:Vals dvs ds) (hx:Passes CX X E)
    (ha:PA X (e :: es) t) (hdb:(x == ("__debug__" : Str))=false:=by decide) (he:starEach (e :: es) X.env=(false,eval e X.env) :: starEach es X.env:=by rfl) (hpl:(backTo pos (starEach es X.env)).any (·.1)=false:=by rfl) :
    PE X (.Call (.Name x p) (e :: es) [] pos) (tCall sp dvs E t):=by
  intro pins s σ H Q I h
  refine wpAny_Call_Name_kw (ld_glob I hg hm ?_ hdb)
  refine PySem.W.callWith_K (h₀:=X.base) I.ok.mod.kin hk (thn (ha pos pins s σ H _ I h) fun us s1 ⟨vs,H1,I1,r,q⟩=>⟨I1.kIn,?_⟩) he hpl
  exact run_fn F hr hb hd hx I1 r q
structure Mk (K:PySem.W.Frag) (C f:Addr):Prop where
  makes:PySem.W.makesIn K C=true
  init:PySem.W.findIn K (.ref C) "__init__" = some (some (.ref f))
  fn:PySem.W.isFn K (.ref f)=true
  kp:PySem.W.keepIn K (.ref C)=true
end
section
variable {X:Cx} {CX:CXT} {k:Nat} {f C:Addr} {fd:FuncData} {ps ks:List Str} {sp:Sp} {E:XK} {x m:Str} {p pos apos kpos:Pos} {e o:Expr} {es:List Expr} {kws:List Keyword} {te ta:TE} {t tk:TA} {nm:Option Str}
structure KBinds (K:PySem.W.Frag) (fd:FuncData) (ps ks:List Str) (g:List Value→List Value→List Value) (gV:List V→List V→List V):Prop where
  to:∀ (s:Shared) (us ws:List Value),K.In s.heap→(g us ws).length=ps.length→BindsTo s fd ⟨us,ks.zip ws⟩ (ps.zip (g us ws))
  rel:∀ {vs:List V} {us:List Value} {zs:List V} {ws:List Value},Vals vs us→Vals zs ws→Vals (gV vs zs) (g us ws)
variable {g:List Value→List Value→List Value} {gV:List V→List V→List V}
end
structure FnScope (N P:List Str) (sc:Scope):Prop where
  kind:sc.kind=.function
  co:sc.isCoroutine=false
  gen:sc.isGenerator=false
  nd:N.Nodup
  pre:N.take P.length=P
  par:∀ x∈P,sc.names.lookup x=some .local∨sc.names.lookup x=some .cell
  nofree:∀ y∈sc.names,y.2≠.free
theorem bindL_out {kindOf:Str→Option NameKind} {x:Str}:∀ {binds:List (Str × Value)} {m:Str→Option Value},(∀ v,(x,v) ∉ binds)→bindL kindOf binds m x=m x
  | [],_,_=>rfl
  | (n,v) :: r,m,h=>by
    unfold bindL
    rw [bindL_out fun w hw=>h w (List.mem_cons_of_mem _ hw)]
    split
    · have:x≠n:=by rintro rfl;exact h v List.mem_cons_self
      simp [this]
    · rfl
theorem bindC_out {kindOf:Str→Option NameKind} {x:Str}:∀ {binds:List (Str × Value)} {m:Str→Option Value},(∀ v,(x,v) ∉ binds)→bindC kindOf binds m x=m x
  | [],_,_=>rfl
  | (n,v) :: r,m,h=>by
    unfold bindC
    rw [bindC_out fun w hw=>h w (List.mem_cons_of_mem _ hw)]
    split
    · rfl
    · have:x≠n:=by rintro rfl;exact h v List.mem_cons_self
      simp [this]
theorem bindL_get {kindOf:Str→Option NameKind} {x:Str} {v:Value}:∀ {P:List Str} {vs:List Value} {i:Nat} {m:Str→Option Value},P.Nodup→P[i]? = some x→vs[i]? = some v→kindOf x=some .local →
    bindL kindOf (P.zip vs) m x=some v
  | [],_,_,_,_,h,_,_=>by simp at h
  | _ :: _,[],_,_,_,_,h,_=>by simp at h
  | p :: P,w :: vs,0,m,nd,h1,h2,hk=>by
    simp at h1 h2;subst h1;subst h2
    show bindL kindOf ((p,w) :: P.zip vs) m p=_
    unfold bindL
    rw [bindL_out fun v hv=>(List.nodup_cons.mp nd).1 (List.of_mem_zip hv).1,if_pos hk]
    simp
  | p :: P,w :: vs,i+1,m,nd,h1,h2,hk=>by
    show bindL kindOf ((p,w) :: P.zip vs) m x=_
    unfold bindL
    exact bindL_get (i:=i) (List.nodup_cons.mp nd).2 (by simpa using h1) (by simpa using h2) hk
theorem bindC_get {kindOf:Str→Option NameKind} {x:Str} {v:Value}:∀ {P:List Str} {vs:List Value} {i:Nat} {m:Str→Option Value},P.Nodup→P[i]? = some x→vs[i]? = some v→kindOf x≠some .local →
    bindC kindOf (P.zip vs) m x=some v
  | [],_,_,_,_,h,_,_=>by simp at h
  | _ :: _,[],_,_,_,_,h,_=>by simp at h
  | p :: P,w :: vs,0,m,nd,h1,h2,hk=>by
    simp at h1 h2;subst h1;subst h2
    show bindC kindOf ((p,w) :: P.zip vs) m p=_
    unfold bindC
    rw [bindC_out fun v hv=>(List.nodup_cons.mp nd).1 (List.of_mem_zip hv).1,if_neg hk]
    simp
  | p :: P,w :: vs,i+1,m,nd,h1,h2,hk=>by
    show bindC kindOf ((p,w) :: P.zip vs) m x=_
    unfold bindC
    exact bindC_get (i:=i) (List.nodup_cons.mp nd).2 (by simpa using h1) (by simpa using h2) hk
def start (N:List Str) (vs:List V):St:=vs.map some++List.replicate (N.length - vs.length) none
def cxOf (CX:CXT) (P:Program) (w:World) (K:PySem.W.Frag) (mg:Str→Option Value) (base:Heap) (N:List Str) (qual:Str) (scope:Scope) (f:Addr) (cd:Value) (A:Around) (outer:List Env) (s:Shared) (H:Hp) (E:XK):Cx where
  prog:=P
  w:=w
  K:=K
  mg:=mg
  base:=base
  A:=A.deeper (envOfC qual scope s.heap.objs.size f cd)
  N:=N
  s₀:=s
  H₀:=H
  env:=envOfC qual scope s.heap.objs.size f cd
  outer:=outer
  stack:=envOfC qual scope s.heap.objs.size f cd :: outer
  ex:=[]
  calm:=true
  fn:=fun _=>true
  pn:=[]
  xe:=fun e s'=>wpAny (model P w) (A.deeper (envOfC qual scope s.heap.objs.size f cd)) (leaving (envOfC qual scope s.heap.objs.size f cd) e) (fun _ s''=>CX outer H s E e s'') (fun e' s''=>CX outer H s E e' s'') s'
theorem cell_has {sc:Scope} {n:Nat} {x:Str} (h:sc.names.lookup x=some .cell):∃ c,(cellsFrom n sc.names []).lookup x=some c:=by
  have q:=PySem.W.cellsFrom_some sc.names n [] (.inl h)
  exact Option.isSome_iff_exists.mp q
theorem inv_start {CX:CXT} {P:Program} {w:World} {K:PySem.W.Frag} {mg:Str→Option Value} {base:Heap} {N ps:List Str} {qual:Str} {scope:Scope} {f:Addr} {cd:Value} {A:Around} {outer:List Env} {s s1:Shared} {H:Hp} {E:XK} {us:List Value} {vs:List V}
    (S:FnScope N ps scope) (hd:A.handled=none) (e0:Env0 P w K mg base A outer s H) (hl:vs.length=ps.length) (r:Vals vs us)
    (x:InCallC s s.heap.objs.size (bindL (envOfC qual scope s.heap.objs.size f cd).kindOf (ps.zip us) fun _=>none) (cellsFrom (s.heap.objs.size+1) scope.names []) (bindC (envOfC qual scope s.heap.objs.size f cd).kindOf (ps.zip us) fun _=>none) s1) :
    Inv (cxOf CX P w K mg base N qual scope f cd A outer s H E) [] (start N vs) H s1:=by
  have hpl:ps.length≤N.length:=by have:=congrArg List.length S.pre;rw [List.length_take] at this;omega
  obtain ⟨h1,tk,rfl,hk⟩:=x.done
  have noA:∀ b:Addr,b ∉ (cxOf CX P w K mg base N qual scope f cd A outer s H E).ex:=fun b z=>absurd (show b∈([]:List Addr) from z) (by simp)
  refine ⟨⟨e0.mod,S.kind,rfl,rfl,Nat.le_refl _,fun y z c h1 h2=>?_,fun y hy=>?_,fun y c _ h=>?_,fun _=>hd,Around.frames_deeper e0.frames,.inr ⟨rfl,rfl⟩,fun b z=>absurd z (noA b),e0.bs,e0.bsz,fun b _ _=>noA b,fun b z=>absurd z (noA b),e0.funs,e0.frf⟩,
    rfl,e0.bare,Un.kept hk,⟨_,x.toInCall.ns,fun i y v h1 h2 h3=>?_⟩,fun y c h=>⟨_,x.cell y c h⟩,e0.hok.fresh (Nat.le_refl _),fun y c h=>?_,fun p hp=>absurd (show p∈([]:List (Addr × Obj)) from hp) (by simp),e0.hok.kept hk,?_⟩
  · exact name_of_addr x.apart (PySem.mem_of_lookup h1) (PySem.mem_of_lookup h2)
  · have hy:scope.names.lookup y=some .cell∨scope.names.lookup y=some .free:=hy
    rcases hy with hy | hy
    · exact cell_has hy
    · exact absurd rfl (S.nofree _ (PySem.mem_of_lookup hy))
  · exact Nat.le_of_lt (x.above y c (PySem.mem_of_lookup h))
  · have hi:i < vs.length:=by
      unfold start at h2
      by_cases hi:i < vs.length
      · exact hi
      · rw [List.getElem?_append_right (by simpa using hi)] at h2
        rw [List.getElem?_replicate] at h2
        split at h2 <;> cases h2
    have ha:vs[i]? = some v:=by
      unfold start at h2
      rw [List.getElem?_append_left (by simpa using hi),List.getElem?_map] at h2
      cases e:vs[i]? with
      | none=>rw [e] at h2;cases h2
      | some a=>rw [e] at h2;cases h2;rfl
    obtain ⟨u,hu,rv⟩:=r.get ha
    have hp:ps[i]? = some y:=by
      rw [← S.pre,List.getElem?_take_of_lt (by omega)];exact h1
    have ndP:ps.Nodup:=by rw [← S.pre];exact S.nd.sublist (List.take_sublist _ _)
    refine ⟨u,rv,?_⟩
    rcases S.par y (List.mem_of_getElem? hp) with k | k
    · exact .inl ⟨k,bindL_get ndP hp hu k⟩
    · obtain ⟨c,e⟩:=cell_has (n:=s.heap.objs.size+1) k
      refine .inr ⟨.inl k,c,e,?_⟩
      have q:=x.cell y c e
      rw [bindC_get ndP hp hu (by show scope.names.lookup y≠_;rw [k];decide)] at q
      exact q
  · exact e0.hok.fresh (Nat.le_of_lt (x.above y c (PySem.mem_of_lookup h)))
  · unfold start
    show _=N.length
    rw [List.length_append,List.length_map,List.length_replicate]
    omega
theorem fn_of {CX:CXT} {P:Program} {w:World} {K:PySem.W.Frag} {mg:Str→Option Value} {base:Heap} {k:Nat} {f:Addr} {name qual:Str} {params:Arguments} {body:List Stmt} {scope:Scope} {dV kV doc pm cdv ct oc:Value} {an od:Option Addr}
    {osl:Array (Option Value)} {N ps:List Str} {sp:Sp} (lk:K.lookup f=some ⟨oc,od,.func (PySem.W.fnOf name qual params body scope dV kV doc pm an cdv ct),osl⟩) (hcd:PySem.W.codeIn K cdv qual=true) (S:FnScope N ps scope)
    (len:∀ vs H Q E,sp vs H Q E→vs.length=ps.length)
    (hbody:∀ (A:Around) (outer:List Env) (s:Shared) (H:Hp) (vs:List V) (Q:VK) (E:XK),Room k (A.deeper (envOfC qual scope s.heap.objs.size f cdv))→sp vs H Q E →
      ∃ t,PSs (cxOf CX P w K mg base N qual scope f cdv A outer s H E) body t∧t { nx:=fun _ H'=>Q .non H',rt:=Q } (start N vs) H) :
    FnOk P w K mg base CX (k+1) f (PySem.W.fnOf name qual params body scope dV kV doc pm an cdv ct) ps sp:=by
  refine ⟨len,fun A outer s H args us vs Q E hr e0 hb r hsp=>?_⟩
  have hl:=len _ _ _ _ hsp
  have KX:K.In s.heap:=e0.mod.kin.keeps fun b o e=>(e0.bs b o e).1
  have lim:s.heap.NoLimit:=e0.mod.nolimit.keeps fun b o e=>(e0.bs b o e).1
  have hkind:∀ y∈ps.zip us,scope.names.lookup y.1=some .local∨(scope.names.lookup y.1=some .cell∧((cellsFrom (s.heap.objs.size+1) scope.names []).lookup y.1).isSome=true):=fun ⟨n,v⟩ hy=>by
    rcases S.par n (List.of_mem_zip hy).1 with q | q
    · exact .inl q
    · exact .inr ⟨q,PySem.W.cellsFrom_some _ _ _ (.inl q)⟩
  refine codeAny_call_function hr.depth (KX _ _ lk) rfl S.co S.gen rfl (PySem.W.codeRec_of KX hcd) (hb _ _ _ _ ?_)
  refine wpAny_newFunctionEnv_cells S.kind hkind fun env he s1 x=>?_
  subst he
  refine ⟨lim.keeps x.toInCall.keep,codeAny_func ?_⟩
  obtain ⟨t,ht,hq⟩:=hbody A outer s H vs Q E (hr.deeper _) hsp
  have I:Inv (cxOf CX P w K mg base N qual scope f cdv A outer s H E) [] (start N vs) H s1:=inv_start S hr.hd e0 hl r x
  refine wpAny_mono (ht [] s1 (start N vs) H _ I hq) (fun fl s' hs=>?_) fun e s' hs=>hs
  have fin:∀ {σ':St} {H':Hp} {v:V} {u:Value},Inv (cxOf CX P w K mg base N qual scope f cdv A outer s H E) [] σ' H' s'→RelV v u→Q v H'→CE outer P w H s Q u s' :=
    fun {σ' H' v u} J rv q=>⟨v,H',J.os,J.bare,J.base,J.hok,rv,q⟩
  cases fl with
  | ret u =>
    obtain ⟨v,σ',H',J,rv,q⟩:=hs
    exact fin J rv q
  | next =>
    obtain ⟨σ',H',J,q⟩:=hs
    exact fin (v:=V.non) (u:=Value.none) J rfl q
  | brk =>
    obtain ⟨_,_,_,q⟩:=hs
    exact False.elim q
  | cont =>
    obtain ⟨_,_,_,q⟩:=hs
    exact False.elim q
end L2
namespace L2
open PySem PySem.Spec PyProof.Rows
section
variable {X:Cx} {x:Str} {p pos:Pos} {e:Expr} {es:List Expr} {t:TA} {id T:String} {r:List V→Hp→VK→Prop}
def tCB (r:List V→Hp→VK→Prop) (t:TA):TE:=fun σ H Q=>t σ H fun vs H1=>r vs H1 Q
theorem pe_callB (hc:CallR X (.builtin id) r) (hg:Gl X x) (hm:X.mg x=none) (hv:bootBuiltins x=some (.builtin id)) (ha:PA X (e :: es) t) (hn:x≠"__name__":=by decide) (hdb:(x == ("__debug__" : Str))=false:=by decide)
    (he:starEach (e :: es) X.env=(false,eval e X.env) :: starEach es X.env:=by rfl) (hpl:(backTo pos (starEach es X.env)).any (·.1)=false:=by rfl):PE X (.Call (.Name x p) (e :: es) [] pos) (tCB r t):=by
  intro pins s σ H Q I h
  refine wpAny_Call_Name_kw (ld_blt I hg hm hv ?_ hn hdb)
  exact PyProof.Rows.callWith_builtin1 (thn (ha pos pins s σ H _ I h) fun us s1 ⟨vs,H1,I1,r1,q1⟩=>hc pins s1 σ H1 vs us Q I1 r1 q1) he hpl
theorem pe_callTy (hc:CallR X (.type T) r) (hg:Gl X x) (hm:X.mg x=none) (hv:bootBuiltins x=some (.type T)) (ha:PA X (e :: es) t) (hn:x≠"__name__":=by decide) (hdb:(x == ("__debug__" : Str))=false:=by decide)
    (he:starEach (e :: es) X.env=(false,eval e X.env) :: starEach es X.env:=by rfl) (hpl:(backTo pos (starEach es X.env)).any (·.1)=false:=by rfl):PE X (.Call (.Name x p) (e :: es) [] pos) (tCB r t):=by
  intro pins s σ H Q I h
  refine wpAny_Call_Name_kw (ld_blt I hg hm hv ?_ hn hdb)
  exact PyProof.Rows.callWith_type1 (thn (ha pos pins s σ H _ I h) fun us s1 ⟨vs,H1,I1,r1,q1⟩=>hc pins s1 σ H1 vs us Q I1 r1 q1) he hpl
end
end L2
namespace HT
open PySem PyProof.Rows
section
open PySem.SeqAt
open PySem.AutoSeq1 (wpAny_loadPart')
open PySem.MeetsSeq PySem.MeetsSeq2 PySem.MeetsSeq3
end
section
variable {prog:Program} {w:World} {A:Around} {E:Value→Shared→Prop} {s:Shared}
def sIx (n d:Nat):Option Int→Nat
  | none=>d
  | some v=>if v < 0 then (v+(n:Int)).toNat else min v.toNat n
theorem sIx_none (n d:Nat):sIx n d none=d:=rfl
theorem sIx_nat (n d k:Nat):sIx n d (some (k:Int))=min k n:=by
  show (if (k:Int) < 0 then ((k:Int)+(n:Int)).toNat else min (k:Int).toNat n)=min k n
  rw [if_neg (by omega),Int.toNat_natCast]
end
end HT
namespace L2
open PySem PySem.Spec PyProof.Rows
abbrev TO:=St→Hp→(Option Int→Hp→Prop)→Prop
def PO (X:Cx) (e:Option Expr) (t:TO):Prop :=
  ∀ (pins:List (Addr × Obj)) (s:Shared) (σ:St) (H:Hp) (Q:Option Int→Hp→Prop),Inv X pins σ H s→t σ H Q →
    wpAny (model X.prog X.w) X.A (evalPart e X.env) (fun u s'=>∃ o H',Inv X pins σ H' s'∧IsPart u o∧Q o H') X.xe s
def tNoPart:TO:=fun _ H Q=>Q none H
def tPart (t:TE):TO:=fun σ H Q=>t σ H fun x H1=>∃ i,x=.int i∧Q (some i) H1
theorem intsAre_of {ns:List Int}:∀ {us:List Value},Vals (ns.map V.int) us→IntsAre us ns:=by
  induction ns with
  | nil=>intro us r;rw [List.map_nil] at r;cases r;exact .nil
  | cons n ns ih =>
    intro us r
    rw [List.map_cons] at r
    cases r with
    | cons r1 r2 =>
      obtain ⟨t,e⟩:=r1
      subst e
      exact .cons n t (ih r2)
section
variable {X:Cx} {e:Expr} {te:TE} {lo hi:Option Expr} {tl th:TO} {pos p2:Pos}
theorem po_none:PO X none tNoPart:=by
  intro pins s σ H Q I h
  rw [evalPart_none]
  exact wpAny_pure ⟨none,H,I,.none,h⟩
theorem po_some (h:PE X e te):PO X (some e) (tPart te):=by
  intro pins s σ H Q I hw
  rw [evalPart_some]
  refine thn (h pins s σ H _ I hw) fun u s1 ⟨x,H1,I1,r1,q1⟩=>?_
  obtain ⟨i,rfl,q⟩:=q1
  obtain ⟨t,rfl⟩:=r1
  exact ⟨some i,H1,I1,.int i t,q⟩
def SlR (X:Cx) (r:V→Option Int→Option Int→Hp→VK→Prop):Prop :=
  ∀ (pins:List (Addr × Obj)) (s:Shared) (σ:St) (H:Hp) (x:V) (v vl vu:Value) (lo hi:Option Int) (sl:Addr) (Q:VK),Inv X pins σ H s→RelV x v→s.heap.IsSliceOf sl vl vu .none→IsPart vl lo→IsPart vu hi→r x lo hi H Q →
    ∃ T id,typeLookup (.type T) "__getitem__" = pure (some (.builtin id))∧s.TypeIs v T∧wpAny (model X.prog X.w) X.A (getItem v (.ref sl)) (EP X pins σ Q) X.xe s
theorem SlR.or {r r':V→Option Int→Option Int→Hp→VK→Prop} (h:SlR X r) (h':SlR X r'):SlR X (fun x lo hi H Q=>r x lo hi H Q∨r' x lo hi H Q):=by
  intro pins s σ H x v vl vu lo hi sl Q I rx hs pl pu q
  rcases q with q | q
  · exact h pins s σ H x v vl vu lo hi sl Q I rx hs pl pu q
  · exact h' pins s σ H x v vl vu lo hi sl Q I rx hs pl pu q
def tSl (r:V→Option Int→Option Int→Hp→VK→Prop) (te:TE) (tl th:TO):TE:=fun σ H Q=>te σ H fun x H1=>tl σ H1 fun l H2=>th σ H2 fun u H3=>r x l u H3 Q
theorem pe_slice {r:V→Option Int→Option Int→Hp→VK→Prop} (hr:SlR X r) (he:PE X e te) (hl:PO X lo tl) (hu:PO X hi th):PE X (.Subscript e (.Slice lo hi none p2) pos) (tSl r te tl th):=by
  intro pins s σ H Q I h
  refine Subscript_ (thn (he pins s σ H _ I h) fun v s1 ⟨x,H1,I1,r1,q1⟩=>?_)
  refine wpAny_Slice (thn (hl pins s1 σ H1 _ I1 q1) fun vl s2 ⟨l,H2,I2,pl,q2⟩=>thn (hu pins s2 σ H2 _ I2 q2) fun vu s3 ⟨u,H3,I3,pu,q3⟩=>?_)
  rw [evalPart_none]
  refine wpAny_pure ?_
  have I4:Inv X pins σ H3 { s3 with heap:=s3.heap.push { cls:=.type "slice",data:=.fields #[vl,vu,.none] } }:=I3.kept (t':=s3.toks) fun b ob q=>Heap.get?_push_of_some _ q
  obtain ⟨T,id,hT,ht,hg⟩:=hr pins { s3 with heap:=s3.heap.push { cls:=.type "slice",data:=.fields #[vl,vu,.none] } } σ H3 x v vl vu l u s3.heap.objs.size Q I4 r1 (Heap.IsSliceOf.new ..) pl pu q3
  show wpAny (model X.prog X.w) X.A (subscriptTail e (.Slice lo hi none p2) v (.ref s3.heap.objs.size)) (EP X pins σ Q) X.xe { s3 with heap:=s3.heap.push { cls:=.type "slice",data:=.fields #[vl,vu,.none] } }
  exact tail_any (ops:=[.ref s3.heap.objs.size,v]) ht hT hg (by with_unfolding_all rfl)
def cutV (xs:List V) (lo hi:Option Int):List V:=(xs.drop (HT.sIx xs.length 0 lo)).take (HT.sIx xs.length xs.length hi - HT.sIx xs.length 0 lo)
theorem cutV_length (xs:List V) (lo hi:Option Int):(cutV xs lo hi).length≤xs.length:=by
  unfold cutV
  rw [List.length_take,List.length_drop]
  omega
end
end L2
namespace L2
open PySem PySem.Spec PyProof.Rows
def ixN (n:Nat) (i:Int):Option Nat:=if 0≤i then (if i < n then some i.toNat else none) else if -(n:Int)≤i then some (i+n).toNat else none
def atI {α:Type} (xs:List α) (i:Int):Option α:=(ixN xs.length i).bind fun j=>xs[j]?
theorem ixN_seq {n:Nat} {i:Int} {j:Nat} (h:ixN n i=some j):seqIndex? i n=some j∧j < n∧-(n:Int)≤i∧i < n:=by
  unfold ixN at h
  by_cases h0:0≤i
  · rw [if_pos h0] at h
    by_cases h1:i < n
    · rw [if_pos h1] at h
      have e:i.toNat=j:=Option.some.inj h
      exact ⟨by rw [seqIndex_of h0 h1,e],by omega,by omega,h1⟩
    · rw [if_neg h1] at h;cases h
  · rw [if_neg h0] at h
    by_cases h1:-(n:Int)≤i
    · rw [if_pos h1] at h
      have e:(i+n).toNat=j:=Option.some.inj h
      exact ⟨by rw [seqIndex_neg (by omega) h1,e],by omega,h1,by omega⟩
    · rw [if_neg h1] at h;cases h
theorem atI_get {α:Type} {xs:List α} {i:Int} {v:α} (h:atI xs i=some v):∃ j,seqIndex? i xs.length=some j∧xs[j]? = some v∧j < xs.length∧-(xs.length:Int)≤i∧i < xs.length:=by
  unfold atI at h
  cases e:ixN xs.length i with
  | none=>rw [e] at h;cases h
  | some j =>
    rw [e] at h
    obtain ⟨h1,h2,h3,h4⟩:=ixN_seq e
    exact ⟨j,h1,h,h2,h3,h4⟩
theorem atI_nat {α:Type} {xs:List α} {j:Nat} {v:α} (h:xs[j]? = some v):atI xs (j:Int)=some v:=by
  have hj:j < xs.length:=(List.getElem?_eq_some_iff.mp h).1
  have e:ixN xs.length (j:Int)=some j:=by
    unfold ixN
    rw [if_pos (by omega),if_pos (by omega)];simp
  unfold atI;rw [e];exact h
theorem atI_last {α:Type} (xs:List α) (v:α):atI (xs++[v]) (-1)=some v:=by
  have hl:(xs++[v]).length=xs.length+1:=by simp
  have e:ixN (xs++[v]).length (-1)=some xs.length:=by
    unfold ixN
    rw [hl,if_neg (by decide),if_pos (by omega)]
    congr 1
    omega
  unfold atI
  rw [e]
  show (xs++[v])[xs.length]? = some v
  simp
def PlainIx (b:Expr):Prop:=∀ o i,subscripted b false o i=operate [o,i] (getItem o i)
def IxR (X:Cx) (r:R2):Prop :=
  ∀ (value slice:Expr) (pins:List (Addr × Obj)) (s:Shared) (σ:St) (H:Hp) (x y:V) (v u:Value) (Q:VK),Inv X pins σ H s→RelV x v→RelV y u→r x y H Q →
    subscripted slice false v u=operate [v,u] (getItem v u)→wpAny (model X.prog X.w) X.A (subscriptTail value slice v u) (EP X pins σ Q) X.xe s
def MtR (X:Cx) (id:String) (r:V→List V→Hp→VK→Prop):Prop :=
  ∀ (pins:List (Addr × Obj)) (s:Shared) (σ:St) (H:Hp) (x:V) (xs:List V) (v:Value) (us:List Value) (Q:VK),Inv X pins σ H s→RelV x v→Vals xs us→r x xs H Q →
    wpAny (model X.prog X.w) X.A (call (.builtin id) (v :: us)) (EP X pins σ Q) X.xe s
section
variable {X:Cx} {a b:Expr} {ta tb:TE} {pos:Pos}
theorem IxR.or {r r':R2} (h:IxR X r) (h':IxR X r'):IxR X (fun x y H Q=>r x y H Q∨r' x y H Q):=by
  intro value slice pins s σ H x y v u Q I rx ry q hs
  rcases q with q | q
  · exact h value slice pins s σ H x y v u Q I rx ry q hs
  · exact h' value slice pins s σ H x y v u Q I rx ry q hs
theorem MtR.or {id:String} {r r':V→List V→Hp→VK→Prop} (h:MtR X id r) (h':MtR X id r'):MtR X id (fun x xs H Q=>r x xs H Q∨r' x xs H Q):=by
  intro pins s σ H x xs v us Q I rx rs q
  rcases q with q | q
  · exact h pins s σ H x xs v us Q I rx rs q
  · exact h' pins s σ H x xs v us Q I rx rs q
theorem pe_ix {r:R2} (hr:IxR X r) (ha:PE X a ta) (hb:PE X b tb) (hs:PlainIx b):PE X (.Subscript a b pos) (tOp r ta tb):=by
  intro pins s σ H Q I h
  exact Subscript_ (binT ha hb I h fun v u s2 x y H2 I2 rx ry q=>hr a b pins s2 σ H2 x y v u Q I2 rx ry q (hs _ _))
def rIxL (K:PySem.W.Frag):R2:=fun x y H Q=>∃ p xs i v,x=.ref p∧y=.int i∧SqL K H p xs∧atI xs i=some v∧Q v H
def rIxT (K:PySem.W.Frag):R2:=fun x y H Q=>∃ p xs i v,x=.ref p∧y=.int i∧SqT K H p xs∧atI xs i=some v∧Q v H
theorem ix_list:IxR X (rIxL X.K):=by
  intro value slice pins s σ H x y v u Q I rx ry h hs
  obtain ⟨p,xs,i,z,rfl,rfl,hq,he,q⟩:=h
  cases rx
  obtain ⟨t,rfl⟩:=ry
  obtain ⟨its,r,pl,hz⟩:=I.list hq
  obtain ⟨j,h1,h2,h3,h4,h5⟩:=atI_get he
  obtain ⟨w,ew,rw'⟩:=r.get h2
  have hl:=r.length
  have hn:=line63
  have fin:EP X pins σ Q w s:=⟨z,H,I,rw',q⟩
  by_cases h0:0≤i
  · have hj:i.toNat=j:=by
      rw [seqIndex_of h0 h5] at h1
      exact Option.some.inj h1
    exact item_listR pl.isList h0 (by omega) (by rw [hj];simpa using ew) fin hs
  · have hj:(i+(its.toArray.size:Int)).toNat=j:=by
      rw [seqIndex_neg (by omega) h4] at h1
      rw [List.size_toArray,← hl]
      exact Option.some.inj h1
    exact subscriptTail_builtinR (x:=w) pl.isList.typeIs slot_list_getitem.lookup
      (wpAny_getItem_list_neg (Q:=fun r s'=>r=w∧EP X pins σ Q r s') pl.isList (by omega) (by rw [List.size_toArray] <;> omega) (by omega) (by rw [hj];simpa using ew) ⟨rfl,fin⟩) hs
theorem ix_tup:IxR X (rIxT X.K):=by
  intro value slice pins s σ H x y v u Q I rx ry h hs
  obtain ⟨p,xs,i,z,rfl,rfl,hq,he,q⟩:=h
  cases rx
  obtain ⟨t,rfl⟩:=ry
  obtain ⟨its,r,pl,hz⟩:=I.tuple hq
  obtain ⟨j,h1,h2,h3,h4,h5⟩:=atI_get he
  obtain ⟨w,ew,rw'⟩:=r.get h2
  have hl:=r.length
  have hn:=line63
  have fin:EP X pins σ Q w s:=⟨z,H,I,rw',q⟩
  exact subscriptTail_builtinR (x:=w) pl.typeIs slot_tuple_getitem.lookup
    (getItem_tuple (j:=j) (Q:=fun r s'=>r=w∧EP X pins σ Q r s') pl (by omega) (by omega) (by rw [List.size_toArray,← hl];exact h1) (by simpa using ew) ⟨rfl,fin⟩) hs
theorem mapSeq_set (its:List Value) (n j:Nat) (u:Value):Obj.mapSeq (·.setIfInBounds j u) { cls:=.type "list",data:=.seq its.toArray n } = { cls:=.type "list",data:=.seq (its.set j u).toArray n }:=by
  simp [Obj.mapSeq]
theorem Inv.lst {pins:List (Addr × Obj)} {σ:St} {H:Hp} {s:Shared} {p:Addr} {xs:List V} (I:Inv X pins σ H s) (h:H p=some (.lst xs)) :
    ∃ (its:List Value) (n:Nat),Vals xs its∧s.heap.get? p=some { cls:=.type "list",data:=.seq its.toArray n }∧xs.length≤sizeLine:=by
  obtain ⟨z,its,n,r,e⟩:=I.hok p _ h
  exact ⟨its,n,r,e,z⟩
theorem Inv.lstUpd {pins:List (Addr × Obj)} {σ:St} {H:Hp} {s:Shared} {p:Addr} {xs ys:List V} {its its':List Value} {n n':Nat} {f:Obj→Obj} (I:Inv X pins σ H s) (h:H p=some (.lst xs))
    (ho:s.heap.get? p=some { cls:=.type "list",data:=.seq its.toArray n }) (hf:f { cls:=.type "list",data:=.seq its.toArray n } = { cls:=.type "list",data:=.seq its'.toArray n' }) (r:Vals ys its') (hz:ys.length≤sizeLine) (t:Nat) :
    Inv X pins σ (upd H p (.lst ys)) { s with heap:=s.heap.update p f,toks:=t }:=by
  have e:(s.heap.update p f).get? p=some { cls:=.type "list",data:=.seq its'.toArray n' }:=by
    rw [Heap.get?_update_self f ho (by rw [hf] <;> rfl),hf]
  refine I.write (x:=p) (e:=p) (by rw [h];trivial) (.inl rfl) (fun b u hb q=>(Heap.get?_update_other _ _ (Ne.symm hb)).trans q) ⟨_,e⟩ ?_
  exact ⟨hz,its',n',r,e⟩
def rSetL:V→V→V→Hp→(Hp→Prop)→Prop:=fun o i v H Q=>∃ p xs k j,o=.ref p∧i=.int k∧H p=some (.lst xs)∧ixN xs.length k=some j∧Q (upd H p (.lst (xs.set j v)))
theorem set_list:PSet X rSetL:=by
  intro pins s σ H o i v ov iv u Q I ro ri rv h
  obtain ⟨p,xs,k,j,rfl,rfl,hp,hj,q⟩:=h
  cases ro
  obtain ⟨t,rfl⟩:=ri
  obtain ⟨its,n,r,ho,hz⟩:=I.lst hp
  obtain ⟨h1,h2,h3,h4⟩:=ixN_seq hj
  have hl:=r.length
  have hn:=line63
  have I':Inv X pins σ (upd H p (.lst (xs.set j v))) { s with heap:=s.heap.update p (Obj.mapSeq (·.setIfInBounds j u)) } :=
    I.lstUpd hp ho (mapSeq_set its n j u) (r.set rv j) (by rw [List.length_set];exact hz) s.toks
  by_cases h0:0≤k
  · have hk:k.toNat=j:=by
      rw [seqIndex_of h0 h4] at h1
      exact Option.some.inj h1
    exact PySem.W.ki_setAt ho h0 (by omega) (by rw [List.size_toArray,← hl];exact h4) (by rw [hk];exact ⟨_,I',q⟩)
  · have hk:(k+(its.toArray.size:Int)).toNat=j:=by
      rw [seqIndex_neg (by omega) h3] at h1
      rw [List.size_toArray,← hl]
      exact Option.some.inj h1
    exact PySem.W.ki_setBack ho (by omega) (by rw [List.size_toArray,← hl];exact h3) (by omega) (by rw [hk];exact ⟨_,I',q⟩)
theorem slice_bounds (lo hi:Option Int) (n:Nat):(sliceBounds lo hi none n).1=((HT.sIx n 0 lo:Nat):Int)∧(sliceBounds lo hi none n).2.1=((HT.sIx n n hi:Nat):Int)∧(sliceBounds lo hi none n).2.2=1:=by
  refine ⟨?_,?_,rfl⟩
  · cases lo with
    | none=>simp [sliceBounds,HT.sIx]
    | some i =>
      simp only [sliceBounds,HT.sIx,Option.getD_none,show (1:Int) > 0 by decide,if_true]
      by_cases h:i < 0
      · simp only [h,if_true] <;> omega
      · simp only [h,if_false] <;> omega
  · cases hi with
    | none=>simp [sliceBounds,HT.sIx]
    | some i =>
      simp only [sliceBounds,HT.sIx,Option.getD_none,show (1:Int) > 0 by decide,if_true]
      by_cases h:i < 0
      · simp only [h,if_true] <;> omega
      · simp only [h,if_false] <;> omega
theorem slicePick_cut (its:List Value) (lo hi:Option Int):slicePick its.toArray lo hi none=((its.drop (HT.sIx its.length 0 lo)).take (HT.sIx its.length its.length hi - HT.sIx its.length 0 lo)).toArray:=by
  obtain ⟨h1,h2,h3⟩:=slice_bounds lo hi its.toArray.size
  unfold slicePick
  rw [h1,h2,h3]
  simp only [sliceRange_one,pick_run,List.size_toArray] <;> rfl
def rSlL (K:PySem.W.Frag):V→Option Int→Option Int→Hp→VK→Prop:=fun x lo hi H Q=>∃ a xs,x=.ref a∧SqL K H a xs∧∀ p,H p=none→Q (.ref p) (upd H p (.lst (cutV xs lo hi)))
theorem sl_list:SlR X (rSlL X.K):=by
  intro pins s σ H x v vl vu lo hi sl Q I rx hs pl pu h
  obtain ⟨a,xs,rfl,hx,q⟩:=h
  cases rx
  obtain ⟨its,r,ht,hz⟩:=I.list hx
  have hlen:=r.length
  refine ⟨"list",_,slot_list_getitem.lookup,ht.isList.typeIs,?_⟩
  refine wpAny_getItem_list_slice ht.isList hs pl pu .none (by simp) ?_ (by rw [List.size_toArray] <;> omega)
  rw [slicePick_cut,← hlen]
  refine ⟨.ref s.heap.objs.size,_,I.laid (t':=s.toks) (o:=.lst (cutV xs lo hi)) (fun b ob q=>Heap.get?_push_of_some _ q) (Nat.le_refl _) ?_,rfl,q _ (I.hok.fresh (Nat.le_refl _))⟩
  exact ⟨Nat.le_trans (cutV_length xs lo hi) hz,_,0,(r.drop (HT.sIx xs.length 0 lo)).take (HT.sIx xs.length xs.length hi - HT.sIx xs.length 0 lo),Heap.get?_push_size _ rfl⟩
def flatV:V→Bool
  | .non=>true
  | .bl _=>true
  | .int _=>true
  | .str _=>true
  | _=>false
def eqV:V→V→Bool
  | .non,.non=>true
  | .bl a,.bl b=>a == b
  | .bl a,.int b=>(if a then 1 else 0) == b
  | .int a,.bl b=>a == (if b then 1 else 0)
  | .int a,.int b=>a == b
  | .str a,.str b=>a == b
  | _,_=>false
theorem eqAt_V {A:Around} {s:Shared} {y x:V} {u v:Value} (ry:RelV y u) (rx:RelV x v) (fy:flatV y=true) (fx:flatV x=true):SeqAt.EqAt A s u v (eqV y x):=by
  cases y with
  | non =>
    cases ry
    cases x with
    | non=>cases rx;exact SeqAt.EqAt.same _
    | bl b=>cases rx;exact SeqAt.EqAt.none_bool b
    | int b=>obtain ⟨t,rfl⟩:=rx;exact SeqAt.EqAt.none_int b t
    | str b=>obtain ⟨t,rfl⟩:=rx;exact SeqAt.EqAt.none_str b t
    | _=>exact absurd (show false=true from fx) Bool.false_ne_true
  | bl a =>
    cases ry
    cases x with
    | non=>cases rx;exact SeqAt.EqAt.bool_none a
    | bl b=>cases rx;exact SeqAt.EqAt.bool_bool a b
    | int b=>obtain ⟨t,rfl⟩:=rx;exact SeqAt.EqAt.bool_int a b t
    | str b=>obtain ⟨t,rfl⟩:=rx;exact SeqAt.EqAt.bool_str a b t
    | _=>exact absurd (show false=true from fx) Bool.false_ne_true
  | int a =>
    obtain ⟨t',rfl⟩:=ry
    cases x with
    | non=>cases rx;exact SeqAt.EqAt.int_none a t'
    | bl b=>cases rx;exact SeqAt.EqAt.int_bool a t' b
    | int b=>obtain ⟨t,rfl⟩:=rx;exact SeqAt.EqAt.int_int a t' b t
    | str b=>obtain ⟨t,rfl⟩:=rx;exact SeqAt.EqAt.int_str a t' b t
    | _=>exact absurd (show false=true from fx) Bool.false_ne_true
  | str a =>
    obtain ⟨t',rfl⟩:=ry
    cases x with
    | non=>cases rx;exact SeqAt.EqAt.str_none a t'
    | bl b=>cases rx;exact SeqAt.EqAt.str_bool a t' b
    | int b=>obtain ⟨t,rfl⟩:=rx;exact SeqAt.EqAt.str_int a t' b t
    | str b=>obtain ⟨t,rfl⟩:=rx;exact SeqAt.EqAt.str_str a t' b t
    | _=>exact absurd (show false=true from fx) Bool.false_ne_true
  | _=>exact absurd (show false=true from fy) Bool.false_ne_true
theorem call_len_seq:CallR X (.builtin "len") (fun xs H Q=>∃ p ys,xs=[.ref p]∧(SqL X.K H p ys∨SqT X.K H p ys)∧Q (.int ys.length) H):=by
  intro pins s σ H xs us Q I r h
  obtain ⟨p,ys,rfl,hq,q⟩:=h
  obtain ⟨u,rfl,rx⟩:=vals1 r
  cases rx
  have hn:=line63
  rcases hq with hq | hq
  · obtain ⟨its,r',pl,hz⟩:=I.list hq
    have hlen:=r'.length
    exact Calls.call_len_list pl.isList (by simp only [List.size_toArray] <;> omega) ⟨.int ys.length,H,I.tok _,⟨s.toks+1,by rw [List.size_toArray,hlen]⟩,q⟩
  · obtain ⟨its,r',pl,hz⟩:=I.tuple hq
    have hlen:=r'.length
    exact len_tuple pl (by simp only [List.size_toArray] <;> omega) ⟨.int ys.length,H,I.tok _,⟨s.toks+1,by rw [List.size_toArray,hlen]⟩,q⟩
theorem call_len_str:CallR X (.builtin "len") (fun xs H Q=>∃ z,xs=[.str z]∧z.length≤sizeLine∧Q (.int z.length) H):=by
  intro pins s σ H xs us Q I r h
  obtain ⟨z,rfl,hz,q⟩:=h
  obtain ⟨u,rfl,t,rfl⟩:=vals1 r
  have hn:=line63
  exact len_str (by omega) ⟨.int z.length,H,I.tok _,⟨_,rfl⟩,q⟩
theorem CallR.or {f:Value} {r r':List V→Hp→VK→Prop} (h:CallR X f r) (h':CallR X f r'):CallR X f (fun xs H Q=>r xs H Q∨r' xs H Q):=by
  intro pins s σ H xs us Q I rs q
  rcases q with q | q
  · exact h pins s σ H xs us Q I rs q
  · exact h' pins s σ H xs us Q I rs q
theorem call_list_of:CallR X (.type "list") (fun xs H Q=>∃ p ys,xs=[.ref p]∧(SqL X.K H p ys∨SqT X.K H p ys)∧∀ l,H l=none→Q (.ref l) (upd H l (.lst ys))):=by
  intro pins s σ H xs us Q I r h
  obtain ⟨p,ys,rfl,hq,q⟩:=h
  obtain ⟨u,rfl,rx⟩:=vals1 r
  cases rx
  have fin:∀ (its:List Value),Vals ys its→ys.length≤sizeLine→∀ (h':Heap) (c':Nat),(∀ b o',s.heap.get? b=some o'→h'.get? b=some o') →
      h'.get? s.heap.objs.size=some { cls:=.type "list",dict:=none,data:=.seq its.toArray c',slots:=#[] }→EP X pins σ Q (.ref s.heap.objs.size) { s with heap:=h' }:=fun its r' hz h' c' kp e =>
    ⟨.ref s.heap.objs.size,_,I.laid (t':=s.toks) kp (Nat.le_refl _) (show ObjOk X.prog X.w _ h' _ (.lst ys) from ⟨hz,its,c',r',e⟩),rfl,q _ (I.hok.fresh (Nat.le_refl _))⟩
  rcases hq with hq | hq
  · obtain ⟨its,r',pl,hz⟩:=I.list hq
    have hlen:=r'.length
    obtain ⟨o,ho,hc,n,hd⟩:=pl.isList
    exact call_list_seq p (.inl rfl) ho hc hd (fun h' c' kp e=>fin its r' hz h' c' kp e) (by simp only [List.size_toArray] <;> omega)
  · obtain ⟨its,r',pl,hz⟩:=I.tuple hq
    have hlen:=r'.length
    obtain ⟨o,ho,hc,n,hd⟩:=pl
    exact call_list_seq p (.inr rfl) ho hc hd (fun h' c' kp e=>fin its r' hz h' c' kp e) (by simp only [List.size_toArray] <;> omega)
theorem call_tuple_of:CallR X (.type "tuple") (fun xs H Q=>∃ p ys,xs=[.ref p]∧((SqL X.K H p ys∧∀ l,H l=none→Q (.ref l) (upd H l (.tup ys)))∨(SqT X.K H p ys∧Q (.ref p) H))):=by
  intro pins s σ H xs us Q I r h
  obtain ⟨p,ys,rfl,h⟩:=h
  obtain ⟨u,rfl,rx⟩:=vals1 r
  cases rx
  rcases h with ⟨hq,q⟩ | ⟨hq,q⟩
  · obtain ⟨its,r',pl,hz⟩:=I.list hq
    have hlen:=r'.length
    refine call_tuple_list pl.isList (fun h' kp=>?_) (by simp only [List.size_toArray] <;> omega)
    have I1:Inv X pins σ H { s with heap:=h' }:=I.kept (t':=s.toks) kp
    have I2:Inv X pins σ (upd H h'.objs.size (.tup ys)) { s with heap:=h'.push { cls:=.type "tuple",data:=.seq its.toArray } } :=
      I1.laid (t':=s.toks) (fun b o e=>Heap.get?_push_of_some _ e) (Nat.le_refl _) (show ObjOk X.prog X.w _ _ _ (.tup ys) from ⟨hz,its,r',IsTup.new _ _,_,Heap.get?_push_size _ rfl,rfl⟩)
    exact ⟨.ref h'.objs.size,_,I2,rfl,q _ (I1.hok.fresh (Nat.le_refl _))⟩
  · obtain ⟨its,r',pl,hz⟩:=I.tuple hq
    exact call_tuple_same pl ⟨.ref p,H,I,rfl,q⟩
def tyV (K:PySem.W.Frag) (T:String) (x:V) (H:Hp):Prop:=match x with
  | .str _=>T = "str"
  | .int _=>T = "int"
  | .ref p=>(T = "list"∧∃ xs,SqL K H p xs)∨(T = "tuple"∧∃ o,K.lookup p=some o∧o.cls=.type "tuple"∧o.dict=none) ∨
      (T = "dict"∧((∃ kvs,H p=some (.dK kvs))∨∃ kvs,H p=some (.dT kvs)))∨(T = "set"∧∃ S n,H p=some (.set S n))
  | _=>False
theorem tyV_is {pins:List (Addr × Obj)} {σ:St} {H:Hp} {s:Shared} {T:String} {x:V} {v:Value} (I:Inv X pins σ H s) (r:RelV x v) (ty:tyV X.K T x H) :
    s.TypeIs v T∧∀ a,v=.ref a→∃ ob,s.heap.get? a=some ob∧ob.dict=none:=by
  cases x with
  | str z =>
    obtain ⟨t,rfl⟩:=r
    cases (show T = "str" from ty)
    exact ⟨typeIs_str s z t,fun _ e=>nomatch e⟩
  | int i =>
    obtain ⟨t,rfl⟩:=r
    cases (show T = "int" from ty)
    exact ⟨typeIs_int s i t,fun _ e=>nomatch e⟩
  | ref p =>
    cases r
    rcases ty with ⟨rfl,xs,hq⟩ | ⟨rfl,o,hk,hc,hd⟩ | ⟨rfl,hk⟩ | ⟨rfl,S,n,hk⟩
    · obtain ⟨its,_,pl,_⟩:=I.list hq
      refine ⟨pl.isList.typeIs,fun a e=>?_⟩
      cases e
      obtain ⟨o,n,e,c,hd,_⟩:=pl
      exact ⟨o,e,hd⟩
    · refine ⟨⟨o,I.kIn p o hk,hc⟩,fun a e=>?_⟩
      cases e
      exact ⟨o,I.kIn _ o hk,hd⟩
    · have z:∃ o,s.heap.get? p=some o∧o.ExactDict:=by
        rcases hk with ⟨kvs,hk⟩ | ⟨kvs,hk⟩
        · obtain ⟨_,_,_,_,o,_,_,e,ex,_⟩:=I.hok p _ hk
          exact ⟨o,e,ex⟩
        · obtain ⟨_,_,_,_,o,_,_,e,ex,_⟩:=I.hok p _ hk
          exact ⟨o,e,ex⟩
      obtain ⟨o,e,ex⟩:=z
      refine ⟨⟨o,e,ex.1⟩,fun a e2=>?_⟩
      cases e2
      exact ⟨o,e,ex.2.1⟩
    · obtain ⟨o,_,_,_,e,ex,_⟩:=I.hok p _ hk
      refine ⟨⟨o,e,ex.1⟩,fun a e2=>?_⟩
      cases e2
      exact ⟨o,e,ex.2.1⟩
  | _=>exact False.elim ty
def tBM0 (K:PySem.W.Frag) (T:String) (r:V→List V→Hp→VK→Prop) (to:TE):TE:=fun σ H Q=>to σ H fun x H1=>tyV K T x H1∧r x [] H1 Q
def tBM (K:PySem.W.Frag) (T:String) (r:V→List V→Hp→VK→Prop) (to:TE) (t:TA):TE:=fun σ H Q=>to σ H fun x H1=>tyV K T x H1∧t σ H1 fun xs H2=>r x xs H2 Q
variable {o e:Expr} {es:List Expr} {to:TE} {t:TA} {name:Str} {apos cpos:Pos} {T id:String} {r:V→List V→Hp→VK→Prop}
theorem pe_bm0 (pa:PlainAttrs T) (slot:Slot T name id) (hty:typeOf (.builtin id)=pure (.type "method_descriptor")) (hm:MtR X id r) (ho:PE X o to)
    (hbase:attributeBase o name X.env (eval o X.env)=eval o X.env:=by rfl) (hline:(apos.endLine == cpos.line)=true:=by rfl):PE X (.Call (.Attribute o name apos) [] [] cpos) (tBM0 X.K T r to):=by
  intro pins s σ H Q I h
  refine wpAny_Call_method0_late hbase hline (thn (ho pins s σ H _ I h) fun v s1 ⟨x,H1,I1,r1,ty,q1⟩=>?_)
  obtain ⟨h1,h2⟩:=tyV_is I1 r1 ty
  exact ⟨T,id,pa,slot,hty,h1,h2,Calls.callWith_builtin rfl (PySem.evalArgs_none (hm pins s1 σ H1 x [] v [] Q I1 r1 .nil q1))⟩
theorem pe_bm (pa:PlainAttrs T) (slot:Slot T name id) (hty:typeOf (.builtin id)=pure (.type "method_descriptor")) (hm:MtR X id r) (ho:PE X o to) (ha:PA X (e :: es) t)
    (hbase:attributeBase o name X.env (eval o X.env)=eval o X.env:=by rfl)
    (hfew:((backTo cpos (starEach (e :: es) X.env)).all (fun x=>!x.1) && (backToKw cpos (keywordEach [] X.env)).all (fun x=>x.1.isSome)
      && decide ((e :: es).length+([]:List Keyword).length+(if ([]:List Keyword).isEmpty then 0 else 1) < 30))=true:=by rfl)
    (hline:(apos.endLine == cpos.line)=true:=by rfl) (hs:starEach (e :: es) X.env=(false,eval e X.env) :: starEach es X.env:=by rfl) (hplain:(backTo cpos (starEach es X.env)).any (·.1)=false:=by rfl) :
    PE X (.Call (.Attribute o name apos) (e :: es) [] cpos) (tBM X.K T r to t):=by
  intro pins s σ H Q I h
  refine wpAny_Call_method_late hbase hfew hline rfl (thn (ho pins s σ H _ I h) fun v s1 ⟨x,H1,I1,r1,ty,q1⟩=>?_)
  obtain ⟨h1,h2⟩:=tyV_is I1 r1 ty
  refine ⟨T,id,pa,slot,hty,h1,h2,?_⟩
  have hA:=ha cpos pins s1 σ H1 _ I1 q1
  rw [hs] at hA ⊢
  refine Calls.callWith_builtin (by show (false || (backTo cpos (starEach es X.env)).any (·.1))=false;rw [hplain] <;> rfl) (Calls.evalArgs_plain ?_)
  exact thn hA fun us s2 ⟨vs,H2,I2,r2,q2⟩=>hm pins s2 σ H2 x vs v us Q I2 r1 r2 q2
/- xs.append(e),list.index on a module's tuple .. are MtR facts of 06m -/
end
end L2
namespace L2
open PySem PySem.Spec PyProof.Rows
def MtM (X:Cx) (id:String) (r:V→List V→Hp→VK→Prop):Prop :=
  ∀ (pins:List (Addr × Obj)) (s:Shared) (σ:St) (H:Hp) (x:V) (xs:List V) (v:Value) (us:List Value) (Q:VK),Inv X pins σ H s→RelV x v→Vals xs us→r x xs H Q →
    wpAny (model X.prog X.w) X.A (call (.builtin id) (v :: us)) (EP X pins σ Q) X.xe s
theorem Vals.one:∀ {x:V} {us:List Value},Vals [x] us→∃ u,us=[u]∧RelV x u
  | _,_,.cons r .nil=>⟨_,rfl,r⟩
theorem Vals.two:∀ {x y:V} {us:List Value},Vals [x,y] us→∃ u v,us=[u,v]∧RelV x u∧RelV y v
  | _,_,_,.cons r (.cons q .nil)=>⟨_,_,rfl,r,q⟩
theorem Vals.zero:∀ {us:List Value},Vals [] us→us=[]
  | _,.nil=>rfl
theorem Vals.dropLast {xs:List V} {us:List Value} (h:Vals xs us):Vals xs.dropLast us.dropLast:=by
  induction h with
  | nil=>exact .nil
  | cons r t ih =>
    cases t with
    | nil=>exact .nil
    | cons q t'=>exact .cons r ih
theorem Vals.eraseIdx:∀ {xs:List V} {us:List Value} (i:Nat),Vals xs us→Vals (xs.eraseIdx i) (us.eraseIdx i)
  | _,_,_,.nil=>.nil
  | _,_,0,.cons _ t=>t
  | _,_,i+1,.cons r t=>.cons r (Vals.eraseIdx i t)
theorem Vals.reverse {xs:List V} {us:List Value} (h:Vals xs us):Vals xs.reverse us.reverse:=by
  induction h with
  | nil=>exact .nil
  | cons r t ih=>rw [List.reverse_cons,List.reverse_cons];exact Vals.append ih (.cons r .nil)
theorem erase_last {α:Type} (l:List α):l.eraseIdx (l.length - 1)=l.dropLast:=by
  induction l with
  | nil=>rfl
  | cons a r ih =>
    cases r with
    | nil=>rfl
    | cons b r =>
      have e:(a :: b :: r).length - 1=((b :: r).length - 1)+1:=by
        have h1:(a :: b :: r).length=r.length+2:=rfl
        have h2:(b :: r).length=r.length+1:=rfl
        omega
      rw [e,List.eraseIdx_cons_succ,ih]
      all_goals rfl
theorem len_erase {α:Type}:∀ (l:List α) (i:Nat),(l.eraseIdx i).length≤l.length
  | [],_=>Nat.le_refl _
  | _ :: _,0=>Nat.le_succ _
  | _ :: r,i+1=>Nat.succ_le_succ (len_erase r i)
section
variable {X:Cx} {pins:List (Addr × Obj)} {σ:St} {H:Hp} {s:Shared} {l b:Addr} {xs ys zs:List V}
theorem Inv.lset {its its':List Value} {n:Nat} {f:Array Value→Array Value} {t':Nat} (I:Inv X pins σ H s) (hH:H l=some (.lst xs))
    (e:s.heap.get? l=some { cls:=.type "list",data:=.seq its.toArray n }) (hf:f its.toArray=its'.toArray) (hv:Vals ys its') (hz:ys.length≤sizeLine) :
    Inv X pins σ (upd H l (.lst ys)) { s with heap:=s.heap.update l (Obj.mapSeq f),toks:=t' }:=by
  have q:=PySem.IsL.update e f
  rw [hf] at q
  refine I.write (x:=l) (e:=l) (by rw [hH];exact trivial) (.inl rfl) (fun b' u hb hu=>(Heap.get?_update_other s.heap (Obj.mapSeq f) (Ne.symm hb)).trans hu) ⟨_,q⟩ ?_
  exact ⟨hz,its',_,hv,q⟩
theorem Inv.lnew {its:List Value} {t':Nat} (I:Inv X pins σ H s) (hv:Vals ys its) (hz:ys.length≤sizeLine) :
    Inv X pins σ (upd H s.heap.objs.size (.lst ys)) { s with heap:=s.heap.push { cls:=.type "list",data:=.seq its.toArray },toks:=t' } :=
  I.laid (fun _ _ q=>Heap.get?_push_of_some _ q) (Nat.le_refl _) ⟨hz,its,0,hv,Heap.get?_push_size _ rfl⟩
theorem Inv.fresh (I:Inv X pins σ H s):H s.heap.objs.size=none:=I.hok.fresh (Nat.le_refl _)
theorem Inv.lstM (I:Inv X pins σ H s) (hH:H l=some (.lst xs)):xs.length≤sizeLine∧∃ (its:List Value) (n:Nat),Vals xs its∧xs.length=its.length∧s.heap.get? l=some { cls:=.type "list",data:=.seq its.toArray n }:=by
  obtain ⟨z,its,n,r,e⟩:=I.hok l _ hH
  exact ⟨z,its,n,r,r.length,e⟩
end
section
variable {X:Cx}
def rAppend:V→List V→Hp→VK→Prop:=fun x vs H Q=>∃ l xs y,x=.ref l∧vs=[y]∧H l=some (.lst xs)∧xs.length < sizeLine∧Q .non (upd H l (.lst (xs++[y])))
theorem mt_append:MtM X "list.append" rAppend:=by
  intro pins s σ H x vs v us Q I rx rv h
  obtain ⟨l,xs,y,rfl,rfl,hH,hz,q⟩:=h
  cases rx
  obtain ⟨u,rfl,ru⟩:=rv.one
  obtain ⟨z,its,n,r,hl,e⟩:=I.lstM hH
  refine call_meets F.slot_list_append ⟨_,e,rfl⟩ F.entry_list_append (F.args_list_append_2 _ _) (PySem.list_append l its.toArray n u (by rw [List.size_toArray];omega)) ⟨e,?_⟩
  refine ⟨.non,_,I.lset (its':=its++[u]) hH e (by simp) (r.append (.cons ru .nil)) ?_,rfl,q⟩
  rw [List.length_append,List.length_singleton]
  omega
def rPop:V→List V→Hp→VK→Prop:=fun x vs H Q=>∃ l xs y,x=.ref l∧vs=[]∧H l=some (.lst xs)∧xs[xs.length - 1]? = some y∧Q y (upd H l (.lst xs.dropLast))
theorem mt_pop:MtM X "list.pop" rPop:=by
  intro pins s σ H x vs v us Q I rx rv h
  obtain ⟨l,xs,y,rfl,rfl,hH,hy,q⟩:=h
  cases rx
  have hus:=rv.zero
  subst hus
  obtain ⟨z,its,n,r,hl,e⟩:=I.lstM hH
  obtain ⟨u,hu,ru⟩:=r.get hy
  have hy':its.toArray[its.toArray.size - 1]? = some u:=by
    show its.toArray[its.length - 1]? = some u
    rw [← Array.getElem?_toList,← hl]
    exact hu
  refine call_meets F.slot_list_pop ⟨_,e,rfl⟩ F.entry_list_pop (F.args_list_pop_1 _) (MeetsSeq.list_pop_last l its.toArray n u hy' (by rw [List.size_toArray];omega)) ⟨e,?_⟩
  refine ⟨y,_,I.lset (its':=its.dropLast) hH e ?_ r.dropLast ?_,ru,q⟩
  · show its.toArray.eraseIdxIfInBounds (its.toArray.size - 1)=its.dropLast.toArray
    rw [List.size_toArray,List.eraseIdxIfInBounds_toArray,erase_last]
  · rw [List.length_dropLast]
    omega
def rPopAt:V→List V→Hp→VK→Prop:=fun x vs H Q=>∃ l xs i k y,x=.ref l∧vs=[.int i]∧H l=some (.lst xs)∧-(2 ^ 63)≤i∧i < 2 ^ 63∧seqIndex? i xs.length=some k∧xs[k]? = some y∧Q y (upd H l (.lst (xs.eraseIdx k)))
theorem mt_popAt:MtM X "list.pop" rPopAt:=by
  intro pins s σ H x vs v us Q I rx rv h
  obtain ⟨l,xs,i,k,y,rfl,rfl,hH,h1,h2,hk,hy,q⟩:=h
  cases rx
  obtain ⟨u,rfl,ru⟩:=rv.one
  obtain ⟨t,rfl⟩:=ru
  obtain ⟨z,its,n,r,hl,e⟩:=I.lstM hH
  obtain ⟨w,hw,rw'⟩:=r.get hy
  refine call_meets F.slot_list_pop ⟨_,e,rfl⟩ F.entry_list_pop (F.args_list_pop_2 _ _)
    (MeetsSeq.list_pop_at l its.toArray n i t k w (fitsIndex_both h1 h2) (by rw [List.size_toArray,← hl];exact hk) (by rw [← Array.getElem?_toList];exact hw) (by rw [List.size_toArray];omega)) ⟨e,?_⟩
  refine ⟨y,_,I.lset (its':=its.eraseIdx k) hH e ?_ (r.eraseIdx k) ?_,rw',q⟩
  · show its.toArray.eraseIdxIfInBounds k=(its.eraseIdx k).toArray
    rw [List.eraseIdxIfInBounds_toArray]
  · have:=len_erase xs k
    omega
def rClear:V→List V→Hp→VK→Prop:=fun x vs H Q=>∃ l xs,x=.ref l∧vs=[]∧H l=some (.lst xs)∧Q .non (upd H l (.lst []))
theorem mt_clear:MtM X "list.clear" rClear:=by
  intro pins s σ H x vs v us Q I rx rv h
  obtain ⟨l,xs,rfl,rfl,hH,q⟩:=h
  cases rx
  have hus:=rv.zero
  subst hus
  obtain ⟨z,its,n,r,hl,e⟩:=I.lstM hH
  refine call_meets F.slot_list_clear ⟨_,e,rfl⟩ F.entry_list_clear (F.args_list_clear_1 _) (AutoSeq1.list_clear_list_0 l its.toArray n (by rw [List.size_toArray];omega)) ⟨e,?_⟩
  exact ⟨.non,_,I.lset (its':=[]) (ys:=[]) hH e rfl .nil (Nat.zero_le _),rfl,q⟩
def rCat:R2:=fun x y H Q=>∃ l b xs zs,x=.ref l∧y=.ref b∧H l=some (.lst xs)∧H b=some (.lst zs)∧xs.length+zs.length≤sizeLine∧∀ p,H p=none→Q (.ref p) (upd H p (.lst (xs++zs)))
theorem op_cat:OpR X (binaryOp .Add) rCat:=by
  intro pins s σ H x y v u Q I rx ry h
  obtain ⟨l,b,xs,zs,rfl,rfl,hH,hB,hz,q⟩:=h
  cases rx
  cases ry
  obtain ⟨z,its,n,r,hl,e⟩:=I.lstM hH
  obtain ⟨z2,its2,n2,r2,hl2,e2⟩:=I.lstM hB
  refine PySem.P.add_list e e2 ?_ (by rw [List.size_toArray,List.size_toArray];omega)
  have ea:its.toArray++its2.toArray=(its++its2).toArray:=by simp
  rw [ea]
  exact ⟨.ref _,_,I.lnew (t':=s.toks) (r.append r2) (by rw [List.length_append];omega),rfl,q _ I.fresh⟩
end
section
variable {prog:Program} {w:World} {A:Around} {E:Value→Shared→Prop} {s:Shared}
set_option maxRecDepth 100000 in
end
section
variable {X:Cx}
end
end L2
namespace L2
open PySem PySem.Spec PyProof.Rows
section
variable {κ:Type} [DecidableEq κ]
def valV (kvs:List (κ × V)) (k:κ):Option V:=(kvs.find? fun kv=>decide (kv.1=k)).map (·.2)
def putK (kvs:List (κ × V)) (k:κ) (v:V):List (κ × V) :=
  if (kvs.any fun kv=>decide (kv.1=k))=true then kvs.map (fun kv=>if kv.1=k then (kv.1,v) else kv) else kvs++[(k,v)]
def dropK (kvs:List (κ × V)) (k:κ):List (κ × V):=kvs.filter fun kv=>decide (kv.1≠k)
theorem valV_pos {p:κ × V} {r:List (κ × V)} {k:κ} (e:p.1=k):valV (p :: r) k=some p.2:=by simp [valV,List.find?_cons,e]
theorem valV_neg {p:κ × V} {r:List (κ × V)} {k:κ} (e:¬ p.1=k):valV (p :: r) k=valV r k:=by simp [valV,List.find?_cons,e]
theorem valV_any (k:κ):∀ kvs:List (κ × V),(kvs.any fun kv=>decide (kv.1=k))=(valV kvs k).isSome
  | []=>rfl
  | p :: r=>by
    rw [List.any_cons]
    by_cases e:p.1=k
    · simp only [valV_pos e,decide_eq_true e,Bool.true_or,Option.isSome_some]
    · rw [valV_neg e,decide_eq_false e,Bool.false_or];exact valV_any k r
theorem length_putK (kvs:List (κ × V)) (k:κ) (v:V):(putK kvs k v).length≤kvs.length+1:=by
  unfold putK
  split
  · rw [List.length_map];omega
  · rw [List.length_append,List.length_cons,List.length_nil];omega
theorem putK_new {kvs:List (κ × V)} {k:κ} (v:V) (h:valV kvs k=none):putK kvs k v=kvs++[(k,v)]:=by
  unfold putK
  rw [valV_any,h]
  exact if_neg (by decide)
theorem RelO.isSome_eq {o:Option V} {u:Option Value} (r:RelO o u):o.isSome=u.isSome:=by
  cases o with
  | none=>cases u with
    | none=>rfl
    | some _=>exact (show False from r).elim
  | some _=>cases u with
    | none=>exact (show False from r).elim
    | some _=>rfl
theorem RelO.getD {o:Option V} {u:Option Value} {d:V} {d':Value} (r:RelO o u) (rd:RelV d d'):RelV (o.getD d) (u.getD d'):=by
  cases o with
  | none=>cases u with
    | none=>exact rd
    | some _=>exact (show False from r).elim
  | some _=>cases u with
    | none=>exact (show False from r).elim
    | some _=>exact r
theorem KV.val {kvs:List (κ × V)} {vs:List (κ × Value)} (r:KV kvs vs) (k:κ):RelO (valV kvs k) (valueAt vs k):=by
  unfold KV at r
  induction r with
  | nil=>exact True.intro
  | @cons p q ps qs h t ih =>
    obtain ⟨h1,h2⟩:=h
    by_cases e:p.1=k
    · have e':q.1=k:=h1.symm.trans e
      have b:valueAt (q :: qs) k=some q.2:=by simp [valueAt,List.find?_cons,e']
      rw [valV_pos e,b];exact h2
    · have e':¬ q.1=k:=fun z=>e (h1.trans z)
      have b:valueAt (q :: qs) k=valueAt qs k:=by simp [valueAt,List.find?_cons,e']
      rw [valV_neg e,b];exact ih
theorem KV.any {kvs:List (κ × V)} {vs:List (κ × Value)} (r:KV kvs vs) (k:κ):(kvs.any fun kv=>decide (kv.1=k))=vs.any fun kv=>decide (kv.1=k):=by
  unfold KV at r
  induction r with
  | nil=>rfl
  | cons h t ih=>rw [List.any_cons,List.any_cons,ih,h.1]
theorem KV.repl {kvs:List (κ × V)} {vs:List (κ × Value)} (r:KV kvs vs) (k:κ) {y:V} {u:Value} (ry:RelV y u) :
    KV (kvs.map fun kv=>if kv.1=k then (kv.1,y) else kv) (vs.map fun kv=>if kv.1=k then (kv.1,u) else kv):=by
  unfold KV at r ⊢
  induction r with
  | nil=>exact .nil
  | @cons p q ps qs h t ih =>
    rw [List.map_cons,List.map_cons]
    refine .cons ?_ ih
    obtain ⟨h1,h2⟩:=h
    by_cases e:p.1=k
    · rw [if_pos e,if_pos (h1.symm.trans e)];exact ⟨h1,ry⟩
    · rw [if_neg e,if_neg (fun z=>e (h1.trans z))];exact ⟨h1,h2⟩
theorem KV.put {kvs:List (κ × V)} {vs:List (κ × Value)} (r:KV kvs vs) (k:κ) {y:V} {u:Value} (ry:RelV y u):KV (putK kvs k y) (stored vs k u):=by
  unfold putK stored
  rw [r.any k]
  by_cases e:(vs.any fun kv=>decide (kv.1=k))=true
  · rw [if_pos e,if_pos e];exact r.repl k ry
  · rw [if_neg e,if_neg e];exact Paired.snoc r ⟨rfl,ry⟩
theorem KV.drop {kvs:List (κ × V)} {vs:List (κ × Value)} (r:KV kvs vs) (k:κ):KV (dropK kvs k) (without vs k):=by
  unfold KV at r ⊢
  unfold dropK without
  induction r with
  | nil=>exact .nil
  | @cons p q ps qs h t ih =>
    obtain ⟨h1,h2⟩:=h
    rw [List.filter_cons,List.filter_cons]
    by_cases e:p.1=k
    · have a:¬ decide (p.1≠k)=true:=by simp [e]
      have b:¬ decide (q.1≠k)=true:=by simp [h1.symm.trans e]
      rw [if_neg a,if_neg b];exact ih
    · have e':¬ q.1=k:=fun z=>e (h1.trans z)
      have a:decide (p.1≠k)=true:=by simp [e]
      have b:decide (q.1≠k)=true:=by simp [e']
      rw [if_pos a,if_pos b];exact .cons ⟨h1,h2⟩ ih
theorem KV.keys {kvs:List (κ × V)} {vs:List (κ × Value)} (r:KV kvs vs):kvs.map (·.1)=vs.map (·.1):=by
  unfold KV at r
  induction r with
  | nil=>rfl
  | cons h t ih=>rw [List.map_cons,List.map_cons,ih,h.1]
theorem KV.length {kvs:List (κ × V)} {vs:List (κ × Value)} (r:KV kvs vs):kvs.length=vs.length:=Paired.length r
end
theorem kV_is {P:Program} {w:World} {k:Key} {u:Value} (r:RelV (kV k) u):(mixKind P w).is k u=true:=by
  cases k with
  | inl i=>obtain ⟨t,e⟩:=(show ∃ t,u=Value.int i t from r);subst e;exact mixKind_int P w i t
  | inr x=>obtain ⟨t,e⟩:=(show ∃ t,u=Value.str x t from r);subst e;exact mixKind_str P w x t
theorem items_are {P:Program} {w:World}:∀ {ks:List Key} {us:List Value},Vals (ks.map kV) us→ItemsAre (mixKind P w) ks us
  | [],_,r=>by rw [List.map_nil] at r;cases r;exact .nil
  | k :: ks,_,r=>by
    rw [List.map_cons] at r
    cases r with
    | cons h t=>exact .cons (kV_is h) (items_are t)
abbrev KT (H:Hp):List (List Key × V)→List (List Key × Addr × Value)→Prop:=Paired fun p q=>p.1=q.1∧H q.2.1=some (.tup (p.1.map kV))∧RelV p.2 q.2.2
theorem KT.val {H:Hp} {kvs:List (List Key × V)} {xs:List (List Key × Addr × Value)} (r:KT H kvs xs) (k:List Key):RelO (valV kvs k) ((atKey xs k).map (·.2)):=by
  induction r with
  | nil=>exact True.intro
  | @cons p q ps qs h t ih =>
    obtain ⟨h1,_,h2⟩:=h
    by_cases e:p.1=k
    · have e':q.1=k:=h1.symm.trans e
      have b:atKey (q :: qs) k=some q.2:=by simp [atKey,List.find?_cons,e']
      rw [valV_pos e,b];exact h2
    · have e':¬ q.1=k:=fun z=>e (h1.trans z)
      have b:atKey (q :: qs) k=atKey qs k:=by simp [atKey,List.find?_cons,e']
      rw [valV_neg e,b];exact ih
theorem KT.repl {H:Hp} {kvs:List (List Key × V)} {xs:List (List Key × Addr × Value)} (r:KT H kvs xs) (k:List Key) {y:V} {u:Value} (ry:RelV y u) :
    KT H (kvs.map fun kv=>if kv.1=k then (kv.1,y) else kv) (xs.map (putAt k u)):=by
  induction r with
  | nil=>exact .nil
  | @cons p q ps qs h t ih =>
    rw [List.map_cons,List.map_cons]
    refine .cons ?_ ih
    obtain ⟨h1,h2,h3⟩:=h
    unfold putAt
    by_cases e:p.1=k
    · rw [if_pos e,if_pos (h1.symm.trans e)];exact ⟨h1,h2,ry⟩
    · rw [if_neg e,if_neg (fun z=>e (h1.trans z))];exact ⟨h1,h2,h3⟩
theorem KT.put {H:Hp} {kvs:List (List Key × V)} {xs:List (List Key × Addr × Value)} (r:KT H kvs xs) (k:List Key) {b:Addr} {y:V} {u:Value} (hb:H b=some (.tup (k.map kV))) (ry:RelV y u) :
    KT H (putK kvs k y) (storedH xs k b u):=by
  have e:(kvs.any fun kv=>decide (kv.1=k))=(atKey xs k).isSome:=by
    rw [valV_any,(r.val k).isSome_eq,Option.isSome_map]
  unfold putK storedH
  rw [e]
  by_cases q:(atKey xs k).isSome=true
  · rw [if_pos q,if_pos q];exact r.repl k ry
  · rw [if_neg q,if_neg q];exact Paired.snoc r ⟨rfl,hb,ry⟩
theorem KT.keeps {H H':Hp} {kvs:List (List Key × V)} {xs:List (List Key × Addr × Value)} (r:KT H kvs xs) (ht:∀ b ys,H b=some (.tup ys)→H' b=some (.tup ys)):KT H' kvs xs :=
  Paired.mapP r fun _ _ z=>⟨z.1,ht _ _ z.2.1,z.2.2⟩
section
variable {P:Program} {w:World} {H:Hp} {h:Heap} {a:Addr}
theorem rd_of {u:HO} (ok:HOk P w H h) (e:Rd H a u):ObjOk P w H h a u:=e.ok ok
theorem dk_rd {kvs:List (Key × V)} (ok:HOk P w H h) (e:Rd H a (.dK kvs)):kvs.length≤sizeLine∧(a == sysModules)=false∧∃ vs,KV kvs vs∧h.DictOf (mixKind P w) a vs :=
  show ObjOk P w H h a (.dK kvs) from rd_of ok e
theorem dk_of {kvs:List (Key × V)} (ok:HOk P w H h) (e:H a=some (.dK kvs)):kvs.length≤sizeLine∧(a == sysModules)=false∧∃ vs,KV kvs vs∧h.DictOf (mixKind P w) a vs:=dk_rd ok (.inl e)
theorem key_of {ks:List Key} (ok:HOk P w H h) (e:H a=some (.tup (ks.map kV))):(tupleKind (mixKind P w)).is h ks a:=by
  obtain ⟨_,its,r,⟨o,h1,h2,n,h3⟩,_⟩:=(show ObjOk P w H h a (.tup (ks.map kV)) from ok a _ e)
  exact ⟨o,its.toArray,n,h1,h2,h3,by simpa using items_are r⟩
theorem dt_rd {kvs:List (List Key × V)} (ok:HOk P w H h) (e:Rd H a (.dT kvs)):kvs.length≤sizeLine∧(a == sysModules)=false ∧
    ∃ xs,KT H kvs xs∧h.DictOfH (tupleKind (mixKind P w)) a xs:=by
  obtain ⟨z,y,xs,r,o,es,ep,h1,h2,h3,h4,h5⟩:=(show ObjOk P w H h a (.dT kvs) from rd_of ok e)
  refine ⟨z,y,xs,r,o,es,ep,h1,h2,h3,h4,fun x hx=>?_,h5⟩
  have all:∀ {l:List (List Key × V)} {m:List (List Key × Addr × Value)},KT H l m→∀ x∈m,(tupleKind (mixKind P w)).is h x.1 x.2.1:=by
    intro l m q
    induction q with
    | nil=>intro x hx;exact nomatch hx
    | @cons p q ps qs hq t ih =>
      intro x hx
      rcases List.mem_cons.mp hx with e | hx
      · subst e
        exact key_of ok (by rw [← hq.1];exact hq.2.1)
      · exact ih x hx
  exact all r x hx
theorem dt_of {kvs:List (List Key × V)} (ok:HOk P w H h) (e:H a=some (.dT kvs)):kvs.length≤sizeLine∧(a == sysModules)=false ∧
    ∃ xs,KT H kvs xs∧h.DictOfH (tupleKind (mixKind P w)) a xs:=dt_rd ok (.inl e)
end
def DGet (H:Hp) (a:Addr) (y:V) (r:Option V):Prop :=
  (∃ kvs k,Rd H a (.dK kvs)∧y=kV k∧r=valV kvs k)∨∃ kvs k b,Rd H a (.dT kvs)∧y=.ref b∧H b=some (.tup (k.map kV))∧r=valV kvs k
def DPut (H:Hp) (a:Addr) (y v:V) (H':Hp):Prop :=
  (∃ kvs k,H a=some (.dK kvs)∧y=kV k∧kvs.length < sizeLine∧H'=upd H a (.dK (putK kvs k v))) ∨
  ∃ kvs k b,H a=some (.dT kvs)∧y=.ref b∧H b=some (.tup (k.map kV))∧kvs.length < sizeLine∧H'=upd H a (.dT (putK kvs k v))
theorem DGet.k {H:Hp} {a:Addr} {kvs:List (Key × V)} {k:Key} (e:H a=some (.dK kvs)):DGet H a (kV k) (valV kvs k):=.inl ⟨kvs,k,.inl e,rfl,rfl⟩
theorem DGet.t {H:Hp} {a b:Addr} {kvs:List (List Key × V)} {k:List Key} (e:H a=some (.dT kvs)) (eb:H b=some (.tup (k.map kV))):DGet H a (.ref b) (valV kvs k):=.inr ⟨kvs,k,b,.inl e,rfl,eb,rfl⟩
theorem DPut.k {H:Hp} {a:Addr} {kvs:List (Key × V)} {k:Key} {v:V} (e:H a=some (.dK kvs)) (hl:kvs.length < sizeLine):DPut H a (kV k) v (upd H a (.dK (putK kvs k v))):=.inl ⟨kvs,k,e,rfl,hl,rfl⟩
theorem DPut.t {H:Hp} {a b:Addr} {kvs:List (List Key × V)} {k:List Key} {v:V} (e:H a=some (.dT kvs)) (eb:H b=some (.tup (k.map kV))) (hl:kvs.length < sizeLine) :
    DPut H a (.ref b) v (upd H a (.dT (putK kvs k v))):=.inr ⟨kvs,k,b,e,rfl,eb,hl,rfl⟩
section
variable {X:Cx} {pins:List (Addr × Obj)} {σ:St} {H:Hp} {s:Shared} {a:Addr} {y v:V} {u r:Value} {o:Option V} {A:Around} {E:Value→Shared→Prop}
theorem Inv.big (I:Inv X pins σ H s):sysModules < s.heap.objs.size:=by
  have h:mainGlobals < s.heap.objs.size:=(I.mod.glob.keeps I.bk).lt
  exact Nat.lt_trans (by decide) h
theorem d_getItem {Q:Value→Shared→Prop} (hu:A.units+1 < cLine) (I:Inv X pins σ H s) (g:DGet H a y (some v)) (ry:RelV y u) (h:∀ w' s',Inv X pins σ H s'→RelV v w'→Q w' s') :
    wpAny (model X.prog X.w) A (getItem (.ref a) u) Q E s:=by
  rcases g with ⟨kvs,k,e,ey,l⟩ | ⟨kvs,k,b,e,ey,eb,l⟩
  · subst ey
    obtain ⟨z,hd,vs,rel,dd⟩:=dk_rd I.hok e
    obtain ⟨w',hw,rw'⟩:=RelO.some_of (v:=v) (o:=valueAt vs k) (by rw [l];exact rel.val k)
    exact wpAny_getItem_of (kV_is ry) dd.mapOf hw (h w' _ (I.tok _) rw')
  · subst ey
    cases (show u=Value.ref b from ry)
    obtain ⟨z,hd,xs,rel,dd⟩:=dt_rd I.hok e
    obtain ⟨w',hw,rw'⟩:=RelO.some_of (v:=v) (o:=(atKey xs k).map (·.2)) (by rw [l];exact rel.val k)
    obtain ⟨p,hp,hp2⟩:=Option.map_eq_some_iff.mp hw
    refine wpAny_getItem_heap (tupleKind_room_in1 hu) (key_of I.hok eb) dd hp ?_
    rw [hp2]
    exact h w' _ (I.tok _) rw'
theorem d_write {h':Heap} {t':Nat} {ob:HO} (I:Inv X pins σ H s) (mu:Mut (H a)) (hs:Heap.SameBut a s.heap h') (he:∃ q,h'.get? a=some q) (new:ObjOk X.prog X.w (upd H a ob) h' a ob) :
    Inv X pins σ (upd H a ob) { s with heap:=h',toks:=t' } :=
  I.write (x:=a) (e:=a) mu (.inl rfl) (fun b q hb z=>(hs.2 b hb).trans z) he new
theorem dk_new {P:Program} {w:World} {H':Hp} {h':Heap} {kvs:List (Key × V)} {vs:List (Key × Value)} (z:kvs.length≤sizeLine) (hd:(a == sysModules)=false) (rel:KV kvs vs) (dd:h'.DictOf (mixKind P w) a vs) :
    ObjOk P w H' h' a (.dK kvs):=⟨z,hd,vs,rel,dd⟩
theorem d_setItem {H':Hp} {Q:Unit→Shared→Prop} (hu:A.units+1 < cLine) (I:Inv X pins σ H s) (g:DPut H a y v H') (ry:RelV y u) (rv:RelV v r) (h:∀ s',Inv X pins σ H' s'→Q () s') :
    wpAny (model X.prog X.w) A (setItem (.ref a) u r) Q E s:=by
  rcases g with ⟨kvs,k,e,ey,l,eH⟩ | ⟨kvs,k,b,e,ey,eb,l,eH⟩
  · subst ey eH
    obtain ⟨z,hd,vs,rel,dd⟩:=dk_of I.hok e
    have hz:vs.length≤sizeLine:=by rw [← rel.length];exact z
    have hl:(putK kvs k v).length≤sizeLine:=by have:=length_putK kvs k v;omega
    refine wpAny_setItem_pairs (hsz:=hz) (kV_is ry) dd fun h' dd' hs=>h _ ?_
    have he:∃ q,h'.get? a=some q:=let ⟨q,_,_,hq,_⟩:=dd';⟨q,hq⟩
    exact d_write I (by rw [e];exact True.intro) hs he (dk_new hl hd (rel.put k rv) dd')
  · subst ey eH
    cases (show u=Value.ref b from ry)
    obtain ⟨z,hd,xs,rel,dd⟩:=dt_of I.hok e
    have hz:xs.length≤sizeLine:=by rw [← Paired.length rel];exact z
    have hl:(putK kvs k v).length≤sizeLine:=by have:=length_putK kvs k v;omega
    refine wpAny_setItem_heap (hsz:=hz) (tupleKind_room_in1 hu) (key_of I.hok eb) dd fun h' dd' hs=>h _ ?_
    obtain ⟨q,es,ep,hq,h2,h3,h4,_,h5⟩:=dd'
    refine d_write I (by rw [e];exact True.intro) hs ⟨q,hq⟩ ⟨hl,hd,_,(rel.put k eb rv).keeps fun c ys ec=>?_,q,es,ep,hq,h2,h3,h4,h5⟩
    rw [upd_ne (ne_of ec e (fun z=>nomatch z))]
    exact ec
end
section
variable {X:Cx} {pins:List (Addr × Obj)} {σ:St} {H:Hp} {s:Shared} {a:Addr} {kvs:List (Key × V)} {k:Key} {u:Value} {A:Around} {E:Value→Shared→Prop}
theorem d_len {Q:Value→Shared→Prop} (I:Inv X pins σ H s) (e:Rd H a (.dK kvs)) (h:∀ t s',Inv X pins σ H s'→Q (.int kvs.length t) s'):wpAny (model X.prog X.w) A (call (.builtin "len") [.ref a]) Q E s:=by
  obtain ⟨z,hd,vs,rel,dd⟩:=dk_rd I.hok e
  refine call_len_dict hd dd (by rw [← rel.length];rw [sizeLine_eq] at z;omega) ?_
  rw [← rel.length]
  exact h _ _ (I.tok _)
end
def NoSl (i:Expr):Prop:=∀ ov iv,subscripted i false ov iv=operate [ov,iv] (getItem ov iv)
theorem subD_of {prog:Program} {w:World} {A:Around} {E:Value→Shared→Prop} {s:Shared} {env:Env} {value slice:Expr} {pos:Pos} {T id:String} {Q:Value→Shared→Prop}
    (hl:typeLookup (.type T) "__getitem__" = pure (some (.builtin id))) (hs:NoSl slice)
    (h:wpAny (model prog w) A (eval value env) (fun o s₁=>wpAny (model prog w) A (eval slice env) (fun i s₂=>s₂.TypeIs o T∧wpAny (model prog w) A (getItem o i) Q E s₂) E s₁) E s) :
    wpAny (model prog w) A (eval (.Subscript value slice pos) env) Q E s:=by
  refine Subscript_ (wpAny_mono h (fun o s₁ h₁=>wpAny_mono h₁ (fun i s₂ h₂=>?_) fun _ _ x=>x) fun _ _ x=>x)
  obtain ⟨hT,h₂⟩:=h₂
  unfold subscriptTail
  refine wpAny_bind ?_
  rw [getitemInPython_of_ne hT.not_modules]
  refine wpAny_bind (wpAny_specialOf hT hl ?_)
  have fin:wpAny (model prog w) A (subscripted slice false o i) (fun r s₃=>wpAny (model prog w) A (letTemporaryGo value o r >>= fun _=>pure r) Q E s₃) E s₂:=by
    rw [hs o i]
    exact wpAny_operating (wpAny_mono h₂ (fun r s₃ h₃=>wpAny_bind (wpAny_letTemporaryGo (wpAny_pure h₃))) fun _ _ x=>x)
  first
    | exact wpAny_pure (wpAny_bind fin)
    | exact wpAny_bind (wpAny_pure (wpAny_bind fin))
    | exact wpAny_bind fin
theorem dict_typeIs {X:Cx} {pins:List (Addr × Obj)} {σ:St} {H:Hp} {s:Shared} {a:Addr} {y:V} {o:Option V} (I:Inv X pins σ H s) (g:DGet H a y o):s.TypeIs (.ref a) "dict":=by
  rcases g with ⟨kvs,k,e,_,_⟩ | ⟨kvs,k,b,e,_,_,_⟩
  · obtain ⟨_,_,vs,_,dd⟩:=dk_rd I.hok e
    exact dd.typeIs
  · obtain ⟨_,_,xs,_,dd⟩:=dt_rd I.hok e
    exact dd.typeIs
def tDGet (td ty:TE):TE:=fun σ H Q=>td σ H fun x H1=>ty σ H1 fun y H2=>∃ a v,x=.ref a∧DGet H2 a y (some v)∧Q v H2
def sDPut (td ty tv:TE):TS:=fun D σ H=>tv σ H fun v H1=>td σ H1 fun x H2=>ty σ H2 fun y H3=>∃ a H4,x=.ref a∧DPut H3 a y v H4∧D.nx σ H4
section
variable {X:Cx} {o i e value:Expr} {pos pos' tpos:Pos} {td ty tv:TE}
theorem pe_dget (hu:X.A.units+1 < cLine) (ho:PE X o td) (hi:PE X i ty) (hs:NoSl i):PE X (.Subscript o i pos) (tDGet td ty):=by
  intro pins s σ H Q I h
  refine subD_of PySem.F.slot_dict_getitem.lookup hs (thn (ho pins s σ H _ I h) fun u s1 ⟨x,H1,I1,rx,q1⟩=>thn (hi pins s1 σ H1 _ I1 q1) fun iv s2 ⟨y,H2,I2,ry,a,v,ex,g,q2⟩=>?_)
  subst ex
  obtain rfl:u=Value.ref a:=rx
  exact ⟨dict_typeIs I2 g,d_getItem hu I2 g ry fun w' s3 I3 rw'=>⟨v,H2,I3,rw',q2⟩⟩
theorem ps_dput (hu:X.A.units+1 < cLine) (ho:PE X o td) (hi:PE X i ty) (hv:PE X value tv) (hs:swapsWith value (some (.Subscript o i pos')) pos.line X.env=pure false) :
    PS X (.Assign [.Subscript o i pos'] value pos) (sDPut td ty tv):=by
  intro pins s σ H D I h
  refine wpAny_Assign_Subscript (thn (hv pins s σ H _ I h) fun r s1 ⟨v,H1,I1,rv,q1⟩=>thn (ho pins s1 σ H1 _ I1 q1) fun u s2 ⟨x,H2,I2,rx,q2⟩=>thn (hi pins s2 σ H2 _ I2 q2) fun iv s3 ⟨y,H3,I3,ry,a,H4,ex,g,q3⟩=>?_) hs
  subst ex
  obtain rfl:u=Value.ref a:=rx
  exact d_setItem hu I3 g ry rv fun s4 I4=>⟨σ,H4,I4,q3⟩
end
theorem dk_empty {P:Program} {w:World} {H:Hp} (h:Heap) (hb:sysModules < h.objs.size):ObjOk P w H (h.push { cls:=.type "dict",data:=.dict #[] }) h.objs.size (.dK []) :=
  ⟨Nat.zero_le _,beq_eq_false_iff_ne.mpr (Ne.symm (Nat.ne_of_lt hb)),[],.nil,Heap.DictOf.new h⟩
def tDNewK:TE:=fun _ H Q=>∀ p,H p=none→Q (.ref p) (upd H p (.dK []))
section
variable {X:Cx} {pos:Pos}
theorem pe_dnewK:PE X (.Dict [] [] pos) tDNewK:=fun pins s σ H Q I h =>
  wpAny_Dict_empty ⟨.ref s.heap.objs.size,_,I.laid (a:=s.heap.objs.size) (o:=.dK []) (t':=s.toks) (fun _ _ q=>Heap.get?_push_of_some _ q) (Nat.le_refl _) (dk_empty s.heap I.big),rfl,h _ (I.hok.fresh (Nat.le_refl _))⟩
end
structure M1 (X:Cx) (o:Expr) (m:Str) (apos:Pos) (e:Expr) (cpos:Pos):Prop where
  base:attributeBase o m X.env (eval o X.env)=eval o X.env
  few:((backTo cpos (starEach [e] X.env)).all (fun x=>!x.1) && (backToKw cpos (keywordEach [] X.env)).all (fun x=>x.1.isSome)
    && decide (([e]:List Expr).length+([]:List Keyword).length+(if ([]:List Keyword).isEmpty then 0 else 1) < 30))=true
  line:(apos.endLine == cpos.line)=true
  trees:backTo cpos (starEach [e] X.env)=[(false,eval e X.env)]
structure M2 (X:Cx) (o:Expr) (m:Str) (apos:Pos) (e f:Expr) (cpos:Pos):Prop where
  base:attributeBase o m X.env (eval o X.env)=eval o X.env
  few:((backTo cpos (starEach [e,f] X.env)).all (fun x=>!x.1) && (backToKw cpos (keywordEach [] X.env)).all (fun x=>x.1.isSome)
    && decide (([e,f]:List Expr).length+([]:List Keyword).length+(if ([]:List Keyword).isEmpty then 0 else 1) < 30))=true
  line:(apos.endLine == cpos.line)=true
  trees:backTo cpos (starEach [e,f] X.env)=[(false,eval e X.env),(false,eval f X.env)]
section
variable {X:Cx} {pins:List (Addr × Obj)} {σ:St} {H:Hp} {s:Shared} {a:Addr} {y d:V} {u r:Value} {o:Option V} {A:Around} {E:Value→Shared→Prop}
end
section
variable {X:Cx} {o e f:Expr} {apos cpos:Pos} {td ty tx:TE}
end
section
variable {X:Cx} {pins:List (Addr × Obj)} {σ:St} {H:Hp} {s:Shared} {a:Addr} {kvs:List (Key × V)} {A:Around} {E:Value→Shared→Prop}
end
section
variable {X:Cx} {pins:List (Addr × Obj)} {σ:St} {H:Hp} {s:Shared} {a:Addr} {y:V} {u:Value} {A:Around} {E:Value→Shared→Prop}
end
end L2
namespace Att
open PySem PySem.W PySem.Calls PyProof.Rows
theorem ints_of_wellAll {P:Params} {h:Heap}:∀ (ns:List Int) (vs:List Value),WellAll P h vs (ns.map WData.int)→IntsAre vs ns:=by
  intro ns
  induction ns with
  | nil =>
    intro vs w
    rw [List.map_nil] at w
    cases w
    exact .nil
  | cons n ns ih =>
    intro vs w
    rw [List.map_cons] at w
    cases w with
    | cons a b =>
      cases a
      exact .cons _ _ (ih _ b)
theorem script_of {l:OpenLaw} {n:Nat} (hn:l.most=some n) {P:Params} {h:Heap} {args:List WData} {vals:List Value}
    (hpre:l.row.toRowW.claim.pre args=true) (hwl:WellAll P h vals args) :
    ∃ a vs ns,vals=[Value.ref a]∧args=[WData.list (ns.map WData.int)]∧h.get? a=some { cls:=.type "list",data:=.seq vs.toArray }∧IntsAre vs ns∧ns.length≤n:=by
  have hsh:WShape.hasAll [] args [.list .int]=true:=(pre_splitW hpre).1
  have hc:l.pre.holds [] { args:=args }=true:=(pre_splitW hpre).2
  obtain ⟨d,r,rfl,h1,h2⟩:=hasAllW_cons hsh
  obtain rfl:=hasAllW_nil h2
  obtain ⟨xs,rfl,h3⟩:=hasW_list h1
  obtain ⟨ns,rfl⟩:=items_int h3
  have hlen:ns.length≤n:=by
    unfold OpenLaw.pre at hc
    have h4:(WTm.not (.lt (.lit (.int (n:Int))) (.len (.arg 0)))).holds [] { args:=[.list (ns.map .int)] }=true:=by
      have h4:=(holds_andW hc).1
      rw [hn] at h4
      exact h4
    have h5:=condW_of h4 (w_not (w_lt w_lit (w_len_list (w_arg rfl))))
    rw [List.length_map] at h5
    refine Nat.le_of_not_lt fun q=>?_
    have q':(n:Int) < ((ns.length:Nat):Int):=by omega
    first
      | (rw [decide_eq_true q'] at h5;exact absurd h5 (by decide))
      | (simp at h5;omega)
  cases hwl with
  | cons w1 w2 =>
    cases w2
    cases w1 with
    | list ho hall=>exact ⟨_,_,ns,rfl,rfl,ho,ints_of_wellAll ns _ hall,hlen⟩
theorem post_true (l:OpenLaw) (args:List WData):l.row.toRowW.claim.post args (.bool true) args=true :=
  postW_of (r:=l.row.toRowW) (X:=(true == true))
    (show WShape.has [] (.bool true) .bool=true by first | rfl | decide | simp [WShape.has,WShape.arms,WShape.armsAll])
    (show (WTm.eq .res (.lit (.bool true))).value [] { args:=args,res:=some (.bool true),after:=args }=some (.bool (true == true)) from w_eq_bool (w_res rfl) w_lit) rfl
theorem attach_call {l:OpenLaw} {n:Nat} {q:Program} {loose:List Str} {XP:(Str→Option Value)→Heap→Prop} {YP:World→Heap→Prop} {d:DefRec}
    (hn:l.most=some n) (hdf:d.params.defaults=[])
    (call:∀ (w:World) (s₀ s₁:Shared) (mg mb:Str→Option Value) (fa:Addr) (o:Obj) (pm cd doc:Value) (a:Addr) (vs:List Value) (ns:List Int),
      Ground q loose [] XP w s₀ mg mb s₁.heap→YP w s₁.heap →
      s₁.heap.get? fa=some o→o.data=.func (docDef d.name d.params d.body d.scope pm cd doc)→s₁.heap.CodeRec cd d.name→mg d.name=some (.ref fa) →
      s₁.heap.get? a=some { cls:=.type "list",data:=.seq vs.toArray }→IntsAre vs ns→ns.length≤n→s₁.gens = #[] →
      codeAny (model l.prog w) callerA (.call (.ref fa) ⟨[.ref a],[]⟩) (fun r s'=>r=.ok (.ret (.bool true))∧OldK s₁.heap s'.heap∧s'.os=s₁.os∧AllBare s'.gens) s₁) :
    WalkO q loose XP YP l.row.toRowW d [] (fun f vs=>PySem.call f vs):=by
  intro w s₀ s₁ mg mb G Y fa o pm cd doc dV kV ho hd hcd hD hmg hg args vals as hpre hlay hrd hwl hlo
  obtain rfl:dV=.none:=Dflts.none hD hdf
  obtain rfl:kV=.none:=Dflts.noKw hD
  obtain ⟨a,vs,ns,rfl,rfl,hobj,hints,hlen⟩:=script_of hn hpre hwl
  refine enter_call (codeAny_mono (call w s₀ s₁ mg mb fa o pm cd doc a vs ns G Y ho (fd_plain hd) hcd hmg hobj hints hlen hg) fun r s' hq=>?_)
  obtain ⟨rfl,h2,h3,h4⟩:=hq
  exact ⟨.inl ⟨.bool true,.bool true,[],rfl,fun _=>rfl,.bool true,post_true l _,fun _=>⟨List.Pairwise.nil,fun _ hm=>(nomatch hm)⟩⟩,h2,h3,h4⟩
section
variable {prog:Program} {w:World} {A:Around} {E:Value→Shared→Prop} {s:Shared} {K:Frag}
def ledger (h:Heap) (L d:Addr):List (Addr × Obj):=(List.range h.objs.size).filterMap fun a=>if a=L∨a=d then none else (h.get? a).map fun o=>(a,o)
end
end Att
namespace L2
open PySem PySem.Spec PyProof.Rows
theorem vals_ints:∀ {vs:List Value} {ns:List Int},IntsAre vs ns→Vals (ns.map V.int) vs
  | _,_,.nil=>.nil
  | _,_,.cons n t h=>.cons ⟨t,rfl⟩ (vals_ints h)
def Only (H:Hp):Prop:=∀ b,H b=none∨∃ o xs,H b=some (.frz o (.lst xs))
theorem law_call {P:Program} {w:World} {K:PySem.W.Frag} {mg mb:Str→Option Value} {CX:CXT} {k:Nat} {fa a:Addr} {fd:FuncData} {x:Str} {sp:Sp} {s₁:Shared} {vs:List Value} {ns:List Int}
    (KX:K.In s₁.heap) (hns:s₁.heap.Ns mainGlobals mg) (hb:s₁.heap.Ns builtinsNs mb) (hbb:∀ x:Str,x≠"__name__"→mb x=bootBuiltins x) (hlim:s₁.heap.NoLimit) (hg:s₁.gens = #[])
    (ha:s₁.heap.get? a=some { cls:=.type "list",data:=.seq vs.toArray }) (hi:IntsAre vs ns) (hl:ns.length≤sizeLine) (hr:Room k callerA)
    (F:∀ base:Heap,K.In base→base.Ns mainGlobals mg→FnOk P w K mg base CX k fa fd [x] sp) (hbind:∀ (s:Shared) (u:Value),BindsTo s fd ⟨[u],[]⟩ [(x,u)])
    (hsp:∀ H:Hp,Only H→SqL K H a (ns.map V.int)→sp [.ref a] H (fun v _=>v=.bl true) fun _ _ _=>False)
    (hCX:∀ H e s',CX [] H s₁ (fun _ _ _=>False) e s'→False) :
    codeAny (model P w) callerA (.call (.ref fa) ⟨[.ref a],[]⟩) (fun r s'=>r=.ok (.ret (.bool true))∧OldK s₁.heap s'.heap∧s'.os=s₁.os∧AllBare s'.gens) s₁:=by
  have rv:=vals_ints hi
  have lenV:=hi.length
  -- from an abstract heap in which nothing but the script may be tracked
  have core:∀ H:Hp,Only H→SqL K H a (ns.map V.int)→HOk P w H s₁.heap→(∀ b,H b≠none→b=a)→(H a≠none→K.lookup a=none) →
      codeAny (model P w) callerA (.call (.ref fa) ⟨[.ref a],[]⟩) (fun r s'=>r=.ok (.ret (.bool true))∧OldK s₁.heap s'.heap∧s'.os=s₁.os∧AllBare s'.gens) s₁:=by
    intro H hO hS hok hA hK
    have base_of:∀ {b:Addr} {o:Obj},s₁.heap.get? b=some o→H b=none→(hidT s₁.heap H).get? b=some o:=fun e n=>hidT_get e n
    have noA:∀ {b:Addr} {o:Obj} {es:Array DictEntry} {ep:Nat},s₁.heap.get? b=some o→o.data=.dict es ep→H b=none:=fun {b o es ep} e d=>by
      cases q:H b with
      | none=>rfl
      | some u =>
        have e':b=a:=hA b (by rw [q];simp)
        subst e'
        rw [ha] at e;cases e
        have d':Data.seq vs.toArray _=Data.dict es ep:=d
        cases d'
    have nsK:∀ {b:Addr} {m:Str→Option Value},s₁.heap.Ns b m→(hidT s₁.heap H).Ns b m:=fun {b m} ⟨o,es,ep,e,d,r⟩=>⟨o,es,ep,base_of e (noA e d),d,r⟩
    have hKb:K.In (hidT s₁.heap H):=fun b o e=>base_of (KX b o e) (by
      cases q:H b with
      | none=>rfl
      | some u =>
        have e':b=a:=hA b (by rw [q];simp)
        subst e'
        rw [hK (by rw [q];simp)] at e;cases e)
    have hM:Mod K mg (hidT s₁.heap H):=⟨hKb,nsK hns,⟨mb,nsK hb,hbb⟩,let ⟨mc,h1,h2⟩:=hlim;⟨mc,nsK h1,h2⟩⟩
    have e0:Env0 P w K mg (hidT s₁.heap H) callerA [] s₁ H:=⟨rfl,hM,fun b o e=>of_hidT e,Nat.le_of_eq (hidT_size _ _),trivial,fun b hb=>absurd (show b∈([]:List Addr) from hb) (by simp),hok,.of_eq hg⟩
    refine codeAny_mono ((F _ hKb (nsK hns)).run callerA [] s₁ H ⟨[.ref a],[]⟩ [.ref a] [.ref a] _ _ hr e0 (hbind s₁ (.ref a)) (.cons rfl .nil) (hsp H hO hS)) fun r s' h=>?_
    cases r with
    | error e=>exact (hCX H e s' h).elim
    | ok fl =>
      cases fl with
      | next=>exact False.elim h
      | brk=>exact False.elim h
      | cont=>exact False.elim h
      | ret u =>
        obtain ⟨v,H',os,bare,un,hok',r',q⟩:=h
        have q':v=.bl true:=q
        subst q'
        obtain rfl:u=Value.bool true:=r'
        refine ⟨rfl,OldK.of_keep fun b o e=>?_,os,bare⟩
        cases q:H b with
        | none=>exact un.keep b o e q (by intro z;exact absurd (show b∈([]:List Addr) from z) (by simp)) (by simp)
        | some u =>
          rcases hO b with z | ⟨ob,xs,z⟩
          · rw [q] at z;cases z
          · have z2:=un.frzs b ob _ z
            obtain ⟨e1,_⟩:=hok b _ z
            obtain ⟨e2,_⟩:=hok' b _ z2
            rw [e] at e1;cases e1
            exact e2
  cases hk:K.lookup a with
  | some o =>
    -- the script is one of the module's own objects
    have e:=KX a o hk
    rw [ha] at e
    cases e
    refine core (fun _=>none) (fun _=>.inl rfl) (.inr ⟨_,vs.toArray,_,hk,rfl,rfl,rfl,by rw [List.size_toArray,lenV];exact hl,by simpa using rv⟩) (fun b u z=>by have z':(none:Option HO)=some u:=z;cases z') (fun b z=>absurd rfl z) fun z=>absurd rfl z
  | none =>
    refine core (fun b=>if b=a then some (.frz { cls:=.type "list",data:=.seq vs.toArray } (.lst (ns.map V.int))) else none) (fun b=>?_) (.inl (.inr ⟨{ cls:=.type "list",data:=.seq vs.toArray },if_pos rfl⟩)) (fun b u z=>?_) (fun b z=>?_) fun _=>hk
    · by_cases hb:b=a
      · exact .inr ⟨_,_,if_pos hb⟩
      · exact .inl (if_neg hb)
    · by_cases hb:b=a
      · have z':=(if_pos hb).symm.trans z
        cases z'
        subst hb
        exact ⟨ha,by rw [List.length_map];exact hl,vs,_,rv,ha⟩
      · have z':=(if_neg hb).symm.trans z
        cases z'
    · by_cases hb:b=a
      · exact hb
      · exact absurd (if_neg hb) z
end L2
namespace L2
open PySem PySem.Spec PyProof.Rows
theorem walk_of {l:PySem.W.OpenLaw} {n k:Nat} {q:Program} {loose:List Str} {XP:(Str→Option Value)→Heap→Prop} {YP:World→Heap→Prop} {d:DefRec} {K:Params→PySem.W.Frag} {CX:World→CXT} {sp:World→Sp} {x:Str}
    (hn:l.most=some n) (hn2:n≤sizeLine) (hdf:d.params.defaults=[]) (hr:Room k callerA)
    (hY:∀ (w:World) (h:Heap),YP w h→(K w.params).In h)
    (F : ∀ (w:World) (mg:Str→Option Value) (fa:Addr) (h:Heap),(K w.params).In h→h.Ns mainGlobals mg→mg d.name=some (.ref fa) →
      ∃ fd:FuncData,(∀ (s:Shared) (u:Value),BindsTo s fd ⟨[u],[]⟩ [(x,u)]) ∧
        ∀ base:Heap,(K w.params).In base→base.Ns mainGlobals mg→FnOk l.prog w (K w.params) mg base (CX w) k fa fd [x] (sp w))
    (hsp:∀ (w:World) (H:Hp) (a:Addr) (ns:List Int),ns.length≤n→Only H→SqL (K w.params) H a (ns.map V.int)→sp w [.ref a] H (fun v _=>v=.bl true) fun _ _ _=>False)
    (hCX:∀ (w:World) (H:Hp) (s:Shared) (e:Value) (s':Shared),CX w [] H s (fun _ _ _=>False) e s'→False) :
    PySem.W.WalkO q loose XP YP l.row.toRowW d [] (fun f vs=>PySem.call f vs):=by
  refine Att.attach_call hn hdf fun w s₀ s₁ mg mb fa o pm cd doc a vs ns G Y ho hd hcd hmg hobj hints hlen hg=>?_
  have KX:=hY w _ Y
  obtain ⟨fd,hb,hF⟩:=F w mg fa _ KX G.T.g hmg
  exact law_call KX G.T.g G.T.b G.T.builtins G.T.nolimit hg hobj hints (Nat.le_trans hlen hn2) hr hF hb (fun H hO hS=>hsp w H a ns hlen hO hS) fun H e s'=>hCX w H s₁ e s'
end L2
namespace L2
open PySem PySem.Spec PyProof.Rows
def defArgs (s:Stmt):Arguments:=match s with
  | .FunctionDef _ a _ _ _ _ _ _ _ _=>a
  | _=>{ posonlyargs:=[],args:=[],vararg:=none,kwonlyargs:=[],kw_defaults:=[],kwarg:=none,defaults:=[] }
def defBody (s:Stmt):List Stmt:=match s with
  | .FunctionDef _ _ b _ _ _ _ _ _ _=>b
  | _=>[]
def defScope (s:Stmt):Scope:=match s with
  | .FunctionDef _ _ _ _ _ _ sc _ _ _=>sc
  | _=>{ kind:=.function,names:=[],isGenerator:=false,isCoroutine:=false }
abbrev CX0:CXT:=fun _ _ _ _ _ _=>False
abbrev E0:XK:=fun _ _ _=>False
theorem pass0 {X:Cx}:Passes CX0 X E0:=fun _ _ _ _ _ _ _ h=>h.elim
structure Fun (K:PySem.W.Frag) (x qual:Str) (st:Stmt) (f:Addr) (fd:FuncData):Prop where
  ex : ∃ (oc:Value) (od:Option Addr) (kV doc pm:Value) (an:Option Addr) (cdv ct:Value) (osl:Array (Option Value)),
    fd=PySem.W.fnOf x qual (defArgs st) (defBody st) (defScope st) .none kV doc pm an cdv ct∧K.lookup f=some ⟨oc,od,.func fd,osl⟩∧PySem.W.codeIn K cdv qual=true
  kp:PySem.W.keepIn K (.ref f)=true
section
variable {P:Program} {w:World} {K:PySem.W.Frag} {mg:Str→Option Value} {base:Heap}
theorem Fun.ok {x qual:Str} {st:Stmt} {f:Addr} {fd:FuncData} {N ps:List Str} {k:Nat} {sp:Sp} (F:Fun K x qual st f fd) (S:FnScope N ps (defScope st)) (len:∀ vs H Q E,sp vs H Q E→vs.length=ps.length)
    (hbody:∀ (cdv:Value) (A:Around) (outer:List Env) (s:Shared) (H:Hp) (vs:List V) (Q:VK) (E:XK),Room k (A.deeper (envOfC qual (defScope st) s.heap.objs.size f cdv))→sp vs H Q E →
      ∃ t,PSs (cxOf CX0 P w K mg base N qual (defScope st) f cdv A outer s H E).nox (defBody st) t∧t { nx:=fun _ H'=>Q .non H',rt:=Q } (start N vs) H):FnOk P w K mg base CX0 (k+1) f fd ps sp:=by
  obtain ⟨oc,od,kV,doc,pm,an,cdv,ct,osl,rfl,lk,hcd⟩:=F.ex
  refine fn_of lk hcd S len fun A outer s H vs Q E hr hsp=>?_
  obtain ⟨t,h,q⟩:=hbody cdv A outer s H vs Q E hr hsp
  exact ⟨t,h.nox,q⟩
theorem Fun.binds {x qual:Str} {st:Stmt} {f:Addr} {fd:FuncData} {ps:List Str} (F:Fun K x qual st f fd)
    (h:∀ (kV doc pm:Value) (an:Option Addr) (cdv ct:Value) (us:List Value),us.length=ps.length→bindArgs (PySem.W.fnOf x qual (defArgs st) (defBody st) (defScope st) .none kV doc pm an cdv ct) ⟨us,[]⟩=pure (ps.zip us)):Binds K fd ps []:=by
  obtain ⟨oc,od,kV,doc,pm,an,cdv,ct,osl,rfl,lk,hcd⟩:=F.ex
  exact .all (h kV doc pm an cdv ct)
theorem fun_mk {x qual:Str} {st:Stmt} {f:Addr} {oc:Value} {od an:Option Addr} {osl:Array (Option Value)} {kV doc pm cdv ct:Value} (l:K.lookup f=some ⟨oc,od,.func (PySem.W.fnOf x qual (defArgs st) (defBody st) (defScope st) .none kV doc pm an cdv ct),osl⟩)
    (c:PySem.W.codeIn K cdv qual=true) (k:PySem.W.keepIn K (.ref f)=true):Fun K x qual st f (PySem.W.fnOf x qual (defArgs st) (defBody st) (defScope st) .none kV doc pm an cdv ct):=⟨⟨oc,od,kV,doc,pm,an,cdv,ct,osl,rfl,l,c⟩,k⟩
end
theorem hu_of {A:Around} {k:Nat} (hr:Room k A):A.units+1 < cLine:=Nat.lt_of_le_of_lt (Nat.add_le_add_left (by decide:1≤64) _) hr.units
theorem small1000 {n:Nat} (h:n≤1000):n < sizeLine:=Nat.lt_of_le_of_lt h (by decide)
section
variable {X:Cx}
theorem pv (i:Nat) {x:Str} {pos:Pos} (hN:X.N[i]? = some x:=by rfl) (hv:Vis X.env.scope x:=by first | exact Or.inl rfl | exact Or.inr (Or.inl rfl) | exact Or.inr (Or.inr rfl)) (hd:(x == ("__debug__" : Str))=false:=by decide)
    (hcd:(x == ("__classdict__" : Str))=false:=by decide):PE X (.Name x pos) (tVar i):=pe_var hN hv hd hcd
end
theorem iteF {A B:Prop} (h:B):if false=true then A else B:=by
  rw [if_neg Bool.false_ne_true]
  exact h
theorem iteT {A B:Prop} (h:A):if true=true then A else B:=by
  rw [if_pos rfl]
  exact h
theorem ite2 {c A B:Prop} [Decidable c] (h1:c→A) (h2:¬ c→B):if c then A else B:=by
  by_cases h:c
  · rw [if_pos h]
    exact h1 h
  · rw [if_neg h]
    exact h2 h
def Same (H H':Hp):Prop:=∀ b o,H b=some o→H' b=some o
theorem Same.refl (H:Hp):Same H H:=fun _ _ h=>h
theorem Same.trans {H H1 H2:Hp} (a:Same H H1) (b:Same H1 H2):Same H H2:=fun c o h=>b c o (a c o h)
theorem Same.free {H H':Hp} (e:Same H H') {l:Addr} (h:H' l=Option.none):H l=Option.none:=by
  cases q:H l with
  | none=>rfl
  | some o =>
    rw [e l o q] at h
    cases h
theorem Same.seq {K:PySem.W.Frag} {H H':Hp} {a:Addr} {xs:List V} (e:Same H H') (h:SqL K H a xs):SqL K H' a xs:=by
  rcases h with (h | ⟨o,h⟩) | h
  · exact .inl (.inl (e _ _ h))
  · exact .inl (.inr ⟨o,e _ _ h⟩)
  · exact .inr h
section
variable {X:Cx}
theorem call_lenD:CallR X (.builtin "len") (fun xs H Q=>∃ a kvs,xs=[V.ref a]∧H a=some (.dK kvs)∧Q (.int kvs.length) H):=by
  intro pins s σ H xs us Q I r h
  obtain ⟨a,kvs,rfl,ha,q⟩:=h
  obtain ⟨u,rfl,ru⟩:=vals1 r
  cases ru
  exact d_len I (.inl ha) fun t s' I'=>⟨.int kvs.length,H,I',⟨t,rfl⟩,q⟩
end
section
variable {κ:Type} [DecidableEq κ]
theorem nd_snoc:∀ {l:List κ} {k:κ},l.Nodup→¬ k∈l→(l++[k]).Nodup
  | [],k,_,_=>by simp
  | a :: r,k,h,hk=>by
    obtain ⟨h1,h2⟩:=List.nodup_cons.mp h
    show (a :: (r++[k])).Nodup
    refine List.nodup_cons.mpr ⟨fun m=>?_,nd_snoc h2 fun m=>hk (List.mem_cons.mpr (Or.inr m))⟩
    rcases List.mem_append.mp m with q | q
    · exact h1 q
    · exact hk (List.mem_cons.mpr (Or.inl (List.mem_singleton.mp q).symm))
end
end L2
namespace L2
open PySem PySem.Spec PyProof.Rows
theorem closure_go {env:Env} (f:Str × NameKind→List (Str × Addr)→Sem (ForInStep (List (Str × Addr))))
    (hf:∀ name kind cs,f (name,kind) cs=if kind == .free then (do let a ← cellOf env name;pure (.yield ((name,a) :: cs))) else pure (.yield cs)) :
    ∀ (names:List (Str × NameKind)) (acc:List (Str × Addr)),(∀ p∈names,p.2=.free→∃ c,env.cells.lookup p.1=some c) →
      (∀ x c,acc.lookup x=some c→env.cells.lookup x=some c) →
      ∃ cl,(forIn names acc f:Sem _)=pure cl∧(∀ x c,cl.lookup x=some c→env.cells.lookup x=some c)∧(∀ p∈names,p.2=.free→(cl.lookup p.1).isSome=true)∧(∀ x,(acc.lookup x).isSome=true→(cl.lookup x).isSome=true)
  | [],acc,_,ha=>⟨acc,by rw [List.forIn_nil],ha,(fun _ h=>by cases h),fun _ h=>h⟩
  | (n,k) :: r,acc,hn,ha=>by
    rw [List.forIn_cons,hf]
    by_cases hk:k=.free
    · subst hk
      obtain ⟨c,hc⟩:=hn (n,.free) List.mem_cons_self rfl
      obtain ⟨cl,e,h1,h2,h3⟩:=closure_go f hf r ((n,c) :: acc) (fun p hp=>hn p (List.mem_cons_of_mem _ hp)) (fun x d hx=>by
        rw [List.lookup_cons] at hx
        cases hb:x == n with
        | true=>rw [hb] at hx;cases hx;rw [beq_iff_eq.mp hb];exact hc
        | false=>rw [hb] at hx;exact ha x d hx)
      refine ⟨cl,?_,h1,fun p hp hpf=>?_,fun x hx=>h3 x ?_⟩
      · have ec:cellOf env n=pure c:=by unfold cellOf;rw [hc]
        rw [if_pos (by rfl),ec]
        simpa using e
      · rcases List.mem_cons.mp hp with z | z
        · subst z;exact h3 n (by rw [List.lookup_cons];simp)
        · exact h2 p z hpf
      · rw [List.lookup_cons]
        cases hb:x == n with
        | true=>rfl
        | false=>exact hx
    · obtain ⟨cl,e,h1,h2,h3⟩:=closure_go f hf r acc (fun p hp=>hn p (List.mem_cons_of_mem _ hp)) ha
      refine ⟨cl,?_,h1,fun p hp hpf=>?_,h3⟩
      · have hb:(k == NameKind.free)=false:=by simpa using hk
        rw [hb]
        simpa using e
      · rcases List.mem_cons.mp hp with z | z
        · subst z;exact absurd hpf hk
        · exact h2 p z hpf
theorem closure_ok {env:Env} {scope:Scope} (h:∀ p∈scope.names,p.2=.free→∃ c,env.cells.lookup p.1=some c) :
    ∃ cl,closureFor scope env=pure cl∧(∀ x c,cl.lookup x=some c→env.cells.lookup x=some c)∧(∀ p∈scope.names,p.2=.free→(cl.lookup p.1).isSome=true):=by
  unfold closureFor
  obtain ⟨cl,e,h1,h2,_⟩:=closure_go (env:=env) (fun x r=>match x,r with
    | (name,kind),cs=>if kind == .free then (do let a ← cellOf env name;pure (.yield ((name,a) :: cs))) else pure (.yield cs)) (fun _ _ _=>rfl) scope.names [] h (fun _ _ z=>nomatch z)
  refine ⟨cl,?_,h1,h2⟩
  have e':=congrArg (fun t:Sem (List (Str × Addr))=>t >>= fun cs=>pure cs) e
  first
    | simpa using e'
    | (simp only [pure_bind,bind_pure] at e' ⊢;exact e')
theorem cells_inj:∀ (names:List (Str × NameKind)) (n:Nat) (acc:List (Str × Addr)),(∀ (x y:Str) (c:Nat),acc.lookup x=some c→acc.lookup y=some c→x=y)→(∀ (x:Str) (c:Nat),acc.lookup x=some c→c < n) →
    (∀ (x y:Str) (c:Nat),(cellsFrom n names acc).lookup x=some c→(cellsFrom n names acc).lookup y=some c→x=y)∧(∀ (x:Str) (c:Nat),(cellsFrom n names acc).lookup x=some c→acc.lookup x=some c∨n≤c)
  | [],n,acc,h,hl=>⟨h,fun _ _ z=>.inl z⟩
  | (nm,k) :: r,n,acc,h,hl=>by
    unfold cellsFrom
    split
    · have lt:∀ (x:Str) (c:Nat),List.lookup x ((nm,n) :: acc)=some c→(x=nm∧c=n)∨(x≠nm∧acc.lookup x=some c):=fun x c e=>by
        rw [List.lookup_cons] at e
        cases hb:x == nm with
        | true=>rw [hb] at e;cases e;exact .inl ⟨beq_iff_eq.mp hb,rfl⟩
        | false=>rw [hb] at e;exact .inr ⟨by simpa using hb,e⟩
      obtain ⟨a,b⟩:=cells_inj r (n+1) ((nm,n) :: acc) (fun x y c e1 e2=>by
        rcases lt x c e1 with ⟨z1,z2⟩ | ⟨z1,z2⟩ <;> rcases lt y c e2 with ⟨w1,w2⟩ | ⟨w1,w2⟩
        · rw [z1,w1]
        · have:=hl y c w2;omega
        · have:=hl x c z2;omega
        · exact h x y c z2 w2) (fun x c e=>by
        rcases lt x c e with ⟨z1,z2⟩ | ⟨z1,z2⟩
        · omega
        · have:=hl x c z2;omega)
      refine ⟨a,fun x c e=>?_⟩
      rcases b x c e with z | z
      · rcases lt x c z with ⟨z1,z2⟩ | ⟨z1,z2⟩
        · exact .inr (by omega)
        · exact .inl z2
      · exact .inr (by omega)
    · exact cells_inj r n acc h hl
theorem cells_out {x:Str}:∀ (names:List (Str × NameKind)) (n:Nat) (acc:List (Str × Addr)),(∀ p∈names,p.1=x→p.2≠.cell)→(cellsFrom n names acc).lookup x=acc.lookup x
  | [],_,_,_=>rfl
  | (nm,k) :: r,n,acc,h=>by
    unfold cellsFrom
    split
    · rename_i hk
      have hk':k=.cell:=by simpa using hk
      have ne:x≠nm:=fun e=>h (nm,k) List.mem_cons_self e.symm hk'
      rw [cells_out r (n+1) ((nm,n) :: acc) fun p hp=>h p (List.mem_cons_of_mem _ hp),List.lookup_cons]
      have:(x == nm)=false:=by simpa using ne
      rw [this]
    · exact cells_out r n acc fun p hp=>h p (List.mem_cons_of_mem _ hp)
theorem own_keep {x:Str} {c:Nat}:∀ (names:List (Str × NameKind)) (n:Nat) (acc:List (Str × Addr)) (d:Nat),acc.lookup x=some d→d≤n→(cellsFrom n names acc).lookup x=some c→d≤c
  | [],_,_,_,h,_,e=>by
    have e':_=some c:=e
    unfold cellsFrom at e'
    rw [h] at e';cases e';exact Nat.le_refl _
  | (nm,k) :: r,n,acc,d,h,hd,e=>by
    unfold cellsFrom at e
    split at e
    · cases hb:x == nm with
      | true =>
        have:=own_keep r (n+1) ((nm,n) :: acc) n (by rw [List.lookup_cons,hb]) (Nat.le_succ _) e
        omega
      | false=>exact own_keep r (n+1) ((nm,n) :: acc) d (by rw [List.lookup_cons,hb];exact h) (Nat.le_succ_of_le hd) e
    · exact own_keep r n acc d h hd e
theorem own_new {x:Str} {c:Nat}:∀ (names:List (Str × NameKind)) (n:Nat) (acc:List (Str × Addr)),(∀ (y:Str) (d:Nat),acc.lookup y=some d→d < n)→names.lookup x=some .cell→(cellsFrom n names acc).lookup x=some c→n≤c
  | [],_,_,_,h,_=>by cases h
  | (nm,k) :: r,n,acc,ha,h,e=>by
    rw [List.lookup_cons] at h
    unfold cellsFrom at e
    cases hb:x == nm with
    | true =>
      rw [hb] at h
      cases h
      rw [if_pos (by rfl)] at e
      by_cases hr:r.lookup x=some .cell
      · have:=own_new r (n+1) ((nm,n) :: acc) (fun y d z=>by
          rw [List.lookup_cons] at z
          cases hy:y == nm with
          | true=>rw [hy] at z;cases z;omega
          | false=>rw [hy] at z;have:=ha y d z;omega) hr e
        omega
      · exact own_keep r (n+1) ((nm,n) :: acc) n (by rw [List.lookup_cons,hb]) (Nat.le_succ _) e
    | false =>
      rw [hb] at h
      split at e
      · have:=own_new r (n+1) ((nm,n) :: acc) (fun y d z=>by
          rw [List.lookup_cons] at z
          cases hy:y == nm with
          | true=>rw [hy] at z;cases z;omega
          | false=>rw [hy] at z;have:=ha y d z;omega) h e
        omega
      · exact own_new r n acc ha h e
theorem cells_are:∀ (names:List (Str × NameKind)) (h:Heap) (acc:List (Str × Addr)) (x:Str) (c:Addr),(∀ x c,acc.lookup x=some c→∃ v,h.IsCell c v)→(cellsFrom h.objs.size names acc).lookup x=some c→∃ v,(pushCells h names).IsCell c v
  | [],h,acc,x,c,ha,e=>ha x c e
  | (nm,k) :: r,h,acc,x,c,ha,e=>by
    unfold cellsFrom at e
    unfold pushCells
    split at e
    · rename_i hk
      rw [if_pos hk]
      refine cells_are r (h.push { cls:=.type "cell",data:=.cell none }) ((nm,h.objs.size) :: acc) x c (fun y d z=>?_) (by rw [Heap.size_push];exact e)
      rw [List.lookup_cons] at z
      cases hb:y == nm with
      | true=>rw [hb] at z;cases z;exact ⟨none,_,Heap.get?_push_size _ rfl,rfl⟩
      | false =>
        rw [hb] at z
        obtain ⟨v,q⟩:=ha y d z
        exact ⟨v,q.keeps fun b o e=>Heap.get?_push_of_some _ e⟩
    · rename_i hk
      rw [if_neg hk]
      exact cells_are r h acc x c ha e
end L2
namespace L2
open PySem PySem.Spec PyProof.Rows
section
variable {prog:Program} {w:World} {A:Around} {E:Value→Shared→Prop} {R:Result→Shared→Prop} {s:Shared}
theorem compLoop_go {elt target iter:Expr} {ifs:List Expr} {scope:Scope} {pos:Pos} {it acc:Value} {env:Env} (I:Nat→Shared→Prop)
    (turn:∀ n s,I n s→wpAny (model prog w) A (pyNext it) (fun r s₁=>match r with
      | none=>R (.ok .next) s₁
      | some v=>wpAny (model prog w) A (letOwnedTupleGo target it v) (fun _ s₁=>wpAny (model prog w) A (assign target env v) (fun _ s₂ =>
          wpAny (model prog w) A (forIn ifs true fun c r=>if r=true then do let ok ← isTrue c env (eval c env);pure (ForInStep.yield ok) else pure (ForInStep.yield r)) (fun ok s₃ =>
            if ok=true then wpAny (model prog w) A (eval elt env) (fun x s₄ =>
              wpAny (model prog w) A (call (.builtin "list.append") [acc,x]) (fun _ s₅=>∃ m,m < n∧I m s₅) (fun _ _=>False) s₄) (fun _ _=>False) s₃
            else ∃ m,m < n∧I m s₃) (fun _ _=>False) s₂) (fun _ _=>False) s₁) (fun _ _=>False) s₁) (fun _ _=>False) s)
    (n:Nat) (h:I n s) :
    codeAny (model prog w) A (.compLoop (.ListComp elt [⟨target,iter,ifs,0⟩] scope pos) 0 it acc env) R s:=by
  refine codeAny_loop rfl I (fun n s hI=>?_) n h
  show wpAny _ A ((compTurn (.ListComp elt [⟨target,iter,ifs,0⟩] scope pos) 0 it acc env).onRaise (fun x=>do noteFrame x env;theTreesLotGoes x)) _ _ s
  refine wpAny_noted ?_
  rw [compTurn_list]
  refine wpAny_bind (wpAny_standAt (wpAny_bind (wpAny_mono (turn n s hI) (fun r s₁ h₁=>?_) fun _ _ h'=>h'.elim)))
  cases r with
  | none=>exact wpAny_pure h₁
  | some v =>
    refine wpAny_bind (wpAny_mono h₁ (fun _ s₁ h₁=>?_) fun _ _ h'=>h'.elim)
    refine wpAny_bind (wpAny_mono h₁ (fun _ s₂ h₂=>wpAny_bind (wpAny_mono h₂ (fun ok s₃ h₃=>?_) fun _ _ h'=>h'.elim)) fun _ _ h'=>h'.elim)
    cases ok with
    | false=>exact wpAny_pure ⟨rfl,h₃⟩
    | true =>
      exact wpAny_bind (wpAny_bind (wpAny_mono h₃ (fun x s₄ h₄=>wpAny_bind (wpAny_mono h₄ (fun _ s₅ h₅=>wpAny_pure (wpAny_pure ⟨rfl,h₅⟩)) fun _ _ h'=>h'.elim)) fun _ _ h'=>h'.elim))
end
abbrev compCx (X:Cx) (scope:Scope) (N':List Str) (cells:List (Str × Addr)) (C:Addr) (s₀:Shared) (H₀:Hp) (ex:List Addr) (pn:List (Addr × Obj)):Cx where
  prog:=X.prog
  w:=X.w
  K:=X.K
  mg:=X.mg
  base:=X.base
  A:=X.A
  N:=N'
  s₀:=s₀
  H₀:=H₀
  env:={ scope:=relabel scope X.env,locals:=C,globals:=X.env.globals,cells:=cells,qual:=X.env.qual,func:=none,code:=X.env.code,frame:=X.env.frame,builtins:=X.env.builtins }
  outer:=X.stack
  stack:=X.stack
  ex:=ex
  fn:=fun x=>scope.names.lookup x == some .cell
  calm:=X.calm
  pn:=pn
  xe:=fun _ _=>False
def cst (ix:List (Option Nat)) (σ:St):St:=ix.map fun o=>o.bind fun j=>(σ[j]?).bind id
def compChk (X:Cx) (scope:Scope) (N':List Str) (ix:List (Option Nat)):Bool :=
  scope.names.all (fun p=>scope.names.lookup p.1 == some p.2) &&
  scope.names.all (fun p=>!(p.2 == .free) || X.env.scope.names.lookup p.1 == some .cell || X.env.scope.names.lookup p.1 == some .free) &&
  ix.length == N'.length &&
  (N'.zip ix).all (fun p=>match p.2 with | none=>true | some j=>X.N[j]? == some p.1 && scope.names.lookup p.1 == some .free) && scope.kind == .function
def PTs (X:Cx) (ifs:List Expr) (t:TT):Prop :=
  ∀ (pins:List (Addr × Obj)) (s:Shared) (σ:St) (H:Hp) (Q:Bool→Hp→Prop),Inv X pins σ H s→t σ H Q →
    wpAny (model X.prog X.w) X.A (forIn ifs true fun c r=>if r=true then do let ok ← isTrue c X.env (eval c X.env);pure (ForInStep.yield ok) else pure (ForInStep.yield r)) (TP X pins σ Q) X.xe s
def tAll:TT:=fun _ H Q=>Q true H
theorem pts_nil {X:Cx}:PTs X [] tAll:=fun _ _ _ H _ I h=>wpAny_tests_nil ⟨H,I,h⟩
theorem pts_one {X:Cx} {c:Expr} {t:TT} (h:PT X c t):PTs X [c] t:=fun pins s σ H Q I q=>wpAny_tests_one (h pins s σ H Q I q)
def tComp (ix:List (Option Nat)) (wi:TI) (g:TG) (tc:TT) (te:TE):TE:=fun σ H Q=>wi σ H fun J H1=>∃ W:Nat→Nat→List V→St→Hp→Prop,(∃ m,W 0 m [] (cst ix σ) H1)∧∀ i m ys τ H,W i m ys τ H →
  (J.stop i H∧∀ D,H D=none→Q (.ref D) (upd H D (.lst ys))) ∨
  (J.go i H∧ys.length < sizeLine∧∃ N:List V→St→Hp→Prop,(∀ ys' τ' H',N ys' τ' H'→∃ m',m' < m∧W (i+1) m' ys' τ' H') ∧
    ∀ x H',J.yld i H x H'→g x τ H' fun τ2 H2=>tc τ2 H2 fun b H3=>if b=true then te τ2 H3 (fun y H4=>N (ys++[y]) τ2 H4) else N ys τ2 H3)
def rlF (env:Env) (p:Str × NameKind):Str × NameKind:=if (p.2 == NameKind.free && env.scope.kind == .function && env.kindOf p.1 == some .cell)=true then (p.1,NameKind.cell) else (p.1,p.2)
theorem rlF_key (env:Env) (p:Str × NameKind):(rlF env p).1=p.1:=by unfold rlF;split <;> rfl
theorem lookup_key {f:Str × NameKind→Str × NameKind} (hf:∀ p,(f p).1=p.1) (x:Str):∀ names:List (Str × NameKind),(names.map f).lookup x=(names.lookup x).map fun k=>(f (x,k)).2
  | []=>rfl
  | (n,k) :: r=>by
    rw [List.map_cons]
    obtain ⟨a,b,e⟩:∃ a b,f (n,k)=(a,b):=⟨_,_,rfl⟩
    have ha:a=n:=by have:=hf (n,k);rw [e] at this;exact this
    subst ha
    rw [e,List.lookup_cons,List.lookup_cons,lookup_key hf x r]
    cases hb:x == a with
    | true =>
      have:x=a:=beq_iff_eq.mp hb
      subst this
      show some b=some (f (x,k)).2
      rw [e]
    | false=>rfl
theorem relabel_lookup (scope:Scope) (env:Env) (x:Str):(relabel scope env).names.lookup x=(scope.names.lookup x).map fun k=>(rlF env (x,k)).2:=lookup_key (rlF_key env) x scope.names
theorem relabel_look {scope:Scope} {env:Env} {x:Str} (h:scope.names.lookup x=some .free):(relabel scope env).names.lookup x=some .cell∨(relabel scope env).names.lookup x=some .free:=by
  rw [relabel_lookup,h]
  show some (rlF env (x,.free)).2=_∨some (rlF env (x,.free)).2=_
  unfold rlF
  by_cases hc:((x,NameKind.free).snd == NameKind.free && env.scope.kind == ScopeKind.function && env.kindOf (x,NameKind.free).fst == some NameKind.cell)=true
  · rw [if_pos hc];exact .inl rfl
  · rw [if_neg hc];exact .inr rfl
theorem relabel_back {scope:Scope} {env:Env} {x:Str} (h:(relabel scope env).names.lookup x=some .cell∨(relabel scope env).names.lookup x=some .free):scope.names.lookup x=some .cell∨scope.names.lookup x=some .free:=by
  rw [relabel_lookup] at h
  cases e:scope.names.lookup x with
  | none=>rw [e] at h;rcases h with h | h <;> cases h
  | some k =>
    rw [e] at h
    have h':(rlF env (x,k)).2=.cell∨(rlF env (x,k)).2=.free:=by
      rcases h with h | h
      · exact .inl (Option.some.inj h)
      · exact .inr (Option.some.inj h)
    unfold rlF at h'
    split at h'
    · rename_i hc
      have:k=.free:=by
        have:=(Bool.and_eq_true_iff.mp (Bool.and_eq_true_iff.mp hc).1).1
        simpa using this
      exact .inr (by rw [this])
    · rcases h' with z | z
      · have z':k=.cell:=z
        exact .inl (by rw [z'])
      · have z':k=.free:=z
        exact .inr (by rw [z'])
end L2
namespace L2
open PySem PySem.Spec PyProof.Rows
abbrev lobj (its:List Value) (n:Nat):Obj:={ cls:=.type "list",data:=.seq its.toArray n }
section
variable {X:Cx} {pins:List (Addr × Obj)} {σ:St} {H:Hp} {s:Shared}
theorem HOk.add {P:Program} {w:World} {h:Heap} {D:Addr} {o:HO} (x:HOk P w H h) (hn:H D=none) (new:ObjOk P w (upd H D o) h D o):HOk P w (upd H D o) h:=fun b u e=>by
  by_cases hb:b=D
  · subst hb;rw [upd_same] at e;cases e;exact new
  · rw [upd_ne hb] at e
    exact (x b u e).stay (fun c v _ q=>q) (fun c q=>by rw [upd_ne (ne_of_none q hn)];exact q) fun c xs q=>by rw [upd_ne (ne_of_none q hn)];exact q
theorem HOk.but {P:Program} {w:World} {h h':Heap} {C:Addr} (x:HOk P w H h) (hn:H C=none) (sb:Heap.SameBut C h h'):HOk P w H h':=fun b u e=>by
  refine (x b u e).stay (fun c v hc q=>(sb.2 c ?_).trans q) (fun _ q=>q) fun _ _ q=>q
  rintro rfl
  rcases hc with rfl | hc
  · rw [hn] at e;cases e
  · rw [hn] at hc;cases hc
end
theorem comp_inv {X:Cx} {pins:List (Addr × Obj)} {σ:St} {H2:Hp} {s2:Shared} {scope:Scope} {N':List Str} {ix:List (Option Nat)} {cl:List (Str × Addr)} {fp:List Addr}
    (c1:∀ p∈scope.names,scope.names.lookup p.1=some p.2) (c3:ix.length=N'.length)
    (c2:∀ p∈scope.names,p.2=.free→X.env.scope.names.lookup p.1=some .cell∨X.env.scope.names.lookup p.1=some .free)
    (c4:∀ (i:Nat) (x:Str) (j:Nat),N'[i]? = some x→ix[i]? = some (some j)→X.N[j]? = some x∧scope.names.lookup x=some .free) (ck:scope.kind=.function)
    (cl1:∀ x c,cl.lookup x=some c→X.env.cells.lookup x=some c) (cl2:∀ p∈scope.names,p.2=.free→(cl.lookup p.1).isSome=true)
    (I2:Inv X pins σ H2 s2) (f2:∀ b∈fp,FpOk X pins H2 b) (o2:∀ b∈fp,∃ o,s2.heap.get? b=some o∧∀ v,o.data≠.cell v) :
    Inv (compCx X scope N' (cellsFrom (s2.heap.objs.size+2) scope.names cl) (s2.heap.objs.size+1) s2 H2 fp []) [(s2.heap.objs.size,lobj [] 0)] (cst ix σ) H2
      { s2 with heap:=pushCells ((s2.heap.push (lobj [] 0)).push { cls:=.type "dict",data:=.dict #[] }) scope.names }:=by
  have sz3:(s2.heap.push (lobj [] 0)).objs.size=s2.heap.objs.size+1:=Heap.size_push ..
  have sz4:((s2.heap.push (lobj [] 0)).push { cls:=.type "dict",data:=.dict #[] }).objs.size=s2.heap.objs.size+2:=by rw [Heap.size_push,sz3]
  have keep:∀ b o,s2.heap.get? b=some o→(pushCells ((s2.heap.push (lobj [] 0)).push { cls:=.type "dict",data:=.dict #[] }) scope.names).get? b=some o:=fun b o e =>
    pushCells_keeps _ _ b o (Heap.get?_push_of_some _ (Heap.get?_push_of_some _ e))
  have cllt:∀ (x:Str) (c:Nat),cl.lookup x=some c→c < s2.heap.objs.size:=fun x c e=>by
    obtain ⟨v,q⟩:=I2.cell x c (cl1 x c e)
    exact q.lt
  obtain ⟨ci,cc⟩:=cells_inj scope.names (s2.heap.objs.size+2) cl (fun x y c e1 e2=>I2.ok.inj x y c (cl1 x c e1) (cl1 y c e2)) (fun x c e=>by have:=cllt x c e;omega)
  have cell:∀ x c,(cellsFrom (s2.heap.objs.size+2) scope.names cl).lookup x=some c→∃ v,(pushCells ((s2.heap.push (lobj [] 0)).push { cls:=.type "dict",data:=.dict #[] }) scope.names).IsCell c v:=fun x c e=>by
    refine cells_are scope.names _ cl x c (fun y d z=>?_) (by rw [sz4];exact e)
    obtain ⟨v,q⟩:=I2.cell y d (cl1 y d z)
    exact ⟨v,q.keeps fun b o e=>Heap.get?_push_of_some _ (Heap.get?_push_of_some _ e)⟩
  have lt2:∀ (b:Nat),b∈fp→b < s2.heap.objs.size:=fun b hb=>by
    obtain ⟨o,e,_⟩:=o2 b hb
    exact Heap.lt_size e
  refine ⟨⟨I2.ok.mod,ck,I2.ok.glob,I2.ok.blt,Nat.le_succ _,ci,fun x hx=>?_,fun x c hf e=>?_,I2.ok.hd,I2.ok.frames,.inl rfl,fun b hb=>⟨?_,fun x c e=>?_⟩,I2.bs,Nat.le_trans I2.ok.bsz I2.sz,fun b o e hb=>?_,fun b hb z=>?_,I2.stack,I2.stkFree⟩,
    rfl,I2.bare,Un.kept keep,⟨fun _=>none,?_,fun i x v e1 e2 e3=>?_⟩,cell,?_,fun x c e=>?_,fun p hp=>?_,I2.hok.kept keep,?_⟩
  · -- has
    have hx':=relabel_back (scope:=scope) (env:=X.env) (x:=x) hx
    rcases hx' with z | z
    · exact Option.isSome_iff_exists.mp (PySem.W.cellsFrom_some scope.names _ cl (.inl z))
    · exact Option.isSome_iff_exists.mp (PySem.W.cellsFrom_some scope.names _ cl (.inr (cl2 (x,.free) (PySem.mem_of_lookup z) rfl)))
  · -- cab
    have hf':scope.names.lookup x=some .cell:=by simpa using hf
    have:=own_new scope.names (s2.heap.objs.size+2) cl (fun x c e=>by have:=cllt x c e;omega) hf' e
    show s2.heap.objs.size≤c
    omega
  · -- ex: not the frame
    exact Nat.ne_of_lt (Nat.lt_succ_of_lt (lt2 b hb))
  · -- ex: no cell
    rcases cc x c e with z | z
    · exact (f2 b hb).2.2.2.2.1 x c (cl1 x c z)
    · exact Nat.ne_of_gt (Nat.lt_of_lt_of_le (lt2 b hb) (Nat.le_trans (Nat.le_add_right _ 2) z))
  · -- base objects are not iterators
    rcases (f2 b hb).2.2.2.1 with z | z
    · exact I2.ok.noex b o e z
    · exact absurd (Nat.lt_of_lt_of_le (Nat.lt_of_lt_of_le (Heap.lt_size e) I2.ok.bsz) z) (Nat.lt_irrefl _)
  · rcases List.mem_cons.mp (I2.stkSub b z) with q | q
    · exact (f2 b hb).2.1 q
    · exact (f2 b hb).2.2.1 q
  · -- the new frame
    have:=Heap.Ns.new (s2.heap.push (lobj [] 0)) (.type "dict")
    rw [sz3] at this
    exact this.keeps (pushCells_keeps _ _)
  · -- what is seen
    unfold cst at e2
    rw [List.getElem?_map] at e2
    cases ej:ix[i]? with
    | none=>rw [ej] at e2;cases e2
    | some o =>
      rw [ej] at e2
      cases o with
      | none=>cases e2
      | some j =>
        obtain ⟨n1,n2⟩:=c4 i x j e1 ej
        have e2':((σ[j]?).bind id)=some v:=Option.some.inj e2
        have eσ:σ[j]? = some (some v):=by
          cases q:σ[j]? with
          | none=>rw [q] at e2';cases e2'
          | some q'=>rw [q] at e2';cases q' with
            | none=>cases e2'
            | some q''=>cases e2';rfl
        have hv:Vis X.env.scope x:=by
          rcases c2 (x,.free) (PySem.mem_of_lookup n2) rfl with z | z
          · exact .inr (.inl z)
          · exact .inr (.inr z)
        obtain ⟨m,hn,hl⟩:=I2.loc
        obtain ⟨u,ru,lk⟩:=hl j x v n1 eσ hv
        refine ⟨u,ru,.inr ⟨relabel_look (scope:=scope) (env:=X.env) n2,?_⟩⟩
        rcases lk with ⟨z,_⟩ | ⟨_,c,ec,q⟩
        · exfalso
          rcases c2 (x,.free) (PySem.mem_of_lookup n2) rfl with z' | z' <;> (have z2:X.env.scope.names.lookup x=some .local:=z;rw [z2] at z';cases z')
        · refine ⟨c,?_,q.keeps keep⟩
          show (cellsFrom (s2.heap.objs.size+2) scope.names cl).lookup x=some c
          rw [cells_out scope.names _ cl fun p hp e hpc=>by
            have q1:=c1 p hp
            rw [e,n2,hpc] at q1
            cases q1]
          obtain ⟨d,ed⟩:=Option.isSome_iff_exists.mp (cl2 (x,.free) (PySem.mem_of_lookup n2) rfl)
          have:=cl1 x d ed
          rw [ec] at this
          cases this
          exact ed
  · exact I2.hok.fresh (Nat.le_succ _)
  · rcases cc x c e with z | z
    · exact I2.freeC x c (cl1 x c z)
    · exact I2.hok.fresh (by omega)
  · have e:p=(s2.heap.objs.size,lobj [] 0):=by simpa using hp
    subst e
    refine ⟨pushCells_keeps _ _ _ _ (Heap.get?_push_of_some _ (Heap.get?_push_size _ rfl)),I2.hok.fresh (Nat.le_refl _),Nat.ne_of_lt (Nat.lt_succ_self _),fun z=>?_,fun v z=>by cases z⟩
    rcases List.mem_cons.mp (I2.stkSub _ z) with q | q
    · have:=I2.lt;exact absurd (q ▸ this) (Nat.lt_irrefl _)
    · exact I2.nofs (Nat.le_refl _) q
  · show (cst ix σ).length=N'.length
    unfold cst
    rw [List.length_map,c3]
end L2
namespace L2
open PySem PySem.Spec PyProof.Rows
theorem comp_end {X:Cx} {pins pins':List (Addr × Obj)} {σ τ:St} {H2 H':Hp} {s2 s':Shared} {scope:Scope} {N':List Str} {cells:List (Str × Addr)} {fp:List Addr} {C D:Addr} {ys:List V} {its:List Value} {k:Nat} {h':Heap}
    (I2:Inv X pins σ H2 s2) (f2:∀ b∈fp,FpOk X pins H2 b) (I':Inv (compCx X scope N' cells C s2 H2 fp []) pins' τ H' s') (hC:s2.heap.objs.size≤C) (hD:s2.heap.objs.size≤D) (hDC:D≠C)
    (hn:H' D=none) (e:s'.heap.get? D=some (lobj its k)) (hv:Vals ys its) (hz:ys.length≤sizeLine) (sb:Heap.SameBut C s'.heap h'):Inv X pins σ (upd H' D (.lst ys)) { s' with heap:=h' }:=by
  have ne:∀ b o,s2.heap.get? b=some o→b≠C∧b≠D:=fun b o q=>by
    have:=Heap.lt_size q
    exact ⟨Nat.ne_of_lt (Nat.lt_of_lt_of_le this hC),Nat.ne_of_lt (Nat.lt_of_lt_of_le this hD)⟩
  have ok1:HOk X.prog X.w H' h':=HOk.but I'.hok I'.free sb
  have eD:h'.get? D=some (lobj its k):=(sb.2 D hDC).trans e
  have U:=I'.base
  refine I2.call' (s':={ s' with heap:=h' }) (ch:=fp) I'.os ⟨fun b o q n hb hx=>?_,fun b o q n hb hx=>?_,fun b o q n hx=>?_,fun b o q hx=>?_,fun b xs q=>?_,fun b o u q=>?_,fun b ps q=>?_⟩ (HOk.add ok1 hn ⟨hz,its,k,hv,eD⟩) I'.bare fun b hb=>?_
  · exact (sb.2 b (ne b o q).1).trans (U.keep b o q n hb hx)
  · obtain ⟨sl,z⟩:=U.slot b o q n hb hx
    exact ⟨sl,(sb.2 b (ne b o q).1).trans z⟩
  · rw [upd_ne (ne b o q).2];exact U.free b o q n hx
  · obtain ⟨o',z⟩:=U.there b o q hx
    exact ⟨o',(sb.2 b (ne b o q).1).trans z⟩
  · have z:=U.tups b xs q
    rw [upd_ne (ne_of_none z hn)];exact z
  · have z:=U.frzs b o u q
    rw [upd_ne (ne_of_none z hn)];exact z
  · obtain ⟨more,z⟩:=U.tbls b ps q
    exact ⟨more,by rw [upd_ne (ne_of_none z hn)];exact z⟩
  · obtain ⟨_,a1,_,a2,a3,a4⟩:=f2 b hb
    exact ⟨a2,a1,a3,a4⟩
theorem append_un {X:Cx} {τ:St} {H':Hp} {s:Shared} {D:Addr} {its:List Value} {k:Nat} {u:Value} {E:Value→Shared→Prop} {Q:Value→Shared→Prop} (hz:its.length < sizeLine) (e:s.heap.get? D=some (lobj its k))
    (h:∀ h' k',h'.get? D=some (lobj (its++[u]) k')→(∀ b o,b≠D→s.heap.get? b=some o→h'.get? b=some o)→Q .none { s with heap:=h' }) :
    wpAny (model X.prog X.w) X.A (call (.builtin "list.append") [.ref D,u]) Q E s:=by
  refine call_meets F.slot_list_append ⟨_,e,rfl⟩ F.entry_list_append (F.args_list_append_2 _ _) (PySem.list_append D its.toArray k u (by rw [List.size_toArray];omega)) ⟨e,?_⟩
  have q:=PySem.IsL.update e (·.push u)
  have e2:(its++[u]).toArray=its.toArray.push u:=by simp
  refine h _ _ (by show _=some ({ cls:=.type "list",data:=.seq (its++[u]).toArray _ }:Obj);rw [e2];exact q) fun b o hb eb=>(Heap.get?_update_other s.heap _ (Ne.symm hb)).trans eb
theorem pe_comp {X:Cx} {tg iter elt:Expr} {ifs:List Expr} {scope:Scope} {pos:Pos} {N':List Str} {ix:List (Option Nat)} {wi:TI} {g:TG} {tc:TT} {te:TE}
    (hc:X.calm=true) (chk:compChk X scope N' ix=true) (hi:PI X tg iter wi)
    (hg:∀ cells C s₀ H₀ ex pn,PG (compCx X scope N' cells C s₀ H₀ ex pn) tg g)
    (ht:∀ cells C s₀ H₀ ex pn,PTs (compCx X scope N' cells C s₀ H₀ ex pn) ifs tc)
    (he:∀ cells C s₀ H₀ ex pn,PE (compCx X scope N' cells C s₀ H₀ ex pn) elt te)
    (hs:∀ x,foldedSetIterable iter X.env x=pure x:=by intro _;rfl) :
    PE X (.ListComp elt [⟨tg,iter,ifs,0⟩] scope pos) (tComp ix wi g tc te):=by
  intro pins s σ H Q I h
  unfold compChk at chk
  obtain ⟨chk,k5⟩:=Bool.and_eq_true_iff.mp chk
  obtain ⟨chk,k4⟩:=Bool.and_eq_true_iff.mp chk
  obtain ⟨chk,k3⟩:=Bool.and_eq_true_iff.mp chk
  obtain ⟨k1,k2⟩:=Bool.and_eq_true_iff.mp chk
  have c1:∀ p∈scope.names,scope.names.lookup p.1=some p.2:=fun p hp=>by simpa using List.all_eq_true.mp k1 p hp
  have c2:∀ p∈scope.names,p.2=.free→X.env.scope.names.lookup p.1=some .cell∨X.env.scope.names.lookup p.1=some .free:=fun p hp hf=>by
    have:=List.all_eq_true.mp k2 p hp
    rw [hf] at this
    simpa using this
  have c3:ix.length=N'.length:=by simpa using k3
  have ck:scope.kind=.function:=by simpa using k5
  have c4:∀ (i:Nat) (x:Str) (j:Nat),N'[i]? = some x→ix[i]? = some (some j)→X.N[j]? = some x∧scope.names.lookup x=some .free:=fun i x j e1 e2=>by
    have m:(x,some j)∈N'.zip ix:=by
      refine List.mem_of_getElem? (i:=i) ?_
      rw [List.getElem?_zip_eq_some]
      exact ⟨e1,e2⟩
    have:=List.all_eq_true.mp k4 _ m
    have:=Bool.and_eq_true_iff.mp this
    exact ⟨by simpa using this.1,by simpa using this.2⟩
  obtain ⟨cl,ecl,cl1,cl2⟩:=closure_ok (env:=X.env) (scope:=scope) (fun p hp hf=>I.ok.has p.1 (c2 p hp hf))
  rw [eval_ListComp]
  refine wpAny_comprehension_free (use:=none) rfl hs ecl ck (fun y hy hl=>by rw [c1 y hy,hl]) (thn (hi pins s σ H _ I h) fun v s1 h1=>thn h1 fun itv s2 h2=>?_)
  obtain ⟨it,fp,tn,J,H2,e,I2,T,st2,f2,W,⟨m0,w0⟩,turn⟩:=h2
  subst e
  have I5:=comp_inv (N':=N') (ix:=ix) (fp:=fp) c1 c3 c2 c4 ck cl1 cl2 I2 f2 (T.obj _ _ st2)
  refine wpAny_newObj_type ?_
  unfold newFunctionEnv
  refine wpAny_bind (wpAny_alloc ?_)
  refine wpAny_bind (wpAny_layCells _ (fun name kind cells=>by cases hkc:kind == NameKind.cell <;> simp [hkc]) _ _ _ _ ?_)
  refine wpAny_bind ?_
  rw [List.forIn_nil]
  refine wpAny_pure (wpAny_pure ?_)
  have sz3:(s2.heap.push (lobj [] 0)).objs.size=s2.heap.objs.size+1:=Heap.size_push ..
  have sz4:((s2.heap.push (lobj [] 0)).push { cls:=.type "dict",data:=.dict #[] }).objs.size=s2.heap.objs.size+2:=by rw [Heap.size_push,sz3]
  show codeAny (model X.prog X.w) X.A (.compStart (.ListComp elt [⟨tg,iter,ifs,0⟩] scope pos) 0 (.ref it) (.ref s2.heap.objs.size)
    (compCx X scope N' (cellsFrom ((s2.heap.push (lobj [] 0)).push { cls:=.type "dict",data:=.dict #[] }).objs.size scope.names cl) (s2.heap.push (lobj [] 0)).objs.size s2 H2 fp []).env)
    (compPost (model X.prog X.w) X.A X.xe none (EP X pins σ Q) (.ref s2.heap.objs.size) (s2.heap.push (lobj [] 0)).objs.size)
    { s2 with heap:=pushCells ((s2.heap.push (lobj [] 0)).push { cls:=.type "dict",data:=.dict #[] }) scope.names }
  rw [sz4,sz3]
  generalize hcells:cellsFrom (s2.heap.objs.size+2) scope.names cl=cells at I5 ⊢
  have keep5:∀ b o,s2.heap.get? b=some o→(pushCells ((s2.heap.push (lobj [] 0)).push { cls:=.type "dict",data:=.dict #[] }) scope.names).get? b=some o:=fun b o e =>
    pushCells_keeps _ _ b o (Heap.get?_push_of_some _ (Heap.get?_push_of_some _ e))
  generalize hh5:({ s2 with heap:=pushCells ((s2.heap.push (lobj [] 0)).push { cls:=.type "dict",data:=.dict #[] }) scope.names }:Shared)=s5 at I5 ⊢
  have keep5:∀ b o,s2.heap.get? b=some o→s5.heap.get? b=some o:=by rw [← hh5];exact keep5
  have st5:tn 0 s5.heap:=T.keep _ _ _ st2 fun b hb o e=>keep5 b o e
  have lt2:∀ (b:Nat),b∈fp→b < s2.heap.objs.size:=fun b hb=>by
    obtain ⟨o,e,_⟩:=T.obj _ _ st2 b hb
    exact Heap.lt_size e
  -- the iterator within the block
  have stat:∀ {H':Hp} {o:Obj},(∀ b∈fp,H' b=none)→∀ b∈fp,FpOk (compCx X scope N' cells (s2.heap.objs.size+1) s2 H2 fp []) [(s2.heap.objs.size,o)] H' b:=fun {H' o} hn b hb =>
    ⟨hn b hb,(I5.ok.exf b hb).1,I5.ok.exfs b hb,.inl hb,(I5.ok.exf b hb).2,fun p hp=>by
      have e:p=(s2.heap.objs.size,o):=by simpa using hp
      subst e
      exact Nat.ne_of_gt (lt2 b hb)⟩
  have loop:codeAny (model X.prog X.w) X.A (.compLoop (.ListComp elt [⟨tg,iter,ifs,0⟩] scope pos) 0 (.ref it) (.ref s2.heap.objs.size)
      (compCx X scope N' cells (s2.heap.objs.size+1) s2 H2 fp []).env) (compPost (model X.prog X.w) X.A X.xe none (EP X pins σ Q) (.ref s2.heap.objs.size) (s2.heap.objs.size+1)) s5:=by
    refine compLoop_go (fun n s'=>∃ i ys τ H' its k,Inv (compCx X scope N' cells (s2.heap.objs.size+1) s2 H2 fp []) [(s2.heap.objs.size,lobj its k)] τ H' s'∧tn i s'.heap∧(∀ b∈fp,H' b=none)∧Vals ys its∧ys.length≤sizeLine∧W i n ys τ H') ?_ m0
      ⟨0,[],_,H2,[],0,I5,st5,fun b hb=>(f2 b hb).1,.nil,Nat.zero_le _,w0⟩
    rintro n s3 ⟨i,ys,τ,H3,its,k,I3,st3,fr3,hv3,hz3,w3⟩
    rcases turn i n ys τ H3 w3 with ⟨stop,qn⟩ | ⟨go,hlen,N,hN,step⟩
    · refine thn (T.done (compCx X scope N' cells (s2.heap.objs.size+1) s2 H2 fp []) rfl rfl rfl hc i _ s3 τ H3 (fun _ _=>False) I3 (stat fr3) st3 stop) fun r s4 ⟨hr,I4⟩=>?_
      subst hr
      obtain ⟨m,hn,_⟩:=id I4.loc
      obtain ⟨eD,nD,_,_,_⟩:=I4.pin (s2.heap.objs.size,lobj its k) (by simp)
      refine ⟨m,hn,fun h' sb=>⟨.ref s2.heap.objs.size,upd H3 s2.heap.objs.size (.lst ys),?_,rfl,qn _ nD⟩⟩
      exact comp_end I2 f2 I4 (Nat.le_succ _) (Nat.le_refl _) (Nat.ne_of_lt (Nat.lt_succ_self _)) nD eD hv3 hz3 sb
    · refine thn (T.item (compCx X scope N' cells (s2.heap.objs.size+1) s2 H2 fp []) rfl rfl rfl hc i _ s3 τ H3 (fun _ _=>False) I3 (stat fr3) st3 go) fun r s4 ⟨u,hr,h4⟩=>?_
      subst hr
      refine thn h4 fun _ s5' ⟨x,H5,I5',r5,y5,st5',fr5⟩=>?_
      have I6:=I5'.pinned (stat fr5) (T.obj _ _ st5')
      refine thn (hg cells _ s2 H2 fp [] _ s5' τ H5 x u _ I6 r5 (step x H5 y5)) fun _ s6 ⟨τ6,H6,I7,q6⟩=>?_
      refine thn (ht cells _ s2 H2 fp [] _ s6 τ6 H6 _ I7 q6) fun ok s7 ⟨H7,I8,q7⟩=>?_
      have fin:∀ {s8:Shared} {H8:Hp} {its':List Value} {k':Nat} {ys':List V},Inv (compCx X scope N' cells (s2.heap.objs.size+1) s2 H2 fp []) ([(s2.heap.objs.size,lobj its' k')]++pinsAt fp s5'.heap) τ6 H8 s8→Vals ys' its'→ys'.length≤sizeLine→N ys' τ6 H8 →
          ∃ m,m < n∧∃ i ys τ H' its k,Inv (compCx X scope N' cells (s2.heap.objs.size+1) s2 H2 fp []) [(s2.heap.objs.size,lobj its k)] τ H' s8∧tn i s8.heap∧(∀ b∈fp,H' b=none)∧Vals ys its∧ys.length≤sizeLine∧W i m ys τ H':=fun {s8 H8 its' k' ys'} I9 hv hz n9=>by
        obtain ⟨m',hm,w9⟩:=hN ys' τ6 H8 n9
        refine ⟨m',hm,i+1,ys',τ6,H8,its',k',I9.unpinned,T.keep _ _ _ st5' fun b hb o e=>(I9.pin (b,o) (List.mem_append_right _ (List.mem_append_right _ (mem_pinsAt hb e)))).1,fun b hb=>?_,hv,hz,w9⟩
        obtain ⟨o,e,d⟩:=T.obj _ _ st5' b hb
        exact (I9.pin (b,o) (List.mem_append_right _ (List.mem_append_right _ (mem_pinsAt hb e)))).2.1
      cases ok with
      | false=>exact fin I8 hv3 hz3 q7
      | true =>
        refine thn (he cells _ s2 H2 fp [] _ s7 τ6 H7 _ I8 q7) fun y s8 ⟨v8,H8,I9,r8,q8⟩=>?_
        obtain ⟨eD,nD,dL,dF,_⟩:=I9.pin (s2.heap.objs.size,lobj its k) (by simp)
        have hl:=hv3.length
        refine append_un (X:=X) (τ:=τ) (H':=H8) (by omega) eD fun h' k' eD' kp=>?_
        -- the pin on the list is let go,the list turns,and is pinned anew
        have hx:∀ p∈pinsAt fp s5'.heap,p.1≠s2.heap.objs.size:=fun p hp=>by
          have:=lt2 p.1 (of_pinsAt hp).1
          exact Nat.ne_of_lt this
        have J1:Inv (compCx X scope N' cells (s2.heap.objs.size+1) s2 H2 fp []) (pinsAt fp s5'.heap) τ6 H8 s8:=I9.pins_of fun p hp=>I9.pin p (List.mem_append_right _ (List.mem_append_right _ hp))
        have J2:Inv (compCx X scope N' cells (s2.heap.objs.size+1) s2 H2 fp []) (pinsAt fp s5'.heap) τ6 H8 { s8 with heap:=h' }:=J1.turned (t':=s8.toks) (it:=s2.heap.objs.size) kp nD dL (.inr (Nat.le_refl _)) (fun x c e z=>by
          obtain ⟨v,o,ho,hd⟩:=J1.cell x c e
          rw [z,eD] at ho
          cases ho
          cases hd) fun p hp=>hx p (by simpa using hp)
        have J3:Inv (compCx X scope N' cells (s2.heap.objs.size+1) s2 H2 fp []) ([(s2.heap.objs.size,lobj (its++[y]) k')]++pinsAt fp s5'.heap) τ6 H8 { s8 with heap:=h' }:=J2.pins_of fun p hp=>by
          rcases List.mem_append.mp hp with z | z
          · have e:p=(s2.heap.objs.size,lobj (its++[y]) k'):=by simpa using z
            subst e
            exact ⟨eD',nD,dL,dF,fun v z=>by cases z⟩
          · exact J2.pin p (List.mem_append_right _ z)
        exact fin J3 (hv3.append (.cons r8 .nil)) (by rw [List.length_append,List.length_singleton];omega) q8
  exact codeAny_compStart_list loop (T.self X.A 0 s5 _ _ st5 loop)
end L2
namespace L2
open PySem PySem.Spec PyProof.Rows
structure Sure (J:It) (xs:List V) (ok:Hp→Prop):Prop where
  go:∀ i H,i < xs.length→ok H→J.go i H
  yld:∀ i H x H',i < xs.length→ok H→J.yld i H x H'→H'=H∧xs[i]? = some x
  stop:∀ H,ok H→J.stop xs.length H
theorem sure_list {K:PySem.W.Frag} {a:Addr} {xs:List V}:Sure (Itl K a) xs (fun H=>SqL K H a xs) where
  go:=fun i H hi h=>⟨xs,xs[i],h,by simp [hi]⟩
  yld:=fun i H x H' _ h y=>⟨y.1,y.2 xs h⟩
  stop:=fun H h=>⟨xs,h,Nat.le_refl _⟩
theorem sure_tup {K:PySem.W.Frag} {a:Addr} {xs:List V}:Sure (Itt K a) xs (fun H=>SqT K H a xs) where
  go:=fun i H hi h=>⟨xs,xs[i],h,by simp [hi]⟩
  yld:=fun i H x H' _ h y=>⟨y.1,y.2 xs h⟩
  stop:=fun H h=>⟨xs,h,Nat.le_refl _⟩
def rngV (lo:Int) (n:Nat):List V:=(List.range n).map fun (k:Nat)=>V.int (lo+k)
theorem rngV_length (lo:Int) (n:Nat):(rngV lo n).length=n:=by unfold rngV;simp
theorem sure_range {lo:Int} {n:Nat}:Sure (Itr lo n) (rngV lo n) (fun _=>True) where
  go:=fun i H hi h=>by rw [rngV_length] at hi;exact hi
  yld:=fun i H x H' hi h y=>⟨y.1,by
    obtain ⟨_,rfl⟩:=y
    rw [rngV_length] at hi
    unfold rngV
    rw [List.getElem?_map,List.getElem?_range hi]
    rfl⟩
  stop:=fun H h=>by rw [rngV_length];exact Nat.le_refl n
def sign (c:Nat):V:=.str ⟨#[c]⟩
def Its (x:Str):It:=⟨fun i _=>i < x.cps.size,fun i H v H'=>H'=H∧∃ c,x.cps[i]? = some c∧v=sign c,fun i _=>i=x.cps.size⟩
theorem sure_str {x:Str}:Sure (Its x) (x.cps.toList.map sign) (fun _=>True) where
  go:=fun i H hi h=>by
    rw [List.length_map] at hi
    exact hi
  yld:=fun i H v H' _ h y=>⟨y.1,by
    obtain ⟨_,c,e,rfl⟩:=y
    rw [List.getElem?_map,Array.getElem?_toList,e]
    rfl⟩
  stop:=fun H h=>by
    rw [List.length_map]
    rfl
theorem str_walks {P:Program} {w:World} (it:Addr) (x:Str) (t:Tok) {A:Around} (hA:A.handled=none):Walks P w A it [it] [it] x.cps.size (SignAt x) (fun i h=>h.IsStrIter it (strIterType x) x t i):=by
  unfold strIterType
  split
  · exact Walks.strAscii hA it x t
  · exact Walks.strWide hA it x t
theorem str_self {P:Program} {w:World} {it:Addr} {x:Str} {t:Tok} {A:Around} {i:Nat} {s:Shared} {Q:Value→Shared→Prop} {E:Value→Shared→Prop} (st:s.heap.IsStrIter it (strIterType x) x t i) (h:Q (.ref it) s):wpAny (model P w) A (pyIter (.ref it)) Q E s:=by
  unfold strIterType at st
  split at st
  · exact wpAny_pyIter_striter_ascii st h
  · exact wpAny_pyIter_striter_wide st h
theorem str_not (x:Str):["enumerate","zip","dict_itemiterator","dict_reverseitemiterator","odict_iterator","itertools.zip_longest","itertools.pairwise"].contains (strIterType x)=false:=by
  unfold strIterType
  split <;> decide
theorem turn_str {P:Program} {w:World} {K:PySem.W.Frag} {tg:Expr} (it:Addr) (x:Str) (t:Tok):Turn P w K tg (Its x) [it] it (fun i h=>h.IsStrIter it (strIterType x) x t i) where
  mem:=by simp
  obj:=fun i h st b hb=>by
    have e:b=it:=by simpa using hb
    subst e
    obtain ⟨o,e,c,d⟩:=st
    exact ⟨o,e,fun v z=>by rw [d] at z;cases z⟩
  keep:=fun i h h' st k=>by
    obtain ⟨o,e,r⟩:=st
    exact ⟨o,k it (by simp) o e,r⟩
  item:=by
    intro X hP hw hK hc i pins s σ H E I hf st hg
    subst hP hw hK
    obtain ⟨f0,f1,f2,f3,f4,f5⟩:=hf it (by simp)
    refine (str_walks it x t (I.ok.hd hc)).item i s _ _ hg st fun v h' tk hv st' kk=>?_
    obtain ⟨c,u,hcc,rfl⟩:=hv
    have I1:Inv X pins σ H { s with heap:=h',toks:=tk }:=I.turned (fun b o hb e=>kk b o (by simpa using hb) e) f0 f1 f3 f4 f5
    obtain ⟨o,e,cc,d⟩:=id st'
    exact ⟨_,rfl,go_of (s:={ s with heap:=h',toks:=tk }) e cc d (str_not x) ⟨sign c,H,I1,⟨u,rfl⟩,⟨rfl,c,hcc,rfl⟩,st',fun b hb=>(hf b hb).1⟩⟩
  done:=by
    intro X hP hw hK hc i pins s σ H E I hf st hg
    subst hP hw hK
    obtain ⟨f0,f1,f2,f3,f4,f5⟩:=hf it (by simp)
    have e:i=x.cps.size:=hg
    subst e
    exact (str_walks it x t (I.ok.hd hc)).done s _ _ st fun h' tk kk=>⟨rfl,I.turned (fun b o hb e=>kk b o (by simpa using hb) e) f0 f1 f3 f4 f5⟩
  self:=fun _ _ _ _ _ st h=>str_self st h
def iStr (tl:TE):TI:=fun σ H R=>tl σ H fun x H1=>∃ z,x=.str z∧R (Its z) H1
theorem pi_str {X:Cx} {tg l:Expr} {tl:TE} (hl:PE X l tl):PI X tg l (iStr tl):=by
  intro pins s σ H R I h
  refine thn (hl pins s σ H _ I h) fun v s1 ⟨x,H1,I1,r1,q1⟩=>?_
  obtain ⟨z,e,q⟩:=q1
  subst e
  obtain ⟨t,rfl⟩:=r1
  refine wpAny_pyIter_strU ?_
  refine ⟨s1.heap.objs.size,[s1.heap.objs.size],_,_,H1,rfl,I1.kept (t':=s1.toks) fun b o e=>Heap.get?_push_of_some _ e,turn_str _ z t,⟨_,Heap.get?_push_size _ rfl,rfl,rfl⟩,fun b hb=>?_,q⟩
  have e:b=s1.heap.objs.size:=by simpa using hb
  subst e
  exact I1.fpOk (Nat.le_refl _) (I1.hok.fresh (Nat.le_refl _))
theorem for_by {J:It} {xs:List V} {ok:Hp→Prop} {g:TG} {tb:TS} {D:Ends} {σ:St} {H:Hp} (S:Sure J xs ok) (Pv:Nat→St→Hp→Prop) (h0:Pv 0 σ H) (hl:∀ i σ H,i≤xs.length→Pv i σ H→ok H)
    (hs:∀ i x σ H,xs[i]? = some x→Pv i σ H→g x σ H fun σ2 H2=>tb { D with nx:=Pv (i+1),ct:=Pv (i+1),bk:=D.nx } σ2 H2) (hd:∀ σ H,Pv xs.length σ H→D.nx σ H) :
    ∃ W:Nat→Nat→St→Hp→Prop,(∃ m,W 0 m σ H)∧∀ i m σ H,W i m σ H →
      (J.stop i H∧D.nx σ H)∨(J.go i H∧∃ N:St→Hp→Prop,(∀ σ' H',N σ' H'→∃ m',m' < m∧W (i+1) m' σ' H')∧∀ x H',J.yld i H x H'→g x σ H' fun σ2 H2=>tb { D with nx:=N,ct:=N,bk:=D.nx } σ2 H2):=by
  refine ⟨fun i m σ H=>m=xs.length - i∧i≤xs.length∧Pv i σ H,⟨xs.length,by simp,Nat.zero_le _,h0⟩,?_⟩
  rintro i m σ H ⟨rfl,hi,p⟩
  have q:=hl i σ H hi p
  by_cases hlt:i < xs.length
  · refine .inr ⟨S.go i H hlt q,Pv (i+1),fun σ' H' p'=>⟨xs.length - (i+1),by omega,rfl,hlt,p'⟩,fun x H' y=>?_⟩
    obtain ⟨e,y'⟩:=S.yld i H x H' hlt q y
    subst e
    exact hs i x σ _ y' p
  · have e:i=xs.length:=by omega
    subst e
    exact .inl ⟨S.stop H q,hd σ H p⟩
theorem comp_by {J:It} {xs:List V} {ok:Hp→Prop} {g:TG} {tc:TT} {te:TE} {Q:VK} {τ0:St} {H:Hp} (S:Sure J xs ok) (hz:xs.length≤10000) (Pv:Nat→List V→St→Hp→Prop) (h0:Pv 0 [] τ0 H)
    (hl:∀ i ys τ H,i≤xs.length→Pv i ys τ H→ok H∧ys.length≤i)
    (hs:∀ i x ys τ H,xs[i]? = some x→Pv i ys τ H→g x τ H fun τ2 H2=>tc τ2 H2 fun b H3=>if b=true then te τ2 H3 (fun y H4=>Pv (i+1) (ys++[y]) τ2 H4) else Pv (i+1) ys τ2 H3)
    (hd:∀ ys τ H D,Pv xs.length ys τ H→H D=none→Q (.ref D) (upd H D (.lst ys))) :
    ∃ W:Nat→Nat→List V→St→Hp→Prop,(∃ m,W 0 m [] τ0 H)∧∀ i m ys τ H,W i m ys τ H →
      (J.stop i H∧∀ D,H D=none→Q (.ref D) (upd H D (.lst ys))) ∨
      (J.go i H∧ys.length < sizeLine∧∃ N:List V→St→Hp→Prop,(∀ ys' τ' H',N ys' τ' H'→∃ m',m' < m∧W (i+1) m' ys' τ' H') ∧
        ∀ x H',J.yld i H x H'→g x τ H' fun τ2 H2=>tc τ2 H2 fun b H3=>if b=true then te τ2 H3 (fun y H4=>N (ys++[y]) τ2 H4) else N ys τ2 H3):=by
  refine ⟨fun i m ys τ H=>m=xs.length - i∧i≤xs.length∧Pv i ys τ H,⟨xs.length,by simp,Nat.zero_le _,h0⟩,?_⟩
  rintro i m ys τ H ⟨rfl,hi,p⟩
  obtain ⟨q,hy⟩:=hl i ys τ H hi p
  by_cases hlt:i < xs.length
  · refine .inr ⟨S.go i H hlt q,Nat.lt_of_lt_of_le (show ys.length < 10000 by omega) (by decide),Pv (i+1),fun ys' τ' H' p'=>⟨xs.length - (i+1),by omega,rfl,hlt,p'⟩,fun x H' y=>?_⟩
    obtain ⟨e,y'⟩:=S.yld i H x H' hlt q y
    subst e
    exact hs i x ys τ _ y' p
  · have e:i=xs.length:=by omega
    subst e
    exact .inl ⟨S.stop H q,fun D hD=>hd ys τ H D p hD⟩
end L2
namespace L2
open PySem PySem.Spec PyProof.Rows
theorem Inv.newTup {X:Cx} {pins:List (Addr × Obj)} {σ:St} {H:Hp} {s:Shared} {ch:List Addr} {T:Addr} {xs:List V} {its:List Value} {h':Heap} {t':Nat} (I:Inv X pins σ H s) (hch:∀ b∈ch,FpOk X pins H b)
    (k:∀ b o,b ∉ ch→s.heap.get? b=some o→h'.get? b=some o) (hT:s.heap.objs.size≤T) (hv:Vals xs its) (ht:IsTup h' T its.toArray∧Bare h' T) (hz:xs.length≤sizeLine) :
    Inv X pins σ (upd H T (.tup xs)) { s with heap:=h',toks:=t' }:=by
  have neT:∀ b o,s.heap.get? b=some o→b≠T:=fun b o e=>Nat.ne_of_lt (Nat.lt_of_lt_of_le (Heap.lt_size e) hT)
  have neH:∀ b u,H b=some u→b≠T:=fun b u e=>Nat.ne_of_lt (Nat.lt_of_lt_of_le (I.hok.lt e) hT)
  have nch:∀ b u,H b=some u→b ∉ ch:=fun b u e hb=>by rw [(hch b hb).1] at e;cases e
  refine I.step (g':=s.gens) (d':=s.drawn) (ch:=ch) (fun b hb=>?_) (fun b o _ _ hc e _=>k b o hc e) (fun b o _ _ hc e _=>⟨o.slots,k b o hc e⟩) (fun b o _ e n=>?_) (fun b o hc e=>⟨o,k b o hc e⟩)
    (fun b ys e=>?_) (fun b o u e=>?_) (fun b ps e=>⟨#[],?_⟩) (fun m hm=>?_) (fun b u e=>?_) I.bare
  · obtain ⟨_,a1,_,a2,a3,a4⟩:=hch b hb
    exact ⟨a2,a1,a3,a4⟩
  · rw [upd_ne (neT b o e)];exact n
  · rw [upd_ne (neH b _ e)];exact e
  · rw [upd_ne (neH b _ e)];exact e
  · rw [upd_ne (neH b _ e),e];simp
  · obtain ⟨o,es,ep,ho,r⟩:=hm
    exact ⟨o,es,ep,k _ o (fun z=>(hch _ z).2.1 rfl) ho,r⟩
  · by_cases hb:b=T
    · subst hb
      rw [upd_same] at e
      cases e
      exact ⟨hz,its,hv,ht⟩
    · rw [upd_ne hb] at e
      refine (I.hok b u e).stay (fun c v hc q=>k c v ?_ q) (fun c q=>by rw [upd_ne (neH c _ q)];exact q) fun c ys q=>by rw [upd_ne (neH c _ q)];exact q
      rcases hc with z | z
      · rw [z];exact nch b u e
      · exact nch c _ z
def ItP (go:Nat→Hp→Prop) (stop:Nat→Hp→Prop) (at_:Nat→Hp→List V→Prop):It:=⟨go,fun i H v H'=>∃ T ys,H T=none∧v=.ref T∧at_ i H ys∧H'=upd H T (.tup ys),stop⟩
def Ite (K:PySem.W.Frag) (l:Addr):It:=ItP (fun i H=>∃ xs x,SqL K H l xs∧xs[i]? = some x) (fun i H=>∃ xs,SqL K H l xs∧xs.length=i) (fun i H ys=>∃ x,(∀ xs,SqL K H l xs→xs[i]? = some x)∧ys=[.int i,x])
def Itz (K:PySem.W.Frag) (l1 l2:Addr):It:=ItP (fun i H=>∃ xs x ys y,SqL K H l1 xs∧xs[i]? = some x∧SqL K H l2 ys∧ys[i]? = some y) (fun i H=>∃ xs ys,SqL K H l1 xs∧SqL K H l2 ys∧min xs.length ys.length=i)
  (fun i H vs=>∃ x y,(∀ xs,SqL K H l1 xs→xs[i]? = some x)∧(∀ ys,SqL K H l2 ys→ys[i]? = some y)∧vs=[x,y])
structure Sure2 (J:It) (xs:List (List V)) (ok:Hp→Prop):Prop where
  go:∀ i H,i < xs.length→ok H→J.go i H
  yld:∀ i H x H',i < xs.length→ok H→J.yld i H x H'→∃ T ys,H T=none∧x=.ref T∧H'=upd H T (.tup ys)∧xs[i]? = some ys
  stop:∀ H,ok H→J.stop xs.length H
theorem sure_enum {K:PySem.W.Frag} {l:Addr} {xs:List V}:Sure2 (Ite K l) (xs.zipIdx.map fun p=>[.int (p.2:Nat),p.1]) (fun H=>SqL K H l xs) where
  go:=fun i H hi h=>by
    have hi':i < xs.length:=by simpa using hi
    exact ⟨xs,xs[i],h,by simp [hi']⟩
  yld:=fun i H v H' hi h y=>by
    obtain ⟨T,ys,hT,rfl,⟨x,hx,rfl⟩,rfl⟩:=y
    exact ⟨T,_,hT,rfl,rfl,by rw [List.getElem?_map,List.getElem?_zipIdx,hx xs h];simp⟩
  stop:=fun H h=>⟨xs,h,by simp⟩
theorem sure_zip {K:PySem.W.Frag} {l1 l2:Addr} {xs ys:List V}:Sure2 (Itz K l1 l2) ((xs.zip ys).map fun p=>[p.1,p.2]) (fun H=>SqL K H l1 xs∧SqL K H l2 ys) where
  go:=fun i H hi h=>by
    have hi':i < xs.length∧i < ys.length:=by simpa [Nat.lt_min] using hi
    exact ⟨xs,xs[i],ys,ys[i],h.1,by simp [hi'.1],h.2,by simp [hi'.2]⟩
  yld:=fun i H v H' hi h z=>by
    obtain ⟨T,vs,hT,rfl,⟨x,y,hx,hy,rfl⟩,rfl⟩:=z
    refine ⟨T,_,hT,rfl,rfl,?_⟩
    have e:(xs.zip ys)[i]? = some (x,y):=List.getElem?_zip_eq_some.mpr ⟨hx xs h.1,hy ys h.2⟩
    rw [List.getElem?_map,e]
    rfl
  stop:=fun H h=>⟨xs,ys,h.1,h.2,by simp⟩
theorem for_by2 {J:It} {xs:List (List V)} {ok:Hp→Prop} {g:TG} {tb:TS} {D:Ends} {σ:St} {H:Hp} (S:Sure2 J xs ok) (Pv:Nat→St→Hp→Prop) (h0:Pv 0 σ H) (hl:∀ i σ H,i≤xs.length→Pv i σ H→ok H)
    (hs:∀ i ys σ H T,xs[i]? = some ys→Pv i σ H→H T=none→g (.ref T) σ (upd H T (.tup ys)) fun σ2 H2=>tb { D with nx:=Pv (i+1),ct:=Pv (i+1),bk:=D.nx } σ2 H2) (hd:∀ σ H,Pv xs.length σ H→D.nx σ H) :
    ∃ W:Nat→Nat→St→Hp→Prop,(∃ m,W 0 m σ H)∧∀ i m σ H,W i m σ H →
      (J.stop i H∧D.nx σ H)∨(J.go i H∧∃ N:St→Hp→Prop,(∀ σ' H',N σ' H'→∃ m',m' < m∧W (i+1) m' σ' H')∧∀ x H',J.yld i H x H'→g x σ H' fun σ2 H2=>tb { D with nx:=N,ct:=N,bk:=D.nx } σ2 H2):=by
  refine ⟨fun i m σ H=>m=xs.length - i∧i≤xs.length∧Pv i σ H,⟨xs.length,by simp,Nat.zero_le _,h0⟩,?_⟩
  rintro i m σ H ⟨rfl,hi,p⟩
  have q:=hl i σ H hi p
  by_cases hlt:i < xs.length
  · refine .inr ⟨S.go i H hlt q,Pv (i+1),fun σ' H' p'=>⟨xs.length - (i+1),by omega,rfl,hlt,p'⟩,fun x H' y=>?_⟩
    obtain ⟨T,ys,hT,rfl,rfl,y'⟩:=S.yld i H x H' hlt q y
    exact hs i ys σ H T y' p hT
  · have e:i=xs.length:=by omega
    subst e
    exact .inl ⟨S.stop H q,hd σ H p⟩
theorem comp_by2 {J:It} {xs:List (List V)} {ok:Hp→Prop} {g:TG} {tc:TT} {te:TE} {Q:VK} {τ0:St} {H:Hp} (S:Sure2 J xs ok) (hz:xs.length≤10000) (Pv:Nat→List V→St→Hp→Prop) (h0:Pv 0 [] τ0 H)
    (hl:∀ i ys τ H,i≤xs.length→Pv i ys τ H→ok H∧ys.length≤i)
    (hs:∀ i zs ys τ H T,xs[i]? = some zs→Pv i ys τ H→H T=none→g (.ref T) τ (upd H T (.tup zs)) fun τ2 H2=>tc τ2 H2 fun b H3=>if b=true then te τ2 H3 (fun y H4=>Pv (i+1) (ys++[y]) τ2 H4) else Pv (i+1) ys τ2 H3)
    (hd:∀ ys τ H D,Pv xs.length ys τ H→H D=none→Q (.ref D) (upd H D (.lst ys))) :
    ∃ W:Nat→Nat→List V→St→Hp→Prop,(∃ m,W 0 m [] τ0 H)∧∀ i m ys τ H,W i m ys τ H →
      (J.stop i H∧∀ D,H D=none→Q (.ref D) (upd H D (.lst ys))) ∨
      (J.go i H∧ys.length < sizeLine∧∃ N:List V→St→Hp→Prop,(∀ ys' τ' H',N ys' τ' H'→∃ m',m' < m∧W (i+1) m' ys' τ' H') ∧
        ∀ x H',J.yld i H x H'→g x τ H' fun τ2 H2=>tc τ2 H2 fun b H3=>if b=true then te τ2 H3 (fun y H4=>N (ys++[y]) τ2 H4) else N ys τ2 H3):=by
  refine ⟨fun i m ys τ H=>m=xs.length - i∧i≤xs.length∧Pv i ys τ H,⟨xs.length,by simp,Nat.zero_le _,h0⟩,?_⟩
  rintro i m ys τ H ⟨rfl,hi,p⟩
  obtain ⟨q,hy⟩:=hl i ys τ H hi p
  by_cases hlt:i < xs.length
  · refine .inr ⟨S.go i H hlt q,Nat.lt_of_lt_of_le (show ys.length < 10000 by omega) (by decide),Pv (i+1),fun ys' τ' H' p'=>⟨xs.length - (i+1),by omega,rfl,hlt,p'⟩,fun x H' y=>?_⟩
    obtain ⟨T,zs,hT,rfl,rfl,y'⟩:=S.yld i H x H' hlt q y
    exact hs i zs ys τ H T y' p hT
  · have e:i=xs.length:=by omega
    subst e
    exact .inl ⟨S.stop H q,fun D hD=>hd ys τ H D p hD⟩
theorem enum_itemB {P:Program} {w:World} {A:Around} (e it l:Addr) (hei:e≠it) (hle:l≠e) (hli:l≠it) (its:Array Value) (i:Nat) (s:Shared) (Q:Option Value→Shared→Prop) (E:Value→Shared→Prop) (hi:i < its.size)
    (st:(∃ old,IsEnum s.heap e it i old)∧s.heap.IsListIter it l i∧s.heap.IsList l its)
    (q : ∀ T vals h' tk,(∃ t x,its[i]? = some x∧vals = #[.int i t,x])→s.heap.objs.size≤T→h'.IsTuple T vals∧Bare h' T →
      ((∃ x,IsEnumOut h' e it ((i:Int)+1) x T)∧h'.IsListIter it l (i+1)∧h'.IsList l its∧T≠e∧T≠it)→(∀ b o,b ∉ [e,it]→s.heap.get? b=some o→h'.get? b=some o)→Q (some (.ref T)) { s with heap:=h',toks:=tk }) :
    wpAny (model P w) A (pyNext (.ref e)) Q E s:=by
  obtain ⟨⟨old,st1⟩,st2,st3⟩:=st
  have hu:its[i]? = some its[i]:=Array.getElem?_eq_getElem hi
  refine wpAny_pyNext_enum_item st1 st2 st3 hu hei fun g y1 y2 y3 y4 y5=>?_
  have n1:e < s.heap.objs.size:=Heap.lt_size st1
  have n2:it < s.heap.objs.size:=by
    obtain ⟨_,z,_⟩:=st2
    exact Heap.lt_size z
  refine q s.heap.objs.size #[.int i s.toks,its[i]] g (s.toks+1) ⟨_,_,hu,rfl⟩ (Nat.le_refl _) ⟨⟨_,y3,rfl,_,rfl⟩,_,y3,rfl⟩ ⟨⟨_,y1⟩,y2,st3.at fun o z=>y5 l o hle hli z,Nat.ne_of_gt n1,Nat.ne_of_gt n2⟩ fun b o nb z=>y5 b o (fun c=>nb ?_) (fun c=>nb ?_) z
  · rw [c];exact List.mem_cons_self
  · rw [c];exact List.mem_cons_of_mem _ List.mem_cons_self
theorem zip_itemB {P:Program} {w:World} {A:Around} (z TI TO i1 i2 l1 l2:Addr) (D:ZipApart z TI TO i1 i2 l1 l2) (xs ys:Array Value) (i:Nat) (s:Shared) (Q:Option Value→Shared→Prop) (E:Value→Shared→Prop) (hi:i < min xs.size ys.size)
    (st:IsZip s.heap z TI TO .none∧IsPair s.heap TI (.ref i1) (.ref i2)∧(∃ a b,IsPair s.heap TO a b)∧s.heap.IsListIter i1 l1 i∧s.heap.IsListIter i2 l2 i∧s.heap.IsList l1 xs∧s.heap.IsList l2 ys)
    (q : ∀ T vals h' tk,(∃ x y,xs[i]? = some x∧ys[i]? = some y∧vals = #[x,y])→s.heap.objs.size≤T→h'.IsTuple T vals∧Bare h' T →
      (IsZip h' z TI TO (rawInt T)∧IsPair h' TI (.ref i1) (.ref i2)∧(∃ a b,IsPair h' TO a b)∧h'.IsListIter i1 l1 (i+1)∧h'.IsListIter i2 l2 (i+1)∧h'.IsList l1 xs∧h'.IsList l2 ys∧T≠z∧T≠TO∧T≠i1∧T≠i2) →
      (∀ b o,b ∉ [z,TO,i1,i2]→s.heap.get? b=some o→h'.get? b=some o)→Q (some (.ref T)) { s with heap:=h',toks:=tk }) :
    wpAny (model P w) A (pyNext (.ref z)) Q E s:=by
  obtain ⟨k1,k2,⟨a,b,k3⟩,k4,k5,k6,k7⟩:=st
  have e1:xs[i]? = some (xs[i]'(by omega)):=Array.getElem?_eq_getElem (by omega)
  have e2:ys[i]? = some (ys[i]'(by omega)):=Array.getElem?_eq_getElem (by omega)
  refine wpAny_pyNext_zip_item D k1 k2 k3 k4 k5 k6 k7 e1 e2 fun g y1 y2 y3 y4 y5 y6 y7=>?_
  have nn:∀ {c o},s.heap.get? c=some o→s.heap.objs.size≠c:=fun m=>Nat.ne_of_gt (Heap.lt_size m)
  have n3:s.heap.objs.size≠i1:=by
    obtain ⟨_,m,_⟩:=k4
    exact nn m
  have n4:s.heap.objs.size≠i2:=by
    obtain ⟨_,m,_⟩:=k5
    exact nn m
  refine q s.heap.objs.size _ g s.toks ⟨_,_,e1,e2,rfl⟩ (Nat.le_refl _) ⟨⟨_,y5,rfl,_,rfl⟩,_,y5,rfl⟩ ⟨y1,y7 _ _ D.TIz D.TITO D.TIi1 D.TIi2 k2,⟨_,_,y2⟩,y3,y4,k6.at fun o m=>y7 _ o D.l1z D.l1TO D.l1i1 D.l1i2 m,k7.at fun o m=>y7 _ o D.l2z D.l2TO D.l2i1 D.l2i2 m,nn k1,nn k3,n3,n4⟩ fun c o nc m=>?_
  simp only [List.mem_cons,List.not_mem_nil,or_false,not_or] at nc
  exact y7 c o nc.1 nc.2.1 nc.2.2.1 nc.2.2.2 m
theorem turn_enum {P:Program} {w:World} {K:PySem.W.Frag} {elts:List Expr} {k:Nat} {pos:Pos} (l e it:Addr) (hei:e≠it):Turn P w K (.Tuple elts k pos) (Ite K l) [e,it] e (fun i h=>(∃ old,IsEnum h e it i old)∧h.IsListIter it l i) where
  mem:=by simp
  obj:=fun i h st b hb=>by
    obtain ⟨⟨old,he⟩,o,ho,c,d⟩:=st
    rcases List.mem_cons.mp hb with z | z
    · subst z;exact ⟨_,he,fun v z=>by cases z⟩
    · have z:b=it:=by simpa using z
      subst z
      exact ⟨o,ho,fun v z=>by rw [d] at z;cases z⟩
  keep:=fun i h h' st kk=>by
    obtain ⟨⟨old,he⟩,hit⟩:=st
    exact ⟨⟨old,kk e (by simp) _ he⟩,hit.at fun o x=>kk it (by simp) o x⟩
  item:=by
    intro X hP hw hK hc i pins s σ H E I hf st hg
    subst hP hw hK
    obtain ⟨xs,x,hq,hx⟩:=hg
    obtain ⟨its,rv,p,hz⟩:=I.list hq
    obtain ⟨u,hu,ru⟩:=rv.get hx
    obtain ⟨st1,st2⟩:=st
    have hll:∃ o,s.heap.get? l=some o:=let ⟨o,ho,_⟩:=p.isList;⟨o,ho⟩
    have hle:l≠e:=fun z=>by
      obtain ⟨old,he⟩:=st1
      obtain ⟨o,ho,hc,_⟩:=p.isList
      rw [z,he] at ho;cases ho;exact absurd (Value.type.inj hc) (by decide)
    have hli:l≠it:=fun z=>by
      obtain ⟨o',ho',hc',_⟩:=st2
      obtain ⟨o,ho,hc,_⟩:=p.isList
      rw [z,ho'] at ho;cases ho;rw [hc'] at hc;exact absurd (Value.type.inj hc) (by decide)
    have W:=WalksT.enumerate (prog:=X.prog) (w:=X.w) (I.ok.hd hc) e it l hei hle hli its.toArray
    refine enum_itemB e it l hei hle hli its.toArray i s _ _ (by have:=(List.getElem?_eq_some_iff.mp hu).1;simpa using this) ⟨st1,st2,p.isList⟩ fun T vals h' tk hP hT hTu hM kk=>?_
    obtain ⟨t,x',hx',rfl⟩:=hP
    refine ⟨_,rfl,?_⟩
    refine W.go elts k pos i T { s with heap:=h',toks:=tk } _ _ hM fun h2 st' kk2=>?_
    have eu:x'=u:=by
      have:its[i]? = some x':=by simpa using hx'
      rw [hu] at this;exact (Option.some.inj this).symm
    subst eu
    have nT:T ∉ [e,it]:=W.apart i T h' hM
    refine ⟨.ref T,upd H T (.tup [.int i,x]),I.newTup (ch:=[e,it]) (its:=[.int i t,x']) hf (fun b o hb eb=>kk2 b o hb (kk b o hb eb)) hT (.cons ⟨t,rfl⟩ (.cons ru .nil)) ?_ (by show 2≤sizeLine;decide),rfl,
      ⟨T,_,I.hok.fresh hT,rfl,⟨x,fun ys hy=>by rw [I.list_inj hy hq];exact hx,rfl⟩,rfl⟩,⟨by simpa using st'.1,st'.2.1⟩,fun b hb=>?_⟩
    · obtain ⟨⟨o,ho,r⟩,o',ho',r'⟩:=hTu
      exact ⟨⟨o,kk2 T o nT ho,r⟩,o',kk2 T o' nT ho',r'⟩
    · have nb:b≠T:=fun z=>nT (by rw [← z];exact hb)
      rw [upd_ne nb];exact (hf b hb).1
  done:=by
    intro X hP hw hK hc i pins s σ H E I hf st hg
    subst hP hw hK
    obtain ⟨xs,hq,hx⟩:=hg
    obtain ⟨its,rv,p,hz⟩:=I.list hq
    obtain ⟨⟨old,he⟩,st2⟩:=st
    have hl:=rv.length
    refine wpAny_pyNext_enum_end (I.ok.hd hc) he st2 p.isList (by simp;omega) fun h' kk=>⟨rfl,?_⟩
    obtain ⟨f0,f1,f2,f3,f4,f5⟩:=hf it (by simp)
    exact I.turned (t':=s.toks) (fun b o hb e=>kk b o hb e) f0 f1 f3 f4 f5
  self:=fun _ _ _ _ _ st h=>by
    obtain ⟨⟨old,he⟩,_⟩:=st
    exact wpAny_pyIter_enum he h
def iEnum (K:PySem.W.Frag) (ta:TA):TI:=fun σ H R=>ta σ H fun vs H1=>∃ a,vs=[.ref a]∧(∃ xs,SqL K H1 a xs)∧R (Ite K a) H1
theorem pi_enum {X:Cx} {l:Expr} {ta:TA} {elts:List Expr} {k:Nat} {tp p pos:Pos} (hg:Gl X "enumerate") (hm:X.mg "enumerate" = none) (hl:PA X [l] ta) (hs:starEach [l] X.env=[(false,eval l X.env)]:=by rfl) :
    PI X (.Tuple elts k tp) (.Call (.Name "enumerate" p) [l] [] pos) (iEnum X.K ta):=by
  intro pins s σ H R I h
  refine Call_ (ld_blt I hg hm (by first | exact boot_enumerate | decide +kernel) (PyProof.Rows.callWith_type1 (thn (hl pos pins s σ H _ I h) fun us s1 ⟨vs,H1,I1,r1,q1⟩=>?_) hs rfl))
  obtain ⟨a,e,⟨xs,hq⟩,q⟩:=q1
  subst e
  cases r1 with
  | cons r rr =>
    cases rr
    cases r
    obtain ⟨its,rv,p,hz⟩:=I1.list hq
    refine call_enumerate_list p.isList fun h' he hi hsz kk=>?_
    have I2:Inv X pins σ H1 { s1 with heap:=h' }:=I1.kept (t':=s1.toks) kk
    refine wpAny_pyIter_enum (s:={ s1 with heap:=h' }) he ?_
    refine ⟨s1.heap.objs.size+1,[s1.heap.objs.size+1,s1.heap.objs.size],_,_,H1,rfl,I2,turn_enum a _ _ (Nat.succ_ne_self _),⟨⟨_,he⟩,hi⟩,fun b hb=>?_,q⟩
    have:s1.heap.objs.size≤b:=by
      rcases List.mem_cons.mp hb with z | z
      · rw [z];exact Nat.le_succ _
      · have z:b=s1.heap.objs.size:=by simpa using z
        rw [z];exact Nat.le_refl _
    exact I1.fpOk this (I1.hok.fresh this)
theorem turn_zip {P:Program} {w:World} {K:PySem.W.Frag} {elts:List Expr} {k:Nat} {pos:Pos} (l1 l2 z TI TO i1 i2:Addr) (d1:TI≠z) (d2:TO≠z) (d3:i1≠z) (d4:i2≠z) (d5:TI≠TO) (d6:TI≠i1) (d7:TI≠i2) (d8:TO≠i1) (d9:TO≠i2) (d10:i1≠i2) :
    Turn P w K (.Tuple elts k pos) (Itz K l1 l2) [z,TI,TO,i1,i2] z (fun i h=>IsZip h z TI TO .none∧IsPair h TI (.ref i1) (.ref i2)∧(∃ a b,IsPair h TO a b)∧h.IsListIter i1 l1 i∧h.IsListIter i2 l2 i):=by
  have ap:∀ {h:Heap} {i:Nat} {xs:Array Value} {l:Addr},h.IsList l xs→IsZip h z TI TO .none→IsPair h TI (.ref i1) (.ref i2)→(∃ a b,IsPair h TO a b)→h.IsListIter i1 l1 i→h.IsListIter i2 l2 i→l≠z∧l≠TO∧l≠i1∧l≠i2:=by
    intro h i xs l hl h1 h2 h3 h4 h5
    obtain ⟨o,ho,hc,_⟩:=hl
    refine ⟨fun e=>?_,fun e=>?_,fun e=>?_,fun e=>?_⟩
    · rw [e,h1] at ho;cases ho;exact absurd (Value.type.inj hc) (by decide)
    · obtain ⟨a,b,h3⟩:=h3
      rw [e,h3] at ho;cases ho;exact absurd (Value.type.inj hc) (by decide)
    · obtain ⟨o',ho',hc',_⟩:=h4
      rw [e,ho'] at ho;cases ho;rw [hc'] at hc;exact absurd (Value.type.inj hc) (by decide)
    · obtain ⟨o',ho',hc',_⟩:=h5
      rw [e,ho'] at ho;cases ho;rw [hc'] at hc;exact absurd (Value.type.inj hc) (by decide)
  exact {
    mem:=by simp
    obj:=fun i h st b hb=>by
      obtain ⟨h1,h2,⟨a,b',h3⟩,⟨o4,e4,c4,q4⟩,⟨o5,e5,c5,q5⟩⟩:=st
      have hb':b=z∨b=TI∨b=TO∨b=i1∨b=i2:=by simpa using hb
      rcases hb' with e | e | e | e | e
      · rw [e];exact ⟨_,h1,fun v z=>by cases z⟩
      · rw [e];exact ⟨_,h2,fun v z=>by cases z⟩
      · rw [e];exact ⟨_,h3,fun v z=>by cases z⟩
      · rw [e];exact ⟨o4,e4,fun v z=>by rw [q4] at z;cases z⟩
      · rw [e];exact ⟨o5,e5,fun v z=>by rw [q5] at z;cases z⟩
    keep:=fun i h h' st kk=>by
      obtain ⟨h1,h2,⟨a,b',h3⟩,h4,h5⟩:=st
      exact ⟨kk z (by simp) _ h1,kk TI (by simp) _ h2,⟨a,b',kk TO (by simp) _ h3⟩,h4.at fun o x=>kk i1 (by simp) o x,h5.at fun o x=>kk i2 (by simp) o x⟩
    item:=by
      intro X hP hw hK hc i pins s σ H E I hf st hg
      subst hP hw hK
      obtain ⟨xs,x,ys,y,hq1,hx,hq2,hy⟩:=hg
      obtain ⟨its1,rv1,p1,hz1⟩:=I.list hq1
      obtain ⟨its2,rv2,p2,hz2⟩:=I.list hq2
      obtain ⟨u,hu,ru⟩:=rv1.get hx
      obtain ⟨v,hv,rv⟩:=rv2.get hy
      obtain ⟨h1,h2,h3,h4,h5⟩:=st
      obtain ⟨n1,n2,n3,n4⟩:=ap p1.isList h1 h2 h3 h4 h5
      obtain ⟨m1,m2,m3,m4⟩:=ap p2.isList h1 h2 h3 h4 h5
      have W:=WalksT.zip2 (prog:=X.prog) (w:=X.w) (I.ok.hd hc) z TI TO i1 i2 l1 l2 ⟨d1,d2,d3,d4,d5,d6,d7,d8,d9,d10,n1,n2,n3,n4,m1,m2,m3,m4⟩ its1.toArray its2.toArray
      refine zip_itemB z TI TO i1 i2 l1 l2 ⟨d1,d2,d3,d4,d5,d6,d7,d8,d9,d10,n1,n2,n3,n4,m1,m2,m3,m4⟩ its1.toArray its2.toArray i s _ _ (by have a1:=(List.getElem?_eq_some_iff.mp hu).1;have a2:=(List.getElem?_eq_some_iff.mp hv).1;simp;omega) ⟨h1,h2,h3,h4,h5,p1.isList,p2.isList⟩ fun T vals h' tk hP hT hTu hM kk=>?_
      obtain ⟨x',y',hx',hy',rfl⟩:=hP
      refine ⟨_,rfl,?_⟩
      refine W.go elts k pos i T { s with heap:=h',toks:=tk } _ _ hM fun h2' st' kk2=>?_
      have eu:x'=u:=by
        have:its1[i]? = some x':=by simpa using hx'
        rw [hu] at this;exact (Option.some.inj this).symm
      have ev:y'=v:=by
        have:its2[i]? = some y':=by simpa using hy'
        rw [hv] at this;exact (Option.some.inj this).symm
      subst eu ev
      have nT:T ∉ [z,TO,i1,i2]:=W.apart i T h' hM
      have sub:∀ b,b ∉ [z,TI,TO,i1,i2]→b ∉ [z,TO,i1,i2]:=fun b hb hb'=>hb (W.sub b hb' |> fun q=>by
        simp at hb' ⊢
        rcases hb' with e | e | e | e <;> simp [e])
      have nTI:T≠TI:=Nat.ne_of_gt (Nat.lt_of_lt_of_le (Heap.lt_size h2) hT)
      refine ⟨.ref T,upd H T (.tup [x,y]),I.newTup (ch:=[z,TI,TO,i1,i2]) (its:=[x',y']) hf (fun b o hb eb=>kk2 b o (sub b hb) (kk b o (sub b hb) eb)) hT (.cons ru (.cons rv .nil)) ?_ (by show 2≤sizeLine;decide),rfl,
        ⟨T,_,I.hok.fresh hT,rfl,⟨x,y,fun zs hz=>by rw [I.list_inj hz hq1];exact hx,fun zs hz=>by rw [I.list_inj hz hq2];exact hy,rfl⟩,rfl⟩,⟨st'.1,st'.2.1,st'.2.2.1,st'.2.2.2.1,st'.2.2.2.2.1⟩,fun b hb=>?_⟩
      · obtain ⟨⟨o,ho,r⟩,o',ho',r'⟩:=hTu
        exact ⟨⟨o,kk2 T o nT ho,r⟩,o',kk2 T o' nT ho',r'⟩
      · have nb:b≠T:=fun q=>by
          have hb':b=z∨b=TI∨b=TO∨b=i1∨b=i2:=by simpa using hb
          rw [q] at hb'
          rcases hb' with e | e | e | e | e
          · exact nT (by simp [e])
          · exact nTI e
          · exact nT (by simp [e])
          · exact nT (by simp [e])
          · exact nT (by simp [e])
        rw [upd_ne nb];exact (hf b hb).1
    done:=by
      intro X hP hw hK hc i pins s σ H E I hf st hg
      subst hP hw hK
      obtain ⟨xs,ys,hq1,hq2,hi⟩:=hg
      obtain ⟨its1,rv1,p1,hz1⟩:=I.list hq1
      obtain ⟨its2,rv2,p2,hz2⟩:=I.list hq2
      obtain ⟨h1,h2,h3,h4,h5⟩:=st
      obtain ⟨n1,n2,n3,n4⟩:=ap p1.isList h1 h2 h3 h4 h5
      obtain ⟨m1,m2,m3,m4⟩:=ap p2.isList h1 h2 h3 h4 h5
      have W:=WalksT.zip2 (prog:=X.prog) (w:=X.w) (I.ok.hd hc) z TI TO i1 i2 l1 l2 ⟨d1,d2,d3,d4,d5,d6,d7,d8,d9,d10,n1,n2,n3,n4,m1,m2,m3,m4⟩ its1.toArray its2.toArray
      have e:i=min its1.toArray.size its2.toArray.size:=by
        have:=rv1.length;have:=rv2.length;simp;omega
      subst e
      refine W.done s _ _ ⟨h1,h2,h3,h4,h5,p1.isList,p2.isList⟩ fun h' tk kk=>⟨rfl,?_⟩
      refine I.step (g':=s.gens) (d':=s.drawn) (ch:=[z,TO,i1,i2]) (fun b hb=>?_) (fun b o _ _ hc e _=>kk b o hc e) (fun b o _ _ hc e _=>⟨o.slots,kk b o hc e⟩) (fun _ _ _ _ n=>n)
        (fun b o hc e=>⟨o,kk b o hc e⟩) (fun _ _ e=>e) (fun _ _ _ e=>e) (fun b ps e=>⟨#[],by rw [e];simp⟩) (fun m hm=>?_) (fun b u e=>?_) I.bare
      · obtain ⟨_,a1,_,a2,a3,a4⟩:=hf b (by simp at hb ⊢;rcases hb with e | e | e | e <;> simp [e])
        exact ⟨a2,a1,a3,a4⟩
      · obtain ⟨o,es,ep,ho,r⟩:=hm
        exact ⟨o,es,ep,kk _ o (fun q=>(hf _ (by simp at q ⊢;rcases q with e | e | e | e <;> simp [e])).2.1 rfl) ho,r⟩
      · have nch:∀ b u,H b=some u→b ∉ [z,TO,i1,i2]:=fun b u e hb=>by
          rw [(hf b (by simp at hb ⊢;rcases hb with e | e | e | e <;> simp [e])).1] at e;cases e
        refine (I.hok b u e).stay (fun c v hc q=>kk c v ?_ q) (fun _ q=>q) fun _ _ q=>q
        rcases hc with z' | z'
        · rw [z'];exact nch b u e
        · exact nch c _ z'
    self:=fun _ _ _ _ _ st h=>wpAny_pyIter_zip st.1 h }
def iZip (K:PySem.W.Frag) (ta:TA):TI:=fun σ H R=>ta σ H fun vs H1=>∃ a b,vs=[.ref a,.ref b]∧(∃ xs,SqL K H1 a xs)∧(∃ ys,SqL K H1 b ys)∧R (Itz K a b) H1
theorem pi_zip {X:Cx} {l l':Expr} {ta:TA} {elts:List Expr} {k:Nat} {tp p pos:Pos} (hg:Gl X "zip") (hm:X.mg "zip" = none) (hl:PA X [l,l'] ta) (hs:starEach [l,l'] X.env=[(false,eval l X.env),(false,eval l' X.env)]:=by rfl) (hs2:starEach [l'] X.env=[(false,eval l' X.env)]:=by rfl) :
    PI X (.Tuple elts k tp) (.Call (.Name "zip" p) [l,l'] [] pos) (iZip X.K ta):=by
  intro pins s σ H R I h
  refine Call_ (ld_blt I hg hm (by first | exact boot_zip | decide +kernel) (PyProof.Rows.callWith_type1 (thn (hl pos pins s σ H _ I h) fun us s1 ⟨vs,H1,I1,r1,q1⟩=>?_) (by rw [hs,hs2]) (by rw [hs2];rfl)))
  obtain ⟨a,b,e,⟨xs,hq1⟩,⟨ys,hq2⟩,q⟩:=q1
  subst e
  cases r1 with
  | cons r rr =>
    cases rr with
    | cons r' rr =>
      cases rr
      cases r
      cases r'
      obtain ⟨its,rv,p,hz⟩:=I1.list hq1
      obtain ⟨its2,rv2,p2,hz2⟩:=I1.list hq2
      refine call_zip_2 p.isList p2.isList fun h' hz' hTI hTO hi1 hi2 hsz kk=>?_
      have I2:Inv X pins σ H1 { s1 with heap:=h' }:=I1.kept (t':=s1.toks) kk
      refine wpAny_pyIter_zip (s:={ s1 with heap:=h' }) hz' ?_
      refine ⟨s1.heap.objs.size+4,[s1.heap.objs.size+4,s1.heap.objs.size+2,s1.heap.objs.size+3,s1.heap.objs.size,s1.heap.objs.size+1],_,_,H1,rfl,I2,
        turn_zip a b _ _ _ _ _ (by simp) (by simp) (by simp) (by simp) (by simp) (by simp) (by simp) (by simp) (by simp) (by simp),⟨hz',hTI,⟨_,_,hTO⟩,hi1,hi2⟩,fun c hb=>?_,q⟩
      have:s1.heap.objs.size≤c:=by
        have hb':c=s1.heap.objs.size+4∨c=s1.heap.objs.size+2∨c=s1.heap.objs.size+3∨c=s1.heap.objs.size∨c=s1.heap.objs.size+1:=by simpa using hb
        rcases hb' with e | e | e | e | e <;> rw [e] <;> first | exact Nat.le_refl _ | exact Nat.le_add_right _ _
      exact I1.fpOk this (I1.hok.fresh this)
theorem comp_all {J:It} {xs:List V} {ok:Hp→Prop} {g:TG} {te:TE} {Q:VK} {τ0:St} {H:Hp} (S:Sure J xs ok) (hz:xs.length≤10000) (Pv:Nat→List V→St→Hp→Prop) (h0:Pv 0 [] τ0 H)
    (hl:∀ i ys τ H,i≤xs.length→Pv i ys τ H→ok H∧ys.length≤i)
    (hs:∀ i x ys τ H,xs[i]? = some x→Pv i ys τ H→g x τ H fun τ2 H2=>te τ2 H2 (fun y H4=>Pv (i+1) (ys++[y]) τ2 H4))
    (hd:∀ ys τ H D,Pv xs.length ys τ H→H D=none→Q (.ref D) (upd H D (.lst ys))) :
    ∃ W:Nat→Nat→List V→St→Hp→Prop,(∃ m,W 0 m [] τ0 H)∧∀ i m ys τ H,W i m ys τ H →
      (J.stop i H∧∀ D,H D=none→Q (.ref D) (upd H D (.lst ys))) ∨
      (J.go i H∧ys.length < sizeLine∧∃ N:List V→St→Hp→Prop,(∀ ys' τ' H',N ys' τ' H'→∃ m',m' < m∧W (i+1) m' ys' τ' H') ∧
        ∀ x H',J.yld i H x H'→g x τ H' fun τ2 H2=>tAll τ2 H2 fun b H3=>if b=true then te τ2 H3 (fun y H4=>N (ys++[y]) τ2 H4) else N ys τ2 H3) :=
  comp_by S hz Pv h0 hl (fun i x ys τ H e p=>by
    have:=hs i x ys τ H e p
    have e2:(fun (τ2:St) (H2:Hp)=>tAll τ2 H2 fun b H3=>if b=true then te τ2 H3 (fun y H4=>Pv (i+1) (ys++[y]) τ2 H4) else Pv (i+1) ys τ2 H3)=fun τ2 H2=>te τ2 H2 (fun y H4=>Pv (i+1) (ys++[y]) τ2 H4):=by
      funext τ2 H2
      unfold tAll
      exact if_pos rfl
    rw [e2]
    exact this) hd
theorem comp_all2 {J:It} {xs:List (List V)} {ok:Hp→Prop} {g:TG} {te:TE} {Q:VK} {τ0:St} {H:Hp} (S:Sure2 J xs ok) (hz:xs.length≤10000) (Pv:Nat→List V→St→Hp→Prop) (h0:Pv 0 [] τ0 H)
    (hl:∀ i ys τ H,i≤xs.length→Pv i ys τ H→ok H∧ys.length≤i)
    (hs:∀ i zs ys τ H T,xs[i]? = some zs→Pv i ys τ H→H T=none→g (.ref T) τ (upd H T (.tup zs)) fun τ2 H2=>te τ2 H2 (fun y H4=>Pv (i+1) (ys++[y]) τ2 H4))
    (hd:∀ ys τ H D,Pv xs.length ys τ H→H D=none→Q (.ref D) (upd H D (.lst ys))) :
    ∃ W:Nat→Nat→List V→St→Hp→Prop,(∃ m,W 0 m [] τ0 H)∧∀ i m ys τ H,W i m ys τ H →
      (J.stop i H∧∀ D,H D=none→Q (.ref D) (upd H D (.lst ys))) ∨
      (J.go i H∧ys.length < sizeLine∧∃ N:List V→St→Hp→Prop,(∀ ys' τ' H',N ys' τ' H'→∃ m',m' < m∧W (i+1) m' ys' τ' H') ∧
        ∀ x H',J.yld i H x H'→g x τ H' fun τ2 H2=>tAll τ2 H2 fun b H3=>if b=true then te τ2 H3 (fun y H4=>N (ys++[y]) τ2 H4) else N ys τ2 H3) :=
  comp_by2 S hz Pv h0 hl (fun i zs ys τ H T e p hT=>by
    have:=hs i zs ys τ H T e p hT
    have e2:(fun (τ2:St) (H2:Hp)=>tAll τ2 H2 fun b H3=>if b=true then te τ2 H3 (fun y H4=>Pv (i+1) (ys++[y]) τ2 H4) else Pv (i+1) ys τ2 H3)=fun τ2 H2=>te τ2 H2 (fun y H4=>Pv (i+1) (ys++[y]) τ2 H4):=by
      funext τ2 H2
      unfold tAll
      exact if_pos rfl
    rw [e2]
    exact this) hd
end L2
namespace L2
open PySem PySem.Spec PyProof.Rows
section
variable {X:Cx}
theorem strsAre_of:∀ {ss:List Str} {us:List Value},Vals (ss.map V.str) us→StrsAre us ss
  | [],_,r=>by cases r;exact .nil
  | x :: ss,_,r=>by
    cases r with
    | cons h r =>
      obtain ⟨t,rfl⟩:=h
      exact .cons x t (strsAre_of r)
theorem vals_strs:∀ {ss:List Str} {us:List Value},StrsAre us ss→Vals (ss.map V.str) us
  | _,_,.nil=>.nil
  | _,_,.cons y t r=>.cons ⟨t,rfl⟩ (vals_strs r)
theorem vals_by:∀ {xs:List V} {us:List Value},xs.length=us.length→(∀ (i:Nat) x u,xs[i]? = some x→us[i]? = some u→RelV x u)→Vals xs us
  | [],[],_,_=>.nil
  | [],_ :: _,h,_=>by cases h
  | _ :: _,[],h,_=>by cases h
  | x :: xs,u :: us,h,k=>.cons (k 0 x u rfl rfl) (vals_by (Nat.succ.inj h) fun i y v e1 e2=>k (i+1) y v e1 e2)
theorem kv_at:∀ {kvs:List (Key × V)} {vs:List (Key × Value)} {i:Nat} {k:Key} {x:Value},KV kvs vs→vs[i]? = some (k,x)→∃ k' v',kvs[i]? = some (k',v')∧k'=k
  | [],[],i,_,_,_,e=>by cases i <;> cases e
  | p :: kvs,q :: vs,0,k,x,h,e=>by
    cases h with
    | cons h1 h2 =>
      have e':q=(k,x):=Option.some.inj e
      subst e'
      exact ⟨p.1,p.2,rfl,h1.1⟩
  | p :: kvs,q :: vs,i+1,k,x,h,e=>by
    cases h with
    | cons h1 h2=>exact kv_at (i:=i) h2 e
theorem ObjOk.there {P:Program} {w:World} {H:Hp} {h:Heap} {a:Addr} {o:HO} (x:ObjOk P w H h a o):∃ ob,h.get? a=some ob:=by
  cases o with
  | lst xs=>obtain ⟨_,_,_,_,e⟩:=x;exact ⟨_,e⟩
  | tup xs=>obtain ⟨_,_,_,⟨ob,e,_⟩,_⟩:=x;exact ⟨_,e⟩
  | dK kvs=>obtain ⟨_,_,_,_,ob,_,_,e,_⟩:=x;exact ⟨_,e⟩
  | dT kvs=>obtain ⟨_,_,_,_,ob,_,_,e,_⟩:=x;exact ⟨_,e⟩
  | set S n=>obtain ⟨ob,_,_,_,e,_⟩:=x;exact ⟨_,e⟩
  | ins C dx fs=>obtain ⟨_,_,_,e,_⟩:=x;exact ⟨_,e⟩
  | own _=>exact x
  | xd fs=>obtain ⟨mA,⟨ob,_,_,e,_⟩,_⟩:=x;exact ⟨_,e⟩
  | rng lo hi=>obtain ⟨_,_,_,e⟩:=x;exact ⟨_,e⟩
  | frz ob u=>exact ⟨_,x.1⟩
  | tbl ps=>exact ⟨_,x⟩
  | met f y=>exact ⟨_,x⟩
  | ext φ=>exact x.2.1
theorem Inv.laid2 {pins:List (Addr × Obj)} {σ:St} {H:Hp} {s:Shared} {h':Heap} {a:Addr} {o:HO} {t':Nat} (I:Inv X pins σ H s) (k:∀ b u,s.heap.get? b=some u→h'.get? b=some u∧b≠a) (hn:H a=none)
    (new:ObjOk X.prog X.w (upd H a o) h' a o):Inv X pins σ (upd H a o) { s with heap:=h',toks:=t' } :=
  I.un ⟨fun b o e _ _ _=>(k b o e).1,fun b o e _ _ _=>⟨o.slots,(k b o e).1⟩,fun b o e n _=>by rw [upd_ne (k b o e).2];exact n,fun b o e _=>⟨o,(k b o e).1⟩,fun b xs e=>by rw [upd_ne (ne_of_none e hn)];exact e,
    fun b o u e=>by rw [upd_ne (ne_of_none e hn)];exact e,fun b ps e=>⟨#[],by rw [upd_ne (ne_of_none e hn),e];simp⟩⟩ (HOk.add (I.hok.kept fun b u e=>(k b u e).1) hn new)
def rJoin (K:PySem.W.Frag):V→List V→Hp→VK→Prop:=fun x vs H Q=>∃ sep l ss,x=.str sep∧vs=[.ref l]∧SqL K H l (ss.map V.str)∧(ss.map (·.length)).sum+ss.length * sep.length≤16777216∧Q (.str (Txt.join sep ss)) H
theorem mt_join:MtR X "str.join" (rJoin X.K):=by
  intro pins s σ H x vs v us Q I rx rv h
  obtain ⟨sep,l,ss,rfl,rfl,hq,hz,q⟩:=h
  obtain ⟨t,rfl⟩:=rx
  obtain ⟨u,rfl,ru⟩:=vals1 rv
  cases ru
  obtain ⟨its,r',pl,_⟩:=I.list hq
  refine join_list pl.isList (by simpa using strsAre_of r') hz fun t' k=>⟨.str _,H,I.tok _,⟨t',rfl⟩,q⟩
def rCount:V→List V→Hp→VK→Prop:=fun x vs H Q=>∃ a b,x=.str a∧vs=[.str b]∧Q (.int (Txt.count a b)) H
theorem mt_count:MtR X "str.count" rCount:=by
  intro pins s σ H x vs v us Q I rx rv h
  obtain ⟨a,b,rfl,rfl,q⟩:=h
  obtain ⟨t,rfl⟩:=rx
  obtain ⟨u,rfl,t',rfl⟩:=vals1 rv
  exact SC.count ⟨.int _,H,I.tok _,⟨_,rfl⟩,q⟩
theorem call_list_text (hc:X.calm=true):CallR X (.type "list") (fun xs H Q=>∃ z:Str,xs=[.str z]∧z.cps.size≤10000∧∀ l,H l=none→Q (.ref l) (upd H l (.lst (z.cps.toList.map sign)))):=by
  intro pins s σ H xs us Q I r h
  obtain ⟨z,rfl,hz,q⟩:=h
  obtain ⟨u,rfl,t,rfl⟩:=vals1 r
  refine call_list_str (I.ok.hd hc) z t (fun h' tk acc' c' hk hS hacc=>?_) (Nat.le_trans hz (by decide))
  have hv:Vals (z.cps.toList.map sign) acc'.toList:=by
    have hl:acc'.toList.length=z.cps.size:=by rw [Array.length_toList];exact hacc.1
    refine vals_by (by rw [List.length_map,Array.length_toList,hl]) fun i x u e1 e2=>?_
    obtain ⟨c,t',e3,rfl⟩:=hacc.2 i u (by rw [← Array.getElem?_toList];exact e2)
    rw [List.getElem?_map,Array.getElem?_toList,e3] at e1
    cases e1
    exact ⟨t',rfl⟩
  exact ⟨.ref s.heap.objs.size,_,I.laid hk (Nat.le_refl _) (show ObjOk X.prog X.w _ h' _ (.lst _) from ⟨by rw [List.length_map,Array.length_toList];exact Nat.le_trans hz (by decide),acc'.toList,c',hv,by simpa using hS⟩),rfl,q _ (I.hok.fresh (Nat.le_refl _))⟩
theorem call_sum (hc:X.calm=true):CallR X (.builtin "sum") (fun xs H Q=>∃ (l:Addr) (ns:List Int),xs=[.ref l]∧SqL X.K H l (ns.map V.int)∧Q (.int ns.sum) H):=by
  intro pins s σ H xs us Q I r h
  obtain ⟨l,ns,rfl,hq,q⟩:=h
  obtain ⟨u,rfl,ru⟩:=vals1 r
  cases ru
  obtain ⟨its,r',pl,_⟩:=I.list hq
  obtain ⟨m,F⟩:=I.fr
  have hi:=intsAre_of r'
  obtain ⟨xs,e⟩:=hi.allInts.items
  have hl:s.heap.IsList l (intItems xs):=by rw [← e];exact pl.isList
  refine sum_intListG (I.ok.hd hc) hl fun h' tk t' hk=>?_
  have es:preSum (numAt xs) xs.size=ns.sum:=by
    have:=hi.numsOf
    rw [show its=(intItems xs).toList by rw [← e]] at this
    rw [nums_intItems] at this
    rw [preSum_eq,List.take_of_length_le (by simp),this]
  rw [es]
  exact ⟨.int _,H,I.kept hk,⟨t',rfl⟩,q⟩
theorem call_isinst:CallR X (.builtin "isinstance") (fun xs H Q=>∃ x T t b,xs=[x,.ty T]∧TyOf X.K H x t∧PySem.W.kitOne X.K t (.type T)=some b∧Q (.bl b) H):=by
  intro pins s σ H xs us Q I r h
  obtain ⟨x,T,t,b,rfl,ty,e,q⟩:=h
  obtain ⟨u,v,rfl,ru,rv⟩:=vals2 r
  cases (show v=Value.type T from rv)
  exact isinst_ok I ru ty e fun tk=>⟨.bl b,H,I.tok _,rfl,q⟩
end
end L2
namespace L2
open PySem PySem.Spec PyProof.Rows
theorem comp_core {X:Cx} {pins:List (Addr × Obj)} {s:Shared} {σ:St} {H:Hp} {Q:VK} {use:Option (Value→Sem Unit)} {Q':Value→Shared→Prop} {cpos:Pos} {tg iter elt:Expr} {ifs:List Expr} {scope:Scope} {pos:Pos} {N':List Str} {ix:List (Option Nat)} {wi:TI} {g:TG} {tc:TT} {te:TE}
    (hc:X.calm=true) (chk:compChk X scope N' ix=true) (hi:PI X tg iter wi)
    (hg:∀ cells C s₀ H₀ ex pn,PG (compCx X scope N' cells C s₀ H₀ ex pn) tg g)
    (ht:∀ cells C s₀ H₀ ex pn,PTs (compCx X scope N' cells C s₀ H₀ ex pn) ifs tc)
    (he:∀ cells C s₀ H₀ ex pn,PE (compCx X scope N' cells C s₀ H₀ ex pn) elt te)
    (hs:∀ x,foldedSetIterable iter X.env x=pure x) (I:Inv X pins σ H s) (h:tComp ix wi g tc te σ H Q)
    (hend:∀ (s2 s4:Shared) (H2 H3:Hp) (C D:Addr) (fp:List Addr) (cells:List (Str × Addr)) (τ:St) (ys:List V) (its:List Value) (k:Nat),Inv X pins σ H2 s2→(∀ b∈fp,FpOk X pins H2 b) →
      Inv (compCx X scope N' cells C s2 H2 fp []) [(D,lobj its k)] τ H3 s4→s2.heap.objs.size≤C→s2.heap.objs.size≤D→D≠C→Vals ys its→ys.length≤sizeLine→Q (.ref D) (upd H3 D (.lst ys)) →
      compPost (model X.prog X.w) X.A X.xe use Q' (.ref D) C (.ok .next) s4) :
    wpAny (model X.prog X.w) X.A (comprehension (.ListComp elt [⟨tg,iter,ifs,0⟩] scope pos) scope X.env cpos (newList []) false (eval iter X.env) use) Q' X.xe s:=by
  unfold compChk at chk
  obtain ⟨chk,k5⟩:=Bool.and_eq_true_iff.mp chk
  obtain ⟨chk,k4⟩:=Bool.and_eq_true_iff.mp chk
  obtain ⟨chk,k3⟩:=Bool.and_eq_true_iff.mp chk
  obtain ⟨k1,k2⟩:=Bool.and_eq_true_iff.mp chk
  have c1:∀ p∈scope.names,scope.names.lookup p.1=some p.2:=fun p hp=>by simpa using List.all_eq_true.mp k1 p hp
  have c2:∀ p∈scope.names,p.2=.free→X.env.scope.names.lookup p.1=some .cell∨X.env.scope.names.lookup p.1=some .free:=fun p hp hf=>by
    have:=List.all_eq_true.mp k2 p hp
    rw [hf] at this
    simpa using this
  have c3:ix.length=N'.length:=by simpa using k3
  have ck:scope.kind=.function:=by simpa using k5
  have c4:∀ (i:Nat) (x:Str) (j:Nat),N'[i]? = some x→ix[i]? = some (some j)→X.N[j]? = some x∧scope.names.lookup x=some .free:=fun i x j e1 e2=>by
    have m:(x,some j)∈N'.zip ix:=by
      refine List.mem_of_getElem? (i:=i) ?_
      rw [List.getElem?_zip_eq_some]
      exact ⟨e1,e2⟩
    have:=List.all_eq_true.mp k4 _ m
    have:=Bool.and_eq_true_iff.mp this
    exact ⟨by simpa using this.1,by simpa using this.2⟩
  obtain ⟨cl,ecl,cl1,cl2⟩:=closure_ok (env:=X.env) (scope:=scope) (fun p hp hf=>I.ok.has p.1 (c2 p hp hf))
  refine wpAny_comprehension_free (use:=use) rfl hs ecl ck (fun y hy hl=>by rw [c1 y hy,hl]) (thn (hi pins s σ H _ I h) fun v s1 h1=>thn h1 fun itv s2 h2=>?_)
  obtain ⟨it,fp,tn,J,H2,e,I2,T,st2,f2,W,⟨m0,w0⟩,turn⟩:=h2
  subst e
  have I5:=comp_inv (N':=N') (ix:=ix) (fp:=fp) c1 c3 c2 c4 ck cl1 cl2 I2 f2 (T.obj _ _ st2)
  refine wpAny_newObj_type ?_
  unfold newFunctionEnv
  refine wpAny_bind (wpAny_alloc ?_)
  refine wpAny_bind (wpAny_layCells _ (fun name kind cells=>by cases hkc:kind == NameKind.cell <;> simp [hkc]) _ _ _ _ ?_)
  refine wpAny_bind ?_
  rw [List.forIn_nil]
  refine wpAny_pure (wpAny_pure ?_)
  have sz3:(s2.heap.push (lobj [] 0)).objs.size=s2.heap.objs.size+1:=Heap.size_push ..
  have sz4:((s2.heap.push (lobj [] 0)).push { cls:=.type "dict",data:=.dict #[] }).objs.size=s2.heap.objs.size+2:=by rw [Heap.size_push,sz3]
  show codeAny (model X.prog X.w) X.A (.compStart (.ListComp elt [⟨tg,iter,ifs,0⟩] scope pos) 0 (.ref it) (.ref s2.heap.objs.size)
    (compCx X scope N' (cellsFrom ((s2.heap.push (lobj [] 0)).push { cls:=.type "dict",data:=.dict #[] }).objs.size scope.names cl) (s2.heap.push (lobj [] 0)).objs.size s2 H2 fp []).env)
    (compPost (model X.prog X.w) X.A X.xe use Q' (.ref s2.heap.objs.size) (s2.heap.push (lobj [] 0)).objs.size)
    { s2 with heap:=pushCells ((s2.heap.push (lobj [] 0)).push { cls:=.type "dict",data:=.dict #[] }) scope.names }
  rw [sz4,sz3]
  generalize hcells:cellsFrom (s2.heap.objs.size+2) scope.names cl=cells at I5 ⊢
  have keep5:∀ b o,s2.heap.get? b=some o→(pushCells ((s2.heap.push (lobj [] 0)).push { cls:=.type "dict",data:=.dict #[] }) scope.names).get? b=some o:=fun b o e =>
    pushCells_keeps _ _ b o (Heap.get?_push_of_some _ (Heap.get?_push_of_some _ e))
  generalize hh5:({ s2 with heap:=pushCells ((s2.heap.push (lobj [] 0)).push { cls:=.type "dict",data:=.dict #[] }) scope.names }:Shared)=s5 at I5 ⊢
  have keep5:∀ b o,s2.heap.get? b=some o→s5.heap.get? b=some o:=by rw [← hh5];exact keep5
  have st5:tn 0 s5.heap:=T.keep _ _ _ st2 fun b hb o e=>keep5 b o e
  have lt2:∀ (b:Nat),b∈fp→b < s2.heap.objs.size:=fun b hb=>by
    obtain ⟨o,e,_⟩:=T.obj _ _ st2 b hb
    exact Heap.lt_size e
  -- the iterator within the block
  have stat:∀ {H':Hp} {o:Obj},(∀ b∈fp,H' b=none)→∀ b∈fp,FpOk (compCx X scope N' cells (s2.heap.objs.size+1) s2 H2 fp []) [(s2.heap.objs.size,o)] H' b:=fun {H' o} hn b hb =>
    ⟨hn b hb,(I5.ok.exf b hb).1,I5.ok.exfs b hb,.inl hb,(I5.ok.exf b hb).2,fun p hp=>by
      have e:p=(s2.heap.objs.size,o):=by simpa using hp
      subst e
      exact Nat.ne_of_gt (lt2 b hb)⟩
  have loop:codeAny (model X.prog X.w) X.A (.compLoop (.ListComp elt [⟨tg,iter,ifs,0⟩] scope pos) 0 (.ref it) (.ref s2.heap.objs.size)
      (compCx X scope N' cells (s2.heap.objs.size+1) s2 H2 fp []).env) (compPost (model X.prog X.w) X.A X.xe use Q' (.ref s2.heap.objs.size) (s2.heap.objs.size+1)) s5:=by
    refine compLoop_go (fun n s'=>∃ i ys τ H' its k,Inv (compCx X scope N' cells (s2.heap.objs.size+1) s2 H2 fp []) [(s2.heap.objs.size,lobj its k)] τ H' s'∧tn i s'.heap∧(∀ b∈fp,H' b=none)∧Vals ys its∧ys.length≤sizeLine∧W i n ys τ H') ?_ m0
      ⟨0,[],_,H2,[],0,I5,st5,fun b hb=>(f2 b hb).1,.nil,Nat.zero_le _,w0⟩
    rintro n s3 ⟨i,ys,τ,H3,its,k,I3,st3,fr3,hv3,hz3,w3⟩
    rcases turn i n ys τ H3 w3 with ⟨stop,qn⟩ | ⟨go,hlen,N,hN,step⟩
    · refine thn (T.done (compCx X scope N' cells (s2.heap.objs.size+1) s2 H2 fp []) rfl rfl rfl hc i _ s3 τ H3 (fun _ _=>False) I3 (stat fr3) st3 stop) fun r s4 ⟨hr,I4⟩=>?_
      subst hr
      obtain ⟨eD,nD,_,_,_⟩:=I4.pin (s2.heap.objs.size,lobj its k) (by simp)
      exact hend s2 s4 H2 H3 _ _ fp cells τ ys its k I2 f2 I4 (Nat.le_succ _) (Nat.le_refl _) (Nat.ne_of_lt (Nat.lt_succ_self _)) hv3 hz3 (qn _ nD)
    · refine thn (T.item (compCx X scope N' cells (s2.heap.objs.size+1) s2 H2 fp []) rfl rfl rfl hc i _ s3 τ H3 (fun _ _=>False) I3 (stat fr3) st3 go) fun r s4 ⟨u,hr,h4⟩=>?_
      subst hr
      refine thn h4 fun _ s5' ⟨x,H5,I5',r5,y5,st5',fr5⟩=>?_
      have I6:=I5'.pinned (stat fr5) (T.obj _ _ st5')
      refine thn (hg cells _ s2 H2 fp [] _ s5' τ H5 x u _ I6 r5 (step x H5 y5)) fun _ s6 ⟨τ6,H6,I7,q6⟩=>?_
      refine thn (ht cells _ s2 H2 fp [] _ s6 τ6 H6 _ I7 q6) fun ok s7 ⟨H7,I8,q7⟩=>?_
      have fin:∀ {s8:Shared} {H8:Hp} {its':List Value} {k':Nat} {ys':List V},Inv (compCx X scope N' cells (s2.heap.objs.size+1) s2 H2 fp []) ([(s2.heap.objs.size,lobj its' k')]++pinsAt fp s5'.heap) τ6 H8 s8→Vals ys' its'→ys'.length≤sizeLine→N ys' τ6 H8 →
          ∃ m,m < n∧∃ i ys τ H' its k,Inv (compCx X scope N' cells (s2.heap.objs.size+1) s2 H2 fp []) [(s2.heap.objs.size,lobj its k)] τ H' s8∧tn i s8.heap∧(∀ b∈fp,H' b=none)∧Vals ys its∧ys.length≤sizeLine∧W i m ys τ H':=fun {s8 H8 its' k' ys'} I9 hv hz n9=>by
        obtain ⟨m',hm,w9⟩:=hN ys' τ6 H8 n9
        refine ⟨m',hm,i+1,ys',τ6,H8,its',k',I9.unpinned,T.keep _ _ _ st5' fun b hb o e=>(I9.pin (b,o) (List.mem_append_right _ (List.mem_append_right _ (mem_pinsAt hb e)))).1,fun b hb=>?_,hv,hz,w9⟩
        obtain ⟨o,e,d⟩:=T.obj _ _ st5' b hb
        exact (I9.pin (b,o) (List.mem_append_right _ (List.mem_append_right _ (mem_pinsAt hb e)))).2.1
      cases ok with
      | false=>exact fin I8 hv3 hz3 q7
      | true =>
        refine thn (he cells _ s2 H2 fp [] _ s7 τ6 H7 _ I8 q7) fun y s8 ⟨v8,H8,I9,r8,q8⟩=>?_
        obtain ⟨eD,nD,dL,dF,_⟩:=I9.pin (s2.heap.objs.size,lobj its k) (by simp)
        have hl:=hv3.length
        refine append_un (X:=X) (τ:=τ) (H':=H8) (by omega) eD fun h' k' eD' kp=>?_
        -- the pin on the list is let go,the list turns,and is pinned anew
        have hx:∀ p∈pinsAt fp s5'.heap,p.1≠s2.heap.objs.size:=fun p hp=>by
          have:=lt2 p.1 (of_pinsAt hp).1
          exact Nat.ne_of_lt this
        have J1:Inv (compCx X scope N' cells (s2.heap.objs.size+1) s2 H2 fp []) (pinsAt fp s5'.heap) τ6 H8 s8:=I9.pins_of fun p hp=>I9.pin p (List.mem_append_right _ (List.mem_append_right _ hp))
        have J2:Inv (compCx X scope N' cells (s2.heap.objs.size+1) s2 H2 fp []) (pinsAt fp s5'.heap) τ6 H8 { s8 with heap:=h' }:=J1.turned (t':=s8.toks) (it:=s2.heap.objs.size) kp nD dL (.inr (Nat.le_refl _)) (fun x c e z=>by
          obtain ⟨v,o,ho,hd⟩:=J1.cell x c e
          rw [z,eD] at ho
          cases ho
          cases hd) fun p hp=>hx p (by simpa using hp)
        have J3:Inv (compCx X scope N' cells (s2.heap.objs.size+1) s2 H2 fp []) ([(s2.heap.objs.size,lobj (its++[y]) k')]++pinsAt fp s5'.heap) τ6 H8 { s8 with heap:=h' }:=J2.pins_of fun p hp=>by
          rcases List.mem_append.mp hp with z | z
          · have e:p=(s2.heap.objs.size,lobj (its++[y]) k'):=by simpa using z
            subst e
            exact ⟨eD',nD,dL,dF,fun v z=>by cases z⟩
          · exact J2.pin p (List.mem_append_right _ z)
        exact fin J3 (hv3.append (.cons r8 .nil)) (by rw [List.length_append,List.length_singleton];omega) q8
  exact codeAny_compStart_list loop (T.self X.A 0 s5 _ _ st5 loop)
theorem ps_setC {X:Cx} {tg iter elt:Expr} {ifs:List Expr} {scope:Scope} {pos px spos:Pos} {N':List Str} {ix:List (Option Nat)} {wi:TI} {g:TG} {tc:TT} {te:TE} {i:Nat} {x:Str}
    (hN:X.N.Nodup) (hi0:X.N[i]? = some x) (hx:X.env.scope.names.lookup x=some .local)
    (hc:X.calm=true) (chk:compChk X scope N' ix=true) (hi:PI X tg iter wi)
    (hg:∀ cells C s₀ H₀ ex pn,PG (compCx X scope N' cells C s₀ H₀ ex pn) tg g)
    (ht:∀ cells C s₀ H₀ ex pn,PTs (compCx X scope N' cells C s₀ H₀ ex pn) ifs tc)
    (he:∀ cells C s₀ H₀ ex pn,PE (compCx X scope N' cells C s₀ H₀ ex pn) elt te)
    (hs:∀ x,foldedSetIterable iter X.env x=pure x:=by intro _;rfl)
    (hsw:swapsWith (.ListComp elt [⟨tg,iter,ifs,0⟩] scope pos) (some (.Name x px)) spos.line X.env=pure true:=by rfl) :
    PS X (.Assign [.Name x px] (.ListComp elt [⟨tg,iter,ifs,0⟩] scope pos) spos) (fun D σ H=>tComp ix wi g tc te σ H fun v H1=>D.nx (σ.set i (some v)) H1):=by
  intro pins s σ H D I h
  rw [exec_Assign_Name_used _ _ _ _ hsw]
  refine wpAny_bind (wpAny_standAt (wpAny_bind ?_))
  show wpAny _ X.A (comprehension (.ListComp elt [⟨tg,iter,ifs,0⟩] scope pos) scope X.env _ (newList []) false (eval iter X.env) (some (assign (.Name x px) X.env)) >>= fun _=>pure ()) _ _ s
  refine wpAny_bind (wpAny_mono (comp_core (use:=some (assign (.Name x px) X.env)) (Q':=fun _ s'=>SP X pins D .next s') hc chk hi hg ht he hs I h ?_) (fun _ s' hq=>wpAny_pure (wpAny_pure hq)) fun _ _ e=>e)
  intro s2 s4 H2 H3 C Da fp cells τ ys its k I2 f2 I4 hC hD hDC hv hz q
  obtain ⟨eD,nD,_,_,_⟩:=I4.pin (Da,lobj its k) (by simp)
  have I5:Inv X pins σ (upd H3 Da (.lst ys)) s4:=comp_end I2 f2 I4 hC hD hDC nD eD hv hz (Heap.SameBut.refl _ _)
  show wpAny _ X.A (assign (.Name x px) X.env (.ref Da)) _ _ s4
  refine wpAny_assign_Name (store_ok2 I5 hN hi0 (.inl hx) (show RelV (.ref Da) (.ref Da) from rfl) (fun s6 I6 ⟨a,sb,ha⟩=>?_) (.inr hx))
  obtain ⟨m,hn,_⟩:=I4.loc
  have neL:C≠X.env.locals:=Nat.ne_of_gt (Nat.lt_of_lt_of_le I2.lt hC)
  have cne:∀ y c,X.env.cells.lookup y=some c→c≠C:=fun y c e=>by
    obtain ⟨v,z⟩:=I2.cell y c e
    exact Nat.ne_of_lt (Nat.lt_of_lt_of_le z.lt hC)
  have nea:C≠a:=by
    rcases ha with e | e
    · rw [e];exact neL
    · exact (cne x a e).symm
  refine ⟨m,hn.sameBut sb nea,fun h' sb'=>⟨σ.set i (some (.ref Da)),upd H3 Da (.lst ys),?_,q⟩⟩
  have nC:upd H3 Da (.lst ys) C=none:=by rw [upd_ne hDC.symm];exact I4.free
  refine I6.turned (t':=s6.toks) (it:=C) (fun b o hb e=>(sb'.2 b hb).trans e) nC neL (.inr (Nat.le_trans I2.sz hC)) cne fun p hp z=>?_
  have:=Heap.lt_size (I2.pin p hp).1
  rw [z] at this
  exact absurd (Nat.lt_of_lt_of_le this hC) (Nat.lt_irrefl _)
end L2
namespace L2
open PySem PySem.Spec PyProof.Rows
theorem op_mulB {X:Cx}:OpR X (binaryOp .Mult) (rI (fun i j=>Builtin.Int.intBits i≤2 ^ 20∧Builtin.Int.intBits j≤2 ^ 20) fun i j=>.int (i * j)):=opI fun _ _ _ _ _ _ _ hc q=>mul_int q (IntMulOk.of_bits hc.1 hc.2)
end L2
namespace L2
open PySem PySem.Spec PyProof.Rows
theorem comp_allR {J:It} {xs:List V} {ok:Hp→Prop} {g:TG} {te:TE} {R:Addr→List V→Hp→Prop} {τ0:St} {H:Hp} (S:Sure J xs ok) (hz:xs.length≤10000) (Pv:Nat→List V→St→Hp→Prop) (h0:Pv 0 [] τ0 H)
    (hl:∀ i ys τ H,i≤xs.length→Pv i ys τ H→ok H∧ys.length≤i)
    (hs:∀ i x ys τ H,xs[i]? = some x→Pv i ys τ H→g x τ H fun τ2 H2=>te τ2 H2 (fun y H4=>Pv (i+1) (ys++[y]) τ2 H4))
    (hd:∀ ys τ H D,Pv xs.length ys τ H→H D=none→R D ys H) :
    ∃ W:Nat→Nat→List V→St→Hp→Prop,(∃ m,W 0 m [] τ0 H)∧∀ i m ys τ H,W i m ys τ H →
      (J.stop i H∧∀ D,H D=none→R D ys H) ∨
      (J.go i H∧ys.length < sizeLine∧∃ N:List V→St→Hp→Prop,(∀ ys' τ' H',N ys' τ' H'→∃ m',m' < m∧W (i+1) m' ys' τ' H') ∧
        ∀ x H',J.yld i H x H'→g x τ H' fun τ2 H2=>tAll τ2 H2 fun b H3=>if b=true then te τ2 H3 (fun y H4=>N (ys++[y]) τ2 H4) else N ys τ2 H3):=by
  refine ⟨fun i m ys τ H=>m=xs.length - i∧i≤xs.length∧Pv i ys τ H,⟨xs.length,by simp,Nat.zero_le _,h0⟩,?_⟩
  rintro i m ys τ H ⟨rfl,hi,p⟩
  obtain ⟨q,hy⟩:=hl i ys τ H hi p
  by_cases hlt:i < xs.length
  · refine .inr ⟨S.go i H hlt q,Nat.lt_of_lt_of_le (show ys.length < 10000 by omega) (by decide),Pv (i+1),fun ys' τ' H' p'=>⟨xs.length - (i+1),by omega,rfl,hlt,p'⟩,fun x H' y=>?_⟩
    obtain ⟨e,y'⟩:=S.yld i H x H' hlt q y
    subst e
    have e2:(fun (τ2:St) (H2:Hp)=>tAll τ2 H2 fun b H3=>if b=true then te τ2 H3 (fun y H4=>Pv (i+1) (ys++[y]) τ2 H4) else Pv (i+1) ys τ2 H3)=fun τ2 H2=>te τ2 H2 (fun y H4=>Pv (i+1) (ys++[y]) τ2 H4):=by
      funext τ2 H2
      unfold tAll
      exact if_pos rfl
    rw [e2]
    exact hs i x ys τ _ y' p
  · have e:i=xs.length:=by omega
    subst e
    exact .inl ⟨S.stop H q,fun D hD=>hd ys τ H D p hD⟩
end L2
namespace L2
open PySem PySem.Spec PyProof.Rows
section
variable {X:Cx} (K:PySem.W.Frag)
theorem pi_listK {tg l:Expr} {tl:TE} (hl:PE X l tl) (hK:X.K=K:=by rfl):PI X tg l (iList K tl):=by subst hK;exact pi_list hl
theorem ix_listK (hK:X.K=K:=by rfl):IxR X (rIxL K):=by subst hK;exact ix_list
theorem ix_tupK (hK:X.K=K:=by rfl):IxR X (rIxT K):=by subst hK;exact ix_tup
theorem sl_listK (hK:X.K=K:=by rfl):SlR X (rSlL K):=by subst hK;exact sl_list
def rLen (K:PySem.W.Frag):List V→Hp→VK→Prop:=fun xs H Q=>∃ p ys,xs=[.ref p]∧(SqL K H p ys∨SqT K H p ys)∧Q (.int ys.length) H
theorem call_lenK (hK:X.K=K:=by rfl):CallR X (.builtin "len") (rLen K):=by subst hK;exact call_len_seq
def rSum (K:PySem.W.Frag):List V→Hp→VK→Prop:=fun xs H Q=>∃ (l:Addr) (ns:List Int),xs=[.ref l]∧SqL K H l (ns.map V.int)∧Q (.int ns.sum) H
theorem call_sumK2 (hc:X.calm=true) (hK:X.K=K:=by rfl):CallR X (.builtin "sum") (rSum K):=by subst hK;exact call_sum hc
def rIsi (K:PySem.W.Frag):List V→Hp→VK→Prop:=fun xs H Q=>∃ x T t b,xs=[x,.ty T]∧TyOf K H x t∧PySem.W.kitOne K t (.type T)=some b∧Q (.bl b) H
theorem call_isinstK (hK:X.K=K:=by rfl):CallR X (.builtin "isinstance") (rIsi K):=by subst hK;exact call_isinst
def rListOf (K:PySem.W.Frag):List V→Hp→VK→Prop:=fun xs H Q=>∃ p ys,xs=[.ref p]∧(SqL K H p ys∨SqT K H p ys)∧∀ l,H l=none→Q (.ref l) (upd H l (.lst ys))
theorem call_list_ofK (hK:X.K=K:=by rfl):CallR X (.type "list") (rListOf K):=by subst hK;exact call_list_of
def rTupOf (K:PySem.W.Frag):List V→Hp→VK→Prop:=fun xs H Q=>∃ p ys,xs=[.ref p]∧((SqL K H p ys∧∀ l,H l=none→Q (.ref l) (upd H l (.tup ys)))∨(SqT K H p ys∧Q (.ref p) H))
theorem call_tuple_ofK (hK:X.K=K:=by rfl):CallR X (.type "tuple") (rTupOf K):=by subst hK;exact call_tuple_of
theorem mt_joinK (hK:X.K=K:=by rfl):MtR X "str.join" (rJoin K):=by subst hK;exact mt_join
theorem pg_tupK {es:List Expr} {k:Nat} {t:TGs} {n:Nat} {pos:Pos} (hc:X.calm=true) (h:PGs X es t) (hn:(assignEach es X.env).length=n:=by rfl) (hst:(assignEach es X.env).findIdx? (·.1)=none:=by rfl) (hK:X.K=K:=by rfl):PG X (.Tuple es k pos) (gTup K n t):=by
  subst hK;exact pg_tup hc h hn hst
theorem pi_zipK {l l':Expr} {ta:TA} {elts:List Expr} {k:Nat} {tp p pos:Pos} (hg:Gl X "zip") (hm:X.mg "zip" = none) (hl:PA X [l,l'] ta) (hs:starEach [l,l'] X.env=[(false,eval l X.env),(false,eval l' X.env)]:=by rfl) (hs2:starEach [l'] X.env=[(false,eval l' X.env)]:=by rfl) (hK:X.K=K:=by rfl) :
    PI X (.Tuple elts k tp) (.Call (.Name "zip" p) [l,l'] [] pos) (iZip K ta):=by
  subst hK;exact pi_zip hg hm hl hs hs2
theorem pi_enumK {l:Expr} {ta:TA} {elts:List Expr} {k:Nat} {tp p pos:Pos} (hg:Gl X "enumerate") (hm:X.mg "enumerate" = none) (hl:PA X [l] ta) (hs:starEach [l] X.env=[(false,eval l X.env)]:=by rfl) (hK:X.K=K:=by rfl) :
    PI X (.Tuple elts k tp) (.Call (.Name "enumerate" p) [l] [] pos) (iEnum K ta):=by
  subst hK;exact pi_enum hg hm hl hs
theorem pe_bm0K {o:Expr} {to:TE} {name:Str} {apos cpos:Pos} {T id:String} {r:V→List V→Hp→VK→Prop} (pa:PlainAttrs T) (slot:Slot T name id) (hty:typeOf (.builtin id)=pure (.type "method_descriptor")) (hm:MtR X id r) (ho:PE X o to)
    (hbase:attributeBase o name X.env (eval o X.env)=eval o X.env:=by rfl) (hline:(apos.endLine == cpos.line)=true:=by rfl) (hK:X.K=K:=by rfl):PE X (.Call (.Attribute o name apos) [] [] cpos) (tBM0 K T r to):=by
  subst hK;exact pe_bm0 pa slot hty hm ho hbase hline
theorem pe_bmK {o e:Expr} {es:List Expr} {to:TE} {t:TA} {name:Str} {apos cpos:Pos} {T id:String} {r:V→List V→Hp→VK→Prop} (pa:PlainAttrs T) (slot:Slot T name id) (hty:typeOf (.builtin id)=pure (.type "method_descriptor")) (hm:MtR X id r) (ho:PE X o to) (ha:PA X (e :: es) t)
    (hbase:attributeBase o name X.env (eval o X.env)=eval o X.env:=by rfl)
    (hfew:((backTo cpos (starEach (e :: es) X.env)).all (fun x=>!x.1) && (backToKw cpos (keywordEach [] X.env)).all (fun x=>x.1.isSome) && decide ((e :: es).length+([]:List Keyword).length+(if ([]:List Keyword).isEmpty then 0 else 1) < 30))=true:=by rfl)
    (hline:(apos.endLine == cpos.line)=true:=by rfl) (hs:starEach (e :: es) X.env=(false,eval e X.env) :: starEach es X.env:=by rfl) (hplain:(backTo cpos (starEach es X.env)).any (·.1)=false:=by rfl) (hK:X.K=K:=by rfl) :
    PE X (.Call (.Attribute o name apos) (e :: es) [] cpos) (tBM K T r to t):=by
  subst hK;exact pe_bm pa slot hty hm ho ha hbase hfew hline hs hplain
end
def CDivB (i j:Int):Prop:=0 < j∧j≤100000000000000000000000000000000000000000000000000000000000000000000000000000000
theorem op_fdivB {X:Cx}:OpR X (binaryOp .FloorDiv) (rI CDivB fun i j=>.int (i / j)):=opI fun i j _ _ _ _ _ hc q=>by
  rw [← Int.fdiv_eq_ediv_of_nonneg i (Int.le_of_lt hc.1)] at q
  refine floordiv_int (by have:=hc.1;omega) q (.inl (PyProof.noPylong_of_log2 ?_))
  obtain ⟨h1,h2⟩:=hc
  have h0:j.natAbs≠0:=by omega
  have h3:j.natAbs < 2 ^ 300:=Nat.lt_of_le_of_lt (show j.natAbs≤100000000000000000000000000000000000000000000000000000000000000000000000000000000 by omega) (by decide +kernel)
  exact Nat.lt_trans ((Nat.log2_lt h0).mpr h3) (by decide)
end L2
namespace L2
open PySem PySem.Spec PyProof.Rows
inductive PairsAt (H:Hp):List Addr→List (Key × V)→Prop where
  | nil:PairsAt H [] []
  | cons {p:Addr} {ps:List Addr} {k:Key} {v:V} {kvs:List (Key × V)}:H p=some (.tup [kV k,v])→PairsAt H ps kvs→PairsAt H (p :: ps) ((k,v) :: kvs)
theorem PairsAt.len {H:Hp}:∀ {ps:List Addr} {kvs:List (Key × V)},PairsAt H ps kvs→ps.length=kvs.length
  | _,_,.nil=>rfl
  | _,_,.cons _ r=>congrArg (· + 1) r.len
theorem PairsAt.mem {H:Hp}:∀ {ps:List Addr} {kvs:List (Key × V)},PairsAt H ps kvs→∀ p∈ps,∃ o,H p=some o
  | _,_,.nil,p,h=>by simp at h
  | _,_,.cons e r,p,h=>by
    rcases List.mem_cons.mp h with z | z
    · rw [z];exact ⟨_,e⟩
    · exact r.mem p z
end L2
namespace L2
open PySem PySem.Spec PyProof.Rows
end L2
namespace L2
open PySem PySem.Spec PyProof.Rows
section
variable {P:Program} {w:World} {A:Around} {E:Value→Shared→Prop} {s:Shared}
end
structure Src (P:Program) (w:World) (it sq:Addr) (xs:Array Value) (St:Nat→Heap→Prop):Prop where
  keep:∀ k h h',St k h→(∀ b,b=it∨b=sq→∀ o,h.get? b=some o→h'.get? b=some o)→St k h'
  obj:∀ k h,St k h→∃ o vs,h.get? it=some o∧o.data=.fields vs
  item:∀ (A:Around) (E:Value→Shared→Prop) (k:Nat) (s:Shared) (x:Value) (Q:Value→Shared→Prop),St k s.heap→xs[k]? = some x →
    (∀ h',St (k+1) h'→Heap.SameBut it s.heap h'→Q x { s with heap:=h' })→wpAny (model P w) A (Builtin.SmallTypes.nextOf (.ref it)) Q E s
  fin:∀ (A:Around) (E:Value→Shared→Prop) (k:Nat) (s:Shared) (Q:Value→Shared→Prop),A.handled=none→St k s.heap→xs[k]? = none →
    (∀ h' e,Heap.ExtBut it s.heap h'→(∃ o,h'.get? e=some o∧o.cls=.type "StopIteration")→E (.ref e) { s with heap:=h' })→wpAny (model P w) A (Builtin.SmallTypes.nextOf (.ref it)) Q E s
theorem Src.off {P:Program} {w:World} {it sq:Addr} {xs:Array Value} {St:Nat→Heap→Prop} (S:Src P w it sq xs St) {k:Nat} {h h':Heap} {b:Addr} (st:St k h) (e:Heap.ExtBut b h h') (n1:it≠b) (n2:sq≠b):St k h' :=
  S.keep k h h' st fun c hc o ho=>e c o (by rcases hc with z | z <;> rw [z] <;> assumption) ho
theorem src_list {P:Program} {w:World} (it l:Addr) (ne:l≠it) (xs:Array Value):Src P w it l xs (fun k h=>h.IsListIter it l k∧h.IsList l xs) where
  keep:=fun k h h' st e=>⟨st.1.at fun o x=>e it (.inl rfl) o x,st.2.at fun o x=>e l (.inr rfl) o x⟩
  obj:=fun k h st=>by
    obtain ⟨o,ho,_,d⟩:=st.1
    exact ⟨o,_,ho,d⟩
  item:=fun A E k s x Q st hx q=>wpAny_nextOf_list_item st.1 st.2 hx fun h' a b=>q h' ⟨a,st.2.extBut b.extBut ne⟩ b
  fin:=fun A E k s Q hA st hx q=>wpAny_nextOf_list_end hA st.1 st.2 hx q
section
variable {P:Program} {w:World} {A:Around} {E:Value→Shared→Prop} {s:Shared} {z TI TO i1 i2 l1 l2:Addr} {xs ys:Array Value} {S1 S2:Nat→Heap→Prop}
end
def SqA (K:PySem.W.Frag) (H:Hp) (a:Addr) (xs:List V):Bool→Prop
  | true=>SqT K H a xs
  | false=>SqL K H a xs
def ItA (h:Heap) (it l:Addr) (k:Nat):Bool→Prop
  | true=>IsTupIter h it l k
  | false=>h.IsListIter it l k
def HasA (h:Heap) (l:Addr) (xs:Array Value):Bool→Prop
  | true=>IsTup h l xs
  | false=>h.IsList l xs
theorem ItA.at {h h':Heap} {it l:Addr} {k:Nat} (e:∀ o,h.get? it=some o→h'.get? it=some o):∀ {b:Bool},ItA h it l k b→ItA h' it l k b
  | true,x=>let ⟨o,ho,r⟩:=(show IsTupIter h it l k from x);⟨o,e o ho,r⟩
  | false,x=>let ⟨o,ho,r⟩:=(show h.IsListIter it l k from x);⟨o,e o ho,r⟩
theorem ItA.obj {h:Heap} {it l:Addr} {k:Nat}:∀ {b:Bool},ItA h it l k b→∃ o,h.get? it=some o∧o.data=.fields #[.ref l,.int k 0]∧(o.cls=.type "tuple_iterator"∨o.cls=.type "list_iterator")
  | true,x=>let ⟨o,ho,c,d⟩:=(show IsTupIter h it l k from x);⟨o,ho,d,.inl c⟩
  | false,x=>let ⟨o,ho,c,d⟩:=(show h.IsListIter it l k from x);⟨o,ho,d,.inr c⟩
theorem HasA.obj {h:Heap} {l:Addr} {xs:Array Value}:∀ {b:Bool},HasA h l xs b→∃ o,h.get? l=some o∧(o.cls=.type "tuple"∨o.cls=.type "list")∧∃ n,o.data=.seq xs n
  | true,x=>let ⟨o,ho,c,n,d⟩:=(show IsTup h l xs from x);⟨o,ho,.inl c,n,d⟩
  | false,x=>let ⟨o,ho,c,n,d⟩:=(show h.IsList l xs from x);⟨o,ho,.inr c,n,d⟩
theorem Inv.seqA {X:Cx} {pins:List (Addr × Obj)} {σ:St} {H:Hp} {s:Shared} {a:Addr} {xs:List V} (I:Inv X pins σ H s):∀ {b:Bool},SqA X.K H a xs b→∃ its:List Value,Vals xs its∧HasA s.heap a its.toArray b∧xs.length≤sizeLine
  | true,h=>let ⟨its,r,p,z⟩:=I.tuple h;⟨its,r,p,z⟩
  | false,h=>let ⟨its,r,p,z⟩:=I.list h;⟨its,r,p.isList,z⟩
theorem HasA.keep {h h':Heap} {l:Addr} {xs:Array Value} (e:∀ o,h.get? l=some o→h'.get? l=some o):∀ {b:Bool},HasA h l xs b→HasA h' l xs b
  | true,x=>let ⟨o,ho,r⟩:=(show IsTup h l xs from x);⟨o,e o ho,r⟩
  | false,x=>let ⟨o,ho,r⟩:=(show h.IsList l xs from x);⟨o,e o ho,r⟩
end L2
namespace L2
open PySem PySem.Spec PyProof.Rows
inductive VSame (K:PySem.W.Frag) (H:Hp):Nat→V→V→Prop where
  | flat {n:Nat} {x:V} (h:flatV x=true):VSame K H n x x
  | seq {n:Nat} {a b:Addr} {xs ys:List V} (t:Bool) (ha:SqA K H a xs t) (hb:SqA K H b ys t) (hl:xs.length=ys.length) (h:∀ (i:Nat) x y,xs[i]? = some x→ys[i]? = some y→VSame K H n x y):VSame K H (n+1) (.ref a) (.ref b)
theorem eqV_refl {x:V} (h:flatV x=true):eqV x x=true:=by
  cases x <;> first | (cases h;done) | (simp [eqV])
section
variable {X:Cx} {pins:List (Addr × Obj)} {σ:St} {H:Hp} {s:Shared}
theorem all_true (n:Nat):((List.range n).all fun _=>true)=true:=by simp
theorem items_same {n:Nat} {A:Around} {xs ys:List V} {i1 i2:List Value} (r1:Vals xs i1) (r2:Vals ys i2) (ih:∀ (i:Nat) x y u v,xs[i]? = some x→ys[i]? = some y→RelV x u→RelV y v→SeqAt.EqAt A s u v true) :
    ∀ j (h1:j < i1.toArray.size) (h2:j < i2.toArray.size),SeqAt.EqAt A s i1.toArray[j] i2.toArray[j] true:=fun j h1 h2=>by
  have l1:=r1.length
  have l2:=r2.length
  have h1':j < xs.length:=by simpa [l1] using h1
  have h2':j < ys.length:=by simpa [l2] using h2
  obtain ⟨u1,f1,g1⟩:=r1.get (List.getElem?_eq_getElem h1')
  obtain ⟨u2,f2,g2⟩:=r2.get (List.getElem?_eq_getElem h2')
  have k1:i1.toArray[j]=u1:=by
    have:=(List.getElem?_eq_some_iff.mp f1).2
    simpa using this
  have k2:i2.toArray[j]=u2:=by
    have:=(List.getElem?_eq_some_iff.mp f2).2
    simpa using this
  rw [k1,k2]
  exact ih j _ _ _ _ (List.getElem?_eq_getElem h1') (List.getElem?_eq_getElem h2') g1 g2
theorem rc_seq {A:Around} {t:Bool} {a b:Addr} {i1 i2:List Value} (p1:HasA s.heap a i1.toArray t) (p2:HasA s.heap b i2.toArray t) (hl:i1.length=i2.length) (hu:A.units < cLine)
    (h:∀ j (h1:j < i1.toArray.size) (h2:j < i2.toArray.size),SeqAt.EqAt A.in1 s i1.toArray[j] i2.toArray[j] true):SeqAt.RcAt A s (.ref a) (.ref b) true:=by
  cases t with
  | false =>
    have:=SeqAt.RcAt.lists (e:=fun _=>true) p1 p2 (by simpa using hl) hu h
    rwa [all_true] at this
  | true =>
    have:=SeqAt.RcAt.tuples (e:=fun _=>true) p1 p2 hu h
    rw [all_true] at this
    simpa [hl] using this
theorem rcne_seq {A:Around} {t:Bool} {a b:Addr} {i1 i2:List Value} (p1:HasA s.heap a i1.toArray t) (p2:HasA s.heap b i2.toArray t) (hl:i1.length=i2.length) (hu:A.units < cLine)
    (h:∀ j (h1:j < i1.toArray.size) (h2:j < i2.toArray.size),SeqAt.EqAt A.in1 s i1.toArray[j] i2.toArray[j] true):SeqAt.RcNeAt A s (.ref a) (.ref b) false:=by
  cases t with
  | false =>
    have:=SeqAt.RcNeAt.lists (e:=fun _=>true) p1 p2 (by simpa using hl) hu h
    rwa [all_true] at this
  | true =>
    have:=SeqAt.RcNeAt.tuples (e:=fun _=>true) p1 p2 hu h
    rw [all_true] at this
    simpa [hl] using this
theorem eq_deep (I:Inv X pins σ H s):∀ {n:Nat} {x y:V},VSame X.K H n x y→∀ {u v:Value} (A:Around),RelV x u→RelV y v→A.units+n < cLine→SeqAt.EqAt A s u v true:=by
  intro n x y h
  induction h with
  | flat h =>
    intro u v A ru rv _
    have:=eqAt_V (A:=A) (s:=s) ru rv h h
    rwa [eqV_refl h] at this
  | seq t ha hb hl h ih =>
    rename_i n a b xs ys
    intro u v A ru rv hu
    cases ru
    cases rv
    by_cases e:a=b
    · subst e
      exact SeqAt.EqAt.same _
    · obtain ⟨i1,r1,p1,_⟩:=I.seqA ha
      obtain ⟨i2,r2,p2,_⟩:=I.seqA hb
      refine SeqAt.EqAt.of_refs e (rc_seq p1 p2 (by rw [← r1.length,← r2.length,hl]) (by omega) (items_same (n:=n) r1 r2 fun i x y u v e1 e2 g1 g2=>ih i x y e1 e2 A.in1 g1 g2 ?_))
      show A.units+1+n < cLine
      omega
end
def rSameV (K:PySem.W.Frag) (b:Bool):R2:=fun x y H Q=>∃ (n:Nat) (a c:Addr),x=.ref a∧y=.ref c∧VSame K H (n+1) x y∧n≤30∧Q (.bl b) H
theorem op_eqV {X:Cx} (hu:X.A.units+64 < cLine):OpR X (compareOp .Eq) (rSameV X.K true):=by
  intro pins s σ H x y u v Q I rx ry h
  obtain ⟨n,a,c,rfl,rfl,hv,hn,q⟩:=h
  cases rx
  cases ry
  cases hv with
  | flat h=>cases h
  | seq t ha hb hl h =>
    obtain ⟨i1,r1,p1,_⟩:=I.seqA ha
    obtain ⟨i2,r2,p2,_⟩:=I.seqA hb
    refine rc_seq p1 p2 (by rw [← r1.length,← r2.length,hl]) (by omega) (items_same (n:=n) r1 r2 fun i x y u v e1 e2 g1 g2=>eq_deep I (h i x y e1 e2) X.A.in1 g1 g2 ?_) X.prog X.w _ _ ⟨.bl true,H,I,rfl,q⟩
    show X.A.units+1+n < cLine
    omega
theorem op_neV {X:Cx} (hu:X.A.units+64 < cLine):OpR X (compareOp .NotEq) (rSameV X.K false):=by
  intro pins s σ H x y u v Q I rx ry h
  obtain ⟨n,a,c,rfl,rfl,hv,hn,q⟩:=h
  cases rx
  cases ry
  cases hv with
  | flat h=>cases h
  | seq t ha hb hl h =>
    obtain ⟨i1,r1,p1,_⟩:=I.seqA ha
    obtain ⟨i2,r2,p2,_⟩:=I.seqA hb
    refine rcne_seq p1 p2 (by rw [← r1.length,← r2.length,hl]) (by omega) (items_same (n:=n) r1 r2 fun i x y u v e1 e2 g1 g2=>eq_deep I (h i x y e1 e2) X.A.in1 g1 g2 ?_) X.prog X.w _ _ ⟨.bl false,H,I,rfl,q⟩
    show X.A.units+1+n < cLine
    omega
theorem op_eqVK {X:Cx} (K:PySem.W.Frag) (hu:X.A.units+64 < cLine) (hK:X.K=K:=by rfl):OpR X (compareOp .Eq) (rSameV K true):=by subst hK;exact op_eqV hu
theorem op_neVK {X:Cx} (K:PySem.W.Frag) (hu:X.A.units+64 < cLine) (hK:X.K=K:=by rfl):OpR X (compareOp .NotEq) (rSameV K false):=by subst hK;exact op_neV hu
end L2
namespace L2
open PySem PySem.Spec PyProof.Rows
end L2
namespace L2
open PySem PySem.Spec PyProof.Rows
def CX1 (P:Program) (w:World):CXT:=fun outer H s E u s'=>∃ (e t:Addr) (cls:Value) (H':Hp) (b1:Heap),u=.ref e∧s'.os=s.os∧AllBare s'.gens∧Un (frs outer) [] H H' s.heap s'.heap∧HOk P w H' s'.heap∧H' e=none∧s.heap.get? e=none ∧
  Heap.FlyingW b1 outer e cls (.ref t) s'.heap∧(∀ b o,((∃ u,s.heap.get? b=some u)∨∃ u,H' b=some u)→b ∉ frs outer→s'.heap.get? b=some o→b1.get? b=some o)∧E cls none H'
section
variable {P:Program} {w:World} {K:PySem.W.Frag} {mg:Str→Option Value} {base:Heap} {N:List Str} {qual:Str} {scope:Scope} {f:Addr} {cdv:Value} {A:Around} {outer:List Env} {s:Shared} {H:Hp} {E:XK}
theorem Fun.ok1 {x:Str} {st:Stmt} {fd:FuncData} {ps:List Str} {k:Nat} {sp:Sp} (F:Fun K x qual st f fd) (S:FnScope N ps (defScope st)) (len:∀ vs H Q E,sp vs H Q E→vs.length=ps.length)
    (hbody:∀ (cdv:Value) (A:Around) (outer:List Env) (s:Shared) (H:Hp) (vs:List V) (Q:VK) (E:XK),Room k (A.deeper (envOfC qual (defScope st) s.heap.objs.size f cdv))→sp vs H Q E →
      ∃ t,PSs (cxOf (CX1 P w) P w K mg base N qual (defScope st) f cdv A outer s H E) (defBody st) t∧t { nx:=fun _ H'=>Q .non H',rt:=Q } (start N vs) H):FnOk P w K mg base (CX1 P w) (k+1) f fd ps sp:=by
  obtain ⟨oc,od,kV,doc,pm,an,cdv,ct,osl,rfl,lk,hcd⟩:=F.ex
  exact fn_of lk hcd S len fun A outer s H vs Q E hr hsp=>hbody cdv A outer s H vs Q E hr hsp
theorem FnOk.calm {k:Nat} {fd:FuncData} {ps:List Str} {sp sp':Sp} (F:FnOk P w K mg base (CX1 P w) k f fd ps sp) (h:∀ vs H Q E,sp' vs H Q E→sp vs H Q E0):FnOk P w K mg base CX0 k f fd ps sp' :=
  ⟨fun vs H Q E q=>F.len vs H Q E0 (h _ _ _ _ q),fun A outer s H args us vs Q E hr he hb hv hs=>codeAny_mono (F.run A outer s H args us vs Q E0 hr he hb hv (h _ _ _ _ hs)) fun r s' hq=>by
    cases r with
    | error e =>
      obtain ⟨_,_,_,_,_,_,_,_,_,_,_,_,_,_,q⟩:=hq
      exact q.elim
    | ok fl=>cases fl <;> exact hq⟩
end
end L2
namespace L2
open PySem PySem.Spec PySem.Calls PyProof.Rows PySem.W
section
variable {prog:Program} {w:World} {A:Around} {E:Value→Shared→Prop} {s:Shared} {K:PySem.W.Frag} {x D:Addr} {ox:Obj}
structure XAt (h:Heap) (x:Addr) (ox:Obj) (D:Addr):Prop where
  at_:h.get? x=some ox
  cls:ox.cls=.ref D
theorem XAt.type {M:Model} {h:Heap} (I:XAt h x ox D):Looks M h (typeOf (.ref x)) (.ref D):=by
  have:=I.cls
  exact this ▸ (Looks.ld I.at_).andThen Looks.now
structure ExcK (K:PySem.W.Frag) (D:Addr):Prop where
  cls:(clsIn K D).isSome=true
  find:findIn K (.ref D) "__class__" = some (some (.builtin "object.__class__"))
  get:specialIn K (.builtin "object.__class__") "__get__" = some (some (.builtin "getset_descriptor.__get__"))
  takes:takesIn K (.builtin "object.__class__")=some true
  obj:mroIn K D (.type "object")=some true
  bexc:mroIn K D (.type "BaseException")=some true
  ga:findIn K (.ref D) "__getattribute__" = some (some (.builtin "BaseException.__getattribute__"))
  gt:findIn K (.ref D) "__getattr__" = some none
end
end L2
namespace L2
open PySem PySem.Spec PySem.Calls PyProof.Rows PySem.W
section
variable {prog:Program} {w:World} {A:Around} {E:Value→Shared→Prop} {s:Shared} {K:PySem.W.Frag} {x C D:Addr} {ox:Obj}
end
section
variable {X:Cx} {pins:List (Addr × Obj)} {σ:St} {H:Hp} {s:Shared} {e:Addr} {o:HO}
theorem Inv.track (I:Inv X pins σ H s) (he:H e=none) (hs0:X.s₀.heap.get? e=none) (nl:e≠X.env.locals) (nc:∀ x c,X.env.cells.lookup x=some c→c≠e) (np:∀ p∈X.pn++pins,p.1≠e)
    (ho:ObjOk X.prog X.w (upd H e o) s.heap e o):Inv X pins σ (upd H e o) s:=by
  have ne:∀ b u,H b=some u→b≠e:=fun b u h z=>by rw [z,he] at h;cases h
  refine ⟨I.ok,I.os,I.bare,⟨I.base.keep,I.base.slot,fun b u h n hx=>?_,I.base.there,fun b xs h=>?_,fun b u v h=>?_,fun b ps h=>?_⟩,I.loc,I.cell,by rw [upd_ne (Ne.symm nl)];exact I.free,fun x c h=>by rw [upd_ne (nc x c h)];exact I.freeC x c h,fun p hp=>?_,fun a u h=>?_,I.len⟩
  · rw [upd_ne fun z=>by rw [z,hs0] at h;cases h]
    exact I.base.free b u h n hx
  · have:=I.base.tups b xs h
    rw [upd_ne (ne b _ this)]
    exact this
  · have:=I.base.frzs b u v h
    rw [upd_ne (ne b _ this)]
    exact this
  · obtain ⟨more,h1⟩:=I.base.tbls b ps h
    exact ⟨more,by rw [upd_ne (ne b _ h1)];exact h1⟩
  · obtain ⟨a1,a2,a3⟩:=I.pin p hp
    exact ⟨a1,by rw [upd_ne (np p hp)];exact a2,a3⟩
  · by_cases ha:a=e
    · subst ha
      rw [upd_same] at h
      cases h
      exact ho
    · rw [upd_ne ha] at h
      exact (I.hok a u h).stay (fun b w' _ q=>q) (fun b q=>by rw [upd_ne (ne b _ q)];exact q) fun b xs q=>by rw [upd_ne (ne b _ q)];exact q
end
structure Fl (X:Cx) (pins:List (Addr × Obj)) (σ:St) (H0:Hp) (s0:Shared) (H':Hp) (e:Addr) (b1:Heap) (s':Shared):Prop where
  I0:Inv X pins σ H0 s0
  os:s'.os=s0.os
  bare:AllBare s'.gens
  un:Un (frs X.stack) [] H0 H' s0.heap s'.heap
  hok:HOk X.prog X.w H' s'.heap
  he:H' e=none
  hes:s0.heap.get? e=none
  stay:b1.StaysIn s'.heap
  ff:s'.heap.FunFrames b1 X.stack
  cov:∀ b o,((∃ u,s0.heap.get? b=some u)∨∃ u,H' b=some u)→b ∉ frs X.stack→s'.heap.get? b=some o→b1.get? b=some o
section
variable {X:Cx} {pins:List (Addr × Obj)} {σ:St} {H0 H':Hp} {s0 s':Shared} {e:Addr} {b1 h':Heap}
end
end L2
namespace L2
open PySem PySem.Spec PySem.Calls PyProof.Rows PySem.W
abbrev Cx.inSuite (X:Cx) (Ax:Around):Cx:={ X with A:=Ax,calm:=false,xe:=fun _ _=>False }
section
variable {X:Cx} {pins pn:List (Addr × Obj)} {σ:St} {H:Hp} {s:Shared} {Ax:Around} {Ex:Value→Shared→Prop}
theorem Inv.suite (I:Inv X pins σ H s) (hA:Ax.frames=X.A.frames):Inv (X.inSuite Ax) pins σ H s :=
  ⟨⟨I.ok.mod,I.ok.kind,I.ok.glob,I.ok.blt,I.ok.above,I.ok.inj,I.ok.has,I.ok.cab,fun z=>Bool.noConfusion z,hA.trans I.ok.frames,I.ok.stk,I.ok.exf,I.ok.bs,I.ok.bsz,I.ok.noex,I.ok.exfs,I.ok.funs,I.ok.frf⟩,I.os,I.bare,I.base,I.loc,I.cell,I.free,I.freeC,I.pin,I.hok,I.len⟩
end
def Ends.as (D:Ends) (i:Nat):Ends:={ nx:=fun σ H=>D.nx (σ.set i none) H,rt:=D.rt,bk:=fun σ H=>D.bk (σ.set i none) H,ct:=fun σ H=>D.ct (σ.set i none) H }
end L2
namespace L2
open PySem PySem.Spec PySem.Calls PyProof.Rows PySem.W
theorem FnOk.or {P:Program} {w:World} {K:PySem.W.Frag} {mg:Str→Option Value} {base:Heap} {CX:CXT} {k:Nat} {f:Addr} {fd:FuncData} {ps:List Str} {sp sp':Sp} (F:FnOk P w K mg base CX k f fd ps sp) (G:FnOk P w K mg base CX k f fd ps sp') :
    FnOk P w K mg base CX k f fd ps fun vs H Q E=>sp vs H Q E∨sp' vs H Q E :=
  ⟨fun vs H Q E h=>h.elim (F.len vs H Q E) (G.len vs H Q E),fun A outer s H args us vs Q E hr e hb hv h=>h.elim (F.run A outer s H args us vs Q E hr e hb hv) (G.run A outer s H args us vs Q E hr e hb hv)⟩
theorem FnOk.up {P:Program} {w:World} {K:PySem.W.Frag} {mg:Str→Option Value} {base:Heap} {CX:CXT} {k:Nat} {f:Addr} {fd:FuncData} {ps:List Str} {sp:Sp} (F:FnOk P w K mg base CX0 k f fd ps sp):FnOk P w K mg base CX k f fd ps sp :=
  ⟨F.len,fun A outer s H args us vs Q E hr e hb hv h=>codeAny_mono (F.run A outer s H args us vs Q E hr e hb hv h) fun r s' hq=>by
    cases r with
    | error e=>exact False.elim hq
    | ok fl=>cases fl <;> exact hq⟩
end L2
namespace L2
open PySem PySem.Spec PyProof.Rows
theorem Inv.swap {X:Cx} {pins:List (Addr × Obj)} {σ:St} {H:Hp} {s:Shared} {d:Addr} {u u':HO} (I:Inv X pins σ H s) (e:H d=some u) (n1:∀ y,u≠.own y) (n2:∀ xs,u≠.tup xs)
    (h1:∀ xs,X.H₀ d≠some (.tup xs)) (h2:∀ o v,X.H₀ d≠some (.frz o v)) (h3:∀ ps,X.H₀ d≠some (.tbl ps)) (new:ObjOk X.prog X.w (upd H d u') s.heap d u'):Inv X pins σ (upd H d u') s:=by
  have ne:∀ b,H b=none→b≠d:=fun b z y=>by rw [y,e] at z;cases z
  refine ⟨I.ok,I.os,I.bare,⟨I.base.keep,I.base.slot,fun b o a1 a2 a3=>?_,I.base.there,fun b xs a1=>?_,fun b o v a1=>?_,fun b ps a1=>?_⟩,I.loc,I.cell,?_,fun x c a1=>?_,fun p hp=>?_,fun b v a1=>?_,I.len⟩
  · have z:=I.base.free b o a1 a2 a3
    rw [upd_ne (ne b z)];exact z
  · have z:=I.base.tups b xs a1
    rw [upd_ne (fun y=>h1 xs (by rw [← y];exact a1))];exact z
  · have z:=I.base.frzs b o v a1
    rw [upd_ne (fun y=>h2 o v (by rw [← y];exact a1))];exact z
  · have z:=I.base.tbls b ps a1
    rw [upd_ne (fun y=>h3 ps (by rw [← y];exact a1))];exact z
  · rw [upd_ne (ne _ I.free)];exact I.free
  · rw [upd_ne (ne _ (I.freeC x c a1))];exact I.freeC x c a1
  · obtain ⟨a1,a2,a3⟩:=I.pin p hp
    exact ⟨a1,by rw [upd_ne (ne _ a2)];exact a2,a3⟩
  · by_cases y:b=d
    · subst y
      rw [upd_same] at a1
      cases a1
      exact new
    · rw [upd_ne y] at a1
      refine (I.hok b v a1).stay (fun c z _ q=>q) (fun c q=>?_) fun c xs q=>?_
      · rw [upd_ne (fun y=>n1 b (by rw [y,e] at q;exact Option.some.inj q))];exact q
      · rw [upd_ne (fun y=>n2 xs (by rw [y,e] at q;exact Option.some.inj q))];exact q
theorem Inv.freeze {X:Cx} {pins:List (Addr × Obj)} {σ:St} {H:Hp} {s:Shared} {d:Addr} {kvs:List (Key × V)} (I:Inv X pins σ H s) (e:H d=some (.dK kvs)) :
    ∃ ob,Inv X pins σ (upd H d (.frz ob (.dK kvs))) s∧∀ (σ':St) (H':Hp) (s':Shared),Inv X pins σ' H' s'→H' d=some (.frz ob (.dK kvs))→Inv X pins σ' (upd H' d (.dK kvs)) s':=by
  obtain ⟨hz,lo,vs,hkv,hD⟩:=(show ObjOk X.prog X.w H s.heap d (.dK kvs) from I.hok d _ e)
  obtain ⟨ob,es,ep,ho,rr⟩:=id hD
  have h1:∀ xs,X.H₀ d≠some (.tup xs):=fun xs z=>by have:=I.base.tups d xs z;rw [e] at this;cases this
  have h2:∀ o v,X.H₀ d≠some (.frz o v):=fun o v z=>by have:=I.base.frzs d o v z;rw [e] at this;cases this
  have h3:∀ ps,X.H₀ d≠some (.tbl ps):=fun ps z=>by obtain ⟨m,q⟩:=I.base.tbls d ps z;rw [e] at q;cases q
  refine ⟨ob,I.swap e (fun y z=>by cases z) (fun xs z=>by cases z) h1 h2 h3 ⟨ho,hz,lo,vs,hkv,hD⟩,fun σ' H' s' J q=>?_⟩
  obtain ⟨_,c1,c2,ws,c3,c4⟩:=(show ObjOk X.prog X.w H' s'.heap d (.frz ob (.dK kvs)) from J.hok d _ q)
  exact J.swap q (fun y z=>by cases z) (fun xs z=>by cases z) h1 h2 h3 ⟨c1,c2,ws,c3,c4⟩
def ItD (d:Addr) (ob:Obj) (kvs:List (Key × V)):It :=
  ⟨fun i H=>H d=some (.frz ob (.dK kvs))∧i < kvs.length,fun i H x H'=>H'=H∧(kvs.map fun p=>kV p.1)[i]? = some x,fun i H=>H d=some (.frz ob (.dK kvs))∧i=kvs.length⟩
theorem sure_dict {d:Addr} {ob:Obj} {kvs:List (Key × V)}:Sure (ItD d ob kvs) (kvs.map fun p=>kV p.1) (fun H=>H d=some (.frz ob (.dK kvs))) where
  go:=fun i H hi h=>⟨h,by rwa [List.length_map] at hi⟩
  yld:=fun i H x H' _ h y=>y
  stop:=fun H h=>⟨h,List.length_map ..⟩
theorem key_rel {P:Program} {w:World} {k:Key} {u:Value} (h:(mixKind P w).is k u=true):RelV (kV k) u:=by
  rcases keyIs_shape (show keyIs k u=true from h) with ⟨i,t,rfl,rfl⟩ | ⟨x,t,rfl,rfl⟩
  · exact ⟨t,rfl⟩
  · exact ⟨t,rfl⟩
theorem frz_at {X:Cx} {pins:List (Addr × Obj)} {σ:St} {H:Hp} {s:Shared} {d:Addr} {ob:Obj} {kvs:List (Key × V)} {es:Array DictEntry} {ep:Nat} (I:Inv X pins σ H s) (e:H d=some (.frz ob (.dK kvs))) (hd:ob.data=.dict es ep) :
    (d == sysModules)=false∧kvs.length≤sizeLine∧∃ vs,KV kvs vs∧s.heap.DictAt (mixKind X.prog X.w) d vs ep:=by
  obtain ⟨c0,c1,c2,vs,c3,o,es',ep',ho,x1,x2,x3⟩:=(show ObjOk X.prog X.w H s.heap d (.frz ob (.dK kvs)) from I.hok d _ e)
  rw [c0] at ho
  cases ho
  rw [hd] at x2
  cases x2
  exact ⟨c2,c1,vs,c3,ob,es,c0,x1,hd,x3⟩
theorem turn_dict {P:Program} {w:World} {K:PySem.W.Frag} {tg:Expr} (d it:Addr) (ob:Obj) (kvs:List (Key × V)) (es:Array DictEntry) (ep:Nat) (hd:ob.data=.dict es ep):Turn P w K tg (ItD d ob kvs) [it] it (fun i h=>h.IsKeyIter it d i kvs.length ep) where
  mem:=by simp
  obj:=fun i h st b hb=>by
    have e:b=it:=by simpa using hb
    subst e
    obtain ⟨o,e,c,d⟩:=st
    exact ⟨o,e,fun v z=>by rw [d] at z;cases z⟩
  keep:=fun i h h' st k=>st.at fun o e=>k it (by simp) o e
  item:=by
    intro X hP hw hK hc i pins s σ H E I hf st hg
    subst hP hw hK
    obtain ⟨hq,hi⟩:=hg
    obtain ⟨lo,hz,vs,hkv,hat⟩:=frz_at I hq hd
    have hl:vs.length=kvs.length:=(Paired.length hkv).symm
    rw [← hl] at st hi
    obtain ⟨f0,f1,f2,f3,f4,f5⟩:=hf it (by simp)
    have e3:vs[i]? = some (vs[i].1,vs[i].2):=List.getElem?_eq_getElem hi
    refine wpAny_pyNext_dict_item st hat e3 fun u h' hu st' sb=>?_
    have I1:Inv X pins σ H { s with heap:=h' }:=I.turned (t':=s.toks) (fun b o hb e=>(sb.2 b hb).trans e) f0 f1 f3 f4 f5
    obtain ⟨k',v',e4,e5⟩:=kv_at hkv e3
    rw [hl] at st'
    obtain ⟨o,e,c,dd⟩:=id st'
    refine ⟨u,rfl,go_of (s:={ s with heap:=h' }) e c dd (by decide) ⟨kV vs[i].1,H,I1,key_rel hu,⟨rfl,?_⟩,st',fun b hb=>(hf b hb).1⟩⟩
    rw [List.getElem?_map,e4,← e5]
    rfl
  done:=by
    intro X hP hw hK hc i pins s σ H E I hf st hg
    subst hP hw hK
    obtain ⟨hq,hi⟩:=hg
    obtain ⟨lo,hz,vs,hkv,hat⟩:=frz_at I hq hd
    have hl:vs.length=kvs.length:=(Paired.length hkv).symm
    rw [← hl] at st hi
    obtain ⟨f0,f1,f2,f3,f4,f5⟩:=hf it (by simp)
    exact wpAny_pyNext_dict_end (I.ok.hd hc) st hat (by rw [hi];simp) fun h' eb=>⟨rfl,I.turned (t':=s.toks) (fun b o hb e=>eb b o hb e) f0 f1 f3 f4 f5⟩
  self:=fun _ _ _ _ _ st h=>wpAny_pyIter_keyiter st h
def iDict (tl:TE):TI:=fun σ H R=>tl σ H fun x H1=>∃ d ob kvs,x=.ref d∧H1 d=some (.frz ob (.dK kvs))∧R (ItD d ob kvs) H1
theorem pi_dict {X:Cx} {tg l:Expr} {tl:TE} (hl:PE X l tl):PI X tg l (iDict tl):=by
  intro pins s σ H R I h
  refine thn (hl pins s σ H _ I h) fun v s1 ⟨x,H1,I1,r1,q1⟩=>?_
  obtain ⟨d,ob,kvs,e,hq,q⟩:=q1
  subst e
  cases r1
  obtain ⟨c0,c1,c2,vs,c3,o,es,ep,ho,x1,x2,x3⟩:=(show ObjOk X.prog X.w H1 s1.heap d (.frz ob (.dK kvs)) from I1.hok d _ hq)
  rw [c0] at ho
  cases ho
  have hvl:vs.length=kvs.length:=(Paired.length c3).symm
  refine wpAny_pyIter_dict (knd:=mixKind X.prog X.w) (kvs:=vs) (ep:=ep) c2 ⟨ob,es,c0,x1,x2,x3⟩ ?_
  refine ⟨s1.heap.objs.size,[s1.heap.objs.size],_,_,H1,rfl,I1.kept (t':=s1.toks) fun b o e=>Heap.get?_push_of_some _ e,turn_dict d _ ob kvs es ep x2,⟨_,Heap.get?_push_size _ rfl,rfl,by rw [hvl];rfl⟩,fun b hb=>?_,q⟩
  have e:b=s1.heap.objs.size:=by simpa using hb
  subst e
  exact I1.fpOk (Nat.le_refl _) (I1.hok.fresh (Nat.le_refl _))
end L2
namespace L2
open PySem PySem.Spec PyProof.Rows
def rSlS:V→Option Int→Option Int→Hp→VK→Prop:=fun x lo hi H Q=>∃ z:Str,x=.str z∧z.length≤sizeLine∧Q (.str (Txt.slice z lo hi)) H
theorem sl_str {X:Cx}:SlR X rSlS:=by
  intro pins s σ H x v vl vu lo hi sl Q I rx hs pl pu h
  obtain ⟨z,rfl,hz,q⟩:=h
  obtain ⟨t,rfl⟩:=rx
  refine ⟨"str",_,F.slot_str_getitem.lookup,typeIs_str _ _ _,?_⟩
  obtain ⟨o,ho,hc,hd⟩:=hs
  have fin:∀ (l u:Option (Int × Tok)),l.map (·.1)=lo→u.map (·.1)=hi→vl=partValue l→vu=partValue u→wpAny (model X.prog X.w) X.A (getItem (.str z t) (.ref sl)) (EP X pins σ Q) X.xe s:=fun l u e1 e2 e3 e4=>by
    subst e1 e2 e3 e4
    refine wpAny_getItem_str_slice (l:=l) (u:=u) (st:=none) ⟨o,ho,hc,hd⟩ rfl (post_val_or_str ⟨Nat.le_trans (Txt.slice_le z (l.map (·.1)) (u.map (·.1))) hz,fun t' k=>?_⟩)
    exact ⟨.str (Txt.slice z (l.map (·.1)) (u.map (·.1))),H,I.tok _,⟨t',rfl⟩,q⟩
  cases pl with
  | none=>cases pu with
    | none=>exact fin none none rfl rfl rfl rfl
    | int j tj=>exact fin none (some (j,tj)) rfl rfl rfl rfl
  | int i ti=>cases pu with
    | none=>exact fin (some (i,ti)) none rfl rfl rfl rfl
    | int j tj=>exact fin (some (i,ti)) (some (j,tj)) rfl rfl rfl rfl
theorem slice_hi (x:Str) (l:Option Int) (j:Nat):Txt.slice x l (some (j:Int))=Txt.slice x l (some ((min j x.length:Nat):Int)):=by
  have e:Builtin.Str.strSliceIndices l (some (j:Int)) 1 x.length=Builtin.Str.strSliceIndices l (some ((min j x.length:Nat):Int)) 1 x.length:=by
    unfold Builtin.Str.strSliceIndices
    simp only
    have e1:max 0 (min (if (j:Int) < 0 then (j:Int)+(x.length:Int) else (j:Int)) (x.length:Int))=max 0 (min (if ((min j x.length:Nat):Int) < 0 then ((min j x.length:Nat):Int)+(x.length:Int) else ((min j x.length:Nat):Int)) (x.length:Int)):=by
      rw [if_neg (by omega),if_neg (by omega)]
      omega
    rw [if_pos (by decide),e1]
    rfl
  unfold Txt.slice
  rw [e]
theorem slice_take (x:List Nat) (j:Nat):Txt.slice ⟨x.toArray⟩ none (some (j:Int))=⟨(x.take j).toArray⟩:=by
  rw [slice_hi]
  have h:=beq_iff_eq.mp (slice_closes_toL (x:=⟨x.toArray⟩) (j:=((min j x.length:Nat):Int)) (by omega) (by show _≤((x.length:Nat):Int);omega))
  refine h.trans ?_
  have e:((((min j x.length:Nat):Int)) - 0).toNat=min j x.length:=by omega
  rw [e]
  show (⟨((x.drop 0).take (min j x.length)).toArray⟩:Str)=_
  rw [List.drop_zero]
  by_cases hj:j≤x.length
  · rw [Nat.min_eq_left hj]
  · rw [Nat.min_eq_right (by omega),List.take_of_length_le (Nat.le_refl _),List.take_of_length_le (by omega)]
theorem slice_drop (x:List Nat) (i:Nat) (h:i≤x.length):Txt.slice ⟨x.toArray⟩ (some (i:Int)) none=⟨(x.drop i).toArray⟩:=by
  refine (slice_from_eq (x:=⟨x.toArray⟩) (i:=(i:Int)) (b:=((x.length:Nat):Int)) (by omega) (by show _≤((x.length:Nat):Int);omega) rfl).trans ?_
  show (⟨((x.drop i).take _).toArray⟩:Str)=_
  rw [List.take_of_length_le (by rw [List.length_drop];omega)]
end L2
namespace L2
open PySem PySem.Spec PyProof.Rows
section
variable {P:Program} {w:World} {A:Around} {E:Value→Shared→Prop}
end
end L2
namespace L2
open PySem PySem.Spec PyProof.Rows
abbrev iK (z:Str):Key:=Sum.inr z
def Cnt (ss:List Str) (c:Nat):Prop:=c≤ss.length∧(c=ss.length ↔ ss.Nodup)
theorem Cnt.nil:Cnt [] 0:=⟨Nat.le_refl _,by simp⟩
theorem Cnt.snoc {ss:List Str} {z:Str} {c:Nat} (h:Cnt ss c):Cnt (ss++[z]) (if z∈ss then c else c+1):=by
  obtain ⟨h1,h2⟩:=h
  by_cases hz:z∈ss
  · rw [if_pos hz]
    refine ⟨by rw [List.length_append];omega,⟨fun e=>?_,fun e=>?_⟩⟩
    · rw [List.length_append,List.length_singleton] at e
      omega
    · exact absurd rfl ((List.nodup_append.mp e).2.2 z hz z (by simp))
  · rw [if_neg hz]
    refine ⟨by rw [List.length_append,List.length_singleton];omega,⟨fun e=>?_,fun e=>?_⟩⟩
    · rw [List.length_append,List.length_singleton] at e
      have:=h2.mp (by omega)
      refine List.nodup_append.mpr ⟨this,by simp,fun a ha b hb e=>?_⟩
      have:b=z:=by simpa using hb
      exact hz (by rw [← this,← e];exact ha)
    · rw [List.length_append,List.length_singleton]
      have:=h2.mpr (List.nodup_append.mp e).1
      omega
def kin (ss:List Str) (k:Key):Bool:=ss.any fun z=>decide (k=iK z)
end L2
namespace L2
open PySem PySem.Spec PyProof.Rows
end L2
namespace L2
open PySem PySem.Spec PyProof.Rows PySem.W
abbrev Fcts:=List (Nat × Nat)
def has (L:Fcts) (i j:Nat):Bool:=L.any fun p=>p.1 == i && p.2 == j
structure Ord (b:Nat→Nat→Bool) (n:Nat):Prop where
  irr:∀ i,b i i=false
  trans:∀ i j k,b i j=true→b j k=true→b i k=true
  tot:∀ i j,i < n→j < n→i≠j→b i j=false→b j i=true
structure Sor (b:Nat→Nat→Bool) (n m:Nat) (p:Array Nat):Prop where
  size:p.size=n
  lt:∀ x∈p.toList,x < n
  nd:p.toList.Nodup
  up:(p.toList.take m).Pairwise fun x y=>b x y=true
theorem getD_at {p:Array Nat} {i:Nat} (h:i < p.size):p.toList[i]? = some (p.getD i 0):=by
  rw [Array.getElem?_toList,Array.getD,dif_pos h]
  exact Array.getElem?_eq_getElem h
theorem Sor.below {b:Nat→Nat→Bool} {n m:Nat} {p:Array Nat} (S:Sor b n m p) {i j:Nat} (hij:i < j) (hj:j < m) (hm:m≤n):b (p.getD i 0) (p.getD j 0)=true:=by
  have hs:=S.size
  have h1:(p.toList.take m)[i]? = some (p.getD i 0):=by rw [List.getElem?_take_of_lt (by omega)];exact getD_at (by omega)
  have h2:(p.toList.take m)[j]? = some (p.getD j 0):=by rw [List.getElem?_take_of_lt hj];exact getD_at (by omega)
  obtain ⟨l1,e1⟩:=List.getElem?_eq_some_iff.mp h1
  obtain ⟨l2,e2⟩:=List.getElem?_eq_some_iff.mp h2
  have:=List.pairwise_iff_getElem.mp S.up i j l1 l2 hij
  rw [e1,e2] at this
  exact this
theorem Sor.mem {b:Nat→Nat→Bool} {n m:Nat} {p:Array Nat} (S:Sor b n m p) {i:Nat} (h:i < n):p.getD i 0 < n:=S.lt _ (List.mem_of_getElem? (getD_at (by rw [S.size];exact h)))
theorem Sor.ne {b:Nat→Nat→Bool} {n m:Nat} {p:Array Nat} (S:Sor b n m p) {i j:Nat} (hij:i < j) (h:j < n):p.getD i 0≠p.getD j 0:=by
  have hs:=S.size
  obtain ⟨l1,e1⟩:=List.getElem?_eq_some_iff.mp (getD_at (p:=p) (i:=i) (by omega))
  obtain ⟨l2,e2⟩:=List.getElem?_eq_some_iff.mp (getD_at (p:=p) (i:=j) (by omega))
  have:=List.pairwise_iff_getElem.mp S.nd i j l1 l2 hij
  rw [e1,e2] at this
  exact this
end L2
namespace L2
open PySem PySem.Spec PyProof.Rows PySem.W
abbrev Tri:=Addr × Str × Str
abbrev d0:Tri:=(0,⟨#[]⟩,⟨#[]⟩)
end L2
namespace L2
open PySem PySem.Spec PyProof.Rows
abbrev ts (x:List Nat):Str:=⟨x.toArray⟩
end L2
namespace L2
open PySem PyProof.Rows
section
variable {X:Cx} {e est:Expr} {te ts:TE} {p2 pos:Pos}
end
end L2
namespace L2
open PySem PySem.Spec PyProof.Rows
open AutoSeq1 (wpAny_loadPart')
section
variable {X:Cx} {l:Expr} {ta:TA} {elts:List Expr} {k:Nat} {tp p pos:Pos}
end
end L2
namespace L2
open PySem PySem.Spec PyProof.Rows PySem.W
section
variable {K:PySem.W.Frag} {x D:Addr} {ox:Obj}
end
end L2
namespace L2
open PySem PySem.Spec PySem.Calls PyProof.Rows PySem.W
end L2
namespace L2
open PySem PySem.Spec PyProof.Rows
end L2
namespace L2
end L2
namespace L2
open PySem PySem.Spec PyProof.Rows
section
variable {P:Program} {w:World} {A:Around} {E:Value→Shared→Prop} {s:Shared}
end
end L2
namespace L2
open PySem PySem.SeqAt PySem.Spec PyProof.Rows
end L2
namespace L2
open PySem PySem.Spec PyProof.Rows
end L2
namespace L2
open PySem PySem.Spec PyProof.Rows
end L2
namespace L2
open PySem PySem.Spec PyProof.Rows PySem.SeqAt
end L2
namespace L2
open PySem PySem.Spec PyProof.Rows PySem.SeqAt
theorem ps_eq {X:Cx} {a b:Stmt} {t:TS} (h:a=b) (p:PS X b t):PS X a t:=h ▸ p
end L2
namespace L2
open PySem PySem.Spec PyProof.Rows
inductive VDec (K:PySem.W.Frag) (H:Hp):Nat→V→V→Bool→Prop where
  | flat {n:Nat} {x y:V} (hx:flatV x=true) (hy:flatV y=true):VDec K H n x y (eqV x y)
  | same {n:Nat} {a:Addr}:VDec K H n (.ref a) (.ref a) true
  | lt {n:Nat} {a b:Addr} {xs ys:List V} (ha:SqL K H a xs) (hb:SqT K H b ys):VDec K H n (.ref a) (.ref b) false
  | tup {n:Nat} {a b:Addr} {xs ys:List V} (e:Nat→Bool) (hne:a≠b) (ha:SqT K H a xs) (hb:SqT K H b ys) (h:∀ (i:Nat) x y,xs[i]? = some x→ys[i]? = some y→VDec K H n x y (e i)):VDec K H (n+1) (.ref a) (.ref b) ((List.range (min xs.length ys.length)).all e && xs.length == ys.length)
section
variable {X:Cx} {pins:List (Addr × Obj)} {σ:St} {H:Hp} {s:Shared}
end
end L2
namespace L2
open PySem PySem.Spec PyProof.Rows
def rSortT (K:PySem.W.Frag):List V→Hp→VK→Prop:=fun xs H Q=>∃ (p:Addr) (b:Bool) (ss:List Str),xs=[.ref p]∧SqA K H p (ss.map V.str) b∧ss.length < 64 ∧
  ∀ l (ss':List Str),H l=none→ss'.Perm ss→sortedS ss'=true→Q (.ref l) (upd H l (.lst (ss'.map V.str)))
theorem call_sortT {X:Cx}:CallR X (.builtin "sorted") (rSortT X.K):=by
  intro pins s σ H xs us Q I r h
  obtain ⟨p,b,ss,rfl,hS,h64,q⟩:=h
  obtain ⟨u,rfl,ru⟩:=vals1 r
  cases ru
  obtain ⟨its,rv,pA,hz⟩:=I.seqA hS
  have hST:StrsAre its ss:=strsAre_of rv
  have hil:its.length=ss.length:=by rw [← rv.length,List.length_map]
  obtain ⟨T,o,hT',ho,hc,k,hd⟩:∃ T o,(T = "list"∨T = "tuple")∧s.heap.get? p=some o∧o.cls=.type T∧∃ k,o.data=.seq its.toArray k:=by
    cases b with
    | false =>
      obtain ⟨o,h1,h2,k,h3⟩:=(show s.heap.IsList p _ from pA)
      exact ⟨"list",o,.inl rfl,h1,h2,k,h3⟩
    | true =>
      obtain ⟨o,h1,h2,k,h3⟩:=(show IsTup s.heap p _ from pA)
      exact ⟨"tuple",o,.inr rfl,h1,h2,k,h3⟩
  have hbig:1000≤sizeLine:=by decide
  refine Calls.call_function_entry kind_sorted plain_sorted entry_sorted (args_sorted1 _) ?_
  unfold Builtin.«sorted»
  refine wpAny_bind (m:=checkCount "sorted" 1 1 _) (wpAny_pure ?_)
  refine wpAny_bind (wpAny_collect_seq p hT' ho hc hd (fun h' hkp=>?_) (by simp;omega))
  refine wpAny_bind (wpAny_newList ?_ (by simp;omega))
  have hoL:(h'.push { cls:=.type "list",data:=.seq its.toArray.toList.toArray }).get? h'.objs.size=some (seqObj "list" its.toArray 0):=Heap.get?_push_size _ rfl
  refine wpAny_bind (wpAny_holding (wpAny_call_entry slot_list_sort ⟨_,hoL,rfl⟩ entry_list_sort (list_sort_treeK strKind_oneLt hoL hST.keysOf (fun v₁ v₂ rest e=>keyKind_strs (by rw [← e];exact hST)) (by rw [hil];exact h64) fun st' a1 a2=>⟨_,rfl,?_⟩) (args_list_sort _)))
  obtain ⟨ss',b1,b2,b3⟩:=sorted_out_str hST a1 a2
  refine wpAny_pure ⟨_,rfl,?_⟩
  have keep:∀ b o,s.heap.get? b=some o→(sortedHeap (h'.push { cls:=.type "list",data:=.seq its.toArray.toList.toArray }) h'.objs.size its ((arrOf st').map (·.2))).get? b=some o∧b≠h'.objs.size:=fun b o e=>by
    have e1:=hkp b o e
    have lt:=Heap.lt_size e1
    refine ⟨?_,Nat.ne_of_lt lt⟩
    rw [sortedHeap_old (Nat.ne_of_lt lt) (by rw [Heap.size_push];exact Nat.lt_succ_of_lt lt)]
    exact Heap.get?_push_of_some _ e1
  have hn:H h'.objs.size=none:=by
    cases e:H h'.objs.size with
    | none=>rfl
    | some o =>
      obtain ⟨ob,e1⟩:=(I.hok _ _ e).there
      exact absurd (Heap.lt_size (hkp _ _ e1)) (Nat.lt_irrefl _)
  obtain ⟨n',hat'⟩:∃ n',(sortedHeap (h'.push { cls:=.type "list",data:=.seq its.toArray.toList.toArray }) h'.objs.size its ((arrOf st').map (·.2))).get? h'.objs.size=some (seqObj "list" ((arrOf st').map (·.2)) n'):=sortedHeap_at hoL
  have hsl:ss'.length≤sizeLine:=by
    have h1:=b2.length_eq
    rw [h1];omega
  refine ⟨.ref h'.objs.size,upd H h'.objs.size (.lst (ss'.map V.str)),?_,rfl,q _ _ hn b2 b3⟩
  have J:=Inv.laid2 (X:=X) (t':=s.toks) (o:=.lst (ss'.map V.str)) I keep hn ⟨by rw [List.length_map];exact hsl,((arrOf st').map (·.2)).toList,n',vals_strs b1,by rw [hat']⟩
  exact J
theorem call_sortTK {X:Cx} (K:PySem.W.Frag) (hK:X.K=K:=by rfl):CallR X (.builtin "sorted") (rSortT K):=by subst hK;exact call_sortT
end L2
namespace L2
open PySem PySem.Spec PyProof.Rows
structure ZipA (z TI TO i1 i2 l1 l2:Addr):Prop where
  TIz:TI≠z
  TOz:TO≠z
  i1z:i1≠z
  i2z:i2≠z
  TITO:TI≠TO
  TIi1:TI≠i1
  TIi2:TI≠i2
  TOi1:TO≠i1
  TOi2:TO≠i2
  i12:i1≠i2
  l1z:l1≠z
  l1TO:l1≠TO
  l1i2:l1≠i2
  l2z:l2≠z
  l2TO:l2≠TO
  l2i1:l2≠i1
structure SrcG (P:Program) (w:World) (it sq:Addr) (n:Nat) (Pv:Nat→Value→Prop) (St:Nat→Heap→Prop):Prop where
  keep:∀ k h h',St k h→(∀ b,b=it∨b=sq→∀ o,h.get? b=some o→h'.get? b=some o)→St k h'
  obj:∀ k h,St k h→∃ o vs,h.get? it=some o∧o.data=.fields vs
  item:∀ (A:Around) (E:Value→Shared→Prop) (k:Nat) (s:Shared) (Q:Value→Shared→Prop),St k s.heap→k < n →
    (∀ x h' tk,Pv k x→St (k+1) h'→Heap.SameBut it s.heap h'→s.toks≤tk→Q x { s with heap:=h',toks:=tk })→wpAny (model P w) A (Builtin.SmallTypes.nextOf (.ref it)) Q E s
  fin:∀ (A:Around) (E:Value→Shared→Prop) (k:Nat) (s:Shared) (Q:Value→Shared→Prop),A.handled=none→St k s.heap→k=n →
    (∀ h' e,Heap.ExtBut it s.heap h'→(∃ o,h'.get? e=some o∧o.cls=.type "StopIteration")→E (.ref e) { s with heap:=h' })→wpAny (model P w) A (Builtin.SmallTypes.nextOf (.ref it)) Q E s
theorem SrcG.off {P:Program} {w:World} {it sq:Addr} {n:Nat} {Pv:Nat→Value→Prop} {St:Nat→Heap→Prop} (S:SrcG P w it sq n Pv St) {k:Nat} {h h':Heap} {b:Addr} (st:St k h) (e:Heap.ExtBut b h h') (n1:it≠b) (n2:sq≠b):St k h' :=
  S.keep k h h' st fun c hc o ho=>e c o (by rcases hc with z | z <;> rw [z] <;> assumption) ho
theorem Src.g {P:Program} {w:World} {it sq:Addr} {xs:Array Value} {St:Nat→Heap→Prop} (S:Src P w it sq xs St):SrcG P w it sq xs.size (fun k v=>xs[k]? = some v) St where
  keep:=S.keep
  obj:=S.obj
  item:=fun A E k s Q st hk q=>S.item A E k s xs[k] Q st (by simp [hk]) fun h' st' u=>q _ h' s.toks (by simp [hk]) st' u (Nat.le_refl _)
  fin:=fun A E k s Q hA st hk q=>S.fin A E k s Q hA st (by rw [hk];simp) q
section
variable {P:Program} {w:World} {A:Around} {E:Value→Shared→Prop} {s:Shared} {z TI TO i1 i2 l1 l2:Addr} {n1 n2:Nat} {P1 P2:Nat→Value→Prop} {S1 S2:Nat→Heap→Prop}
end
abbrev sO (x:Str) (t:Tok):Obj:={ cls:=.type (strIterType x),data:=.fields #[.str x t,.int 0 0] }
end L2
namespace L2
open PySem PySem.Spec PyProof.Rows
end L2
namespace L2
open PySem PySem.Spec PyProof.Rows
theorem wpAny_loadIfAlive {M:Model} {A:Around} {E:Value→Shared→Prop} {s:Shared} {a:Addr} {Q:Option Obj→Shared→Prop} (h:Q (s.heap.get? a) s):wpAny M A (loadIfAlive a) Q E s:=fun _ _ _=>h
def IsZipP (h:Heap) (z TI TO T:Addr) (f:Bool):Prop:=h.get? z=some { cls:=.type "zip",dict:=none,data:=.fields #[rawInt T,.bool f,.bool false,.ref TI,.ref TO],slots:=#[] }
section
variable {P:Program} {w:World} {A:Around} {E:Value→Shared→Prop} {s:Shared} {z TI TO i1 i2 l1 l2:Addr} {n1 n2:Nat} {P1 P2:Nat→Value→Prop} {S1 S2:Nat→Heap→Prop}
theorem zipP_free {T0:Addr} {f0:Bool} {o0:Obj} {Q:Bool→Shared→Prop} (hz:IsZipP s.heap z TI TO T0 f0) (hT0:s.heap.get? T0=some o0) (q:∀ h',IsZipP h' z TI TO T0 true→Heap.SameBut z s.heap h'→Q false { s with heap:=h' }):wpAny (model P w) A (Builtin.SmallTypes.ownedTupleIsFree (.ref z)) Q E s:=by
  unfold Builtin.SmallTypes.ownedTupleIsFree
  refine wpAny_bind (wpAny_field hz rfl (x:=rawInt T0) rfl ?_)
  show wpAny _ _ (loadIfAlive (Int.toNat (T0:Int)) >>= _) _ _ _
  refine wpAny_bind (wpAny_loadIfAlive ?_)
  rw [Int.toNat_natCast,hT0]
  rw [if_neg (by simp)]
  show wpAny _ _ (field (.ref z) 1 >>= _) _ _ _
  refine wpAny_bind (wpAny_field hz rfl (x:=.bool f0) rfl ?_)
  cases f0 with
  | true =>
    rw [if_neg (by decide)]
    refine wpAny_pure ?_
    exact q s.heap hz (Heap.SameBut.refl _ _)
  | false =>
    rw [if_pos (by decide)]
    exact wpAny_bind (wpAny_setField_rec hz (by simp) fun g1 hz1 u1=>wpAny_pure (q g1 hz1 u1))
theorem zipP_item {k:Nat} {T0:Addr} {f0:Bool} {o0:Obj} {Q:Value→Shared→Prop} (c1:SrcG P w i1 l1 n1 P1 S1) (c2:SrcG P w i2 l2 n2 P2 S2) (D:ZipA z TI TO i1 i2 l1 l2) (hz:IsZipP s.heap z TI TO T0 f0) (hT0:s.heap.get? T0=some o0) (hTI:IsPair s.heap TI (.ref i1) (.ref i2))
    (st1:S1 k s.heap) (st2:S2 k s.heap) (hx:k < n1) (hy:k < n2)
    (q : ∀ (x y:Value) (h':Heap) (T:Addr) (tk:Nat),P1 k x→P2 k y→s.toks≤tk→IsZipP h' z TI TO T0 true→S1 (k+1) h'→S2 (k+1) h'→IsPair h' T x y→s.heap.objs.size≤T →
      (∀ c o,c≠z→c≠i1→c≠i2→s.heap.get? c=some o→h'.get? c=some o)→Q (.ref T) { s with heap:=h',toks:=tk }) :
    wpAny (model P w) A (Builtin.«zip.__next__» ⟨[.ref z],[]⟩) (fun fn s'=>∃ v,fn=.done (.ret v)∧Q v s') E s:=by
  show wpAny _ _ (field (.ref z) 2 >>= _) _ _ _
  refine wpAny_bind (wpAny_field hz rfl (x:=.bool false) rfl ?_)
  show wpAny _ _ (field (.ref z) 3 >>= _) _ _ _
  refine wpAny_bind (wpAny_field hz rfl (x:=.ref TI) rfl (wpAny_bind (wpAny_seqItems hTI rfl ?_)))
  show wpAny _ _ (Builtin.SmallTypes.ownedTupleIsFree (.ref z) >>= _) _ _ _
  refine wpAny_bind (zipP_free hz hT0 fun g1 hz1 u1=>?_)
  rw [if_neg (by decide)]
  have a1:=c1.off st1 u1.extBut D.i1z D.l1z
  have a2:=c2.off st2 u1.extBut D.i2z D.l2z
  simp only [List.forIn_toArray,List.forIn_cons,List.forIn_nil]
  refine wpAny_bind (wpAny_bind (wpAny_bind (wpAny_holding ?_)))
  show wpAny _ _ (Builtin.SmallTypes.nextOf (.ref i1) >>= _) _ _ _
  refine wpAny_bind (c1.item _ _ k { s with heap:=g1 } _ a1 hx fun x g2 t2 px b1 u2 ht2=>wpAny_pure (wpAny_pure ?_))
  have b2:=c2.off a2 u2.extBut D.i12.symm D.l2i1
  refine wpAny_bind (wpAny_bind (wpAny_holding ?_))
  show wpAny _ _ (Builtin.SmallTypes.nextOf (.ref i2) >>= _) _ _ _
  refine wpAny_bind (c2.item _ _ k { s with heap:=g2,toks:=t2 } _ b2 hy fun y g3 t3 py d2 u3 ht3=>wpAny_pure (wpAny_pure (wpAny_pure ?_)))
  have d1:=c1.off b1 u3.extBut D.i12 D.l1i2
  show wpAny _ _ (newTuple [x,y] >>= _) _ _ _
  refine wpAny_bind (wpAny_newTuple ?_)
  have sz:g3.objs.size=s.heap.objs.size:=by rw [u3.1,u2.1,u1.1]
  have hz3:IsZipP g3 z TI TO T0 true:=u3.extBut _ _ D.i2z.symm (u2.extBut _ _ D.i1z.symm hz1)
  refine wpAny_pure ⟨_,rfl,q x y (g3.push { cls:=.type "tuple",data:=.seq #[x,y] }) g3.objs.size t3 px py (Nat.le_trans ht2 ht3) (Heap.get?_push_of_some _ hz3) ?_ ?_ (Heap.get?_push_size _ rfl) (Nat.le_of_eq sz.symm) fun c o n1 n3 n4 e=>Heap.get?_push_of_some _ (u3.extBut _ _ n4 (u2.extBut _ _ n3 (u1.extBut _ _ n1 e)))⟩
  · exact c1.keep _ _ _ d1 fun c hc o ho=>Heap.get?_push_of_some _ ho
  · exact c2.keep _ _ _ d2 fun c hc o ho=>Heap.get?_push_of_some _ ho
theorem zipP_end {k:Nat} {T0:Addr} {f0:Bool} {o0:Obj} {Q:Fin→Shared→Prop} (hA:A.handled=none) (c1:SrcG P w i1 l1 n1 P1 S1) (c2:SrcG P w i2 l2 n2 P2 S2) (D:ZipA z TI TO i1 i2 l1 l2) (hz:IsZipP s.heap z TI TO T0 f0) (hT0:s.heap.get? T0=some o0) (hTI:IsPair s.heap TI (.ref i1) (.ref i2))
    (st1:S1 k s.heap) (st2:S2 k s.heap) (hn:k=n1∨(k < n1∧k=n2))
    (q:∀ h' e tk,s.toks≤tk→(∀ c o,c≠z→c≠i1→c≠i2→s.heap.get? c=some o→h'.get? c=some o)→(∃ o,h'.get? e=some o∧o.cls=.type "StopIteration")→E (.ref e) { s with heap:=h',toks:=tk }) :
    wpAny (model P w) A (Builtin.«zip.__next__» ⟨[.ref z],[]⟩) Q E s:=by
  show wpAny _ _ (field (.ref z) 2 >>= _) _ _ _
  refine wpAny_bind (wpAny_field hz rfl (x:=.bool false) rfl ?_)
  show wpAny _ _ (field (.ref z) 3 >>= _) _ _ _
  refine wpAny_bind (wpAny_field hz rfl (x:=.ref TI) rfl (wpAny_bind (wpAny_seqItems hTI rfl ?_)))
  show wpAny _ _ (Builtin.SmallTypes.ownedTupleIsFree (.ref z) >>= _) _ _ _
  refine wpAny_bind (zipP_free hz hT0 fun g1 hz1 u1=>?_)
  rw [if_neg (by decide)]
  have a1:=c1.off st1 u1.extBut D.i1z D.l1z
  have a2:=c2.off st2 u1.extBut D.i2z D.l2z
  simp only [List.forIn_toArray,List.forIn_cons,List.forIn_nil]
  refine wpAny_bind (wpAny_bind (wpAny_bind (wpAny_holding ?_)))
  show wpAny _ _ (Builtin.SmallTypes.nextOf (.ref i1) >>= _) _ _ _
  rcases hn with hx | ⟨hx,hy⟩
  · exact wpAny_bind (c1.fin _ _ k { s with heap:=g1 } _ hA a1 hx fun g2 e u2 he=>q g2 e s.toks (Nat.le_refl _) (fun c o n1 n3 _ ho=>u2 _ _ n3 (u1.extBut _ _ n1 ho)) he)
  · refine wpAny_bind (c1.item _ _ k { s with heap:=g1 } _ a1 hx fun x g2 t2 px b1 u2 ht2=>wpAny_pure (wpAny_pure ?_))
    have b2:=c2.off a2 u2.extBut D.i12.symm D.l2i1
    refine wpAny_bind (wpAny_bind (wpAny_holding ?_))
    show wpAny _ _ (Builtin.SmallTypes.nextOf (.ref i2) >>= _) _ _ _
    exact wpAny_bind (c2.fin _ _ k { s with heap:=g2,toks:=t2 } _ hA b2 hy fun g4 e u4 he=>q g4 e t2 ht2 (fun c o n1 n3 n4 ho=>u4 _ _ n4 (u2.extBut _ _ n3 (u1.extBut _ _ n1 ho))) he)
end
structure ZSt (S1 S2:Nat→Heap→Prop) (d z TI TO i1 i2:Addr) (k:Nat) (h:Heap):Prop where
  ti:IsPair h TI (.ref i1) (.ref i2)
  to_:∃ a b,IsPair h TO a b
  s1:S1 k h
  s2:S2 k h
  zz:IsZip h z TI TO .none∨∃ T f o,IsZipP h z TI TO T f∧h.get? T=some o∧T≠d∧T≠z∧T≠i1∧T≠i2
section
variable {P:Program} {w:World} {A:Around} {E:Value→Shared→Prop} {s:Shared} {d z TI TO i1 i2 l1 l2:Addr} {n1 n2:Nat} {P1 P2:Nat→Value→Prop} {S1 S2:Nat→Heap→Prop}
theorem ZSt.type {k:Nat} (st:ZSt S1 S2 d z TI TO i1 i2 k s.heap):s.TypeIs (.ref z) "zip":=by
  rcases st.zz with h | ⟨T,f,o,h,_⟩
  · exact ⟨_,h,rfl⟩
  · exact ⟨_,h,rfl⟩
end
end L2
namespace L2
open PySem PySem.Spec PyProof.Rows
theorem ZSt.keep {P:Program} {w:World} {d z TI TO i1 i2 l1 l2:Addr} {n1 n2 k:Nat} {P1 P2:Nat→Value→Prop} {S1 S2:Nat→Heap→Prop} {h h':Heap} (c1:SrcG P w i1 l1 n1 P1 S1) (c2:SrcG P w i2 l2 n2 P2 S2)
    (hd:d≠z∧d≠TI∧d≠TO∧d≠i1∧d≠i2∧d≠l1∧d≠l2) (st:ZSt S1 S2 d z TI TO i1 i2 k h) (e:∀ c o,c≠d→h.get? c=some o→h'.get? c=some o):ZSt S1 S2 d z TI TO i1 i2 k h':=by
  obtain ⟨ti,⟨a0,b0,to_⟩,s1,s2,zz⟩:=st
  obtain ⟨d1,d2,d3,d4,d5,d6,d7⟩:=hd
  refine ⟨e _ _ d2.symm ti,⟨_,_,e _ _ d3.symm to_⟩,c1.keep _ _ _ s1 fun b hb o ho=>e b o ?_ ho,c2.keep _ _ _ s2 fun b hb o ho=>e b o ?_ ho,?_⟩
  · rcases hb with z | z <;> rw [z]
    · exact d4.symm
    · exact d6.symm
  · rcases hb with z | z <;> rw [z]
    · exact d5.symm
    · exact d7.symm
  · rcases zz with hz | ⟨T0,f0,o0,hz,hT0,n0,r⟩
    · exact .inl (e _ _ d1.symm hz)
    · exact .inr ⟨T0,f0,o0,e _ _ d1.symm hz,e _ _ n0 hT0,n0,r⟩
end L2
namespace L2
open PySem PySem.Spec PyProof.Rows
end L2
namespace L2
open PySem PySem.Spec PyProof.Rows PySem.W
end L2
namespace L2
open PySem PySem.Spec PyProof.Rows
end L2
namespace L2
open PySem PySem.Spec PyProof.Rows
end L2
namespace L2
open PySem PySem.Spec PyProof.Rows
end L2
namespace L2
open PySem PySem.Spec PyProof.Rows
def sFrz (t:TS):TS:=fun D σ H=>∃ d kvs,H d=some (.dK kvs)∧∀ ob,t { nx:=fun σ' H'=>H' d=some (.frz ob (.dK kvs))∧D.nx σ' (upd H' d (.dK kvs)),rt:=fun v H'=>H' d=some (.frz ob (.dK kvs))∧D.rt v (upd H' d (.dK kvs)),bk:=fun σ' H'=>H' d=some (.frz ob (.dK kvs))∧D.bk σ' (upd H' d (.dK kvs)),ct:=fun σ' H'=>H' d=some (.frz ob (.dK kvs))∧D.ct σ' (upd H' d (.dK kvs)) } σ (upd H d (.frz ob (.dK kvs)))
theorem ps_frz {X:Cx} {st:Stmt} {t:TS} (h:PS X st t):PS X st (sFrz t):=by
  intro pins s σ H D I hq
  obtain ⟨d,kvs,hd,q⟩:=hq
  obtain ⟨ob,I1,back⟩:=I.freeze hd
  refine thn (h pins s σ _ _ I1 (q ob)) fun f s1 hf=>?_
  cases f with
  | next =>
    obtain ⟨σ',H',J,q1,q2⟩:=hf
    exact ⟨σ',_,back σ' H' s1 J q1,q2⟩
  | brk =>
    obtain ⟨σ',H',J,q1,q2⟩:=hf
    exact ⟨σ',_,back σ' H' s1 J q1,q2⟩
  | cont =>
    obtain ⟨σ',H',J,q1,q2⟩:=hf
    exact ⟨σ',_,back σ' H' s1 J q1,q2⟩
  | ret u =>
    obtain ⟨v,σ',H',J,r,q1,q2⟩:=hf
    exact ⟨v,σ',_,back σ' H' s1 J q1,r,q2⟩
theorem DGet.f {H:Hp} {a:Addr} {kvs:List (Key × V)} {k:Key} {ob:Obj} (e:H a=some (.frz ob (.dK kvs))):DGet H a (kV k) (valV kvs k):=.inl ⟨kvs,k,.inr ⟨ob,e⟩,rfl,rfl⟩
end L2
namespace L2
open PySem PySem.Spec PyProof.Rows
def rListD:List V→Hp→VK→Prop:=fun xs H Q=>∃ (d:Addr) (kvs:List (Key × V)) (ss:List Str),xs=[.ref d]∧H d=some (.dK kvs)∧kvs.map (·.1)=ss.map Sum.inr∧∀ l,H l=none→Q (.ref l) (upd H l (.lst (ss.map V.str)))
theorem call_list_dict {X:Cx} (hc:X.calm=true):CallR X (.type "list") rListD:=by
  intro pins s σ H xs us Q I r h
  obtain ⟨d,kvs,ss,rfl,hd,hk,q⟩:=h
  obtain ⟨u,rfl,ru⟩:=vals1 r
  cases ru
  obtain ⟨hz,lo,ws,rel,dd⟩:=dk_of I.hok hd
  obtain ⟨ep,hat⟩:=dd.dictAt
  have lw:kvs.length=ws.length:=Paired.length rel
  have hsl:ss.length=kvs.length:=by have:=congrArg List.length hk;simpa using this.symm
  refine PySem.W.kdl_call (PySem.W.kdl_dict (knd:=mixKind X.prog X.w) (kvs:=ws) (ep:=ep) lo) (I.ok.hd hc) hat (by rw [← lw];exact hz) fun h' tk acc' c' kk hl hI=>?_
  have hvs:Vals (ss.map V.str) acc'.toList:=by
    have hlen:acc'.toList.length=ws.length:=by rw [Array.length_toList];exact hI.1
    refine vals_by (by rw [List.length_map,hlen,← lw,hsl]) fun i x u e1 e2=>?_
    obtain ⟨k,x',e3,hkk⟩:=hI.2 i u (by rw [← Array.getElem?_toList];exact e2)
    obtain ⟨k',v',e4,e5⟩:=kv_at rel e3
    have e6:(kvs.map (·.1))[i]? = some k:=by rw [List.getElem?_map,e4];exact congrArg some e5
    rw [hk,List.getElem?_map] at e6
    rw [List.getElem?_map] at e1
    cases e7:ss[i]? with
    | none=>rw [e7] at e1;cases e1
    | some z =>
      rw [e7] at e1 e6
      cases e1
      have e8:Sum.inr z=k:=Option.some.inj e6
      subst e8
      rcases keyIs_shape (show keyIs (Sum.inr z) u=true from hkk) with ⟨_,_,q1,_⟩ | ⟨y,t,q1,q2⟩
      · cases q1
      · cases q1
        exact ⟨t,q2⟩
  exact ⟨.ref s.heap.objs.size,_,I.laid kk (Nat.le_refl _) (show ObjOk X.prog X.w _ h' _ (.lst _) from ⟨by rw [List.length_map,hsl];exact hz,acc'.toList,c',hvs,by simpa using hl⟩),rfl,q _ (I.hok.fresh (Nat.le_refl _))⟩
def rDictD:List V→Hp→VK→Prop:=fun xs H Q=>∃ (d:Addr) (kvs:List (Key × V)),xs=[.ref d]∧H d=some (.dK kvs)∧∀ l,H l=none→Q (.ref l) (upd H l (.dK kvs))
theorem call_dict_dict {X:Cx}:CallR X (.type "dict") rDictD:=by
  intro pins s σ H xs us Q I r h
  obtain ⟨d,kvs,rfl,hd,q⟩:=h
  obtain ⟨u,rfl,ru⟩:=vals1 r
  cases ru
  obtain ⟨hz,lo,ws,rel,dd⟩:=dk_of I.hok hd
  have lw:kvs.length=ws.length:=Paired.length rel
  refine kt_call_dict lo dd (by rw [← lw];exact hz) fun h' hD sb=>?_
  refine ⟨.ref s.heap.objs.size,upd H s.heap.objs.size (.dK kvs),I.laid (a:=s.heap.objs.size) (o:=.dK kvs) (t':=s.toks) (fun b o e=>?_) (Nat.le_refl _) ⟨hz,?_,ws,rel,hD⟩,rfl,q _ (I.hok.fresh (Nat.le_refl _))⟩
  · have hlt:=Heap.lt_size e
    exact (sb.2 b (Nat.ne_of_lt hlt)).trans (Heap.get?_push_of_some _ e)
  · exact beq_eq_false_iff_ne.mpr (Nat.ne_of_gt I.big)
end L2
namespace L2
open PySem PySem.Spec PyProof.Rows PySem.SeqAt
def rNeL0 (K:PySem.W.Frag):R2:=fun x y H Q=>∃ (a b:Addr) (xs:List V),x=.ref a∧y=.ref b∧SqL K H a xs∧SqL K H b []∧Q (.bl (!xs.isEmpty)) H
theorem op_neL0 {X:Cx} (hu:X.A.units+64 < cLine):OpR X (compareOp .NotEq) (rNeL0 X.K):=by
  intro pins s σ H x y u v Q I rx ry h
  obtain ⟨a,b,xs,rfl,rfl,ha,hb,q⟩:=h
  cases rx
  cases ry
  obtain ⟨i1,r1,p1,_⟩:=I.list ha
  obtain ⟨i2,r2,p2,_⟩:=I.list hb
  cases r2
  cases xs with
  | nil =>
    cases r1
    exact PySem.SeqAt.RcNeAt.lists (e:=fun _=>true) p1.isList p2.isList rfl (show X.A.units < cLine by omega) (fun j h1 h2=>absurd h2 (by simp)) X.prog X.w _ _ ⟨.bl false,H,I,rfl,q⟩
  | cons x xs =>
    cases r1
    exact PySem.SeqAt.RcNeAt.lists_lengths p1.isList p2.isList (by simp) (show X.A.units < cLine by omega) X.prog X.w _ _ ⟨.bl true,H,I,rfl,q⟩
theorem op_neL0K {X:Cx} (K:PySem.W.Frag) (hu:X.A.units+64 < cLine) (hK:X.K=K:=by rfl):OpR X (compareOp .NotEq) (rNeL0 K):=by subst hK;exact op_neL0 hu
end L2
namespace L2
open PySem PySem.SeqAt PySem.Spec PyProof.Rows
def isI (k:Int):Value→Bool
  | .int n _=>n == k
  | _=>false
end L2
namespace PySem
namespace F
end F
end PySem
namespace L2
open PySem PySem.Spec PyProof.Rows
structure ZPrs (h:Heap) (b0:Nat) (xs ys:Array Value) (ts:List Addr):Prop where
  at_:∀ (j:Nat) (T:Addr),ts[j]? = some T→∃ x y,IsPair h T x y∧xs[j]? = some x∧ys[j]? = some y
  lo:∀ T∈ts,b0≤T
  inc:ts.Pairwise (· < ·)
theorem ZPrs.lt {h:Heap} {b0:Nat} {xs ys:Array Value} {ts:List Addr} (p:ZPrs h b0 xs ys ts):∀ T∈ts,T < h.objs.size:=fun T hT=>by
  obtain ⟨j,hj⟩:=List.getElem?_of_mem hT
  obtain ⟨x,y,e,_⟩:=p.at_ j T hj
  exact Heap.lt_size e
theorem ZPrs.keep {h h':Heap} {b0:Nat} {xs ys:Array Value} {ts:List Addr} (p:ZPrs h b0 xs ys ts) (k:∀ b o,b0≤b→h.get? b=some o→h'.get? b=some o):ZPrs h' b0 xs ys ts :=
  ⟨fun j T e=>by
    obtain ⟨x,y,e1,r⟩:=p.at_ j T e
    exact ⟨x,y,k _ _ (p.lo T (List.mem_of_getElem? e)) e1,r⟩,p.lo,p.inc⟩
theorem ZPrs.snoc {h:Heap} {b0 n:Nat} {xs ys:Array Value} {ts:List Addr} {T:Addr} {x y:Value} (p:ZPrs h b0 xs ys ts) (hn:∀ t∈ts,t < n) (hT:n≤T) (hb:b0≤n) (e:IsPair h T x y) (ex:xs[ts.length]? = some x) (ey:ys[ts.length]? = some y):ZPrs h b0 xs ys (ts++[T]):=by
  refine ⟨fun j T' e'=>?_,fun T' hT'=>?_,List.pairwise_append.mpr ⟨p.inc,List.pairwise_singleton _ _,fun a ha b hb'=>?_⟩⟩
  · by_cases hj:j < ts.length
    · rw [List.getElem?_append_left hj] at e'
      exact p.at_ j T' e'
    · rw [List.getElem?_append_right (by omega)] at e'
      have hj2:j - ts.length=0:=by
        have:=(List.getElem?_eq_some_iff.mp e').1
        simp at this
        omega
      rw [hj2] at e'
      obtain rfl:T=T':=by simpa using e'
      have:j=ts.length:=by omega
      subst this
      exact ⟨x,y,e,ex,ey⟩
  · rcases List.mem_append.mp hT' with z | z
    · exact p.lo T' z
    · rw [List.mem_singleton.mp z];omega
  · rw [List.mem_singleton.mp hb']
    exact Nat.lt_of_lt_of_le (hn a ha) hT
section
variable {P:Program} {w:World}
end
section
variable {X:Cx} {pins:List (Addr × Obj)} {σ:St} {s:Shared}
end
end L2
namespace L2
open PySem PySem.Spec PyProof.Rows
end L2
namespace L2
open PySem PySem.Spec PyProof.Rows
end L2
namespace L2
open PySem PySem.Spec PyProof.Rows
end L2
namespace L2
open PySem PySem.Spec PyProof.Rows
abbrev IsZipV (h:Heap) (z TI TO:Addr) (v:Value) (f:Bool):Prop:=h.get? z=some { cls:=.type "zip",dict:=none,data:=.fields #[v,.bool f,.bool false,.ref TI,.ref TO],slots:=#[] }
def FreeV (h:Heap) (v:Value):Prop:=v=.none∨∃ T:Addr,v=rawInt T∧h.get? T=none
section
variable {P:Program} {w:World} {A:Around} {E:Value→Shared→Prop} {s:Shared} {z TI TO i1 i2 l1 l2:Addr} {n1 n2:Nat} {P1 P2:Nat→Value→Prop} {S1 S2:Nat→Heap→Prop}
theorem zipF_free {v0:Value} {f0:Bool} {Q:Bool→Shared→Prop} (hz:IsZipV s.heap z TI TO v0 f0) (hv:FreeV s.heap v0) (q:Q true s):wpAny (model P w) A (Builtin.SmallTypes.ownedTupleIsFree (.ref z)) Q E s:=by
  unfold Builtin.SmallTypes.ownedTupleIsFree
  rcases hv with rfl | ⟨T,rfl,hT⟩
  · exact wpAny_bind (wpAny_field hz rfl (x:=.none) rfl (wpAny_pure q))
  · refine wpAny_bind (wpAny_field hz rfl (x:=rawInt T) rfl ?_)
    show wpAny _ _ (loadIfAlive (Int.toNat (T:Int)) >>= _) _ _ _
    refine wpAny_bind (wpAny_loadIfAlive ?_)
    rw [Int.toNat_natCast,hT]
    rw [if_pos (show (none:Option Obj).isNone=true from rfl)]
    exact wpAny_pure q
theorem zipF_item {k:Nat} {a b v0:Value} {f0:Bool} {Q:Value→Shared→Prop} (c1:SrcG P w i1 l1 n1 P1 S1) (c2:SrcG P w i2 l2 n2 P2 S2) (D:ZipA z TI TO i1 i2 l1 l2) (hz:IsZipV s.heap z TI TO v0 f0) (hv0:FreeV s.heap v0) (hTI:IsPair s.heap TI (.ref i1) (.ref i2)) (hTO:IsPair s.heap TO a b)
    (st1:S1 k s.heap) (st2:S2 k s.heap) (hx:k < n1) (hy:k < n2)
    (q : ∀ (x y:Value) (h':Heap) (T:Addr) (tk:Nat),P1 k x→P2 k y→s.toks≤tk→IsZip h' z TI TO (rawInt T)→IsPair h' TO x y→S1 (k+1) h'→S2 (k+1) h'→IsPair h' T x y→s.heap.objs.size≤T→T≠z→T≠TO→T≠i1→T≠i2 →
      (∀ c o,c≠z→c≠TO→c≠i1→c≠i2→s.heap.get? c=some o→h'.get? c=some o)→Q (.ref T) { s with heap:=h',toks:=tk }) :
    wpAny (model P w) A (Builtin.«zip.__next__» ⟨[.ref z],[]⟩) (fun fn s'=>∃ v,fn=.done (.ret v)∧Q v s') E s:=by
  show wpAny _ _ (field (.ref z) 2 >>= _) _ _ _
  refine wpAny_bind (wpAny_field hz rfl (x:=.bool false) rfl ?_)
  show wpAny _ _ (field (.ref z) 3 >>= _) _ _ _
  refine wpAny_bind (wpAny_field hz rfl (x:=.ref TI) rfl (wpAny_bind (wpAny_seqItems hTI rfl ?_)))
  show wpAny _ _ (Builtin.SmallTypes.ownedTupleIsFree (.ref z) >>= _) _ _ _
  refine wpAny_bind (zipF_free hz hv0 ?_)
  simp only [if_true]
  refine wpAny_bind (wpAny_rule (wpAny_bind (wpAny_field hz rfl (x:=.ref TO) rfl ?_)))
  refine wpAny_bind (wpAny_setField_rec hz (by simp) fun g1 hz1 u1=>wpAny_bind ?_)
  replace hz1:IsZipV g1 z TI TO .ellipsis f0:=hz1
  simp only [List.zipIdx_cons,List.zipIdx_nil,List.forIn_cons,List.forIn_nil]
  have a1:=c1.off st1 u1.extBut D.i1z D.l1z
  have a2:=c2.off st2 u1.extBut D.i2z D.l2z
  refine wpAny_bind (wpAny_bind (wpAny_onRaise ?_))
  show wpAny _ _ (Builtin.SmallTypes.nextOf (.ref i1) >>= _) _ _ _
  refine wpAny_bind (c1.item _ _ k { s with heap:=g1 } _ a1 hx fun x g2 t2 px b1 u2 ht2=>wpAny_pure ?_)
  have b2:=c2.off a2 u2.extBut D.i12.symm D.l2i1
  have hT2:IsPair g2 TO a b:=u2.extBut _ _ D.TOi1 (u1.extBut _ _ D.TOz hTO)
  refine wpAny_bind (wpAny_seqItems hT2 rfl (wpAny_bind (wpAny_updateSeq_pair hT2 fun g3 hT3 u3=>?_)))
  replace hT3:IsPair g3 TO x b:=hT3
  refine wpAny_bind (wpAny_letGo (wpAny_pure ?_))
  have d1:=c1.off b1 u3.extBut D.TOi1.symm D.l1TO
  have d2:=c2.off b2 u3.extBut D.TOi2.symm D.l2TO
  refine wpAny_bind (wpAny_bind (wpAny_onRaise ?_))
  show wpAny _ _ (Builtin.SmallTypes.nextOf (.ref i2) >>= _) _ _ _
  refine wpAny_bind (c2.item _ _ k { s with heap:=g3,toks:=t2 } _ d2 hy fun y g4 t4 py e2 u4 ht4=>wpAny_pure ?_)
  have e1:=c1.off d1 u4.extBut D.i12 D.l1i2
  have hT4:IsPair g4 TO x b:=u4.extBut _ _ D.TOi2 hT3
  refine wpAny_bind (wpAny_seqItems hT4 rfl (wpAny_bind (wpAny_updateSeq_pair hT4 fun g5 hT5 u5=>?_)))
  replace hT5:IsPair g5 TO x y:=hT5
  refine wpAny_bind (wpAny_letGo (wpAny_pure (wpAny_pure ?_)))
  have f1:=c1.off e1 u5.extBut D.TOi1.symm D.l1TO
  have f2:=c2.off e2 u5.extBut D.TOi2.symm D.l2TO
  refine wpAny_bind (wpAny_seqItems hT5 rfl (wpAny_bind (wpAny_newTuple ?_)))
  have sz:g5.objs.size=s.heap.objs.size:=by rw [u5.1,u4.1,u3.1,u2.1,u1.1]
  have hz5:IsZipV g5 z TI TO .ellipsis f0:=u5.extBut _ _ D.TOz.symm (u4.extBut _ _ D.i2z.symm (u3.extBut _ _ D.TOz.symm (u2.extBut _ _ D.i1z.symm hz1)))
  have k5:∀ c o,c≠z→c≠TO→c≠i1→c≠i2→s.heap.get? c=some o→g5.get? c=some o:=fun c o n1 n2 n3 n4 e =>
    u5.extBut _ _ n2 (u4.extBut _ _ n4 (u3.extBut _ _ n2 (u2.extBut _ _ n3 (u1.extBut _ _ n1 e))))
  have zl:z < g5.objs.size:=Heap.lt_size hz5
  show wpAny _ _ (Builtin.SmallTypes.ownedTupleHandOut (.ref z) (.ref g5.objs.size) >>= _) _ _ _
  unfold Builtin.SmallTypes.ownedTupleHandOut
  have hz6:IsZipV (g5.push { cls:=.type "tuple",data:=.seq #[x,y] }) z TI TO .ellipsis f0:=Heap.get?_push_of_some _ hz5
  refine wpAny_bind (wpAny_bind (wpAny_setField_rec hz6 (by simp) fun g7 hz7 u7=>?_))
  replace hz7:IsZipV g7 z TI TO (rawInt g5.objs.size) f0:=hz7
  refine wpAny_setField_rec hz7 (by simp) fun g8 hz8 u8=>?_
  replace hz8:IsZip g8 z TI TO (rawInt g5.objs.size):=hz8
  have up:∀ c o,c≠z→g5.get? c=some o→g8.get? c=some o:=fun c o n e=>u8.extBut _ _ n (u7.extBut _ _ n (Heap.get?_push_of_some _ e))
  have hN:IsPair g8 g5.objs.size x y:=u8.extBut _ _ (Nat.ne_of_gt zl) (u7.extBut _ _ (Nat.ne_of_gt zl) (Heap.get?_push_size _ rfl))
  have o1:g5.objs.size≠i1:=by obtain ⟨o,_,ho,_⟩:=c1.obj _ _ f1;exact Nat.ne_of_gt (Heap.lt_size ho)
  have o2:g5.objs.size≠i2:=by obtain ⟨o,_,ho,_⟩:=c2.obj _ _ f2;exact Nat.ne_of_gt (Heap.lt_size ho)
  refine wpAny_pure ⟨_,rfl,q x y g8 g5.objs.size t4 px py (Nat.le_trans ht2 ht4) hz8 (up _ _ D.TOz hT5) ?_ ?_ hN (Nat.le_of_eq sz.symm) (Nat.ne_of_gt zl) (Nat.ne_of_gt (Heap.lt_size hT5)) o1 o2 fun c o n1 n2 n3 n4 e=>up c o n1 (k5 c o n1 n2 n3 n4 e)⟩
  · exact c1.keep _ _ _ f1 fun c hc o ho=>up c o (by rcases hc with q | q <;> rw [q] <;> first | exact D.i1z | exact D.l1z) ho
  · exact c2.keep _ _ _ f2 fun c hc o ho=>up c o (by rcases hc with q | q <;> rw [q] <;> first | exact D.i2z | exact D.l2z) ho
theorem zipF_end {k:Nat} {a b v0:Value} {f0:Bool} {Q:Fin→Shared→Prop} (hA:A.handled=none) (c1:SrcG P w i1 l1 n1 P1 S1) (c2:SrcG P w i2 l2 n2 P2 S2) (D:ZipA z TI TO i1 i2 l1 l2) (hz:IsZipV s.heap z TI TO v0 f0) (hv0:FreeV s.heap v0) (hTI:IsPair s.heap TI (.ref i1) (.ref i2)) (hTO:IsPair s.heap TO a b)
    (st1:S1 k s.heap) (st2:S2 k s.heap) (hn:k=n1∨(k < n1∧k=n2))
    (q:∀ h' e tk,s.toks≤tk→(∀ c o,c≠z→c≠TO→c≠i1→c≠i2→s.heap.get? c=some o→h'.get? c=some o)→(∃ o,h'.get? e=some o∧o.cls=.type "StopIteration")→E (.ref e) { s with heap:=h',toks:=tk }) :
    wpAny (model P w) A (Builtin.«zip.__next__» ⟨[.ref z],[]⟩) Q E s:=by
  show wpAny _ _ (field (.ref z) 2 >>= _) _ _ _
  refine wpAny_bind (wpAny_field hz rfl (x:=.bool false) rfl ?_)
  show wpAny _ _ (field (.ref z) 3 >>= _) _ _ _
  refine wpAny_bind (wpAny_field hz rfl (x:=.ref TI) rfl (wpAny_bind (wpAny_seqItems hTI rfl ?_)))
  show wpAny _ _ (Builtin.SmallTypes.ownedTupleIsFree (.ref z) >>= _) _ _ _
  refine wpAny_bind (zipF_free hz hv0 ?_)
  simp only [if_true]
  refine wpAny_bind (wpAny_rule (wpAny_bind (wpAny_field hz rfl (x:=.ref TO) rfl ?_)))
  refine wpAny_bind (wpAny_setField_rec hz (by simp) fun g1 hz1 u1=>wpAny_bind ?_)
  replace hz1:IsZipV g1 z TI TO .ellipsis f0:=hz1
  simp only [List.zipIdx_cons,List.zipIdx_nil,List.forIn_cons,List.forIn_nil]
  have a1:=c1.off st1 u1.extBut D.i1z D.l1z
  have a2:=c2.off st2 u1.extBut D.i2z D.l2z
  refine wpAny_bind (wpAny_bind (wpAny_onRaise ?_))
  show wpAny _ _ (Builtin.SmallTypes.nextOf (.ref i1) >>= _) _ _ _
  rcases hn with hx | ⟨hx,hy⟩
  · refine wpAny_bind (c1.fin _ _ k { s with heap:=g1 } _ hA a1 hx fun g2 e u2 he=>?_)
    obtain ⟨oe,hoe,ce⟩:=he
    have hz2:IsZipV g2 z TI TO .ellipsis f0:=u2 _ _ D.i1z.symm hz1
    have ez:e≠z:=fun q=>by subst q;rw [hz2] at hoe;cases hoe;simp at ce
    exact wpAny_setField_rec hz2 (by simp) fun g3 _ u3=>q g3 e s.toks (Nat.le_refl _) (fun c o n1 _ n3 _ ho=>u3.extBut _ _ n1 (u2 _ _ n3 (u1.extBut _ _ n1 ho))) ⟨oe,u3.extBut _ _ ez hoe,ce⟩
  · refine wpAny_bind (c1.item _ _ k { s with heap:=g1 } _ a1 hx fun x g2 t2 px b1 u2 ht2=>wpAny_pure ?_)
    have b2:=c2.off a2 u2.extBut D.i12.symm D.l2i1
    have hT2:IsPair g2 TO a b:=u2.extBut _ _ D.TOi1 (u1.extBut _ _ D.TOz hTO)
    refine wpAny_bind (wpAny_seqItems hT2 rfl (wpAny_bind (wpAny_updateSeq_pair hT2 fun g3 hT3 u3=>?_)))
    refine wpAny_bind (wpAny_letGo (wpAny_pure ?_))
    have d2:=c2.off b2 u3.extBut D.TOi2.symm D.l2TO
    refine wpAny_bind (wpAny_bind (wpAny_onRaise ?_))
    show wpAny _ _ (Builtin.SmallTypes.nextOf (.ref i2) >>= _) _ _ _
    refine wpAny_bind (c2.fin _ _ k { s with heap:=g3,toks:=t2 } _ hA d2 hy fun g4 e u4 he=>?_)
    obtain ⟨oe,hoe,ce⟩:=he
    have hz4:IsZipV g4 z TI TO .ellipsis f0:=u4 _ _ D.i2z.symm (u3.extBut _ _ D.TOz.symm (u2.extBut _ _ D.i1z.symm hz1))
    have ez:e≠z:=fun q=>by subst q;rw [hz4] at hoe;cases hoe;simp at ce
    exact wpAny_setField_rec hz4 (by simp) fun g5 _ u5=>q g5 e t2 ht2 (fun c o n1 n2 n3 n4 ho=>u5.extBut _ _ n1 (u4 _ _ n4 (u3.extBut _ _ n2 (u2.extBut _ _ n3 (u1.extBut _ _ n1 ho))))) ⟨oe,u5.extBut _ _ ez hoe,ce⟩
structure ZQ (S1 S2:Nat→Heap→Prop) (z TI TO i1 i2:Addr) (k:Nat) (h:Heap):Prop where
  ti:IsPair h TI (.ref i1) (.ref i2)
  to_:∃ a b,IsPair h TO a b
  s1:S1 k h
  s2:S2 k h
  zz:∃ v f,IsZipV h z TI TO v f∧(v=.none∨∃ T:Addr,v=rawInt T)
theorem zq_item {k:Nat} {Q:Value→Shared→Prop} (c1:SrcG P w i1 l1 n1 P1 S1) (c2:SrcG P w i2 l2 n2 P2 S2) (D:ZipA z TI TO i1 i2 l1 l2) (st:ZQ S1 S2 z TI TO i1 i2 k s.heap) (hx:k < n1) (hy:k < n2)
    (q : ∀ (x y:Value) (h':Heap) (T:Addr) (tk:Nat),P1 k x→P2 k y→IsPair h' T x y→s.heap.objs.size≤T→ZQ S1 S2 z TI TO i1 i2 (k+1) h' →
      (∀ c o,c≠z→c≠TO→c≠i1→c≠i2→s.heap.get? c=some o→h'.get? c=some o)→Q (.ref T) { s with heap:=h',toks:=tk }) :
    wpAny (model P w) A (Builtin.SmallTypes.nextOf (.ref z)) Q E s:=by
  obtain ⟨ti,⟨a0,b0,to_⟩,s1,s2,v,f,hz,hv⟩:=st
  have hT:s.TypeIs (.ref z) "zip":=⟨_,hz,rfl⟩
  have key:FreeV s.heap v∨∃ (T:Addr) (o:Obj),v=rawInt T∧s.heap.get? T=some o:=by
    rcases hv with rfl | ⟨T,rfl⟩
    · exact .inl (.inl rfl)
    · cases e:s.heap.get? T with
      | none=>exact .inl (.inr ⟨T,rfl,e⟩)
      | some o=>exact .inr ⟨T,o,rfl,e⟩
  unfold Builtin.SmallTypes.nextOf
  rcases key with hf | ⟨T0,o0,rfl,hT0⟩
  · refine wpAny_bind (wpAny_callSpecial?_slot (name:=Str.ofString "__next__") hT F.slot_zip_next (wpAny_call_entry F.slot_zip_next hT F.entry_zip_next
      (zipF_item c1 c2 D hz hf ti to_ s1 s2 hx hy fun x y h' T tk px py htk y1 y2 y3 y4 y5 y6 y7 y8 y9 y10 kk=>wpAny_pure ?_) (F.args_zip_next_1 _)))
    exact q x y h' T tk px py y5 y6 ⟨kk _ _ D.TIz D.TITO D.TIi1 D.TIi2 ti,⟨_,_,y2⟩,y3,y4,_,_,y1,.inr ⟨T,rfl⟩⟩ kk
  · refine wpAny_bind (wpAny_callSpecial?_slot (name:=Str.ofString "__next__") hT F.slot_zip_next (wpAny_call_entry F.slot_zip_next hT F.entry_zip_next
      (zipP_item c1 c2 D hz hT0 ti s1 s2 hx hy fun x y h' T tk px py htk y1 y3 y4 y5 y6 kk=>wpAny_pure ?_) (F.args_zip_next_1 _)))
    exact q x y h' T tk px py y5 y6 ⟨kk _ _ D.TIz D.TIi1 D.TIi2 ti,⟨_,_,kk _ _ D.TOz D.TOi1 D.TOi2 to_⟩,y3,y4,_,_,y1,.inr ⟨T0,rfl⟩⟩ fun c o m1 _ m3 m4 e=>kk c o m1 m3 m4 e
theorem zq_done {k:Nat} {Q:Value→Shared→Prop} (hA:A.handled=none) (c1:SrcG P w i1 l1 n1 P1 S1) (c2:SrcG P w i2 l2 n2 P2 S2) (D:ZipA z TI TO i1 i2 l1 l2) (st:ZQ S1 S2 z TI TO i1 i2 k s.heap) (hn:k=n1∨(k < n1∧k=n2))
    (q:∀ (h':Heap) (e:Addr) (tk:Nat),(∀ c o,c≠z→c≠TO→c≠i1→c≠i2→s.heap.get? c=some o→h'.get? c=some o)→(∃ o,h'.get? e=some o∧o.cls=.type "StopIteration")→E (.ref e) { s with heap:=h',toks:=tk }) :
    wpAny (model P w) A (Builtin.SmallTypes.nextOf (.ref z)) Q E s:=by
  obtain ⟨ti,⟨a0,b0,to_⟩,s1,s2,v,f,hz,hv⟩:=st
  have hT:s.TypeIs (.ref z) "zip":=⟨_,hz,rfl⟩
  have key:FreeV s.heap v∨∃ (T:Addr) (o:Obj),v=rawInt T∧s.heap.get? T=some o:=by
    rcases hv with rfl | ⟨T,rfl⟩
    · exact .inl (.inl rfl)
    · cases e:s.heap.get? T with
      | none=>exact .inl (.inr ⟨T,rfl,e⟩)
      | some o=>exact .inr ⟨T,o,rfl,e⟩
  unfold Builtin.SmallTypes.nextOf
  rcases key with hf | ⟨T0,o0,rfl,hT0⟩
  · exact wpAny_bind (wpAny_callSpecial?_slot (name:=Str.ofString "__next__") hT F.slot_zip_next (wpAny_call_entry F.slot_zip_next hT F.entry_zip_next
      (zipF_end hA c1 c2 D hz hf ti to_ s1 s2 hn fun h' e tk htk kk he=>q h' e tk kk he) (F.args_zip_next_1 _)))
  · exact wpAny_bind (wpAny_callSpecial?_slot (name:=Str.ofString "__next__") hT F.slot_zip_next (wpAny_call_entry F.slot_zip_next hT F.entry_zip_next
      (zipP_end hA c1 c2 D hz hT0 ti s1 s2 hn fun h' e tk htk kk he=>q h' e tk (fun c o m1 _ m3 m4 e=>kk c o m1 m3 m4 e) he) (F.args_zip_next_1 _)))
theorem enz_item {k:Nat} {e:Addr} {old:Value} {Q:Option Value→Shared→Prop} (c1:SrcG P w i1 l1 n1 P1 S1) (c2:SrcG P w i2 l2 n2 P2 S2) (D:ZipA z TI TO i1 i2 l1 l2) (he:IsEnum s.heap e z k old) (st:ZQ S1 S2 z TI TO i1 i2 k s.heap) (hx:k < n1) (hy:k < n2)
    (ne:e≠z∧e≠TI∧e≠TO∧e≠i1∧e≠i2∧e≠l1∧e≠l2)
    (q : ∀ (x y:Value) (h':Heap) (T O:Addr) (u tk:Nat),P1 k x→P2 k y→IsPair h' T x y→IsPair h' O (.int k u) (.ref T)→s.heap.objs.size≤T→T < O→IsEnumOut h' e z ((k:Int)+1) (.ref T) O→ZQ S1 S2 z TI TO i1 i2 (k+1) h' →
      (∀ c o,c≠e→c≠z→c≠TO→c≠i1→c≠i2→s.heap.get? c=some o→h'.get? c=some o)→Q (some (.ref O)) { s with heap:=h',toks:=tk }) :
    wpAny (model P w) A (pyNext (.ref e)) Q E s:=by
  have hT:s.TypeIs (.ref e) "enumerate":=⟨_,he,rfl⟩
  unfold pyNext
  refine wpAny_bind (wpAny_attempt (wpAny_callSpecial?_slot (name:=Str.ofString "__next__") hT F.slot_enumerate_next
    (wpAny_call_entry F.slot_enumerate_next hT F.entry_enumerate_next ?_ (F.args_enumerate_next_1 _))))
  show wpAny _ _ (field (.ref e) 2 >>= _) _ _ _
  refine wpAny_bind (wpAny_field he rfl (x:=.ref z) rfl ?_)
  refine wpAny_bind (zq_item c1 c2 D st hx hy fun x y h₁ T tk px py hT1 hTs st1 kk=>?_)
  have he₁:IsEnum h₁ e z k old:=kk _ _ ne.1 ne.2.2.1 ne.2.2.2.1 ne.2.2.2.2.1 he
  show wpAny _ _ (field (.ref e) 3 >>= _) _ _ { s with heap:=h₁,toks:=tk }
  refine wpAny_bind (wpAny_field he₁ rfl (x:=rawInt k) rfl ?_)
  show wpAny _ _ (field (.ref e) 4 >>= _) _ _ { s with heap:=h₁,toks:=tk }
  refine wpAny_bind (wpAny_field he₁ rfl (x:=.none) rfl ?_)
  show wpAny _ _ (mkInt k >>= _) _ _ { s with heap:=h₁,toks:=tk }
  refine wpAny_bind (wpAny_mkInt ?_)
  show wpAny _ _ (setField (.ref e) 3 (rawInt ((k:Int)+1)) >>= _) _ _ { s with heap:=h₁,toks:=tk+1 }
  refine wpAny_bind (wpAny_setField_rec he₁ (by simp) fun h₂ he₂ hs₂=>?_)
  replace hs₂:Heap.SameBut e h₁ h₂:=hs₂
  replace he₂:IsEnum h₂ e z ((k:Int)+1) old:=he₂
  show wpAny _ _ (setField (.ref e) 4 .none >>= _) _ _ { s with heap:=h₂,toks:=tk+1 }
  refine wpAny_bind (wpAny_setField_rec he₂ (by simp) fun h₃ he₃ hs₃=>?_)
  replace hs₃:Heap.SameBut e h₂ h₃:=hs₃
  replace he₃:IsEnum h₃ e z ((k:Int)+1) old:=he₃
  show wpAny _ _ (newTuple [.int k tk,.ref T] >>= _) _ _ { s with heap:=h₃,toks:=tk+1 }
  refine wpAny_bind (wpAny_newTuple ?_)
  have he₄:IsEnum (h₃.push { cls:=.type "tuple",data:=.seq #[.int k tk,.ref T] }) e z ((k:Int)+1) old:=Heap.get?_push_of_some _ he₃
  have eTe:T≠e:=Nat.ne_of_gt (Nat.lt_of_lt_of_le (Heap.lt_size he) hTs)
  have hT3:IsPair h₃ T x y:=hs₃.extBut _ _ eTe (hs₂.extBut _ _ eTe hT1)
  have hTO:T < h₃.objs.size:=Heap.lt_size hT3
  have hOe:h₃.objs.size≠e:=Nat.ne_of_gt (Heap.lt_size he₃)
  show wpAny _ _ (Builtin.SmallTypes.ownedTupleIsFree (.ref e) >>= _) _ _ _
  refine wpAny_bind ?_
  unfold Builtin.SmallTypes.ownedTupleIsFree
  refine wpAny_bind (wpAny_field he₄ rfl (x:=.none) rfl (wpAny_pure ?_))
  simp only [if_true]
  refine wpAny_bind (wpAny_rule ?_)
  refine wpAny_bind (wpAny_field he₄ rfl (x:=old) rfl ?_)
  refine wpAny_bind (wpAny_setField_rec he₄ (by simp) fun h₅ he₅ hs₅=>?_)
  replace he₅:IsEnum h₅ e z ((k:Int)+1) (.ref T):=he₅
  show wpAny _ _ (Builtin.SmallTypes.ownedTupleHandOut (.ref e) (.ref h₃.objs.size) >>= _) _ _ _
  refine wpAny_bind ?_
  unfold Builtin.SmallTypes.ownedTupleHandOut
  refine wpAny_bind (wpAny_setField_rec he₅ (by simp) fun h₆ he₆ hs₆=>?_)
  replace he₆:IsEnumOut h₆ e z ((k:Int)+1) (.ref T) h₃.objs.size:=he₆
  refine wpAny_setField_rec he₆ (by simp) fun h₇ he₇ hs₇=>?_
  replace he₇:IsEnumOut h₇ e z ((k:Int)+1) (.ref T) h₃.objs.size:=he₇
  have up:∀ c o,c≠e→h₁.get? c=some o→h₇.get? c=some o:=fun c o n ho =>
    hs₇.extBut _ _ n (hs₆.extBut _ _ n (hs₅.extBut _ _ n (Heap.get?_push_of_some _ (hs₃.extBut _ _ n (hs₂.extBut _ _ n ho)))))
  refine wpAny_bind (wpAny_letGo (wpAny_pure ⟨_,rfl,wpAny_pure (q x y h₇ T h₃.objs.size tk _ px py (up _ _ eTe hT1) ?_ hTs hTO he₇ ?_ fun c o n1 n2 n3 n4 n5 ho=>up c o n1 (kk c o n2 n3 n4 n5 ho))⟩))
  · exact hs₇.extBut _ _ hOe (hs₆.extBut _ _ hOe (hs₅.extBut _ _ hOe (Heap.get?_push_size _ rfl)))
  · obtain ⟨ti,⟨a0,b0,to_⟩,z1,z2,v,f,hz,hv⟩:=st1
    exact ⟨up _ _ ne.2.1.symm ti,⟨_,_,up _ _ ne.2.2.1.symm to_⟩,c1.keep _ _ _ z1 (fun c hc o ho=>up c o (hc.elim (fun z=>z ▸ ne.2.2.2.1.symm) fun z=>z ▸ ne.2.2.2.2.2.1.symm) ho),c2.keep _ _ _ z2 (fun c hc o ho=>up c o (hc.elim (fun z=>z ▸ ne.2.2.2.2.1.symm) fun z=>z ▸ ne.2.2.2.2.2.2.symm) ho),v,f,up _ _ ne.1.symm hz,hv⟩
theorem enz_done {k:Nat} {e:Addr} {old:Value} {Q:Option Value→Shared→Prop} (hA:A.in1.handled=none) (c1:SrcG P w i1 l1 n1 P1 S1) (c2:SrcG P w i2 l2 n2 P2 S2) (D:ZipA z TI TO i1 i2 l1 l2) (he:IsEnum s.heap e z k old) (st:ZQ S1 S2 z TI TO i1 i2 k s.heap) (hn:k=n1∨(k < n1∧k=n2))
    (q:∀ (h':Heap) (tk:Nat),(∀ c o,c≠z→c≠TO→c≠i1→c≠i2→s.heap.get? c=some o→h'.get? c=some o)→Q none { s with heap:=h',toks:=tk }) :
    wpAny (model P w) A (pyNext (.ref e)) Q E s:=by
  have hT:s.TypeIs (.ref e) "enumerate":=⟨_,he,rfl⟩
  unfold pyNext
  refine wpAny_bind (wpAny_attempt (wpAny_callSpecial?_slot (name:=Str.ofString "__next__") hT F.slot_enumerate_next
    (wpAny_call_entry F.slot_enumerate_next hT F.entry_enumerate_next ?_ (F.args_enumerate_next_1 _))))
  show wpAny _ _ (field (.ref e) 2 >>= _) _ _ _
  refine wpAny_bind (wpAny_field he rfl (x:=.ref z) rfl ?_)
  refine wpAny_bind (zq_done hA c1 c2 D st hn fun h' x tk kk hx'=>?_)
  obtain ⟨o,ho,hc⟩:=hx'
  refine wpAny_bind (wpAny_isInstance (T:="StopIteration") (b:=true) ⟨o,ho,hc⟩ isSubtype_stop ?_)
  exact wpAny_pure (q h' tk kk)
end
end L2
namespace L2
open PySem PySem.Spec PyProof.Rows
open AutoSeq1 (wpAny_loadPart')
abbrev zObj (TI TO:Addr):Obj:={ cls:=.type "zip",dict:=none,data:=.fields #[.none,.bool false,.bool false,.ref TI,.ref TO],slots:=#[] }
theorem meets_enumZ (z TI TO:Addr) :
    Meets (Builtin.«enumerate.__new__» ⟨[.type "enumerate",.ref z],[]⟩) (fun _ R s=>s.heap.get? z=some (zObj TI TO) ∧
      R (.ok (.ret (.ref s.heap.objs.size)))
        { s with heap:=s.heap.push { cls:=.type "enumerate",data:=.fields #[.none,.bool false,.ref z,rawInt 0,.none,.none] } }) :=
  .of_wp fun prog w A R s h=>by
    obtain ⟨hp,g,d,tk,os⟩:=s;obtain ⟨hl,h⟩:=h
    have hsub:=sub_enumerate
    have hL:IsZip (Shared.heap ⟨hp,g,d,tk,os⟩) z TI TO .none:=hl
    wp_walk using wpAny_loadPart' hl
    refine wpAny_stack_any fun st=>wpAny_pure ?_
    split
    · rename_i c _ _ _ _ _
      cases (c == Value.type "enumerate")
      · wp_walk using wpAny_loadPart' hl,wpAny_pyIter_zip hL
        exact ⟨_,rfl,h⟩
      · wp_walk using wpAny_loadPart' hl,wpAny_pyIter_zip hL
        exact ⟨_,rfl,h⟩
    · wp_walk using wpAny_loadPart' hl,wpAny_pyIter_zip hL
      exact ⟨_,rfl,h⟩
theorem call_enumZ {P:Program} {w:World} {A:Around} {E:Value→Shared→Prop} {s:Shared} {z TI TO:Addr} {Q:Value→Shared→Prop} (hL:IsZip s.heap z TI TO .none)
    (h : ∀ h',IsEnum h' s.heap.objs.size z 0 .none→h'.objs.size=s.heap.objs.size+1 →
      (∀ b o,s.heap.get? b=some o→h'.get? b=some o)→Q (.ref s.heap.objs.size) { s with heap:=h' }) :
    wpAny (model P w) A (call (.type "enumerate") [.ref z]) Q E s:=by
  refine callType_new F.called_enumerate (by decide) (F.typeCall_enumerate_1 _) (F.newCall_enumerate_1 _) (fun obj=>F.args_object_init_2 obj _) F.entry_enumerate_new
    (meets_enumZ z TI TO) ⟨hL,?_⟩
  have he:IsEnum (s.heap.push { cls:=.type "enumerate",data:=.fields #[.none,.bool false,.ref z,rawInt 0,.none,.none] }) s.heap.objs.size z 0 .none:=Heap.get?_push_size _ rfl
  exact ⟨⟨_,he,rfl⟩,h _ he (Heap.size_push ..) fun b o x=>Heap.get?_push_of_some _ x⟩
end L2
namespace L2
open PySem PySem.Spec PyProof.Rows
def ItEL (K:PySem.W.Frag) (l1 l2:Addr):It where
  go:=fun i H=>∃ xs x ys y,SqL K H l1 xs∧xs[i]? = some x∧SqL K H l2 ys∧ys[i]? = some y
  stop:=fun i H=>∃ xs ys,SqL K H l1 xs∧SqL K H l2 ys∧min xs.length ys.length=i
  yld:=fun i H v H'=>∃ (T O:Addr) (x y:V),H T=none∧H O=none∧T≠O∧(∀ xs,SqL K H l1 xs→xs[i]? = some x)∧(∀ ys,SqL K H l2 ys→ys[i]? = some y)∧v=.ref O∧H'=upd (upd H T (.tup [x,y])) O (.tup [.int i,.ref T])
theorem for_byL {K:PySem.W.Frag} {l1 l2:Addr} {xs ys:List V} {g:TG} {tb:TS} {D:Ends} {σ:St} {H:Hp} (Pv:Nat→St→Hp→Prop) (h0:Pv 0 σ H)
    (hl:∀ i σ H,i≤min xs.length ys.length→Pv i σ H→SqL K H l1 xs∧SqL K H l2 ys)
    (hs:∀ i x y σ H T O,xs[i]? = some x→ys[i]? = some y→Pv i σ H→H T=none→H O=none→T≠O→g (.ref O) σ (upd (upd H T (.tup [x,y])) O (.tup [.int (i:Nat),.ref T])) fun σ2 H2=>tb { D with nx:=Pv (i+1),ct:=Pv (i+1),bk:=D.nx } σ2 H2)
    (hd:∀ σ H,Pv (min xs.length ys.length) σ H→D.nx σ H) :
    ∃ W:Nat→Nat→St→Hp→Prop,(∃ m,W 0 m σ H)∧∀ i m σ H,W i m σ H →
      ((ItEL K l1 l2).stop i H∧D.nx σ H)∨((ItEL K l1 l2).go i H∧∃ N:St→Hp→Prop,(∀ σ' H',N σ' H'→∃ m',m' < m∧W (i+1) m' σ' H')∧∀ v H',(ItEL K l1 l2).yld i H v H'→g v σ H' fun σ2 H2=>tb { D with nx:=N,ct:=N,bk:=D.nx } σ2 H2):=by
  refine ⟨fun i m σ H=>m=min xs.length ys.length - i∧i≤min xs.length ys.length∧Pv i σ H,⟨_,rfl,Nat.zero_le _,h0⟩,?_⟩
  rintro i m σ H ⟨rfl,hi,p⟩
  obtain ⟨q1,q2⟩:=hl i σ H hi p
  by_cases hlt:i < min xs.length ys.length
  · have a1:i < xs.length:=by omega
    have a2:i < ys.length:=by omega
    refine .inr ⟨⟨xs,xs[i],ys,ys[i],q1,List.getElem?_eq_getElem a1,q2,List.getElem?_eq_getElem a2⟩,Pv (i+1),fun σ' H' p'=>⟨_,by omega,rfl,hlt,p'⟩,fun v H' yl=>?_⟩
    obtain ⟨T,O,x,y,hT,hO,hTO,hx,hy,rfl,rfl⟩:=yl
    exact hs i x y σ H T O (hx xs q1) (hy ys q2) p hT hO hTO
  · have e:i=min xs.length ys.length:=by omega
    subst e
    exact .inl ⟨⟨xs,ys,q1,q2,rfl⟩,hd σ H p⟩
theorem turn_enl {P:Program} {w:World} {K:PySem.W.Frag} {elts:List Expr} {k:Nat} {pos:Pos} (l1 l2 e z TI TO i1 i2:Addr) (d1:TI≠z) (d2:TO≠z) (d3:i1≠z) (d4:i2≠z) (d5:TI≠TO) (d6:TI≠i1) (d7:TI≠i2) (d8:TO≠i1) (d9:TO≠i2) (d10:i1≠i2) (ne:e≠z∧e≠TI∧e≠TO∧e≠i1∧e≠i2) :
    Turn P w K (.Tuple elts k pos) (ItEL K l1 l2) [e,z,TI,TO,i1,i2] e (fun i h=>(∃ old,IsEnum h e z i old)∧ZQ (fun k h=>h.IsListIter i1 l1 k) (fun k h=>h.IsListIter i2 l2 k) z TI TO i1 i2 i h) where
  mem:=by simp
  obj:=fun i h st b hb=>by
    obtain ⟨⟨old,he⟩,ti,⟨a0,b0,to_⟩,⟨o1,e1,_,q1⟩,⟨o2,e2,_,q2⟩,v,f,hz,hv⟩:=st
    have hb':b=e∨b=z∨b=TI∨b=TO∨b=i1∨b=i2:=by simpa using hb
    rcases hb' with r | r | r | r | r | r
    · rw [r];exact ⟨_,he,fun v z=>by cases z⟩
    · rw [r];exact ⟨_,hz,fun v z=>by cases z⟩
    · rw [r];exact ⟨_,ti,fun v z=>by cases z⟩
    · rw [r];exact ⟨_,to_,fun v z=>by cases z⟩
    · rw [r];exact ⟨o1,e1,fun v z=>by rw [q1] at z;cases z⟩
    · rw [r];exact ⟨o2,e2,fun v z=>by rw [q2] at z;cases z⟩
  keep:=fun i h h' st kk=>by
    obtain ⟨⟨old,he⟩,ti,⟨a0,b0,to_⟩,⟨o1,e1,r1⟩,⟨o2,e2,r2⟩,v,f,hz,hv⟩:=st
    exact ⟨⟨old,kk e (by simp) _ he⟩,kk TI (by simp) _ ti,⟨_,_,kk TO (by simp) _ to_⟩,⟨o1,kk i1 (by simp) _ e1,r1⟩,⟨o2,kk i2 (by simp) _ e2,r2⟩,v,f,kk z (by simp) _ hz,hv⟩
  item:=by
    intro X hP hw hK hc i pins s σ H E I hf st hg
    subst hP hw hK
    obtain ⟨xs,x,ys,y,hq1,hx,hq2,hy⟩:=hg
    obtain ⟨its1,rv1,p1,hz1⟩:=I.list hq1
    obtain ⟨its2,rv2,p2,hz2⟩:=I.list hq2
    obtain ⟨u1,hu,ru⟩:=rv1.get hx
    obtain ⟨u2,hv,rv⟩:=rv2.get hy
    obtain ⟨⟨old,he⟩,ti,⟨a0,b0,to_⟩,h4,h5,vz,fz,hz,hvz⟩:=st
    have ap:∀ {l:Addr} {its:Array Value},s.heap.IsList l its→l≠z∧l≠TO∧l≠i1∧l≠i2∧l≠e:=by
      intro l its hl
      obtain ⟨o,ho,hc,_⟩:=hl
      refine ⟨fun q=>?_,fun q=>?_,fun q=>?_,fun q=>?_,fun q=>?_⟩
      · rw [q,hz] at ho;cases ho;exact absurd (Value.type.inj hc) (by decide)
      · rw [q,to_] at ho;cases ho;exact absurd (Value.type.inj hc) (by decide)
      · obtain ⟨o',ho',hc',_⟩:=h4
        rw [q,ho'] at ho;cases ho;rw [hc'] at hc;exact absurd (Value.type.inj hc) (by decide)
      · obtain ⟨o',ho',hc',_⟩:=h5
        rw [q,ho'] at ho;cases ho;rw [hc'] at hc;exact absurd (Value.type.inj hc) (by decide)
      · rw [q,he] at ho;cases ho;exact absurd (Value.type.inj hc) (by decide)
    obtain ⟨n1,n2,n3,n4,n5⟩:=ap p1.isList
    obtain ⟨m1,m2,m3,m4,m5⟩:=ap p2.isList
    have D:ZipA z TI TO i1 i2 l1 l2:=⟨d1,d2,d3,d4,d5,d6,d7,d8,d9,d10,n1,n2,n4,m1,m2,m3⟩
    have zq:ZQ (fun k h=>h.IsListIter i1 l1 k∧h.IsList l1 its1.toArray) (fun k h=>h.IsListIter i2 l2 k∧h.IsList l2 its2.toArray) z TI TO i1 i2 i s.heap:=⟨ti,⟨a0,b0,to_⟩,⟨h4,p1.isList⟩,⟨h5,p2.isList⟩,vz,fz,hz,hvz⟩
    have lt1:i < its1.toArray.size:=by have a1:=(List.getElem?_eq_some_iff.mp hu).1;simpa using a1
    have lt2:i < its2.toArray.size:=by have a1:=(List.getElem?_eq_some_iff.mp hv).1;simpa using a1
    refine enz_item (src_list i1 l1 n3 its1.toArray).g (src_list i2 l2 m4 its2.toArray).g D he zq lt1 lt2 ⟨ne.1,ne.2.1,ne.2.2.1,ne.2.2.2.1,ne.2.2.2.2,n5.symm,m5.symm⟩ fun vx vy h' T O uu tk px py hT hO hTs hTO ho zq' kk=>?_
    have eu:vx=u1:=by
      have:its1[i]? = some vx:=by simpa using px
      rw [hu] at this;exact (Option.some.inj this).symm
    have ev:vy=u2:=by
      have:its2[i]? = some vy:=by simpa using py
      rw [hv] at this;exact (Option.some.inj this).symm
    subst eu ev
    refine ⟨_,rfl,?_⟩
    refine wpAny_letOwnedTupleGo_enum (s:={ s with heap:=h',toks:=tk }) ho fun h2 he2 hs2=>?_
    have elt:e < s.heap.objs.size:=Heap.lt_size he
    have nTe:T≠e:=Nat.ne_of_gt (Nat.lt_of_lt_of_le elt hTs)
    have nOe:O≠e:=Nat.ne_of_gt (Nat.lt_of_lt_of_le elt (Nat.le_of_lt (Nat.lt_of_le_of_lt hTs hTO)))
    have up:∀ b o,b≠e→h'.get? b=some o→h2.get? b=some o:=fun b o n q=>(hs2.2 b n).trans q
    have kk2:∀ b o,b ∉ [e,z,TI,TO,i1,i2]→s.heap.get? b=some o→h2.get? b=some o:=fun b o hb q=>by
      have hb':b≠e∧b≠z∧b≠TI∧b≠TO∧b≠i1∧b≠i2:=by simpa using hb
      exact up b o hb'.1 (kk b o hb'.1 hb'.2.1 hb'.2.2.2.1 hb'.2.2.2.2.1 hb'.2.2.2.2.2 q)
    have hT2:=up _ _ nTe hT
    have hO2:=up _ _ nOe hO
    have fH:∀ b,s.heap.objs.size≤b→H b=none:=fun b hb=>I.hok.fresh hb
    have hOs:s.heap.objs.size≤O:=Nat.le_of_lt (Nat.lt_of_le_of_lt hTs hTO)
    have I1:Inv X pins σ (upd H T (.tup [x,y])) { s with heap:=h2,toks:=tk }:=I.newTup (ch:=[e,z,TI,TO,i1,i2]) (t':=tk) (its:=[vx,vy]) hf kk2 hTs (.cons ru (.cons rv .nil)) ⟨⟨_,hT2,rfl,_,rfl⟩,_,hT2,rfl⟩ (by show 2≤sizeLine;decide)
    have nO:upd H T (.tup [x,y]) O=none:=by rw [upd_ne (Nat.ne_of_gt hTO)];exact fH O hOs
    obtain ⟨_,f1,f2,f3,f4,f5⟩:=I.fpOk (H':=upd H T (.tup [x,y])) hOs nO
    have f6:X.s₀.heap.get? O=none:=by
      cases q:X.s₀.heap.get? O with
      | none=>rfl
      | some o=>exact absurd (Heap.lt_size q) (Nat.not_lt.mpr (Nat.le_trans I.sz hOs))
    have I2:Inv X pins σ (upd (upd H T (.tup [x,y])) O (.tup [.int i,.ref T])) { s with heap:=h2,toks:=tk }:=I1.track nO f6 f1 f4 f5 ⟨by show 2≤sizeLine;decide,[.int i uu,.ref T],.cons ⟨uu,rfl⟩ (.cons rfl .nil),⟨_,hO2,rfl,_,rfl⟩,_,hO2,rfl⟩
    refine ⟨.ref O,_,I2,rfl,⟨T,O,x,y,fH T hTs,fH O hOs,Nat.ne_of_lt hTO,fun zs hz=>by rw [I.list_inj hz hq1];exact hx,fun zs hz=>by rw [I.list_inj hz hq2];exact hy,rfl,rfl⟩,⟨⟨_,by simpa using he2⟩,?_⟩,fun b hb=>?_⟩
    · obtain ⟨ti,⟨a0,b0,to_⟩,⟨⟨o1,e1,r1⟩,_⟩,⟨⟨o2,e2,r2⟩,_⟩,v,f,hz,hv⟩:=zq'
      exact ⟨up _ _ ne.2.1.symm ti,⟨_,_,up _ _ ne.2.2.1.symm to_⟩,⟨o1,up _ _ ne.2.2.2.1.symm e1,r1⟩,⟨o2,up _ _ ne.2.2.2.2.symm e2,r2⟩,v,f,up _ _ ne.1.symm hz,hv⟩
    · have hbl:b < s.heap.objs.size:=by
        obtain ⟨ti,⟨a0,b0,to_⟩,⟨⟨o1,e1,_⟩,_⟩,⟨⟨o2,e2,_⟩,_⟩,v,f,hz,hv⟩:=zq
        have hb':b=e∨b=z∨b=TI∨b=TO∨b=i1∨b=i2:=by simpa using hb
        rcases hb' with r | r | r | r | r | r <;> rw [r]
        · exact elt
        · exact Heap.lt_size hz
        · exact Heap.lt_size ti
        · exact Heap.lt_size to_
        · exact Heap.lt_size e1
        · exact Heap.lt_size e2
      rw [upd_ne (Nat.ne_of_lt (Nat.lt_of_lt_of_le hbl hOs)),upd_ne (Nat.ne_of_lt (Nat.lt_of_lt_of_le hbl hTs))]
      exact (hf b hb).1
  done:=by
    intro X hP hw hK hc i pins s σ H E I hf st hg
    subst hP hw hK
    obtain ⟨xs,ys,hq1,hq2,hi⟩:=hg
    obtain ⟨its1,rv1,p1,hz1⟩:=I.list hq1
    obtain ⟨its2,rv2,p2,hz2⟩:=I.list hq2
    obtain ⟨⟨old,he⟩,ti,⟨a0,b0,to_⟩,h4,h5,vz,fz,hz,hvz⟩:=st
    have ap:∀ {l:Addr} {its:Array Value},s.heap.IsList l its→l≠z∧l≠TO∧l≠i1∧l≠i2∧l≠e:=by
      intro l its hl
      obtain ⟨o,ho,hc,_⟩:=hl
      refine ⟨fun q=>?_,fun q=>?_,fun q=>?_,fun q=>?_,fun q=>?_⟩
      · rw [q,hz] at ho;cases ho;exact absurd (Value.type.inj hc) (by decide)
      · rw [q,to_] at ho;cases ho;exact absurd (Value.type.inj hc) (by decide)
      · obtain ⟨o',ho',hc',_⟩:=h4
        rw [q,ho'] at ho;cases ho;rw [hc'] at hc;exact absurd (Value.type.inj hc) (by decide)
      · obtain ⟨o',ho',hc',_⟩:=h5
        rw [q,ho'] at ho;cases ho;rw [hc'] at hc;exact absurd (Value.type.inj hc) (by decide)
      · rw [q,he] at ho;cases ho;exact absurd (Value.type.inj hc) (by decide)
    obtain ⟨n1,n2,n3,n4,n5⟩:=ap p1.isList
    obtain ⟨m1,m2,m3,m4,m5⟩:=ap p2.isList
    have D:ZipA z TI TO i1 i2 l1 l2:=⟨d1,d2,d3,d4,d5,d6,d7,d8,d9,d10,n1,n2,n4,m1,m2,m3⟩
    have zq:ZQ (fun k h=>h.IsListIter i1 l1 k∧h.IsList l1 its1.toArray) (fun k h=>h.IsListIter i2 l2 k∧h.IsList l2 its2.toArray) z TI TO i1 i2 i s.heap:=⟨ti,⟨a0,b0,to_⟩,⟨h4,p1.isList⟩,⟨h5,p2.isList⟩,vz,fz,hz,hvz⟩
    have hend:i=its1.toArray.size∨(i < its1.toArray.size∧i=its2.toArray.size):=by
      have:=rv1.length;have:=rv2.length;simp;omega
    refine enz_done (I.ok.hd hc) (src_list i1 l1 n3 its1.toArray).g (src_list i2 l2 m4 its2.toArray).g D he zq hend fun h' tk kk=>⟨rfl,?_⟩
    have kk':∀ b o,b ∉ [z,TO,i1,i2]→s.heap.get? b=some o→h'.get? b=some o:=fun b o hb e=>by
      have hb':b≠z∧b≠TO∧b≠i1∧b≠i2:=by simpa using hb
      exact kk b o hb'.1 hb'.2.1 hb'.2.2.1 hb'.2.2.2 e
    refine I.step (t':=tk) (g':=s.gens) (d':=s.drawn) (ch:=[z,TO,i1,i2]) (fun b hb=>?_) (fun b o _ _ hc e _=>kk' b o hc e) (fun b o _ _ hc e _=>⟨o.slots,kk' b o hc e⟩) (fun _ _ _ _ n=>n)
      (fun b o hc e=>⟨o,kk' b o hc e⟩) (fun _ _ e=>e) (fun _ _ _ e=>e) (fun b ps e=>⟨#[],by rw [e];simp⟩) (fun m hm=>?_) (fun b u e=>?_) I.bare
    · obtain ⟨_,a1,_,a2,a3,a4⟩:=hf b (by simp at hb ⊢;rcases hb with e | e | e | e <;> simp [e])
      exact ⟨a2,a1,a3,a4⟩
    · obtain ⟨o,es,ep,ho,r⟩:=hm
      exact ⟨o,es,ep,kk' _ o (fun q=>(hf _ (by simp at q ⊢;rcases q with e | e | e | e <;> simp [e])).2.1 rfl) ho,r⟩
    · have nch:∀ b u,H b=some u→b ∉ [z,TO,i1,i2]:=fun b u e hb=>by
        rw [(hf b (by simp at hb ⊢;rcases hb with e | e | e | e <;> simp [e])).1] at e;cases e
      refine (I.hok b u e).stay (fun c v hc q=>kk' c v ?_ q) (fun _ q=>q) fun _ _ q=>q
      rcases hc with z' | z'
      · rw [z'];exact nch b u e
      · exact nch c _ z'
  self:=fun _ _ _ _ _ st h=>by
    obtain ⟨⟨old,he⟩,_⟩:=st
    exact wpAny_pyIter_enum he h
def iEnL (K:PySem.W.Frag) (ta:TA):TI:=fun σ H R=>ta σ H fun vs H1=>∃ a b,vs=[.ref a,.ref b]∧(∃ xs,SqL K H1 a xs)∧(∃ ys,SqL K H1 b ys)∧R (ItEL K a b) H1
theorem pi_enumZipL {X:Cx} (K:PySem.W.Frag) {e1 e2:Expr} {ta:TA} {elts:List Expr} {k:Nat} {tp p p2 pos pos2:Pos} (hg:Gl X "enumerate") (hm:X.mg "enumerate" = none) (hgz:Gl X "zip") (hmz:X.mg "zip" = none) (hl:PA X [e1,e2] ta)
    (hs:starEach [e1,e2] X.env=[(false,eval e1 X.env),(false,eval e2 X.env)]:=by rfl) (hs2:starEach [e2] X.env=[(false,eval e2 X.env)]:=by rfl)
    (he:starEach [.Call (.Name "zip" p2) [e1,e2] [] pos2] X.env=[(false,eval (.Call (.Name "zip" p2) [e1,e2] [] pos2) X.env)]:=by rfl) (hK:X.K=K:=by rfl) :
    PI X (.Tuple elts k tp) (.Call (.Name "enumerate" p) [.Call (.Name "zip" p2) [e1,e2] [] pos2] [] pos) (iEnL K ta):=by
  subst hK
  intro pins s σ H R I h
  refine Call_ (ld_blt I hg hm (by first | exact boot_enumerate | decide +kernel) ?_)
  refine PyProof.Rows.callWith_type1 ?_ he rfl
  rw [he]
  show wpAny _ _ (spliced ((false,eval (.Call (.Name "zip" p2) [e1,e2] [] pos2) X.env) :: backTo pos (starEach [] X.env))) _ _ s
  refine Calls.spliced_cons ?_
  refine wpAny_Call_Name_kw (ld_blt I hgz hmz (show bootBuiltins "zip" = some (.type "zip") by first | exact boot_zip | decide +kernel) (PyProof.Rows.callWith_type1 (thn (hl pos2 pins s σ H _ I h) fun us s1 ⟨vs,H1,I1,r1,q1⟩=>?_) (by rw [hs,hs2]) (by rw [hs2];rfl)))
  obtain ⟨a,b,e,⟨xs,hq1⟩,⟨ys,hq2⟩,q⟩:=q1
  subst e
  cases r1 with
  | cons r rr =>
    cases rr with
    | cons r' rr =>
      cases rr
      cases r
      cases r'
      obtain ⟨its,rv,pl,hz⟩:=I1.list hq1
      obtain ⟨its2,rv2,pl2,hz2⟩:=I1.list hq2
      refine call_zip_2 pl.isList pl2.isList fun h' hz' hTI hTO hi1 hi2 hsz kk=>?_
      refine Calls.spliced_nil ?_
      refine call_enumZ (s:={ s1 with heap:=h' }) hz' fun h2 he2 hsz2 kk2=>?_
      have I2:Inv X pins σ H1 { s1 with heap:=h2 }:=I1.kept (t':=s1.toks) fun b o e=>kk2 b o (kk b o e)
      refine wpAny_pyIter_enum (s:={ s1 with heap:=h2 }) he2 ?_
      refine ⟨h'.objs.size,[h'.objs.size,s1.heap.objs.size+4,s1.heap.objs.size+2,s1.heap.objs.size+3,s1.heap.objs.size,s1.heap.objs.size+1],_,_,H1,rfl,I2,
        turn_enl a b _ _ _ _ _ _ (by simp) (by simp) (by simp) (by simp) (by simp) (by simp) (by simp) (by simp) (by simp) (by simp) (by rw [hsz];simp),⟨⟨_,he2⟩,kk2 _ _ hTI,⟨_,_,kk2 _ _ hTO⟩,hi1.at fun o x=>kk2 _ o x,hi2.at fun o x=>kk2 _ o x,_,_,kk2 _ _ hz',.inl rfl⟩,fun c hb=>?_,q⟩
      have:s1.heap.objs.size≤c:=by
        have hb':c=h'.objs.size∨c=s1.heap.objs.size+4∨c=s1.heap.objs.size+2∨c=s1.heap.objs.size+3∨c=s1.heap.objs.size∨c=s1.heap.objs.size+1:=by simpa using hb
        rcases hb' with e | e | e | e | e | e <;> rw [e] <;> first | (rw [hsz];exact Nat.le_add_right _ _) | exact Nat.le_refl _ | exact Nat.le_add_right _ _
      exact I1.fpOk this (I1.hok.fresh this)
end L2
namespace L2
open PySem PySem.Spec PyProof.Rows
structure FunD (K:PySem.W.Frag) (x qual:Str) (st:Stmt) (f:Addr) (fd:FuncData):Prop where
  ex : ∃ (oc oc1:Value) (od od1:Option Addr) (kV doc pm:Value) (an:Option Addr) (cdv ct:Value) (osl osl1:Array (Option Value)) (dA:Addr),
    fd=PySem.W.fnOf x qual (defArgs st) (defBody st) (defScope st) (.ref dA) kV doc pm an cdv ct∧K.lookup f=some ⟨oc,od,.func fd,osl⟩∧K.lookup dA=some ⟨oc1,od1,.seq #[.none],osl1⟩∧PySem.W.codeIn K cdv qual=true
  kp:PySem.W.keepIn K (.ref f)=true
section
variable {P:Program} {w:World} {K:PySem.W.Frag} {mg:Str→Option Value} {base:Heap}
theorem FunD.ok {x qual:Str} {st:Stmt} {f:Addr} {fd:FuncData} {N ps:List Str} {k:Nat} {sp:Sp} (F:FunD K x qual st f fd) (S:FnScope N ps (defScope st)) (len:∀ vs H Q E,sp vs H Q E→vs.length=ps.length)
    (hbody:∀ (cdv:Value) (A:Around) (outer:List Env) (s:Shared) (H:Hp) (vs:List V) (Q:VK) (E:XK),Room k (A.deeper (envOfC qual (defScope st) s.heap.objs.size f cdv))→sp vs H Q E →
      ∃ t,PSs (cxOf CX0 P w K mg base N qual (defScope st) f cdv A outer s H E).nox (defBody st) t∧t { nx:=fun _ H'=>Q .non H',rt:=Q } (start N vs) H):FnOk P w K mg base CX0 (k+1) f fd ps sp:=by
  obtain ⟨oc,oc1,od,od1,kV,doc,pm,an,cdv,ct,osl,osl1,dA,rfl,lk,lk1,hcd⟩:=F.ex
  refine fn_of lk hcd S len fun A outer s H vs Q E hr hsp=>?_
  obtain ⟨t,h,q⟩:=hbody cdv A outer s H vs Q E hr hsp
  exact ⟨t,h.nox,q⟩
theorem FunD.binds {x qual:Str} {st:Stmt} {f:Addr} {fd:FuncData} {ps:List Str} {ds:List Value} (m:Nat) (F:FunD K x qual st f fd) (hm:m+ds.length=ps.length)
    (h:∀ (kV doc pm:Value) (an:Option Addr) (cdv ct:Value) (dA:Addr) (us:List Value),us.length=m→∃ k,bindArgs (PySem.W.fnOf x qual (defArgs st) (defBody st) (defScope st) (.ref dA) kV doc pm an cdv ct) ⟨us,[]⟩=seqItems? (.ref dA) >>= k∧k (some #[.none])=pure (ps.zip (us++ds))):Binds K fd ps ds:=by
  obtain ⟨oc,oc1,od,od1,kV,doc,pm,an,cdv,ct,osl,osl1,dA,rfl,lk,lk1,hcd⟩:=F.ex
  intro s us KX hl
  obtain ⟨k,e1,e2⟩:=h kV doc pm an cdv ct dA us (by rw [List.length_append] at hl;omega)
  exact .of_defaults rfl (KX _ _ lk1) rfl e1 e2
theorem funD_mk {x qual:Str} {st:Stmt} {f dA:Addr} {oc oc1:Value} {od od1 an:Option Addr} {osl osl1:Array (Option Value)} {kV doc pm cdv ct:Value} (l:K.lookup f=some ⟨oc,od,.func (PySem.W.fnOf x qual (defArgs st) (defBody st) (defScope st) (.ref dA) kV doc pm an cdv ct),osl⟩)
    (t:K.lookup dA=some ⟨oc1,od1,.seq #[.none],osl1⟩) (c:PySem.W.codeIn K cdv qual=true) (k:PySem.W.keepIn K (.ref f)=true):FunD K x qual st f (PySem.W.fnOf x qual (defArgs st) (defBody st) (defScope st) (.ref dA) kV doc pm an cdv ct) :=
  ⟨⟨oc,oc1,od,od1,kV,doc,pm,an,cdv,ct,osl,osl1,dA,rfl,l,t,c⟩,k⟩
end
end L2
namespace L2
open PySem PySem.Spec PyProof.Rows
def rAnyI (K:PySem.W.Frag):List V→Hp→VK→Prop:=fun xs H Q=>∃ (l:Addr) (ns:List Int),xs=[.ref l]∧SqL K H l (ns.map V.int)∧Q (.bl (ns.any fun n=>decide (n≠0))) H
theorem anyI_range (ns:List Int):((List.range ns.length).any fun i=>decide (ns.getD i 0≠0))=ns.any fun n=>decide (n≠0):=by
  rw [Bool.eq_iff_iff,List.any_eq_true,List.any_eq_true]
  constructor
  · rintro ⟨i,hi,h⟩
    have hi':=List.mem_range.mp hi
    rw [List.getD_eq_getElem?_getD,List.getElem?_eq_getElem hi'] at h
    exact ⟨_,List.getElem_mem hi',h⟩
  · rintro ⟨b,hb,h⟩
    obtain ⟨i,hi⟩:=List.mem_iff_getElem?.mp hb
    exact ⟨i,List.mem_range.mpr (List.getElem?_eq_some_iff.mp hi).1,by rw [List.getD_eq_getElem?_getD,hi];exact h⟩
theorem call_any_ints {X:Cx} (hc:X.calm=true):CallR X (.builtin "any") (rAnyI X.K):=by
  rintro pins s σ H xs us Q I r ⟨l,ns,rfl,hq,q⟩
  obtain ⟨u,rfl,ru⟩:=vals1 r
  cases ru
  obtain ⟨its,rv,pl,hz⟩:=I.list hq
  have lb:its.length=ns.length:=by have:=rv.length;rw [List.length_map] at this;exact this.symm
  have hlt:l < s.heap.objs.size:=by obtain ⟨o,ho,_⟩:=pl.isList;exact Heap.lt_size ho
  refine call_any_walk (wpAny_pyIter_list pl.isList ⟨s.heap.objs.size,_,_,_,_,_,fun i=>decide (ns.getD i 0≠0),rfl,Walks.list (prog:=X.prog) (w:=X.w) (A:=X.A.in1) (I.ok.hd hc) s.heap.objs.size l (Nat.ne_of_lt hlt) its.toArray,⟨⟨_,Heap.get?_push_size _ rfl,rfl,rfl⟩,pl.isList.push _⟩,fun i v s' Q' E' hv hQ=>?_,fun h' tk kk=>?_⟩)
  · have hv':its[i]? = some v:=by simpa using hv
    have hi:i < ns.length:=by rw [← lb];exact (List.getElem?_eq_some_iff.mp hv').1
    obtain ⟨u,hu,ru⟩:=rv.get (i:=i) (x:=V.int ns[i]) (by rw [List.getElem?_map,List.getElem?_eq_getElem hi];rfl)
    rw [hu] at hv'
    cases hv'
    obtain ⟨t,rfl⟩:=(show ∃ t,v=Value.int ns[i] t from ru)
    have e:ns.getD i 0=ns[i]:=by rw [List.getD_eq_getElem?_getD,List.getElem?_eq_getElem hi];rfl
    have e2:decide (ns.getD i 0≠0)=(ns[i] != 0):=by
      rw [e]
      rw [Bool.eq_iff_iff,decide_eq_true_iff,bne_iff_ne]
    exact PySem.P.truthy_int (e2 ▸ hQ)
  · rw [List.size_toArray,lb,anyI_range]
    refine ⟨.bl _,H,I.kept (t':=tk) fun b o eb=>kk b o (fun z=>?_) (Heap.get?_push_of_some _ eb),rfl,q⟩
    have z':b=s.heap.objs.size:=by simpa using z
    exact absurd (Heap.lt_size eb) (by rw [z'];exact Nat.lt_irrefl _)
theorem call_any_intsK {X:Cx} (K:PySem.W.Frag) (hc:X.calm=true) (hK:X.K=K:=by rfl):CallR X (.builtin "any") (rAnyI K):=by subst hK;exact call_any_ints hc
def CDivE (i j:Int):Prop:=j≠0∧j ∣ i∧∃ e:Nat,e≤8900∧j.natAbs < 2 ^ e
theorem op_divE {X:Cx}:OpR X (binaryOp .FloorDiv) (rI CDivE fun i j=>.int (i / j)):=opI fun i j _ _ _ _ _ hc q=>by
  obtain ⟨h0,hd,e,he,hj⟩:=hc
  rw [← Int.fdiv_eq_ediv_of_dvd hd] at q
  refine floordiv_int h0 q (.inl (PyProof.noPylong_of_log2 ?_))
  have h1:j.natAbs≠0:=by omega
  have:=(Nat.log2_lt h1).mpr hj
  omega
end L2
namespace L2
open PySem PySem.Spec PyProof.Rows PySem.W
def rMin1 (K:PySem.W.Frag):List V→Hp→VK→Prop:=fun xs H Q=>∃ (a:Addr) (ns:List Int),xs=[.ref a]∧SqL K H a (ns.map V.int)∧ns≠[]∧∀ m,m∈ns→(∀ x∈ns,m≤x)→Q (.int m) H
theorem argBest_low (val:Nat→Int):∀ n,argBest (fun i j=>decide (val i < val j)) n≤n∧∀ j,j≤n→val (argBest (fun i j=>decide (val i < val j)) n)≤val j
  | 0=>⟨Nat.le_refl _,fun j hj=>by rw [Nat.le_zero.mp hj];exact Int.le_refl _⟩
  | n+1=>by
    obtain ⟨h1,h2⟩:=argBest_low val n
    show (if decide (val (n+1) < val (argBest (fun i j=>decide (val i < val j)) n))=true then n+1 else argBest (fun i j=>decide (val i < val j)) n)≤n+1∧∀ j,j≤n+1→val (if decide (val (n+1) < val (argBest (fun i j=>decide (val i < val j)) n))=true then n+1 else argBest (fun i j=>decide (val i < val j)) n)≤val j
    by_cases h:val (n+1) < val (argBest (fun i j=>decide (val i < val j)) n)
    · rw [if_pos (decide_eq_true h)]
      refine ⟨Nat.le_refl _,fun j hj=>?_⟩
      by_cases e:j=n+1
      · rw [e];exact Int.le_refl _
      · have:=h2 j (by omega)
        omega
    · rw [if_neg (by rw [decide_eq_false h];decide)]
      refine ⟨by omega,fun j hj=>?_⟩
      by_cases e:j=n+1
      · rw [e];omega
      · exact h2 j (by omega)
theorem call_min1 {X:Cx} (hc:X.calm=true):CallR X (.builtin "min") (rMin1 X.K):=by
  intro pins s σ H xs us Q I r h
  obtain ⟨l,ns,rfl,hq,hne,q⟩:=h
  obtain ⟨u,rfl,ru⟩:=vals1 r
  cases ru
  obtain ⟨its,r',pl,_⟩:=I.list hq
  have hi:=intsAre_of r'
  obtain ⟨xs,e⟩:=hi.allInts.items
  have hl:s.heap.IsList l (intItems xs):=by rw [← e];exact pl.isList
  have hns:xs.toList.map (·.1)=ns:=by
    have:=hi.numsOf
    rw [show its=(intItems xs).toList by rw [← e]] at this
    rw [nums_intItems] at this
    exact this
  have hlen:xs.size=ns.length:=by rw [← hns,List.length_map,Array.length_toList]
  have hpos:0 < xs.size:=by rw [hlen];exact List.length_pos_iff.mpr hne
  refine min_intList (I.ok.hd hc) hl hpos fun v h' tk hv hk=>?_
  obtain ⟨t,rfl⟩:=intItems_at hv
  obtain ⟨b1,b2⟩:=argBest_low (numAt xs) (xs.size - 1)
  have at_:∀ j,j < xs.size→ns[j]? = some (numAt xs j):=fun j hj=>by
    rw [← hns,List.getElem?_map,Array.getElem?_toList]
    unfold numAt
    rw [Array.getElem?_eq_getElem hj]
    rfl
  refine ⟨.int _,H,I.kept hk,⟨t,rfl⟩,q _ (List.mem_of_getElem? (at_ _ (by omega))) fun x hx=>?_⟩
  obtain ⟨j,hj⟩:=List.mem_iff_getElem?.mp hx
  have hjl:j < xs.size:=by rw [hlen];exact (List.getElem?_eq_some_iff.mp hj).1
  rw [at_ j hjl] at hj
  have:=b2 j (by omega)
  rw [← Option.some.inj hj]
  exact this
theorem call_min1K {X:Cx} (K:PySem.W.Frag) (hc:X.calm=true) (hK:X.K=K:=by rfl):CallR X (.builtin "min") (rMin1 K):=by subst hK;exact call_min1 hc
end L2
namespace Lw
open PySem L2 PyProof.Rows
theorem comp_byR {J:It} {xs:List V} {ok:Hp→Prop} {g:TG} {tc:TT} {te:TE} {R:Addr→List V→Hp→Prop} {τ0:L2.St} {H:Hp} (S:Sure J xs ok) (hz:xs.length≤10000) (Pv:Nat→List V→L2.St→Hp→Prop) (h0:Pv 0 [] τ0 H)
    (hl:∀ i ys τ H,i≤xs.length→Pv i ys τ H→ok H∧ys.length≤i)
    (hs:∀ i x ys τ H,xs[i]? = some x→Pv i ys τ H→g x τ H fun τ2 H2=>tc τ2 H2 fun b H3=>if b=true then te τ2 H3 (fun y H4=>Pv (i+1) (ys++[y]) τ2 H4) else Pv (i+1) ys τ2 H3)
    (hd:∀ ys τ H D,Pv xs.length ys τ H→H D=none→R D ys H) :
    ∃ W:Nat→Nat→List V→L2.St→Hp→Prop,(∃ m,W 0 m [] τ0 H)∧∀ i m ys τ H,W i m ys τ H →
      (J.stop i H∧∀ D,H D=none→R D ys H) ∨
      (J.go i H∧ys.length < sizeLine∧∃ N:List V→L2.St→Hp→Prop,(∀ ys' τ' H',N ys' τ' H'→∃ m',m' < m∧W (i+1) m' ys' τ' H') ∧
        ∀ x H',J.yld i H x H'→g x τ H' fun τ2 H2=>tc τ2 H2 fun b H3=>if b=true then te τ2 H3 (fun y H4=>N (ys++[y]) τ2 H4) else N ys τ2 H3):=by
  refine ⟨fun i m ys τ H=>m=xs.length - i∧i≤xs.length∧Pv i ys τ H,⟨xs.length,by simp,Nat.zero_le _,h0⟩,?_⟩
  rintro i m ys τ H ⟨rfl,hi,p⟩
  obtain ⟨q,hy⟩:=hl i ys τ H hi p
  by_cases hlt:i < xs.length
  · refine .inr ⟨S.go i H hlt q,Nat.lt_of_lt_of_le (show ys.length < 10000 by omega) (by decide),fun ys' τ' H'=>Pv (i+1) ys' τ' H',fun ys' τ' H' p'=>⟨xs.length - (i+1),by omega,rfl,hlt,p'⟩,fun x H' y=>?_⟩
    obtain ⟨rfl,y'⟩:=S.yld i H x H' hlt q y
    exact hs i x ys τ _ y' p
  · have e:i=xs.length:=by omega
    subst e
    exact .inl ⟨S.stop H q,fun D hD=>hd ys τ H D p hD⟩
end Lw
namespace L2
open PySem PySem.SeqAt PySem.Spec PyProof.Rows
def rCntI (K:PySem.W.Frag):V→List V→Hp→VK→Prop:=fun x vs H Q=>∃ (l:Addr) (ns:List Int) (k:Int),x=.ref l∧vs=[.int k]∧SqL K H l (ns.map V.int)∧Q (.int ((ns.count k:Nat):Int)) H
theorem cnt_int (k:Int):∀ {ns:List Int} {its:List Value},Vals (ns.map V.int) its→its.countP (isI k)=ns.count k∧∀ y∈its,∃ n t,y=Value.int n t
  | [],_,.nil=>⟨rfl,fun y hy=>by cases hy⟩
  | n :: ns,_,.cons r rr=>by
    obtain ⟨t,rfl⟩:=r
    obtain ⟨h1,h2⟩:=cnt_int k rr
    refine ⟨?_,fun y hy=>?_⟩
    · rw [List.countP_cons,List.count_cons,h1]
      rfl
    · rcases List.mem_cons.mp hy with rfl | h
      · exact ⟨_,_,rfl⟩
      · exact h2 y h
theorem mt_cntI {X:Cx} (K:PySem.W.Frag) (hK:X.K=K:=by rfl):MtR X "list.count" (rCntI K):=by
  subst hK
  intro pins s σ H x vs v us Q I rx rv h
  obtain ⟨l,ns,k,rfl,rfl,hq,q⟩:=h
  cases rx
  obtain ⟨u,rfl,tk,rfl⟩:=vals1 rv
  obtain ⟨its,r',pl,_⟩:=I.list hq
  obtain ⟨e1,e2⟩:=cnt_int k r'
  obtain ⟨⟨cls,dd,data,sl⟩,ho,hc,n,hd⟩:=pl.isList
  simp only at hc hd
  subst hc hd
  refine call_meets PySem.F.slot_list_count ⟨_,ho,rfl⟩ PySem.F.entry_list_count (PySem.F.args_list_count_2 _ _) (list_countAt l its.toArray n dd sl (.int k tk) (isI k)) ⟨ho,fun y hy=>?_,?_⟩
  · obtain ⟨m,t,rfl⟩:=e2 y (by simpa using hy)
    exact EqAt.int_int m t k tk
  · rw [show its.toArray.toList=its from rfl,e1]
    exact ⟨.int _,H,I.tok _,⟨_,rfl⟩,q⟩
end L2
namespace Lw
open PySem L2
abbrev tx (w:List Nat):V:=.str ⟨w.toArray⟩
abbrev Rule:=Nat × List Nat
structure Good (first:List Nat) (rs:List Rule):Prop where
  few:rs.length≤8
  rise:(rs.map (·.1)).Pairwise (· < ·)
  abc:∀ q∈rs,97≤q.1∧q.1≤122
  wl:∀ q∈rs,q.2.length≤6
  win:∀ q∈rs,∀ c∈q.2,c∈rs.map (·.1)
  fl:first.length≤12
  fin:∀ c∈first,c∈rs.map (·.1)
inductive RulesAt (H:Hp):List Addr→List Rule→Prop where
  | nil:RulesAt H [] []
  | cons {p:Addr} {ps:List Addr} {c:Nat} {w:List Nat} {rs:List Rule}:H p=some (.tup [sign c,tx w])→RulesAt H ps rs→RulesAt H (p :: ps) ((c,w) :: rs)
structure BookAt (H:Hp) (t:Addr) (first:List Nat) (rs:List Rule):Prop where
  ex:∃ r ps,H t=some (.tup [tx first,.ref r])∧H r=some (.tup (ps.map V.ref))∧RulesAt H ps rs
def TupS (H H':Hp):Prop:=∀ c xs,H c=some (.tup xs)→H' c=some (.tup xs)
theorem TupS.refl (H:Hp):TupS H H:=fun _ _ h=>h
theorem TupS.trans {H H1 H2:Hp} (a:TupS H H1) (b:TupS H1 H2):TupS H H2:=fun c xs h=>b c xs (a c xs h)
theorem TupS.same {H H':Hp} (s:Same H H'):TupS H H':=fun c xs h=>s c _ h
theorem RulesAt.mono {H H':Hp} (s:TupS H H'):∀ {ps:List Addr} {rs:List Rule},RulesAt H ps rs→RulesAt H' ps rs
  | _,_,.nil=>.nil
  | _,_,.cons h r=>.cons (s _ _ h) (r.mono s)
theorem BookAt.mono {H H':Hp} {t:Addr} {first:List Nat} {rs:List Rule} (s:TupS H H') (b:BookAt H t first rs):BookAt H' t first rs:=by
  obtain ⟨r,ps,h1,h2,h3⟩:=b.ex
  exact ⟨r,ps,s _ _ h1,s _ _ h2,h3.mono s⟩
theorem RulesAt.len {H:Hp}:∀ {ps:List Addr} {rs:List Rule},RulesAt H ps rs→ps.length=rs.length
  | _,_,.nil=>rfl
  | _,_,.cons _ r=>congrArg (· + 1) r.len
theorem RulesAt.get {H:Hp}:∀ {ps:List Addr} {rs:List Rule} {i:Nat} {p:Addr},RulesAt H ps rs→ps[i]? = some p→∃ c w,rs[i]? = some (c,w)∧H p=some (.tup [sign c,tx w])
  | _,_,i,p,.nil,e=>by cases i <;> cases e
  | _,_,0,p,.cons (c:=c) (w:=w) h r,e=>by
    have e':=Option.some.inj e
    subst e'
    exact ⟨c,w,rfl,h⟩
  | _,_,i+1,p,.cons h r,e=>r.get (i:=i) e
theorem Same.add {H:Hp} {l:Addr} {o:HO} (h:H l=none):Same H (upd H l o):=fun b u e=>by rw [upd_ne (ne_of_none e h)];exact e
theorem take_snoc {α β:Type} {xs:List α} {i:Nat} {x:α} (f:α→β) (h:xs[i]? = some x):(xs.take (i+1)).map f=(xs.take i).map f++[f x]:=by
  rw [List.take_add_one,h,List.map_append]
  rfl
theorem take_all {α:Type} (xs:List α):xs.take xs.length=xs:=List.take_length
end Lw
namespace Lw
open PySem L2
theorem join_go:∀ (r:List Str) (acc:Array Nat),r.foldl (fun acc p=>acc++(#[]:Array Nat)++p.cps) acc=acc++((r.map fun p=>p.cps.toList).flatten).toArray
  | [],acc=>by simp
  | p :: r,acc=>by
    rw [List.foldl_cons,join_go r]
    apply Array.ext'
    simp
theorem join_eq (ss:List Str):Txt.join ⟨#[]⟩ ss=⟨((ss.map fun p=>p.cps.toList).flatten).toArray⟩:=by
  unfold Txt.join Builtin.Str.glued
  cases ss with
  | nil=>rfl
  | cons a r =>
    show (⟨r.foldl (fun acc p=>acc++(#[]:Array Nat)++p.cps) a.cps⟩:Str)=_
    rw [join_go]
    congr 1
    apply Array.ext'
    simp
theorem join_signs (cs:List Nat):Txt.join ⟨#[]⟩ (cs.map fun c=>(⟨#[c]⟩:Str))=⟨cs.toArray⟩:=by
  rw [join_eq]
  congr 2
  induction cs with
  | nil=>rfl
  | cons c r ih =>
    simp only [List.map_cons,List.flatten_cons]
    rw [ih]
    rfl
theorem sum_ones (cs:List Nat):((cs.map fun c=>(⟨#[c]⟩:Str)).map (·.length)).sum=cs.length:=by
  induction cs with
  | nil=>rfl
  | cons c r ih =>
    simp only [List.map_cons,List.sum_cons,List.length_cons]
    rw [ih]
    show 1+r.length=r.length+1
    omega
theorem count_go (x:Str) (c:Nat):∀ (n a:Nat) (st:Array Nat × Nat),st.2≤a→st.1.size≤a→a+n≤x.length+1 →
    (forIn (List.range' a n) st (StrLaws.occBody x ⟨#[c]⟩ x.length (x.length+1))).run.fst.size=st.1.size+((x.cps.toList.drop a).take n).count c
  | 0,a,st,_,_,_=>by
    show st.1.size=_
    simp
  | n+1,a,st,h1,h2,h3=>by
    rw [List.range'_succ,List.forIn_cons]
    have one:=StrLaws.subAt_one x c a
    unfold StrLaws.occBody
    by_cases hc:x.cps.toList[a]? = some c
    · have hs:=one.mpr hc
      have hcond:(((st.fst.size < x.length+1∧st.snd≤a)∧a+(⟨#[c]⟩:Str).length≤x.length)∧Builtin.Str.subAt x ⟨#[c]⟩ a=true):=⟨⟨⟨by omega,h1⟩,hs.1⟩,hs.2⟩
      rw [if_pos hcond]
      show (forIn (List.range' (a+1) n) (st.1.push a,a+1) (StrLaws.occBody x ⟨#[c]⟩ x.length (x.length+1))).run.fst.size=_
      rw [count_go x c n (a+1) (st.1.push a,a+1) (Nat.le_refl _) (by simp only [Array.size_push];omega) (by omega)]
      obtain ⟨hlt,he⟩:=List.getElem?_eq_some_iff.mp hc
      rw [List.drop_eq_getElem_cons hlt,List.take_succ_cons,he,List.count_cons_self]
      simp only [Array.size_push]
      omega
    · have hcond:¬ (((st.fst.size < x.length+1∧st.snd≤a)∧a+(⟨#[c]⟩:Str).length≤x.length)∧Builtin.Str.subAt x ⟨#[c]⟩ a=true):=fun z=>hc (one.mp ⟨z.1.2,z.2⟩)
      rw [if_neg hcond]
      show (forIn (List.range' (a+1) n) (st.1,st.2) (StrLaws.occBody x ⟨#[c]⟩ x.length (x.length+1))).run.fst.size=_
      rw [count_go x c n (a+1) (st.1,st.2) (by show st.2≤a+1;omega) (by show st.1.size≤a+1;omega) (by omega)]
      by_cases hlt:a < x.cps.toList.length
      · rw [List.drop_eq_getElem_cons hlt,List.take_succ_cons,List.count_cons_of_ne]
        intro z
        exact hc (by rw [List.getElem?_eq_getElem hlt,z])
      · rw [List.drop_eq_nil_of_le (by omega),List.drop_eq_nil_of_le (by omega)]
        simp
theorem count_one (w:List Nat) (c:Nat):Txt.count ⟨w.toArray⟩ ⟨#[c]⟩=(w.count c:Nat):=by
  unfold Txt.count
  rw [StrLaws.occ_eq,Array.length_toList]
  have e:=count_go ⟨w.toArray⟩ c ((⟨w.toArray⟩:Str).length+1 - 0) 0 (#[],0) (Nat.le_refl _) (Nat.le_refl _) (by omega)
  rw [e]
  simp only [Array.size_empty,Nat.zero_add,List.drop_zero,Nat.sub_zero]
  rw [List.take_of_length_le (by show w.length≤w.toArray.size+1;simp)]
end Lw
namespace Lw
open PySem L2
structure RowsAt (H0 H:Hp) (ls:List Addr) (vs:List (List V)):Prop where
  len:ls.length=vs.length
  at_:∀ (i:Nat) a v,ls[i]? = some a→vs[i]? = some v→H a=some (.lst v)
  new:∀ a∈ls,H0 a=none
  nd:ls.Nodup
theorem RowsAt.nil {H0 H:Hp}:RowsAt H0 H [] []:=⟨rfl,(fun i a v e _=>by simp at e),(fun a h=>by simp at h),List.nodup_nil⟩
theorem RowsAt.mono {H0 H H':Hp} {ls:List Addr} {vs:List (List V)} (r:RowsAt H0 H ls vs) (s:Same H H'):RowsAt H0 H' ls vs:=⟨r.len,fun i a v e1 e2=>s _ _ (r.at_ i a v e1 e2),r.new,r.nd⟩
theorem RowsAt.there {H0 H:Hp} {ls:List Addr} {vs:List (List V)} (r:RowsAt H0 H ls vs) {a:Addr} (h:a∈ls):∃ v,H a=some (.lst v)∧v∈vs:=by
  obtain ⟨i,e⟩:=List.mem_iff_getElem?.mp h
  have hi:i < vs.length:=by rw [← r.len];exact (List.getElem?_eq_some_iff.mp e).1
  exact ⟨vs[i],r.at_ i a _ e (by simp [hi]),List.getElem_mem hi⟩
theorem RowsAt.snoc {H0 H H':Hp} {ls:List Addr} {vs:List (List V)} {a:Addr} {v:List V} (r:RowsAt H0 H ls vs) (s:Same H H') (h0:H0 a=none) (h1:H a=none) (h2:H' a=some (.lst v)):RowsAt H0 H' (ls++[a]) (vs++[v]):=by
  have na:a ∉ ls:=fun h=>by
    obtain ⟨w,e,_⟩:=r.there h
    rw [h1] at e;cases e
  refine ⟨by rw [List.length_append,List.length_append,r.len];rfl,fun i b u e1 e2=>?_,fun b hb=>?_,?_⟩
  · by_cases hi:i < ls.length
    · rw [List.getElem?_append_left hi] at e1
      rw [List.getElem?_append_left (by rw [← r.len];exact hi)] at e2
      exact s _ _ (r.at_ i b u e1 e2)
    · rw [List.getElem?_append_right (by omega)] at e1
      rw [List.getElem?_append_right (by rw [← r.len];omega),← r.len] at e2
      cases z:i - ls.length with
      | zero =>
        rw [z] at e1 e2
        cases e1
        cases e2
        exact h2
      | succ n=>rw [z] at e1;cases e1
  · rcases List.mem_append.mp hb with z | z
    · exact r.new b z
    · have z:b=a:=by simpa using z
      rw [z];exact h0
  · exact L2.nd_snoc r.nd na
structure TabAt (H0 H:Hp) (l:Addr) (ls:List Addr) (vs:List (List V)):Prop where
  top:H l=some (.lst (ls.map V.ref))
  rows:RowsAt H0 H ls vs
  new:H0 l=none
  out:l ∉ ls
theorem TabAt.mono {H0 H H':Hp} {l:Addr} {ls:List Addr} {vs:List (List V)} (t:TabAt H0 H l ls vs) (s:Same H H'):TabAt H0 H' l ls vs:=⟨s _ _ t.top,t.rows.mono s,t.new,t.out⟩
theorem TabAt.elder {H00 H0 H:Hp} {l:Addr} {ls:List Addr} {vs:List (List V)} (t:TabAt H0 H l ls vs) (s:Same H00 H0):TabAt H00 H l ls vs:=⟨t.top,⟨t.rows.len,t.rows.at_,fun a h=>s.free (t.rows.new a h),t.rows.nd⟩,s.free t.new,t.out⟩
end Lw
namespace Lw
open PySem PySem.Spec L2 PyProof.Rows
abbrev one (c:Nat):Str:=⟨#[c]⟩
theorem rising_le:∀ (a:Nat) (r:List Nat),risingS (one a) (r.map one)=true→(a :: r).Pairwise (·≤·)
  | a,[],_=>by simp
  | a,b :: r,h=>by
    have h':(!ltCps (one b).cps.toList (one a).cps.toList && risingS (one b) (r.map one))=true:=h
    obtain ⟨h1,h2⟩:=Bool.and_eq_true_iff.mp h'
    have ih:=rising_le b r h2
    have hab:a≤b:=by
      have h3:(decide (b < a) || (b == a && false))=false:=by
        have:ltCps [b] [a]=false:=by simpa using h1
        exact this
      have:=(Bool.or_eq_false_iff.mp h3).1
      have:=of_decide_eq_false this
      omega
    refine List.pairwise_cons.mpr ⟨fun x hx=>?_,ih⟩
    rcases List.mem_cons.mp hx with e | hx
    · rw [e];exact hab
    · exact Nat.le_trans hab ((List.pairwise_cons.mp ih).1 x hx)
theorem sorted_lt {cs:List Nat} (h:sortedS (cs.map one)=true) (nd:cs.Nodup):cs.Pairwise (· < ·):=by
  have h1:cs.Pairwise (·≤·):=by
    cases cs with
    | nil=>exact List.Pairwise.nil
    | cons a r=>exact rising_le a r h
  exact (h1.and nd).imp fun ⟨a,b⟩=>Nat.lt_of_le_of_ne a b
theorem perm_ones {cs:List Nat} {ss:List Str} (h:ss.Perm (cs.map one)):∃ cs':List Nat,cs'.Perm cs∧ss=cs'.map one:=by
  refine ⟨ss.map fun z=>z.cps.getD 0 0,?_,?_⟩
  · have:=h.map fun z:Str=>z.cps.getD 0 0
    rw [List.map_map] at this
    have e:(fun z:Str=>z.cps.getD 0 0) ∘ one=id:=by funext c;rfl
    rw [e,List.map_id] at this
    exact this
  · rw [List.map_map]
    conv=>lhs;rw [← List.map_id ss]
    refine List.map_congr_left fun z hz=>?_
    obtain ⟨c,_,rfl⟩:=List.mem_map.mp (h.mem_iff.mp hz)
    rfl
end Lw
namespace Lw
open PySem L2
theorem RulesAt.snoc {H:Hp} {p:Addr} {c:Nat} {w:List Nat} (h:H p=some (.tup [sign c,tx w])):∀ {ps:List Addr} {rs:List Rule},RulesAt H ps rs→RulesAt H (ps++[p]) (rs++[(c,w)])
  | _,_,.nil=>.cons h .nil
  | _,_,.cons h1 r=>.cons h1 (r.snoc h)
theorem one_inj {a b:Nat} (h:one a=one b):a=b:=by
  have:=congrArg (fun z:Str=>z.cps.getD 0 0) h
  exact this
end Lw
namespace Lw
def dot (xs ys:List Int):Int:=(List.zipWith (· * ·) xs ys).sum
theorem dot_cons (x y:Int) (xs ys:List Int):dot (x :: xs) (y :: ys)=x * y+dot xs ys:=by
  unfold dot
  rw [List.zipWith_cons_cons,List.sum_cons]
theorem dot_nil_l (ys:List Int):dot [] ys=0:=by unfold dot;simp
theorem dot_nil_r (xs:List Int):dot xs []=0:=by unfold dot;simp
theorem dot_comm:∀ xs ys:List Int,dot xs ys=dot ys xs
  | [],ys=>by rw [dot_nil_l,dot_nil_r]
  | x :: xs,[]=>by rw [dot_nil_l,dot_nil_r]
  | x :: xs,y :: ys=>by rw [dot_cons,dot_cons,dot_comm xs ys,Int.mul_comm]
def colAt (T:List (List Int)) (j:Nat):List Int:=T.map fun r=>r.getD j 0
def stepC (k:Nat) (T:List (List Int)) (c:List Int):List Int:=(List.range k).map fun j=>dot c (colAt T j)
def stepL (T:List (List Int)) (l:List Int):List Int:=T.map fun r=>dot r l
def cntN (k:Nat) (T:List (List Int)) (c:List Int):Nat→List Int
  | 0=>c
  | n+1=>stepC k T (cntN k T c n)
theorem dot_lin {α:Type} (x:Int) (f g:α→Int):∀ (L:List α) (l:List Int),dot (L.map fun j=>x * f j+g j) l=x * dot (L.map f) l+dot (L.map g) l
  | [],l=>by simp [dot_nil_l]
  | a :: L,[]=>by rw [dot_nil_r,dot_nil_r,dot_nil_r];omega
  | a :: L,y :: l=>by
    rw [List.map_cons,List.map_cons,List.map_cons,dot_cons,dot_cons,dot_cons,dot_lin x f g L l,Int.add_mul,Int.mul_add,Int.mul_assoc]
    omega
theorem dot_zero {α:Type}:∀ (L:List α) (l:List Int),dot (L.map fun _=>0) l=0
  | [],l=>dot_nil_l _
  | a :: L,[]=>dot_nil_r _
  | a :: L,y :: l=>by
    rw [List.map_cons,dot_cons,dot_zero L l]
    omega
theorem range_getD {r:List Int} {k:Nat} (h:r.length=k):(List.range k).map (fun j=>r.getD j 0)=r:=by
  subst h
  refine List.ext_getElem (by simp) fun i h1 h2=>?_
  simp [List.getElem_map]
  rw [List.getElem?_eq_getElem h2]
  rfl
theorem dot_exch (k:Nat) (l:List Int):∀ (T:List (List Int)) (c:List Int),(∀ r∈T,r.length=k)→c.length=T.length→dot c (stepL T l)=dot (stepC k T c) l
  | [],c,_,_=>by
    show dot c []=dot ((List.range k).map fun j=>dot c []) l
    simp only [dot_nil_r]
    rw [dot_zero]
  | r :: T,[],_,hc=>by cases hc
  | r :: T,x :: c,hT,hc=>by
    have ih:=dot_exch k l T c (fun r hr=>hT r (List.mem_cons_of_mem _ hr)) (Nat.succ.inj hc)
    show dot (x :: c) (dot r l :: stepL T l)=dot ((List.range k).map fun j=>dot (x :: c) (r.getD j 0 :: colAt T j)) l
    rw [dot_cons,ih]
    simp only [dot_cons]
    rw [dot_lin x (fun j=>r.getD j 0) (fun j=>dot c (colAt T j)),range_getD (hT r List.mem_cons_self)]
    rfl
theorem stepC_len (k:Nat) (T:List (List Int)) (c:List Int):(stepC k T c).length=k:=by unfold stepC;simp
theorem cntN_len {k:Nat} {T:List (List Int)} {c:List Int} (h:c.length=k):∀ n,(cntN k T c n).length=k
  | 0=>h
  | n+1=>stepC_len _ _ _
def Bd (e:Nat) (c:List Int):Prop:=∀ x∈c,0≤x∧x < 2 ^ e
def Sm (c:List Int):Prop:=∀ x∈c,0≤x∧x≤6
theorem dot_bd {e:Nat}:∀ (c d:List Int),Bd e c→Sm d→0≤dot c d∧dot c d≤(c.length:Int) * (6 * 2 ^ e)
  | [],d,_,_=>by rw [dot_nil_l];simp
  | x :: c,[],_,_=>by
    rw [dot_nil_r]
    refine ⟨Int.le_refl _,Int.mul_nonneg (Int.natCast_nonneg _) (Int.mul_nonneg (by decide) ?_)⟩
    exact Int.le_of_lt (Int.pow_pos (by decide))
  | x :: c,y :: d,hc,hd=>by
    obtain ⟨h1,h2⟩:=dot_bd c d (fun z hz=>hc z (List.mem_cons_of_mem _ hz)) (fun z hz=>hd z (List.mem_cons_of_mem _ hz))
    obtain ⟨a1,a2⟩:=hc x List.mem_cons_self
    obtain ⟨b1,b2⟩:=hd y List.mem_cons_self
    have m1:0≤x * y:=Int.mul_nonneg a1 b1
    have m2:x * y≤2 ^ e * 6:=Int.mul_le_mul (Int.le_of_lt a2) b2 b1 (Int.le_of_lt (Int.pow_pos (by decide)))
    rw [dot_cons,List.length_cons]
    generalize (2:Int) ^ e=E at *
    refine ⟨by omega,?_⟩
    have:((c.length+1:Nat):Int) * (6 * E)=(c.length:Int) * (6 * E)+6 * E:=by
      rw [Int.natCast_add,Int.add_mul]
      simp
    rw [this]
    omega
theorem dot_bd8 {e:Nat} {c d:List Int} (hc:Bd e c) (hd:Sm d) (hl:c.length≤8):0≤dot c d∧dot c d < 2 ^ (e+6):=by
  obtain ⟨h1,h2⟩:=dot_bd c d hc hd
  refine ⟨h1,?_⟩
  have hp:(0:Int) < 2 ^ e:=Int.pow_pos (by decide)
  rw [Int.pow_add]
  generalize (2:Int) ^ e=E at *
  have h3:(c.length:Int) * (6 * E)≤8 * (6 * E):=Int.mul_le_mul_of_nonneg_right (by omega) (by omega)
  have h4:E * 2 ^ 6=64 * E:=by rw [Int.mul_comm];rfl
  rw [h4]
  omega
theorem cntN_bd {k e:Nat} {T:List (List Int)} {c:List Int} (hk:k≤8) (hT:∀ j,Sm (colAt T j)) (hl:c.length=k) (hc:Bd e c):∀ n,Bd (e+6 * n) (cntN k T c n)
  | 0=>hc
  | n+1=>fun x hx=>by
    unfold cntN stepC at hx
    obtain ⟨j,_,rfl⟩:=List.mem_map.mp hx
    exact dot_bd8 (cntN_bd hk hT hl hc n) (hT j) (by rw [cntN_len hl];exact hk)
theorem col_sm {T:List (List Int)} (hT:∀ r∈T,Sm r) (j:Nat):Sm (colAt T j):=fun x hx=>by
  unfold colAt at hx
  obtain ⟨r,hr,rfl⟩:=List.mem_map.mp hx
  rw [List.getD_eq_getElem?_getD]
  cases e:r[j]? with
  | none=>simp
  | some y=>exact hT r hr y (List.mem_of_getElem? e)
end Lw
namespace Lw
open PySem L2
theorem bits_abs {k:Int} {n:Nat} (h:k.natAbs < 2 ^ n):Builtin.Int.intBits k≤n:=by
  unfold Builtin.Int.intBits
  split
  · exact Nat.zero_le _
  · rename_i hz
    have h0:k.natAbs≠0:=by
      intro e
      apply hz
      simpa using Int.natAbs_eq_zero.mp e
    have:=(Nat.log2_lt h0).mpr h
    omega
def Bz (e:Nat) (c:List Int):Prop:=∀ x∈c,x.natAbs < 2 ^ e
theorem Bd.z {e:Nat} {c:List Int} (h:Bd e c):Bz e c:=fun x hx=>by
  obtain ⟨h1,h2⟩:=h x hx
  have h3:((x.natAbs:Nat):Int)=x:=Int.natAbs_of_nonneg h1
  have h4:((2 ^ e:Nat):Int)=(2:Int) ^ e:=by push_cast;rfl
  rw [← h3,← h4] at h2
  exact Int.ofNat_lt.mp h2
theorem Sm.bd {c:List Int} (h:Sm c):Bd 3 c:=fun x hx=>by
  have:=h x hx
  have e:(2:Int) ^ 3=8:=by decide
  rw [e]
  omega
structure TabV (H:Hp) (l:Addr) (ls:List Addr) (vs:List (List Int)):Prop where
  top:H l=some (.lst (ls.map V.ref))
  len:ls.length=vs.length
  at_:∀ (i:Nat) a v,ls[i]? = some a→vs[i]? = some v→H a=some (.lst (v.map V.int))
theorem TabV.mono {H H':Hp} {l:Addr} {ls:List Addr} {vs:List (List Int)} (t:TabV H l ls vs) (s:Same H H'):TabV H' l ls vs:=⟨s _ _ t.top,t.len,fun i a v e1 e2=>s _ _ (t.at_ i a v e1 e2)⟩
theorem TabV.get {H:Hp} {l:Addr} {ls:List Addr} {vs:List (List Int)} (t:TabV H l ls vs) {i:Nat} {v:List Int} (e:vs[i]? = some v):∃ a,ls[i]? = some a∧H a=some (.lst (v.map V.int)):=by
  have hi:i < ls.length:=by rw [t.len];exact (List.getElem?_eq_some_iff.mp e).1
  exact ⟨ls[i],List.getElem?_eq_getElem hi,t.at_ i _ v (List.getElem?_eq_getElem hi) e⟩
theorem TabV.get' {H:Hp} {l:Addr} {ls:List Addr} {vs:List (List Int)} (t:TabV H l ls vs) {i:Nat} {a:Addr} (e:ls[i]? = some a):∃ v,vs[i]? = some v∧H a=some (.lst (v.map V.int)):=by
  have hi:i < vs.length:=by rw [← t.len];exact (List.getElem?_eq_some_iff.mp e).1
  exact ⟨vs[i],List.getElem?_eq_getElem hi,t.at_ i _ _ e (List.getElem?_eq_getElem hi)⟩
def tabI (rs:List Rule):List (List Int):=rs.map fun q=>rs.map fun q'=>((q.2.count q'.1:Nat):Int)
def c0 (rs:List Rule) (w:List Nat):List Int:=rs.map fun q=>((w.count q.1:Nat):Int)
theorem tabI_len (rs:List Rule):(tabI rs).length=rs.length:=by unfold tabI;rw [List.length_map]
theorem c0_len (rs:List Rule) (f:List Nat):(c0 rs f).length=rs.length:=by unfold c0;rw [List.length_map]
theorem tabI_row {rs:List Rule} {r:List Int} (h:r∈tabI rs):r.length=rs.length:=by
  unfold tabI at h
  obtain ⟨q,_,rfl⟩:=List.mem_map.mp h
  rw [List.length_map]
theorem tabI_sm {first:List Nat} {rs:List Rule} (hG:Good first rs) {r:List Int} (h:r∈tabI rs):Sm r:=fun x hx=>by
  unfold tabI at h
  obtain ⟨q,hq,rfl⟩:=List.mem_map.mp h
  obtain ⟨q',_,rfl⟩:=List.mem_map.mp hx
  have h1:=hG.wl q hq
  have h2:q.2.count q'.1≤q.2.length:=List.count_le_length
  omega
theorem c0_bd {first:List Nat} {rs:List Rule} (hG:Good first rs):Bd 4 (c0 rs first):=fun x hx=>by
  unfold c0 at hx
  obtain ⟨q,_,rfl⟩:=List.mem_map.mp hx
  have h2:first.count q.1≤first.length:=List.count_le_length
  have:=hG.fl
  have h3:(2:Int) ^ 4=16:=by decide
  rw [h3]
  omega
theorem rng_take {k i:Nat} {α:Type} (f:Nat→α) (h:i < k):((List.range k).take (i+1)).map f=((List.range k).take i).map f++[f i]:=take_snoc f (List.getElem?_range h)
theorem rng_at {n i:Nat} {x:V} (h:(rngV 0 n)[i]? = some x):i < n∧x=.int (i:Int):=by
  have h1:i < n:=by
    have:=(List.getElem?_eq_some_iff.mp h).1
    rwa [rngV_length] at this
  refine ⟨h1,?_⟩
  unfold rngV at h
  rw [List.getElem?_map,List.getElem?_range h1] at h
  have:=(Option.some.inj h).symm
  rw [this]
  show V.int (0+(i:Int))=_
  rw [Int.zero_add]
theorem take_rng (k:Nat):(List.range k).take k=List.range k:=by
  have:=take_all (List.range k)
  rwa [List.length_range] at this
def lk:List Nat→List Int→Nat→Int
  | c :: cs,n :: ns,x=>if c=x then n else lk cs ns x
  | _,_,_=>0
theorem lk_cons_sum (c:Nat) (n:Int) (cs:List Nat) (ns:List Int) (hc:c ∉ cs):∀ w:List Nat,(w.map (lk (c :: cs) (n :: ns))).sum=(w.count c:Nat) * n+(w.map (lk cs ns)).sum - (w.count c:Nat) * lk cs ns c
  | []=>by simp
  | x :: w=>by
    have ih:=lk_cons_sum c n cs ns hc w
    rw [List.map_cons,List.map_cons,List.sum_cons,List.sum_cons,ih]
    by_cases e:c=x
    · subst e
      rw [List.count_cons_self]
      have:lk (c :: cs) (n :: ns) c=n:=by unfold lk;rw [if_pos rfl]
      rw [this]
      push_cast
      rw [Int.add_mul,Int.add_mul]
      omega
    · rw [List.count_cons_of_ne (by simpa using fun z:x=c=>e z.symm)]
      have:lk (c :: cs) (n :: ns) x=lk cs ns x:=by
        show (if c=x then n else lk cs ns x)=_
        rw [if_neg e]
      rw [this]
      omega
theorem lk_out:∀ {cs:List Nat} {ns:List Int} {c:Nat},c ∉ cs→lk cs ns c=0
  | [],_,_,_=>by unfold lk;rfl
  | _ :: _,[],_,_=>by unfold lk;rfl
  | a :: cs,n :: ns,c,h=>by
    unfold lk
    rw [if_neg fun z=>h (by rw [z];exact List.mem_cons_self)]
    exact lk_out fun z=>h (List.mem_cons_of_mem _ z)
theorem lk_sum:∀ {cs:List Nat} {ns:List Int} (w:List Nat),cs.Nodup→ns.length=cs.length→(w.map (lk cs ns)).sum=dot (cs.map fun c=>((w.count c:Nat):Int)) ns
  | [],[],w,_,_=>by
    rw [dot_nil_r]
    induction w with
    | nil=>rfl
    | cons x w ih =>
      rw [List.map_cons,List.sum_cons,ih]
      unfold lk
      rfl
  | c :: cs,n :: ns,w,nd,hl=>by
    rw [lk_cons_sum c n cs ns (List.nodup_cons.mp nd).1 w,List.map_cons,dot_cons,lk_sum w (List.nodup_cons.mp nd).2 (Nat.succ.inj hl),lk_out (List.nodup_cons.mp nd).1]
    omega
  | [],_ :: _,_,_,h=>by cases h
  | _ :: _,[],_,_,h=>by cases h
def ltr (rs:List Rule):List Nat:=rs.map (·.1)
theorem Good.nd {first:List Nat} {rs:List Rule} (h:Good first rs):(ltr rs).Nodup:=h.rise.imp fun a=>Nat.ne_of_lt a
theorem c0_eq (rs:List Rule) (w:List Nat):c0 rs w=(ltr rs).map fun c=>((w.count c:Nat):Int):=by unfold c0 ltr;rw [List.map_map];rfl
end Lw
namespace Lw
open PySem L2
theorem atI_last {α:Type} {xs:List α} {j:Nat} {v:α} (hl:xs.length=j+1) (h:xs[j]? = some v):atI xs (-1)=some v:=by
  unfold atI ixN
  rw [if_neg (by omega),if_pos (by omega)]
  have:(-1+(xs.length:Int)).toNat=j:=by omega
  rw [this]
  exact h
theorem cut_take (xs:List V) (m:Nat):cutV xs none (some (m:Int))=xs.take m:=by
  unfold cutV HT.sIx
  rw [List.drop_zero]
  simp only [Nat.sub_zero]
  by_cases h:m≤xs.length
  · congr 1
    first | (split <;> omega) | omega | simp [h] <;> omega
  · rw [List.take_of_length_le (l:=xs) (i:=m) (by omega)]
    refine List.take_of_length_le ?_
    first | (split <;> omega) | omega
theorem TabV.snoc {H H':Hp} {l d:Addr} {ls:List Addr} {vs:List (List Int)} {v:List Int} (t:TabV H l ls vs) (s:∀ a∈ls,∀ o,H a=some o→H' a=some o) (h1:H' l=some (.lst (ls.map V.ref++[V.ref d]))) (h2:H' d=some (.lst (v.map V.int))):TabV H' l (ls++[d]) (vs++[v]):=by
  refine ⟨by rw [h1,List.map_append];rfl,by rw [List.length_append,List.length_append,t.len];rfl,fun i a u e1 e2=>?_⟩
  by_cases hi:i < ls.length
  · rw [List.getElem?_append_left hi] at e1
    rw [List.getElem?_append_left (by rw [← t.len];exact hi)] at e2
    exact s a (List.mem_of_getElem? e1) _ (t.at_ i a u e1 e2)
  · rw [List.getElem?_append_right (by omega)] at e1
    rw [List.getElem?_append_right (by rw [← t.len];omega),← t.len] at e2
    cases z:i - ls.length with
    | zero =>
      rw [z] at e1 e2
      cases e1
      cases e2
      exact h2
    | succ n=>rw [z] at e1;cases e1
theorem TabV.take {H H':Hp} {l d:Addr} {ls:List Addr} {vs:List (List Int)} (m:Nat) (t:TabV H l ls vs) (s:Same H H') (h:H' d=some (.lst ((ls.map V.ref).take m))):TabV H' d (ls.take m) (vs.take m):=by
  refine ⟨by rw [h,List.map_take],by rw [List.length_take,List.length_take,t.len],fun i a u e1 e2=>?_⟩
  rw [List.getElem?_take] at e1 e2
  split at e1
  · rename_i hi
    rw [if_pos hi] at e2
    exact s _ _ (t.at_ i a u e1 e2)
  · cases e1
theorem upd_in {H:Hp} {l:Addr} {o:HO} {c:Addr} {u:HO} (h:H c=some u) (n:c≠l):upd H l o c=some u:=by rw [upd_ne n];exact h
end Lw
namespace Lw
theorem step_cols (k:Nat) (T:List (List Int)) (c:List Int):((List.range k).map fun j=>colAt T j).map (fun r=>dot c r)=stepC k T c:=by rw [List.map_map];rfl
end Lw
namespace Lw
open PySem
end Lw
namespace Lw
open PySem L2
end Lw
namespace Lw
open PySem L2
def md (n:Int) (c:List Int):List Int:=c.map fun x=>x % n
theorem md_len (n:Int) (c:List Int):(md n c).length=c.length:=by unfold md;rw [List.length_map]
theorem md_md (n:Int) (c:List Int):md n (md n c)=md n c:=by
  unfold md
  rw [List.map_map]
  refine List.map_congr_left fun x _=>?_
  exact Int.emod_emod_of_dvd x (Int.dvd_refl n)
theorem dot_md (n:Int):∀ c d:List Int,dot (md n c) d % n=dot c d % n
  | [],d=>rfl
  | x :: c,[]=>by unfold md;rw [dot_nil_r,dot_nil_r]
  | x :: c,y :: d=>by
    have ih:=dot_md n c d
    show dot (x % n :: md n c) (y :: d) % n=_
    rw [dot_cons,dot_cons,Int.add_emod,ih,Int.mul_emod,Int.emod_emod_of_dvd x (Int.dvd_refl n),← Int.mul_emod,← Int.add_emod]
theorem dot_congr {n:Int} {c c':List Int} (h:md n c=md n c') (d:List Int):dot c d % n=dot c' d % n:=by
  rw [← dot_md n c d,h,dot_md]
theorem stepC_congr {n:Int} {k:Nat} {c c':List Int} (S:List (List Int)) (h:md n c=md n c'):md n (stepC k S c)=md n (stepC k S c'):=by
  unfold md stepC
  rw [List.map_map,List.map_map]
  refine List.map_congr_left fun j _=>?_
  exact dot_congr h _
theorem cntN_congr {n:Int} {k:Nat} {T:List (List Int)} {c c':List Int} (h:md n c=md n c'):∀ p,md n (cntN k T c p)=md n (cntN k T c' p)
  | 0=>h
  | p+1=>stepC_congr T (cntN_congr h p)
theorem cntN_add (k:Nat) (T:List (List Int)) (c:List Int) (x:Nat):∀ p,cntN k T (cntN k T c x) p=cntN k T c (x+p)
  | 0=>rfl
  | p+1=>by
    show stepC k T (cntN k T (cntN k T c x) p)=stepC k T (cntN k T c (x+p))
    rw [cntN_add k T c x p]
def mm (k:Nat) (n:Int) (A B:List (List Int)):List (List Int):=A.map fun r=>md n (stepC k B r)
theorem colAt_mm {k:Nat} {n:Int} {A B:List (List Int)} {j:Nat} (hj:j < k):colAt (mm k n A B) j=md n (stepL A (colAt B j)):=by
  unfold colAt mm md stepL
  rw [List.map_map,List.map_map]
  refine List.map_congr_left fun r _=>?_
  show ((stepC k B r).map fun x=>x % n).getD j 0=dot r (colAt B j) % n
  unfold stepC
  rw [List.map_map,List.getD_eq_getElem?_getD,List.getElem?_map,List.getElem?_range hj]
  rfl
theorem mm_step {k:Nat} {n:Int} {A B:List (List Int)} {c:List Int} (hA:∀ r∈A,r.length=k) (hk:A.length=k) (hc:c.length=k):md n (stepC k (mm k n A B) c)=md n (stepC k B (stepC k A c)):=by
  unfold md
  rw [show stepC k (mm k n A B) c=(List.range k).map fun j=>dot c (colAt (mm k n A B) j) from rfl,show stepC k B (stepC k A c)=(List.range k).map fun j=>dot (stepC k A c) (colAt B j) from rfl,List.map_map,List.map_map]
  refine List.map_congr_left fun j hj=>?_
  have hj':=List.mem_range.mp hj
  show dot c (colAt (mm k n A B) j) % n=dot (stepC k A c) (colAt B j) % n
  rw [colAt_mm hj',← dot_exch k _ A c hA (by rw [hc,hk]),dot_comm c,dot_comm c,dot_md]
theorem mm_sq {k:Nat} {n:Int} {A B:List (List Int)} (hk:A.length=k):(mm k n A B).length=k∧∀ r∈mm k n A B,r.length=k:=by
  unfold mm
  refine ⟨by rw [List.length_map,hk],fun r hr=>?_⟩
  obtain ⟨q,_,rfl⟩:=List.mem_map.mp hr
  rw [md_len,stepC_len]
structure Pw (k:Nat) (n:Int) (T S:List (List Int)) (p:Nat):Prop where
  len:S.length=k
  row:∀ r∈S,r.length=k
  is:∀ c:List Int,c.length=k→md n (stepC k S c)=md n (cntN k T c p)
theorem Pw.one {k:Nat} {n:Int} {T:List (List Int)} (h1:T.length=k) (h2:∀ r∈T,r.length=k):Pw k n T T 1:=⟨h1,h2,fun _ _=>rfl⟩
theorem Pw.twice {k:Nat} {n:Int} {T S:List (List Int)} {p:Nat} (h:Pw k n T S p):Pw k n T (mm k n S S) (p+p):=by
  obtain ⟨m1,m2⟩:=mm_sq (n:=n) (B:=S) h.len
  refine ⟨m1,m2,fun c hc=>?_⟩
  rw [mm_step h.row h.len hc,h.is _ (stepC_len _ _ _),← cntN_add k T c p p]
  exact cntN_congr (h.is c hc) p
theorem Pw.led {k:Nat} {n:Int} {T S:List (List Int)} {p x:Nat} (h:Pw k n T S p) {r:List Int} (hr:r.length=k):md n (stepC k S (md n (cntN k T r x)))=md n (cntN k T r (x+p)):=by
  rw [stepC_congr S (md_md n (cntN k T r x)),h.is _ (cntN_len hr x),cntN_add]
end Lw
namespace Lw
open PySem L2
theorem ltr_len (rs:List Rule):(ltr rs).length=rs.length:=by unfold ltr;rw [List.length_map]
end Lw
namespace Lw
open PySem L2
def hit (c s:Nat):Int:=if decide (sign s=sign c)=true then 1 else 0
end Lw
namespace Lw
open PySem L2
def wd:List Rule→Nat→List Nat
  | [],_=>[]
  | q :: rs,c=>if q.1=c then q.2 else wd rs c
def nxt (rs:List Rule) (x:List Nat):List Nat:=(x.map (wd rs)).flatten
def rowN (rs:List Rule) (x:List Nat):Nat→List Nat
  | 0=>x
  | n+1=>nxt rs (rowN rs x n)
theorem wd_mem:∀ {rs:List Rule} {c:Nat},c∈ltr rs→∃ q∈rs,q.1=c∧wd rs c=q.2
  | [],c,h=>by simp [ltr] at h
  | q :: rs,c,h=>by
    by_cases e:q.1=c
    · exact ⟨q,List.mem_cons_self,e,by unfold wd;rw [if_pos e]⟩
    · have h':c∈ltr rs:=by
        rcases List.mem_cons.mp (show c∈q.1 :: ltr rs from h) with z | z
        · exact absurd z.symm e
        · exact z
      obtain ⟨q',a,b,d⟩:=wd_mem h'
      exact ⟨q',List.mem_cons_of_mem _ a,b,by unfold wd;rw [if_neg e];exact d⟩
theorem lk_wd (f:List Nat→Int):∀ {rs:List Rule} {c:Nat},c∈ltr rs→lk (ltr rs) (rs.map fun q=>f q.2) c=f (wd rs c)
  | [],c,h=>by simp [ltr] at h
  | q :: rs,c,h=>by
    show (if q.1=c then f q.2 else lk (ltr rs) (rs.map fun q=>f q.2) c)=f (if q.1=c then q.2 else wd rs c)
    by_cases e:q.1=c
    · rw [if_pos e,if_pos e]
    · have h':c∈ltr rs:=by
        rcases List.mem_cons.mp (show c∈q.1 :: ltr rs from h) with z | z
        · exact absurd z.symm e
        · exact z
      rw [if_neg e,if_neg e]
      exact lk_wd f h'
theorem nxt_in {first:List Nat} {rs:List Rule} (hG:Good first rs) {x:List Nat} (hx:∀ c∈x,c∈ltr rs):∀ c∈nxt rs x,c∈ltr rs:=fun c hc=>by
  unfold nxt at hc
  obtain ⟨l,hl,hc⟩:=List.mem_flatten.mp hc
  obtain ⟨a,ha,rfl⟩:=List.mem_map.mp hl
  obtain ⟨q,hq,_,e⟩:=wd_mem (hx a ha)
  rw [e] at hc
  exact hG.win q hq c hc
theorem rowN_in {first:List Nat} {rs:List Rule} (hG:Good first rs) {x:List Nat} (hx:∀ c∈x,c∈ltr rs):∀ n,∀ c∈rowN rs x n,c∈ltr rs
  | 0=>hx
  | n+1=>nxt_in hG (rowN_in hG hx n)
theorem count_nxt {rs:List Rule} (d:Nat):∀ {x:List Nat},(∀ c∈x,c∈ltr rs)→(((nxt rs x).count d:Nat):Int)=(x.map (lk (ltr rs) (rs.map fun q=>((q.2.count d:Nat):Int)))).sum
  | [],_=>rfl
  | c :: x,h=>by
    have ih:=count_nxt (rs:=rs) d (x:=x) fun c hc=>h c (List.mem_cons_of_mem _ hc)
    have e:nxt rs (c :: x)=wd rs c++nxt rs x:=by unfold nxt;rw [List.map_cons,List.flatten_cons]
    rw [e,List.count_append,List.map_cons,List.sum_cons,← ih,lk_wd (fun w=>((w.count d:Nat):Int)) (h c List.mem_cons_self)]
    push_cast
    rfl
theorem col_tabI (rs:List Rule) {j:Nat} {q:Rule} (h:rs[j]? = some q):colAt (tabI rs) j=rs.map fun p=>((p.2.count q.1:Nat):Int):=by
  unfold colAt tabI
  rw [List.map_map]
  refine List.map_congr_left fun p _=>?_
  show (rs.map fun q'=>((p.2.count q'.1:Nat):Int)).getD j 0=_
  rw [List.getD_eq_getElem?_getD,List.getElem?_map,h]
  rfl
theorem word_sum' {first:List Nat} {rs:List Rule} (hG:Good first rs) (ns:List Int) (hl:ns.length=rs.length) (x:List Nat):(x.map (lk (ltr rs) ns)).sum=dot (c0 rs x) ns:=by
  rw [lk_sum x hG.nd (by rw [hl];unfold ltr;rw [List.length_map]),c0_eq]
theorem c0_nxt {first:List Nat} {rs:List Rule} (hG:Good first rs) {x:List Nat} (hx:∀ c∈x,c∈ltr rs):c0 rs (nxt rs x)=stepC rs.length (tabI rs) (c0 rs x):=by
  refine List.ext_getElem? fun j=>?_
  unfold stepC
  rw [List.getElem?_map]
  by_cases hj:j < rs.length
  · have e:=List.getElem?_eq_getElem hj
    rw [List.getElem?_range hj]
    unfold c0
    rw [List.getElem?_map,e]
    show some (((nxt rs x).count rs[j].1:Nat):Int)=some (dot (c0 rs x) (colAt (tabI rs) j))
    rw [col_tabI rs e,count_nxt _ hx,word_sum' hG _ (by rw [List.length_map])]
  · rw [List.getElem?_eq_none (by rw [c0_len];omega),List.getElem?_eq_none (by rw [List.length_range];omega)]
    rfl
theorem cnt_row {first:List Nat} {rs:List Rule} (hG:Good first rs) {x:List Nat} (hx:∀ c∈x,c∈ltr rs):∀ n,cntN rs.length (tabI rs) (c0 rs x) n=c0 rs (rowN rs x n)
  | 0=>rfl
  | n+1=>by
    show stepC rs.length (tabI rs) (cntN rs.length (tabI rs) (c0 rs x) n)=c0 rs (nxt rs (rowN rs x n))
    rw [cnt_row hG hx n,c0_nxt hG (rowN_in hG hx n)]
end Lw
namespace Lw
open PySem L2
theorem rowN_next (rs:List Rule) (x:List Nat):∀ n,rowN rs x (n+1)=rowN rs (nxt rs x) n
  | 0=>rfl
  | n+1=>by
    show nxt rs (rowN rs x (n+1))=nxt rs (rowN rs (nxt rs x) n)
    rw [rowN_next rs x n]
def szN (rs:List Rule) (n c:Nat):Nat:=(rowN rs [c] n).length
def pick (f:Nat→Nat):List Nat→Nat→Nat × Nat
  | [],l=>(0,l)
  | c :: x,l=>if f c≤l then ((pick f x (l - f c)).1+1,(pick f x (l - f c)).2) else (0,l)
end Lw
namespace Lw
open PySem L2
def top (i:Nat):Stmt:=PySem.Challenge.pw_linegrow_k49_whole_three_books.main.body.getD i (.Pass ⟨0,0,0,0⟩)
abbrev sRul:Stmt:=top 1
abbrev sLet:Stmt:=top 2
abbrev sTal:Stmt:=top 4
abbrev sTab:Stmt:=top 5
abbrev sCol:Stmt:=top 6
abbrev sCls:Stmt:=top 7
abbrev sPrs:Stmt:=top 8
abbrev sOao:Stmt:=top 9
abbrev sFcs:Stmt:=top 10
abbrev sFws:Stmt:=top 11
abbrev sFls:Stmt:=top 12
abbrev sCob:Stmt:=top 14
abbrev sTie:Stmt:=top 15
abbrev sLea:Stmt:=top 16
abbrev sMkd:Stmt:=top 17
abbrev sClr:Stmt:=top 18
abbrev sLsh:Stmt:=top 19
abbrev sSta:Stmt:=top 21
abbrev sFun:Stmt:=top 22
abbrev sToa:Stmt:=top 23
abbrev sLe2:Stmt:=top 24
abbrev sWe2:Stmt:=top 25
abbrev sPen:Stmt:=top 27
abbrev sTak:Stmt:=top 28
abbrev sMix:Stmt:=top 29
abbrev sTxt:Stmt:=top 30
abbrev sWei:Stmt:=top 31
abbrev sFre:Stmt:=top 32
abbrev sNam:Stmt:=top 33
abbrev sOth:Stmt:=top 34
abbrev sWgs:Stmt:=top 35
abbrev sBok:Stmt:=top 36
abbrev sLds:Stmt:=top 37
abbrev sAge:Stmt:=top 38
abbrev sAsk:Stmt:=top 39
abbrev sDue:Stmt:=top 40
abbrev sLaw:Stmt:=top 41
end Lw
namespace Lw
open PySem L2
structure Gf (K:PySem.W.Frag) (mg:Str→Option Value) (x:Str) (f:Addr) (fd:FuncData) (ps:List Str):Prop where
  m:mg x=some (.ref f)
  k:PySem.W.keepIn K (.ref f)=true
  b:Binds K fd ps []
section
variable {P:Program} {w:World} {K:PySem.W.Frag} {mg:Str→Option Value} {base:Heap}
def spRul:Sp:=fun vs H Q _=>∃ (r:Addr) (ps:List Addr) (rs:List Rule),vs=[.ref r]∧H r=some (.tup (ps.map V.ref))∧RulesAt H ps rs∧rs.length≤8 ∧
  ∀ l H',Same H H'→H l=none→H' l=some (.lst (rs.map fun q=>sign q.1))→Q (.ref l) H'
theorem nd_rule:(["rule"]:List Str).Nodup:=by decide +kernel
theorem scRul:FnScope ["rules"] ["rules"] (defScope sRul):=⟨rfl,rfl,rfl,by decide +kernel,rfl,by decide +kernel,by decide +kernel⟩
theorem ok_rul {f:Addr} {fd:FuncData} (F:Fun K "ruled_letters" "ruled_letters" sRul f fd):FnOk P w K mg base CX0 1 f fd ["rules"] spRul:=by
  refine F.ok scRul (fun vs H Q E h=>?_) (fun cdv A outer s H vs Q E hr h=>?_)
  · obtain ⟨r,ps,rs,rfl,_⟩:=h
    rfl
  · obtain ⟨r,ps,rs,rfl,hr1,hR,hl,k⟩:=h
    refine ⟨_,pss_one (ps_ret (pe_comp (N':=["rule"]) (ix:=[none]) rfl rfl (pi_tup (pv 0)) (fun _ _ _ _ _ _=>pg_name (i:=0) nd_rule rfl (Or.inl rfl)) (fun _ _ _ _ _ _=>pts_nil)
      (fun _ _ _ _ _ _=>pe_ix (r:=rIxT K) ix_tup (pv 0) pe_int (fun _ _=>rfl)))),?_⟩
    refine ⟨_,rfl,r,rfl,⟨_,SqT.of hr1⟩,comp_all (sure_tup (xs:=ps.map V.ref)) (by rw [List.length_map,hR.len];omega) (fun i ys τ H2=>H2=H∧ys=(rs.take i).map (fun q=>sign q.1)∧∃ v,τ=[v]) ⟨rfl,rfl,_,rfl⟩ ?_ ?_ ?_⟩
    · rintro i ys τ H2 hi ⟨rfl,rfl,_⟩
      exact ⟨SqT.of hr1,by rw [List.length_map,List.length_take];omega⟩
    · rintro i x ys τ H2 hx ⟨rfl,rfl,v,rfl⟩
      rw [List.getElem?_map] at hx
      cases e:ps[i]? with
      | none=>rw [e] at hx;cases hx
      | some p =>
        rw [e] at hx
        cases hx
        obtain ⟨c,w',e1,e2⟩:=hR.get e
        exact ⟨_,rfl,p,_,_,_,rfl,rfl,SqT.of e2,atI_nat (j:=0) rfl,rfl,(take_snoc _ e1).symm,_,rfl⟩
    · rintro ys τ H2 D ⟨rfl,rfl,_⟩ hD
      refine k D _ (Same.add hD) hD ?_
      rw [upd_same,List.length_map,hR.len,take_all]
def spLet:Sp:=fun vs H Q _=>∃ (t:Addr) (first:List Nat) (rs:List Rule),vs=[.ref t]∧BookAt H t first rs∧rs.length≤8∧∀ H',Same H H'→Q (tx (rs.map (·.1))) H'
theorem scLet:FnScope ["book"] ["book"] (defScope sLet):=⟨rfl,rfl,rfl,by decide +kernel,rfl,by decide +kernel,by decide +kernel⟩
theorem ok_let {f f1:Addr} {fd fd1:FuncData} (F:Fun K "letters" "letters" sLet f fd) (G:FnOk P w K mg base CX0 1 f1 fd1 ["rules"] spRul) (g:Gf K mg "ruled_letters" f1 fd1 ["rules"]):FnOk P w K mg base CX0 2 f fd ["book"] spLet:=by
  refine F.ok scLet (fun vs H Q E h=>?_) (fun cdv A outer s H vs Q E hr h=>?_)
  · obtain ⟨t,first,rs,rfl,_⟩:=h
    rfl
  · obtain ⟨t,first,rs,rfl,hB,hl,k⟩:=h
    refine ⟨_,pss_one (ps_ret (pe_bm PySem.F.plainAttrs_str PySem.F.slot_str_join PySem.F.type_str_join mt_join pe_str (pa_cons (pe_call G hr rfl g.m g.k g.b .nil pass0 (pa_cons (pe_ix ix_tup (pv 0) pe_int (fun _ _=>rfl)) pa_nil)) pa_nil))),?_⟩
    obtain ⟨r,ps,h1,h2,h3⟩:=hB.ex
    refine ⟨rfl,_,rfl,t,_,_,_,rfl,rfl,SqT.of h1,atI_nat (j:=1) rfl,r,ps,rs,rfl,h2,h3,hl,fun l H' s1 hl1 hl2=>?_⟩
    refine ⟨_,l,rs.map fun q=>(⟨#[q.1]⟩:Str),rfl,rfl,SqL.of (by rw [hl2,List.map_map];rfl),?_,?_⟩
    · have e:(rs.map fun q=>(⟨#[q.1]⟩:Str))=(rs.map (·.1)).map fun c=>(⟨#[c]⟩:Str):=by rw [List.map_map];rfl
      rw [e,sum_ones]
      simp only [List.length_map]
      show rs.length+rs.length * 0≤_
      omega
    · have e:(rs.map fun q=>(⟨#[q.1]⟩:Str))=(rs.map (·.1)).map fun c=>(⟨#[c]⟩:Str):=by rw [List.map_map];rfl
      have e2:Txt.join (Str.ofString "") (rs.map fun q=>(⟨#[q.1]⟩:Str))=⟨(rs.map (·.1)).toArray⟩:=by
        rw [e]
        exact join_signs _
      rw [e2]
      exact k H' s1
def cnts (rs:List Rule) (w:List Nat):List V:=rs.map fun q=>V.int ((w.count q.1:Nat):Int)
def spTal:Sp:=fun vs H Q _=>∃ (t:Addr) (first:List Nat) (rs:List Rule) (w:List Nat),vs=[.ref t,tx w]∧BookAt H t first rs∧rs.length≤8∧∀ l H',Same H H'→H l=none→H' l=some (.lst (cnts rs w))→Q (.ref l) H'
theorem scTal:FnScope ["book","text"] ["book","text"] (defScope sTal):=⟨rfl,rfl,rfl,by decide +kernel,rfl,by decide +kernel,by decide +kernel⟩
theorem nd_tal:(["letter","text"]:List Str).Nodup:=by decide +kernel
theorem type_count:typeOf (.builtin "str.count")=pure (.type "method_descriptor"):=by first | exact PySem.F.type_str_count | (show builtinType _=_;rw [builtinType_eq_fast];kernel_rfl)
theorem ok_tal {f f1:Addr} {fd fd1:FuncData} (F:Fun K "tally" "tally" sTal f fd) (G:FnOk P w K mg base CX0 2 f1 fd1 ["book"] spLet) (g:Gf K mg "letters" f1 fd1 ["book"]):FnOk P w K mg base CX0 3 f fd ["book","text"] spTal:=by
  refine F.ok scTal (fun vs H Q E h=>?_) (fun cdv A outer s H vs Q E hr h=>?_)
  · obtain ⟨t,first,rs,w',rfl,_⟩:=h
    rfl
  · obtain ⟨t,first,rs,w',rfl,hB,hl,k⟩:=h
    refine ⟨_,pss_one (ps_ret (pe_comp (N':=["letter","text"]) (ix:=[none,some 1]) rfl rfl (pi_str (pe_call G hr rfl g.m g.k g.b .nil pass0 (pa_cons (pv 0) pa_nil))) (fun _ _ _ _ _ _=>pg_name (i:=0) nd_tal rfl (Or.inl rfl)) (fun _ _ _ _ _ _=>pts_nil)
      (fun _ _ _ _ _ _=>show PE _ _ (tBM K _ _ _ _) from pe_bm PySem.F.plainAttrs_str PySem.F.slot_str_count type_count mt_count (pv 1) (pa_cons (pv 0) pa_nil)))),?_⟩
    refine ⟨_,rfl,t,first,rs,rfl,hB,hl,fun H1 s1=>⟨_,rfl,comp_all sure_str (by rw [List.length_map];show (rs.map (·.1)).length≤_;rw [List.length_map];omega)
      (fun i ys τ H2=>H2=H1∧ys=cnts (rs.take i) w'∧∃ v,τ=[v,some (tx w')]) ⟨rfl,rfl,_,rfl⟩ ?_ ?_ ?_⟩⟩
    · rintro i ys τ H2 hi ⟨rfl,rfl,_⟩
      refine ⟨trivial,?_⟩
      unfold cnts
      rw [List.length_map,List.length_take]
      omega
    · rintro i x ys τ H2 hx ⟨rfl,rfl,v,rfl⟩
      have hx':((rs.map (·.1)).map sign)[i]? = some x:=hx
      rw [List.map_map,List.getElem?_map] at hx'
      cases e:rs[i]? with
      | none=>rw [e] at hx';cases hx'
      | some q =>
        rw [e] at hx'
        cases hx'
        refine ⟨_,rfl,rfl,_,rfl,⟨w'.toArray⟩,⟨#[q.1]⟩,rfl,rfl,rfl,?_,_,rfl⟩
        rw [count_one]
        unfold cnts
        exact (take_snoc _ e).symm
    · rintro ys τ H2 D ⟨rfl,rfl,_⟩ hD
      refine k D _ (s1.trans (Same.add hD)) (s1.free hD) ?_
      rw [upd_same]
      have e:(((⟨(rs.map (·.1)).toArray⟩:Str).cps.toList).map sign).length=rs.length:=by simp
      rw [e,take_all]
end
end Lw
namespace Lw
open PySem L2
section
variable {P:Program} {w:World} {K:PySem.W.Frag} {mg:Str→Option Value} {base:Heap}
def tabV (rs:List Rule):List (List V):=rs.map fun q=>cnts rs q.2
def spTab:Sp:=fun vs H Q _=>∃ (t:Addr) (first:List Nat) (rs:List Rule),vs=[.ref t]∧BookAt H t first rs∧rs.length≤8∧∀ l ls H',Same H H'→TabAt H H' l ls (tabV rs)→Q (.ref l) H'
theorem scTab:FnScope ["book"] ["book"] (defScope sTab):=⟨rfl,rfl,rfl,by decide +kernel,rfl,by decide +kernel,by decide +kernel⟩
theorem nd_tab:(["rule","book"]:List Str).Nodup:=by decide +kernel
theorem ok_tab {f f1:Addr} {fd fd1:FuncData} (F:Fun K "table" "table" sTab f fd) (G:FnOk P w K mg base CX0 3 f1 fd1 ["book","text"] spTal) (g:Gf K mg "tally" f1 fd1 ["book","text"]):FnOk P w K mg base CX0 4 f fd ["book"] spTab:=by
  refine F.ok scTab (fun vs H Q E h=>?_) (fun cdv A outer s H vs Q E hr h=>?_)
  · obtain ⟨t,first,rs,rfl,_⟩:=h
    rfl
  · obtain ⟨t,first,rs,rfl,hB,hl,k⟩:=h
    refine ⟨_,pss_one (ps_ret (pe_comp (N':=["rule","book"]) (ix:=[none,some 0]) rfl rfl (pi_tup (pe_ix ix_tup (pv 0) pe_int (fun _ _=>rfl))) (fun _ _ _ _ _ _=>pg_name (i:=0) nd_tab rfl (Or.inl rfl)) (fun _ _ _ _ _ _=>pts_nil)
      (fun _ _ _ _ _ _=>pe_call G hr rfl g.m g.k g.b .nil pass0 (pa_cons (pv 1) (pa_cons (pe_ix (r:=rIxT K) ix_tup (pv 0) pe_int (fun _ _=>rfl)) pa_nil))))),?_⟩
    obtain ⟨r,ps,h1,h2,h3⟩:=hB.ex
    refine ⟨_,rfl,t,_,_,_,rfl,rfl,SqT.of h1,atI_nat (j:=1) rfl,r,rfl,⟨_,SqT.of h2⟩,comp_all (sure_tup (xs:=ps.map V.ref)) (by rw [List.length_map,h3.len];omega)
      (fun i ys τ H2=>Same H H2∧(∃ v,τ=[v,some (.ref t)])∧∃ ls,ys=ls.map V.ref∧RowsAt H H2 ls ((rs.take i).map fun q=>cnts rs q.2)) ⟨Same.refl _,⟨_,rfl⟩,[],rfl,RowsAt.nil⟩ ?_ ?_ ?_⟩
    · rintro i ys τ H2 hi ⟨s2,_,ls,rfl,hR⟩
      refine ⟨SqT.of (s2 _ _ h2),?_⟩
      rw [List.length_map,hR.len,List.length_map,List.length_take]
      omega
    · rintro i x ys τ H2 hx ⟨s2,⟨v,rfl⟩,ls,rfl,hR⟩
      rw [List.getElem?_map] at hx
      cases e:ps[i]? with
      | none=>rw [e] at hx;cases hx
      | some p =>
        rw [e] at hx
        cases hx
        obtain ⟨c,w',e1,e2⟩:=h3.get e
        refine ⟨_,rfl,_,rfl,p,_,_,_,rfl,rfl,SqT.of (s2 _ _ e2),atI_nat (j:=1) rfl,t,first,rs,w',rfl,hB.mono (TupS.same s2),hl,fun l H3 s3 n3 e3=>?_⟩
        refine ⟨s2.trans s3,⟨_,rfl⟩,ls++[l],by rw [List.map_append];rfl,?_⟩
        rw [take_snoc _ e1]
        exact hR.snoc s3 (s2.free n3) n3 e3
    · rintro ys τ H2 D ⟨s2,_,ls,rfl,hR⟩ hD
      have e:(ps.map V.ref).length=rs.length:=by rw [List.length_map,h3.len]
      rw [e,take_all] at hR
      refine k D ls _ (s2.trans (Same.add hD)) ⟨upd_same,hR.mono (Same.add hD),s2.free hD,fun z=>?_⟩
      obtain ⟨v,q,_⟩:=hR.there z
      rw [hD] at q;cases q
end
end Lw
namespace Lw
open PySem L2
structure PenAt (H:Hp) (p:Addr) (b:Nat):Prop where
  ex:∃ (a n f:Int),H p=some (.lst [.int a,.int n,.int f])∧0≤n∧n≤b∧0≤f∧f < 2147483647
theorem PenAt.mono {H:Hp} {p:Addr} {b b':Nat} (h:PenAt H p b) (hb:b≤b'):PenAt H p b':=by
  obtain ⟨a,n,f,e,h1,h2,h3⟩:=h.ex
  exact ⟨a,n,f,e,h1,by omega,h3⟩
def But (p:Addr) (H H':Hp):Prop:=∀ c o,H c=some o→c≠p→H' c=some o
theorem But.refl (p:Addr) (H:Hp):But p H H:=fun _ _ h _=>h
theorem But.trans {p:Addr} {H H1 H2:Hp} (a:But p H H1) (b:But p H1 H2):But p H H2:=fun c o h n=>b c o (a c o h n) n
theorem But.same {p:Addr} {H H':Hp} (s:Same H H'):But p H H':=fun c o h _=>s c o h
theorem But.free {p:Addr} {H H':Hp} (e:But p H H') {l:Addr} (n:l≠p) (h:H' l=none):H l=none:=by
  cases q:H l with
  | none=>rfl
  | some o=>rw [e l o q n] at h;cases h
section
variable {P:Program} {w:World} {K:PySem.W.Frag} {mg:Str→Option Value} {base:Heap}
def spTak:Sp:=fun vs H Q _=>∃ (p:Addr) (b:Nat) (size:Int),vs=[.ref p,.int size]∧PenAt H p b∧b≤1000000∧0 < size∧size≤10000000000000000000000000000000000000000000000000000000000000000000000∧∀ (v:Int) H',0≤v→v < size→PenAt H' p (b+1)→(∀ c,c≠p→H' c=H c)→Q (.int v) H'
theorem scTak:FnScope ["_law_pen_here","_law_size","_law_found","_law_number"] ["_law_pen_here","_law_size"] (defScope sTak):=⟨rfl,rfl,rfl,by decide +kernel,rfl,by decide +kernel,by decide +kernel⟩
theorem ok_tak {f:Addr} {fd:FuncData} (F:Fun K "_law_take" "_law_take" sTak f fd):FnOk P w K mg base CX0 1 f fd ["_law_pen_here","_law_size"] spTak:=by
  refine F.ok scTak (fun vs H Q E h=>?_) (fun cdv A outer s H vs Q E hr h=>?_)
  · obtain ⟨p,b,size,rfl,_⟩:=h
    rfl
  · obtain ⟨p,b,size,rfl,hp,hb,h1,h2,k⟩:=h
    obtain ⟨a,n,g,e,n1,n2,g1,g2⟩:=hp.ex
    refine ⟨_,pss_cons (ps_if (pt_cmpR op_gt (pe_ix ix_list (pv 0) pe_int (fun _ _=>rfl)) pe_int (nomark _))
        (pss_cons (ps_set (i:=2) scTak.nd rfl (Or.inl rfl) (pe_op op_mod (pe_ix ix_list (pv 0) pe_int (fun _ _=>rfl)) (pv 1)))
        (pss_cons (ps_asg (pe_op op_fdivB (pe_ix ix_list (pv 0) pe_int (fun _ _=>rfl)) (pv 1)) (pg_sub (pv 0) pe_int set_list))
        (pss_one (ps_ret (pv 2))))) pss_nil)
      (pss_cons (ps_asg (pe_op op_add (pe_ix ix_list (pv 0) pe_int (fun _ _=>rfl)) pe_int) (pg_sub (pv 0) pe_int set_list))
      (pss_cons (ps_set (i:=3) scTak.nd rfl (Or.inl rfl) (pe_op op_mod (pe_op op_pow (pe_op op_add (pe_ix ix_list (pv 0) pe_int (fun _ _=>rfl)) (pe_op op_mul pe_int (pe_ix ix_list (pv 0) pe_int (fun _ _=>rfl)))) pe_int) pe_int))
      (pss_cons (ps_set (i:=3) scTak.nd rfl (Or.inl rfl) (pe_op op_mod (pe_op op_pow (pe_op op_add (pv 3) (pe_op op_mul pe_int (pe_ix ix_list (pv 0) pe_int (fun _ _=>rfl)))) pe_int) pe_int))
      (pss_one (ps_ret (pe_op op_mod (pe_op op_fdiv (pv 3) pe_int) (pv 1))))))),?_⟩
    refine ⟨_,rfl,p,_,_,_,rfl,rfl,SqL.of e,atI_nat (j:=0) rfl,_,_,rfl,rfl,_,rfl,?_⟩
    refine ite2 (fun hc=>?_) (fun hc=>?_)
    · refine ⟨_,rfl,p,_,_,_,rfl,rfl,SqL.of e,atI_nat (j:=0) rfl,_,rfl,_,_,rfl,rfl,h1,?_⟩
      refine ⟨_,rfl,p,_,_,_,rfl,rfl,SqL.of e,atI_nat (j:=0) rfl,_,rfl,_,_,rfl,rfl,⟨h1,by omega⟩,?_⟩
      refine ⟨_,rfl,p,_,_,0,rfl,rfl,e,rfl,?_⟩
      refine ⟨_,rfl,?_⟩
      refine k _ _ (Int.emod_nonneg _ (by omega)) (Int.emod_lt_of_pos _ h1) ⟨_,n,g,upd_same,n1,by omega,g1,g2⟩ fun c hc=>upd_ne hc
    · refine ⟨_,rfl,p,_,_,_,rfl,rfl,SqL.of e,atI_nat (j:=1) rfl,_,_,rfl,rfl,_,rfl,p,_,_,1,rfl,rfl,e,rfl,?_⟩
      have e2:upd H p (.lst ([V.int a,V.int n,V.int g].set 1 (V.int (n+1)))) p=some (.lst [.int a,.int (n+1),.int g]):=upd_same
      refine ⟨_,rfl,p,_,_,_,rfl,rfl,SqL.of e2,atI_nat (j:=2) rfl,_,rfl,p,_,_,_,rfl,rfl,SqL.of e2,atI_nat (j:=1) rfl,_,_,rfl,rfl,.inl ⟨by decide,by decide⟩,_,_,rfl,rfl,_,_,rfl,rfl,⟨by decide,by decide,by omega⟩,_,_,rfl,rfl,(by show (0:Int) < 2147483647;decide),?_⟩
      generalize (g+7919 * (n+1)) ^ Int.toNat 5=X1
      refine ⟨_,rfl,_,rfl,p,_,_,_,rfl,rfl,SqL.of e2,atI_nat (j:=1) rfl,_,_,rfl,rfl,.inl ⟨by decide,by decide⟩,_,_,rfl,rfl,_,_,rfl,rfl,⟨by decide,by decide,by omega⟩,_,_,rfl,rfl,(by show (0:Int) < 2147483629;decide),?_⟩
      generalize (X1 % 2147483647+104729 * (n+1)) ^ Int.toNat 5=X2
      refine ⟨_,rfl,_,_,rfl,rfl,⟨by decide,by decide⟩,_,rfl,_,_,rfl,rfl,h1,?_⟩
      exact k _ _ (Int.emod_nonneg _ (by omega)) (Int.emod_lt_of_pos _ h1) ⟨a,n+1,g,e2,by omega,by omega,g1,g2⟩ fun c hc=>upd_ne hc
def spPen (K:PySem.W.Frag):Sp:=fun vs H Q _=>∃ (a:Addr) (ns:List Int) (k:Int),vs=[.ref a,.int k]∧SqL K H a (ns.map V.int)∧ns.length≤63∧0≤k∧k≤100∧∀ p H',Same H H'→H p=none→PenAt H' p 0→Q (.ref p) H'
end
end Lw
namespace Lw
open PySem L2
section
variable {P:Program} {w:World} {K:PySem.W.Frag} {mg:Str→Option Value} {base:Heap}
theorem mem_cutV {xs:List V} {lo hi:Option Int} {x:V} (h:x∈cutV xs lo hi):x∈xs:=List.mem_of_mem_drop (List.mem_of_mem_take h)
theorem scPen:FnScope ["_law_script","_law_k","_law_fold","_law_cell","_law_great"] ["_law_script","_law_k"] (defScope sPen):=⟨rfl,rfl,rfl,by decide +kernel,rfl,by decide +kernel,by decide +kernel⟩
theorem ok_pen {f:Addr} {fd:FuncData} (F:Fun K "_law_pen" "_law_pen" sPen f fd) (hlen:mg "len" = none):FnOk P w K mg base CX0 1 f fd ["_law_script","_law_k"] (spPen K):=by
  refine F.ok scPen (fun vs H Q E h=>?_) (fun cdv A outer s H vs Q E hr h=>?_)
  · obtain ⟨a,ns,k,rfl,_⟩:=h
    rfl
  · obtain ⟨a,ns,k,rfl,hS,hl,k0,k1,q⟩:=h
    refine ⟨_,pss_cons (ps_set (i:=2) scPen.nd rfl (Or.inl rfl) (pe_op op_add (pe_op op_mul pe_int (pv 1)) pe_int))
      (pss_cons (ps_for PassesOwn.never rfl (pi_list (pe_slice sl_list (pv 0) po_none (po_some pe_int))) (pg_name (i:=3) scPen.nd rfl (Or.inl rfl))
        (pss_one (ps_set (i:=2) scPen.nd rfl (Or.inl rfl) (pe_op op_mod (pe_op op_add (pe_op op_mul (pv 2) pe_int) (pv 3)) pe_int))))
      (pss_cons (ps_set (i:=4) scPen.nd rfl (Or.inl rfl) pe_int)
      (pss_cons (ps_if (PW.pt (pw_and (pt_cmpR op_gt (pe_callB call_len_seq (by rfl) hlen PySem.boot_len (pa_cons (pv 0) pa_nil)) pe_int (nomark _))
          (pw_and1 (pt_cmpR op_ge (pe_ix ix_list (pv 0) (pe_op op_mod (pv 1) (pe_callB call_len_seq (by rfl) hlen PySem.boot_len (pa_cons (pv 0) pa_nil))) (fun _ _=>rfl)) (pe_op op_pow pe_int pe_int) (nomark _)))))
        (pss_one (ps_set (i:=4) scPen.nd rfl (Or.inl rfl) (pe_op op_sub (pe_ix ix_list (pv 0) (pe_op op_mod (pv 1) (pe_callB call_len_seq (by rfl) hlen PySem.boot_len (pa_cons (pv 0) pa_nil))) (fun _ _=>rfl)) (pe_op op_pow pe_int pe_int)))) pss_nil)
      (pss_one (ps_ret (pe_lst (pa_cons (pv 4) (pa_cons pe_int (pa_cons (pv 2) pa_nil))))))))),?_⟩
    refine ⟨_,rfl,_,_,rfl,rfl,.inl ⟨by decide,by decide⟩,_,_,rfl,rfl,?_⟩
    refine ⟨_,rfl,_,rfl,a,_,rfl,hS,fun p hp=>⟨p,rfl,⟨_,SqL.of upd_same⟩,?_⟩⟩
    refine for_by (sure_list (xs:=cutV (ns.map V.int) none (some 63))) (fun i σ H2=>H2=upd H p (.lst (cutV (ns.map V.int) none (some 63)))∧∃ (g:Int) (v:Option V),σ=[some (.ref a),some (.int k),some (.int g),v,none]∧0≤g∧g < 2147483647)
      ⟨rfl,_,_,rfl,by omega,by omega⟩ ?_ ?_ ?_
    · rintro i σ H2 hi ⟨rfl,_⟩
      exact SqL.of upd_same
    · rintro i x σ H2 hx ⟨rfl,g,v,rfl,g1,g2⟩
      obtain ⟨z,hz,rfl⟩:=List.mem_map.mp (mem_cutV (List.mem_of_getElem? hx))
      refine ⟨_,rfl,_,_,rfl,rfl,.inr ⟨by decide,by decide⟩,_,rfl,_,_,rfl,rfl,_,_,rfl,rfl,(by show (0:Int) < 2147483647;decide),rfl,_,_,rfl,Int.emod_nonneg _ (by decide),Int.emod_lt_of_pos _ (by decide)⟩
    · rintro σ H2 ⟨rfl,g,v,rfl,g1,g2⟩
      have s1:Same H (upd H p (.lst (cutV (ns.map V.int) none (some 63)))):=Same.add hp
      have hS1:=s1.seq hS
      have el:((ns.map V.int).length:Int)=(ns.length:Int):=by rw [List.length_map]
      have fin:∀ (z:Int) (l:Addr),(upd H p (.lst (cutV (ns.map V.int) none (some 63)))) l=none→Q (.ref l) (upd (upd H p (.lst (cutV (ns.map V.int) none (some 63)))) l (.lst [.int z,.int 0,.int g])):=fun z l hn =>
        q l _ (s1.trans (Same.add hn)) (s1.free hn) ⟨z,0,g,upd_same,by decide,by decide,g1,g2⟩
      refine ⟨_,rfl,a,_,rfl,.inl hS1,_,_,rfl,rfl,_,rfl,?_⟩
      refine ite2 (fun hc=>?_) (fun hc=>?_)
      · have hpos:0 < (ns.length:Int):=by
          have:=of_decide_eq_true hc
          rw [el] at this
          exact this
        have hm1:=Int.emod_nonneg k (show (ns.length:Int)≠0 by omega)
        have hm2:=Int.emod_lt_of_pos k hpos
        obtain ⟨j,hj⟩:∃ j:Nat,k % (ns.length:Int)=(j:Int):=⟨(k % (ns.length:Int)).toNat,by omega⟩
        have hjl:j < ns.length:=by omega
        have hat:atI (ns.map V.int) (k % ((ns.map V.int).length:Int))=some (.int ns[j]):=by
          rw [el,hj]
          exact atI_nat (by rw [List.getElem?_map,List.getElem?_eq_getElem hjl];rfl)
        refine ⟨_,rfl,_,rfl,_,rfl,a,_,rfl,.inl hS1,_,_,rfl,rfl,(by show (0:Int) < _;rw [el];exact hpos),a,_,_,_,rfl,rfl,hS1,hat,_,_,rfl,rfl,⟨by decide,by decide,by decide⟩,_,_,rfl,rfl,_,rfl,?_⟩
        refine ite2 (fun hc2=>?_) (fun hc2=>?_)
        · refine ⟨_,rfl,_,rfl,_,rfl,a,_,rfl,.inl hS1,_,_,rfl,rfl,(by show (0:Int) < _;rw [el];exact hpos),a,_,_,_,rfl,rfl,hS1,hat,_,_,rfl,rfl,⟨by decide,by decide,by decide⟩,_,_,rfl,rfl,?_⟩
          exact ⟨_,rfl,_,rfl,(by show 3≤sizeLine;decide),fun l hn=>fin _ l hn⟩
        · exact ⟨_,rfl,_,rfl,(by show 3≤sizeLine;decide),fun l hn=>fin 0 l hn⟩
      · refine iteF ?_
        exact ⟨_,rfl,_,rfl,(by show 3≤sizeLine;decide),fun l hn=>fin 0 l hn⟩
end
end Lw
namespace Lw
open PySem L2
def rLenS (K:PySem.W.Frag):List V→Hp→VK→Prop:=fun xs H Q=>∃ p ys,xs=[.ref p]∧(SqL K H p ys∨SqT K H p ys)∧Q (.int ys.length) H
theorem call_lenS {X:Cx}:CallR X (.builtin "len") (rLenS X.K):=call_len_seq
def abc:List Nat:=[97,98,99,100,101,102,103,104,105,106,107,108,109,110,111,112,113,114,115,116,117,118,119,120,121,122]
theorem abc_str:(Str.ofString "abcdefghijklmnopqrstuvwxyz").cps.toList=abc:=by decide +kernel
theorem abc_nd:abc.Nodup:=by decide
theorem abc_in:∀ c∈abc,97≤c∧c≤122:=by decide
theorem perm_erase:∀ {xs:List Nat} {k:Nat} {y:Nat},xs[k]? = some y→xs.Perm (y :: xs.eraseIdx k)
  | x :: xs,0,y,e=>by cases e;exact List.Perm.refl _
  | x :: xs,k+1,y,e=>by
    have ih:=perm_erase (xs:=xs) (k:=k) (y:=y) e
    show (x :: xs).Perm (y :: x :: xs.eraseIdx k)
    exact (ih.cons x).trans (List.Perm.swap y x _)
  | [],k,y,e=>by simp at e
theorem map_erase {α β:Type} (f:α→β):∀ (xs:List α) (k:Nat),(xs.map f).eraseIdx k=(xs.eraseIdx k).map f
  | [],_=>rfl
  | _ :: _,0=>rfl
  | x :: xs,k+1=>by
    show f x :: (xs.map f).eraseIdx k=f x :: (xs.eraseIdx k).map f
    rw [map_erase f xs k]
theorem PenAt.other {H H':Hp} {p:Addr} {b:Nat} (h:PenAt H p b) (e:H' p=H p):PenAt H' p b:=by
  obtain ⟨a,n,f,e1,r⟩:=h.ex
  exact ⟨a,n,f,e.trans e1,r⟩
theorem PenAt.some {H:Hp} {p:Addr} {b:Nat} (h:PenAt H p b):∃ o,H p=Option.some o:=by
  obtain ⟨a,n,f,e1,r⟩:=h.ex
  exact ⟨_,e1⟩
end Lw
namespace Lw
open PySem L2
theorem strs_sign (w:List Nat):w.map sign=(w.map fun c=>(⟨#[c]⟩:Str)).map V.str:=by rw [List.map_map];rfl
section
variable {P:Program} {w:World} {K:PySem.W.Frag} {mg:Str→Option Value} {base:Heap}
def spTxt:Sp:=fun vs H Q _=>∃ (p l:Addr) (b n:Nat) (cs:List Nat),vs=[.ref p,.ref l,.int (n:Int)]∧PenAt H p b∧b≤900000∧n≤1000∧H l=some (.lst (cs.map sign))∧cs.length≤30∧l≠p ∧
  ∀ (w:List Nat) H',w.length≤n→(cs≠[]→w.length=n)→(∀ c∈w,c∈cs)→But p H H'→PenAt H' p (b+n)→Q (tx w) H'
theorem scTxt:FnScope ["_law_pen_here","_law_signs","_law_many"] ["_law_pen_here","_law_signs","_law_many"] (defScope sTxt):=⟨rfl,rfl,rfl,by decide +kernel,rfl,by decide +kernel,by decide +kernel⟩
theorem nd_txt:(["_law_k","_law_signs","_law_pen_here"]:List Str).Nodup:=by decide +kernel
theorem ok_txt {f f1:Addr} {fd fd1:FuncData} (F:Fun K "_law_text" "_law_text" sTxt f fd) (G:FnOk P w K mg base CX0 1 f1 fd1 ["_law_pen_here","_law_size"] spTak) (g:Gf K mg "_law_take" f1 fd1 ["_law_pen_here","_law_size"])
    (hlen:mg "len" = none) (hint:mg "int" = none) (hrange:mg "range" = none):FnOk P w K mg base CX0 2 f fd ["_law_pen_here","_law_signs","_law_many"] spTxt:=by
  refine F.ok scTxt (fun vs H Q E h=>?_) (fun cdv A outer s H vs Q E hr h=>?_)
  · obtain ⟨p,l,b,n,cs,rfl,_⟩:=h
    rfl
  · obtain ⟨p,l,b,n,cs,rfl,hp,hb,hn,hL,hcs,hlp,q⟩:=h
    refine ⟨_,pss_one (ps_ret (pe_bm PySem.F.plainAttrs_str PySem.F.slot_str_join PySem.F.type_str_join mt_join pe_str (pa_cons
      (pe_comp (N':=["_law_k","_law_signs","_law_pen_here"]) (ix:=[none,some 1,some 0]) rfl rfl
        (pi_range1 rfl hrange (pa_cons (pe_op op_mul (pv 2) (pe_callTy call_int1 (by rfl) hint (by first | exact PySem.boot_int | decide +kernel) (pa_cons (pe_cmpR op_gt (pe_callB call_lenS (by rfl) hlen PySem.boot_len (pa_cons (pv 1) pa_nil)) pe_int (nomark _)) pa_nil))) pa_nil))
        (fun _ _ _ _ _ _=>pg_name (i:=0) nd_txt rfl (Or.inl rfl)) (fun _ _ _ _ _ _=>pts_nil)
        (fun _ _ _ _ _ _=>pe_ix (r:=rIxL K) ix_list (pv 1) (pe_call G hr rfl g.m g.k g.b .nil pass0 (pa_cons (pv 2) (pa_cons (pe_callB (r:=rLenS K) call_lenS (by rfl) hlen PySem.boot_len (pa_cons (pv 1) pa_nil)) pa_nil))) (fun _ _=>rfl))) pa_nil))),?_⟩
    have el:((cs.map sign).length:Int)=(cs.length:Int):=by rw [List.length_map]
    refine ⟨rfl,_,rfl,_,rfl,l,_,rfl,.inl (SqL.of hL),_,_,rfl,rfl,.inr ⟨_,rfl,?_⟩⟩
    -- how many turns
    obtain ⟨m,em,hm1,hm2⟩:∃ m:Nat,(n:Int) * (if decide ((0:Int) < ((cs.map sign).length:Int)) then 1 else 0)=(m:Int)∧m≤n∧(if cs=[] then m=0 else m=n):=by
      cases cs with
      | nil=>exact ⟨0,by simp,Nat.zero_le _,by simp⟩
      | cons c r =>
        refine ⟨n,?_,Nat.le_refl _,by simp⟩
        have hpos:(0:Int) < (((c :: r).map sign).length:Int):=by rw [List.length_map,List.length_cons];omega
        rw [decide_eq_true hpos]
        simp
    refine ⟨_,_,rfl,rfl,.inl ⟨by omega,by omega⟩,_,rfl,?_⟩
    rw [em]
    refine ⟨by omega,by omega,?_⟩
    refine comp_all (Q:=fun x H2=>rJoin K (V.str (Str.ofString "")) [x] H2 Q) (τ0:=[none,some (V.ref l),some (V.ref p)]) (sure_range (lo:=0) (n:=Int.toNat (m:Int))) (by rw [rngV_length];omega)
      (fun i ys τ H2=>∃ w2:List Nat,ys=w2.map sign∧w2.length=i∧(∀ c∈w2,c∈cs)∧But p H H2∧PenAt H2 p (b+i)∧∃ v,τ=[v,some (.ref l),some (.ref p)])
      ⟨[],rfl,rfl,(fun c hc=>by simp at hc),But.refl _ _,hp,_,rfl⟩ ?_ ?_ ?_
    · rintro i ys τ H2 hi ⟨w',rfl,e,_⟩
      exact ⟨trivial,by rw [List.length_map];omega⟩
    · rintro i x ys τ H2 hx ⟨w',rfl,et,hw,hBt,hPn,v,rfl⟩
      have hi:i < m:=by
        have:=(List.getElem?_eq_some_iff.mp hx).1
        rw [rngV_length] at this
        simpa using this
      have hne:cs≠[]:=fun z=>by rw [if_pos z] at hm2;omega
      have hcl:0 < cs.length:=List.length_pos_iff.mpr hne
      have hL2:=hBt l _ hL hlp
      refine ⟨_,rfl,_,rfl,_,rfl,l,_,rfl,.inl (SqL.of hL2),p,b+i,_,rfl,hPn,by omega,by rw [el];omega,by rw [el];omega,fun z H3 z0 z1 hP3 e3=>?_⟩
      rw [el] at z1
      obtain ⟨j,rfl⟩:∃ j:Nat,z=(j:Int):=⟨z.toNat,by omega⟩
      have hj:j < cs.length:=by omega
      refine ⟨l,_,_,_,rfl,rfl,SqL.of ((e3 l hlp).trans hL2),atI_nat (v:=sign cs[j]) (by rw [List.getElem?_map,List.getElem?_eq_getElem hj];rfl),?_⟩
      refine ⟨w'++[cs[j]],by rw [List.map_append];rfl,by rw [List.length_append,et];rfl,fun c hc=>?_,fun c o hc hne=>(e3 c hne).trans (hBt c o hc hne),hP3,_,rfl⟩
      rcases List.mem_append.mp hc with z | z
      · exact hw c z
      · have z:c=cs[j]:=by simpa using z
        rw [z];exact List.getElem_mem hj
    · rintro ys τ H2 D ⟨w',rfl,et,hw,hBt,hPn,v,rfl⟩ hD
      have e:(rngV 0 (Int.toNat (m:Int))).length=m:=by rw [rngV_length];simp
      rw [e] at et hPn
      obtain ⟨oD,hoD⟩:=hPn.some
      have nDp:D≠p:=(ne_of_none hoD hD).symm
      refine ⟨_,D,w'.map fun c=>(⟨#[c]⟩:Str),rfl,rfl,SqL.of (by rw [upd_same,strs_sign]),?_,?_⟩
      · rw [sum_ones,List.length_map]
        show w'.length+w'.length * 0≤_
        omega
      · have e2:Txt.join (Str.ofString "") (w'.map fun c=>(⟨#[c]⟩:Str))=⟨w'.toArray⟩:=join_signs _
        rw [e2]
        refine q w' _ (by omega) (fun hne=>by rw [if_neg hne] at hm2;omega) hw (hBt.trans (But.same (Same.add hD))) ((hPn.other (upd_ne nDp.symm)).mono (by omega))
end
end Lw
namespace Lw
open PySem L2 PyProof.Rows
def cutN (cs:List Nat) (lo hi:Option Int):List Nat:=(cs.drop (HT.sIx cs.length 0 lo)).take (HT.sIx cs.length cs.length hi - HT.sIx cs.length 0 lo)
theorem cut_sign (cs:List Nat) (lo hi:Option Int):cutV (cs.map sign) lo hi=(cutN cs lo hi).map sign:=by
  unfold cutV cutN
  rw [List.length_map,List.map_take,List.map_drop]
theorem cutN_in {cs:List Nat} {lo hi:Option Int} {c:Nat} (h:c∈cutN cs lo hi):c∈cs:=List.mem_of_mem_drop (List.mem_of_mem_take h)
theorem cutN_len (cs:List Nat) (lo hi:Option Int):(cutN cs lo hi).length≤cs.length:=by
  unfold cutN
  rw [List.length_take,List.length_drop]
  omega
theorem tx_app (a b:List Nat):((⟨a.toArray⟩:Str)++(⟨b.toArray⟩:Str))=⟨(a++b).toArray⟩:=by
  show (⟨a.toArray++b.toArray⟩:Str)=_
  congr 1
  apply Array.ext'
  simp
structure ClsK (K:PySem.W.Frag) (C:Addr):Prop where
  cls:(PySem.W.clsIn K C).isSome=true
  nt:PySem.W.instIn K (.ref C) (.type "tuple")=some false
  bexc:PySem.W.mroIn K C (.type "BaseException")=some true
  ty:PySem.W.typeIn K (.ref C)=some (.type "type")
abbrev kvw (rs:List Rule):List (Key × V):=rs.map fun q=>((Sum.inr (one q.1):Key),tx q.2)
theorem kvw_keys (rs:List Rule):(kvw rs).map (·.1)=(ltr rs).map fun c=>(Sum.inr (one c):Key):=by
  unfold kvw ltr
  rw [List.map_map,List.map_map]
  rfl
theorem kvw_val:∀ {rs:List Rule} {q:Rule},(ltr rs).Nodup→q∈rs→valV (kvw rs) (Sum.inr (one q.1):Key)=some (tx q.2)
  | [],_,_,h=>by simp at h
  | p :: rs,q,nd,h=>by
    have nd':=List.nodup_cons.mp (show (p.1 :: ltr rs).Nodup from nd)
    unfold valV
    show Option.map _ (List.find? _ (((Sum.inr (one p.1):Key),tx p.2) :: kvw rs))=_
    rcases List.mem_cons.mp h with z | z
    · subst z
      rw [List.find?_cons_of_pos]
      · rfl
      · exact decide_eq_true rfl
    · rw [List.find?_cons_of_neg]
      · exact kvw_val nd'.2 z
      · intro y
        have y':(Sum.inr (one p.1):Key)=Sum.inr (one q.1):=of_decide_eq_true y
        exact nd'.1 (by rw [one_inj (Sum.inr.inj y')];exact List.mem_map_of_mem z)
theorem szl {n:Nat} (h:n≤1000):n≤sizeLine:=Nat.le_trans h (by decide)
theorem kvw_wd {rs:List Rule} {c:Nat} (nd:(ltr rs).Nodup) (h:c∈ltr rs):valV (kvw rs) (Sum.inr (one c):Key)=some (tx (wd rs c)):=by
  obtain ⟨q,h1,h2,h3⟩:=wd_mem h
  rw [h3,← h2]
  exact kvw_val nd h1
theorem kvw_none {rs:List Rule} {c:Nat} (h:c ∉ ltr rs):valV (kvw rs) (Sum.inr (one c):Key)=none:=by
  unfold valV
  rw [List.find?_eq_none.mpr fun p hp=>?_]
  · rfl
  · obtain ⟨q,hq,rfl⟩:=List.mem_map.mp hp
    intro z
    have z':(Sum.inr (one q.1):Key)=Sum.inr (one c):=of_decide_eq_true z
    exact h (List.mem_map.mpr ⟨q,hq,one_inj (Sum.inr.inj z')⟩)
theorem wd_in {first:List Nat} {rs:List Rule} (hG:Good first rs) {c:Nat} (h:c∈ltr rs):∀ d∈wd rs c,d∈ltr rs:=by
  obtain ⟨q,h1,h2,h3⟩:=wd_mem h
  rw [h3]
  exact hG.win q h1
theorem wd_le {first:List Nat} {rs:List Rule} (hG:Good first rs) {c:Nat} (h:c∈ltr rs):(wd rs c).length≤6:=by
  obtain ⟨q,h1,h2,h3⟩:=wd_mem h
  rw [h3]
  exact hG.wl q h1
def Rch (rs:List Rule) (x:List Nat) (c:Nat):Prop:=∃ m,c∈rowN rs x m
theorem nxt_mem {rs:List Rule} {x:List Nat} {e:Nat}:e∈nxt rs x ↔ ∃ c∈x,e∈wd rs c:=by
  unfold nxt
  rw [List.mem_flatten]
  constructor
  · rintro ⟨l,hl,he⟩
    obtain ⟨c,hc,rfl⟩:=List.mem_map.mp hl
    exact ⟨c,hc,he⟩
  · rintro ⟨c,hc,he⟩
    exact ⟨_,List.mem_map.mpr ⟨c,hc,rfl⟩,he⟩
theorem Rch.step {rs:List Rule} {x:List Nat} {c e:Nat} (h:Rch rs x c) (he:e∈wd rs c):Rch rs x e:=by
  obtain ⟨m,hm⟩:=h
  exact ⟨m+1,nxt_mem.mpr ⟨c,hm,he⟩⟩
theorem rch_closed {rs:List Rule} {x fs:List Nat} (h0:∀ c∈x,c∈fs) (h1:∀ c∈fs,∀ e∈wd rs c,e∈fs):∀ m,∀ c∈rowN rs x m,c∈fs
  | 0,c,hc=>h0 c hc
  | m+1,c,hc=>by
    obtain ⟨d,hd,he⟩:=nxt_mem.mp hc
    exact h1 d (rch_closed h0 h1 m d hd) c he
structure Srch (rs:List Rule) (x fs ws:List Nat):Prop where
  nd:fs.Nodup
  inf:∀ c∈fs,c∈ltr rs
  inw:∀ c∈ws,c∈ltr rs
  rf:∀ c∈fs,Rch rs x c
  rw:∀ c∈ws,Rch rs x c
  all:∀ c∈x,c∈fs∨c∈ws
  cl:∀ c∈fs,∀ e∈wd rs c,e∈fs∨e∈ws
  le:ws.length≤x.length+6 * fs.length
theorem Srch.start {rs:List Rule} {x:List Nat} (h:∀ c∈x,c∈ltr rs):Srch rs x [] x where
  nd:=List.nodup_nil
  inf:=by intro c hc;cases hc
  inw:=h
  rf:=by intro c hc;cases hc
  rw:=fun c hc=>⟨0,hc⟩
  all:=fun c hc=>.inr hc
  cl:=by intro c hc;cases hc
  le:=by simp
theorem Srch.old {rs:List Rule} {x fs ws:List Nat} {c:Nat} (h:Srch rs x fs (c :: ws)) (hc:c∈fs):Srch rs x fs ws:=by
  refine ⟨h.nd,h.inf,fun e he=>h.inw e (List.mem_cons_of_mem _ he),h.rf,fun e he=>h.rw e (List.mem_cons_of_mem _ he),fun e he=>?_,fun d hd e he=>?_,by have:=h.le;rw [List.length_cons] at this;omega⟩
  · rcases h.all e he with z | z
    · exact .inl z
    · rcases List.mem_cons.mp z with rfl | z
      · exact .inl hc
      · exact .inr z
  · rcases h.cl d hd e he with z | z
    · exact .inl z
    · rcases List.mem_cons.mp z with rfl | z
      · exact .inl hc
      · exact .inr z
theorem Srch.new {first:List Nat} {rs:List Rule} (hG:Good first rs) {x fs ws:List Nat} {c:Nat} (h:Srch rs x fs (c :: ws)) (hc:c ∉ fs):Srch rs x (fs++[c]) (ws++wd rs c):=by
  have hcl:=h.inw c List.mem_cons_self
  have hcr:=h.rw c List.mem_cons_self
  have in':∀ {e},e∈fs∨e∈c :: ws→e∈fs++[c]∨e∈ws++wd rs c:=fun z=>by
    rcases z with z | z
    · exact .inl (List.mem_append_left _ z)
    · rcases List.mem_cons.mp z with rfl | z
      · exact .inl (List.mem_append_right _ List.mem_cons_self)
      · exact .inr (List.mem_append_left _ z)
  refine ⟨?_,fun e he=>?_,fun e he=>?_,fun e he=>?_,fun e he=>?_,fun e he=>in' (h.all e he),fun d hd e he=>?_,?_⟩
  · refine List.nodup_append.mpr ⟨h.nd,by simp,fun a ha b hb e=>?_⟩
    have:b=c:=List.mem_singleton.mp hb
    rw [e,this] at ha
    exact hc ha
  · rcases List.mem_append.mp he with z | z
    · exact h.inf e z
    · rw [List.mem_singleton.mp z];exact hcl
  · rcases List.mem_append.mp he with z | z
    · exact h.inw e (List.mem_cons_of_mem _ z)
    · exact wd_in hG hcl e z
  · rcases List.mem_append.mp he with z | z
    · exact h.rf e z
    · rw [List.mem_singleton.mp z];exact hcr
  · rcases List.mem_append.mp he with z | z
    · exact h.rw e (List.mem_cons_of_mem _ z)
    · exact hcr.step z
  · rcases List.mem_append.mp hd with z | z
    · exact in' (h.cl d z e he)
    · rw [List.mem_singleton.mp z] at he
      exact .inr (List.mem_append_right _ he)
  · have h1:=h.le
    have h2:=wd_le hG hcl
    rw [List.length_cons] at h1
    rw [List.length_append,List.length_append,List.length_singleton]
    omega
theorem Srch.done {rs:List Rule} {x fs:List Nat} (h:Srch rs x fs []) (c:Nat):c∈fs ↔ Rch rs x c:=by
  constructor
  · exact h.rf c
  · rintro ⟨m,hm⟩
    refine rch_closed (fun e he=>?_) (fun d hd e he=>?_) m c hm
    · rcases h.all e he with z | z
      · exact z
      · cases z
    · rcases h.cl d hd e he with z | z
      · exact z
      · cases z
abbrev dkF (L:List Nat) (g:Nat→Int):List (Key × V):=L.map fun c=>((Sum.inr (one c):Key),V.int (g c))
theorem dkF_keys (L:List Nat) (g:Nat→Int):(dkF L g).map (·.1)=L.map fun c=>(Sum.inr (one c):Key):=by
  unfold dkF
  rw [List.map_map]
  rfl
theorem dkF_val {g:Nat→Int}:∀ {L:List Nat} {c:Nat},c∈L→valV (dkF L g) (Sum.inr (one c):Key)=some (V.int (g c))
  | [],c,h=>by cases h
  | e :: L,c,h=>by
    show Option.map _ (List.find? _ (((Sum.inr (one e):Key),V.int (g e)) :: dkF L g))=_
    by_cases z:e=c
    · subst z
      rw [List.find?_cons_of_pos (by exact decide_eq_true rfl)]
      rfl
    · rw [List.find?_cons_of_neg]
      · exact dkF_val ((List.mem_cons.mp h).resolve_left fun y=>z y.symm)
      · intro y
        have y':(Sum.inr (one e):Key)=Sum.inr (one c):=of_decide_eq_true y
        exact z (one_inj (Sum.inr.inj y'))
theorem dkF_snoc {L:List Nat} {i c:Nat} (g:Nat→Int) (e:L[i]? = some c):dkF (L.take (i+1)) g=dkF (L.take i) g++[((Sum.inr (one c):Key),V.int (g c))]:=by
  unfold dkF
  rw [List.take_add_one,e,List.map_append]
  rfl
structure Ws (us:List Rule):Prop where
  few:us.length≤8
  nd:(ltr us).Nodup
  abc:∀ c∈ltr us,97≤c∧c≤122
  wl:∀ q∈us,q.2.length≤6
  win:∀ q∈us,∀ c∈q.2,c∈ltr us
theorem not_taken {L:List Nat} (nd:L.Nodup) {i c:Nat} (e:L[i]? = some c):c ∉ L.take i:=fun h=>by
  rw [← List.take_append_drop i L] at nd
  obtain ⟨_,_,hdis⟩:=List.nodup_append.mp nd
  obtain ⟨hil,e2⟩:=List.getElem?_eq_some_iff.mp e
  refine hdis c h c ?_ rfl
  rw [List.drop_eq_getElem_cons hil,e2]
  exact List.mem_cons_self
structure Wp (cs:List Nat) (n:Nat) (us:List Rule):Prop where
  lt:ltr us=cs.take n
  ok:∀ q∈us,q.2.length≤6∧∀ c∈q.2,c∈cs
theorem Wp.put {cs:List Nat} {n c:Nat} {us:List Rule} {w:List Nat} (h:Wp cs n us) (nd:cs.Nodup) (e:cs[n]? = some c) (h1:w.length≤6) (h2:∀ e∈w,e∈cs):Wp cs (n+1) (us++[(c,w)])∧putK (kvw us) (Sum.inr (one c):Key) (tx w)=kvw (us++[(c,w)]):=by
  refine ⟨⟨?_,fun q hq=>?_⟩,?_⟩
  · have:=h.lt
    unfold ltr at this ⊢
    rw [List.map_append,this,List.take_add_one,e]
    rfl
  · rcases List.mem_append.mp hq with z | z
    · exact h.ok q z
    · rw [List.mem_singleton.mp z];exact ⟨h1,h2⟩
  · rw [putK_new _ (kvw_none (by rw [h.lt];exact not_taken nd e))]
    unfold kvw
    rw [List.map_append]
    rfl
theorem Wp.ws {cs:List Nat} {us:List Rule} (h:Wp cs cs.length us) (nd:cs.Nodup) (h8:cs.length≤8) (ab:∀ c∈cs,97≤c∧c≤122):Ws us∧ltr us=cs:=by
  have e:ltr us=cs:=by rw [h.lt,List.take_length]
  refine ⟨⟨?_,by rw [e];exact nd,by rw [e];exact ab,fun q hq=>(h.ok q hq).1,fun q hq=>by rw [e];exact (h.ok q hq).2⟩,e⟩
  rw [← ltr_len,e]
  exact h8
theorem Wp.len {cs:List Nat} {n:Nat} {us:List Rule} (h:Wp cs n us):us.length≤n:=by
  rw [← ltr_len,h.lt,List.length_take]
  omega
theorem seq_by {a u:L2.TS} {D:Ends} {σ:L2.St} {H:Hp} (Inv:L2.St→Hp→Prop) (h:∀ nx:L2.St→Hp→Prop,(∀ σ' H',Inv σ' H'→nx σ' H')→a { D with nx:=nx } σ H) (k:∀ σ' H',Inv σ' H'→u D σ' H'):tSeq a u D σ H:=h _ k
def rpl (us:List Rule) (c:Nat) (w:List Nat):List Rule:=us.map fun q=>if q.1=c then (q.1,w) else q
theorem rpl_ltr (us:List Rule) (c:Nat) (w:List Nat):ltr (rpl us c w)=ltr us:=by
  unfold rpl
  show List.map _ (List.map _ _)=List.map _ _
  rw [List.map_map]
  refine List.map_congr_left fun q _=>?_
  show (if q.1=c then (q.1,w) else q).1=q.1
  split <;> rfl
theorem rpl_put {us:List Rule} {c:Nat} (w:List Nat) (nd:(ltr us).Nodup) (h:c∈ltr us):putK (kvw us) (Sum.inr (one c):Key) (tx w)=kvw (rpl us c w):=by
  unfold putK
  rw [valV_any,kvw_wd nd h]
  rw [if_pos (show (some (tx (wd us c))).isSome=true from rfl)]
  unfold rpl kvw
  rw [List.map_map,List.map_map]
  refine List.map_congr_left fun q _=>?_
  show (if (Sum.inr (one q.1):Key)=Sum.inr (one c) then ((Sum.inr (one q.1):Key),tx w) else ((Sum.inr (one q.1):Key),tx q.2))=((Sum.inr (one (if q.1=c then (q.1,w) else q).1):Key),tx (if q.1=c then (q.1,w) else q).2)
  by_cases e:q.1=c
  · rw [if_pos e,if_pos (by rw [e])]
  · rw [if_neg e,if_neg fun z=>e (one_inj (Sum.inr.inj z))]
theorem Wp.rpl {cs:List Nat} {n c:Nat} {us:List Rule} {w:List Nat} (h:Wp cs n us) (h1:w.length≤6) (h2:∀ e∈w,e∈cs):Wp cs n (rpl us c w):=by
  refine ⟨by rw [rpl_ltr];exact h.lt,fun q hq=>?_⟩
  obtain ⟨q0,h0,rfl⟩:=List.mem_map.mp hq
  by_cases e:q0.1=c
  · rw [if_pos e];exact ⟨h1,h2⟩
  · rw [if_neg e];exact h.ok q0 h0
theorem kvw_ones (us:List Rule):(kvw us).map (·.1)=((ltr us).map one).map Sum.inr:=by
  rw [kvw_keys,List.map_map]
  rfl
structure Like (us rs:List Rule):Prop where
  mem:∀ c,c∈ltr rs ↔ c∈ltr us
  wd:∀ c∈ltr us,wd rs c=wd us c
  len:rs.length=us.length
theorem wd_of {us:List Rule} (h:Ws us) {c:Nat} (hc:c∈ltr us):(wd us c).length≤6∧∀ e∈wd us c,e∈ltr us:=by
  obtain ⟨q,h1,h2,h3⟩:=wd_mem hc
  rw [h3]
  exact ⟨h.wl q h1,h.win q h1⟩
theorem ltr_nt {us:List Rule} (nd:(ltr us).Nodup) {i:Nat} {q:Rule} (e:us[i]? = some q):(ltr us)[i]? = some q.1∧q.1 ∉ (ltr us).take i:=by
  have h1:(ltr us)[i]? = some q.1:=by unfold ltr;rw [List.getElem?_map,e];rfl
  exact ⟨h1,not_taken nd h1⟩
theorem dkF_none {g:Nat→Int}:∀ {L:List Nat} {c:Nat},c ∉ L→valV (dkF L g) (Sum.inr (one c):Key)=none
  | [],c,_=>rfl
  | a :: L,c,h=>by
    unfold dkF
    rw [List.map_cons,valV_neg (fun z=>h (by rw [one_inj (Sum.inr.inj z)];exact List.mem_cons_self))]
    exact dkF_none fun z=>h (List.mem_cons_of_mem _ z)
theorem dkF_put {g:Nat→Int} {L:List Nat} (nd:L.Nodup) {i c:Nat} (e:L[i]? = some c):putK (dkF (L.take i) g) (Sum.inr (one c):Key) (V.int (g c))=dkF (L.take (i+1)) g:=by
  rw [putK_new _ (dkF_none (not_taken nd e)),dkF_snoc g e]
theorem dkF_len (g:Nat→Int) (L:List Nat):(dkF L g).length=L.length:=by unfold dkF;rw [List.length_map]
def rg0 (f:Nat→Int) (M:Nat):List Int:=(List.range M).map f
theorem rg0_len (f:Nat→Int) (M:Nat):(rg0 f M).length=M:=by unfold rg0;rw [List.length_map,List.length_range]
theorem rg0_at {f:Nat→Int} {M i:Nat} (h:i < M):((rg0 f M).map V.int)[i]? = some (V.int (f i)):=by
  unfold rg0
  rw [List.getElem?_map,List.getElem?_map,List.getElem?_range h]
  rfl
theorem rg0_snoc (f:Nat→Int) (M:Nat):(rg0 f M).map V.int++[V.int (f M)]=(rg0 f (M+1)).map V.int:=by
  unfold rg0
  rw [List.range_succ,List.map_append,List.map_append]
  rfl
def sz (rs:List Rule) (c:Nat):Nat→Int:=fun n=>((szN rs n c:Nat):Int)
end Lw
namespace Lw
open PySem L2 PyProof.Rows
section
variable {P:Program} {w:World} {K:PySem.W.Frag} {mg:Str→Option Value} {base:Heap}
def spMix:Sp:=fun vs H Q _=>∃ (p l:Addr) (b:Nat) (cs:List Nat),vs=[.ref p,.ref l]∧PenAt H p b∧b≤900000∧H l=some (.lst (cs.map sign))∧cs.length≤30∧l≠p ∧
  ∀ (m:Addr) (ms:List Nat) H',H m=none→But p H H'→PenAt H' p (b+cs.length)→H' m=some (.lst (ms.map sign))→ms.Perm cs→Q (.ref m) H'
theorem scMix:FnScope ["_law_pen_here","_law_things","_law_rest"] ["_law_pen_here","_law_things"] (defScope sMix):=⟨rfl,rfl,rfl,by decide +kernel,rfl,by decide +kernel,by decide +kernel⟩
theorem nd_mix1:(["_law_k","_law_rest","_law_pen_here"]:List Str).Nodup:=by decide +kernel
theorem ok_mix {f fTak:Addr} {fd fdTak:FuncData} (F:Fun K "_law_mixed" "_law_mixed" sMix f fd)
    (GTak:FnOk P w K mg base CX0 1 fTak fdTak ["_law_pen_here","_law_size"] spTak)
    (gTak:Gf K mg "_law_take" fTak fdTak ["_law_pen_here","_law_size"])
    (hlen:mg "len" = none)
    (hrange:mg "range" = none)
    (hlist:mg "list" = none)
    : FnOk P w K mg base CX0 2 f fd ["_law_pen_here","_law_things"] spMix:=by
  refine F.ok scMix (fun vs H Q E h=>?_) (fun cdv A outer s H vs Q E hr h=>?_)
  · obtain ⟨p,l,b,cs,rfl,_⟩:=h
    rfl
  · obtain ⟨p,l,b,cs,rfl,hp,hb,hl,hn,nlp,q⟩:=h
    refine ⟨_,(pss_cons (ps_set (i:=2) scMix.nd rfl (Or.inr rfl) (pe_callTy (call_list_ofK K) (by rfl) hlist (by first | exact PySem.boot_list | decide +kernel) (pa_cons (pv 1) pa_nil)))
      (pss_one (ps_ret (pe_comp (N':=["_law_k","_law_rest","_law_pen_here"]) (ix:=[none,some 2,some 0]) rfl rfl (pi_range1 rfl hrange (pa_cons (pe_callB (call_lenK K) (by rfl) hlen PySem.boot_len (pa_cons (pv 1) pa_nil)) pa_nil)) (fun _ _ _ _ _ _=>(pg_name (i:=0) nd_mix1 rfl (Or.inl rfl))) (fun _ _ _ _ _ _=>pts_nil) (fun _ _ _ _ _ _=>(pe_bmK K PySem.F.plainAttrs_list PySem.F.slot_list_pop PySem.F.type_list_pop mt_popAt (pv 1) (pa_cons (pe_call GTak hr rfl gTak.m gTak.k gTak.b .nil pass0 (pa_cons (pv 2) (pa_cons (pe_callB (call_lenK K) (by rfl) hlen PySem.boot_len (pa_cons (pv 1) pa_nil)) pa_nil))) pa_nil))))))),?_⟩
    have el:((cs.map sign).length:Int)=(cs.length:Int):=by rw [List.length_map]
    refine ⟨_,rfl,l,_,rfl,.inl (SqL.of hl),fun l0 hl0=>?_⟩
    obtain ⟨op0,hop0⟩:=hp.some
    have np:p≠l0:=ne_of_none hop0 hl0
    have nl0:l≠l0:=ne_of_none hl hl0
    have s0:=Same.add (o:=.lst (cs.map sign)) hl0
    refine ⟨_,rfl,l,_,rfl,.inl (SqL.of (s0 _ _ hl)),?_⟩
    rw [el]
    refine ⟨_,rfl,by omega,by omega,comp_allR (τ0:=[none,some (V.ref l0),some (V.ref p)]) (sure_range (lo:=0) (n:=Int.toNat (cs.length:Int))) (by rw [rngV_length];omega)
      (fun i ys τ H4=>∃ taken rem,ys=taken.map sign∧taken.length=i∧(taken++rem).Perm cs∧H4 l0=some (.lst (rem.map sign))∧But p H H4∧PenAt H4 p (b+i)∧∃ v,τ=[v,some (.ref l0),some (.ref p)])
      ⟨[],cs,rfl,rfl,List.Perm.refl _,upd_same,But.same s0,hp.other (upd_ne np),_,rfl⟩ ?_ ?_ ?_⟩
    · rintro i ys τ H4 hi ⟨taken,rem,rfl,e,_⟩
      exact ⟨trivial,by rw [List.length_map];omega⟩
    · rintro i x ys τ H4 hx ⟨taken,rem,rfl,et,hPm,hR,hBt,hPn,v,rfl⟩
      have hi:i < cs.length:=by
        have:=(List.getElem?_eq_some_iff.mp hx).1
        rw [rngV_length] at this
        simpa using this
      have hlen26:rem.length=cs.length - i:=by
        have:=hPm.length_eq
        rw [List.length_append,et] at this
        omega
      have el:((rem.map sign).length:Int)=(rem.length:Int):=by rw [List.length_map]
      refine ⟨_,rfl,.inl ⟨rfl,_,SqL.of hR⟩,_,rfl,_,rfl,l0,_,rfl,.inl (SqL.of hR),p,b+i,_,rfl,hPn,by omega,by rw [el];omega,by rw [el];omega,fun zz H5 zz0 zz1 hP5 e5=>?_⟩
      rw [el] at zz1
      obtain ⟨j,rfl⟩:∃ j:Nat,zz=(j:Int):=⟨zz.toNat,by omega⟩
      have hj:j < rem.length:=by omega
      have hat:(rem.map sign)[j]? = some (sign rem[j]):=by rw [List.getElem?_map,List.getElem?_eq_getElem hj];rfl
      obtain ⟨j',s1,s2,_⟩:=atI_get (atI_nat hat)
      have ejj:j'=j:=by
        obtain ⟨q1,_⟩:=ixN_seq (n:=(rem.map sign).length) (i:=(j:Int)) (j:=j) (by
          unfold ixN
          rw [if_pos (by omega),if_pos (by rw [el];omega)]
          simp)
        rw [q1] at s1
        exact (Option.some.inj s1).symm
      subst ejj
      refine ⟨l0,_,_,j',_,rfl,rfl,(e5 l0 np.symm).trans hR,by omega,by omega,s1,s2,?_⟩
      refine ⟨taken++[rem[j']],rem.eraseIdx j',by rw [List.map_append];rfl,by rw [List.length_append,et];rfl,?_,?_,?_,?_,_,rfl⟩
      · refine List.Perm.trans ?_ hPm
        rw [List.append_assoc]
        exact List.Perm.append_left taken (perm_erase (List.getElem?_eq_getElem hj)).symm
      · rw [upd_same,map_erase]
      · intro c o hc hne
        have nl:c≠l0:=ne_of_none hc hl0
        rw [upd_ne nl,e5 c hne]
        exact hBt c o hc hne
      · exact (hP5.other (upd_ne np)).mono (by omega)
    rintro ys τ H4 m ⟨ms,rem,rfl,et,hPm,hR,hBt,hPn,v,rfl⟩ nm
    have e:(rngV 0 (Int.toNat (cs.length:Int))).length=cs.length:=by rw [rngV_length];simp
    rw [e] at et hPn
    obtain ⟨op4,hop4⟩:=hPn.some
    have nmp:m≠p:=(ne_of_none hop4 nm).symm
    have hr0:rem=[]:=by
      have:=hPm.length_eq
      rw [List.length_append,et] at this
      exact List.length_eq_zero_iff.mp (by omega)
    rw [hr0,List.append_nil] at hPm
    exact q m ms _ (hBt.free nmp nm) (hBt.trans (But.same (Same.add nm))) (hPn.other (upd_ne nmp.symm)) upd_same hPm
end
end Lw
namespace Lw
open PySem L2 PyProof.Rows
theorem arrM:∀ m:Nat,m < 6→∃ v:Nat,([V.int 2,V.int 3,V.int 1,V.int 4,V.int 8,V.int 0]:List V)[m]? = some (V.int (v:Int))∧v≤8
  | 0,_=>⟨2,rfl,by decide⟩
  | 1,_=>⟨3,rfl,by decide⟩
  | 2,_=>⟨1,rfl,by decide⟩
  | 3,_=>⟨4,rfl,by decide⟩
  | 4,_=>⟨8,rfl,by decide⟩
  | 5,_=>⟨0,rfl,by decide⟩
  | n+6,h=>by omega
theorem arrF:∀ m:Nat,m < 4→∃ v:Nat,([V.int 3,V.int 2,V.int 4,V.int 5]:List V)[m]? = some (V.int (v:Int))∧2≤v∧v≤6
  | 0,_=>⟨3,rfl,by decide,by decide⟩
  | 1,_=>⟨2,rfl,by decide,by decide⟩
  | 2,_=>⟨4,rfl,by decide,by decide⟩
  | 3,_=>⟨5,rfl,by decide,by decide⟩
  | n+4,h=>by omega
theorem cutN_hi (ms:List Nat) (m:Nat):cutN ms none (some (m:Int))=ms.take m:=by
  unfold cutN
  rw [HT.sIx_nat,HT.sIx_none,List.drop_zero,Nat.sub_zero]
  by_cases h:m≤ms.length
  · rw [Nat.min_eq_left h]
  · rw [Nat.min_eq_right (by omega),List.take_of_length_le (Nat.le_refl _),List.take_of_length_le (by omega)]
structure TriAt (H:Hp) (t d e:Addr) (x:List Nat) (us:List Rule) (f:Nat→Int):Prop where
  t:H t=some (.tup [tx x,.ref d,.ref e])
  d:H d=some (.dK (kvw us))
  e:H e=some (.dK (dkF (ltr us) f))
structure TriOk (H:Hp) (t d e:Addr) (x:List Nat) (us:List Rule) (f:Nat→Int):Prop extends TriAt H t d e x us f where
  ws:Ws us
  xl:x.length≤12
  xi:∀ c∈x,c∈ltr us
  fb:∀ c∈ltr us,(f c).natAbs < 2 ^ 250
theorem TriOk.same {H H':Hp} {t d e:Addr} {x:List Nat} {us:List Rule} {f:Nat→Int} (h:TriOk H t d e x us f) (s:Same H H'):TriOk H' t d e x us f:=⟨⟨s _ _ h.t,s _ _ h.d,s _ _ h.e⟩,h.ws,h.xl,h.xi,h.fb⟩
theorem TriOk.tp {H:Hp} {t d e p:Addr} {b:Nat} {x:List Nat} {us:List Rule} {f:Nat→Int} (h:TriOk H t d e x us f) (hp:PenAt H p b):t≠p:=fun z=>by obtain ⟨_,_,_,ho,_⟩:=hp.ex;rw [← z,h.t] at ho;cases ho
theorem TriOk.dp {H:Hp} {t d e p:Addr} {b:Nat} {x:List Nat} {us:List Rule} {f:Nat→Int} (h:TriOk H t d e x us f) (hp:PenAt H p b):d≠p:=fun z=>by obtain ⟨_,_,_,ho,_⟩:=hp.ex;rw [← z,h.d] at ho;cases ho
theorem TriOk.ep {H:Hp} {t d e p:Addr} {b:Nat} {x:List Nat} {us:List Rule} {f:Nat→Int} (h:TriOk H t d e x us f) (hp:PenAt H p b):e≠p:=fun z=>by obtain ⟨_,_,_,ho,_⟩:=hp.ex;rw [← z,h.e] at ho;cases ho
theorem TriOk.but {H H':Hp} {t d e p:Addr} {b:Nat} {x:List Nat} {us:List Rule} {f:Nat→Int} (h:TriOk H t d e x us f) (hp:PenAt H p b) (B:But p H H'):TriOk H' t d e x us f:=⟨⟨B _ _ h.t (h.tp hp),B _ _ h.d (h.dp hp),B _ _ h.e (h.ep hp)⟩,h.ws,h.xl,h.xi,h.fb⟩
theorem but3 {p:Addr} {Ha Hb:Hp} (e:∀ c,c≠p→Hb c=Ha c):But p Ha Hb:=fun c o h n=>(e c n).trans h
theorem dkF_put' {f:Nat→Int} {L:List Nat} (nd:L.Nodup) {i c:Nat} (e:L[i]? = some c) (v:Int):putK (dkF (L.take i) f) (Sum.inr (one c):Key) (V.int v)=dkF (L.take (i+1)) fun e=>if e=c then v else f e:=by
  rw [putK_new _ (dkF_none (not_taken nd e)),List.take_add_one,e]
  unfold dkF
  rw [List.map_append]
  congr 1
  · refine List.map_congr_left fun a ha=>?_
    have:a≠c:=by rintro rfl;exact not_taken nd e ha
    show _=((Sum.inr (one a):Key),V.int (if a=c then v else f a))
    rw [if_neg this]
  · show _=[((Sum.inr (one c):Key),V.int (if c=c then v else f c))]
    rw [if_pos rfl]
def spWei:Sp:=fun vs H Q _=>∃ (p:Addr) (b:Nat) (ev:Bool),vs=[.ref p,.bl ev]∧PenAt H p b∧b≤900000∧∀ (n:Int) H',n.natAbs < 2 ^ 240→(ev=true→n=1)→(∀ c,c≠p→H' c=H c)→PenAt H' p (b+10)→Q (.int n) H'
theorem wei_go {K:PySem.W.Frag} {Q:VK} {H:Hp} {p:Addr} {b:Nat} {ev:Bool} (hp:PenAt H p b) (hb:b≤900000) (q:∀ (n:Int) H',n.natAbs < 2 ^ 240→(ev=true→n=1)→(∀ c,c≠p→H' c=H c)→PenAt H' p (b+10)→Q (.int n) H') :
    tSeq (tAsg (tCall spTak [] E0 (tCons (tVar 0) (tCons (tC (V.int 10)) tNil))) (gName 2))
    (tSeq
      (tIfS (tTest (tOp rEq (tCall spTak [] E0 (tCons (tVar 0) (tCons (tC (V.int 3)) tNil))) (tC (V.int 0))))
        (tFor (iRng1 (tCons (tC (V.int 7)) tNil)) (gName 3)
          (tAsg
            (tOp (rI0 fun i j=>V.int (i+j))
              (tOp
                (rI (fun i j=>Builtin.Int.intBits i≤2 ^ 20∧Builtin.Int.intBits j≤2 ^ 20) fun i j =>
                  V.int (i * j))
                (tVar 2) (tOp (rI CPow fun i j=>V.int (i ^ j.toNat)) (tC (V.int 10)) (tC (V.int 8))))
              (tCall spTak [] E0
                (tCons (tVar 0)
                  (tCons (tOp (rI CPow fun i j=>V.int (i ^ j.toNat)) (tC (V.int 10)) (tC (V.int 8))) tNil))))
            (gName 2)))
        tNext)
      (tSeq (tIfS (tB (tVar 1)) (tRet (tC (V.int 1))) tNext)
        (tRet
          (tOp
            (rI (fun i j=>Builtin.Int.intBits i≤2 ^ 20∧Builtin.Int.intBits j≤2 ^ 20) fun i j=>V.int (i * j))
            (tVar 2)
            (tOp (rI0 fun i j=>V.int (i - j)) (tC (V.int 1))
              (tOp
                (rI (fun i j=>Builtin.Int.intBits i≤2 ^ 20∧Builtin.Int.intBits j≤2 ^ 20) fun i j =>
                  V.int (i * j))
                (tC (V.int 2)) (tCall spTak [] E0 (tCons (tVar 0) (tCons (tC (V.int 2)) tNil)))))))))
    { nx:=fun x H'=>Q V.non H',rt:=Q }
    (L2.start
      [Str.ofString "_law_pen_here",Str.ofString "_law_even",Str.ofString "_law_number",Str.ofString "_law_k"]
      [V.ref p,V.bl ev])
    H:=by
  refine ⟨_,rfl,p,b,_,rfl,hp,by omega,by decide,by decide,fun z1 H1 z10 z11 hP1 e1=>?_⟩
  obtain ⟨n1,rfl⟩:∃ m:Nat,z1=(m:Int):=⟨z1.toNat,by omega⟩
  have big:(10:Nat) * 100000000 ^ 7 < 2 ^ 230:=by decide +kernel
  dsimp only [gName]
  refine seq_by (fun σ' H'=>∃ (n:Nat) (v2:Option V),σ'=[some (.ref p),some (.bl ev),some (.int (n:Int)),v2]∧n < 10 * 100000000 ^ 7∧(∀ c,c≠p→H' c=H c)∧PenAt H' p (b+9)) (fun nx hnx=>?_) ?_
  · refine ⟨_,rfl,p,b+1,_,rfl,hP1,by omega,by decide,by decide,fun z2 H2 z20 z21 hP2 e2=>?_⟩
    have e12:∀ c,c≠p→H2 c=H c:=fun c h=>(e2 c h).trans (e1 c h)
    refine ⟨rfl,_,rfl,ite2 (fun _=>?_) (fun _=>hnx _ _ ⟨n1,none,rfl,by omega,e12,hP2.mono (by omega)⟩)⟩
    refine ⟨7,rfl,by decide,by decide,?_⟩
    refine for_by (sure_range (lo:=0) (n:=Int.toNat 7)) (fun i σ H3=>∃ (n:Nat) (v2:Option V),σ=[some (.ref p),some (.bl ev),some (.int (n:Int)),v2]∧n < 10 * 100000000 ^ i∧(∀ c,c≠p→H3 c=H c)∧PenAt H3 p (b+2+i)) ⟨n1,none,rfl,by omega,e12,hP2⟩ (fun _ _ _ _ _=>trivial) ?_ ?_
    · rintro i y σ H3 hy ⟨n,v2,rfl,hn,e3,hP3⟩
      have hi:i < 7:=by
        have:=(List.getElem?_eq_some_iff.mp hy).1
        rw [rngV_length] at this
        exact this
      have hpow:(100000000:Nat) ^ i≤100000000 ^ 7:=Nat.pow_le_pow_right (by decide) (by omega)
      have b1:Builtin.Int.intBits (n:Int)≤2 ^ 20:=Nat.le_trans (bits_abs (show (n:Int).natAbs < 2 ^ 230 by rw [Int.natAbs_natCast];omega)) (by decide)
      have b2:Builtin.Int.intBits ((10:Int) ^ Int.toNat 8)≤2 ^ 20:=Nat.le_trans (bits_abs (n:=30) (show ((10:Int) ^ Int.toNat 8).natAbs < 2 ^ 30 by decide)) (by decide)
      refine ⟨_,rfl,_,_,rfl,rfl,⟨by decide,by decide,by decide⟩,_,_,rfl,rfl,⟨b1,b2⟩,_,rfl,_,_,rfl,rfl,⟨by decide,by decide,by decide⟩,p,_,_,rfl,hP3,by omega,by decide,by decide,fun z H4 z0 z1 hP4 e4=>⟨_,_,rfl,rfl,?_⟩⟩
      obtain ⟨m,rfl⟩:∃ m:Nat,z=(m:Int):=⟨z.toNat,by omega⟩
      have e10:(10:Int) ^ Int.toNat 8=100000000:=by decide
      rw [e10] at z1
      refine ⟨n * 100000000+m,some y,?_,?_,fun c h=>(e4 c h).trans (e3 c h),hP4⟩
      · rw [e10]
        show [some (V.ref p),some (V.bl ev),some (V.int ((n:Int) * 100000000+(m:Int))),some y]=_
        rw [show (n:Int) * 100000000+(m:Int)=((n * 100000000+m:Nat):Int) by omega]
      · rw [Nat.pow_succ]
        omega
    · rintro σ H3 ⟨n,v2,rfl,hn,e3,hP3⟩
      rw [rngV_length] at hn hP3
      exact hnx _ _ ⟨n,v2,rfl,hn,e3,hP3⟩
  rintro σ H3 ⟨n,v2,rfl,hn,e3,hP3⟩
  refine ⟨_,rfl,ev,rfl,?_⟩
  cases ev with
  | true=>exact iteT (q 1 H3 (by decide +kernel) (fun _=>rfl) e3 (hP3.mono (by omega)))
  | false =>
  refine iteF ?_
  have b1:Builtin.Int.intBits (n:Int)≤2 ^ 20:=Nat.le_trans (bits_abs (show (n:Int).natAbs < 2 ^ 230 by rw [Int.natAbs_natCast];omega)) (by decide)
  refine ⟨_,rfl,_,rfl,p,_,_,rfl,hP3,by omega,by decide,by decide,fun z H4 z0 z1 hP4 e4=>?_⟩
  have bz:∀ k:Int,k.natAbs < 8→Builtin.Int.intBits k≤2 ^ 20:=fun k hk=>Nat.le_trans (bits_abs (n:=3) hk) (by decide)
  refine ⟨_,_,rfl,rfl,⟨bz _ (by omega),bz _ (by omega)⟩,_,_,rfl,rfl,_,_,rfl,rfl,⟨b1,bz _ (by omega)⟩,?_⟩
  refine q _ H4 ?_ (fun z=>nomatch z) (fun c h=>(e4 c h).trans (e3 c h)) hP4
  rw [Int.natAbs_mul,Int.natAbs_natCast]
  have:(1 - 2 * z).natAbs=1:=by omega
  rw [this,Nat.mul_one]
  exact Nat.lt_of_lt_of_le hn (Nat.le_trans (Nat.le_of_lt big) (by decide +kernel))
def spFre:Sp:=fun vs H Q _=>∃ (p:Addr) (b:Nat) (ev:Bool),vs=[.ref p,.bl ev]∧PenAt H p b∧b≤700000 ∧
  ∀ (t d e:Addr) (x:List Nat) (us:List Rule) (f:Nat→Int) H',H d=none→H e=none→d≠e→But p H H'→PenAt H' p (b+400)→TriOk H' t d e x us f→(ev=true→∀ c∈ltr us,f c=1)→Q (.ref t) H'
theorem fre_go {K:PySem.W.Frag} {Q:VK} {H:Hp} {p:Addr} {b:Nat} {ev:Bool} (hp:PenAt H p b) (hb:b≤700000)
    (q:∀ (t d e:Addr) (x:List Nat) (us:List Rule) (f:Nat→Int) H',H d=none→H e=none→d≠e→But p H H'→PenAt H' p (b+400)→TriOk H' t d e x us f→(ev=true→∀ c∈ltr us,f c=1)→Q (.ref t) H') :
    tSeq (tAsg (tCall spTak [] E0 (tCons (tVar 0) (tCons (tC (V.int 2)) tNil))) (gName 2))
    (tSeq
      (tAsg
        (tOp (rIxL K)
          (tLst (tCons (tC (V.int 3)) (tCons (tC (V.int 2)) (tCons (tC (V.int 4)) (tCons (tC (V.int 5)) tNil)))))
          (tCall spTak [] E0 (tCons (tVar 0) (tCons (tC (V.int 4)) tNil))))
        (gName 3))
      (tSeq
        (tAsg
          (tSl (rSlL K)
            (tCall spMix [] E0
              (tCons (tVar 0)
                (tCons
                  (tCB
                    (fun xs H Q =>
                      ∃ z,
                        xs = [V.str z] ∧
                          z.cps.size≤10000 ∧
                            ∀ (l:Addr),H l=none→Q (V.ref l) (upd H l (HO.lst (List.map sign z.cps.toList))))
                    (tCons (tC (V.str (Str.ofString "abcdefghijklmnopqrstuvwxyz"))) tNil))
                  tNil)))
            tNoPart
            (tPart
              (tOp (rIxL K)
                (tLst
                  (tCons (tC (V.int 2))
                    (tCons (tC (V.int 3))
                      (tCons (tC (V.int 1))
                        (tCons (tC (V.int 4)) (tCons (tC (V.int 8)) (tCons (tC (V.int 0)) tNil)))))))
                (tCall spTak [] E0 (tCons (tVar 0) (tCons (tC (V.int 6)) tNil))))))
          (gName 4))
        (tSeq (tAsg tDNewK (gName 5))
          (tSeq (tAsg tDNewK (gName 6))
            (tSeq
              (tFor (iEnum K (tCons (tVar 4) tNil)) (gTup K 2 (gCons (gName 7) (gCons (gName 8) gNil)))
                (tSeq
                  (sDPut (tVar 5) (tVar 8)
                    (tCall spTxt [] E0
                      (tCons (tVar 0)
                        (tCons
                          (tSl (rSlL K) (tVar 4) (tPart (tOp (rI CMul fun i j=>V.int (i * j)) (tVar 2) (tVar 7)))
                            tNoPart)
                          (tCons (tCall spTak [] E0 (tCons (tVar 0) (tCons (tVar 3) tNil))) tNil)))))
                  (sDPut (tVar 6) (tVar 8) (tCall spWei [] E0 (tCons (tVar 0) (tCons (tVar 1) tNil))))))
              (tRet
                (tTup
                  (tCons
                    (tCall spTxt [] E0
                      (tCons (tVar 0)
                        (tCons (tVar 4) (tCons (tCall spTak [] E0 (tCons (tVar 0) (tCons (tC (V.int 6)) tNil))) tNil))))
                    (tCons (tVar 5) (tCons (tVar 6) tNil))))))))))
    { nx:=fun x H'=>Q V.non H',rt:=Q }
    (L2.start
      [Str.ofString "_law_pen_here",Str.ofString "_law_even",Str.ofString "_law_layers",Str.ofString "_law_most",
        Str.ofString "_law_signs",Str.ofString "_law_words",Str.ofString "_law_loads_here",Str.ofString "_law_at",
        Str.ofString "_law_sign"]
      [V.ref p,V.bl ev])
    H:=by
  refine ⟨_,rfl,p,b,_,rfl,hp,by omega,by decide,by decide,fun lay H0 lay0 lay1 hP0 e0=>?_⟩
  refine ⟨(by show 4≤sizeLine;decide),fun t1 ht1=>?_⟩
  obtain ⟨op1,hop1⟩:=hP0.some
  have np1:p≠t1:=ne_of_none hop1 ht1
  refine ⟨_,rfl,p,b+1,_,rfl,hP0.other (upd_ne np1),by omega,by decide,by decide,fun z1 H1 z10 z11 hP1 e1=>?_⟩
  obtain ⟨m1,rfl⟩:∃ m:Nat,z1=(m:Int):=⟨z1.toNat,by omega⟩
  obtain ⟨most,hmo,hm1,hm2⟩:=arrF m1 (by omega)
  refine ⟨t1,_,_,_,rfl,rfl,SqL.of ((e1 t1 np1.symm).trans upd_same),atI_nat hmo,?_⟩
  have hB1:But p H H1:=(but3 e0).trans ((But.same (Same.add ht1)).trans (but3 e1))
  clear ht1 hop1 np1 hmo e1 e0 hP0
  obtain ⟨opa,hopa⟩:=hP1.some
  refine ⟨_,rfl,_,rfl,by decide +kernel,fun l0 hl0=>?_⟩
  rw [abc_str]
  have np0:p≠l0:=ne_of_none hopa hl0
  refine ⟨p,l0,_,abc,rfl,hP1.other (upd_ne np0),by omega,upd_same,by decide,np0.symm,fun lm ms H2 nlm hB2 hP2 hlm hperm=>?_⟩
  have hB2':But p H H2:=hB1.trans ((But.same (Same.add hl0)).trans hB2)
  have ms26:ms.length=26:=hperm.length_eq
  have msnd:ms.Nodup:=hperm.nodup_iff.mpr abc_nd
  have msab:∀ c∈ms,97≤c∧c≤122:=fun c hc=>abc_in c (hperm.mem_iff.mp hc)
  rw [show b+1+1+abc.length=b+28 from rfl] at hP2
  have nlmp:lm≠p:=(ne_of_none (show upd H1 l0 (.lst (abc.map sign)) p=some opa by rw [upd_ne np0];exact hopa) nlm).symm
  refine ⟨(by show 6≤sizeLine;decide),fun t0 ht0=>?_⟩
  obtain ⟨op0,hop0⟩:=hP2.some
  have npt0:p≠t0:=ne_of_none hop0 ht0
  have nlt0:lm≠t0:=ne_of_none hlm ht0
  refine ⟨_,rfl,p,b+28,_,rfl,hP2.other (upd_ne npt0),by omega,by decide,by decide,fun z0 Hz z00 z01 hPz ez=>?_⟩
  obtain ⟨m0,rfl⟩:∃ m:Nat,z0=(m:Int):=⟨z0.toNat,by omega⟩
  obtain ⟨many,hma,hm8⟩:=arrM m0 (by omega)
  refine ⟨t0,_,_,_,rfl,rfl,SqL.of ((ez t0 npt0.symm).trans upd_same),atI_nat hma,_,rfl,lm,_,rfl,SqL.of ((ez lm nlmp).trans ((upd_ne nlt0).trans hlm)),fun l nl=>?_⟩
  rw [cut_sign,cutN_hi]
  have hBz:But p H Hz:=hB2'.trans ((But.same (Same.add ht0)).trans (but3 ez))
  have nlp:l≠p:=by obtain ⟨o,ho⟩:=hPz.some;exact (ne_of_none ho nl).symm
  have csl:(ms.take many).length≤8:=by rw [List.length_take];omega
  have csnd:(ms.take many).Nodup:=msnd.sublist (List.take_sublist _ _)
  have csab:∀ c∈ms.take many,97≤c∧c≤122:=fun c hc=>msab c (List.mem_of_mem_take hc)
  have slc:=Same.add (o:=.lst ((ms.take many).map sign)) nl
  have hl4:upd Hz l (.lst ((ms.take many).map sign)) l=some (.lst ((ms.take many).map sign)):=upd_same
  have hPa:PenAt (upd Hz l (.lst ((ms.take many).map sign))) p (b+29):=hPz.other (upd_ne nlp.symm)
  have hB4:But p H (upd Hz l (.lst ((ms.take many).map sign))):=hBz.trans (But.same slc)
  clear hlm nlm hB2 hP2 hB2' hl0 hopa np0 slc ht0 hop0 npt0 nlt0 hPz ez hma hBz hB1 hP1
  revert csl csnd csab hl4 hPa hB4
  generalize upd Hz l (.lst ((ms.take many).map sign))=Ha
  generalize ms.take many=cs
  intro cn hnd hab hl4 hPa hB4
  intro d nd e ne
  have ndp:d≠p:=by obtain ⟨o,ho⟩:=hPa.some;exact (ne_of_none ho nd).symm
  have nld:l≠d:=ne_of_none hl4 nd
  have sd:=Same.add (o:=.dK []) nd
  have nep:e≠p:=by obtain ⟨o,ho⟩:=hPa.some;exact (ne_of_none (sd _ _ ho) ne).symm
  have nle:l≠e:=ne_of_none (sd _ _ hl4) ne
  have nde:d≠e:=ne_of_none upd_same ne
  have ne':Ha e=none:=sd.free ne
  have sde:=sd.trans (Same.add (o:=.dK []) ne)
  have el:((cs.map sign).length:Int)=(cs.length:Int):=by rw [List.length_map]
  refine ⟨_,rfl,l,rfl,⟨_,SqL.of (sde _ _ hl4)⟩,?_⟩
  refine for_by2 (sure_enum (xs:=cs.map sign)) (fun i σ H5=>∃ (us:List Rule) (f:Nat→Int) (v5 v6:Option V),σ=[some (.ref p),some (.bl ev),some (.int lay),some (.int (most:Int)),some (.ref l),some (.ref d),some (.ref e),v5,v6]∧i≤cs.length∧H5 d=some (.dK (kvw us))∧Wp cs i us∧H5 e=some (.dK (dkF (cs.take i) f))∧(∀ c∈cs.take i,(f c).natAbs < 2 ^ 240∧(ev=true→f c=1))∧But p Ha H5∧PenAt H5 p (b+29+20 * i))
    ⟨[],fun _=>0,none,none,rfl,Nat.zero_le _,by rw [upd_ne nde];exact upd_same,⟨rfl,fun q hq=>by cases hq⟩,upd_same,(fun c hc=>by cases hc),But.same sde,(hPa.other (by rw [upd_ne nep.symm,upd_ne ndp.symm])).mono (by omega)⟩ ?_ ?_ ?_
  · rintro i σ H5 hi ⟨us,f,v5,v6,rfl,e6,hd5,hW5,he5,hf5,hB5,hP5⟩
    exact SqL.of (hB5 l _ hl4 nlp)
  · rintro i zs σ H5 T hz ⟨us,f,v5,v6,rfl,e6,hd5,hW5,he5,hf5,hB5,hP5⟩ hT
    rw [List.getElem?_map] at hz
    cases ez:(cs.map sign).zipIdx[i]? with
    | none=>rw [ez] at hz;cases hz
    | some pr =>
      rw [ez] at hz
      cases hz
      rw [List.getElem?_zipIdx,List.getElem?_map] at ez
      cases ec:cs[i]? with
      | none=>rw [ec] at ez;cases ez
      | some c =>
        rw [ec] at ez
        have ez':pr=(sign c,i):=by rw [← Option.some.inj ez,Nat.zero_add]
        subst ez'
        obtain ⟨op5,hop5⟩:=hP5.some
        have npT:p≠T:=ne_of_none hop5 hT
        have hil:i < cs.length:=(List.getElem?_eq_some_iff.mp ec).1
        have sT:=Same.add (o:=.tup [V.int (i:Int),sign c]) hT
        have hB6:But p Ha (upd H5 T (.tup [V.int (i:Int),sign c])):=hB5.trans (But.same sT)
        have hd6:=sT _ _ hd5
        have he6:=sT _ _ he5
        have hP6:=hP5.other (H':=upd H5 T (.tup [V.int (i:Int),sign c])) (upd_ne npT)
        refine ⟨T,_,rfl,SqT.of upd_same,rfl,_,_,rfl,_,_,rfl,rfl,?_⟩
        have hl6:=hB6 l _ hl4 nlp
        refine ⟨_,rfl,_,rfl,_,rfl,_,rfl,_,_,rfl,rfl,.inl ⟨by omega,by omega⟩,_,rfl,l,_,rfl,SqL.of hl6,fun L nL=>?_⟩
        rw [cut_sign]
        have ci:∀ e∈cutN cs (some (lay * (i:Int))) none,e∈cs:=fun e he=>cutN_in he
        have cl:=cutN_len cs (some (lay * (i:Int))) none
        revert ci cl
        generalize cutN cs (some (lay * (i:Int))) none=cs'
        intro ci cl
        have npL:L≠p:=by obtain ⟨o,ho⟩:=hP6.some;exact (ne_of_none ho nL).symm
        have sL:=Same.add (o:=.lst (cs'.map sign)) nL
        have hP8:=hP6.other (H':=upd (upd H5 T (.tup [V.int (i:Int),sign c])) L (.lst (cs'.map sign))) (upd_ne npL.symm)
        refine ⟨_,rfl,_,rfl,p,_,_,rfl,hP8,by omega,by omega,by omega,fun z3 H8 z30 z31 hP8 e8=>?_⟩
        obtain ⟨m3,rfl⟩:∃ m:Nat,z3=(m:Int):=⟨z3.toNat,by omega⟩
        refine ⟨p,L,_,m3,cs',rfl,hP8,by omega,by omega,(e8 L npL).trans upd_same,by omega,npL,fun w0 H9 w0l _ w0i hB9 hP9=>?_⟩
        have hB69:But p (upd H5 T (.tup [V.int (i:Int),sign c])) H9:=(But.same sL).trans ((but3 e8).trans hB9)
        have hd9:=hB69 d _ hd6 ndp
        have he9:=hB69 e _ he6 nep
        have hul:=hW5.len
        obtain ⟨hW7,eput⟩:=hW5.put hnd ec (w:=w0) (by omega) (fun e he=>ci e (w0i e he))
        refine ⟨_,rfl,_,rfl,d,_,rfl,DPut.k (k:=(Sum.inr (one c):Key)) hd9 (small1000 (by unfold kvw;rw [List.length_map];omega)),?_⟩
        rw [eput]
        have hdA:upd H9 d (.dK (kvw (us++[(c,w0)]))) d=some (.dK (kvw (us++[(c,w0)]))):=upd_same
        have heA:upd H9 d (.dK (kvw (us++[(c,w0)]))) e=some (.dK (dkF (cs.take i) f)):=by rw [upd_ne nde.symm];exact he9
        have hBA:But p Ha (upd H9 d (.dK (kvw (us++[(c,w0)])))):=fun cc o h n=>by
          rw [upd_ne (ne_of_none h nd)]
          exact (hB6.trans hB69) cc o h n
        have hPA:=hP9.other (H':=upd H9 d (.dK (kvw (us++[(c,w0)])))) (upd_ne ndp.symm)
        revert hdA heA hBA hPA
        generalize upd H9 d (.dK (kvw (us++[(c,w0)])))=HA
        intro hdA heA hBA hPA
        refine ⟨_,rfl,_,rfl,p,_,ev,rfl,hPA,by omega,fun n HB hn hev eB hPB=>?_⟩
        have heB:=(eB e nep).trans heA
        refine ⟨_,rfl,_,rfl,e,_,rfl,DPut.k (k:=(Sum.inr (one c):Key)) heB (small1000 (by rw [dkF_len,List.length_take];omega)),?_⟩
        rw [dkF_put' hnd ec]
        refine ⟨_,fun a=>if a=c then n else f a,_,_,rfl,by omega,by rw [upd_ne nde];exact (eB d ndp).trans hdA,hW7,upd_same,fun a ha=>?_,fun cc o h n=>?_,(hPB.other (upd_ne nep.symm)).mono (by omega)⟩
        · dsimp only
          by_cases z:a=c
          · rw [if_pos z];exact ⟨hn,hev⟩
          · rw [if_neg z]
            refine hf5 a ?_
            rw [List.take_add_one,ec] at ha
            rcases List.mem_append.mp ha with h | h
            · exact h
            · exact absurd (List.mem_singleton.mp h) z
        · rw [upd_ne (ne_of_none h ne')]
          exact (eB cc n).trans (hBA cc o h n)
  · rintro σ H5 ⟨us,f,v5,v6,rfl,e6,hd5,hW5,he5,hf5,hB5,hP5⟩
    have ezl:((cs.map sign).zipIdx.map fun p=>([V.int (p.2:Nat),p.1]:List V)).length=cs.length:=by simp
    rw [ezl] at hW5 hP5 he5 hf5
    rw [List.take_length] at he5 hf5
    have hl5:=hB5 l _ hl4 nlp
    refine ⟨_,rfl,_,rfl,_,rfl,p,_,_,rfl,hP5,by omega,by decide,by decide,fun z6 H6 z60 z61 hP6 e6=>?_⟩
    obtain ⟨m6,rfl⟩:∃ m:Nat,z6=(m:Int):=⟨z6.toNat,by omega⟩
    refine ⟨p,l,_,m6,cs,rfl,hP6,by omega,by omega,(e6 l nlp).trans hl5,by omega,nlp,fun x H7 xl _ xi hB7 hP7=>?_⟩
    have hB57:But p H5 H7:=(but3 e6).trans hB7
    refine ⟨_,rfl,_,rfl,szl (show 3≤1000 by decide),fun t nt=>?_⟩
    have ntp:t≠p:=by obtain ⟨o,ho⟩:=hP7.some;exact (ne_of_none ho nt).symm
    obtain ⟨hWs,elt⟩:=hW5.ws hnd (by omega) hab
    have hu5:=hW5.len
    have st:=Same.add (o:=.tup [tx x,.ref d,.ref e]) nt
    have big:(2:Nat) ^ 240≤2 ^ 250:=by decide +kernel
    exact q t d e x us f _ (hB4.free ndp nd) (hB4.free nep ne') nde (hB4.trans (hB5.trans (hB57.trans (But.same st)))) ((hP7.other (upd_ne ntp.symm)).mono (by omega)) ⟨⟨upd_same,st _ _ (hB57 d _ hd5 ndp),by rw [elt];exact st _ _ (hB57 e _ he5 nep)⟩,hWs,by omega,fun c hc=>by rw [elt];exact xi c hc,fun c hc=>by rw [elt] at hc;exact Nat.lt_of_lt_of_le (hf5 c hc).1 big⟩ fun he c hc=>by rw [elt] at hc;exact (hf5 c hc).2 he
end Lw
namespace Lw
open PySem L2 PyProof.Rows
abbrev kvf (L:List Nat) (f:Nat→V):List (Key × V):=L.map fun c=>((Sum.inr (one c):Key),f c)
theorem kvf_val {f:Nat→V}:∀ {L:List Nat} {c:Nat},c∈L→valV (kvf L f) (Sum.inr (one c):Key)=some (f c)
  | [],c,h=>by cases h
  | e :: L,c,h=>by
    show Option.map _ (List.find? _ (((Sum.inr (one e):Key),f e) :: kvf L f))=_
    by_cases z:e=c
    · subst z
      rw [List.find?_cons_of_pos (by exact decide_eq_true rfl)]
      rfl
    · rw [List.find?_cons_of_neg]
      · exact kvf_val ((List.mem_cons.mp h).resolve_left fun y=>z y.symm)
      · intro y
        have y':(Sum.inr (one e):Key)=Sum.inr (one c):=of_decide_eq_true y
        exact z (one_inj (Sum.inr.inj y'))
theorem kvf_none {f:Nat→V}:∀ {L:List Nat} {c:Nat},c ∉ L→valV (kvf L f) (Sum.inr (one c):Key)=none
  | [],c,_=>rfl
  | a :: L,c,h=>by
    unfold kvf
    rw [List.map_cons,valV_neg (fun z=>h (by rw [one_inj (Sum.inr.inj z)];exact List.mem_cons_self))]
    exact kvf_none fun z=>h (List.mem_cons_of_mem _ z)
theorem kvf_len (L:List Nat) (f:Nat→V):(kvf L f).length=L.length:=by unfold kvf;rw [List.length_map]
theorem kvf_put {f:Nat→V} {L:List Nat} (nd:L.Nodup) {i c:Nat} (e:L[i]? = some c) (v:V):putK (kvf (L.take i) f) (Sum.inr (one c):Key) v=kvf (L.take (i+1)) fun e=>if e=c then v else f e:=by
  rw [putK_new _ (kvf_none (not_taken nd e)),List.take_add_one,e]
  unfold kvf
  rw [List.map_append]
  congr 1
  · refine List.map_congr_left fun a ha=>?_
    have:a≠c:=by rintro rfl;exact not_taken nd e ha
    show _=((Sum.inr (one a):Key),if a=c then v else f a)
    rw [if_neg this]
  · show _=[((Sum.inr (one c):Key),if c=c then v else f c)]
    rw [if_pos rfl]
theorem turn_join {K:PySem.W.Frag} {ix:List (Option Nat)} {σ:L2.St} {H:Hp} {Q:VK} {tl t0:TE} {p td:Addr} {b:Nat} {x:List Nat} {g:Nat→Nat} (e:cst ix σ=[none,some (.ref td)]) (hp:PenAt H p b) (hb:b≤890000) (ntp:td≠p) {ok:List Nat} (hd:∀ H',But p H H'→∀ c∈ok,DGet H' td (sign c) (some (sign (g c)))) (hx:∀ c∈x,c∈ok) (hxl:x.length≤30)
    (h0:∀ R:VK,R (.ref p) H→t0 σ H R) (ht:∀ R:VK,(∀ l,H l=none→R (.ref l) (upd H l (.lst (x.map sign))))→tl σ H R)
    (k:∀ (y:List Nat) H',But p H H'→PenAt H' p (b+x.length)→y.length=x.length→(∀ c∈y,∃ e∈x,c=g e)→Q (tx y) H') :
    tBM K "str" (rJoin K) (tC (.str (Str.ofString ""))) (tCons (tComp ix (iList K (tCall spMix [] E0 (tCons t0 (tCons tl tNil)))) (gName 0) tAll (tDGet (tVar 1) (tVar 0))) tNil) σ H Q:=by
  refine ⟨rfl,h0 _ (ht _ fun l nl=>?_)⟩
  obtain ⟨op,hop⟩:=hp.some
  have npl:p≠l:=ne_of_none hop nl
  have sl:=Same.add (o:=.lst (x.map sign)) nl
  refine ⟨p,l,b,x,rfl,hp.other (upd_ne npl),by omega,upd_same,hxl,npl.symm,fun m ms H1 nm hB1 hP1 hm hperm=>⟨m,rfl,⟨_,SqL.of hm⟩,?_⟩⟩
  have hBx:But p H H1:=(But.same sl).trans hB1
  have hlen:=hperm.length_eq
  rw [e]
  refine comp_all (Q:=fun y Ha=>rJoin K (.str (Str.ofString "")) [y] Ha Q) (τ0:=[none,some (.ref td)]) (sure_list (xs:=ms.map sign)) (by rw [List.length_map];omega)
    (fun n us τ H6=>H6=H1∧(∃ v,τ=[v,some (.ref td)])∧us=((ms.take n).map g).map sign) ⟨rfl,⟨_,rfl⟩,rfl⟩ ?_ ?_ ?_
  · rintro n us τ H6 hn ⟨rfl,_,rfl⟩
    refine ⟨SqL.of hm,?_⟩
    rw [List.length_map,List.length_map,List.length_take]
    omega
  · rintro n y us τ H6 hy ⟨rfl,⟨v,rfl⟩,rfl⟩
    rw [List.getElem?_map] at hy
    cases e6:ms[n]? with
    | none=>rw [e6] at hy;cases hy
    | some c =>
      rw [e6] at hy
      cases hy
      refine ⟨_,rfl,_,rfl,td,_,rfl,hd _ hBx c (hx c (hperm.mem_iff.mp (List.mem_of_getElem? e6))),rfl,⟨_,rfl⟩,?_⟩
      rw [take_snoc g e6,List.map_append]
      rfl
  · rintro us τ H6 D ⟨rfl,_,rfl⟩ hD
    rw [List.length_map,take_all]
    have nDp:p≠D:=by obtain ⟨o,ho⟩:=hP1.some;exact ne_of_none ho hD
    refine ⟨_,D,(ms.map g).map fun c=>(⟨#[c]⟩:Str),rfl,rfl,SqL.of (by rw [upd_same,strs_sign]),?_,?_⟩
    · rw [sum_ones,List.length_map]
      show ms.length+_ * 0≤_
      omega
    rw [show Txt.join (Str.ofString "") ((ms.map g).map fun c=>(⟨#[c]⟩:Str))=⟨(ms.map g).toArray⟩ from join_signs _]
    refine k (ms.map g) _ (hBx.trans (But.same (Same.add hD))) (hP1.other (upd_ne nDp)) (by rw [List.length_map,hlen]) fun c hc=>?_
    obtain ⟨e0,he,rfl⟩:=List.mem_map.mp hc
    exact ⟨e0,hperm.mem_iff.mp he,rfl⟩
theorem dkF_app {f:Nat→Int} {L:List Nat} {c:Nat} (h:c ∉ L) (v:Int):putK (dkF L f) (Sum.inr (one c):Key) (V.int v)=dkF (L++[c]) fun e=>if e=c then v else f e:=by
  rw [putK_new _ (dkF_none h)]
  unfold dkF
  rw [List.map_append]
  congr 1
  · refine List.map_congr_left fun a ha=>?_
    have:a≠c:=by rintro rfl;exact h ha
    show _=((Sum.inr (one a):Key),V.int (if a=c then v else f a))
    rw [if_neg this]
  · show _=[((Sum.inr (one c):Key),V.int (if c=c then v else f c))]
    rw [if_pos rfl]
end Lw
namespace Lw
open PySem L2 PyProof.Rows
def spNam:Sp:=fun vs H Q _=>∃ (p t d e:Addr) (b:Nat) (x:List Nat) (us:List Rule) (f:Nat→Int),vs=[.ref p,.ref t]∧PenAt H p b∧b≤700000∧TriOk H t d e x us f ∧
  ∀ (t2 d2 e2:Addr) (y:List Nat) (us2:List Rule) (f2:Nat→Int) H',H d2=none→H e2=none→d2≠e2→But p H H'→PenAt H' p (b+400)→TriOk H' t2 d2 e2 y us2 f2→((∀ c∈ltr us,f c=1)→∀ c∈ltr us2,f2 c=1)→Q (.ref t2) H'
theorem nam_go {K:PySem.W.Frag} {Q:VK} {H:Hp} {p t d e:Addr} {b:Nat} {x:List Nat} {us:List Rule} {f:Nat→Int} (hp:PenAt H p b) (hb:b≤700000) (hT:TriOk H t d e x us f)
    (q:∀ (t2 d2 e2:Addr) (y:List Nat) (us2:List Rule) (f2:Nat→Int) H',H d2=none→H e2=none→d2≠e2→But p H H'→PenAt H' p (b+400)→TriOk H' t2 d2 e2 y us2 f2→((∀ c∈ltr us,f c=1)→∀ c∈ltr us2,f2 c=1)→Q (.ref t2) H') :
    tSeq
    (tAsg
      (tCall spMix [] E0
        (tCons (tVar 0)
          (tCons
            (tCB
              (fun xs H Q =>
                ∃ z,
                  xs = [V.str z] ∧
                    z.cps.size≤10000 ∧
                      ∀ (l:Addr),H l=none→Q (V.ref l) (upd H l (HO.lst (List.map sign z.cps.toList))))
              (tCons (tC (V.str (Str.ofString "abcdefghijklmnopqrstuvwxyz"))) tNil))
            tNil)))
      (gName 2))
    (tSeq (tAsg tDNewK (gName 3))
      (tSeq
        (tFor (iList K (tCB (rSortT K) (tCons (tCB rListD (tCons (tOp (rIxT K) (tVar 1) (tC (V.int 1))) tNil)) tNil)))
          (gName 4) (sDPut (tVar 3) (tVar 4) (tBM0 K "list" rPop (tVar 2))))
        (tSeq (tAsg tDNewK (gName 5))
          (tSeq (tAsg tDNewK (gName 6))
            (tSeq
              (sFrz
                (tFor (iDict (tVar 3)) (gName 4)
                  (tSeq
                    (sDPut (tVar 5) (tDGet (tVar 3) (tVar 4))
                      (tBM K "str" (rJoin K) (tC (V.str (Str.ofString "")))
                        (tCons
                          (tComp [none,some 3]
                            (iList K
                              (tCall spMix [] E0
                                (tCons (tVar 0)
                                  (tCons
                                    (tCB
                                      (fun xs H Q =>
                                        ∃ z,
                                          xs = [V.str z] ∧
                                            z.cps.size≤10000 ∧
                                              ∀ (l:Addr),
                                                H l=none →
                                                  Q (V.ref l) (upd H l (HO.lst (List.map sign z.cps.toList))))
                                      (tCons (tDGet (tOp (rIxT K) (tVar 1) (tC (V.int 1))) (tVar 4)) tNil))
                                    tNil))))
                            (gName 0) tAll (tDGet (tVar 1) (tVar 0)))
                          tNil)))
                    (sDPut (tVar 6) (tDGet (tVar 3) (tVar 4))
                      (tDGet (tOp (rIxT K) (tVar 1) (tC (V.int 2))) (tVar 4))))))
              (tRet
                (tTup
                  (tCons
                    (tBM K "str" (rJoin K) (tC (V.str (Str.ofString "")))
                      (tCons
                        (tComp [none,some 3]
                          (iList K
                            (tCall spMix [] E0
                              (tCons (tVar 0)
                                (tCons
                                  (tCB
                                    (fun xs H Q =>
                                      ∃ z,
                                        xs = [V.str z] ∧
                                          z.cps.size≤10000 ∧
                                            ∀ (l:Addr),
                                              H l=none→Q (V.ref l) (upd H l (HO.lst (List.map sign z.cps.toList))))
                                    (tCons (tOp (rIxT K) (tVar 1) (tC (V.int 0))) tNil))
                                  tNil))))
                          (gName 0) tAll (tDGet (tVar 1) (tVar 0)))
                        tNil))
                    (tCons (tVar 5) (tCons (tVar 6) tNil))))))))))
    { nx:=fun x H'=>Q V.non H',rt:=Q }
    (L2.start
      [Str.ofString "_law_pen_here",Str.ofString "_law_one",Str.ofString "_law_rest",Str.ofString "_law_names",
        Str.ofString "_law_sign",Str.ofString "_law_words",Str.ofString "_law_loads_here"]
      [V.ref p,V.ref t])
    H:=by
  have es:∀ xs:List Nat,(xs.map one).map V.str=xs.map sign:=fun xs=>by rw [List.map_map];rfl
  have ntp:=hT.tp hp
  have ndp:=hT.dp hp
  have nep:=hT.ep hp
  have ht:=hT.t
  have hd:=hT.d
  have he:=hT.e
  have hW:=hT.ws
  have hx:=hT.xl
  have hin:=hT.xi
  have hfew:=hW.few
  obtain ⟨op0,hop0⟩:=hp.some
  refine ⟨_,rfl,_,rfl,by decide +kernel,fun l0 hl0=>?_⟩
  rw [abc_str]
  have np0:p≠l0:=ne_of_none hop0 hl0
  have sl0:=Same.add (o:=.lst (abc.map sign)) hl0
  refine ⟨p,l0,b,abc,rfl,hp.other (upd_ne np0),by omega,upd_same,by decide,np0.symm,fun lm ms H3 nlm hB3 hP3 hlm hperm=>?_⟩
  have ms26:ms.length=26:=hperm.length_eq
  have msnd:ms.Nodup:=hperm.nodup_iff.mpr abc_nd
  have msab:∀ c∈ms,97≤c∧c≤122:=fun c hc=>abc_in c (hperm.mem_iff.mp hc)
  rw [show b+abc.length=b+26 from rfl] at hP3
  have hB3':But p H H3:=(But.same sl0).trans hB3
  have nlmp:lm≠p:=(ne_of_none (sl0 _ _ hop0) nlm).symm
  have nlmH:H lm=none:=sl0.free nlm
  intro dn ndn'
  have sn:=Same.add (o:=.dK []) ndn'
  have ndnp:dn≠p:=by obtain ⟨o,ho⟩:=hP3.some;exact (ne_of_none ho ndn').symm
  have ndn:H dn=none:=hB3'.free ndnp ndn'
  have nlmdn:lm≠dn:=ne_of_none hlm ndn'
  have nddn:d≠dn:=ne_of_none hd ndn
  have nedn:e≠dn:=ne_of_none he ndn
  have ntdn:t≠dn:=ne_of_none ht ndn
  have hB4:But p H (upd H3 dn (.dK [])):=hB3'.trans (But.same sn)
  have hP4:PenAt (upd H3 dn (.dK [])) p (b+26):=hP3.other (upd_ne ndnp.symm)
  have hlm4:=sn _ _ hlm
  have hdn4:upd H3 dn (.dK []) dn=some (.dK []):=upd_same
  revert hB4 hP4 hlm4 hdn4
  generalize upd H3 dn (.dK [])=H4
  clear nlm hl0 np0 sl0 hB3 hB3' hP3 hlm sn ndn'
  intro hB4 hP4 hlm4 hdn4
  refine ⟨_,rfl,t,_,_,_,rfl,rfl,SqT.of (hB4 _ _ ht ntp),atI_nat (j:=1) rfl,d,kvw us,(ltr us).map one,rfl,hB4 _ _ hd ndp,kvw_ones us,fun l1 nl1=>?_⟩
  rw [es]
  have s1:=Same.add (o:=.lst ((ltr us).map sign)) nl1
  refine ⟨l1,false,(ltr us).map one,rfl,(by show SqL K _ l1 _;rw [es];exact SqL.of upd_same),by rw [List.length_map,ltr_len];omega,fun l2 ss' nl2 hperm2 hsort=>?_⟩
  obtain ⟨cs,hpc,rfl⟩:=perm_ones hperm2
  rw [es]
  have cnd:cs.Nodup:=hpc.nodup_iff.mpr hW.nd
  have cln:cs.length=us.length:=by rw [hpc.length_eq];exact ltr_len us
  have cin:∀ c∈cs,c∈ltr us:=fun c hc=>hpc.mem_iff.mp hc
  have s2:=Same.add (o:=.lst (cs.map sign)) nl2
  have s12:=s1.trans s2
  have hl2:upd (upd H4 l1 (.lst ((ltr us).map sign))) l2 (.lst (cs.map sign)) l2=some (.lst (cs.map sign)):=upd_same
  have nl2p:l2≠p:=by obtain ⟨o,ho⟩:=hP4.some;exact (ne_of_none (s1 _ _ ho) nl2).symm
  have nl2lm:l2≠lm:=(ne_of_none (s1 _ _ hlm4) nl2).symm
  have nl2dn:l2≠dn:=(ne_of_none (s1 _ _ hdn4) nl2).symm
  have hB5:=hB4.trans (But.same s12)
  have hP5:PenAt (upd (upd H4 l1 (.lst ((ltr us).map sign))) l2 (.lst (cs.map sign))) p (b+26):=by obtain ⟨o,ho⟩:=hP4.some;exact hP4.other ((s12 _ _ ho).trans ho.symm)
  have hlm5:=s12 _ _ hlm4
  have hdn5:=s12 _ _ hdn4
  revert hB5 hP5 hlm5 hdn5 hl2
  generalize upd (upd H4 l1 (.lst ((ltr us).map sign))) l2 (.lst (cs.map sign))=H5
  clear hB4 hP4 hlm4 hdn4 nl1 nl2 s1 s2 s12 hperm2 hsort
  intro hl2 hB5 hP5 hlm5 hdn5
  refine ⟨l2,rfl,⟨_,SqL.of hl2⟩,?_⟩
  refine for_by (sure_list (xs:=cs.map sign)) (fun i σ H6=>∃ (g:Nat→Nat) (rem:List Nat) (v9:Option V),σ=[some (.ref p),some (.ref t),some (.ref lm),some (.ref dn),v9,none,none]∧i≤cs.length∧But p H H6∧PenAt H6 p (b+26)∧H6 l2=some (.lst (cs.map sign))∧H6 lm=some (.lst (rem.map sign))∧H6 dn=some (.dK (kvf (cs.take i) fun c=>sign (g c))) ∧
      (rem++(cs.take i).map g).Perm ms)
    ⟨fun _=>0,ms,none,rfl,Nat.zero_le _,hB5,hP5,hl2,hlm5,hdn5,(by show (ms++[]).Perm ms;rw [List.append_nil])⟩ ?_ ?_ ?_
  · rintro i σ H6 hi ⟨g,rem,v9,rfl,_,_,_,hl6,_⟩
    exact SqL.of hl6
  · rintro i y σ H6 hy ⟨g,rem,v9,rfl,hi,hB6,hP6,hl6,hR,hdn6,hPm⟩
    rw [List.getElem?_map] at hy
    cases ec:cs[i]? with
    | none=>rw [ec] at hy;cases hy
    | some c =>
      rw [ec] at hy
      cases hy
      have hil:i < cs.length:=(List.getElem?_eq_some_iff.mp ec).1
      have hlen:=hPm.length_eq
      rw [List.length_append,List.length_map,List.length_take,ms26] at hlen
      have hne:rem≠[]:=fun z=>by
        rw [z,List.length_nil] at hlen
        omega
      obtain ⟨r0,c',rfl⟩:∃ r0 c',rem=r0++[c']:=⟨rem.dropLast,rem.getLast hne,(List.dropLast_concat_getLast hne).symm⟩
      have hdnA:upd H6 lm (.lst (((r0++[c']).map sign).dropLast)) dn=some (.dK (kvf (cs.take i) fun c=>sign (g c))):=by rw [upd_ne nlmdn.symm];exact hdn6
      refine ⟨_,rfl,.inl ⟨rfl,_,SqL.of hR⟩,lm,_,sign c',rfl,rfl,hR,(by simp),_,rfl,_,rfl,dn,_,rfl,DPut.k (k:=(Sum.inr (one c):Key)) hdnA (small1000 (by rw [kvf_len,List.length_take];omega)),?_⟩
      rw [kvf_put cnd ec]
      have nci:=not_taken cnd ec
      have eg:((cs.take (i+1)).map fun a=>if a=c then c' else g a)=(cs.take i).map g++[c']:=by
        rw [take_snoc (fun a=>if a=c then c' else g a) ec,if_pos rfl]
        congr 1
        exact List.map_congr_left fun a ha=>if_neg fun z=>nci (by rw [← z];exact ha)
      have ekv:kvf (cs.take (i+1)) (fun a=>if a=c then sign c' else sign (g a))=kvf (cs.take (i+1)) fun a=>sign (if a=c then c' else g a):=by
        unfold kvf
        refine List.map_congr_left fun a ha=>?_
        show ((Sum.inr (one a):Key),if a=c then sign c' else sign (g a))=((Sum.inr (one a):Key),sign (if a=c then c' else g a))
        split <;> rfl
      rw [ekv]
      refine ⟨fun a=>if a=c then c' else g a,r0,_,rfl,by omega,fun a o h n=>?_,?_,?_,?_,upd_same,?_⟩
      · rw [upd_ne (ne_of_none h ndn),upd_ne (ne_of_none h nlmH)]
        exact hB6 _ _ h n
      · exact hP6.other (by rw [upd_ne ndnp.symm,upd_ne nlmp.symm])
      · rw [upd_ne nl2dn,upd_ne nl2lm];exact hl6
      · rw [upd_ne nlmdn,upd_same];simp
      · rw [eg]
        refine List.Perm.trans ?_ hPm
        rw [List.append_assoc]
        exact List.Perm.append_left r0 List.perm_append_comm
  rintro σ H6 ⟨g,rem,v9,rfl,_,hB6,hP6,_,_,hdn6,hPm⟩
  rw [List.length_map,List.take_length] at hdn6 hPm
  have NSnd:(cs.map g).Nodup:=(List.nodup_append.mp (hPm.nodup_iff.mpr msnd)).2.1
  have NSab:∀ c∈cs.map g,97≤c∧c≤122:=fun c hc=>msab c (hPm.mem_iff.mp (List.mem_append_right _ hc))
  have NSl:(cs.map g).length=us.length:=by rw [List.length_map,cln]
  have gin:∀ c∈ltr us,g c∈cs.map g:=fun c hc=>List.mem_map_of_mem (hpc.mem_iff.mpr hc)
  intro d2 nd2 e2 ne2
  have sd:=Same.add (o:=.dK []) nd2
  have se:=Same.add (o:=.dK []) ne2
  have sde:=sd.trans se
  have nd2p:d2≠p:=by obtain ⟨o,ho⟩:=hP6.some;exact (ne_of_none ho nd2).symm
  have ne2p:e2≠p:=by obtain ⟨o,ho⟩:=hP6.some;exact (ne_of_none (sd _ _ ho) ne2).symm
  have nde2:d2≠e2:=ne_of_none upd_same ne2
  have ne26:H6 e2=none:=sd.free ne2
  have nd2':H d2=none:=hB6.free nd2p nd2
  have ne2':H e2=none:=hB6.free ne2p ne26
  have ndn2:dn≠d2:=ne_of_none hdn6 nd2
  have nne2:dn≠e2:=ne_of_none hdn6 ne26
  have hd27:upd (upd H6 d2 (.dK [])) e2 (.dK []) d2=some (.dK []):=se _ _ upd_same
  have he27:upd (upd H6 d2 (.dK [])) e2 (.dK []) e2=some (.dK []):=upd_same
  have hB7:But p H (upd (upd H6 d2 (.dK [])) e2 (.dK [])):=hB6.trans (But.same sde)
  have hP7:PenAt (upd (upd H6 d2 (.dK [])) e2 (.dK [])) p (b+26):=by obtain ⟨o,ho⟩:=hP6.some;exact hP6.other ((sde _ _ ho).trans ho.symm)
  have hdn7:=sde _ _ hdn6
  revert hd27 he27 hB7 hP7 hdn7
  generalize upd (upd H6 d2 (.dK [])) e2 (.dK [])=H7
  clear sd se sde nd2 ne2 ne26 hB6 hP6 hdn6
  intro hd27 he27 hB7 hP7 hdn7
  have nGd:∀ {i c:Nat},cs[i]? = some c→g c ∉ (cs.take i).map g:=fun {i c} ec h=>by
    rw [List.map_take] at h
    exact not_taken NSnd (show (cs.map g)[i]? = some (g c) by rw [List.getElem?_map,ec];rfl) h
  refine ⟨dn,kvf cs fun c=>sign (g c),hdn7,fun ob=>?_⟩
  refine ⟨_,rfl,dn,ob,_,rfl,upd_same,?_⟩
  refine for_by (sure_dict (d:=dn) (ob:=ob) (kvs:=kvf cs fun c=>sign (g c))) (fun i σ H8=>∃ (us3:List Rule) (f2:Nat→Int) (v9:Option V),σ=[some (.ref p),some (.ref t),some (.ref lm),some (.ref dn),v9,some (.ref d2),some (.ref e2)]∧i≤cs.length∧(∀ c o,c≠p→c≠dn→c≠d2→c≠e2→H7 c=some o→H8 c=some o)∧H8 dn=some (.frz ob (.dK (kvf cs fun c=>sign (g c))))∧H8 d2=some (.dK (kvw us3))∧Wp (cs.map g) i us3∧PenAt H8 p (b+26+10 * i)∧H8 e2=some (.dK (dkF ((cs.take i).map g) f2))∧∀ c∈(cs.take i).map g,(f2 c).natAbs < 2 ^ 250∧((∀ c∈ltr us,f c=1)→f2 c=1))
    ⟨[],fun _=>0,v9,rfl,Nat.zero_le _,fun c o n1 n2 n3 n4 h=>by rw [upd_ne n2];exact h,upd_same,by rw [upd_ne ndn2.symm];exact hd27,⟨rfl,fun q hq=>by cases hq⟩,hP7.other (by rw [upd_ne ndnp.symm]),by rw [upd_ne nne2.symm];exact he27,(fun c hc=>by cases hc)⟩ ?_ ?_ ?_
  · rintro i σ H8 hi ⟨us3,f2,v9,rfl,_,_,hdn8,_⟩
    exact hdn8
  · rintro i y σ H8 hy ⟨us3,f2,v9,rfl,hi,k8,hdn8,hd28,hW8,hP8,he28,hf8⟩
    unfold kvf at hy
    rw [List.map_map,List.getElem?_map] at hy
    cases ec:cs[i]? with
    | none=>rw [ec] at hy;cases hy
    | some c =>
      rw [ec] at hy
      obtain rfl:sign c=y:=Option.some.inj hy
      have hc:c∈cs:=List.mem_of_getElem? ec
      have hcu:c∈ltr us:=cin c hc
      have hil:i < cs.length:=(List.getElem?_eq_some_iff.mp ec).1
      obtain ⟨w6,win⟩:=wd_of hW hcu
      have ntd2:t≠d2:=ne_of_none ht nd2'
      have nte2:t≠e2:=ne_of_none ht ne2'
      have ht8:=k8 _ _ ntp ntdn ntd2 nte2 (hB7 _ _ ht ntp)
      have hd8:=k8 _ _ ndp nddn (ne_of_none hd nd2') (ne_of_none hd ne2') (hB7 _ _ hd ndp)
      have he8:=k8 _ _ nep nedn (ne_of_none he nd2') (ne_of_none he ne2') (hB7 _ _ he nep)
      have hgw:=DGet.k (k:=(Sum.inr (one c):Key)) hd8
      rw [kvw_wd hW.nd hcu] at hgw
      dsimp only [gName]
      show tSeq _ _ _ _ _
      rw [tSeq]
      unfold sDPut
      refine turn_join (p:=p) (td:=dn) (b:=b+26+10 * i) (x:=wd us c) (g:=g) (ok:=ltr us) rfl hP8 (by omega) ndnp (fun H' hB' c hc=>?_) win (by omega) (fun R r=>⟨_,rfl,r⟩) (fun R r=>⟨_,rfl,t,_,_,_,rfl,rfl,SqT.of ht8,atI_nat (j:=1) rfl,_,rfl,d,_,rfl,hgw,⟨(wd us c).toArray⟩,rfl,(by show (wd us c).length≤_;omega),r⟩) (fun y H9 hB9 hP9 yl yi=>?_)
      · have hg2:=DGet.f (k:=(Sum.inr (one c):Key)) (hB' dn _ hdn8 ndnp)
        rw [kvf_val (hpc.mem_iff.mpr hc)] at hg2
        exact hg2
      · have hg3:=DGet.f (k:=(Sum.inr (one c):Key)) (hB9 dn _ hdn8 ndnp)
        rw [kvf_val hc] at hg3
        have hd29:=hB9 d2 _ hd28 nd2p
        have hu3:=hW8.len
        obtain ⟨hW9,eput⟩:=hW8.put NSnd (show (cs.map g)[i]? = some (g c) by rw [List.getElem?_map,ec];rfl) (w:=y) (by omega) (fun e he=>by
          obtain ⟨e0,h0,rfl⟩:=yi e he
          exact gin e0 (win e0 h0))
        refine ⟨_,rfl,_,rfl,_,rfl,dn,_,rfl,hg3,d2,_,rfl,DPut.k (k:=(Sum.inr (one (g c)):Key)) hd29 (small1000 (by unfold kvw;rw [List.length_map];omega)),?_⟩
        rw [eput]
        have kA:∀ a o,a≠p→a≠d2→H8 a=some o→upd H9 d2 (.dK (kvw (us3++[(g c,y)]))) a=some o:=fun a o n1 n2 h=>by rw [upd_ne n2];exact hB9 _ _ h n1
        have hd2A:upd H9 d2 (.dK (kvw (us3++[(g c,y)]))) d2=some (.dK (kvw (us3++[(g c,y)]))):=upd_same
        have hPA:=hP9.other (H':=upd H9 d2 (.dK (kvw (us3++[(g c,y)])))) (upd_ne nd2p.symm)
        revert kA hd2A hPA
        generalize upd H9 d2 (.dK (kvw (us3++[(g c,y)])))=HA
        intro kA hd2A hPA
        have hge:=DGet.k (k:=(Sum.inr (one c):Key)) (kA _ _ nep (ne_of_none he nd2') he8)
        rw [dkF_val hcu] at hge
        have hdnA:=kA _ _ ndnp ndn2 hdn8
        have hg4:=DGet.f (k:=(Sum.inr (one c):Key)) hdnA
        rw [kvf_val hc] at hg4
        refine ⟨_,rfl,t,_,_,_,rfl,rfl,SqT.of (kA _ _ ntp ntd2 ht8),atI_nat (j:=2) rfl,_,rfl,e,_,rfl,hge,_,rfl,_,rfl,_,rfl,dn,_,rfl,hg4,e2,_,rfl,DPut.k (k:=(Sum.inr (one (g c)):Key)) (kA _ _ ne2p nde2.symm he28) (small1000 (by rw [dkF_len,List.length_map,List.length_take];omega)),?_⟩
        rw [dkF_app (nGd ec),← take_snoc g ec]
        refine ⟨_,fun a=>if a=g c then f c else f2 a,_,rfl,by omega,fun a o n1 n2 n3 n4 h=>?_,?_,?_,hW9,(hPA.other (upd_ne ne2p.symm)).mono (by omega),upd_same,fun a ha=>?_⟩
        · rw [upd_ne n4]
          exact kA _ _ n1 n3 (k8 a o n1 n2 n3 n4 h)
        · rw [upd_ne nne2]
          exact hdnA
        · rw [upd_ne nde2];exact hd2A
        · dsimp only
          rw [take_snoc g ec] at ha
          by_cases z:a=g c
          · rw [if_pos z];exact ⟨hT.fb c hcu,fun h=>h c hcu⟩
          · rw [if_neg z]
            rcases List.mem_append.mp ha with h | h
            · exact hf8 a h
            · exact absurd (List.mem_singleton.mp h) z
  rintro σ H8 ⟨us3,f2,v9,rfl,hi,k8,hdn8,hd28,hW8,hP8,he28,hf8⟩
  have elk:((kvf cs fun c=>sign (g c)).map fun p=>kV p.1).length=cs.length:=by unfold kvf;simp
  rw [elk] at hW8 hP8 he28 hf8
  rw [List.take_length] at he28 hf8
  refine ⟨hdn8,?_⟩
  have kB:But p H (upd H8 dn (.dK (kvf cs fun c=>sign (g c)))):=fun a o h n=>by
    have hdne:=ne_of_none h ndn
    rw [upd_ne hdne]
    exact k8 a o n hdne (ne_of_none h nd2') (ne_of_none h ne2') (hB7 _ _ h n)
  have h28:upd H8 dn (.dK (kvf cs fun c=>sign (g c))) d2=some (.dK (kvw us3)):=by rw [upd_ne ndn2.symm];exact hd28
  have he29:upd H8 dn (.dK (kvf cs fun c=>sign (g c))) e2=some (.dK (dkF (cs.map g) f2)):=by rw [upd_ne nne2.symm];exact he28
  have hP9:PenAt (upd H8 dn (.dK (kvf cs fun c=>sign (g c)))) p (b+26+10 * cs.length):=hP8.other (upd_ne ndnp.symm)
  have hdn9:upd H8 dn (.dK (kvf cs fun c=>sign (g c))) dn=some (.dK (kvf cs fun c=>sign (g c))):=upd_same
  revert kB h28 he29 hP9 hdn9
  generalize upd H8 dn (.dK (kvf cs fun c=>sign (g c)))=H9
  intro kB h28 he29 hP9 hdn9
  dsimp only
  unfold tRet tTup
  refine turn_join (p:=p) (td:=dn) (b:=b+26+10 * cs.length) (x:=x) (g:=g) (ok:=ltr us) rfl hP9 (by omega) ndnp (fun H' hB' c hc=>?_) hin (by omega) (fun R r=>⟨_,rfl,r⟩) (fun R r=>⟨_,rfl,t,_,_,_,rfl,rfl,SqT.of (kB _ _ ht ntp),atI_nat (j:=0) rfl,⟨x.toArray⟩,rfl,(by show x.length≤_;omega),r⟩) (fun y HA hBA hPA yl yi=>?_)
  · have hg2:=DGet.k (k:=(Sum.inr (one c):Key)) (hB' dn _ hdn9 ndnp)
    rw [kvf_val (hpc.mem_iff.mpr hc)] at hg2
    exact hg2
  · refine ⟨_,rfl,_,rfl,szl (show 3≤1000 by decide),fun t2 nt2=>?_⟩
    have nt2p:t2≠p:=by obtain ⟨o,ho⟩:=hPA.some;exact (ne_of_none ho nt2).symm
    have hBx:=kB.trans hBA
    have s9:=Same.add (o:=.tup [tx y,.ref d2,.ref e2]) nt2
    have hW8':Wp (cs.map g) (cs.map g).length us3:=by rw [List.length_map];exact hW8
    obtain ⟨hWs,elt⟩:=hW8'.ws NSnd (by omega) NSab
    exact q t2 d2 e2 y us3 f2 _ nd2' ne2' nde2 (hBx.trans (But.same s9)) ((hPA.other (upd_ne nt2p.symm)).mono (by omega)) ⟨⟨upd_same,s9 _ _ (hBA _ _ h28 nd2p),by rw [elt];exact s9 _ _ (hBA _ _ he29 ne2p)⟩,hWs,by omega,fun c hc=>by
      obtain ⟨e0,h0,rfl⟩:=yi c hc
      rw [elt]
      exact gin e0 (hin e0 h0),fun c hc=>by rw [elt] at hc;exact (hf8 c hc).1⟩ fun h c hc=>by rw [elt] at hc;exact (hf8 c hc).2 h
end Lw
namespace Lw
open PySem L2 PyProof.Rows
theorem slice_lo (x:Str) (j:Nat):Txt.slice x (some (j:Int)) none=Txt.slice x (some ((min j x.length:Nat):Int)) none:=by
  have e:Builtin.Str.strSliceIndices (some (j:Int)) none 1 x.length=Builtin.Str.strSliceIndices (some ((min j x.length:Nat):Int)) none 1 x.length:=by
    unfold Builtin.Str.strSliceIndices
    simp only
    have e1:max 0 (min (if (j:Int) < 0 then (j:Int)+(x.length:Int) else (j:Int)) (x.length:Int))=max 0 (min (if ((min j x.length:Nat):Int) < 0 then ((min j x.length:Nat):Int)+(x.length:Int) else ((min j x.length:Nat):Int)) (x.length:Int)):=by
      rw [if_neg (by omega),if_neg (by omega)]
      omega
    rw [if_pos (by decide),e1]
    rfl
  unfold Txt.slice
  rw [e]
theorem slice_dropG (x:List Nat) (i:Nat):Txt.slice ⟨x.toArray⟩ (some (i:Int)) none=⟨(x.drop i).toArray⟩:=by
  rw [slice_lo]
  show Txt.slice ⟨x.toArray⟩ (some ((min i x.length:Nat):Int)) none=_
  rw [slice_drop x _ (Nat.min_le_right _ _)]
  by_cases h:i≤x.length
  · rw [Nat.min_eq_left h]
  · rw [Nat.min_eq_right (by omega),List.drop_of_length_le (Nat.le_refl _),List.drop_of_length_le (by omega)]
theorem Ws.rpl {us:List Rule} {c:Nat} {w:List Nat} (h:Ws us) (h1:w.length≤6) (h2:∀ e∈w,e∈ltr us):Ws (rpl us c w):=by
  have el:=rpl_ltr us c w
  refine ⟨?_,by rw [el];exact h.nd,by rw [el];exact h.abc,fun q hq=>?_,fun q hq=>?_⟩
  · rw [← ltr_len,el,ltr_len];exact h.few
  · obtain ⟨q0,h0,rfl⟩:=List.mem_map.mp hq
    by_cases e:q0.1=c
    · rw [if_pos e];exact h1
    · rw [if_neg e];exact h.wl q0 h0
  · rw [el]
    obtain ⟨q0,h0,rfl⟩:=List.mem_map.mp hq
    by_cases e:q0.1=c
    · rw [if_pos e];exact h2
    · rw [if_neg e];exact h.win q0 h0
def Ones (ev:Bool) (us:List Rule) (f:Nat→Int):Prop:=ev=true→∀ c∈ltr us,f c=1
def spOth:Sp:=fun vs H Q _=>∃ (p t d e:Addr) (b:Nat) (ev:Bool) (x:List Nat) (us:List Rule) (f:Nat→Int),vs=[.ref p,.ref t,.bl ev]∧PenAt H p b∧b≤600000∧TriOk H t d e x us f∧Ones ev us f ∧
  ∀ (t2 d2 e2:Addr) (y:List Nat) (us2:List Rule) (f2:Nat→Int) H',H d2=none→H e2=none→But p H H'→PenAt H' p (b+1000)→TriOk H' t2 d2 e2 y us2 f2→Ones ev us2 f2→Q (.ref t2) H'
theorem oth_go {K:PySem.W.Frag} {Q:VK} {H:Hp} {p t d e:Addr} {b:Nat} {ev:Bool} {x:List Nat} {us:List Rule} {f:Nat→Int} (hp:PenAt H p b) (hb:b≤600000) (hT:TriOk H t d e x us f) (hev:Ones ev us f)
    (q:∀ (t2 d2 e2:Addr) (y:List Nat) (us2:List Rule) (f2:Nat→Int) H',H d2=none→H e2=none→But p H H'→PenAt H' p (b+1000)→TriOk H' t2 d2 e2 y us2 f2→Ones ev us2 f2→Q (.ref t2) H') :
    tSeq (tAsg (tCall spTak [] E0 (tCons (tVar 0) (tCons (tC (V.int 6)) tNil))) (gName 3))
    (tSeq
      (tIfS (tTest (tOp rEq (tVar 3) (tC (V.int 0)))) (tRet (tCall spFre [] E0 (tCons (tVar 0) (tCons (tVar 2) tNil))))
        tNext)
      (tSeq (tAsg (tCall spNam [] E0 (tCons (tVar 0) (tCons (tVar 1) tNil))) (gName 4))
        (tSeq
          (tAsg (tCB (rSortT K) (tCons (tCB rListD (tCons (tOp (rIxT K) (tVar 4) (tC (V.int 1))) tNil)) tNil))
            (gName 5))
          (tSeq
            (tIfS
              (tAnd (tTest (tOp (rI0 fun i j=>V.bl (decide (i < j))) (tVar 3) (tC (V.int 4))))
                (tTest (tOp (rNeL0 K) (tVar 5) (tLst tNil))))
              (tSeq
                (tAsg
                  (tOp (rIxL K) (tVar 5)
                    (tCall spTak [] E0 (tCons (tVar 0) (tCons (tCB (rLen K) (tCons (tVar 5) tNil)) tNil))))
                  (gName 6))
                (tSeq (tAsg (tDGet (tOp (rIxT K) (tVar 4) (tC (V.int 1))) (tVar 6)) (gName 7))
                  (tSeq
                    (tAsg
                      (tCall spTak [] E0
                        (tCons (tVar 0)
                          (tCons
                            (tOp (rI0 fun i j=>V.int (i+j))
                              (tCB (fun xs H Q=>∃ z,xs=[V.str z]∧z.length≤sizeLine∧Q (V.int ↑z.length) H)
                                (tCons (tVar 7) tNil))
                              (tC (V.int 1)))
                            tNil)))
                      (gName 8))
                    (tSeq
                      (tAsg
                        (tCall spTxt [] E0
                          (tCons (tVar 0)
                            (tCons (tVar 5)
                              (tCons (tCall spTak [] E0 (tCons (tVar 0) (tCons (tC (V.int 2)) tNil))) tNil))))
                        (gName 9))
                      (tSeq
                        (tAsg
                          (tSl rSlS (tVar 7)
                            (tPart
                              (tOp (rI0 fun i j=>V.int (i+j)) (tVar 8)
                                (tCall spTak [] E0 (tCons (tVar 0) (tCons (tC (V.int 2)) tNil)))))
                            tNoPart)
                          (gName 10))
                        (sDPut (tOp (rIxT K) (tVar 4) (tC (V.int 1))) (tVar 6)
                          (tSl rSlS
                            (tOp
                              (fun x y H Q =>
                                ∃ i j,
                                  x=V.str i∧y=V.str j∧i.length+j.length≤sizeLine∧Q (V.str (i++j)) H)
                              (tOp
                                (fun x y H Q =>
                                  ∃ i j,
                                    x=V.str i∧y=V.str j∧i.length+j.length≤sizeLine∧Q (V.str (i++j)) H)
                                (tSl rSlS (tVar 7) tNoPart (tPart (tVar 8))) (tVar 9))
                              (tVar 10))
                            tNoPart (tPart (tC (V.int 6))))))))))
              tNext)
            (tRet (tVar 4))))))
    { nx:=fun x H'=>Q V.non H',rt:=Q }
    (L2.start
      [Str.ofString "_law_pen_here",Str.ofString "_law_one",Str.ofString "_law_even",Str.ofString "_law_pick",
        Str.ofString "_law_other_here",Str.ofString "_law_signs",Str.ofString "_law_sign",
        Str.ofString "_law_text_here",Str.ofString "_law_spot",Str.ofString "_law_more",Str.ofString "_law_rest"]
      [V.ref p,V.ref t,V.bl ev])
    H:=by
  have es:∀ xs:List Nat,(xs.map one).map V.str=xs.map sign:=fun xs=>by rw [List.map_map];rfl
  refine ⟨_,rfl,p,b,_,rfl,hp,by omega,by decide,by decide,fun pick H1 z10 z11 hP1 e1=>?_⟩
  have B1:=but3 e1
  refine ⟨_,rfl,rfl,_,rfl,ite2 (fun _=>?_) (fun _=>?_)⟩
  · refine ⟨_,rfl,_,rfl,p,b+1,ev,rfl,hP1,by omega,fun t2 d2 e2 y us2 f2 H2 a1 a2 _ B2 hP2 h2 ho=>?_⟩
    exact q t2 d2 e2 y us2 f2 H2 (B1.free (h2.dp hP2) a1) (B1.free (h2.ep hP2) a2) (B1.trans B2) (hP2.mono (by omega)) h2 ho
  refine ⟨_,rfl,_,rfl,p,t,d,e,b+1,x,us,f,rfl,hP1,by omega,hT.but hp B1,fun t2 d2 e2 y us2 f2 H2 a1 a2 nde B2 hP2 h2 ho=>?_⟩
  have hev2:Ones ev us2 f2:=fun h=>ho (hev h)
  have ht:=h2.t
  have hd:=h2.d
  have hW:=h2.ws
  have nt2p:=h2.tp hP2
  have nd2p:=h2.dp hP2
  have ntd:t2≠d2:=fun z=>by rw [z,hd] at ht;cases ht
  have hfew:=hW.few
  have hdH:=B1.free nd2p a1
  have heH:=B1.free (h2.ep hP2) a2
  have B12:=B1.trans B2
  refine ⟨_,rfl,t2,_,_,_,rfl,rfl,SqT.of ht,atI_nat (j:=1) rfl,d2,kvw us2,(ltr us2).map one,rfl,hd,kvw_ones us2,fun l1 nl1=>?_⟩
  rw [es]
  have s1:=Same.add (o:=.lst ((ltr us2).map sign)) nl1
  refine ⟨l1,false,(ltr us2).map one,rfl,(by show SqL K _ l1 _;rw [es];exact SqL.of upd_same),by rw [List.length_map,ltr_len];omega,fun l2 ss' nl2 hperm2 hsort=>?_⟩
  obtain ⟨cs,hpc,rfl⟩:=perm_ones hperm2
  rw [es]
  have cln:cs.length=us2.length:=by rw [hpc.length_eq];exact ltr_len us2
  have cin:∀ c∈cs,c∈ltr us2:=fun c hc=>hpc.mem_iff.mp hc
  have s2:=Same.add (o:=.lst (cs.map sign)) nl2
  have s12:=s1.trans s2
  have hl2:upd (upd H2 l1 (.lst ((ltr us2).map sign))) l2 (.lst (cs.map sign)) l2=some (.lst (cs.map sign)):=upd_same
  have nl2p:l2≠p:=by obtain ⟨o,ho⟩:=hP2.some;exact (ne_of_none (s1 _ _ ho) nl2).symm
  have nl2d:l2≠d2:=(ne_of_none (s1 _ _ hd) nl2).symm
  have hP3:PenAt (upd (upd H2 l1 (.lst ((ltr us2).map sign))) l2 (.lst (cs.map sign))) p (b+401):=by obtain ⟨o,ho⟩:=hP2.some;exact hP2.other ((s12 _ _ ho).trans ho.symm) |>.mono (by omega)
  revert s12 hl2 hP3
  generalize upd (upd H2 l1 (.lst ((ltr us2).map sign))) l2 (.lst (cs.map sign))=H3
  clear nl1 nl2 s1 s2 hperm2 hsort
  intro s12 hl2 hP3
  have el:((cs.map sign).length:Int)=(cs.length:Int):=by rw [List.length_map]
  dsimp only [gName]
  refine seq_by (fun σ' H'=>∃ (us3:List Rule) (v6 v7 v8 v9 v10:Option V),σ'=[some (.ref p),some (.ref t),some (.bl ev),some (.int pick),some (.ref t2),some (.ref l2),v6,v7,v8,v9,v10]∧(∀ a o,a≠p→a≠d2→H2 a=some o→H' a=some o)∧PenAt H' p (b+900)∧H' d2=some (.dK (kvw us3))∧Ws us3∧ltr us3=ltr us2) (fun nx hnx=>?_) ?_
  · have keep:∀ {Hx:Hp},Same H3 Hx→nx [some (.ref p),some (.ref t),some (.bl ev),some (.int pick),some (.ref t2),some (.ref l2),none,none,none,none,none] Hx:=fun {Hx} sx=>hnx _ _ ⟨us2,_,_,_,_,_,rfl,fun a o _ _ h=>sx _ _ (s12 _ _ h),by obtain ⟨o,ho⟩:=hP3.some;exact (hP3.other ((sx _ _ ho).trans ho.symm)).mono (by omega),sx _ _ (s12 _ _ hd),hW,rfl⟩
    refine ⟨_,rfl,_,_,rfl,rfl,_,rfl,ite2 (fun _=>?_) (fun _=>iteF (keep (Same.refl _)))⟩
    refine ⟨_,rfl,szl (show 0≤1000 by decide),fun e0 ne0=>?_⟩
    have se:=Same.add (o:=.lst []) ne0
    have s14:=s12.trans se
    have hP4:PenAt (upd H3 e0 (.lst [])) p (b+401):=by obtain ⟨o,ho⟩:=hP3.some;exact hP3.other ((se _ _ ho).trans ho.symm)
    have hl4:=se _ _ hl2
    have he4:upd H3 e0 (.lst []) e0=some (.lst []):=upd_same
    have keep4:=keep se
    revert s14 hP4 hl4 he4 keep4
    generalize upd H3 e0 (.lst [])=H4
    intro s14 hP4 hl4 he4 keep4
    refine ⟨l2,e0,_,rfl,rfl,SqL.of hl4,SqL.of he4,_,rfl,ite2 (fun hne=>?_) (fun _=>keep4)⟩
    have hcl:0 < cs.length:=by
      cases cs with
      | nil=>cases hne
      | cons a r=>rw [List.length_cons];omega
    refine ⟨_,rfl,_,rfl,_,rfl,l2,_,rfl,.inl (SqL.of hl4),p,_,_,rfl,hP4,by omega,by rw [el];omega,by rw [el];omega,fun z5 H5 z50 z51 hP5 e5=>?_⟩
    rw [el] at z51
    obtain ⟨j,rfl⟩:∃ m:Nat,z5=(m:Int):=⟨z5.toNat,by omega⟩
    have hj:j < cs.length:=by omega
    have hl5:=(e5 l2 nl2p).trans hl4
    refine ⟨l2,_,_,sign cs[j],rfl,rfl,SqL.of hl5,atI_nat (by rw [List.getElem?_map,List.getElem?_eq_getElem hj];rfl),?_⟩
    have hcu:=cin cs[j] (List.getElem_mem hj)
    revert hcu
    generalize cs[j]=c
    intro hcu
    have ht5:=(e5 t2 nt2p).trans (s14 _ _ ht)
    have hd5:=(e5 d2 nd2p).trans (s14 _ _ hd)
    have hgw:=DGet.k (k:=(Sum.inr (one c):Key)) hd5
    rw [kvw_wd hW.nd hcu] at hgw
    obtain ⟨w6,win⟩:=wd_of hW hcu
    refine ⟨_,rfl,t2,_,_,_,rfl,rfl,SqT.of ht5,atI_nat (j:=1) rfl,_,rfl,d2,_,rfl,hgw,?_⟩
    generalize wd us2 c=w at w6 win hgw
    refine ⟨_,rfl,_,rfl,⟨w.toArray⟩,rfl,szl (show w.length≤1000 by omega),_,_,rfl,rfl,p,_,_,rfl,hP5,by omega,by show (0:Int) < ((w.length:Nat):Int)+1;omega,by show ((w.length:Nat):Int)+1≤_;omega,fun z6 H6 z60 z61 hP6 e6=>?_⟩
    obtain ⟨s,rfl⟩:∃ m:Nat,z6=(m:Int):=⟨z6.toNat,by omega⟩
    have hl6:=(e6 l2 nl2p).trans hl5
    refine ⟨_,rfl,_,rfl,_,rfl,p,_,_,rfl,hP6,by omega,by decide,by decide,fun z7 H7 z70 z71 hP7 e7=>?_⟩
    obtain ⟨m7,rfl⟩:∃ m:Nat,z7=(m:Int):=⟨z7.toNat,by omega⟩
    refine ⟨p,l2,_,m7,cs,rfl,hP7,by omega,by omega,(e7 l2 nl2p).trans hl6,by omega,nl2p,fun mo H8 mol _ moi B8 hP8=>?_⟩
    refine ⟨_,rfl,_,rfl,_,rfl,p,_,_,rfl,hP8,by omega,by decide,by decide,fun z9 H9 z90 z91 hP9 e9=>?_⟩
    obtain ⟨m9,rfl⟩:∃ m:Nat,z9=(m:Int):=⟨z9.toNat,by omega⟩
    refine ⟨_,_,rfl,rfl,_,rfl,⟨w.toArray⟩,rfl,szl (show w.length≤1000 by omega),?_⟩
    rw [show (s:Int)+(m9:Int)=((s+m9:Nat):Int) by omega,slice_dropG]
    have l1:(w.take s).length≤6:=by rw [List.length_take];omega
    have l3:(w.drop (s+m9)).length≤6:=by rw [List.length_drop];omega
    refine ⟨_,rfl,_,rfl,_,rfl,⟨w.toArray⟩,rfl,szl (show w.length≤1000 by omega),?_⟩
    rw [slice_take]
    refine ⟨_,rfl,⟨(w.take s).toArray⟩,⟨mo.toArray⟩,rfl,rfl,szl (show (w.take s).length+mo.length≤1000 by omega),?_⟩
    rw [tx_app]
    refine ⟨_,rfl,⟨(w.take s++mo).toArray⟩,⟨(w.drop (s+m9)).toArray⟩,rfl,rfl,szl (show (w.take s++mo).length+(w.drop (s+m9)).length≤1000 by rw [List.length_append];omega),?_⟩
    rw [tx_app]
    refine ⟨_,rfl,⟨(w.take s++mo++w.drop (s+m9)).toArray⟩,rfl,szl (show (w.take s++mo++w.drop (s+m9)).length≤1000 by rw [List.length_append,List.length_append];omega),?_⟩
    rw [show (6:Int)=((6:Nat):Int) from rfl,slice_take]
    have B59:But p H5 H9:=(but3 e6).trans ((but3 e7).trans (B8.trans (but3 e9)))
    have ht9:=B59 _ _ ht5 nt2p
    have hd9:=B59 _ _ hd5 nd2p
    refine ⟨_,rfl,t2,_,_,_,rfl,rfl,SqT.of ht9,atI_nat (j:=1) rfl,_,rfl,d2,_,rfl,DPut.k (k:=(Sum.inr (one c):Key)) hd9 (small1000 (by unfold kvw;rw [List.length_map];omega)),?_⟩
    have w'i:∀ a∈(w.take s++mo++w.drop (s+m9)).take 6,a∈ltr us2:=fun a ha=>by
      rcases List.mem_append.mp (List.mem_of_mem_take ha) with h | h
      · rcases List.mem_append.mp h with h | h
        · exact win a (List.mem_of_mem_take h)
        · exact cin a (moi a h)
      · exact win a (List.mem_of_mem_drop h)
    have w'l:((w.take s++mo++w.drop (s+m9)).take 6).length≤6:=by rw [List.length_take];omega
    revert w'i w'l
    generalize (w.take s++mo++w.drop (s+m9)).take 6=w'
    intro w'i w'l
    rw [show V.str ⟨w'.toArray⟩=tx w' from rfl,rpl_put _ hW.nd hcu]
    refine hnx _ _ ⟨rpl us2 c w',_,_,_,_,_,rfl,fun a o n1 n2 h=>?_,(hP9.other (upd_ne nd2p.symm)).mono (by omega),upd_same,hW.rpl w'l w'i,rpl_ltr us2 c w'⟩
    rw [upd_ne n2]
    exact B59 _ _ ((e5 a n1).trans (s14 _ _ h)) n1
  rintro σ H4 ⟨us3,v6,v7,v8,v9,v10,rfl,k4,hP4,hd4,hW3,elt⟩
  refine ⟨_,rfl,q t2 d2 e2 y us3 f2 H4 hdH heH (fun a o h n=>k4 a o n (ne_of_none h hdH) (B12 _ _ h n)) (hP4.mono (by omega)) ⟨⟨k4 _ _ nt2p ntd ht,hd4,?_⟩,hW3,h2.xl,fun c hc=>by rw [elt];exact h2.xi c hc,fun c hc=>by rw [elt] at hc;exact h2.fb c hc⟩ fun h c hc=>by rw [elt] at hc;exact hev2 h c hc⟩
  rw [elt]
  exact k4 _ _ (h2.ep hP2) nde.symm h2.e
end Lw
namespace Lw
open PySem L2 PyProof.Rows
theorem rise_eq:∀ {a b:List Nat},a.Pairwise (· < ·)→b.Pairwise (· < ·)→(∀ e,e∈a ↔ e∈b)→a=b
  | [],[],_,_,_=>rfl
  | [],y :: b,_,_,h=>absurd ((h y).mpr List.mem_cons_self) (by simp)
  | x :: a,[],_,_,h=>absurd ((h x).mp List.mem_cons_self) (by simp)
  | x :: a,y :: b,ha,hb,h=>by
    obtain ⟨a1,a2⟩:=List.pairwise_cons.mp ha
    obtain ⟨b1,b2⟩:=List.pairwise_cons.mp hb
    have exy:x=y:=by
      rcases List.mem_cons.mp ((h x).mp List.mem_cons_self) with e | e
      · exact e
      · rcases List.mem_cons.mp ((h y).mpr List.mem_cons_self) with e' | e'
        · exact e'.symm
        · have:=b1 x e
          have:=a1 y e'
          omega
    subst exy
    rw [rise_eq a2 b2 fun e=>⟨fun he=>?_,fun he=>?_⟩]
    · rcases List.mem_cons.mp ((h e).mp (List.mem_cons_of_mem _ he)) with z | z
      · have:=a1 e he
        omega
      · exact z
    · rcases List.mem_cons.mp ((h e).mpr (List.mem_cons_of_mem _ he)) with z | z
      · have:=b1 e he
        omega
      · exact z
def zW (us:List Rule) (f:Nat→Int):Nat→Nat→Int
  | 0,c=>f c
  | n+1,c=>((wd us c).map (zW us f n)).sum
def wtW (us:List Rule) (x:List Nat) (f:Nat→Int) (n:Nat):Int:=(x.map (zW us f n)).sum
def spBok:Sp:=fun vs H Q _=>∃ (t d e:Addr) (x:List Nat) (us:List Rule) (f:Nat→Int),vs=[.ref t]∧TriOk H t d e x us f∧∀ (B:Addr) (rs:List Rule) H',Same H H'→BookAt H' B x rs→Good x rs→Like us rs→Q (.ref B) H'
theorem bok_go {K:PySem.W.Frag} {Q:VK} {H:Hp} {t d e:Addr} {x:List Nat} {us:List Rule} {f:Nat→Int} (hO:TriOk H t d e x us f) (k:∀ (B:Addr) (rs:List Rule) H',Same H H'→BookAt H' B x rs→Good x rs→Like us rs→Q (.ref B) H') :
    tRet
    (tTup
      (tCons (tOp (rIxT K) (tVar 0) (tC (V.int 0)))
        (tCons
          (tCB (rTupOf K)
            (tCons
              (tComp [none,some 0]
                (iList K (tCB (rSortT K) (tCons (tCB rListD (tCons (tOp (rIxT K) (tVar 0) (tC (V.int 1))) tNil)) tNil)))
                (gName 0) tAll
                (tTup (tCons (tVar 0) (tCons (tDGet (tOp (rIxT K) (tVar 1) (tC (V.int 1))) (tVar 0)) tNil))))
              tNil))
          tNil)))
    { nx:=fun x H'=>Q V.non H',rt:=Q } (L2.start [Str.ofString "_law_one"] [V.ref t]) H:=by
  have hd:=hO.d
  have ht:=hO.t
  have hW:=hO.ws
  have hx:=hO.xl
  have hin:=hO.xi
  have hfew:=hW.few
  have es:∀ xs:List Nat,(xs.map one).map V.str=xs.map sign:=fun xs=>by rw [List.map_map];rfl
  refine ⟨_,rfl,t,_,_,_,rfl,rfl,SqT.of ht,atI_nat (j:=0) rfl,_,rfl,t,_,_,_,rfl,rfl,SqT.of ht,atI_nat (j:=1) rfl,d,kvw us,(ltr us).map one,rfl,hd,kvw_ones us,fun l nl=>?_⟩
  rw [es]
  have s1:=Same.add (o:=.lst ((ltr us).map sign)) nl
  refine ⟨l,false,(ltr us).map one,rfl,(by show SqL K _ l _;rw [es];exact SqL.of upd_same),by rw [List.length_map,ltr_len];omega,fun l2 ss' hl2 hperm hsort=>?_⟩
  obtain ⟨cs',hp',rfl⟩:=perm_ones hperm
  rw [es]
  have nd':cs'.Nodup:=hp'.nodup_iff.mpr hW.nd
  have hlt:=sorted_lt hsort nd'
  have hlen':cs'.length=us.length:=by rw [hp'.length_eq];exact ltr_len us
  have s2:=Same.add (o:=.lst (cs'.map sign)) hl2
  have s02:=s1.trans s2
  have hl2':upd (upd H l (.lst ((ltr us).map sign))) l2 (.lst (cs'.map sign)) l2=some (.lst (cs'.map sign)):=upd_same
  revert s02 hl2'
  generalize upd (upd H l (.lst ((ltr us).map sign))) l2 (.lst (cs'.map sign))=H2
  intro s02 hl2'
  have hin':∀ c∈cs',c∈ltr us:=fun c hc=>hp'.mem_iff.mp hc
  refine ⟨l2,rfl,⟨_,SqL.of hl2'⟩,?_⟩
  refine comp_allR (τ0:=[none,some (V.ref t)]) (sure_list (xs:=cs'.map sign)) (by rw [List.length_map];omega)
    (fun i ys τ H8=>Same H2 H8∧(∃ v,τ=[v,some (.ref t)])∧∃ (ps:List Addr),ys=ps.map V.ref∧RulesAt H8 ps ((cs'.take i).map fun c=>(c,wd us c)))
    ⟨Same.refl _,⟨_,rfl⟩,[],rfl,.nil⟩ ?_ ?_ ?_
  · rintro i ys τ H8 hi ⟨s8,_,ps,rfl,hR⟩
    refine ⟨SqL.of (s8 _ _ hl2'),?_⟩
    rw [List.length_map,hR.len,List.length_map,List.length_take]
    omega
  · rintro i y ys τ H8 hy ⟨s8,⟨v0,rfl⟩,ps,rfl,hR⟩
    rw [List.getElem?_map] at hy
    cases ec:cs'[i]? with
    | none=>rw [ec] at hy;cases hy
    | some c =>
      rw [ec] at hy
      cases hy
      have hc:=hin' c (List.mem_of_getElem? ec)
      have hg:=DGet.k (k:=(Sum.inr (one c):Key)) (s8 _ _ (s02 _ _ hd))
      rw [kvw_wd hW.nd hc] at hg
      refine ⟨_,rfl,_,rfl,t,_,_,_,rfl,rfl,SqT.of (s8 _ _ (s02 _ _ ht)),atI_nat (j:=1) rfl,_,rfl,d,_,rfl,hg,(by show 2≤sizeLine;decide),fun T hT=>?_⟩
      refine ⟨s8.trans (Same.add hT),⟨_,rfl⟩,ps++[T],by rw [List.map_append];rfl,?_⟩
      rw [take_snoc (fun c=>(c,wd us c)) ec]
      exact (hR.mono (TupS.same (Same.add hT))).snoc upd_same
  rintro ys τ H8 D ⟨s8,_,ps,rfl,hR⟩ hD
  rw [List.length_map,take_all] at hR
  refine ⟨D,ps.map V.ref,rfl,.inl ⟨SqL.of upd_same,fun r hr=>⟨(by show 2≤sizeLine;decide),fun tB htB=>?_⟩⟩⟩
  have sA:Same H8 (upd H8 D (.lst (ps.map V.ref))):=Same.add hD
  have sB:=Same.add (o:=.tup (ps.map V.ref)) hr
  have sC:=Same.add (o:=.tup [tx x,.ref r]) htB
  have el:ltr (cs'.map fun c=>(c,wd us c))=cs':=by
    show List.map _ (List.map _ _)=_
    rw [List.map_map]
    exact List.map_id _
  have hq:∀ r∈cs'.map (fun c=>(c,wd us c)),r.1∈ltr us∧r.2=wd us r.1:=fun r hr=>by
    obtain ⟨c,hc,rfl⟩:=List.mem_map.mp hr
    exact ⟨hin' c hc,rfl⟩
  have s6t:=s02.trans (s8.trans (sA.trans (sB.trans sC)))
  have hB9:BookAt (upd (upd (upd H8 D (.lst (ps.map V.ref))) r (.tup (ps.map V.ref))) tB (.tup [tx x,.ref r])) tB x (cs'.map fun c=>(c,wd us c)):=⟨r,ps,upd_same,sC _ _ upd_same,hR.mono (TupS.same (sA.trans (sB.trans sC)))⟩
  have hG:Good x (cs'.map fun c=>(c,wd us c)):=by
    refine ⟨by rw [List.length_map];omega,by rw [show (cs'.map fun c=>(c,wd us c)).map (·.1)=cs' from el];exact hlt,fun r hr=>hW.abc _ (hq r hr).1,fun r hr=>?_,fun r hr c hc=>?_,hx,fun c hc=>?_⟩
    · rw [(hq r hr).2]
      exact (wd_of hW (hq r hr).1).1
    · rw [(hq r hr).2] at hc
      show c∈ltr (cs'.map fun c=>(c,wd us c))
      rw [el]
      exact hp'.mem_iff.mpr ((wd_of hW (hq r hr).1).2 c hc)
    · show c∈ltr (cs'.map fun c=>(c,wd us c))
      rw [el]
      exact hp'.mem_iff.mpr (hin c hc)
  have hL:Like us (cs'.map fun c=>(c,wd us c)):=by
    refine ⟨fun c=>by rw [el];exact hp'.mem_iff,fun c hc=>?_,by rw [List.length_map];exact hlen'⟩
    obtain ⟨q',h1,h2,h3⟩:=wd_mem (show c∈ltr (cs'.map fun c=>(c,wd us c)) by rw [el];exact hp'.mem_iff.mpr hc)
    rw [h3,(hq q' h1).2,h2]
  exact k tB _ _ s6t hB9 hG hL
theorem dkF_ones (L:List Nat) (f:Nat→Int):(dkF L f).map (·.1)=(L.map one).map Sum.inr:=by
  rw [dkF_keys,List.map_map]
  rfl
def spLds:Sp:=fun vs H Q _=>∃ (t d e:Addr) (x x':List Nat) (us rs:List Rule) (f:Nat→Int),vs=[.ref t]∧TriOk H t d e x us f∧Good x' rs∧Like us rs∧∀ l H',Same H H'→H l=none→H' l=some (.lst (((ltr rs).map f).map V.int))→Q (.ref l) H'
theorem lds_go {K:PySem.W.Frag} {Q:VK} {H:Hp} {t d e:Addr} {x x':List Nat} {us rs:List Rule} {f:Nat→Int} (hO:TriOk H t d e x us f) (hG:Good x' rs) (hL:Like us rs) (k:∀ l H',Same H H'→H l=none→H' l=some (.lst (((ltr rs).map f).map V.int))→Q (.ref l) H') :
    tRet
    (tComp [none,some 0]
      (iList K (tCB (rSortT K) (tCons (tCB rListD (tCons (tOp (rIxT K) (tVar 0) (tC (V.int 2))) tNil)) tNil))) (gName 0)
      tAll (tDGet (tOp (rIxT K) (tVar 1) (tC (V.int 2))) (tVar 0)))
    { nx:=fun x H'=>Q V.non H',rt:=Q } (L2.start [Str.ofString "_law_one"] [V.ref t]) H:=by
  have es:∀ xs:List Nat,(xs.map one).map V.str=xs.map sign:=fun xs=>by rw [List.map_map];rfl
  have he:=hO.e
  have hW:=hO.ws
  have hfew:=hW.few
  refine ⟨_,rfl,t,_,_,_,rfl,rfl,SqT.of hO.t,atI_nat (j:=2) rfl,e,_,(ltr us).map one,rfl,he,dkF_ones _ _,fun l nl=>?_⟩
  rw [es]
  have s1:=Same.add (o:=.lst ((ltr us).map sign)) nl
  refine ⟨l,false,(ltr us).map one,rfl,(by show SqL K _ l _;rw [es];exact SqL.of upd_same),by rw [List.length_map,ltr_len];omega,fun l2 ss' hl2 hperm hsort=>?_⟩
  obtain ⟨cs',hp',rfl⟩:=perm_ones hperm
  rw [es]
  have nd':cs'.Nodup:=hp'.nodup_iff.mpr hW.nd
  have hlt:=sorted_lt hsort nd'
  have hlen':cs'.length=us.length:=by rw [hp'.length_eq];exact ltr_len us
  have s02:=s1.trans (Same.add (o:=.lst (cs'.map sign)) hl2)
  have hl2':upd (upd H l (.lst ((ltr us).map sign))) l2 (.lst (cs'.map sign)) l2=some (.lst (cs'.map sign)):=upd_same
  revert s02 hl2'
  generalize upd (upd H l (.lst ((ltr us).map sign))) l2 (.lst (cs'.map sign))=H2
  intro s02 hl2'
  have ecs:cs'=ltr rs:=rise_eq hlt hG.rise fun c=>by rw [hp'.mem_iff];exact (hL.mem c).symm
  refine ⟨l2,rfl,⟨_,SqL.of hl2'⟩,?_⟩
  refine comp_allR (τ0:=[none,some (V.ref t)]) (sure_list (xs:=cs'.map sign)) (by rw [List.length_map];omega)
    (fun i ys τ H8=>H8=H2∧(∃ v,τ=[v,some (.ref t)])∧ys=((cs'.take i).map f).map V.int) ⟨rfl,⟨_,rfl⟩,rfl⟩ ?_ ?_ ?_
  · rintro i ys τ H8 hi ⟨rfl,_,rfl⟩
    refine ⟨SqL.of hl2',?_⟩
    rw [List.length_map,List.length_map,List.length_take]
    omega
  · rintro i y ys τ H8 hy ⟨rfl,⟨v0,rfl⟩,rfl⟩
    rw [List.getElem?_map] at hy
    cases ec:cs'[i]? with
    | none=>rw [ec] at hy;cases hy
    | some c =>
      rw [ec] at hy
      cases hy
      have hc:=hp'.mem_iff.mp (List.mem_of_getElem? ec)
      have hg:=DGet.k (k:=(Sum.inr (one c):Key)) (s02 _ _ he)
      rw [dkF_val hc] at hg
      refine ⟨_,rfl,t,_,_,_,rfl,rfl,SqT.of (s02 _ _ hO.t),atI_nat (j:=2) rfl,_,rfl,e,_,rfl,hg,rfl,⟨_,rfl⟩,?_⟩
      rw [take_snoc f ec,List.map_append]
      rfl
  rintro ys τ H8 D ⟨rfl,_,rfl⟩ hD
  rw [List.length_map,take_all,ecs]
  exact k D _ (s02.trans (Same.add hD)) (s02.free hD) upd_same
inductive Told
  | part (n:Nat)
  | alike (c:List Int)
def TldAt (H:Hp) (t:Addr):Told→Prop
  | .part n=>H t=some (.tup [V.str (Str.ofString "part"),.int (n:Int)])
  | .alike c=>∃ e,H t=some (.tup [V.str (Str.ofString "alike"),.ref e])∧H e=some (.lst (c.map V.int))
theorem TldAt.same {H H':Hp} {t:Addr} {r:Told} (h:TldAt H t r) (s:Same H H'):TldAt H' t r:=by
  cases r with
  | part n=>exact s _ _ h
  | alike c=>obtain ⟨e,h1,h2⟩:=h;exact ⟨e,s _ _ h1,s _ _ h2⟩
theorem TldAt.vs {K:PySem.W.Frag} {H:Hp} {t u:Addr} {r:Told} (h:TldAt H t r) (h':TldAt H u r):VSame K H 2 (.ref t) (.ref u):=by
  cases r with
  | part n =>
    refine .seq true (SqT.of h) (SqT.of h') rfl fun i x y e1 e2=>?_
    rw [e1] at e2
    cases e2
    refine .flat ?_
    rcases List.mem_cons.mp (List.mem_of_getElem? e1) with rfl | h
    · rfl
    · rw [List.mem_singleton.mp h];rfl
  | alike c =>
    obtain ⟨e,h1,h2⟩:=h
    obtain ⟨e',g1,g2⟩:=h'
    refine .seq true (SqT.of h1) (SqT.of g1) rfl fun i x y e1 e2=>?_
    match i with
    | 0=>cases e1;cases e2;exact .flat rfl
    | 1 =>
      cases e1;cases e2
      refine .seq false (SqL.of h2) (SqL.of g2) rfl fun i x y e1 e2=>?_
      rw [e1] at e2
      cases e2
      obtain ⟨z,_,rfl⟩:=List.mem_map.mp (List.mem_of_getElem? e1)
      exact .flat rfl
    | i+2=>simp at e1
def spWgs:Sp:=fun vs H Q _=>∃ (t d e:Addr) (x:List Nat) (us:List Rule) (f:Nat→Int) (M:Nat),vs=[.ref t,.int (M:Int)]∧TriOk H t d e x us f∧M≤16∧∀ l H',Same H H'→H l=none→H' l=some (.lst ((rg0 (wtW us x f) M).map V.int))→Q (.ref l) H'
theorem wgs_go {K:PySem.W.Frag} {Q:VK} {H:Hp} {t d e:Addr} {x:List Nat} {us:List Rule} {f:Nat→Int} {M:Nat} (hO:TriOk H t d e x us f) (hM:M≤16) (k:∀ l H',Same H H'→H l=none→H' l=some (.lst ((rg0 (wtW us x f) M).map V.int))→Q (.ref l) H') :
    tSeq (tAsg (tCB rDictD (tCons (tOp (rIxT K) (tVar 0) (tC (V.int 2))) tNil)) (gName 2))
    (tSeq (tAsg (tLst tNil) (gName 3))
      (tSeq
        (tFor (iRng1 (tCons (tVar 1) tNil)) (gName 4)
          (tSeq
            (tDrop
              (tBM K "list" rAppend (tVar 3)
                (tCons
                  (tCB (rSum K)
                    (tCons
                      (tComp [none,some 2] (iStr (tOp (rIxT K) (tVar 0) (tC (V.int 0)))) (gName 0) tAll
                        (tDGet (tVar 1) (tVar 0)))
                      tNil))
                  tNil)))
            (tSeq (tAsg tDNewK (gName 5))
              (tSeq
                (sFrz
                  (tFor (iDict (tOp (rIxT K) (tVar 0) (tC (V.int 1)))) (gName 6)
                    (sDPut (tVar 5) (tVar 6)
                      (tCB (rSum K)
                        (tCons
                          (tComp [none,some 2] (iStr (tDGet (tOp (rIxT K) (tVar 0) (tC (V.int 1))) (tVar 6))) (gName 0)
                            tAll (tDGet (tVar 1) (tVar 0)))
                          tNil)))))
                (tAsg (tVar 5) (gName 2))))))
        (tRet (tVar 3))))
    { nx:=fun x H'=>Q V.non H',rt:=Q }
    (L2.start
      [Str.ofString "_law_one",Str.ofString "_law_ages",Str.ofString "_law_sizes",Str.ofString "_law_found",
        Str.ofString "_law_age_here",Str.ofString "_law_fresh",Str.ofString "_law_sign"]
      [V.ref t,V.int ↑M])
    H:=by
  have hd:=hO.d
  have ht:=hO.t
  have hW:=hO.ws
  have hxu:=hO.xi
  have hx6:=hO.xl
  have hfew:=hW.few
  have ekl:(kvw us).length=us.length:=by unfold kvw;rw [List.length_map]
  have lu:=ltr_len us
  have el:((kvw us).map fun p=>kV p.1).length=(ltr us).length:=by unfold kvw ltr;simp
  refine ⟨_,rfl,t,_,_,_,rfl,rfl,SqT.of ht,atI_nat (j:=2) rfl,e,_,rfl,hO.e,fun ds nds=>?_⟩
  have s0:=Same.add (o:=.dK (dkF (ltr us) f)) nds
  have hds0:upd H ds (.dK (dkF (ltr us) f)) ds=some (.dK (dkF (ltr us) f)):=upd_same
  revert s0 hds0
  generalize upd H ds (.dK (dkF (ltr us) f))=H6
  intro hs0 hds0
  refine ⟨szl (show 0≤1000 by decide),fun lL nlL=>?_⟩
  have nL:H lL=none:=hs0.free nlL
  have s6L:=Same.add (o:=.lst []) nlL
  refine ⟨_,rfl,_,rfl,by omega,by omega,?_⟩
  have en:Int.toNat (M:Int)=M:=by omega
  refine for_by (sure_range (lo:=0) (n:=Int.toNat (M:Int))) (fun i σ H7=>∃ (dz:Addr) (v7 v8 v9:Option V),σ=[some (.ref t),some (.int (M:Int)),some (.ref dz),some (.ref lL),v7,v8,v9]∧Same H H7∧H7 lL=some (.lst ((rg0 (wtW us x f) i).map V.int))∧H7 dz=some (.dK (dkF (ltr us) (zW us f i)))∧H dz=none)
    ⟨ds,none,none,none,rfl,hs0.trans s6L,upd_same,s6L _ _ hds0,nds⟩ (fun _ _ _ _ _=>trivial) ?_ ?_
  · rintro i y σ H7 hy ⟨dz,v7,v8,v9,rfl,s7,hL7,hz7,ndz⟩
    obtain ⟨hi,rfl⟩:=rng_at hy
    rw [en] at hi
    have nzL:dz≠lL:=fun z=>by rw [z,hL7] at hz7;cases hz7
    have ndz':d≠dz:=ne_of_none hd ndz
    have ndL:d≠lL:=ne_of_none hd nL
    have exw:((⟨x.toArray⟩:Str).cps.toList.map sign).length=x.length:=by simp
    refine ⟨_,rfl,.inl ⟨rfl,_,SqL.of hL7⟩,_,rfl,t,_,_,_,rfl,rfl,SqT.of (s7 _ _ ht),atI_nat (j:=0) rfl,⟨x.toArray⟩,rfl,?_⟩
    refine comp_allR (τ0:=[none,some (.ref dz)]) (sure_str (x:=⟨x.toArray⟩)) (by rw [exw];omega) (fun m ws τ Ha=>Ha=H7∧(∃ v,τ=[v,some (.ref dz)])∧ws=((x.take m).map (zW us f i)).map V.int) ⟨rfl,⟨_,rfl⟩,rfl⟩ ?_ ?_ ?_
    · rintro m ws τ Ha hm ⟨rfl,_,rfl⟩
      refine ⟨trivial,?_⟩
      rw [List.length_map,List.length_map,List.length_take]
      omega
    · rintro m y ws τ Ha hy ⟨rfl,⟨v,rfl⟩,rfl⟩
      have hy':(x.map sign)[m]? = some y:=hy
      rw [List.getElem?_map] at hy'
      cases e6:x[m]? with
      | none=>rw [e6] at hy';cases hy'
      | some a =>
        rw [e6] at hy'
        cases hy'
        have hga:=DGet.k (k:=(Sum.inr (one a):Key)) hz7
        rw [dkF_val (hxu a (List.mem_of_getElem? e6))] at hga
        refine ⟨_,rfl,_,rfl,dz,_,rfl,hga,rfl,⟨_,rfl⟩,?_⟩
        rw [take_snoc (zW us f i) e6,List.map_append]
        rfl
    rintro ws τ Ha D0 ⟨rfl,_,rfl⟩ nD0
    rw [exw,List.take_length]
    have sD0:=Same.add (o:=.lst ((x.map (zW us f i)).map V.int)) nD0
    have hL7':=sD0 _ _ hL7
    have hz7':=sD0 _ _ hz7
    have s7':=s7.trans sD0
    refine ⟨D0,_,rfl,SqL.of upd_same,lL,_,_,rfl,rfl,hL7',Nat.lt_of_lt_of_le (show _ < 10000 by rw [List.length_map,rg0_len];omega) (by decide),?_⟩
    have esum:(x.map (zW us f i)).sum=wtW us x f i:=rfl
    rw [esum]
    revert hL7' hz7' s7'
    generalize upd Ha D0 (.lst ((x.map (zW us f i)).map V.int))=H7'
    clear hL7 hz7 s7 sD0 nD0
    intro hL7 hz7 s7
    rw [rg0_snoc]
    have s8:Same H (upd H7' lL (.lst ((rg0 (wtW us x f) (i+1)).map V.int))):=fun b o h=>by
      rw [upd_ne (ne_of_none h nL)]
      exact s7 b o h
    have hL8:upd H7' lL (.lst ((rg0 (wtW us x f) (i+1)).map V.int)) lL=some (.lst ((rg0 (wtW us x f) (i+1)).map V.int)):=upd_same
    have hz8:upd H7' lL (.lst ((rg0 (wtW us x f) (i+1)).map V.int)) dz=some (.dK (dkF (ltr us) (zW us f i))):=by rw [upd_ne nzL];exact hz7
    revert s8 hL8 hz8
    generalize upd H7' lL (.lst ((rg0 (wtW us x f) (i+1)).map V.int))=H8
    intro s8 hL8 hz8
    intro db ndb
    have nb:H db=none:=s8.free ndb
    have ndb':d≠db:=ne_of_none hd nb
    have nLb:lL≠db:=ne_of_none hL8 ndb
    have nzb:dz≠db:=ne_of_none hz8 ndb
    have ntd:t≠d:=fun z=>by rw [z,hd] at ht;cases ht
    refine ⟨d,kvw us,by rw [upd_ne ndb'];exact s8 _ _ hd,fun ob2=>?_⟩
    refine ⟨_,rfl,t,_,_,_,rfl,rfl,SqT.of (by rw [upd_ne ntd,upd_ne (ne_of_none ht nb)];exact s8 _ _ ht),atI_nat (j:=1) rfl,d,ob2,kvw us,rfl,upd_same,?_⟩
    refine for_by (sure_dict (d:=d) (ob:=ob2) (kvs:=kvw us)) (fun j σ H9=>(∀ c o,c≠d→H8 c=some o→H9 c=some o)∧H9 d=some (.frz ob2 (.dK (kvw us)))∧H9 db=some (.dK (dkF ((ltr us).take j) (zW us f (i+1))))∧∃ v9,σ=[some (.ref t),some (.int (M:Int)),some (.ref dz),some (.ref lL),some (.int (i:Int)),some (.ref db),v9])
      ⟨fun c o n h=>by rw [upd_ne n,upd_ne (ne_of_none h ndb)];exact h,upd_same,by rw [upd_ne ndb'.symm,upd_same];rfl,_,rfl⟩ ?_ ?_ ?_
    · rintro j σ H9 hj ⟨_,hd9,_⟩
      exact hd9
    · rintro j y σ H9 hy ⟨s9,hd9,hb9,v9,rfl⟩
      unfold kvw at hy
      rw [List.map_map,List.getElem?_map] at hy
      cases e:us[j]? with
      | none=>rw [e] at hy;cases hy
      | some qq =>
        rw [e] at hy
        obtain rfl:sign qq.1=y:=Option.some.inj hy
        obtain ⟨ec,_⟩:=ltr_nt hW.nd e
        generalize qq.1=c at *
        have hcu:c∈ltr us:=List.mem_of_getElem? ec
        have hgc:=DGet.f (k:=(Sum.inr (one c):Key)) hd9
        rw [kvw_wd hW.nd hcu] at hgc
        obtain ⟨hw6,win⟩:=wd_of hW hcu
        have ew:((⟨(wd us c).toArray⟩:Str).cps.toList.map sign).length=(wd us c).length:=by simp
        refine ⟨_,rfl,t,_,_,_,rfl,rfl,SqT.of (s9 t _ ntd (s8 _ _ ht)),atI_nat (j:=1) rfl,_,rfl,d,_,rfl,hgc,⟨(wd us c).toArray⟩,rfl,?_⟩
        refine comp_allR (τ0:=[none,some (.ref dz)]) (sure_str (x:=⟨(wd us c).toArray⟩)) (by rw [ew];omega) (fun m ws τ Ha=>Ha=H9∧(∃ v,τ=[v,some (.ref dz)])∧ws=(((wd us c).take m).map (zW us f i)).map V.int) ⟨rfl,⟨_,rfl⟩,rfl⟩ ?_ ?_ ?_
        · rintro m ws τ Ha hm ⟨rfl,_,rfl⟩
          refine ⟨trivial,?_⟩
          rw [List.length_map,List.length_map,List.length_take]
          omega
        · rintro m y ws τ Ha hy ⟨rfl,⟨v,rfl⟩,rfl⟩
          have hy':((wd us c).map sign)[m]? = some y:=hy
          rw [List.getElem?_map] at hy'
          cases e6:(wd us c)[m]? with
          | none=>rw [e6] at hy';cases hy'
          | some a =>
            rw [e6] at hy'
            cases hy'
            have hau:a∈ltr us:=win a (List.mem_of_getElem? e6)
            have hga:=DGet.k (k:=(Sum.inr (one a):Key)) (s9 dz _ ndz'.symm hz8)
            rw [dkF_val hau] at hga
            refine ⟨_,rfl,_,rfl,dz,_,rfl,hga,rfl,⟨_,rfl⟩,?_⟩
            rw [take_snoc (zW us f i) e6,List.map_append]
            rfl
        rintro ws τ Ha D ⟨rfl,_,rfl⟩ nD
        rw [ew,List.take_length]
        have sD:=Same.add (o:=.lst (((wd us c).map (zW us f i)).map V.int)) nD
        refine ⟨D,_,rfl,SqL.of upd_same,_,rfl,_,rfl,db,_,rfl,DPut.k (k:=(Sum.inr (one c):Key)) (sD _ _ hb9) (small1000 (by rw [dkF_len,List.length_take];omega)),?_⟩
        refine ⟨fun b o n h=>?_,?_,?_,_,rfl⟩
        · rw [upd_ne (ne_of_none h ndb)]
          exact sD _ _ (s9 b o n h)
        · rw [upd_ne ndb']
          exact sD _ _ hd9
        · rw [upd_same]
          exact congrArg (fun z=>some (HO.dK z)) (dkF_put (g:=zW us f (i+1)) hW.nd ec)
    rintro σ H9 ⟨s9,hd9,hb9,v9,rfl⟩
    rw [el,List.take_length] at hb9
    refine ⟨hd9,_,rfl,db,_,_,_,rfl,fun b o h=>?_,?_,?_,nb⟩
    · by_cases n:b=d
      · rw [n,upd_same];rw [n,hd] at h;exact h
      · rw [upd_ne n];exact s9 b o n (s8 b o h)
    · rw [upd_ne ndL.symm]
      exact s9 lL _ ndL.symm hL8
    · rw [upd_ne ndb'.symm]
      exact hb9
  rintro σ H7 ⟨dz,v7,v8,v9,rfl,s7,hL7,hz7,ndz⟩
  rw [rngV_length,en] at hL7
  exact ⟨_,rfl,k lL H7 s7 nL hL7⟩
def ageOf:Told→Int
  | .part n=>(n:Int)
  | .alike _=>99
def spAge:Sp:=fun vs H Q _=>∃ (t:Addr) (r:Told),vs=[.ref t]∧TldAt H t r∧Q (.int (ageOf r)) H
theorem age_go {K:PySem.W.Frag} {Q:VK} {H:Hp} {t:Addr} {r:Told} (ht:TldAt H t r) (k:Q (.int (ageOf r)) H) :
    tSeq
    (tIfS
      (tOr (tNot (tB (tCB (rIsi K) (tCons (tVar 0) (tCons (tC (V.ty "tuple")) tNil)))))
        (tTest (tOp rNe (tCB (rLen K) (tCons (tVar 0) tNil)) (tC (V.int 2)))))
      (tRet (tUn (rU fun i=>V.int (-i)) (tC (V.int 1)))) tNext)
    (tSeq
      (tIfS
        (tAnd (tTest (tOp rEq (tOp (rIxT K) (tVar 0) (tC (V.int 0))) (tC (V.str (Str.ofString "alike")))))
          (tB (tCB (rIsi K) (tCons (tOp (rIxT K) (tVar 0) (tC (V.int 1))) (tCons (tC (V.ty "list")) tNil)))))
        (tRet (tC (V.int 99))) tNext)
      (tSeq
        (tIfS
          (tOr (tTest (tOp rNe (tOp (rIxT K) (tVar 0) (tC (V.int 0))) (tC (V.str (Str.ofString "part")))))
            (tOr
              (tNot (tB (tCB (rIsi K) (tCons (tOp (rIxT K) (tVar 0) (tC (V.int 1))) (tCons (tC (V.ty "int")) tNil)))))
              (tB (tCB (rIsi K) (tCons (tOp (rIxT K) (tVar 0) (tC (V.int 1))) (tCons (tC (V.ty "bool")) tNil))))))
          (tRet (tUn (rU fun i=>V.int (-i)) (tC (V.int 1)))) tNext)
        (tRet (tOp (rIxT K) (tVar 0) (tC (V.int 1))))))
    { nx:=fun x H'=>Q V.non H',rt:=Q } (L2.start [Str.ofString "_law_told"] [V.ref t]) H:=by
  have eP:(decide (V.str (Str.ofString "part")=V.str (Str.ofString "alike")))=false:=by decide +kernel
  have eA:(decide (V.str (Str.ofString "alike")=V.str (Str.ofString "alike")))=true:=decide_eq_true rfl
  have eQ:(!decide (V.str (Str.ofString "part")=V.str (Str.ofString "part")))=false:=by rw [decide_eq_true rfl];rfl
  cases r with
  | part n =>
    refine ⟨_,rfl,_,_,_,true,rfl,TyOf.tup ht,(by rfl),_,rfl,iteF ⟨_,rfl,t,_,rfl,.inr (SqT.of ht),rfl,_,rfl,iteF ?_⟩⟩
    refine ⟨_,rfl,t,_,_,_,rfl,rfl,SqT.of ht,atI_nat (j:=0) rfl,rfl,?_⟩
    rw [eP]
    refine ⟨_,rfl,iteF (iteF ?_)⟩
    refine ⟨_,rfl,t,_,_,_,rfl,rfl,SqT.of ht,atI_nat (j:=0) rfl,rfl,?_⟩
    rw [eQ]
    refine ⟨_,rfl,iteF ?_⟩
    refine ⟨_,rfl,t,_,_,_,rfl,rfl,SqT.of ht,atI_nat (j:=1) rfl,_,_,_,true,rfl,TyOf.int _,(by rfl),_,rfl,iteF ?_⟩
    refine ⟨_,rfl,t,_,_,_,rfl,rfl,SqT.of ht,atI_nat (j:=1) rfl,_,_,_,false,rfl,TyOf.int _,(by rfl),_,rfl,iteF ?_⟩
    exact ⟨_,rfl,t,_,_,_,rfl,rfl,SqT.of ht,atI_nat (j:=1) rfl,k⟩
  | alike c =>
    obtain ⟨e,h1,h2⟩:=ht
    refine ⟨_,rfl,_,_,_,true,rfl,TyOf.tup h1,(by rfl),_,rfl,iteF ⟨_,rfl,t,_,rfl,.inr (SqT.of h1),rfl,_,rfl,iteF ?_⟩⟩
    refine ⟨_,rfl,t,_,_,_,rfl,rfl,SqT.of h1,atI_nat (j:=0) rfl,rfl,?_⟩
    rw [eA]
    refine ⟨_,rfl,iteT ?_⟩
    exact ⟨_,rfl,t,_,_,_,rfl,rfl,SqT.of h1,atI_nat (j:=1) rfl,_,_,_,true,rfl,TyOf.lst h2,(by rfl),_,rfl,iteT k⟩
end Lw
namespace Lw
abbrev Vc:=Nat→Int
def cof (g:List Vc→Int) (j:Nat):List Vc→Int
  | []=>0
  | v :: R=>v j * g R - cof (fun X=>g (v :: X)) j R
def det:List Nat→List Vc→Int
  | [],[]=>1
  | [],_ :: _=>0
  | j :: C,R=>cof (det C) j R
def lc (a:Int) (x:Vc) (b:Int) (y:Vc):Vc:=fun j=>a * x j+b * y j
theorem cof_zero (j:Nat):∀ R,cof (fun _=>0) j R=0
  | []=>rfl
  | v :: R=>by
    show v j * 0 - cof (fun _=>0) j R=0
    rw [cof_zero j R]
    omega
theorem cof_lin (j:Nat) (a b:Int):∀ (R:List Vc) (g h:List Vc→Int),cof (fun X=>a * g X+b * h X) j R=a * cof g j R+b * cof h j R
  | [],g,h=>by simp [cof]
  | v :: R,g,h=>by
    show v j * (a * g R+b * h R) - cof (fun X=>a * g (v :: X)+b * h (v :: X)) j R=a * (v j * g R - cof (fun X=>g (v :: X)) j R)+b * (v j * h R - cof (fun X=>h (v :: X)) j R)
    rw [cof_lin j a b R (fun X=>g (v :: X)) (fun X=>h (v :: X))]
    grind
def Lin (g:List Vc→Int):Prop:=∀ (P S:List Vc) (a b:Int) (x y:Vc),g (P++lc a x b y :: S)=a * g (P++x :: S)+b * g (P++y :: S)
theorem Lin.pre {g:List Vc→Int} (h:Lin g) (v:Vc):Lin fun X=>g (v :: X):=fun P S a b x y=>h (v :: P) S a b x y
theorem lin_cof (j:Nat):∀ (P:List Vc) (g:List Vc→Int),Lin g→∀ (S:List Vc) (a b:Int) (x y:Vc),cof g j (P++lc a x b y :: S)=a * cof g j (P++x :: S)+b * cof g j (P++y :: S)
  | [],g,h,S,a,b,x,y=>by
    show (a * x j+b * y j) * g S - cof (fun X=>g (lc a x b y :: X)) j S=a * (x j * g S - cof (fun X=>g (x :: X)) j S)+b * (y j * g S - cof (fun X=>g (y :: X)) j S)
    have e:(fun X=>g (lc a x b y :: X))=fun X=>a * g (x :: X)+b * g (y :: X):=funext fun X=>h [] X a b x y
    rw [e,cof_lin]
    grind
  | p :: P,g,h,S,a,b,x,y=>by
    show p j * g (P++lc a x b y :: S) - cof (fun X=>g (p :: X)) j (P++lc a x b y :: S)=a * (p j * g (P++x :: S) - cof (fun X=>g (p :: X)) j (P++x :: S))+b * (p j * g (P++y :: S) - cof (fun X=>g (p :: X)) j (P++y :: S))
    rw [lin_cof j P _ (h.pre p) S a b x y,h P S a b x y]
    grind
theorem det_lin:∀ C,Lin (det C)
  | [],P,S,a,b,x,y=>by
    have e:∀ z:Vc,det [] (P++z :: S)=0:=fun z=>by cases P <;> rfl
    rw [e,e,e]
    omega
  | j :: C,P,S,a,b,x,y=>lin_cof j P _ (det_lin C) S a b x y
def Alt (g:List Vc→Int):Prop:=∀ (P S:List Vc) (x:Vc),g (P++x :: x :: S)=0
theorem Alt.pre {g:List Vc→Int} (h:Alt g) (v:Vc):Alt fun X=>g (v :: X):=fun P S x=>h (v :: P) S x
theorem alt_cof (j:Nat):∀ (P:List Vc) (g:List Vc→Int),Alt g→∀ (S:List Vc) (x:Vc),cof g j (P++x :: x :: S)=0
  | [],g,h,S,x=>by
    show x j * g (x :: S) - (x j * g (x :: S) - cof (fun X=>g (x :: x :: X)) j S)=0
    have e:(fun X=>g (x :: x :: X))=fun _=>0:=funext fun X=>h [] X x
    rw [e,cof_zero]
    omega
  | p :: P,g,h,S,x=>by
    show p j * g (P++x :: x :: S) - cof (fun X=>g (p :: X)) j (P++x :: x :: S)=0
    rw [alt_cof j P _ (h.pre p) S x,h P S x]
    omega
theorem det_alt:∀ C,Alt (det C)
  | [],P,S,x=>by cases P <;> rfl
  | j :: C,P,S,x=>alt_cof j P _ (det_alt C) S x
theorem det_swap (C:List Nat) (P S:List Vc) (x y:Vc):det C (P++x :: y :: S) = - det C (P++y :: x :: S):=by
  have h0:=det_alt C P S (lc 1 x 1 y)
  have h1:det C (P++lc 1 x 1 y :: lc 1 x 1 y :: S)=1 * det C (P++x :: lc 1 x 1 y :: S)+1 * det C (P++y :: lc 1 x 1 y :: S):=det_lin C P (lc 1 x 1 y :: S) 1 1 x y
  have h2:∀ z:Vc,det C (P++z :: lc 1 x 1 y :: S)=1 * det C (P++z :: x :: S)+1 * det C (P++z :: y :: S):=fun z=>by
    have:=det_lin C (P++[z]) S 1 1 x y
    simpa using this
  rw [h1,h2,h2,det_alt,det_alt] at h0
  omega
theorem det_twice (C:List Nat) (x:Vc):∀ (Q P S:List Vc),det C (P++x :: Q++x :: S)=0
  | [],P,S=>by
    have:=det_alt C P S x
    simpa using this
  | q :: Q,P,S=>by
    have h:=det_swap C P (Q++x :: S) x q
    have h2:=det_twice C x Q (P++[q]) S
    have e1:P++x :: q :: Q++x :: S=P++x :: q :: (Q++x :: S):=by simp
    have e2:P++[q]++x :: Q++x :: S=P++q :: x :: (Q++x :: S):=by simp
    rw [e2] at h2
    rw [e1,h,h2]
    rfl
theorem det_mem {C:List Nat} {v:Vc} {P R:List Vc} (h:v∈R):det C (v :: P++R)=0:=by
  obtain ⟨Q,S,rfl⟩:=List.append_of_mem h
  have:=det_twice C v (P++Q) [] S
  simpa using this
theorem cof_off {g:List Vc→Int} (j:Nat) {v:Vc} (hj:v j=0):∀ (P:List Vc) (g:List Vc→Int),(∀ P S,g (P++v :: S)=0)→∀ S,cof g j (P++v :: S)=0
  | [],g,h,S=>by
    show v j * g S - cof (fun X=>g (v :: X)) j S=0
    have e:(fun X=>g (v :: X))=fun _=>0:=funext fun X=>h [] X
    rw [e,cof_zero,hj]
    omega
  | p :: P,g,h,S=>by
    show p j * g (P++v :: S) - cof (fun X=>g (p :: X)) j (P++v :: S)=0
    rw [cof_off (g:=g) j hj P (fun X=>g (p :: X)) (fun P S=>h (p :: P) S) S,h P S]
    omega
theorem det_off {v:Vc}:∀ (C:List Nat),(∀ j∈C,v j=0)→∀ P S,det C (P++v :: S)=0
  | [],_,P,S=>by cases P <;> rfl
  | j :: C,h,P,S=>cof_off (g:=det C) j (h j List.mem_cons_self) P (det C) (det_off C fun i hi=>h i (List.mem_cons_of_mem _ hi)) S
def sumR:List Int→List Vc→Vc
  | [],_=>fun _=>0
  | _,[]=>fun _=>0
  | z :: zs,r :: R=>fun j=>z * r j+sumR zs R j
theorem cof_sum:∀ (R:List Vc) (g:List Vc→Int),∃ zs:List Int,zs.length=R.length∧∀ j,cof g j R=sumR zs R j
  | [],g=>⟨[],rfl,fun j=>rfl⟩
  | v :: R,g=>by
    obtain ⟨zs,hl,h⟩:=cof_sum R fun X=>g (v :: X)
    have neg:∀ (zs:List Int) (R:List Vc) (j:Nat),sumR (zs.map fun z=>-z) R j = - sumR zs R j:=fun zs=>by
      induction zs with
      | nil=>intro R j;rfl
      | cons z zs ih =>
        intro R j
        cases R with
        | nil=>rfl
        | cons r R =>
          show -z * r j+sumR (zs.map fun z=>-z) R j = - (z * r j+sumR zs R j)
          rw [ih]
          grind
    refine ⟨g R :: zs.map fun z=>-z,by simp [hl],fun j=>?_⟩
    show v j * g R - cof (fun X=>g (v :: X)) j R=g R * v j+sumR (zs.map fun z=>-z) R j
    rw [h,neg]
    grind
def clr (C:List Nat) (R:List Vc) (v:Vc):Vc:=fun j=>det (j :: C) (v :: R)
theorem clr_eq (C:List Nat) (R:List Vc) (v:Vc):∃ zs:List Int,zs.length=R.length∧∀ j,clr C R v j=det C R * v j+sumR zs R j:=by
  obtain ⟨zs,hl,h⟩:=cof_sum R fun X=>det C (v :: X)
  have neg:∀ (zs:List Int) (R:List Vc) (j:Nat),sumR (zs.map fun z=>-z) R j = - sumR zs R j:=fun zs=>by
    induction zs with
    | nil=>intro R j;rfl
    | cons z zs ih =>
      intro R j
      cases R with
      | nil=>rfl
      | cons r R =>
        show -z * r j+sumR (zs.map fun z=>-z) R j = - (z * r j+sumR zs R j)
        rw [ih]
        grind
  refine ⟨zs.map fun z=>-z,by simp [hl],fun j=>?_⟩
  show v j * det C R - cof (fun X=>det C (v :: X)) j R=_
  rw [h,neg]
  grind
theorem det_sumR {C:List Nat} {P:List Vc}:∀ (zs:List Int) (R R':List Vc),(∀ r∈R,r∈R')→det C (sumR zs R :: P++R')=0
  | [],R,R',_=>det_off C (fun j _=>rfl) [] (P++R')
  | z :: zs,[],R',_=>det_off C (fun j _=>rfl) [] (P++R')
  | z :: zs,r :: R,R',h=>by
    have e:sumR (z :: zs) (r :: R)=lc z r 1 (sumR zs R):=funext fun j=>by
      show z * r j+sumR zs R j=z * r j+1 * sumR zs R j
      omega
    have h1:=det_lin C [] (P++R') z 1 r (sumR zs R)
    have h2:=det_sumR (C:=C) (P:=P) zs R R' fun x hx=>h x (List.mem_cons_of_mem _ hx)
    have h3:det C (r :: P++R')=0:=det_mem (h r List.mem_cons_self)
    rw [e]
    show det C ([]++lc z r 1 (sumR zs R) :: (P++R'))=0
    rw [h1]
    show z * det C (r :: P++R')+1 * det C (sumR zs R :: P++R')=0
    rw [h2,h3]
    omega
theorem det_made {C:List Nat} {P R:List Vc} {d:Int} {v e:Vc} {zs:List Int} (h:∀ j,e j=d * v j+sumR zs R j):det C (e :: P++R)=d * det C (v :: P++R):=by
  have he:e=lc d v 1 (sumR zs R):=funext fun j=>by
    show e j=d * v j+1 * sumR zs R j
    rw [h]
    omega
  have h1:=det_lin C [] (P++R) d 1 v (sumR zs R)
  rw [he]
  show det C ([]++lc d v 1 (sumR zs R) :: (P++R))=d * det C (v :: P++R)
  rw [h1]
  show d * det C (v :: P++R)+1 * det C (sumR zs R :: P++R)=_
  rw [det_sumR zs R R fun _ h=>h]
  omega
theorem clr_next {C:List Nat} {R:List Vc} {q:Nat} {r:Vc} (hd:det C R≠0) (hV:∀ v,∀ j∈C,clr C R v j=0) (v:Vc) (j:Nat):det C R * clr (q :: C) (r :: R) v j=clr C R v j * clr C R r q - clr C R v q * clr C R r j:=by
  obtain ⟨zf,_,hf⟩:=clr_eq C R r
  obtain ⟨ze,_,he⟩:=clr_eq C R v
  generalize ef:clr C R r=f at hf
  generalize ee:clr C R v=e at he
  have f0:∀ i∈C,f i=0:=fun i hi=>by rw [← ef];exact hV r i hi
  have e0:∀ i∈C,e i=0:=fun i hi=>by rw [← ee];exact hV v i hi
  have one:∀ (x:Vc),(∀ i∈C,x i=0)→det (q :: C) (x :: R)=x q * det C R:=fun x hx=>by
    show x q * det C R - cof (fun X=>det C (x :: X)) q R=_
    have z:(fun X=>det C (x :: X))=fun _=>0:=funext fun X=>det_off C hx [] X
    rw [z,cof_zero]
    omega
  have blk:det (j :: q :: C) (e :: f :: R)=e j * (f q * det C R) - f j * (e q * det C R):=by
    show e j * det (q :: C) (f :: R) - (f j * det (q :: C) (e :: R) - cof (fun X=>det (q :: C) (e :: f :: X)) j R)=_
    have z:(fun X=>det (q :: C) (e :: f :: X))=fun _=>0:=funext fun X=>by
      show e q * det C (f :: X) - (f q * det C (e :: X) - cof (fun Y=>det C (e :: f :: Y)) q X)=0
      have z1:det C (f :: X)=0:=det_off C f0 [] X
      have z2:det C (e :: X)=0:=det_off C e0 [] X
      have z3:(fun Y=>det C (e :: f :: Y))=fun _=>0:=funext fun Y=>det_off C e0 [] (f :: Y)
      rw [z1,z2,z3,cof_zero]
      omega
    rw [z,cof_zero,one f f0,one e e0]
    omega
  have h1:det (j :: q :: C) (e :: f :: R)=det C R * det (j :: q :: C) (v :: f :: R):=det_made (P:=[f]) he
  have h2:det (j :: q :: C) (v :: f :: R)=det C R * det (j :: q :: C) (v :: r :: R):=by
    have s1:=det_swap (j :: q :: C) [] R v f
    have s2:=det_swap (j :: q :: C) [] R v r
    have m:det (j :: q :: C) (f :: v :: R)=det C R * det (j :: q :: C) (r :: v :: R):=det_made (P:=[v]) hf
    have s1':det (j :: q :: C) (v :: f :: R) = - det (j :: q :: C) (f :: v :: R):=s1
    have s2':det (j :: q :: C) (v :: r :: R) = - det (j :: q :: C) (r :: v :: R):=s2
    rw [s1',s2',m]
    grind
  have hc:clr (q :: C) (r :: R) v j=det (j :: q :: C) (v :: r :: R):=rfl
  rw [hc]
  refine Int.eq_of_mul_eq_mul_left hd ?_
  rw [← h2,← h1,blk]
  grind
theorem clr_zero {C:List Nat} {R:List Vc} {q:Nat} {r:Vc} (hd:det C R≠0) (hV:∀ v,∀ j∈C,clr C R v j=0) (v:Vc):∀ j∈q :: C,clr (q :: C) (r :: R) v j=0:=fun j hj=>by
  have h:=clr_next (q:=q) (r:=r) hd hV v j
  have h0:clr C R v j * clr C R r q - clr C R v q * clr C R r j=0:=by
    rcases List.mem_cons.mp hj with rfl | hj
    · grind
    · rw [hV v j hj,hV r j hj]
      omega
  rw [h0] at h
  rcases Int.mul_eq_zero.mp h with z | z
  · exact absurd z hd
  · exact z
end Lw
namespace Lw
theorem prime_of:∀ (n:Nat),2≤n→∃ p,2≤p∧p ∣ n∧∀ a:Nat,p ∣ a∨Nat.gcd a p=1:=fun n hn=>by
  have key:∀ m k,k≤m→2≤k→k ∣ n→∃ p,2≤p∧p ∣ n∧∀ q,2≤q→q ∣ n→p≤q:=fun m=>by
    induction m with
    | zero=>intro k h1 h2;omega
    | succ m ih =>
      intro k h1 h2 h3
      by_cases h:∃ q,2≤q∧q ∣ n∧q < k
      · obtain ⟨q,a,b,c⟩:=h
        exact ih q (by omega) a b
      · exact ⟨k,h2,h3,fun q a b=>by
          by_cases z:k≤q
          · exact z
          · exact absurd ⟨q,a,b,by omega⟩ h⟩
  obtain ⟨p,h1,h2,h3⟩:=key n n (Nat.le_refl _) hn (Nat.dvd_refl _)
  refine ⟨p,h1,h2,fun a=>?_⟩
  by_cases z:Nat.gcd a p=1
  · exact .inr z
  · left
    have g1:=Nat.gcd_dvd_right a p
    have g0:0 < Nat.gcd a p:=Nat.gcd_pos_of_pos_right _ (by omega)
    have:=h3 (Nat.gcd a p) (by omega) (Nat.dvd_trans g1 h2)
    have le:=Nat.le_of_dvd (by omega) g1
    have e:Nat.gcd a p=p:=by omega
    rw [← e]
    exact Nat.gcd_dvd_left a p
theorem bez {p:Nat} (hp:2≤p) (hpr:∀ a:Nat,p ∣ a∨Nat.gcd a p=1) {b:Int} (hb:¬ (p:Int) ∣ b):∃ α β:Int,α * b+β * (p:Int)=1:=by
  have key:∀ m a:Nat,a≤m→0 < a→∃ α β:Int,α * (a:Int)+β * (p:Int)=(Nat.gcd a p:Nat):=fun m=>by
    induction m with
    | zero=>intro a h1 h2;omega
    | succ m ih =>
      intro a h1 h2
      by_cases h0:p % a=0
      · refine ⟨1,0,?_⟩
        rw [Nat.gcd_eq_left (Nat.dvd_of_mod_eq_zero h0)]
        omega
      · have hlt:=Nat.mod_lt p h2
        -- gcd a p=gcd (p % a) a ;go on with a in the place of p by another induction
        have key2:∀ n x y:Nat,x≤n→∃ α β:Int,α * (x:Int)+β * (y:Int)=(Nat.gcd x y:Nat):=fun n=>by
          induction n with
          | zero =>
            intro x y hx
            have:x=0:=by omega
            subst this
            exact ⟨0,1,by simp⟩
          | succ n ih2 =>
            intro x y hx
            by_cases hx0:x=0
            · subst hx0
              exact ⟨0,1,by simp⟩
            · have hm:=Nat.mod_lt y (show 0 < x by omega)
              obtain ⟨α,β,h⟩:=ih2 (y % x) x (by omega)
              have e:(y:Int)=(x:Int) * ((y / x:Nat):Int)+((y % x:Nat):Int):=by
                have:=Nat.div_add_mod y x
                exact_mod_cast this.symm
              refine ⟨β - α * ((y / x:Nat):Int),α,?_⟩
              rw [Nat.gcd_rec x y,← h,e]
              have e2:(x * (y / x)+y % x:Nat)=y:=Nat.div_add_mod y x
              grind
        exact key2 a a p (Nat.le_refl _)
  have ha:b.natAbs≠0:=fun z=>hb (by rw [Int.natAbs_eq_zero.mp z];exact Int.dvd_zero _)
  obtain ⟨α,β,h⟩:=key b.natAbs b.natAbs (Nat.le_refl _) (by omega)
  have g:Nat.gcd b.natAbs p=1:=by
    rcases hpr b.natAbs with z | z
    · exact absurd (Int.ofNat_dvd_left.mpr z) hb
    · exact z
  rw [g] at h
  rcases Int.natAbs_eq b with e | e
  · refine ⟨α,β,?_⟩
    rw [e]
    simpa using h
  · refine ⟨-α,β,?_⟩
    rw [e]
    have:-α * -(b.natAbs:Int)=α * (b.natAbs:Int):=by grind
    rw [this]
    simpa using h
section
variable (u:Nat→Vc)
def cmb:List Int→Nat→Vc
  | [],_=>fun _=>0
  | a :: f,n=>fun j=>a * u n j+cmb f (n+1) j
def rowsTo:Nat→List Vc
  | 0=>[]
  | m+1=>u m :: rowsTo m
variable {u}
theorem rowsTo_len:∀ m,(rowsTo u m).length=m
  | 0=>rfl
  | m+1=>by show (rowsTo u m).length+1=_;rw [rowsTo_len m]
theorem rowsTo_mem {i:Nat}:∀ {m:Nat},i < m→u i∈rowsTo u m
  | 0,h=>absurd h (Nat.not_lt_zero _)
  | m+1,h=>by
    by_cases e:i=m
    · rw [e];exact List.mem_cons_self
    · exact List.mem_cons_of_mem _ (rowsTo_mem (m:=m) (by omega))
theorem cmb_app (j:Nat):∀ (f g:List Int) (n:Nat),cmb u (f++g) n j=cmb u f n j+cmb u g (n+f.length) j
  | [],g,n=>by show cmb u g n j=0+cmb u g n j;omega
  | a :: f,g,n=>by
    show a * u n j+cmb u (f++g) (n+1) j=a * u n j+cmb u f (n+1) j+cmb u g (n+(f.length+1)) j
    rw [cmb_app j f g (n+1),show n+1+f.length=n+(f.length+1) by omega]
    omega
theorem cmb_snoc (j:Nat) (f:List Int) (t:Int) (n:Nat):cmb u (f++[t]) n j=cmb u f n j+t * u (n+f.length) j:=by
  rw [cmb_app]
  show _+(t * u (n+f.length) j+0)=_
  omega
theorem cmb_scale (j:Nat) (a:Int):∀ (f:List Int) (n:Nat),cmb u (f.map fun x=>a * x) n j=a * cmb u f n j
  | [],n=>by show (0:Int)=a * 0;omega
  | x :: f,n=>by
    show a * x * u n j+cmb u (f.map fun x=>a * x) (n+1) j=a * (x * u n j+cmb u f (n+1) j)
    rw [cmb_scale j a f]
    grind
def addL:List Int→List Int→List Int
  | [],g=>g
  | f,[]=>f
  | a :: f,b :: g=>(a+b) :: addL f g
theorem cmb_add (j:Nat):∀ (f g:List Int) (n:Nat),cmb u (addL f g) n j=cmb u f n j+cmb u g n j
  | [],g,n=>by show cmb u g n j=0+cmb u g n j;omega
  | a :: f,[],n=>by show cmb u (a :: f) n j=cmb u (a :: f) n j+0;omega
  | a :: f,b :: g,n=>by
    show (a+b) * u n j+cmb u (addL f g) (n+1) j=(a * u n j+cmb u f (n+1) j)+(b * u n j+cmb u g (n+1) j)
    rw [cmb_add j f g]
    grind
theorem addL_len:∀ {f g:List Int},g.length≤f.length→(addL f g).length=f.length
  | [],[],_=>rfl
  | [],b :: g,h=>by simp at h
  | a :: f,[],_=>rfl
  | a :: f,b :: g,h=>by
    show (addL f g).length+1=f.length+1
    rw [addL_len (f:=f) (g:=g) (by simpa using h)]
theorem cmb_zeros (j:Nat) (f:List Int):∀ (k n:Nat),cmb u (List.replicate k 0++f) n j=cmb u f (n+k) j
  | 0,n=>rfl
  | k+1,n=>by
    rw [List.replicate_succ]
    show 0 * u n j+cmb u (List.replicate k 0++f) (n+1) j=_
    rw [cmb_zeros j f k,show n+1+k=n+(k+1) by omega]
    omega
theorem cmb_zero (j:Nat) (k n:Nat):cmb u (List.replicate k 0) n j=0:=by
  have:=cmb_zeros (u:=u) j [] k n
  rw [List.append_nil] at this
  rw [this]
  rfl
theorem sumR_cmb (j:Nat):∀ (r:Nat) (zs:List Int),zs.length=r→sumR zs (rowsTo u r) j=cmb u zs.reverse 0 j
  | 0,zs,h=>by
    rw [List.length_eq_zero_iff.mp h]
    rfl
  | r+1,[],h=>by simp at h
  | r+1,z :: zs,h=>by
    have hl:zs.length=r:=by simpa using h
    show z * u r j+sumR zs (rowsTo u r) j=_
    rw [sumR_cmb j r zs hl,List.reverse_cons,cmb_snoc,List.length_reverse,hl,Nat.zero_add]
    omega
end
section
variable {u:Nat→Vc} {W:Nat} {C:List Nat} {r:Nat}
theorem det_same {C:List Nat} {R:List Vc} {v w:Vc} (h:∀ j∈C,v j=w j):det C (v :: R)=det C (w :: R):=by
  have h1:=det_lin C [] R 1 (-1) v w
  have h2:det C ([]++lc 1 v (-1) w :: R)=0:=det_off C (fun j hj=>by
    show 1 * v j + -1 * w j=0
    rw [h j hj]
    omega) [] R
  rw [h2] at h1
  have h3:(0:Int)=1 * det C (v :: R) + -1 * det C (w :: R):=h1
  omega
theorem clr_same {R:List Vc} {v w:Vc} (hC:∀ j∈C,j < W) (h:∀ j,j < W→v j=w j) {j:Nat} (hj:j < W):clr C R v j=clr C R w j :=
  det_same fun i hi=>by
    rcases List.mem_cons.mp hi with rfl | hi
    · exact h _ hj
    · exact h _ (hC i hi)
theorem clr_lin (R:List Vc) (a b:Int) (v w:Vc) (j:Nat):clr C R (lc a v b w) j=a * clr C R v j+b * clr C R w j:=det_lin (j :: C) [] R a b v w
theorem clr_none {R:List Vc} (j:Nat):clr C R (fun _=>0) j=0:=det_off (j :: C) (fun _ _=>rfl) [] R
theorem clr_mem {R:List Vc} {v:Vc} (h:v∈R) (j:Nat):clr C R v j=0:=det_mem (P:=[]) h
theorem clr_cmb {R:List Vc} (j:Nat):∀ (f:List Int) (n:Nat),(∀ i,n≤i→i < n+f.length→clr C R (u i) j=0)→clr C R (cmb u f n) j=0
  | [],n,_=>clr_none j
  | a :: f,n,h=>by
    have e:cmb u (a :: f) n=lc a (u n) 1 (cmb u f (n+1)):=funext fun j=>by
      show a * u n j+cmb u f (n+1) j=a * u n j+1 * cmb u f (n+1) j
      omega
    rw [e,clr_lin,h n (Nat.le_refl _) (by simp),clr_cmb j f (n+1) fun i h1 h2=>h i (by omega) (by simp only [List.length_cons];omega)]
    omega
def Shf (u:Nat→Vc) (W:Nat):Prop:=∀ f:List Int,(∀ j,j < W→cmb u f 0 j=0)→∀ j,j < W→cmb u f 1 j=0
theorem Shf.all (h:Shf u W) {f:List Int} (h0:∀ j,j < W→cmb u f 0 j=0):∀ m j,j < W→cmb u f m j=0:=fun m=>by
  induction m with
  | zero=>exact h0
  | succ m ih =>
    intro j hj
    have:=h (List.replicate m 0++f) (fun j hj=>by rw [cmb_zeros,Nat.zero_add];exact ih j hj) j hj
    rw [cmb_zeros] at this
    rw [show m+1=1+m by omega]
    exact this
structure Tied (u:Nat→Vc) (W:Nat) (C:List Nat) (r:Nat):Prop where
  sh:Shf u W
  hC:∀ j∈C,j < W
  d0:det C (rowsTo u r)≠0
  fin:∀ j,j < W→clr C (rowsTo u r) (u r) j=0
theorem Tied.all (h:Tied u W C r):∀ n j,j < W→clr C (rowsTo u r) (u n) j=0:=by
  obtain ⟨zs,hl,hz⟩:=clr_eq C (rowsTo u r) (u r)
  rw [rowsTo_len] at hl
  have rel:∀ j,j < W→cmb u (zs.reverse++[det C (rowsTo u r)]) 0 j=0:=fun j hj=>by
    have h1:=hz j
    rw [h.fin j hj,sumR_cmb j r zs hl] at h1
    rw [cmb_snoc,List.length_reverse,hl,Nat.zero_add]
    omega
  have key:∀ m n,n≤m→∀ j,j < W→clr C (rowsTo u r) (u n) j=0:=fun m=>by
    induction m with
    | zero =>
      intro n hn j hj
      by_cases h0:n < r
      · exact clr_mem (rowsTo_mem h0) j
      · have:n=r:=by omega
        rw [this]
        exact h.fin j hj
    | succ m ih =>
      intro n hn j hj
      by_cases h0:n < r
      · exact clr_mem (rowsTo_mem h0) j
      by_cases h1:n≤m
      · exact ih n h1 j hj
      have hk:=h.sh.all rel (n - r)
      have e:clr C (rowsTo u r) (cmb u (zs.reverse++[det C (rowsTo u r)]) (n - r)) j=0:=by
        rw [clr_same (W:=W) (w:=fun _=>0) h.hC (fun j hj=>hk j hj) hj,clr_none]
      have e2:cmb u (zs.reverse++[det C (rowsTo u r)]) (n - r)=lc (det C (rowsTo u r)) (u n) 1 (cmb u zs.reverse (n - r)):=funext fun j=>by
        rw [cmb_snoc,List.length_reverse,hl,show n - r+r=n by omega]
        show _=det C (rowsTo u r) * u n j+1 * cmb u zs.reverse (n - r) j
        omega
      rw [e2,clr_lin,clr_cmb j zs.reverse (n - r) fun i h3 h4=>ih i (by rw [List.length_reverse,hl] at h4;omega) j hj] at e
      have:det C (rowsTo u r) * clr C (rowsTo u r) (u n) j=0:=by omega
      rcases Int.mul_eq_zero.mp this with z | z
      · exact absurd z h.d0
      · exact z
  exact fun n=>key n n (Nat.le_refl _)
theorem Tied.span (h:Tied u W C r) (n:Nat):∃ b:List Int,b.length=r∧∀ j,j < W→det C (rowsTo u r) * u n j=cmb u b 0 j:=by
  obtain ⟨zs,hl,hz⟩:=clr_eq C (rowsTo u r) (u n)
  rw [rowsTo_len] at hl
  refine ⟨(zs.map fun x=>-1 * x).reverse,by simp [hl],fun j hj=>?_⟩
  have h1:=hz j
  rw [h.all n j hj,sumR_cmb j r zs hl] at h1
  rw [← List.map_reverse,cmb_scale]
  omega
theorem Tied.last {m:Nat} (h:Tied u W C (m+1)) {f:List Int} {t:Int} (hf:f.length=m) (h0:∀ j,j < W→cmb u (f++[t]) 0 j=0):t=0:=by
  have e1:det C (cmb u (f++[t]) 0 :: rowsTo u m)=0:=det_off C (fun j hj=>h0 j (h.hC j hj)) [] _
  have e2:cmb u (f++[t]) 0=lc t (u m) 1 (cmb u f 0):=funext fun j=>by
    rw [cmb_snoc,hf,Nat.zero_add]
    show _=t * u m j+1 * cmb u f 0 j
    omega
  have kill:∀ (f:List Int) (n:Nat),n+f.length≤m→det C (cmb u f n :: rowsTo u m)=0:=fun f=>by
    induction f with
    | nil=>intro n _;exact det_off C (fun _ _=>rfl) [] _
    | cons a f ih =>
      intro n hn
      have e:cmb u (a :: f) n=lc a (u n) 1 (cmb u f (n+1)):=funext fun j=>by
        show a * u n j+cmb u f (n+1) j=a * u n j+1 * cmb u f (n+1) j
        omega
      have h1:=det_lin C [] (rowsTo u m) a 1 (u n) (cmb u f (n+1))
      have hn':n+(f.length+1)≤m:=hn
      have h2:det C (u n :: []++rowsTo u m)=0:=det_mem (rowsTo_mem (by omega))
      have h3:=ih (n+1) (by omega)
      rw [e]
      show det C ([]++lc a (u n) 1 (cmb u f (n+1)) :: rowsTo u m)=0
      rw [h1]
      show a * det C (u n :: []++rowsTo u m)+1 * det C (cmb u f (n+1) :: rowsTo u m)=0
      rw [h2,h3]
      omega
  have h1:=det_lin C [] (rowsTo u m) t 1 (u m) (cmb u f 0)
  rw [e2] at e1
  have e1':det C ([]++lc t (u m) 1 (cmb u f 0) :: rowsTo u m)=0:=e1
  rw [h1] at e1'
  have h3:det C ([]++cmb u f 0 :: rowsTo u m)=0:=kill f 0 (by omega)
  rw [h3] at e1'
  have h4:t * det C (rowsTo u (m+1))+1 * 0=0:=e1'
  have:t * det C (rowsTo u (m+1))=0:=by omega
  rcases Int.mul_eq_zero.mp this with z | z
  · exact z
  · exact absurd z h.d0
end
end Lw
namespace Lw
def gcdL:List Int→Nat
  | []=>0
  | a :: f=>Nat.gcd a.natAbs (gcdL f)
theorem gcdL_dvd:∀ {f:List Int} {a:Int},a∈f→(gcdL f:Int) ∣ a
  | b :: f,a,h=>by
    refine Int.ofNat_dvd_left.mpr ?_
    rcases List.mem_cons.mp h with rfl | h
    · exact Nat.gcd_dvd_left _ _
    · exact Nat.dvd_trans (Nat.gcd_dvd_right _ _) (Int.ofNat_dvd_left.mp (gcdL_dvd h))
theorem dvd_gcdL {m:Nat}:∀ {f:List Int},(∀ a∈f,(m:Int) ∣ a)→m ∣ gcdL f
  | [],_=>Nat.dvd_zero m
  | b :: f,h=>Nat.dvd_gcd (Int.ofNat_dvd_left.mp (h b List.mem_cons_self)) (dvd_gcdL fun a ha=>h a (List.mem_cons_of_mem _ ha))
theorem last_no (p:Int):∀ (f:List Int),(∃ a∈f,¬ p ∣ a)→∃ A b B,f=A++b :: B∧¬ p ∣ b∧∀ x∈B,p ∣ x
  | [],⟨a,h,_⟩=>by cases h
  | c :: f,h=>by
    by_cases h2:∃ a∈f,¬ p ∣ a
    · obtain ⟨A,b,B,e,h3,h4⟩:=last_no p f h2
      exact ⟨c :: A,b,B,by rw [e];rfl,h3,h4⟩
    · refine ⟨[],c,f,rfl,?_,fun x hx=>Classical.byContradiction fun z=>h2 ⟨x,hx,z⟩⟩
      obtain ⟨a,ha,hn⟩:=h
      rcases List.mem_cons.mp ha with rfl | ha
      · exact hn
      · exact absurd ⟨a,ha,hn⟩ h2
theorem quot_list (p:Int):∀ {B:List Int},(∀ x∈B,p ∣ x)→∃ B':List Int,B'.length=B.length∧B=B'.map fun x=>p * x
  | [],_=>⟨[],rfl,rfl⟩
  | b :: B,h=>by
    obtain ⟨B',e1,e2⟩:=quot_list p (B:=B) fun x hx=>h x (List.mem_cons_of_mem _ hx)
    obtain ⟨c,hc⟩:=h b List.mem_cons_self
    exact ⟨c :: B',by simp [e1],by rw [List.map_cons,← e2,hc]⟩
section
variable {u:Nat→Vc} {W:Nat} {C:List Nat} {r:Nat}
def Mod (u:Nat→Vc) (W s:Nat) (p:Int) (v:Vc):Prop:=∃ l y:List Int,l.length=s∧∀ j,j < W→v j=cmb u l 0 j+p * cmb u y 0 j
theorem Mod.lc {s:Nat} {p a b:Int} {v w:Vc} (h1:Mod u W s p v) (h2:Mod u W s p w):Mod u W s p (lc a v b w):=by
  obtain ⟨l,y,e,h⟩:=h1
  obtain ⟨l',y',e',h'⟩:=h2
  refine ⟨addL (l.map fun x=>a * x) (l'.map fun x=>b * x),addL (y.map fun x=>a * x) (y'.map fun x=>b * x),?_,fun j hj=>?_⟩
  · rw [addL_len (by simp;omega),List.length_map,e]
  · show a * v j+b * w j=_
    rw [h j hj,h' j hj,cmb_add,cmb_add,cmb_scale,cmb_scale,cmb_scale,cmb_scale]
    grind
theorem Mod.same {s:Nat} {p:Int} {v w:Vc} (h:Mod u W s p v) (e:∀ j,j < W→w j=v j):Mod u W s p w:=by
  obtain ⟨l,y,e1,h1⟩:=h
  exact ⟨l,y,e1,fun j hj=>by rw [e j hj,h1 j hj]⟩
theorem Mod.zero (s:Nat) (p:Int):Mod u W s p fun _=>0:=⟨List.replicate s 0,[],by simp,fun j _=>by
  rw [cmb_zero]
  show (0:Int)=0+p * 0
  omega⟩
theorem Mod.cmb {s:Nat} {p:Int} (h:∀ n,Mod u W s p (u n)):∀ (f:List Int) (n:Nat),Mod u W s p (cmb u f n)
  | [],n=>Mod.zero s p
  | a :: f,n=>((h n).lc (a:=a) (b:=1) (Mod.cmb h f (n+1))).same fun j _=>by
    show a * u n j+Lw.cmb u f (n+1) j=a * u n j+1 * Lw.cmb u f (n+1) j
    omega
theorem Mod.low {s n:Nat} {p:Int} (h:n < s):Mod u W s p (u n):=by
  refine ⟨List.replicate n 0++1 :: List.replicate (s - n - 1) 0,[],by simp;omega,fun j _=>?_⟩
  rw [cmb_zeros]
  show u n j=1 * u (0+n) j+Lw.cmb u (List.replicate (s - n - 1) 0) (0+n+1) j+p * 0
  rw [cmb_zero,Nat.zero_add]
  omega
theorem mod_all (sh:Shf u W) {s p:Nat} {A B:List Int} {b:Int} (hp:2≤p) (hpr:∀ a:Nat,p ∣ a∨Nat.gcd a p=1) (hA:A.length=s) (hb:¬ (p:Int) ∣ b) (hB:∀ x∈B,(p:Int) ∣ x) (h0:∀ j,j < W→Lw.cmb u (A++b :: B) 0 j=0):∀ n,Mod u W s p (u n):=by
  obtain ⟨α,β,hab⟩:=bez hp hpr hb
  obtain ⟨B',hBl,hBe⟩:=quot_list (p:Int) hB
  have at_s:Mod u W s p (u s):=by
    refine ⟨A.map fun x=>-α * x,addL (List.replicate s 0++[β]) (List.replicate (s+1) 0++B'.map fun x=>-α * x),by simp [hA],fun j hj=>?_⟩
    have h1:=h0 j hj
    rw [cmb_app,hA,Nat.zero_add] at h1
    have h2:Lw.cmb u (b :: B) s j=b * u s j+(p:Int) * Lw.cmb u B' (s+1) j:=by
      show b * u s j+Lw.cmb u B (s+1) j=_
      rw [hBe,cmb_scale]
    rw [h2] at h1
    rw [cmb_scale,cmb_add,cmb_zeros,cmb_zeros,cmb_scale,Nat.zero_add,Nat.zero_add]
    have h3:Lw.cmb u [β] s j=β * u s j:=by
      show β * u s j+0=_
      omega
    rw [h3]
    generalize Lw.cmb u A 0 j=x at h1 ⊢
    generalize Lw.cmb u B' (s+1) j=y at h1 ⊢
    generalize u s j=t at h1 ⊢
    have h4:x = -(b * t+(p:Int) * y):=by omega
    rw [h4]
    have h5:t=(α * b+β * (p:Int)) * t:=by rw [hab];omega
    grind
  intro n
  induction n with
  | zero =>
    by_cases h:0 < s
    · exact Mod.low h
    · have:s=0:=by omega
      rw [this] at at_s ⊢
      exact at_s
  | succ n ih =>
    by_cases h:n+1 < s
    · exact Mod.low h
    obtain ⟨l,y,hl,e⟩:=ih
    have rel:∀ j,j < W→Lw.cmb u (addL (addL l (y.map fun x=>(p:Int) * x)) (List.replicate n 0++[-1])) 0 j=0:=fun j hj=>by
      rw [cmb_add,cmb_add,cmb_scale,cmb_zeros,Nat.zero_add]
      have:=e j hj
      show _+_+(-1 * u n j+0)=0
      omega
    have rel1:=sh _ rel
    have e1:∀ j,j < W→u (n+1) j=Lw.cmb u l 1 j+(p:Int) * Lw.cmb u y 1 j:=fun j hj=>by
      have:=rel1 j hj
      rw [cmb_add,cmb_add,cmb_scale,cmb_zeros] at this
      have this':Lw.cmb u l 1 j+(p:Int) * Lw.cmb u y 1 j+(-1 * u (1+n) j+0)=0:=this
      rw [show 1+n=n+1 by omega] at this'
      omega
    have my:Mod u W s p (fun j=>(p:Int) * Lw.cmb u y 1 j):=⟨List.replicate s 0,0 :: y,by simp,fun j _=>by
      rw [cmb_zero]
      show (p:Int) * Lw.cmb u y 1 j=0+(p:Int) * (0 * u 0 j+Lw.cmb u y (0+1) j)
      have:0 * u 0 j+Lw.cmb u y (0+1) j=Lw.cmb u y 1 j:=by
        show 0 * u 0 j+Lw.cmb u y 1 j=_
        omega
      rw [this]
      omega⟩
    have ml:Mod u W s p (Lw.cmb u l 1):=by
      rcases List.eq_nil_or_concat l with z | ⟨l',t,z⟩
      · rw [z];exact Mod.zero s p
      · have z':l=l'++[t]:=by rw [z];simp
        have hs:s=l'.length+1:=by rw [← hl,z'];simp
        have m1:Mod u W s p (Lw.cmb u l' 1):=⟨0 :: l',[],by simp [hs],fun j _=>by
          show Lw.cmb u l' 1 j=0 * u 0 j+Lw.cmb u l' (0+1) j+(p:Int) * 0
          show Lw.cmb u l' 1 j=0 * u 0 j+Lw.cmb u l' 1 j+(p:Int) * 0
          omega⟩
        refine (m1.lc (a:=1) (b:=t) at_s).same fun j _=>?_
        rw [z',cmb_snoc,show 1+l'.length=s by omega]
        show _=1 * Lw.cmb u l' 1 j+t * u s j
        omega
    refine (ml.lc (a:=1) (b:=1) my).same fun j hj=>?_
    rw [e1 j hj]
    show _=1 * Lw.cmb u l 1 j+1 * ((p:Int) * Lw.cmb u y 1 j)
    omega
theorem mod_pow {s p:Nat} (h:∀ n,Mod u W s p (u n)) (n:Nat):∀ k,∃ l y:List Int,l.length=s∧∀ j,j < W→u n j=Lw.cmb u l 0 j+(p:Int) ^ k * Lw.cmb u y 0 j
  | 0=>⟨List.replicate s 0,List.replicate n 0++[1],by simp,fun j _=>by
    rw [cmb_zero,cmb_zeros,Nat.zero_add,Int.pow_zero]
    show u n j=0+1 * (1 * u n j+0)
    omega⟩
  | k+1=>by
    obtain ⟨l,y,hl,e⟩:=mod_pow h n k
    obtain ⟨l2,y2,hl2,e2⟩:=Mod.cmb h y 0
    refine ⟨addL l (l2.map fun x=>(p:Int) ^ k * x),y2,by rw [addL_len (by simp;omega),hl],fun j hj=>?_⟩
    rw [e j hj,e2 j hj,cmb_add,cmb_scale,Int.pow_succ]
    grind
theorem pow_big {p:Nat} (hp:2≤p):∀ n:Nat,n < p ^ n
  | 0=>by simp
  | n+1=>by
    have:=pow_big hp n
    rw [Nat.pow_succ]
    have:(n+1) * 2≤p ^ n * p:=Nat.mul_le_mul (by omega) hp
    omega
theorem Tied.whole (h:Tied u W C r) {zs:List Int} (hz:zs.length=r) (h0:∀ j,j < W→Lw.cmb u (zs++[det C (rowsTo u r)]) 0 j=0):∀ z∈zs,det C (rowsTo u r) ∣ z:=by
  generalize hd:det C (rowsTo u r)=d at h0 ⊢
  have d0:d≠0:=by rw [← hd];exact h.d0
  generalize hg:gcdL (zs++[d])=g
  have gd:(g:Int) ∣ d:=by rw [← hg];exact gcdL_dvd (by simp)
  obtain ⟨c,hc⟩:=gd
  have g0:g≠0:=fun z=>d0 (by rw [hc,z];simp)
  by_cases hc1:c.natAbs=1
  · intro z hzm
    have h1:(g:Int) ∣ z:=by rw [← hg];exact gcdL_dvd (List.mem_append_left _ hzm)
    obtain ⟨k,hk⟩:=h1
    rcases Int.natAbs_eq c with e | e
    · rw [hc1] at e
      refine ⟨k,?_⟩
      rw [hc,e,hk]
      simp
    · rw [hc1] at e
      refine ⟨-k,?_⟩
      rw [hc,e,hk]
      simp
      exact (Int.neg_mul_neg _ _).symm
  exfalso
  have hc0:c≠0:=fun z=>d0 (by rw [hc,z];simp)
  obtain ⟨p,hp,hpc,hpr⟩:=prime_of c.natAbs (by omega)
  -- the numbers divided by g
  obtain ⟨q,hql,hqe⟩:=quot_list (g:Int) (B:=zs++[d]) fun x hx=>by rw [← hg];exact gcdL_dvd hx
  have hrel:∀ j,j < W→Lw.cmb u q 0 j=0:=fun j hj=>by
    have:=h0 j hj
    rw [hqe,cmb_scale] at this
    rcases Int.mul_eq_zero.mp this with z | z
    · exact absurd (by exact_mod_cast z) g0
    · exact z
  have hex:∃ a∈q,¬ (p:Int) ∣ a:=Classical.byContradiction fun z=>by
    have hall:∀ a∈q,(p:Int) ∣ a:=fun a ha=>Classical.byContradiction fun y=>z ⟨a,ha,y⟩
    have:p * g ∣ gcdL (zs++[d]):=dvd_gcdL fun a ha=>by
      rw [hqe] at ha
      obtain ⟨x,hx,rfl⟩:=List.mem_map.mp ha
      obtain ⟨y,hy⟩:=hall x hx
      refine ⟨y,?_⟩
      show (g:Int) * x=_
      rw [hy]
      push_cast
      grind
    rw [hg] at this
    have:=Nat.le_of_dvd (by omega) this
    have h2:2 * g≤p * g:=Nat.mul_le_mul_right g hp
    omega
  obtain ⟨A,b,B,eq,hb,hB⟩:=last_no (p:Int) q hex
  have hqlen:q.length=r+1:=by rw [hql];simp [hz]
  have hlast:q.getLast? = some c:=by
    have h1:(zs++[d]).getLast? = some d:=by simp
    rw [hqe,List.getLast?_map] at h1
    cases hq:q.getLast? with
    | none=>rw [hq] at h1;cases h1
    | some x =>
      rw [hq] at h1
      have:(g:Int) * x=d:=Option.some.inj h1
      rw [hc] at this
      rw [Int.eq_of_mul_eq_mul_left (by exact_mod_cast g0) this]
  have hBne:B≠[]:=fun z=>by
    rw [eq,z] at hlast
    have:b=c:=by simpa using hlast
    exact hb (by rw [this];exact Int.ofNat_dvd_left.mpr hpc)
  have hs:A.length+1≤r:=by
    have h1:0 < B.length:=List.length_pos_iff.mpr hBne
    rw [eq,List.length_append,List.length_cons] at hqlen
    omega
  have hall:=mod_all h.sh hp hpr rfl hb hB (by rw [← eq];exact hrel)
  obtain ⟨m,rfl⟩:∃ m,r=m+1:=⟨r - 1,by omega⟩
  obtain ⟨l,y,hl,e⟩:=mod_pow hall m d.natAbs
  have hspan:∀ (f:List Int) (n:Nat),∃ b:List Int,b.length=m+1∧∀ j,j < W→d * Lw.cmb u f n j=Lw.cmb u b 0 j:=fun f=>by
    induction f with
    | nil=>intro n;exact ⟨List.replicate (m+1) 0,by simp,fun j _=>by rw [cmb_zero];show d * 0=0;omega⟩
    | cons a f ih =>
      intro n
      obtain ⟨b1,e1,h1⟩:=h.span n
      obtain ⟨b2,e2,h2⟩:=ih (n+1)
      rw [hd] at h1
      refine ⟨addL (b1.map fun x=>a * x) b2,by rw [addL_len (by simp;omega)];simp [e1],fun j hj=>?_⟩
      rw [cmb_add,cmb_scale,← h1 j hj,← h2 j hj]
      show d * (a * u n j+Lw.cmb u f (n+1) j)=_
      grind
  obtain ⟨bb,hbl,hbe⟩:=hspan y 0
  rcases List.eq_nil_or_concat bb with z | ⟨b',t,z⟩
  · rw [z] at hbl;simp at hbl
  have z':bb=b'++[t]:=by rw [z];simp
  have hb':b'.length=m:=by rw [z'] at hbl;simpa using hbl
  have fin:=h.last (f:=addL (b'.map fun x=>(p:Int) ^ d.natAbs * x) (l.map fun x=>d * x)) (t:=(p:Int) ^ d.natAbs * t - d) (by rw [addL_len (by simp;omega)];simp [hb']) fun j hj=>by
    have e1:=e j hj
    have e2:=hbe j hj
    rw [z',cmb_snoc,hb',Nat.zero_add] at e2
    rw [cmb_snoc,addL_len (by simp;omega),List.length_map,hb',Nat.zero_add,cmb_add,cmb_scale,cmb_scale]
    have e3:d * u m j=d * Lw.cmb u l 0 j+(p:Int) ^ d.natAbs * (Lw.cmb u b' 0 j+t * u m j):=by
      rw [← e2]
      have:d * u m j=d * (Lw.cmb u l 0 j+(p:Int) ^ d.natAbs * Lw.cmb u y 0 j):=by rw [← e1]
      rw [this]
      grind
    grind
  have hdv:((p ^ d.natAbs:Nat):Int) ∣ d:=⟨t,by push_cast;omega⟩
  have h1:=Int.ofNat_dvd_left.mp hdv
  have h2:=Nat.le_of_dvd (by omega) h1
  have h3:=pow_big hp d.natAbs
  omega
end
end Lw
namespace Lw
theorem len_sub:∀ {us L:List Nat},us.Nodup→(∀ z∈us,z∈L)→us.length≤L.length
  | [],_,_,_=>Nat.zero_le _
  | u :: us,L,h,hs=>by
    obtain ⟨h1,h2⟩:=List.nodup_cons.mp h
    have:=len_sub (us:=us) (L:=L.erase u) h2 fun z hz=>(List.mem_erase_of_ne (fun e:z=u=>h1 (by rw [← e];exact hz))).mpr (hs z (List.mem_cons_of_mem _ hz))
    have hl:=List.length_erase_of_mem (hs u List.mem_cons_self)
    have hp:0 < L.length:=List.length_pos_of_mem (hs u List.mem_cons_self)
    show us.length+1≤L.length
    omega
theorem cof_bd {B G:Nat} (j:Nat):∀ (R:List Vc) (g:List Vc→Int),(∀ v∈R,(v j).natAbs≤B)→(∀ X:List Vc,(∀ x∈X,x∈R)→X.length+1=R.length→(g X).natAbs≤G)→(cof g j R).natAbs≤R.length * (B * G)
  | [],g,_,_=>Nat.zero_le _
  | v :: R,g,h1,h2=>by
    have e1:=h1 v List.mem_cons_self
    have e2:=h2 R (fun x hx=>List.mem_cons_of_mem _ hx) rfl
    have e3:=cof_bd (B:=B) (G:=G) j R (fun X=>g (v :: X)) (fun x hx=>h1 x (List.mem_cons_of_mem _ hx)) fun X hX hl=>h2 (v :: X) (fun x hx=>by
      rcases List.mem_cons.mp hx with rfl | hx
      · exact List.mem_cons_self
      · exact List.mem_cons_of_mem _ (hX x hx)) (by simp only [List.length_cons];omega)
    have e4:(v j * g R).natAbs≤B * G:=by rw [Int.natAbs_mul];exact Nat.mul_le_mul e1 e2
    show (v j * g R - cof (fun X=>g (v :: X)) j R).natAbs≤(R.length+1) * (B * G)
    have e5:=Int.natAbs_sub_le (v j * g R) (cof (fun X=>g (v :: X)) j R)
    rw [Nat.add_mul,Nat.one_mul]
    omega
theorem det_bd {B m:Nat} (hB:1≤B):∀ (C:List Nat) (R:List Vc),(∀ v∈R,∀ j∈C,(v j).natAbs≤B)→R.length≤m→(det C R).natAbs≤(m * B) ^ C.length
  | [],[],_,_=>by show (1:Int).natAbs≤_;simp
  | [],v :: R,_,_=>Nat.zero_le _
  | j :: C,R,h,hl=>by
    have:=cof_bd (B:=B) (G:=(m * B) ^ C.length) j R (det C) (fun v hv=>h v hv j List.mem_cons_self) fun X hX hXl=>det_bd hB C X (fun v hv i hi=>h v (hX v hv) i (List.mem_cons_of_mem _ hi)) (by omega)
    refine Nat.le_trans this ?_
    show _≤(m * B) ^ (C.length+1)
    rw [Nat.pow_succ,← Nat.mul_assoc,Nat.mul_comm ((m * B) ^ C.length)]
    exact Nat.mul_le_mul_right _ (Nat.mul_le_mul_right _ hl)
section
variable {u:Nat→Vc} {W:Nat}
def mrk (W:Nat) (u:Nat→Vc):Nat→Vc:=fun i j=>if j < W then u i j else if j=W+i then 1 else 0
theorem mrk_low {i j:Nat} (h:j < W):mrk W u i j=u i j:=if_pos h
theorem mrk_own (i j:Nat):mrk W u i (W+j)=if j=i then 1 else 0:=by
  unfold mrk
  rw [if_neg (by omega)]
  by_cases h:j=i
  · rw [if_pos h,if_pos (by omega)]
  · rw [if_neg h,if_neg (by omega)]
theorem cmb_mrk {j:Nat} (h:j < W):∀ (f:List Int) (n:Nat),cmb (mrk W u) f n j=cmb u f n j
  | [],_=>rfl
  | a :: f,n=>by
    show a * mrk W u n j+cmb (mrk W u) f (n+1) j=a * u n j+cmb u f (n+1) j
    rw [mrk_low h,cmb_mrk h f]
theorem shf_mrk (h:Shf u W):Shf (mrk W u) W:=fun f h0 j hj=>by
  rw [cmb_mrk hj]
  exact h f (fun j hj=>by rw [← cmb_mrk hj];exact h0 j hj) j hj
theorem cmb_own (i:Nat):∀ (f:List Int) (n:Nat),n≤i→cmb (mrk W u) f n (W+i)=f.getD (i - n) 0
  | [],n,_=>rfl
  | a :: f,n,h=>by
    show a * mrk W u n (W+i)+cmb (mrk W u) f (n+1) (W+i)=_
    rw [mrk_own]
    by_cases e:i=n
    · subst e
      have z:∀ (f:List Int) (m:Nat),i < m→cmb (mrk W u) f m (W+i)=0:=fun f=>by
        induction f with
        | nil=>intro m _;rfl
        | cons b f ih =>
          intro m hm
          show b * mrk W u m (W+i)+cmb (mrk W u) f (m+1) (W+i)=0
          rw [mrk_own,if_neg (by omega),ih (m+1) (by omega)]
          omega
      rw [if_pos rfl,z f (i+1) (by omega),Nat.sub_self]
      show a * 1+0=a
      omega
    · rw [if_neg e,cmb_own i f (n+1) (by omega)]
      obtain ⟨k,hk⟩:∃ k,i - n=k+1:=⟨i - n - 1,by omega⟩
      rw [hk,show i - (n+1)=k by omega]
      show a * 0+_=f.getD k 0
      omega
structure Piv (u:Nat→Vc) (W:Nat) (ps:List Nat):Prop where
  low:∀ p∈ps,p < W
  nz:∀ i (h:i < ps.length),clr (ps.take i).reverse (rowsTo u i) (u i) ps[i]≠0
theorem Piv.take {ps:List Nat} (h:Piv u W ps) (m:Nat):Piv u W (ps.take m):=⟨fun p hp=>h.low p (List.mem_of_mem_take hp),fun i hi=>by
  have hi':i < ps.length∧i < m:=by rw [List.length_take] at hi;omega
  have:=h.nz i hi'.1
  rw [List.take_take,Nat.min_eq_left (by omega),List.getElem_take]
  exact this⟩
theorem take_rev {ps:List Nat} {i:Nat} (h:i < ps.length):(ps.take (i+1)).reverse=ps[i] :: (ps.take i).reverse:=by
  rw [List.take_add_one,List.getElem?_eq_getElem h]
  simp
theorem Piv.step {ps:List Nat} (h:Piv u W ps):∀ i,i≤ps.length→det (ps.take i).reverse (rowsTo u i)≠0∧∀ v,∀ j∈(ps.take i).reverse,clr (ps.take i).reverse (rowsTo u i) v j=0:=fun i=>by
  induction i with
  | zero=>exact fun _=>⟨by show (1:Int)≠0;decide,fun v j hj=>by simp at hj⟩
  | succ i ih =>
    intro hi
    obtain ⟨h1,h2⟩:=ih (by omega)
    rw [take_rev (by omega)]
    exact ⟨h.nz i (by omega),clr_zero h1 h2⟩
theorem Piv.nodup {ps:List Nat} (h:Piv u W ps):ps.Nodup:=by
  refine List.pairwise_iff_getElem.mpr fun i k hi hk hik e=>?_
  obtain ⟨h1,h2⟩:=h.step k (by omega)
  refine h.nz k hk (h2 _ _ ?_)
  rw [List.mem_reverse,← e]
  exact List.mem_take_iff_getElem.mpr ⟨i,by omega,rfl⟩
theorem Piv.few {ps:List Nat} (h:Piv u W ps):ps.length≤W:=by
  have:=h.nodup
  have h2:=len_sub this (L:=List.range W) fun p hp=>List.mem_range.mpr (h.low p hp)
  rwa [List.length_range] at h2
theorem Piv.full {ps:List Nat} (h:Piv u W ps) (hl:ps.length=W) (v:Vc):∀ j,j < W→clr ps.reverse (rowsTo u ps.length) v j=0:=fun j hj=>by
  obtain ⟨_,h2⟩:=h.step ps.length (Nat.le_refl _)
  rw [List.take_length] at h2
  refine h2 v j ?_
  rw [List.mem_reverse]
  refine Classical.byContradiction fun z=>?_
  have nd:(j :: ps).Nodup:=List.nodup_cons.mpr ⟨z,h.nodup⟩
  have h3:=len_sub nd (L:=List.range W) fun p hp=>by
    rcases List.mem_cons.mp hp with rfl | hp
    · exact List.mem_range.mpr hj
    · exact List.mem_range.mpr (h.low p hp)
  rw [List.length_range,List.length_cons] at h3
  omega
end
structure Lt (u:Nat→Vc) (W:Nat) (c:List Int):Prop where
  few:c.length≤W
  tie:∀ j,j < W→u c.length j=cmb u c 0 j
  ind:∀ f:List Int,f.length≤c.length→(∀ j,j < W→cmb u f 0 j=0)→∀ a∈f,a=0
section
variable {u:Nat→Vc} {W:Nat}
theorem last0 {C:List Nat} {m:Nat} (hC:∀ j∈C,j < W) (d0:det C (rowsTo u (m+1))≠0) {f:List Int} {t:Int} (hf:f.length=m) (h0:∀ j,j < W→cmb u (f++[t]) 0 j=0):t=0:=by
  have e1:det C (cmb u (f++[t]) 0 :: rowsTo u m)=0:=det_off C (fun j hj=>h0 j (hC j hj)) [] _
  have e2:cmb u (f++[t]) 0=lc t (u m) 1 (cmb u f 0):=funext fun j=>by
    rw [cmb_snoc,hf,Nat.zero_add]
    show _=t * u m j+1 * cmb u f 0 j
    omega
  have kill:∀ (f:List Int) (n:Nat),n+f.length≤m→det C (cmb u f n :: rowsTo u m)=0:=fun f=>by
    induction f with
    | nil=>intro n _;exact det_off C (fun _ _=>rfl) [] _
    | cons a f ih =>
      intro n hn
      have e:cmb u (a :: f) n=lc a (u n) 1 (cmb u f (n+1)):=funext fun j=>by
        show a * u n j+cmb u f (n+1) j=a * u n j+1 * cmb u f (n+1) j
        omega
      have h1:=det_lin C [] (rowsTo u m) a 1 (u n) (cmb u f (n+1))
      have hn':n+(f.length+1)≤m:=hn
      have h2:det C (u n :: []++rowsTo u m)=0:=det_mem (rowsTo_mem (by omega))
      have h3:=ih (n+1) (by omega)
      rw [e]
      show det C ([]++lc a (u n) 1 (cmb u f (n+1)) :: rowsTo u m)=0
      rw [h1]
      show a * det C (u n :: []++rowsTo u m)+1 * det C (cmb u f (n+1) :: rowsTo u m)=0
      rw [h2,h3]
      omega
  have h1:=det_lin C [] (rowsTo u m) t 1 (u m) (cmb u f 0)
  rw [e2] at e1
  have e1':det C ([]++lc t (u m) 1 (cmb u f 0) :: rowsTo u m)=0:=e1
  rw [h1] at e1'
  have h3:det C ([]++cmb u f 0 :: rowsTo u m)=0:=kill f 0 (by omega)
  rw [h3] at e1'
  have h4:t * det C (rowsTo u (m+1))+1 * 0=0:=e1'
  have:t * det C (rowsTo u (m+1))=0:=by omega
  rcases Int.mul_eq_zero.mp this with z | z
  · exact z
  · exact absurd z d0
theorem Piv.ind {ps:List Nat} (h:Piv u W ps):∀ f:List Int,f.length≤ps.length→(∀ j,j < W→cmb u f 0 j=0)→∀ a∈f,a=0:=fun f=>by
  have key:∀ n (f:List Int),f.length=n→n≤ps.length→(∀ j,j < W→cmb u f 0 j=0)→∀ a∈f,a=0:=fun n=>by
    induction n with
    | zero =>
      intro f hf _ _ a ha
      rw [List.length_eq_zero_iff.mp hf] at ha
      cases ha
    | succ n ih =>
      intro f hf hn h0 a ha
      rcases List.eq_nil_or_concat f with z | ⟨f',t,z⟩
      · rw [z] at hf;simp at hf
      have z':f=f'++[t]:=by rw [z];simp
      subst z'
      have hf':f'.length=n:=by simpa using hf
      have ht:t=0:=last0 (C:=(ps.take (n+1)).reverse) (fun j hj=>h.low j (List.mem_of_mem_take (List.mem_reverse.mp hj))) (h.step (n+1) hn).1 hf' h0
      subst ht
      rcases List.mem_append.mp ha with y | y
      · refine ih f' hf' (by omega) (fun j hj=>?_) a y
        have:=h0 j hj
        rw [cmb_snoc] at this
        omega
      · exact List.mem_singleton.mp y
  exact fun hl h0=>key f.length f rfl hl h0
theorem least_of (sh:Shf u W) {ps:List Nat} (h:Piv (mrk W u) W ps) (h0:∀ j,j < W→clr ps.reverse (rowsTo (mrk W u) ps.length) (mrk W u ps.length) j=0) :
    ∃ c:List Int,Lt u W c∧c.length=ps.length∧det ps.reverse (rowsTo (mrk W u) ps.length)≠0∧clr ps.reverse (rowsTo (mrk W u) ps.length) (mrk W u ps.length) (W+ps.length)=det ps.reverse (rowsTo (mrk W u) ps.length) ∧
      ∀ i x,c[i]? = some x→clr ps.reverse (rowsTo (mrk W u) ps.length) (mrk W u ps.length) (W+i) = -x * det ps.reverse (rowsTo (mrk W u) ps.length):=by
  obtain ⟨d0,_⟩:=h.step ps.length (Nat.le_refl _)
  rw [List.take_length] at d0
  have T:Tied (mrk W u) W ps.reverse ps.length:=⟨shf_mrk sh,fun j hj=>h.low j (List.mem_reverse.mp hj),d0,h0⟩
  obtain ⟨zs,hl,hz⟩:=clr_eq ps.reverse (rowsTo (mrk W u) ps.length) (mrk W u ps.length)
  rw [rowsTo_len] at hl
  generalize hd:det ps.reverse (rowsTo (mrk W u) ps.length)=d at d0 hz ⊢
  have hz2:∀ j,clr ps.reverse (rowsTo (mrk W u) ps.length) (mrk W u ps.length) j=d * mrk W u ps.length j+cmb (mrk W u) zs.reverse 0 j:=fun j=>by
    rw [hz j,sumR_cmb j _ zs hl]
  have hlr:zs.reverse.length=ps.length:=by rw [List.length_reverse,hl]
  generalize zs.reverse=y at hz2 hlr
  have rel:∀ j,j < W→cmb (mrk W u) (y++[det ps.reverse (rowsTo (mrk W u) ps.length)]) 0 j=0:=fun j hj=>by
    have:=hz2 j
    rw [h0 j hj] at this
    rw [cmb_snoc,hlr,Nat.zero_add,hd]
    omega
  have hwh:=T.whole hlr rel
  rw [hd] at hwh
  obtain ⟨c',hcl,hce⟩:=quot_list d hwh
  have hcl2:(c'.map fun x=>-1 * x).length=ps.length:=by rw [List.length_map,hcl,hlr]
  refine ⟨c'.map fun x=>-1 * x,⟨?_,fun j hj=>?_,fun f hf h1=>?_⟩,hcl2,d0,?_,fun i x hx=>?_⟩
  · rw [hcl2];exact h.few
  · have e1:=hz2 j
    rw [h0 j hj,hce,cmb_scale,mrk_low hj,cmb_mrk hj] at e1
    rw [hcl2,cmb_scale]
    have e2:d * u ps.length j=d * (-1 * cmb u c' 0 j):=by grind
    exact Int.eq_of_mul_eq_mul_left d0 e2
  · exact h.ind f (by rw [← hcl2];exact hf) fun j hj=>by rw [cmb_mrk hj];exact h1 j hj
  · rw [hz2,mrk_own,if_pos rfl,cmb_own ps.length y 0 (Nat.zero_le _)]
    rw [List.getD_eq_getElem?_getD,List.getElem?_eq_none (by omega)]
    show d * 1+0=d
    omega
  · have hi:i < ps.length:=by rw [← hcl2];exact (List.getElem?_eq_some_iff.mp hx).1
    rw [hz2,mrk_own,if_neg (by omega),cmb_own i y 0 (Nat.zero_le _),hce]
    rw [List.getElem?_map] at hx
    cases hc:c'[i]? with
    | none=>rw [hc] at hx;cases hx
    | some a =>
      rw [hc] at hx
      have ex:-1 * a=x:=Option.some.inj hx
      rw [Nat.sub_zero,List.getD_eq_getElem?_getD,List.getElem?_map,hc]
      show d * 0+d * a = -x * d
      rw [← ex]
      grind
theorem Lt.uniq {c c':List Int} (h:Lt u W c) (h':Lt u W c'):c=c':=by
  have key:∀ {c c':List Int},Lt u W c→Lt u W c'→c.length≤c'.length:=fun {c c'} h h'=>by
    refine Nat.le_of_not_lt fun z=>?_
    have:=h.ind (c'.map (fun x=>-1 * x)++[1]) (by simp;omega) (fun j hj=>by
      rw [cmb_snoc,cmb_scale,List.length_map,Nat.zero_add,h'.tie j hj]
      omega) 1 (by simp)
    cases this
  have hl:c.length=c'.length:=Nat.le_antisymm (key h h') (key h' h)
  have h1:=h.ind (addL c (c'.map fun x=>-1 * x)) (by rw [addL_len (by simp;omega)];exact Nat.le_refl _) fun j hj=>by
    rw [cmb_add,cmb_scale,← h.tie j hj,← h'.tie j hj,hl]
    omega
  have eq:∀ {a b:List Int},a.length=b.length→(∀ x∈addL a (b.map fun x=>-1 * x),x=0)→a=b:=fun {a}=>by
    induction a with
    | nil=>intro b hl _;cases b with
      | nil=>rfl
      | cons _ _=>cases hl
    | cons x a ih =>
      intro b hl h
      cases b with
      | nil=>cases hl
      | cons y b =>
        have e1:x + -1 * y=0:=h _ (by show _∈(x + -1 * y) :: addL a (b.map fun x=>-1 * x);exact List.mem_cons_self)
        have e2:=ih (b:=b) (by simpa using hl) fun z hz=>h z (by show z∈(x + -1 * y) :: addL a (b.map fun x=>-1 * x);exact List.mem_cons_of_mem _ hz)
        rw [e2,show x=y by omega]
  exact eq hl h1
end
end Lw
namespace Lw
open PySem L2
def stp (cs w:List Int):List Int:=w.tail++[dot cs w]
def wn (cs ss:List Int):Nat→List Int
  | 0=>ss
  | k+1=>stp cs (wn cs ss k)
def xN (cs ss:List Int) (k:Nat):Int:=(wn cs ss k).headD 0
structure Rep (N:Int) (cs:List Int) (m:Nat) (sh:List Int):Prop where
  len:sh.length=cs.length
  dv:∀ ss:List Int,ss.length=cs.length→N ∣ dot sh ss - xN cs ss m
end Lw
namespace Lw
theorem lt_ex {u:Nat→Vc} {W:Nat} (sh:Shf u W):∃ c,Lt u W c:=by
  have key:∀ m ps,Piv (mrk W u) W ps→W - ps.length≤m→∃ c,Lt u W c:=fun m=>by
    induction m with
    | zero =>
      intro ps h hm
      have hl:ps.length=W:=by have:=h.few;omega
      obtain ⟨c,hc,_⟩:=least_of sh h (h.full hl _)
      exact ⟨c,hc⟩
    | succ m ih =>
      intro ps h hm
      by_cases h0:∀ j,j < W→clr ps.reverse (rowsTo (mrk W u) ps.length) (mrk W u ps.length) j=0
      · obtain ⟨c,hc,_⟩:=least_of sh h h0
        exact ⟨c,hc⟩
      · obtain ⟨q,hq,hn⟩:∃ q,q < W∧clr ps.reverse (rowsTo (mrk W u) ps.length) (mrk W u ps.length) q≠0:=Classical.byContradiction fun z=>h0 fun j hj=>Classical.byContradiction fun y=>z ⟨j,hj,y⟩
        have h2:Piv (mrk W u) W (ps++[q]):=⟨fun p hp=>by
          rcases List.mem_append.mp hp with z | z
          · exact h.low p z
          · rw [List.mem_singleton.mp z];exact hq,fun i hi=>by
          rw [List.length_append,List.length_singleton] at hi
          by_cases e:i < ps.length
          · have:=h.nz i e
            rw [List.take_append_of_le_length (by omega),List.getElem_append_left e]
            exact this
          · have e':i=ps.length:=by omega
            subst e'
            rw [List.take_append_of_le_length (Nat.le_refl _),List.take_length,List.getElem_append_right (Nat.le_refl _)]
            simpa using hn⟩
        exact ih (ps++[q]) h2 (by rw [List.length_append,List.length_singleton];omega)
  exact key W [] ⟨fun p h=>by simp at h,fun i h=>absurd h (Nat.not_lt_zero i)⟩ (by simp)
def sq:List Int→Nat→(Nat→Int)→Int
  | [],_,_=>0
  | a :: c,n,g=>a * g n+sq c (n+1) g
theorem cmb_sq {u:Nat→Vc} (j:Nat):∀ (f:List Int) (n:Nat),cmb u f n j=sq f n fun n=>u n j
  | [],_=>rfl
  | a :: f,n=>by
    show a * u n j+cmb u f (n+1) j=a * u n j+sq f (n+1) fun n=>u n j
    rw [cmb_sq j f]
theorem sq_shift (g:Nat→Int):∀ (c:List Int) (n:Nat),sq c n (fun n=>g (n+1))=sq c (n+1) g
  | [],_=>rfl
  | b :: c,n=>by
    show b * g (n+1)+sq c (n+1) (fun n=>g (n+1))=b * g (n+1)+sq c (n+1+1) g
    rw [sq_shift g c]
theorem sq_congr {g h:Nat→Int}:∀ {c:List Int} {n:Nat},(∀ i,n≤i→i < n+c.length→g i=h i)→sq c n g=sq c n h
  | [],_,_=>rfl
  | b :: c,n,e=>by
    show b * g n+sq c (n+1) g=b * h n+sq c (n+1) h
    rw [e n (Nat.le_refl _) (by simp),sq_congr fun i h1 h2=>e i (by omega) (by simp only [List.length_cons];omega)]
theorem Lt.all {u:Nat→Vc} {W:Nat} {c:List Int} (h:Lt u W c) (sh:Shf u W) (n j:Nat) (hj:j < W):u (n+c.length) j=cmb u c n j:=by
  have rel:∀ j,j < W→cmb u (c.map (fun x=>-1 * x)++[1]) 0 j=0:=fun j hj=>by
    rw [cmb_snoc,cmb_scale,List.length_map,Nat.zero_add,h.tie j hj]
    omega
  have:=sh.all rel n j hj
  rw [cmb_snoc,cmb_scale,List.length_map] at this
  omega
def cv (rs:List Rule) (first:List Nat):Nat→Vc:=fun i j=>(cntN rs.length (tabI rs) (c0 rs first) i).getD j 0
theorem cv_row (rs:List Rule) (first:List Nat) (n:Nat):(List.range rs.length).map (cv rs first n)=cntN rs.length (tabI rs) (c0 rs first) n:=range_getD (cntN_len (c0_len rs first) n)
theorem cv_next {rs:List Rule} {first:List Nat} {j:Nat} (hj:j < rs.length) (n:Nat):cv rs first (n+1) j=dot ((List.range rs.length).map (cv rs first n)) (colAt (tabI rs) j):=by
  rw [cv_row]
  show (stepC rs.length (tabI rs) (cntN rs.length (tabI rs) (c0 rs first) n)).getD j 0=_
  unfold stepC
  rw [List.getD_eq_getElem?_getD,List.getElem?_map,List.getElem?_range hj]
  rfl
theorem dot_cmb {rs:List Rule} {first:List Nat} (y:List Int):∀ (f:List Int) (n:Nat),dot ((List.range rs.length).map (cmb (cv rs first) f n)) y=sq f n fun n=>dot ((List.range rs.length).map (cv rs first n)) y
  | [],n=>dot_zero _ y
  | a :: f,n=>by
    show dot ((List.range rs.length).map fun j=>a * cv rs first n j+cmb (cv rs first) f (n+1) j) y=_
    rw [dot_lin a (cv rs first n) (cmb (cv rs first) f (n+1)),dot_cmb y f (n+1)]
    rfl
theorem cv_shf (rs:List Rule) (first:List Nat):Shf (cv rs first) rs.length:=fun f h0 j hj=>by
  have h1:=dot_cmb (rs:=rs) (first:=first) (colAt (tabI rs) j) f 0
  have h2:(List.range rs.length).map (cmb (cv rs first) f 0)=(List.range rs.length).map fun _=>(0:Int):=List.map_congr_left fun i hi=>h0 i (List.mem_range.mp hi)
  rw [h2,dot_zero] at h1
  rw [cmb_sq,← sq_shift (fun n=>cv rs first n j),h1]
  exact sq_congr fun i _ _=>cv_next hj i
def wgt (rs:List Rule) (first:List Nat) (ws:List Int) (n:Nat):Int:=dot ws (cntN rs.length (tabI rs) (c0 rs first) n)
end Lw
namespace Lw
theorem Lt.same {u v:Nat→Vc} {W:Nat} {c:List Int} (h:Lt u W c) (e:∀ f:List Int,(∀ j,j < W→cmb u f 0 j=0) ↔ ∀ j,j < W→cmb v f 0 j=0):Lt v W c:=by
  refine ⟨h.few,fun j hj=>?_,fun f hf h0=>h.ind f hf ((e f).mpr h0)⟩
  have:=(e (c.map (fun x=>-1 * x)++[1])).mp (fun j hj=>by
    rw [cmb_snoc,cmb_scale,List.length_map,Nat.zero_add,h.tie j hj]
    omega) j hj
  rw [cmb_snoc,cmb_scale,List.length_map,Nat.zero_add] at this
  omega
end Lw
namespace Lw
open PySem L2
theorem tabV_eq (rs:List Rule):tabV rs=(tabI rs).map fun v=>v.map V.int:=by
  unfold tabV tabI cnts
  rw [List.map_map]
  refine List.map_congr_left fun q _=>?_
  show _=List.map V.int _
  rw [List.map_map]
  rfl
theorem TabAt.v {H0 H:Hp} {l:Addr} {ls:List Addr} {rs:List Rule} (t:TabAt H0 H l ls (tabV rs)):TabV H l ls (tabI rs):=by
  refine ⟨t.top,?_,fun i a v e1 e2=>?_⟩
  · have:=t.rows.len
    rw [tabV_eq,List.length_map] at this
    exact this
  · refine t.rows.at_ i a _ e1 ?_
    rw [tabV_eq,List.getElem?_map,e2]
    rfl
theorem cnts_eq (rs:List Rule) (w:List Nat):cnts rs w=(c0 rs w).map V.int:=by
  unfold cnts c0
  rw [List.map_map]
  rfl
section
variable {P:Program} {w:World} {K:PySem.W.Frag} {mg:Str→Option Value} {base:Heap}
def spCol:Sp:=fun vs H Q _=>∃ (l:Addr) (ls:List Addr) (T:List (List Int)) (j:Nat),vs=[.ref l,.int (j:Int)]∧TabV H l ls T∧T.length≤1000∧(∀ r∈T,j < r.length)∧∀ d H',Same H H'→H d=none→H' d=some (.lst ((colAt T j).map V.int))→Q (.ref d) H'
theorem scCol:FnScope ["lines","place"] ["lines","place"] (defScope sCol):=⟨rfl,rfl,rfl,by decide +kernel,rfl,by decide +kernel,by decide +kernel⟩
theorem nd_col1:(["line","place"]:List Str).Nodup:=by decide +kernel
theorem ok_col {f:Addr} {fd:FuncData} (F:Fun K "column" "column" sCol f fd)
    : FnOk P w K mg base CX0 1 f fd ["lines","place"] spCol:=by
  refine F.ok scCol (fun vs H Q E h=>?_) (fun cdv A outer s H vs Q E hr h=>?_)
  · obtain ⟨l,ls,T,j,rfl,_⟩:=h
    rfl
  · obtain ⟨l,ls,T,j,rfl,hT,h8,hj,k⟩:=h
    refine ⟨_,(pss_one (ps_ret (pe_comp (N':=["line","place"]) (ix:=[none,some 1]) rfl rfl (pi_listK K (pv 0)) (fun _ _ _ _ _ _=>(pg_name (i:=0) nd_col1 rfl (Or.inl rfl))) (fun _ _ _ _ _ _=>pts_nil) (fun _ _ _ _ _ _=>(pe_ix (ix_listK K) (pv 0) (pv 1) (fun _ _=>rfl)))))),?_⟩
    have el:(ls.map V.ref).length=T.length:=by rw [List.length_map,hT.len]
    refine ⟨_,rfl,l,rfl,⟨_,SqL.of hT.top⟩,comp_all (sure_list (xs:=ls.map V.ref)) (by rw [el];omega) (fun i ys τ H2=>H2=H∧ys=((T.take i).map fun r=>r.getD j 0).map V.int∧∃ v,τ=[v,some (.int (j:Int))]) ⟨rfl,rfl,_,rfl⟩ ?_ ?_ ?_⟩
    · rintro i ys τ H2 hi ⟨rfl,rfl,_⟩
      refine ⟨SqL.of hT.top,?_⟩
      rw [List.length_map,List.length_map,List.length_take]
      omega
    · rintro i x ys τ H2 hx ⟨rfl,rfl,v,rfl⟩
      rw [List.getElem?_map] at hx
      cases e:ls[i]? with
      | none=>rw [e] at hx;cases hx
      | some p =>
        rw [e] at hx
        cases hx
        have hi:i < T.length:=by rw [← hT.len];exact (List.getElem?_eq_some_iff.mp e).1
        have e1:T[i]? = some T[i]:=List.getElem?_eq_getElem hi
        have hr:=hj T[i] (List.getElem_mem hi)
        refine ⟨_,rfl,_,rfl,p,_,_,V.int (T[i].getD j 0),rfl,rfl,SqL.of (hT.at_ i p _ e e1),atI_nat (by rw [List.getElem?_map,List.getD_eq_getElem?_getD,List.getElem?_eq_getElem hr];rfl),rfl,?_,_,rfl⟩
        rw [take_snoc (fun r:List Int=>r.getD j 0) e1,List.map_append]
        rfl
    · rintro ys τ H2 D ⟨rfl,rfl,_⟩ hD
      refine k D _ (Same.add hD) hD ?_
      rw [upd_same,el,take_all]
      rfl
def spCls:Sp:=fun vs H Q _=>∃ (l:Addr) (ls:List Addr) (T:List (List Int)),vs=[.ref l]∧TabV H l ls T∧T.length≤1000∧(∀ r∈T,r.length=T.length)∧∀ d ms H',Same H H'→H d=none→TabV H' d ms ((List.range T.length).map fun j=>colAt T j)→Q (.ref d) H'
theorem scCls:FnScope ["lines"] ["lines"] (defScope sCls):=⟨rfl,rfl,rfl,by decide +kernel,rfl,by decide +kernel,by decide +kernel⟩
theorem nd_cls1:(["place","lines"]:List Str).Nodup:=by decide +kernel
theorem ok_cls {f fCol:Addr} {fd fdCol:FuncData} (F:Fun K "columns" "columns" sCls f fd)
    (GCol:FnOk P w K mg base CX0 1 fCol fdCol ["lines","place"] spCol)
    (gCol:Gf K mg "column" fCol fdCol ["lines","place"])
    (hlen:mg "len" = none)
    (hrange:mg "range" = none)
    : FnOk P w K mg base CX0 2 f fd ["lines"] spCls:=by
  refine F.ok scCls (fun vs H Q E h=>?_) (fun cdv A outer s H vs Q E hr h=>?_)
  · obtain ⟨l,ls,T,rfl,_⟩:=h
    rfl
  · obtain ⟨l,ls,T,rfl,hT,h8,hj,k⟩:=h
    refine ⟨_,(pss_one (ps_ret (pe_comp (N':=["place","lines"]) (ix:=[none,some 0]) rfl rfl (pi_range1 rfl hrange (pa_cons (pe_callB (call_lenK K) (by rfl) hlen PySem.boot_len (pa_cons (pv 0) pa_nil)) pa_nil)) (fun _ _ _ _ _ _=>(pg_name (i:=0) nd_cls1 rfl (Or.inl rfl))) (fun _ _ _ _ _ _=>pts_nil) (fun _ _ _ _ _ _=>(pe_call GCol hr rfl gCol.m gCol.k gCol.b .nil pass0 (pa_cons (pv 1) (pa_cons (pv 0) pa_nil))))))),?_⟩
    have el:(ls.map V.ref).length=T.length:=by rw [List.length_map,hT.len]
    refine ⟨_,rfl,l,_,rfl,.inl (SqL.of hT.top),?_⟩
    refine ⟨_,rfl,by omega,by omega,?_⟩
    refine comp_all (τ0:=[none,some (V.ref l)]) (sure_range (lo:=0) (n:=Int.toNat (((ls.map V.ref).length:Nat):Int))) (by rw [rngV_length,el];simp;omega)
      (fun i ys τ H2=>Same H H2∧(∃ v,τ=[v,some (.ref l)])∧∃ ms,ys=ms.map V.ref∧RowsAt H H2 ms (((List.range T.length).take i).map fun j=>(colAt T j).map V.int)) ⟨Same.refl _,⟨_,rfl⟩,[],rfl,RowsAt.nil⟩ ?_ ?_ ?_
    · rintro i ys τ H2 hi ⟨s2,_,ms,rfl,hR⟩
      refine ⟨trivial,?_⟩
      rw [List.length_map,hR.len,List.length_map,List.length_take]
      omega
    · rintro i x ys τ H2 hx ⟨s2,⟨v,rfl⟩,ms,rfl,hR⟩
      obtain ⟨hi,rfl⟩:=rng_at hx
      have hi':i < T.length:=by rw [el] at hi;simpa using hi
      refine ⟨_,rfl,_,rfl,l,ls,T,i,rfl,hT.mono s2,h8,fun r hr=>by rw [hj r hr];exact hi',fun d H3 s3 n3 e3=>?_⟩
      refine ⟨s2.trans s3,⟨_,rfl⟩,ms++[d],by rw [List.map_append];rfl,?_⟩
      rw [rng_take _ hi']
      exact hR.snoc s3 (s2.free n3) n3 e3
    · rintro ys τ H2 D ⟨s2,_,ms,rfl,hR⟩ hD
      have e5:(rngV 0 (Int.toNat (((ls.map V.ref).length:Nat):Int))).length=T.length:=by rw [rngV_length,el];simp
      rw [e5,take_rng] at hR
      refine k D ms _ (s2.trans (Same.add hD)) (s2.free hD) ⟨upd_same,?_,fun j a v e1 e2=>?_⟩
      · rw [hR.len,List.length_map,List.length_map]
      · refine Same.add hD _ _ (hR.at_ j a _ e1 ?_)
        rw [List.getElem?_map] at e2 ⊢
        cases e3:(List.range T.length)[j]? with
        | none=>rw [e3] at e2;cases e2
        | some m =>
          rw [e3] at e2
          cases e2
          rfl
def spPrs:Sp:=fun vs H Q _=>∃ (a b:Addr) (xs ys:List Int) (e1 e2:Nat),vs=[.ref a,.ref b]∧H a=some (.lst (xs.map V.int))∧H b=some (.lst (ys.map V.int))∧xs.length≤1000∧Bz e1 xs∧Bz e2 ys∧e1≤5000∧e2≤5000∧∀ H',Same H H'→Q (.int (dot xs ys)) H'
theorem scPrs:FnScope ["ones","others"] ["ones","others"] (defScope sPrs):=⟨rfl,rfl,rfl,by decide +kernel,rfl,by decide +kernel,by decide +kernel⟩
theorem nd_prs1:(["one","other"]:List Str).Nodup:=by decide +kernel
theorem ok_prs {f:Addr} {fd:FuncData} (F:Fun K "paired_sum" "paired_sum" sPrs f fd)
    (hzip:mg "zip" = none)
    (hsum:mg "sum" = none)
    : FnOk P w K mg base CX0 1 f fd ["ones","others"] spPrs:=by
  refine F.ok scPrs (fun vs H Q E h=>?_) (fun cdv A outer s H vs Q E hr h=>?_)
  · obtain ⟨a,b,xs,ys,e1,e2,rfl,_⟩:=h
    rfl
  · obtain ⟨a,b,xs,ys,e1,e2,rfl,ha,hb,h8,b1,b2,l1,l2,k⟩:=h
    refine ⟨_,(pss_one (ps_ret (pe_callB (call_sumK2 K rfl) (by rfl) hsum (by first | exact PySem.boot_sum | decide +kernel) (pa_cons (pe_comp (N':=["one","other"]) (ix:=[none,none]) rfl rfl (pi_zipK K rfl hzip (pa_cons (pv 0) (pa_cons (pv 1) pa_nil))) (fun _ _ _ _ _ _=>(pg_tupK K (n:=2) rfl (pgs_cons (pg_name (i:=0) nd_prs1 rfl (Or.inl rfl)) (pgs_cons (pg_name (i:=1) nd_prs1 rfl (Or.inl rfl)) pgs_nil)))) (fun _ _ _ _ _ _=>pts_nil) (fun _ _ _ _ _ _=>(pe_op op_mulB (pv 0) (pv 1)))) pa_nil)))),?_⟩
    refine ⟨_,rfl,_,rfl,a,b,rfl,⟨_,SqL.of ha⟩,⟨_,SqL.of hb⟩,?_⟩
    have elen:(((xs.map V.int).zip (ys.map V.int)).map fun p=>[p.1,p.2]).length=(List.zipWith (· * ·) xs ys).length:=by simp
    refine comp_all2 (Q:=fun x Ha=>rSum K [x] Ha Q) (τ0:=[none,none]) (sure_zip (xs:=xs.map V.int) (ys:=ys.map V.int)) (by simp;omega)
      (fun i zs τ H2=>Same H H2∧(∃ v u,τ=[v,u])∧zs=((List.zipWith (· * ·) xs ys).take i).map V.int) ⟨Same.refl _,⟨_,_,rfl⟩,rfl⟩ ?_ ?_ ?_
    · rintro i zs τ H2 hi ⟨s2,_,rfl⟩
      refine ⟨⟨SqL.of (s2 _ _ ha),SqL.of (s2 _ _ hb)⟩,?_⟩
      rw [List.length_map,List.length_take]
      omega
    · rintro i us zs τ H2 T hz ⟨s2,⟨v,u,rfl⟩,rfl⟩ hT
      rw [List.getElem?_map] at hz
      cases ez:((xs.map V.int).zip (ys.map V.int))[i]? with
      | none=>rw [ez] at hz;cases hz
      | some pr =>
        obtain ⟨px,py⟩:=pr
        rw [ez] at hz
        cases hz
        obtain ⟨q1,q2⟩:=List.getElem?_zip_eq_some.mp ez
        rw [List.getElem?_map] at q1 q2
        cases c1:xs[i]? with
        | none=>rw [c1] at q1;cases q1
        | some x =>
          cases c2:ys[i]? with
          | none=>rw [c2] at q2;cases q2
          | some y =>
            rw [c1] at q1
            rw [c2] at q2
            have q1':V.int x=px:=Option.some.inj q1
            have q2':V.int y=py:=Option.some.inj q2
            subst q1' q2'
            have k1:=Nat.le_trans (bits_abs (b1 x (List.mem_of_getElem? c1))) (Nat.le_trans l1 (show 5000≤2 ^ 20 by decide))
            have k2:=Nat.le_trans (bits_abs (b2 y (List.mem_of_getElem? c2))) (Nat.le_trans l2 (show 5000≤2 ^ 20 by decide))
            refine ⟨T,_,rfl,SqT.of upd_same,rfl,_,_,rfl,_,_,rfl,rfl,?_⟩
            refine ⟨_,rfl,_,rfl,_,_,rfl,rfl,⟨k1,k2⟩,s2.trans (Same.add hT),⟨_,_,rfl⟩,?_⟩
            have e3:(List.zipWith (· * ·) xs ys)[i]? = some (x * y):=by rw [List.getElem?_zipWith,c1,c2]
            rw [List.take_add_one,e3,List.map_append]
            rfl
    · rintro zs τ H2 D ⟨s2,_,rfl⟩ hD
      rw [elen,take_all]
      exact ⟨D,_,rfl,SqL.of upd_same,k _ (s2.trans (Same.add hD))⟩
def spOao:Sp:=fun vs H Q _=>∃ (a l:Addr) (ls:List Addr) (xs:List Int) (T:List (List Int)) (e1 e2:Nat),vs=[.ref a,.ref l]∧H a=some (.lst (xs.map V.int))∧TabV H l ls T∧xs.length≤1000∧T.length≤1000∧Bz e1 xs∧(∀ r∈T,Bz e2 r)∧e1≤5000∧e2≤5000 ∧
  ∀ d H',Same H H'→H d=none→H' d=some (.lst ((T.map fun r=>dot xs r).map V.int))→Q (.ref d) H'
theorem scOao:FnScope ["line","sources"] ["line","sources"] (defScope sOao):=⟨rfl,rfl,rfl,by decide +kernel,rfl,by decide +kernel,by decide +kernel⟩
theorem nd_oao1:(["source","line"]:List Str).Nodup:=by decide +kernel
theorem ok_oao {f fPrs:Addr} {fd fdPrs:FuncData} (F:Fun K "one_age_on" "one_age_on" sOao f fd)
    (GPrs:FnOk P w K mg base CX0 1 fPrs fdPrs ["ones","others"] spPrs)
    (gPrs:Gf K mg "paired_sum" fPrs fdPrs ["ones","others"])
    : FnOk P w K mg base CX0 2 f fd ["line","sources"] spOao:=by
  refine F.ok scOao (fun vs H Q E h=>?_) (fun cdv A outer s H vs Q E hr h=>?_)
  · obtain ⟨a,l,ls,xs,T,e1,e2,rfl,_⟩:=h
    rfl
  · obtain ⟨a,l,ls,xs,T,e1,e2,rfl,ha,hT,h8,h9,b1,b2,l1,l2,k⟩:=h
    refine ⟨_,(pss_one (ps_ret (pe_comp (N':=["source","line"]) (ix:=[none,some 0]) rfl rfl (pi_listK K (pv 1)) (fun _ _ _ _ _ _=>(pg_name (i:=0) nd_oao1 rfl (Or.inl rfl))) (fun _ _ _ _ _ _=>pts_nil) (fun _ _ _ _ _ _=>(pe_call GPrs hr rfl gPrs.m gPrs.k gPrs.b .nil pass0 (pa_cons (pv 1) (pa_cons (pv 0) pa_nil))))))),?_⟩
    have el:(ls.map V.ref).length=T.length:=by rw [List.length_map,hT.len]
    refine ⟨_,rfl,l,rfl,⟨_,SqL.of hT.top⟩,comp_allR (τ0:=[none,some (V.ref a)]) (sure_list (xs:=ls.map V.ref)) (by rw [el];omega)
      (fun j zs τ H6=>Same H H6∧(∃ v,τ=[v,some (.ref a)])∧zs=((T.take j).map fun r=>dot xs r).map V.int) ⟨Same.refl _,⟨_,rfl⟩,rfl⟩ ?_ ?_ ?_⟩
    · rintro j zs τ H6 hj ⟨s6,_,rfl⟩
      refine ⟨SqL.of (s6 _ _ hT.top),?_⟩
      rw [List.length_map,List.length_map,List.length_take]
      omega
    · rintro j x zs τ H6 hx2 ⟨s6,⟨v,rfl⟩,rfl⟩
      rw [List.getElem?_map] at hx2
      cases c1:ls[j]? with
      | none=>rw [c1] at hx2;cases hx2
      | some b =>
        rw [c1] at hx2
        cases hx2
        obtain ⟨r,c2,hb⟩:=hT.get' c1
        refine ⟨_,rfl,_,rfl,a,b,xs,r,e1,e2,rfl,s6 _ _ ha,s6 _ _ hb,h8,b1,b2 r (List.mem_of_getElem? c2),l1,l2,fun H7 s7=>⟨s6.trans s7,⟨_,rfl⟩,?_⟩⟩
        rw [take_snoc (fun r=>dot xs r) c2,List.map_append]
        rfl
    · rintro zs τ H6 Dn ⟨s6,_,rfl⟩ hDn
      refine k Dn _ (s6.trans (Same.add hDn)) (s6.free hDn) ?_
      rw [upd_same,el,take_all]
end
end Lw
namespace Lw
open PySem L2
section
variable {P:Program} {w:World} {K:PySem.W.Frag} {mg:Str→Option Value} {base:Heap}
def spFcs:Sp:=fun vs H Q _=>∃ (t:Addr) (first:List Nat) (rs:List Rule) (m:Nat),vs=[.ref t,.int (m:Int)]∧BookAt H t first rs∧Good first rs∧m≤700 ∧
  ∀ d ms H',Same H H'→H d=none→(∀ x∈ms,H x=none)→TabV H' d ms ((List.range m).map (cntN rs.length (tabI rs) (c0 rs first)))→Q (.ref d) H'
theorem scFcs:FnScope ["book","many","sources","told"] ["book","many"] (defScope sFcs):=⟨rfl,rfl,rfl,by decide +kernel,rfl,by decide +kernel,by decide +kernel⟩
theorem ok_fcs {f fCls fTab fTal fOao:Addr} {fd fdCls fdTab fdTal fdOao:FuncData} (F:Fun K "first_counts" "first_counts" sFcs f fd)
    (GCls:FnOk P w K mg base CX0 2 fCls fdCls ["lines"] spCls)
    (gCls:Gf K mg "columns" fCls fdCls ["lines"])
    (GTab:FnOk P w K mg base CX0 4 fTab fdTab ["book"] spTab)
    (gTab:Gf K mg "table" fTab fdTab ["book"])
    (GTal:FnOk P w K mg base CX0 3 fTal fdTal ["book","text"] spTal)
    (gTal:Gf K mg "tally" fTal fdTal ["book","text"])
    (GOao:FnOk P w K mg base CX0 2 fOao fdOao ["line","sources"] spOao)
    (gOao:Gf K mg "one_age_on" fOao fdOao ["line","sources"])
    (hlen:mg "len" = none)
    : FnOk P w K mg base CX0 5 f fd ["book","many"] spFcs:=by
  refine F.ok scFcs (fun vs H Q E h=>?_) (fun cdv A outer s H vs Q E hr h=>?_)
  · obtain ⟨t,first,rs,m,rfl,_⟩:=h
    rfl
  · obtain ⟨t,first,rs,m,rfl,hB,hG,hm,k⟩:=h
    have hr2:Room 2 _:=hr.mono (by decide)
    have hr3:Room 3 _:=hr.mono (by decide)
    refine ⟨_,(pss_cons (ps_set (i:=2) scFcs.nd rfl (Or.inl rfl) (pe_call GCls hr2 rfl gCls.m gCls.k gCls.b .nil pass0 (pa_cons (pe_call GTab hr rfl gTab.m gTab.k gTab.b .nil pass0 (pa_cons (pv 0) pa_nil)) pa_nil)))
      (pss_cons (ps_set (i:=3) scFcs.nd rfl (Or.inl rfl) (pe_lst (pa_cons (pe_call GTal hr3 rfl gTal.m gTal.k gTal.b .nil pass0 (pa_cons (pv 0) (pa_cons (pe_ix (ix_tupK K) (pv 0) pe_int (fun _ _=>rfl)) pa_nil))) pa_nil)))
      (pss_cons (ps_while PassesOwn.never (pt_cmpR op_lt (pe_callB (call_lenK K) (by rfl) hlen PySem.boot_len (pa_cons (pv 3) pa_nil)) (pv 1) (nomark _)) (pss_one (ps_expr (pe_bmK K PySem.F.plainAttrs_list PySem.F.slot_list_append PySem.F.type_list_append mt_append (pv 3) (pa_cons (pe_call GOao hr2 rfl gOao.m gOao.k gOao.b .nil pass0 (pa_cons (pe_ix (ix_listK K) (pv 3) (pe_un un_neg pe_int) (fun _ _=>rfl)) (pa_cons (pv 2) pa_nil))) pa_nil)))))
      (pss_one (ps_ret (pe_slice (sl_listK K) (pv 3) po_none (po_some (pv 1)))))))),?_⟩
    have hfew:=hG.few
    have kl:=c0_len rs first
    have cb:=cntN_bd hG.few (col_sm fun r hr=>tabI_sm hG hr) kl (c0_bd hG)
    obtain ⟨r,ps,b1,b2,b3⟩:=hB.ex
    refine ⟨_,rfl,t,first,rs,rfl,hB,hG.few,fun l0 ls0 H1 s1 hT=>?_⟩
    refine ⟨l0,ls0,tabI rs,rfl,hT.v,by rw [tabI_len];omega,fun r hr=>by rw [tabI_row hr,tabI_len],fun D ms H2 s2 n2 hC=>?_⟩
    rw [tabI_len] at hC
    have s02:=s1.trans s2
    refine ⟨_,rfl,_,rfl,t,_,_,_,rfl,rfl,SqT.of (s02 _ _ b1),atI_nat (j:=0) rfl,t,first,rs,first,rfl,hB.mono (TupS.same s02),hG.few,fun d0 H3 s3 n3 e3=>?_⟩
    rw [cnts_eq] at e3
    refine ⟨(by show 1≤sizeLine;decide),fun l hl=>?_⟩
    have nd0:d0≠l:=ne_of_none e3 hl
    have s23:Same H2 (upd H3 l (.lst [V.ref d0])):=s3.trans (Same.add hl)
    have nl:H2 l=none:=s3.free hl
    refine ⟨fun q σ H5=>∃ (j:Nat) (ls:List Addr),σ=[some (.ref t),some (.int (m:Int)),some (.ref D),some (.ref l)]∧q=m - (j+1)∧(j+1≤m∨j=0)∧Same H2 H5∧l ∉ ls∧(∀ x∈ls,H x=none)∧TabV H5 l ls ((List.range (j+1)).map (cntN rs.length (tabI rs) (c0 rs first))),
      ⟨_,0,[d0],rfl,rfl,.inr rfl,s23,(by simp;exact fun z=>nd0 z.symm),(fun x hx=>(List.mem_singleton.mp hx).symm ▸ s02.free n3),⟨upd_same,rfl,fun i a v e1 e2=>?_⟩⟩,?_⟩
    · cases i with
      | succ i=>simp at e1
      | zero =>
        cases e1
        cases e2
        exact upd_in e3 nd0
    · rintro q σ H5 ⟨j,ls,rfl,rfl,hj,s5,hlo,hfr,hTl⟩
      have ln:(ls.map V.ref).length=j+1:=by rw [List.length_map,hTl.len,List.length_map,List.length_range]
      refine ⟨_,rfl,l,_,rfl,.inl (SqL.of hTl.top),_,rfl,_,_,rfl,rfl,_,rfl,?_⟩
      refine ite2 (fun hc=>?_) (fun hc=>?_)
      · have hlt:j+1 < m:=by
          have:=of_decide_eq_true hc
          rw [ln] at this
          omega
        refine ⟨fun σ' H'=>∃ ls':List Addr,σ'=[some (.ref t),some (.int (m:Int)),some (.ref D),some (.ref l)]∧Same H2 H'∧l ∉ ls'∧(∀ x∈ls',H x=none)∧TabV H' l ls' ((List.range (j+1+1)).map (cntN rs.length (tabI rs) (c0 rs first))),
          fun σ' H' ⟨ls',e,a1,a2,a3,a4⟩=>⟨m - (j+1+1),by omega,j+1,ls',e,rfl,.inl (by omega),a1,a2,a3,a4⟩,?_⟩
        obtain ⟨a,ha,hv⟩:=hTl.get (i:=j) (v:=cntN rs.length (tabI rs) (c0 rs first) j) (by rw [List.getElem?_map,List.getElem?_range (by omega)];rfl)
        refine ⟨_,rfl,.inl ⟨rfl,_,SqL.of hTl.top⟩,_,rfl,_,rfl,l,_,_,_,rfl,rfl,SqL.of hTl.top,atI_last ln (by rw [List.getElem?_map,ha];rfl),_,rfl,?_⟩
        refine ⟨a,D,ms,_,_,4+6 * j,3,rfl,hv,hC.mono s5,by rw [cntN_len kl];omega,by rw [List.length_map,List.length_range];omega,(cb j).z,fun r hr=>?_,by omega,by omega,fun d H6 s6 n6 e6=>?_⟩
        · obtain ⟨i,_,rfl⟩:=List.mem_map.mp hr
          exact (col_sm (fun r hr=>tabI_sm hG hr) i).bd.z
        · have hl6:=s6 _ _ hTl.top
          have ndl:d≠l:=(ne_of_none hTl.top n6).symm
          refine ⟨l,_,_,rfl,rfl,hl6,small1000 (by rw [ln];omega),ls++[d],rfl,fun c o hc=>?_,?_,?_,?_⟩
          · exact upd_in (s6 _ _ (s5 _ _ hc)) (ne_of_none hc nl)
          · intro z
            rcases List.mem_append.mp z with z | z
            · exact hlo z
            · have z':l=d:=by simpa using z
              exact ndl z'.symm
          · intro x hx
            rcases List.mem_append.mp hx with z | z
            · exact hfr x z
            · have z':x=d:=by simpa using z
              rw [z'];exact s02.free (s5.free n6)
          · rw [List.range_succ,List.map_append]
            refine hTl.snoc (fun a ha o ho=>upd_in (s6 _ _ ho) fun z=>hlo (by rw [← z];exact ha)) upd_same ?_
            rw [upd_ne ndl,e6,step_cols]
            rfl
      · have hge:m≤j+1:=by
          have h2:¬ ((j+1:Nat):Int) < (m:Int):=fun z=>hc (decide_eq_true (by rw [ln];exact z))
          omega
        refine ⟨_,rfl,_,rfl,_,rfl,l,_,rfl,SqL.of hTl.top,fun p hp=>?_⟩
        rw [cut_take]
        refine k p (ls.take m) _ (s02.trans (s5.trans (Same.add hp))) (s02.free (s5.free hp)) (fun x hx=>hfr x (List.mem_of_mem_take hx)) ?_
        have:=TabV.take (H':=upd H5 p (.lst ((ls.map V.ref).take m))) m hTl (Same.add hp) upd_same
        rw [← List.map_take (l:=List.range (j+1)),List.take_range,Nat.min_eq_left hge] at this
        exact this
def spFws:Sp:=fun vs H Q _=>∃ (t l:Addr) (first:List Nat) (rs:List Rule) (ws:List Int) (m:Nat),vs=[.ref t,.ref l,.int (m:Int)]∧BookAt H t first rs∧Good first rs∧H l=some (.lst (ws.map V.int))∧ws.length=rs.length∧Bz 300 ws∧m≤700 ∧
  ∀ d H',Same H H'→H d=none→H' d=some (.lst (((List.range m).map (wgt rs first ws)).map V.int))→Q (.ref d) H'
theorem scFws:FnScope ["book","weights","many"] ["book","weights","many"] (defScope sFws):=⟨rfl,rfl,rfl,by decide +kernel,rfl,by decide +kernel,by decide +kernel⟩
theorem nd_fws1:(["line","weights"]:List Str).Nodup:=by decide +kernel
theorem ok_fws {f fPrs fFcs:Addr} {fd fdPrs fdFcs:FuncData} (F:Fun K "first_weights" "first_weights" sFws f fd)
    (GPrs:FnOk P w K mg base CX0 1 fPrs fdPrs ["ones","others"] spPrs)
    (gPrs:Gf K mg "paired_sum" fPrs fdPrs ["ones","others"])
    (GFcs:FnOk P w K mg base CX0 5 fFcs fdFcs ["book","many"] spFcs)
    (gFcs:Gf K mg "first_counts" fFcs fdFcs ["book","many"])
    : FnOk P w K mg base CX0 6 f fd ["book","weights","many"] spFws:=by
  refine F.ok scFws (fun vs H Q E h=>?_) (fun cdv A outer s H vs Q E hr h=>?_)
  · obtain ⟨t,l,first,rs,ws,m,rfl,_⟩:=h
    rfl
  · obtain ⟨t,l,first,rs,ws,m,rfl,hB,hG,hl,hwl,hwb,hm,k⟩:=h
    have hr1:Room 1 _:=hr.mono (by decide)
    refine ⟨_,(pss_one (ps_ret (pe_comp (N':=["line","weights"]) (ix:=[none,some 1]) rfl rfl (pi_listK K (pe_call GFcs hr rfl gFcs.m gFcs.k gFcs.b .nil pass0 (pa_cons (pv 0) (pa_cons (pv 2) pa_nil)))) (fun _ _ _ _ _ _=>(pg_name (i:=0) nd_fws1 rfl (Or.inl rfl))) (fun _ _ _ _ _ _=>pts_nil) (fun _ _ _ _ _ _=>(pe_call GPrs hr1 rfl gPrs.m gPrs.k gPrs.b .nil pass0 (pa_cons (pv 1) (pa_cons (pv 0) pa_nil))))))),?_⟩
    have hfew:=hG.few
    have cb:=cntN_bd hG.few (col_sm fun r hr=>tabI_sm hG hr) (c0_len rs first) (c0_bd hG)
    refine ⟨_,rfl,_,rfl,t,first,rs,m,rfl,hB,hG,hm,fun d ms H1 s1 n1 hfr hT=>?_⟩
    have lm:ms.length=m:=by rw [hT.len,List.length_map,List.length_range]
    refine ⟨d,rfl,⟨_,SqL.of hT.top⟩,comp_allR (τ0:=[none,some (.ref l)]) (sure_list (xs:=ms.map V.ref)) (by rw [List.length_map];omega)
      (fun i us τ Hx=>Same H1 Hx∧(∃ v,τ=[v,some (.ref l)])∧us=(((List.range m).take i).map (wgt rs first ws)).map V.int) ⟨Same.refl _,⟨_,rfl⟩,rfl⟩ ?_ ?_ ?_⟩
    · rintro i us τ Hx hi ⟨sx,_,rfl⟩
      refine ⟨SqL.of (sx _ _ hT.top),?_⟩
      rw [List.length_map,List.length_map,List.length_take]
      omega
    · rintro i x us τ Hx hx ⟨sx,⟨v,rfl⟩,rfl⟩
      rw [List.getElem?_map] at hx
      cases c1:ms[i]? with
      | none=>rw [c1] at hx;cases hx
      | some b =>
        rw [c1] at hx
        cases hx
        obtain ⟨r,c2,hb⟩:=hT.get' c1
        have hi:i < m:=by rw [← lm];exact (List.getElem?_eq_some_iff.mp c1).1
        rw [List.getElem?_map,List.getElem?_range hi] at c2
        have er:cntN rs.length (tabI rs) (c0 rs first) i=r:=Option.some.inj c2
        subst er
        refine ⟨_,rfl,_,rfl,l,b,ws,_,300,4+6 * i,rfl,sx _ _ (s1 _ _ hl),sx _ _ hb,by omega,hwb,(cb i).z,by decide,by omega,fun H7 s7=>⟨sx.trans s7,⟨_,rfl⟩,?_⟩⟩
        rw [take_snoc (wgt rs first ws) (List.getElem?_range hi),List.map_append]
        rfl
    · rintro us τ Hx D ⟨sx,_,rfl⟩ nD
      rw [List.length_map,lm,show (List.range m).take m=List.range m from by rw [List.take_of_length_le (by simp)]]
      exact k D _ (s1.trans (sx.trans (Same.add nD))) ((s1.trans sx).free nD) upd_same
end
end Lw
namespace Lw
open PySem L2 PyProof.Rows
theorem rng0 {n i:Nat} {x:V} (h:(rngV 0 n)[i]? = some x):i < n∧x=.int (i:Int):=by
  have hi:i < n:=by
    have:=(List.getElem?_eq_some_iff.mp h).1
    rwa [rngV_length] at this
  refine ⟨hi,?_⟩
  unfold rngV at h
  rw [List.getElem?_map,List.getElem?_range hi] at h
  have:=Option.some.inj h
  rw [← this]
  show V.int (0+(i:Int))=_
  rw [Int.zero_add]
def ent (M:Nat) (f:Vc):List Int:=(List.range M).map f
theorem ent_len (M:Nat) (f:Vc):(ent M f).length=M:=by unfold ent;rw [List.length_map,List.length_range]
theorem ent_at {M j:Nat} (f:Vc) (h:j < M):((ent M f).map V.int)[j]? = some (V.int (f j)):=by
  unfold ent
  rw [List.getElem?_map,List.getElem?_map,List.getElem?_range h]
  rfl
theorem ent_snoc (f:Vc) {M i:Nat} (h:i < M):((List.range M).take (i+1)).map f=((List.range M).take i).map f++[f i]:=take_snoc f (List.getElem?_range h)
theorem ent_congr {M:Nat} {f g:Vc} (h:∀ j,j < M→f j=g j):ent M f=ent M g:=by
  unfold ent
  exact List.map_congr_left fun j hj=>h j (List.mem_range.mp hj)
theorem ent_add (W n:Nat) (f:Vc):ent (W+n) f=ent W f++ent n fun j=>f (W+j):=by
  unfold ent
  rw [List.range_add,List.map_append,List.map_map]
  rfl
theorem clr_nil (v:Vc):clr [] [] v=v:=funext fun j=>by
  show v j * 1 - 0=v j
  omega
theorem rowsTo_inv {u:Nat→Vc} {r:Vc}:∀ {m:Nat},r∈rowsTo u m→∃ i,i < m∧r=u i
  | 0,h=>by cases h
  | m+1,h=>by
    rcases List.mem_cons.mp h with e | h
    · exact ⟨m,Nat.lt_succ_self m,e⟩
    · obtain ⟨i,h1,h2⟩:=rowsTo_inv (m:=m) h
      exact ⟨i,by omega,h2⟩
def Sz (x:Int):Prop:=x.natAbs < 2 ^ 8800
theorem clr_sz {u:Nat→Vc} {M:Nat} {ps:List Nat} {i:Nat} {v:Vc} (hi:i≤16) (hps:∀ p∈ps,p < M) (hpl:ps.length≤16) (hu:∀ m,m < i→∀ j,j < M→(u m j).natAbs≤2 ^ 450) (hv:∀ j,j < M→(v j).natAbs≤2 ^ 450) {j:Nat} (hj:j < M):Sz (clr ps.reverse (rowsTo u i) v j):=by
  have h:=det_bd (B:=2 ^ 450) (m:=17) Nat.one_le_two_pow (j :: ps.reverse) (v :: rowsTo u i) (fun r hr c hc=>by
    have hc':c < M:=by
      rcases List.mem_cons.mp hc with rfl | hc
      · exact hj
      · exact hps c (List.mem_reverse.mp hc)
    rcases List.mem_cons.mp hr with rfl | hr
    · exact hv c hc'
    · obtain ⟨m,h1,rfl⟩:=rowsTo_inv hr
      exact hu m h1 c hc') (by rw [List.length_cons,rowsTo_len];omega)
  have e:clr ps.reverse (rowsTo u i) v j=det (j :: ps.reverse) (v :: rowsTo u i):=rfl
  unfold Sz
  rw [e]
  refine Nat.lt_of_le_of_lt h ?_
  have h1:(17 * 2 ^ 450:Nat)≤2 ^ 455:=by
    have:(2:Nat) ^ 455=2 ^ 5 * 2 ^ 450:=by rw [← Nat.pow_add]
    rw [this]
    exact Nat.mul_le_mul_right _ (by decide)
  refine Nat.lt_of_le_of_lt (Nat.pow_le_pow_left h1 _) ?_
  rw [← Nat.pow_mul]
  refine Nat.pow_lt_pow_right (by decide) ?_
  rw [List.length_cons,List.length_reverse]
  omega
theorem Sz.bits {x:Int} (h:Sz x):Builtin.Int.intBits x≤2 ^ 20:=Nat.le_trans (bits_abs h) (by decide)
section
variable {P:Program} {w:World} {K:PySem.W.Frag} {mg:Str→Option Value} {base:Heap}
def spMkd:Sp:=fun vs H Q _=>∃ (l:Addr) (ls:List Addr) (v:Nat→Vc) (n W i:Nat),vs=[.ref l,.int (i:Int)]∧TabV H l ls ((List.range n).map fun a=>ent W (v a))∧n≤17∧W≤16∧i < n ∧
  ∀ d H',Same H H'→H d=none→H' d=some (.lst ((ent (W+n) (mrk W v i)).map V.int))→Q (.ref d) H'
theorem scMkd:FnScope ["lines","number"] ["lines","number"] (defScope sMkd):=⟨rfl,rfl,rfl,by decide +kernel,rfl,by decide +kernel,by decide +kernel⟩
theorem nd_mkd1:(["place","number"]:List Str).Nodup:=by decide +kernel
theorem ok_mkd {f:Addr} {fd:FuncData} (F:Fun K "marked" "marked" sMkd f fd)
    (hlen:mg "len" = none)
    (hrange:mg "range" = none)
    : FnOk P w K mg base CX0 1 f fd ["lines","number"] spMkd:=by
  refine F.ok scMkd (fun vs H Q E h=>?_) (fun cdv A outer s H vs Q E hr h=>?_)
  · obtain ⟨l,ls,v,n,W,i,rfl,_⟩:=h
    rfl
  · obtain ⟨l,ls,v,n,W,i,rfl,hT,hn,hW,hi,k⟩:=h
    refine ⟨_,(pss_one (ps_ret (pe_op op_cat (pe_ix (ix_listK K) (pv 0) (pv 1) (fun _ _=>rfl)) (pe_comp (N':=["place","number"]) (ix:=[none,some 1]) rfl rfl (pi_range1 rfl hrange (pa_cons (pe_callB (call_lenK K) (by rfl) hlen PySem.boot_len (pa_cons (pv 0) pa_nil)) pa_nil)) (fun _ _ _ _ _ _=>(pg_name (i:=0) nd_mkd1 rfl (Or.inl rfl))) (fun _ _ _ _ _ _=>pts_nil) (fun _ _ _ _ _ _=>(pe_ifExp (pt_cmpR op_eq (pv 0) (pv 1) (nomark _)) pe_int pe_int)))))),?_⟩
    have ll:ls.length=n:=by rw [hT.len,List.length_map,List.length_range]
    obtain ⟨b,hb1,hb2⟩:=hT.get (i:=i) (v:=ent W (v i)) (by rw [List.getElem?_map,List.getElem?_range hi];rfl)
    have hls:(ls.map V.ref)[i]? = some (.ref b):=by rw [List.getElem?_map,hb1];rfl
    refine ⟨_,rfl,_,rfl,l,_,(i:Int),_,rfl,rfl,SqL.of hT.top,atI_nat hls,?_⟩
    refine ⟨_,rfl,l,_,rfl,.inl (SqL.of hT.top),_,rfl,by omega,by rw [List.length_map];omega,?_⟩
    have e1:(((ls.map V.ref).length:Nat):Int).toNat=n:=by rw [List.length_map,ll];omega
    refine comp_allR (τ0:=[none,some (.int (i:Int))]) (sure_range (lo:=0) (n:=Int.toNat ((ls.map V.ref).length:Int))) (by rw [rngV_length,e1];omega)
      (fun j us τ Hx=>Hx=H∧(∃ x,τ=[x,some (.int (i:Int))])∧us=(((List.range n).take j).map fun j=>if j=i then (1:Int) else 0).map V.int) ⟨rfl,⟨_,rfl⟩,rfl⟩ ?_ ?_ ?_
    · rintro j us τ Hx hj ⟨rfl,_,rfl⟩
      refine ⟨trivial,?_⟩
      rw [List.length_map,List.length_map,List.length_take]
      omega
    · rintro j x us τ Hx hx ⟨rfl,⟨y,rfl⟩,rfl⟩
      obtain ⟨hj,rfl⟩:=rng0 hx
      rw [e1] at hj
      refine ⟨_,rfl,_,rfl,rfl,_,rfl,?_⟩
      by_cases hji:j=i
      · subst hji
        rw [decide_eq_true rfl]
        refine iteT ⟨rfl,⟨_,rfl⟩,?_⟩
        rw [ent_snoc (fun q=>if q=j then (1:Int) else 0) hj,List.map_append]
        simp
      · rw [decide_eq_false fun z=>hji (by have:=V.int.inj z;omega)]
        refine iteF ⟨rfl,⟨_,rfl⟩,?_⟩
        rw [ent_snoc (fun q=>if q=i then (1:Int) else 0) hj,List.map_append]
        simp [hji]
    · rintro us τ Hx D ⟨rfl,_,rfl⟩ nD
      rw [rngV_length,e1,take_rng]
      have nb:b≠D:=ne_of_none hb2 nD
      refine ⟨b,D,_,_,rfl,rfl,upd_in hb2 nb,upd_same,?_,fun p hp=>?_⟩
      · rw [List.length_map,List.length_map,List.length_map,List.length_range,ent_len]
        exact Nat.le_of_lt (small1000 (by omega))
      · have sD:=Same.add (o:=.lst (((List.range n).map fun j=>if j=i then (1:Int) else 0).map V.int)) nD
        refine k p _ (sD.trans (Same.add hp)) (sD.free hp) ?_
        rw [upd_same,ent_add,List.map_append]
        have e2:ent W (mrk W v i)=ent W (v i):=ent_congr fun j hj=>mrk_low hj
        have e3:(ent n fun j=>mrk W v i (W+j))=(List.range n).map fun j=>if j=i then (1:Int) else 0:=ent_congr fun j _=>mrk_own i j
        rw [e2,e3]
def spLsh:Sp:=fun vs H Q _=>∃ (a b:Addr) (f g h:Vc) (M p:Nat) (d:Int),vs=[.ref a,.ref b,.int (p:Int),.int d]∧H a=some (.lst ((ent M f).map V.int))∧H b=some (.lst ((ent M g).map V.int))∧M≤40∧p < M∧(∀ j,j < M→Sz (f j)∧Sz (g j))∧d≠0∧Sz d∧(∀ j,j < M→d * h j=f j * g p - f p * g j) ∧
  ∀ c H',Same H H'→H c=none→H' c=some (.lst ((ent M h).map V.int))→Q (.ref c) H'
theorem scLsh:FnScope ["entries","line","place","divisor","factor"] ["entries","line","place","divisor"] (defScope sLsh):=⟨rfl,rfl,rfl,by decide +kernel,rfl,by decide +kernel,by decide +kernel⟩
theorem nd_lsh1:(["entry","above","line","place","factor","divisor"]:List Str).Nodup:=by decide +kernel
theorem ok_lsh {f:Addr} {fd:FuncData} (F:Fun K "less_share" "less_share" sLsh f fd)
    (hzip:mg "zip" = none)
    : FnOk P w K mg base CX0 1 f fd ["entries","line","place","divisor"] spLsh:=by
  refine F.ok scLsh (fun vs H Q E h=>?_) (fun cdv A outer s H vs Q E hr h=>?_)
  · obtain ⟨a,b,f,g,h,M,p,d,rfl,_⟩:=h
    rfl
  · obtain ⟨a,b,f,g,h,M,p,d,rfl,ha,hb,hM,hp,hz,hd,hdz,he,k⟩:=h
    refine ⟨_,(pss_cons (ps_set (i:=4) scLsh.nd rfl (Or.inr rfl) (pe_ix (ix_listK K) (pv 0) (pv 2) (fun _ _=>rfl)))
      (pss_one (ps_ret (pe_comp (N':=["entry","above","line","place","factor","divisor"]) (ix:=[none,none,some 1,some 2,some 4,some 3]) rfl rfl (pi_zipK K rfl hzip (pa_cons (pv 0) (pa_cons (pv 1) pa_nil))) (fun _ _ _ _ _ _=>(pg_tupK K (n:=2) rfl (pgs_cons (pg_name (i:=0) nd_lsh1 rfl (Or.inl rfl)) (pgs_cons (pg_name (i:=1) nd_lsh1 rfl (Or.inl rfl)) pgs_nil)))) (fun _ _ _ _ _ _=>pts_nil) (fun _ _ _ _ _ _=>(pe_op op_divE (pe_op op_sub (pe_op op_mulB (pv 0) (pe_ix (ix_listK K) (pv 2) (pv 3) (fun _ _=>rfl))) (pe_op op_mulB (pv 4) (pv 1))) (pv 5))))))),?_⟩
    refine ⟨_,rfl,_,rfl,a,_,_,_,rfl,rfl,SqL.of ha,atI_nat (ent_at f hp),?_⟩
    refine ⟨_,rfl,_,rfl,a,b,rfl,⟨_,SqL.of ha⟩,⟨_,SqL.of hb⟩,?_⟩
    have el:((((ent M f).map V.int).zip ((ent M g).map V.int)).map fun q=>[q.1,q.2]).length=M:=by simp [ent_len]
    refine comp_all2 (Q:=Q) (τ0:=[none,none,some (.ref b),some (.int (p:Int)),some (.int (f p)),some (.int d)]) (sure_zip (xs:=(ent M f).map V.int) (ys:=(ent M g).map V.int)) (by rw [el];omega)
      (fun i us τ Hx=>Same H Hx∧(∃ x y,τ=[x,y,some (.ref b),some (.int (p:Int)),some (.int (f p)),some (.int d)])∧us=(((List.range M).take i).map h).map V.int) ⟨Same.refl _,⟨_,_,rfl⟩,rfl⟩ ?_ ?_ ?_
    · rintro i us τ Hx hi ⟨sx,_,rfl⟩
      refine ⟨⟨SqL.of (sx _ _ ha),SqL.of (sx _ _ hb)⟩,?_⟩
      rw [List.length_map,List.length_map,List.length_take]
      omega
    · rintro i zs us τ Hx T hz' ⟨sx,⟨x,y,rfl⟩,rfl⟩ hT
      have hi:i < M:=by rw [← el];exact (List.getElem?_eq_some_iff.mp hz').1
      have ez:(((ent M f).map V.int).zip ((ent M g).map V.int))[i]? = some (V.int (f i),V.int (g i)):=List.getElem?_zip_eq_some.mpr ⟨ent_at f hi,ent_at g hi⟩
      rw [List.getElem?_map,ez] at hz'
      cases hz'
      obtain ⟨z1,z2⟩:=hz i hi
      obtain ⟨z3,z4⟩:=hz p hp
      have sT:=sx.trans (Same.add (o:=.tup [V.int (f i),V.int (g i)]) hT)
      refine ⟨T,_,rfl,SqT.of upd_same,rfl,_,_,rfl,_,_,rfl,rfl,?_⟩
      refine ⟨_,rfl,_,rfl,_,rfl,b,_,_,_,rfl,rfl,SqL.of (sT _ _ hb),atI_nat (ent_at g hp),?_⟩
      refine ⟨_,_,rfl,rfl,⟨z1.bits,z4.bits⟩,?_⟩
      refine ⟨_,rfl,_,rfl,_,_,rfl,rfl,⟨z3.bits,z2.bits⟩,?_⟩
      refine ⟨_,_,rfl,rfl,_,rfl,_,_,rfl,rfl,⟨hd,⟨h i,(he i hi).symm⟩,8800,by decide,hdz⟩,sT,⟨_,_,rfl⟩,?_⟩
      have e9:V.int ((d * h i) / d)=V.int (h i):=by rw [Int.mul_ediv_cancel_left _ hd]
      rw [← he i hi,ent_snoc h hi,List.map_append]
      show _++[V.int ((d * h i) / d)]=_
      rw [e9]
      rfl
    · rintro us τ Hx D ⟨sx,_,rfl⟩ nD
      rw [el,take_rng]
      exact k D _ (sx.trans (Same.add nD)) (sx.free nD) upd_same
end
end Lw
namespace Lw
open PySem L2 PyProof.Rows
structure Clrd (H:Hp) (l:Addr) (ts es:List Addr) (ps:List Nat) (M:Nat) (u:Nat→Vc):Prop where
  top:H l=some (.lst (ts.map V.ref))
  lt:ts.length=ps.length
  le:es.length=ps.length
  t:∀ (i:Nat) t e p,ts[i]? = some t→es[i]? = some e→ps[i]? = some p→H t=some (.tup [.ref e,.int (p:Int)])
  e:∀ (i:Nat) e,es[i]? = some e→H e=some (.lst ((ent M (clr (ps.take i).reverse (rowsTo u i) (u i))).map V.int))
theorem Clrd.mono {H H':Hp} {l:Addr} {ts es:List Addr} {ps:List Nat} {M:Nat} {u:Nat→Vc} (h:Clrd H l ts es ps M u) (s:Same H H'):Clrd H' l ts es ps M u :=
  ⟨s _ _ h.top,h.lt,h.le,fun i t e p a b c=>s _ _ (h.t i t e p a b c),fun i e a=>s _ _ (h.e i e a)⟩
section
variable {P:Program} {w:World} {K:PySem.W.Frag} {mg:Str→Option Value} {base:Heap}
def spClr:Sp:=fun vs H Q _=>∃ (a l:Addr) (ts es:List Addr) (ps:List Nat) (M W:Nat) (u:Nat→Vc) (v:Vc),vs=[.ref a,.ref l]∧H a=some (.lst ((ent M v).map V.int))∧Clrd H l ts es ps M u∧Piv u W ps∧W≤M∧M≤40∧(∀ i,i≤ps.length→∀ j,j < M→Sz (clr (ps.take i).reverse (rowsTo u i) v j)∧Sz (clr (ps.take i).reverse (rowsTo u i) (u i) j)) ∧
  ∀ c H',Same H H'→(H c=none∨c=a)→H' c=some (.lst ((ent M (clr ps.reverse (rowsTo u ps.length) v)).map V.int))→Q (.ref c) H'
theorem scClr:FnScope ["entries","cleared","told","divisor","line","place"] ["entries","cleared"] (defScope sClr):=⟨rfl,rfl,rfl,by decide +kernel,rfl,by decide +kernel,by decide +kernel⟩
theorem ok_clr {f fLsh:Addr} {fd fdLsh:FuncData} (F:Fun K "clear" "clear" sClr f fd)
    (GLsh:FnOk P w K mg base CX0 1 fLsh fdLsh ["entries","line","place","divisor"] spLsh)
    (gLsh:Gf K mg "less_share" fLsh fdLsh ["entries","line","place","divisor"])
    : FnOk P w K mg base CX0 2 f fd ["entries","cleared"] spClr:=by
  refine F.ok scClr (fun vs H Q E h=>?_) (fun cdv A outer s H vs Q E hr h=>?_)
  · obtain ⟨a,l,ts,es,ps,M,W,u,v,rfl,_⟩:=h
    rfl
  · obtain ⟨a,l,ts,es,ps,M,W,u,v,rfl,ha,hC,hP,hWM,hM,hz,k⟩:=h
    refine ⟨_,(pss_cons (ps_set (i:=2) scClr.nd rfl (Or.inl rfl) (pv 0))
      (pss_cons (ps_set (i:=3) scClr.nd rfl (Or.inl rfl) pe_int)
      (pss_cons (ps_for PassesOwn.never rfl (pi_listK K (pv 1)) (pg_tupK K (n:=2) rfl (pgs_cons (pg_name (i:=4) scClr.nd rfl (Or.inl rfl)) (pgs_cons (pg_name (i:=5) scClr.nd rfl (Or.inl rfl)) pgs_nil))) (pss_cons (ps_set (i:=2) scClr.nd rfl (Or.inl rfl) (pe_call GLsh hr rfl gLsh.m gLsh.k gLsh.b .nil pass0 (pa_cons (pv 2) (pa_cons (pv 4) (pa_cons (pv 5) (pa_cons (pv 3) pa_nil))))))
      (pss_one (ps_set (i:=3) scClr.nd rfl (Or.inl rfl) (pe_ix (ix_listK K) (pv 4) (pv 5) (fun _ _=>rfl))))))
      (pss_one (ps_ret (pv 2)))))),?_⟩
    refine ⟨_,rfl,?_⟩
    refine ⟨_,rfl,l,rfl,⟨_,SqL.of hC.top⟩,for_by (sure_list (xs:=ts.map V.ref))
      (fun i σ Hx=>∃ c x y,σ=[some (.ref a),some (.ref l),some (.ref c),some (.int (det (ps.take i).reverse (rowsTo u i))),x,y]∧Same H Hx∧(H c=none∨c=a)∧Hx c=some (.lst ((ent M (clr (ps.take i).reverse (rowsTo u i) v)).map V.int))) ?_ ?_ ?_ ?_⟩
    · refine ⟨a,none,none,rfl,Same.refl _,.inr rfl,?_⟩
      show H a=some (.lst ((ent M (clr [] [] v)).map V.int))
      rw [clr_nil]
      exact ha
    · rintro i σ Hx _ ⟨c,x,y,rfl,sx,_⟩
      exact SqL.of (sx _ _ hC.top)
    · rintro i x σ Hx hx ⟨c,x',y',rfl,sx,hc,hcl⟩
      rw [List.getElem?_map] at hx
      cases c1:ts[i]? with
      | none=>rw [c1] at hx;cases hx
      | some t =>
        rw [c1] at hx
        cases hx
        have hi:i < ps.length:=by rw [← hC.lt];exact (List.getElem?_eq_some_iff.mp c1).1
        have c2:ps[i]? = some ps[i]:=List.getElem?_eq_getElem hi
        have hie:i < es.length:=by rw [hC.le];exact hi
        have c3:es[i]? = some es[i]:=List.getElem?_eq_getElem hie
        have ht:=hC.t i t _ _ c1 c3 c2
        have hee:=hC.e i _ c3
        obtain ⟨h1,h2⟩:=hP.step i (by omega)
        have hpW:=hP.low _ (List.getElem_mem hi)
        have hzi:=hz i (by omega)
        refine ⟨t,_,rfl,SqT.of (sx _ _ ht),rfl,_,_,rfl,_,_,rfl,rfl,?_⟩
        refine ⟨_,rfl,_,rfl,_,rfl,_,rfl,?_⟩
        have hnx:=fun j=>clr_next (q:=ps[i]) (r:=u i) h1 h2 v j
        have hdz:Sz (det (ps.take i).reverse (rowsTo u i)):=by
          cases i with
          | zero=>show (1:Int).natAbs < 2 ^ 8800;exact Nat.lt_of_lt_of_le (show 1 < 2 ^ 1 by decide) (Nat.pow_le_pow_right (by decide) (by decide))
          | succ i =>
            have:=(hz i (by omega) ps[i] (Nat.lt_of_lt_of_le (hP.low _ (List.getElem_mem (by omega))) hWM)).2
            rw [take_rev (by omega)]
            exact this
        refine ⟨c,es[i],_,_,clr (ps[i] :: (ps.take i).reverse) (u i :: rowsTo u i) v,M,ps[i],_,rfl,hcl,sx _ _ hee,hM,Nat.lt_of_lt_of_le hpW hWM,hzi,h1,hdz,fun j _=>hnx j,fun c' H7 s7 n7 h7=>?_⟩
        refine ⟨_,rfl,_,rfl,es[i],_,_,_,rfl,rfl,SqL.of (s7 _ _ (sx _ _ hee)),atI_nat (ent_at _ (Nat.lt_of_lt_of_le hpW hWM)),?_⟩
        refine ⟨c',some (.ref es[i]),some (.int (ps[i]:Int)),?_,sx.trans s7,.inl (sx.free n7),?_⟩
        · rw [take_rev hi]
          rfl
        · rw [take_rev hi]
          exact h7
    · rintro σ Hx ⟨c,x,y,rfl,sx,hc,hcl⟩
      rw [List.length_map,hC.lt,List.take_length] at hcl
      exact ⟨_,rfl,k c Hx sx hc hcl⟩
end
end Lw
namespace Lw
open PySem L2 PyProof.Rows
theorem cut_rg {f:Nat→Int} {M j A:Nat} (h:j+A≤M):cutV (((List.range M).map f).map V.int) (some (j:Int)) (some ((j:Int)+(A:Int)))=((List.range A).map fun i=>f (j+i)).map V.int:=by
  unfold cutV
  rw [show (j:Int)+(A:Int)=((j+A:Nat):Int) by omega,HT.sIx_nat,HT.sIx_nat]
  simp only [List.length_map,List.length_range]
  rw [Nat.min_eq_left (show j≤M by omega),Nat.min_eq_left h,Nat.add_sub_cancel_left]
  refine List.ext_getElem? fun i=>?_
  by_cases hi:i < A
  · rw [List.getElem?_take_of_lt hi,List.getElem?_drop,List.getElem?_map,List.getElem?_map,List.getElem?_range (by omega),List.getElem?_map,List.getElem?_map,List.getElem?_range hi]
    rfl
  · rw [List.getElem?_eq_none (by rw [List.length_take];omega),List.getElem?_eq_none (by simp;omega)]
theorem clr_bd {u:Nat→Vc} {M e:Nat} {ps:List Nat} {i:Nat} {v:Vc} (hi:i≤16) (hps:∀ p∈ps,p < M) (hu:∀ m,m < i→∀ j,j < M→(u m j).natAbs≤2 ^ e) (hv:∀ j,j < M→(v j).natAbs≤2 ^ e) {j:Nat} (hj:j < M):(clr ps.reverse (rowsTo u i) v j).natAbs < 2 ^ ((e+5) * (ps.length+1)):=by
  have h:=det_bd (B:=2 ^ e) (m:=17) Nat.one_le_two_pow (j :: ps.reverse) (v :: rowsTo u i) (fun r hr c hc=>by
    have hc':c < M:=by
      rcases List.mem_cons.mp hc with rfl | hc
      · exact hj
      · exact hps c (List.mem_reverse.mp hc)
    rcases List.mem_cons.mp hr with rfl | hr
    · exact hv c hc'
    · obtain ⟨m,h1,rfl⟩:=rowsTo_inv hr
      exact hu m h1 c hc') (by rw [List.length_cons,rowsTo_len];omega)
  have e1:clr ps.reverse (rowsTo u i) v j=det (j :: ps.reverse) (v :: rowsTo u i):=rfl
  rw [e1]
  refine Nat.lt_of_le_of_lt h ?_
  rw [Nat.pow_mul,List.length_cons,List.length_reverse]
  refine Nat.pow_lt_pow_left ?_ (by omega)
  rw [Nat.pow_add,Nat.mul_comm]
  have:0 < 2 ^ e:=Nat.two_pow_pos e
  exact Nat.mul_lt_mul_of_pos_left (show 17 < 2 ^ 5 by decide) this
theorem Piv.snoc {u:Nat→Vc} {W q:Nat} {ps:List Nat} (h:Piv u W ps) (hq:q < W) (hn:clr ps.reverse (rowsTo u ps.length) (u ps.length) q≠0):Piv u W (ps++[q]):=⟨fun p hp=>by
  rcases List.mem_append.mp hp with z | z
  · exact h.low p z
  · rw [List.mem_singleton.mp z];exact hq,fun i hi=>by
  rw [List.length_append,List.length_singleton] at hi
  by_cases e:i < ps.length
  · have:=h.nz i e
    rw [List.take_append_of_le_length (by omega),List.getElem_append_left e]
    exact this
  · have e':i=ps.length:=by omega
    subst e'
    rw [List.take_append_of_le_length (Nat.le_refl _),List.take_length,List.getElem_append_right (Nat.le_refl _)]
    simpa using hn⟩
theorem Clrd.snoc {H H':Hp} {l t e:Addr} {ts es:List Addr} {ps:List Nat} {M q:Nat} {u:Nat→Vc} (h:Clrd H l ts es ps M u) (s:∀ c o,c≠l→H c=some o→H' c=some o) (n1:l ∉ ts) (n2:l ∉ es)
    (hl:H' l=some (.lst (ts.map V.ref++[.ref t]))) (ht:H' t=some (.tup [.ref e,.int (q:Int)])) (he:H' e=some (.lst ((ent M (clr ps.reverse (rowsTo u ps.length) (u ps.length))).map V.int))):Clrd H' l (ts++[t]) (es++[e]) (ps++[q]) M u:=by
  have ne:∀ {x:Addr} {xs:List Addr} {i:Nat},l ∉ xs→xs[i]? = some x→x≠l:=fun hn hx z=>hn (z ▸ List.mem_of_getElem? hx)
  refine ⟨by rw [hl,List.map_append];rfl,by simp [h.lt],by simp [h.le],fun i t' e' p' a b c=>?_,fun i e' b=>?_⟩
  · by_cases hi:i < ps.length
    · rw [List.getElem?_append_left (by rw [h.lt];exact hi)] at a
      rw [List.getElem?_append_left (by rw [h.le];exact hi)] at b
      rw [List.getElem?_append_left hi] at c
      exact s _ _ (ne n1 a) (h.t i t' e' p' a b c)
    · have hi2:i=ps.length:=by
        have:=(List.getElem?_eq_some_iff.mp c).1
        rw [List.length_append,List.length_singleton] at this
        omega
      subst hi2
      rw [← h.lt,List.getElem?_concat_length] at a
      rw [← h.le,List.getElem?_concat_length] at b
      rw [List.getElem?_concat_length] at c
      cases a;cases b;cases c
      exact ht
  · by_cases hi:i < ps.length
    · rw [List.getElem?_append_left (by rw [h.le];exact hi)] at b
      rw [List.take_append_of_le_length (by omega)]
      exact s _ _ (ne n2 b) (h.e i e' b)
    · have hi2:i=ps.length:=by
        have:=(List.getElem?_eq_some_iff.mp b).1
        rw [List.length_append,List.length_singleton,h.le] at this
        omega
      subst hi2
      rw [← h.le,List.getElem?_concat_length] at b
      cases b
      rw [List.take_append_of_le_length (Nat.le_refl _),List.take_length]
      exact he
section
variable {P:Program} {w:World} {K:PySem.W.Frag} {mg:Str→Option Value} {base:Heap}
def spLea:Sp:=fun vs H Q _=>∃ (l:Addr) (ls:List Addr) (v:Nat→Vc) (n W eb:Nat),vs=[.ref l]∧TabV H l ls ((List.range n).map fun a=>ent W (v a))∧n≤17∧W < n∧Shf v W∧eb≤450∧(∀ i j,i < n→j < W→(v i j).natAbs≤2 ^ eb) ∧
  ∀ d c H',Same H H'→H d=none→H' d=some (.lst (c.map V.int))→Lt v W c→Bz ((eb+5) * (W+1)) c→Q (.ref d) H'
theorem scLea:FnScope ["lines","width","cleared","entries","own"] ["lines"] (defScope sLea):=⟨rfl,rfl,rfl,by decide +kernel,rfl,by decide +kernel,by decide +kernel⟩
theorem nd_lea1:(["place","entries"]:List Str).Nodup:=by decide +kernel
theorem nd_lea2:(["entry","entries","own"]:List Str).Nodup:=by decide +kernel
theorem ok_lea {f fMkd fClr:Addr} {fd fdMkd fdClr:FuncData} (F:Fun K "least_tie" "least_tie" sLea f fd)
    (GMkd:FnOk P w K mg base CX0 1 fMkd fdMkd ["lines","number"] spMkd)
    (gMkd:Gf K mg "marked" fMkd fdMkd ["lines","number"])
    (GClr:FnOk P w K mg base CX0 2 fClr fdClr ["entries","cleared"] spClr)
    (gClr:Gf K mg "clear" fClr fdClr ["entries","cleared"])
    (hlen:mg "len" = none)
    (hrange:mg "range" = none)
    (hany:mg "any" = none)
    : FnOk P w K mg base CX0 3 f fd ["lines"] spLea:=by
  refine F.ok scLea (fun vs H Q E h=>?_) (fun cdv A outer s H vs Q E hr h=>?_)
  · obtain ⟨l,ls,v,n,W,eb,rfl,_⟩:=h
    rfl
  · obtain ⟨l,ls,v,n,W,eb,rfl,hT,hn,hW,hS,heb,hBe,k⟩:=h
    have hr1:Room 1 _:=hr.mono (by decide)
    refine ⟨_,(pss_cons (ps_set (i:=1) scLea.nd rfl (Or.inl rfl) (pe_callB (call_lenK K) (by rfl) hlen PySem.boot_len (pa_cons (pe_ix (ix_listK K) (pv 0) pe_int (fun _ _=>rfl)) pa_nil)))
      (pss_cons (ps_set (i:=2) scLea.nd rfl (Or.inl rfl) (pe_lst pa_nil))
      (pss_cons (ps_set (i:=3) scLea.nd rfl (Or.inr rfl) (pe_call GMkd hr1 rfl gMkd.m gMkd.k gMkd.b .nil pass0 (pa_cons (pv 0) (pa_cons pe_int pa_nil))))
      (pss_cons (ps_while PassesOwn.never (pt_val (pe_callB (call_any_intsK K rfl) (by rfl) hany (show bootBuiltins "any" = some (.builtin "any") by decide +kernel) (pa_cons (pe_slice (sl_listK K) (pv 3) po_none (po_some (pv 1))) pa_nil))) (pss_cons (ps_expr (pe_bmK K PySem.F.plainAttrs_list PySem.F.slot_list_append PySem.F.type_list_append mt_append (pv 2) (pa_cons (pe_tup (pa_cons (pv 3) (pa_cons (pe_ix (ix_listK K) (pe_comp (N':=["place","entries"]) (ix:=[none,some 3]) rfl rfl (pi_range1 rfl hrange (pa_cons (pv 1) pa_nil)) (fun _ _ _ _ _ _=>(pg_name (i:=0) nd_lea1 rfl (Or.inl rfl))) (fun _ _ _ _ _ _=>(pts_one (pt_cmpR op_ne (pe_ix (ix_listK K) (pv 1) (pv 0) (fun _ _=>rfl)) pe_int (nomark _)))) (fun _ _ _ _ _ _=>(pv 0))) pe_int (fun _ _=>rfl)) pa_nil))) pa_nil)))
      (pss_one (ps_set (i:=3) scLea.nd rfl (Or.inr rfl) (pe_call GClr hr rfl gClr.m gClr.k gClr.b .nil pass0 (pa_cons (pe_call GMkd hr1 rfl gMkd.m gMkd.k gMkd.b .nil pass0 (pa_cons (pv 0) (pa_cons (pe_callB (call_lenK K) (by rfl) hlen PySem.boot_len (pa_cons (pv 2) pa_nil)) pa_nil))) (pa_cons (pv 2) pa_nil)))))))
      (pss_cons (ps_set (i:=4) scLea.nd rfl (Or.inr rfl) (pe_op op_add (pv 1) (pe_callB (call_lenK K) (by rfl) hlen PySem.boot_len (pa_cons (pv 2) pa_nil))))
      (pss_one (ps_ret (pe_comp (N':=["entry","entries","own"]) (ix:=[none,some 3,some 4]) rfl rfl (pi_listK K (pe_slice (sl_listK K) (pv 3) (po_some (pv 1)) (po_some (pv 4)))) (fun _ _ _ _ _ _=>(pg_name (i:=0) nd_lea2 rfl (Or.inl rfl))) (fun _ _ _ _ _ _=>pts_nil) (fun _ _ _ _ _ _=>(pe_op op_divE (pe_un un_neg (pv 0)) (pe_ix (ix_listK K) (pv 1) (pv 2) (fun _ _=>rfl)))))))))))),?_⟩
    have ll:ls.length=n:=by rw [hT.len,List.length_map,List.length_range]
    have hUBe:∀ i j,i < n→j < W+n→(mrk W v i j).natAbs≤2 ^ eb:=fun i j hi hj=>by
      unfold mrk
      split
      · rename_i h;exact hBe i j hi h
      · split
        · exact Nat.one_le_two_pow
        · exact Nat.zero_le _
    have hUB:∀ i j,i < n→j < W+n→(mrk W v i j).natAbs≤2 ^ 450:=fun i j hi hj=>Nat.le_trans (hUBe i j hi hj) (Nat.pow_le_pow_right (by decide) heb)
    obtain ⟨b0,hb1,hb2⟩:=hT.get (i:=0) (v:=ent W (v 0)) (by rw [List.getElem?_map,List.getElem?_range (by omega)];rfl)
    have hls:(ls.map V.ref)[0]? = some (.ref b0):=by rw [List.getElem?_map,hb1];rfl
    refine ⟨_,rfl,l,_,(0:Int),_,rfl,rfl,SqL.of hT.top,atI_nat (j:=0) hls,b0,_,rfl,.inl (SqL.of hb2),?_⟩
    rw [List.length_map,ent_len]
    refine ⟨(by show 0≤sizeLine;decide),fun cl hcl=>?_⟩
    have s1:=Same.add (o:=.lst []) hcl
    refine ⟨_,rfl,l,ls,v,n,W,0,rfl,hT.mono s1,hn,by omega,by omega,fun e0 H2 s2 n2 h2=>?_⟩
    have nc0:cl≠e0:=ne_of_none upd_same n2
    refine ⟨fun q σ H5=>∃ (e:Addr) (ts es:List Addr) (ps:List Nat) (y:Option V),σ=[some (.ref l),some (.int (W:Int)),some (.ref cl),some (.ref e),y]∧q=W - ps.length∧Same H H5∧Clrd H5 cl ts es ps (W+n) (mrk W v)∧Piv (mrk W v) W ps ∧
        H5 e=some (.lst ((ent (W+n) (clr ps.reverse (rowsTo (mrk W v) ps.length) (mrk W v ps.length))).map V.int))∧cl ∉ ts∧cl ∉ es∧cl≠e,
      ⟨_,e0,[],[],[],none,rfl,rfl,s1.trans s2,⟨s2 _ _ upd_same,rfl,rfl,fun i t e p h=>by simp at h,fun i e h=>by simp at h⟩,⟨fun p h=>by simp at h,fun i h=>absurd h (Nat.not_lt_zero i)⟩,(by
        show H2 e0=some (.lst ((ent (W+n) (clr [] [] (mrk W v 0))).map V.int))
        rw [clr_nil]
        exact h2),by simp,by simp,nc0⟩,?_⟩
    rintro q σ H5 ⟨e,ts,es,ps,y,rfl,rfl,s5,hC,hP,he,n1,n2,n3⟩
    have hpl:=hP.few
    generalize hf:clr ps.reverse (rowsTo (mrk W v) ps.length) (mrk W v ps.length)=f at he
    refine ⟨_,rfl,_,rfl,_,rfl,e,_,rfl,SqL.of he,fun p hp=>?_⟩
    have ecut:cutV ((ent (W+n) f).map V.int) none (some (W:Int))=(ent W f).map V.int:=by
      rw [cut_take,ent_add,List.map_append]
      exact List.take_left' (by rw [List.length_map,ent_len])
    rw [ecut]
    have sp:=Same.add (o:=.lst ((ent W f).map V.int)) hp
    refine ⟨p,ent W f,rfl,SqL.of upd_same,_,rfl,?_⟩
    have hC':Clrd (upd H5 p (.lst ((ent W f).map V.int))) cl ts es ps (W+n) (mrk W v):=hC.mono sp
    have he':=sp _ _ he
    have s5':=s5.trans sp
    generalize upd H5 p (.lst ((ent W f).map V.int))=H6 at hC' he' s5'
    refine ite2 (fun hc=>?_) (fun hc=>?_)
    · -- one more row
      have hex:∃ q,q < W∧f q≠0:=by
        obtain ⟨x,hx,hx0⟩:=List.any_eq_true.mp hc
        obtain ⟨q,hq,rfl⟩:=List.mem_map.mp hx
        exact ⟨q,List.mem_range.mp hq,of_decide_eq_true hx0⟩
      have hlt:ps.length < W:=by
        refine Nat.lt_of_le_of_ne hpl fun z=>?_
        obtain ⟨q,h1,h2⟩:=hex
        exact h2 (by rw [← hf];exact hP.full z _ q h1)
      refine ⟨fun σ' H'=>∃ m',m' < W - ps.length∧_,fun _ _ h=>h,?_⟩
      refine ⟨_,rfl,.inl ⟨rfl,_,SqL.of hC'.top⟩,_,rfl,_,rfl,_,rfl,by omega,by omega,?_⟩
      have eW:((W:Nat):Int).toNat=W:=by omega
      refine comp_byR (τ0:=[none,some (.ref e)]) (sure_range (lo:=0) (n:=Int.toNat (W:Int))) (by rw [rngV_length,eW];omega)
        (fun j us τ Hx=>Hx=H6∧(∃ x,τ=[x,some (.ref e)])∧us=(((List.range W).take j).filter fun q=>decide (f q≠0)).map fun (q:Nat)=>V.int (q:Int)) ⟨rfl,⟨_,rfl⟩,rfl⟩ ?_ ?_ ?_
      · rintro j us τ Hx hj ⟨rfl,_,rfl⟩
        refine ⟨trivial,?_⟩
        rw [List.length_map]
        refine Nat.le_trans (List.length_filter_le _ _) ?_
        rw [List.length_take]
        omega
      · rintro j x us τ Hx hx ⟨rfl,⟨z,rfl⟩,rfl⟩
        obtain ⟨hj,rfl⟩:=rng0 hx
        rw [eW] at hj
        refine ⟨_,rfl,_,rfl,e,_,_,_,rfl,rfl,SqL.of he',atI_nat (ent_at f (by omega)),rfl,_,rfl,?_⟩
        have et:(List.range W).take (j+1)=(List.range W).take j++[j]:=by rw [List.take_add_one,List.getElem?_range hj];rfl
        by_cases h0:f j=0
        · rw [h0,show (!decide (V.int 0=V.int 0))=false from by rw [decide_eq_true rfl];rfl]
          refine iteF ⟨rfl,⟨_,rfl⟩,?_⟩
          rw [et,List.filter_append]
          simp [h0]
        · rw [show (!decide (V.int (f j)=V.int 0))=true from by rw [decide_eq_false fun y=>h0 (V.int.inj y)];rfl]
          refine iteT ⟨_,rfl,rfl,⟨_,rfl⟩,?_⟩
          rw [et,List.filter_append]
          simp [h0]
      · rintro us τ Hx D ⟨rfl,_,rfl⟩ nD
        rw [rngV_length,eW,take_rng]
        obtain ⟨q,rest,eL⟩:∃ q rest,(List.range W).filter (fun q=>decide (f q≠0))=q :: rest:=by
          cases z:(List.range W).filter fun q=>decide (f q≠0) with
          | cons q rest=>exact ⟨q,rest,rfl⟩
          | nil =>
            obtain ⟨q,h1,h2⟩:=hex
            have:q∈(List.range W).filter fun q=>decide (f q≠0):=List.mem_filter.mpr ⟨List.mem_range.mpr h1,decide_eq_true h2⟩
            rw [z] at this
            cases this
        have hqm:q∈(List.range W).filter fun q=>decide (f q≠0):=by rw [eL];exact List.mem_cons_self
        obtain ⟨hq1,hq2⟩:=List.mem_filter.mp hqm
        have hqW:=List.mem_range.mp hq1
        have hq0:f q≠0:=of_decide_eq_true hq2
        rw [eL]
        have sD:=Same.add (o:=.lst ((q :: rest).map fun (q:Nat)=>V.int (q:Int))) nD
        refine ⟨D,_,0,V.int (q:Int),rfl,rfl,SqL.of upd_same,atI_nat (j:=0) rfl,(by show 2≤sizeLine;decide),fun t nt=>?_⟩
        have st:=sD.trans (Same.add (o:=.tup [V.ref e,V.int (q:Int)]) nt)
        have hcl2:=st _ _ hC'.top
        have ntcl:t≠cl:=(ne_of_none (sD _ _ hC'.top) nt).symm
        refine ⟨cl,_,_,rfl,rfl,hcl2,small1000 (by rw [List.length_map,hC'.lt];omega),?_⟩
        have h6t:=upd_same (H:=upd Hx D (.lst ((q :: rest).map fun (q:Nat)=>V.int (q:Int)))) (a:=t) (o:=.tup [V.ref e,V.int (q:Int)])
        generalize upd (upd Hx D (.lst ((q :: rest).map fun (q:Nat)=>V.int (q:Int)))) t (.tup [V.ref e,V.int (q:Int)])=H7 at st hcl2 h6t
        have hC7:Clrd (upd H7 cl (.lst (ts.map V.ref++[V.ref t]))) cl (ts++[t]) (es++[e]) (ps++[q]) (W+n) (mrk W v) :=
          hC'.snoc (fun c o nc hc=>by rw [upd_ne nc];exact st _ _ hc) n1 n2 upd_same (by rw [upd_ne ntcl];exact h6t) (by rw [upd_ne n3.symm,hf];exact st _ _ he')
        have s8:Same H (upd H7 cl (.lst (ts.map V.ref++[V.ref t]))):=fun c o hc=>by
          have nc:c≠cl:=ne_of_none hc hcl
          rw [upd_ne nc]
          exact st _ _ (s5' _ _ hc)
        have hcl8:(upd H7 cl (.lst (ts.map V.ref++[V.ref t]))) cl=some (.lst (ts.map V.ref++[V.ref t])):=upd_same
        generalize upd H7 cl (.lst (ts.map V.ref++[V.ref t]))=H8 at hC7 s8 hcl8
        have hP8:Piv (mrk W v) W (ps++[q]):=hP.snoc hqW (by rw [hf];exact hq0)
        have elen:(ps++[q]).length=ps.length+1:=by simp
        refine ⟨_,rfl,_,rfl,cl,_,rfl,.inl (SqL.of hcl8),l,ls,v,n,W,ps.length+1,?_,hT.mono s8,hn,by omega,by omega,fun a H9 s9 n9 h9=>?_⟩
        · rw [List.length_append,List.length_map,hC'.lt]
          rfl
        refine ⟨_,rfl,a,cl,ts++[t],es++[e],ps++[q],W+n,W,mrk W v,mrk W v (ps.length+1),rfl,h9,hC7.mono s9,hP8,by omega,by omega,fun i hi j hj=>?_,fun c H10 s10 hcc h10=>?_⟩
        · rw [elen] at hi
          have lowM:∀ p∈(ps++[q]).take i,p < W+n:=fun p hp=>Nat.lt_of_lt_of_le (hP8.low p (List.mem_of_mem_take hp)) (by omega)
          have ltk:((ps++[q]).take i).length≤16:=by rw [List.length_take,elen];omega
          exact ⟨clr_sz (by omega) lowM ltk (fun m hm j hj=>hUB m j (by omega) hj) (fun j hj=>hUB _ j (by omega) hj) hj,clr_sz (by omega) lowM ltk (fun m hm j hj=>hUB m j (by omega) hj) (fun j hj=>hUB _ j (by omega) hj) hj⟩
        · have acl:cl≠a:=ne_of_none hcl8 n9
          have ncl:cl≠c:=fun z=>by
            rcases hcc with y | y
            · rw [← z,s9 _ _ hcl8] at y
              cases y
            · exact acl (z.trans y)
          refine ⟨W - (ps++[q]).length,by rw [elen];omega,c,ts++[t],es++[e],ps++[q],y,rfl,rfl,s8.trans (s9.trans s10),(hC7.mono s9).mono s10,hP8,?_,?_,?_,ncl⟩
          · rw [elen] at h10 ⊢
            exact h10
          · intro z
            rcases List.mem_append.mp z with z | z
            · exact n1 z
            · exact ntcl (List.mem_singleton.mp z).symm
          · intro z
            rcases List.mem_append.mp z with z | z
            · exact n2 z
            · exact n3 (List.mem_singleton.mp z)
    · -- all is cleared
      have h0:∀ j,j < W→f j=0:=fun j hj=>Classical.byContradiction fun z=>hc (List.any_eq_true.mpr ⟨f j,List.mem_map.mpr ⟨j,List.mem_range.mpr hj,rfl⟩,decide_eq_true z⟩)
      obtain ⟨c,hLt,hcl3,d0,eown,eat⟩:=least_of hS hP (by rw [hf];exact h0)
      rw [hf] at eown eat
      refine ⟨_,rfl,_,rfl,cl,_,rfl,.inl (SqL.of hC'.top),_,_,rfl,rfl,?_⟩
      have eo:(W:Int)+(((ts.map V.ref).length:Nat):Int)=((W+ps.length:Nat):Int):=by rw [List.length_map,hC'.lt];omega
      refine ⟨_,rfl,_,rfl,_,rfl,_,rfl,_,rfl,e,_,rfl,SqL.of he',fun p2 hp2=>⟨p2,rfl,⟨_,SqL.of upd_same⟩,?_⟩⟩
      have ec:cutV ((ent (W+n) f).map V.int) (some (W:Int)) (some ((W:Int)+(((ts.map V.ref).length:Nat):Int)))=((List.range ps.length).map fun i=>f (W+i)).map V.int:=by
        rw [List.length_map,hC'.lt]
        exact cut_rg (by omega)
      rw [ec]
      have s2':=Same.add (o:=.lst (((List.range ps.length).map fun i=>f (W+i)).map V.int)) hp2
      have lowM:∀ p∈ps,p < W+n:=fun p hp=>Nat.lt_of_lt_of_le (hP.low p hp) (by omega)
      have hsz:∀ j,j < W+n→Sz (f j):=fun j hj=>by
        rw [← hf]
        exact clr_sz (by omega) lowM (by omega) (fun m hm j hj=>hUB m j (by omega) hj) (fun j hj=>hUB _ j (by omega) hj) hj
      have el:((((List.range ps.length).map fun i=>f (W+i)).map V.int)).length=ps.length:=by rw [List.length_map,List.length_map,List.length_range]
      generalize hd:det ps.reverse (rowsTo (mrk W v) ps.length)=d at d0 eown eat
      refine comp_allR (τ0:=[none,some (.ref e),some (.int ((W:Int)+(((ts.map V.ref).length:Nat):Int)))]) (sure_list (xs:=((List.range ps.length).map fun i=>f (W+i)).map V.int)) (by rw [el];omega)
        (fun i us τ Hx=>Hx=upd H6 p2 (.lst (((List.range ps.length).map fun i=>f (W+i)).map V.int))∧(∃ x,τ=[x,some (.ref e),some (.int ((W:Int)+(((ts.map V.ref).length:Nat):Int)))])∧us=(c.take i).map V.int) ⟨rfl,⟨_,rfl⟩,rfl⟩ ?_ ?_ ?_
      · rintro i us τ Hx hi ⟨rfl,_,rfl⟩
        refine ⟨SqL.of upd_same,?_⟩
        rw [List.length_map,List.length_take]
        omega
      · rintro i x us τ Hx hx ⟨rfl,⟨z,rfl⟩,rfl⟩
        have hi:i < ps.length:=by rw [← el];exact (List.getElem?_eq_some_iff.mp hx).1
        rw [List.getElem?_map,List.getElem?_map,List.getElem?_range hi] at hx
        cases hx
        obtain ⟨x,hx⟩:∃ x,c[i]? = some x:=⟨_,List.getElem?_eq_getElem (by omega)⟩
        have ex:=eat i x hx
        refine ⟨_,rfl,_,rfl,_,rfl,_,rfl,e,_,_,_,rfl,rfl,SqL.of (s2' _ _ he'),(by rw [eo];exact atI_nat (ent_at f (by omega))),_,_,rfl,rfl,?_,?_⟩
        · show CDivE (-(f (W+i))) (f (W+ps.length))
          rw [eown,ex]
          exact ⟨d0,⟨x,by grind⟩,8800,by decide,by rw [← eown];exact hsz _ (by omega)⟩
        · refine ⟨rfl,⟨_,rfl⟩,?_⟩
          have e9:V.int (-(f (W+i)) / f (W+ps.length))=V.int x:=by
            rw [eown,ex,show -(-x * d)=x * d by grind,Int.mul_ediv_cancel _ d0]
          rw [List.take_add_one,hx,List.map_append]
          show _++[V.int (-(f (W+i)) / f (W+ps.length))]=_
          rw [e9]
          rfl
      · rintro us τ Hx D ⟨rfl,_,rfl⟩ nD
        rw [el,List.take_of_length_le (show c.length≤ps.length by omega)]
        have sF:=s5'.trans s2'
        refine k D c _ (sF.trans (Same.add nD)) (sF.free nD) upd_same hLt fun x hx=>?_
        obtain ⟨i,hi⟩:=List.mem_iff_getElem?.mp hx
        have hil:i < ps.length:=by rw [← hcl3];exact (List.getElem?_eq_some_iff.mp hi).1
        have h1:=clr_bd (e:=eb) (i:=ps.length) (v:=mrk W v ps.length) (by omega) lowM (fun m hm j hj=>hUBe m j (by omega) hj) (fun j hj=>hUBe _ j (by omega) hj) (show W+i < W+n by omega)
        rw [hf,eat i x hi,Int.natAbs_mul,Int.natAbs_neg] at h1
        have h2:1≤d.natAbs:=by omega
        refine Nat.lt_of_le_of_lt (Nat.le_mul_of_pos_right _ h2) (Nat.lt_of_lt_of_le h1 (Nat.pow_le_pow_right (by decide) (Nat.mul_le_mul_left _ (by omega))))
end
end Lw
namespace Lw
open PySem L2
end Lw
namespace Lw
open PySem L2 PyProof.Rows
theorem tab_ent {H:Hp} {l:Addr} {ls:List Addr} {rs:List Rule} {first:List Nat} {m:Nat} (h:TabV H l ls ((List.range m).map (cntN rs.length (tabI rs) (c0 rs first)))):TabV H l ls ((List.range m).map fun a=>ent rs.length (cv rs first a)):=by
  have e:((List.range m).map fun a=>ent rs.length (cv rs first a))=(List.range m).map (cntN rs.length (tabI rs) (c0 rs first)):=List.map_congr_left fun a _=>cv_row rs first a
  rw [e]
  exact h
theorem cv_bd {rs:List Rule} {first:List Nat} (hG:Good first rs) (i j:Nat):(cv rs first i j).natAbs < 2 ^ (4+6 * i):=by
  have cb:=cntN_bd hG.few (col_sm fun r hr=>tabI_sm hG hr) (c0_len rs first) (c0_bd hG) i
  unfold cv
  rw [List.getD_eq_getElem?_getD]
  cases e:(cntN rs.length (tabI rs) (c0 rs first) i)[j]? with
  | none=>exact Nat.two_pow_pos _
  | some x=>exact cb.z x (List.mem_of_getElem? e)
abbrev OB:=Option (List Nat × List Rule)
def wo (rs:List Rule):OB→Nat
  | none=>rs.length
  | some b=>rs.length+b.2.length
def cvo (rs:List Rule) (first:List Nat):OB→Nat→Vc
  | none=>cv rs first
  | some b=>fun i j=>if j < rs.length then cv rs first i j else cv b.2 b.1 i (j - rs.length)
def BkO (H:Hp) (z:V) (o:OB):Prop:=(z=.non∧o=none)∨∃ t first rs,z=.ref t∧o=some (first,rs)∧BookAt H t first rs∧Good first rs
theorem BkO.mono {H H':Hp} {z:V} {o:OB} (h:BkO H z o) (s:Same H H'):BkO H' z o:=by
  rcases h with h | ⟨t,f,rs,h1,h2,h3,h4⟩
  · exact .inl h
  · exact .inr ⟨t,f,rs,h1,h2,h3.mono (TupS.same s),h4⟩
theorem cvo_shf (rs:List Rule) (first:List Nat):∀ o:OB,Shf (cvo rs first o) (wo rs o)
  | none=>cv_shf rs first
  | some b=>fun f h0 j hj=>by
    have lo:∀ (n j:Nat),j < rs.length→cmb (cvo rs first (some b)) f n j=cmb (cv rs first) f n j:=fun n j hj=>by
      rw [cmb_sq,cmb_sq]
      exact sq_congr fun i _ _=>if_pos hj
    have hi:∀ (n j:Nat),¬ j < rs.length→cmb (cvo rs first (some b)) f n j=cmb (cv b.2 b.1) f n (j - rs.length):=fun n j hj=>by
      rw [cmb_sq,cmb_sq]
      exact sq_congr fun i _ _=>if_neg hj
    have hj':j < rs.length+b.2.length:=hj
    by_cases h:j < rs.length
    · rw [lo 1 j h]
      exact cv_shf rs first f (fun m hm=>by rw [← lo 0 m hm];exact h0 m (show m < rs.length+b.2.length by omega)) j h
    · rw [hi 1 j h]
      refine cv_shf b.2 b.1 f (fun m hm=>?_) (j - rs.length) (by omega)
      have:=h0 (rs.length+m) (show rs.length+m < rs.length+b.2.length by omega)
      rw [hi 0 _ (by omega),Nat.add_sub_cancel_left] at this
      exact this
theorem cvo_row (rs:List Rule) (first:List Nat) (b:List Nat × List Rule) (n:Nat):ent (wo rs (some b)) (cvo rs first (some b) n)=cntN rs.length (tabI rs) (c0 rs first) n++cntN b.2.length (tabI b.2) (c0 b.2 b.1) n:=by
  show ent (rs.length+b.2.length) _=_
  rw [ent_add]
  congr 1
  · rw [← cv_row]
    exact ent_congr fun j hj=>if_pos hj
  · rw [← cv_row]
    refine ent_congr fun j _=>?_
    show (if rs.length+j < rs.length then _ else cv b.2 b.1 n (rs.length+j - rs.length))=_
    rw [if_neg (by omega),Nat.add_sub_cancel_left]
theorem cvo_bd {rs:List Rule} {first:List Nat} (hG:Good first rs) {o:OB} (ho:∀ b,o=some b→Good b.1 b.2) (i j:Nat):(cvo rs first o i j).natAbs < 2 ^ (4+6 * i):=by
  cases o with
  | none=>exact cv_bd hG i j
  | some b =>
    show (if j < rs.length then _ else _:Int).natAbs < _
    split
    · exact cv_bd hG i j
    · exact cv_bd (ho b rfl) i _
theorem cvo_swap {rs rs2:List Rule} {first first2:List Nat} (f:List Int):(∀ j,j < wo rs (some (first2,rs2))→cmb (cvo rs first (some (first2,rs2))) f 0 j=0) ↔ ((∀ j,j < rs.length→cmb (cv rs first) f 0 j=0)∧∀ j,j < rs2.length→cmb (cv rs2 first2) f 0 j=0):=by
  have lo:∀ (j:Nat),j < rs.length→cmb (cvo rs first (some (first2,rs2))) f 0 j=cmb (cv rs first) f 0 j:=fun j hj=>by
    rw [cmb_sq,cmb_sq]
    exact sq_congr fun i _ _=>if_pos hj
  have hi:∀ (j:Nat),¬ j < rs.length→cmb (cvo rs first (some (first2,rs2))) f 0 j=cmb (cv rs2 first2) f 0 (j - rs.length):=fun j hj=>by
    rw [cmb_sq,cmb_sq]
    exact sq_congr fun i _ _=>if_neg hj
  constructor
  · intro h
    refine ⟨fun j hj=>by rw [← lo j hj];exact h j (show j < rs.length+rs2.length by omega),fun j hj=>?_⟩
    have:=h (rs.length+j) (show rs.length+j < rs.length+rs2.length by omega)
    rwa [hi _ (by omega),Nat.add_sub_cancel_left] at this
  · rintro ⟨h1,h2⟩ j hj
    have hj':j < rs.length+rs2.length:=hj
    by_cases h:j < rs.length
    · rw [lo j h];exact h1 j h
    · rw [hi j h];exact h2 _ (by omega)
section
variable {P:Program} {w:World} {K:PySem.W.Frag} {mg:Str→Option Value} {base:Heap}
def spCob:Sp:=fun vs H Q _=>∃ (t:Addr) (z:V) (o:OB) (first:List Nat) (rs:List Rule) (m:Nat),vs=[.ref t,z,.int (m:Int)]∧BookAt H t first rs∧Good first rs∧BkO H z o∧m≤20 ∧
  ∀ d ms H',Same H H'→H d=none→TabV H' d ms ((List.range m).map fun a=>ent (wo rs o) (cvo rs first o a))→Q (.ref d) H'
theorem scCob:FnScope ["one","other","many"] ["one","other","many"] (defScope sCob):=⟨rfl,rfl,rfl,by decide +kernel,rfl,by decide +kernel,by decide +kernel⟩
theorem nd_cob1:(["mine","yours"]:List Str).Nodup:=by decide +kernel
theorem ok_cob {f fFcs:Addr} {fd fdFcs:FuncData} (F:Fun K "counts_of_both" "counts_of_both" sCob f fd)
    (GFcs:FnOk P w K mg base CX0 5 fFcs fdFcs ["book","many"] spFcs)
    (gFcs:Gf K mg "first_counts" fFcs fdFcs ["book","many"])
    (hzip:mg "zip" = none)
    : FnOk P w K mg base CX0 6 f fd ["one","other","many"] spCob:=by
  refine F.ok scCob (fun vs H Q E h=>?_) (fun cdv A outer s H vs Q E hr h=>?_)
  · obtain ⟨t,z,o,first,rs,m,rfl,_⟩:=h
    rfl
  · obtain ⟨t,z,o,first,rs,m,rfl,hB,hG,hO,hm,k⟩:=h
    refine ⟨_,(pss_cons (ps_if (pt_cmpR op_isN (pv 1) pe_non (nomark _)) (pss_one (ps_ret (pe_call GFcs hr rfl gFcs.m gFcs.k gFcs.b .nil pass0 (pa_cons (pv 0) (pa_cons (pv 2) pa_nil))))) pss_nil)
      (pss_one (ps_ret (pe_comp (N':=["mine","yours"]) (ix:=[none,none]) rfl rfl (pi_zipK K rfl hzip (pa_cons (pe_call GFcs hr rfl gFcs.m gFcs.k gFcs.b .nil pass0 (pa_cons (pv 0) (pa_cons (pv 2) pa_nil))) (pa_cons (pe_call GFcs hr rfl gFcs.m gFcs.k gFcs.b .nil pass0 (pa_cons (pv 1) (pa_cons (pv 2) pa_nil))) pa_nil))) (fun _ _ _ _ _ _=>(pg_tupK K (n:=2) rfl (pgs_cons (pg_name (i:=0) nd_cob1 rfl (Or.inl rfl)) (pgs_cons (pg_name (i:=1) nd_cob1 rfl (Or.inl rfl)) pgs_nil)))) (fun _ _ _ _ _ _=>pts_nil) (fun _ _ _ _ _ _=>(pe_op op_cat (pv 0) (pv 1))))))),?_⟩
    rcases hO with ⟨rfl,rfl⟩ | ⟨t2,f2,rs2,rfl,rfl,hB2,hG2⟩
    · refine ⟨_,rfl,rfl,_,rfl,iteT ?_⟩
      exact ⟨_,rfl,_,rfl,t,first,rs,m,rfl,hB,hG,by omega,fun d ms H' s' nd _ hT=>k d ms H' s' nd (tab_ent hT)⟩
    · refine ⟨_,rfl,rfl,_,rfl,?_⟩
      rw [show (decide (V.ref t2=V.non))=false from decide_eq_false fun z=>by cases z]
      refine iteF ?_
      refine ⟨_,rfl,_,rfl,t,first,rs,m,rfl,hB,hG,by omega,fun d1 ms1 H1 s1 n1 _ hT1=>?_⟩
      refine ⟨_,rfl,_,rfl,t2,f2,rs2,m,rfl,hB2.mono (TupS.same s1),hG2,by omega,fun d2 ms2 H2 s2 n2 _ hT2=>?_⟩
      have hT1':=hT1.mono s2
      have l1:ms1.length=m:=by rw [hT1.len,List.length_map,List.length_range]
      have l2:ms2.length=m:=by rw [hT2.len,List.length_map,List.length_range]
      have hf1:=hG.few
      have hf2:=hG2.few
      refine ⟨d1,d2,rfl,⟨_,SqL.of hT1'.top⟩,⟨_,SqL.of hT2.top⟩,?_⟩
      have el:(((ms1.map V.ref).zip (ms2.map V.ref)).map fun q=>[q.1,q.2]).length=m:=by simp [l1,l2]
      refine comp_all2 (Q:=Q) (τ0:=[none,none]) (sure_zip (xs:=ms1.map V.ref) (ys:=ms2.map V.ref)) (by rw [el];omega)
        (fun i us τ Hx=>Same H2 Hx∧(∃ x y,τ=[x,y])∧∃ ls:List Addr,us=ls.map V.ref∧ls.length=i∧∀ (j:Nat) a,ls[j]? = some a→Hx a=some (.lst ((cntN rs.length (tabI rs) (c0 rs first) j++cntN rs2.length (tabI rs2) (c0 rs2 f2) j).map V.int))) ⟨Same.refl _,⟨_,_,rfl⟩,[],rfl,rfl,fun j a h=>by simp at h⟩ ?_ ?_ ?_
      · rintro i us τ Hx hi ⟨sx,_,ls,rfl,hl,_⟩
        exact ⟨⟨SqL.of (sx _ _ hT1'.top),SqL.of (sx _ _ hT2.top)⟩,by rw [List.length_map,hl];exact Nat.le_refl _⟩
      · rintro i zs us τ Hx T hz ⟨sx,⟨x,y,rfl⟩,ls,rfl,hl,hat⟩ hT
        have hi:i < m:=by rw [← el];exact (List.getElem?_eq_some_iff.mp hz).1
        obtain ⟨a1,ha1,hb1⟩:=hT1'.get (i:=i) (v:=cntN rs.length (tabI rs) (c0 rs first) i) (by rw [List.getElem?_map,List.getElem?_range hi];rfl)
        obtain ⟨a2,ha2,hb2⟩:=hT2.get (i:=i) (v:=cntN rs2.length (tabI rs2) (c0 rs2 f2) i) (by rw [List.getElem?_map,List.getElem?_range hi];rfl)
        have ez:((ms1.map V.ref).zip (ms2.map V.ref))[i]? = some (V.ref a1,V.ref a2):=List.getElem?_zip_eq_some.mpr ⟨by rw [List.getElem?_map,ha1];rfl,by rw [List.getElem?_map,ha2];rfl⟩
        rw [List.getElem?_map,ez] at hz
        cases hz
        have sT:=sx.trans (Same.add (o:=.tup [V.ref a1,V.ref a2]) hT)
        refine ⟨T,_,rfl,SqT.of upd_same,rfl,_,_,rfl,_,_,rfl,rfl,?_⟩
        refine ⟨_,rfl,_,rfl,a1,a2,_,_,rfl,rfl,sT _ _ hb1,sT _ _ hb2,?_,fun p hp=>?_⟩
        · rw [List.length_map,List.length_map,cntN_len (c0_len rs first) i,cntN_len (c0_len rs2 f2) i]
          exact Nat.le_of_lt (small1000 (by omega))
        · have sp:=Same.add (o:=.lst ((cntN rs.length (tabI rs) (c0 rs first) i).map V.int++(cntN rs2.length (tabI rs2) (c0 rs2 f2) i).map V.int)) hp
          refine ⟨sT.trans sp,⟨_,_,rfl⟩,ls++[p],by rw [List.map_append];rfl,by rw [List.length_append,hl];rfl,fun j a hj=>?_⟩
          by_cases h:j < i
          · rw [List.getElem?_append_left (by omega)] at hj
            exact sp _ _ (Same.add hT _ _ (hat j a hj))
          · have e:j=ls.length:=by
              have:=(List.getElem?_eq_some_iff.mp hj).1
              rw [List.length_append,List.length_singleton] at this
              omega
            subst e
            rw [List.getElem?_concat_length] at hj
            cases hj
            rw [upd_same,hl,List.map_append]
      · rintro us τ Hx D ⟨sx,_,ls,rfl,hl,hat⟩ nD
        rw [el] at hl
        have sD:=Same.add (o:=.lst (ls.map V.ref)) nD
        refine k D ls _ (s1.trans (s2.trans (sx.trans sD))) ((s1.trans (s2.trans sx)).free nD) ⟨upd_same,by rw [List.length_map,List.length_range,hl],fun i a v e1 e2=>?_⟩
        have hi:i < m:=by rw [← hl];exact (List.getElem?_eq_some_iff.mp e1).1
        rw [List.getElem?_map,List.getElem?_range hi] at e2
        rw [← Option.some.inj e2]
        show _=some (HO.lst ((ent (wo rs (some (f2,rs2))) (cvo rs first (some (f2,rs2)) i)).map V.int))
        rw [cvo_row]
        exact sD _ _ (hat i a e1)
def spTie:Sp:=fun vs H Q _=>∃ (t:Addr) (z:V) (o:OB) (first:List Nat) (rs:List Rule),vs=[.ref t,z]∧BookAt H t first rs∧Good first rs∧BkO H z o ∧
  ∀ d c H',Same H H'→H d=none→H' d=some (.lst (c.map V.int))→Lt (cvo rs first o) (wo rs o) c→Bz 4000 c→Q (.ref d) H'
theorem scTie:FnScope ["one","other","most"] ["one","other"] (defScope sTie):=⟨rfl,rfl,rfl,by decide +kernel,rfl,by decide +kernel,by decide +kernel⟩
theorem ok_tie {f fLea fCob:Addr} {fd fdLea fdCob:FuncData} (F:FunD K "tie" "tie" sTie f fd)
    (GLea:FnOk P w K mg base CX0 3 fLea fdLea ["lines"] spLea)
    (gLea:Gf K mg "least_tie" fLea fdLea ["lines"])
    (GCob:FnOk P w K mg base CX0 6 fCob fdCob ["one","other","many"] spCob)
    (gCob:Gf K mg "counts_of_both" fCob fdCob ["one","other","many"])
    (hlen:mg "len" = none)
    : FnOk P w K mg base CX0 7 f fd ["one","other"] spTie:=by
  refine F.ok scTie (fun vs H Q E h=>?_) (fun cdv A outer s H vs Q E hr h=>?_)
  · obtain ⟨t,z,o,first,rs,rfl,_⟩:=h
    rfl
  · obtain ⟨t,z,o,first,rs,rfl,hB,hG,hO,k⟩:=h
    have hr3:Room 3 _:=hr.mono (by decide)
    refine ⟨_,(pss_cons (ps_set (i:=2) scTie.nd rfl (Or.inl rfl) (pe_op op_add (pe_callB (call_lenK K) (by rfl) hlen PySem.boot_len (pa_cons (pe_ix (ix_tupK K) (pv 0) pe_int (fun _ _=>rfl)) pa_nil)) (pe_ifExp (pt_cmpR op_isN (pv 1) pe_non (nomark _)) pe_int (pe_callB (call_lenK K) (by rfl) hlen PySem.boot_len (pa_cons (pe_ix (ix_tupK K) (pv 1) pe_int (fun _ _=>rfl)) pa_nil)))))
      (pss_one (ps_ret (pe_call GLea hr3 rfl gLea.m gLea.k gLea.b .nil pass0 (pa_cons (pe_call GCob hr rfl gCob.m gCob.k gCob.b .nil pass0 (pa_cons (pv 0) (pa_cons (pv 1) (pa_cons (pe_op op_add (pv 2) pe_int) pa_nil)))) pa_nil))))),?_⟩
    obtain ⟨r,ps,b1,b2,b3⟩:=hB.ex
    have el:(ps.map V.ref).length=rs.length:=by rw [List.length_map,b3.len]
    have hfew:=hG.few
    have ho:∀ b,o=some b→Good b.1 b.2:=fun b hb=>by
      rcases hO with ⟨_,e⟩ | ⟨t2,f2,rs2,_,e,_,hG2⟩
      · rw [e] at hb;cases hb
      · rw [e] at hb;cases hb;exact hG2
    have hwo:wo rs o≤16:=by
      cases o with
      | none=>show rs.length≤16;omega
      | some b=>have:=(ho b rfl).few;show rs.length+b.2.length≤16;omega
    have tail:tRet (tCall spLea [] E0 (tCons (tCall spCob [] E0 (tCons (tVar 0) (tCons (tVar 1) (tCons (tOp (rI0 fun i j=>V.int (i+j)) (tVar 2) (tC (V.int 1))) tNil)))) tNil)) { nx:=fun x H'=>Q V.non H',rt:=Q } [some (.ref t),some z,some (.int ((wo rs o:Nat):Int))] H:=by
      refine ⟨_,rfl,_,rfl,_,rfl,_,_,rfl,rfl,t,z,o,first,rs,wo rs o+1,by push_cast;rfl,hB,hG,hO,by omega,fun d0 ms H1 s1 n1 hT=>?_⟩
      refine ⟨d0,ms,cvo rs first o,wo rs o+1,wo rs o,100,rfl,hT,by omega,by omega,cvo_shf rs first o,by decide,fun i j hi hj=>?_,fun d c H' s' nd hd hLt hb=>?_⟩
      · exact Nat.le_of_lt (Nat.lt_of_lt_of_le (cvo_bd hG ho i j) (Nat.pow_le_pow_right (by decide) (by omega)))
      · refine k d c H' (s1.trans s') (s1.free nd) hd hLt fun x hx=>Nat.lt_of_lt_of_le (hb x hx) (Nat.pow_le_pow_right (by decide) ?_)
        have:(100+5) * (wo rs o+1)≤105 * 17:=Nat.mul_le_mul_left _ (by omega)
        omega
    have key:∀ n:Int,n=((wo rs o:Nat):Int)→tRet (tCall spLea [] E0 (tCons (tCall spCob [] E0 (tCons (tVar 0) (tCons (tVar 1) (tCons (tOp (rI0 fun i j=>V.int (i+j)) (tVar 2) (tC (V.int 1))) tNil)))) tNil)) { nx:=fun x H'=>Q V.non H',rt:=Q } [some (.ref t),some z,some (.int n)] H:=by
      rintro _ rfl
      exact tail
    refine ⟨_,rfl,t,_,_,_,rfl,rfl,SqT.of b1,atI_nat (j:=1) rfl,r,_,rfl,.inr (SqT.of b2),?_⟩
    rw [el]
    rcases hO with ⟨rfl,rfl⟩ | ⟨t2,f2,rs2,rfl,rfl,hB2,hG2⟩
    · refine ⟨_,rfl,rfl,_,rfl,iteT ⟨_,_,rfl,rfl,?_⟩⟩
      exact key ((rs.length:Int)+0) (Int.add_zero _)
    · obtain ⟨r',ps',c1,c2,c3⟩:=hB2.ex
      have el':(ps'.map V.ref).length=rs2.length:=by rw [List.length_map,c3.len]
      refine ⟨_,rfl,rfl,_,rfl,?_⟩
      rw [show (decide (V.ref t2=V.non))=false from decide_eq_false fun z=>by cases z]
      refine iteF ⟨_,rfl,t2,_,_,_,rfl,rfl,SqT.of c1,atI_nat (j:=1) rfl,r',_,rfl,.inr (SqT.of c2),_,_,rfl,rfl,?_⟩
      exact key ((rs.length:Int)+(((ps'.map V.ref).length:Nat):Int)) (by rw [el'];rfl)
end
end Lw
namespace Lw
open PySem L2 PyProof.Rows
section
variable {P:Program} {w:World} {K:PySem.W.Frag} {mg:Str→Option Value} {base:Heap}
def unl:List Int→List Int→Nat→Option Nat
  | x :: xs,y :: ys,n=>if x=y then unl xs ys (n+1) else some n
  | _,_,_=>none
def spFun:Sp:=fun vs H Q _=>∃ (a b:Addr) (xs ys:List Int),vs=[.ref a,.ref b]∧H a=some (.lst (xs.map V.int))∧H b=some (.lst (ys.map V.int))∧ys.length=xs.length∧xs.length≤1000 ∧
  ∀ H',Same H H'→Q (match unl xs ys 0 with | some n=>.int (n:Int) | none=>.non) H'
theorem scFun:FnScope ["ones","others","place","pair"] ["ones","others"] (defScope sFun):=⟨rfl,rfl,rfl,by decide +kernel,rfl,by decide +kernel,by decide +kernel⟩
theorem ok_fun {f:Addr} {fd:FuncData} (F:Fun K "first_unlike" "first_unlike" sFun f fd)
    (hzip:mg "zip" = none)
    (henumerate:mg "enumerate" = none)
    : FnOk P w K mg base CX0 1 f fd ["ones","others"] spFun:=by
  refine F.ok scFun (fun vs H Q E h=>?_) (fun cdv A outer s H vs Q E hr h=>?_)
  · obtain ⟨a,b,xs,ys,rfl,_⟩:=h
    rfl
  · obtain ⟨a,b,xs,ys,rfl,ha,hb,hl,h1000,k⟩:=h
    refine ⟨_,(pss_cons (ps_for PassesOwn.never rfl (pi_enumZipL K rfl henumerate rfl hzip (pa_cons (pv 0) (pa_cons (pv 1) pa_nil))) (pg_tupK K (n:=2) rfl (pgs_cons (pg_name (i:=2) scFun.nd rfl (Or.inl rfl)) (pgs_cons (pg_name (i:=3) scFun.nd rfl (Or.inl rfl)) pgs_nil))) (pss_one (ps_if (pt_cmpR op_ne (pe_ix (ix_tupK K) (pv 3) pe_int (fun _ _=>rfl)) (pe_ix (ix_tupK K) (pv 3) pe_int (fun _ _=>rfl)) (nomark _)) (pss_one (ps_ret (pv 2))) pss_nil)))
      (pss_one (ps_ret pe_non))),?_⟩
    have hmin:min (xs.map V.int).length (ys.map V.int).length=xs.length:=by rw [List.length_map,List.length_map];omega
    refine ⟨_,rfl,_,rfl,a,b,rfl,⟨_,SqL.of ha⟩,⟨_,SqL.of hb⟩,?_⟩
    refine for_byL (xs:=xs.map V.int) (ys:=ys.map V.int) (fun i σ Hx=>Same H Hx∧(∃ y2 y3,σ=[some (.ref a),some (.ref b),y2,y3])∧unl xs ys 0=unl (xs.drop i) (ys.drop i) i) ⟨Same.refl _,⟨none,none,rfl⟩,rfl⟩
      (fun i σ Hx _ h=>⟨SqL.of (h.1 _ _ ha),SqL.of (h.1 _ _ hb)⟩) ?_ ?_
    · rintro i x y σ Hx T O e1 e2 ⟨sx,⟨y2,y3,rfl⟩,hu⟩ nT nO nTO
      rw [List.getElem?_map] at e1 e2
      cases f1:xs[i]? with
      | none=>rw [f1] at e1;cases e1
      | some p =>
        cases f2:ys[i]? with
        | none=>rw [f2] at e2;cases e2
        | some q =>
          rw [f1] at e1
          rw [f2] at e2
          cases e1
          cases e2
          have nO':upd Hx T (.tup [V.int p,V.int q]) O=none:=by rw [upd_ne nTO.symm];exact nO
          have sO:=(Same.add (o:=.tup [V.int p,V.int q]) nT).trans (Same.add (o:=.tup [.int (i:Nat),.ref T]) nO')
          have hT:(upd (upd Hx T (.tup [V.int p,V.int q])) O (.tup [.int (i:Nat),.ref T])) T=some (.tup [V.int p,V.int q]):=upd_in upd_same nTO
          have d1:xs.drop i=p :: xs.drop (i+1):=List.drop_eq_getElem?_toList_append.trans (by rw [f1];rfl)
          have d2:ys.drop i=q :: ys.drop (i+1):=List.drop_eq_getElem?_toList_append.trans (by rw [f2];rfl)
          rw [d1,d2] at hu
          refine ⟨O,_,rfl,SqT.of upd_same,rfl,_,_,rfl,_,_,rfl,rfl,?_⟩
          refine ⟨_,rfl,T,_,_,V.int p,rfl,rfl,SqT.of hT,atI_nat (j:=0) rfl,_,rfl,T,_,_,V.int q,rfl,rfl,SqT.of hT,atI_nat (j:=1) rfl,rfl,_,rfl,?_⟩
          by_cases h:p=q
          · rw [show (!decide (V.int p=V.int q))=false from by rw [decide_eq_true (by rw [h])];rfl]
            refine iteF ⟨sx.trans sO,⟨_,_,rfl⟩,?_⟩
            rw [hu]
            show (if p=q then _ else _)=_
            rw [if_pos h]
          · rw [show (!decide (V.int p=V.int q))=true from by rw [decide_eq_false fun z=>h (V.int.inj z)];rfl]
            refine iteT ⟨_,rfl,?_⟩
            have e:unl xs ys 0=some i:=by
              rw [hu]
              show (if p=q then _ else _)=_
              rw [if_neg h]
            rw [e] at k
            exact k _ (sx.trans sO)
    · rintro σ Hx ⟨sx,⟨y2,y3,rfl⟩,hu⟩
      rw [hmin,List.drop_length] at hu
      have e:unl xs ys 0=none:=hu
      rw [e] at k
      exact k _ sx
end
end Lw
namespace Lw
open PySem L2 PyProof.Rows
def lenC (rs:List Rule) (x:List Nat):Nat→Int:=fun n=>(cntN rs.length (tabI rs) (c0 rs x) n).sum
def ToldA (H H':Hp) (d:Addr) (u:Nat→Vc) (W:Nat):Option Nat→Prop
  | some n=>H' d=some (.tup [V.str (Str.ofString "part"),.int (n:Int)])
  | none=>∃ (e:Addr) (c:List Int),H' d=some (.tup [V.str (Str.ofString "alike"),.ref e])∧H e=none∧H' e=some (.lst (c.map V.int))∧Lt u W c∧Bz 4000 c
section
variable {P:Program} {w:World} {K:PySem.W.Frag} {mg:Str→Option Value} {base:Heap}
def spFls:Sp:=fun vs H Q _=>∃ (t:Addr) (first:List Nat) (rs:List Rule) (m:Nat),vs=[.ref t,.int (m:Int)]∧BookAt H t first rs∧Good first rs∧m≤700 ∧
  ∀ d H',Same H H'→H d=none→H' d=some (.lst (((List.range m).map (lenC rs first)).map V.int))→Q (.ref d) H'
theorem scFls:FnScope ["book","many"] ["book","many"] (defScope sFls):=⟨rfl,rfl,rfl,by decide +kernel,rfl,by decide +kernel,by decide +kernel⟩
theorem nd_fls1:(["line"]:List Str).Nodup:=by decide +kernel
theorem ok_fls {f fFcs:Addr} {fd fdFcs:FuncData} (F:Fun K "first_lengths" "first_lengths" sFls f fd)
    (GFcs:FnOk P w K mg base CX0 5 fFcs fdFcs ["book","many"] spFcs)
    (gFcs:Gf K mg "first_counts" fFcs fdFcs ["book","many"])
    (hsum:mg "sum" = none)
    : FnOk P w K mg base CX0 6 f fd ["book","many"] spFls:=by
  refine F.ok scFls (fun vs H Q E h=>?_) (fun cdv A outer s H vs Q E hr h=>?_)
  · obtain ⟨t,first,rs,m,rfl,_⟩:=h
    rfl
  · obtain ⟨t,first,rs,m,rfl,hB,hG,hm,k⟩:=h
    refine ⟨_,(pss_one (ps_ret (pe_comp (N':=["line"]) (ix:=[none]) rfl rfl (pi_listK K (pe_call GFcs hr rfl gFcs.m gFcs.k gFcs.b .nil pass0 (pa_cons (pv 0) (pa_cons (pv 1) pa_nil)))) (fun _ _ _ _ _ _=>(pg_name (i:=0) nd_fls1 rfl (Or.inl rfl))) (fun _ _ _ _ _ _=>pts_nil) (fun _ _ _ _ _ _=>(pe_callB (call_sumK2 K rfl) (by rfl) hsum (by first | exact PySem.boot_sum | decide +kernel) (pa_cons (pv 0) pa_nil)))))),?_⟩
    refine ⟨_,rfl,_,rfl,t,first,rs,m,rfl,hB,hG,hm,fun d ms H1 s1 n1 hfr hT=>⟨d,rfl,⟨_,SqL.of hT.top⟩,?_⟩⟩
    have el:(ms.map V.ref).length=m:=by rw [List.length_map,hT.len,List.length_map,List.length_range]
    refine comp_allR (τ0:=[none]) (sure_list (xs:=ms.map V.ref)) (by rw [el];omega)
      (fun j zs τ H6=>H6=H1∧(∃ v,τ=[v])∧zs=(((List.range m).take j).map (lenC rs first)).map V.int) ⟨rfl,⟨_,rfl⟩,rfl⟩ ?_ ?_ ?_
    · rintro j zs τ H6 hj ⟨rfl,_,rfl⟩
      refine ⟨SqL.of hT.top,?_⟩
      rw [List.length_map,List.length_map,List.length_take,List.length_range]
      omega
    · rintro j x zs τ H6 hx2 ⟨rfl,⟨v,rfl⟩,rfl⟩
      rw [List.getElem?_map] at hx2
      cases c1:ms[j]? with
      | none=>rw [c1] at hx2;cases hx2
      | some b =>
        rw [c1] at hx2
        cases hx2
        obtain ⟨r,c2,hb⟩:=hT.get' c1
        have hj:j < m:=by
          have:=(List.getElem?_eq_some_iff.mp c1).1
          rw [List.length_map] at el
          omega
        have er:r=cntN rs.length (tabI rs) (c0 rs first) j:=by
          rw [List.getElem?_map,List.getElem?_range hj] at c2
          exact (Option.some.inj c2).symm
        refine ⟨_,rfl,b,_,rfl,SqL.of hb,rfl,⟨_,rfl⟩,?_⟩
        rw [take_snoc (lenC rs first) (List.getElem?_range hj),List.map_append,er]
        rfl
    · rintro zs τ H6 D ⟨rfl,_,rfl⟩ hD
      rw [el,show (List.range m).take m=List.range m from List.take_of_length_le (by rw [List.length_range];omega)]
      exact k D _ (s1.trans (Same.add hD)) (s1.free hD) upd_same
def spSta:Sp:=fun vs H Q _=>∃ (t1 t2:Addr) (x1 x2:List Nat) (rs1 rs2:List Rule),vs=[.ref t1,.ref t2]∧BookAt H t1 x1 rs1∧BookAt H t2 x2 rs2∧Q (.int ((rs1.length:Int)+(rs2.length:Int))) H
theorem scSta:FnScope ["one","other"] ["one","other"] (defScope sSta):=⟨rfl,rfl,rfl,by decide +kernel,rfl,by decide +kernel,by decide +kernel⟩
theorem ok_sta {f:Addr} {fd:FuncData} (F:Fun K "settling_ages" "settling_ages" sSta f fd)
    (hlen:mg "len" = none)
    : FnOk P w K mg base CX0 1 f fd ["one","other"] spSta:=by
  refine F.ok scSta (fun vs H Q E h=>?_) (fun cdv A outer s H vs Q E hr h=>?_)
  · obtain ⟨t1,t2,x1,x2,rs1,rs2,rfl,_⟩:=h
    rfl
  · obtain ⟨t1,t2,x1,x2,rs1,rs2,rfl,h1,h2,k⟩:=h
    refine ⟨_,(pss_one (ps_ret (pe_op op_add (pe_callB (call_lenK K) (by rfl) hlen PySem.boot_len (pa_cons (pe_ix (ix_tupK K) (pv 0) pe_int (fun _ _=>rfl)) pa_nil)) (pe_callB (call_lenK K) (by rfl) hlen PySem.boot_len (pa_cons (pe_ix (ix_tupK K) (pv 1) pe_int (fun _ _=>rfl)) pa_nil))))),?_⟩
    obtain ⟨r1,ps1,a1,a2,a3⟩:=h1.ex
    obtain ⟨r2,ps2,b1,b2,b3⟩:=h2.ex
    refine ⟨_,rfl,t1,_,_,_,rfl,rfl,SqT.of a1,atI_nat (j:=1) rfl,r1,_,rfl,.inr (SqT.of a2),_,rfl,t2,_,_,_,rfl,rfl,SqT.of b1,atI_nat (j:=1) rfl,r2,_,rfl,.inr (SqT.of b2),_,_,rfl,rfl,?_⟩
    rw [List.length_map,List.length_map,a3.len,b3.len]
    exact k
def spToa:Sp:=fun vs H Q _=>∃ (t1 t2 a b:Addr) (f1 f2:List Nat) (rs1 rs2:List Rule) (xs ys:List Int),vs=[.ref t1,.ref t2,.ref a,.ref b]∧BookAt H t1 f1 rs1∧Good f1 rs1∧BookAt H t2 f2 rs2∧Good f2 rs2∧H a=some (.lst (xs.map V.int))∧H b=some (.lst (ys.map V.int))∧ys.length=xs.length∧xs.length≤1000 ∧
  ∀ d H',Same H H'→H d=none→ToldA H H' d (cvo rs1 f1 (some (f2,rs2))) (wo rs1 (some (f2,rs2))) (unl xs ys 0)→Q (.ref d) H'
theorem scToa:FnScope ["one","other","ones","others","age"] ["one","other","ones","others"] (defScope sToa):=⟨rfl,rfl,rfl,by decide +kernel,rfl,by decide +kernel,by decide +kernel⟩
theorem ok_toa {f fFun fTie:Addr} {fd fdFun fdTie:FuncData} (F:Fun K "told_alike" "told_alike" sToa f fd)
    (GFun:FnOk P w K mg base CX0 1 fFun fdFun ["ones","others"] spFun)
    (gFun:Gf K mg "first_unlike" fFun fdFun ["ones","others"])
    (GTie:FnOk P w K mg base CX0 7 fTie fdTie ["one","other"] spTie)
    (gTie:Gf K mg "tie" fTie fdTie ["one","other"])
    : FnOk P w K mg base CX0 8 f fd ["one","other","ones","others"] spToa:=by
  refine F.ok scToa (fun vs H Q E h=>?_) (fun cdv A outer s H vs Q E hr h=>?_)
  · obtain ⟨t1,t2,a,b,f1,f2,rs1,rs2,xs,ys,rfl,_⟩:=h
    rfl
  · obtain ⟨t1,t2,a,b,f1,f2,rs1,rs2,xs,ys,rfl,hB1,hG1,hB2,hG2,ha,hb,hl,h1000,k⟩:=h
    have hr1:Room 1 _:=hr.mono (by decide)
    refine ⟨_,(pss_cons (ps_set (i:=4) scToa.nd rfl (Or.inl rfl) (pe_call GFun hr1 rfl gFun.m gFun.k gFun.b .nil pass0 (pa_cons (pv 2) (pa_cons (pv 3) pa_nil))))
      (pss_one (ps_ret (pe_ifExp (pt_cmpR op_isN (pv 4) pe_non (nomark _)) (pe_tup (pa_cons pe_str (pa_cons (pe_call GTie hr rfl gTie.m gTie.k gTie.b .nil pass0 (pa_cons (pv 0) (pa_cons (pv 1) pa_nil))) pa_nil))) (pe_tup (pa_cons pe_str (pa_cons (pv 4) pa_nil))))))),?_⟩
    refine ⟨_,rfl,_,rfl,a,b,xs,ys,rfl,ha,hb,hl,h1000,fun H1 s1=>?_⟩
    have hB1':=hB1.mono (TupS.same s1)
    have hB2':=hB2.mono (TupS.same s1)
    cases hu:unl xs ys 0 with
    | none =>
      rw [hu] at k
      refine ⟨_,rfl,rfl,_,rfl,iteT ?_⟩
      refine ⟨_,rfl,_,rfl,t1,.ref t2,some (f2,rs2),f1,rs1,rfl,hB1',hG1,.inr ⟨t2,f2,rs2,rfl,rfl,hB2',hG2⟩,fun e c H2 s2 n2 h2 hLt hcb=>⟨(by show 2≤sizeLine;decide),fun d nd=>?_⟩⟩
      have sd:=Same.add (o:=.tup [V.str (Str.ofString "alike"),.ref e]) nd
      have s12:=s1.trans s2
      exact k d _ (s12.trans sd) (s12.free nd) ⟨e,c,upd_same,s1.free n2,sd _ _ h2,hLt,hcb⟩
    | some n =>
      rw [hu] at k
      refine ⟨_,rfl,rfl,_,rfl,?_⟩
      rw [show (decide (V.int (n:Int)=V.non))=false from decide_eq_false fun z=>by cases z]
      refine iteF ⟨_,rfl,(by show 2≤sizeLine;decide),fun d nd=>?_⟩
      exact k d _ (s1.trans (Same.add nd)) (s1.free nd) upd_same
def spLe2:Sp:=fun vs H Q _=>∃ (t1 t2:Addr) (f1 f2:List Nat) (rs1 rs2:List Rule),vs=[.ref t1,.ref t2]∧BookAt H t1 f1 rs1∧Good f1 rs1∧BookAt H t2 f2 rs2∧Good f2 rs2 ∧
  ∀ d H',Same H H'→H d=none→ToldA H H' d (cvo rs1 f1 (some (f2,rs2))) (wo rs1 (some (f2,rs2))) (unl ((List.range (rs1.length+rs2.length)).map (lenC rs1 f1)) ((List.range (rs1.length+rs2.length)).map (lenC rs2 f2)) 0)→Q (.ref d) H'
theorem scLe2:FnScope ["one","other","ages"] ["one","other"] (defScope sLe2):=⟨rfl,rfl,rfl,by decide +kernel,rfl,by decide +kernel,by decide +kernel⟩
theorem ok_le2 {f fSta fToa fFls:Addr} {fd fdSta fdToa fdFls:FuncData} (F:Fun K "lengths_alike" "lengths_alike" sLe2 f fd)
    (GSta:FnOk P w K mg base CX0 1 fSta fdSta ["one","other"] spSta)
    (gSta:Gf K mg "settling_ages" fSta fdSta ["one","other"])
    (GToa:FnOk P w K mg base CX0 8 fToa fdToa ["one","other","ones","others"] spToa)
    (gToa:Gf K mg "told_alike" fToa fdToa ["one","other","ones","others"])
    (GFls:FnOk P w K mg base CX0 6 fFls fdFls ["book","many"] spFls)
    (gFls:Gf K mg "first_lengths" fFls fdFls ["book","many"])
    : FnOk P w K mg base CX0 9 f fd ["one","other"] spLe2:=by
  refine F.ok scLe2 (fun vs H Q E h=>?_) (fun cdv A outer s H vs Q E hr h=>?_)
  · obtain ⟨t1,t2,f1,f2,rs1,rs2,rfl,_⟩:=h
    rfl
  · obtain ⟨t1,t2,f1,f2,rs1,rs2,rfl,hB1,hG1,hB2,hG2,k⟩:=h
    have hr1:Room 1 _:=hr.mono (by decide)
    have hr6:Room 6 _:=hr.mono (by decide)
    refine ⟨_,(pss_cons (ps_set (i:=2) scLe2.nd rfl (Or.inl rfl) (pe_call GSta hr1 rfl gSta.m gSta.k gSta.b .nil pass0 (pa_cons (pv 0) (pa_cons (pv 1) pa_nil))))
      (pss_one (ps_ret (pe_call GToa hr rfl gToa.m gToa.k gToa.b .nil pass0 (pa_cons (pv 0) (pa_cons (pv 1) (pa_cons (pe_call GFls hr6 rfl gFls.m gFls.k gFls.b .nil pass0 (pa_cons (pv 0) (pa_cons (pv 2) pa_nil))) (pa_cons (pe_call GFls hr6 rfl gFls.m gFls.k gFls.b .nil pass0 (pa_cons (pv 1) (pa_cons (pv 2) pa_nil))) pa_nil)))))))),?_⟩
    have w1:=hG1.few
    have w2:=hG2.few
    refine ⟨_,rfl,_,rfl,t1,t2,f1,f2,rs1,rs2,rfl,hB1,hB2,?_⟩
    refine ⟨_,rfl,_,rfl,_,rfl,_,rfl,t1,f1,rs1,rs1.length+rs2.length,rfl,hB1,hG1,by omega,fun a H1 s1 n1 h1=>?_⟩
    refine ⟨_,rfl,_,rfl,t2,f2,rs2,rs1.length+rs2.length,rfl,hB2.mono (TupS.same s1),hG2,by omega,fun b H2 s2 n2 h2=>?_⟩
    have s12:=s1.trans s2
    refine ⟨t1,t2,a,b,f1,f2,rs1,rs2,_,_,rfl,hB1.mono (TupS.same s12),hG1,hB2.mono (TupS.same s12),hG2,s2 _ _ h1,h2,by rw [List.length_map,List.length_map],by rw [List.length_map,List.length_range];omega,fun d H' s' nd ht=>k d H' (s12.trans s') (s12.free nd) ?_⟩
    revert ht
    cases unl ((List.range (rs1.length+rs2.length)).map (lenC rs1 f1)) ((List.range (rs1.length+rs2.length)).map (lenC rs2 f2)) 0 with
    | some n=>exact fun ht=>ht
    | none =>
      rintro ⟨e,c,q1,q2,q3,q4,q5⟩
      exact ⟨e,c,q1,s12.free q2,q3,q4,q5⟩
def spWe2:Sp:=fun vs H Q _=>∃ (t1 t2 a b:Addr) (f1 f2:List Nat) (rs1 rs2:List Rule) (ws1 ws2:List Int),vs=[.ref t1,.ref a,.ref t2,.ref b]∧BookAt H t1 f1 rs1∧Good f1 rs1∧BookAt H t2 f2 rs2∧Good f2 rs2∧H a=some (.lst (ws1.map V.int))∧ws1.length=rs1.length∧Bz 300 ws1∧H b=some (.lst (ws2.map V.int))∧ws2.length=rs2.length∧Bz 300 ws2 ∧
  ∀ d H',Same H H'→H d=none→ToldA H H' d (cvo rs1 f1 (some (f2,rs2))) (wo rs1 (some (f2,rs2))) (unl ((List.range (rs1.length+rs2.length)).map (wgt rs1 f1 ws1)) ((List.range (rs1.length+rs2.length)).map (wgt rs2 f2 ws2)) 0)→Q (.ref d) H'
theorem scWe2:FnScope ["one","weights","other","others","ages"] ["one","weights","other","others"] (defScope sWe2):=⟨rfl,rfl,rfl,by decide +kernel,rfl,by decide +kernel,by decide +kernel⟩
theorem ok_we2 {f fSta fToa fFws:Addr} {fd fdSta fdToa fdFws:FuncData} (F:Fun K "weights_alike" "weights_alike" sWe2 f fd)
    (GSta:FnOk P w K mg base CX0 1 fSta fdSta ["one","other"] spSta)
    (gSta:Gf K mg "settling_ages" fSta fdSta ["one","other"])
    (GToa:FnOk P w K mg base CX0 8 fToa fdToa ["one","other","ones","others"] spToa)
    (gToa:Gf K mg "told_alike" fToa fdToa ["one","other","ones","others"])
    (GFws:FnOk P w K mg base CX0 6 fFws fdFws ["book","weights","many"] spFws)
    (gFws:Gf K mg "first_weights" fFws fdFws ["book","weights","many"])
    : FnOk P w K mg base CX0 9 f fd ["one","weights","other","others"] spWe2:=by
  refine F.ok scWe2 (fun vs H Q E h=>?_) (fun cdv A outer s H vs Q E hr h=>?_)
  · obtain ⟨t1,t2,a,b,f1,f2,rs1,rs2,ws1,ws2,rfl,_⟩:=h
    rfl
  · obtain ⟨t1,t2,a,b,f1,f2,rs1,rs2,ws1,ws2,rfl,hB1,hG1,hB2,hG2,ha,hla,hba,hb,hlb,hbb,k⟩:=h
    have hr1:Room 1 _:=hr.mono (by decide)
    have hr6:Room 6 _:=hr.mono (by decide)
    refine ⟨_,(pss_cons (ps_set (i:=4) scWe2.nd rfl (Or.inl rfl) (pe_call GSta hr1 rfl gSta.m gSta.k gSta.b .nil pass0 (pa_cons (pv 0) (pa_cons (pv 2) pa_nil))))
      (pss_one (ps_ret (pe_call GToa hr rfl gToa.m gToa.k gToa.b .nil pass0 (pa_cons (pv 0) (pa_cons (pv 2) (pa_cons (pe_call GFws hr6 rfl gFws.m gFws.k gFws.b .nil pass0 (pa_cons (pv 0) (pa_cons (pv 1) (pa_cons (pv 4) pa_nil)))) (pa_cons (pe_call GFws hr6 rfl gFws.m gFws.k gFws.b .nil pass0 (pa_cons (pv 2) (pa_cons (pv 3) (pa_cons (pv 4) pa_nil)))) pa_nil)))))))),?_⟩
    have w1:=hG1.few
    have w2:=hG2.few
    refine ⟨_,rfl,_,rfl,t1,t2,f1,f2,rs1,rs2,rfl,hB1,hB2,?_⟩
    refine ⟨_,rfl,_,rfl,_,rfl,_,rfl,_,rfl,t1,a,f1,rs1,ws1,rs1.length+rs2.length,rfl,hB1,hG1,ha,hla,hba,by omega,fun c H1 s1 n1 h1=>?_⟩
    refine ⟨_,rfl,_,rfl,_,rfl,t2,b,f2,rs2,ws2,rs1.length+rs2.length,rfl,hB2.mono (TupS.same s1),hG2,s1 _ _ hb,hlb,hbb,by omega,fun e H2 s2 n2 h2=>?_⟩
    have s12:=s1.trans s2
    refine ⟨t1,t2,c,e,f1,f2,rs1,rs2,_,_,rfl,hB1.mono (TupS.same s12),hG1,hB2.mono (TupS.same s12),hG2,s2 _ _ h1,h2,by rw [List.length_map,List.length_map],by rw [List.length_map,List.length_range];omega,fun d H' s' nd ht=>k d H' (s12.trans s') (s12.free nd) ?_⟩
    revert ht
    cases unl ((List.range (rs1.length+rs2.length)).map (wgt rs1 f1 ws1)) ((List.range (rs1.length+rs2.length)).map (wgt rs2 f2 ws2)) 0 with
    | some n=>exact fun ht=>ht
    | none =>
      rintro ⟨e,c,q1,q2,q3,q4,q5⟩
      exact ⟨e,c,q1,s12.free q2,q3,q4,q5⟩
end
end Lw
namespace Lw
open PySem L2 PyProof.Rows
theorem sum_flat (g:Nat→Int):∀ ls:List (List Nat),((ls.flatten).map g).sum=(ls.map fun l=>(l.map g).sum).sum
  | []=>rfl
  | l :: ls=>by
    rw [List.flatten_cons,List.map_append,List.sum_append,List.map_cons,List.sum_cons,sum_flat g ls]
theorem zW_row (us:List Rule) (f:Nat→Int):∀ (n:Nat) (x:List Nat),(x.map (zW us f n)).sum=((rowN us x n).map f).sum
  | 0,x=>rfl
  | n+1,x=>by
    show (x.map fun c=>((wd us c).map (zW us f n)).sum).sum=_
    rw [rowN_next,← zW_row us f n (nxt us x)]
    unfold nxt
    rw [sum_flat,List.map_map]
    rfl
theorem rowW_in {us:List Rule} (hW:Ws us) {x:List Nat} (hx:∀ c∈x,c∈ltr us):∀ n,∀ c∈rowN us x n,c∈ltr us:=fun n=>rch_closed hx (fun c hc e he=>(wd_of hW hc).2 e he) n
theorem rowN_like {us rs:List Rule} (hW:Ws us) (hL:Like us rs) {x:List Nat} (hx:∀ c∈x,c∈ltr us):∀ n,rowN rs x n=rowN us x n
  | 0=>rfl
  | n+1=>by
    show nxt rs (rowN rs x n)=nxt us (rowN us x n)
    rw [rowN_like hW hL hx n]
    unfold nxt
    congr 1
    exact List.map_congr_left fun c hc=>hL.wd c (rowW_in hW hx n c hc)
theorem sum_add2 (f g:Nat→Int):∀ L:List Nat,(L.map fun s=>f s+g s).sum=(L.map f).sum+(L.map g).sum
  | []=>rfl
  | a :: L=>by
    rw [List.map_cons,List.map_cons,List.map_cons,List.sum_cons,List.sum_cons,List.sum_cons,sum_add2 f g L]
    omega
theorem sum_none {k:Nat→Int} {a:Nat}:∀ {L:List Nat},a ∉ L→(L.map fun s=>if a=s then k s else 0).sum=0
  | [],_=>rfl
  | b :: L,h=>by
    rw [List.map_cons,List.sum_cons,if_neg (fun z=>h (by rw [z];exact List.mem_cons_self)),sum_none fun z=>h (List.mem_cons_of_mem _ z)]
    rfl
theorem sum_pick {k:Nat→Int} {a:Nat}:∀ {L:List Nat},L.Nodup→a∈L→(L.map fun s=>if a=s then k s else 0).sum=k a
  | [],_,h=>by cases h
  | b :: L,nd,h=>by
    obtain ⟨h1,h2⟩:=List.nodup_cons.mp nd
    rw [List.map_cons,List.sum_cons]
    by_cases e:a=b
    · subst e
      rw [if_pos rfl,sum_none h1]
      omega
    · rw [if_neg e,sum_pick h2 ((List.mem_cons.mp h).resolve_left e)]
      omega
theorem lin_sum {f:Nat→Int} {L:List Nat} (nd:L.Nodup):∀ {X:List Nat},(∀ e∈X,e∈L)→(L.map fun s=>f s * ((X.count s:Nat):Int)).sum=(X.map f).sum
  | [],_=>by
    have:∀ L:List Nat,(L.map fun s=>f s * (((([]:List Nat)).count s:Nat):Int)).sum=0:=fun L=>by
      induction L with
      | nil=>rfl
      | cons a L ih=>rw [List.map_cons,List.sum_cons,ih];simp
    rw [this]
    rfl
  | a :: X,h=>by
    have ih:=lin_sum (f:=f) nd (X:=X) fun e he=>h e (List.mem_cons_of_mem _ he)
    have e1:(L.map fun s=>f s * (((a :: X).count s:Nat):Int))=L.map fun s=>f s * ((X.count s:Nat):Int)+if a=s then f s else 0:=by
      refine List.map_congr_left fun s _=>?_
      rw [List.count_cons]
      by_cases z:a=s
      · rw [if_pos (by simpa using z),if_pos z]
        push_cast
        rw [Int.mul_add,Int.mul_one]
      · rw [if_neg (by simpa using z),if_neg z]
        push_cast
        rw [Int.add_zero,Int.add_zero]
    rw [e1,sum_add2 (fun s=>f s * ((X.count s:Nat):Int)) (fun s=>if a=s then f s else 0) L,sum_pick nd (h a List.mem_cons_self),ih,List.map_cons,List.sum_cons]
    omega
theorem dot_map (f g:Nat→Int):∀ L:List Nat,dot (L.map f) (L.map g)=(L.map fun c=>f c * g c).sum
  | []=>dot_nil_l _
  | a :: L=>by
    rw [List.map_cons,List.map_cons,dot_cons,dot_map f g L,List.map_cons,List.sum_cons]
theorem wgt_wtW {us rs:List Rule} {x:List Nat} {f:Nat→Int} (hW:Ws us) (hG:Good x rs) (hL:Like us rs):wgt rs x ((ltr rs).map f)=wtW us x f:=by
  funext n
  have hx:∀ c∈x,c∈ltr rs:=hG.fin
  have hu:∀ c∈x,c∈ltr us:=fun c hc=>(hL.mem c).mp (hx c hc)
  unfold wgt wtW
  rw [zW_row,cnt_row hG hx,← rowN_like hW hL hu]
  have ec:c0 rs (rowN rs x n)=(ltr rs).map fun c=>(((rowN rs x n).count c:Nat):Int):=by
    unfold c0 ltr
    rw [List.map_map]
    rfl
  rw [ec,dot_map]
  exact lin_sum hG.nd (rowN_in hG hx n)
theorem Lt.swap {rs rs2:List Rule} {x x2:List Nat} {c:List Int} (h:Lt (cvo rs x (some (x2,rs2))) (wo rs (some (x2,rs2))) c):Lt (cvo rs2 x2 (some (x,rs))) (wo rs2 (some (x,rs))) c:=by
  have e:wo rs2 (some (x,rs))=wo rs (some (x2,rs2)):=Nat.add_comm _ _
  rw [e]
  refine h.same fun f=>?_
  rw [cvo_swap f,← e,cvo_swap f]
  exact and_comm
theorem unl_comm:∀ (xs ys:List Int) (n:Nat),unl xs ys n=unl ys xs n
  | [],[],_=>rfl
  | [],_ :: _,_=>rfl
  | _ :: _,[],_=>rfl
  | x :: xs,y :: ys,n=>by
    show (if x=y then _ else _)=if y=x then _ else _
    by_cases h:x=y
    · rw [if_pos h,if_pos h.symm,unl_comm]
    · rw [if_neg h,if_neg fun z=>h z.symm]
theorem unl_filter (f g:Nat→Int):∀ (M s:Nat),unl ((List.range' s M).map f) ((List.range' s M).map g) s=((List.range' s M).filter fun i=>!decide (f i=g i)).head?
  | 0,s=>rfl
  | M+1,s=>by
    show (if f s=g s then unl _ _ (s+1) else some s)=((s :: List.range' (s+1) M).filter fun i=>!decide (f i=g i)).head?
    by_cases h:f s=g s
    · rw [if_pos h,List.filter_cons_of_neg (by rw [decide_eq_true h];decide)]
      exact unl_filter f g M (s+1)
    · rw [if_neg h,List.filter_cons_of_pos (by rw [decide_eq_false h];rfl)]
      rfl
theorem wgt_ones {rs:List Rule} {x:List Nat} {f:Nat→Int} (h:∀ c∈ltr rs,f c=1):wgt rs x ((ltr rs).map f)=lenC rs x:=by
  funext n
  unfold wgt lenC
  have hl:(cntN rs.length (tabI rs) (c0 rs x) n).length=rs.length:=cntN_len (c0_len rs x) n
  have e:(ltr rs).map f=(ltr rs).map fun _=>1:=List.map_congr_left fun c hc=>h c hc
  rw [e]
  have key:∀ (L:List Nat) (v:List Int),v.length=L.length→dot (L.map fun _=>(1:Int)) v=v.sum:=fun L=>by
    induction L with
    | nil=>intro v hv;cases v with
      | nil=>rfl
      | cons a v=>cases hv
    | cons a L ih=>intro v hv;cases v with
      | nil=>cases hv
      | cons b v =>
        rw [List.map_cons,dot_cons,List.sum_cons,ih v (by simpa using hv)]
        omega
  exact key _ _ (by rw [hl];unfold ltr;rw [List.length_map])
theorem wgt_recO {rs rs2:List Rule} {first x2:List Nat} {c:List Int} (h:Lt (cvo rs first (some (x2,rs2))) (wo rs (some (x2,rs2))) c) (ws:List Int) (n:Nat):wgt rs first ws (n+c.length)=sq c n (wgt rs first ws):=by
  have e:∀ m,wgt rs first ws m=dot ((List.range rs.length).map (cv rs first m)) ws:=fun m=>by
    unfold wgt
    rw [dot_comm,cv_row]
  have h1:=dot_cmb (rs:=rs) (first:=first) ws c n
  have h2:(List.range rs.length).map (cmb (cv rs first) c n)=(List.range rs.length).map (cv rs first (n+c.length)):=List.map_congr_left fun j hj=>by
    have hj:=List.mem_range.mp hj
    have:=h.all (cvo_shf rs first _) n j (show j < rs.length+rs2.length by omega)
    have lo:∀ i,cvo rs first (some (x2,rs2)) i j=cv rs first i j:=fun i=>if_pos hj
    rw [lo] at this
    rw [this,cmb_sq,cmb_sq]
    exact sq_congr fun i _ _=>(lo i).symm
  rw [h2,← e] at h1
  rw [h1]
  exact sq_congr fun i _ _=>(e i).symm
theorem wgt_ever {rs rs2:List Rule} {x x2:List Nat} {ws ws2:List Int} (h:∀ i,i < rs.length+rs2.length→wgt rs x ws i=wgt rs2 x2 ws2 i):∀ n,wgt rs x ws n=wgt rs2 x2 ws2 n:=by
  obtain ⟨c,hc⟩:=lt_ex (cvo_shf rs x (some (x2,rs2)))
  have few:=hc.few
  have ew:wo rs (some (x2,rs2))=rs.length+rs2.length:=rfl
  have key:∀ m n,n < m→wgt rs x ws n=wgt rs2 x2 ws2 n:=fun m=>by
    induction m with
    | zero=>intro n hn;omega
    | succ m ih =>
      intro n hn
      by_cases hs:n < rs.length+rs2.length
      · exact h n hs
      · obtain ⟨k,rfl⟩:∃ k,n=k+c.length:=⟨n - c.length,by omega⟩
        rw [wgt_recO hc,wgt_recO hc.swap]
        exact sq_congr fun i _ hi=>ih i (by omega)
  exact fun n=>key (n+1) n (Nat.lt_succ_self n)
theorem unl_some {f g:Nat→Int}:∀ {M s n:Nat},unl ((List.range' s M).map f) ((List.range' s M).map g) s=some n→s≤n∧n < s+M∧f n≠g n∧∀ i,s≤i→i < n→f i=g i
  | 0,s,n,h=>by cases h
  | M+1,s,n,h=>by
    have h':(if f s=g s then unl ((List.range' (s+1) M).map f) ((List.range' (s+1) M).map g) (s+1) else some s)=some n:=h
    by_cases e:f s=g s
    · rw [if_pos e] at h'
      obtain ⟨a1,a2,a3,a4⟩:=unl_some h'
      refine ⟨by omega,by omega,a3,fun i h1 h2=>?_⟩
      by_cases z:i=s
      · rw [z];exact e
      · exact a4 i (by omega) h2
    · rw [if_neg e] at h'
      cases h'
      exact ⟨Nat.le_refl _,by omega,e,fun i h1 h2=>by omega⟩
theorem unl_none {f g:Nat→Int}:∀ {M s:Nat},unl ((List.range' s M).map f) ((List.range' s M).map g) s=none→∀ i,s≤i→i < s+M→f i=g i
  | 0,s,_,i,h1,h2=>by omega
  | M+1,s,h,i,h1,h2=>by
    have h':(if f s=g s then unl ((List.range' (s+1) M).map f) ((List.range' (s+1) M).map g) (s+1) else some s)=none:=h
    by_cases e:f s=g s
    · rw [if_pos e] at h'
      by_cases z:i=s
      · rw [z];exact e
      · exact unl_none h' i (by omega) (by omega)
    · rw [if_neg e] at h'
      cases h'
theorem unl_self:∀ (xs:List Int) (n:Nat),unl xs xs n=none
  | [],_=>rfl
  | x :: xs,n=>by
    show (if x=x then _ else _)=_
    rw [if_pos rfl]
    exact unl_self xs (n+1)
def ageU:Option Nat→Int
  | some n=>(n:Int)
  | none=>99
def dO (f g:Nat→Int) (M:Nat):Option Nat:=unl ((List.range M).map f) ((List.range M).map g) 0
theorem dO_is {f g:Nat→Int} {M:Nat} (hM:M≤16) (hev:(∀ i,i < M→f i=g i)→∀ i,f i=g i):(ageU (dO f g M)=99∧∀ i,f i=g i)∨∃ n:Nat,ageU (dO f g M)=(n:Int)∧n < 16∧f n≠g n∧∀ i,i < n→f i=g i:=by
  unfold dO
  rw [List.range_eq_range']
  cases e:unl ((List.range' 0 M).map f) ((List.range' 0 M).map g) 0 with
  | none=>exact .inl ⟨rfl,hev fun i hi=>unl_none e i (Nat.zero_le _) (by omega)⟩
  | some n =>
    obtain ⟨_,a2,a3,a4⟩:=unl_some e
    exact .inr ⟨n,rfl,by omega,a3,fun i hi=>a4 i (Nat.zero_le _) hi⟩
theorem three_ages {f g h:Nat→Int} {a b c:Int} (ha:(a=99∧∀ i,f i=g i)∨∃ n:Nat,a=(n:Int)∧n < 16∧f n≠g n∧∀ i,i < n→f i=g i) (hb:(b=99∧∀ i,g i=h i)∨∃ n:Nat,b=(n:Int)∧n < 16∧g n≠h n∧∀ i,i < n→g i=h i) (hc:(c=99∧∀ i,h i=f i)∨∃ n:Nat,c=(n:Int)∧n < 16∧h n≠f n∧∀ i,i < n→h i=f i)
    (m:Int) (hm:m∈[a,b,c]) (hl:∀ x∈[a,b,c],m≤x):2≤([a,b,c]:List Int).count m:=by
  have l1:=hl a (by simp)
  have l2:=hl b (by simp)
  have l3:=hl c (by simp)
  have two:(m=a∧m=b)∨(m=b∧m=c)∨(m=a∧m=c):=by
    have pa:∀ n:Nat,(n:Int) < a→n < 99→f n=g n:=fun n hn h9=>by
      rcases ha with ⟨_,h⟩ | ⟨k,e,_,_,h⟩
      · exact h n
      · exact h n (by omega)
    have pb:∀ n:Nat,(n:Int) < b→n < 99→g n=h n:=fun n hn h9=>by
      rcases hb with ⟨_,h⟩ | ⟨k,e,_,_,h⟩
      · exact h n
      · exact h n (by omega)
    have pc:∀ n:Nat,(n:Int) < c→n < 99→h n=f n:=fun n hn h9=>by
      rcases hc with ⟨_,h⟩ | ⟨k,e,_,_,h⟩
      · exact h n
      · exact h n (by omega)
    simp only [List.mem_cons,List.not_mem_nil,or_false] at hm
    by_cases z1:m=a∧m=b
    · exact .inl z1
    by_cases z2:m=b∧m=c
    · exact .inr (.inl z2)
    by_cases z3:m=a∧m=c
    · exact .inr (.inr z3)
    exfalso
    rcases hm with rfl | rfl | rfl
    · have h1:m < b:=by omega
      have h2:m < c:=by omega
      rcases ha with ⟨e,_⟩ | ⟨n,e,h16,hne,_⟩
      · rcases hb with ⟨e2,_⟩ | ⟨k,e2,_,_,_⟩ <;> omega
      · exact hne ((pb n (by omega) (by omega)).trans (pc n (by omega) (by omega))).symm
    · have h1:m < a:=by omega
      have h2:m < c:=by omega
      rcases hb with ⟨e,_⟩ | ⟨n,e,h16,hne,_⟩
      · rcases ha with ⟨e2,_⟩ | ⟨k,e2,_,_,_⟩ <;> omega
      · exact hne ((pc n (by omega) (by omega)).trans (pa n (by omega) (by omega))).symm
    · have h1:m < a:=by omega
      have h2:m < b:=by omega
      rcases hc with ⟨e,_⟩ | ⟨n,e,h16,hne,_⟩
      · rcases ha with ⟨e2,_⟩ | ⟨k,e2,_,_,_⟩ <;> omega
      · exact hne ((pa n (by omega) (by omega)).trans (pb n (by omega) (by omega))).symm
  rcases two with ⟨e1,e2⟩ | ⟨e1,e2⟩ | ⟨e1,e2⟩
  · rw [← e1,← e2,List.count_cons_self,List.count_cons_self];omega
  · rw [← e1,← e2,List.count_cons,List.count_cons_self,List.count_cons_self];omega
  · rw [← e1,← e2,List.count_cons_self,List.count_cons,List.count_cons_self];omega
theorem rs_eq:∀ {rs:List Rule},(ltr rs).Nodup→rs=(ltr rs).map fun c=>(c,wd rs c):=fun {rs} nd=>by
  refine List.ext_getElem? fun i=>?_
  unfold ltr
  rw [List.map_map,List.getElem?_map]
  cases e:rs[i]? with
  | none=>rfl
  | some q =>
    have hq:q∈rs:=List.mem_of_getElem? e
    have h1:=kvw_val nd hq
    have h2:=kvw_wd nd (show q.1∈ltr rs from List.mem_map_of_mem hq)
    rw [h1] at h2
    have h3:q.2.toArray=(wd rs q.1).toArray:=congrArg Str.cps (V.str.inj (Option.some.inj h2))
    have h4:q.2=wd rs q.1:=by simpa using congrArg Array.toList h3
    show some q=some (q.1,wd rs q.1)
    rw [← h4]
theorem like_uniq {us rs rs':List Rule} {x x':List Nat} (hG:Good x rs) (hL:Like us rs) (hG':Good x' rs') (hL':Like us rs'):rs=rs':=by
  have e:ltr rs=ltr rs':=rise_eq hG.rise hG'.rise fun c=>by
    show c∈ltr rs ↔ c∈ltr rs'
    rw [hL.mem,hL'.mem]
  rw [rs_eq hG.nd,rs_eq hG'.nd,← e]
  refine List.map_congr_left fun c hc=>?_
  have hc':=(hL.mem c).mp hc
  rw [hL.wd c hc',hL'.wd c hc']
def Due (us1 us2:List Rule) (x1 x2:List Nat) (f1 f2:Nat→Int) (r:Told):Prop :=
  match dO (wtW us1 x1 f1) (wtW us2 x2 f2) (us1.length+us2.length) with
  | some n=>r=.part n
  | none=>∃ c rs1 rs2,r=.alike c∧Good x1 rs1∧Like us1 rs1∧Good x2 rs2∧Like us2 rs2∧Lt (cvo rs1 x1 (some (x2,rs2))) (wo rs1 (some (x2,rs2))) c
theorem Due.one {us1 us2:List Rule} {x1 x2:List Nat} {f1 f2:Nat→Int} {r r':Told} (h:Due us1 us2 x1 x2 f1 f2 r) (h':Due us1 us2 x1 x2 f1 f2 r'):r=r':=by
  unfold Due at h h'
  split at h
  · rename_i n e
    rw [e] at h'
    rw [h,h']
  · rename_i e
    rw [e] at h'
    obtain ⟨c,rs1,rs2,rfl,g1,l1,g2,l2,lt⟩:=h
    obtain ⟨c',rs1',rs2',rfl,g1',l1',g2',l2',lt'⟩:=h'
    have e1:=like_uniq g1 l1 g1' l1'
    have e2:=like_uniq g2 l2 g2' l2'
    subst e1 e2
    rw [lt.uniq lt']
theorem Due.age {us1 us2:List Rule} {x1 x2:List Nat} {f1 f2:Nat→Int} {r:Told} (h:Due us1 us2 x1 x2 f1 f2 r):ageOf r=ageU (dO (wtW us1 x1 f1) (wtW us2 x2 f2) (us1.length+us2.length)):=by
  unfold Due at h
  split at h
  · rename_i n e
    rw [h,e]
    rfl
  · rename_i e
    obtain ⟨c,rs1,rs2,rfl,_⟩:=h
    rw [e]
    rfl
def NewT (H H':Hp) (t:Addr) (r:Told):Prop:=∀ H2,(∀ a z,H a=none→H' a=some z→H2 a=some z)→TldAt H2 t r
theorem NewT.at {H H':Hp} {t:Addr} {r:Told} (h:NewT H H' t r):TldAt H' t r:=h H' fun _ _ _ h=>h
theorem ToldA.due {H0 H Hb:Hp} {d:Addr} {u:Nat→Vc} {W:Nat} {o:Option Nat} (h:ToldA H0 H d u W o) (hd:H0 d=none) (hs:Same Hb H0):∃ r,NewT Hb H d r∧match o with
    | some n=>r=.part n
    | none=>∃ c,r=.alike c∧Lt u W c:=by
  cases o with
  | some n=>exact ⟨.part n,fun H2 k=>k _ _ (hs.free hd) h,rfl⟩
  | none =>
    obtain ⟨e,c,h1,h2,h3,h4,_⟩:=h
    exact ⟨.alike c,fun H2 k=>⟨e,k _ _ (hs.free hd) h1,k _ _ (hs.free h2) h3⟩,c,rfl,h4⟩
theorem ToldA.is {H0 H Hb:Hp} {d:Addr} {us1 us2 rs1 rs2:List Rule} {x1 x2:List Nat} {f1 f2 g1 g2:Nat→Int} (hG1:Good x1 rs1) (hL1:Like us1 rs1) (hG2:Good x2 rs2) (hL2:Like us2 rs2) (e1:g1=wtW us1 x1 f1) (e2:g2=wtW us2 x2 f2)
    (h:ToldA H0 H d (cvo rs1 x1 (some (x2,rs2))) (wo rs1 (some (x2,rs2))) (unl ((List.range (rs1.length+rs2.length)).map g1) ((List.range (rs1.length+rs2.length)).map g2) 0)) (hd:H0 d=none) (hs:Same Hb H0):∃ r,NewT Hb H d r∧Due us1 us2 x1 x2 f1 f2 r:=by
  subst e1 e2
  rw [hL1.len,hL2.len] at h
  unfold Due dO
  generalize unl ((List.range (us1.length+us2.length)).map (wtW us1 x1 f1)) ((List.range (us1.length+us2.length)).map (wtW us2 x2 f2)) 0=o at h ⊢
  cases o with
  | some n=>exact h.due hd hs
  | none =>
    obtain ⟨r,hn,c,hc,hl⟩:=h.due hd hs
    exact ⟨r,hn,c,rs1,rs2,hc,hG1,hL1,hG2,hL2,hl⟩
def HasRs (us:List Rule) (x:List Nat):Prop:=∃ rs,Good x rs∧Like us rs
def spAsk:Sp:=fun vs H Q _=>∃ (t u d1 e1 d2 e2:Addr) (x1 x2:List Nat) (us1 us2:List Rule) (f1 f2:Nat→Int),vs=[.ref t,.ref u]∧TriOk H t d1 e1 x1 us1 f1∧TriOk H u d2 e2 x2 us2 f2 ∧
  ∀ tt r H',Same H H'→H tt=none→NewT H H' tt r→Due us1 us2 x1 x2 f1 f2 r→HasRs us1 x1→HasRs us2 x2→Q (.ref tt) H'
theorem bz_of {us rs:List Rule} {f:Nat→Int} (hL:Like us rs) (h:∀ c∈ltr us,(f c).natAbs < 2 ^ 250):Bz 300 ((ltr rs).map f):=fun z hz=>by
  obtain ⟨c,hc,rfl⟩:=List.mem_map.mp hz
  exact Nat.lt_of_lt_of_le (h c ((hL.mem c).mp hc)) (by decide +kernel)
theorem ask_go {K:PySem.W.Frag} {Q:VK} {H:Hp} {t u d1 e1 d2 e2:Addr} {x1 x2:List Nat} {us1 us2:List Rule} {f1 f2:Nat→Int} (hO1:TriOk H t d1 e1 x1 us1 f1) (hO2:TriOk H u d2 e2 x2 us2 f2)
    (q:∀ tt r H',Same H H'→H tt=none→NewT H H' tt r→Due us1 us2 x1 x2 f1 f2 r→HasRs us1 x1→HasRs us2 x2→Q (.ref tt) H') :
    tRet
    (tCall spWe2 [] E0
      (tCons (tCall spBok [] E0 (tCons (tVar 0) tNil))
        (tCons (tCall spLds [] E0 (tCons (tVar 0) tNil))
          (tCons (tCall spBok [] E0 (tCons (tVar 1) tNil)) (tCons (tCall spLds [] E0 (tCons (tVar 1) tNil)) tNil)))))
    { nx:=fun x H'=>Q V.non H',rt:=Q }
    (L2.start [Str.ofString "_law_one",Str.ofString "_law_other_here"] [V.ref t,V.ref u]) H:=by
  have lw:∀ (rs:List Rule) (f:Nat→Int),((ltr rs).map f).length=rs.length:=fun rs f=>by unfold ltr;rw [List.length_map,List.length_map]
  refine ⟨_,rfl,t,d1,e1,x1,us1,f1,rfl,hO1,fun b1 rs1 H1 s1 hB1 hG1 hL1=>?_⟩
  refine ⟨_,rfl,t,d1,e1,x1,x1,us1,rs1,f1,rfl,hO1.same s1,hG1,hL1,fun la H2 s2 n2 ha=>?_⟩
  have s12:=s1.trans s2
  refine ⟨_,rfl,u,d2,e2,x2,us2,f2,rfl,hO2.same s12,fun b2 rs2 H3 s3 hB2 hG2 hL2=>?_⟩
  have s13:=s12.trans s3
  refine ⟨_,rfl,u,d2,e2,x2,x2,us2,rs2,f2,rfl,hO2.same s13,hG2,hL2,fun lb H4 s4 n4 hb=>?_⟩
  have s14:=s13.trans s4
  have s24:=s3.trans s4
  refine ⟨b1,b2,la,lb,x1,x2,rs1,rs2,_,_,rfl,hB1.mono (TupS.same (s2.trans s24)),hG1,hB2.mono (TupS.same s4),hG2,s24 _ _ ha,lw _ _,bz_of hL1 hO1.fb,hb,lw _ _,bz_of hL2 hO2.fb,fun tt H5 s5 n5 hT=>?_⟩
  obtain ⟨r,hn,hd⟩:=hT.is hG1 hL1 hG2 hL2 (wgt_wtW hO1.ws hG1 hL1) (wgt_wtW hO2.ws hG2 hL2) n5 s14
  exact q tt r H5 (s14.trans s5) (s14.free n5) hn hd ⟨rs1,hG1,hL1⟩ ⟨rs2,hG2,hL2⟩
def spDue:Sp:=fun vs H Q _=>∃ (t u d1 e1 d2 e2:Addr) (x1 x2:List Nat) (us1 us2:List Rule) (f1 f2:Nat→Int),vs=[.ref t,.ref u]∧TriOk H t d1 e1 x1 us1 f1∧TriOk H u d2 e2 x2 us2 f2 ∧
  ∀ H',Same H H'→Q (.int (ageU (dO (wtW us1 x1 f1) (wtW us2 x2 f2) (us1.length+us2.length)))) H'
theorem due_go {K:PySem.W.Frag} {Q:VK} {H:Hp} {t u d1 e1 d2 e2:Addr} {x1 x2:List Nat} {us1 us2:List Rule} {f1 f2:Nat→Int} (hO1:TriOk H t d1 e1 x1 us1 f1) (hO2:TriOk H u d2 e2 x2 us2 f2)
    (q:∀ H',Same H H'→Q (.int (ageU (dO (wtW us1 x1 f1) (wtW us2 x2 f2) (us1.length+us2.length)))) H') :
    tSeq
    (tAsg
      (tOp (rI0 fun i j=>V.int (i+j))
        (tCB (fun xs H Q=>∃ a kvs,xs=[V.ref a]∧H a=some (HO.dK kvs)∧Q (V.int ↑kvs.length) H)
          (tCons (tOp (rIxT K) (tVar 0) (tC (V.int 1))) tNil))
        (tCB (fun xs H Q=>∃ a kvs,xs=[V.ref a]∧H a=some (HO.dK kvs)∧Q (V.int ↑kvs.length) H)
          (tCons (tOp (rIxT K) (tVar 1) (tC (V.int 1))) tNil)))
      (gName 2))
    (tSeq
      (tAsg
        (tTup
          (tCons (tCall spWgs [] E0 (tCons (tVar 0) (tCons (tVar 2) tNil)))
            (tCons (tCall spWgs [] E0 (tCons (tVar 1) (tCons (tVar 2) tNil))) tNil)))
        (gTup K 2 (gCons (gName 3) (gCons (gName 4) gNil))))
      (tSeq
        (fun D σ H =>
          tComp [none,some 3,some 4] (iRng1 (tCons (tVar 2) tNil)) (gName 0)
            (tTest (tOp rNe (tOp (rIxL K) (tVar 1) (tVar 0)) (tOp (rIxL K) (tVar 2) (tVar 0)))) (tVar 0) σ H fun v H1 =>
            D.nx (List.set σ 5 (some v)) H1)
        (tRet (tOp (rIxL K) (tOp rCat (tVar 5) (tLst (tCons (tC (V.int 99)) tNil))) (tC (V.int 0))))))
    { nx:=fun x H'=>Q V.non H',rt:=Q }
    (L2.start
      [Str.ofString "_law_one",Str.ofString "_law_other_here",Str.ofString "_law_many",Str.ofString "_law_mine",
        Str.ofString "_law_theirs",Str.ofString "_law_unlike"]
      [V.ref t,V.ref u])
    H:=by
  have few1:=hO1.ws.few
  have few2:=hO2.ws.few
  have el1:(kvw us1).length=us1.length:=by unfold kvw;rw [List.length_map]
  have el2:(kvw us2).length=us2.length:=by unfold kvw;rw [List.length_map]
  refine ⟨_,rfl,t,_,_,_,rfl,rfl,SqT.of hO1.t,atI_nat (j:=1) rfl,d1,kvw us1,rfl,hO1.d,_,rfl,u,_,_,_,rfl,rfl,SqT.of hO2.t,atI_nat (j:=1) rfl,d2,kvw us2,rfl,hO2.d,_,_,rfl,rfl,?_⟩
  rw [el1,el2]
  refine ⟨_,rfl,_,rfl,t,d1,e1,x1,us1,f1,us1.length+us2.length,rfl,hO1,by omega,fun l1 H5 s5 n5 h5=>?_⟩
  refine ⟨_,rfl,_,rfl,u,d2,e2,x2,us2,f2,us1.length+us2.length,rfl,hO2.same s5,by omega,fun l2 H6 s6 n6 h6=>?_⟩
  have h5':=s6 _ _ h5
  refine ⟨szl (show 2≤1000 by decide),fun T nT=>?_⟩
  have sT:=Same.add (o:=.tup [.ref l1,.ref l2]) nT
  refine ⟨T,_,rfl,SqT.of upd_same,rfl,_,_,rfl,_,_,rfl,rfl,?_⟩
  have h5T:=sT _ _ h5'
  have h6T:=sT _ _ h6
  have s07:=(s5.trans s6).trans sT
  revert h5T h6T s07
  generalize upd H6 T (.tup [.ref l1,.ref l2])=H7
  intro h5T h6T s07
  have eM:Int.toNat ((us1.length:Int)+(us2.length:Int))=us1.length+us2.length:=by omega
  refine ⟨_,rfl,_,rfl,by omega,by omega,?_⟩
  refine comp_byR (τ0:=[none,some (.ref l1),some (.ref l2)]) (sure_range (lo:=0) (n:=Int.toNat ((us1.length:Int)+(us2.length:Int)))) (by rw [rngV_length];omega)
    (fun i zs τ Hx=>Hx=H7∧(∃ v,τ=[v,some (.ref l1),some (.ref l2)])∧zs=(((List.range i).filter fun i=>!decide (wtW us1 x1 f1 i=wtW us2 x2 f2 i)).map fun (n:Nat)=>V.int (n:Int))) ⟨rfl,⟨_,rfl⟩,rfl⟩ ?_ ?_ ?_
  · rintro i zs τ Hx hi ⟨rfl,_,rfl⟩
    refine ⟨trivial,?_⟩
    rw [List.length_map]
    exact Nat.le_trans (List.length_filter_le _ _) (by rw [List.length_range];exact Nat.le_refl _)
  · rintro i y zs τ Hx hy ⟨rfl,⟨v,rfl⟩,rfl⟩
    obtain ⟨hi,rfl⟩:=rng_at hy
    rw [eM] at hi
    refine ⟨_,rfl,_,rfl,l1,_,_,_,rfl,rfl,SqL.of h5T,atI_nat (rg0_at hi),_,rfl,_,rfl,l2,_,_,_,rfl,rfl,SqL.of h6T,atI_nat (rg0_at hi),rfl,_,rfl,?_⟩
    have ed:(!decide (V.int (wtW us1 x1 f1 i)=V.int (wtW us2 x2 f2 i))) = !decide (wtW us1 x1 f1 i=wtW us2 x2 f2 i):=by
      congr 1
      exact decide_eq_decide.mpr ⟨fun h=>V.int.inj h,fun h=>congrArg V.int h⟩
    rw [ed]
    by_cases h:wtW us1 x1 f1 i=wtW us2 x2 f2 i
    · rw [decide_eq_true h]
      refine iteF ⟨rfl,⟨_,rfl⟩,?_⟩
      rw [List.range_succ,List.filter_append,List.filter_cons_of_neg (by rw [decide_eq_true h];decide)]
      simp
    · rw [decide_eq_false h]
      refine iteT ⟨_,rfl,rfl,⟨_,rfl⟩,?_⟩
      rw [List.range_succ,List.filter_append,List.filter_cons_of_pos (by rw [decide_eq_false h];rfl),List.map_append]
      rfl
  rintro zs τ Hx lu ⟨rfl,_,rfl⟩ nlu
  rw [rngV_length,eM]
  have hun:=unl_filter (wtW us1 x1 f1) (wtW us2 x2 f2) (us1.length+us2.length) 0
  rw [← List.range_eq_range'] at hun
  have hun':dO (wtW us1 x1 f1) (wtW us2 x2 f2) (us1.length+us2.length)=_:=hun
  rw [hun'] at q
  have hfl:((List.range (us1.length+us2.length)).filter fun i=>!decide (wtW us1 x1 f1 i=wtW us2 x2 f2 i)).length≤16:=Nat.le_trans (List.length_filter_le _ _) (by rw [List.length_range];omega)
  revert q hfl
  generalize ((List.range (us1.length+us2.length)).filter fun i=>!decide (wtW us1 x1 f1 i=wtW us2 x2 f2 i))=fl
  intro q hfl
  have sl:=Same.add (o:=.lst (fl.map fun (n:Nat)=>V.int (n:Int))) nlu
  refine ⟨_,rfl,szl (show 1≤1000 by decide),fun l9 n9=>?_⟩
  have s9:=Same.add (o:=.lst [V.int 99]) n9
  refine ⟨lu,l9,_,_,rfl,rfl,s9 _ _ upd_same,upd_same,szl (show (fl.map fun (n:Nat)=>V.int (n:Int)).length+1≤1000 by rw [List.length_map];omega),fun lc nc=>?_⟩
  have sc:=Same.add (o:=.lst ((fl.map fun (n:Nat)=>V.int (n:Int))++[V.int 99])) nc
  refine ⟨lc,_,_,V.int (ageU fl.head?),rfl,rfl,SqL.of upd_same,atI_nat (j:=0) ?_,q _ (s07.trans (sl.trans (s9.trans sc)))⟩
  cases fl with
  | nil=>rfl
  | cons n r=>rfl
end Lw
namespace Lw
open PySem L2 PyProof.Rows
section
variable {P:Program} {w:World} {K:PySem.W.Frag} {mg:Str→Option Value} {base:Heap}
theorem scWei:FnScope ["_law_pen_here","_law_even","_law_number","_law_k"] ["_law_pen_here","_law_even"] (defScope sWei):=⟨rfl,rfl,rfl,by decide +kernel,rfl,by decide +kernel,by decide +kernel⟩
theorem ok_wei {f fTak:Addr} {fd fdTak:FuncData} (F:Fun K "_law_load" "_law_load" sWei f fd)
    (GTak:FnOk P w K mg base CX0 1 fTak fdTak ["_law_pen_here","_law_size"] spTak)
    (gTak:Gf K mg "_law_take" fTak fdTak ["_law_pen_here","_law_size"])
    (hrange:mg "range" = none)
    : FnOk P w K mg base CX0 2 f fd ["_law_pen_here","_law_even"] spWei:=by
  refine F.ok scWei (fun vs H Q E h=>?_) (fun cdv A outer s H vs Q E hr h=>?_)
  · obtain ⟨p,b,ev,rfl,_⟩:=h
    rfl
  · obtain ⟨p,b,ev,rfl,hp,hb,q⟩:=h
    refine ⟨_,(pss_cons (ps_set (i:=2) scWei.nd rfl (Or.inl rfl) (pe_call GTak hr rfl gTak.m gTak.k gTak.b .nil pass0 (pa_cons (pv 0) (pa_cons pe_int pa_nil))))
      (pss_cons (ps_if (pt_cmpR op_eq (pe_call GTak hr rfl gTak.m gTak.k gTak.b .nil pass0 (pa_cons (pv 0) (pa_cons pe_int pa_nil))) pe_int (nomark _)) (pss_one (ps_for PassesOwn.never rfl (pi_range1 rfl hrange (pa_cons pe_int pa_nil)) (pg_name (i:=3) scWei.nd rfl (Or.inl rfl)) (pss_one (ps_set (i:=2) scWei.nd rfl (Or.inl rfl) (pe_op op_add (pe_op op_mulB (pv 2) (pe_op op_pow pe_int pe_int)) (pe_call GTak hr rfl gTak.m gTak.k gTak.b .nil pass0 (pa_cons (pv 0) (pa_cons (pe_op op_pow pe_int pe_int) pa_nil)))))))) pss_nil)
      (pss_cons (ps_if (pt_val (pv 1)) (pss_one (ps_ret pe_int)) pss_nil)
      (pss_one (ps_ret (pe_op op_mulB (pv 2) (pe_op op_sub pe_int (pe_op op_mulB pe_int (pe_call GTak hr rfl gTak.m gTak.k gTak.b .nil pass0 (pa_cons (pv 0) (pa_cons pe_int pa_nil))))))))))),?_⟩
    exact wei_go (K:=K) hp hb q
theorem scFre:FnScope ["_law_pen_here","_law_even","_law_layers","_law_most","_law_signs","_law_words","_law_loads_here","_law_at","_law_sign"] ["_law_pen_here","_law_even"] (defScope sFre):=⟨rfl,rfl,rfl,by decide +kernel,rfl,by decide +kernel,by decide +kernel⟩
theorem ok_fre {f fTak fMix fTxt fWei:Addr} {fd fdTak fdMix fdTxt fdWei:FuncData} (F:Fun K "_law_free" "_law_free" sFre f fd)
    (GTak:FnOk P w K mg base CX0 1 fTak fdTak ["_law_pen_here","_law_size"] spTak)
    (gTak:Gf K mg "_law_take" fTak fdTak ["_law_pen_here","_law_size"])
    (GMix:FnOk P w K mg base CX0 2 fMix fdMix ["_law_pen_here","_law_things"] spMix)
    (gMix:Gf K mg "_law_mixed" fMix fdMix ["_law_pen_here","_law_things"])
    (GTxt:FnOk P w K mg base CX0 2 fTxt fdTxt ["_law_pen_here","_law_signs","_law_many"] spTxt)
    (gTxt:Gf K mg "_law_text" fTxt fdTxt ["_law_pen_here","_law_signs","_law_many"])
    (GWei:FnOk P w K mg base CX0 2 fWei fdWei ["_law_pen_here","_law_even"] spWei)
    (gWei:Gf K mg "_law_load" fWei fdWei ["_law_pen_here","_law_even"])
    (henumerate:mg "enumerate" = none)
    (hlist:mg "list" = none)
    : FnOk P w K mg base CX0 3 f fd ["_law_pen_here","_law_even"] spFre:=by
  refine F.ok scFre (fun vs H Q E h=>?_) (fun cdv A outer s H vs Q E hr h=>?_)
  · obtain ⟨p,b,ev,rfl,_⟩:=h
    rfl
  · obtain ⟨p,b,ev,rfl,hp,hb,q⟩:=h
    have hr1:Room 1 _:=hr.mono (by decide)
    have hu:=hu_of hr
    obtain ⟨s0_,s1_,s2_,s3_,s4_,s5_,s6_,hd_,h0_,h1_,h2_,h3_,h4_,h5_,h6_⟩:∃ s0_ s1_ s2_ s3_ s4_ s5_ s6_,defBody sFre=[s0_,s1_,s2_,s3_,s4_,s5_,s6_]∧s0_=(defBody sFre).getD 0 (.Pass ⟨0,0,0,0⟩)∧s1_=(defBody sFre).getD 1 (.Pass ⟨0,0,0,0⟩)∧s2_=(defBody sFre).getD 2 (.Pass ⟨0,0,0,0⟩)∧s3_=(defBody sFre).getD 3 (.Pass ⟨0,0,0,0⟩)∧s4_=(defBody sFre).getD 4 (.Pass ⟨0,0,0,0⟩)∧s5_=(defBody sFre).getD 5 (.Pass ⟨0,0,0,0⟩)∧s6_=(defBody sFre).getD 6 (.Pass ⟨0,0,0,0⟩):=⟨_,_,_,_,_,_,_,rfl,rfl,rfl,rfl,rfl,rfl,rfl,rfl⟩
    rw [hd_]
    refine ⟨_,(pss_cons (ps_eq h0_ (ps_set (i:=2) scFre.nd rfl (Or.inl rfl) (pe_call GTak hr1 rfl gTak.m gTak.k gTak.b .nil pass0 (pa_cons (pv 0) (pa_cons pe_int pa_nil)))))
      (pss_cons (ps_eq h1_ (ps_set (i:=3) scFre.nd rfl (Or.inl rfl) (pe_ix (ix_listK K) (pe_lst (pa_cons pe_int (pa_cons pe_int (pa_cons pe_int (pa_cons pe_int pa_nil))))) (pe_call GTak hr1 rfl gTak.m gTak.k gTak.b .nil pass0 (pa_cons (pv 0) (pa_cons pe_int pa_nil))) (fun _ _=>rfl))))
      (pss_cons (ps_eq h2_ (ps_set (i:=4) scFre.nd rfl (Or.inl rfl) (pe_slice (sl_listK K) (pe_call GMix hr rfl gMix.m gMix.k gMix.b .nil pass0 (pa_cons (pv 0) (pa_cons (pe_callTy (call_list_text rfl) (by rfl) hlist (by first | exact PySem.boot_list | decide +kernel) (pa_cons pe_str pa_nil)) pa_nil))) po_none (po_some (pe_ix (ix_listK K) (pe_lst (pa_cons pe_int (pa_cons pe_int (pa_cons pe_int (pa_cons pe_int (pa_cons pe_int (pa_cons pe_int pa_nil))))))) (pe_call GTak hr1 rfl gTak.m gTak.k gTak.b .nil pass0 (pa_cons (pv 0) (pa_cons pe_int pa_nil))) (fun _ _=>rfl))))))
      (pss_cons (ps_eq h3_ (ps_set (i:=5) scFre.nd rfl (Or.inl rfl) pe_dnewK))
      (pss_cons (ps_eq h4_ (ps_set (i:=6) scFre.nd rfl (Or.inl rfl) pe_dnewK))
      (pss_cons (ps_eq h5_ (ps_for PassesOwn.never rfl (pi_enumK K rfl henumerate (pa_cons (pv 4) pa_nil)) (pg_tupK K (n:=2) rfl (pgs_cons (pg_name (i:=7) scFre.nd rfl (Or.inl rfl)) (pgs_cons (pg_name (i:=8) scFre.nd rfl (Or.inl rfl)) pgs_nil))) (pss_cons (ps_dput hu (pv 5) (pv 8) (pe_call GTxt hr rfl gTxt.m gTxt.k gTxt.b .nil pass0 (pa_cons (pv 0) (pa_cons (pe_slice (sl_listK K) (pv 4) (po_some (pe_op op_mul (pv 2) (pv 7))) po_none) (pa_cons (pe_call GTak hr1 rfl gTak.m gTak.k gTak.b .nil pass0 (pa_cons (pv 0) (pa_cons (pv 3) pa_nil))) pa_nil)))) rfl)
      (pss_one (ps_dput hu (pv 6) (pv 8) (pe_call GWei hr rfl gWei.m gWei.k gWei.b .nil pass0 (pa_cons (pv 0) (pa_cons (pv 1) pa_nil))) rfl)))))
      (pss_one (ps_eq h6_ (ps_ret (pe_tup (pa_cons (pe_call GTxt hr rfl gTxt.m gTxt.k gTxt.b .nil pass0 (pa_cons (pv 0) (pa_cons (pv 4) (pa_cons (pe_call GTak hr1 rfl gTak.m gTak.k gTak.b .nil pass0 (pa_cons (pv 0) (pa_cons pe_int pa_nil))) pa_nil)))) (pa_cons (pv 5) (pa_cons (pv 6) pa_nil))))))))))))),?_⟩
    exact fre_go hp hb q
theorem scNam:FnScope ["_law_pen_here","_law_one","_law_rest","_law_names","_law_sign","_law_words","_law_loads_here"] ["_law_pen_here","_law_one"] (defScope sNam):=⟨rfl,rfl,rfl,by decide +kernel,rfl,by decide +kernel,by decide +kernel⟩
theorem nd_nam1:(["_law_letter","_law_names"]:List Str).Nodup:=by decide +kernel
theorem nd_nam2:(["_law_letter","_law_names"]:List Str).Nodup:=by decide +kernel
theorem ok_nam {f fMix:Addr} {fd fdMix:FuncData} (F:Fun K "_law_named" "_law_named" sNam f fd)
    (GMix:FnOk P w K mg base CX0 2 fMix fdMix ["_law_pen_here","_law_things"] spMix)
    (gMix:Gf K mg "_law_mixed" fMix fdMix ["_law_pen_here","_law_things"])
    (hlist:mg "list" = none)
    (hsorted:mg "sorted" = none)
    : FnOk P w K mg base CX0 3 f fd ["_law_pen_here","_law_one"] spNam:=by
  refine F.ok scNam (fun vs H Q E h=>?_) (fun cdv A outer s H vs Q E hr h=>?_)
  · obtain ⟨p,t,d,e,b,x,us,f1,rfl,_⟩:=h
    rfl
  · obtain ⟨p,t,d,e,b,x,us,f1,rfl,hp,hb,hT,q⟩:=h
    have hu:=hu_of hr
    refine ⟨_,(pss_cons (ps_set (i:=2) scNam.nd rfl (Or.inl rfl) (pe_call GMix hr rfl gMix.m gMix.k gMix.b .nil pass0 (pa_cons (pv 0) (pa_cons (pe_callTy (call_list_text rfl) (by rfl) hlist (by first | exact PySem.boot_list | decide +kernel) (pa_cons pe_str pa_nil)) pa_nil))))
      (pss_cons (ps_set (i:=3) scNam.nd rfl (Or.inr rfl) pe_dnewK)
      (pss_cons (ps_for PassesOwn.never rfl (pi_listK K (pe_callB (call_sortTK K) (by rfl) hsorted PyProof.Rows.boot_sorted (pa_cons (pe_callTy (call_list_dict rfl) (by rfl) hlist (by first | exact PySem.boot_list | decide +kernel) (pa_cons (pe_ix (ix_tupK K) (pv 1) pe_int (fun _ _=>rfl)) pa_nil)) pa_nil))) (pg_name (i:=4) scNam.nd rfl (Or.inl rfl)) (pss_one (ps_dput hu (pv 3) (pv 4) (pe_bm0K K PySem.F.plainAttrs_list PySem.F.slot_list_pop PySem.F.type_list_pop mt_pop (pv 2)) rfl)))
      (pss_cons (ps_set (i:=5) scNam.nd rfl (Or.inl rfl) pe_dnewK)
      (pss_cons (ps_set (i:=6) scNam.nd rfl (Or.inl rfl) pe_dnewK)
      (pss_cons (ps_frz (ps_for PassesOwn.never rfl (pi_dict (pv 3)) (pg_name (i:=4) scNam.nd rfl (Or.inl rfl)) (pss_cons (ps_dput hu (pv 5) (pe_dget hu (pv 3) (pv 4) (fun _ _=>rfl)) (pe_bmK K PySem.F.plainAttrs_str PySem.F.slot_str_join PySem.F.type_str_join (mt_joinK K) pe_str (pa_cons (pe_comp (N':=["_law_letter","_law_names"]) (ix:=[none,some 3]) rfl rfl (pi_listK K (pe_call GMix hr rfl gMix.m gMix.k gMix.b .nil pass0 (pa_cons (pv 0) (pa_cons (pe_callTy (call_list_text rfl) (by rfl) hlist (by first | exact PySem.boot_list | decide +kernel) (pa_cons (pe_dget hu (pe_ix (ix_tupK K) (pv 1) pe_int (fun _ _=>rfl)) (pv 4) (fun _ _=>rfl)) pa_nil)) pa_nil)))) (fun _ _ _ _ _ _=>(pg_name (i:=0) nd_nam1 rfl (Or.inl rfl))) (fun _ _ _ _ _ _=>pts_nil) (fun _ _ _ _ _ _=>(pe_dget hu (pv 1) (pv 0) (fun _ _=>rfl)))) pa_nil)) rfl)
      (pss_one (ps_dput hu (pv 6) (pe_dget hu (pv 3) (pv 4) (fun _ _=>rfl)) (pe_dget hu (pe_ix (ix_tupK K) (pv 1) pe_int (fun _ _=>rfl)) (pv 4) (fun _ _=>rfl)) rfl)))))
      (pss_one (ps_ret (pe_tup (pa_cons (pe_bmK K PySem.F.plainAttrs_str PySem.F.slot_str_join PySem.F.type_str_join (mt_joinK K) pe_str (pa_cons (pe_comp (N':=["_law_letter","_law_names"]) (ix:=[none,some 3]) rfl rfl (pi_listK K (pe_call GMix hr rfl gMix.m gMix.k gMix.b .nil pass0 (pa_cons (pv 0) (pa_cons (pe_callTy (call_list_text rfl) (by rfl) hlist (by first | exact PySem.boot_list | decide +kernel) (pa_cons (pe_ix (ix_tupK K) (pv 1) pe_int (fun _ _=>rfl)) pa_nil)) pa_nil)))) (fun _ _ _ _ _ _=>(pg_name (i:=0) nd_nam2 rfl (Or.inl rfl))) (fun _ _ _ _ _ _=>pts_nil) (fun _ _ _ _ _ _=>(pe_dget hu (pv 1) (pv 0) (fun _ _=>rfl)))) pa_nil)) (pa_cons (pv 5) (pa_cons (pv 6) pa_nil)))))))))))),?_⟩
    exact nam_go hp hb hT q
theorem scOth:FnScope ["_law_pen_here","_law_one","_law_even","_law_pick","_law_other_here","_law_signs","_law_sign","_law_text_here","_law_spot","_law_more","_law_rest"] ["_law_pen_here","_law_one","_law_even"] (defScope sOth):=⟨rfl,rfl,rfl,by decide +kernel,rfl,by decide +kernel,by decide +kernel⟩
theorem ok_oth {f fTak fNam fFre fTxt:Addr} {fd fdTak fdNam fdFre fdTxt:FuncData} (F:Fun K "_law_other" "_law_other" sOth f fd)
    (GTak:FnOk P w K mg base CX0 1 fTak fdTak ["_law_pen_here","_law_size"] spTak)
    (gTak:Gf K mg "_law_take" fTak fdTak ["_law_pen_here","_law_size"])
    (GNam:FnOk P w K mg base CX0 3 fNam fdNam ["_law_pen_here","_law_one"] spNam)
    (gNam:Gf K mg "_law_named" fNam fdNam ["_law_pen_here","_law_one"])
    (GFre:FnOk P w K mg base CX0 3 fFre fdFre ["_law_pen_here","_law_even"] spFre)
    (gFre:Gf K mg "_law_free" fFre fdFre ["_law_pen_here","_law_even"])
    (GTxt:FnOk P w K mg base CX0 2 fTxt fdTxt ["_law_pen_here","_law_signs","_law_many"] spTxt)
    (gTxt:Gf K mg "_law_text" fTxt fdTxt ["_law_pen_here","_law_signs","_law_many"])
    (hlen:mg "len" = none)
    (hlist:mg "list" = none)
    (hsorted:mg "sorted" = none)
    : FnOk P w K mg base CX0 4 f fd ["_law_pen_here","_law_one","_law_even"] spOth:=by
  refine F.ok scOth (fun vs H Q E h=>?_) (fun cdv A outer s H vs Q E hr h=>?_)
  · obtain ⟨p,t,d,e,b,ev,x,us,f1,rfl,_⟩:=h
    rfl
  · obtain ⟨p,t,d,e,b,ev,x,us,f1,rfl,hp,hb,hT,hev,q⟩:=h
    have hr1:Room 1 _:=hr.mono (by decide)
    have hr2:Room 2 _:=hr.mono (by decide)
    have hu:=hu_of hr
    refine ⟨_,(pss_cons (ps_set (i:=3) scOth.nd rfl (Or.inl rfl) (pe_call GTak hr1 rfl gTak.m gTak.k gTak.b .nil pass0 (pa_cons (pv 0) (pa_cons pe_int pa_nil))))
      (pss_cons (ps_if (pt_cmpR op_eq (pv 3) pe_int (nomark _)) (pss_one (ps_ret (pe_call GFre hr rfl gFre.m gFre.k gFre.b .nil pass0 (pa_cons (pv 0) (pa_cons (pv 2) pa_nil))))) pss_nil)
      (pss_cons (ps_set (i:=4) scOth.nd rfl (Or.inl rfl) (pe_call GNam hr rfl gNam.m gNam.k gNam.b .nil pass0 (pa_cons (pv 0) (pa_cons (pv 1) pa_nil))))
      (pss_cons (ps_set (i:=5) scOth.nd rfl (Or.inl rfl) (pe_callB (call_sortTK K) (by rfl) hsorted PyProof.Rows.boot_sorted (pa_cons (pe_callTy (call_list_dict rfl) (by rfl) hlist (by first | exact PySem.boot_list | decide +kernel) (pa_cons (pe_ix (ix_tupK K) (pv 4) pe_int (fun _ _=>rfl)) pa_nil)) pa_nil)))
      (pss_cons (ps_if (PW.pt (pw_and (pt_cmpR op_lt (pv 3) pe_int (nomark _)) (pw_and1 (pt_cmpR (op_neL0K K hr.units) (pv 5) (pe_lst pa_nil) (nomark _))))) (pss_cons (ps_set (i:=6) scOth.nd rfl (Or.inl rfl) (pe_ix (ix_listK K) (pv 5) (pe_call GTak hr1 rfl gTak.m gTak.k gTak.b .nil pass0 (pa_cons (pv 0) (pa_cons (pe_callB (call_lenK K) (by rfl) hlen PySem.boot_len (pa_cons (pv 5) pa_nil)) pa_nil))) (fun _ _=>rfl)))
      (pss_cons (ps_set (i:=7) scOth.nd rfl (Or.inl rfl) (pe_dget hu (pe_ix (ix_tupK K) (pv 4) pe_int (fun _ _=>rfl)) (pv 6) (fun _ _=>rfl)))
      (pss_cons (ps_set (i:=8) scOth.nd rfl (Or.inl rfl) (pe_call GTak hr1 rfl gTak.m gTak.k gTak.b .nil pass0 (pa_cons (pv 0) (pa_cons (pe_op op_add (pe_callB call_len_str (by rfl) hlen PySem.boot_len (pa_cons (pv 7) pa_nil)) pe_int) pa_nil))))
      (pss_cons (ps_set (i:=9) scOth.nd rfl (Or.inl rfl) (pe_call GTxt hr2 rfl gTxt.m gTxt.k gTxt.b .nil pass0 (pa_cons (pv 0) (pa_cons (pv 5) (pa_cons (pe_call GTak hr1 rfl gTak.m gTak.k gTak.b .nil pass0 (pa_cons (pv 0) (pa_cons pe_int pa_nil))) pa_nil)))))
      (pss_cons (ps_set (i:=10) scOth.nd rfl (Or.inl rfl) (pe_slice sl_str (pv 7) (po_some (pe_op op_add (pv 8) (pe_call GTak hr1 rfl gTak.m gTak.k gTak.b .nil pass0 (pa_cons (pv 0) (pa_cons pe_int pa_nil))))) po_none))
      (pss_one (ps_dput hu (pe_ix (ix_tupK K) (pv 4) pe_int (fun _ _=>rfl)) (pv 6) (pe_slice sl_str (pe_op op_add_str (pe_op op_add_str (pe_slice sl_str (pv 7) po_none (po_some (pv 8))) (pv 9)) (pv 10)) po_none (po_some pe_int)) rfl))))))) pss_nil)
      (pss_one (ps_ret (pv 4)))))))),?_⟩
    exact oth_go hp hb hT hev q
theorem scWgs:FnScope ["_law_one","_law_ages","_law_sizes","_law_found","_law_age_here","_law_fresh","_law_sign"] ["_law_one","_law_ages"] (defScope sWgs):=⟨rfl,rfl,rfl,by decide +kernel,rfl,by decide +kernel,by decide +kernel⟩
theorem nd_wgs1:(["_law_sign","_law_sizes"]:List Str).Nodup:=by decide +kernel
theorem nd_wgs2:(["_law_letter","_law_sizes"]:List Str).Nodup:=by decide +kernel
theorem ok_wgs {f:Addr} {fd:FuncData} (F:Fun K "_law_weights" "_law_weights" sWgs f fd)
    (hrange:mg "range" = none)
    (hsum:mg "sum" = none)
    (hdict:mg "dict" = none)
    : FnOk P w K mg base CX0 1 f fd ["_law_one","_law_ages"] spWgs:=by
  refine F.ok scWgs (fun vs H Q E h=>?_) (fun cdv A outer s H vs Q E hr h=>?_)
  · obtain ⟨t,d,e,x,us,f1,M,rfl,_⟩:=h
    rfl
  · obtain ⟨t,d,e,x,us,f1,M,rfl,hO,hM,k⟩:=h
    have hu:=hu_of hr
    refine ⟨_,(pss_cons (ps_set (i:=2) scWgs.nd rfl (Or.inr rfl) (pe_callTy call_dict_dict (by rfl) hdict (by first | exact PySem.boot_dict | decide +kernel) (pa_cons (pe_ix (ix_tupK K) (pv 0) pe_int (fun _ _=>rfl)) pa_nil)))
      (pss_cons (ps_set (i:=3) scWgs.nd rfl (Or.inl rfl) (pe_lst pa_nil))
      (pss_cons (ps_for PassesOwn.never rfl (pi_range1 rfl hrange (pa_cons (pv 1) pa_nil)) (pg_name (i:=4) scWgs.nd rfl (Or.inl rfl)) (pss_cons (ps_expr (pe_bmK K PySem.F.plainAttrs_list PySem.F.slot_list_append PySem.F.type_list_append mt_append (pv 3) (pa_cons (pe_callB (call_sumK2 K rfl) (by rfl) hsum (by first | exact PySem.boot_sum | decide +kernel) (pa_cons (pe_comp (N':=["_law_sign","_law_sizes"]) (ix:=[none,some 2]) rfl rfl (pi_str (pe_ix (ix_tupK K) (pv 0) pe_int (fun _ _=>rfl))) (fun _ _ _ _ _ _=>(pg_name (i:=0) nd_wgs1 rfl (Or.inl rfl))) (fun _ _ _ _ _ _=>pts_nil) (fun _ _ _ _ _ _=>(pe_dget hu (pv 1) (pv 0) (fun _ _=>rfl)))) pa_nil)) pa_nil)))
      (pss_cons (ps_set (i:=5) scWgs.nd rfl (Or.inl rfl) pe_dnewK)
      (pss_cons (ps_frz (ps_for PassesOwn.never rfl (pi_dict (pe_ix (ix_tupK K) (pv 0) pe_int (fun _ _=>rfl))) (pg_name (i:=6) scWgs.nd rfl (Or.inl rfl)) (pss_one (ps_dput hu (pv 5) (pv 6) (pe_callB (call_sumK2 K rfl) (by rfl) hsum (by first | exact PySem.boot_sum | decide +kernel) (pa_cons (pe_comp (N':=["_law_letter","_law_sizes"]) (ix:=[none,some 2]) rfl rfl (pi_str (pe_dget hu (pe_ix (ix_tupK K) (pv 0) pe_int (fun _ _=>rfl)) (pv 6) (fun _ _=>rfl))) (fun _ _ _ _ _ _=>(pg_name (i:=0) nd_wgs2 rfl (Or.inl rfl))) (fun _ _ _ _ _ _=>pts_nil) (fun _ _ _ _ _ _=>(pe_dget hu (pv 1) (pv 0) (fun _ _=>rfl)))) pa_nil)) rfl))))
      (pss_one (ps_set (i:=2) scWgs.nd rfl (Or.inr rfl) (pv 5)))))))
      (pss_one (ps_ret (pv 3)))))),?_⟩
    exact wgs_go hO hM k
theorem scBok:FnScope ["_law_one"] ["_law_one"] (defScope sBok):=⟨rfl,rfl,rfl,by decide +kernel,rfl,by decide +kernel,by decide +kernel⟩
theorem nd_bok1:(["_law_sign","_law_one"]:List Str).Nodup:=by decide +kernel
theorem ok_bok {f:Addr} {fd:FuncData} (F:Fun K "_law_book" "_law_book" sBok f fd)
    (hlist:mg "list" = none)
    (htuple:mg "tuple" = none)
    (hsorted:mg "sorted" = none)
    : FnOk P w K mg base CX0 1 f fd ["_law_one"] spBok:=by
  refine F.ok scBok (fun vs H Q E h=>?_) (fun cdv A outer s H vs Q E hr h=>?_)
  · obtain ⟨t,d,e,x,us,f1,rfl,_⟩:=h
    rfl
  · obtain ⟨t,d,e,x,us,f1,rfl,hO,k⟩:=h
    have hu:=hu_of hr
    refine ⟨_,(pss_one (ps_ret (pe_tup (pa_cons (pe_ix (ix_tupK K) (pv 0) pe_int (fun _ _=>rfl)) (pa_cons (pe_callTy (call_tuple_ofK K) (by rfl) htuple (by first | exact PySem.boot_tuple | decide +kernel) (pa_cons (pe_comp (N':=["_law_sign","_law_one"]) (ix:=[none,some 0]) rfl rfl (pi_listK K (pe_callB (call_sortTK K) (by rfl) hsorted PyProof.Rows.boot_sorted (pa_cons (pe_callTy (call_list_dict rfl) (by rfl) hlist (by first | exact PySem.boot_list | decide +kernel) (pa_cons (pe_ix (ix_tupK K) (pv 0) pe_int (fun _ _=>rfl)) pa_nil)) pa_nil))) (fun _ _ _ _ _ _=>(pg_name (i:=0) nd_bok1 rfl (Or.inl rfl))) (fun _ _ _ _ _ _=>pts_nil) (fun _ _ _ _ _ _=>(pe_tup (pa_cons (pv 0) (pa_cons (pe_dget hu (pe_ix (ix_tupK K) (pv 1) pe_int (fun _ _=>rfl)) (pv 0) (fun _ _=>rfl)) pa_nil))))) pa_nil)) pa_nil))))),?_⟩
    exact bok_go hO k
theorem scLds:FnScope ["_law_one"] ["_law_one"] (defScope sLds):=⟨rfl,rfl,rfl,by decide +kernel,rfl,by decide +kernel,by decide +kernel⟩
theorem nd_lds1:(["_law_sign","_law_one"]:List Str).Nodup:=by decide +kernel
theorem ok_lds {f:Addr} {fd:FuncData} (F:Fun K "_law_loads" "_law_loads" sLds f fd)
    (hlist:mg "list" = none)
    (hsorted:mg "sorted" = none)
    : FnOk P w K mg base CX0 1 f fd ["_law_one"] spLds:=by
  refine F.ok scLds (fun vs H Q E h=>?_) (fun cdv A outer s H vs Q E hr h=>?_)
  · obtain ⟨t,d,e,x,x9,us,rs,f1,rfl,_⟩:=h
    rfl
  · obtain ⟨t,d,e,x,x9,us,rs,f1,rfl,hO,hG,hL,k⟩:=h
    have hu:=hu_of hr
    refine ⟨_,(pss_one (ps_ret (pe_comp (N':=["_law_sign","_law_one"]) (ix:=[none,some 0]) rfl rfl (pi_listK K (pe_callB (call_sortTK K) (by rfl) hsorted PyProof.Rows.boot_sorted (pa_cons (pe_callTy (call_list_dict rfl) (by rfl) hlist (by first | exact PySem.boot_list | decide +kernel) (pa_cons (pe_ix (ix_tupK K) (pv 0) pe_int (fun _ _=>rfl)) pa_nil)) pa_nil))) (fun _ _ _ _ _ _=>(pg_name (i:=0) nd_lds1 rfl (Or.inl rfl))) (fun _ _ _ _ _ _=>pts_nil) (fun _ _ _ _ _ _=>(pe_dget hu (pe_ix (ix_tupK K) (pv 1) pe_int (fun _ _=>rfl)) (pv 0) (fun _ _=>rfl)))))),?_⟩
    exact lds_go hO hG hL k
theorem scAge:FnScope ["_law_told"] ["_law_told"] (defScope sAge):=⟨rfl,rfl,rfl,by decide +kernel,rfl,by decide +kernel,by decide +kernel⟩
theorem ok_age {f:Addr} {fd:FuncData} (F:Fun K "_law_age" "_law_age" sAge f fd)
    (hlen:mg "len" = none)
    (hint:mg "int" = none)
    (hlist:mg "list" = none)
    (htuple:mg "tuple" = none)
    (hisinstance:mg "isinstance" = none)
    (hbool:mg "bool" = none)
    : FnOk P w K mg base CX0 1 f fd ["_law_told"] spAge:=by
  refine F.ok scAge (fun vs H Q E h=>?_) (fun cdv A outer s H vs Q E hr h=>?_)
  · obtain ⟨t,r,rfl,_⟩:=h
    rfl
  · obtain ⟨t,r,rfl,ht,k⟩:=h
    refine ⟨_,(pss_cons (ps_if (PW.pt (pw_or (pt_not (pt_val (pe_callB (call_isinstK K) (by rfl) hisinstance (show bootBuiltins "isinstance" = some (.builtin "isinstance") by decide +kernel) (pa_cons (pv 0) (pa_cons (pe_bltn (v:=.ty "tuple") (by rfl) htuple (show bootBuiltins "tuple" = some (.type "tuple") by decide +kernel) rfl) pa_nil))))) (pw_or1 (pt_cmpR op_ne (pe_callB (call_lenK K) (by rfl) hlen PySem.boot_len (pa_cons (pv 0) pa_nil)) pe_int (nomark _))))) (pss_one (ps_ret (pe_un un_neg pe_int))) pss_nil)
      (pss_cons (ps_if (PW.pt (pw_and (pt_cmpR op_eq (pe_ix (ix_tupK K) (pv 0) pe_int (fun _ _=>rfl)) pe_str (nomark _)) (pw_and1 (pt_val (pe_callB (call_isinstK K) (by rfl) hisinstance (show bootBuiltins "isinstance" = some (.builtin "isinstance") by decide +kernel) (pa_cons (pe_ix (ix_tupK K) (pv 0) pe_int (fun _ _=>rfl)) (pa_cons (pe_bltn (v:=.ty "list") (by rfl) hlist (show bootBuiltins "list" = some (.type "list") by decide +kernel) rfl) pa_nil))))))) (pss_one (ps_ret pe_int)) pss_nil)
      (pss_cons (ps_if (PW.pt (pw_or (pt_cmpR op_ne (pe_ix (ix_tupK K) (pv 0) pe_int (fun _ _=>rfl)) pe_str (nomark _)) (pw_or (pt_not (pt_val (pe_callB (call_isinstK K) (by rfl) hisinstance (show bootBuiltins "isinstance" = some (.builtin "isinstance") by decide +kernel) (pa_cons (pe_ix (ix_tupK K) (pv 0) pe_int (fun _ _=>rfl)) (pa_cons (pe_bltn (v:=.ty "int") (by rfl) hint (show bootBuiltins "int" = some (.type "int") by decide +kernel) rfl) pa_nil))))) (pw_or1 (pt_val (pe_callB (call_isinstK K) (by rfl) hisinstance (show bootBuiltins "isinstance" = some (.builtin "isinstance") by decide +kernel) (pa_cons (pe_ix (ix_tupK K) (pv 0) pe_int (fun _ _=>rfl)) (pa_cons (pe_bltn (v:=.ty "bool") (by rfl) hbool (show bootBuiltins "bool" = some (.type "bool") by decide +kernel) rfl) pa_nil)))))))) (pss_one (ps_ret (pe_un un_neg pe_int))) pss_nil)
      (pss_one (ps_ret (pe_ix (ix_tupK K) (pv 0) pe_int (fun _ _=>rfl))))))),?_⟩
    exact age_go ht k
theorem scAsk:FnScope ["_law_one","_law_other_here"] ["_law_one","_law_other_here"] (defScope sAsk):=⟨rfl,rfl,rfl,by decide +kernel,rfl,by decide +kernel,by decide +kernel⟩
theorem ok_ask {f fWe2 fBok fLds:Addr} {fd fdWe2 fdBok fdLds:FuncData} (F:Fun K "_law_asked" "_law_asked" sAsk f fd)
    (GWe2:FnOk P w K mg base CX0 9 fWe2 fdWe2 ["one","weights","other","others"] spWe2)
    (gWe2:Gf K mg "weights_alike" fWe2 fdWe2 ["one","weights","other","others"])
    (GBok:FnOk P w K mg base CX0 1 fBok fdBok ["_law_one"] spBok)
    (gBok:Gf K mg "_law_book" fBok fdBok ["_law_one"])
    (GLds:FnOk P w K mg base CX0 1 fLds fdLds ["_law_one"] spLds)
    (gLds:Gf K mg "_law_loads" fLds fdLds ["_law_one"])
    : FnOk P w K mg base CX0 10 f fd ["_law_one","_law_other_here"] spAsk:=by
  refine F.ok scAsk (fun vs H Q E h=>?_) (fun cdv A outer s H vs Q E hr h=>?_)
  · obtain ⟨t,u,d1,e1,d2,e2,x1,x2,us1,us2,g1,g2,rfl,_⟩:=h
    rfl
  · obtain ⟨t,u,d1,e1,d2,e2,x1,x2,us1,us2,g1,g2,rfl,hO1,hO2,q⟩:=h
    have hr1:Room 1 _:=hr.mono (by decide)
    refine ⟨_,(pss_one (ps_ret (pe_call GWe2 hr rfl gWe2.m gWe2.k gWe2.b .nil pass0 (pa_cons (pe_call GBok hr1 rfl gBok.m gBok.k gBok.b .nil pass0 (pa_cons (pv 0) pa_nil)) (pa_cons (pe_call GLds hr1 rfl gLds.m gLds.k gLds.b .nil pass0 (pa_cons (pv 0) pa_nil)) (pa_cons (pe_call GBok hr1 rfl gBok.m gBok.k gBok.b .nil pass0 (pa_cons (pv 1) pa_nil)) (pa_cons (pe_call GLds hr1 rfl gLds.m gLds.k gLds.b .nil pass0 (pa_cons (pv 1) pa_nil)) pa_nil))))))),?_⟩
    exact ask_go (K:=K) hO1 hO2 q
theorem scDue:FnScope ["_law_one","_law_other_here","_law_many","_law_mine","_law_theirs","_law_unlike"] ["_law_one","_law_other_here"] (defScope sDue):=⟨rfl,rfl,rfl,by decide +kernel,rfl,by decide +kernel,by decide +kernel⟩
theorem nd_due1:(["_law_age_here","_law_mine","_law_theirs"]:List Str).Nodup:=by decide +kernel
theorem ok_due {f fWgs:Addr} {fd fdWgs:FuncData} (F:Fun K "_law_due" "_law_due" sDue f fd)
    (GWgs:FnOk P w K mg base CX0 1 fWgs fdWgs ["_law_one","_law_ages"] spWgs)
    (gWgs:Gf K mg "_law_weights" fWgs fdWgs ["_law_one","_law_ages"])
    (hlen:mg "len" = none)
    (hrange:mg "range" = none)
    : FnOk P w K mg base CX0 2 f fd ["_law_one","_law_other_here"] spDue:=by
  refine F.ok scDue (fun vs H Q E h=>?_) (fun cdv A outer s H vs Q E hr h=>?_)
  · obtain ⟨t,u,d1,e1,d2,e2,x1,x2,us1,us2,g1,g2,rfl,_⟩:=h
    rfl
  · obtain ⟨t,u,d1,e1,d2,e2,x1,x2,us1,us2,g1,g2,rfl,hO1,hO2,q⟩:=h
    refine ⟨_,(pss_cons (ps_set (i:=2) scDue.nd rfl (Or.inl rfl) (pe_op op_add (pe_callB call_lenD (by rfl) hlen PySem.boot_len (pa_cons (pe_ix (ix_tupK K) (pv 0) pe_int (fun _ _=>rfl)) pa_nil)) (pe_callB call_lenD (by rfl) hlen PySem.boot_len (pa_cons (pe_ix (ix_tupK K) (pv 1) pe_int (fun _ _=>rfl)) pa_nil))))
      (pss_cons (ps_asg (pe_tup (pa_cons (pe_call GWgs hr rfl gWgs.m gWgs.k gWgs.b .nil pass0 (pa_cons (pv 0) (pa_cons (pv 2) pa_nil))) (pa_cons (pe_call GWgs hr rfl gWgs.m gWgs.k gWgs.b .nil pass0 (pa_cons (pv 1) (pa_cons (pv 2) pa_nil))) pa_nil))) (pg_tupK K (n:=2) rfl (pgs_cons (pg_name (i:=3) scDue.nd rfl (Or.inr rfl)) (pgs_cons (pg_name (i:=4) scDue.nd rfl (Or.inr rfl)) pgs_nil))))
      (pss_cons (ps_setC (i:=5) (N':=["_law_age_here","_law_mine","_law_theirs"]) (ix:=[none,some 3,some 4]) scDue.nd rfl rfl rfl rfl (pi_range1 rfl hrange (pa_cons (pv 2) pa_nil)) (fun _ _ _ _ _ _=>(pg_name (i:=0) nd_due1 rfl (Or.inl rfl))) (fun _ _ _ _ _ _=>(pts_one (pt_cmpR op_ne (pe_ix (ix_listK K) (pv 1) (pv 0) (fun _ _=>rfl)) (pe_ix (ix_listK K) (pv 2) (pv 0) (fun _ _=>rfl)) (nomark _)))) (fun _ _ _ _ _ _=>(pv 0)))
      (pss_one (ps_ret (pe_ix (ix_listK K) (pe_op op_cat (pv 5) (pe_lst (pa_cons pe_int pa_nil))) pe_int (fun _ _=>rfl))))))),?_⟩
    exact due_go hO1 hO2 q
end
end Lw
namespace Lw
open PySem L2 PyProof.Rows
structure Bun where
  t:Addr
  d:Addr
  e:Addr
  x:List Nat
  us:List Rule
  f:Nat→Int
def Bun.At (B:Bun) (H:Hp):Prop:=TriOk H B.t B.d B.e B.x B.us B.f
def Bun.g (B:Bun):Nat→Int:=wtW B.us B.x B.f
def Bun.n (B:Bun):Nat:=B.us.length
def gap (B C:Bun):Int:=ageU (dO B.g C.g (B.n+C.n))
theorem Bun.At.few {B:Bun} {H:Hp} (h:B.At H):B.n≤8:=h.ws.few
theorem gap_self (B:Bun):gap B B=99:=by
  unfold gap dO
  rw [unl_self]
  rfl
theorem gap_comm (B C:Bun):gap B C=gap C B:=by
  unfold gap dO
  rw [unl_comm,Nat.add_comm]
theorem gap_is {B C:Bun} {H:Hp} (hB:B.At H) (hC:C.At H) (hr1:HasRs B.us B.x) (hr2:HasRs C.us C.x):(gap B C=99∧∀ i,B.g i=C.g i)∨∃ n:Nat,gap B C=(n:Int)∧n < 16∧B.g n≠C.g n∧∀ i,i < n→B.g i=C.g i:=by
  obtain ⟨rs1,hG1,hL1⟩:=hr1
  obtain ⟨rs2,hG2,hL2⟩:=hr2
  have f1:=hB.few
  have f2:=hC.few
  have e1:wgt rs1 B.x ((ltr rs1).map B.f)=B.g:=wgt_wtW hB.ws hG1 hL1
  have e2:wgt rs2 C.x ((ltr rs2).map C.f)=C.g:=wgt_wtW hC.ws hG2 hL2
  refine dO_is (by omega) fun h i=>?_
  rw [← e1,← e2]
  refine wgt_ever (fun i hi=>?_) i
  rw [e1,e2]
  exact h i (by rw [hL1.len,hL2.len] at hi;exact hi)
theorem law_go {K:PySem.W.Frag} {Q:VK} {H:Hp} {a:Addr} {ns:List Int} (hS:SqL K H a (ns.map V.int)) (h63:ns.length≤63) (k:∀ H',Q (.bl true) H') :
    tSeq (tAsg (tCall (spPen K) [] E0 (tCons (tVar 0) (tCons (tC (V.int 0)) tNil))) (gName 1))
    (tSeq (tAsg (tOp rEq (tCall spTak [] E0 (tCons (tVar 1) (tCons (tC (V.int 2)) tNil))) (tC (V.int 0))) (gName 2))
      (tSeq (tAsg (tCall spFre [] E0 (tCons (tVar 1) (tCons (tVar 2) tNil))) (gName 3))
        (tSeq (tAsg (tCall spOth [] E0 (tCons (tVar 1) (tCons (tVar 3) (tCons (tVar 2) tNil)))) (gName 4))
          (tSeq
            (tAsg
              (tCall spOth [] E0
                (tCons (tVar 1)
                  (tCons
                    (tOp (rIxL K) (tLst (tCons (tVar 3) (tCons (tVar 4) tNil)))
                      (tCall spTak [] E0 (tCons (tVar 1) (tCons (tC (V.int 2)) tNil))))
                    (tCons (tVar 2) tNil))))
              (gName 5))
            (tSeq (tAsg (tLst tNil) (gName 6))
              (tSeq
                (tFor
                  (iList K
                    (tLst
                      (tCons (tTup (tCons (tVar 3) (tCons (tVar 4) tNil)))
                        (tCons (tTup (tCons (tVar 4) (tCons (tVar 5) tNil)))
                          (tCons (tTup (tCons (tVar 5) (tCons (tVar 3) tNil))) tNil)))))
                  (gTup K 2 (gCons (gName 7) (gCons (gName 8) gNil)))
                  (tSeq
                    (tAsg (tCall spAge [] E0 (tCons (tCall spAsk [] E0 (tCons (tVar 7) (tCons (tVar 8) tNil))) tNil))
                      (gName 9))
                    (tSeq
                      (tIfS
                        (tOr (tTest (tOp rNe (tVar 9) (tCall spDue [] E0 (tCons (tVar 7) (tCons (tVar 8) tNil)))))
                          (tTest
                            (tOp rNe
                              (tCall spAge [] E0
                                (tCons (tCall spAsk [] E0 (tCons (tVar 8) (tCons (tVar 7) tNil))) tNil))
                              (tVar 9))))
                        (tRet (tC (V.bl false))) tNext)
                      (tSeq
                        (tIfS
                          (tAnd (tB (tVar 2))
                            (tTest
                              (tOp (rSameV K false)
                                (tCall spLe2 [] E0
                                  (tCons (tCall spBok [] E0 (tCons (tVar 7) tNil))
                                    (tCons (tCall spBok [] E0 (tCons (tVar 8) tNil)) tNil)))
                                (tCall spAsk [] E0 (tCons (tVar 7) (tCons (tVar 8) tNil))))))
                          (tRet (tC (V.bl false))) tNext)
                        (tSeq
                          (tIfS
                            (tTest
                              (tOp rNe
                                (tCall spAge [] E0
                                  (tCons (tCall spAsk [] E0 (tCons (tVar 7) (tCons (tVar 7) tNil))) tNil))
                                (tC (V.int 99))))
                            (tRet (tC (V.bl false))) tNext)
                          (tDrop (tBM K "list" rAppend (tVar 6) (tCons (tVar 9) tNil))))))))
                (tSeq
                  (tIfS
                    (tTest
                      (tOp (rI0 fun i j=>V.bl (decide (i < j)))
                        (tBM K "list" (rCntI K) (tVar 6) (tCons (tCB (rMin1 K) (tCons (tVar 6) tNil)) tNil))
                        (tC (V.int 2))))
                    (tRet (tC (V.bl false))) tNext)
                  (tSeq (tAsg (tCall spAsk [] E0 (tCons (tVar 3) (tCons (tVar 4) tNil))) (gName 10))
                    (tSeq (tAsg (tCall spAsk [] E0 (tCons (tVar 3) (tCons (tVar 4) tNil))) (gName 11))
                      (tSeq
                        (tIfS
                          (tTest (tOp rEq (tOp (rIxT K) (tVar 10) (tC (V.int 0))) (tC (V.str (Str.ofString "alike")))))
                          (tSeq (tDrop (tBM0 K "list" rClear (tOp (rIxT K) (tVar 10) (tC (V.int 1)))))
                            (tDrop
                              (tBM K "list" rAppend (tOp (rIxT K) (tVar 10) (tC (V.int 1)))
                                (tCons (tC (V.int 7)) tNil))))
                          tNext)
                        (tRet
                          (tOp (rSameV K true) (tCall spAsk [] E0 (tCons (tVar 3) (tCons (tVar 4) tNil)))
                            (tVar 11)))))))))))))
    { nx:=fun x H'=>Q V.non H',rt:=Q }
    (L2.start
      [Str.ofString "_law_script",Str.ofString "_law_pen_here",Str.ofString "_law_even",Str.ofString "_law_one",
        Str.ofString "_law_second",Str.ofString "_law_third",Str.ofString "_law_ages",Str.ofString "_law_left",
        Str.ofString "_law_right",Str.ofString "_law_age_here",Str.ofString "_law_told",Str.ofString "_law_again"]
      [V.ref a])
    H:=by
  refine ⟨_,rfl,a,ns,0,rfl,hS,h63,by decide,by decide,fun p H1 s1 n1 hP1=>?_⟩
  refine ⟨_,rfl,p,0,_,rfl,hP1,by decide,by decide,by decide,fun z H2 _ _ hP2 _=>⟨rfl,?_⟩⟩
  generalize decide (V.int z=V.int 0)=ev
  clear hP1 n1 s1 hS h63
  refine ⟨_,rfl,_,rfl,p,1,ev,rfl,hP2,by decide,fun t1 d1 e1 x1 us1 f1 H3 _ _ _ _ hP3 h1 o1=>?_⟩
  refine ⟨_,rfl,_,rfl,_,rfl,p,t1,d1,e1,_,ev,x1,us1,f1,rfl,hP3,by decide,h1,o1,fun t2 d2 e2 x2 us2 f2 H4 _ _ B4 hP4 h2 o2=>?_⟩
  have h1:=h1.but hP3 B4
  dsimp only [gName]
  refine seq_by (fun σ' H'=>∃ B1 B2 B3:Bun,σ'=[some (.ref a),some (.ref p),some (.bl ev),some (.ref B1.t),some (.ref B2.t),some (.ref B3.t),none,none,none,none,none,none]∧B1.At H'∧B2.At H'∧B3.At H'∧Ones ev B1.us B1.f∧Ones ev B2.us B2.f∧Ones ev B3.us B3.f) (fun nx hnx=>?_) ?_
  · refine ⟨_,rfl,_,rfl,_,rfl,szl (show 2≤1000 by decide),fun L nL=>?_⟩
    have sL:=Same.add (o:=.lst [.ref t1,.ref t2]) nL
    have nLp:L≠p:=by obtain ⟨o,ho⟩:=hP4.some;exact (ne_of_none ho nL).symm
    refine ⟨_,rfl,p,_,_,rfl,hP4.other (upd_ne nLp.symm),by decide,by decide,by decide,fun z H5 z0 z1 hP5 e5=>?_⟩
    have B45:But p H4 H5:=(But.same sL).trans (but3 e5)
    have h1:=h1.but hP4 B45
    have h2:=h2.but hP4 B45
    have hL5:=(e5 L nLp).trans upd_same
    obtain ⟨j,rfl⟩:∃ m:Nat,z=(m:Int):=⟨z.toNat,by omega⟩
    match j with
    | 0 =>
      refine ⟨L,_,_,.ref t1,rfl,rfl,SqL.of hL5,atI_nat (j:=0) rfl,_,rfl,p,t1,d1,e1,_,ev,x1,us1,f1,rfl,hP5,by decide,h1,o1,fun t3 d3 e3 x3 us3 f3 H6 _ _ B6 _ h3 o3=>?_⟩
      exact hnx _ _ ⟨⟨t1,d1,e1,x1,us1,f1⟩,⟨t2,d2,e2,x2,us2,f2⟩,⟨t3,d3,e3,x3,us3,f3⟩,rfl,h1.but hP5 B6,h2.but hP5 B6,h3,o1,o2,o3⟩
    | 1 =>
      refine ⟨L,_,_,.ref t2,rfl,rfl,SqL.of hL5,atI_nat (j:=1) rfl,_,rfl,p,t2,d2,e2,_,ev,x2,us2,f2,rfl,hP5,by decide,h2,o2,fun t3 d3 e3 x3 us3 f3 H6 _ _ B6 _ h3 o3=>?_⟩
      exact hnx _ _ ⟨⟨t1,d1,e1,x1,us1,f1⟩,⟨t2,d2,e2,x2,us2,f2⟩,⟨t3,d3,e3,x3,us3,f3⟩,rfl,h1.but hP5 B6,h2.but hP5 B6,h3,o1,o2,o3⟩
    | j+2=>omega
  rintro σ H5 ⟨B1,B2,B3,rfl,h1,h2,h3,o1,o2,o3⟩
  refine ⟨szl (show 0≤1000 by decide),fun lA nA=>?_⟩
  have sA:=Same.add (o:=.lst []) nA
  refine ⟨_,rfl,_,rfl,szl (show 2≤1000 by decide),fun T1 nT1=>?_⟩
  have sT1:=Same.add (o:=.tup [.ref B1.t,.ref B2.t]) nT1
  refine ⟨_,rfl,_,rfl,szl (show 2≤1000 by decide),fun T2 nT2=>?_⟩
  have sT2:=Same.add (o:=.tup [.ref B2.t,.ref B3.t]) nT2
  refine ⟨_,rfl,_,rfl,szl (show 2≤1000 by decide),fun T3 nT3=>?_⟩
  have sT3:=Same.add (o:=.tup [.ref B3.t,.ref B1.t]) nT3
  refine ⟨szl (show 3≤1000 by decide),fun LL nLL=>?_⟩
  have sLL:=Same.add (o:=.lst [.ref T1,.ref T2,.ref T3]) nLL
  have g1:=sLL _ _ (sT3 _ _ (sT2 _ _ upd_same))
  have g2:=sLL _ _ (sT3 _ _ upd_same)
  have g3:=sLL _ _ upd_same
  have gA:=sLL _ _ (sT3 _ _ (sT2 _ _ (sT1 _ _ upd_same)))
  have gL:=upd_same (H:=upd (upd (upd (upd H5 lA (.lst [])) T1 (.tup [.ref B1.t,.ref B2.t])) T2 (.tup [.ref B2.t,.ref B3.t])) T3 (.tup [.ref B3.t,.ref B1.t])) (a:=LL) (o:=.lst [.ref T1,.ref T2,.ref T3])
  have nLA:LL≠lA:=(ne_of_none (sT3 _ _ (sT2 _ _ (sT1 _ _ upd_same))) nLL).symm
  have s56:=sA.trans (sT1.trans (sT2.trans (sT3.trans sLL)))
  have h1:B1.At _:=TriOk.same h1 s56
  have h2:B2.At _:=TriOk.same h2 s56
  have h3:B3.At _:=TriOk.same h3 s56
  revert g1 g2 g3 gA gL h1 h2 h3
  generalize upd (upd (upd (upd (upd H5 lA (.lst [])) T1 (.tup [.ref B1.t,.ref B2.t])) T2 (.tup [.ref B2.t,.ref B3.t])) T3 (.tup [.ref B3.t,.ref B1.t])) LL (.lst [.ref T1,.ref T2,.ref T3])=H6
  clear nA sA nT1 sT1 nT2 sT2 nT3 sT3 nLL sLL s56
  intro g1 g2 g3 gA gL h1 h2 h3
  have hAt:∀ {B:Bun} {Hx:Hp},B.At H6→(∀ a z,a≠lA→H6 a=some z→Hx a=some z)→B.At Hx:=fun {B Hx} hB kx=>by
    have nt:B.t≠lA:=fun y=>by have:=hB.t;rw [y,gA] at this;cases this
    have nd:B.d≠lA:=fun y=>by have:=hB.d;rw [y,gA] at this;cases this
    have ne:B.e≠lA:=fun y=>by have:=hB.e;rw [y,gA] at this;cases this
    exact ⟨⟨kx _ _ nt hB.t,kx _ _ nd hB.d,kx _ _ ne hB.e⟩,hB.ws,hB.xl,hB.xi,hB.fb⟩
  have hPL:∀ q∈[(B1,B2),(B2,B3),(B3,B1)],q.1.At H6∧q.2.At H6∧Ones ev q.1.us q.1.f∧Ones ev q.2.us q.2.f:=fun q hq=>by
    simp only [List.mem_cons,List.not_mem_nil,or_false] at hq
    rcases hq with rfl | rfl | rfl
    · exact ⟨h1,h2,o1,o2⟩
    · exact ⟨h2,h3,o2,o3⟩
    · exact ⟨h3,h1,o3,o1⟩
  have hTs:∀ (i:Nat) (y:V),([.ref T1,.ref T2,.ref T3]:List V)[i]? = some y→∃ T q,y=.ref T∧[(B1,B2),(B2,B3),(B3,B1)][i]? = some q∧H6 T=some (.tup [.ref q.1.t,.ref q.2.t]):=fun i y hy=>by
    match i with
    | 0=>cases hy;exact ⟨T1,_,rfl,rfl,g1⟩
    | 1=>cases hy;exact ⟨T2,_,rfl,rfl,g2⟩
    | 2=>cases hy;exact ⟨T3,_,rfl,rfl,g3⟩
    | i+3=>simp at hy
  have eN:(!decide (V.int 99=V.int 99))=false:=by rw [decide_eq_true rfl];rfl
  have hl3:[(B1,B2),(B2,B3),(B3,B1)].length=3:=rfl
  have hend:([(B1,B2),(B2,B3),(B3,B1)].take 3).map (fun q=>gap q.1 q.2)=[gap B1 B2,gap B2 B3,gap B3 B1]:=rfl
  have hthree:∀ P:Bun × Bun→Prop,(∀ q∈[(B1,B2),(B2,B3),(B3,B1)].take 3,P q)→P (B1,B2)∧P (B2,B3)∧P (B3,B1):=fun P h=>⟨h _ (by simp),h _ (by simp),h _ (by simp)⟩
  revert hPL hTs hl3 hend hthree
  generalize [(B1,B2),(B2,B3),(B3,B1)]=PL
  intro hPL hTs hl3 hend hthree
  refine ⟨LL,rfl,⟨_,SqL.of gL⟩,?_⟩
  refine for_by (sure_list (xs:=[.ref T1,.ref T2,.ref T3])) (fun i σ H7=>∃ v7 v8 v9,σ=[some (.ref a),some (.ref p),some (.bl ev),some (.ref B1.t),some (.ref B2.t),some (.ref B3.t),some (.ref lA),v7,v8,v9,none,none]∧(∀ q∈PL.take i,HasRs q.1.us q.1.x∧HasRs q.2.us q.2.x)∧(∀ a z,a≠lA→H6 a=some z→H7 a=some z)∧H7 lA=some (.lst (((PL.take i).map fun q=>gap q.1 q.2).map V.int)))
    ⟨none,none,none,rfl,(fun q hq=>by cases hq),fun _ _ _ h=>h,gA⟩ ?_ ?_ ?_
  · rintro i σ H7 hi ⟨v7,v8,v9,rfl,hrs,k7,hA7⟩
    exact SqL.of (k7 _ _ nLA gL)
  · rintro i y σ H7 hy ⟨v7,v8,v9,rfl,hrs,k7,hA7⟩
    obtain ⟨T,q,rfl,eq,hT⟩:=hTs i y hy
    obtain ⟨b1,b2,ol,orr⟩:=hPL q (List.mem_of_getElem? eq)
    obtain ⟨l,r⟩:=q
    have nTA:T≠lA:=fun y=>by rw [y,gA] at hT;cases hT
    have hi3:i < 3:=by rw [← hl3];exact (List.getElem?_eq_some_iff.mp eq).1
    have hl:=hAt b1 k7
    have hr:=hAt b2 k7
    refine ⟨T,_,rfl,SqT.of (k7 _ _ nTA hT),rfl,_,_,rfl,_,_,rfl,rfl,?_⟩
    refine ⟨_,rfl,_,rfl,l.t,r.t,l.d,l.e,r.d,r.e,l.x,r.x,l.us,r.us,l.f,r.f,rfl,hl,hr,fun tt rr H8 s8 _ n8 d8 hrl hrr=>⟨tt,rr,rfl,n8.at,?_⟩⟩
    have eag:ageOf rr=gap l r:=d8.age
    rw [eag]
    have eNg:(!decide (V.int (gap l r)=V.int (gap l r)))=false:=by rw [decide_eq_true rfl];rfl
    have hl8:l.At H8:=TriOk.same hl s8
    have hr8:r.At H8:=TriOk.same hr s8
    refine ⟨_,rfl,_,rfl,_,rfl,l.t,r.t,l.d,l.e,r.d,r.e,l.x,r.x,l.us,r.us,l.f,r.f,rfl,hl8,hr8,fun H9 s9=>⟨rfl,?_⟩⟩
    have eN1:(!decide (V.int (gap l r)=V.int (ageU (dO (wtW l.us l.x l.f) (wtW r.us r.x r.f) (l.us.length+r.us.length)))))=false:=eNg
    rw [eN1]
    refine ⟨_,rfl,iteF ?_⟩
    have s79:=s8.trans s9
    have hl9:l.At H9:=TriOk.same hl8 s9
    have hr9:r.At H9:=TriOk.same hr8 s9
    refine ⟨_,rfl,_,rfl,r.t,l.t,r.d,r.e,l.d,l.e,r.x,l.x,r.us,l.us,r.f,l.f,rfl,hr9,hl9,fun tt2 rr2 HA sA _ nA dA _ _=>⟨tt2,rr2,rfl,nA.at,_,rfl,rfl,?_⟩⟩
    rw [show ageOf rr2=gap l r from dA.age.trans (gap_comm r l),eNg]
    refine ⟨_,rfl,iteF ?_⟩
    have s7A:=s79.trans sA
    have hlA:l.At HA:=TriOk.same hl9 sA
    have hrA:r.At HA:=TriOk.same hr9 sA
    dsimp only [tNext]
    refine seq_by (fun σ' H'=>σ'=[some (.ref a),some (.ref p),some (.bl ev),some (.ref B1.t),some (.ref B2.t),some (.ref B3.t),some (.ref lA),some (.ref l.t),some (.ref r.t),some (.int (gap l r)),none,none]∧Same HA H') (fun nx hnx=>?_) ?_
    · refine ⟨_,rfl,ev,rfl,?_⟩
      cases ev with
      | false=>exact iteF (iteF (hnx _ _ ⟨rfl,Same.refl _⟩))
      | true =>
        refine iteT ?_
        refine ⟨_,rfl,l.t,l.d,l.e,l.x,l.us,l.f,rfl,hlA,fun b1 rs1 HB sB hB1 hG1 hL1=>?_⟩
        refine ⟨_,rfl,r.t,r.d,r.e,r.x,r.us,r.f,rfl,TriOk.same hrA sB,fun b2 rs2 HC sC hB2 hG2 hL2=>?_⟩
        have sBC:=sB.trans sC
        refine ⟨b1,b2,l.x,r.x,rs1,rs2,rfl,hB1.mono (TupS.same sC),hG1,hB2,hG2,fun tt3 HD sD nD hT3=>?_⟩
        have c1:lenC rs1 l.x=wtW l.us l.x l.f:=(wgt_ones fun c hc=>ol rfl c ((hL1.mem c).mp hc)).symm.trans (wgt_wtW hlA.ws hG1 hL1)
        have c2:lenC rs2 r.x=wtW r.us r.x r.f:=(wgt_ones fun c hc=>orr rfl c ((hL2.mem c).mp hc)).symm.trans (wgt_wtW hrA.ws hG2 hL2)
        obtain ⟨r3,n3,d3⟩:=hT3.is hG1 hL1 hG2 hL2 c1 c2 nD (Same.refl _)
        have sAD:=sBC.trans sD
        refine ⟨_,rfl,_,rfl,l.t,r.t,l.d,l.e,r.d,r.e,l.x,r.x,l.us,r.us,l.f,r.f,rfl,TriOk.same hlA sAD,TriOk.same hrA sAD,fun tt4 r4 HE sE _ n4 d4 _ _=>?_⟩
        have e34:=d3.one d4
        subst e34
        exact ⟨1,tt3,tt4,rfl,rfl,(n3.at.same sE).vs n4.at,by omega,_,rfl,iteF (hnx _ _ ⟨rfl,sAD.trans sE⟩)⟩
    rintro σ HB ⟨rfl,sB⟩
    have s7B:=s7A.trans sB
    refine ⟨_,rfl,_,rfl,l.t,l.t,l.d,l.e,l.d,l.e,l.x,l.x,l.us,l.us,l.f,l.f,rfl,TriOk.same hlA sB,TriOk.same hlA sB,fun tt5 r5 HC sC _ n5 d5 _ _=>⟨tt5,r5,rfl,n5.at,rfl,?_⟩⟩
    rw [show ageOf r5=99 from d5.age.trans (gap_self l),eN]
    refine ⟨_,rfl,iteF ?_⟩
    have s7C:=s7B.trans sC
    have hAC:=s7C _ _ hA7
    refine ⟨_,rfl,.inl ⟨rfl,_,SqL.of hAC⟩,_,rfl,lA,_,_,rfl,rfl,hAC,Nat.lt_of_lt_of_le (show _ < 10000 by rw [List.length_map,List.length_map,List.length_take];omega) (by decide),?_⟩
    refine ⟨_,_,_,rfl,fun q hq=>?_,fun b o n h=>by rw [upd_ne n];exact s7C _ _ (k7 b o n h),?_⟩
    · rw [List.take_add_one,eq] at hq
      rcases List.mem_append.mp hq with h | h
      · exact hrs q h
      · rw [List.mem_singleton.mp h];exact ⟨hrl,hrr⟩
    · rw [upd_same,take_snoc (fun q=>gap q.1 q.2) eq,List.map_append]
      rfl
  rintro σ H7 ⟨v7,v8,v9,rfl,hrs,k7,hA7⟩
  have hxl:([.ref T1,.ref T2,.ref T3]:List V).length=3:=rfl
  rw [hxl] at hrs hA7
  rw [hend] at hA7
  obtain ⟨⟨r1,r2⟩,⟨_,r3⟩,_⟩:=hthree _ hrs
  have h1:=hAt h1 k7
  have h2:=hAt h2 k7
  have h3:=hAt h3 k7
  have three:=three_ages (gap_is h1 h2 r1 r2) (gap_is h2 h3 r2 r3) (gap_is h3 h1 r3 r1)
  refine ⟨_,rfl,.inl ⟨rfl,_,SqL.of hA7⟩,_,rfl,lA,_,rfl,SqL.of hA7,by simp,fun m hm1 hm2=>⟨lA,_,m,rfl,rfl,SqL.of hA7,_,_,rfl,rfl,_,rfl,?_⟩⟩
  have hc:=three m hm1 hm2
  rw [decide_eq_false (show ¬ ((([gap B1 B2,gap B2 B3,gap B3 B1]:List Int).count m:Nat):Int) < 2 by omega)]
  refine iteF ?_
  clear hthree hrs three hc hm1 hm2 hend hl3 hTs hPL gL gA g1 g2 g3 hAt
  refine ⟨_,rfl,_,rfl,B1.t,B2.t,B1.d,B1.e,B2.d,B2.e,B1.x,B2.x,B1.us,B2.us,B1.f,B2.f,rfl,h1,h2,fun tt r H8 s8 _ n8 d8 _ _=>?_⟩
  have h1:B1.At H8:=TriOk.same h1 s8
  have h2:B2.At H8:=TriOk.same h2 s8
  refine ⟨_,rfl,_,rfl,B1.t,B2.t,B1.d,B1.e,B2.d,B2.e,B1.x,B2.x,B1.us,B2.us,B1.f,B2.f,rfl,h1,h2,fun ta r' H9 s9 _ n9 d9 _ _=>?_⟩
  have er:=d8.one d9
  subst er
  have h1:B1.At H9:=TriOk.same h1 s9
  have h2:B2.At H9:=TriOk.same h2 s9
  have eP:(decide (V.str (Str.ofString "part")=V.str (Str.ofString "alike")))=false:=by decide +kernel
  have eA:(decide (V.str (Str.ofString "alike")=V.str (Str.ofString "alike")))=true:=decide_eq_true rfl
  dsimp only [gName]
  refine seq_by (fun σ' H'=>σ'=[some (.ref a),some (.ref p),some (.bl ev),some (.ref B1.t),some (.ref B2.t),some (.ref B3.t),some (.ref lA),v7,v8,v9,some (.ref tt),some (.ref ta)]∧B1.At H'∧B2.At H'∧TldAt H' ta r) (fun nx hnx=>?_) ?_
  · have ht:=n8.at.same s9
    cases r with
    | part n =>
      refine ⟨_,rfl,tt,_,_,_,rfl,rfl,SqT.of ht,atI_nat (j:=0) rfl,rfl,?_⟩
      rw [eP]
      exact ⟨_,rfl,iteF (hnx _ _ ⟨rfl,h1,h2,n9.at⟩)⟩
    | alike c =>
      obtain ⟨e8,p8,pe8⟩:=n8.at
      have p1:=s9 _ _ p8
      have pe:=s9 _ _ pe8
      have nte:tt≠e8:=fun y=>by rw [y,pe] at p1;cases p1
      refine ⟨_,rfl,tt,_,_,_,rfl,rfl,SqT.of p1,atI_nat (j:=0) rfl,rfl,?_⟩
      rw [eA]
      refine ⟨_,rfl,iteT ?_⟩
      refine ⟨_,rfl,tt,_,_,_,rfl,rfl,SqT.of p1,atI_nat (j:=1) rfl,.inl ⟨rfl,_,SqL.of pe⟩,e8,_,rfl,rfl,pe,?_⟩
      have p2:upd H9 e8 (.lst []) tt=some (.tup [V.str (Str.ofString "alike"),.ref e8]):=by rw [upd_ne nte];exact p1
      have pe2:upd H9 e8 (.lst []) e8=some (.lst []):=upd_same
      refine ⟨_,rfl,tt,_,_,_,rfl,rfl,SqT.of p2,atI_nat (j:=1) rfl,.inl ⟨rfl,_,SqL.of pe2⟩,e8,_,_,rfl,rfl,pe2,by decide,?_⟩
      have kx:∀ x z,x≠e8→H9 x=some z→upd (upd H9 e8 (.lst [])) e8 (.lst ([]++[V.int 7])) x=some z:=fun x z n h=>by rw [upd_ne n,upd_ne n];exact h
      have hk:∀ {B:Bun},B.At H9→B.At (upd (upd H9 e8 (.lst [])) e8 (.lst ([]++[V.int 7]))):=fun {B} hB=>by
        have nt:B.t≠e8:=fun y=>by have:=hB.t;rw [y,pe] at this;cases this
        have nd:B.d≠e8:=fun y=>by have:=hB.d;rw [y,pe] at this;cases this
        have ne:B.e≠e8:=fun y=>by have:=hB.e;rw [y,pe] at this;cases this
        exact ⟨⟨kx _ _ nt hB.t,kx _ _ nd hB.d,kx _ _ ne hB.e⟩,hB.ws,hB.xl,hB.xi,hB.fb⟩
      exact hnx _ _ ⟨rfl,hk h1,hk h2,n9 _ fun x z h0 h=>kx x z (fun y=>by rw [y,pe8] at h0;cases h0) h⟩
  rintro σ HB ⟨rfl,h1,h2,hta⟩
  refine ⟨_,rfl,_,rfl,B1.t,B2.t,B1.d,B1.e,B2.d,B2.e,B1.x,B2.x,B1.us,B2.us,B1.f,B2.f,rfl,h1,h2,fun tf r' HC sC _ nC dC _ _=>?_⟩
  have er:=d8.one dC
  subst er
  exact ⟨_,rfl,1,tf,ta,rfl,rfl,nC.at.vs (hta.same sC),by omega,k _⟩
end Lw
namespace Lw
open PySem L2 PyProof.Rows
section
variable {P:Program} {w:World} {K:PySem.W.Frag} {mg:Str→Option Value} {base:Heap}
def spLaw (K:PySem.W.Frag):Sp:=fun vs H Q _=>∃ (a:Addr) (ns:List Int),vs=[.ref a]∧SqL K H a (ns.map V.int)∧ns.length≤63∧∀ H',Q (.bl true) H'
theorem scLaw:FnScope ["_law_script","_law_pen_here","_law_even","_law_one","_law_second","_law_third","_law_ages","_law_left","_law_right","_law_age_here","_law_told","_law_again"] ["_law_script"] (defScope sLaw):=⟨rfl,rfl,rfl,by decide +kernel,rfl,by decide +kernel,by decide +kernel⟩
theorem ok_law {f fPen fFre fOth fAsk fTak fAge fDue fLe2 fBok:Addr} {fd fdPen fdFre fdOth fdAsk fdTak fdAge fdDue fdLe2 fdBok:FuncData} (F:Fun K "law" "law" sLaw f fd)
    (GPen:FnOk P w K mg base CX0 1 fPen fdPen ["_law_script","_law_k"] (spPen K))
    (gPen:Gf K mg "_law_pen" fPen fdPen ["_law_script","_law_k"])
    (GFre:FnOk P w K mg base CX0 3 fFre fdFre ["_law_pen_here","_law_even"] spFre)
    (gFre:Gf K mg "_law_free" fFre fdFre ["_law_pen_here","_law_even"])
    (GOth:FnOk P w K mg base CX0 4 fOth fdOth ["_law_pen_here","_law_one","_law_even"] spOth)
    (gOth:Gf K mg "_law_other" fOth fdOth ["_law_pen_here","_law_one","_law_even"])
    (GAsk:FnOk P w K mg base CX0 10 fAsk fdAsk ["_law_one","_law_other_here"] spAsk)
    (gAsk:Gf K mg "_law_asked" fAsk fdAsk ["_law_one","_law_other_here"])
    (GTak:FnOk P w K mg base CX0 1 fTak fdTak ["_law_pen_here","_law_size"] spTak)
    (gTak:Gf K mg "_law_take" fTak fdTak ["_law_pen_here","_law_size"])
    (GAge:FnOk P w K mg base CX0 1 fAge fdAge ["_law_told"] spAge)
    (gAge:Gf K mg "_law_age" fAge fdAge ["_law_told"])
    (GDue:FnOk P w K mg base CX0 2 fDue fdDue ["_law_one","_law_other_here"] spDue)
    (gDue:Gf K mg "_law_due" fDue fdDue ["_law_one","_law_other_here"])
    (GLe2:FnOk P w K mg base CX0 9 fLe2 fdLe2 ["one","other"] spLe2)
    (gLe2:Gf K mg "lengths_alike" fLe2 fdLe2 ["one","other"])
    (GBok:FnOk P w K mg base CX0 1 fBok fdBok ["_law_one"] spBok)
    (gBok:Gf K mg "_law_book" fBok fdBok ["_law_one"])
    (hmin:mg "min" = none)
    : FnOk P w K mg base CX0 11 f fd ["_law_script"] (spLaw K):=by
  refine F.ok scLaw (fun vs H Q E h=>?_) (fun cdv A outer s H vs Q E hr h=>?_)
  · obtain ⟨a,ns,rfl,_⟩:=h
    rfl
  · obtain ⟨a,ns,rfl,hS,h63,k⟩:=h
    have hr1:Room 1 _:=hr.mono (by decide)
    have hr2:Room 2 _:=hr.mono (by decide)
    have hr3:Room 3 _:=hr.mono (by decide)
    have hr4:Room 4 _:=hr.mono (by decide)
    have hr9:Room 9 _:=hr.mono (by decide)
    refine ⟨_,(pss_cons (ps_set (i:=1) scLaw.nd rfl (Or.inl rfl) (pe_call GPen hr1 rfl gPen.m gPen.k gPen.b .nil pass0 (pa_cons (pv 0) (pa_cons pe_int pa_nil))))
      (pss_cons (ps_set (i:=2) scLaw.nd rfl (Or.inl rfl) (pe_cmpR op_eq (pe_call GTak hr1 rfl gTak.m gTak.k gTak.b .nil pass0 (pa_cons (pv 1) (pa_cons pe_int pa_nil))) pe_int (nomark _)))
      (pss_cons (ps_set (i:=3) scLaw.nd rfl (Or.inl rfl) (pe_call GFre hr3 rfl gFre.m gFre.k gFre.b .nil pass0 (pa_cons (pv 1) (pa_cons (pv 2) pa_nil))))
      (pss_cons (ps_set (i:=4) scLaw.nd rfl (Or.inl rfl) (pe_call GOth hr4 rfl gOth.m gOth.k gOth.b .nil pass0 (pa_cons (pv 1) (pa_cons (pv 3) (pa_cons (pv 2) pa_nil)))))
      (pss_cons (ps_set (i:=5) scLaw.nd rfl (Or.inl rfl) (pe_call GOth hr4 rfl gOth.m gOth.k gOth.b .nil pass0 (pa_cons (pv 1) (pa_cons (pe_ix (ix_listK K) (pe_lst (pa_cons (pv 3) (pa_cons (pv 4) pa_nil))) (pe_call GTak hr1 rfl gTak.m gTak.k gTak.b .nil pass0 (pa_cons (pv 1) (pa_cons pe_int pa_nil))) (fun _ _=>rfl)) (pa_cons (pv 2) pa_nil)))))
      (pss_cons (ps_set (i:=6) scLaw.nd rfl (Or.inl rfl) (pe_lst pa_nil))
      (pss_cons (ps_for PassesOwn.never rfl (pi_listK K (pe_lst (pa_cons (pe_tup (pa_cons (pv 3) (pa_cons (pv 4) pa_nil))) (pa_cons (pe_tup (pa_cons (pv 4) (pa_cons (pv 5) pa_nil))) (pa_cons (pe_tup (pa_cons (pv 5) (pa_cons (pv 3) pa_nil))) pa_nil))))) (pg_tupK K (n:=2) rfl (pgs_cons (pg_name (i:=7) scLaw.nd rfl (Or.inl rfl)) (pgs_cons (pg_name (i:=8) scLaw.nd rfl (Or.inl rfl)) pgs_nil))) (pss_cons (ps_set (i:=9) scLaw.nd rfl (Or.inl rfl) (pe_call GAge hr1 rfl gAge.m gAge.k gAge.b .nil pass0 (pa_cons (pe_call GAsk hr rfl gAsk.m gAsk.k gAsk.b .nil pass0 (pa_cons (pv 7) (pa_cons (pv 8) pa_nil))) pa_nil)))
      (pss_cons (ps_if (PW.pt (pw_or (pt_cmpR op_ne (pv 9) (pe_call GDue hr2 rfl gDue.m gDue.k gDue.b .nil pass0 (pa_cons (pv 7) (pa_cons (pv 8) pa_nil))) (nomark _)) (pw_or1 (pt_cmpR op_ne (pe_call GAge hr1 rfl gAge.m gAge.k gAge.b .nil pass0 (pa_cons (pe_call GAsk hr rfl gAsk.m gAsk.k gAsk.b .nil pass0 (pa_cons (pv 8) (pa_cons (pv 7) pa_nil))) pa_nil)) (pv 9) (nomark _))))) (pss_one (ps_ret pe_bl)) pss_nil)
      (pss_cons (ps_if (PW.pt (pw_and (pt_val (pv 2)) (pw_and1 (pt_cmpR (op_neVK K hr.units) (pe_call GLe2 hr9 rfl gLe2.m gLe2.k gLe2.b .nil pass0 (pa_cons (pe_call GBok hr1 rfl gBok.m gBok.k gBok.b .nil pass0 (pa_cons (pv 7) pa_nil)) (pa_cons (pe_call GBok hr1 rfl gBok.m gBok.k gBok.b .nil pass0 (pa_cons (pv 8) pa_nil)) pa_nil))) (pe_call GAsk hr rfl gAsk.m gAsk.k gAsk.b .nil pass0 (pa_cons (pv 7) (pa_cons (pv 8) pa_nil))) (nomark _))))) (pss_one (ps_ret pe_bl)) pss_nil)
      (pss_cons (ps_if (pt_cmpR op_ne (pe_call GAge hr1 rfl gAge.m gAge.k gAge.b .nil pass0 (pa_cons (pe_call GAsk hr rfl gAsk.m gAsk.k gAsk.b .nil pass0 (pa_cons (pv 7) (pa_cons (pv 7) pa_nil))) pa_nil)) pe_int (nomark _)) (pss_one (ps_ret pe_bl)) pss_nil)
      (pss_one (ps_expr (pe_bmK K PySem.F.plainAttrs_list PySem.F.slot_list_append PySem.F.type_list_append mt_append (pv 6) (pa_cons (pv 9) pa_nil)))))))))
      (pss_cons (ps_if (pt_cmpR op_lt (pe_bmK K PySem.F.plainAttrs_list PySem.F.slot_list_count PySem.F.type_list_count (mt_cntI K) (pv 6) (pa_cons (pe_callB (call_min1K K rfl) (by rfl) hmin (show bootBuiltins "min" = some (.builtin "min") by decide +kernel) (pa_cons (pv 6) pa_nil)) pa_nil)) pe_int (nomark _)) (pss_one (ps_ret pe_bl)) pss_nil)
      (pss_cons (ps_set (i:=10) scLaw.nd rfl (Or.inl rfl) (pe_call GAsk hr rfl gAsk.m gAsk.k gAsk.b .nil pass0 (pa_cons (pv 3) (pa_cons (pv 4) pa_nil))))
      (pss_cons (ps_set (i:=11) scLaw.nd rfl (Or.inl rfl) (pe_call GAsk hr rfl gAsk.m gAsk.k gAsk.b .nil pass0 (pa_cons (pv 3) (pa_cons (pv 4) pa_nil))))
      (pss_cons (ps_if (pt_cmpR op_eq (pe_ix (ix_tupK K) (pv 10) pe_int (fun _ _=>rfl)) pe_str (nomark _)) (pss_cons (ps_expr (pe_bm0K K PySem.F.plainAttrs_list PySem.F.slot_list_clear PySem.F.type_list_clear mt_clear (pe_ix (ix_tupK K) (pv 10) pe_int (fun _ _=>rfl))))
      (pss_one (ps_expr (pe_bmK K PySem.F.plainAttrs_list PySem.F.slot_list_append PySem.F.type_list_append mt_append (pe_ix (ix_tupK K) (pv 10) pe_int (fun _ _=>rfl)) (pa_cons pe_int pa_nil))))) pss_nil)
      (pss_one (ps_ret (pe_cmpR (op_eqVK K hr.units) (pe_call GAsk hr rfl gAsk.m gAsk.k gAsk.b .nil pass0 (pa_cons (pv 3) (pa_cons (pv 4) pa_nil))) (pv 11) (nomark _))))))))))))))),?_⟩
    exact law_go hS h63 k
end
end Lw
namespace Lw
open PySem L2
theorem gf_mk {K:PySem.W.Frag} {h:Heap} {mg:Str→Option Value} {x:Str} {fd:FuncData} {f:Addr} {ps:List Str} (X:K.In h) (G:h.Ns mainGlobals mg) (a:PySem.W.nsIn K mainGlobals x=some (some (.ref f))) (k:PySem.W.keepIn K (.ref f)=true) (b:Binds K fd ps []):Gf K mg x f fd ps :=
  ⟨PySem.W.mg_of X G a,k,b⟩
theorem all_mk {l:PySem.W.OpenLaw} {w:World} {K:PySem.W.Frag} {h:Heap} {mg:Str→Option Value} {fa f0 f1 f2 f3 f4 f5 f6 f7 f8 f9 f10 f11 f12 f13 f14 f15 f16 f17 f18 f19 f20 f21 f22 f23 f24 f25 f26 f27 f28 f29 f30 f31 f32 f33 f34 f35 f36:Addr} (X:K.In h) (G:h.Ns mainGlobals mg) (hfa:mg "law" = some (.ref fa))
    {od0 an0 od1 an1 od2 an2 od3 an3 od4 an4 od5 an5 od6 an6 od7 an7 od8 an8 od9 an9 od10 an10 od11 an11 od12 an12 od13 an13 od14 an14 od15 an15 od16 an16 od17 an17 od18 an18 od19 an19 od20 an20 od21 an21 od22 an22 od23 an23 od24 an24 od25 an25 od26 an26 od27 an27 od28 an28 od29 an29 od30 an30 od31 an31 od32 an32 od33 an33 od34 an34 od35 an35 od36 an36:Option Addr} {sl0 sl1 sl2 sl3 sl4 sl5 sl6 sl7 sl8 sl9 sl10 sl11 sl12 sl13 sl14 sl15 sl16 sl17 sl18 sl19 sl20 sl21 sl22 sl23 sl24 sl25 sl26 sl27 sl28 sl29 sl30 sl31 sl32 sl33 sl34 sl35 sl36:Array (Option Value)} {oc0 kV0 dc0 pm0 cd0 ct0 oc1 kV1 dc1 pm1 cd1 ct1 oc2 kV2 dc2 pm2 cd2 ct2 oc3 kV3 dc3 pm3 cd3 ct3 oc4 kV4 dc4 pm4 cd4 ct4 oc5 kV5 dc5 pm5 cd5 ct5 oc6 kV6 dc6 pm6 cd6 ct6 oc7 kV7 dc7 pm7 cd7 ct7 oc8 kV8 dc8 pm8 cd8 ct8 oc9 kV9 dc9 pm9 cd9 ct9 oc10 kV10 dc10 pm10 cd10 ct10 oc11 kV11 dc11 pm11 cd11 ct11 oc12 kV12 dc12 pm12 cd12 ct12 oc13 kV13 dc13 pm13 cd13 ct13 oc14 kV14 dc14 pm14 cd14 ct14 oc15 kV15 dc15 pm15 cd15 ct15 oc16 kV16 dc16 pm16 cd16 ct16 oc17 kV17 dc17 pm17 cd17 ct17 oc18 kV18 dc18 pm18 cd18 ct18 oc19 kV19 dc19 pm19 cd19 ct19 oc20 kV20 dc20 pm20 cd20 ct20 oc21 kV21 dc21 pm21 cd21 ct21 oc22 kV22 dc22 pm22 cd22 ct22 oc23 kV23 dc23 pm23 cd23 ct23 oc24 kV24 dc24 pm24 cd24 ct24 oc25 kV25 dc25 pm25 cd25 ct25 oc26 kV26 dc26 pm26 cd26 ct26 oc27 kV27 dc27 pm27 cd27 ct27 oc28 kV28 dc28 pm28 cd28 ct28 oc29 kV29 dc29 pm29 cd29 ct29 oc30 kV30 dc30 pm30 cd30 ct30 oc31 kV31 dc31 pm31 cd31 ct31 oc32 kV32 dc32 pm32 cd32 ct32 oc33 kV33 dc33 pm33 cd33 ct33 oc34 kV34 dc34 pm34 cd34 ct34 oc35 kV35 dc35 pm35 cd35 ct35 oc36 kV36 dc36 pm36 cd36 ct36:Value}
    (a0:PySem.W.nsIn K mainGlobals "ruled_letters" = some (some (.ref f0))) (l0:K.lookup f0=some ⟨oc0,od0,.func (PySem.W.fnOf "ruled_letters" "ruled_letters" (defArgs sRul) (defBody sRul) (defScope sRul) .none kV0 dc0 pm0 an0 cd0 ct0),sl0⟩) (c0:PySem.W.codeIn K cd0 "ruled_letters" = true) (k0:PySem.W.keepIn K (.ref f0)=true)
    (a1:PySem.W.nsIn K mainGlobals "letters" = some (some (.ref f1))) (l1:K.lookup f1=some ⟨oc1,od1,.func (PySem.W.fnOf "letters" "letters" (defArgs sLet) (defBody sLet) (defScope sLet) .none kV1 dc1 pm1 an1 cd1 ct1),sl1⟩) (c1:PySem.W.codeIn K cd1 "letters" = true) (k1:PySem.W.keepIn K (.ref f1)=true)
    (a2:PySem.W.nsIn K mainGlobals "tally" = some (some (.ref f2))) (l2:K.lookup f2=some ⟨oc2,od2,.func (PySem.W.fnOf "tally" "tally" (defArgs sTal) (defBody sTal) (defScope sTal) .none kV2 dc2 pm2 an2 cd2 ct2),sl2⟩) (c2:PySem.W.codeIn K cd2 "tally" = true) (k2:PySem.W.keepIn K (.ref f2)=true)
    (a3:PySem.W.nsIn K mainGlobals "table" = some (some (.ref f3))) (l3:K.lookup f3=some ⟨oc3,od3,.func (PySem.W.fnOf "table" "table" (defArgs sTab) (defBody sTab) (defScope sTab) .none kV3 dc3 pm3 an3 cd3 ct3),sl3⟩) (c3:PySem.W.codeIn K cd3 "table" = true) (k3:PySem.W.keepIn K (.ref f3)=true)
    (a4:PySem.W.nsIn K mainGlobals "column" = some (some (.ref f4))) (l4:K.lookup f4=some ⟨oc4,od4,.func (PySem.W.fnOf "column" "column" (defArgs sCol) (defBody sCol) (defScope sCol) .none kV4 dc4 pm4 an4 cd4 ct4),sl4⟩) (c4:PySem.W.codeIn K cd4 "column" = true) (k4:PySem.W.keepIn K (.ref f4)=true)
    (a5:PySem.W.nsIn K mainGlobals "columns" = some (some (.ref f5))) (l5:K.lookup f5=some ⟨oc5,od5,.func (PySem.W.fnOf "columns" "columns" (defArgs sCls) (defBody sCls) (defScope sCls) .none kV5 dc5 pm5 an5 cd5 ct5),sl5⟩) (c5:PySem.W.codeIn K cd5 "columns" = true) (k5:PySem.W.keepIn K (.ref f5)=true)
    (a6:PySem.W.nsIn K mainGlobals "paired_sum" = some (some (.ref f6))) (l6:K.lookup f6=some ⟨oc6,od6,.func (PySem.W.fnOf "paired_sum" "paired_sum" (defArgs sPrs) (defBody sPrs) (defScope sPrs) .none kV6 dc6 pm6 an6 cd6 ct6),sl6⟩) (c6:PySem.W.codeIn K cd6 "paired_sum" = true) (k6:PySem.W.keepIn K (.ref f6)=true)
    (a7:PySem.W.nsIn K mainGlobals "one_age_on" = some (some (.ref f7))) (l7:K.lookup f7=some ⟨oc7,od7,.func (PySem.W.fnOf "one_age_on" "one_age_on" (defArgs sOao) (defBody sOao) (defScope sOao) .none kV7 dc7 pm7 an7 cd7 ct7),sl7⟩) (c7:PySem.W.codeIn K cd7 "one_age_on" = true) (k7:PySem.W.keepIn K (.ref f7)=true)
    (a8:PySem.W.nsIn K mainGlobals "first_counts" = some (some (.ref f8))) (l8:K.lookup f8=some ⟨oc8,od8,.func (PySem.W.fnOf "first_counts" "first_counts" (defArgs sFcs) (defBody sFcs) (defScope sFcs) .none kV8 dc8 pm8 an8 cd8 ct8),sl8⟩) (c8:PySem.W.codeIn K cd8 "first_counts" = true) (k8:PySem.W.keepIn K (.ref f8)=true)
    (a9:PySem.W.nsIn K mainGlobals "first_weights" = some (some (.ref f9))) (l9:K.lookup f9=some ⟨oc9,od9,.func (PySem.W.fnOf "first_weights" "first_weights" (defArgs sFws) (defBody sFws) (defScope sFws) .none kV9 dc9 pm9 an9 cd9 ct9),sl9⟩) (c9:PySem.W.codeIn K cd9 "first_weights" = true) (k9:PySem.W.keepIn K (.ref f9)=true)
    (a10:PySem.W.nsIn K mainGlobals "first_lengths" = some (some (.ref f10))) (l10:K.lookup f10=some ⟨oc10,od10,.func (PySem.W.fnOf "first_lengths" "first_lengths" (defArgs sFls) (defBody sFls) (defScope sFls) .none kV10 dc10 pm10 an10 cd10 ct10),sl10⟩) (c10:PySem.W.codeIn K cd10 "first_lengths" = true) (k10:PySem.W.keepIn K (.ref f10)=true)
    (a11:PySem.W.nsIn K mainGlobals "counts_of_both" = some (some (.ref f11))) (l11:K.lookup f11=some ⟨oc11,od11,.func (PySem.W.fnOf "counts_of_both" "counts_of_both" (defArgs sCob) (defBody sCob) (defScope sCob) .none kV11 dc11 pm11 an11 cd11 ct11),sl11⟩) (c11:PySem.W.codeIn K cd11 "counts_of_both" = true) (k11:PySem.W.keepIn K (.ref f11)=true)
    {dA12:Addr} {od112:Option Addr} {oc112:Value} {sl112:Array (Option Value)} (t12:K.lookup dA12=some ⟨oc112,od112,.seq #[.none],sl112⟩)
    (a12:PySem.W.nsIn K mainGlobals "tie" = some (some (.ref f12))) (l12:K.lookup f12=some ⟨oc12,od12,.func (PySem.W.fnOf "tie" "tie" (defArgs sTie) (defBody sTie) (defScope sTie) (.ref dA12) kV12 dc12 pm12 an12 cd12 ct12),sl12⟩) (c12:PySem.W.codeIn K cd12 "tie" = true) (k12:PySem.W.keepIn K (.ref f12)=true)
    (a13:PySem.W.nsIn K mainGlobals "least_tie" = some (some (.ref f13))) (l13:K.lookup f13=some ⟨oc13,od13,.func (PySem.W.fnOf "least_tie" "least_tie" (defArgs sLea) (defBody sLea) (defScope sLea) .none kV13 dc13 pm13 an13 cd13 ct13),sl13⟩) (c13:PySem.W.codeIn K cd13 "least_tie" = true) (k13:PySem.W.keepIn K (.ref f13)=true)
    (a14:PySem.W.nsIn K mainGlobals "marked" = some (some (.ref f14))) (l14:K.lookup f14=some ⟨oc14,od14,.func (PySem.W.fnOf "marked" "marked" (defArgs sMkd) (defBody sMkd) (defScope sMkd) .none kV14 dc14 pm14 an14 cd14 ct14),sl14⟩) (c14:PySem.W.codeIn K cd14 "marked" = true) (k14:PySem.W.keepIn K (.ref f14)=true)
    (a15:PySem.W.nsIn K mainGlobals "clear" = some (some (.ref f15))) (l15:K.lookup f15=some ⟨oc15,od15,.func (PySem.W.fnOf "clear" "clear" (defArgs sClr) (defBody sClr) (defScope sClr) .none kV15 dc15 pm15 an15 cd15 ct15),sl15⟩) (c15:PySem.W.codeIn K cd15 "clear" = true) (k15:PySem.W.keepIn K (.ref f15)=true)
    (a16:PySem.W.nsIn K mainGlobals "less_share" = some (some (.ref f16))) (l16:K.lookup f16=some ⟨oc16,od16,.func (PySem.W.fnOf "less_share" "less_share" (defArgs sLsh) (defBody sLsh) (defScope sLsh) .none kV16 dc16 pm16 an16 cd16 ct16),sl16⟩) (c16:PySem.W.codeIn K cd16 "less_share" = true) (k16:PySem.W.keepIn K (.ref f16)=true)
    (a17:PySem.W.nsIn K mainGlobals "settling_ages" = some (some (.ref f17))) (l17:K.lookup f17=some ⟨oc17,od17,.func (PySem.W.fnOf "settling_ages" "settling_ages" (defArgs sSta) (defBody sSta) (defScope sSta) .none kV17 dc17 pm17 an17 cd17 ct17),sl17⟩) (c17:PySem.W.codeIn K cd17 "settling_ages" = true) (k17:PySem.W.keepIn K (.ref f17)=true)
    (a18:PySem.W.nsIn K mainGlobals "first_unlike" = some (some (.ref f18))) (l18:K.lookup f18=some ⟨oc18,od18,.func (PySem.W.fnOf "first_unlike" "first_unlike" (defArgs sFun) (defBody sFun) (defScope sFun) .none kV18 dc18 pm18 an18 cd18 ct18),sl18⟩) (c18:PySem.W.codeIn K cd18 "first_unlike" = true) (k18:PySem.W.keepIn K (.ref f18)=true)
    (a19:PySem.W.nsIn K mainGlobals "told_alike" = some (some (.ref f19))) (l19:K.lookup f19=some ⟨oc19,od19,.func (PySem.W.fnOf "told_alike" "told_alike" (defArgs sToa) (defBody sToa) (defScope sToa) .none kV19 dc19 pm19 an19 cd19 ct19),sl19⟩) (c19:PySem.W.codeIn K cd19 "told_alike" = true) (k19:PySem.W.keepIn K (.ref f19)=true)
    (a20:PySem.W.nsIn K mainGlobals "lengths_alike" = some (some (.ref f20))) (l20:K.lookup f20=some ⟨oc20,od20,.func (PySem.W.fnOf "lengths_alike" "lengths_alike" (defArgs sLe2) (defBody sLe2) (defScope sLe2) .none kV20 dc20 pm20 an20 cd20 ct20),sl20⟩) (c20:PySem.W.codeIn K cd20 "lengths_alike" = true) (k20:PySem.W.keepIn K (.ref f20)=true)
    (a21:PySem.W.nsIn K mainGlobals "weights_alike" = some (some (.ref f21))) (l21:K.lookup f21=some ⟨oc21,od21,.func (PySem.W.fnOf "weights_alike" "weights_alike" (defArgs sWe2) (defBody sWe2) (defScope sWe2) .none kV21 dc21 pm21 an21 cd21 ct21),sl21⟩) (c21:PySem.W.codeIn K cd21 "weights_alike" = true) (k21:PySem.W.keepIn K (.ref f21)=true)
    (a22:PySem.W.nsIn K mainGlobals "_law_pen" = some (some (.ref f22))) (l22:K.lookup f22=some ⟨oc22,od22,.func (PySem.W.fnOf "_law_pen" "_law_pen" (defArgs sPen) (defBody sPen) (defScope sPen) .none kV22 dc22 pm22 an22 cd22 ct22),sl22⟩) (c22:PySem.W.codeIn K cd22 "_law_pen" = true) (k22:PySem.W.keepIn K (.ref f22)=true)
    (a23:PySem.W.nsIn K mainGlobals "_law_take" = some (some (.ref f23))) (l23:K.lookup f23=some ⟨oc23,od23,.func (PySem.W.fnOf "_law_take" "_law_take" (defArgs sTak) (defBody sTak) (defScope sTak) .none kV23 dc23 pm23 an23 cd23 ct23),sl23⟩) (c23:PySem.W.codeIn K cd23 "_law_take" = true) (k23:PySem.W.keepIn K (.ref f23)=true)
    (a24:PySem.W.nsIn K mainGlobals "_law_mixed" = some (some (.ref f24))) (l24:K.lookup f24=some ⟨oc24,od24,.func (PySem.W.fnOf "_law_mixed" "_law_mixed" (defArgs sMix) (defBody sMix) (defScope sMix) .none kV24 dc24 pm24 an24 cd24 ct24),sl24⟩) (c24:PySem.W.codeIn K cd24 "_law_mixed" = true) (k24:PySem.W.keepIn K (.ref f24)=true)
    (a25:PySem.W.nsIn K mainGlobals "_law_text" = some (some (.ref f25))) (l25:K.lookup f25=some ⟨oc25,od25,.func (PySem.W.fnOf "_law_text" "_law_text" (defArgs sTxt) (defBody sTxt) (defScope sTxt) .none kV25 dc25 pm25 an25 cd25 ct25),sl25⟩) (c25:PySem.W.codeIn K cd25 "_law_text" = true) (k25:PySem.W.keepIn K (.ref f25)=true)
    (a26:PySem.W.nsIn K mainGlobals "_law_load" = some (some (.ref f26))) (l26:K.lookup f26=some ⟨oc26,od26,.func (PySem.W.fnOf "_law_load" "_law_load" (defArgs sWei) (defBody sWei) (defScope sWei) .none kV26 dc26 pm26 an26 cd26 ct26),sl26⟩) (c26:PySem.W.codeIn K cd26 "_law_load" = true) (k26:PySem.W.keepIn K (.ref f26)=true)
    (a27:PySem.W.nsIn K mainGlobals "_law_free" = some (some (.ref f27))) (l27:K.lookup f27=some ⟨oc27,od27,.func (PySem.W.fnOf "_law_free" "_law_free" (defArgs sFre) (defBody sFre) (defScope sFre) .none kV27 dc27 pm27 an27 cd27 ct27),sl27⟩) (c27:PySem.W.codeIn K cd27 "_law_free" = true) (k27:PySem.W.keepIn K (.ref f27)=true)
    (a28:PySem.W.nsIn K mainGlobals "_law_named" = some (some (.ref f28))) (l28:K.lookup f28=some ⟨oc28,od28,.func (PySem.W.fnOf "_law_named" "_law_named" (defArgs sNam) (defBody sNam) (defScope sNam) .none kV28 dc28 pm28 an28 cd28 ct28),sl28⟩) (c28:PySem.W.codeIn K cd28 "_law_named" = true) (k28:PySem.W.keepIn K (.ref f28)=true)
    (a29:PySem.W.nsIn K mainGlobals "_law_other" = some (some (.ref f29))) (l29:K.lookup f29=some ⟨oc29,od29,.func (PySem.W.fnOf "_law_other" "_law_other" (defArgs sOth) (defBody sOth) (defScope sOth) .none kV29 dc29 pm29 an29 cd29 ct29),sl29⟩) (c29:PySem.W.codeIn K cd29 "_law_other" = true) (k29:PySem.W.keepIn K (.ref f29)=true)
    (a30:PySem.W.nsIn K mainGlobals "_law_weights" = some (some (.ref f30))) (l30:K.lookup f30=some ⟨oc30,od30,.func (PySem.W.fnOf "_law_weights" "_law_weights" (defArgs sWgs) (defBody sWgs) (defScope sWgs) .none kV30 dc30 pm30 an30 cd30 ct30),sl30⟩) (c30:PySem.W.codeIn K cd30 "_law_weights" = true) (k30:PySem.W.keepIn K (.ref f30)=true)
    (a31:PySem.W.nsIn K mainGlobals "_law_book" = some (some (.ref f31))) (l31:K.lookup f31=some ⟨oc31,od31,.func (PySem.W.fnOf "_law_book" "_law_book" (defArgs sBok) (defBody sBok) (defScope sBok) .none kV31 dc31 pm31 an31 cd31 ct31),sl31⟩) (c31:PySem.W.codeIn K cd31 "_law_book" = true) (k31:PySem.W.keepIn K (.ref f31)=true)
    (a32:PySem.W.nsIn K mainGlobals "_law_loads" = some (some (.ref f32))) (l32:K.lookup f32=some ⟨oc32,od32,.func (PySem.W.fnOf "_law_loads" "_law_loads" (defArgs sLds) (defBody sLds) (defScope sLds) .none kV32 dc32 pm32 an32 cd32 ct32),sl32⟩) (c32:PySem.W.codeIn K cd32 "_law_loads" = true) (k32:PySem.W.keepIn K (.ref f32)=true)
    (a33:PySem.W.nsIn K mainGlobals "_law_age" = some (some (.ref f33))) (l33:K.lookup f33=some ⟨oc33,od33,.func (PySem.W.fnOf "_law_age" "_law_age" (defArgs sAge) (defBody sAge) (defScope sAge) .none kV33 dc33 pm33 an33 cd33 ct33),sl33⟩) (c33:PySem.W.codeIn K cd33 "_law_age" = true) (k33:PySem.W.keepIn K (.ref f33)=true)
    (a34:PySem.W.nsIn K mainGlobals "_law_asked" = some (some (.ref f34))) (l34:K.lookup f34=some ⟨oc34,od34,.func (PySem.W.fnOf "_law_asked" "_law_asked" (defArgs sAsk) (defBody sAsk) (defScope sAsk) .none kV34 dc34 pm34 an34 cd34 ct34),sl34⟩) (c34:PySem.W.codeIn K cd34 "_law_asked" = true) (k34:PySem.W.keepIn K (.ref f34)=true)
    (a35:PySem.W.nsIn K mainGlobals "_law_due" = some (some (.ref f35))) (l35:K.lookup f35=some ⟨oc35,od35,.func (PySem.W.fnOf "_law_due" "_law_due" (defArgs sDue) (defBody sDue) (defScope sDue) .none kV35 dc35 pm35 an35 cd35 ct35),sl35⟩) (c35:PySem.W.codeIn K cd35 "_law_due" = true) (k35:PySem.W.keepIn K (.ref f35)=true)
    (a36:PySem.W.nsIn K mainGlobals "law" = some (some (.ref f36))) (l36:K.lookup f36=some ⟨oc36,od36,.func (PySem.W.fnOf "law" "law" (defArgs sLaw) (defBody sLaw) (defScope sLaw) .none kV36 dc36 pm36 an36 cd36 ct36),sl36⟩) (c36:PySem.W.codeIn K cd36 "law" = true) (k36:PySem.W.keepIn K (.ref f36)=true)
    (z0:PySem.W.nsIn K mainGlobals "len" = some none) (z1:PySem.W.nsIn K mainGlobals "range" = some none) (z2:PySem.W.nsIn K mainGlobals "zip" = some none) (z3:PySem.W.nsIn K mainGlobals "sum" = some none) (z4:PySem.W.nsIn K mainGlobals "any" = some none) (z5:PySem.W.nsIn K mainGlobals "enumerate" = some none) (z6:PySem.W.nsIn K mainGlobals "list" = some none) (z7:PySem.W.nsIn K mainGlobals "int" = some none) (z8:PySem.W.nsIn K mainGlobals "sorted" = some none) (z9:PySem.W.nsIn K mainGlobals "dict" = some none) (z10:PySem.W.nsIn K mainGlobals "tuple" = some none) (z11:PySem.W.nsIn K mainGlobals "isinstance" = some none) (z12:PySem.W.nsIn K mainGlobals "bool" = some none) (z13:PySem.W.nsIn K mainGlobals "min" = some none)
    : ∃ fd:FuncData,(∀ (s:Shared) (v:Value),BindsTo s fd ⟨[v],[]⟩ [("_law_script",v)])∧∀ base:Heap,K.In base→base.Ns mainGlobals mg→FnOk l.prog w K mg base CX0 11 fa fd ["_law_script"] (spLaw K):=by
  have e:=hfa.symm.trans (PySem.W.mg_of X G a36)
  cases e
  have F0:=fun_mk (st:=sRul) l0 c0 k0
  have F1:=fun_mk (st:=sLet) l1 c1 k1
  have F2:=fun_mk (st:=sTal) l2 c2 k2
  have F3:=fun_mk (st:=sTab) l3 c3 k3
  have F4:=fun_mk (st:=sCol) l4 c4 k4
  have F5:=fun_mk (st:=sCls) l5 c5 k5
  have F6:=fun_mk (st:=sPrs) l6 c6 k6
  have F7:=fun_mk (st:=sOao) l7 c7 k7
  have F8:=fun_mk (st:=sFcs) l8 c8 k8
  have F9:=fun_mk (st:=sFws) l9 c9 k9
  have F10:=fun_mk (st:=sFls) l10 c10 k10
  have F11:=fun_mk (st:=sCob) l11 c11 k11
  have F12:=funD_mk (st:=sTie) l12 t12 c12 k12
  have F13:=fun_mk (st:=sLea) l13 c13 k13
  have F14:=fun_mk (st:=sMkd) l14 c14 k14
  have F15:=fun_mk (st:=sClr) l15 c15 k15
  have F16:=fun_mk (st:=sLsh) l16 c16 k16
  have F17:=fun_mk (st:=sSta) l17 c17 k17
  have F18:=fun_mk (st:=sFun) l18 c18 k18
  have F19:=fun_mk (st:=sToa) l19 c19 k19
  have F20:=fun_mk (st:=sLe2) l20 c20 k20
  have F21:=fun_mk (st:=sWe2) l21 c21 k21
  have F22:=fun_mk (st:=sPen) l22 c22 k22
  have F23:=fun_mk (st:=sTak) l23 c23 k23
  have F24:=fun_mk (st:=sMix) l24 c24 k24
  have F25:=fun_mk (st:=sTxt) l25 c25 k25
  have F26:=fun_mk (st:=sWei) l26 c26 k26
  have F27:=fun_mk (st:=sFre) l27 c27 k27
  have F28:=fun_mk (st:=sNam) l28 c28 k28
  have F29:=fun_mk (st:=sOth) l29 c29 k29
  have F30:=fun_mk (st:=sWgs) l30 c30 k30
  have F31:=fun_mk (st:=sBok) l31 c31 k31
  have F32:=fun_mk (st:=sLds) l32 c32 k32
  have F33:=fun_mk (st:=sAge) l33 c33 k33
  have F34:=fun_mk (st:=sAsk) l34 c34 k34
  have F35:=fun_mk (st:=sDue) l35 c35 k35
  have F36:=fun_mk (st:=sLaw) l36 c36 k36
  have b0:=F0.binds (ps:=["rules"]) fun _ _ _ _ _ _ us hl=>match us,hl with | [_],_=>rfl
  have gRul:=gf_mk X G a0 k0 b0
  have b1:=F1.binds (ps:=["book"]) fun _ _ _ _ _ _ us hl=>match us,hl with | [_],_=>rfl
  have gLet:=gf_mk X G a1 k1 b1
  have b2:=F2.binds (ps:=["book","text"]) fun _ _ _ _ _ _ us hl=>match us,hl with | [_,_],_=>rfl
  have gTal:=gf_mk X G a2 k2 b2
  have b3:=F3.binds (ps:=["book"]) fun _ _ _ _ _ _ us hl=>match us,hl with | [_],_=>rfl
  have gTab:=gf_mk X G a3 k3 b3
  have b4:=F4.binds (ps:=["lines","place"]) fun _ _ _ _ _ _ us hl=>match us,hl with | [_,_],_=>rfl
  have gCol:=gf_mk X G a4 k4 b4
  have b5:=F5.binds (ps:=["lines"]) fun _ _ _ _ _ _ us hl=>match us,hl with | [_],_=>rfl
  have gCls:=gf_mk X G a5 k5 b5
  have b6:=F6.binds (ps:=["ones","others"]) fun _ _ _ _ _ _ us hl=>match us,hl with | [_,_],_=>rfl
  have gPrs:=gf_mk X G a6 k6 b6
  have b7:=F7.binds (ps:=["line","sources"]) fun _ _ _ _ _ _ us hl=>match us,hl with | [_,_],_=>rfl
  have gOao:=gf_mk X G a7 k7 b7
  have b8:=F8.binds (ps:=["book","many"]) fun _ _ _ _ _ _ us hl=>match us,hl with | [_,_],_=>rfl
  have gFcs:=gf_mk X G a8 k8 b8
  have b9:=F9.binds (ps:=["book","weights","many"]) fun _ _ _ _ _ _ us hl=>match us,hl with | [_,_,_],_=>rfl
  have gFws:=gf_mk X G a9 k9 b9
  have b10:=F10.binds (ps:=["book","many"]) fun _ _ _ _ _ _ us hl=>match us,hl with | [_,_],_=>rfl
  have gFls:=gf_mk X G a10 k10 b10
  have b11:=F11.binds (ps:=["one","other","many"]) fun _ _ _ _ _ _ us hl=>match us,hl with | [_,_,_],_=>rfl
  have gCob:=gf_mk X G a11 k11 b11
  have b12:=FunD.binds (ps:=["one","other"]) (ds:=[]) 2 F12 rfl fun _ _ _ _ _ _ _ us hl=>match us,hl with | [_,_],_=>⟨_,rfl,rfl⟩
  have dTie:=FunD.binds (ps:=["one","other"]) (ds:=[.none]) 1 F12 rfl fun _ _ _ _ _ _ _ us hl=>match us,hl with | [_],_=>⟨_,rfl,rfl⟩
  have gTie:=gf_mk X G a12 k12 b12
  have b13:=F13.binds (ps:=["lines"]) fun _ _ _ _ _ _ us hl=>match us,hl with | [_],_=>rfl
  have gLea:=gf_mk X G a13 k13 b13
  have b14:=F14.binds (ps:=["lines","number"]) fun _ _ _ _ _ _ us hl=>match us,hl with | [_,_],_=>rfl
  have gMkd:=gf_mk X G a14 k14 b14
  have b15:=F15.binds (ps:=["entries","cleared"]) fun _ _ _ _ _ _ us hl=>match us,hl with | [_,_],_=>rfl
  have gClr:=gf_mk X G a15 k15 b15
  have b16:=F16.binds (ps:=["entries","line","place","divisor"]) fun _ _ _ _ _ _ us hl=>match us,hl with | [_,_,_,_],_=>rfl
  have gLsh:=gf_mk X G a16 k16 b16
  have b17:=F17.binds (ps:=["one","other"]) fun _ _ _ _ _ _ us hl=>match us,hl with | [_,_],_=>rfl
  have gSta:=gf_mk X G a17 k17 b17
  have b18:=F18.binds (ps:=["ones","others"]) fun _ _ _ _ _ _ us hl=>match us,hl with | [_,_],_=>rfl
  have gFun:=gf_mk X G a18 k18 b18
  have b19:=F19.binds (ps:=["one","other","ones","others"]) fun _ _ _ _ _ _ us hl=>match us,hl with | [_,_,_,_],_=>rfl
  have gToa:=gf_mk X G a19 k19 b19
  have b20:=F20.binds (ps:=["one","other"]) fun _ _ _ _ _ _ us hl=>match us,hl with | [_,_],_=>rfl
  have gLe2:=gf_mk X G a20 k20 b20
  have b21:=F21.binds (ps:=["one","weights","other","others"]) fun _ _ _ _ _ _ us hl=>match us,hl with | [_,_,_,_],_=>rfl
  have gWe2:=gf_mk X G a21 k21 b21
  have b22:=F22.binds (ps:=["_law_script","_law_k"]) fun _ _ _ _ _ _ us hl=>match us,hl with | [_,_],_=>rfl
  have gPen:=gf_mk X G a22 k22 b22
  have b23:=F23.binds (ps:=["_law_pen_here","_law_size"]) fun _ _ _ _ _ _ us hl=>match us,hl with | [_,_],_=>rfl
  have gTak:=gf_mk X G a23 k23 b23
  have b24:=F24.binds (ps:=["_law_pen_here","_law_things"]) fun _ _ _ _ _ _ us hl=>match us,hl with | [_,_],_=>rfl
  have gMix:=gf_mk X G a24 k24 b24
  have b25:=F25.binds (ps:=["_law_pen_here","_law_signs","_law_many"]) fun _ _ _ _ _ _ us hl=>match us,hl with | [_,_,_],_=>rfl
  have gTxt:=gf_mk X G a25 k25 b25
  have b26:=F26.binds (ps:=["_law_pen_here","_law_even"]) fun _ _ _ _ _ _ us hl=>match us,hl with | [_,_],_=>rfl
  have gWei:=gf_mk X G a26 k26 b26
  have b27:=F27.binds (ps:=["_law_pen_here","_law_even"]) fun _ _ _ _ _ _ us hl=>match us,hl with | [_,_],_=>rfl
  have gFre:=gf_mk X G a27 k27 b27
  have b28:=F28.binds (ps:=["_law_pen_here","_law_one"]) fun _ _ _ _ _ _ us hl=>match us,hl with | [_,_],_=>rfl
  have gNam:=gf_mk X G a28 k28 b28
  have b29:=F29.binds (ps:=["_law_pen_here","_law_one","_law_even"]) fun _ _ _ _ _ _ us hl=>match us,hl with | [_,_,_],_=>rfl
  have gOth:=gf_mk X G a29 k29 b29
  have b30:=F30.binds (ps:=["_law_one","_law_ages"]) fun _ _ _ _ _ _ us hl=>match us,hl with | [_,_],_=>rfl
  have gWgs:=gf_mk X G a30 k30 b30
  have b31:=F31.binds (ps:=["_law_one"]) fun _ _ _ _ _ _ us hl=>match us,hl with | [_],_=>rfl
  have gBok:=gf_mk X G a31 k31 b31
  have b32:=F32.binds (ps:=["_law_one"]) fun _ _ _ _ _ _ us hl=>match us,hl with | [_],_=>rfl
  have gLds:=gf_mk X G a32 k32 b32
  have b33:=F33.binds (ps:=["_law_told"]) fun _ _ _ _ _ _ us hl=>match us,hl with | [_],_=>rfl
  have gAge:=gf_mk X G a33 k33 b33
  have b34:=F34.binds (ps:=["_law_one","_law_other_here"]) fun _ _ _ _ _ _ us hl=>match us,hl with | [_,_],_=>rfl
  have gAsk:=gf_mk X G a34 k34 b34
  have b35:=F35.binds (ps:=["_law_one","_law_other_here"]) fun _ _ _ _ _ _ us hl=>match us,hl with | [_,_],_=>rfl
  have gDue:=gf_mk X G a35 k35 b35
  have m_len:=PySem.W.mg_none_of X G z0
  have m_range:=PySem.W.mg_none_of X G z1
  have m_zip:=PySem.W.mg_none_of X G z2
  have m_sum:=PySem.W.mg_none_of X G z3
  have m_any:=PySem.W.mg_none_of X G z4
  have m_enumerate:=PySem.W.mg_none_of X G z5
  have m_list:=PySem.W.mg_none_of X G z6
  have m_int:=PySem.W.mg_none_of X G z7
  have m_sorted:=PySem.W.mg_none_of X G z8
  have m_dict:=PySem.W.mg_none_of X G z9
  have m_tuple:=PySem.W.mg_none_of X G z10
  have m_isinstance:=PySem.W.mg_none_of X G z11
  have m_bool:=PySem.W.mg_none_of X G z12
  have m_min:=PySem.W.mg_none_of X G z13
  refine ⟨PySem.W.fnOf "law" "law" (defArgs sLaw) (defBody sLaw) (defScope sLaw) .none kV36 dc36 pm36 an36 cd36 ct36,fun s v=>.of_eq rfl,fun base KB GB=>?_⟩
  have oPen:=ok_pen (P:=l.prog) (w:=w) (mg:=mg) (base:=base) F22 m_len
  have oTak:=ok_tak (P:=l.prog) (w:=w) (mg:=mg) (base:=base) F23
  have oMix:=ok_mix (P:=l.prog) (w:=w) (mg:=mg) (base:=base) F24 oTak gTak m_len m_range m_list
  have oTxt:=ok_txt (P:=l.prog) (w:=w) (mg:=mg) (base:=base) F25 oTak gTak m_len m_int m_range
  have oWei:=ok_wei (P:=l.prog) (w:=w) (mg:=mg) (base:=base) F26 oTak gTak m_range
  have oFre:=ok_fre (P:=l.prog) (w:=w) (mg:=mg) (base:=base) F27 oTak gTak oMix gMix oTxt gTxt oWei gWei m_enumerate m_list
  have oNam:=ok_nam (P:=l.prog) (w:=w) (mg:=mg) (base:=base) F28 oMix gMix m_list m_sorted
  have oOth:=ok_oth (P:=l.prog) (w:=w) (mg:=mg) (base:=base) F29 oTak gTak oNam gNam oFre gFre oTxt gTxt m_len m_list m_sorted
  have oSta:=ok_sta (P:=l.prog) (w:=w) (mg:=mg) (base:=base) F17 m_len
  have oFun:=ok_fun (P:=l.prog) (w:=w) (mg:=mg) (base:=base) F18 m_zip m_enumerate
  have oMkd:=ok_mkd (P:=l.prog) (w:=w) (mg:=mg) (base:=base) F14 m_len m_range
  have oLsh:=ok_lsh (P:=l.prog) (w:=w) (mg:=mg) (base:=base) F16 m_zip
  have oClr:=ok_clr (P:=l.prog) (w:=w) (mg:=mg) (base:=base) F15 oLsh gLsh
  have oLea:=ok_lea (P:=l.prog) (w:=w) (mg:=mg) (base:=base) F13 oMkd gMkd oClr gClr m_len m_range m_any
  have oCol:=ok_col (P:=l.prog) (w:=w) (mg:=mg) (base:=base) F4
  have oCls:=ok_cls (P:=l.prog) (w:=w) (mg:=mg) (base:=base) F5 oCol gCol m_len m_range
  have oRul:=ok_rul (P:=l.prog) (w:=w) (mg:=mg) (base:=base) F0
  have oLet:=ok_let (P:=l.prog) (w:=w) (mg:=mg) (base:=base) F1 oRul gRul
  have oTal:=ok_tal (P:=l.prog) (w:=w) (mg:=mg) (base:=base) F2 oLet gLet
  have oTab:=ok_tab (P:=l.prog) (w:=w) (mg:=mg) (base:=base) F3 oTal gTal
  have oPrs:=ok_prs (P:=l.prog) (w:=w) (mg:=mg) (base:=base) F6 m_zip m_sum
  have oOao:=ok_oao (P:=l.prog) (w:=w) (mg:=mg) (base:=base) F7 oPrs gPrs
  have oFcs:=ok_fcs (P:=l.prog) (w:=w) (mg:=mg) (base:=base) F8 oCls gCls oTab gTab oTal gTal oOao gOao m_len
  have oCob:=ok_cob (P:=l.prog) (w:=w) (mg:=mg) (base:=base) F11 oFcs gFcs m_zip
  have oTie:=ok_tie (P:=l.prog) (w:=w) (mg:=mg) (base:=base) F12 oLea gLea oCob gCob m_len
  have oToa:=ok_toa (P:=l.prog) (w:=w) (mg:=mg) (base:=base) F19 oFun gFun oTie gTie
  have oFws:=ok_fws (P:=l.prog) (w:=w) (mg:=mg) (base:=base) F9 oPrs gPrs oFcs gFcs
  have oWe2:=ok_we2 (P:=l.prog) (w:=w) (mg:=mg) (base:=base) F21 oSta gSta oToa gToa oFws gFws
  have oBok:=ok_bok (P:=l.prog) (w:=w) (mg:=mg) (base:=base) F31 m_list m_tuple m_sorted
  have oLds:=ok_lds (P:=l.prog) (w:=w) (mg:=mg) (base:=base) F32 m_list m_sorted
  have oAsk:=ok_ask (P:=l.prog) (w:=w) (mg:=mg) (base:=base) F34 oWe2 gWe2 oBok gBok oLds gLds
  have oAge:=ok_age (P:=l.prog) (w:=w) (mg:=mg) (base:=base) F33 m_len m_int m_list m_tuple m_isinstance m_bool
  have oWgs:=ok_wgs (P:=l.prog) (w:=w) (mg:=mg) (base:=base) F30 m_range m_sum m_dict
  have oDue:=ok_due (P:=l.prog) (w:=w) (mg:=mg) (base:=base) F35 oWgs gWgs m_len m_range
  have oFls:=ok_fls (P:=l.prog) (w:=w) (mg:=mg) (base:=base) F10 oFcs gFcs m_sum
  have oLe2:=ok_le2 (P:=l.prog) (w:=w) (mg:=mg) (base:=base) F20 oSta gSta oToa gToa oFls gFls
  exact ok_law F36 oPen gPen oFre gFre oOth gOth oAsk gAsk oTak gTak oAge gAge oDue gDue oLe2 gLe2 oBok gBok m_min
theorem walk {l:PySem.W.OpenLaw} {q:Program} {loose:List Str} {XP:(Str→Option Value)→Heap→Prop} {YP:World→Heap→Prop} {d:DefRec} {K:Params→PySem.W.Frag} (hn:l.most=some 63) (hdf:d.params.defaults=[])
    (hY:∀ (w:World) (h:Heap),YP w h→(K w.params).In h)
    (F : ∀ (w:World) (mg:Str→Option Value) (fa:Addr) (h:Heap),(K w.params).In h→h.Ns mainGlobals mg→mg d.name=some (.ref fa) →
      ∃ fd:FuncData,(∀ (s:Shared) (u:Value),BindsTo s fd ⟨[u],[]⟩ [("_law_script",u)])∧∀ base:Heap,(K w.params).In base→base.Ns mainGlobals mg→FnOk l.prog w (K w.params) mg base CX0 11 fa fd ["_law_script"] (spLaw (K w.params))) :
    PySem.W.WalkO q loose XP YP l.row.toRowW d [] (fun f vs=>PySem.call f vs) :=
  L2.walk_of (n:=63) (k:=11) (x:="_law_script") (CX:=fun _=>CX0) (sp:=fun w=>spLaw (K w.params)) hn (by decide) hdf ⟨rfl,by decide,by decide⟩ hY F (fun _ _ a ns hl _ hS=>⟨a,ns,rfl,hS,hl,fun _=>rfl⟩) fun _ _ _ _ _ z=>z
end Lw
open PySem PySem.W PyProof.Rows
-- these names are taken so that no second copy of the great trees is laid (it would make the compiled file too large)
def PySem.W.Fast.tw13023074943242997513:Unit:=()
def PySem.W.Fast.tw5658918775862979984:Unit:=()
def PySem.W.Fast.tw7819090380730626725:Unit:=()
def PySem.W.Fast.tw9948852278955398887:Unit:=()
def PySem.W.Fast.tw11723108448703237789:Unit:=()
def PySem.W.Fast.tw9654432174253649504:Unit:=()
def PySem.W.Fast.tw2572962339369136719:Unit:=()
def PySem.W.Fast.tw13382271055494971192:Unit:=()
def PySem.W.Fast.tw5481358783148910379:Unit:=()
def PySem.W.Fast.tw15724565217353238082:Unit:=()
def PySem.W.Fast.tw6654780968013032525:Unit:=()
def PySem.W.Fast.tw18052187544118913930:Unit:=()
set_option maxRecDepth 100000 in
set_option maxHeartbeats 0 in
theorem PySem.Challenge.cw_linegrow_k49_whole_three_books_holds : PySem.Challenge.rw_linegrow_k49_whole_three_books.Holds := by
  w_on;o_law;k_head;(case hw=>w_witness2)
  k_fill
  refine Lw.walk (l:=PySem.Challenge.rw_linegrow_k49_whole_three_books) rfl rfl (fun w h Y=>PySem.W.kIn_of Y) ?F
  case F =>
    intro w mg fa h KX G hmg
    refine' Lw.all_mk KX G hmg ?a0 ?l0 ?c0 ?k0 ?a1 ?l1 ?c1 ?k1 ?a2 ?l2 ?c2 ?k2 ?a3 ?l3 ?c3 ?k3 ?a4 ?l4 ?c4 ?k4 ?a5 ?l5 ?c5 ?k5 ?a6 ?l6 ?c6 ?k6 ?a7 ?l7 ?c7 ?k7 ?a8 ?l8 ?c8 ?k8 ?a9 ?l9 ?c9 ?k9 ?a10 ?l10 ?c10 ?k10 ?a11 ?l11 ?c11 ?k11 ?t12 ?a12 ?l12 ?c12 ?k12 ?a13 ?l13 ?c13 ?k13 ?a14 ?l14 ?c14 ?k14 ?a15 ?l15 ?c15 ?k15 ?a16 ?l16 ?c16 ?k16 ?a17 ?l17 ?c17 ?k17 ?a18 ?l18 ?c18 ?k18 ?a19 ?l19 ?c19 ?k19 ?a20 ?l20 ?c20 ?k20 ?a21 ?l21 ?c21 ?k21 ?a22 ?l22 ?c22 ?k22 ?a23 ?l23 ?c23 ?k23 ?a24 ?l24 ?c24 ?k24 ?a25 ?l25 ?c25 ?k25 ?a26 ?l26 ?c26 ?k26 ?a27 ?l27 ?c27 ?k27 ?a28 ?l28 ?c28 ?k28 ?a29 ?l29 ?c29 ?k29 ?a30 ?l30 ?c30 ?k30 ?a31 ?l31 ?c31 ?k31 ?a32 ?l32 ?c32 ?k32 ?a33 ?l33 ?c33 ?k33 ?a34 ?l34 ?c34 ?k34 ?a35 ?l35 ?c35 ?k35 ?a36 ?l36 ?c36 ?k36 ?z0 ?z1 ?z2 ?z3 ?z4 ?z5 ?z6 ?z7 ?z8 ?z9 ?z10 ?z11 ?z12 ?z13
    (case a0=>k_is)
    (case l0=>k_is)
    (case c0=>k_is)
    (case k0=>k_is)
    (case a1=>k_is)
    (case l1=>k_is)
    (case c1=>k_is)
    (case k1=>k_is)
    (case a2=>k_is)
    (case l2=>k_is)
    (case c2=>k_is)
    (case k2=>k_is)
    (case a3=>k_is)
    (case l3=>k_is)
    (case c3=>k_is)
    (case k3=>k_is)
    (case a4=>k_is)
    (case l4=>k_is)
    (case c4=>k_is)
    (case k4=>k_is)
    (case a5=>k_is)
    (case l5=>k_is)
    (case c5=>k_is)
    (case k5=>k_is)
    (case a6=>k_is)
    (case l6=>k_is)
    (case c6=>k_is)
    (case k6=>k_is)
    (case a7=>k_is)
    (case l7=>k_is)
    (case c7=>k_is)
    (case k7=>k_is)
    (case a8=>k_is)
    (case l8=>k_is)
    (case c8=>k_is)
    (case k8=>k_is)
    (case a9=>k_is)
    (case l9=>k_is)
    (case c9=>k_is)
    (case k9=>k_is)
    (case a10=>k_is)
    (case l10=>k_is)
    (case c10=>k_is)
    (case k10=>k_is)
    (case a11=>k_is)
    (case l11=>k_is)
    (case c11=>k_is)
    (case k11=>k_is)
    (case a12=>k_is)
    (case l12=>k_is)
    (case c12=>k_is)
    (case k12=>k_is)
    (case a13=>k_is)
    (case l13=>k_is)
    (case c13=>k_is)
    (case k13=>k_is)
    (case a14=>k_is)
    (case l14=>k_is)
    (case c14=>k_is)
    (case k14=>k_is)
    (case a15=>k_is)
    (case l15=>k_is)
    (case c15=>k_is)
    (case k15=>k_is)
    (case a16=>k_is)
    (case l16=>k_is)
    (case c16=>k_is)
    (case k16=>k_is)
    (case a17=>k_is)
    (case l17=>k_is)
    (case c17=>k_is)
    (case k17=>k_is)
    (case a18=>k_is)
    (case l18=>k_is)
    (case c18=>k_is)
    (case k18=>k_is)
    (case a19=>k_is)
    (case l19=>k_is)
    (case c19=>k_is)
    (case k19=>k_is)
    (case a20=>k_is)
    (case l20=>k_is)
    (case c20=>k_is)
    (case k20=>k_is)
    (case a21=>k_is)
    (case l21=>k_is)
    (case c21=>k_is)
    (case k21=>k_is)
    (case a22=>k_is)
    (case l22=>k_is)
    (case c22=>k_is)
    (case k22=>k_is)
    (case a23=>k_is)
    (case l23=>k_is)
    (case c23=>k_is)
    (case k23=>k_is)
    (case a24=>k_is)
    (case l24=>k_is)
    (case c24=>k_is)
    (case k24=>k_is)
    (case a25=>k_is)
    (case l25=>k_is)
    (case c25=>k_is)
    (case k25=>k_is)
    (case a26=>k_is)
    (case l26=>k_is)
    (case c26=>k_is)
    (case k26=>k_is)
    (case a27=>k_is)
    (case l27=>k_is)
    (case c27=>k_is)
    (case k27=>k_is)
    (case a28=>k_is)
    (case l28=>k_is)
    (case c28=>k_is)
    (case k28=>k_is)
    (case a29=>k_is)
    (case l29=>k_is)
    (case c29=>k_is)
    (case k29=>k_is)
    (case a30=>k_is)
    (case l30=>k_is)
    (case c30=>k_is)
    (case k30=>k_is)
    (case a31=>k_is)
    (case l31=>k_is)
    (case c31=>k_is)
    (case k31=>k_is)
    (case a32=>k_is)
    (case l32=>k_is)
    (case c32=>k_is)
    (case k32=>k_is)
    (case a33=>k_is)
    (case l33=>k_is)
    (case c33=>k_is)
    (case k33=>k_is)
    (case a34=>k_is)
    (case l34=>k_is)
    (case c34=>k_is)
    (case k34=>k_is)
    (case a35=>k_is)
    (case l35=>k_is)
    (case c35=>k_is)
    (case k35=>k_is)
    (case a36=>k_is)
    (case l36=>k_is)
    (case c36=>k_is)
    (case k36=>k_is)
    (case z0=>k_is)
    (case z1=>k_is)
    (case z2=>k_is)
    (case z3=>k_is)
    (case z4=>k_is)
    (case z5=>k_is)
    (case z6=>k_is)
    (case z7=>k_is)
    (case z8=>k_is)
    (case z9=>k_is)
    (case z10=>k_is)
    (case z11=>k_is)
    (case z12=>k_is)
    (case z13=>k_is)
    (case t12=>k_is)
