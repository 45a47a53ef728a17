import PyProof.Rows.All
import Wide.All
import OpenK.AllK
import Wide.FinOn
import Lean
import PyProof.EqAt
import PyProof.EqKinds
import PyProof.TupleCall
import PyProof.NeKinds
import KE.KDictOf
import PyProof.AttrMissSeq
import PyProof.DictList
import PyProof.WalksMore
import KE.KDictList
import PyProof.FactsAll.dict_4
import PyProof.ZipIter
import PyProof.ListRange
import OpenK.KOwn
import PyProof.Rows.CatchOwn
import KE.KIsNot
import KE.KRevIter
import PyProof.DictWalks
import PyProof.ConsumeWalk
import PyProof.TupleOfStr
import PyProof.StrOps2
import PyProof.SliceStr2
import PyProof.StrBlockI
import PyProof.Rows.StrClose5
import PyProof.Rows.CatFin
import KE.KIsAll
import KE.KSortTup
import PyProof.MeetsStr
import PyProof.MeetsStr2
import PyProof.StrLawsIn
import PyProof.Rows.StrLawsPart
import PyProof.Rows.StrRev
import PyProof.Draws
import PyProof.EnumMake
import PyProof.Rows.CountFlat
import PyProof.CallStr
import PyProof.FitsInt
import PyProof.PureStr
import PyProof.FString5
import KE.KDictSum
import PyProof.CollectStr
import PyProof.Rows.StrNews2
import PyProof.Rows.SortShell
import PyProof.FactsAll.set_1
import PyProof.CollectIter
import PySem.Challenge.RW_linegrow_k61_pieces_walked
set_option Elab.async false
set_option linter.all false
set_option maxRecDepth 100000
set_option maxHeartbeats 4000000
namespace L2
open PySem PySem.Spec PyProof.Rows
abbrev Key:=Sum Int Str
def keyIs:Key→Value→Bool
  | .inl k,v=>Value.isInt k v
  | .inr x,v=>Value.isStrOf x v
def keyH (w:World):Key→Int
  | .inl k=>hashInt k
  | .inr x=>hashStr w x
theorem keyIs_shape:∀ {k:Key} {v:Value},keyIs k v=true→(∃ i t,k=Sum.inl i∧v=Value.int i t)∨(∃ x t,k=Sum.inr x∧v=Value.str x t)
  | .inl i,v,h=>by
    obtain ⟨t,e⟩:=Value.isInt_shape (k:=i) (v:=v) h
    exact .inl ⟨i,t,rfl,e⟩
  | .inr x,v,h=>by
    obtain ⟨t,e⟩:=Value.isStrOf_shape (x:=x) (v:=v) h
    exact .inr ⟨x,t,rfl,e⟩
theorem keyIs_int (i:Int) (t:Tok):keyIs (.inl i) (.int i t)=true:=by simp [keyIs,Value.isInt]
theorem keyIs_str (x:Str) (t:Tok):keyIs (.inr x) (.str x t)=true:=by simp [keyIs,Value.isStrOf]
theorem key_ll (a b:Int):decide ((Sum.inl a:Key)=Sum.inl b)=(a == b):=by
  by_cases e:a=b
  · subst e;simp
  · have h:¬ (Sum.inl a:Key)=Sum.inl b:=fun q=>e (Sum.inl.inj q)
    rw [decide_eq_false h]
    exact (beq_eq_false_iff_ne.mpr e).symm
theorem key_rr (a b:Str):decide ((Sum.inr a:Key)=Sum.inr b)=decide (a=b):=by
  by_cases e:a=b
  · subst e;simp
  · have h:¬ (Sum.inr a:Key)=Sum.inr b:=fun q=>e (Sum.inr.inj q)
    rw [decide_eq_false h,decide_eq_false e]
theorem key_lr (a:Int) (b:Str):decide ((Sum.inl a:Key)=Sum.inr b)=false:=decide_eq_false (fun q=>nomatch q)
theorem key_rl (a:Str) (b:Int):decide ((Sum.inr a:Key)=Sum.inl b)=false:=decide_eq_false (fun q=>nomatch q)
def mixKind (prog:Program) (w:World):PySem.KeyKind prog w Key where
  is:=keyIs
  hash:=keyH w
  inj:=fun v a b ha hb=>by
    rcases keyIs_shape ha with ⟨i,t,rfl,rfl⟩ | ⟨x,t,rfl,rfl⟩
    · rcases keyIs_shape hb with ⟨j,u,rfl,e⟩ | ⟨y,u,rfl,e⟩
      · injection e with e1 _;rw [e1]
      · exact nomatch e
    · rcases keyIs_shape hb with ⟨j,u,rfl,e⟩ | ⟨y,u,rfl,e⟩
      · exact nomatch e
      · injection e with e1 _;rw [e1]
  byValue:=fun k v h=>by
    rcases keyIs_shape h with ⟨i,t,rfl,rfl⟩ | ⟨x,t,rfl,rfl⟩ <;> rfl
  pyHash:=fun hv h=>by
    rcases keyIs_shape hv with ⟨i,t,rfl,rfl⟩ | ⟨x,t,rfl,rfl⟩
    · exact wpAny_pyHash_int h
    · exact wpAny_pyHash_str h
  eqBool:=fun hu hv h=>by
    rcases keyIs_shape hu with ⟨i,t,rfl,rfl⟩ | ⟨x,t,rfl,rfl⟩
    · rcases keyIs_shape hv with ⟨j,u,rfl,rfl⟩ | ⟨y,u,rfl,rfl⟩
      · rw [key_ll] at h;exact wpAny_eqBool_int h
      · rw [key_lr] at h;exact SeqAt.EqAt.int_str i t y u _ _ _ _ h
    · rcases keyIs_shape hv with ⟨j,u,rfl,rfl⟩ | ⟨y,u,rfl,rfl⟩
      · rw [key_rl] at h;exact SeqAt.EqAt.str_int x t j u _ _ _ _ h
      · rw [key_rr] at h;exact wpAny_eqBool_str h
  «strs»:=fun k x t v h=>by
    rcases keyIs_shape h with ⟨i,u,rfl,e⟩ | ⟨y,u,rfl,e⟩
    · exact nomatch e
    · injection e with e1 _
      subst e1
      cases v <;> rfl
theorem mixKind_int (prog:Program) (w:World) (i:Int) (t:Tok):(mixKind prog w).is (.inl i) (.int i t)=true:=keyIs_int i t
theorem mixKind_str (prog:Program) (w:World) (x:Str) (t:Tok):(mixKind prog w).is (.inr x) (.str x t)=true:=keyIs_str x t
end L2
namespace L2
open PySem PySem.Spec PyProof.Rows
inductive V where
  | non | bl (b:Bool) | int (i:Int) | str (x:Str) | byt (b:Array UInt8) | flt (b:UInt64) | ref (a:Addr) | ty (n:String)
  deriving DecidableEq
def RelV:V→Value→Prop
  | .non,u=>u=Value.none
  | .bl b,u=>u=Value.bool b
  | .int i,u=>∃ t,u=Value.int i t
  | .str x,u=>∃ t,u=Value.str x t
  | .byt b,u=>∃ t,u=Value.bytes b t
  | .flt b,u=>∃ t,u=Value.float b t
  | .ref a,u=>u=Value.ref a
  | .ty n,u=>u=Value.type n
abbrev Vals:List V→List Value→Prop:=Paired RelV
theorem Vals.length {xs:List V} {us:List Value} (r:Vals xs us):xs.length=us.length:=Paired.length r
theorem Vals.get:∀ {xs:List V} {us:List Value} {i:Nat} {x:V},Vals xs us→xs[i]? = some x→∃ u,us[i]? = some u∧RelV x u
  | _,_,_,_,.nil,e=>by simp at e
  | _,_,0,_,.cons r _,e=>by simp at e;subst e;exact ⟨_,rfl,r⟩
  | _,_,i+1,x,.cons _ t,e=>by
    obtain ⟨u,h1,h2⟩:=Vals.get (i:=i) (x:=x) t (by simpa using e)
    exact ⟨u,by simpa using h1,h2⟩
theorem Vals.set {x:V} {u:Value} (r:RelV x u):∀ {xs:List V} {us:List Value} (i:Nat),Vals xs us→Vals (xs.set i x) (us.set i u)
  | _,_,_,.nil=>.nil
  | _,_,0,.cons _ t=>.cons r t
  | _,_,i+1,.cons q t=>.cons q (Vals.set r i t)
theorem Vals.append:∀ {xs ys:List V} {us ws:List Value},Vals xs us→Vals ys ws→Vals (xs++ys) (us++ws)
  | _,_,_,_,.nil,s=>s
  | _,_,_,_,.cons r t,s=>.cons r (Vals.append t s)
theorem Vals.take:∀ {xs:List V} {us:List Value} (n:Nat),Vals xs us→Vals (xs.take n) (us.take n)
  | _,_,0,_=>.nil
  | _,_,_+1,.nil=>.nil
  | _,_,n+1,.cons r t=>.cons r (Vals.take n t)
theorem Vals.drop:∀ {xs:List V} {us:List Value} (n:Nat),Vals xs us→Vals (xs.drop n) (us.drop n)
  | _,_,0,r=>r
  | _,_,_+1,.nil=>.nil
  | _,_,n+1,.cons _ t=>Vals.drop n t
def RelO:Option V→Option Value→Prop
  | some v,some u=>RelV v u
  | none,none=>True
  | _,_=>False
def KV {κ:Type}:List (κ × V)→List (κ × Value)→Prop:=Paired fun (p:κ × V) (q:κ × Value)=>p.1=q.1∧RelV p.2 q.2
def kV:Key→V
  | .inl i=>.int i
  | .inr x=>.str x
inductive HO where
  /-- a list -/
  | lst (xs:List V)
  /-- a tuple (never changes) -/
  | tup (xs:List V)
  /-- a dict whose keys are ints and texts;one whose keys are tuples of ints and texts (the empty one is both) -/
  | dK (kvs:List (Key × V)) | dT (kvs:List (List Key × V))
  /-- a set of ints: its members,its size -/
  | set (S:Int→Bool) (n:Nat)
  /-- an instance of the class at C,its dict at dx,its attributes -/
  | ins (C dx:Addr) (fs:List (Str × V))
  /-- the dict of the instance at x -/
  | own (x:Addr)
  /-- the dict of an exception -/
  | xd (fs:List (Str × V))
  /-- a bound method,f of x -/
  | met (f x:Addr)
  /-- a range object lo,lo+1,.. below hi -/
  | rng (lo hi:Int)
  /-- a thing that is known to the object (the script;a dict while a loop walks it): read,never written while it is so -/
  | frz (o:Obj) (u:HO)
  /-- a code object's table -/
  | tbl (ps:Array Value)
  /-- any other thing,by what is true of its one object (a def of one's own: SetO a S n:=HO.ext fun h=>..) -/
  | ext (φ:Heap→Prop)
abbrev Hp:=Addr→Option HO
def upd (H:Hp) (a:Addr) (o:HO):Hp:=fun b=>if b=a then some o else H b
theorem upd_same {H:Hp} {a:Addr} {o:HO}:upd H a o a=some o:=by unfold upd;rw [if_pos rfl]
theorem upd_ne {H:Hp} {a b:Addr} {o:HO} (h:b≠a):upd H a o b=H b:=by unfold upd;rw [if_neg h]
theorem ne_of {H:Hp} {a b:Addr} {o u:HO} (h:H a=some o) (h':H b=some u) (d:o≠u):a≠b:=by
  intro e;subst e;rw [h] at h';exact d (Option.some.inj h')
theorem ne_of_none {H:Hp} {a b:Addr} {o:HO} (h:H a=some o) (h':H b=none):a≠b:=by
  intro e;subst e;rw [h] at h';cases h'
section
variable (P:Program) (w:World)
def Bare (h:Heap) (a:Addr):Prop:=∃ o,h.get? a=some o∧o.dict=none
def ObjOk (H:Hp) (h:Heap) (a:Addr):HO→Prop
  | .lst xs=>xs.length≤sizeLine∧∃ (its:List Value) (n:Nat),Vals xs its∧h.get? a=some { cls:=.type "list",data:=.seq its.toArray n }
  | .tup xs=>xs.length≤sizeLine∧∃ its:List Value,Vals xs its∧IsTup h a its.toArray∧Bare h a
  | .dK kvs=>kvs.length≤sizeLine∧(a == sysModules)=false∧∃ vs,KV kvs vs∧h.DictOf (mixKind P w) a vs
  | .dT kvs=>kvs.length≤sizeLine∧(a == sysModules)=false∧∃ xs:List (List Key × Addr × Value),
      Paired (fun (p:List Key × V) (q:List Key × Addr × Value)=>p.1=q.1∧H q.2.1=some (.tup (p.1.map kV))∧RelV p.2 q.2.2) kvs xs ∧
      ∃ o es ep,h.get? a=some o∧o.ExactDict∧o.data=.dict es ep∧es.toList=xs.map (entryOfKey (tupleKind (mixKind P w)))∧(xs.map (·.1)).Nodup
  | .set S n=>h.SetOf (intKind P w) a S n
  | .ins C dx fs=>H dx=some (.own a)∧fs.length≤1000∧dx≠a∧h.get? a=some (PySem.W.instObj C dx) ∧
      ∃ mA,h.Ns1 dx mA∧(∀ f,RelO (fs.lookup f) (mA f))∧PySem.Within mA (fs.map (·.1))
  | .own _=>∃ o,h.get? a=some o
  | .xd fs=>∃ mA,h.Ns1 a mA∧∀ f,RelO (fs.lookup f) (mA f)
  | .rng lo hi=>∃ t u v,h.get? a=some { cls:=.type "range",data:=.fields #[.int lo t,.int hi u,.int 1 v] }
  | .frz o u=>h.get? a=some o∧ObjOk H h a u
  | .tbl ps=>h.get? a=some { cls:=.none,data:=.fields ps }
  | .met f x=>h.get? a=some (PySem.W.methodObj (.ref f) (.ref x))
  | .ext φ=>φ h∧(∃ o,h.get? a=some o)∧∀ h1 h2:Heap,φ h1→(∀ o,h1.get? a=some o→h2.get? a=some o)→φ h2
def HOk (H:Hp) (h:Heap):Prop:=∀ a o,H a=some o→ObjOk P w H h a o
end
section
variable {P:Program} {w:World} {H H':Hp} {h h':Heap} {a:Addr} {o:HO}
theorem ObjOk.lt (x:ObjOk P w H h a o):a < h.objs.size:=by
  cases o with
  | lst xs=>obtain ⟨_,_,_,_,e⟩:=x;exact Heap.lt_size e
  | tup xs=>obtain ⟨_,_,_,p,_⟩:=x;exact p.lt
  | dK kvs=>obtain ⟨_,_,_,_,o,_,_,e,_⟩:=x;exact Heap.lt_size e
  | dT kvs=>obtain ⟨_,_,_,_,o,_,_,e,_⟩:=x;exact Heap.lt_size e
  | set S n=>obtain ⟨o,_,_,_,e,_⟩:=x;exact Heap.lt_size e
  | ins C dx fs=>obtain ⟨_,_,_,e,_⟩:=x;exact Heap.lt_size e
  | own y=>obtain ⟨_,e⟩:=x;exact Heap.lt_size e
  | xd fs=>obtain ⟨_,⟨_,_,_,e,_⟩,_⟩:=x;exact Heap.lt_size e
  | rng lo hi=>obtain ⟨_,_,_,e⟩:=x;exact Heap.lt_size e
  | frz ob u=>obtain ⟨e,_⟩:=x;exact Heap.lt_size e
  | tbl ps=>exact Heap.lt_size (show h.get? a=some _ from x)
  | met f y=>exact Heap.lt_size (show h.get? a=some _ from x)
  | ext φ=>obtain ⟨_,⟨_,e⟩,_⟩:=x;exact Heap.lt_size e
theorem Paired.mapP {α β:Type} {F G:α→β→Prop}:∀ {l₁:List α} {l₂:List β},Paired F l₁ l₂→(∀ a b,F a b→G a b)→Paired G l₁ l₂
  | _,_,.nil,_=>.nil
  | _,_,.cons r t,f=>.cons (f _ _ r) (Paired.mapP t f)
theorem ObjOk.stay (x:ObjOk P w H h a o) (k:∀ b u,(b=a∨H b=some (.own a))→h.get? b=some u→h'.get? b=some u)
    (ho:∀ b,H b=some (.own a)→H' b=some (.own a)) (ht:∀ b xs,H b=some (.tup xs)→H' b=some (.tup xs)):ObjOk P w H' h' a o:=by
  induction o with
  | lst xs=>obtain ⟨z,its,n,r,e⟩:=x;exact ⟨z,its,n,r,k _ _ (.inl rfl) e⟩
  | tup xs=>obtain ⟨z,its,r,⟨ob,e,c⟩,o2,e2,c2⟩:=x;exact ⟨z,its,r,⟨ob,k _ _ (.inl rfl) e,c⟩,o2,k _ _ (.inl rfl) e2,c2⟩
  | dK kvs=>obtain ⟨z,y,vs,r,ob,es,ep,e,c⟩:=x;exact ⟨z,y,vs,r,ob,es,ep,k _ _ (.inl rfl) e,c⟩
  | dT kvs =>
    obtain ⟨z,y,xs,r,ob,es,ep,e,c⟩:=x
    exact ⟨z,y,xs,Paired.mapP r fun p q z=>⟨z.1,ht _ _ z.2.1,z.2.2⟩,ob,es,ep,k _ _ (.inl rfl) e,c⟩
  | set S n=>obtain ⟨ob,es,ep,t,e,c⟩:=x;exact ⟨ob,es,ep,t,k _ _ (.inl rfl) e,c⟩
  | ins C dx fs =>
    obtain ⟨d,z,ne,e,mA,⟨od,es,ep,e2,c⟩,r⟩:=x
    exact ⟨ho _ d,z,ne,k _ _ (.inl rfl) e,mA,⟨od,es,ep,k _ _ (.inr d) e2,c⟩,r⟩
  | own y=>obtain ⟨ob,e⟩:=x;exact ⟨ob,k _ _ (.inl rfl) e⟩
  | xd fs=>obtain ⟨mA,⟨od,es,ep,e,c⟩,r⟩:=x;exact ⟨mA,⟨od,es,ep,k _ _ (.inl rfl) e,c⟩,r⟩
  | rng lo hi=>obtain ⟨t,u,v,e⟩:=x;exact ⟨t,u,v,k _ _ (.inl rfl) e⟩
  | frz ob u ih=>obtain ⟨e,q⟩:=x;exact ⟨k _ _ (.inl rfl) e,ih q⟩
  | tbl ps =>
    have e:h.get? a=some { cls:=.none,data:=.fields ps }:=x
    show h'.get? a=some { cls:=.none,data:=.fields ps }
    exact k a _ (.inl rfl) e
  | met f y =>
    have e:h.get? a=some (PySem.W.methodObj (.ref f) (.ref y)):=x
    show h'.get? a=some (PySem.W.methodObj (.ref f) (.ref y))
    exact k a _ (.inl rfl) e
  | ext φ=>obtain ⟨p,⟨o,e⟩,st⟩:=x;exact ⟨st _ _ p fun o q=>k _ _ (.inl rfl) q,⟨o,k _ _ (.inl rfl) e⟩,st⟩
theorem HOk.lt (x:HOk P w H h) (e:H a=some o):a < h.objs.size:=(x a o e).lt
theorem HOk.fresh (x:HOk P w H h) (e:h.objs.size≤a):H a=none:=by
  cases q:H a with
  | none=>rfl
  | some u=>exact absurd (Nat.lt_of_lt_of_le (x.lt q) e) (Nat.lt_irrefl _)
theorem HOk.kept (x:HOk P w H h) (k:∀ b u,h.get? b=some u→h'.get? b=some u):HOk P w H h':=fun a o e =>
  (x a o e).stay (fun b u _ q=>k b u q) (fun _ q=>q) fun _ _ q=>q
theorem HOk.laid (x:HOk P w H h) (k:∀ b u,h.get? b=some u→h'.get? b=some u) (hp:h.objs.size≤a) (new:ObjOk P w (upd H a o) h' a o):HOk P w (upd H a o) h':=fun b u e=>by
  have hn:=x.fresh hp
  by_cases hb:b=a
  · subst hb;rw [upd_same] at e;cases e;exact new
  · rw [upd_ne hb] at e
    exact (x b u e).stay (fun c v _ q=>k c v q) (fun c q=>by rw [upd_ne (ne_of_none q hn)];exact q) fun c xs q=>by rw [upd_ne (ne_of_none q hn)];exact q
end
def Rd (H:Hp) (a:Addr) (u:HO):Prop:=H a=some u∨∃ o,H a=some (.frz o u)
theorem Rd.of {H:Hp} {a:Addr} {u:HO} (h:H a=some u):Rd H a u:=.inl h
theorem Rd.ok {P:Program} {w:World} {H:Hp} {h:Heap} {a:Addr} {u:HO} (r:Rd H a u) (x:HOk P w H h):ObjOk P w H h a u:=by
  rcases r with r | ⟨o,r⟩
  · exact x a u r
  · obtain ⟨_,q⟩:=x a _ r
    exact q
def Mut:Option HO→Prop
  | some (.lst _)=>True
  | some (.dK _)=>True
  | some (.dT _)=>True
  | some (.set _ _)=>True
  | some (.ins _ _ _)=>True
  | some (.ext _)=>True
  | _=>False
section
variable {P:Program} {w:World} {H:Hp} {h h':Heap} {x e:Addr} {o':HO}
theorem HOk.write (ok:HOk P w H h) (mu:Mut (H x)) (he:e=x∨H e=some (.own x)) (k:∀ b u,b≠e→h.get? b=some u→h'.get? b=some u) (heo:∃ u,h'.get? e=some u)
    (new:ObjOk P w (upd H x o') h' x o'):HOk P w (upd H x o') h':=fun b u q=>by
  have nown:∀ c y,H c=some (.own y)→c≠x:=fun c y r z=>by subst z;rw [r] at mu;exact mu
  have ntup:∀ c xs,H c=some (.tup xs)→c≠x:=fun c xs r z=>by subst z;rw [r] at mu;exact mu
  by_cases hb:b=x
  · subst hb;rw [upd_same] at q;cases q;exact new
  · rw [upd_ne hb] at q
    by_cases hbe:b=e
    · have q':H b=some (.own x):=by
        rcases he with z | z
        · exact absurd (hbe.trans z) hb
        · rw [hbe];exact z
      rw [q] at q';cases q'
      obtain ⟨v,hv⟩:=heo
      exact ⟨v,by rw [hbe];exact hv⟩
    · refine (ok b u q).stay (fun c v hc r=>k c v ?_ r) (fun c r=>by rw [upd_ne (nown c b r)];exact r) fun c xs r=>by rw [upd_ne (ntup c xs r)];exact r
      rcases hc with rfl | hc
      · exact hbe
      · rintro rfl
        rcases he with z | z
        · exact nown c b hc z
        · rw [hc] at z;cases z;exact hb rfl
end
structure Un (fs ex:List Addr) (H H':Hp) (h h':Heap):Prop where
  keep:∀ b o,h.get? b=some o→H b=none→b ∉ fs→b ∉ ex→h'.get? b=some o
  slot:∀ b o,h.get? b=some o→H b=none→b∈fs→b ∉ ex→∃ sl,h'.get? b=some { o with slots:=sl }
  free:∀ b o,h.get? b=some o→H b=none→b ∉ ex→H' b=none
  there:∀ b o,h.get? b=some o→b ∉ ex→∃ o',h'.get? b=some o'
  tups:∀ b xs,H b=some (.tup xs)→H' b=some (.tup xs)
  frzs:∀ b o u,H b=some (.frz o u)→H' b=some (.frz o u)
  tbls:∀ b ps,H b=some (.tbl ps)→∃ more,H' b=some (.tbl (ps++more))
section
variable {fs fs' ex ex':List Addr} {H H1 H2:Hp} {h h1 h2 h':Heap} {a x e:Addr} {o:HO}
theorem Un.any (u:Un fs ex H H1 h h1) {b:Addr} {ob:Obj} (q:h.get? b=some ob) (n:H b=none) (hx:b ∉ ex):∃ sl,h1.get? b=some { ob with slots:=sl }:=by
  by_cases hb:b∈fs
  · exact u.slot b ob q n hb hx
  · exact ⟨ob.slots,u.keep b ob q n hb hx⟩
theorem Un.trans (a:Un fs ex H H1 h h1) (b:Un fs ex H1 H2 h1 h2):Un fs ex H H2 h h2 where
  keep:=fun c ob q n hc hx=>b.keep c ob (a.keep c ob q n hc hx) (a.free c ob q n hx) hc hx
  slot:=fun c ob q n hc hx=>by
    obtain ⟨sl,e1⟩:=a.slot c ob q n hc hx
    obtain ⟨sl',e2⟩:=b.slot c _ e1 (a.free c ob q n hx) hc hx
    exact ⟨sl',e2⟩
  free:=fun c ob q n hx=>by
    obtain ⟨o',e1⟩:=a.there c ob q hx
    exact b.free c o' e1 (a.free c ob q n hx) hx
  there:=fun c ob q hx=>by
    obtain ⟨o',e1⟩:=a.there c ob q hx
    exact b.there c o' e1 hx
  tups:=fun c xs q=>b.tups c xs (a.tups c xs q)
  frzs:=fun c ob xs q=>b.frzs c ob xs (a.frzs c ob xs q)
  tbls:=fun c ps q=>by
    obtain ⟨m1,e1⟩:=a.tbls c ps q
    obtain ⟨m2,e2⟩:=b.tbls c _ e1
    exact ⟨m1++m2,by rw [e2,Array.append_assoc]⟩
theorem Un.kept (k:∀ b u,h.get? b=some u→h'.get? b=some u):Un fs ex H H h h' :=
  ⟨fun b ob q _ _ _=>k b ob q,fun b ob q _ _ _=>⟨ob.slots,k b ob q⟩,fun _ _ _ n _=>n,fun b ob q _=>⟨ob,k b ob q⟩,fun _ _ q=>q,fun _ _ _ q=>q,fun _ ps q=>⟨#[],by rw [q];simp⟩⟩
theorem Un.refl:Un fs ex H H h h:=Un.kept fun _ _ q=>q
theorem Un.laid (k:∀ b u,h.get? b=some u→h'.get? b=some u) (hp:h.objs.size≤a) (hn:H a=none):Un fs ex H (upd H a o) h h' where
  keep:=fun b u q _ _ _=>k b u q
  slot:=fun b u q _ _ _=>⟨u.slots,k b u q⟩
  free:=fun b u q n _=>by rw [upd_ne (Nat.ne_of_lt (Nat.lt_of_lt_of_le (Heap.lt_size q) hp))];exact n
  there:=fun b u q _=>⟨u,k b u q⟩
  tups:=fun b xs q=>by rw [upd_ne (ne_of_none q hn)];exact q
  frzs:=fun b u xs q=>by rw [upd_ne (ne_of_none q hn)];exact q
  tbls:=fun b ps q=>⟨#[],by rw [upd_ne (ne_of_none q hn),q];simp⟩
theorem Un.write (mu:Mut (H x)) (he:e=x∨H e=some (.own x)) (k:∀ b u,b≠e→h.get? b=some u→h'.get? b=some u) (heo:∃ u,h'.get? e=some u):Un fs ex H (upd H x o) h h':=by
  have hx:∀ b,H b=none→b≠x:=fun b n z=>by subst z;rw [n] at mu;exact mu
  have hb:∀ b,H b=none→b≠e:=fun b n z=>by
    subst z
    rcases he with r | r
    · exact hx b n r
    · rw [n] at r;cases r
  have hm:∀ b u,H b=some u→¬ Mut (some u)→b≠x:=fun b u q nm z=>by subst z;rw [q] at mu;exact nm mu
  refine ⟨fun b u q n _ _=>k b u (hb b n) q,fun b u q n _ _=>⟨u.slots,k b u (hb b n) q⟩,fun b u q n _=>by rw [upd_ne (hx b n)];exact n,fun b u q _=>?_,
    fun b xs q=>by rw [upd_ne (hm b _ q fun z=>z)];exact q,fun b u xs q=>by rw [upd_ne (hm b _ q fun z=>z)];exact q,fun b ps q=>⟨#[],by rw [upd_ne (hm b _ q fun z=>z),q];simp⟩⟩
  by_cases hbe:b=e
  · subst hbe;exact heo
  · exact ⟨u,k b u hbe q⟩
theorem Un.mono (u:Un fs ex H H1 h h1) (hs:∀ b∈fs,b∈fs') (hx:∀ b∈ex,b∈ex'):Un fs' ex' H H1 h h1 :=
  ⟨fun b ob q n hb he=>u.keep b ob q n (fun z=>hb (hs b z)) fun z=>he (hx b z),fun _ _ q n _ he=>u.any q n fun z=>he (hx _ z),fun b ob q n he=>u.free b ob q n fun z=>he (hx b z),fun b ob q he=>u.there b ob q fun z=>he (hx b z),u.tups,u.frzs,u.tbls⟩
end
def trk (h:Heap) (H:Hp):List Addr:=(List.range h.objs.size).filter fun a=>(H a).isSome
def hidT (h:Heap) (H:Hp):Heap:=PySem.W.hideAll h (trk h H)
theorem hidT_size (h:Heap) (H:Hp):(hidT h H).objs.size=h.objs.size:=PySem.W.hideAll_size _ _
theorem hidT_get {h:Heap} {H:Hp} {b:Addr} {o:Obj} (e:h.get? b=some o) (n:H b=none):(hidT h H).get? b=some o :=
  PySem.W.hideAll_get _ e fun hm=>by
    have q:(H b).isSome=true:=(List.mem_filter.mp hm).2
    rw [n] at q;simp at q
theorem of_hidT {h:Heap} {H:Hp} {b:Addr} {o:Obj} (e:(hidT h H).get? b=some o):h.get? b=some o∧H b=none:=by
  have e':h.get? b=some o:=PySem.W.of_hideAll (trk h H) e
  refine ⟨e',?_⟩
  cases q:H b with
  | none=>rfl
  | some x =>
    have hm:b∈trk h H:=List.mem_filter.mpr ⟨List.mem_range.mpr (Heap.lt_size e'),by simp [q]⟩
    have z:(hidT h H).get? b=none:=PySem.W.hideAll_none (trk h H) hm
    rw [z] at e;cases e
def allNews (g h:Heap) (L:Addr):List (Addr × Obj):=(List.range h.objs.size).filterMap fun a=>if a=L∨(g.get? a).isSome=true then none else (h.get? a).map fun o=>(a,o)
def rest (g h:Heap) (L d:Addr):List (Addr × Obj):=(allNews g h L).filter fun p=>decide (p.1≠d)
end L2
namespace L2
open PySem PySem.Spec PyProof.Rows
structure Mod (K:PySem.W.Frag) (mg:Str→Option Value) (base:Heap):Prop where
  kin:K.In base
  glob:base.Ns mainGlobals mg
  blt:∃ mb,base.Ns builtinsNs mb∧∀ x:Str,x≠"__name__"→mb x=bootBuiltins x
  nolimit:base.NoLimit
structure Cx where
  prog:Program
  w:World
  K:PySem.W.Frag
  mg:Str→Option Value
  base:Heap
  A:Around
  N:List Str
  s₀:Shared
  H₀:Hp
  env:Env
  outer:List Env
  stack:List Env
  ex:List Addr
  fn:Str→Bool
  calm:Bool
  pn:List (Addr × Obj)
  xe:Value→Shared→Prop
def frs (l:List Env):List Addr:=l.filterMap (·.frame)
abbrev Cx.fs (X:Cx):List Addr:=frs X.outer
def Vis (sc:Scope) (x:Str):Prop:=sc.names.lookup x=some .local∨sc.names.lookup x=some .cell∨sc.names.lookup x=some .free
def Loc (sc:Scope) (x:Str):Prop:=sc.names.lookup x=some .local∨sc.names.lookup x=some .cell
def Look (env:Env) (h:Heap) (m:Str→Option Value) (x:Str) (u:Value):Prop :=
  (env.kindOf x=some .local∧m x=some u)∨((env.kindOf x=some .cell∨env.kindOf x=some .free)∧∃ c,env.cells.lookup x=some c∧h.IsCell c (some u))
structure Cx.Ok (X:Cx):Prop where
  mod:Mod X.K X.mg X.base
  kind:X.env.scope.kind=.function
  glob:X.env.globals=mainGlobals
  blt:X.env.builtins=builtinsNs
  above:X.s₀.heap.objs.size≤X.env.locals
  inj:∀ x y c,X.env.cells.lookup x=some c→X.env.cells.lookup y=some c→x=y
  has:∀ x,(X.env.kindOf x=some .cell∨X.env.kindOf x=some .free)→∃ c,X.env.cells.lookup x=some c
  cab:∀ x c,X.fn x=true→X.env.cells.lookup x=some c→X.s₀.heap.objs.size≤c
  hd:X.calm=true→X.A.handled=none
  frames:X.A.frames=some X.stack
  stk:X.stack=X.outer∨(X.stack=X.env :: X.outer∧X.env.frame=some X.env.locals)
  exf:∀ b∈X.ex,b≠X.env.locals∧∀ x c,X.env.cells.lookup x=some c→c≠b
  bs:∀ b o,X.base.get? b=some o→X.s₀.heap.get? b=some o∧X.H₀ b=none
  bsz:X.base.objs.size≤X.s₀.heap.objs.size
  noex:∀ b o,X.base.get? b=some o→b ∉ X.ex
  exfs:∀ b∈X.ex,b ∉ X.fs
  funs:X.s₀.heap.FunFrames X.base X.outer
  frf:∀ b∈X.fs,X.H₀ b=none
structure Inv (X:Cx) (pins:List (Addr × Obj)) (σ:List (Option V)) (H:Hp) (s:Shared):Prop where
  ok:X.Ok
  os:s.os=X.s₀.os
  bare:AllBare s.gens
  base:Un X.fs X.ex X.H₀ H X.s₀.heap s.heap
  loc:∃ m,s.heap.Ns X.env.locals m∧∀ (i:Nat) (x:Str) (v:V),X.N[i]? = some x→σ[i]? = some (some v)→Vis X.env.scope x→∃ u,RelV v u∧Look X.env s.heap m x u
  cell:∀ x c,X.env.cells.lookup x=some c→∃ v,s.heap.IsCell c v
  free:H X.env.locals=none
  freeC:∀ x c,X.env.cells.lookup x=some c→H c=none
  pin:∀ p∈X.pn++pins,s.heap.get? p.1=some p.2∧H p.1=none∧p.1≠X.env.locals∧p.1 ∉ X.fs∧∀ v,p.2.data≠.cell v
  hok:HOk X.prog X.w H s.heap
  len:σ.length=X.N.length
section
variable {X:Cx} {pins:List (Addr × Obj)} {σ:List (Option V)} {H H':Hp} {s:Shared} {h':Heap}
theorem Cx.Ok.nofr (ok:X.Ok) {b:Addr} {o:Obj} (e:X.base.get? b=some o):b ∉ X.fs:=fun hb=>by
  have:=(ok.funs.mem hb).1
  rw [e] at this;cases this
theorem Inv.bs (I:Inv X pins σ H s):∀ b o,X.base.get? b=some o→s.heap.get? b=some o∧H b=none:=fun b o e =>
  ⟨I.base.keep b o (I.ok.bs b o e).1 (I.ok.bs b o e).2 (I.ok.nofr e) (I.ok.noex b o e),I.base.free b o (I.ok.bs b o e).1 (I.ok.bs b o e).2 (I.ok.noex b o e)⟩
theorem Inv.bk (I:Inv X pins σ H s):∀ b o,X.base.get? b=some o→s.heap.get? b=some o:=fun b o e=>(I.bs b o e).1
theorem Inv.mod (I:Inv X pins σ H s):Mod X.K X.mg X.base:=I.ok.mod
theorem Inv.kIn (I:Inv X pins σ H s):X.K.In s.heap:=I.ok.mod.kin.keeps I.bk
theorem Inv.nolimit (I:Inv X pins σ H s):s.heap.NoLimit:=I.ok.mod.nolimit.keeps I.bk
theorem Inv.lt (I:Inv X pins σ H s):X.env.locals < s.heap.objs.size:=let ⟨_,hn,_⟩:=I.loc;hn.lt
theorem Inv.sz (I:Inv X pins σ H s):X.s₀.heap.objs.size≤s.heap.objs.size:=Nat.le_trans I.ok.above (Nat.le_of_lt I.lt)
theorem Inv.nofs (I:Inv X pins σ H s) {a:Addr} (h:s.heap.objs.size≤a):a ∉ X.fs:=fun hb=>by
  obtain ⟨_,o,ho,_⟩:=I.ok.funs.mem hb
  exact absurd (Nat.lt_of_lt_of_le (Heap.lt_size ho) (Nat.le_trans I.sz h)) (Nat.lt_irrefl _)
theorem Inv.cne (I:Inv X pins σ H s):∀ x c,X.env.cells.lookup x=some c→c≠X.env.locals:=fun x c e z=>by
  obtain ⟨v,o,ho,hd⟩:=I.cell x c e
  obtain ⟨m,⟨o',es,ep,ho',hd',_⟩,_⟩:=I.loc
  rw [z,ho'] at ho;cases ho;rw [hd'] at hd;cases hd
theorem Inv.funs (I:Inv X pins σ H s):s.heap.FunFrames X.base X.outer:=by
  have all:∀ (l:List Env),(∀ b∈frs l,b∈X.fs)→X.s₀.heap.FunFrames X.base l→s.heap.FunFrames X.base l:=by
    intro l
    induction l with
    | nil=>intro _ _;trivial
    | cons env r ih =>
      intro hs hl
      obtain ⟨hk,⟨L,o,hf,hn,ho,hd⟩,hr⟩:=hl
      have hL:L∈X.fs:=hs L (by unfold frs;rw [List.filterMap_cons,hf];exact List.mem_cons_self)
      obtain ⟨sl,e⟩:=I.base.slot L o ho (I.ok.frf L hL) hL fun z=>I.ok.exfs L z hL
      exact ⟨hk,⟨L,_,hf,hn,e,hd⟩,ih (fun b hb=>hs b (by unfold frs;rw [List.filterMap_cons,hf];exact List.mem_cons_of_mem _ hb)) hr⟩
  exact all X.outer (fun _ hb=>hb) I.ok.funs
theorem Inv.stack (I:Inv X pins σ H s):s.heap.FunFrames X.base X.stack:=by
  rcases I.ok.stk with e | ⟨e,hf⟩
  · rw [e];exact I.funs
  · rw [e]
    obtain ⟨m,hn,_⟩:=I.loc
    refine .cons (by rw [I.ok.kind];decide) hf hn ?_ I.funs
    exact Heap.get?_none_of_le (Nat.le_trans I.ok.bsz I.ok.above)
theorem Inv.stkSub (I:Inv X pins σ H s):∀ b∈frs X.stack,b∈X.env.locals :: X.fs:=fun b hb=>by
  rcases I.ok.stk with e | ⟨e,hf⟩
  · rw [e] at hb;exact List.mem_cons_of_mem _ hb
  · rw [e] at hb
    unfold frs at hb
    rw [List.filterMap_cons,hf] at hb
    exact hb
theorem Inv.stkFree (I:Inv X pins σ H s):∀ b∈frs X.stack,H b=none:=fun b hb=>by
  rcases List.mem_cons.mp (I.stkSub b hb) with e | hb
  · rw [e];exact I.free
  · obtain ⟨_,o,ho,_⟩:=I.ok.funs.mem hb
    exact I.base.free b o ho (I.ok.frf b hb) fun z=>I.ok.exfs b z hb
theorem Inv.step {g':Array GenState} {t':Nat} {d':Drawn} {ch:List Addr} (I:Inv X pins σ H s)
    (hch:∀ b∈ch,(b∈X.ex∨X.s₀.heap.objs.size≤b)∧b≠X.env.locals∧(∀ x c,X.env.cells.lookup x=some c→c≠b)∧∀ p∈X.pn++pins,p.1≠b)
    (keep:∀ b o,b≠X.env.locals→b ∉ X.fs→b ∉ ch→s.heap.get? b=some o→H b=none→h'.get? b=some o)
    (slot:∀ b o,b≠X.env.locals→b∈X.fs→b ∉ ch→s.heap.get? b=some o→H b=none→∃ sl,h'.get? b=some { o with slots:=sl }) (free:∀ b o,b ∉ ch→s.heap.get? b=some o→H b=none→H' b=none)
    (there:∀ b o,b ∉ ch→s.heap.get? b=some o→∃ o',h'.get? b=some o')
    (tups:∀ b xs,H b=some (.tup xs)→H' b=some (.tup xs)) (frzs:∀ b o u,H b=some (.frz o u)→H' b=some (.frz o u)) (tbls:∀ b ps,H b=some (.tbl ps)→∃ more,H' b=some (.tbl (ps++more)))
    (ns:∀ m,s.heap.Ns X.env.locals m→h'.Ns X.env.locals m) (hok:HOk X.prog X.w H' h') (hg:AllBare g') :
    Inv X pins σ H' { s with heap:=h',gens:=g',drawn:=d',toks:=t' }:=by
  have neL:∀ b o,X.s₀.heap.get? b=some o→b≠X.env.locals:=fun b o e=>Nat.ne_of_lt (Nat.lt_of_lt_of_le (Heap.lt_size e) I.ok.above)
  have neC:∀ b o,X.s₀.heap.get? b=some o→b ∉ X.ex→b ∉ ch:=fun b o e hx hb=>by
    rcases (hch b hb).1 with z | z
    · exact hx z
    · exact absurd (Nat.lt_of_lt_of_le (Heap.lt_size e) z) (Nat.lt_irrefl _)
  have cellK:∀ x c,X.env.cells.lookup x=some c→∀ v,s.heap.IsCell c v→h'.IsCell c v:=fun x c e v ⟨o,ho,hd⟩=>by
    have nch:c ∉ ch:=fun z=>(hch c z).2.2.1 x c e rfl
    by_cases hc:c∈X.fs
    · obtain ⟨sl,q⟩:=slot c o (I.cne x c e) hc nch ho (I.freeC x c e)
      exact ⟨_,q,hd⟩
    · exact ⟨o,keep c o (I.cne x c e) hc nch ho (I.freeC x c e),hd⟩
  refine ⟨I.ok,I.os,hg,⟨fun b o e n hb hx=>?_,fun b o e n hb hx=>?_,fun b o e n hx=>?_,fun b o e hx=>?_,fun b xs e=>tups b xs (I.base.tups b xs e),fun b o xs e=>frzs b o xs (I.base.frzs b o xs e),fun b ps e=>?_⟩,?_,fun x c e=>?_,?_,fun x c e=>?_,fun p hp=>?_,hok,I.len⟩
  · exact keep b o (neL b o e) hb (neC b o e hx) (I.base.keep b o e n hb hx) (I.base.free b o e n hx)
  · obtain ⟨sl,e1⟩:=I.base.slot b o e n hb hx
    obtain ⟨sl',e2⟩:=slot b _ (neL b o e) hb (neC b o e hx) e1 (I.base.free b o e n hx)
    exact ⟨sl',e2⟩
  · obtain ⟨o',e1⟩:=I.base.there b o e hx
    exact free b o' (neC b o e hx) e1 (I.base.free b o e n hx)
  · obtain ⟨o',e1⟩:=I.base.there b o e hx
    exact there b o' (neC b o e hx) e1
  · obtain ⟨m1,e1⟩:=I.base.tbls b ps e
    obtain ⟨m2,e2⟩:=tbls b _ e1
    exact ⟨m1++m2,by rw [e2,Array.append_assoc]⟩
  · obtain ⟨m,hn,hl⟩:=I.loc
    refine ⟨m,ns m hn,fun i x v e1 e2 e3=>?_⟩
    obtain ⟨u,r,l⟩:=hl i x v e1 e2 e3
    refine ⟨u,r,?_⟩
    rcases l with l | ⟨k,c,e,z⟩
    · exact .inl l
    · exact .inr ⟨k,c,e,cellK x c e _ z⟩
  · obtain ⟨v,z⟩:=I.cell x c e
    exact ⟨v,cellK x c e v z⟩
  · obtain ⟨m,⟨o,_,_,ho,_⟩,_⟩:=I.loc
    exact free _ o (fun z=>(hch _ z).2.1 rfl) ho I.free
  · obtain ⟨v,o,ho,hd⟩:=I.cell x c e
    exact free c o (fun z=>(hch c z).2.2.1 x c e rfl) ho (I.freeC x c e)
  · obtain ⟨e,n,ne,nf,d⟩:=I.pin p hp
    have nch:p.1 ∉ ch:=fun z=>(hch p.1 z).2.2.2 p hp rfl
    exact ⟨keep p.1 p.2 ne nf nch e n,free p.1 p.2 nch e n,ne,nf,d⟩
theorem Inv.un {t':Nat} (I:Inv X pins σ H s) (u:Un X.fs [] H H' s.heap h') (hok:HOk X.prog X.w H' h'):Inv X pins σ H' { s with heap:=h',toks:=t' }:=by
  obtain ⟨m,⟨o,es,ep,ho,r⟩,_⟩:=id I.loc
  obtain ⟨sl,hL⟩:=u.any ho I.free (by simp)
  exact I.step (g':=s.gens) (d':=s.drawn) (ch:=[]) (fun _ z=>nomatch z) (fun b o _ hb _ e n=>u.keep b o e n hb (by simp)) (fun b o _ hb _ e n=>u.slot b o e n hb (by simp)) (fun b o _ e n=>u.free b o e n (by simp)) (fun b o _ e=>u.there b o e (by simp)) u.tups u.frzs u.tbls (fun m' hm=>by
    obtain ⟨o',es',ep',ho',r'⟩:=hm
    rw [ho] at ho';cases ho'
    exact ⟨_,es',ep',hL,r'⟩) hok I.bare
theorem Inv.call {g':Array GenState} {t':Nat} {d':Drawn} {ch:List Addr} (I:Inv X pins σ H s) (u:Un (frs X.stack) ch H H' s.heap h') (hok:HOk X.prog X.w H' h') (hg:AllBare g')
    (hch:∀ b∈ch,(b∈X.ex∨X.s₀.heap.objs.size≤b)∧b≠X.env.locals∧(∀ x c,X.env.cells.lookup x=some c→c≠b)∧∀ p∈X.pn++pins,p.1≠b) :
    Inv X pins σ H' { s with heap:=h',gens:=g',drawn:=d',toks:=t' }:=by
  obtain ⟨m,⟨o,es,ep,ho,r⟩,_⟩:=id I.loc
  obtain ⟨sl,hL⟩:=u.any ho I.free fun z=>(hch _ z).2.1 rfl
  exact I.step (ch:=ch) hch (fun b o hL hb hc e n=>u.keep b o e n (fun z=>(List.mem_cons.mp (I.stkSub b z)).elim hL hb) hc) (fun b o _ _ hc e n=>u.any e n hc) (fun b o hc e n=>u.free b o e n hc) (fun b o hc e=>u.there b o e hc) u.tups u.frzs u.tbls (fun m' hm=>by
    obtain ⟨o',es',ep',ho',r'⟩:=hm
    rw [ho] at ho';cases ho'
    exact ⟨_,es',ep',hL,r'⟩) hok hg
theorem Inv.turned {t':Nat} {it:Addr} (I:Inv X pins σ H s) (k:∀ b o,b≠it→s.heap.get? b=some o→h'.get? b=some o) (hn:H it=none) (hL:it≠X.env.locals)
    (h1:it∈X.ex∨X.s₀.heap.objs.size≤it) (h2:∀ x c,X.env.cells.lookup x=some c→c≠it) (h3:∀ p∈X.pn++pins,p.1≠it):Inv X pins σ H { s with heap:=h',toks:=t' }:=by
  have nit:∀ b u,H b=some u→b≠it:=fun b u e z=>by rw [z,hn] at e;cases e
  refine I.step (g':=s.gens) (d':=s.drawn) (ch:=[it]) (fun b hb=>?_) (fun b o _ _ hc e _=>k b o (fun z=>hc (by simp [z])) e) (fun b o _ _ hc e _=>⟨o.slots,k b o (fun z=>hc (by simp [z])) e⟩) (fun _ _ _ _ n=>n)
    (fun b o hc e=>⟨o,k b o (fun z=>hc (by simp [z])) e⟩) (fun _ _ e=>e) (fun _ _ _ e=>e) (fun b ps e=>⟨#[],by rw [e];simp⟩) (fun m hm=>?_) (fun b u e=>?_) I.bare
  · have e:b=it:=by simpa using hb
    subst e
    exact ⟨h1,hL,h2,h3⟩
  · obtain ⟨o,es,ep,ho,r⟩:=hm
    exact ⟨o,es,ep,k _ o (Ne.symm hL) ho,r⟩
  · refine (I.hok b u e).stay (fun c v hc q=>k c v ?_ q) (fun _ q=>q) fun _ _ q=>q
    rcases hc with z | z
    · rw [z];exact nit b u e
    · exact nit c _ z
theorem Inv.tok (I:Inv X pins σ H s) (t:Nat):Inv X pins σ H { s with toks:=t }:=I.un (h':=s.heap) (t':=t) Un.refl I.hok
theorem Inv.kept {t':Nat} (I:Inv X pins σ H s) (k:∀ b u,s.heap.get? b=some u→h'.get? b=some u):Inv X pins σ H { s with heap:=h',toks:=t' }:=I.un (Un.kept k) (I.hok.kept k)
theorem Inv.laid {a:Addr} {o:HO} {t':Nat} (I:Inv X pins σ H s) (k:∀ b u,s.heap.get? b=some u→h'.get? b=some u) (hp:s.heap.objs.size≤a) (new:ObjOk X.prog X.w (upd H a o) h' a o) :
    Inv X pins σ (upd H a o) { s with heap:=h',toks:=t' }:=I.un (Un.laid k hp (I.hok.fresh hp)) (I.hok.laid k hp new)
theorem Inv.write {x e:Addr} {o:HO} {t':Nat} (I:Inv X pins σ H s) (mu:Mut (H x)) (he:e=x∨H e=some (.own x)) (k:∀ b u,b≠e→s.heap.get? b=some u→h'.get? b=some u) (heo:∃ u,h'.get? e=some u)
    (new:ObjOk X.prog X.w (upd H x o) h' x o):Inv X pins σ (upd H x o) { s with heap:=h',toks:=t' }:=I.un (Un.write mu he k heo) (I.hok.write mu he k heo new)
theorem Inv.pins_of {pins':List (Addr × Obj)} (I:Inv X pins σ H s) (h:∀ p∈pins',s.heap.get? p.1=some p.2∧H p.1=none∧p.1≠X.env.locals∧p.1 ∉ X.fs∧∀ v,p.2.data≠.cell v):Inv X pins' σ H s :=
  ⟨I.ok,I.os,I.bare,I.base,I.loc,I.cell,I.free,I.freeC,fun p hp=>(List.mem_append.mp hp).elim (fun z=>I.pin p (List.mem_append_left _ z)) (h p),I.hok,I.len⟩
theorem nodup_ix {N:List Str} (hN:N.Nodup) {i j:Nat} {x:Str} (a:N[i]? = some x) (b:N[j]? = some x):i=j:=by
  obtain ⟨h1,e1⟩:=List.getElem?_eq_some_iff.mp a
  obtain ⟨h2,e2⟩:=List.getElem?_eq_some_iff.mp b
  exact (List.getElem_inj hN).mp (e1.trans e2.symm)
theorem store_ok2 {M:Model} {A:Around} {E:Value→Shared→Prop} {i:Nat} {x:Str} {v:V} {u:Value} {Q:Unit→Shared→Prop} (I:Inv X pins σ H s) (hN:X.N.Nodup) (hi:X.N[i]? = some x) (hx:Loc X.env.scope x) (r:RelV v u)
    (h:∀ s',Inv X pins (σ.set i (some v)) H s'→(∃ a,Heap.SameBut a s.heap s'.heap∧(a=X.env.locals∨X.env.cells.lookup x=some a))→Q () s') (hf:X.fn x=true∨X.env.scope.names.lookup x=some .local:=by first | exact .inl rfl | exact .inr rfl | assumption):wpAny M A (storeName X.env x u) Q E s:=by
  obtain ⟨m,hn,hl⟩:=id I.loc
  have hcls:(X.env.scope.kind == .class || (X.env.scope.kind == .module && X.env.locals != X.env.globals))=false:=by rw [I.ok.kind];rfl
  have hiσ:i < σ.length:=by rw [I.len];exact (List.getElem?_eq_some_iff.mp hi).1
  have cne:=I.cne
  have tracked:∀ {a:Addr} {h':Heap},(∃ o,s.heap.get? a=some o∧H a=none)→Heap.SameBut a s.heap h'→HOk X.prog X.w H h':=fun {a h'} ha hs b ob e=>by
    obtain ⟨_,_,hfree⟩:=ha
    refine (I.hok b ob e).stay (fun c w' hc q=>(hs.2 c ?_).trans q) (fun _ q=>q) fun _ _ q=>q
    rintro rfl
    rcases hc with rfl | hc
    · rw [hfree] at e;cases e
    · rw [hfree] at hc;cases hc
  rcases hx with hk | hk
  · refine wpAny_storeName_local hk hn (fun h' hn' hs=>?_) hcls
    obtain ⟨oL,_,_,hoL,_⟩:=id hn
    refine h _ ⟨I.ok,I.os,I.bare,⟨fun b o e n hb hx=>?_,fun b o e n hb hx=>?_,I.base.free,fun b o e hx=>?_,I.base.tups,I.base.frzs,I.base.tbls⟩,⟨_,hn',fun j y v' e1 e2 e3=>?_⟩,fun y c e=>?_,I.free,I.freeC,fun p hp=>?_,tracked ⟨oL,hoL,I.free⟩ hs,by simpa using I.len⟩ ⟨_,hs,.inl rfl⟩
    · exact (hs.2 b (Nat.ne_of_lt (Nat.lt_of_lt_of_le (Heap.lt_size e) I.ok.above))).trans (I.base.keep b o e n hb hx)
    · obtain ⟨sl,e1⟩:=I.base.slot b o e n hb hx
      exact ⟨sl,(hs.2 b (Nat.ne_of_lt (Nat.lt_of_lt_of_le (Heap.lt_size e) I.ok.above))).trans e1⟩
    · obtain ⟨o',e1⟩:=I.base.there b o e hx
      exact ⟨o',(hs.2 b (Nat.ne_of_lt (Nat.lt_of_lt_of_le (Heap.lt_size e) I.ok.above))).trans e1⟩
    · by_cases hj:j=i
      · subst hj
        rw [hi] at e1;cases e1
        rw [List.getElem?_set_self hiσ] at e2
        cases e2
        exact ⟨u,r,.inl ⟨hk,by simp⟩⟩
      · rw [List.getElem?_set_ne (Ne.symm hj)] at e2
        obtain ⟨u',r',q⟩:=hl j y v' e1 e2 e3
        refine ⟨u',r',?_⟩
        rcases q with ⟨k,e⟩ | ⟨k,c,e,z⟩
        · refine .inl ⟨k,?_⟩
          have:y≠x:=fun e=>hj (nodup_ix hN e1 (e ▸ hi))
          simp [this,e]
        · exact .inr ⟨k,c,e,z.sameBut hs (cne y c e)⟩
    · obtain ⟨w',z⟩:=I.cell y c e
      exact ⟨w',z.sameBut hs (cne y c e)⟩
    · obtain ⟨e,n,ne,nf,d⟩:=I.pin p hp
      exact ⟨(hs.2 p.1 ne).trans e,n,ne,nf,d⟩
  · have hfn:X.fn x=true:=by
      rcases hf with z | z
      · exact z
      · rw [z] at hk;cases hk
    obtain ⟨c,hc⟩:=I.ok.has x (.inl hk)
    obtain ⟨w',z⟩:=I.cell x c hc
    refine wpAny_storeName_cell I.ok.kind hk hc z (fun h' hc' hs=>?_)
    obtain ⟨oc,hoc,hocd⟩:=id z
    refine h { s with heap:=h' } ⟨I.ok,I.os,I.bare,⟨fun b o e n hb hx=>?_,fun b o e n hb hx=>?_,I.base.free,fun b o e hx=>?_,I.base.tups,I.base.frzs,I.base.tbls⟩,⟨m,hn.sameBut hs (Ne.symm (cne x c hc)),fun j y v' e1 e2 e3=>?_⟩,fun y c' e=>?_,I.free,I.freeC,fun p hp=>?_,tracked ⟨oc,hoc,I.freeC x c hc⟩ hs,by simpa using I.len⟩ ⟨c,hs,.inr hc⟩
    · exact (hs.2 b (Nat.ne_of_lt (Nat.lt_of_lt_of_le (Heap.lt_size e) (I.ok.cab x c hfn hc)))).trans (I.base.keep b o e n hb hx)
    · obtain ⟨sl,e1⟩:=I.base.slot b o e n hb hx
      exact ⟨sl,(hs.2 b (Nat.ne_of_lt (Nat.lt_of_lt_of_le (Heap.lt_size e) (I.ok.cab x c hfn hc)))).trans e1⟩
    · obtain ⟨o',e1⟩:=I.base.there b o e hx
      exact ⟨o',(hs.2 b (Nat.ne_of_lt (Nat.lt_of_lt_of_le (Heap.lt_size e) (I.ok.cab x c hfn hc)))).trans e1⟩
    · by_cases hj:j=i
      · subst hj
        rw [hi] at e1;cases e1
        rw [List.getElem?_set_self hiσ] at e2
        cases e2
        exact ⟨u,r,.inr ⟨.inl hk,c,hc,hc'⟩⟩
      · rw [List.getElem?_set_ne (Ne.symm hj)] at e2
        obtain ⟨u',r',q⟩:=hl j y v' e1 e2 e3
        refine ⟨u',r',?_⟩
        rcases q with q | ⟨k,c',e,z'⟩
        · exact .inl q
        · refine .inr ⟨k,c',e,z'.sameBut hs ?_⟩
          rintro rfl
          exact hj (nodup_ix hN e1 (I.ok.inj _ _ _ e hc ▸ hi))
    · by_cases hcc:c'=c
      · subst hcc;exact ⟨_,hc'⟩
      · obtain ⟨w2,z2⟩:=I.cell y c' e
        exact ⟨w2,z2.sameBut hs hcc⟩
    · obtain ⟨e,n,ne,nf,d⟩:=I.pin p hp
      refine ⟨(hs.2 p.1 ?_).trans e,n,ne,nf,d⟩
      intro q
      rw [q,hoc] at e
      have q':oc=p.2:=Option.some.inj e
      exact d w' (by rw [← q'];exact hocd)
theorem store_ok {M:Model} {A:Around} {E:Value→Shared→Prop} {i:Nat} {x:Str} {v:V} {u:Value} {Q:Unit→Shared→Prop} (I:Inv X pins σ H s) (hN:X.N.Nodup) (hi:X.N[i]? = some x) (hx:Loc X.env.scope x) (r:RelV v u)
    (h:∀ s',Inv X pins (σ.set i (some v)) H s'→Q () s') (hf:X.fn x=true∨X.env.scope.names.lookup x=some .local:=by first | exact .inl rfl | exact .inr rfl | assumption):wpAny M A (storeName X.env x u) Q E s :=
  store_ok2 I hN hi hx r (fun s' I' _=>h s' I') hf
theorem Inv.call' {s':Shared} {ch:List Addr} (I:Inv X pins σ H s) (ho:s'.os=s.os) (u:Un (frs X.stack) ch H H' s.heap s'.heap) (hok:HOk X.prog X.w H' s'.heap) (hg:AllBare s'.gens)
    (hch:∀ b∈ch,(b∈X.ex∨X.s₀.heap.objs.size≤b)∧b≠X.env.locals∧(∀ x c,X.env.cells.lookup x=some c→c≠b)∧∀ p∈X.pn++pins,p.1≠b):Inv X pins σ H' s':=by
  obtain ⟨h',g',d',t',o'⟩:=s'
  have e:o'=s.os:=ho
  subst e
  exact I.call (g':=g') (t':=t') (d':=d') u hok hg hch
end
abbrev XK:=Value→Option Addr→Hp→Prop
abbrev St:=List (Option V)
abbrev VK:=V→Hp→Prop
abbrev TE:=St→Hp→VK→Prop
abbrev TT:=St→Hp→(Bool→Hp→Prop)→Prop
abbrev TA:=St→Hp→(List V→Hp→Prop)→Prop
structure Ends where
  nx:St→Hp→Prop
  rt:VK
  bk:St→Hp→Prop:=fun _ _=>False
  ct:St→Hp→Prop:=fun _ _=>False
abbrev TS:=Ends→St→Hp→Prop
def EP (X:Cx) (pins:List (Addr × Obj)) (σ:St) (Q:VK) (u:Value) (s':Shared):Prop:=∃ v H',Inv X pins σ H' s'∧RelV v u∧Q v H'
def TP (X:Cx) (pins:List (Addr × Obj)) (σ:St) (Q:Bool→Hp→Prop) (b:Bool) (s':Shared):Prop:=∃ H',Inv X pins σ H' s'∧Q b H'
def AP (X:Cx) (pins:List (Addr × Obj)) (σ:St) (Q:List V→Hp→Prop) (us:List Value) (s':Shared):Prop:=∃ vs H',Inv X pins σ H' s'∧Vals vs us∧Q vs H'
def SP (X:Cx) (pins:List (Addr × Obj)) (D:Ends) (f:Flow) (s':Shared):Prop :=
  match f with
  | .next=>∃ σ' H',Inv X pins σ' H' s'∧D.nx σ' H'
  | .brk=>∃ σ' H',Inv X pins σ' H' s'∧D.bk σ' H'
  | .cont=>∃ σ' H',Inv X pins σ' H' s'∧D.ct σ' H'
  | .ret u=>∃ v σ' H',Inv X pins σ' H' s'∧RelV v u∧D.rt v H'
def PE (X:Cx) (e:Expr) (t:TE):Prop :=
  ∀ (pins:List (Addr × Obj)) (s:Shared) (σ:St) (H:Hp) (Q:VK),Inv X pins σ H s→t σ H Q→wpAny (model X.prog X.w) X.A (eval e X.env) (EP X pins σ Q) X.xe s
def PT (X:Cx) (e:Expr) (t:TT):Prop :=
  ∀ (pins:List (Addr × Obj)) (s:Shared) (σ:St) (H:Hp) (Q:Bool→Hp→Prop),Inv X pins σ H s→t σ H Q→wpAny (model X.prog X.w) X.A (isTrue e X.env (eval e X.env)) (TP X pins σ Q) X.xe s
def PW (X:Cx) (e:Expr) (t:TT):Prop :=
  ∀ (whole:Sem Value) (pins:List (Addr × Obj)) (s:Shared) (σ:St) (H:Hp) (Q:Bool→Hp→Prop),Inv X pins σ H s→t σ H Q→wpAny (model X.prog X.w) X.A (isTrue e X.env whole) (TP X pins σ Q) X.xe s
theorem PW.pt {X:Cx} {e:Expr} {t:TT} (h:PW X e t):PT X e t:=h _
def PA (X:Cx) (es:List Expr) (t:TA):Prop :=
  ∀ (pos:Pos) (pins:List (Addr × Obj)) (s:Shared) (σ:St) (H:Hp) (Q:List V→Hp→Prop),Inv X pins σ H s→t σ H Q→wpAny (model X.prog X.w) X.A (spliced (backTo pos (starEach es X.env))) (AP X pins σ Q) X.xe s
def PS (X:Cx) (st:Stmt) (t:TS):Prop :=
  ∀ (pins:List (Addr × Obj)) (s:Shared) (σ:St) (H:Hp) (D:Ends),Inv X pins σ H s→t D σ H→wpAny (model X.prog X.w) X.A (exec st X.env) (SP X pins D) X.xe s
def PSs (X:Cx) (st:List Stmt) (t:TS):Prop :=
  ∀ (pins:List (Addr × Obj)) (s:Shared) (σ:St) (H:Hp) (D:Ends),Inv X pins σ H s→t D σ H→wpAny (model X.prog X.w) X.A (execs st X.env) (SP X pins D) X.xe s
theorem thn {α:Type} {t:Sem α} {Q Q':α→Shared→Prop} {M:Model} {A:Around} {E:Value→Shared→Prop} {s:Shared} (h:wpAny M A t Q E s) (hQ:∀ a s,Q a s→Q' a s):wpAny M A t Q' E s:=wpAny_mono h hQ fun _ _ x=>x
end L2
namespace L2
open PySem PySem.Spec PyProof.Rows
section
variable {X:Cx}
def tVar (i:Nat):TE:=fun σ H Q=>∃ v,σ[i]? = some (some v)∧Q v H
def tC (v:V):TE:=fun _ H Q=>Q v H
theorem pe_var {i:Nat} {x:Str} {pos:Pos} (hN:X.N[i]? = some x) (hv:Vis X.env.scope x) (hd:(x == ("__debug__" : Str))=false:=by decide) (hcd:(x == ("__classdict__" : Str))=false:=by decide):PE X (.Name x pos) (tVar i):=by
  intro pins s σ H Q I h
  obtain ⟨v,e,h⟩:=h
  obtain ⟨m,hn,hl⟩:=I.loc
  obtain ⟨u,r,l⟩:=hl i x v hN e hv
  have fin:EP X pins σ Q u s:=⟨v,H,I,r,h⟩
  rcases l with ⟨hk,hm⟩ | ⟨hk,c,hc,hcell⟩
  · exact wpAny_Name (wpAny_loadName_local I.ok.kind hk hn hm fin) hd
  · rcases hk with hk | hk
    · exact wpAny_Name (wpAny_loadName_cell I.ok.kind hk hc hcell fin) hd
    · exact wpAny_Name (wpAny_loadName_free I.ok.kind hk hc hcell fin hcd) hd
theorem pe_int {i j pos}:PE X (.Constant (.int i) j pos) (tC (.int i)):=fun _ _ _ H _ I h=>wpAny_Constant_int ⟨.int i,H,I.tok _,⟨_,rfl⟩,h⟩
theorem pe_bl {b j pos}:PE X (.Constant (.bool b) j pos) (tC (.bl b)):=fun _ _ _ H _ I h=>Constant_bool ⟨.bl b,H,I,rfl,h⟩
theorem pe_non {j pos}:PE X (.Constant .none j pos) (tC .non):=fun _ _ _ H _ I h=>Constant_none ⟨.non,H,I,rfl,h⟩
theorem pe_str {x j pos}:PE X (.Constant (.str x) j pos) (tC (.str x)):=fun _ _ _ H _ I h=>Calls.Constant_str ⟨.str x,H,I.tok _,⟨_,rfl⟩,h⟩
def Gl (X:Cx) (x:Str):Prop:=X.env.kindOf x=some .globalImplicit
theorem ld_glob {E:Value→Shared→Prop} {pins:List (Addr × Obj)} {s:Shared} {σ:St} {H:Hp} {x:Str} {u:Value} {pos:Pos} {Q:Value→Shared→Prop} (I:Inv X pins σ H s) (hg:Gl X x) (hm:X.mg x=some u) (h:Q u s)
    (hd:(x == ("__debug__" : Str))=false:=by decide):wpAny (model X.prog X.w) X.A (eval (.Name x pos) X.env) Q E s :=
  Calls.Name_function_global I.ok.kind hg (Calls.loadGlobal_global (by rw [I.ok.glob];exact I.mod.glob.keeps I.bk) hm h) hd
theorem ld_blt {E:Value→Shared→Prop} {pins:List (Addr × Obj)} {s:Shared} {σ:St} {H:Hp} {x:Str} {u:Value} {pos:Pos} {Q:Value→Shared→Prop} (I:Inv X pins σ H s) (hg:Gl X x) (hm:X.mg x=none) (hv:bootBuiltins x=some u) (h:Q u s)
    (hn:x≠"__name__":=by decide) (hd:(x == ("__debug__" : Str))=false:=by decide):wpAny (model X.prog X.w) X.A (eval (.Name x pos) X.env) Q E s:=by
  obtain ⟨mb,h1,h2⟩:=I.mod.blt
  exact Calls.Name_function_global I.ok.kind hg (Calls.loadGlobal_builtin (by rw [I.ok.glob];exact I.mod.glob.keeps I.bk) hm (by rw [I.ok.blt];exact h1.keeps I.bk) ((h2 x hn).trans hv) h) hd
theorem pe_glob {x:Str} {v:V} {u:Value} {pos:Pos} (hg:Gl X x) (hm:X.mg x=some u) (r:RelV v u) (hd:(x == ("__debug__" : Str))=false:=by decide):PE X (.Name x pos) (tC v) :=
  fun _ _ _ H _ I h=>ld_glob I hg hm ⟨v,H,I,r,h⟩ hd
theorem pe_bltn {x:Str} {v:V} {u:Value} {pos:Pos} (hg:Gl X x) (hm:X.mg x=none) (hv:bootBuiltins x=some u) (r:RelV v u) (hn:x≠"__name__":=by decide) (hd:(x == ("__debug__" : Str))=false:=by decide):PE X (.Name x pos) (tC v) :=
  fun _ _ _ H _ I h=>ld_blt I hg hm hv ⟨v,H,I,r,h⟩ hn hd
variable {a b:Expr} {ta tb:TE} {pos:Pos}
def PC (X:Cx) (op:CmpOp) (a b:Expr) (t:TE):Prop :=
  ∀ (pins:List (Addr × Obj)) (s:Shared) (σ:St) (H:Hp) (Q:VK),Inv X pins σ H s→t σ H Q →
    wpAny (model X.prog X.w) X.A (eval a X.env) (fun v s₁=>wpAny (model X.prog X.w) X.A (eval b X.env) (fun u s₂=>wpAny (model X.prog X.w) X.A (compareOp op v u) (EP X pins σ Q) X.xe s₂) X.xe s₁) X.xe s
theorem nobehind (b:Expr) {op:CmpOp} (h:op≠.In) (h2:op≠.NotIn):behindInMarks op b=false:=by
  have e1:(op == CmpOp.In)=false:=by cases op <;> first | rfl | exact absurd rfl h
  have e2:(op == CmpOp.NotIn)=false:=by cases op <;> first | rfl | exact absurd rfl h2
  cases b <;> simp [behindInMarks,e1,e2]
def tB (t:TE):TT:=fun σ H Q=>t σ H fun x H1=>∃ c,x=.bl c∧Q c H1
theorem pt_cmp {op:CmpOp} {t:TE} (h:PC X op a b t) (h1:behindInMarks op b=false:=by first | exact nobehind _ (by decide) (by decide) | rfl):PT X (.Compare a [op] [b] pos) (tB t):=by
  intro pins s σ H Q I hw
  refine wpAny_isTrue_Compare1 (thn (h pins s σ H _ I hw) fun v s1 h1=>thn h1 fun u s2 h2=>thn h2 fun c s3 ⟨x,H1,I1,r1,q1⟩=>?_) h1
  obtain ⟨d,rfl,q⟩:=q1
  cases r1
  exact wpAny_truthy_bool ⟨H1,I1,q⟩
theorem pt_val {e:Expr} {t:TE} (h:PE X e t) (he:∀ whole,isTrue e X.env whole=(do let v ← whole;standAt e.pos;holding [v] (truthy v)):=by intro _;rfl):PT X e (tB t):=by
  intro pins s σ H Q I hw
  refine isTrue_plain (thn (h pins s σ H _ I hw) fun v s1 ⟨x,H1,I1,r1,q1⟩=>?_) (he _)
  obtain ⟨d,rfl,q⟩:=q1
  cases r1
  exact wpAny_truthy_bool ⟨H1,I1,q⟩
variable {tA tB':TT} {rest:List Expr}
def tAnd (t u:TT):TT:=fun σ H Q=>t σ H fun c H1=>if c=true then u σ H1 Q else Q false H1
def tOr (t u:TT):TT:=fun σ H Q=>t σ H fun c H1=>if c=true then Q true H1 else u σ H1 Q
def tNot (t:TT):TT:=fun σ H Q=>t σ H fun c H1=>Q (!c) H1
theorem pw_and1 (ha:PT X a tA):PW X (.BoolOp .And [a] pos) tA:=by
  intro wh pins s σ H Q I h
  refine isTrue_and (thn (ha pins s σ H Q I h) fun c s1 e=>?_)
  cases c with
  | true=>exact isTrue_and_nil e
  | false=>exact e
theorem pw_or1 (ha:PT X a tA):PW X (.BoolOp .Or [a] pos) tA:=by
  intro wh pins s σ H Q I h
  refine isTrue_or (thn (ha pins s σ H Q I h) fun c s1 e=>?_)
  cases c with
  | false=>exact isTrue_or_nil e
  | true=>exact e
theorem pw_and (ha:PT X a tA) (hb:PW X (.BoolOp .And (b :: rest) pos) tB'):PW X (.BoolOp .And (a :: b :: rest) pos) (tAnd tA tB'):=by
  intro wh pins s σ H Q I h
  refine isTrue_and (thn (ha pins s σ H _ I h) fun c s1 ⟨H1,I1,q1⟩=>?_)
  cases c with
  | true=>exact hb wh pins s1 σ H1 Q I1 q1
  | false=>exact ⟨H1,I1,q1⟩
theorem pw_or (ha:PT X a tA) (hb:PW X (.BoolOp .Or (b :: rest) pos) tB'):PW X (.BoolOp .Or (a :: b :: rest) pos) (tOr tA tB'):=by
  intro wh pins s σ H Q I h
  refine isTrue_or (thn (ha pins s σ H _ I h) fun c s1 ⟨H1,I1,q1⟩=>?_)
  cases c with
  | true=>exact ⟨H1,I1,q1⟩
  | false=>exact hb wh pins s1 σ H1 Q I1 q1
theorem pt_not (ha:PT X a tA):PT X (.UnaryOp .Not a pos) (tNot tA):=by
  intro pins s σ H Q I h
  exact isTrue_not (ha pins s σ H (fun c H1=>Q (!c) H1) I h)
def tAndV (ta tb:TE):TE:=fun σ H Q=>ta σ H fun x H1=>∃ c,x=.bl c∧if c=true then tb σ H1 Q else Q (.bl false) H1
def tOrV (ta tb:TE):TE:=fun σ H Q=>ta σ H fun x H1=>∃ c,x=.bl c∧if c=true then Q (.bl true) H1 else tb σ H1 Q
def tNotV (ta:TE):TE:=fun σ H Q=>ta σ H fun x H1=>∃ c,x=.bl c∧Q (.bl (!c)) H1
theorem pe_one {op} {t:TE} (h:PE X a t):PE X (.BoolOp op [a] pos) t:=fun pins s σ H Q I hw=>BoolOp_one (h pins s σ H Q I hw)
theorem pe_and (ha:PE X a ta) (hb:PE X (.BoolOp .And (b :: rest) pos) tb):PE X (.BoolOp .And (a :: b :: rest) pos) (tAndV ta tb):=by
  intro pins s σ H Q I h
  refine BoolOp_and (thn (ha pins s σ H _ I h) fun v s1 ⟨x,H1,I1,r1,q1⟩=>?_)
  obtain ⟨c,rfl,q1⟩:=q1
  cases r1
  refine wpAny_truthy_bool ?_
  cases c with
  | true=>exact hb pins s1 σ H1 Q I1 q1
  | false=>exact ⟨.bl false,H1,I1,rfl,q1⟩
theorem pe_or (ha:PE X a ta) (hb:PE X (.BoolOp .Or (b :: rest) pos) tb):PE X (.BoolOp .Or (a :: b :: rest) pos) (tOrV ta tb):=by
  intro pins s σ H Q I h
  refine BoolOp_or (thn (ha pins s σ H _ I h) fun v s1 ⟨x,H1,I1,r1,q1⟩=>?_)
  obtain ⟨c,rfl,q1⟩:=q1
  cases r1
  refine wpAny_truthy_bool ?_
  cases c with
  | false=>exact hb pins s1 σ H1 Q I1 q1
  | true=>exact ⟨.bl true,H1,I1,rfl,q1⟩
theorem pe_not (ha:PE X a ta):PE X (.UnaryOp .Not a pos) (tNotV ta):=by
  intro pins s σ H Q I h
  refine UnaryOp_ (thn (ha pins s σ H _ I h) fun v s1 ⟨x,H1,I1,r1,q1⟩=>?_)
  obtain ⟨c,rfl,q1⟩:=q1
  cases r1
  exact not_of (wpAny_truthy_bool ⟨.bl (!c),H1,I1,rfl,q1⟩)
def tIf (t:TT) (ta tb:TE):TE:=fun σ H Q=>t σ H fun c H1=>if c=true then ta σ H1 Q else tb σ H1 Q
theorem pe_ifExp {c:Expr} (hc:PT X c tA) (ha:PE X a ta) (hb:PE X b tb):PE X (.IfExp c a b pos) (tIf tA ta tb):=by
  intro pins s σ H Q I h
  refine wpAny_IfExp (thn (hc pins s σ H _ I h) fun d s1 ⟨H1,I1,q1⟩=>?_)
  cases d with
  | true=>exact ha pins s1 σ H1 Q I1 q1
  | false=>exact hb pins s1 σ H1 Q I1 q1
end
end L2
namespace L2
open PySem PySem.Spec PyProof.Rows
def SqL (K:PySem.W.Frag) (H:Hp) (a:Addr) (xs:List V):Prop :=
  Rd H a (.lst xs) ∨
    ∃ (o:Obj) (its:Array Value) (n:Nat),K.lookup a=some o∧o.cls=.type "list"∧o.dict=none∧o.data=.seq its n∧its.size≤sizeLine∧Vals xs its.toList
def SqT (K:PySem.W.Frag) (H:Hp) (a:Addr) (xs:List V):Prop :=
  Rd H a (.tup xs) ∨
    ∃ (o:Obj) (its:Array Value) (n:Nat),K.lookup a=some o∧o.cls=.type "tuple"∧o.data=.seq its n∧its.size≤sizeLine∧Vals xs its.toList
def absV:Value→Option V
  | .none=>some .non
  | .bool b=>some (.bl b)
  | .int i _=>some (.int i)
  | .str x _=>some (.str x)
  | .bytes b _=>some (.byt b)
  | .float b _=>some (.flt b)
  | .ref a=>some (.ref a)
  | .type n=>some (.ty n)
  | _=>none
theorem RelV.abs {x:V} {u:Value} (r:RelV x u):absV u=some x:=by
  cases x with
  | non=>cases r;rfl
  | bl _=>cases r;rfl
  | int _=>obtain ⟨t,rfl⟩:=r;rfl
  | str _=>obtain ⟨t,rfl⟩:=r;rfl
  | byt _=>obtain ⟨t,rfl⟩:=r;rfl
  | flt _=>obtain ⟨t,rfl⟩:=r;rfl
  | ref _=>cases r;rfl
  | ty _=>cases r;rfl
theorem RelV.inj {x y:V} {u:Value} (r:RelV x u) (q:RelV y u):x=y:=Option.some.inj (r.abs.symm.trans q.abs)
theorem Vals.inj:∀ {xs ys:List V} {us:List Value},Vals xs us→Vals ys us→xs=ys
  | _,_,_,.nil,.nil=>rfl
  | _,_,_,.cons r t,.cons r' t'=>by rw [r.inj r',Vals.inj t t']
section
variable {X:Cx} {pins:List (Addr × Obj)} {σ:St} {H:Hp} {s:Shared} {a:Addr} {xs ys:List V}
theorem SqL.of {K:PySem.W.Frag} (h:H a=some (.lst xs)):SqL K H a xs:=.inl (.inl h)
theorem SqT.of {K:PySem.W.Frag} (h:H a=some (.tup xs)):SqT K H a xs:=.inl (.inl h)
theorem Inv.list (I:Inv X pins σ H s) (h:SqL X.K H a xs):∃ its:List Value,Vals xs its∧PlainL s.heap a its.toArray∧xs.length≤sizeLine:=by
  rcases h with h | ⟨o,its,n,hk,hc,hd,hs,hz,r⟩
  · obtain ⟨z,its,n,r,e⟩:=h.ok I.hok
    exact ⟨its,r,⟨_,n,e,rfl,rfl,rfl⟩,z⟩
  · refine ⟨its.toList,r,⟨o,n,I.kIn a o hk,hc,hd,by simpa using hs⟩,?_⟩
    have e:=r.length
    simp only [Array.length_toList] at e
    omega
theorem Inv.tuple (I:Inv X pins σ H s) (h:SqT X.K H a xs):∃ its:List Value,Vals xs its∧IsTup s.heap a its.toArray∧xs.length≤sizeLine:=by
  rcases h with h | ⟨o,its,n,hk,hc,hs,hz,r⟩
  · obtain ⟨z,its,r,p,_⟩:=h.ok I.hok
    exact ⟨its,r,p,z⟩
  · refine ⟨its.toList,r,⟨o,I.kIn a o hk,hc,n,by simpa using hs⟩,?_⟩
    have e:=r.length
    simp only [Array.length_toList] at e
    omega
theorem Inv.list_inj (I:Inv X pins σ H s) (h:SqL X.K H a xs) (h':SqL X.K H a ys):xs=ys:=by
  obtain ⟨its,r,⟨o,n,e,_,_,d⟩,_⟩:=I.list h
  obtain ⟨its',r',⟨o',n',e',_,_,d'⟩,_⟩:=I.list h'
  rw [e] at e';cases e'
  rw [d] at d'
  injection d' with d1 _
  have:its=its':=by simpa using congrArg Array.toList d1
  subst this
  exact r.inj r'
theorem Inv.tuple_inj (I:Inv X pins σ H s) (h:SqT X.K H a xs) (h':SqT X.K H a ys):xs=ys:=by
  obtain ⟨its,r,⟨o,e,_,n,d⟩,_⟩:=I.tuple h
  obtain ⟨its',r',⟨o',e',_,n',d'⟩,_⟩:=I.tuple h'
  rw [e] at e';cases e'
  rw [d] at d'
  injection d' with d1 _
  have:its=its':=by simpa using congrArg Array.toList d1
  subst this
  exact r.inj r'
end
abbrev Cx.wish (X:Cx) (E:Value→Shared→Prop):Cx:={ X with xe:=E }
abbrev Cx.nox (X:Cx):Cx:=X.wish fun _ _=>False
theorem Cx.Ok.wish {X:Cx} (ok:X.Ok) (E:Value→Shared→Prop):(X.wish E).Ok :=
  ⟨ok.mod,ok.kind,ok.glob,ok.blt,ok.above,ok.inj,ok.has,ok.cab,ok.hd,ok.frames,ok.stk,ok.exf,ok.bs,ok.bsz,ok.noex,ok.exfs,ok.funs,ok.frf⟩
theorem Cx.Ok.unwish {X:Cx} {E:Value→Shared→Prop} (ok:(X.wish E).Ok):X.Ok :=
  ⟨ok.mod,ok.kind,ok.glob,ok.blt,ok.above,ok.inj,ok.has,ok.cab,ok.hd,ok.frames,ok.stk,ok.exf,ok.bs,ok.bsz,ok.noex,ok.exfs,ok.funs,ok.frf⟩
section
variable {X:Cx} {pins:List (Addr × Obj)} {σ:St} {H:Hp} {s:Shared} {E:Value→Shared→Prop}
theorem Inv.wish (I:Inv X pins σ H s) (E:Value→Shared→Prop):Inv (X.wish E) pins σ H s:=⟨I.ok.wish E,I.os,I.bare,I.base,I.loc,I.cell,I.free,I.freeC,I.pin,I.hok,I.len⟩
theorem Inv.unwish (I:Inv (X.wish E) pins σ H s):Inv X pins σ H s:=⟨I.ok.unwish,I.os,I.bare,I.base,I.loc,I.cell,I.free,I.freeC,I.pin,I.hok,I.len⟩
theorem SP.unwish {D:Ends} {f:Flow} {s':Shared} (h:SP (X.wish E) pins D f s'):SP X pins D f s':=by
  cases f with
  | next=>obtain ⟨σ',H',I,q⟩:=h;exact ⟨σ',H',I.unwish,q⟩
  | brk=>obtain ⟨σ',H',I,q⟩:=h;exact ⟨σ',H',I.unwish,q⟩
  | cont=>obtain ⟨σ',H',I,q⟩:=h;exact ⟨σ',H',I.unwish,q⟩
  | ret u=>obtain ⟨v,σ',H',I,r,q⟩:=h;exact ⟨v,σ',H',I.unwish,r,q⟩
theorem PE.nox {e:Expr} {t:TE} (h:PE X.nox e t):PE X e t:=fun pins s σ H Q I hw =>
  wpAny_mono (h pins s σ H Q (I.wish _) hw) (fun _ _ ⟨v,H',I',r,q⟩=>⟨v,H',I'.unwish,r,q⟩) fun _ _ z=>False.elim z
theorem PT.nox {e:Expr} {t:TT} (h:PT X.nox e t):PT X e t:=fun pins s σ H Q I hw =>
  wpAny_mono (h pins s σ H Q (I.wish _) hw) (fun _ _ ⟨H',I',q⟩=>⟨H',I'.unwish,q⟩) fun _ _ z=>False.elim z
theorem PSs.nox {st:List Stmt} {t:TS} (h:PSs X.nox st t):PSs X st t:=fun pins s σ H D I hw =>
  wpAny_mono (h pins s σ H D (I.wish _) hw) (fun _ _ q=>q.unwish) fun _ _ z=>False.elim z
end
section
variable {X:Cx} {st:Stmt} {rest:List Stmt} {t u:TS} {e:Expr} {te:TE} {pos:Pos}
def tNext:TS:=fun D σ H=>D.nx σ H
def tSeq (t u:TS):TS:=fun D σ H=>t { D with nx:=u D } σ H
theorem pss_nil:PSs X [] tNext:=fun _ _ σ H _ I h=>wpAny_execs_nil ⟨σ,H,I,h⟩
theorem pss_cons (h1:PS X st t) (h2:PSs X rest u):PSs X (st :: rest) (tSeq t u):=by
  intro pins s σ H D I h
  refine wpAny_execs_cons (thn (h1 pins s σ H { D with nx:=u D } I h) fun f s1 q=>?_)
  cases f with
  | next =>
    obtain ⟨σ',H',I',q⟩:=q
    exact h2 pins s1 σ' H' D I' q
  | ret v=>exact q
  | brk=>exact q
  | cont=>exact q
theorem pss_one (h1:PS X st t):PSs X [st] t:=by
  intro pins s σ H D I h
  refine wpAny_execs_cons (thn (h1 pins s σ H D I h) fun f s1 q=>?_)
  cases f with
  | next=>exact wpAny_execs_nil q
  | ret v=>exact q
  | brk=>exact q
  | cont=>exact q
theorem Inv.quiet {pins:List (Addr × Obj)} {σ:St} {H:Hp} {s:Shared} (I:Inv X pins σ H s):interactive X.env=false:=by simp [interactive,I.ok.kind]
def tDrop (te:TE):TS:=fun D σ H=>te σ H fun _ H1=>D.nx σ H1
theorem ps_expr (he:PE X e te) (hs:swapsWith e none pos.line X.env=pure false:=by rfl):PS X (.Expr e pos) (tDrop te):=by
  intro pins s σ H D I h
  exact wpAny_Expr_any (thn (he pins s σ H _ I h) fun v s1 ⟨x,H1,I1,r1,q1⟩=>⟨σ,H1,I1,q1⟩) I.quiet hs
def tRet (te:TE):TS:=fun D σ H=>te σ H D.rt
theorem ps_ret (he:PE X e te):PS X (.Return (some e) pos) (tRet te):=by
  intro pins s σ H D I h
  exact wpAny_Return_some (thn (he pins s σ H _ I h) fun v s1 ⟨x,H1,I1,r1,q1⟩=>⟨x,σ,H1,I1,r1,q1⟩)
def tIfS (c:TT) (t u:TS):TS:=fun D σ H=>c σ H fun b H1=>if b=true then t D σ H1 else u D σ H1
theorem ps_if {c:Expr} {a b:List Stmt} {tc:TT} (hc:PT X c tc) (ha:PSs X a t) (hb:PSs X b u):PS X (.If c a b pos) (tIfS tc t u):=by
  intro pins s σ H D I h
  refine wpAny_If (thn (hc pins s σ H _ I h) fun d s1 ⟨H1,I1,q1⟩=>?_)
  cases d with
  | true=>exact ha pins s1 σ H1 D I1 q1
  | false=>exact hb pins s1 σ H1 D I1 q1
def tNever:TS:=fun _ _ _=>False
theorem pss_never {sts:List Stmt}:PSs X sts tNever:=fun _ _ _ _ _ _ h=>h.elim
end
abbrev TG:=V→St→Hp→(St→Hp→Prop)→Prop
abbrev TGs:=List V→St→Hp→(St→Hp→Prop)→Prop
def PG (X:Cx) (target:Expr) (t:TG):Prop :=
  ∀ (pins:List (Addr × Obj)) (s:Shared) (σ:St) (H:Hp) (v:V) (u:Value) (Q:St→Hp→Prop),Inv X pins σ H s→RelV v u→t v σ H Q →
    wpAny (model X.prog X.w) X.A (assign target X.env u) (fun _ s'=>∃ σ' H',Inv X pins σ' H' s'∧Q σ' H') X.xe s
def PGs (X:Cx) (ts:List Expr) (t:TGs):Prop :=
  ∀ (pins:List (Addr × Obj)) (s:Shared) (σ:St) (H:Hp) (vs:List V) (us:List Value) (Q:St→Hp→Prop),Inv X pins σ H s→Vals vs us→t vs σ H Q →
    wpAny (model X.prog X.w) X.A (assignInOrder ((assignEach ts X.env).map (·.2)) us) (fun _ s'=>∃ σ' H',Inv X pins σ' H' s'∧Q σ' H') X.xe s
abbrev TSet:=V→V→V→Hp→(Hp→Prop)→Prop
def PSet (X:Cx) (t:TSet):Prop :=
  ∀ (pins:List (Addr × Obj)) (s:Shared) (σ:St) (H:Hp) (o i v:V) (ov iv u:Value) (Q:Hp→Prop),Inv X pins σ H s→RelV o ov→RelV i iv→RelV v u→t o i v H Q →
    wpAny (model X.prog X.w) X.A (setItem ov iv u) (fun _ s'=>∃ H',Inv X pins σ H' s'∧Q H') X.xe s
section
variable {X:Cx} {pos:Pos}
def gName (i:Nat):TG:=fun v σ H Q=>Q (σ.set i (some v)) H
theorem pg_name {i:Nat} {x:Str} (hN:X.N.Nodup) (hi:X.N[i]? = some x) (hx:Loc X.env.scope x) (hf:X.fn x=true∨X.env.scope.names.lookup x=some .local:=by first | exact .inl rfl | exact .inr rfl | assumption):PG X (.Name x pos) (gName i):=by
  intro pins s σ H v u Q I r h
  exact wpAny_assign_Name (store_ok I hN hi hx r (fun s' I'=>⟨_,H,I',h⟩) hf)
def gNil:TGs:=fun vs σ H Q=>vs=[]∧Q σ H
def gCons (t:TG) (u:TGs):TGs:=fun vs σ H Q=>∃ v r,vs=v :: r∧t v σ H fun σ' H'=>u r σ' H' Q
theorem pgs_nil:PGs X [] gNil:=by
  intro pins s σ H vs us Q I r h
  obtain ⟨e,h⟩:=h
  subst e
  cases r
  exact assignInOrder_nil ⟨σ,H,I,h⟩
theorem pgs_cons {e:Expr} {es:List Expr} {t:TG} {u:TGs} (h1:PG X e t) (h2:PGs X es u)
    (hs:(assignEach (e :: es) X.env).map (·.2)=assign e X.env :: (assignEach es X.env).map (·.2):=by rfl):PGs X (e :: es) (gCons t u):=by
  intro pins s σ H vs us Q I r h
  obtain ⟨v,vr,e1,h⟩:=h
  subst e1
  cases r with
  | cons r rr =>
    rw [hs]
    refine assignInOrder_cons (thn (h1 pins s σ H _ _ _ I r h) fun _ s1 ⟨σ1,H1,I1,q1⟩=>?_)
    exact h2 pins s1 σ1 H1 _ _ Q I1 rr q1
def gTup (K:PySem.W.Frag) (n:Nat) (t:TGs):TG:=fun v σ H Q=>∃ a xs,v=.ref a∧SqT K H a xs∧xs.length=n∧t xs σ H Q
theorem pg_tup {es:List Expr} {k:Nat} {t:TGs} {n:Nat} (hc:X.calm=true) (h:PGs X es t)
    (hn:(assignEach es X.env).length=n:=by rfl) (hst:(assignEach es X.env).findIdx? (·.1)=none:=by rfl):PG X (.Tuple es k pos) (gTup X.K n t):=by
  intro pins s σ H v u Q I r hw
  obtain ⟨a,xs,e1,hq,hl,hw⟩:=hw
  subst e1
  cases r
  obtain ⟨its,rv,ht,hz⟩:=I.tuple hq
  refine assign_Tuple_tuple (I.ok.hd hc) ht (by simp [hn,← hl,rv.length]) hst fun h' hx=>?_
  have I1:Inv X pins σ H { s with heap:=h' }:=I.kept (t':=s.toks) fun b o e=>hx b o (Nat.ne_of_lt (Heap.lt_size e)) e
  exact h pins _ σ H xs _ Q I1 (by simpa using rv) hw
def gSub (to ti:TE) (t:TSet):TG:=fun v σ H Q=>to σ H fun o H1=>ti σ H1 fun i H2=>t o i v H2 fun H3=>Q σ H3
theorem pg_sub {o i:Expr} {to ti:TE} {t:TSet} (ho:PE X o to) (hi:PE X i ti) (hs:PSet X t)
    (ha:∀ v,assign (.Subscript o i pos) X.env v=(do
      let ov ← holding [v] (eval o X.env)
      let iv ← holding [v,ov] (eval i X.env)
      standAt pos
      holding [v,ov,iv] (setItem ov iv v)
      release [v,ov,iv] []):=by intro _;rfl):PG X (.Subscript o i pos) (gSub to ti t):=by
  intro pins s σ H v u Q I r h
  rw [ha]
  refine wpAny_bind (wpAny_holding (thn (ho pins s σ H _ I h) fun ov s1 ⟨x,H1,I1,r1,q1⟩=>?_))
  refine wpAny_bind (wpAny_holding (thn (hi pins s1 σ H1 _ I1 q1) fun iv s2 ⟨y,H2,I2,r2,q2⟩=>?_))
  refine wpAny_bind (wpAny_standAt (wpAny_bind (wpAny_holding (thn (hs pins s2 σ H2 x y v ov iv u _ I2 r1 r2 r q2) fun _ s3 ⟨H3,I3,q3⟩=>?_))))
  exact wpAny_release ⟨σ,H3,I3,q3⟩
def tAsg (te:TE) (g:TG):TS:=fun D σ H=>te σ H fun x H1=>g x σ H1 D.nx
theorem ps_asg {tg e:Expr} {te:TE} {g:TG} (he:PE X e te) (hg:PG X tg g) (hs:swapsWithSole [tg] e pos.line X.env=pure false:=by rfl) (hw:swappedStores [tg] e X.env=pure none:=by rfl)
    (h1:(assignEach [tg] X.env).map (·.2)=[assign tg X.env]:=by rfl):PS X (.Assign [tg] e pos) (tAsg te g):=by
  intro pins s σ H D I h
  refine wpAny_Assign_stores (thn (he pins s σ H _ I h) fun v s1 ⟨x,H1,I1,r1,q1⟩=>?_) hs hw
  rw [h1]
  exact thn (hg pins s1 σ H1 x v _ I1 r1 q1) fun _ s2 q=>q
theorem ps_set {i:Nat} {x:Str} {e:Expr} {te:TE} {pos':Pos} (hN:X.N.Nodup) (hi:X.N[i]? = some x) (hx:Loc X.env.scope x) (he:PE X e te) (hs:swapsWith e (some (.Name x pos')) pos.line X.env=pure false:=by rfl) (hf:X.fn x=true∨X.env.scope.names.lookup x=some .local:=by first | exact .inl rfl | exact .inr rfl | assumption) :
    PS X (.Assign [.Name x pos'] e pos) (tAsg te (gName i)):=by
  intro pins s σ H D I h
  refine wpAny_Assign_Name (thn (he pins s σ H _ I h) fun v s1 ⟨y,H1,I1,r1,q1⟩=>?_) hs
  exact store_ok I1 hN hi hx r1 (fun s2 I2=>⟨_,H1,I2,q1⟩) hf
end
section
variable {X:Cx} {pos:Pos}
def tWhile (c:TT) (tb:TS):TS:=fun D σ H=>∃ W:Nat→St→Hp→Prop,(∃ m,W m σ H)∧∀ m σ H,W m σ H →
  c σ H fun b H1=>if b=true then ∃ N:St→Hp→Prop,(∀ σ' H',N σ' H'→∃ m',m' < m∧W m' σ' H')∧tb { D with nx:=N,ct:=N,bk:=D.nx } σ H1 else D.nx σ H1
theorem ps_while {c:Expr} {body:List Stmt} {tc:TT} {tb:TS} (hp:PassesOwn (model X.prog X.w) X.A X.env X.xe) (hc:PT X c tc) (hb:PSs X body tb):PS X (.While c body [] pos) (tWhile tc tb):=by
  intro pins s σ H D I h
  obtain ⟨W,⟨m0,w0⟩,turn⟩:=h
  refine wpAny_While (codeAny_whileLoop (fun n s'=>∃ σ' H',Inv X pins σ' H' s'∧W n σ' H') ?_ m0 ⟨σ,H,I,w0⟩)
  rintro n s1 ⟨σ1,H1,I1,w1⟩
  refine wpAny_passesOwn hp (thn (hc pins s1 σ1 H1 _ I1 (turn n σ1 H1 w1)) fun b s2 ⟨H2,I2,q2⟩=>?_)
  cases b with
  | true =>
    obtain ⟨N,hN,q2⟩:=q2
    rw [if_pos rfl]
    refine wpAny_passesOwn hp (thn (hb pins s2 σ1 H2 _ I2 q2) fun f s3 q3=>?_)
    cases f with
    | next =>
      obtain ⟨σ3,H3,I3,n3⟩:=q3
      obtain ⟨m',hm,w3⟩:=hN σ3 H3 n3
      exact ⟨m',hm,σ3,H3,I3,w3⟩
    | cont =>
      obtain ⟨σ3,H3,I3,n3⟩:=q3
      obtain ⟨m',hm,w3⟩:=hN σ3 H3 n3
      exact ⟨m',hm,σ3,H3,I3,w3⟩
    | brk=>exact q3
    | ret v=>exact q3
  | false =>
    rw [if_neg Bool.false_ne_true]
    exact wpAny_execs_nil ⟨σ1,H2,I2,q2⟩
end
structure It where
  go:Nat→Hp→Prop
  yld:Nat→Hp→V→Hp→Prop
  stop:Nat→Hp→Prop
def FpOk (X:Cx) (pins:List (Addr × Obj)) (H:Hp) (b:Addr):Prop :=
  H b=none∧b≠X.env.locals∧b ∉ X.fs∧(b∈X.ex∨X.s₀.heap.objs.size≤b)∧(∀ x c,X.env.cells.lookup x=some c→c≠b)∧∀ p∈X.pn++pins,p.1≠b
theorem Inv.fpOk {X:Cx} {pins:List (Addr × Obj)} {σ:St} {H H':Hp} {s:Shared} {b:Addr} (I:Inv X pins σ H s) (hb:s.heap.objs.size≤b) (hn:H' b=none):FpOk X pins H' b:=by
  refine ⟨hn,Nat.ne_of_gt (Nat.lt_of_lt_of_le I.lt hb),I.nofs hb,.inr (Nat.le_trans I.sz hb),fun x c e z=>?_,fun p hp z=>?_⟩
  · obtain ⟨v,q⟩:=I.cell x c e
    exact absurd (Nat.lt_of_lt_of_le q.lt (by rw [z];exact hb)) (Nat.lt_irrefl _)
  · exact absurd (Nat.lt_of_lt_of_le (Heap.lt_size (I.pin p hp).1) (by rw [z];exact hb)) (Nat.lt_irrefl _)
structure Turn (P:Program) (w:World) (K:PySem.W.Frag) (tg:Expr) (J:It) (fp:List Addr) (it:Addr) (tn:Nat→Heap→Prop):Prop where
  mem:it∈fp
  obj:∀ i h,tn i h→∀ b∈fp,∃ o,h.get? b=some o∧∀ v,o.data≠.cell v
  keep:∀ i h h',tn i h→(∀ b∈fp,∀ o,h.get? b=some o→h'.get? b=some o)→tn i h'
  item:∀ (X:Cx),X.prog=P→X.w=w→X.K=K→X.calm=true→∀ (i:Nat) (pins:List (Addr × Obj)) (s:Shared) (σ:St) (H:Hp) (E:Value→Shared→Prop),Inv X pins σ H s→(∀ b∈fp,FpOk X pins H b)→tn i s.heap→J.go i H →
    wpAny (model P w) X.A (pyNext (.ref it)) (fun r s1=>∃ u,r=some u ∧
      wpAny (model P w) X.A (letOwnedTupleGo tg (.ref it) u) (fun _ s2=>∃ x H',Inv X pins σ H' s2∧RelV x u∧J.yld i H x H'∧tn (i+1) s2.heap∧∀ b∈fp,H' b=none) E s1) E s
  done:∀ (X:Cx),X.prog=P→X.w=w→X.K=K→X.calm=true→∀ (i:Nat) (pins:List (Addr × Obj)) (s:Shared) (σ:St) (H:Hp) (E:Value→Shared→Prop),Inv X pins σ H s→(∀ b∈fp,FpOk X pins H b)→tn i s.heap→J.stop i H →
    wpAny (model P w) X.A (pyNext (.ref it)) (fun r s1=>r=none∧Inv X pins σ H s1) E s
  self:∀ (A:Around) (i:Nat) (s:Shared) (Q:Value→Shared→Prop) (E:Value→Shared→Prop),tn i s.heap→Q (.ref it) s→wpAny (model P w) A (pyIter (.ref it)) Q E s
abbrev TI:=St→Hp→(It→Hp→Prop)→Prop
def PIE (X:Cx) (pins:List (Addr × Obj)) (σ:St) (tg:Expr) (R:It→Hp→Prop) (itv:Value) (s2:Shared):Prop :=
  ∃ (it:Addr) (fp:List Addr) (tn:Nat→Heap→Prop) (J:It) (H':Hp),itv=.ref it∧Inv X pins σ H' s2∧Turn X.prog X.w X.K tg J fp it tn∧tn 0 s2.heap∧(∀ b∈fp,FpOk X pins H' b)∧R J H'
def PI (X:Cx) (tg iter:Expr) (wi:TI):Prop :=
  ∀ (pins:List (Addr × Obj)) (s:Shared) (σ:St) (H:Hp) (R:It→Hp→Prop),Inv X pins σ H s→wi σ H R →
    wpAny (model X.prog X.w) X.A (eval iter X.env) (fun v s1=>wpAny (model X.prog X.w) X.A (pyIter v) (PIE X pins σ tg R) X.xe s1) X.xe s
theorem go_of {M:Model} {A:Around} {E:Value→Shared→Prop} {s:Shared} {tg:Expr} {it:Addr} {u:Value} {o:Obj} {n:String} {vs:Array Value} {Q:Unit→Shared→Prop} (ho:s.heap.get? it=some o) (hc:o.cls=.type n) (hd:o.data=.fields vs)
    (hn:["enumerate","zip","dict_itemiterator","dict_reverseitemiterator","odict_iterator","itertools.zip_longest","itertools.pairwise"].contains n=false) (hQ:Q () s):wpAny M A (letOwnedTupleGo tg (.ref it) u) Q E s:=by
  unfold letOwnedTupleGo
  cases tg <;> first
    | exact wpAny_pure hQ
    | (cases u <;> first
        | exact wpAny_pure hQ
        | (refine wpAny_bind (wpAny_load ho ?_)
           rw [hc,hd]
           show wpAny M A (if (["enumerate","zip","dict_itemiterator","dict_reverseitemiterator","odict_iterator","itertools.zip_longest","itertools.pairwise"].contains n && vs[0]? == some (rawInt _))=true then _ else _) Q E s
           rw [if_neg (by intro h;rw [hn,Bool.false_and] at h;cases h)]
           exact wpAny_pure hQ))
def Itl (K:PySem.W.Frag) (a:Addr):It :=
  ⟨fun i H=>∃ xs x,SqL K H a xs∧xs[i]? = some x,fun i H x H'=>H'=H∧∀ xs,SqL K H a xs→xs[i]? = some x,fun i H=>∃ xs,SqL K H a xs∧xs.length≤i⟩
def Itt (K:PySem.W.Frag) (a:Addr):It :=
  ⟨fun i H=>∃ xs x,SqT K H a xs∧xs[i]? = some x,fun i H x H'=>H'=H∧∀ xs,SqT K H a xs→xs[i]? = some x,fun i H=>∃ xs,SqT K H a xs∧xs.length≤i⟩
def Itr (lo:Int) (n:Nat):It:=⟨fun i _=>i < n,fun i H x H'=>H'=H∧x=.int (lo+i),fun i _=>n≤i⟩
theorem turn_list {P:Program} {w:World} {K:PySem.W.Frag} {tg:Expr} (a it:Addr):Turn P w K tg (Itl K a) [it] it (fun i h=>h.IsListIter it a i) where
  mem:=by simp
  obj:=fun i h st b hb=>by
    have e:b=it:=by simpa using hb
    subst e
    obtain ⟨o,e,c,d⟩:=st
    exact ⟨o,e,fun v z=>by rw [d] at z;cases z⟩
  keep:=fun i h h' st k=>st.at fun o e=>k it (by simp) o e
  item:=by
    intro X hP hw hK hc i pins s σ H E I hf st hg
    subst hP hw hK
    obtain ⟨xs,x,hq,hx⟩:=hg
    obtain ⟨its,rv,p,hz⟩:=I.list hq
    obtain ⟨u,hu,ru⟩:=rv.get hx
    obtain ⟨f0,f1,f2,f3,f4,f5⟩:=hf it (by simp)
    refine wpAny_pyNext_list_item st p.isList (x:=u) (by simpa using hu) fun h' st' sb=>?_
    have I1:Inv X pins σ H { s with heap:=h' }:=I.turned (t':=s.toks) (fun b o hb e=>(sb.2 b hb).trans e) f0 f1 f3 f4 f5
    obtain ⟨o,e,c,d⟩:=id st'
    exact ⟨u,rfl,go_of (s:={ s with heap:=h' }) e c d (by decide) ⟨x,H,I1,ru,⟨rfl,fun ys hy=>by rw [I.list_inj hy hq];exact hx⟩,st',fun b hb=>(hf b hb).1⟩⟩
  done:=by
    intro X hP hw hK hc i pins s σ H E I hf st hg
    subst hP hw hK
    obtain ⟨xs,hq,hx⟩:=hg
    obtain ⟨its,rv,p,hz⟩:=I.list hq
    obtain ⟨f0,f1,f2,f3,f4,f5⟩:=hf it (by simp)
    have hl:=rv.length
    exact wpAny_pyNext_list_end (I.ok.hd hc) st p.isList (by simp;omega) fun h' eb=>⟨rfl,I.turned (t':=s.toks) (fun b o hb e=>eb b o hb e) f0 f1 f3 f4 f5⟩
  self:=fun _ _ _ _ _ st h=>wpAny_pyIter_listiter st h
theorem turn_tuple {P:Program} {w:World} {K:PySem.W.Frag} {tg:Expr} (a it:Addr):Turn P w K tg (Itt K a) [it] it (fun i h=>h.IsTupleIter it a i) where
  mem:=by simp
  obj:=fun i h st b hb=>by
    have e:b=it:=by simpa using hb
    subst e
    obtain ⟨o,e,c,d⟩:=st
    exact ⟨o,e,fun v z=>by rw [d] at z;cases z⟩
  keep:=fun i h h' st k=>st.at fun o e=>k it (by simp) o e
  item:=by
    intro X hP hw hK hc i pins s σ H E I hf st hg
    subst hP hw hK
    obtain ⟨xs,x,hq,hx⟩:=hg
    obtain ⟨its,rv,p,hz⟩:=I.tuple hq
    obtain ⟨u,hu,ru⟩:=rv.get hx
    obtain ⟨f0,f1,f2,f3,f4,f5⟩:=hf it (by simp)
    refine wpAny_pyNext_tuple_item st (show s.heap.IsTuple a its.toArray from p) (x:=u) (by simpa using hu) fun h' st' sb=>?_
    have I1:Inv X pins σ H { s with heap:=h' }:=I.turned (t':=s.toks) (fun b o hb e=>(sb.2 b hb).trans e) f0 f1 f3 f4 f5
    obtain ⟨o,e,c,d⟩:=id st'
    exact ⟨u,rfl,go_of (s:={ s with heap:=h' }) e c d (by decide) ⟨x,H,I1,ru,⟨rfl,fun ys hy=>by rw [I.tuple_inj hy hq];exact hx⟩,st',fun b hb=>(hf b hb).1⟩⟩
  done:=by
    intro X hP hw hK hc i pins s σ H E I hf st hg
    subst hP hw hK
    obtain ⟨xs,hq,hx⟩:=hg
    obtain ⟨its,rv,p,hz⟩:=I.tuple hq
    obtain ⟨f0,f1,f2,f3,f4,f5⟩:=hf it (by simp)
    have hl:=rv.length
    exact wpAny_pyNext_tuple_end (I.ok.hd hc) st (show s.heap.IsTuple a its.toArray from p) (by simp;omega) fun h' eb=>⟨rfl,I.turned (t':=s.toks) (fun b o hb e=>eb b o hb e) f0 f1 f3 f4 f5⟩
  self:=fun _ _ _ _ _ st h=>wpAny_pyIter_tupleiter st h
theorem turn_range {P:Program} {w:World} {K:PySem.W.Frag} {tg:Expr} (it:Addr) (lo:Int) (n:Nat):Turn P w K tg (Itr lo n) [it] it (fun i h=>IsRangeIter h it (lo+(i:Nat) * 1) ((n:Int) - (i:Nat)) 1) where
  mem:=by simp
  obj:=fun i h st b hb=>by
    have e:b=it:=by simpa using hb
    subst e
    exact ⟨_,st,fun v z=>by
      have z':Data.fields _=Data.cell v:=z
      cases z'⟩
  keep:=fun i h h' st k=>k it (by simp) _ st
  item:=by
    intro X hP hw hK hc i pins s σ H E I hf st hg
    subst hP hw hK
    obtain ⟨f0,f1,f2,f3,f4,f5⟩:=hf it (by simp)
    have W:=Walks.range (prog:=X.prog) (w:=X.w) (I.ok.hd hc) it lo 1 n
    refine W.item i s _ _ hg st fun v h' tk hv st' kk=>?_
    obtain ⟨t,rfl⟩:=hv
    have I1:Inv X pins σ H { s with heap:=h',toks:=tk }:=I.turned (fun b o hb e=>kk b o (by simpa using hb) e) f0 f1 f3 f4 f5
    refine ⟨_,rfl,go_of (s:={ s with heap:=h',toks:=tk }) (n:="range_iterator") st' rfl rfl (by decide) ⟨.int (lo+i),H,I1,⟨t,?_⟩,⟨rfl,rfl⟩,st',fun b hb=>(hf b hb).1⟩⟩
    rw [Int.mul_one]
  done:=by
    intro X hP hw hK hc i pins s σ H E I hf st hg
    subst hP hw hK
    obtain ⟨f0,f1,f2,f3,f4,f5⟩:=hf it (by simp)
    exact wpAny_pyNext_range_end (I.ok.hd hc) st (by have:n≤i:=hg;omega) fun h' eb=>⟨rfl,I.turned (t':=s.toks) (fun b o hb e=>eb b o hb e) f0 f1 f3 f4 f5⟩
  self:=fun _ _ _ _ _ st h=>wpAny_pyIter_rangeiter st h
end L2
namespace L2
open PySem PySem.Spec PyProof.Rows
section
variable {X:Cx} {tg:Expr}
def iList (K:PySem.W.Frag) (tl:TE):TI:=fun σ H R=>tl σ H fun x H1=>∃ a,x=.ref a∧(∃ xs,SqL K H1 a xs)∧R (Itl K a) H1
def iTup (K:PySem.W.Frag) (tl:TE):TI:=fun σ H R=>tl σ H fun x H1=>∃ a,x=.ref a∧(∃ xs,SqT K H1 a xs)∧R (Itt K a) H1
theorem pi_list {l:Expr} {tl:TE} (hl:PE X l tl):PI X tg l (iList X.K tl):=by
  intro pins s σ H R I h
  refine thn (hl pins s σ H _ I h) fun v s1 ⟨x,H1,I1,r1,q1⟩=>?_
  obtain ⟨a,e,⟨xs,hq⟩,q⟩:=q1
  subst e
  cases r1
  obtain ⟨its,rv,p,hz⟩:=I1.list hq
  refine wpAny_pyIter_list p.isList ?_
  refine ⟨s1.heap.objs.size,[s1.heap.objs.size],_,_,H1,rfl,I1.kept (t':=s1.toks) fun b o e=>Heap.get?_push_of_some _ e,turn_list a _,⟨_,Heap.get?_push_size _ rfl,rfl,rfl⟩,fun b hb=>?_,q⟩
  have e:b=s1.heap.objs.size:=by simpa using hb
  subst e
  exact I1.fpOk (Nat.le_refl _) (I1.hok.fresh (Nat.le_refl _))
theorem pi_tup {l:Expr} {tl:TE} (hl:PE X l tl):PI X tg l (iTup X.K tl):=by
  intro pins s σ H R I h
  refine thn (hl pins s σ H _ I h) fun v s1 ⟨x,H1,I1,r1,q1⟩=>?_
  obtain ⟨a,e,⟨xs,hq⟩,q⟩:=q1
  subst e
  cases r1
  obtain ⟨its,rv,p,hz⟩:=I1.tuple hq
  refine wpAny_pyIter_tuple (show s1.heap.IsTuple a its.toArray from p) ?_
  refine ⟨s1.heap.objs.size,[s1.heap.objs.size],_,_,H1,rfl,I1.kept (t':=s1.toks) fun b o e=>Heap.get?_push_of_some _ e,turn_tuple a _,⟨_,Heap.get?_push_size _ rfl,rfl,rfl⟩,fun b hb=>?_,q⟩
  have e:b=s1.heap.objs.size:=by simpa using hb
  subst e
  exact I1.fpOk (Nat.le_refl _) (I1.hok.fresh (Nat.le_refl _))
theorem range_it {pins:List (Addr × Obj)} {σ:St} {H:Hp} {s:Shared} {R:It→Hp→Prop} {E:Value→Shared→Prop} {lo hi:Int} {t u v:Tok} {tk:Nat} (I:Inv X pins σ H s) (h1:-(2 ^ 62)≤lo) (h2:lo < 2 ^ 62) (h3:-(2 ^ 62)≤hi) (h4:hi < 2 ^ 62)
    (q:R (Itr lo (hi - lo).toNat) H):wpAny (model X.prog X.w) X.A (pyIter (.ref s.heap.objs.size)) (PIE X pins σ tg R) E { s with heap:=s.heap.push { cls:=.type "range",data:=.fields #[.int lo t,.int hi u,.int 1 v] },toks:=tk }:=by
  refine wpAny_pyIter_range (IsRange.new ..) (small_one h1 h2 h3 h4) ?_
  have I1:Inv X pins σ H { s with heap:=s.heap.push { cls:=.type "range",data:=.fields #[.int lo t,.int hi u,.int 1 v] },toks:=tk }:=I.kept fun b o e=>Heap.get?_push_of_some _ e
  refine ⟨(s.heap.push { cls:=.type "range",data:=.fields #[.int lo t,.int hi u,.int 1 v] }).objs.size,[(s.heap.push { cls:=.type "range",data:=.fields #[.int lo t,.int hi u,.int 1 v] }).objs.size],_,_,H,rfl,
    I1.kept (t':=tk) fun b o e=>Heap.get?_push_of_some _ e,turn_range _ lo (hi - lo).toNat,?_,fun b hb=>?_,q⟩
  · have e1:lo+((0:Nat):Int) * 1=lo:=by simp
    have e2:(((hi - lo).toNat:Nat):Int) - ((0:Nat):Int)=Builtin.Range.rangeSize lo hi 1:=by rw [rangeSize_one];split <;> omega
    show IsRangeIter _ _ (lo+((0:Nat):Int) * 1) ((((hi - lo).toNat:Nat):Int) - ((0:Nat):Int)) 1
    rw [e1,e2]
    exact Heap.get?_push_size _ rfl
  · have e:b=(s.heap.push { cls:=.type "range",data:=.fields #[.int lo t,.int hi u,.int 1 v] }).objs.size:=by simpa using hb
    subst e
    exact I1.fpOk (Nat.le_refl _) (I1.hok.fresh (Nat.le_refl _))
def iRng1 (ta:TA):TI:=fun σ H R=>ta σ H fun vs H1=>∃ j:Int,vs=[.int j]∧-(2 ^ 62)≤j∧j < 2 ^ 62∧R (Itr 0 j.toNat) H1
def iRng2 (ta:TA):TI:=fun σ H R=>ta σ H fun vs H1=>∃ i j:Int,vs=[.int i,.int j]∧(-(2 ^ 62)≤i∧i < 2 ^ 62∧-(2 ^ 62)≤j∧j < 2 ^ 62)∧R (Itr i (j - i).toNat) H1
theorem pi_range1 {a:Expr} {ta:TA} {p pos:Pos} (hg:Gl X "range") (hm:X.mg "range" = none) (ha:PA X [a] ta) (hs:starEach [a] X.env=[(false,eval a X.env)]:=by rfl):PI X tg (.Call (.Name "range" p) [a] [] pos) (iRng1 ta):=by
  intro pins s σ H R I h
  refine Call_ (ld_blt I hg hm boot_range (PyProof.Rows.callWith_type1 (thn (ha pos pins s σ H _ I h) fun us s1 ⟨vs,H1,I1,r1,q1⟩=>?_) hs rfl))
  obtain ⟨j,e,q1,q2,q⟩:=q1
  subst e
  cases r1 with
  | cons r rr =>
    cases rr
    obtain ⟨t,rfl⟩:=r
    exact call_range_1 (range_it I1 (by omega) (by omega) q1 q2 (by simpa using q))
theorem pi_range2 {a b:Expr} {ta:TA} {p pos:Pos} (hg:Gl X "range") (hm:X.mg "range" = none) (ha:PA X [a,b] ta) (hs:starEach [a,b] X.env=[(false,eval a X.env),(false,eval b X.env)]:=by rfl) (hs2:starEach [b] X.env=[(false,eval b X.env)]:=by rfl) :
    PI X tg (.Call (.Name "range" p) [a,b] [] pos) (iRng2 ta):=by
  intro pins s σ H R I h
  refine Call_ (ld_blt I hg hm boot_range (PyProof.Rows.callWith_type1 (thn (ha pos pins s σ H _ I h) fun us s1 ⟨vs,H1,I1,r1,q1⟩=>?_) (by rw [hs,hs2]) (by rw [hs2];rfl)))
  obtain ⟨i,j,e,⟨q1,q2,q3,q4⟩,q⟩:=q1
  subst e
  cases r1 with
  | cons r rr =>
    cases rr with
    | cons r' rr =>
      cases rr
      obtain ⟨t,rfl⟩:=r
      obtain ⟨t',rfl⟩:=r'
      exact call_range_2 (range_it I1 q1 q2 q3 q4 q)
def tFor (wi:TI) (g:TG) (tb:TS):TS:=fun D σ H=>wi σ H fun J H1=>∃ W:Nat→Nat→St→Hp→Prop,(∃ m,W 0 m σ H1)∧∀ i m σ H,W i m σ H →
  (J.stop i H∧D.nx σ H)∨(J.go i H∧∃ N:St→Hp→Prop,(∀ σ' H',N σ' H'→∃ m',m' < m∧W (i+1) m' σ' H')∧∀ x H',J.yld i H x H'→g x σ H' fun σ2 H2=>tb { D with nx:=N,ct:=N,bk:=D.nx } σ2 H2)
def pinsAt (fp:List Addr) (h:Heap):List (Addr × Obj):=fp.filterMap fun b=>(h.get? b).map fun o=>(b,o)
theorem mem_pinsAt {fp:List Addr} {h:Heap} {b:Addr} {o:Obj} (hb:b∈fp) (e:h.get? b=some o):(b,o)∈pinsAt fp h:=List.mem_filterMap.mpr ⟨b,hb,by rw [e];rfl⟩
theorem of_pinsAt {fp:List Addr} {h:Heap} {p:Addr × Obj} (hp:p∈pinsAt fp h):p.1∈fp∧h.get? p.1=some p.2:=by
  obtain ⟨b,hb,e⟩:=List.mem_filterMap.mp hp
  cases q:h.get? b with
  | none=>rw [q] at e;cases e
  | some o =>
    rw [q] at e
    have e':(b,o)=p:=Option.some.inj e
    subst e'
    exact ⟨hb,q⟩
theorem Inv.pinned {pins:List (Addr × Obj)} {σ:St} {H:Hp} {s:Shared} {fp:List Addr} (I:Inv X pins σ H s) (hf:∀ b∈fp,FpOk X pins H b) (ho:∀ b∈fp,∃ o,s.heap.get? b=some o∧∀ v,o.data≠.cell v):Inv X (pins++pinsAt fp s.heap) σ H s :=
  I.pins_of fun p hp=>(List.mem_append.mp hp).elim (fun z=>I.pin p (List.mem_append_right _ z)) fun z=>by
    obtain ⟨hb,e⟩:=of_pinsAt z
    obtain ⟨f0,f1,f2,_⟩:=hf p.1 hb
    obtain ⟨o,e',d⟩:=ho p.1 hb
    rw [e] at e';cases e'
    exact ⟨e,f0,f1,f2,d⟩
theorem Inv.unpinned {pins pl:List (Addr × Obj)} {σ:St} {H:Hp} {s:Shared} (I:Inv X (pins++pl) σ H s):Inv X pins σ H s:=I.pins_of fun p hp=>I.pin p (List.mem_append_right _ (List.mem_append_left _ hp))
theorem ps_for {iter:Expr} {body:List Stmt} {wi:TI} {g:TG} {tb:TS} {pos:Pos} (hp:PassesOwn (model X.prog X.w) X.A X.env X.xe) (hc:X.calm=true) (hi:PI X tg iter wi) (hg:PG X tg g) (hb:PSs X body tb)
    (hs:∀ x,foldedSetIterable iter X.env x=pure x:=by intro _;rfl):PS X (.For tg iter body [] pos) (tFor wi g tb):=by
  intro pins s σ H D I h
  refine wpAny_For (thn (hi pins s σ H _ I h) fun v s1 h1=>thn h1 fun itv s2 h2=>?_) hs
  obtain ⟨it,fp,tn,J,H2,e,I2,T,st2,f2,W,⟨m0,w0⟩,turn⟩:=h2
  subst e
  -- what stays true of the iterator's objects through the loop
  have stat:∀ {H':Hp},(∀ b∈fp,H' b=none)→∀ b∈fp,FpOk X pins H' b:=fun hn b hb=>⟨hn b hb,(f2 b hb).2⟩
  refine codeAny_forLoop_any (fun n s'=>∃ i σ' H',Inv X pins σ' H' s'∧tn i s'.heap∧(∀ b∈fp,H' b=none)∧W i n σ' H') ?_ m0 ⟨0,σ,H2,I2,st2,fun b hb=>(f2 b hb).1,w0⟩
  rintro n s3 ⟨i,σ3,H3,I3,st3,fr3,w3⟩
  rcases turn i n σ3 H3 w3 with ⟨stop,qn⟩ | ⟨go,N,hN,step⟩
  · refine wpAny_passesOwn hp (thn (T.done X rfl rfl rfl hc i pins s3 σ3 H3 X.xe I3 (stat fr3) st3 stop) fun r s4 ⟨hr,I4⟩=>?_)
    subst hr
    exact wpAny_execs_nil ⟨σ3,H3,I4,qn⟩
  · refine wpAny_passesOwn hp (thn (T.item X rfl rfl rfl hc i pins s3 σ3 H3 X.xe I3 (stat fr3) st3 go) fun r s4 ⟨u,hr,h4⟩=>?_)
    subst hr
    refine wpAny_passesOwn hp (thn h4 fun _ s5 ⟨x,H5,I5,r5,y5,st5,fr5⟩=>?_)
    have I5':=I5.pinned (stat fr5) (T.obj _ _ st5)
    refine wpAny_passesOwn hp (thn (hg _ s5 σ3 H5 x u _ I5' r5 (step x H5 y5)) fun _ s6 ⟨σ6,H6,I6,q6⟩=>?_)
    refine wpAny_passesOwn hp (thn (hb _ s6 σ6 H6 _ I6 q6) fun f s7 q7=>?_)
    have again:∀ {σ7:St} {H7:Hp},Inv X (pins++pinsAt fp s5.heap) σ7 H7 s7→N σ7 H7→∃ m,m < n∧∃ i σ' H',Inv X pins σ' H' s7∧tn i s7.heap∧(∀ b∈fp,H' b=none)∧W i m σ' H':=fun {σ7 H7} I7 n7=>by
      obtain ⟨m',hm,w7⟩:=hN σ7 H7 n7
      refine ⟨m',hm,i+1,σ7,H7,I7.unpinned,T.keep _ _ _ st5 fun b hb o e=>(I7.pin (b,o) (List.mem_append_right _ (List.mem_append_right _ (mem_pinsAt hb e)))).1,fun b hb=>?_,w7⟩
      obtain ⟨o,e,d⟩:=T.obj _ _ st5 b hb
      exact (I7.pin (b,o) (List.mem_append_right _ (List.mem_append_right _ (mem_pinsAt hb e)))).2.1
    cases f with
    | next=>obtain ⟨σ7,H7,I7,n7⟩:=q7;exact again I7 n7
    | cont=>obtain ⟨σ7,H7,I7,n7⟩:=q7;exact again I7 n7
    | brk=>obtain ⟨σ7,H7,I7,q7⟩:=q7;exact ⟨σ7,H7,I7.unpinned,q7⟩
    | ret v=>obtain ⟨x7,σ7,H7,I7,r7,q7⟩:=q7;exact ⟨x7,σ7,H7,I7.unpinned,r7,q7⟩
end
end L2
namespace L2
open PySem PySem.Spec PyProof.Rows
abbrev R2:=V→V→Hp→VK→Prop
def OpR (X:Cx) (f:Value→Value→Sem Value) (r:R2):Prop :=
  ∀ (pins:List (Addr × Obj)) (s:Shared) (σ:St) (H:Hp) (x y:V) (v u:Value) (Q:VK),Inv X pins σ H s→RelV x v→RelV y u→r x y H Q →
    wpAny (model X.prog X.w) X.A (f v u) (EP X pins σ Q) X.xe s
def CallR (X:Cx) (f:Value) (r:List V→Hp→VK→Prop):Prop :=
  ∀ (pins:List (Addr × Obj)) (s:Shared) (σ:St) (H:Hp) (xs:List V) (us:List Value) (Q:VK),Inv X pins σ H s→Vals xs us→r xs H Q →
    wpAny (model X.prog X.w) X.A (call f us) (EP X pins σ Q) X.xe s
def TruR (X:Cx) (r:V→Hp→(Bool→Hp→Prop)→Prop):Prop :=
  ∀ (pins:List (Addr × Obj)) (s:Shared) (σ:St) (H:Hp) (x:V) (v:Value) (Q:Bool→Hp→Prop),Inv X pins σ H s→RelV x v→r x H Q →
    wpAny (model X.prog X.w) X.A (truthy v) (TP X pins σ Q) X.xe s
def tOp (r:R2) (ta tb:TE):TE:=fun σ H Q=>ta σ H fun x H1=>tb σ H1 fun y H2=>r x y H2 Q
def rI (C:Int→Int→Prop) (g:Int→Int→V):R2:=fun x y H Q=>∃ i j,x=.int i∧y=.int j∧C i j∧Q (g i j) H
def rI0 (g:Int→Int→V):R2:=fun x y H Q=>∃ i j,x=.int i∧y=.int j∧Q (g i j) H
section
variable {X:Cx} {a b c:Expr} {ta tb tc:TE} {pos:Pos}
theorem binT (ha:PE X a ta) (hb:PE X b tb) {pins:List (Addr × Obj)} {s:Shared} {σ:St} {H:Hp} {R:V→V→Hp→Prop} (I:Inv X pins σ H s)
    (h:ta σ H fun x H1=>tb σ H1 fun y H2=>R x y H2) {Q:Value→Shared→Prop} {f:Value→Value→Sem Value}
    (hf:∀ v u s2 x y H2,Inv X pins σ H2 s2→RelV x v→RelV y u→R x y H2→wpAny (model X.prog X.w) X.A (f v u) Q X.xe s2) :
    wpAny (model X.prog X.w) X.A (eval a X.env) (fun v s₁=>wpAny (model X.prog X.w) X.A (eval b X.env) (fun u s₂=>wpAny (model X.prog X.w) X.A (f v u) Q X.xe s₂) X.xe s₁) X.xe s:=by
  refine thn (ha pins s σ H _ I h) fun v s1 ⟨x,H1,I1,r1,q1⟩=>?_
  refine thn (hb pins s1 σ H1 _ I1 q1) fun u s2 ⟨y,H2,I2,r2,q2⟩=>?_
  exact hf v u s2 x y H2 I2 r1 r2 q2
theorem pe_op {op:Operator} {r:R2} (ho:OpR X (binaryOp op) r) (ha:PE X a ta) (hb:PE X b tb):PE X (.BinOp a op b pos) (tOp r ta tb):=by
  intro pins s σ H Q I h
  exact wpAny_BinOp (binT ha hb I h fun v u s2 x y H2 I2 rx ry q=>ho pins s2 σ H2 x y v u Q I2 rx ry q)
theorem opI {f:Value→Value→Sem Value} {C:Int→Int→Prop} {g:Int→Int→Int}
    (rule:∀ (i j:Int) (t u:Tok) (s:Shared) (Q:Value→Shared→Prop) (E:Value→Shared→Prop),C i j→Q (.int (g i j) s.toks) { s with toks:=s.toks+1 }→wpAny (model X.prog X.w) X.A (f (.int i t) (.int j u)) Q E s) :
    OpR X f (rI C fun i j=>.int (g i j)):=by
  intro pins s σ H x y v u Q I rx ry h
  obtain ⟨i,j,rfl,rfl,hc,q⟩:=h
  obtain ⟨t,rfl⟩:=rx
  obtain ⟨t',rfl⟩:=ry
  exact rule i j t t' s _ _ hc ⟨.int (g i j),H,I.tok _,⟨_,rfl⟩,q⟩
theorem opI0 {f:Value→Value→Sem Value} {g:Int→Int→Int}
    (rule:∀ (i j:Int) (t u:Tok) (s:Shared) (Q:Value→Shared→Prop) (E:Value→Shared→Prop),Q (.int (g i j) s.toks) { s with toks:=s.toks+1 }→wpAny (model X.prog X.w) X.A (f (.int i t) (.int j u)) Q E s) :
    OpR X f (rI0 fun i j=>.int (g i j)):=by
  intro pins s σ H x y v u Q I rx ry h
  obtain ⟨i,j,rfl,rfl,q⟩:=h
  obtain ⟨t,rfl⟩:=rx
  obtain ⟨t',rfl⟩:=ry
  exact rule i j t t' s _ _ ⟨.int (g i j),H,I.tok _,⟨_,rfl⟩,q⟩
theorem opB0 {f:Value→Value→Sem Value} {g:Int→Int→Bool}
    (rule:∀ (i j:Int) (t u:Tok) (s:Shared) (Q:Value→Shared→Prop) (E:Value→Shared→Prop),Q (.bool (g i j)) s→wpAny (model X.prog X.w) X.A (f (.int i t) (.int j u)) Q E s) :
    OpR X f (rI0 fun i j=>.bl (g i j)):=by
  intro pins s σ H x y v u Q I rx ry h
  obtain ⟨i,j,rfl,rfl,q⟩:=h
  obtain ⟨t,rfl⟩:=rx
  obtain ⟨t',rfl⟩:=ry
  exact rule i j t t' s _ _ ⟨.bl (g i j),H,I,rfl,q⟩
def CDiv (i j:Int):Prop:=0 < j∧j < 1073741824
def CPow (i j:Int):Prop:=0≤j∧j≤1000000∧i.natAbs < 2 ^ 64
def CMul (i j:Int):Prop:=(-(2 ^ 64) < i∧i < 2 ^ 64)∨(-(2 ^ 64) < j∧j < 2 ^ 64)
theorem CMul.ok {i j:Int} (h:CMul i j):IntMulOk i j:=by
  rcases h with ⟨h1,h2⟩ | ⟨h1,h2⟩
  · exact .of_left (intBits_le_64 h1 h2)
  · exact .of_right (intBits_le_64 h1 h2)
theorem op_add:OpR X (binaryOp .Add) (rI0 fun i j=>.int (i+j)):=opI0 fun _ _ _ _ _ _ _ q=>add_int q
theorem op_sub:OpR X (binaryOp .Sub) (rI0 fun i j=>.int (i - j)):=opI0 fun _ _ _ _ _ _ _ q=>sub_int q
theorem op_mul:OpR X (binaryOp .Mult) (rI CMul fun i j=>.int (i * j)):=opI fun _ _ _ _ _ _ _ hc q=>mul_int q hc.ok
theorem op_fdiv:OpR X (binaryOp .FloorDiv) (rI CDiv fun i j=>.int (i / j)):=opI fun i j _ _ _ _ _ hc q=>by
  have h1:(0:Int) < j:=hc.1
  have h2:j < 1073741824:=hc.2
  exact floordiv_int (by omega) (by rw [Int.fdiv_eq_ediv_of_nonneg i (by omega)];exact q) (.inl (PyProof.noPylong_small (by omega)))
theorem op_mod:OpR X (binaryOp .Mod) (rI (fun _ j=>0 < j) fun i j=>.int (i % j)):=opI fun i j _ _ _ _ _ hc q=>by
  have h1:(0:Int) < j:=hc
  exact mod_int' (by omega) (by rw [Int.fmod_eq_emod_of_nonneg i (by omega)];exact q)
theorem op_pow:OpR X (binaryOp .Pow) (rI CPow fun i j=>.int (i ^ j.toNat)):=opI fun _ _ _ _ _ _ _ hc q=>pow_int_small hc.1 hc.2.1 hc.2.2 q
end
def scal:V→V→Bool
  | .non,.non=>true | .non,.int _=>true | .int _,.non=>true | .non,.bl _=>true | .bl _,.non=>true | .non,.str _=>true | .str _,.non=>true
  | .int _,.int _=>true | .bl _,.bl _=>true | .str _,.str _=>true | .byt _,.byt _=>true
  | .int _,.str _=>true | .str _,.int _=>true | .bl _,.str _=>true | .str _,.bl _=>true
  | _,_=>false
def rEq:R2:=fun x y H Q=>scal x y=true∧Q (.bl (decide (x=y))) H
def rNe:R2:=fun x y H Q=>scal x y=true∧Q (.bl (!decide (x=y))) H
theorem dec_int {i j:Int}:decide (V.int i=V.int j)=(i == j):=by
  rw [Bool.eq_iff_iff]
  simp
theorem dec_bl {i j:Bool}:decide (V.bl i=V.bl j)=(i == j):=by
  rw [Bool.eq_iff_iff]
  simp
theorem dec_str {i j:Str}:decide (V.str i=V.str j)=(i == j):=by
  rw [Bool.eq_iff_iff]
  simp
theorem dec_byt {i j:Array UInt8}:decide (V.byt i=V.byt j)=(i.toList == j.toList):=by
  rw [Bool.eq_iff_iff]
  cases i
  cases j
  simp
section
variable {X:Cx} {a b c:Expr} {ta tb tc:TE} {pos:Pos}
theorem fin_bl {pins:List (Addr × Obj)} {σ:St} {H:Hp} {s:Shared} {Q:VK} {k k':Bool} (I:Inv X pins σ H s) (q:Q (.bl k) H) (e:k=k'):EP X pins σ Q (.bool k') s:=by
  subst e
  exact ⟨.bl k,H,I,rfl,q⟩
theorem op_eq:OpR X (compareOp .Eq) rEq:=by
  intro pins s σ H x y v u Q I rx ry h
  obtain ⟨hs,q⟩:=h
  cases x with
  | non =>
    cases rx
    cases y with
    | non=>cases ry;exact PySem.EqNone.eq_none_none (fin_bl I q (by simp))
    | bl j=>cases ry;exact PySem.EqNone.eq_none_bool (fin_bl I q (by simp))
    | int j=>obtain ⟨t',rfl⟩:=ry;exact PySem.EqNone.eq_none_int (fin_bl I q (by simp))
    | str j=>obtain ⟨t',rfl⟩:=ry;exact PySem.EqNone.eq_none_str (fin_bl I q (by simp))
    | _=>exact absurd (show false=true from hs) Bool.false_ne_true
  | bl i =>
    cases rx
    cases y with
    | non=>cases ry;exact PySem.EqNone.eq_bool_none (fin_bl I q (by simp))
    | bl j=>cases ry;exact eq_bool (fin_bl I q dec_bl)
    | str j=>obtain ⟨t',rfl⟩:=ry;exact PySem.EqMixed.eq_bool_str (fin_bl I q (by simp))
    | _=>exact absurd (show false=true from hs) Bool.false_ne_true
  | int i =>
    obtain ⟨t,rfl⟩:=rx
    cases y with
    | non=>cases ry;exact PySem.EqNone.eq_int_none (fin_bl I q (by simp))
    | int j=>obtain ⟨t',rfl⟩:=ry;exact eq_int (fin_bl I q dec_int)
    | str j=>obtain ⟨t',rfl⟩:=ry;exact PySem.EqMixed.eq_int_str (fin_bl I q (by simp))
    | _=>exact absurd (show false=true from hs) Bool.false_ne_true
  | str i =>
    obtain ⟨t,rfl⟩:=rx
    cases y with
    | non=>cases ry;exact PySem.EqNone.eq_str_none (fin_bl I q (by simp))
    | bl j=>cases ry;exact PySem.EqMixed.eq_str_bool (fin_bl I q (by simp))
    | int j=>obtain ⟨t',rfl⟩:=ry;exact PySem.EqMixed.eq_str_int (fin_bl I q (by simp))
    | str j=>obtain ⟨t',rfl⟩:=ry;exact eq_str (fin_bl I q dec_str)
    | _=>exact absurd (show false=true from hs) Bool.false_ne_true
  | byt i =>
    obtain ⟨t,rfl⟩:=rx
    cases y with
    | byt j=>obtain ⟨t',rfl⟩:=ry;exact PySem.W.eq_bytes (fin_bl I q dec_byt)
    | _=>exact absurd (show false=true from hs) Bool.false_ne_true
  | _=>cases y <;> exact absurd (show false=true from hs) Bool.false_ne_true
theorem op_ne:OpR X (compareOp .NotEq) rNe:=by
  intro pins s σ H x y v u Q I rx ry h
  obtain ⟨hs,q⟩:=h
  cases x with
  | non =>
    cases rx
    cases y with
    | non=>cases ry;exact PySem.EqNone.ne_none_none (fin_bl I q (by simp))
    | bl j=>cases ry;exact PySem.EqNone.ne_none_bool (fin_bl I q (by simp))
    | int j=>obtain ⟨t',rfl⟩:=ry;exact PySem.EqNone.ne_none_int (fin_bl I q (by simp))
    | str j=>obtain ⟨t',rfl⟩:=ry;exact PySem.EqNone.ne_none_str (fin_bl I q (by simp))
    | _=>exact absurd (show false=true from hs) Bool.false_ne_true
  | bl i =>
    cases rx
    cases y with
    | non=>cases ry;exact PySem.EqNone.ne_bool_none (fin_bl I q (by simp))
    | bl j=>cases ry;exact ne_bool (fin_bl I q (congrArg not dec_bl))
    | str j=>obtain ⟨t',rfl⟩:=ry;exact PySem.EqMixed.ne_bool_str (fin_bl I q (by simp))
    | _=>exact absurd (show false=true from hs) Bool.false_ne_true
  | int i =>
    obtain ⟨t,rfl⟩:=rx
    cases y with
    | non=>cases ry;exact PySem.EqNone.ne_int_none (fin_bl I q (by simp))
    | int j=>obtain ⟨t',rfl⟩:=ry;exact ne_int (fin_bl I q (congrArg not dec_int))
    | str j=>obtain ⟨t',rfl⟩:=ry;exact PySem.EqMixed.ne_int_str (fin_bl I q (by simp))
    | _=>exact absurd (show false=true from hs) Bool.false_ne_true
  | str i =>
    obtain ⟨t,rfl⟩:=rx
    cases y with
    | non=>cases ry;exact PySem.EqNone.ne_str_none (fin_bl I q (by simp))
    | bl j=>cases ry;exact PySem.EqMixed.ne_str_bool (fin_bl I q (by simp))
    | int j=>obtain ⟨t',rfl⟩:=ry;exact PySem.EqMixed.ne_str_int (fin_bl I q (by simp))
    | str j=>obtain ⟨t',rfl⟩:=ry;exact ne_str (fin_bl I q (congrArg not dec_str))
    | _=>exact absurd (show false=true from hs) Bool.false_ne_true
  | byt i =>
    obtain ⟨t,rfl⟩:=rx
    cases y with
    | byt j=>obtain ⟨t',rfl⟩:=ry;exact PySem.W.ne_bytes (fin_bl I q (congrArg not dec_byt))
    | _=>exact absurd (show false=true from hs) Bool.false_ne_true
  | _=>cases y <;> exact absurd (show false=true from hs) Bool.false_ne_true
theorem op_lt:OpR X (compareOp .Lt) (rI0 fun i j=>.bl (decide (i < j))):=opB0 fun _ _ _ _ _ _ _ q=>lt_int q
theorem op_le:OpR X (compareOp .LtE) (rI0 fun i j=>.bl (decide (i≤j))):=opB0 fun _ _ _ _ _ _ _ q=>le_int q
theorem op_gt:OpR X (compareOp .Gt) (rI0 fun i j=>.bl (decide (j < i))):=opB0 fun _ _ _ _ _ _ _ q=>gt_int q
theorem op_ge:OpR X (compareOp .GtE) (rI0 fun i j=>.bl (decide (j≤i))):=opB0 fun _ _ _ _ _ _ _ q=>ge_int q
theorem op_isN:OpR X (compareOp .Is) (fun x y H Q=>y=.non∧Q (.bl (decide (x=.non))) H):=by
  intro pins s σ H x y v u Q I rx ry h
  obtain ⟨rfl,q⟩:=h
  cases ry
  refine is_none_gen (fin_bl I q ?_)
  cases x <;> first
    | (cases rx;rfl)
    | (obtain ⟨t,rfl⟩:=rx;rfl)
theorem op_notN:OpR X (compareOp .IsNot) (fun x y H Q=>y=.non∧Q (.bl (!decide (x=.non))) H):=by
  intro pins s σ H x y v u Q I rx ry h
  obtain ⟨rfl,q⟩:=h
  cases ry
  refine isnot_none_gen (fin_bl I q ?_)
  cases x <;> first
    | (cases rx;rfl)
    | (obtain ⟨t,rfl⟩:=rx;rfl)
theorem OpR.or {f:Value→Value→Sem Value} {r r':R2} (h:OpR X f r) (h':OpR X f r'):OpR X f (fun x y H Q=>r x y H Q∨r' x y H Q):=by
  intro pins s σ H x y v u Q I rx ry q
  rcases q with q | q
  · exact h pins s σ H x y v u Q I rx ry q
  · exact h' pins s σ H x y v u Q I rx ry q
theorem nomark (b:Expr) {op:CmpOp} (h:op≠.In:=by decide) (h2:op≠.NotIn:=by decide):behindInMarks op b=false:=by
  have e1:(op == CmpOp.In)=false:=by cases op <;> first | rfl | exact absurd rfl h
  have e2:(op == CmpOp.NotIn)=false:=by cases op <;> first | rfl | exact absurd rfl h2
  cases b <;> simp [behindInMarks,e1,e2]
theorem pe_cmpR {op:CmpOp} {r:R2} (ho:OpR X (compareOp op) r) (ha:PE X a ta) (hb:PE X b tb) (hm:behindInMarks op b=false):PE X (.Compare a [op] [b] pos) (tOp r ta tb):=by
  intro pins s σ H Q I h
  exact wpAny_Compare1 (binT ha hb I h fun v u s2 x y H2 I2 rx ry q=>ho pins s2 σ H2 x y v u Q I2 rx ry q) hm
def tTest (t:TE):TT:=fun σ H Q=>t σ H fun x H'=>∃ k,x=.bl k∧Q k H'
theorem pt_cmpR {op:CmpOp} {r:R2} (ho:OpR X (compareOp op) r) (ha:PE X a ta) (hb:PE X b tb) (hm:behindInMarks op b=false):PT X (.Compare a [op] [b] pos) (tTest (tOp r ta tb)):=by
  intro pins s σ H Q I h
  refine wpAny_isTrue_Compare1 (thn (ha pins s σ H _ I h) fun v s1 ⟨x,H1,I1,r1,q1⟩=>thn (hb pins s1 σ H1 _ I1 q1) fun u s2 ⟨y,H2,I2,r2,q2⟩ =>
    thn (ho pins s2 σ H2 x y v u _ I2 r1 r2 q2) fun c s3 ⟨z,H3,I3,r3,k,e,q3⟩=>?_) hm
  subst e
  cases r3
  exact wpAny_truthy_bool ⟨H3,I3,q3⟩
def TruV (K:PySem.W.Frag) (x:V) (H:Hp) (k:Bool):Prop :=
  match x with
  | .non=>k=false
  | .bl b=>k=b
  | .int i=>k=(i != 0)
  | .str y=>y.length≤sizeLine∧k=((y.length:Int) != 0)
  | .byt y=>y.size≤sizeLine∧k=((y.size:Int) != 0)
  | .ref p=>(∃ xs,SqL K H p xs∧k = !xs.isEmpty)∨(∃ xs,SqT K H p xs∧k = !xs.isEmpty)∨∃ kvs,H p=some (.dK kvs)∧k = !kvs.isEmpty
  | _=>False
theorem isEmpty_kv {κ:Type} {kvs:List (κ × V)} {vs:List (κ × Value)} (r:KV kvs vs):(!vs.isEmpty) = !kvs.isEmpty:=by
  cases r <;> rfl
theorem isEmpty_of {xs:List V} {its:List Value} (r:Vals xs its):(!its.toArray.isEmpty) = !xs.isEmpty:=by
  cases r <;> simp
theorem line63:(sizeLine:Nat) < 2 ^ 63:=by rw [sizeLine_eq];decide
theorem tru_ok:TruR X (fun x H Q=>∃ k,TruV X.K x H k∧Q k H):=by
  intro pins s σ H x v Q I rx h
  obtain ⟨k,e,q⟩:=h
  have hl:=line63
  have hs:sizeLine=16777216:=sizeLine_eq
  cases x with
  | non =>
    cases rx
    have e':k=false:=e
    subst e'
    exact truthy_none ⟨H,I,q⟩
  | bl b =>
    cases rx
    have e':k=b:=e
    subst e'
    exact wpAny_truthy_bool ⟨H,I,q⟩
  | int i =>
    obtain ⟨t,rfl⟩:=rx
    have e':k=(i != 0):=e
    subst e'
    exact PySem.P.truthy_int ⟨H,I,q⟩
  | str y =>
    obtain ⟨t,rfl⟩:=rx
    obtain ⟨hy,e'⟩:y.length≤sizeLine∧k=((y.length:Int) != 0):=e
    subst e'
    exact PySem.P.truthy_str (by omega) ⟨H,I.tok _,q⟩
  | byt y =>
    obtain ⟨t,rfl⟩:=rx
    obtain ⟨hy,e'⟩:y.size≤sizeLine∧k=((y.size:Int) != 0):=e
    subst e'
    exact PySem.W.truthy_bytes (by omega) ⟨H,I.tok _,q⟩
  | ref p =>
    cases rx
    have e':(∃ xs,SqL X.K H p xs∧k = !xs.isEmpty)∨(∃ xs,SqT X.K H p xs∧k = !xs.isEmpty)∨∃ kvs,H p=some (.dK kvs)∧k = !kvs.isEmpty:=e
    rcases e' with ⟨xs,hx,e'⟩ | ⟨xs,hx,e'⟩ | ⟨kvs,hx,e'⟩
    · subst e'
      obtain ⟨its,r,pl,hz⟩:=I.list hx
      have hlen:=r.length
      exact wpAny_truthy_list pl.isList (by simp only [List.size_toArray];omega) ⟨H,I.tok _,by rw [isEmpty_of r];exact q⟩
    · subst e'
      obtain ⟨its,r,pl,hz⟩:=I.tuple hx
      have hlen:=r.length
      exact truthy_tuple pl (by simp only [List.size_toArray];omega) ⟨H,I.tok _,by rw [isEmpty_of r];exact q⟩
    · subst e'
      obtain ⟨hz,hS,vs,r,m⟩:kvs.length≤sizeLine∧(p == sysModules)=false∧∃ vs,KV kvs vs∧s.heap.DictOf (mixKind X.prog X.w) p vs:=I.hok p _ hx
      have hlen:kvs.length=vs.length:=Paired.length r
      exact wpAny_truthy_dict hS m (by omega) ⟨H,I.tok _,by rw [isEmpty_kv r];exact q⟩
  | _=>exact (show False from e).elim
theorem pt_truth (ha:PE X a ta) (he:∀ whole,isTrue a X.env whole=(do let v ← whole;standAt a.pos;holding [v] (truthy v))) :
    PT X a (fun σ H Q=>ta σ H fun x H'=>∃ k,TruV X.K x H' k∧Q k H'):=by
  intro pins s σ H Q I h
  exact isTrue_plain (thn (ha pins s σ H _ I h) fun v s1 ⟨x,H1,I1,r1,q1⟩=>tru_ok pins s1 σ H1 x v Q I1 r1 q1) (he _)
theorem op_add_str:OpR X (binaryOp .Add) (fun x y H Q=>∃ i j,x=.str i∧y=.str j∧i.length+j.length≤sizeLine∧Q (.str (i++j)) H):=by
  intro pins s σ H x y v u Q I rx ry h
  obtain ⟨i,j,rfl,rfl,hz,q⟩:=h
  obtain ⟨t,rfl⟩:=rx
  obtain ⟨t',rfl⟩:=ry
  exact add_str (fun t' tk=>⟨.str (i++j),H,I.tok _,⟨_,rfl⟩,q⟩) hz
theorem vals1 {x:V} {us:List Value} (r:Vals [x] us):∃ u,us=[u]∧RelV x u:=by
  cases r with
  | cons r1 r2=>cases r2;exact ⟨_,rfl,r1⟩
theorem vals2 {x y:V} {us:List Value} (r:Vals [x,y] us):∃ u w',us=[u,w']∧RelV x u∧RelV y w':=by
  cases r with
  | cons r1 r2 =>
    cases r2 with
    | cons r3 r4=>cases r4;exact ⟨_,_,rfl,r1,r3⟩
theorem call_min2 (hc:X.calm=true):CallR X (.builtin "min") (fun xs H Q=>∃ i j,xs=[.int i,.int j]∧Q (.int (if j < i then j else i)) H):=by
  intro pins s σ H xs us Q I r h
  obtain ⟨i,j,rfl,q⟩:=h
  obtain ⟨u,w',rfl,⟨t,rfl⟩,⟨t',rfl⟩⟩:=vals2 r
  refine min_two_ints (I.ok.hd hc) fun h' tk k=>⟨_,H,I.kept k,?_,q⟩
  by_cases hj:j < i
  · rw [if_pos hj,if_pos hj];exact ⟨_,rfl⟩
  · rw [if_neg hj,if_neg hj];exact ⟨_,rfl⟩
theorem call_int1:CallR X (.type "int") (fun xs H Q=>(∃ i,xs=[.int i]∧Q (.int i) H)∨∃ k,xs=[.bl k]∧Q (.int (if k then 1 else 0)) H):=by
  intro pins s σ H xs us Q I r h
  rcases h with ⟨i,rfl,q⟩ | ⟨k,rfl,q⟩
  · obtain ⟨u,rfl,t,rfl⟩:=vals1 r
    exact call_int_int ⟨.int i,H,I,⟨_,rfl⟩,q⟩
  · obtain ⟨u,rfl,r1⟩:=vals1 r
    cases r1
    exact call_int_bool ⟨.int (if k then 1 else 0),H,I.tok _,⟨_,rfl⟩,q⟩
end
end L2
namespace L2
open PySem PySem.Spec PyProof.Rows
structure ObjM (h:Heap) (x dx C:Addr) (mA:Str→Option Value):Prop where
  obj:h.get? x=some (PySem.W.instObj C dx)
  ns:h.Ns1 dx mA
  ne:dx≠x
theorem lookIn_ns {h:Heap} {dx:Addr} {mA:Str→Option Value} (n:h.Ns1 dx mA):∃ od,h.get? dx=some od∧∀ name,PySem.W.lookIn name od=some (mA name):=by
  obtain ⟨o,es,ep,ho,hd,hk,_,hm⟩:=n
  refine ⟨o,ho,fun name=>?_⟩
  have e:=hm name
  unfold nsFind findBy at e
  rw [← Array.find?_toList] at e
  unfold PySem.W.lookIn
  rw [hd]
  dsimp only
  split
  · rename_i y q
    rw [q] at e
    exact congrArg some e
  · rename_i q
    rw [q] at e
    have a:es.toList.any (·.refKey)=false:=by
      rw [List.any_eq_false]
      intro y hy
      obtain ⟨z,t,hkey⟩:=hk y (Array.mem_toList_iff.mp hy)
      simp [DictEntry.refKey,hkey]
    have a':¬ es.toList.any (·.refKey)=true:=by rw [a];exact Bool.false_ne_true
    rw [if_neg a']
    exact congrArg some e
theorem ObjM.look {h:Heap} {x dx C:Addr} {mA:Str→Option Value} (I:ObjM h x dx C mA):∃ od,PySem.W.InstAt h x (PySem.W.instObj C dx) C (some od)∧∀ name,PySem.W.lookIn name od=some (mA name) :=
  let ⟨od,ho,hl⟩:=lookIn_ns I.ns
  ⟨od,⟨I.obj,rfl,rfl,ho⟩,hl⟩
section
variable {prog:Program} {w:World} {A:Around} {E:Value→Shared→Prop} {s:Shared} {K:PySem.W.Frag} {x dx C f:Addr} {mA:Str→Option Value} {name:Str} {v:Value}
end
theorem RelO.some_of {v:V} {o:Option Value} (r:RelO (some v) o):∃ u,o=some u∧RelV v u:=by
  cases o with
  | none=>exact (show False from r).elim
  | some u=>exact ⟨u,rfl,r⟩
section
variable {P:Program} {w:World} {H H':Hp} {h h':Heap} {a C dx:Addr} {fs fs':List (Str × V)}
theorem ins_get (hok:HOk P w H h) (e:H a=some (.ins C dx fs)):∃ mA,ObjM h a dx C mA∧(∀ f,RelO (fs.lookup f) (mA f))∧PySem.Within mA (fs.map (·.1))∧fs.length≤1000∧H dx=some (.own a):=by
  obtain ⟨d,z,ne,ob,mA,n,r,q⟩:=(show ObjOk P w H h a (.ins C dx fs) from hok a _ e)
  exact ⟨mA,⟨ob,n,ne⟩,r,q,z,d⟩
end
structure Cls (K:PySem.W.Frag) (C:Addr):Prop where
  pg:PySem.W.plainGet K C Str.empty=true
  hd:PySem.W.hasDictIn K C=true
  po:PySem.W.plainOver K C=true
  sa:PySem.W.findIn K (.ref C) "__setattr__" = some (some (.builtin "object.__setattr__"))
theorem Cls.get {K:PySem.W.Frag} {C:Addr} (c:Cls K C) (f:Str):PySem.W.plainGet K C f=true:=c.pg
structure Con (K:PySem.W.Frag) (C:Addr) (f:Str) (v:V) (u:Value):Prop where
  at_:PySem.W.findIn K (.ref C) f=some (some u)
  rel:RelV v u
  get:PySem.W.specialIn K u "__get__" = some none
  cp:PySem.W.copiedNames.contains f=false
structure Meth (K:PySem.W.Frag) (C:Addr) (m:Str) (f:Addr):Prop where
  at_:PySem.W.findIn K (.ref C) m=some (some (.ref f))
  fn:PySem.W.isFn K (.ref f)=true
  kp:PySem.W.keepIn K (.ref f)=true
section
variable {X:Cx} {pins:List (Addr × Obj)} {σ:St} {H:Hp} {s:Shared} {a C dx:Addr} {fs:List (Str × V)} {f:Str} {v:V} {A:Around} {E:Value→Shared→Prop}
theorem Inv.made (I:Inv X pins σ H s):Inv X pins σ (upd (upd H s.heap.objs.size (.own (s.heap.objs.size+1))) (s.heap.objs.size+1) (.ins C s.heap.objs.size []))
    { s with heap:=(s.heap.push PySem.W.emptyDict).push (PySem.W.instObj C s.heap.objs.size) }:=by
  have e1:(s.heap.push PySem.W.emptyDict).get? s.heap.objs.size=some PySem.W.emptyDict:=Heap.get?_push_size s.heap rfl
  have e2:((s.heap.push PySem.W.emptyDict).push (PySem.W.instObj C s.heap.objs.size)).get? (s.heap.objs.size+1)=some (PySem.W.instObj C s.heap.objs.size):=by
    have:=Heap.get?_push_size (s.heap.push PySem.W.emptyDict) (o:=PySem.W.instObj C s.heap.objs.size) rfl
    rwa [Heap.size_push] at this
  have e3:(s.heap.push PySem.W.emptyDict).Ns s.heap.objs.size (fun _=>none):=⟨PySem.W.emptyDict,#[],_,e1,rfl,(fun e he=>absurd he (by simp)),fun _=>rfl⟩
  have I1:=I.laid (a:=s.heap.objs.size) (o:=.own (s.heap.objs.size+1)) (h':=s.heap.push PySem.W.emptyDict) (t':=s.toks) (fun b u q=>Heap.get?_push_of_some _ q) (Nat.le_refl _) ⟨_,e1⟩
  refine I1.laid (a:=s.heap.objs.size+1) (o:=.ins C s.heap.objs.size []) (t':=s.toks) (fun b u q=>Heap.get?_push_of_some _ q) (Nat.le_of_eq (Heap.size_push _ _)) ?_
  have ne:s.heap.objs.size≠s.heap.objs.size+1:=Nat.ne_of_lt (Nat.lt_succ_self _)
  refine ⟨by rw [upd_ne ne,upd_same],Nat.zero_le _,ne,e2,fun _=>none,(Heap.Ns1.of_empty e3).at fun o q=>Heap.get?_push_of_some _ q,fun _=>True.intro,fun y hy=>absurd rfl hy⟩
end
section
variable {X:Cx} {o e value:Expr} {f:Str} {pos pos' tpos:Pos} {ta tv:TE}
end
section
variable {X:Cx} {pins:List (Addr × Obj)} {σ:St} {H:Hp} {s:Shared} {A:Around} {E:Value→Shared→Prop} {Q:Value→Shared→Prop} {c:Value} {b:Bool}
inductive TyOf (K:PySem.W.Frag) (H:Hp):V→Value→Prop where
  | non:TyOf K H .non (.type "NoneType")
  | bl (x:Bool):TyOf K H (.bl x) (.type "bool")
  | int (i:Int):TyOf K H (.int i) (.type "int")
  | str (x:Str):TyOf K H (.str x) (.type "str")
  | flt (x:UInt64):TyOf K H (.flt x) (.type "float")
  | lst {a:Addr} {xs:List V} (e:H a=some (.lst xs)):TyOf K H (.ref a) (.type "list")
  | frz {a:Addr} {o:Obj} {xs:List V} (e:H a=some (.frz o (.lst xs))):TyOf K H (.ref a) (.type "list")
  | tup {a:Addr} {xs:List V} (e:H a=some (.tup xs)):TyOf K H (.ref a) (.type "tuple")
  | dK {a:Addr} {kvs:List (Key × V)} (e:H a=some (.dK kvs)):TyOf K H (.ref a) (.type "dict")
  | dT {a:Addr} {kvs:List (List Key × V)} (e:H a=some (.dT kvs)):TyOf K H (.ref a) (.type "dict")
  | ins {a C dx:Addr} {fs:List (Str × V)} (e:H a=some (.ins C dx fs)) (cl:Cls K C) (ha:PySem.W.findIn K (.ref C) "__class__" = some (some (.builtin "object.__class__")))
      (hn:PySem.W.specialIn K (.builtin "object.__class__") "__get__" = some (some (.builtin "getset_descriptor.__get__"))) (htk:PySem.W.takesIn K (.builtin "object.__class__")=some true)
      (hm:PySem.W.mroIn K C (.type "object")=some true):TyOf K H (.ref a) (.ref C)
theorem isinst_ok {x:V} {u t:Value} (I:Inv X pins σ H s) (rx:RelV x u) (ty:TyOf X.K H x t) (e:PySem.W.kitOne X.K t c=some b) (h:∀ tk,Q (.bool b) { s with toks:=tk }) :
    wpAny (model X.prog X.w) A (call (.builtin "isinstance") [u,c]) Q E s:=by
  cases ty with
  | non=>cases (show u=Value.none from rx);exact PySem.W.kia_one PySem.W.kitx_none I.kIn True.intro e (fun z=>nomatch z) h
  | bl y=>cases (show u=Value.bool y from rx);exact PySem.W.kia_one PySem.W.kitx_bool I.kIn True.intro e (fun z=>nomatch z) h
  | int i=>obtain ⟨t,q⟩:=(show ∃ t,u=Value.int i t from rx);cases q;exact PySem.W.kia_one PySem.W.kitx_int I.kIn True.intro e (fun z=>nomatch z) h
  | str y=>obtain ⟨t,q⟩:=(show ∃ t,u=Value.str y t from rx);cases q;exact PySem.W.kia_one PySem.W.kitx_str I.kIn True.intro e (fun z=>nomatch z) h
  | flt y=>obtain ⟨t,q⟩:=(show ∃ t,u=Value.float y t from rx);cases q;exact PySem.W.kia_one PySem.W.kitx_float I.kIn True.intro e (fun z=>nomatch z) h
  | @lst a xs ea =>
    cases (show u=Value.ref a from rx)
    obtain ⟨_,_,n,_,h1⟩:=(show ObjOk X.prog X.w H s.heap a (.lst xs) from I.hok a _ ea)
    exact PySem.W.kia_one PySem.W.kitx_list I.kIn ⟨_,h1,rfl⟩ e (fun z=>nomatch z) h
  | @frz a ob xs ea =>
    cases (show u=Value.ref a from rx)
    obtain ⟨_,_,_,n,_,h1⟩:=(show ObjOk X.prog X.w H s.heap a (.frz ob (.lst xs)) from I.hok a _ ea)
    exact PySem.W.kia_one PySem.W.kitx_list I.kIn ⟨_,h1,rfl⟩ e (fun z=>nomatch z) h
  | @tup a xs ea =>
    cases (show u=Value.ref a from rx)
    obtain ⟨_,_,_,p,_⟩:=(show ObjOk X.prog X.w H s.heap a (.tup xs) from I.hok a _ ea)
    obtain ⟨o,h1,h2,_⟩:=p
    exact PySem.W.kia_one PySem.W.kitx_tuple I.kIn ⟨o,h1,h2⟩ e (fun z=>nomatch z) h
  | @dK a kvs ea =>
    cases (show u=Value.ref a from rx)
    obtain ⟨_,_,vs,_,p⟩:=(show ObjOk X.prog X.w H s.heap a (.dK kvs) from I.hok a _ ea)
    obtain ⟨o,es,ep,h1,h2,_⟩:=p
    exact PySem.W.kia_one PySem.W.kitx_dict I.kIn ⟨o,h1,h2.1⟩ e (fun z=>nomatch z) h
  | @dT a kvs ea =>
    cases (show u=Value.ref a from rx)
    obtain ⟨_,_,xs,_,o,es,ep,h1,h2,_⟩:=(show ObjOk X.prog X.w H s.heap a (.dT kvs) from I.hok a _ ea)
    exact PySem.W.kia_one PySem.W.kitx_dict I.kIn ⟨o,h1,h2.1⟩ e (fun z=>nomatch z) h
  | @ins a C dx fs ea cl ha hn htk hm =>
    cases (show u=Value.ref a from rx)
    obtain ⟨mA,O,_⟩:=ins_get I.hok ea
    obtain ⟨od,J,_⟩:=O.look
    exact PySem.W.kia_one (PySem.W.kitx_own (cl.get _) cl.hd ha hn htk hm) I.kIn J e (fun z=>nomatch z) h
end
end L2
namespace L2
open PySem PySem.Spec PyProof.Rows
structure Room (k:Nat) (A:Around):Prop where
  hd:A.handled=none
  dp:A.depth+3 * k+5 < recursionLimit
  un:A.units+16 * k+200 < cLine
theorem Room.mono {j k:Nat} {A:Around} (r:Room k A) (h:j≤k):Room j A:=⟨r.hd,by have:=r.dp;omega,by have:=r.un;omega⟩
theorem Room.deeper {k:Nat} {A:Around} (r:Room (k+1) A) (env:Env):Room k (A.deeper env) :=
  ⟨r.hd,by have:=r.dp;show A.depth+1+3 * k+5 < _;omega,by have:=r.un;show A.units+3+16 * k+200 < _;omega⟩
theorem Room.in1 {k:Nat} {A:Around} (r:Room (k+1) A):Room k A.in1 :=
  ⟨r.hd,by have:=r.dp;show A.depth+3 * k+5 < _;omega,by have:=r.un;show A.units+1+16 * k+200 < _;omega⟩
theorem Room.depth {k:Nat} {A:Around} (r:Room k A):A.depth < recursionLimit:=by have:=r.dp;omega
theorem Room.units {k:Nat} {A:Around} (r:Room k A):A.units+64 < cLine:=by have:=r.un;omega
def tNil:TA:=fun _ H Q=>Q [] H
def tCons (ta:TE) (tr:TA):TA:=fun σ H Q=>ta σ H fun x H1=>tr σ H1 fun xs H2=>Q (x :: xs) H2
section
variable {X:Cx} {e:Expr} {es:List Expr} {te:TE} {t:TA} {pos:Pos}
theorem pa_nil:PA X [] tNil:=fun _ _ _ _ H Q I h=>Calls.spliced_nil ⟨[],H,I,.nil,h⟩
theorem pa_cons (ha:PE X e te) (hr:PA X es t) (hs:starEach (e :: es) X.env=(false,eval e X.env) :: starEach es X.env:=by rfl):PA X (e :: es) (tCons te t):=by
  intro pos pins s σ H Q I h
  rw [hs]
  show wpAny _ _ (spliced ((false,eval e X.env) :: backTo pos (starEach es X.env))) _ _ s
  refine Calls.spliced_cons (thn (ha pins s σ H _ I h) fun u s1 ⟨x,H1,I1,r1,q1⟩=>?_)
  exact thn (hr pos pins s1 σ H1 _ I1 q1) fun us s2 ⟨xs,H2,I2,r2,q2⟩=>⟨x :: xs,H2,I2,.cons r1 r2,q2⟩
def tTup (t:TA):TE:=fun σ H Q=>t σ H fun xs H1=>xs.length≤sizeLine∧∀ p,H1 p=none→Q (.ref p) (upd H1 p (.tup xs))
def tLst (t:TA):TE:=fun σ H Q=>t σ H fun xs H1=>xs.length≤sizeLine∧∀ p,H1 p=none→Q (.ref p) (upd H1 p (.lst xs))
theorem pe_tup {x1} (h:PA X es t):PE X (.Tuple es x1 pos) (tTup t):=by
  intro pins s σ H Q I hq
  refine wpAny_Tuple_spliced (thn (h pos pins s σ H _ I hq) fun us s1 ⟨xs,H1,I1,r,z,q⟩=>⟨by rw [← r.length];exact z,?_⟩)
  have hf:H1 s1.heap.objs.size=none:=I1.hok.fresh (Nat.le_refl _)
  refine ⟨.ref s1.heap.objs.size,upd H1 s1.heap.objs.size (.tup xs),I1.laid (t':=s1.toks) (fun b u e=>Heap.get?_push_of_some _ e) (Nat.le_refl _) ?_,rfl,q _ hf⟩
  exact ⟨z,us,r,⟨_,Heap.get?_push_size _ rfl,rfl,_,rfl⟩,_,Heap.get?_push_size _ rfl,rfl⟩
theorem pe_lst (h:PA X es t):PE X (.List es pos) (tLst t):=by
  intro pins s σ H Q I hq
  refine wpAny_List_spliced (thn (h pos pins s σ H _ I hq) fun us s1 ⟨xs,H1,I1,r,z,q⟩=>⟨by rw [← r.length];exact z,?_⟩)
  have hf:H1 s1.heap.objs.size=none:=I1.hok.fresh (Nat.le_refl _)
  refine ⟨.ref s1.heap.objs.size,upd H1 s1.heap.objs.size (.lst xs),I1.laid (t':=s1.toks) (fun b u e=>Heap.get?_push_of_some _ e) (Nat.le_refl _) ?_,rfl,q _ hf⟩
  exact ⟨z,us,0,r,Heap.get?_push_size _ rfl⟩
end
abbrev Sp:=List V→Hp→VK→XK→Prop
abbrev CXT:=List Env→Hp→Shared→XK→Value→Shared→Prop
structure Env0 (P:Program) (w:World) (K:PySem.W.Frag) (mg:Str→Option Value) (base:Heap) (A:Around) (outer:List Env) (s:Shared) (H:Hp):Prop where
  frames:A.frames=some outer
  mod:Mod K mg base
  bs:∀ b o,base.get? b=some o→s.heap.get? b=some o∧H b=none
  bsz:base.objs.size≤s.heap.objs.size
  funs:s.heap.FunFrames base outer
  frf:∀ b∈frs outer,H b=none
  hok:HOk P w H s.heap
  bare:AllBare s.gens
def CE (outer:List Env) (P:Program) (w:World) (H:Hp) (s:Shared) (Q:VK) (u:Value) (s':Shared):Prop :=
  ∃ v H',s'.os=s.os∧AllBare s'.gens∧Un (frs outer) [] H H' s.heap s'.heap∧HOk P w H' s'.heap∧RelV v u∧Q v H'
def CR (CX:CXT) (outer:List Env) (P:Program) (w:World) (H:Hp) (s:Shared) (Q:VK) (E:XK) (r:Result) (s':Shared):Prop :=
  match r with
  | .ok (.ret u)=>CE outer P w H s Q u s'
  | .ok _=>False
  | .error e=>CX outer H s E e s'
structure FnOk (P:Program) (w:World) (K:PySem.W.Frag) (mg:Str→Option Value) (base:Heap) (CX:CXT) (k:Nat) (f:Addr) (fd:FuncData) (ps:List Str) (sp:Sp):Prop where
  len:∀ vs H Q E,sp vs H Q E→vs.length=ps.length
  run:∀ (A:Around) (outer:List Env) (s:Shared) (H:Hp) (args:Args) (us:List Value) (vs:List V) (Q:VK) (E:XK),Room k A→Env0 P w K mg base A outer s H→BindsTo s fd args (ps.zip us)→Vals vs us→sp vs H Q E →
    codeAny (model P w) A (.call (.ref f) args) (CR CX outer P w H s Q E) s
theorem FnOk.mono {P:Program} {w:World} {K:PySem.W.Frag} {mg:Str→Option Value} {base:Heap} {CX:CXT} {j k:Nat} {f:Addr} {fd:FuncData} {ps:List Str} {sp:Sp} (F:FnOk P w K mg base CX j f fd ps sp) (h:j≤k) :
    FnOk P w K mg base CX k f fd ps sp:=⟨F.len,fun A outer s H args us vs Q E hr=>F.run A outer s H args us vs Q E (hr.mono h)⟩
theorem FnOk.imp {P:Program} {w:World} {K:PySem.W.Frag} {mg:Str→Option Value} {base:Heap} {CX:CXT} {k:Nat} {f:Addr} {fd:FuncData} {ps:List Str} {sp sp':Sp} (F:FnOk P w K mg base CX k f fd ps sp)
    (h:∀ vs H Q E,sp' vs H Q E→sp vs H Q E):FnOk P w K mg base CX k f fd ps sp' :=
  ⟨fun vs H Q E q=>F.len vs H Q E (h _ _ _ _ q),fun A outer s H args us vs Q E hr he hb hv hs=>F.run A outer s H args us vs Q E hr he hb hv (h _ _ _ _ hs)⟩
theorem Env0.in1 {P:Program} {w:World} {K:PySem.W.Frag} {mg:Str→Option Value} {base:Heap} {A:Around} {outer:List Env} {s:Shared} {H:Hp} (e:Env0 P w K mg base A outer s H) :
    Env0 P w K mg base A.in1 outer s H:=⟨e.frames,e.mod,e.bs,e.bsz,e.funs,e.frf,e.hok,e.bare⟩
section
variable {X:Cx} {pins:List (Addr × Obj)} {σ:St} {H:Hp} {s s':Shared}
theorem Inv.env0 (I:Inv X pins σ H s):Env0 X.prog X.w X.K X.mg X.base X.A X.stack s H :=
  ⟨I.ok.frames,I.ok.mod,I.bs,Nat.le_trans I.ok.bsz I.sz,I.stack,I.stkFree,I.hok,I.bare⟩
theorem Inv.after {Q:VK} {u:Value} (I:Inv X pins σ H s) (h:CE X.stack X.prog X.w H s Q u s'):EP X pins σ Q u s':=by
  obtain ⟨v,H',os,bare,un,hok,r,q⟩:=h
  obtain ⟨hh,g,d,t,os'⟩:=s'
  obtain rfl:os'=s.os:=os
  exact ⟨v,H',I.call (h':=hh) (g':=g) (d':=d) (t':=t) (ch:=[]) un hok bare (fun b z=>absurd z (by simp)),r,q⟩
end
def tCall (sp:Sp) (dvs:List V) (E:XK) (t:TA):TE:=fun σ H Q=>t σ H fun vs H1=>sp (vs++dvs) H1 Q E
def Binds (K:PySem.W.Frag) (fd:FuncData) (ps:List Str) (ds:List Value):Prop :=
  ∀ (s:Shared) (us:List Value),K.In s.heap→(us++ds).length=ps.length→BindsTo s fd ⟨us,[]⟩ (ps.zip (us++ds))
theorem Binds.all {K:PySem.W.Frag} {fd:FuncData} {ps:List Str} (h:∀ us:List Value,us.length=ps.length→bindArgs fd ⟨us,[]⟩=pure (ps.zip us)):Binds K fd ps []:=fun s us _ hl=>by
  rw [List.append_nil] at hl ⊢
  exact .of_eq (h us hl)
def Passes (CX:CXT) (X:Cx) (E:XK):Prop:=∀ (pins:List (Addr × Obj)) (σ:St) (H:Hp) (s:Shared) (e:Value) (s':Shared),Inv X pins σ H s→CX X.stack H s E e s'→X.xe e s'
section
variable {X:Cx} {CX:CXT} {k:Nat} {f C:Addr} {fd:FuncData} {ps:List Str} {sp:Sp} {dvs:List V} {ds:List Value} {E:XK} {x m:Str} {p pos apos:Pos} {e o:Expr} {es:List Expr} {ta:TE} {t:TA}
theorem run_fn {pins:List (Addr × Obj)} {σ:St} {H:Hp} {s:Shared} {Q:VK} {us:List Value} {vs:List V} (F:FnOk X.prog X.w X.K X.mg X.base CX k f fd ps sp) (hr:Room k X.A) (hb:Binds X.K fd ps ds) (hd:Vals dvs ds) (hx:Passes CX X E)
    (I:Inv X pins σ H s) (r:Vals vs us) (h:sp (vs++dvs) H Q E):wpAny (model X.prog X.w) X.A (call (.ref f) us) (EP X pins σ Q) X.xe s:=by
  have r2:Vals (vs++dvs) (us++ds):=r.append hd
  have hl:(us++ds).length=ps.length:=by rw [← r2.length];exact F.len _ _ _ _ h
  refine wpAny_call (codeAny_mono (F.run X.A X.stack s H ⟨us,[]⟩ (us++ds) (vs++dvs) Q E hr I.env0 (hb s us I.kIn hl) r2 h) fun r s' hq=>?_)
  cases r with
  | error e=>exact hx pins σ H s e s' I hq
  | ok fl =>
    cases fl with
    | ret u=>exact I.after hq
    | next=>exact False.elim hq
    | brk=>exact False.elim hq
    | cont=>exact False.elim hq
theorem pe_call (F:FnOk X.prog X.w X.K X.mg X.base CX k f fd ps sp) (hr:Room k X.A) (hg:Gl X x) (hm:X.mg x=some (.ref f)) (hk:PySem.W.keepIn X.K (.ref f)=true) (hb:Binds X.K fd ps ds) (hd:Vals dvs ds) (hx:Passes CX X E)
    (ha:PA X (e :: es) t) (hdb:(x == ("__debug__" : Str))=false:=by decide) (he:starEach (e :: es) X.env=(false,eval e X.env) :: starEach es X.env:=by rfl) (hpl:(backTo pos (starEach es X.env)).any (·.1)=false:=by rfl) :
    PE X (.Call (.Name x p) (e :: es) [] pos) (tCall sp dvs E t):=by
  intro pins s σ H Q I h
  refine wpAny_Call_Name_kw (ld_glob I hg hm ?_ hdb)
  refine PySem.W.callWith_K (h₀:=X.base) I.ok.mod.kin hk (thn (ha pos pins s σ H _ I h) fun us s1 ⟨vs,H1,I1,r,q⟩=>⟨I1.kIn,?_⟩) he hpl
  exact run_fn F hr hb hd hx I1 r q
structure Mk (K:PySem.W.Frag) (C f:Addr):Prop where
  makes:PySem.W.makesIn K C=true
  init:PySem.W.findIn K (.ref C) "__init__" = some (some (.ref f))
  fn:PySem.W.isFn K (.ref f)=true
  kp:PySem.W.keepIn K (.ref C)=true
end
section
variable {X:Cx} {CX:CXT} {k:Nat} {f C:Addr} {fd:FuncData} {ps ks:List Str} {sp:Sp} {E:XK} {x m:Str} {p pos apos kpos:Pos} {e o:Expr} {es:List Expr} {kws:List Keyword} {te ta:TE} {t tk:TA} {nm:Option Str}
structure KBinds (K:PySem.W.Frag) (fd:FuncData) (ps ks:List Str) (g:List Value→List Value→List Value) (gV:List V→List V→List V):Prop where
  to:∀ (s:Shared) (us ws:List Value),K.In s.heap→(g us ws).length=ps.length→BindsTo s fd ⟨us,ks.zip ws⟩ (ps.zip (g us ws))
  rel:∀ {vs:List V} {us:List Value} {zs:List V} {ws:List Value},Vals vs us→Vals zs ws→Vals (gV vs zs) (g us ws)
variable {g:List Value→List Value→List Value} {gV:List V→List V→List V}
end
structure FnScope (N P:List Str) (sc:Scope):Prop where
  kind:sc.kind=.function
  co:sc.isCoroutine=false
  gen:sc.isGenerator=false
  nd:N.Nodup
  pre:N.take P.length=P
  par:∀ x∈P,sc.names.lookup x=some .local∨sc.names.lookup x=some .cell
  nofree:∀ y∈sc.names,y.2≠.free
theorem bindL_out {kindOf:Str→Option NameKind} {x:Str}:∀ {binds:List (Str × Value)} {m:Str→Option Value},(∀ v,(x,v) ∉ binds)→bindL kindOf binds m x=m x
  | [],_,_=>rfl
  | (n,v) :: r,m,h=>by
    unfold bindL
    rw [bindL_out fun w hw=>h w (List.mem_cons_of_mem _ hw)]
    split
    · have:x≠n:=by rintro rfl;exact h v List.mem_cons_self
      simp [this]
    · rfl
theorem bindC_out {kindOf:Str→Option NameKind} {x:Str}:∀ {binds:List (Str × Value)} {m:Str→Option Value},(∀ v,(x,v) ∉ binds)→bindC kindOf binds m x=m x
  | [],_,_=>rfl
  | (n,v) :: r,m,h=>by
    unfold bindC
    rw [bindC_out fun w hw=>h w (List.mem_cons_of_mem _ hw)]
    split
    · rfl
    · have:x≠n:=by rintro rfl;exact h v List.mem_cons_self
      simp [this]
theorem bindL_get {kindOf:Str→Option NameKind} {x:Str} {v:Value}:∀ {P:List Str} {vs:List Value} {i:Nat} {m:Str→Option Value},P.Nodup→P[i]? = some x→vs[i]? = some v→kindOf x=some .local →
    bindL kindOf (P.zip vs) m x=some v
  | [],_,_,_,_,h,_,_=>by simp at h
  | _ :: _,[],_,_,_,_,h,_=>by simp at h
  | p :: P,w :: vs,0,m,nd,h1,h2,hk=>by
    simp at h1 h2;subst h1;subst h2
    show bindL kindOf ((p,w) :: P.zip vs) m p=_
    unfold bindL
    rw [bindL_out fun v hv=>(List.nodup_cons.mp nd).1 (List.of_mem_zip hv).1,if_pos hk]
    simp
  | p :: P,w :: vs,i+1,m,nd,h1,h2,hk=>by
    show bindL kindOf ((p,w) :: P.zip vs) m x=_
    unfold bindL
    exact bindL_get (i:=i) (List.nodup_cons.mp nd).2 (by simpa using h1) (by simpa using h2) hk
theorem bindC_get {kindOf:Str→Option NameKind} {x:Str} {v:Value}:∀ {P:List Str} {vs:List Value} {i:Nat} {m:Str→Option Value},P.Nodup→P[i]? = some x→vs[i]? = some v→kindOf x≠some .local →
    bindC kindOf (P.zip vs) m x=some v
  | [],_,_,_,_,h,_,_=>by simp at h
  | _ :: _,[],_,_,_,_,h,_=>by simp at h
  | p :: P,w :: vs,0,m,nd,h1,h2,hk=>by
    simp at h1 h2;subst h1;subst h2
    show bindC kindOf ((p,w) :: P.zip vs) m p=_
    unfold bindC
    rw [bindC_out fun v hv=>(List.nodup_cons.mp nd).1 (List.of_mem_zip hv).1,if_neg hk]
    simp
  | p :: P,w :: vs,i+1,m,nd,h1,h2,hk=>by
    show bindC kindOf ((p,w) :: P.zip vs) m x=_
    unfold bindC
    exact bindC_get (i:=i) (List.nodup_cons.mp nd).2 (by simpa using h1) (by simpa using h2) hk
def start (N:List Str) (vs:List V):St:=vs.map some++List.replicate (N.length - vs.length) none
def cxOf (CX:CXT) (P:Program) (w:World) (K:PySem.W.Frag) (mg:Str→Option Value) (base:Heap) (N:List Str) (qual:Str) (scope:Scope) (f:Addr) (cd:Value) (A:Around) (outer:List Env) (s:Shared) (H:Hp) (E:XK):Cx where
  prog:=P
  w:=w
  K:=K
  mg:=mg
  base:=base
  A:=A.deeper (envOfC qual scope s.heap.objs.size f cd)
  N:=N
  s₀:=s
  H₀:=H
  env:=envOfC qual scope s.heap.objs.size f cd
  outer:=outer
  stack:=envOfC qual scope s.heap.objs.size f cd :: outer
  ex:=[]
  calm:=true
  fn:=fun _=>true
  pn:=[]
  xe:=fun e s'=>wpAny (model P w) (A.deeper (envOfC qual scope s.heap.objs.size f cd)) (leaving (envOfC qual scope s.heap.objs.size f cd) e) (fun _ s''=>CX outer H s E e s'') (fun e' s''=>CX outer H s E e' s'') s'
theorem cell_has {sc:Scope} {n:Nat} {x:Str} (h:sc.names.lookup x=some .cell):∃ c,(cellsFrom n sc.names []).lookup x=some c:=by
  have q:=PySem.W.cellsFrom_some sc.names n [] (.inl h)
  exact Option.isSome_iff_exists.mp q
theorem inv_start {CX:CXT} {P:Program} {w:World} {K:PySem.W.Frag} {mg:Str→Option Value} {base:Heap} {N ps:List Str} {qual:Str} {scope:Scope} {f:Addr} {cd:Value} {A:Around} {outer:List Env} {s s1:Shared} {H:Hp} {E:XK} {us:List Value} {vs:List V}
    (S:FnScope N ps scope) (hd:A.handled=none) (e0:Env0 P w K mg base A outer s H) (hl:vs.length=ps.length) (r:Vals vs us)
    (x:InCallC s s.heap.objs.size (bindL (envOfC qual scope s.heap.objs.size f cd).kindOf (ps.zip us) fun _=>none) (cellsFrom (s.heap.objs.size+1) scope.names []) (bindC (envOfC qual scope s.heap.objs.size f cd).kindOf (ps.zip us) fun _=>none) s1) :
    Inv (cxOf CX P w K mg base N qual scope f cd A outer s H E) [] (start N vs) H s1:=by
  have hpl:ps.length≤N.length:=by have:=congrArg List.length S.pre;rw [List.length_take] at this;omega
  obtain ⟨h1,tk,rfl,hk⟩:=x.done
  have noA:∀ b:Addr,b ∉ (cxOf CX P w K mg base N qual scope f cd A outer s H E).ex:=fun b z=>absurd (show b∈([]:List Addr) from z) (by simp)
  refine ⟨⟨e0.mod,S.kind,rfl,rfl,Nat.le_refl _,fun y z c h1 h2=>?_,fun y hy=>?_,fun y c _ h=>?_,fun _=>hd,Around.frames_deeper e0.frames,.inr ⟨rfl,rfl⟩,fun b z=>absurd z (noA b),e0.bs,e0.bsz,fun b _ _=>noA b,fun b z=>absurd z (noA b),e0.funs,e0.frf⟩,
    rfl,e0.bare,Un.kept hk,⟨_,x.toInCall.ns,fun i y v h1 h2 h3=>?_⟩,fun y c h=>⟨_,x.cell y c h⟩,e0.hok.fresh (Nat.le_refl _),fun y c h=>?_,fun p hp=>absurd (show p∈([]:List (Addr × Obj)) from hp) (by simp),e0.hok.kept hk,?_⟩
  · exact name_of_addr x.apart (PySem.mem_of_lookup h1) (PySem.mem_of_lookup h2)
  · have hy:scope.names.lookup y=some .cell∨scope.names.lookup y=some .free:=hy
    rcases hy with hy | hy
    · exact cell_has hy
    · exact absurd rfl (S.nofree _ (PySem.mem_of_lookup hy))
  · exact Nat.le_of_lt (x.above y c (PySem.mem_of_lookup h))
  · have hi:i < vs.length:=by
      unfold start at h2
      by_cases hi:i < vs.length
      · exact hi
      · rw [List.getElem?_append_right (by simpa using hi)] at h2
        rw [List.getElem?_replicate] at h2
        split at h2 <;> cases h2
    have ha:vs[i]? = some v:=by
      unfold start at h2
      rw [List.getElem?_append_left (by simpa using hi),List.getElem?_map] at h2
      cases e:vs[i]? with
      | none=>rw [e] at h2;cases h2
      | some a=>rw [e] at h2;cases h2;rfl
    obtain ⟨u,hu,rv⟩:=r.get ha
    have hp:ps[i]? = some y:=by
      rw [← S.pre,List.getElem?_take_of_lt (by omega)];exact h1
    have ndP:ps.Nodup:=by rw [← S.pre];exact S.nd.sublist (List.take_sublist _ _)
    refine ⟨u,rv,?_⟩
    rcases S.par y (List.mem_of_getElem? hp) with k | k
    · exact .inl ⟨k,bindL_get ndP hp hu k⟩
    · obtain ⟨c,e⟩:=cell_has (n:=s.heap.objs.size+1) k
      refine .inr ⟨.inl k,c,e,?_⟩
      have q:=x.cell y c e
      rw [bindC_get ndP hp hu (by show scope.names.lookup y≠_;rw [k];decide)] at q
      exact q
  · exact e0.hok.fresh (Nat.le_of_lt (x.above y c (PySem.mem_of_lookup h)))
  · unfold start
    show _=N.length
    rw [List.length_append,List.length_map,List.length_replicate]
    omega
theorem fn_of {CX:CXT} {P:Program} {w:World} {K:PySem.W.Frag} {mg:Str→Option Value} {base:Heap} {k:Nat} {f:Addr} {name qual:Str} {params:Arguments} {body:List Stmt} {scope:Scope} {dV kV doc pm cdv ct oc:Value} {an od:Option Addr}
    {osl:Array (Option Value)} {N ps:List Str} {sp:Sp} (lk:K.lookup f=some ⟨oc,od,.func (PySem.W.fnOf name qual params body scope dV kV doc pm an cdv ct),osl⟩) (hcd:PySem.W.codeIn K cdv qual=true) (S:FnScope N ps scope)
    (len:∀ vs H Q E,sp vs H Q E→vs.length=ps.length)
    (hbody:∀ (A:Around) (outer:List Env) (s:Shared) (H:Hp) (vs:List V) (Q:VK) (E:XK),Room k (A.deeper (envOfC qual scope s.heap.objs.size f cdv))→sp vs H Q E →
      ∃ t,PSs (cxOf CX P w K mg base N qual scope f cdv A outer s H E) body t∧t { nx:=fun _ H'=>Q .non H',rt:=Q } (start N vs) H) :
    FnOk P w K mg base CX (k+1) f (PySem.W.fnOf name qual params body scope dV kV doc pm an cdv ct) ps sp:=by
  refine ⟨len,fun A outer s H args us vs Q E hr e0 hb r hsp=>?_⟩
  have hl:=len _ _ _ _ hsp
  have KX:K.In s.heap:=e0.mod.kin.keeps fun b o e=>(e0.bs b o e).1
  have lim:s.heap.NoLimit:=e0.mod.nolimit.keeps fun b o e=>(e0.bs b o e).1
  have hkind:∀ y∈ps.zip us,scope.names.lookup y.1=some .local∨(scope.names.lookup y.1=some .cell∧((cellsFrom (s.heap.objs.size+1) scope.names []).lookup y.1).isSome=true):=fun ⟨n,v⟩ hy=>by
    rcases S.par n (List.of_mem_zip hy).1 with q | q
    · exact .inl q
    · exact .inr ⟨q,PySem.W.cellsFrom_some _ _ _ (.inl q)⟩
  refine codeAny_call_function hr.depth (KX _ _ lk) rfl S.co S.gen rfl (PySem.W.codeRec_of KX hcd) (hb _ _ _ _ ?_)
  refine wpAny_newFunctionEnv_cells S.kind hkind fun env he s1 x=>?_
  subst he
  refine ⟨lim.keeps x.toInCall.keep,codeAny_func ?_⟩
  obtain ⟨t,ht,hq⟩:=hbody A outer s H vs Q E (hr.deeper _) hsp
  have I:Inv (cxOf CX P w K mg base N qual scope f cdv A outer s H E) [] (start N vs) H s1:=inv_start S hr.hd e0 hl r x
  refine wpAny_mono (ht [] s1 (start N vs) H _ I hq) (fun fl s' hs=>?_) fun e s' hs=>hs
  have fin:∀ {σ':St} {H':Hp} {v:V} {u:Value},Inv (cxOf CX P w K mg base N qual scope f cdv A outer s H E) [] σ' H' s'→RelV v u→Q v H'→CE outer P w H s Q u s' :=
    fun {σ' H' v u} J rv q=>⟨v,H',J.os,J.bare,J.base,J.hok,rv,q⟩
  cases fl with
  | ret u =>
    obtain ⟨v,σ',H',J,rv,q⟩:=hs
    exact fin J rv q
  | next =>
    obtain ⟨σ',H',J,q⟩:=hs
    exact fin (v:=V.non) (u:=Value.none) J rfl q
  | brk =>
    obtain ⟨_,_,_,q⟩:=hs
    exact False.elim q
  | cont =>
    obtain ⟨_,_,_,q⟩:=hs
    exact False.elim q
end L2
namespace L2
open PySem PySem.Spec PyProof.Rows
section
variable {X:Cx} {x:Str} {p pos:Pos} {e:Expr} {es:List Expr} {t:TA} {id T:String} {r:List V→Hp→VK→Prop}
def tCB (r:List V→Hp→VK→Prop) (t:TA):TE:=fun σ H Q=>t σ H fun vs H1=>r vs H1 Q
theorem pe_callB (hc:CallR X (.builtin id) r) (hg:Gl X x) (hm:X.mg x=none) (hv:bootBuiltins x=some (.builtin id)) (ha:PA X (e :: es) t) (hn:x≠"__name__":=by decide) (hdb:(x == ("__debug__" : Str))=false:=by decide)
    (he:starEach (e :: es) X.env=(false,eval e X.env) :: starEach es X.env:=by rfl) (hpl:(backTo pos (starEach es X.env)).any (·.1)=false:=by rfl):PE X (.Call (.Name x p) (e :: es) [] pos) (tCB r t):=by
  intro pins s σ H Q I h
  refine wpAny_Call_Name_kw (ld_blt I hg hm hv ?_ hn hdb)
  exact PyProof.Rows.callWith_builtin1 (thn (ha pos pins s σ H _ I h) fun us s1 ⟨vs,H1,I1,r1,q1⟩=>hc pins s1 σ H1 vs us Q I1 r1 q1) he hpl
theorem pe_callTy (hc:CallR X (.type T) r) (hg:Gl X x) (hm:X.mg x=none) (hv:bootBuiltins x=some (.type T)) (ha:PA X (e :: es) t) (hn:x≠"__name__":=by decide) (hdb:(x == ("__debug__" : Str))=false:=by decide)
    (he:starEach (e :: es) X.env=(false,eval e X.env) :: starEach es X.env:=by rfl) (hpl:(backTo pos (starEach es X.env)).any (·.1)=false:=by rfl):PE X (.Call (.Name x p) (e :: es) [] pos) (tCB r t):=by
  intro pins s σ H Q I h
  refine wpAny_Call_Name_kw (ld_blt I hg hm hv ?_ hn hdb)
  exact PyProof.Rows.callWith_type1 (thn (ha pos pins s σ H _ I h) fun us s1 ⟨vs,H1,I1,r1,q1⟩=>hc pins s1 σ H1 vs us Q I1 r1 q1) he hpl
end
end L2
namespace HT
open PySem PyProof.Rows
section
open PySem.SeqAt
open PySem.AutoSeq1 (wpAny_loadPart')
open PySem.MeetsSeq PySem.MeetsSeq2 PySem.MeetsSeq3
end
section
variable {prog:Program} {w:World} {A:Around} {E:Value→Shared→Prop} {s:Shared}
def sIx (n d:Nat):Option Int→Nat
  | none=>d
  | some v=>if v < 0 then (v+(n:Int)).toNat else min v.toNat n
theorem sIx_none (n d:Nat):sIx n d none=d:=rfl
theorem sIx_nat (n d k:Nat):sIx n d (some (k:Int))=min k n:=by
  show (if (k:Int) < 0 then ((k:Int)+(n:Int)).toNat else min (k:Int).toNat n)=min k n
  rw [if_neg (by omega),Int.toNat_natCast]
end
end HT
namespace L2
open PySem PySem.Spec PyProof.Rows
abbrev TO:=St→Hp→(Option Int→Hp→Prop)→Prop
def PO (X:Cx) (e:Option Expr) (t:TO):Prop :=
  ∀ (pins:List (Addr × Obj)) (s:Shared) (σ:St) (H:Hp) (Q:Option Int→Hp→Prop),Inv X pins σ H s→t σ H Q →
    wpAny (model X.prog X.w) X.A (evalPart e X.env) (fun u s'=>∃ o H',Inv X pins σ H' s'∧IsPart u o∧Q o H') X.xe s
def tNoPart:TO:=fun _ H Q=>Q none H
def tPart (t:TE):TO:=fun σ H Q=>t σ H fun x H1=>∃ i,x=.int i∧Q (some i) H1
theorem intsAre_of {ns:List Int}:∀ {us:List Value},Vals (ns.map V.int) us→IntsAre us ns:=by
  induction ns with
  | nil=>intro us r;rw [List.map_nil] at r;cases r;exact .nil
  | cons n ns ih =>
    intro us r
    rw [List.map_cons] at r
    cases r with
    | cons r1 r2 =>
      obtain ⟨t,e⟩:=r1
      subst e
      exact .cons n t (ih r2)
section
variable {X:Cx} {e:Expr} {te:TE} {lo hi:Option Expr} {tl th:TO} {pos p2:Pos}
theorem po_none:PO X none tNoPart:=by
  intro pins s σ H Q I h
  rw [evalPart_none]
  exact wpAny_pure ⟨none,H,I,.none,h⟩
theorem po_some (h:PE X e te):PO X (some e) (tPart te):=by
  intro pins s σ H Q I hw
  rw [evalPart_some]
  refine thn (h pins s σ H _ I hw) fun u s1 ⟨x,H1,I1,r1,q1⟩=>?_
  obtain ⟨i,rfl,q⟩:=q1
  obtain ⟨t,rfl⟩:=r1
  exact ⟨some i,H1,I1,.int i t,q⟩
def SlR (X:Cx) (r:V→Option Int→Option Int→Hp→VK→Prop):Prop :=
  ∀ (pins:List (Addr × Obj)) (s:Shared) (σ:St) (H:Hp) (x:V) (v vl vu:Value) (lo hi:Option Int) (sl:Addr) (Q:VK),Inv X pins σ H s→RelV x v→s.heap.IsSliceOf sl vl vu .none→IsPart vl lo→IsPart vu hi→r x lo hi H Q →
    ∃ T id,typeLookup (.type T) "__getitem__" = pure (some (.builtin id))∧s.TypeIs v T∧wpAny (model X.prog X.w) X.A (getItem v (.ref sl)) (EP X pins σ Q) X.xe s
theorem SlR.or {r r':V→Option Int→Option Int→Hp→VK→Prop} (h:SlR X r) (h':SlR X r'):SlR X (fun x lo hi H Q=>r x lo hi H Q∨r' x lo hi H Q):=by
  intro pins s σ H x v vl vu lo hi sl Q I rx hs pl pu q
  rcases q with q | q
  · exact h pins s σ H x v vl vu lo hi sl Q I rx hs pl pu q
  · exact h' pins s σ H x v vl vu lo hi sl Q I rx hs pl pu q
def tSl (r:V→Option Int→Option Int→Hp→VK→Prop) (te:TE) (tl th:TO):TE:=fun σ H Q=>te σ H fun x H1=>tl σ H1 fun l H2=>th σ H2 fun u H3=>r x l u H3 Q
theorem pe_slice {r:V→Option Int→Option Int→Hp→VK→Prop} (hr:SlR X r) (he:PE X e te) (hl:PO X lo tl) (hu:PO X hi th):PE X (.Subscript e (.Slice lo hi none p2) pos) (tSl r te tl th):=by
  intro pins s σ H Q I h
  refine Subscript_ (thn (he pins s σ H _ I h) fun v s1 ⟨x,H1,I1,r1,q1⟩=>?_)
  refine wpAny_Slice (thn (hl pins s1 σ H1 _ I1 q1) fun vl s2 ⟨l,H2,I2,pl,q2⟩=>thn (hu pins s2 σ H2 _ I2 q2) fun vu s3 ⟨u,H3,I3,pu,q3⟩=>?_)
  rw [evalPart_none]
  refine wpAny_pure ?_
  have I4:Inv X pins σ H3 { s3 with heap:=s3.heap.push { cls:=.type "slice",data:=.fields #[vl,vu,.none] } }:=I3.kept (t':=s3.toks) fun b ob q=>Heap.get?_push_of_some _ q
  obtain ⟨T,id,hT,ht,hg⟩:=hr pins { s3 with heap:=s3.heap.push { cls:=.type "slice",data:=.fields #[vl,vu,.none] } } σ H3 x v vl vu l u s3.heap.objs.size Q I4 r1 (Heap.IsSliceOf.new ..) pl pu q3
  show wpAny (model X.prog X.w) X.A (subscriptTail e (.Slice lo hi none p2) v (.ref s3.heap.objs.size)) (EP X pins σ Q) X.xe { s3 with heap:=s3.heap.push { cls:=.type "slice",data:=.fields #[vl,vu,.none] } }
  exact tail_any (ops:=[.ref s3.heap.objs.size,v]) ht hT hg (by with_unfolding_all rfl)
def cutV (xs:List V) (lo hi:Option Int):List V:=(xs.drop (HT.sIx xs.length 0 lo)).take (HT.sIx xs.length xs.length hi - HT.sIx xs.length 0 lo)
theorem cutV_length (xs:List V) (lo hi:Option Int):(cutV xs lo hi).length≤xs.length:=by
  unfold cutV
  rw [List.length_take,List.length_drop]
  omega
end
end L2
namespace L2
open PySem PySem.Spec PyProof.Rows
def ixN (n:Nat) (i:Int):Option Nat:=if 0≤i then (if i < n then some i.toNat else none) else if -(n:Int)≤i then some (i+n).toNat else none
def atI {α:Type} (xs:List α) (i:Int):Option α:=(ixN xs.length i).bind fun j=>xs[j]?
theorem ixN_seq {n:Nat} {i:Int} {j:Nat} (h:ixN n i=some j):seqIndex? i n=some j∧j < n∧-(n:Int)≤i∧i < n:=by
  unfold ixN at h
  by_cases h0:0≤i
  · rw [if_pos h0] at h
    by_cases h1:i < n
    · rw [if_pos h1] at h
      have e:i.toNat=j:=Option.some.inj h
      exact ⟨by rw [seqIndex_of h0 h1,e],by omega,by omega,h1⟩
    · rw [if_neg h1] at h;cases h
  · rw [if_neg h0] at h
    by_cases h1:-(n:Int)≤i
    · rw [if_pos h1] at h
      have e:(i+n).toNat=j:=Option.some.inj h
      exact ⟨by rw [seqIndex_neg (by omega) h1,e],by omega,h1,by omega⟩
    · rw [if_neg h1] at h;cases h
theorem atI_get {α:Type} {xs:List α} {i:Int} {v:α} (h:atI xs i=some v):∃ j,seqIndex? i xs.length=some j∧xs[j]? = some v∧j < xs.length∧-(xs.length:Int)≤i∧i < xs.length:=by
  unfold atI at h
  cases e:ixN xs.length i with
  | none=>rw [e] at h;cases h
  | some j =>
    rw [e] at h
    obtain ⟨h1,h2,h3,h4⟩:=ixN_seq e
    exact ⟨j,h1,h,h2,h3,h4⟩
theorem atI_nat {α:Type} {xs:List α} {j:Nat} {v:α} (h:xs[j]? = some v):atI xs (j:Int)=some v:=by
  have hj:j < xs.length:=(List.getElem?_eq_some_iff.mp h).1
  have e:ixN xs.length (j:Int)=some j:=by
    unfold ixN
    rw [if_pos (by omega),if_pos (by omega)];simp
  unfold atI;rw [e];exact h
def PlainIx (b:Expr):Prop:=∀ o i,subscripted b false o i=operate [o,i] (getItem o i)
def IxR (X:Cx) (r:R2):Prop :=
  ∀ (value slice:Expr) (pins:List (Addr × Obj)) (s:Shared) (σ:St) (H:Hp) (x y:V) (v u:Value) (Q:VK),Inv X pins σ H s→RelV x v→RelV y u→r x y H Q →
    subscripted slice false v u=operate [v,u] (getItem v u)→wpAny (model X.prog X.w) X.A (subscriptTail value slice v u) (EP X pins σ Q) X.xe s
def MtR (X:Cx) (id:String) (r:V→List V→Hp→VK→Prop):Prop :=
  ∀ (pins:List (Addr × Obj)) (s:Shared) (σ:St) (H:Hp) (x:V) (xs:List V) (v:Value) (us:List Value) (Q:VK),Inv X pins σ H s→RelV x v→Vals xs us→r x xs H Q →
    wpAny (model X.prog X.w) X.A (call (.builtin id) (v :: us)) (EP X pins σ Q) X.xe s
section
variable {X:Cx} {a b:Expr} {ta tb:TE} {pos:Pos}
theorem IxR.or {r r':R2} (h:IxR X r) (h':IxR X r'):IxR X (fun x y H Q=>r x y H Q∨r' x y H Q):=by
  intro value slice pins s σ H x y v u Q I rx ry q hs
  rcases q with q | q
  · exact h value slice pins s σ H x y v u Q I rx ry q hs
  · exact h' value slice pins s σ H x y v u Q I rx ry q hs
theorem MtR.or {id:String} {r r':V→List V→Hp→VK→Prop} (h:MtR X id r) (h':MtR X id r'):MtR X id (fun x xs H Q=>r x xs H Q∨r' x xs H Q):=by
  intro pins s σ H x xs v us Q I rx rs q
  rcases q with q | q
  · exact h pins s σ H x xs v us Q I rx rs q
  · exact h' pins s σ H x xs v us Q I rx rs q
theorem pe_ix {r:R2} (hr:IxR X r) (ha:PE X a ta) (hb:PE X b tb) (hs:PlainIx b):PE X (.Subscript a b pos) (tOp r ta tb):=by
  intro pins s σ H Q I h
  exact Subscript_ (binT ha hb I h fun v u s2 x y H2 I2 rx ry q=>hr a b pins s2 σ H2 x y v u Q I2 rx ry q (hs _ _))
def rIxL (K:PySem.W.Frag):R2:=fun x y H Q=>∃ p xs i v,x=.ref p∧y=.int i∧SqL K H p xs∧atI xs i=some v∧Q v H
def rIxT (K:PySem.W.Frag):R2:=fun x y H Q=>∃ p xs i v,x=.ref p∧y=.int i∧SqT K H p xs∧atI xs i=some v∧Q v H
def rIxS:R2:=fun x y H Q=>∃ z i c,x=.str z∧y=.int i∧z.length≤sizeLine∧atI z.cps.toList i=some c∧Q (.str ⟨#[c]⟩) H
theorem ix_list:IxR X (rIxL X.K):=by
  intro value slice pins s σ H x y v u Q I rx ry h hs
  obtain ⟨p,xs,i,z,rfl,rfl,hq,he,q⟩:=h
  cases rx
  obtain ⟨t,rfl⟩:=ry
  obtain ⟨its,r,pl,hz⟩:=I.list hq
  obtain ⟨j,h1,h2,h3,h4,h5⟩:=atI_get he
  obtain ⟨w,ew,rw'⟩:=r.get h2
  have hl:=r.length
  have hn:=line63
  have fin:EP X pins σ Q w s:=⟨z,H,I,rw',q⟩
  by_cases h0:0≤i
  · have hj:i.toNat=j:=by
      rw [seqIndex_of h0 h5] at h1
      exact Option.some.inj h1
    exact item_listR pl.isList h0 (by omega) (by rw [hj];simpa using ew) fin hs
  · have hj:(i+(its.toArray.size:Int)).toNat=j:=by
      rw [seqIndex_neg (by omega) h4] at h1
      rw [List.size_toArray,← hl]
      exact Option.some.inj h1
    exact subscriptTail_builtinR (x:=w) pl.isList.typeIs slot_list_getitem.lookup
      (wpAny_getItem_list_neg (Q:=fun r s'=>r=w∧EP X pins σ Q r s') pl.isList (by omega) (by rw [List.size_toArray] <;> omega) (by omega) (by rw [hj];simpa using ew) ⟨rfl,fin⟩) hs
theorem ix_tup:IxR X (rIxT X.K):=by
  intro value slice pins s σ H x y v u Q I rx ry h hs
  obtain ⟨p,xs,i,z,rfl,rfl,hq,he,q⟩:=h
  cases rx
  obtain ⟨t,rfl⟩:=ry
  obtain ⟨its,r,pl,hz⟩:=I.tuple hq
  obtain ⟨j,h1,h2,h3,h4,h5⟩:=atI_get he
  obtain ⟨w,ew,rw'⟩:=r.get h2
  have hl:=r.length
  have hn:=line63
  have fin:EP X pins σ Q w s:=⟨z,H,I,rw',q⟩
  exact subscriptTail_builtinR (x:=w) pl.typeIs slot_tuple_getitem.lookup
    (getItem_tuple (j:=j) (Q:=fun r s'=>r=w∧EP X pins σ Q r s') pl (by omega) (by omega) (by rw [List.size_toArray,← hl];exact h1) (by simpa using ew) ⟨rfl,fin⟩) hs
theorem ix_str:IxR X rIxS:=by
  intro value slice pins s σ H x y v u Q I rx ry h hs
  obtain ⟨z,i,c,rfl,rfl,hz,he,q⟩:=h
  obtain ⟨t,rfl⟩:=rx
  obtain ⟨t',rfl⟩:=ry
  obtain ⟨j,h1,h2,h3,h4,h5⟩:=atI_get he
  have hl:z.cps.toList.length=z.length:=by simp [Str.length]
  rw [hl] at h1 h4 h5
  have hn:=line63
  exact tail_any (typeIs_str s z t) slot_str_getitem.lookup (getItem_str (c:=c) (by
    have e1:decide (i < -(2 ^ 63:Int))=false:=decide_eq_false (by omega)
    have e2:decide (i ≥ 2 ^ 63)=false:=decide_eq_false (by omega)
    rw [e1,e2,Bool.or_false]) (by rw [h1];simpa using h2) ⟨.str ⟨#[c]⟩,H,I.tok _,⟨_,rfl⟩,q⟩) hs
theorem mapSeq_set (its:List Value) (n j:Nat) (u:Value):Obj.mapSeq (·.setIfInBounds j u) { cls:=.type "list",data:=.seq its.toArray n } = { cls:=.type "list",data:=.seq (its.set j u).toArray n }:=by
  simp [Obj.mapSeq]
theorem Inv.lst {pins:List (Addr × Obj)} {σ:St} {H:Hp} {s:Shared} {p:Addr} {xs:List V} (I:Inv X pins σ H s) (h:H p=some (.lst xs)) :
    ∃ (its:List Value) (n:Nat),Vals xs its∧s.heap.get? p=some { cls:=.type "list",data:=.seq its.toArray n }∧xs.length≤sizeLine:=by
  obtain ⟨z,its,n,r,e⟩:=I.hok p _ h
  exact ⟨its,n,r,e,z⟩
theorem Inv.lstUpd {pins:List (Addr × Obj)} {σ:St} {H:Hp} {s:Shared} {p:Addr} {xs ys:List V} {its its':List Value} {n n':Nat} {f:Obj→Obj} (I:Inv X pins σ H s) (h:H p=some (.lst xs))
    (ho:s.heap.get? p=some { cls:=.type "list",data:=.seq its.toArray n }) (hf:f { cls:=.type "list",data:=.seq its.toArray n } = { cls:=.type "list",data:=.seq its'.toArray n' }) (r:Vals ys its') (hz:ys.length≤sizeLine) (t:Nat) :
    Inv X pins σ (upd H p (.lst ys)) { s with heap:=s.heap.update p f,toks:=t }:=by
  have e:(s.heap.update p f).get? p=some { cls:=.type "list",data:=.seq its'.toArray n' }:=by
    rw [Heap.get?_update_self f ho (by rw [hf] <;> rfl),hf]
  refine I.write (x:=p) (e:=p) (by rw [h];trivial) (.inl rfl) (fun b u hb q=>(Heap.get?_update_other _ _ (Ne.symm hb)).trans q) ⟨_,e⟩ ?_
  exact ⟨hz,its',n',r,e⟩
def rSetL:V→V→V→Hp→(Hp→Prop)→Prop:=fun o i v H Q=>∃ p xs k j,o=.ref p∧i=.int k∧H p=some (.lst xs)∧ixN xs.length k=some j∧Q (upd H p (.lst (xs.set j v)))
theorem set_list:PSet X rSetL:=by
  intro pins s σ H o i v ov iv u Q I ro ri rv h
  obtain ⟨p,xs,k,j,rfl,rfl,hp,hj,q⟩:=h
  cases ro
  obtain ⟨t,rfl⟩:=ri
  obtain ⟨its,n,r,ho,hz⟩:=I.lst hp
  obtain ⟨h1,h2,h3,h4⟩:=ixN_seq hj
  have hl:=r.length
  have hn:=line63
  have I':Inv X pins σ (upd H p (.lst (xs.set j v))) { s with heap:=s.heap.update p (Obj.mapSeq (·.setIfInBounds j u)) } :=
    I.lstUpd hp ho (mapSeq_set its n j u) (r.set rv j) (by rw [List.length_set];exact hz) s.toks
  by_cases h0:0≤k
  · have hk:k.toNat=j:=by
      rw [seqIndex_of h0 h4] at h1
      exact Option.some.inj h1
    exact PySem.W.ki_setAt ho h0 (by omega) (by rw [List.size_toArray,← hl];exact h4) (by rw [hk];exact ⟨_,I',q⟩)
  · have hk:(k+(its.toArray.size:Int)).toNat=j:=by
      rw [seqIndex_neg (by omega) h3] at h1
      rw [List.size_toArray,← hl]
      exact Option.some.inj h1
    exact PySem.W.ki_setBack ho (by omega) (by rw [List.size_toArray,← hl];exact h3) (by omega) (by rw [hk];exact ⟨_,I',q⟩)
theorem slice_bounds (lo hi:Option Int) (n:Nat):(sliceBounds lo hi none n).1=((HT.sIx n 0 lo:Nat):Int)∧(sliceBounds lo hi none n).2.1=((HT.sIx n n hi:Nat):Int)∧(sliceBounds lo hi none n).2.2=1:=by
  refine ⟨?_,?_,rfl⟩
  · cases lo with
    | none=>simp [sliceBounds,HT.sIx]
    | some i =>
      simp only [sliceBounds,HT.sIx,Option.getD_none,show (1:Int) > 0 by decide,if_true]
      by_cases h:i < 0
      · simp only [h,if_true] <;> omega
      · simp only [h,if_false] <;> omega
  · cases hi with
    | none=>simp [sliceBounds,HT.sIx]
    | some i =>
      simp only [sliceBounds,HT.sIx,Option.getD_none,show (1:Int) > 0 by decide,if_true]
      by_cases h:i < 0
      · simp only [h,if_true] <;> omega
      · simp only [h,if_false] <;> omega
theorem slicePick_cut (its:List Value) (lo hi:Option Int):slicePick its.toArray lo hi none=((its.drop (HT.sIx its.length 0 lo)).take (HT.sIx its.length its.length hi - HT.sIx its.length 0 lo)).toArray:=by
  obtain ⟨h1,h2,h3⟩:=slice_bounds lo hi its.toArray.size
  unfold slicePick
  rw [h1,h2,h3]
  simp only [sliceRange_one,pick_run,List.size_toArray] <;> rfl
def rSlL (K:PySem.W.Frag):V→Option Int→Option Int→Hp→VK→Prop:=fun x lo hi H Q=>∃ a xs,x=.ref a∧SqL K H a xs∧∀ p,H p=none→Q (.ref p) (upd H p (.lst (cutV xs lo hi)))
theorem sl_list:SlR X (rSlL X.K):=by
  intro pins s σ H x v vl vu lo hi sl Q I rx hs pl pu h
  obtain ⟨a,xs,rfl,hx,q⟩:=h
  cases rx
  obtain ⟨its,r,ht,hz⟩:=I.list hx
  have hlen:=r.length
  refine ⟨"list",_,slot_list_getitem.lookup,ht.isList.typeIs,?_⟩
  refine wpAny_getItem_list_slice ht.isList hs pl pu .none (by simp) ?_ (by rw [List.size_toArray] <;> omega)
  rw [slicePick_cut,← hlen]
  refine ⟨.ref s.heap.objs.size,_,I.laid (t':=s.toks) (o:=.lst (cutV xs lo hi)) (fun b ob q=>Heap.get?_push_of_some _ q) (Nat.le_refl _) ?_,rfl,q _ (I.hok.fresh (Nat.le_refl _))⟩
  exact ⟨Nat.le_trans (cutV_length xs lo hi) hz,_,0,(r.drop (HT.sIx xs.length 0 lo)).take (HT.sIx xs.length xs.length hi - HT.sIx xs.length 0 lo),Heap.get?_push_size _ rfl⟩
def flatV:V→Bool
  | .non=>true
  | .bl _=>true
  | .int _=>true
  | .str _=>true
  | _=>false
def eqV:V→V→Bool
  | .non,.non=>true
  | .bl a,.bl b=>a == b
  | .bl a,.int b=>(if a then 1 else 0) == b
  | .int a,.bl b=>a == (if b then 1 else 0)
  | .int a,.int b=>a == b
  | .str a,.str b=>a == b
  | _,_=>false
theorem eqAt_V {A:Around} {s:Shared} {y x:V} {u v:Value} (ry:RelV y u) (rx:RelV x v) (fy:flatV y=true) (fx:flatV x=true):SeqAt.EqAt A s u v (eqV y x):=by
  cases y with
  | non =>
    cases ry
    cases x with
    | non=>cases rx;exact SeqAt.EqAt.same _
    | bl b=>cases rx;exact SeqAt.EqAt.none_bool b
    | int b=>obtain ⟨t,rfl⟩:=rx;exact SeqAt.EqAt.none_int b t
    | str b=>obtain ⟨t,rfl⟩:=rx;exact SeqAt.EqAt.none_str b t
    | _=>exact absurd (show false=true from fx) Bool.false_ne_true
  | bl a =>
    cases ry
    cases x with
    | non=>cases rx;exact SeqAt.EqAt.bool_none a
    | bl b=>cases rx;exact SeqAt.EqAt.bool_bool a b
    | int b=>obtain ⟨t,rfl⟩:=rx;exact SeqAt.EqAt.bool_int a b t
    | str b=>obtain ⟨t,rfl⟩:=rx;exact SeqAt.EqAt.bool_str a b t
    | _=>exact absurd (show false=true from fx) Bool.false_ne_true
  | int a =>
    obtain ⟨t',rfl⟩:=ry
    cases x with
    | non=>cases rx;exact SeqAt.EqAt.int_none a t'
    | bl b=>cases rx;exact SeqAt.EqAt.int_bool a t' b
    | int b=>obtain ⟨t,rfl⟩:=rx;exact SeqAt.EqAt.int_int a t' b t
    | str b=>obtain ⟨t,rfl⟩:=rx;exact SeqAt.EqAt.int_str a t' b t
    | _=>exact absurd (show false=true from fx) Bool.false_ne_true
  | str a =>
    obtain ⟨t',rfl⟩:=ry
    cases x with
    | non=>cases rx;exact SeqAt.EqAt.str_none a t'
    | bl b=>cases rx;exact SeqAt.EqAt.str_bool a t' b
    | int b=>obtain ⟨t,rfl⟩:=rx;exact SeqAt.EqAt.str_int a t' b t
    | str b=>obtain ⟨t,rfl⟩:=rx;exact SeqAt.EqAt.str_str a t' b t
    | _=>exact absurd (show false=true from fx) Bool.false_ne_true
  | _=>exact absurd (show false=true from fy) Bool.false_ne_true
def eqU (x:V) (u:Value):Bool:=match u with
  | .none=>eqV .non x
  | .bool b=>eqV (.bl b) x
  | .int i _=>eqV (.int i) x
  | .str z _=>eqV (.str z) x
  | _=>false
theorem eqU_of {x y:V} {u:Value} (r:RelV y u) (f:flatV y=true):eqU x u=eqV y x:=by
  cases y with
  | non=>cases r;rfl
  | bl b=>cases r;rfl
  | int i=>obtain ⟨t,rfl⟩:=r;rfl
  | str z=>obtain ⟨t,rfl⟩:=r;rfl
  | _=>exact absurd (show false=true from f) Bool.false_ne_true
theorem any_eqU {x:V}:∀ {xs:List V} {us:List Value},Vals xs us→xs.all flatV=true→us.any (eqU x)=xs.any fun y=>eqV y x
  | _,_,.nil,_=>rfl
  | y :: xs,u :: us,.cons r t,f=>by
    rw [List.all_cons,Bool.and_eq_true] at f
    rw [List.any_cons,List.any_cons,eqU_of r f.1,any_eqU t f.2]
theorem mem_eqAt {A:Around} {s:Shared} {x:V} {v:Value} (rx:RelV x v) (fx:flatV x=true):∀ {xs:List V} {us:List Value},Vals xs us→xs.all flatV=true→∀ u∈us,SeqAt.EqAt A s u v (eqU x u)
  | _,_,.nil,_=>fun u hu=>by cases hu
  | y :: xs,u :: us,.cons r t,f=>fun u' hu=>by
    rw [List.all_cons,Bool.and_eq_true] at f
    rcases List.mem_cons.mp hu with rfl | hu
    · rw [eqU_of r f.1];exact eqAt_V r rx f.1 fx
    · exact mem_eqAt rx fx t f.2 u' hu
def inV (x:V) (xs:List V):Bool:=xs.any fun y=>eqV y x
def rIn (K:PySem.W.Frag) (neg:Bool):R2:=fun x y H Q=>∃ p xs,y=.ref p∧(SqL K H p xs∨SqT K H p xs)∧flatV x=true∧xs.all flatV=true∧Q (.bl (if neg then !inV x xs else inV x xs)) H
theorem op_in_seq:OpR X (compareOp .In) (rIn X.K false):=by
  intro pins s σ H x y v u Q I rx ry h
  obtain ⟨p,xs,rfl,hq,fx,fs,q⟩:=h
  cases ry
  rcases hq with hq | hq
  · obtain ⟨its,r,pl,hz⟩:=I.list hq
    refine SeqAt.in_listAt (eqU x) pl.isList (fun w hw=>mem_eqAt rx fx r fs w (by simpa using hw)) ⟨.bl _,H,I,rfl,?_⟩
    rw [show its.toArray.any (eqU x)=its.any (eqU x) by simp,any_eqU r fs]
    exact q
  · obtain ⟨its,r,pl,hz⟩:=I.tuple hq
    refine SeqAt.in_tupleAt (eqU x) pl (fun w hw=>mem_eqAt rx fx r fs w (by simpa using hw)) ⟨.bl _,H,I,rfl,?_⟩
    rw [show its.toArray.any (eqU x)=its.any (eqU x) by simp,any_eqU r fs]
    exact q
theorem op_notIn_seq:OpR X (compareOp .NotIn) (rIn X.K true):=by
  intro pins s σ H x y v u Q I rx ry h
  obtain ⟨p,xs,rfl,hq,fx,fs,q⟩:=h
  cases ry
  rcases hq with hq | hq
  · obtain ⟨its,r,pl,hz⟩:=I.list hq
    refine SeqAt.notIn_listAt (eqU x) pl.isList (fun w hw=>mem_eqAt rx fx r fs w (by simpa using hw)) ⟨.bl _,H,I,rfl,?_⟩
    rw [show its.toArray.any (eqU x)=its.any (eqU x) by simp,any_eqU r fs]
    exact q
  · obtain ⟨its,r,pl,hz⟩:=I.tuple hq
    refine SeqAt.notIn_tupleAt (eqU x) pl (fun w hw=>mem_eqAt rx fx r fs w (by simpa using hw)) ⟨.bl _,H,I,rfl,?_⟩
    rw [show its.toArray.any (eqU x)=its.any (eqU x) by simp,any_eqU r fs]
    exact q
theorem call_len_seq:CallR X (.builtin "len") (fun xs H Q=>∃ p ys,xs=[.ref p]∧(SqL X.K H p ys∨SqT X.K H p ys)∧Q (.int ys.length) H):=by
  intro pins s σ H xs us Q I r h
  obtain ⟨p,ys,rfl,hq,q⟩:=h
  obtain ⟨u,rfl,rx⟩:=vals1 r
  cases rx
  have hn:=line63
  rcases hq with hq | hq
  · obtain ⟨its,r',pl,hz⟩:=I.list hq
    have hlen:=r'.length
    exact Calls.call_len_list pl.isList (by simp only [List.size_toArray] <;> omega) ⟨.int ys.length,H,I.tok _,⟨s.toks+1,by rw [List.size_toArray,hlen]⟩,q⟩
  · obtain ⟨its,r',pl,hz⟩:=I.tuple hq
    have hlen:=r'.length
    exact len_tuple pl (by simp only [List.size_toArray] <;> omega) ⟨.int ys.length,H,I.tok _,⟨s.toks+1,by rw [List.size_toArray,hlen]⟩,q⟩
theorem call_len_str:CallR X (.builtin "len") (fun xs H Q=>∃ z,xs=[.str z]∧z.length≤sizeLine∧Q (.int z.length) H):=by
  intro pins s σ H xs us Q I r h
  obtain ⟨z,rfl,hz,q⟩:=h
  obtain ⟨u,rfl,t,rfl⟩:=vals1 r
  have hn:=line63
  exact len_str (by omega) ⟨.int z.length,H,I.tok _,⟨_,rfl⟩,q⟩
theorem CallR.or {f:Value} {r r':List V→Hp→VK→Prop} (h:CallR X f r) (h':CallR X f r'):CallR X f (fun xs H Q=>r xs H Q∨r' xs H Q):=by
  intro pins s σ H xs us Q I rs q
  rcases q with q | q
  · exact h pins s σ H xs us Q I rs q
  · exact h' pins s σ H xs us Q I rs q
theorem call_list_of:CallR X (.type "list") (fun xs H Q=>∃ p ys,xs=[.ref p]∧(SqL X.K H p ys∨SqT X.K H p ys)∧∀ l,H l=none→Q (.ref l) (upd H l (.lst ys))):=by
  intro pins s σ H xs us Q I r h
  obtain ⟨p,ys,rfl,hq,q⟩:=h
  obtain ⟨u,rfl,rx⟩:=vals1 r
  cases rx
  have fin:∀ (its:List Value),Vals ys its→ys.length≤sizeLine→∀ (h':Heap) (c':Nat),(∀ b o',s.heap.get? b=some o'→h'.get? b=some o') →
      h'.get? s.heap.objs.size=some { cls:=.type "list",dict:=none,data:=.seq its.toArray c',slots:=#[] }→EP X pins σ Q (.ref s.heap.objs.size) { s with heap:=h' }:=fun its r' hz h' c' kp e =>
    ⟨.ref s.heap.objs.size,_,I.laid (t':=s.toks) kp (Nat.le_refl _) (show ObjOk X.prog X.w _ h' _ (.lst ys) from ⟨hz,its,c',r',e⟩),rfl,q _ (I.hok.fresh (Nat.le_refl _))⟩
  rcases hq with hq | hq
  · obtain ⟨its,r',pl,hz⟩:=I.list hq
    have hlen:=r'.length
    obtain ⟨o,ho,hc,n,hd⟩:=pl.isList
    exact call_list_seq p (.inl rfl) ho hc hd (fun h' c' kp e=>fin its r' hz h' c' kp e) (by simp only [List.size_toArray] <;> omega)
  · obtain ⟨its,r',pl,hz⟩:=I.tuple hq
    have hlen:=r'.length
    obtain ⟨o,ho,hc,n,hd⟩:=pl
    exact call_list_seq p (.inr rfl) ho hc hd (fun h' c' kp e=>fin its r' hz h' c' kp e) (by simp only [List.size_toArray] <;> omega)
theorem call_tuple_of:CallR X (.type "tuple") (fun xs H Q=>∃ p ys,xs=[.ref p]∧((SqL X.K H p ys∧∀ l,H l=none→Q (.ref l) (upd H l (.tup ys)))∨(SqT X.K H p ys∧Q (.ref p) H))):=by
  intro pins s σ H xs us Q I r h
  obtain ⟨p,ys,rfl,h⟩:=h
  obtain ⟨u,rfl,rx⟩:=vals1 r
  cases rx
  rcases h with ⟨hq,q⟩ | ⟨hq,q⟩
  · obtain ⟨its,r',pl,hz⟩:=I.list hq
    have hlen:=r'.length
    refine call_tuple_list pl.isList (fun h' kp=>?_) (by simp only [List.size_toArray] <;> omega)
    have I1:Inv X pins σ H { s with heap:=h' }:=I.kept (t':=s.toks) kp
    have I2:Inv X pins σ (upd H h'.objs.size (.tup ys)) { s with heap:=h'.push { cls:=.type "tuple",data:=.seq its.toArray } } :=
      I1.laid (t':=s.toks) (fun b o e=>Heap.get?_push_of_some _ e) (Nat.le_refl _) (show ObjOk X.prog X.w _ _ _ (.tup ys) from ⟨hz,its,r',IsTup.new _ _,_,Heap.get?_push_size _ rfl,rfl⟩)
    exact ⟨.ref h'.objs.size,_,I2,rfl,q _ (I1.hok.fresh (Nat.le_refl _))⟩
  · obtain ⟨its,r',pl,hz⟩:=I.tuple hq
    exact call_tuple_same pl ⟨.ref p,H,I,rfl,q⟩
def tyV (K:PySem.W.Frag) (T:String) (x:V) (H:Hp):Prop:=match x with
  | .str _=>T = "str"
  | .int _=>T = "int"
  | .ref p=>(T = "list"∧∃ xs,SqL K H p xs)∨(T = "tuple"∧∃ o,K.lookup p=some o∧o.cls=.type "tuple"∧o.dict=none) ∨
      (T = "dict"∧((∃ kvs,H p=some (.dK kvs))∨∃ kvs,H p=some (.dT kvs)))∨(T = "set"∧∃ S n,H p=some (.set S n))
  | _=>False
theorem tyV_is {pins:List (Addr × Obj)} {σ:St} {H:Hp} {s:Shared} {T:String} {x:V} {v:Value} (I:Inv X pins σ H s) (r:RelV x v) (ty:tyV X.K T x H) :
    s.TypeIs v T∧∀ a,v=.ref a→∃ ob,s.heap.get? a=some ob∧ob.dict=none:=by
  cases x with
  | str z =>
    obtain ⟨t,rfl⟩:=r
    cases (show T = "str" from ty)
    exact ⟨typeIs_str s z t,fun _ e=>nomatch e⟩
  | int i =>
    obtain ⟨t,rfl⟩:=r
    cases (show T = "int" from ty)
    exact ⟨typeIs_int s i t,fun _ e=>nomatch e⟩
  | ref p =>
    cases r
    rcases ty with ⟨rfl,xs,hq⟩ | ⟨rfl,o,hk,hc,hd⟩ | ⟨rfl,hk⟩ | ⟨rfl,S,n,hk⟩
    · obtain ⟨its,_,pl,_⟩:=I.list hq
      refine ⟨pl.isList.typeIs,fun a e=>?_⟩
      cases e
      obtain ⟨o,n,e,c,hd,_⟩:=pl
      exact ⟨o,e,hd⟩
    · refine ⟨⟨o,I.kIn p o hk,hc⟩,fun a e=>?_⟩
      cases e
      exact ⟨o,I.kIn _ o hk,hd⟩
    · have z:∃ o,s.heap.get? p=some o∧o.ExactDict:=by
        rcases hk with ⟨kvs,hk⟩ | ⟨kvs,hk⟩
        · obtain ⟨_,_,_,_,o,_,_,e,ex,_⟩:=I.hok p _ hk
          exact ⟨o,e,ex⟩
        · obtain ⟨_,_,_,_,o,_,_,e,ex,_⟩:=I.hok p _ hk
          exact ⟨o,e,ex⟩
      obtain ⟨o,e,ex⟩:=z
      refine ⟨⟨o,e,ex.1⟩,fun a e2=>?_⟩
      cases e2
      exact ⟨o,e,ex.2.1⟩
    · obtain ⟨o,_,_,_,e,ex,_⟩:=I.hok p _ hk
      refine ⟨⟨o,e,ex.1⟩,fun a e2=>?_⟩
      cases e2
      exact ⟨o,e,ex.2.1⟩
  | _=>exact False.elim ty
def tBM0 (K:PySem.W.Frag) (T:String) (r:V→List V→Hp→VK→Prop) (to:TE):TE:=fun σ H Q=>to σ H fun x H1=>tyV K T x H1∧r x [] H1 Q
def tBM (K:PySem.W.Frag) (T:String) (r:V→List V→Hp→VK→Prop) (to:TE) (t:TA):TE:=fun σ H Q=>to σ H fun x H1=>tyV K T x H1∧t σ H1 fun xs H2=>r x xs H2 Q
variable {o e:Expr} {es:List Expr} {to:TE} {t:TA} {name:Str} {apos cpos:Pos} {T id:String} {r:V→List V→Hp→VK→Prop}
theorem pe_bm0 (pa:PlainAttrs T) (slot:Slot T name id) (hty:typeOf (.builtin id)=pure (.type "method_descriptor")) (hm:MtR X id r) (ho:PE X o to)
    (hbase:attributeBase o name X.env (eval o X.env)=eval o X.env:=by rfl) (hline:(apos.endLine == cpos.line)=true:=by rfl):PE X (.Call (.Attribute o name apos) [] [] cpos) (tBM0 X.K T r to):=by
  intro pins s σ H Q I h
  refine wpAny_Call_method0_late hbase hline (thn (ho pins s σ H _ I h) fun v s1 ⟨x,H1,I1,r1,ty,q1⟩=>?_)
  obtain ⟨h1,h2⟩:=tyV_is I1 r1 ty
  exact ⟨T,id,pa,slot,hty,h1,h2,Calls.callWith_builtin rfl (PySem.evalArgs_none (hm pins s1 σ H1 x [] v [] Q I1 r1 .nil q1))⟩
theorem pe_bm (pa:PlainAttrs T) (slot:Slot T name id) (hty:typeOf (.builtin id)=pure (.type "method_descriptor")) (hm:MtR X id r) (ho:PE X o to) (ha:PA X (e :: es) t)
    (hbase:attributeBase o name X.env (eval o X.env)=eval o X.env:=by rfl)
    (hfew:((backTo cpos (starEach (e :: es) X.env)).all (fun x=>!x.1) && (backToKw cpos (keywordEach [] X.env)).all (fun x=>x.1.isSome)
      && decide ((e :: es).length+([]:List Keyword).length+(if ([]:List Keyword).isEmpty then 0 else 1) < 30))=true:=by rfl)
    (hline:(apos.endLine == cpos.line)=true:=by rfl) (hs:starEach (e :: es) X.env=(false,eval e X.env) :: starEach es X.env:=by rfl) (hplain:(backTo cpos (starEach es X.env)).any (·.1)=false:=by rfl) :
    PE X (.Call (.Attribute o name apos) (e :: es) [] cpos) (tBM X.K T r to t):=by
  intro pins s σ H Q I h
  refine wpAny_Call_method_late hbase hfew hline rfl (thn (ho pins s σ H _ I h) fun v s1 ⟨x,H1,I1,r1,ty,q1⟩=>?_)
  obtain ⟨h1,h2⟩:=tyV_is I1 r1 ty
  refine ⟨T,id,pa,slot,hty,h1,h2,?_⟩
  have hA:=ha cpos pins s1 σ H1 _ I1 q1
  rw [hs] at hA ⊢
  refine Calls.callWith_builtin (by show (false || (backTo cpos (starEach es X.env)).any (·.1))=false;rw [hplain] <;> rfl) (Calls.evalArgs_plain ?_)
  exact thn hA fun us s2 ⟨vs,H2,I2,r2,q2⟩=>hm pins s2 σ H2 x vs v us Q I2 r1 r2 q2
/- xs.append(e),list.index on a module's tuple .. are MtR facts of 06m -/
end
end L2
namespace L2
open PySem PySem.Spec PyProof.Rows
def MtM (X:Cx) (id:String) (r:V→List V→Hp→VK→Prop):Prop :=
  ∀ (pins:List (Addr × Obj)) (s:Shared) (σ:St) (H:Hp) (x:V) (xs:List V) (v:Value) (us:List Value) (Q:VK),Inv X pins σ H s→RelV x v→Vals xs us→r x xs H Q →
    wpAny (model X.prog X.w) X.A (call (.builtin id) (v :: us)) (EP X pins σ Q) X.xe s
theorem Vals.one:∀ {x:V} {us:List Value},Vals [x] us→∃ u,us=[u]∧RelV x u
  | _,_,.cons r .nil=>⟨_,rfl,r⟩
theorem Vals.two:∀ {x y:V} {us:List Value},Vals [x,y] us→∃ u v,us=[u,v]∧RelV x u∧RelV y v
  | _,_,_,.cons r (.cons q .nil)=>⟨_,_,rfl,r,q⟩
theorem Vals.zero:∀ {us:List Value},Vals [] us→us=[]
  | _,.nil=>rfl
theorem Vals.dropLast {xs:List V} {us:List Value} (h:Vals xs us):Vals xs.dropLast us.dropLast:=by
  induction h with
  | nil=>exact .nil
  | cons r t ih =>
    cases t with
    | nil=>exact .nil
    | cons q t'=>exact .cons r ih
theorem Vals.eraseIdx:∀ {xs:List V} {us:List Value} (i:Nat),Vals xs us→Vals (xs.eraseIdx i) (us.eraseIdx i)
  | _,_,_,.nil=>.nil
  | _,_,0,.cons _ t=>t
  | _,_,i+1,.cons r t=>.cons r (Vals.eraseIdx i t)
theorem Vals.reverse {xs:List V} {us:List Value} (h:Vals xs us):Vals xs.reverse us.reverse:=by
  induction h with
  | nil=>exact .nil
  | cons r t ih=>rw [List.reverse_cons,List.reverse_cons];exact Vals.append ih (.cons r .nil)
theorem erase_last {α:Type} (l:List α):l.eraseIdx (l.length - 1)=l.dropLast:=by
  induction l with
  | nil=>rfl
  | cons a r ih =>
    cases r with
    | nil=>rfl
    | cons b r =>
      have e:(a :: b :: r).length - 1=((b :: r).length - 1)+1:=by
        have h1:(a :: b :: r).length=r.length+2:=rfl
        have h2:(b :: r).length=r.length+1:=rfl
        omega
      rw [e,List.eraseIdx_cons_succ,ih]
      all_goals rfl
theorem len_erase {α:Type}:∀ (l:List α) (i:Nat),(l.eraseIdx i).length≤l.length
  | [],_=>Nat.le_refl _
  | _ :: _,0=>Nat.le_succ _
  | _ :: r,i+1=>Nat.succ_le_succ (len_erase r i)
section
variable {X:Cx} {pins:List (Addr × Obj)} {σ:St} {H:Hp} {s:Shared} {l b:Addr} {xs ys zs:List V}
theorem Inv.lset {its its':List Value} {n:Nat} {f:Array Value→Array Value} {t':Nat} (I:Inv X pins σ H s) (hH:H l=some (.lst xs))
    (e:s.heap.get? l=some { cls:=.type "list",data:=.seq its.toArray n }) (hf:f its.toArray=its'.toArray) (hv:Vals ys its') (hz:ys.length≤sizeLine) :
    Inv X pins σ (upd H l (.lst ys)) { s with heap:=s.heap.update l (Obj.mapSeq f),toks:=t' }:=by
  have q:=PySem.IsL.update e f
  rw [hf] at q
  refine I.write (x:=l) (e:=l) (by rw [hH];exact trivial) (.inl rfl) (fun b' u hb hu=>(Heap.get?_update_other s.heap (Obj.mapSeq f) (Ne.symm hb)).trans hu) ⟨_,q⟩ ?_
  exact ⟨hz,its',_,hv,q⟩
theorem Inv.lnew {its:List Value} {t':Nat} (I:Inv X pins σ H s) (hv:Vals ys its) (hz:ys.length≤sizeLine) :
    Inv X pins σ (upd H s.heap.objs.size (.lst ys)) { s with heap:=s.heap.push { cls:=.type "list",data:=.seq its.toArray },toks:=t' } :=
  I.laid (fun _ _ q=>Heap.get?_push_of_some _ q) (Nat.le_refl _) ⟨hz,its,0,hv,Heap.get?_push_size _ rfl⟩
theorem Inv.fresh (I:Inv X pins σ H s):H s.heap.objs.size=none:=I.hok.fresh (Nat.le_refl _)
theorem Inv.lstM (I:Inv X pins σ H s) (hH:H l=some (.lst xs)):xs.length≤sizeLine∧∃ (its:List Value) (n:Nat),Vals xs its∧xs.length=its.length∧s.heap.get? l=some { cls:=.type "list",data:=.seq its.toArray n }:=by
  obtain ⟨z,its,n,r,e⟩:=I.hok l _ hH
  exact ⟨z,its,n,r,r.length,e⟩
theorem notLongL {n:Nat} (h:n≤sizeLine):Builtin.List.listTooLong n=false:=by
  unfold Builtin.List.listTooLong
  exact decide_eq_false (by omega)
end
section
variable {X:Cx}
def rAppend:V→List V→Hp→VK→Prop:=fun x vs H Q=>∃ l xs y,x=.ref l∧vs=[y]∧H l=some (.lst xs)∧xs.length < sizeLine∧Q .non (upd H l (.lst (xs++[y])))
theorem mt_append:MtM X "list.append" rAppend:=by
  intro pins s σ H x vs v us Q I rx rv h
  obtain ⟨l,xs,y,rfl,rfl,hH,hz,q⟩:=h
  cases rx
  obtain ⟨u,rfl,ru⟩:=rv.one
  obtain ⟨z,its,n,r,hl,e⟩:=I.lstM hH
  refine call_meets F.slot_list_append ⟨_,e,rfl⟩ F.entry_list_append (F.args_list_append_2 _ _) (PySem.list_append l its.toArray n u (by rw [List.size_toArray];omega)) ⟨e,?_⟩
  refine ⟨.non,_,I.lset (its':=its++[u]) hH e (by simp) (r.append (.cons ru .nil)) ?_,rfl,q⟩
  rw [List.length_append,List.length_singleton]
  omega
def rExtend:V→List V→Hp→VK→Prop:=fun x vs H Q=>∃ l b xs zs,x=.ref l∧vs=[.ref b]∧H l=some (.lst xs)∧H b=some (.lst zs)∧xs.length+zs.length≤sizeLine∧Q .non (upd H l (.lst (xs++zs)))
theorem mt_extend:MtM X "list.extend" rExtend:=by
  intro pins s σ H x vs v us Q I rx rv h
  obtain ⟨l,b,xs,zs,rfl,rfl,hH,hB,hz,q⟩:=h
  cases rx
  obtain ⟨u,rfl,ru⟩:=rv.one
  cases ru
  obtain ⟨z,its,n,r,hl,e⟩:=I.lstM hH
  obtain ⟨z2,its2,n2,r2,hl2,e2⟩:=I.lstM hB
  have hsz:its.toArray.size+its2.toArray.size≤sizeLine:=by rw [List.size_toArray,List.size_toArray];omega
  have hlong:¬ (!its.toArray.isEmpty && Builtin.List.listTooLong (its.toArray.size+its2.toArray.size))=true:=by
    rw [notLongL hsz,Bool.and_false]
    exact Bool.false_ne_true
  refine call_meets F.slot_list_extend ⟨_,e,rfl⟩ F.entry_list_extend (F.args_list_extend_2 _ _)
    (AutoSeq1.list_extend_list_list_0 l its.toArray n b its2.toArray n2 hlong (by rw [List.size_toArray];omega) (by omega)) ⟨e,e2,?_⟩
  refine ⟨.non,_,I.lset (its':=its++its2) hH e (by simp) (r.append r2) ?_,rfl,q⟩
  rw [List.length_append]
  omega
def rPop:V→List V→Hp→VK→Prop:=fun x vs H Q=>∃ l xs y,x=.ref l∧vs=[]∧H l=some (.lst xs)∧xs[xs.length - 1]? = some y∧Q y (upd H l (.lst xs.dropLast))
theorem mt_pop:MtM X "list.pop" rPop:=by
  intro pins s σ H x vs v us Q I rx rv h
  obtain ⟨l,xs,y,rfl,rfl,hH,hy,q⟩:=h
  cases rx
  have hus:=rv.zero
  subst hus
  obtain ⟨z,its,n,r,hl,e⟩:=I.lstM hH
  obtain ⟨u,hu,ru⟩:=r.get hy
  have hy':its.toArray[its.toArray.size - 1]? = some u:=by
    show its.toArray[its.length - 1]? = some u
    rw [← Array.getElem?_toList,← hl]
    exact hu
  refine call_meets F.slot_list_pop ⟨_,e,rfl⟩ F.entry_list_pop (F.args_list_pop_1 _) (MeetsSeq.list_pop_last l its.toArray n u hy' (by rw [List.size_toArray];omega)) ⟨e,?_⟩
  refine ⟨y,_,I.lset (its':=its.dropLast) hH e ?_ r.dropLast ?_,ru,q⟩
  · show its.toArray.eraseIdxIfInBounds (its.toArray.size - 1)=its.dropLast.toArray
    rw [List.size_toArray,List.eraseIdxIfInBounds_toArray,erase_last]
  · rw [List.length_dropLast]
    omega
def rPopAt:V→List V→Hp→VK→Prop:=fun x vs H Q=>∃ l xs i k y,x=.ref l∧vs=[.int i]∧H l=some (.lst xs)∧-(2 ^ 63)≤i∧i < 2 ^ 63∧seqIndex? i xs.length=some k∧xs[k]? = some y∧Q y (upd H l (.lst (xs.eraseIdx k)))
theorem mt_popAt:MtM X "list.pop" rPopAt:=by
  intro pins s σ H x vs v us Q I rx rv h
  obtain ⟨l,xs,i,k,y,rfl,rfl,hH,h1,h2,hk,hy,q⟩:=h
  cases rx
  obtain ⟨u,rfl,ru⟩:=rv.one
  obtain ⟨t,rfl⟩:=ru
  obtain ⟨z,its,n,r,hl,e⟩:=I.lstM hH
  obtain ⟨w,hw,rw'⟩:=r.get hy
  refine call_meets F.slot_list_pop ⟨_,e,rfl⟩ F.entry_list_pop (F.args_list_pop_2 _ _)
    (MeetsSeq.list_pop_at l its.toArray n i t k w (fitsIndex_both h1 h2) (by rw [List.size_toArray,← hl];exact hk) (by rw [← Array.getElem?_toList];exact hw) (by rw [List.size_toArray];omega)) ⟨e,?_⟩
  refine ⟨y,_,I.lset (its':=its.eraseIdx k) hH e ?_ (r.eraseIdx k) ?_,rw',q⟩
  · show its.toArray.eraseIdxIfInBounds k=(its.eraseIdx k).toArray
    rw [List.eraseIdxIfInBounds_toArray]
  · have:=len_erase xs k
    omega
def rCat:R2:=fun x y H Q=>∃ l b xs zs,x=.ref l∧y=.ref b∧H l=some (.lst xs)∧H b=some (.lst zs)∧xs.length+zs.length≤sizeLine∧∀ p,H p=none→Q (.ref p) (upd H p (.lst (xs++zs)))
theorem op_cat:OpR X (binaryOp .Add) rCat:=by
  intro pins s σ H x y v u Q I rx ry h
  obtain ⟨l,b,xs,zs,rfl,rfl,hH,hB,hz,q⟩:=h
  cases rx
  cases ry
  obtain ⟨z,its,n,r,hl,e⟩:=I.lstM hH
  obtain ⟨z2,its2,n2,r2,hl2,e2⟩:=I.lstM hB
  refine PySem.P.add_list e e2 ?_ (by rw [List.size_toArray,List.size_toArray];omega)
  have ea:its.toArray++its2.toArray=(its++its2).toArray:=by simp
  rw [ea]
  exact ⟨.ref _,_,I.lnew (t':=s.toks) (r.append r2) (by rw [List.length_append];omega),rfl,q _ I.fresh⟩
theorem len_rep {α:Type} (xs:List α) (k:Nat):(List.replicate k xs).flatten.length=k * xs.length:=by
  induction k with
  | zero=>simp
  | succ k ih=>rw [List.replicate_succ,List.flatten_cons,List.length_append,ih,Nat.succ_mul,Nat.add_comm]
end
section
variable {prog:Program} {w:World} {A:Around} {E:Value→Shared→Prop} {s:Shared}
set_option maxRecDepth 100000 in
end
section
variable {X:Cx}
end
end L2
namespace L2
open PySem PySem.Spec PyProof.Rows
section
variable {κ:Type} [DecidableEq κ]
def valV (kvs:List (κ × V)) (k:κ):Option V:=(kvs.find? fun kv=>decide (kv.1=k)).map (·.2)
def putK (kvs:List (κ × V)) (k:κ) (v:V):List (κ × V) :=
  if (kvs.any fun kv=>decide (kv.1=k))=true then kvs.map (fun kv=>if kv.1=k then (kv.1,v) else kv) else kvs++[(k,v)]
def dropK (kvs:List (κ × V)) (k:κ):List (κ × V):=kvs.filter fun kv=>decide (kv.1≠k)
theorem valV_pos {p:κ × V} {r:List (κ × V)} {k:κ} (e:p.1=k):valV (p :: r) k=some p.2:=by simp [valV,List.find?_cons,e]
theorem valV_neg {p:κ × V} {r:List (κ × V)} {k:κ} (e:¬ p.1=k):valV (p :: r) k=valV r k:=by simp [valV,List.find?_cons,e]
theorem valV_any (k:κ):∀ kvs:List (κ × V),(kvs.any fun kv=>decide (kv.1=k))=(valV kvs k).isSome
  | []=>rfl
  | p :: r=>by
    rw [List.any_cons]
    by_cases e:p.1=k
    · simp only [valV_pos e,decide_eq_true e,Bool.true_or,Option.isSome_some]
    · rw [valV_neg e,decide_eq_false e,Bool.false_or];exact valV_any k r
theorem length_putK (kvs:List (κ × V)) (k:κ) (v:V):(putK kvs k v).length≤kvs.length+1:=by
  unfold putK
  split
  · rw [List.length_map];omega
  · rw [List.length_append,List.length_cons,List.length_nil];omega
theorem RelO.isSome_eq {o:Option V} {u:Option Value} (r:RelO o u):o.isSome=u.isSome:=by
  cases o with
  | none=>cases u with
    | none=>rfl
    | some _=>exact (show False from r).elim
  | some _=>cases u with
    | none=>exact (show False from r).elim
    | some _=>rfl
theorem RelO.getD {o:Option V} {u:Option Value} {d:V} {d':Value} (r:RelO o u) (rd:RelV d d'):RelV (o.getD d) (u.getD d'):=by
  cases o with
  | none=>cases u with
    | none=>exact rd
    | some _=>exact (show False from r).elim
  | some _=>cases u with
    | none=>exact (show False from r).elim
    | some _=>exact r
theorem KV.val {kvs:List (κ × V)} {vs:List (κ × Value)} (r:KV kvs vs) (k:κ):RelO (valV kvs k) (valueAt vs k):=by
  unfold KV at r
  induction r with
  | nil=>exact True.intro
  | @cons p q ps qs h t ih =>
    obtain ⟨h1,h2⟩:=h
    by_cases e:p.1=k
    · have e':q.1=k:=h1.symm.trans e
      have b:valueAt (q :: qs) k=some q.2:=by simp [valueAt,List.find?_cons,e']
      rw [valV_pos e,b];exact h2
    · have e':¬ q.1=k:=fun z=>e (h1.trans z)
      have b:valueAt (q :: qs) k=valueAt qs k:=by simp [valueAt,List.find?_cons,e']
      rw [valV_neg e,b];exact ih
theorem KV.any {kvs:List (κ × V)} {vs:List (κ × Value)} (r:KV kvs vs) (k:κ):(kvs.any fun kv=>decide (kv.1=k))=vs.any fun kv=>decide (kv.1=k):=by
  unfold KV at r
  induction r with
  | nil=>rfl
  | cons h t ih=>rw [List.any_cons,List.any_cons,ih,h.1]
theorem KV.repl {kvs:List (κ × V)} {vs:List (κ × Value)} (r:KV kvs vs) (k:κ) {y:V} {u:Value} (ry:RelV y u) :
    KV (kvs.map fun kv=>if kv.1=k then (kv.1,y) else kv) (vs.map fun kv=>if kv.1=k then (kv.1,u) else kv):=by
  unfold KV at r ⊢
  induction r with
  | nil=>exact .nil
  | @cons p q ps qs h t ih =>
    rw [List.map_cons,List.map_cons]
    refine .cons ?_ ih
    obtain ⟨h1,h2⟩:=h
    by_cases e:p.1=k
    · rw [if_pos e,if_pos (h1.symm.trans e)];exact ⟨h1,ry⟩
    · rw [if_neg e,if_neg (fun z=>e (h1.trans z))];exact ⟨h1,h2⟩
theorem KV.put {kvs:List (κ × V)} {vs:List (κ × Value)} (r:KV kvs vs) (k:κ) {y:V} {u:Value} (ry:RelV y u):KV (putK kvs k y) (stored vs k u):=by
  unfold putK stored
  rw [r.any k]
  by_cases e:(vs.any fun kv=>decide (kv.1=k))=true
  · rw [if_pos e,if_pos e];exact r.repl k ry
  · rw [if_neg e,if_neg e];exact Paired.snoc r ⟨rfl,ry⟩
theorem KV.drop {kvs:List (κ × V)} {vs:List (κ × Value)} (r:KV kvs vs) (k:κ):KV (dropK kvs k) (without vs k):=by
  unfold KV at r ⊢
  unfold dropK without
  induction r with
  | nil=>exact .nil
  | @cons p q ps qs h t ih =>
    obtain ⟨h1,h2⟩:=h
    rw [List.filter_cons,List.filter_cons]
    by_cases e:p.1=k
    · have a:¬ decide (p.1≠k)=true:=by simp [e]
      have b:¬ decide (q.1≠k)=true:=by simp [h1.symm.trans e]
      rw [if_neg a,if_neg b];exact ih
    · have e':¬ q.1=k:=fun z=>e (h1.trans z)
      have a:decide (p.1≠k)=true:=by simp [e]
      have b:decide (q.1≠k)=true:=by simp [e']
      rw [if_pos a,if_pos b];exact .cons ⟨h1,h2⟩ ih
theorem KV.keys {kvs:List (κ × V)} {vs:List (κ × Value)} (r:KV kvs vs):kvs.map (·.1)=vs.map (·.1):=by
  unfold KV at r
  induction r with
  | nil=>rfl
  | cons h t ih=>rw [List.map_cons,List.map_cons,ih,h.1]
theorem KV.length {kvs:List (κ × V)} {vs:List (κ × Value)} (r:KV kvs vs):kvs.length=vs.length:=Paired.length r
end
theorem kV_is {P:Program} {w:World} {k:Key} {u:Value} (r:RelV (kV k) u):(mixKind P w).is k u=true:=by
  cases k with
  | inl i=>obtain ⟨t,e⟩:=(show ∃ t,u=Value.int i t from r);subst e;exact mixKind_int P w i t
  | inr x=>obtain ⟨t,e⟩:=(show ∃ t,u=Value.str x t from r);subst e;exact mixKind_str P w x t
theorem items_are {P:Program} {w:World}:∀ {ks:List Key} {us:List Value},Vals (ks.map kV) us→ItemsAre (mixKind P w) ks us
  | [],_,r=>by rw [List.map_nil] at r;cases r;exact .nil
  | k :: ks,_,r=>by
    rw [List.map_cons] at r
    cases r with
    | cons h t=>exact .cons (kV_is h) (items_are t)
abbrev KT (H:Hp):List (List Key × V)→List (List Key × Addr × Value)→Prop:=Paired fun p q=>p.1=q.1∧H q.2.1=some (.tup (p.1.map kV))∧RelV p.2 q.2.2
theorem KT.val {H:Hp} {kvs:List (List Key × V)} {xs:List (List Key × Addr × Value)} (r:KT H kvs xs) (k:List Key):RelO (valV kvs k) ((atKey xs k).map (·.2)):=by
  induction r with
  | nil=>exact True.intro
  | @cons p q ps qs h t ih =>
    obtain ⟨h1,_,h2⟩:=h
    by_cases e:p.1=k
    · have e':q.1=k:=h1.symm.trans e
      have b:atKey (q :: qs) k=some q.2:=by simp [atKey,List.find?_cons,e']
      rw [valV_pos e,b];exact h2
    · have e':¬ q.1=k:=fun z=>e (h1.trans z)
      have b:atKey (q :: qs) k=atKey qs k:=by simp [atKey,List.find?_cons,e']
      rw [valV_neg e,b];exact ih
theorem KT.repl {H:Hp} {kvs:List (List Key × V)} {xs:List (List Key × Addr × Value)} (r:KT H kvs xs) (k:List Key) {y:V} {u:Value} (ry:RelV y u) :
    KT H (kvs.map fun kv=>if kv.1=k then (kv.1,y) else kv) (xs.map (putAt k u)):=by
  induction r with
  | nil=>exact .nil
  | @cons p q ps qs h t ih =>
    rw [List.map_cons,List.map_cons]
    refine .cons ?_ ih
    obtain ⟨h1,h2,h3⟩:=h
    unfold putAt
    by_cases e:p.1=k
    · rw [if_pos e,if_pos (h1.symm.trans e)];exact ⟨h1,h2,ry⟩
    · rw [if_neg e,if_neg (fun z=>e (h1.trans z))];exact ⟨h1,h2,h3⟩
theorem KT.put {H:Hp} {kvs:List (List Key × V)} {xs:List (List Key × Addr × Value)} (r:KT H kvs xs) (k:List Key) {b:Addr} {y:V} {u:Value} (hb:H b=some (.tup (k.map kV))) (ry:RelV y u) :
    KT H (putK kvs k y) (storedH xs k b u):=by
  have e:(kvs.any fun kv=>decide (kv.1=k))=(atKey xs k).isSome:=by
    rw [valV_any,(r.val k).isSome_eq,Option.isSome_map]
  unfold putK storedH
  rw [e]
  by_cases q:(atKey xs k).isSome=true
  · rw [if_pos q,if_pos q];exact r.repl k ry
  · rw [if_neg q,if_neg q];exact Paired.snoc r ⟨rfl,hb,ry⟩
theorem KT.keeps {H H':Hp} {kvs:List (List Key × V)} {xs:List (List Key × Addr × Value)} (r:KT H kvs xs) (ht:∀ b ys,H b=some (.tup ys)→H' b=some (.tup ys)):KT H' kvs xs :=
  Paired.mapP r fun _ _ z=>⟨z.1,ht _ _ z.2.1,z.2.2⟩
section
variable {P:Program} {w:World} {H:Hp} {h:Heap} {a:Addr}
theorem rd_of {u:HO} (ok:HOk P w H h) (e:Rd H a u):ObjOk P w H h a u:=e.ok ok
theorem dk_rd {kvs:List (Key × V)} (ok:HOk P w H h) (e:Rd H a (.dK kvs)):kvs.length≤sizeLine∧(a == sysModules)=false∧∃ vs,KV kvs vs∧h.DictOf (mixKind P w) a vs :=
  show ObjOk P w H h a (.dK kvs) from rd_of ok e
theorem dk_of {kvs:List (Key × V)} (ok:HOk P w H h) (e:H a=some (.dK kvs)):kvs.length≤sizeLine∧(a == sysModules)=false∧∃ vs,KV kvs vs∧h.DictOf (mixKind P w) a vs:=dk_rd ok (.inl e)
theorem key_of {ks:List Key} (ok:HOk P w H h) (e:H a=some (.tup (ks.map kV))):(tupleKind (mixKind P w)).is h ks a:=by
  obtain ⟨_,its,r,⟨o,h1,h2,n,h3⟩,_⟩:=(show ObjOk P w H h a (.tup (ks.map kV)) from ok a _ e)
  exact ⟨o,its.toArray,n,h1,h2,h3,by simpa using items_are r⟩
theorem dt_rd {kvs:List (List Key × V)} (ok:HOk P w H h) (e:Rd H a (.dT kvs)):kvs.length≤sizeLine∧(a == sysModules)=false ∧
    ∃ xs,KT H kvs xs∧h.DictOfH (tupleKind (mixKind P w)) a xs:=by
  obtain ⟨z,y,xs,r,o,es,ep,h1,h2,h3,h4,h5⟩:=(show ObjOk P w H h a (.dT kvs) from rd_of ok e)
  refine ⟨z,y,xs,r,o,es,ep,h1,h2,h3,h4,fun x hx=>?_,h5⟩
  have all:∀ {l:List (List Key × V)} {m:List (List Key × Addr × Value)},KT H l m→∀ x∈m,(tupleKind (mixKind P w)).is h x.1 x.2.1:=by
    intro l m q
    induction q with
    | nil=>intro x hx;exact nomatch hx
    | @cons p q ps qs hq t ih =>
      intro x hx
      rcases List.mem_cons.mp hx with e | hx
      · subst e
        exact key_of ok (by rw [← hq.1];exact hq.2.1)
      · exact ih x hx
  exact all r x hx
theorem dt_of {kvs:List (List Key × V)} (ok:HOk P w H h) (e:H a=some (.dT kvs)):kvs.length≤sizeLine∧(a == sysModules)=false ∧
    ∃ xs,KT H kvs xs∧h.DictOfH (tupleKind (mixKind P w)) a xs:=dt_rd ok (.inl e)
end
def DGet (H:Hp) (a:Addr) (y:V) (r:Option V):Prop :=
  (∃ kvs k,Rd H a (.dK kvs)∧y=kV k∧r=valV kvs k)∨∃ kvs k b,Rd H a (.dT kvs)∧y=.ref b∧H b=some (.tup (k.map kV))∧r=valV kvs k
def DPut (H:Hp) (a:Addr) (y v:V) (H':Hp):Prop :=
  (∃ kvs k,H a=some (.dK kvs)∧y=kV k∧kvs.length < sizeLine∧H'=upd H a (.dK (putK kvs k v))) ∨
  ∃ kvs k b,H a=some (.dT kvs)∧y=.ref b∧H b=some (.tup (k.map kV))∧kvs.length < sizeLine∧H'=upd H a (.dT (putK kvs k v))
theorem DGet.k {H:Hp} {a:Addr} {kvs:List (Key × V)} {k:Key} (e:H a=some (.dK kvs)):DGet H a (kV k) (valV kvs k):=.inl ⟨kvs,k,.inl e,rfl,rfl⟩
theorem DGet.t {H:Hp} {a b:Addr} {kvs:List (List Key × V)} {k:List Key} (e:H a=some (.dT kvs)) (eb:H b=some (.tup (k.map kV))):DGet H a (.ref b) (valV kvs k):=.inr ⟨kvs,k,b,.inl e,rfl,eb,rfl⟩
theorem DPut.k {H:Hp} {a:Addr} {kvs:List (Key × V)} {k:Key} {v:V} (e:H a=some (.dK kvs)) (hl:kvs.length < sizeLine):DPut H a (kV k) v (upd H a (.dK (putK kvs k v))):=.inl ⟨kvs,k,e,rfl,hl,rfl⟩
theorem DPut.t {H:Hp} {a b:Addr} {kvs:List (List Key × V)} {k:List Key} {v:V} (e:H a=some (.dT kvs)) (eb:H b=some (.tup (k.map kV))) (hl:kvs.length < sizeLine) :
    DPut H a (.ref b) v (upd H a (.dT (putK kvs k v))):=.inr ⟨kvs,k,b,e,rfl,eb,hl,rfl⟩
section
variable {X:Cx} {pins:List (Addr × Obj)} {σ:St} {H:Hp} {s:Shared} {a:Addr} {y v:V} {u r:Value} {o:Option V} {A:Around} {E:Value→Shared→Prop}
theorem Inv.big (I:Inv X pins σ H s):sysModules < s.heap.objs.size:=by
  have h:mainGlobals < s.heap.objs.size:=(I.mod.glob.keeps I.bk).lt
  exact Nat.lt_trans (by decide) h
theorem d_getItem {Q:Value→Shared→Prop} (hu:A.units+1 < cLine) (I:Inv X pins σ H s) (g:DGet H a y (some v)) (ry:RelV y u) (h:∀ w' s',Inv X pins σ H s'→RelV v w'→Q w' s') :
    wpAny (model X.prog X.w) A (getItem (.ref a) u) Q E s:=by
  rcases g with ⟨kvs,k,e,ey,l⟩ | ⟨kvs,k,b,e,ey,eb,l⟩
  · subst ey
    obtain ⟨z,hd,vs,rel,dd⟩:=dk_rd I.hok e
    obtain ⟨w',hw,rw'⟩:=RelO.some_of (v:=v) (o:=valueAt vs k) (by rw [l];exact rel.val k)
    exact wpAny_getItem_of (kV_is ry) dd.mapOf hw (h w' _ (I.tok _) rw')
  · subst ey
    cases (show u=Value.ref b from ry)
    obtain ⟨z,hd,xs,rel,dd⟩:=dt_rd I.hok e
    obtain ⟨w',hw,rw'⟩:=RelO.some_of (v:=v) (o:=(atKey xs k).map (·.2)) (by rw [l];exact rel.val k)
    obtain ⟨p,hp,hp2⟩:=Option.map_eq_some_iff.mp hw
    refine wpAny_getItem_heap (tupleKind_room_in1 hu) (key_of I.hok eb) dd hp ?_
    rw [hp2]
    exact h w' _ (I.tok _) rw'
theorem d_in {Q:Value→Shared→Prop} (hu:A.units+1 < cLine) (I:Inv X pins σ H s) (g:DGet H a y o) (ry:RelV y u) (h:∀ s',Inv X pins σ H s'→Q (.bool o.isSome) s') :
    wpAny (model X.prog X.w) A (compareOp .In u (.ref a)) Q E s:=by
  rcases g with ⟨kvs,k,e,ey,l⟩ | ⟨kvs,k,b,e,ey,eb,l⟩
  · subst ey
    obtain ⟨z,hd,vs,rel,dd⟩:=dk_rd I.hok e
    refine wpAny_in_of (kV_is ry) hd dd.mapOf ?_
    rw [← (rel.val k).isSome_eq,← l]
    exact h _ (I.tok _)
  · subst ey
    cases (show u=Value.ref b from ry)
    obtain ⟨z,hd,xs,rel,dd⟩:=dt_rd I.hok e
    refine wpAny_in_heap (tupleKind_room_in1 hu) (key_of I.hok eb) hd dd ?_
    have q:=(rel.val k).isSome_eq
    rw [Option.isSome_map] at q
    rw [← q,← l]
    exact h _ (I.tok _)
theorem d_notIn {Q:Value→Shared→Prop} (hu:A.units+1 < cLine) (I:Inv X pins σ H s) (g:DGet H a y o) (ry:RelV y u) (h:∀ s',Inv X pins σ H s'→Q (.bool (!o.isSome)) s') :
    wpAny (model X.prog X.w) A (compareOp .NotIn u (.ref a)) Q E s:=by
  rcases g with ⟨kvs,k,e,ey,l⟩ | ⟨kvs,k,b,e,ey,eb,l⟩
  · subst ey
    obtain ⟨z,hd,vs,rel,dd⟩:=dk_rd I.hok e
    refine wpAny_notIn_of (kV_is ry) hd dd.mapOf ?_
    rw [← (rel.val k).isSome_eq,← l]
    exact h _ (I.tok _)
  · subst ey
    cases (show u=Value.ref b from ry)
    obtain ⟨z,hd,xs,rel,dd⟩:=dt_rd I.hok e
    refine wpAny_notIn_heap (tupleKind_room_in1 hu) (key_of I.hok eb) hd dd ?_
    have q:=(rel.val k).isSome_eq
    rw [Option.isSome_map] at q
    rw [← q,← l]
    exact h _ (I.tok _)
theorem d_write {h':Heap} {t':Nat} {ob:HO} (I:Inv X pins σ H s) (mu:Mut (H a)) (hs:Heap.SameBut a s.heap h') (he:∃ q,h'.get? a=some q) (new:ObjOk X.prog X.w (upd H a ob) h' a ob) :
    Inv X pins σ (upd H a ob) { s with heap:=h',toks:=t' } :=
  I.write (x:=a) (e:=a) mu (.inl rfl) (fun b q hb z=>(hs.2 b hb).trans z) he new
theorem dk_new {P:Program} {w:World} {H':Hp} {h':Heap} {kvs:List (Key × V)} {vs:List (Key × Value)} (z:kvs.length≤sizeLine) (hd:(a == sysModules)=false) (rel:KV kvs vs) (dd:h'.DictOf (mixKind P w) a vs) :
    ObjOk P w H' h' a (.dK kvs):=⟨z,hd,vs,rel,dd⟩
theorem d_setItem {H':Hp} {Q:Unit→Shared→Prop} (hu:A.units+1 < cLine) (I:Inv X pins σ H s) (g:DPut H a y v H') (ry:RelV y u) (rv:RelV v r) (h:∀ s',Inv X pins σ H' s'→Q () s') :
    wpAny (model X.prog X.w) A (setItem (.ref a) u r) Q E s:=by
  rcases g with ⟨kvs,k,e,ey,l,eH⟩ | ⟨kvs,k,b,e,ey,eb,l,eH⟩
  · subst ey eH
    obtain ⟨z,hd,vs,rel,dd⟩:=dk_of I.hok e
    have hz:vs.length≤sizeLine:=by rw [← rel.length];exact z
    have hl:(putK kvs k v).length≤sizeLine:=by have:=length_putK kvs k v;omega
    refine wpAny_setItem_pairs (hsz:=hz) (kV_is ry) dd fun h' dd' hs=>h _ ?_
    have he:∃ q,h'.get? a=some q:=let ⟨q,_,_,hq,_⟩:=dd';⟨q,hq⟩
    exact d_write I (by rw [e];exact True.intro) hs he (dk_new hl hd (rel.put k rv) dd')
  · subst ey eH
    cases (show u=Value.ref b from ry)
    obtain ⟨z,hd,xs,rel,dd⟩:=dt_of I.hok e
    have hz:xs.length≤sizeLine:=by rw [← Paired.length rel];exact z
    have hl:(putK kvs k v).length≤sizeLine:=by have:=length_putK kvs k v;omega
    refine wpAny_setItem_heap (hsz:=hz) (tupleKind_room_in1 hu) (key_of I.hok eb) dd fun h' dd' hs=>h _ ?_
    obtain ⟨q,es,ep,hq,h2,h3,h4,_,h5⟩:=dd'
    refine d_write I (by rw [e];exact True.intro) hs ⟨q,hq⟩ ⟨hl,hd,_,(rel.put k eb rv).keeps fun c ys ec=>?_,q,es,ep,hq,h2,h3,h4,h5⟩
    rw [upd_ne (ne_of ec e (fun z=>nomatch z))]
    exact ec
end
section
variable {X:Cx} {pins:List (Addr × Obj)} {σ:St} {H:Hp} {s:Shared} {a:Addr} {kvs:List (Key × V)} {k:Key} {u:Value} {A:Around} {E:Value→Shared→Prop}
theorem d_len {Q:Value→Shared→Prop} (I:Inv X pins σ H s) (e:Rd H a (.dK kvs)) (h:∀ t s',Inv X pins σ H s'→Q (.int kvs.length t) s'):wpAny (model X.prog X.w) A (call (.builtin "len") [.ref a]) Q E s:=by
  obtain ⟨z,hd,vs,rel,dd⟩:=dk_rd I.hok e
  refine call_len_dict hd dd (by rw [← rel.length];rw [sizeLine_eq] at z;omega) ?_
  rw [← rel.length]
  exact h _ _ (I.tok _)
end
def NoSl (i:Expr):Prop:=∀ ov iv,subscripted i false ov iv=operate [ov,iv] (getItem ov iv)
theorem subD_of {prog:Program} {w:World} {A:Around} {E:Value→Shared→Prop} {s:Shared} {env:Env} {value slice:Expr} {pos:Pos} {T id:String} {Q:Value→Shared→Prop}
    (hl:typeLookup (.type T) "__getitem__" = pure (some (.builtin id))) (hs:NoSl slice)
    (h:wpAny (model prog w) A (eval value env) (fun o s₁=>wpAny (model prog w) A (eval slice env) (fun i s₂=>s₂.TypeIs o T∧wpAny (model prog w) A (getItem o i) Q E s₂) E s₁) E s) :
    wpAny (model prog w) A (eval (.Subscript value slice pos) env) Q E s:=by
  refine Subscript_ (wpAny_mono h (fun o s₁ h₁=>wpAny_mono h₁ (fun i s₂ h₂=>?_) fun _ _ x=>x) fun _ _ x=>x)
  obtain ⟨hT,h₂⟩:=h₂
  unfold subscriptTail
  refine wpAny_bind ?_
  rw [getitemInPython_of_ne hT.not_modules]
  refine wpAny_bind (wpAny_specialOf hT hl ?_)
  have fin:wpAny (model prog w) A (subscripted slice false o i) (fun r s₃=>wpAny (model prog w) A (letTemporaryGo value o r >>= fun _=>pure r) Q E s₃) E s₂:=by
    rw [hs o i]
    exact wpAny_operating (wpAny_mono h₂ (fun r s₃ h₃=>wpAny_bind (wpAny_letTemporaryGo (wpAny_pure h₃))) fun _ _ x=>x)
  first
    | exact wpAny_pure (wpAny_bind fin)
    | exact wpAny_bind (wpAny_pure (wpAny_bind fin))
    | exact wpAny_bind fin
theorem dict_typeIs {X:Cx} {pins:List (Addr × Obj)} {σ:St} {H:Hp} {s:Shared} {a:Addr} {y:V} {o:Option V} (I:Inv X pins σ H s) (g:DGet H a y o):s.TypeIs (.ref a) "dict":=by
  rcases g with ⟨kvs,k,e,_,_⟩ | ⟨kvs,k,b,e,_,_,_⟩
  · obtain ⟨_,_,vs,_,dd⟩:=dk_rd I.hok e
    exact dd.typeIs
  · obtain ⟨_,_,xs,_,dd⟩:=dt_rd I.hok e
    exact dd.typeIs
def tDGet (td ty:TE):TE:=fun σ H Q=>td σ H fun x H1=>ty σ H1 fun y H2=>∃ a v,x=.ref a∧DGet H2 a y (some v)∧Q v H2
def tDNotIn (ty td:TE):TE:=fun σ H Q=>ty σ H fun y H1=>td σ H1 fun x H2=>∃ a o,x=.ref a∧DGet H2 a y o∧Q (.bl (!o.isSome)) H2
def sDPut (td ty tv:TE):TS:=fun D σ H=>tv σ H fun v H1=>td σ H1 fun x H2=>ty σ H2 fun y H3=>∃ a H4,x=.ref a∧DPut H3 a y v H4∧D.nx σ H4
section
variable {X:Cx} {o i e value:Expr} {pos pos' tpos:Pos} {td ty tv:TE}
theorem pe_dget (hu:X.A.units+1 < cLine) (ho:PE X o td) (hi:PE X i ty) (hs:NoSl i):PE X (.Subscript o i pos) (tDGet td ty):=by
  intro pins s σ H Q I h
  refine subD_of PySem.F.slot_dict_getitem.lookup hs (thn (ho pins s σ H _ I h) fun u s1 ⟨x,H1,I1,rx,q1⟩=>thn (hi pins s1 σ H1 _ I1 q1) fun iv s2 ⟨y,H2,I2,ry,a,v,ex,g,q2⟩=>?_)
  subst ex
  obtain rfl:u=Value.ref a:=rx
  exact ⟨dict_typeIs I2 g,d_getItem hu I2 g ry fun w' s3 I3 rw'=>⟨v,H2,I3,rw',q2⟩⟩
theorem pc_dnotin (hu:X.A.units+1 < cLine) (hi:PE X i ty) (ho:PE X o td):PC X .NotIn i o (tDNotIn ty td):=by
  intro pins s σ H Q I h
  refine thn (hi pins s σ H _ I h) fun iv s1 ⟨y,H1,I1,ry,q1⟩=>thn (ho pins s1 σ H1 _ I1 q1) fun u s2 ⟨x,H2,I2,rx,a,ov,ex,g,q2⟩=>?_
  subst ex
  obtain rfl:u=Value.ref a:=rx
  exact d_notIn hu I2 g ry fun s3 I3=>⟨.bl (!ov.isSome),H2,I3,rfl,q2⟩
theorem ps_dput (hu:X.A.units+1 < cLine) (ho:PE X o td) (hi:PE X i ty) (hv:PE X value tv) (hs:swapsWith value (some (.Subscript o i pos')) pos.line X.env=pure false) :
    PS X (.Assign [.Subscript o i pos'] value pos) (sDPut td ty tv):=by
  intro pins s σ H D I h
  refine wpAny_Assign_Subscript (thn (hv pins s σ H _ I h) fun r s1 ⟨v,H1,I1,rv,q1⟩=>thn (ho pins s1 σ H1 _ I1 q1) fun u s2 ⟨x,H2,I2,rx,q2⟩=>thn (hi pins s2 σ H2 _ I2 q2) fun iv s3 ⟨y,H3,I3,ry,a,H4,ex,g,q3⟩=>?_) hs
  subst ex
  obtain rfl:u=Value.ref a:=rx
  exact d_setItem hu I3 g ry rv fun s4 I4=>⟨σ,H4,I4,q3⟩
end
theorem dk_empty {P:Program} {w:World} {H:Hp} (h:Heap) (hb:sysModules < h.objs.size):ObjOk P w H (h.push { cls:=.type "dict",data:=.dict #[] }) h.objs.size (.dK []) :=
  ⟨Nat.zero_le _,beq_eq_false_iff_ne.mpr (Ne.symm (Nat.ne_of_lt hb)),[],.nil,Heap.DictOf.new h⟩
def tDNewK:TE:=fun _ H Q=>∀ p,H p=none→Q (.ref p) (upd H p (.dK []))
section
variable {X:Cx} {pos:Pos}
theorem pe_dnewK:PE X (.Dict [] [] pos) tDNewK:=fun pins s σ H Q I h =>
  wpAny_Dict_empty ⟨.ref s.heap.objs.size,_,I.laid (a:=s.heap.objs.size) (o:=.dK []) (t':=s.toks) (fun _ _ q=>Heap.get?_push_of_some _ q) (Nat.le_refl _) (dk_empty s.heap I.big),rfl,h _ (I.hok.fresh (Nat.le_refl _))⟩
end
structure M1 (X:Cx) (o:Expr) (m:Str) (apos:Pos) (e:Expr) (cpos:Pos):Prop where
  base:attributeBase o m X.env (eval o X.env)=eval o X.env
  few:((backTo cpos (starEach [e] X.env)).all (fun x=>!x.1) && (backToKw cpos (keywordEach [] X.env)).all (fun x=>x.1.isSome)
    && decide (([e]:List Expr).length+([]:List Keyword).length+(if ([]:List Keyword).isEmpty then 0 else 1) < 30))=true
  line:(apos.endLine == cpos.line)=true
  trees:backTo cpos (starEach [e] X.env)=[(false,eval e X.env)]
structure M2 (X:Cx) (o:Expr) (m:Str) (apos:Pos) (e f:Expr) (cpos:Pos):Prop where
  base:attributeBase o m X.env (eval o X.env)=eval o X.env
  few:((backTo cpos (starEach [e,f] X.env)).all (fun x=>!x.1) && (backToKw cpos (keywordEach [] X.env)).all (fun x=>x.1.isSome)
    && decide (([e,f]:List Expr).length+([]:List Keyword).length+(if ([]:List Keyword).isEmpty then 0 else 1) < 30))=true
  line:(apos.endLine == cpos.line)=true
  trees:backTo cpos (starEach [e,f] X.env)=[(false,eval e X.env),(false,eval f X.env)]
section
variable {X:Cx} {pins:List (Addr × Obj)} {σ:St} {H:Hp} {s:Shared} {a:Addr} {y d:V} {u r:Value} {o:Option V} {A:Around} {E:Value→Shared→Prop}
end
section
variable {X:Cx} {o e f:Expr} {apos cpos:Pos} {td ty tx:TE}
end
section
variable {X:Cx} {pins:List (Addr × Obj)} {σ:St} {H:Hp} {s:Shared} {a:Addr} {kvs:List (Key × V)} {A:Around} {E:Value→Shared→Prop}
end
section
variable {X:Cx} {pins:List (Addr × Obj)} {σ:St} {H:Hp} {s:Shared} {a:Addr} {y:V} {u:Value} {A:Around} {E:Value→Shared→Prop}
end
end L2
namespace Att
open PySem PySem.W PySem.Calls PyProof.Rows
theorem ints_of_wellAll {P:Params} {h:Heap}:∀ (ns:List Int) (vs:List Value),WellAll P h vs (ns.map WData.int)→IntsAre vs ns:=by
  intro ns
  induction ns with
  | nil =>
    intro vs w
    rw [List.map_nil] at w
    cases w
    exact .nil
  | cons n ns ih =>
    intro vs w
    rw [List.map_cons] at w
    cases w with
    | cons a b =>
      cases a
      exact .cons _ _ (ih _ b)
theorem script_of {l:OpenLaw} {n:Nat} (hn:l.most=some n) {P:Params} {h:Heap} {args:List WData} {vals:List Value}
    (hpre:l.row.toRowW.claim.pre args=true) (hwl:WellAll P h vals args) :
    ∃ a vs ns,vals=[Value.ref a]∧args=[WData.list (ns.map WData.int)]∧h.get? a=some { cls:=.type "list",data:=.seq vs.toArray }∧IntsAre vs ns∧ns.length≤n:=by
  have hsh:WShape.hasAll [] args [.list .int]=true:=(pre_splitW hpre).1
  have hc:l.pre.holds [] { args:=args }=true:=(pre_splitW hpre).2
  obtain ⟨d,r,rfl,h1,h2⟩:=hasAllW_cons hsh
  obtain rfl:=hasAllW_nil h2
  obtain ⟨xs,rfl,h3⟩:=hasW_list h1
  obtain ⟨ns,rfl⟩:=items_int h3
  have hlen:ns.length≤n:=by
    unfold OpenLaw.pre at hc
    have h4:(WTm.not (.lt (.lit (.int (n:Int))) (.len (.arg 0)))).holds [] { args:=[.list (ns.map .int)] }=true:=by
      have h4:=(holds_andW hc).1
      rw [hn] at h4
      exact h4
    have h5:=condW_of h4 (w_not (w_lt w_lit (w_len_list (w_arg rfl))))
    rw [List.length_map] at h5
    refine Nat.le_of_not_lt fun q=>?_
    have q':(n:Int) < ((ns.length:Nat):Int):=by omega
    first
      | (rw [decide_eq_true q'] at h5;exact absurd h5 (by decide))
      | (simp at h5;omega)
  cases hwl with
  | cons w1 w2 =>
    cases w2
    cases w1 with
    | list ho hall=>exact ⟨_,_,ns,rfl,rfl,ho,ints_of_wellAll ns _ hall,hlen⟩
theorem post_true (l:OpenLaw) (args:List WData):l.row.toRowW.claim.post args (.bool true) args=true :=
  postW_of (r:=l.row.toRowW) (X:=(true == true))
    (show WShape.has [] (.bool true) .bool=true by first | rfl | decide | simp [WShape.has,WShape.arms,WShape.armsAll])
    (show (WTm.eq .res (.lit (.bool true))).value [] { args:=args,res:=some (.bool true),after:=args }=some (.bool (true == true)) from w_eq_bool (w_res rfl) w_lit) rfl
theorem attach_call {l:OpenLaw} {n:Nat} {q:Program} {loose:List Str} {XP:(Str→Option Value)→Heap→Prop} {YP:World→Heap→Prop} {d:DefRec}
    (hn:l.most=some n) (hdf:d.params.defaults=[])
    (call:∀ (w:World) (s₀ s₁:Shared) (mg mb:Str→Option Value) (fa:Addr) (o:Obj) (pm cd doc:Value) (a:Addr) (vs:List Value) (ns:List Int),
      Ground q loose [] XP w s₀ mg mb s₁.heap→YP w s₁.heap →
      s₁.heap.get? fa=some o→o.data=.func (docDef d.name d.params d.body d.scope pm cd doc)→s₁.heap.CodeRec cd d.name→mg d.name=some (.ref fa) →
      s₁.heap.get? a=some { cls:=.type "list",data:=.seq vs.toArray }→IntsAre vs ns→ns.length≤n→s₁.gens = #[] →
      codeAny (model l.prog w) callerA (.call (.ref fa) ⟨[.ref a],[]⟩) (fun r s'=>r=.ok (.ret (.bool true))∧OldK s₁.heap s'.heap∧s'.os=s₁.os∧AllBare s'.gens) s₁) :
    WalkO q loose XP YP l.row.toRowW d [] (fun f vs=>PySem.call f vs):=by
  intro w s₀ s₁ mg mb G Y fa o pm cd doc dV kV ho hd hcd hD hmg hg args vals as hpre hlay hrd hwl hlo
  obtain rfl:dV=.none:=Dflts.none hD hdf
  obtain rfl:kV=.none:=Dflts.noKw hD
  obtain ⟨a,vs,ns,rfl,rfl,hobj,hints,hlen⟩:=script_of hn hpre hwl
  refine enter_call (codeAny_mono (call w s₀ s₁ mg mb fa o pm cd doc a vs ns G Y ho (fd_plain hd) hcd hmg hobj hints hlen hg) fun r s' hq=>?_)
  obtain ⟨rfl,h2,h3,h4⟩:=hq
  exact ⟨.inl ⟨.bool true,.bool true,[],rfl,fun _=>rfl,.bool true,post_true l _,fun _=>⟨List.Pairwise.nil,fun _ hm=>(nomatch hm)⟩⟩,h2,h3,h4⟩
section
variable {prog:Program} {w:World} {A:Around} {E:Value→Shared→Prop} {s:Shared} {K:Frag}
def ledger (h:Heap) (L d:Addr):List (Addr × Obj):=(List.range h.objs.size).filterMap fun a=>if a=L∨a=d then none else (h.get? a).map fun o=>(a,o)
end
end Att
namespace L2
open PySem PySem.Spec PyProof.Rows
theorem vals_ints:∀ {vs:List Value} {ns:List Int},IntsAre vs ns→Vals (ns.map V.int) vs
  | _,_,.nil=>.nil
  | _,_,.cons n t h=>.cons ⟨t,rfl⟩ (vals_ints h)
def Only (H:Hp):Prop:=∀ b,H b=none∨∃ o xs,H b=some (.frz o (.lst xs))
theorem law_call {P:Program} {w:World} {K:PySem.W.Frag} {mg mb:Str→Option Value} {CX:CXT} {k:Nat} {fa a:Addr} {fd:FuncData} {x:Str} {sp:Sp} {s₁:Shared} {vs:List Value} {ns:List Int}
    (KX:K.In s₁.heap) (hns:s₁.heap.Ns mainGlobals mg) (hb:s₁.heap.Ns builtinsNs mb) (hbb:∀ x:Str,x≠"__name__"→mb x=bootBuiltins x) (hlim:s₁.heap.NoLimit) (hg:s₁.gens = #[])
    (ha:s₁.heap.get? a=some { cls:=.type "list",data:=.seq vs.toArray }) (hi:IntsAre vs ns) (hl:ns.length≤sizeLine) (hr:Room k callerA)
    (F:∀ base:Heap,K.In base→base.Ns mainGlobals mg→FnOk P w K mg base CX k fa fd [x] sp) (hbind:∀ (s:Shared) (u:Value),BindsTo s fd ⟨[u],[]⟩ [(x,u)])
    (hsp:∀ H:Hp,Only H→SqL K H a (ns.map V.int)→sp [.ref a] H (fun v _=>v=.bl true) fun _ _ _=>False)
    (hCX:∀ H e s',CX [] H s₁ (fun _ _ _=>False) e s'→False) :
    codeAny (model P w) callerA (.call (.ref fa) ⟨[.ref a],[]⟩) (fun r s'=>r=.ok (.ret (.bool true))∧OldK s₁.heap s'.heap∧s'.os=s₁.os∧AllBare s'.gens) s₁:=by
  have rv:=vals_ints hi
  have lenV:=hi.length
  -- from an abstract heap in which nothing but the script may be tracked
  have core:∀ H:Hp,Only H→SqL K H a (ns.map V.int)→HOk P w H s₁.heap→(∀ b,H b≠none→b=a)→(H a≠none→K.lookup a=none) →
      codeAny (model P w) callerA (.call (.ref fa) ⟨[.ref a],[]⟩) (fun r s'=>r=.ok (.ret (.bool true))∧OldK s₁.heap s'.heap∧s'.os=s₁.os∧AllBare s'.gens) s₁:=by
    intro H hO hS hok hA hK
    have base_of:∀ {b:Addr} {o:Obj},s₁.heap.get? b=some o→H b=none→(hidT s₁.heap H).get? b=some o:=fun e n=>hidT_get e n
    have noA:∀ {b:Addr} {o:Obj} {es:Array DictEntry} {ep:Nat},s₁.heap.get? b=some o→o.data=.dict es ep→H b=none:=fun {b o es ep} e d=>by
      cases q:H b with
      | none=>rfl
      | some u =>
        have e':b=a:=hA b (by rw [q];simp)
        subst e'
        rw [ha] at e;cases e
        have d':Data.seq vs.toArray _=Data.dict es ep:=d
        cases d'
    have nsK:∀ {b:Addr} {m:Str→Option Value},s₁.heap.Ns b m→(hidT s₁.heap H).Ns b m:=fun {b m} ⟨o,es,ep,e,d,r⟩=>⟨o,es,ep,base_of e (noA e d),d,r⟩
    have hKb:K.In (hidT s₁.heap H):=fun b o e=>base_of (KX b o e) (by
      cases q:H b with
      | none=>rfl
      | some u =>
        have e':b=a:=hA b (by rw [q];simp)
        subst e'
        rw [hK (by rw [q];simp)] at e;cases e)
    have hM:Mod K mg (hidT s₁.heap H):=⟨hKb,nsK hns,⟨mb,nsK hb,hbb⟩,let ⟨mc,h1,h2⟩:=hlim;⟨mc,nsK h1,h2⟩⟩
    have e0:Env0 P w K mg (hidT s₁.heap H) callerA [] s₁ H:=⟨rfl,hM,fun b o e=>of_hidT e,Nat.le_of_eq (hidT_size _ _),trivial,fun b hb=>absurd (show b∈([]:List Addr) from hb) (by simp),hok,.of_eq hg⟩
    refine codeAny_mono ((F _ hKb (nsK hns)).run callerA [] s₁ H ⟨[.ref a],[]⟩ [.ref a] [.ref a] _ _ hr e0 (hbind s₁ (.ref a)) (.cons rfl .nil) (hsp H hO hS)) fun r s' h=>?_
    cases r with
    | error e=>exact (hCX H e s' h).elim
    | ok fl =>
      cases fl with
      | next=>exact False.elim h
      | brk=>exact False.elim h
      | cont=>exact False.elim h
      | ret u =>
        obtain ⟨v,H',os,bare,un,hok',r',q⟩:=h
        have q':v=.bl true:=q
        subst q'
        obtain rfl:u=Value.bool true:=r'
        refine ⟨rfl,OldK.of_keep fun b o e=>?_,os,bare⟩
        cases q:H b with
        | none=>exact un.keep b o e q (by intro z;exact absurd (show b∈([]:List Addr) from z) (by simp)) (by simp)
        | some u =>
          rcases hO b with z | ⟨ob,xs,z⟩
          · rw [q] at z;cases z
          · have z2:=un.frzs b ob _ z
            obtain ⟨e1,_⟩:=hok b _ z
            obtain ⟨e2,_⟩:=hok' b _ z2
            rw [e] at e1;cases e1
            exact e2
  cases hk:K.lookup a with
  | some o =>
    -- the script is one of the module's own objects
    have e:=KX a o hk
    rw [ha] at e
    cases e
    refine core (fun _=>none) (fun _=>.inl rfl) (.inr ⟨_,vs.toArray,_,hk,rfl,rfl,rfl,by rw [List.size_toArray,lenV];exact hl,by simpa using rv⟩) (fun b u z=>by have z':(none:Option HO)=some u:=z;cases z') (fun b z=>absurd rfl z) fun z=>absurd rfl z
  | none =>
    refine core (fun b=>if b=a then some (.frz { cls:=.type "list",data:=.seq vs.toArray } (.lst (ns.map V.int))) else none) (fun b=>?_) (.inl (.inr ⟨{ cls:=.type "list",data:=.seq vs.toArray },if_pos rfl⟩)) (fun b u z=>?_) (fun b z=>?_) fun _=>hk
    · by_cases hb:b=a
      · exact .inr ⟨_,_,if_pos hb⟩
      · exact .inl (if_neg hb)
    · by_cases hb:b=a
      · have z':=(if_pos hb).symm.trans z
        cases z'
        subst hb
        exact ⟨ha,by rw [List.length_map];exact hl,vs,_,rv,ha⟩
      · have z':=(if_neg hb).symm.trans z
        cases z'
    · by_cases hb:b=a
      · exact hb
      · exact absurd (if_neg hb) z
end L2
namespace L2
open PySem PySem.Spec PyProof.Rows
theorem walk_of {l:PySem.W.OpenLaw} {n k:Nat} {q:Program} {loose:List Str} {XP:(Str→Option Value)→Heap→Prop} {YP:World→Heap→Prop} {d:DefRec} {K:Params→PySem.W.Frag} {CX:World→CXT} {sp:World→Sp} {x:Str}
    (hn:l.most=some n) (hn2:n≤sizeLine) (hdf:d.params.defaults=[]) (hr:Room k callerA)
    (hY:∀ (w:World) (h:Heap),YP w h→(K w.params).In h)
    (F : ∀ (w:World) (mg:Str→Option Value) (fa:Addr) (h:Heap),(K w.params).In h→h.Ns mainGlobals mg→mg d.name=some (.ref fa) →
      ∃ fd:FuncData,(∀ (s:Shared) (u:Value),BindsTo s fd ⟨[u],[]⟩ [(x,u)]) ∧
        ∀ base:Heap,(K w.params).In base→base.Ns mainGlobals mg→FnOk l.prog w (K w.params) mg base (CX w) k fa fd [x] (sp w))
    (hsp:∀ (w:World) (H:Hp) (a:Addr) (ns:List Int),ns.length≤n→Only H→SqL (K w.params) H a (ns.map V.int)→sp w [.ref a] H (fun v _=>v=.bl true) fun _ _ _=>False)
    (hCX:∀ (w:World) (H:Hp) (s:Shared) (e:Value) (s':Shared),CX w [] H s (fun _ _ _=>False) e s'→False) :
    PySem.W.WalkO q loose XP YP l.row.toRowW d [] (fun f vs=>PySem.call f vs):=by
  refine Att.attach_call hn hdf fun w s₀ s₁ mg mb fa o pm cd doc a vs ns G Y ho hd hcd hmg hobj hints hlen hg=>?_
  have KX:=hY w _ Y
  obtain ⟨fd,hb,hF⟩:=F w mg fa _ KX G.T.g hmg
  exact law_call KX G.T.g G.T.b G.T.builtins G.T.nolimit hg hobj hints (Nat.le_trans hlen hn2) hr hF hb (fun H hO hS=>hsp w H a ns hlen hO hS) fun H e s'=>hCX w H s₁ e s'
end L2
namespace L2
open PySem PySem.Spec PyProof.Rows
def defArgs (s:Stmt):Arguments:=match s with
  | .FunctionDef _ a _ _ _ _ _ _ _ _=>a
  | _=>{ posonlyargs:=[],args:=[],vararg:=none,kwonlyargs:=[],kw_defaults:=[],kwarg:=none,defaults:=[] }
def defBody (s:Stmt):List Stmt:=match s with
  | .FunctionDef _ _ b _ _ _ _ _ _ _=>b
  | _=>[]
def defScope (s:Stmt):Scope:=match s with
  | .FunctionDef _ _ _ _ _ _ sc _ _ _=>sc
  | _=>{ kind:=.function,names:=[],isGenerator:=false,isCoroutine:=false }
abbrev CX0:CXT:=fun _ _ _ _ _ _=>False
abbrev E0:XK:=fun _ _ _=>False
theorem pass0 {X:Cx}:Passes CX0 X E0:=fun _ _ _ _ _ _ _ h=>h.elim
structure Fun (K:PySem.W.Frag) (x qual:Str) (st:Stmt) (f:Addr) (fd:FuncData):Prop where
  ex : ∃ (oc:Value) (od:Option Addr) (kV doc pm:Value) (an:Option Addr) (cdv ct:Value) (osl:Array (Option Value)),
    fd=PySem.W.fnOf x qual (defArgs st) (defBody st) (defScope st) .none kV doc pm an cdv ct∧K.lookup f=some ⟨oc,od,.func fd,osl⟩∧PySem.W.codeIn K cdv qual=true
  kp:PySem.W.keepIn K (.ref f)=true
section
variable {P:Program} {w:World} {K:PySem.W.Frag} {mg:Str→Option Value} {base:Heap}
theorem Fun.ok {x qual:Str} {st:Stmt} {f:Addr} {fd:FuncData} {N ps:List Str} {k:Nat} {sp:Sp} (F:Fun K x qual st f fd) (S:FnScope N ps (defScope st)) (len:∀ vs H Q E,sp vs H Q E→vs.length=ps.length)
    (hbody:∀ (cdv:Value) (A:Around) (outer:List Env) (s:Shared) (H:Hp) (vs:List V) (Q:VK) (E:XK),Room k (A.deeper (envOfC qual (defScope st) s.heap.objs.size f cdv))→sp vs H Q E →
      ∃ t,PSs (cxOf CX0 P w K mg base N qual (defScope st) f cdv A outer s H E).nox (defBody st) t∧t { nx:=fun _ H'=>Q .non H',rt:=Q } (start N vs) H):FnOk P w K mg base CX0 (k+1) f fd ps sp:=by
  obtain ⟨oc,od,kV,doc,pm,an,cdv,ct,osl,rfl,lk,hcd⟩:=F.ex
  refine fn_of lk hcd S len fun A outer s H vs Q E hr hsp=>?_
  obtain ⟨t,h,q⟩:=hbody cdv A outer s H vs Q E hr hsp
  exact ⟨t,h.nox,q⟩
theorem Fun.binds {x qual:Str} {st:Stmt} {f:Addr} {fd:FuncData} {ps:List Str} (F:Fun K x qual st f fd)
    (h:∀ (kV doc pm:Value) (an:Option Addr) (cdv ct:Value) (us:List Value),us.length=ps.length→bindArgs (PySem.W.fnOf x qual (defArgs st) (defBody st) (defScope st) .none kV doc pm an cdv ct) ⟨us,[]⟩=pure (ps.zip us)):Binds K fd ps []:=by
  obtain ⟨oc,od,kV,doc,pm,an,cdv,ct,osl,rfl,lk,hcd⟩:=F.ex
  exact .all (h kV doc pm an cdv ct)
theorem fun_mk {x qual:Str} {st:Stmt} {f:Addr} {oc:Value} {od an:Option Addr} {osl:Array (Option Value)} {kV doc pm cdv ct:Value} (l:K.lookup f=some ⟨oc,od,.func (PySem.W.fnOf x qual (defArgs st) (defBody st) (defScope st) .none kV doc pm an cdv ct),osl⟩)
    (c:PySem.W.codeIn K cdv qual=true) (k:PySem.W.keepIn K (.ref f)=true):Fun K x qual st f (PySem.W.fnOf x qual (defArgs st) (defBody st) (defScope st) .none kV doc pm an cdv ct):=⟨⟨oc,od,kV,doc,pm,an,cdv,ct,osl,rfl,l,c⟩,k⟩
end
theorem hu_of {A:Around} {k:Nat} (hr:Room k A):A.units+1 < cLine:=Nat.lt_of_le_of_lt (Nat.add_le_add_left (by decide:1≤64) _) hr.units
theorem small1000 {n:Nat} (h:n≤1000):n < sizeLine:=Nat.lt_of_le_of_lt h (by decide)
section
variable {X:Cx}
theorem pv (i:Nat) {x:Str} {pos:Pos} (hN:X.N[i]? = some x:=by rfl) (hv:Vis X.env.scope x:=by first | exact Or.inl rfl | exact Or.inr (Or.inl rfl) | exact Or.inr (Or.inr rfl)) (hd:(x == ("__debug__" : Str))=false:=by decide)
    (hcd:(x == ("__classdict__" : Str))=false:=by decide):PE X (.Name x pos) (tVar i):=pe_var hN hv hd hcd
end
theorem iteF {A B:Prop} (h:B):if false=true then A else B:=by
  rw [if_neg Bool.false_ne_true]
  exact h
theorem iteT {A B:Prop} (h:A):if true=true then A else B:=by
  rw [if_pos rfl]
  exact h
theorem ite2 {c A B:Prop} [Decidable c] (h1:c→A) (h2:¬ c→B):if c then A else B:=by
  by_cases h:c
  · rw [if_pos h]
    exact h1 h
  · rw [if_neg h]
    exact h2 h
def Same (H H':Hp):Prop:=∀ b o,H b=some o→H' b=some o
theorem Same.refl (H:Hp):Same H H:=fun _ _ h=>h
theorem Same.trans {H H1 H2:Hp} (a:Same H H1) (b:Same H1 H2):Same H H2:=fun c o h=>b c o (a c o h)
theorem Same.free {H H':Hp} (e:Same H H') {l:Addr} (h:H' l=Option.none):H l=Option.none:=by
  cases q:H l with
  | none=>rfl
  | some o =>
    rw [e l o q] at h
    cases h
theorem Same.seq {K:PySem.W.Frag} {H H':Hp} {a:Addr} {xs:List V} (e:Same H H') (h:SqL K H a xs):SqL K H' a xs:=by
  rcases h with (h | ⟨o,h⟩) | h
  · exact .inl (.inl (e _ _ h))
  · exact .inl (.inr ⟨o,e _ _ h⟩)
  · exact .inr h
section
variable {X:Cx}
theorem call_lenD:CallR X (.builtin "len") (fun xs H Q=>∃ a kvs,xs=[V.ref a]∧H a=some (.dK kvs)∧Q (.int kvs.length) H):=by
  intro pins s σ H xs us Q I r h
  obtain ⟨a,kvs,rfl,ha,q⟩:=h
  obtain ⟨u,rfl,ru⟩:=vals1 r
  cases ru
  exact d_len I (.inl ha) fun t s' I'=>⟨.int kvs.length,H,I',⟨t,rfl⟩,q⟩
end
section
variable {κ:Type} [DecidableEq κ]
theorem nd_snoc:∀ {l:List κ} {k:κ},l.Nodup→¬ k∈l→(l++[k]).Nodup
  | [],k,_,_=>by simp
  | a :: r,k,h,hk=>by
    obtain ⟨h1,h2⟩:=List.nodup_cons.mp h
    show (a :: (r++[k])).Nodup
    refine List.nodup_cons.mpr ⟨fun m=>?_,nd_snoc h2 fun m=>hk (List.mem_cons.mpr (Or.inr m))⟩
    rcases List.mem_append.mp m with q | q
    · exact h1 q
    · exact hk (List.mem_cons.mpr (Or.inl (List.mem_singleton.mp q).symm))
end
end L2
namespace L2
open PySem PySem.Spec PyProof.Rows
theorem closure_go {env:Env} (f:Str × NameKind→List (Str × Addr)→Sem (ForInStep (List (Str × Addr))))
    (hf:∀ name kind cs,f (name,kind) cs=if kind == .free then (do let a ← cellOf env name;pure (.yield ((name,a) :: cs))) else pure (.yield cs)) :
    ∀ (names:List (Str × NameKind)) (acc:List (Str × Addr)),(∀ p∈names,p.2=.free→∃ c,env.cells.lookup p.1=some c) →
      (∀ x c,acc.lookup x=some c→env.cells.lookup x=some c) →
      ∃ cl,(forIn names acc f:Sem _)=pure cl∧(∀ x c,cl.lookup x=some c→env.cells.lookup x=some c)∧(∀ p∈names,p.2=.free→(cl.lookup p.1).isSome=true)∧(∀ x,(acc.lookup x).isSome=true→(cl.lookup x).isSome=true)
  | [],acc,_,ha=>⟨acc,by rw [List.forIn_nil],ha,(fun _ h=>by cases h),fun _ h=>h⟩
  | (n,k) :: r,acc,hn,ha=>by
    rw [List.forIn_cons,hf]
    by_cases hk:k=.free
    · subst hk
      obtain ⟨c,hc⟩:=hn (n,.free) List.mem_cons_self rfl
      obtain ⟨cl,e,h1,h2,h3⟩:=closure_go f hf r ((n,c) :: acc) (fun p hp=>hn p (List.mem_cons_of_mem _ hp)) (fun x d hx=>by
        rw [List.lookup_cons] at hx
        cases hb:x == n with
        | true=>rw [hb] at hx;cases hx;rw [beq_iff_eq.mp hb];exact hc
        | false=>rw [hb] at hx;exact ha x d hx)
      refine ⟨cl,?_,h1,fun p hp hpf=>?_,fun x hx=>h3 x ?_⟩
      · have ec:cellOf env n=pure c:=by unfold cellOf;rw [hc]
        rw [if_pos (by rfl),ec]
        simpa using e
      · rcases List.mem_cons.mp hp with z | z
        · subst z;exact h3 n (by rw [List.lookup_cons];simp)
        · exact h2 p z hpf
      · rw [List.lookup_cons]
        cases hb:x == n with
        | true=>rfl
        | false=>exact hx
    · obtain ⟨cl,e,h1,h2,h3⟩:=closure_go f hf r acc (fun p hp=>hn p (List.mem_cons_of_mem _ hp)) ha
      refine ⟨cl,?_,h1,fun p hp hpf=>?_,h3⟩
      · have hb:(k == NameKind.free)=false:=by simpa using hk
        rw [hb]
        simpa using e
      · rcases List.mem_cons.mp hp with z | z
        · subst z;exact absurd hpf hk
        · exact h2 p z hpf
theorem closure_ok {env:Env} {scope:Scope} (h:∀ p∈scope.names,p.2=.free→∃ c,env.cells.lookup p.1=some c) :
    ∃ cl,closureFor scope env=pure cl∧(∀ x c,cl.lookup x=some c→env.cells.lookup x=some c)∧(∀ p∈scope.names,p.2=.free→(cl.lookup p.1).isSome=true):=by
  unfold closureFor
  obtain ⟨cl,e,h1,h2,_⟩:=closure_go (env:=env) (fun x r=>match x,r with
    | (name,kind),cs=>if kind == .free then (do let a ← cellOf env name;pure (.yield ((name,a) :: cs))) else pure (.yield cs)) (fun _ _ _=>rfl) scope.names [] h (fun _ _ z=>nomatch z)
  refine ⟨cl,?_,h1,h2⟩
  have e':=congrArg (fun t:Sem (List (Str × Addr))=>t >>= fun cs=>pure cs) e
  first
    | simpa using e'
    | (simp only [pure_bind,bind_pure] at e' ⊢;exact e')
theorem cells_inj:∀ (names:List (Str × NameKind)) (n:Nat) (acc:List (Str × Addr)),(∀ (x y:Str) (c:Nat),acc.lookup x=some c→acc.lookup y=some c→x=y)→(∀ (x:Str) (c:Nat),acc.lookup x=some c→c < n) →
    (∀ (x y:Str) (c:Nat),(cellsFrom n names acc).lookup x=some c→(cellsFrom n names acc).lookup y=some c→x=y)∧(∀ (x:Str) (c:Nat),(cellsFrom n names acc).lookup x=some c→acc.lookup x=some c∨n≤c)
  | [],n,acc,h,hl=>⟨h,fun _ _ z=>.inl z⟩
  | (nm,k) :: r,n,acc,h,hl=>by
    unfold cellsFrom
    split
    · have lt:∀ (x:Str) (c:Nat),List.lookup x ((nm,n) :: acc)=some c→(x=nm∧c=n)∨(x≠nm∧acc.lookup x=some c):=fun x c e=>by
        rw [List.lookup_cons] at e
        cases hb:x == nm with
        | true=>rw [hb] at e;cases e;exact .inl ⟨beq_iff_eq.mp hb,rfl⟩
        | false=>rw [hb] at e;exact .inr ⟨by simpa using hb,e⟩
      obtain ⟨a,b⟩:=cells_inj r (n+1) ((nm,n) :: acc) (fun x y c e1 e2=>by
        rcases lt x c e1 with ⟨z1,z2⟩ | ⟨z1,z2⟩ <;> rcases lt y c e2 with ⟨w1,w2⟩ | ⟨w1,w2⟩
        · rw [z1,w1]
        · have:=hl y c w2;omega
        · have:=hl x c z2;omega
        · exact h x y c z2 w2) (fun x c e=>by
        rcases lt x c e with ⟨z1,z2⟩ | ⟨z1,z2⟩
        · omega
        · have:=hl x c z2;omega)
      refine ⟨a,fun x c e=>?_⟩
      rcases b x c e with z | z
      · rcases lt x c z with ⟨z1,z2⟩ | ⟨z1,z2⟩
        · exact .inr (by omega)
        · exact .inl z2
      · exact .inr (by omega)
    · exact cells_inj r n acc h hl
theorem cells_out {x:Str}:∀ (names:List (Str × NameKind)) (n:Nat) (acc:List (Str × Addr)),(∀ p∈names,p.1=x→p.2≠.cell)→(cellsFrom n names acc).lookup x=acc.lookup x
  | [],_,_,_=>rfl
  | (nm,k) :: r,n,acc,h=>by
    unfold cellsFrom
    split
    · rename_i hk
      have hk':k=.cell:=by simpa using hk
      have ne:x≠nm:=fun e=>h (nm,k) List.mem_cons_self e.symm hk'
      rw [cells_out r (n+1) ((nm,n) :: acc) fun p hp=>h p (List.mem_cons_of_mem _ hp),List.lookup_cons]
      have:(x == nm)=false:=by simpa using ne
      rw [this]
    · exact cells_out r n acc fun p hp=>h p (List.mem_cons_of_mem _ hp)
theorem own_keep {x:Str} {c:Nat}:∀ (names:List (Str × NameKind)) (n:Nat) (acc:List (Str × Addr)) (d:Nat),acc.lookup x=some d→d≤n→(cellsFrom n names acc).lookup x=some c→d≤c
  | [],_,_,_,h,_,e=>by
    have e':_=some c:=e
    unfold cellsFrom at e'
    rw [h] at e';cases e';exact Nat.le_refl _
  | (nm,k) :: r,n,acc,d,h,hd,e=>by
    unfold cellsFrom at e
    split at e
    · cases hb:x == nm with
      | true =>
        have:=own_keep r (n+1) ((nm,n) :: acc) n (by rw [List.lookup_cons,hb]) (Nat.le_succ _) e
        omega
      | false=>exact own_keep r (n+1) ((nm,n) :: acc) d (by rw [List.lookup_cons,hb];exact h) (Nat.le_succ_of_le hd) e
    · exact own_keep r n acc d h hd e
theorem own_new {x:Str} {c:Nat}:∀ (names:List (Str × NameKind)) (n:Nat) (acc:List (Str × Addr)),(∀ (y:Str) (d:Nat),acc.lookup y=some d→d < n)→names.lookup x=some .cell→(cellsFrom n names acc).lookup x=some c→n≤c
  | [],_,_,_,h,_=>by cases h
  | (nm,k) :: r,n,acc,ha,h,e=>by
    rw [List.lookup_cons] at h
    unfold cellsFrom at e
    cases hb:x == nm with
    | true =>
      rw [hb] at h
      cases h
      rw [if_pos (by rfl)] at e
      by_cases hr:r.lookup x=some .cell
      · have:=own_new r (n+1) ((nm,n) :: acc) (fun y d z=>by
          rw [List.lookup_cons] at z
          cases hy:y == nm with
          | true=>rw [hy] at z;cases z;omega
          | false=>rw [hy] at z;have:=ha y d z;omega) hr e
        omega
      · exact own_keep r (n+1) ((nm,n) :: acc) n (by rw [List.lookup_cons,hb]) (Nat.le_succ _) e
    | false =>
      rw [hb] at h
      split at e
      · have:=own_new r (n+1) ((nm,n) :: acc) (fun y d z=>by
          rw [List.lookup_cons] at z
          cases hy:y == nm with
          | true=>rw [hy] at z;cases z;omega
          | false=>rw [hy] at z;have:=ha y d z;omega) h e
        omega
      · exact own_new r n acc ha h e
theorem cells_are:∀ (names:List (Str × NameKind)) (h:Heap) (acc:List (Str × Addr)) (x:Str) (c:Addr),(∀ x c,acc.lookup x=some c→∃ v,h.IsCell c v)→(cellsFrom h.objs.size names acc).lookup x=some c→∃ v,(pushCells h names).IsCell c v
  | [],h,acc,x,c,ha,e=>ha x c e
  | (nm,k) :: r,h,acc,x,c,ha,e=>by
    unfold cellsFrom at e
    unfold pushCells
    split at e
    · rename_i hk
      rw [if_pos hk]
      refine cells_are r (h.push { cls:=.type "cell",data:=.cell none }) ((nm,h.objs.size) :: acc) x c (fun y d z=>?_) (by rw [Heap.size_push];exact e)
      rw [List.lookup_cons] at z
      cases hb:y == nm with
      | true=>rw [hb] at z;cases z;exact ⟨none,_,Heap.get?_push_size _ rfl,rfl⟩
      | false =>
        rw [hb] at z
        obtain ⟨v,q⟩:=ha y d z
        exact ⟨v,q.keeps fun b o e=>Heap.get?_push_of_some _ e⟩
    · rename_i hk
      rw [if_neg hk]
      exact cells_are r h acc x c ha e
end L2
namespace L2
open PySem PySem.Spec PyProof.Rows
section
variable {prog:Program} {w:World} {A:Around} {E:Value→Shared→Prop} {R:Result→Shared→Prop} {s:Shared}
theorem compLoop_go {elt target iter:Expr} {ifs:List Expr} {scope:Scope} {pos:Pos} {it acc:Value} {env:Env} (I:Nat→Shared→Prop)
    (turn:∀ n s,I n s→wpAny (model prog w) A (pyNext it) (fun r s₁=>match r with
      | none=>R (.ok .next) s₁
      | some v=>wpAny (model prog w) A (letOwnedTupleGo target it v) (fun _ s₁=>wpAny (model prog w) A (assign target env v) (fun _ s₂ =>
          wpAny (model prog w) A (forIn ifs true fun c r=>if r=true then do let ok ← isTrue c env (eval c env);pure (ForInStep.yield ok) else pure (ForInStep.yield r)) (fun ok s₃ =>
            if ok=true then wpAny (model prog w) A (eval elt env) (fun x s₄ =>
              wpAny (model prog w) A (call (.builtin "list.append") [acc,x]) (fun _ s₅=>∃ m,m < n∧I m s₅) (fun _ _=>False) s₄) (fun _ _=>False) s₃
            else ∃ m,m < n∧I m s₃) (fun _ _=>False) s₂) (fun _ _=>False) s₁) (fun _ _=>False) s₁) (fun _ _=>False) s)
    (n:Nat) (h:I n s) :
    codeAny (model prog w) A (.compLoop (.ListComp elt [⟨target,iter,ifs,0⟩] scope pos) 0 it acc env) R s:=by
  refine codeAny_loop rfl I (fun n s hI=>?_) n h
  show wpAny _ A ((compTurn (.ListComp elt [⟨target,iter,ifs,0⟩] scope pos) 0 it acc env).onRaise (fun x=>do noteFrame x env;theTreesLotGoes x)) _ _ s
  refine wpAny_noted ?_
  rw [compTurn_list]
  refine wpAny_bind (wpAny_standAt (wpAny_bind (wpAny_mono (turn n s hI) (fun r s₁ h₁=>?_) fun _ _ h'=>h'.elim)))
  cases r with
  | none=>exact wpAny_pure h₁
  | some v =>
    refine wpAny_bind (wpAny_mono h₁ (fun _ s₁ h₁=>?_) fun _ _ h'=>h'.elim)
    refine wpAny_bind (wpAny_mono h₁ (fun _ s₂ h₂=>wpAny_bind (wpAny_mono h₂ (fun ok s₃ h₃=>?_) fun _ _ h'=>h'.elim)) fun _ _ h'=>h'.elim)
    cases ok with
    | false=>exact wpAny_pure ⟨rfl,h₃⟩
    | true =>
      exact wpAny_bind (wpAny_bind (wpAny_mono h₃ (fun x s₄ h₄=>wpAny_bind (wpAny_mono h₄ (fun _ s₅ h₅=>wpAny_pure (wpAny_pure ⟨rfl,h₅⟩)) fun _ _ h'=>h'.elim)) fun _ _ h'=>h'.elim))
end
abbrev compCx (X:Cx) (scope:Scope) (N':List Str) (cells:List (Str × Addr)) (C:Addr) (s₀:Shared) (H₀:Hp) (ex:List Addr) (pn:List (Addr × Obj)):Cx where
  prog:=X.prog
  w:=X.w
  K:=X.K
  mg:=X.mg
  base:=X.base
  A:=X.A
  N:=N'
  s₀:=s₀
  H₀:=H₀
  env:={ scope:=relabel scope X.env,locals:=C,globals:=X.env.globals,cells:=cells,qual:=X.env.qual,func:=none,code:=X.env.code,frame:=X.env.frame,builtins:=X.env.builtins }
  outer:=X.stack
  stack:=X.stack
  ex:=ex
  fn:=fun x=>scope.names.lookup x == some .cell
  calm:=X.calm
  pn:=pn
  xe:=fun _ _=>False
def cst (ix:List (Option Nat)) (σ:St):St:=ix.map fun o=>o.bind fun j=>(σ[j]?).bind id
def compChk (X:Cx) (scope:Scope) (N':List Str) (ix:List (Option Nat)):Bool :=
  scope.names.all (fun p=>scope.names.lookup p.1 == some p.2) &&
  scope.names.all (fun p=>!(p.2 == .free) || X.env.scope.names.lookup p.1 == some .cell || X.env.scope.names.lookup p.1 == some .free) &&
  ix.length == N'.length &&
  (N'.zip ix).all (fun p=>match p.2 with | none=>true | some j=>X.N[j]? == some p.1 && scope.names.lookup p.1 == some .free) && scope.kind == .function
def PTs (X:Cx) (ifs:List Expr) (t:TT):Prop :=
  ∀ (pins:List (Addr × Obj)) (s:Shared) (σ:St) (H:Hp) (Q:Bool→Hp→Prop),Inv X pins σ H s→t σ H Q →
    wpAny (model X.prog X.w) X.A (forIn ifs true fun c r=>if r=true then do let ok ← isTrue c X.env (eval c X.env);pure (ForInStep.yield ok) else pure (ForInStep.yield r)) (TP X pins σ Q) X.xe s
def tAll:TT:=fun _ H Q=>Q true H
theorem pts_nil {X:Cx}:PTs X [] tAll:=fun _ _ _ H _ I h=>wpAny_tests_nil ⟨H,I,h⟩
def tComp (ix:List (Option Nat)) (wi:TI) (g:TG) (tc:TT) (te:TE):TE:=fun σ H Q=>wi σ H fun J H1=>∃ W:Nat→Nat→List V→St→Hp→Prop,(∃ m,W 0 m [] (cst ix σ) H1)∧∀ i m ys τ H,W i m ys τ H →
  (J.stop i H∧∀ D,H D=none→Q (.ref D) (upd H D (.lst ys))) ∨
  (J.go i H∧ys.length < sizeLine∧∃ N:List V→St→Hp→Prop,(∀ ys' τ' H',N ys' τ' H'→∃ m',m' < m∧W (i+1) m' ys' τ' H') ∧
    ∀ x H',J.yld i H x H'→g x τ H' fun τ2 H2=>tc τ2 H2 fun b H3=>if b=true then te τ2 H3 (fun y H4=>N (ys++[y]) τ2 H4) else N ys τ2 H3)
def rlF (env:Env) (p:Str × NameKind):Str × NameKind:=if (p.2 == NameKind.free && env.scope.kind == .function && env.kindOf p.1 == some .cell)=true then (p.1,NameKind.cell) else (p.1,p.2)
theorem rlF_key (env:Env) (p:Str × NameKind):(rlF env p).1=p.1:=by unfold rlF;split <;> rfl
theorem lookup_key {f:Str × NameKind→Str × NameKind} (hf:∀ p,(f p).1=p.1) (x:Str):∀ names:List (Str × NameKind),(names.map f).lookup x=(names.lookup x).map fun k=>(f (x,k)).2
  | []=>rfl
  | (n,k) :: r=>by
    rw [List.map_cons]
    obtain ⟨a,b,e⟩:∃ a b,f (n,k)=(a,b):=⟨_,_,rfl⟩
    have ha:a=n:=by have:=hf (n,k);rw [e] at this;exact this
    subst ha
    rw [e,List.lookup_cons,List.lookup_cons,lookup_key hf x r]
    cases hb:x == a with
    | true =>
      have:x=a:=beq_iff_eq.mp hb
      subst this
      show some b=some (f (x,k)).2
      rw [e]
    | false=>rfl
theorem relabel_lookup (scope:Scope) (env:Env) (x:Str):(relabel scope env).names.lookup x=(scope.names.lookup x).map fun k=>(rlF env (x,k)).2:=lookup_key (rlF_key env) x scope.names
theorem relabel_look {scope:Scope} {env:Env} {x:Str} (h:scope.names.lookup x=some .free):(relabel scope env).names.lookup x=some .cell∨(relabel scope env).names.lookup x=some .free:=by
  rw [relabel_lookup,h]
  show some (rlF env (x,.free)).2=_∨some (rlF env (x,.free)).2=_
  unfold rlF
  by_cases hc:((x,NameKind.free).snd == NameKind.free && env.scope.kind == ScopeKind.function && env.kindOf (x,NameKind.free).fst == some NameKind.cell)=true
  · rw [if_pos hc];exact .inl rfl
  · rw [if_neg hc];exact .inr rfl
theorem relabel_back {scope:Scope} {env:Env} {x:Str} (h:(relabel scope env).names.lookup x=some .cell∨(relabel scope env).names.lookup x=some .free):scope.names.lookup x=some .cell∨scope.names.lookup x=some .free:=by
  rw [relabel_lookup] at h
  cases e:scope.names.lookup x with
  | none=>rw [e] at h;rcases h with h | h <;> cases h
  | some k =>
    rw [e] at h
    have h':(rlF env (x,k)).2=.cell∨(rlF env (x,k)).2=.free:=by
      rcases h with h | h
      · exact .inl (Option.some.inj h)
      · exact .inr (Option.some.inj h)
    unfold rlF at h'
    split at h'
    · rename_i hc
      have:k=.free:=by
        have:=(Bool.and_eq_true_iff.mp (Bool.and_eq_true_iff.mp hc).1).1
        simpa using this
      exact .inr (by rw [this])
    · rcases h' with z | z
      · have z':k=.cell:=z
        exact .inl (by rw [z'])
      · have z':k=.free:=z
        exact .inr (by rw [z'])
end L2
namespace L2
open PySem PySem.Spec PyProof.Rows
abbrev lobj (its:List Value) (n:Nat):Obj:={ cls:=.type "list",data:=.seq its.toArray n }
section
variable {X:Cx} {pins:List (Addr × Obj)} {σ:St} {H:Hp} {s:Shared}
theorem HOk.add {P:Program} {w:World} {h:Heap} {D:Addr} {o:HO} (x:HOk P w H h) (hn:H D=none) (new:ObjOk P w (upd H D o) h D o):HOk P w (upd H D o) h:=fun b u e=>by
  by_cases hb:b=D
  · subst hb;rw [upd_same] at e;cases e;exact new
  · rw [upd_ne hb] at e
    exact (x b u e).stay (fun c v _ q=>q) (fun c q=>by rw [upd_ne (ne_of_none q hn)];exact q) fun c xs q=>by rw [upd_ne (ne_of_none q hn)];exact q
theorem HOk.but {P:Program} {w:World} {h h':Heap} {C:Addr} (x:HOk P w H h) (hn:H C=none) (sb:Heap.SameBut C h h'):HOk P w H h':=fun b u e=>by
  refine (x b u e).stay (fun c v hc q=>(sb.2 c ?_).trans q) (fun _ q=>q) fun _ _ q=>q
  rintro rfl
  rcases hc with rfl | hc
  · rw [hn] at e;cases e
  · rw [hn] at hc;cases hc
end
theorem comp_inv {X:Cx} {pins:List (Addr × Obj)} {σ:St} {H2:Hp} {s2:Shared} {scope:Scope} {N':List Str} {ix:List (Option Nat)} {cl:List (Str × Addr)} {fp:List Addr}
    (c1:∀ p∈scope.names,scope.names.lookup p.1=some p.2) (c3:ix.length=N'.length)
    (c2:∀ p∈scope.names,p.2=.free→X.env.scope.names.lookup p.1=some .cell∨X.env.scope.names.lookup p.1=some .free)
    (c4:∀ (i:Nat) (x:Str) (j:Nat),N'[i]? = some x→ix[i]? = some (some j)→X.N[j]? = some x∧scope.names.lookup x=some .free) (ck:scope.kind=.function)
    (cl1:∀ x c,cl.lookup x=some c→X.env.cells.lookup x=some c) (cl2:∀ p∈scope.names,p.2=.free→(cl.lookup p.1).isSome=true)
    (I2:Inv X pins σ H2 s2) (f2:∀ b∈fp,FpOk X pins H2 b) (o2:∀ b∈fp,∃ o,s2.heap.get? b=some o∧∀ v,o.data≠.cell v) :
    Inv (compCx X scope N' (cellsFrom (s2.heap.objs.size+2) scope.names cl) (s2.heap.objs.size+1) s2 H2 fp []) [(s2.heap.objs.size,lobj [] 0)] (cst ix σ) H2
      { s2 with heap:=pushCells ((s2.heap.push (lobj [] 0)).push { cls:=.type "dict",data:=.dict #[] }) scope.names }:=by
  have sz3:(s2.heap.push (lobj [] 0)).objs.size=s2.heap.objs.size+1:=Heap.size_push ..
  have sz4:((s2.heap.push (lobj [] 0)).push { cls:=.type "dict",data:=.dict #[] }).objs.size=s2.heap.objs.size+2:=by rw [Heap.size_push,sz3]
  have keep:∀ b o,s2.heap.get? b=some o→(pushCells ((s2.heap.push (lobj [] 0)).push { cls:=.type "dict",data:=.dict #[] }) scope.names).get? b=some o:=fun b o e =>
    pushCells_keeps _ _ b o (Heap.get?_push_of_some _ (Heap.get?_push_of_some _ e))
  have cllt:∀ (x:Str) (c:Nat),cl.lookup x=some c→c < s2.heap.objs.size:=fun x c e=>by
    obtain ⟨v,q⟩:=I2.cell x c (cl1 x c e)
    exact q.lt
  obtain ⟨ci,cc⟩:=cells_inj scope.names (s2.heap.objs.size+2) cl (fun x y c e1 e2=>I2.ok.inj x y c (cl1 x c e1) (cl1 y c e2)) (fun x c e=>by have:=cllt x c e;omega)
  have cell:∀ x c,(cellsFrom (s2.heap.objs.size+2) scope.names cl).lookup x=some c→∃ v,(pushCells ((s2.heap.push (lobj [] 0)).push { cls:=.type "dict",data:=.dict #[] }) scope.names).IsCell c v:=fun x c e=>by
    refine cells_are scope.names _ cl x c (fun y d z=>?_) (by rw [sz4];exact e)
    obtain ⟨v,q⟩:=I2.cell y d (cl1 y d z)
    exact ⟨v,q.keeps fun b o e=>Heap.get?_push_of_some _ (Heap.get?_push_of_some _ e)⟩
  have lt2:∀ (b:Nat),b∈fp→b < s2.heap.objs.size:=fun b hb=>by
    obtain ⟨o,e,_⟩:=o2 b hb
    exact Heap.lt_size e
  refine ⟨⟨I2.ok.mod,ck,I2.ok.glob,I2.ok.blt,Nat.le_succ _,ci,fun x hx=>?_,fun x c hf e=>?_,I2.ok.hd,I2.ok.frames,.inl rfl,fun b hb=>⟨?_,fun x c e=>?_⟩,I2.bs,Nat.le_trans I2.ok.bsz I2.sz,fun b o e hb=>?_,fun b hb z=>?_,I2.stack,I2.stkFree⟩,
    rfl,I2.bare,Un.kept keep,⟨fun _=>none,?_,fun i x v e1 e2 e3=>?_⟩,cell,?_,fun x c e=>?_,fun p hp=>?_,I2.hok.kept keep,?_⟩
  · -- has
    have hx':=relabel_back (scope:=scope) (env:=X.env) (x:=x) hx
    rcases hx' with z | z
    · exact Option.isSome_iff_exists.mp (PySem.W.cellsFrom_some scope.names _ cl (.inl z))
    · exact Option.isSome_iff_exists.mp (PySem.W.cellsFrom_some scope.names _ cl (.inr (cl2 (x,.free) (PySem.mem_of_lookup z) rfl)))
  · -- cab
    have hf':scope.names.lookup x=some .cell:=by simpa using hf
    have:=own_new scope.names (s2.heap.objs.size+2) cl (fun x c e=>by have:=cllt x c e;omega) hf' e
    show s2.heap.objs.size≤c
    omega
  · -- ex: not the frame
    exact Nat.ne_of_lt (Nat.lt_succ_of_lt (lt2 b hb))
  · -- ex: no cell
    rcases cc x c e with z | z
    · exact (f2 b hb).2.2.2.2.1 x c (cl1 x c z)
    · exact Nat.ne_of_gt (Nat.lt_of_lt_of_le (lt2 b hb) (Nat.le_trans (Nat.le_add_right _ 2) z))
  · -- base objects are not iterators
    rcases (f2 b hb).2.2.2.1 with z | z
    · exact I2.ok.noex b o e z
    · exact absurd (Nat.lt_of_lt_of_le (Nat.lt_of_lt_of_le (Heap.lt_size e) I2.ok.bsz) z) (Nat.lt_irrefl _)
  · rcases List.mem_cons.mp (I2.stkSub b z) with q | q
    · exact (f2 b hb).2.1 q
    · exact (f2 b hb).2.2.1 q
  · -- the new frame
    have:=Heap.Ns.new (s2.heap.push (lobj [] 0)) (.type "dict")
    rw [sz3] at this
    exact this.keeps (pushCells_keeps _ _)
  · -- what is seen
    unfold cst at e2
    rw [List.getElem?_map] at e2
    cases ej:ix[i]? with
    | none=>rw [ej] at e2;cases e2
    | some o =>
      rw [ej] at e2
      cases o with
      | none=>cases e2
      | some j =>
        obtain ⟨n1,n2⟩:=c4 i x j e1 ej
        have e2':((σ[j]?).bind id)=some v:=Option.some.inj e2
        have eσ:σ[j]? = some (some v):=by
          cases q:σ[j]? with
          | none=>rw [q] at e2';cases e2'
          | some q'=>rw [q] at e2';cases q' with
            | none=>cases e2'
            | some q''=>cases e2';rfl
        have hv:Vis X.env.scope x:=by
          rcases c2 (x,.free) (PySem.mem_of_lookup n2) rfl with z | z
          · exact .inr (.inl z)
          · exact .inr (.inr z)
        obtain ⟨m,hn,hl⟩:=I2.loc
        obtain ⟨u,ru,lk⟩:=hl j x v n1 eσ hv
        refine ⟨u,ru,.inr ⟨relabel_look (scope:=scope) (env:=X.env) n2,?_⟩⟩
        rcases lk with ⟨z,_⟩ | ⟨_,c,ec,q⟩
        · exfalso
          rcases c2 (x,.free) (PySem.mem_of_lookup n2) rfl with z' | z' <;> (have z2:X.env.scope.names.lookup x=some .local:=z;rw [z2] at z';cases z')
        · refine ⟨c,?_,q.keeps keep⟩
          show (cellsFrom (s2.heap.objs.size+2) scope.names cl).lookup x=some c
          rw [cells_out scope.names _ cl fun p hp e hpc=>by
            have q1:=c1 p hp
            rw [e,n2,hpc] at q1
            cases q1]
          obtain ⟨d,ed⟩:=Option.isSome_iff_exists.mp (cl2 (x,.free) (PySem.mem_of_lookup n2) rfl)
          have:=cl1 x d ed
          rw [ec] at this
          cases this
          exact ed
  · exact I2.hok.fresh (Nat.le_succ _)
  · rcases cc x c e with z | z
    · exact I2.freeC x c (cl1 x c z)
    · exact I2.hok.fresh (by omega)
  · have e:p=(s2.heap.objs.size,lobj [] 0):=by simpa using hp
    subst e
    refine ⟨pushCells_keeps _ _ _ _ (Heap.get?_push_of_some _ (Heap.get?_push_size _ rfl)),I2.hok.fresh (Nat.le_refl _),Nat.ne_of_lt (Nat.lt_succ_self _),fun z=>?_,fun v z=>by cases z⟩
    rcases List.mem_cons.mp (I2.stkSub _ z) with q | q
    · have:=I2.lt;exact absurd (q ▸ this) (Nat.lt_irrefl _)
    · exact I2.nofs (Nat.le_refl _) q
  · show (cst ix σ).length=N'.length
    unfold cst
    rw [List.length_map,c3]
end L2
namespace L2
open PySem PySem.Spec PyProof.Rows
theorem comp_end {X:Cx} {pins pins':List (Addr × Obj)} {σ τ:St} {H2 H':Hp} {s2 s':Shared} {scope:Scope} {N':List Str} {cells:List (Str × Addr)} {fp:List Addr} {C D:Addr} {ys:List V} {its:List Value} {k:Nat} {h':Heap}
    (I2:Inv X pins σ H2 s2) (f2:∀ b∈fp,FpOk X pins H2 b) (I':Inv (compCx X scope N' cells C s2 H2 fp []) pins' τ H' s') (hC:s2.heap.objs.size≤C) (hD:s2.heap.objs.size≤D) (hDC:D≠C)
    (hn:H' D=none) (e:s'.heap.get? D=some (lobj its k)) (hv:Vals ys its) (hz:ys.length≤sizeLine) (sb:Heap.SameBut C s'.heap h'):Inv X pins σ (upd H' D (.lst ys)) { s' with heap:=h' }:=by
  have ne:∀ b o,s2.heap.get? b=some o→b≠C∧b≠D:=fun b o q=>by
    have:=Heap.lt_size q
    exact ⟨Nat.ne_of_lt (Nat.lt_of_lt_of_le this hC),Nat.ne_of_lt (Nat.lt_of_lt_of_le this hD)⟩
  have ok1:HOk X.prog X.w H' h':=HOk.but I'.hok I'.free sb
  have eD:h'.get? D=some (lobj its k):=(sb.2 D hDC).trans e
  have U:=I'.base
  refine I2.call' (s':={ s' with heap:=h' }) (ch:=fp) I'.os ⟨fun b o q n hb hx=>?_,fun b o q n hb hx=>?_,fun b o q n hx=>?_,fun b o q hx=>?_,fun b xs q=>?_,fun b o u q=>?_,fun b ps q=>?_⟩ (HOk.add ok1 hn ⟨hz,its,k,hv,eD⟩) I'.bare fun b hb=>?_
  · exact (sb.2 b (ne b o q).1).trans (U.keep b o q n hb hx)
  · obtain ⟨sl,z⟩:=U.slot b o q n hb hx
    exact ⟨sl,(sb.2 b (ne b o q).1).trans z⟩
  · rw [upd_ne (ne b o q).2];exact U.free b o q n hx
  · obtain ⟨o',z⟩:=U.there b o q hx
    exact ⟨o',(sb.2 b (ne b o q).1).trans z⟩
  · have z:=U.tups b xs q
    rw [upd_ne (ne_of_none z hn)];exact z
  · have z:=U.frzs b o u q
    rw [upd_ne (ne_of_none z hn)];exact z
  · obtain ⟨more,z⟩:=U.tbls b ps q
    exact ⟨more,by rw [upd_ne (ne_of_none z hn)];exact z⟩
  · obtain ⟨_,a1,_,a2,a3,a4⟩:=f2 b hb
    exact ⟨a2,a1,a3,a4⟩
theorem append_un {X:Cx} {τ:St} {H':Hp} {s:Shared} {D:Addr} {its:List Value} {k:Nat} {u:Value} {E:Value→Shared→Prop} {Q:Value→Shared→Prop} (hz:its.length < sizeLine) (e:s.heap.get? D=some (lobj its k))
    (h:∀ h' k',h'.get? D=some (lobj (its++[u]) k')→(∀ b o,b≠D→s.heap.get? b=some o→h'.get? b=some o)→Q .none { s with heap:=h' }) :
    wpAny (model X.prog X.w) X.A (call (.builtin "list.append") [.ref D,u]) Q E s:=by
  refine call_meets F.slot_list_append ⟨_,e,rfl⟩ F.entry_list_append (F.args_list_append_2 _ _) (PySem.list_append D its.toArray k u (by rw [List.size_toArray];omega)) ⟨e,?_⟩
  have q:=PySem.IsL.update e (·.push u)
  have e2:(its++[u]).toArray=its.toArray.push u:=by simp
  refine h _ _ (by show _=some ({ cls:=.type "list",data:=.seq (its++[u]).toArray _ }:Obj);rw [e2];exact q) fun b o hb eb=>(Heap.get?_update_other s.heap _ (Ne.symm hb)).trans eb
theorem pe_comp {X:Cx} {tg iter elt:Expr} {ifs:List Expr} {scope:Scope} {pos:Pos} {N':List Str} {ix:List (Option Nat)} {wi:TI} {g:TG} {tc:TT} {te:TE}
    (hc:X.calm=true) (chk:compChk X scope N' ix=true) (hi:PI X tg iter wi)
    (hg:∀ cells C s₀ H₀ ex pn,PG (compCx X scope N' cells C s₀ H₀ ex pn) tg g)
    (ht:∀ cells C s₀ H₀ ex pn,PTs (compCx X scope N' cells C s₀ H₀ ex pn) ifs tc)
    (he:∀ cells C s₀ H₀ ex pn,PE (compCx X scope N' cells C s₀ H₀ ex pn) elt te)
    (hs:∀ x,foldedSetIterable iter X.env x=pure x:=by intro _;rfl) :
    PE X (.ListComp elt [⟨tg,iter,ifs,0⟩] scope pos) (tComp ix wi g tc te):=by
  intro pins s σ H Q I h
  unfold compChk at chk
  obtain ⟨chk,k5⟩:=Bool.and_eq_true_iff.mp chk
  obtain ⟨chk,k4⟩:=Bool.and_eq_true_iff.mp chk
  obtain ⟨chk,k3⟩:=Bool.and_eq_true_iff.mp chk
  obtain ⟨k1,k2⟩:=Bool.and_eq_true_iff.mp chk
  have c1:∀ p∈scope.names,scope.names.lookup p.1=some p.2:=fun p hp=>by simpa using List.all_eq_true.mp k1 p hp
  have c2:∀ p∈scope.names,p.2=.free→X.env.scope.names.lookup p.1=some .cell∨X.env.scope.names.lookup p.1=some .free:=fun p hp hf=>by
    have:=List.all_eq_true.mp k2 p hp
    rw [hf] at this
    simpa using this
  have c3:ix.length=N'.length:=by simpa using k3
  have ck:scope.kind=.function:=by simpa using k5
  have c4:∀ (i:Nat) (x:Str) (j:Nat),N'[i]? = some x→ix[i]? = some (some j)→X.N[j]? = some x∧scope.names.lookup x=some .free:=fun i x j e1 e2=>by
    have m:(x,some j)∈N'.zip ix:=by
      refine List.mem_of_getElem? (i:=i) ?_
      rw [List.getElem?_zip_eq_some]
      exact ⟨e1,e2⟩
    have:=List.all_eq_true.mp k4 _ m
    have:=Bool.and_eq_true_iff.mp this
    exact ⟨by simpa using this.1,by simpa using this.2⟩
  obtain ⟨cl,ecl,cl1,cl2⟩:=closure_ok (env:=X.env) (scope:=scope) (fun p hp hf=>I.ok.has p.1 (c2 p hp hf))
  rw [eval_ListComp]
  refine wpAny_comprehension_free (use:=none) rfl hs ecl ck (fun y hy hl=>by rw [c1 y hy,hl]) (thn (hi pins s σ H _ I h) fun v s1 h1=>thn h1 fun itv s2 h2=>?_)
  obtain ⟨it,fp,tn,J,H2,e,I2,T,st2,f2,W,⟨m0,w0⟩,turn⟩:=h2
  subst e
  have I5:=comp_inv (N':=N') (ix:=ix) (fp:=fp) c1 c3 c2 c4 ck cl1 cl2 I2 f2 (T.obj _ _ st2)
  refine wpAny_newObj_type ?_
  unfold newFunctionEnv
  refine wpAny_bind (wpAny_alloc ?_)
  refine wpAny_bind (wpAny_layCells _ (fun name kind cells=>by cases hkc:kind == NameKind.cell <;> simp [hkc]) _ _ _ _ ?_)
  refine wpAny_bind ?_
  rw [List.forIn_nil]
  refine wpAny_pure (wpAny_pure ?_)
  have sz3:(s2.heap.push (lobj [] 0)).objs.size=s2.heap.objs.size+1:=Heap.size_push ..
  have sz4:((s2.heap.push (lobj [] 0)).push { cls:=.type "dict",data:=.dict #[] }).objs.size=s2.heap.objs.size+2:=by rw [Heap.size_push,sz3]
  show codeAny (model X.prog X.w) X.A (.compStart (.ListComp elt [⟨tg,iter,ifs,0⟩] scope pos) 0 (.ref it) (.ref s2.heap.objs.size)
    (compCx X scope N' (cellsFrom ((s2.heap.push (lobj [] 0)).push { cls:=.type "dict",data:=.dict #[] }).objs.size scope.names cl) (s2.heap.push (lobj [] 0)).objs.size s2 H2 fp []).env)
    (compPost (model X.prog X.w) X.A X.xe none (EP X pins σ Q) (.ref s2.heap.objs.size) (s2.heap.push (lobj [] 0)).objs.size)
    { s2 with heap:=pushCells ((s2.heap.push (lobj [] 0)).push { cls:=.type "dict",data:=.dict #[] }) scope.names }
  rw [sz4,sz3]
  generalize hcells:cellsFrom (s2.heap.objs.size+2) scope.names cl=cells at I5 ⊢
  have keep5:∀ b o,s2.heap.get? b=some o→(pushCells ((s2.heap.push (lobj [] 0)).push { cls:=.type "dict",data:=.dict #[] }) scope.names).get? b=some o:=fun b o e =>
    pushCells_keeps _ _ b o (Heap.get?_push_of_some _ (Heap.get?_push_of_some _ e))
  generalize hh5:({ s2 with heap:=pushCells ((s2.heap.push (lobj [] 0)).push { cls:=.type "dict",data:=.dict #[] }) scope.names }:Shared)=s5 at I5 ⊢
  have keep5:∀ b o,s2.heap.get? b=some o→s5.heap.get? b=some o:=by rw [← hh5];exact keep5
  have st5:tn 0 s5.heap:=T.keep _ _ _ st2 fun b hb o e=>keep5 b o e
  have lt2:∀ (b:Nat),b∈fp→b < s2.heap.objs.size:=fun b hb=>by
    obtain ⟨o,e,_⟩:=T.obj _ _ st2 b hb
    exact Heap.lt_size e
  -- the iterator within the block
  have stat:∀ {H':Hp} {o:Obj},(∀ b∈fp,H' b=none)→∀ b∈fp,FpOk (compCx X scope N' cells (s2.heap.objs.size+1) s2 H2 fp []) [(s2.heap.objs.size,o)] H' b:=fun {H' o} hn b hb =>
    ⟨hn b hb,(I5.ok.exf b hb).1,I5.ok.exfs b hb,.inl hb,(I5.ok.exf b hb).2,fun p hp=>by
      have e:p=(s2.heap.objs.size,o):=by simpa using hp
      subst e
      exact Nat.ne_of_gt (lt2 b hb)⟩
  have loop:codeAny (model X.prog X.w) X.A (.compLoop (.ListComp elt [⟨tg,iter,ifs,0⟩] scope pos) 0 (.ref it) (.ref s2.heap.objs.size)
      (compCx X scope N' cells (s2.heap.objs.size+1) s2 H2 fp []).env) (compPost (model X.prog X.w) X.A X.xe none (EP X pins σ Q) (.ref s2.heap.objs.size) (s2.heap.objs.size+1)) s5:=by
    refine compLoop_go (fun n s'=>∃ i ys τ H' its k,Inv (compCx X scope N' cells (s2.heap.objs.size+1) s2 H2 fp []) [(s2.heap.objs.size,lobj its k)] τ H' s'∧tn i s'.heap∧(∀ b∈fp,H' b=none)∧Vals ys its∧ys.length≤sizeLine∧W i n ys τ H') ?_ m0
      ⟨0,[],_,H2,[],0,I5,st5,fun b hb=>(f2 b hb).1,.nil,Nat.zero_le _,w0⟩
    rintro n s3 ⟨i,ys,τ,H3,its,k,I3,st3,fr3,hv3,hz3,w3⟩
    rcases turn i n ys τ H3 w3 with ⟨stop,qn⟩ | ⟨go,hlen,N,hN,step⟩
    · refine thn (T.done (compCx X scope N' cells (s2.heap.objs.size+1) s2 H2 fp []) rfl rfl rfl hc i _ s3 τ H3 (fun _ _=>False) I3 (stat fr3) st3 stop) fun r s4 ⟨hr,I4⟩=>?_
      subst hr
      obtain ⟨m,hn,_⟩:=id I4.loc
      obtain ⟨eD,nD,_,_,_⟩:=I4.pin (s2.heap.objs.size,lobj its k) (by simp)
      refine ⟨m,hn,fun h' sb=>⟨.ref s2.heap.objs.size,upd H3 s2.heap.objs.size (.lst ys),?_,rfl,qn _ nD⟩⟩
      exact comp_end I2 f2 I4 (Nat.le_succ _) (Nat.le_refl _) (Nat.ne_of_lt (Nat.lt_succ_self _)) nD eD hv3 hz3 sb
    · refine thn (T.item (compCx X scope N' cells (s2.heap.objs.size+1) s2 H2 fp []) rfl rfl rfl hc i _ s3 τ H3 (fun _ _=>False) I3 (stat fr3) st3 go) fun r s4 ⟨u,hr,h4⟩=>?_
      subst hr
      refine thn h4 fun _ s5' ⟨x,H5,I5',r5,y5,st5',fr5⟩=>?_
      have I6:=I5'.pinned (stat fr5) (T.obj _ _ st5')
      refine thn (hg cells _ s2 H2 fp [] _ s5' τ H5 x u _ I6 r5 (step x H5 y5)) fun _ s6 ⟨τ6,H6,I7,q6⟩=>?_
      refine thn (ht cells _ s2 H2 fp [] _ s6 τ6 H6 _ I7 q6) fun ok s7 ⟨H7,I8,q7⟩=>?_
      have fin:∀ {s8:Shared} {H8:Hp} {its':List Value} {k':Nat} {ys':List V},Inv (compCx X scope N' cells (s2.heap.objs.size+1) s2 H2 fp []) ([(s2.heap.objs.size,lobj its' k')]++pinsAt fp s5'.heap) τ6 H8 s8→Vals ys' its'→ys'.length≤sizeLine→N ys' τ6 H8 →
          ∃ m,m < n∧∃ i ys τ H' its k,Inv (compCx X scope N' cells (s2.heap.objs.size+1) s2 H2 fp []) [(s2.heap.objs.size,lobj its k)] τ H' s8∧tn i s8.heap∧(∀ b∈fp,H' b=none)∧Vals ys its∧ys.length≤sizeLine∧W i m ys τ H':=fun {s8 H8 its' k' ys'} I9 hv hz n9=>by
        obtain ⟨m',hm,w9⟩:=hN ys' τ6 H8 n9
        refine ⟨m',hm,i+1,ys',τ6,H8,its',k',I9.unpinned,T.keep _ _ _ st5' fun b hb o e=>(I9.pin (b,o) (List.mem_append_right _ (List.mem_append_right _ (mem_pinsAt hb e)))).1,fun b hb=>?_,hv,hz,w9⟩
        obtain ⟨o,e,d⟩:=T.obj _ _ st5' b hb
        exact (I9.pin (b,o) (List.mem_append_right _ (List.mem_append_right _ (mem_pinsAt hb e)))).2.1
      cases ok with
      | false=>exact fin I8 hv3 hz3 q7
      | true =>
        refine thn (he cells _ s2 H2 fp [] _ s7 τ6 H7 _ I8 q7) fun y s8 ⟨v8,H8,I9,r8,q8⟩=>?_
        obtain ⟨eD,nD,dL,dF,_⟩:=I9.pin (s2.heap.objs.size,lobj its k) (by simp)
        have hl:=hv3.length
        refine append_un (X:=X) (τ:=τ) (H':=H8) (by omega) eD fun h' k' eD' kp=>?_
        -- the pin on the list is let go,the list turns,and is pinned anew
        have hx:∀ p∈pinsAt fp s5'.heap,p.1≠s2.heap.objs.size:=fun p hp=>by
          have:=lt2 p.1 (of_pinsAt hp).1
          exact Nat.ne_of_lt this
        have J1:Inv (compCx X scope N' cells (s2.heap.objs.size+1) s2 H2 fp []) (pinsAt fp s5'.heap) τ6 H8 s8:=I9.pins_of fun p hp=>I9.pin p (List.mem_append_right _ (List.mem_append_right _ hp))
        have J2:Inv (compCx X scope N' cells (s2.heap.objs.size+1) s2 H2 fp []) (pinsAt fp s5'.heap) τ6 H8 { s8 with heap:=h' }:=J1.turned (t':=s8.toks) (it:=s2.heap.objs.size) kp nD dL (.inr (Nat.le_refl _)) (fun x c e z=>by
          obtain ⟨v,o,ho,hd⟩:=J1.cell x c e
          rw [z,eD] at ho
          cases ho
          cases hd) fun p hp=>hx p (by simpa using hp)
        have J3:Inv (compCx X scope N' cells (s2.heap.objs.size+1) s2 H2 fp []) ([(s2.heap.objs.size,lobj (its++[y]) k')]++pinsAt fp s5'.heap) τ6 H8 { s8 with heap:=h' }:=J2.pins_of fun p hp=>by
          rcases List.mem_append.mp hp with z | z
          · have e:p=(s2.heap.objs.size,lobj (its++[y]) k'):=by simpa using z
            subst e
            exact ⟨eD',nD,dL,dF,fun v z=>by cases z⟩
          · exact J2.pin p (List.mem_append_right _ z)
        exact fin J3 (hv3.append (.cons r8 .nil)) (by rw [List.length_append,List.length_singleton];omega) q8
  exact codeAny_compStart_list loop (T.self X.A 0 s5 _ _ st5 loop)
end L2
namespace L2
open PySem PySem.Spec PyProof.Rows
structure Sure (J:It) (xs:List V) (ok:Hp→Prop):Prop where
  go:∀ i H,i < xs.length→ok H→J.go i H
  yld:∀ i H x H',i < xs.length→ok H→J.yld i H x H'→H'=H∧xs[i]? = some x
  stop:∀ H,ok H→J.stop xs.length H
theorem sure_list {K:PySem.W.Frag} {a:Addr} {xs:List V}:Sure (Itl K a) xs (fun H=>SqL K H a xs) where
  go:=fun i H hi h=>⟨xs,xs[i],h,by simp [hi]⟩
  yld:=fun i H x H' _ h y=>⟨y.1,y.2 xs h⟩
  stop:=fun H h=>⟨xs,h,Nat.le_refl _⟩
theorem sure_tup {K:PySem.W.Frag} {a:Addr} {xs:List V}:Sure (Itt K a) xs (fun H=>SqT K H a xs) where
  go:=fun i H hi h=>⟨xs,xs[i],h,by simp [hi]⟩
  yld:=fun i H x H' _ h y=>⟨y.1,y.2 xs h⟩
  stop:=fun H h=>⟨xs,h,Nat.le_refl _⟩
def rngV (lo:Int) (n:Nat):List V:=(List.range n).map fun (k:Nat)=>V.int (lo+k)
theorem rngV_length (lo:Int) (n:Nat):(rngV lo n).length=n:=by unfold rngV;simp
theorem sure_range {lo:Int} {n:Nat}:Sure (Itr lo n) (rngV lo n) (fun _=>True) where
  go:=fun i H hi h=>by rw [rngV_length] at hi;exact hi
  yld:=fun i H x H' hi h y=>⟨y.1,by
    obtain ⟨_,rfl⟩:=y
    rw [rngV_length] at hi
    unfold rngV
    rw [List.getElem?_map,List.getElem?_range hi]
    rfl⟩
  stop:=fun H h=>by rw [rngV_length];exact Nat.le_refl n
def sign (c:Nat):V:=.str ⟨#[c]⟩
def Its (x:Str):It:=⟨fun i _=>i < x.cps.size,fun i H v H'=>H'=H∧∃ c,x.cps[i]? = some c∧v=sign c,fun i _=>i=x.cps.size⟩
theorem sure_str {x:Str}:Sure (Its x) (x.cps.toList.map sign) (fun _=>True) where
  go:=fun i H hi h=>by
    rw [List.length_map] at hi
    exact hi
  yld:=fun i H v H' _ h y=>⟨y.1,by
    obtain ⟨_,c,e,rfl⟩:=y
    rw [List.getElem?_map,Array.getElem?_toList,e]
    rfl⟩
  stop:=fun H h=>by
    rw [List.length_map]
    rfl
theorem str_walks {P:Program} {w:World} (it:Addr) (x:Str) (t:Tok) {A:Around} (hA:A.handled=none):Walks P w A it [it] [it] x.cps.size (SignAt x) (fun i h=>h.IsStrIter it (strIterType x) x t i):=by
  unfold strIterType
  split
  · exact Walks.strAscii hA it x t
  · exact Walks.strWide hA it x t
theorem str_self {P:Program} {w:World} {it:Addr} {x:Str} {t:Tok} {A:Around} {i:Nat} {s:Shared} {Q:Value→Shared→Prop} {E:Value→Shared→Prop} (st:s.heap.IsStrIter it (strIterType x) x t i) (h:Q (.ref it) s):wpAny (model P w) A (pyIter (.ref it)) Q E s:=by
  unfold strIterType at st
  split at st
  · exact wpAny_pyIter_striter_ascii st h
  · exact wpAny_pyIter_striter_wide st h
theorem str_not (x:Str):["enumerate","zip","dict_itemiterator","dict_reverseitemiterator","odict_iterator","itertools.zip_longest","itertools.pairwise"].contains (strIterType x)=false:=by
  unfold strIterType
  split <;> decide
theorem turn_str {P:Program} {w:World} {K:PySem.W.Frag} {tg:Expr} (it:Addr) (x:Str) (t:Tok):Turn P w K tg (Its x) [it] it (fun i h=>h.IsStrIter it (strIterType x) x t i) where
  mem:=by simp
  obj:=fun i h st b hb=>by
    have e:b=it:=by simpa using hb
    subst e
    obtain ⟨o,e,c,d⟩:=st
    exact ⟨o,e,fun v z=>by rw [d] at z;cases z⟩
  keep:=fun i h h' st k=>by
    obtain ⟨o,e,r⟩:=st
    exact ⟨o,k it (by simp) o e,r⟩
  item:=by
    intro X hP hw hK hc i pins s σ H E I hf st hg
    subst hP hw hK
    obtain ⟨f0,f1,f2,f3,f4,f5⟩:=hf it (by simp)
    refine (str_walks it x t (I.ok.hd hc)).item i s _ _ hg st fun v h' tk hv st' kk=>?_
    obtain ⟨c,u,hcc,rfl⟩:=hv
    have I1:Inv X pins σ H { s with heap:=h',toks:=tk }:=I.turned (fun b o hb e=>kk b o (by simpa using hb) e) f0 f1 f3 f4 f5
    obtain ⟨o,e,cc,d⟩:=id st'
    exact ⟨_,rfl,go_of (s:={ s with heap:=h',toks:=tk }) e cc d (str_not x) ⟨sign c,H,I1,⟨u,rfl⟩,⟨rfl,c,hcc,rfl⟩,st',fun b hb=>(hf b hb).1⟩⟩
  done:=by
    intro X hP hw hK hc i pins s σ H E I hf st hg
    subst hP hw hK
    obtain ⟨f0,f1,f2,f3,f4,f5⟩:=hf it (by simp)
    have e:i=x.cps.size:=hg
    subst e
    exact (str_walks it x t (I.ok.hd hc)).done s _ _ st fun h' tk kk=>⟨rfl,I.turned (fun b o hb e=>kk b o (by simpa using hb) e) f0 f1 f3 f4 f5⟩
  self:=fun _ _ _ _ _ st h=>str_self st h
def iStr (tl:TE):TI:=fun σ H R=>tl σ H fun x H1=>∃ z,x=.str z∧R (Its z) H1
theorem pi_str {X:Cx} {tg l:Expr} {tl:TE} (hl:PE X l tl):PI X tg l (iStr tl):=by
  intro pins s σ H R I h
  refine thn (hl pins s σ H _ I h) fun v s1 ⟨x,H1,I1,r1,q1⟩=>?_
  obtain ⟨z,e,q⟩:=q1
  subst e
  obtain ⟨t,rfl⟩:=r1
  refine wpAny_pyIter_strU ?_
  refine ⟨s1.heap.objs.size,[s1.heap.objs.size],_,_,H1,rfl,I1.kept (t':=s1.toks) fun b o e=>Heap.get?_push_of_some _ e,turn_str _ z t,⟨_,Heap.get?_push_size _ rfl,rfl,rfl⟩,fun b hb=>?_,q⟩
  have e:b=s1.heap.objs.size:=by simpa using hb
  subst e
  exact I1.fpOk (Nat.le_refl _) (I1.hok.fresh (Nat.le_refl _))
theorem for_by {J:It} {xs:List V} {ok:Hp→Prop} {g:TG} {tb:TS} {D:Ends} {σ:St} {H:Hp} (S:Sure J xs ok) (Pv:Nat→St→Hp→Prop) (h0:Pv 0 σ H) (hl:∀ i σ H,i≤xs.length→Pv i σ H→ok H)
    (hs:∀ i x σ H,xs[i]? = some x→Pv i σ H→g x σ H fun σ2 H2=>tb { D with nx:=Pv (i+1),ct:=Pv (i+1),bk:=D.nx } σ2 H2) (hd:∀ σ H,Pv xs.length σ H→D.nx σ H) :
    ∃ W:Nat→Nat→St→Hp→Prop,(∃ m,W 0 m σ H)∧∀ i m σ H,W i m σ H →
      (J.stop i H∧D.nx σ H)∨(J.go i H∧∃ N:St→Hp→Prop,(∀ σ' H',N σ' H'→∃ m',m' < m∧W (i+1) m' σ' H')∧∀ x H',J.yld i H x H'→g x σ H' fun σ2 H2=>tb { D with nx:=N,ct:=N,bk:=D.nx } σ2 H2):=by
  refine ⟨fun i m σ H=>m=xs.length - i∧i≤xs.length∧Pv i σ H,⟨xs.length,by simp,Nat.zero_le _,h0⟩,?_⟩
  rintro i m σ H ⟨rfl,hi,p⟩
  have q:=hl i σ H hi p
  by_cases hlt:i < xs.length
  · refine .inr ⟨S.go i H hlt q,Pv (i+1),fun σ' H' p'=>⟨xs.length - (i+1),by omega,rfl,hlt,p'⟩,fun x H' y=>?_⟩
    obtain ⟨e,y'⟩:=S.yld i H x H' hlt q y
    subst e
    exact hs i x σ _ y' p
  · have e:i=xs.length:=by omega
    subst e
    exact .inl ⟨S.stop H q,hd σ H p⟩
theorem comp_by {J:It} {xs:List V} {ok:Hp→Prop} {g:TG} {tc:TT} {te:TE} {Q:VK} {τ0:St} {H:Hp} (S:Sure J xs ok) (hz:xs.length≤10000) (Pv:Nat→List V→St→Hp→Prop) (h0:Pv 0 [] τ0 H)
    (hl:∀ i ys τ H,i≤xs.length→Pv i ys τ H→ok H∧ys.length≤i)
    (hs:∀ i x ys τ H,xs[i]? = some x→Pv i ys τ H→g x τ H fun τ2 H2=>tc τ2 H2 fun b H3=>if b=true then te τ2 H3 (fun y H4=>Pv (i+1) (ys++[y]) τ2 H4) else Pv (i+1) ys τ2 H3)
    (hd:∀ ys τ H D,Pv xs.length ys τ H→H D=none→Q (.ref D) (upd H D (.lst ys))) :
    ∃ W:Nat→Nat→List V→St→Hp→Prop,(∃ m,W 0 m [] τ0 H)∧∀ i m ys τ H,W i m ys τ H →
      (J.stop i H∧∀ D,H D=none→Q (.ref D) (upd H D (.lst ys))) ∨
      (J.go i H∧ys.length < sizeLine∧∃ N:List V→St→Hp→Prop,(∀ ys' τ' H',N ys' τ' H'→∃ m',m' < m∧W (i+1) m' ys' τ' H') ∧
        ∀ x H',J.yld i H x H'→g x τ H' fun τ2 H2=>tc τ2 H2 fun b H3=>if b=true then te τ2 H3 (fun y H4=>N (ys++[y]) τ2 H4) else N ys τ2 H3):=by
  refine ⟨fun i m ys τ H=>m=xs.length - i∧i≤xs.length∧Pv i ys τ H,⟨xs.length,by simp,Nat.zero_le _,h0⟩,?_⟩
  rintro i m ys τ H ⟨rfl,hi,p⟩
  obtain ⟨q,hy⟩:=hl i ys τ H hi p
  by_cases hlt:i < xs.length
  · refine .inr ⟨S.go i H hlt q,Nat.lt_of_lt_of_le (show ys.length < 10000 by omega) (by decide),Pv (i+1),fun ys' τ' H' p'=>⟨xs.length - (i+1),by omega,rfl,hlt,p'⟩,fun x H' y=>?_⟩
    obtain ⟨e,y'⟩:=S.yld i H x H' hlt q y
    subst e
    exact hs i x ys τ _ y' p
  · have e:i=xs.length:=by omega
    subst e
    exact .inl ⟨S.stop H q,fun D hD=>hd ys τ H D p hD⟩
end L2
namespace L2
open PySem PySem.Spec PyProof.Rows
structure Sure2 (J:It) (xs:List (List V)) (ok:Hp→Prop):Prop where
  go:∀ i H,i < xs.length→ok H→J.go i H
  yld:∀ i H x H',i < xs.length→ok H→J.yld i H x H'→∃ T ys,H T=none∧x=.ref T∧H'=upd H T (.tup ys)∧xs[i]? = some ys
  stop:∀ H,ok H→J.stop xs.length H
theorem comp_all {J:It} {xs:List V} {ok:Hp→Prop} {g:TG} {te:TE} {Q:VK} {τ0:St} {H:Hp} (S:Sure J xs ok) (hz:xs.length≤10000) (Pv:Nat→List V→St→Hp→Prop) (h0:Pv 0 [] τ0 H)
    (hl:∀ i ys τ H,i≤xs.length→Pv i ys τ H→ok H∧ys.length≤i)
    (hs:∀ i x ys τ H,xs[i]? = some x→Pv i ys τ H→g x τ H fun τ2 H2=>te τ2 H2 (fun y H4=>Pv (i+1) (ys++[y]) τ2 H4))
    (hd:∀ ys τ H D,Pv xs.length ys τ H→H D=none→Q (.ref D) (upd H D (.lst ys))) :
    ∃ W:Nat→Nat→List V→St→Hp→Prop,(∃ m,W 0 m [] τ0 H)∧∀ i m ys τ H,W i m ys τ H →
      (J.stop i H∧∀ D,H D=none→Q (.ref D) (upd H D (.lst ys))) ∨
      (J.go i H∧ys.length < sizeLine∧∃ N:List V→St→Hp→Prop,(∀ ys' τ' H',N ys' τ' H'→∃ m',m' < m∧W (i+1) m' ys' τ' H') ∧
        ∀ x H',J.yld i H x H'→g x τ H' fun τ2 H2=>tAll τ2 H2 fun b H3=>if b=true then te τ2 H3 (fun y H4=>N (ys++[y]) τ2 H4) else N ys τ2 H3) :=
  comp_by S hz Pv h0 hl (fun i x ys τ H e p=>by
    have:=hs i x ys τ H e p
    have e2:(fun (τ2:St) (H2:Hp)=>tAll τ2 H2 fun b H3=>if b=true then te τ2 H3 (fun y H4=>Pv (i+1) (ys++[y]) τ2 H4) else Pv (i+1) ys τ2 H3)=fun τ2 H2=>te τ2 H2 (fun y H4=>Pv (i+1) (ys++[y]) τ2 H4):=by
      funext τ2 H2
      unfold tAll
      exact if_pos rfl
    rw [e2]
    exact this) hd
end L2
namespace L2
open PySem PySem.Spec PyProof.Rows
section
variable {X:Cx}
theorem strsAre_of:∀ {ss:List Str} {us:List Value},Vals (ss.map V.str) us→StrsAre us ss
  | [],_,r=>by cases r;exact .nil
  | x :: ss,_,r=>by
    cases r with
    | cons h r =>
      obtain ⟨t,rfl⟩:=h
      exact .cons x t (strsAre_of r)
theorem vals_strs:∀ {ss:List Str} {us:List Value},StrsAre us ss→Vals (ss.map V.str) us
  | _,_,.nil=>.nil
  | _,_,.cons y t r=>.cons ⟨t,rfl⟩ (vals_strs r)
theorem vals_by:∀ {xs:List V} {us:List Value},xs.length=us.length→(∀ (i:Nat) x u,xs[i]? = some x→us[i]? = some u→RelV x u)→Vals xs us
  | [],[],_,_=>.nil
  | [],_ :: _,h,_=>by cases h
  | _ :: _,[],h,_=>by cases h
  | x :: xs,u :: us,h,k=>.cons (k 0 x u rfl rfl) (vals_by (Nat.succ.inj h) fun i y v e1 e2=>k (i+1) y v e1 e2)
theorem kv_at:∀ {kvs:List (Key × V)} {vs:List (Key × Value)} {i:Nat} {k:Key} {x:Value},KV kvs vs→vs[i]? = some (k,x)→∃ k' v',kvs[i]? = some (k',v')∧k'=k
  | [],[],i,_,_,_,e=>by cases i <;> cases e
  | p :: kvs,q :: vs,0,k,x,h,e=>by
    cases h with
    | cons h1 h2 =>
      have e':q=(k,x):=Option.some.inj e
      subst e'
      exact ⟨p.1,p.2,rfl,h1.1⟩
  | p :: kvs,q :: vs,i+1,k,x,h,e=>by
    cases h with
    | cons h1 h2=>exact kv_at (i:=i) h2 e
theorem ObjOk.there {P:Program} {w:World} {H:Hp} {h:Heap} {a:Addr} {o:HO} (x:ObjOk P w H h a o):∃ ob,h.get? a=some ob:=by
  cases o with
  | lst xs=>obtain ⟨_,_,_,_,e⟩:=x;exact ⟨_,e⟩
  | tup xs=>obtain ⟨_,_,_,⟨ob,e,_⟩,_⟩:=x;exact ⟨_,e⟩
  | dK kvs=>obtain ⟨_,_,_,_,ob,_,_,e,_⟩:=x;exact ⟨_,e⟩
  | dT kvs=>obtain ⟨_,_,_,_,ob,_,_,e,_⟩:=x;exact ⟨_,e⟩
  | set S n=>obtain ⟨ob,_,_,_,e,_⟩:=x;exact ⟨_,e⟩
  | ins C dx fs=>obtain ⟨_,_,_,e,_⟩:=x;exact ⟨_,e⟩
  | own _=>exact x
  | xd fs=>obtain ⟨mA,⟨ob,_,_,e,_⟩,_⟩:=x;exact ⟨_,e⟩
  | rng lo hi=>obtain ⟨_,_,_,e⟩:=x;exact ⟨_,e⟩
  | frz ob u=>exact ⟨_,x.1⟩
  | tbl ps=>exact ⟨_,x⟩
  | met f y=>exact ⟨_,x⟩
  | ext φ=>exact x.2.1
theorem Inv.laid2 {pins:List (Addr × Obj)} {σ:St} {H:Hp} {s:Shared} {h':Heap} {a:Addr} {o:HO} {t':Nat} (I:Inv X pins σ H s) (k:∀ b u,s.heap.get? b=some u→h'.get? b=some u∧b≠a) (hn:H a=none)
    (new:ObjOk X.prog X.w (upd H a o) h' a o):Inv X pins σ (upd H a o) { s with heap:=h',toks:=t' } :=
  I.un ⟨fun b o e _ _ _=>(k b o e).1,fun b o e _ _ _=>⟨o.slots,(k b o e).1⟩,fun b o e n _=>by rw [upd_ne (k b o e).2];exact n,fun b o e _=>⟨o,(k b o e).1⟩,fun b xs e=>by rw [upd_ne (ne_of_none e hn)];exact e,
    fun b o u e=>by rw [upd_ne (ne_of_none e hn)];exact e,fun b ps e=>⟨#[],by rw [upd_ne (ne_of_none e hn),e];simp⟩⟩ (HOk.add (I.hok.kept fun b u e=>(k b u e).1) hn new)
def rJoin (K:PySem.W.Frag):V→List V→Hp→VK→Prop:=fun x vs H Q=>∃ sep l ss,x=.str sep∧vs=[.ref l]∧SqL K H l (ss.map V.str)∧(ss.map (·.length)).sum+ss.length * sep.length≤16777216∧Q (.str (Txt.join sep ss)) H
theorem mt_join:MtR X "str.join" (rJoin X.K):=by
  intro pins s σ H x vs v us Q I rx rv h
  obtain ⟨sep,l,ss,rfl,rfl,hq,hz,q⟩:=h
  obtain ⟨t,rfl⟩:=rx
  obtain ⟨u,rfl,ru⟩:=vals1 rv
  cases ru
  obtain ⟨its,r',pl,_⟩:=I.list hq
  refine join_list pl.isList (by simpa using strsAre_of r') hz fun t' k=>⟨.str _,H,I.tok _,⟨t',rfl⟩,q⟩
theorem call_list_text (hc:X.calm=true):CallR X (.type "list") (fun xs H Q=>∃ z:Str,xs=[.str z]∧z.cps.size≤10000∧∀ l,H l=none→Q (.ref l) (upd H l (.lst (z.cps.toList.map sign)))):=by
  intro pins s σ H xs us Q I r h
  obtain ⟨z,rfl,hz,q⟩:=h
  obtain ⟨u,rfl,t,rfl⟩:=vals1 r
  refine call_list_str (I.ok.hd hc) z t (fun h' tk acc' c' hk hS hacc=>?_) (Nat.le_trans hz (by decide))
  have hv:Vals (z.cps.toList.map sign) acc'.toList:=by
    have hl:acc'.toList.length=z.cps.size:=by rw [Array.length_toList];exact hacc.1
    refine vals_by (by rw [List.length_map,Array.length_toList,hl]) fun i x u e1 e2=>?_
    obtain ⟨c,t',e3,rfl⟩:=hacc.2 i u (by rw [← Array.getElem?_toList];exact e2)
    rw [List.getElem?_map,Array.getElem?_toList,e3] at e1
    cases e1
    exact ⟨t',rfl⟩
  exact ⟨.ref s.heap.objs.size,_,I.laid hk (Nat.le_refl _) (show ObjOk X.prog X.w _ h' _ (.lst _) from ⟨by rw [List.length_map,Array.length_toList];exact Nat.le_trans hz (by decide),acc'.toList,c',hv,by simpa using hS⟩),rfl,q _ (I.hok.fresh (Nat.le_refl _))⟩
theorem call_isinst:CallR X (.builtin "isinstance") (fun xs H Q=>∃ x T t b,xs=[x,.ty T]∧TyOf X.K H x t∧PySem.W.kitOne X.K t (.type T)=some b∧Q (.bl b) H):=by
  intro pins s σ H xs us Q I r h
  obtain ⟨x,T,t,b,rfl,ty,e,q⟩:=h
  obtain ⟨u,v,rfl,ru,rv⟩:=vals2 r
  cases (show v=Value.type T from rv)
  exact isinst_ok I ru ty e fun tk=>⟨.bl b,H,I.tok _,rfl,q⟩
theorem call_sorted_dict (hc:X.calm=true):CallR X (.builtin "sorted") (fun xs H Q=>∃ (d:Addr) (kvs:List (Key × V)) (ss:List Str),xs=[.ref d]∧H d=some (.dK kvs)∧kvs.map (·.1)=ss.map Sum.inr∧kvs.length < 64 ∧
    ∀ l ss',H l=none→ss'.Perm ss→sortedS ss'=true→Q (.ref l) (upd H l (.lst (ss'.map V.str)))):=by
  intro pins s σ H xs us Q I r h
  obtain ⟨d,kvs,ss,rfl,hd,hk,h64,q⟩:=h
  obtain ⟨u,rfl,ru⟩:=vals1 r
  cases ru
  obtain ⟨hz,lo,vs,hkv,hD⟩:=(show ObjOk X.prog X.w H s.heap d (.dK kvs) from I.hok d _ hd)
  obtain ⟨ep,hat⟩:=hD.dictAt
  have hvl:vs.length=kvs.length:=(Paired.length hkv).symm
  refine Calls.call_function_entry kind_sorted plain_sorted entry_sorted (args_sorted1 _) ?_
  unfold Builtin.«sorted»
  refine wpAny_bind (m:=checkCount "sorted" 1 1 _) (wpAny_pure ?_)
  refine wpAny_bind (PySem.W.kdu_collect (A:=X.A.in1) (PySem.W.kdl_dict (knd:=mixKind X.prog X.w) (kvs:=vs) (ep:=ep) lo) (I.ok.hd hc) hat (by rw [hvl];exact hz) fun h' tk acc hkp hacc=>?_)
  have hal:acc.toList.length=vs.length:=by rw [Array.length_toList];exact hacc.1
  have hS:StrsAre acc.toList ss:=by
    have hsl:ss.length=kvs.length:=by have:=congrArg List.length hk;simpa using this.symm
    refine strsAre_of (vals_by (by rw [List.length_map,hal,hvl,hsl]) fun i x u e1 e2=>?_)
    obtain ⟨k,x',e3,hkk⟩:=hacc.2 i u (by rw [← Array.getElem?_toList];exact e2)
    obtain ⟨k',v',e4,e5⟩:=kv_at hkv e3
    have e6:(kvs.map (·.1))[i]? = some k:=by rw [List.getElem?_map,e4];exact congrArg some e5
    rw [hk,List.getElem?_map] at e6
    rw [List.getElem?_map] at e1
    cases e7:ss[i]? with
    | none=>rw [e7] at e1;cases e1
    | some z =>
      rw [e7] at e1 e6
      cases e1
      have e8:Sum.inr z=k:=Option.some.inj e6
      subst e8
      rcases keyIs_shape (show keyIs (Sum.inr z) u=true from hkk) with ⟨_,_,q1,_⟩ | ⟨y,t,q1,q2⟩
      · cases q1
      · cases q1
        exact ⟨t,q2⟩
  refine wpAny_bind (wpAny_newList ?_ (by rw [hal,hvl];exact hz))
  have hoL:(h'.push { cls:=.type "list",data:=.seq acc.toList.toArray }).get? h'.objs.size=some (seqObj "list" acc.toList.toArray 0):=Heap.get?_push_size _ rfl
  refine wpAny_bind (wpAny_holding (wpAny_call_entry slot_list_sort ⟨_,hoL,rfl⟩ entry_list_sort (list_sort_treeK strKind_oneLt hoL hS.keysOf (fun v₁ v₂ rest e=>keyKind_strs (by rw [← e];exact hS)) (by rw [hal,hvl];exact h64) fun st' a1 a2=>⟨_,rfl,?_⟩) (args_list_sort _)))
  obtain ⟨ss',b1,b2,b3⟩:=sorted_out_str hS a1 a2
  refine wpAny_pure ⟨_,rfl,?_⟩
  have keep:∀ b o,s.heap.get? b=some o→(sortedHeap (h'.push { cls:=.type "list",data:=.seq acc.toList.toArray }) h'.objs.size acc.toList ((arrOf st').map (·.2))).get? b=some o∧b≠h'.objs.size:=fun b o e=>by
    have e1:=hkp b o e
    have lt:=Heap.lt_size e1
    refine ⟨?_,Nat.ne_of_lt lt⟩
    rw [sortedHeap_old (Nat.ne_of_lt lt) (by rw [Heap.size_push];exact Nat.lt_succ_of_lt lt)]
    exact Heap.get?_push_of_some _ e1
  have hn:H h'.objs.size=none:=by
    cases e:H h'.objs.size with
    | none=>rfl
    | some o =>
      obtain ⟨ob,e1⟩:=(I.hok _ _ e).there
      exact absurd (Heap.lt_size (hkp _ _ e1)) (Nat.lt_irrefl _)
  obtain ⟨n',hat'⟩:∃ n',(sortedHeap (h'.push { cls:=.type "list",data:=.seq acc.toList.toArray }) h'.objs.size acc.toList ((arrOf st').map (·.2))).get? h'.objs.size=some (seqObj "list" ((arrOf st').map (·.2)) n'):=sortedHeap_at hoL
  have hsl:ss'.length≤sizeLine:=by
    have h1:=b2.length_eq
    have h2:ss.length=kvs.length:=by have:=congrArg List.length hk;simpa using this.symm
    rw [h1,h2];exact hz
  refine ⟨.ref h'.objs.size,upd H h'.objs.size (.lst (ss'.map V.str)),?_,rfl,q _ _ hn b2 b3⟩
  have J:=Inv.laid2 (X:=X) (t':=tk) (o:=.lst (ss'.map V.str)) I keep hn ⟨by rw [List.length_map];exact hsl,((arrOf st').map (·.2)).toList,n',vals_strs b1,by rw [hat']⟩
  exact J
end
end L2
namespace L2
open PySem PySem.Spec PyProof.Rows
theorem comp_core {X:Cx} {pins:List (Addr × Obj)} {s:Shared} {σ:St} {H:Hp} {Q:VK} {use:Option (Value→Sem Unit)} {Q':Value→Shared→Prop} {cpos:Pos} {tg iter elt:Expr} {ifs:List Expr} {scope:Scope} {pos:Pos} {N':List Str} {ix:List (Option Nat)} {wi:TI} {g:TG} {tc:TT} {te:TE}
    (hc:X.calm=true) (chk:compChk X scope N' ix=true) (hi:PI X tg iter wi)
    (hg:∀ cells C s₀ H₀ ex pn,PG (compCx X scope N' cells C s₀ H₀ ex pn) tg g)
    (ht:∀ cells C s₀ H₀ ex pn,PTs (compCx X scope N' cells C s₀ H₀ ex pn) ifs tc)
    (he:∀ cells C s₀ H₀ ex pn,PE (compCx X scope N' cells C s₀ H₀ ex pn) elt te)
    (hs:∀ x,foldedSetIterable iter X.env x=pure x) (I:Inv X pins σ H s) (h:tComp ix wi g tc te σ H Q)
    (hend:∀ (s2 s4:Shared) (H2 H3:Hp) (C D:Addr) (fp:List Addr) (cells:List (Str × Addr)) (τ:St) (ys:List V) (its:List Value) (k:Nat),Inv X pins σ H2 s2→(∀ b∈fp,FpOk X pins H2 b) →
      Inv (compCx X scope N' cells C s2 H2 fp []) [(D,lobj its k)] τ H3 s4→s2.heap.objs.size≤C→s2.heap.objs.size≤D→D≠C→Vals ys its→ys.length≤sizeLine→Q (.ref D) (upd H3 D (.lst ys)) →
      compPost (model X.prog X.w) X.A X.xe use Q' (.ref D) C (.ok .next) s4) :
    wpAny (model X.prog X.w) X.A (comprehension (.ListComp elt [⟨tg,iter,ifs,0⟩] scope pos) scope X.env cpos (newList []) false (eval iter X.env) use) Q' X.xe s:=by
  unfold compChk at chk
  obtain ⟨chk,k5⟩:=Bool.and_eq_true_iff.mp chk
  obtain ⟨chk,k4⟩:=Bool.and_eq_true_iff.mp chk
  obtain ⟨chk,k3⟩:=Bool.and_eq_true_iff.mp chk
  obtain ⟨k1,k2⟩:=Bool.and_eq_true_iff.mp chk
  have c1:∀ p∈scope.names,scope.names.lookup p.1=some p.2:=fun p hp=>by simpa using List.all_eq_true.mp k1 p hp
  have c2:∀ p∈scope.names,p.2=.free→X.env.scope.names.lookup p.1=some .cell∨X.env.scope.names.lookup p.1=some .free:=fun p hp hf=>by
    have:=List.all_eq_true.mp k2 p hp
    rw [hf] at this
    simpa using this
  have c3:ix.length=N'.length:=by simpa using k3
  have ck:scope.kind=.function:=by simpa using k5
  have c4:∀ (i:Nat) (x:Str) (j:Nat),N'[i]? = some x→ix[i]? = some (some j)→X.N[j]? = some x∧scope.names.lookup x=some .free:=fun i x j e1 e2=>by
    have m:(x,some j)∈N'.zip ix:=by
      refine List.mem_of_getElem? (i:=i) ?_
      rw [List.getElem?_zip_eq_some]
      exact ⟨e1,e2⟩
    have:=List.all_eq_true.mp k4 _ m
    have:=Bool.and_eq_true_iff.mp this
    exact ⟨by simpa using this.1,by simpa using this.2⟩
  obtain ⟨cl,ecl,cl1,cl2⟩:=closure_ok (env:=X.env) (scope:=scope) (fun p hp hf=>I.ok.has p.1 (c2 p hp hf))
  refine wpAny_comprehension_free (use:=use) rfl hs ecl ck (fun y hy hl=>by rw [c1 y hy,hl]) (thn (hi pins s σ H _ I h) fun v s1 h1=>thn h1 fun itv s2 h2=>?_)
  obtain ⟨it,fp,tn,J,H2,e,I2,T,st2,f2,W,⟨m0,w0⟩,turn⟩:=h2
  subst e
  have I5:=comp_inv (N':=N') (ix:=ix) (fp:=fp) c1 c3 c2 c4 ck cl1 cl2 I2 f2 (T.obj _ _ st2)
  refine wpAny_newObj_type ?_
  unfold newFunctionEnv
  refine wpAny_bind (wpAny_alloc ?_)
  refine wpAny_bind (wpAny_layCells _ (fun name kind cells=>by cases hkc:kind == NameKind.cell <;> simp [hkc]) _ _ _ _ ?_)
  refine wpAny_bind ?_
  rw [List.forIn_nil]
  refine wpAny_pure (wpAny_pure ?_)
  have sz3:(s2.heap.push (lobj [] 0)).objs.size=s2.heap.objs.size+1:=Heap.size_push ..
  have sz4:((s2.heap.push (lobj [] 0)).push { cls:=.type "dict",data:=.dict #[] }).objs.size=s2.heap.objs.size+2:=by rw [Heap.size_push,sz3]
  show codeAny (model X.prog X.w) X.A (.compStart (.ListComp elt [⟨tg,iter,ifs,0⟩] scope pos) 0 (.ref it) (.ref s2.heap.objs.size)
    (compCx X scope N' (cellsFrom ((s2.heap.push (lobj [] 0)).push { cls:=.type "dict",data:=.dict #[] }).objs.size scope.names cl) (s2.heap.push (lobj [] 0)).objs.size s2 H2 fp []).env)
    (compPost (model X.prog X.w) X.A X.xe use Q' (.ref s2.heap.objs.size) (s2.heap.push (lobj [] 0)).objs.size)
    { s2 with heap:=pushCells ((s2.heap.push (lobj [] 0)).push { cls:=.type "dict",data:=.dict #[] }) scope.names }
  rw [sz4,sz3]
  generalize hcells:cellsFrom (s2.heap.objs.size+2) scope.names cl=cells at I5 ⊢
  have keep5:∀ b o,s2.heap.get? b=some o→(pushCells ((s2.heap.push (lobj [] 0)).push { cls:=.type "dict",data:=.dict #[] }) scope.names).get? b=some o:=fun b o e =>
    pushCells_keeps _ _ b o (Heap.get?_push_of_some _ (Heap.get?_push_of_some _ e))
  generalize hh5:({ s2 with heap:=pushCells ((s2.heap.push (lobj [] 0)).push { cls:=.type "dict",data:=.dict #[] }) scope.names }:Shared)=s5 at I5 ⊢
  have keep5:∀ b o,s2.heap.get? b=some o→s5.heap.get? b=some o:=by rw [← hh5];exact keep5
  have st5:tn 0 s5.heap:=T.keep _ _ _ st2 fun b hb o e=>keep5 b o e
  have lt2:∀ (b:Nat),b∈fp→b < s2.heap.objs.size:=fun b hb=>by
    obtain ⟨o,e,_⟩:=T.obj _ _ st2 b hb
    exact Heap.lt_size e
  -- the iterator within the block
  have stat:∀ {H':Hp} {o:Obj},(∀ b∈fp,H' b=none)→∀ b∈fp,FpOk (compCx X scope N' cells (s2.heap.objs.size+1) s2 H2 fp []) [(s2.heap.objs.size,o)] H' b:=fun {H' o} hn b hb =>
    ⟨hn b hb,(I5.ok.exf b hb).1,I5.ok.exfs b hb,.inl hb,(I5.ok.exf b hb).2,fun p hp=>by
      have e:p=(s2.heap.objs.size,o):=by simpa using hp
      subst e
      exact Nat.ne_of_gt (lt2 b hb)⟩
  have loop:codeAny (model X.prog X.w) X.A (.compLoop (.ListComp elt [⟨tg,iter,ifs,0⟩] scope pos) 0 (.ref it) (.ref s2.heap.objs.size)
      (compCx X scope N' cells (s2.heap.objs.size+1) s2 H2 fp []).env) (compPost (model X.prog X.w) X.A X.xe use Q' (.ref s2.heap.objs.size) (s2.heap.objs.size+1)) s5:=by
    refine compLoop_go (fun n s'=>∃ i ys τ H' its k,Inv (compCx X scope N' cells (s2.heap.objs.size+1) s2 H2 fp []) [(s2.heap.objs.size,lobj its k)] τ H' s'∧tn i s'.heap∧(∀ b∈fp,H' b=none)∧Vals ys its∧ys.length≤sizeLine∧W i n ys τ H') ?_ m0
      ⟨0,[],_,H2,[],0,I5,st5,fun b hb=>(f2 b hb).1,.nil,Nat.zero_le _,w0⟩
    rintro n s3 ⟨i,ys,τ,H3,its,k,I3,st3,fr3,hv3,hz3,w3⟩
    rcases turn i n ys τ H3 w3 with ⟨stop,qn⟩ | ⟨go,hlen,N,hN,step⟩
    · refine thn (T.done (compCx X scope N' cells (s2.heap.objs.size+1) s2 H2 fp []) rfl rfl rfl hc i _ s3 τ H3 (fun _ _=>False) I3 (stat fr3) st3 stop) fun r s4 ⟨hr,I4⟩=>?_
      subst hr
      obtain ⟨eD,nD,_,_,_⟩:=I4.pin (s2.heap.objs.size,lobj its k) (by simp)
      exact hend s2 s4 H2 H3 _ _ fp cells τ ys its k I2 f2 I4 (Nat.le_succ _) (Nat.le_refl _) (Nat.ne_of_lt (Nat.lt_succ_self _)) hv3 hz3 (qn _ nD)
    · refine thn (T.item (compCx X scope N' cells (s2.heap.objs.size+1) s2 H2 fp []) rfl rfl rfl hc i _ s3 τ H3 (fun _ _=>False) I3 (stat fr3) st3 go) fun r s4 ⟨u,hr,h4⟩=>?_
      subst hr
      refine thn h4 fun _ s5' ⟨x,H5,I5',r5,y5,st5',fr5⟩=>?_
      have I6:=I5'.pinned (stat fr5) (T.obj _ _ st5')
      refine thn (hg cells _ s2 H2 fp [] _ s5' τ H5 x u _ I6 r5 (step x H5 y5)) fun _ s6 ⟨τ6,H6,I7,q6⟩=>?_
      refine thn (ht cells _ s2 H2 fp [] _ s6 τ6 H6 _ I7 q6) fun ok s7 ⟨H7,I8,q7⟩=>?_
      have fin:∀ {s8:Shared} {H8:Hp} {its':List Value} {k':Nat} {ys':List V},Inv (compCx X scope N' cells (s2.heap.objs.size+1) s2 H2 fp []) ([(s2.heap.objs.size,lobj its' k')]++pinsAt fp s5'.heap) τ6 H8 s8→Vals ys' its'→ys'.length≤sizeLine→N ys' τ6 H8 →
          ∃ m,m < n∧∃ i ys τ H' its k,Inv (compCx X scope N' cells (s2.heap.objs.size+1) s2 H2 fp []) [(s2.heap.objs.size,lobj its k)] τ H' s8∧tn i s8.heap∧(∀ b∈fp,H' b=none)∧Vals ys its∧ys.length≤sizeLine∧W i m ys τ H':=fun {s8 H8 its' k' ys'} I9 hv hz n9=>by
        obtain ⟨m',hm,w9⟩:=hN ys' τ6 H8 n9
        refine ⟨m',hm,i+1,ys',τ6,H8,its',k',I9.unpinned,T.keep _ _ _ st5' fun b hb o e=>(I9.pin (b,o) (List.mem_append_right _ (List.mem_append_right _ (mem_pinsAt hb e)))).1,fun b hb=>?_,hv,hz,w9⟩
        obtain ⟨o,e,d⟩:=T.obj _ _ st5' b hb
        exact (I9.pin (b,o) (List.mem_append_right _ (List.mem_append_right _ (mem_pinsAt hb e)))).2.1
      cases ok with
      | false=>exact fin I8 hv3 hz3 q7
      | true =>
        refine thn (he cells _ s2 H2 fp [] _ s7 τ6 H7 _ I8 q7) fun y s8 ⟨v8,H8,I9,r8,q8⟩=>?_
        obtain ⟨eD,nD,dL,dF,_⟩:=I9.pin (s2.heap.objs.size,lobj its k) (by simp)
        have hl:=hv3.length
        refine append_un (X:=X) (τ:=τ) (H':=H8) (by omega) eD fun h' k' eD' kp=>?_
        -- the pin on the list is let go,the list turns,and is pinned anew
        have hx:∀ p∈pinsAt fp s5'.heap,p.1≠s2.heap.objs.size:=fun p hp=>by
          have:=lt2 p.1 (of_pinsAt hp).1
          exact Nat.ne_of_lt this
        have J1:Inv (compCx X scope N' cells (s2.heap.objs.size+1) s2 H2 fp []) (pinsAt fp s5'.heap) τ6 H8 s8:=I9.pins_of fun p hp=>I9.pin p (List.mem_append_right _ (List.mem_append_right _ hp))
        have J2:Inv (compCx X scope N' cells (s2.heap.objs.size+1) s2 H2 fp []) (pinsAt fp s5'.heap) τ6 H8 { s8 with heap:=h' }:=J1.turned (t':=s8.toks) (it:=s2.heap.objs.size) kp nD dL (.inr (Nat.le_refl _)) (fun x c e z=>by
          obtain ⟨v,o,ho,hd⟩:=J1.cell x c e
          rw [z,eD] at ho
          cases ho
          cases hd) fun p hp=>hx p (by simpa using hp)
        have J3:Inv (compCx X scope N' cells (s2.heap.objs.size+1) s2 H2 fp []) ([(s2.heap.objs.size,lobj (its++[y]) k')]++pinsAt fp s5'.heap) τ6 H8 { s8 with heap:=h' }:=J2.pins_of fun p hp=>by
          rcases List.mem_append.mp hp with z | z
          · have e:p=(s2.heap.objs.size,lobj (its++[y]) k'):=by simpa using z
            subst e
            exact ⟨eD',nD,dL,dF,fun v z=>by cases z⟩
          · exact J2.pin p (List.mem_append_right _ z)
        exact fin J3 (hv3.append (.cons r8 .nil)) (by rw [List.length_append,List.length_singleton];omega) q8
  exact codeAny_compStart_list loop (T.self X.A 0 s5 _ _ st5 loop)
theorem ps_setC {X:Cx} {tg iter elt:Expr} {ifs:List Expr} {scope:Scope} {pos px spos:Pos} {N':List Str} {ix:List (Option Nat)} {wi:TI} {g:TG} {tc:TT} {te:TE} {i:Nat} {x:Str}
    (hN:X.N.Nodup) (hi0:X.N[i]? = some x) (hx:X.env.scope.names.lookup x=some .local)
    (hc:X.calm=true) (chk:compChk X scope N' ix=true) (hi:PI X tg iter wi)
    (hg:∀ cells C s₀ H₀ ex pn,PG (compCx X scope N' cells C s₀ H₀ ex pn) tg g)
    (ht:∀ cells C s₀ H₀ ex pn,PTs (compCx X scope N' cells C s₀ H₀ ex pn) ifs tc)
    (he:∀ cells C s₀ H₀ ex pn,PE (compCx X scope N' cells C s₀ H₀ ex pn) elt te)
    (hs:∀ x,foldedSetIterable iter X.env x=pure x:=by intro _;rfl)
    (hsw:swapsWith (.ListComp elt [⟨tg,iter,ifs,0⟩] scope pos) (some (.Name x px)) spos.line X.env=pure true:=by rfl) :
    PS X (.Assign [.Name x px] (.ListComp elt [⟨tg,iter,ifs,0⟩] scope pos) spos) (fun D σ H=>tComp ix wi g tc te σ H fun v H1=>D.nx (σ.set i (some v)) H1):=by
  intro pins s σ H D I h
  rw [exec_Assign_Name_used _ _ _ _ hsw]
  refine wpAny_bind (wpAny_standAt (wpAny_bind ?_))
  show wpAny _ X.A (comprehension (.ListComp elt [⟨tg,iter,ifs,0⟩] scope pos) scope X.env _ (newList []) false (eval iter X.env) (some (assign (.Name x px) X.env)) >>= fun _=>pure ()) _ _ s
  refine wpAny_bind (wpAny_mono (comp_core (use:=some (assign (.Name x px) X.env)) (Q':=fun _ s'=>SP X pins D .next s') hc chk hi hg ht he hs I h ?_) (fun _ s' hq=>wpAny_pure (wpAny_pure hq)) fun _ _ e=>e)
  intro s2 s4 H2 H3 C Da fp cells τ ys its k I2 f2 I4 hC hD hDC hv hz q
  obtain ⟨eD,nD,_,_,_⟩:=I4.pin (Da,lobj its k) (by simp)
  have I5:Inv X pins σ (upd H3 Da (.lst ys)) s4:=comp_end I2 f2 I4 hC hD hDC nD eD hv hz (Heap.SameBut.refl _ _)
  show wpAny _ X.A (assign (.Name x px) X.env (.ref Da)) _ _ s4
  refine wpAny_assign_Name (store_ok2 I5 hN hi0 (.inl hx) (show RelV (.ref Da) (.ref Da) from rfl) (fun s6 I6 ⟨a,sb,ha⟩=>?_) (.inr hx))
  obtain ⟨m,hn,_⟩:=I4.loc
  have neL:C≠X.env.locals:=Nat.ne_of_gt (Nat.lt_of_lt_of_le I2.lt hC)
  have cne:∀ y c,X.env.cells.lookup y=some c→c≠C:=fun y c e=>by
    obtain ⟨v,z⟩:=I2.cell y c e
    exact Nat.ne_of_lt (Nat.lt_of_lt_of_le z.lt hC)
  have nea:C≠a:=by
    rcases ha with e | e
    · rw [e];exact neL
    · exact (cne x a e).symm
  refine ⟨m,hn.sameBut sb nea,fun h' sb'=>⟨σ.set i (some (.ref Da)),upd H3 Da (.lst ys),?_,q⟩⟩
  have nC:upd H3 Da (.lst ys) C=none:=by rw [upd_ne hDC.symm];exact I4.free
  refine I6.turned (t':=s6.toks) (it:=C) (fun b o hb e=>(sb'.2 b hb).trans e) nC neL (.inr (Nat.le_trans I2.sz hC)) cne fun p hp z=>?_
  have:=Heap.lt_size (I2.pin p hp).1
  rw [z] at this
  exact absurd (Nat.lt_of_lt_of_le this hC) (Nat.lt_irrefl _)
end L2
namespace L2
open PySem PySem.Spec PyProof.Rows
end L2
namespace L2
open PySem PySem.Spec PyProof.Rows
theorem comp_allR {J:It} {xs:List V} {ok:Hp→Prop} {g:TG} {te:TE} {R:Addr→List V→Hp→Prop} {τ0:St} {H:Hp} (S:Sure J xs ok) (hz:xs.length≤10000) (Pv:Nat→List V→St→Hp→Prop) (h0:Pv 0 [] τ0 H)
    (hl:∀ i ys τ H,i≤xs.length→Pv i ys τ H→ok H∧ys.length≤i)
    (hs:∀ i x ys τ H,xs[i]? = some x→Pv i ys τ H→g x τ H fun τ2 H2=>te τ2 H2 (fun y H4=>Pv (i+1) (ys++[y]) τ2 H4))
    (hd:∀ ys τ H D,Pv xs.length ys τ H→H D=none→R D ys H) :
    ∃ W:Nat→Nat→List V→St→Hp→Prop,(∃ m,W 0 m [] τ0 H)∧∀ i m ys τ H,W i m ys τ H →
      (J.stop i H∧∀ D,H D=none→R D ys H) ∨
      (J.go i H∧ys.length < sizeLine∧∃ N:List V→St→Hp→Prop,(∀ ys' τ' H',N ys' τ' H'→∃ m',m' < m∧W (i+1) m' ys' τ' H') ∧
        ∀ x H',J.yld i H x H'→g x τ H' fun τ2 H2=>tAll τ2 H2 fun b H3=>if b=true then te τ2 H3 (fun y H4=>N (ys++[y]) τ2 H4) else N ys τ2 H3):=by
  refine ⟨fun i m ys τ H=>m=xs.length - i∧i≤xs.length∧Pv i ys τ H,⟨xs.length,by simp,Nat.zero_le _,h0⟩,?_⟩
  rintro i m ys τ H ⟨rfl,hi,p⟩
  obtain ⟨q,hy⟩:=hl i ys τ H hi p
  by_cases hlt:i < xs.length
  · refine .inr ⟨S.go i H hlt q,Nat.lt_of_lt_of_le (show ys.length < 10000 by omega) (by decide),Pv (i+1),fun ys' τ' H' p'=>⟨xs.length - (i+1),by omega,rfl,hlt,p'⟩,fun x H' y=>?_⟩
    obtain ⟨e,y'⟩:=S.yld i H x H' hlt q y
    subst e
    have e2:(fun (τ2:St) (H2:Hp)=>tAll τ2 H2 fun b H3=>if b=true then te τ2 H3 (fun y H4=>Pv (i+1) (ys++[y]) τ2 H4) else Pv (i+1) ys τ2 H3)=fun τ2 H2=>te τ2 H2 (fun y H4=>Pv (i+1) (ys++[y]) τ2 H4):=by
      funext τ2 H2
      unfold tAll
      exact if_pos rfl
    rw [e2]
    exact hs i x ys τ _ y' p
  · have e:i=xs.length:=by omega
    subst e
    exact .inl ⟨S.stop H q,fun D hD=>hd ys τ H D p hD⟩
end L2
namespace L2
open PySem PySem.Spec PyProof.Rows
section
variable {X:Cx} (K:PySem.W.Frag)
theorem pi_listK {tg l:Expr} {tl:TE} (hl:PE X l tl) (hK:X.K=K:=by rfl):PI X tg l (iList K tl):=by subst hK;exact pi_list hl
theorem pi_tupK {tg l:Expr} {tl:TE} (hl:PE X l tl) (hK:X.K=K:=by rfl):PI X tg l (iTup K tl):=by subst hK;exact pi_tup hl
theorem ix_listK (hK:X.K=K:=by rfl):IxR X (rIxL K):=by subst hK;exact ix_list
theorem ix_tupK (hK:X.K=K:=by rfl):IxR X (rIxT K):=by subst hK;exact ix_tup
theorem sl_listK (hK:X.K=K:=by rfl):SlR X (rSlL K):=by subst hK;exact sl_list
theorem op_in_seqK (hK:X.K=K:=by rfl):OpR X (compareOp .In) (rIn K false):=by subst hK;exact op_in_seq
theorem op_notin_seqK (hK:X.K=K:=by rfl):OpR X (compareOp .NotIn) (rIn K true):=by subst hK;exact op_notIn_seq
def rLen (K:PySem.W.Frag):List V→Hp→VK→Prop:=fun xs H Q=>∃ p ys,xs=[.ref p]∧(SqL K H p ys∨SqT K H p ys)∧Q (.int ys.length) H
theorem call_lenK (hK:X.K=K:=by rfl):CallR X (.builtin "len") (rLen K):=by subst hK;exact call_len_seq
def rIsi (K:PySem.W.Frag):List V→Hp→VK→Prop:=fun xs H Q=>∃ x T t b,xs=[x,.ty T]∧TyOf K H x t∧PySem.W.kitOne K t (.type T)=some b∧Q (.bl b) H
theorem call_isinstK (hK:X.K=K:=by rfl):CallR X (.builtin "isinstance") (rIsi K):=by subst hK;exact call_isinst
def rListOf (K:PySem.W.Frag):List V→Hp→VK→Prop:=fun xs H Q=>∃ p ys,xs=[.ref p]∧(SqL K H p ys∨SqT K H p ys)∧∀ l,H l=none→Q (.ref l) (upd H l (.lst ys))
theorem call_list_ofK (hK:X.K=K:=by rfl):CallR X (.type "list") (rListOf K):=by subst hK;exact call_list_of
def rTupOf (K:PySem.W.Frag):List V→Hp→VK→Prop:=fun xs H Q=>∃ p ys,xs=[.ref p]∧((SqL K H p ys∧∀ l,H l=none→Q (.ref l) (upd H l (.tup ys)))∨(SqT K H p ys∧Q (.ref p) H))
theorem call_tuple_ofK (hK:X.K=K:=by rfl):CallR X (.type "tuple") (rTupOf K):=by subst hK;exact call_tuple_of
theorem mt_joinK (hK:X.K=K:=by rfl):MtR X "str.join" (rJoin K):=by subst hK;exact mt_join
def tTru (K:PySem.W.Frag) (ta:TE):TT:=fun σ H Q=>ta σ H fun x H'=>∃ k,TruV K x H' k∧Q k H'
theorem pt_truthK {a:Expr} {ta:TE} (ha:PE X a ta) (he:∀ whole,isTrue a X.env whole=(do let v ← whole;standAt a.pos;holding [v] (truthy v))) (hK:X.K=K:=by rfl):PT X a (tTru K ta):=by subst hK;exact pt_truth ha he
theorem pg_tupK {es:List Expr} {k:Nat} {t:TGs} {n:Nat} {pos:Pos} (hc:X.calm=true) (h:PGs X es t) (hn:(assignEach es X.env).length=n:=by rfl) (hst:(assignEach es X.env).findIdx? (·.1)=none:=by rfl) (hK:X.K=K:=by rfl):PG X (.Tuple es k pos) (gTup K n t):=by
  subst hK;exact pg_tup hc h hn hst
theorem pe_bm0K {o:Expr} {to:TE} {name:Str} {apos cpos:Pos} {T id:String} {r:V→List V→Hp→VK→Prop} (pa:PlainAttrs T) (slot:Slot T name id) (hty:typeOf (.builtin id)=pure (.type "method_descriptor")) (hm:MtR X id r) (ho:PE X o to)
    (hbase:attributeBase o name X.env (eval o X.env)=eval o X.env:=by rfl) (hline:(apos.endLine == cpos.line)=true:=by rfl) (hK:X.K=K:=by rfl):PE X (.Call (.Attribute o name apos) [] [] cpos) (tBM0 K T r to):=by
  subst hK;exact pe_bm0 pa slot hty hm ho hbase hline
theorem pe_bmK {o e:Expr} {es:List Expr} {to:TE} {t:TA} {name:Str} {apos cpos:Pos} {T id:String} {r:V→List V→Hp→VK→Prop} (pa:PlainAttrs T) (slot:Slot T name id) (hty:typeOf (.builtin id)=pure (.type "method_descriptor")) (hm:MtR X id r) (ho:PE X o to) (ha:PA X (e :: es) t)
    (hbase:attributeBase o name X.env (eval o X.env)=eval o X.env:=by rfl)
    (hfew:((backTo cpos (starEach (e :: es) X.env)).all (fun x=>!x.1) && (backToKw cpos (keywordEach [] X.env)).all (fun x=>x.1.isSome) && decide ((e :: es).length+([]:List Keyword).length+(if ([]:List Keyword).isEmpty then 0 else 1) < 30))=true:=by rfl)
    (hline:(apos.endLine == cpos.line)=true:=by rfl) (hs:starEach (e :: es) X.env=(false,eval e X.env) :: starEach es X.env:=by rfl) (hplain:(backTo cpos (starEach es X.env)).any (·.1)=false:=by rfl) (hK:X.K=K:=by rfl) :
    PE X (.Call (.Attribute o name apos) (e :: es) [] cpos) (tBM K T r to t):=by
  subst hK;exact pe_bm pa slot hty hm ho ha hbase hfew hline hs hplain
end
def CDivB (i j:Int):Prop:=0 < j∧j≤100000000000000000000000000000000000000000000000000000000000000000000000000000000
theorem op_fdivB {X:Cx}:OpR X (binaryOp .FloorDiv) (rI CDivB fun i j=>.int (i / j)):=opI fun i j _ _ _ _ _ hc q=>by
  rw [← Int.fdiv_eq_ediv_of_nonneg i (Int.le_of_lt hc.1)] at q
  refine floordiv_int (by have:=hc.1;omega) q (.inl (PyProof.noPylong_of_log2 ?_))
  obtain ⟨h1,h2⟩:=hc
  have h0:j.natAbs≠0:=by omega
  have h3:j.natAbs < 2 ^ 300:=Nat.lt_of_le_of_lt (show j.natAbs≤100000000000000000000000000000000000000000000000000000000000000000000000000000000 by omega) (by decide +kernel)
  exact Nat.lt_trans ((Nat.log2_lt h0).mpr h3) (by decide)
end L2
namespace L2
open PySem PySem.Spec PyProof.Rows
theorem dictOf_keep {P:Program} {w:World} {κ:Type} [DecidableEq κ] {knd:KeyKind P w κ} {d:Addr} {kvs:List (κ × Value)} {h h':Heap} (m:h.DictOf knd d kvs) (e:∀ o,h.get? d=some o→h'.get? d=some o):h'.DictOf knd d kvs:=by
  obtain ⟨o,es,ep,ho,r⟩:=m
  exact ⟨o,es,ep,e o ho,r⟩
theorem entry_upd_loop:entryFor table "dict.update.loop" = some Builtin.«dict.update.loop»:=entryFor_of_tree (by kernel_rfl)
theorem plain_upd_loop:plainId "dict.update.loop" = true:=by decide +kernel
theorem upd_loop {P:Program} {w:World} {A:Around} {κ:Type} [DecidableEq κ] {knd:KeyKind P w κ} {it d:Addr} {fp wr:List Addr} {n:Nat} {Pv:Nat→Value→Prop} {St:Nat→Heap→Prop} {R:Result→Shared→Prop}
    (W:Walks P w A.in1 it fp wr n Pv St) (hd:d ∉ fp) (kvs:List (κ × Value)) (hn:kvs.length=n) (nd:(kvs.map (·.1)).Nodup) (ads:Nat→Addr) (hP:∀ i v,i < n→Pv i v→v=.ref (ads i)) (hw:∀ i,i < n→ads i ∉ wr∧ads i≠d) (hz:n≤sizeLine) :
    ∀ (m i:Nat) (s:Shared),i+m=n→St i s.heap→s.heap.DictOf knd d (kvs.take i)→(∀ j p,kvs[j]? = some p→∃ key,knd.is p.1 key=true∧IsTup s.heap (ads j) #[key,p.2]) →
      (∀ h' tk,h'.DictOf knd d kvs→(∀ b o,b ∉ wr→b≠d→s.heap.get? b=some o→h'.get? b=some o)→R (.ok (.ret .none)) { s with heap:=h',toks:=tk }) →
      codeAny (model P w) A (.builtin "dict.update.loop" ⟨[.ref d,.ref it,.int i 0,.none],[]⟩) R s
  | 0,i,s,hi,st,hD,hT,q=>by
    refine codeAny_builtin entry_upd_loop ?_
    rw [Around.under_plainId plain_upd_loop]
    have e:i=n:=by omega
    subst e
    unfold Builtin.«dict.update.loop»
    show wpAny _ _ (pyNext (.ref it) >>= _) _ _ _
    refine wpAny_bind (W.done s _ _ st fun h' tk kk=>?_)
    show wpAny _ _ (Builtin.Dict.addKeywords d [] >>= _) _ _ _
    refine wpAny_bind (wpAny_pure (wpAny_pure ?_))
    have hdw:d ∉ wr:=fun z=>hd (W.sub d z)
    refine q h' tk ?_ fun b o hb _ e=>kk b o hb e
    have hD':=dictOf_keep (h':=h') hD fun o e=>kk d o hdw e
    rw [← hn,List.take_length] at hD'
    exact hD'
  | m+1,i,s,hi,st,hD,hT,q=>by
    refine codeAny_builtin entry_upd_loop ?_
    rw [Around.under_plainId plain_upd_loop]
    unfold Builtin.«dict.update.loop»
    show wpAny _ _ (pyNext (.ref it) >>= _) _ _ _
    refine wpAny_bind (W.item i s _ _ (by omega) st fun v h' tk hv st' kk=>?_)
    have ev:=hP i v (by omega) hv
    subst ev
    have hil:i < kvs.length:=by omega
    obtain ⟨key,hk,ht⟩:=hT i kvs[i] (List.getElem?_eq_getElem hil)
    have ht':IsTup h' (ads i) #[key,kvs[i].2]:=by
      obtain ⟨o,ho,r⟩:=ht
      exact ⟨o,kk _ o (hw i (by omega)).1 ho,r⟩
    obtain ⟨o,ho,hoc,no,hod⟩:=id ht'
    have tT:({ s with heap:=h',toks:=tk }:Shared).TypeIs (.ref (ads i)) "tuple":=⟨o,ho,hoc⟩
    refine wpAny_bind (wpAny_holding ?_)
    refine wpAny_bind (wpAny_tryCatch ?_)
    unfold Builtin.Dict.pairItems
    refine wpAny_bind (wpAny_typeOf tT ?_)
    rw [if_pos (by decide)]
    refine wpAny_bind (wpAny_seqItems ho hod (wpAny_pure ?_))
    show wpAny _ _ (holding [key,kvs[i].2] (dictSet d key kvs[i].2)) _ _ _
    have hdw:d ∉ wr:=fun z=>hd (W.sub d z)
    have hD':=dictOf_keep (h':=h') hD fun o e=>kk d o hdw e
    refine wpAny_holding (wpAny_dictSet_pairs (s:={ s with heap:=h',toks:=tk }) hk hD' (fun h2 hD2 hs2=>?_) (by rw [List.length_take];omega))
    have en:stored (kvs.take i) kvs[i].1 kvs[i].2=kvs.take (i+1):=by
      unfold stored
      rw [if_neg,List.take_add_one,List.getElem?_eq_getElem hil]
      · rfl
      · intro z
        obtain ⟨p,hp,hpe⟩:=List.any_eq_true.mp z
        have hpe':p.1=kvs[i].1:=of_decide_eq_true hpe
        have:=nd
        rw [← List.take_append_drop i kvs,List.map_append] at this
        obtain ⟨_,_,dis⟩:=List.nodup_append.mp this
        refine dis p.1 (List.mem_map_of_mem hp) kvs[i].1 ?_ hpe'
        rw [List.drop_eq_getElem_cons hil]
        exact List.mem_map_of_mem List.mem_cons_self
    rw [en] at hD2
    refine wpAny_pure ⟨plainId_quiet plain_upd_loop _,?_⟩
    have st2:St (i+1) h2:=W.frame (i+1) h' h2 st' fun b hb o e=>hs2.extBut _ _ (fun z=>hd (by rw [← z];exact hb)) e
    have ei:rawInt ((i:Int)+1)=.int ((i+1:Nat):Int) 0:=by unfold rawInt;push_cast;rfl
    rw [ei]
    refine upd_loop W hd kvs hn nd ads hP hw hz m (i+1) { s with heap:=h2,toks:=tk+1 } (by omega) st2 hD2 (fun j p hj=>?_) fun h3 tk3 hD3 k3=>q h3 tk3 hD3 fun b o hb hbd e=>k3 b o hb hbd (hs2.extBut _ _ hbd (kk b o hb e))
    obtain ⟨key',hk',o',ho',r'⟩:=hT j p hj
    have hj':j < n:=by rw [← hn];exact (List.getElem?_eq_some_iff.mp hj).1
    exact ⟨key',hk',o',hs2.extBut _ _ (hw j hj').2 (kk _ _ (hw j hj').1 ho'),r'⟩
inductive PairsAt (H:Hp):List Addr→List (Key × V)→Prop where
  | nil:PairsAt H [] []
  | cons {p:Addr} {ps:List Addr} {k:Key} {v:V} {kvs:List (Key × V)}:H p=some (.tup [kV k,v])→PairsAt H ps kvs→PairsAt H (p :: ps) ((k,v) :: kvs)
theorem PairsAt.len {H:Hp}:∀ {ps:List Addr} {kvs:List (Key × V)},PairsAt H ps kvs→ps.length=kvs.length
  | _,_,.nil=>rfl
  | _,_,.cons _ r=>congrArg (· + 1) r.len
theorem PairsAt.mem {H:Hp}:∀ {ps:List Addr} {kvs:List (Key × V)},PairsAt H ps kvs→∀ p∈ps,∃ o,H p=some o
  | _,_,.nil,p,h=>by simp at h
  | _,_,.cons e r,p,h=>by
    rcases List.mem_cons.mp h with z | z
    · rw [z];exact ⟨_,e⟩
    · exact r.mem p z
theorem PairsAt.real {X:Cx} {pins:List (Addr × Obj)} {σ:St} {H:Hp} {s:Shared} (I:Inv X pins σ H s):∀ {ps:List Addr} {kvs:List (Key × V)},PairsAt H ps kvs →
    ∃ vs:List (Key × Value),KV kvs vs∧∀ (j:Nat) p,vs[j]? = some p→∃ key,(mixKind X.prog X.w).is p.1 key=true∧IsTup s.heap (ps.getD j 0) #[key,p.2]
  | _,_,.nil=>⟨[],.nil,fun j p e=>by simp at e⟩
  | _,_,.cons (p:=a) (k:=k) (v:=v) e r=>by
    obtain ⟨vs,hv,h⟩:=r.real I
    obtain ⟨its,rv,ht,_⟩:=I.tuple (SqT.of e)
    cases rv with
    | cons r1 rr =>
      rename_i key its1
      cases rr with
      | cons r2 rr2 =>
        rename_i val its2
        cases rr2
        refine ⟨(k,val) :: vs,.cons ⟨rfl,r2⟩ hv,fun j p ep=>?_⟩
        cases j with
        | zero =>
          cases ep
          exact ⟨key,kV_is r1,ht⟩
        | succ j=>exact h j p ep
theorem kv_keys {κ:Type}:∀ {kvs:List (κ × V)} {vs:List (κ × Value)},KV kvs vs→vs.map (·.1)=kvs.map (·.1)
  | _,_,.nil=>rfl
  | _,_,.cons h r=>by
    rw [List.map_cons,List.map_cons,kv_keys r,h.1]
end L2
namespace L2
open PySem PySem.Spec PyProof.Rows
end L2
namespace L2
open PySem PySem.Spec PyProof.Rows
section
variable {P:Program} {w:World} {A:Around} {E:Value→Shared→Prop} {s:Shared}
end
structure Src (P:Program) (w:World) (it sq:Addr) (xs:Array Value) (St:Nat→Heap→Prop):Prop where
  keep:∀ k h h',St k h→(∀ b,b=it∨b=sq→∀ o,h.get? b=some o→h'.get? b=some o)→St k h'
  obj:∀ k h,St k h→∃ o vs,h.get? it=some o∧o.data=.fields vs
  item:∀ (A:Around) (E:Value→Shared→Prop) (k:Nat) (s:Shared) (x:Value) (Q:Value→Shared→Prop),St k s.heap→xs[k]? = some x →
    (∀ h',St (k+1) h'→Heap.SameBut it s.heap h'→Q x { s with heap:=h' })→wpAny (model P w) A (Builtin.SmallTypes.nextOf (.ref it)) Q E s
  fin:∀ (A:Around) (E:Value→Shared→Prop) (k:Nat) (s:Shared) (Q:Value→Shared→Prop),A.handled=none→St k s.heap→xs[k]? = none →
    (∀ h' e,Heap.ExtBut it s.heap h'→(∃ o,h'.get? e=some o∧o.cls=.type "StopIteration")→E (.ref e) { s with heap:=h' })→wpAny (model P w) A (Builtin.SmallTypes.nextOf (.ref it)) Q E s
theorem Src.off {P:Program} {w:World} {it sq:Addr} {xs:Array Value} {St:Nat→Heap→Prop} (S:Src P w it sq xs St) {k:Nat} {h h':Heap} {b:Addr} (st:St k h) (e:Heap.ExtBut b h h') (n1:it≠b) (n2:sq≠b):St k h' :=
  S.keep k h h' st fun c hc o ho=>e c o (by rcases hc with z | z <;> rw [z] <;> assumption) ho
section
variable {P:Program} {w:World} {A:Around} {E:Value→Shared→Prop} {s:Shared} {z TI TO i1 i2 l1 l2:Addr} {xs ys:Array Value} {S1 S2:Nat→Heap→Prop}
end
def SqA (K:PySem.W.Frag) (H:Hp) (a:Addr) (xs:List V):Bool→Prop
  | true=>SqT K H a xs
  | false=>SqL K H a xs
def ItA (h:Heap) (it l:Addr) (k:Nat):Bool→Prop
  | true=>IsTupIter h it l k
  | false=>h.IsListIter it l k
def HasA (h:Heap) (l:Addr) (xs:Array Value):Bool→Prop
  | true=>IsTup h l xs
  | false=>h.IsList l xs
theorem ItA.at {h h':Heap} {it l:Addr} {k:Nat} (e:∀ o,h.get? it=some o→h'.get? it=some o):∀ {b:Bool},ItA h it l k b→ItA h' it l k b
  | true,x=>let ⟨o,ho,r⟩:=(show IsTupIter h it l k from x);⟨o,e o ho,r⟩
  | false,x=>let ⟨o,ho,r⟩:=(show h.IsListIter it l k from x);⟨o,e o ho,r⟩
theorem ItA.obj {h:Heap} {it l:Addr} {k:Nat}:∀ {b:Bool},ItA h it l k b→∃ o,h.get? it=some o∧o.data=.fields #[.ref l,.int k 0]∧(o.cls=.type "tuple_iterator"∨o.cls=.type "list_iterator")
  | true,x=>let ⟨o,ho,c,d⟩:=(show IsTupIter h it l k from x);⟨o,ho,d,.inl c⟩
  | false,x=>let ⟨o,ho,c,d⟩:=(show h.IsListIter it l k from x);⟨o,ho,d,.inr c⟩
theorem HasA.obj {h:Heap} {l:Addr} {xs:Array Value}:∀ {b:Bool},HasA h l xs b→∃ o,h.get? l=some o∧(o.cls=.type "tuple"∨o.cls=.type "list")∧∃ n,o.data=.seq xs n
  | true,x=>let ⟨o,ho,c,n,d⟩:=(show IsTup h l xs from x);⟨o,ho,.inl c,n,d⟩
  | false,x=>let ⟨o,ho,c,n,d⟩:=(show h.IsList l xs from x);⟨o,ho,.inr c,n,d⟩
theorem Inv.seqA {X:Cx} {pins:List (Addr × Obj)} {σ:St} {H:Hp} {s:Shared} {a:Addr} {xs:List V} (I:Inv X pins σ H s):∀ {b:Bool},SqA X.K H a xs b→∃ its:List Value,Vals xs its∧HasA s.heap a its.toArray b∧xs.length≤sizeLine
  | true,h=>let ⟨its,r,p,z⟩:=I.tuple h;⟨its,r,p,z⟩
  | false,h=>let ⟨its,r,p,z⟩:=I.list h;⟨its,r,p.isList,z⟩
theorem HasA.keep {h h':Heap} {l:Addr} {xs:Array Value} (e:∀ o,h.get? l=some o→h'.get? l=some o):∀ {b:Bool},HasA h l xs b→HasA h' l xs b
  | true,x=>let ⟨o,ho,r⟩:=(show IsTup h l xs from x);⟨o,e o ho,r⟩
  | false,x=>let ⟨o,ho,r⟩:=(show h.IsList l xs from x);⟨o,e o ho,r⟩
end L2
namespace L2
open PySem PySem.Spec PyProof.Rows
inductive VSame (K:PySem.W.Frag) (H:Hp):Nat→V→V→Prop where
  | flat {n:Nat} {x:V} (h:flatV x=true):VSame K H n x x
  | seq {n:Nat} {a b:Addr} {xs ys:List V} (t:Bool) (ha:SqA K H a xs t) (hb:SqA K H b ys t) (hl:xs.length=ys.length) (h:∀ (i:Nat) x y,xs[i]? = some x→ys[i]? = some y→VSame K H n x y):VSame K H (n+1) (.ref a) (.ref b)
theorem eqV_refl {x:V} (h:flatV x=true):eqV x x=true:=by
  cases x <;> first | (cases h;done) | (simp [eqV])
section
variable {X:Cx} {pins:List (Addr × Obj)} {σ:St} {H:Hp} {s:Shared}
theorem all_true (n:Nat):((List.range n).all fun _=>true)=true:=by simp
theorem items_same {n:Nat} {A:Around} {xs ys:List V} {i1 i2:List Value} (r1:Vals xs i1) (r2:Vals ys i2) (ih:∀ (i:Nat) x y u v,xs[i]? = some x→ys[i]? = some y→RelV x u→RelV y v→SeqAt.EqAt A s u v true) :
    ∀ j (h1:j < i1.toArray.size) (h2:j < i2.toArray.size),SeqAt.EqAt A s i1.toArray[j] i2.toArray[j] true:=fun j h1 h2=>by
  have l1:=r1.length
  have l2:=r2.length
  have h1':j < xs.length:=by simpa [l1] using h1
  have h2':j < ys.length:=by simpa [l2] using h2
  obtain ⟨u1,f1,g1⟩:=r1.get (List.getElem?_eq_getElem h1')
  obtain ⟨u2,f2,g2⟩:=r2.get (List.getElem?_eq_getElem h2')
  have k1:i1.toArray[j]=u1:=by
    have:=(List.getElem?_eq_some_iff.mp f1).2
    simpa using this
  have k2:i2.toArray[j]=u2:=by
    have:=(List.getElem?_eq_some_iff.mp f2).2
    simpa using this
  rw [k1,k2]
  exact ih j _ _ _ _ (List.getElem?_eq_getElem h1') (List.getElem?_eq_getElem h2') g1 g2
theorem rc_seq {A:Around} {t:Bool} {a b:Addr} {i1 i2:List Value} (p1:HasA s.heap a i1.toArray t) (p2:HasA s.heap b i2.toArray t) (hl:i1.length=i2.length) (hu:A.units < cLine)
    (h:∀ j (h1:j < i1.toArray.size) (h2:j < i2.toArray.size),SeqAt.EqAt A.in1 s i1.toArray[j] i2.toArray[j] true):SeqAt.RcAt A s (.ref a) (.ref b) true:=by
  cases t with
  | false =>
    have:=SeqAt.RcAt.lists (e:=fun _=>true) p1 p2 (by simpa using hl) hu h
    rwa [all_true] at this
  | true =>
    have:=SeqAt.RcAt.tuples (e:=fun _=>true) p1 p2 hu h
    rw [all_true] at this
    simpa [hl] using this
theorem eq_deep (I:Inv X pins σ H s):∀ {n:Nat} {x y:V},VSame X.K H n x y→∀ {u v:Value} (A:Around),RelV x u→RelV y v→A.units+n < cLine→SeqAt.EqAt A s u v true:=by
  intro n x y h
  induction h with
  | flat h =>
    intro u v A ru rv _
    have:=eqAt_V (A:=A) (s:=s) ru rv h h
    rwa [eqV_refl h] at this
  | seq t ha hb hl h ih =>
    rename_i n a b xs ys
    intro u v A ru rv hu
    cases ru
    cases rv
    by_cases e:a=b
    · subst e
      exact SeqAt.EqAt.same _
    · obtain ⟨i1,r1,p1,_⟩:=I.seqA ha
      obtain ⟨i2,r2,p2,_⟩:=I.seqA hb
      refine SeqAt.EqAt.of_refs e (rc_seq p1 p2 (by rw [← r1.length,← r2.length,hl]) (by omega) (items_same (n:=n) r1 r2 fun i x y u v e1 e2 g1 g2=>ih i x y e1 e2 A.in1 g1 g2 ?_))
      show A.units+1+n < cLine
      omega
end
def rSameV (K:PySem.W.Frag) (b:Bool):R2:=fun x y H Q=>∃ (n:Nat) (a c:Addr),x=.ref a∧y=.ref c∧VSame K H (n+1) x y∧n≤30∧Q (.bl b) H
theorem op_eqV {X:Cx} (hu:X.A.units+64 < cLine):OpR X (compareOp .Eq) (rSameV X.K true):=by
  intro pins s σ H x y u v Q I rx ry h
  obtain ⟨n,a,c,rfl,rfl,hv,hn,q⟩:=h
  cases rx
  cases ry
  cases hv with
  | flat h=>cases h
  | seq t ha hb hl h =>
    obtain ⟨i1,r1,p1,_⟩:=I.seqA ha
    obtain ⟨i2,r2,p2,_⟩:=I.seqA hb
    refine rc_seq p1 p2 (by rw [← r1.length,← r2.length,hl]) (by omega) (items_same (n:=n) r1 r2 fun i x y u v e1 e2 g1 g2=>eq_deep I (h i x y e1 e2) X.A.in1 g1 g2 ?_) X.prog X.w _ _ ⟨.bl true,H,I,rfl,q⟩
    show X.A.units+1+n < cLine
    omega
theorem op_eqVK {X:Cx} (K:PySem.W.Frag) (hu:X.A.units+64 < cLine) (hK:X.K=K:=by rfl):OpR X (compareOp .Eq) (rSameV K true):=by subst hK;exact op_eqV hu
end L2
namespace L2
open PySem PySem.Spec PyProof.Rows
end L2
namespace L2
open PySem PySem.Spec PyProof.Rows
def hide (h:Heap) (fs:List Addr):Heap:=⟨((List.range h.objs.size).map fun i=>if i∈fs then (⟨.none,none,.freed,#[]⟩:Obj) else (h.objs[i]?).getD ⟨.none,none,.freed,#[]⟩).toArray,h.life⟩
theorem hide_get (h:Heap) (fs:List Addr) (b:Addr):(hide h fs).get? b=if b∈fs then none else h.get? b:=by
  unfold Heap.get? hide
  by_cases hb:b < h.objs.size
  · have e:((List.range h.objs.size).map fun i=>if i∈fs then (⟨.none,none,.freed,#[]⟩:Obj) else (h.objs[i]?).getD ⟨.none,none,.freed,#[]⟩).toArray[b]? = some (if b∈fs then (⟨.none,none,.freed,#[]⟩:Obj) else (h.objs[b]?).getD ⟨.none,none,.freed,#[]⟩):=by
      rw [List.getElem?_toArray,List.getElem?_map,List.getElem?_range hb]
      rfl
    show (match (((List.range h.objs.size).map fun i=>if i∈fs then (⟨.none,none,.freed,#[]⟩:Obj) else (h.objs[i]?).getD ⟨.none,none,.freed,#[]⟩).toArray[b]?) with | some ⟨_,_,.freed,_⟩=>none | o=>o)=_
    rw [e]
    by_cases hf:b∈fs
    · rw [if_pos hf,if_pos hf]
    · rw [if_neg hf,if_neg hf,Array.getElem?_eq_getElem hb]
      rfl
  · have e:((List.range h.objs.size).map fun i=>if i∈fs then (⟨.none,none,.freed,#[]⟩:Obj) else (h.objs[i]?).getD ⟨.none,none,.freed,#[]⟩).toArray[b]? = none:=by
      rw [List.getElem?_toArray]
      exact List.getElem?_eq_none (by rw [List.length_map,List.length_range];exact Nat.le_of_not_lt hb)
    show (match (((List.range h.objs.size).map fun i=>if i∈fs then (⟨.none,none,.freed,#[]⟩:Obj) else (h.objs[i]?).getD ⟨.none,none,.freed,#[]⟩).toArray[b]?) with | some ⟨_,_,.freed,_⟩=>none | o=>o)=_
    rw [e,Array.getElem?_eq_none (Nat.le_of_not_lt hb)]
    by_cases hf:b∈fs
    · rw [if_pos hf]
    · rw [if_neg hf]
theorem hide_in {h:Heap} {fs:List Addr} {b:Addr} {o:Obj} (e:h.get? b=some o) (n:b ∉ fs):(hide h fs).get? b=some o:=by rw [hide_get,if_neg n];exact e
theorem hide_stays (h:Heap) (fs:List Addr):(hide h fs).StaysIn h:=fun b o e=>by
  rw [hide_get] at e
  split at e
  · cases e
  · exact e
theorem hide_out {h:Heap} {fs:List Addr} {b:Addr} (n:b∈fs):(hide h fs).get? b=none:=by rw [hide_get,if_pos n]
theorem hide_frames {h b:Heap} {fs:List Addr}:∀ {l:List Env},(∀ x∈frs l,x∈fs)→h.FunFrames b l→h.FunFrames (hide h fs) l
  | [],_,_=>trivial
  | env :: l,hs,⟨hk,⟨L,o,hf,hn,ho,hd⟩,hr⟩ =>
    ⟨hk,⟨L,o,hf,hide_out (hs L (by unfold frs;rw [List.filterMap_cons,hf];exact List.mem_cons_self)),ho,hd⟩,hide_frames (fun x hx=>hs x (by unfold frs;rw [List.filterMap_cons,hf];exact List.mem_cons_of_mem _ hx)) hr⟩
theorem HOk.keptAt {P:Program} {w:World} {H:Hp} {h h':Heap} (x:HOk P w H h) (k:∀ b o u,H b=some o→h.get? b=some u→h'.get? b=some u):HOk P w H h':=fun a o e =>
  (x a o e).stay (fun b u hb q=>by
    rcases hb with rfl | hb
    · exact k b o u e q
    · exact k b _ u hb q) (fun _ q=>q) fun _ _ q=>q
theorem ObjOk.there' {P:Program} {w:World} {H:Hp} {h:Heap} {a:Addr} {o:HO} (x:ObjOk P w H h a o):∃ u,h.get? a=some u:=by
  cases o with
  | lst xs=>obtain ⟨_,_,_,_,e⟩:=x;exact ⟨_,e⟩
  | tup xs=>obtain ⟨_,_,_,⟨ob,e,_⟩,_⟩:=x;exact ⟨_,e⟩
  | dK kvs=>obtain ⟨_,_,_,_,o,_,_,e,_⟩:=x;exact ⟨_,e⟩
  | dT kvs=>obtain ⟨_,_,_,_,o,_,_,e,_⟩:=x;exact ⟨_,e⟩
  | set S n=>obtain ⟨o,_,_,_,e,_⟩:=x;exact ⟨_,e⟩
  | ins C dx fs=>obtain ⟨_,_,_,e,_⟩:=x;exact ⟨_,e⟩
  | own y=>obtain ⟨_,e⟩:=x;exact ⟨_,e⟩
  | xd fs=>obtain ⟨_,⟨_,_,_,e,_⟩,_⟩:=x;exact ⟨_,e⟩
  | rng lo hi=>obtain ⟨_,_,_,e⟩:=x;exact ⟨_,e⟩
  | frz ob u=>obtain ⟨e,_⟩:=x;exact ⟨_,e⟩
  | tbl ps=>exact ⟨_,(show h.get? a=some _ from x)⟩
  | met f y=>exact ⟨_,(show h.get? a=some _ from x)⟩
  | ext φ=>obtain ⟨_,⟨_,e⟩,_⟩:=x;exact ⟨_,e⟩
def CX1 (P:Program) (w:World):CXT:=fun outer H s E u s'=>∃ (e t:Addr) (cls:Value) (H':Hp) (b1:Heap),u=.ref e∧s'.os=s.os∧AllBare s'.gens∧Un (frs outer) [] H H' s.heap s'.heap∧HOk P w H' s'.heap∧H' e=none∧s.heap.get? e=none ∧
  Heap.FlyingW b1 outer e cls (.ref t) s'.heap∧(∀ b o,((∃ u,s.heap.get? b=some u)∨∃ u,H' b=some u)→b ∉ frs outer→s'.heap.get? b=some o→b1.get? b=some o)∧E cls none H'
section
variable {P:Program} {w:World} {K:PySem.W.Frag} {mg:Str→Option Value} {base:Heap} {N:List Str} {qual:Str} {scope:Scope} {f:Addr} {cdv:Value} {A:Around} {outer:List Env} {s:Shared} {H:Hp} {E:XK}
theorem frs_cons {env:Env} {l:List Env} {L:Addr} (h:env.frame=some L):frs (env :: l)=L :: frs l:=by unfold frs;rw [List.filterMap_cons,h]
theorem leave_made {pins:List (Addr × Obj)} {σ:St} {H1:Hp} {s1:Shared} {h2:Heap} {e:Addr} {cls:Value} {vs:List Value} (I:Inv (cxOf (CX1 P w) P w K mg base N qual scope f cdv A outer s H E) pins σ H1 s1)
    (hx:Heap.MadeExcOf s1.heap h2 e cls vs) (q:E cls none H1):(cxOf (CX1 P w) P w K mg base N qual scope f cdv A outer s H E).xe (.ref e) { s1 with heap:=h2 }:=by
  have hL:(envOfC qual scope s.heap.objs.size f cdv).frame=some s.heap.objs.size:=rfl
  have hfr:=frs_cons (l:=outer) hL
  have hst:=I.stack
  have hfree:=I.stkFree
  refine wpAny_leaves_madeW (base:=hide s1.heap (frs (envOfC qual scope s.heap.objs.size f cdv :: outer))) (h:=s1.heap) I.ok.frames hL (hide_stays _ _) (hide_frames (fun x hx=>hx) hst) hx fun h' t hfl htup hnew hsm=>?_
  have ne:∀ b u,s.heap.get? b=some u→b≠s.heap.objs.size:=fun b u h=>Nat.ne_of_lt (Heap.lt_size h)
  have keepS:∀ b o,s1.heap.get? b=some o→b ∉ frs (envOfC qual scope s.heap.objs.size f cdv :: outer)→h'.get? b=some o:=fun b o h n=>hfl.1 b o (hide_in h n)
  have nin:∀ b u,s.heap.get? b=some u→b ∉ frs outer→b ∉ frs (envOfC qual scope s.heap.objs.size f cdv :: outer):=fun b u h n z=>by
    rw [hfr] at z
    rcases List.mem_cons.mp z with z | z
    · exact ne b u h z
    · exact n z
  have slotS:∀ b o,s1.heap.get? b=some o→b∈frs (envOfC qual scope s.heap.objs.size f cdv :: outer)→∃ sl,h'.get? b=some { o with slots:=sl }:=fun b o h n=>by
    obtain ⟨_,o',ho',hd⟩:=hst.mem n
    rw [h] at ho'
    cases ho'
    exact hsm b o (hx.keeps b o h) hd
  have trk:∀ b o,H1 b=some o→b ∉ frs (envOfC qual scope s.heap.objs.size f cdv :: outer):=fun b o h z=>by
    have:=hfree b z
    rw [h] at this
    cases this
  refine ⟨e,t,cls,H1,hide s1.heap (frs (envOfC qual scope s.heap.objs.size f cdv :: outer)),rfl,I.os,I.bare,⟨fun b o h n hb _=>?_,fun b o h n hb _=>?_,fun b o h n _=>I.base.free b o h n (by simp [cxOf]),fun b o h _=>?_,I.base.tups,I.base.frzs,I.base.tbls⟩,?_,?_,?_,hfl,fun b o h n h'=>?_,q⟩
  · exact keepS b o (I.base.keep b o h n hb (by simp [cxOf])) (nin b o h hb)
  · obtain ⟨sl,e1⟩:=I.base.slot b o h n hb (by simp [cxOf])
    obtain ⟨sl2,e2⟩:=slotS b _ e1 (by rw [hfr];exact List.mem_cons_of_mem _ hb)
    exact ⟨sl2,e2⟩
  · obtain ⟨o',e1⟩:=I.base.there b o h (by simp [cxOf])
    by_cases hb:b∈frs (envOfC qual scope s.heap.objs.size f cdv :: outer)
    · obtain ⟨sl,e2⟩:=slotS b _ e1 hb
      exact ⟨_,e2⟩
    · exact ⟨_,keepS b o' e1 hb⟩
  · exact I.hok.keptAt fun b o u h1 h2=>keepS b u h2 (trk b o h1)
  · cases z:H1 e with
    | none=>rfl
    | some o =>
      obtain ⟨u,hu⟩:=(I.hok e o z).there'
      rw [hx.new] at hu
      cases hu
  · cases z:s.heap.get? e with
    | none=>rfl
    | some o =>
      obtain ⟨u,hu⟩:=I.base.there e o z (by simp [cxOf])
      rw [hx.new] at hu
      cases hu
  · have:∃ u,s1.heap.get? b=some u∧b ∉ frs (envOfC qual scope s.heap.objs.size f cdv :: outer):=by
      rcases h with ⟨u,h⟩ | ⟨u,h⟩
      · obtain ⟨o',e1⟩:=I.base.there b u h (by simp [cxOf])
        exact ⟨o',e1,nin b u h n⟩
      · obtain ⟨o',e1⟩:=(I.hok b u h).there'
        exact ⟨o',e1,trk b u h⟩
    obtain ⟨u,h1,h2⟩:=this
    have h3:=keepS b u h1 h2
    rw [h'] at h3
    cases h3
    exact hide_in h1 h2
theorem Fun.ok1 {x:Str} {st:Stmt} {fd:FuncData} {ps:List Str} {k:Nat} {sp:Sp} (F:Fun K x qual st f fd) (S:FnScope N ps (defScope st)) (len:∀ vs H Q E,sp vs H Q E→vs.length=ps.length)
    (hbody:∀ (cdv:Value) (A:Around) (outer:List Env) (s:Shared) (H:Hp) (vs:List V) (Q:VK) (E:XK),Room k (A.deeper (envOfC qual (defScope st) s.heap.objs.size f cdv))→sp vs H Q E →
      ∃ t,PSs (cxOf (CX1 P w) P w K mg base N qual (defScope st) f cdv A outer s H E) (defBody st) t∧t { nx:=fun _ H'=>Q .non H',rt:=Q } (start N vs) H):FnOk P w K mg base (CX1 P w) (k+1) f fd ps sp:=by
  obtain ⟨oc,od,kV,doc,pm,an,cdv,ct,osl,rfl,lk,hcd⟩:=F.ex
  exact fn_of lk hcd S len fun A outer s H vs Q E hr hsp=>hbody cdv A outer s H vs Q E hr hsp
theorem FnOk.calm {k:Nat} {fd:FuncData} {ps:List Str} {sp sp':Sp} (F:FnOk P w K mg base (CX1 P w) k f fd ps sp) (h:∀ vs H Q E,sp' vs H Q E→sp vs H Q E0):FnOk P w K mg base CX0 k f fd ps sp' :=
  ⟨fun vs H Q E q=>F.len vs H Q E0 (h _ _ _ _ q),fun A outer s H args us vs Q E hr he hb hv hs=>codeAny_mono (F.run A outer s H args us vs Q E0 hr he hb hv (h _ _ _ _ hs)) fun r s' hq=>by
    cases r with
    | error e =>
      obtain ⟨_,_,_,_,_,_,_,_,_,_,_,_,_,_,q⟩:=hq
      exact q.elim
    | ok fl=>cases fl <;> exact hq⟩
def tRaise (C:Addr) (E:XK) (t:TA):TS:=fun D σ H=>t σ H fun vs H1=>vs.length≤sizeLine∧E (.ref C) none H1
theorem ps_raise {x:Str} {C:Addr} {bm:List Value} {B newId initId:String} {e₀:Expr} {rest:List Expr} {t:TA} {np cpos pos:Pos} (O:OwnCls x C bm newId mg base) (FB:ExcBaseFacts B newId initId bm)
    (hg:Gl (cxOf (CX1 P w) P w K mg base N qual scope f cdv A outer s H E) x) (ha:PA (cxOf (CX1 P w) P w K mg base N qual scope f cdv A outer s H E) (e₀ :: rest) t)
    (he:starEach (e₀ :: rest) (envOfC qual scope s.heap.objs.size f cdv)=(false,eval e₀ (envOfC qual scope s.heap.objs.size f cdv)) :: starEach rest (envOfC qual scope s.heap.objs.size f cdv):=by rfl)
    (hplain:(backTo cpos (starEach rest (envOfC qual scope s.heap.objs.size f cdv))).any (·.1)=false:=by rfl) (hdb:(x == ("__debug__" : Str))=false:=by decide) :
    PS (cxOf (CX1 P w) P w K mg base N qual scope f cdv A outer s H E) (.Raise (some (.Call (.Name x np) (e₀ :: rest) [] cpos)) none pos) (tRaise C E t):=by
  intro pins s1 σ H1 D I h
  obtain ⟨tl,NN,nm,q,bs,hdct,sn,sub,ab,col,dd,k0,k1,k2,k3,k5,mN,hC,hN,hni,T⟩:=O.obj
  refine wpAny_Raise_call_subT (C:=C) (nm:=nm) (q:=q) (N:=NN) (bs:=bs) (bm:=tl) (hdct:=hdct) (sn:=sn) (sub:=sub) (ab:=ab) (col:=col) (dd:=dd) (k0:=k0) (k1:=k1) (k2:=k2) (k3:=k3) (k5:=k5)
    FB (mN:=mN) (T.hasType FB.hasBase) (I.ok.hd rfl) (by show (backTo cpos (starEach (e₀ :: rest) (envOfC qual scope s.heap.objs.size f cdv))).any (·.1)=false;rw [he];show (false || (backTo cpos (starEach rest (envOfC qual scope s.heap.objs.size f cdv))).any (·.1))=false;rw [hplain];rfl) hni (ld_glob I hg O.bound ⟨rfl,?_⟩ hdb)
  have ha':=ha cpos pins s1 σ H1 _ I h
  have he':starEach (e₀ :: rest) (cxOf (CX1 P w) P w K mg base N qual scope f cdv A outer s H E).env=(false,eval e₀ (envOfC qual scope s.heap.objs.size f cdv)) :: starEach rest (envOfC qual scope s.heap.objs.size f cdv):=he
  rw [he'] at ha' ⊢
  refine Calls.evalArgs_plain (wpAny_mono ha' (fun vs s2 h2=>?_) fun _ _ y=>y)
  obtain ⟨us,H2,I2,r,hz,hq⟩:=h2
  have hk:=I2.bk
  exact ⟨rfl,by rw [← r.length];exact hz,hk _ _ hC,hN.keeps hk,T.keeps hk,fun h' e hx=>leave_made I2 hx hq⟩
end
end L2
namespace L2
open PySem PySem.Spec PySem.Calls PyProof.Rows PySem.W
section
variable {prog:Program} {w:World} {A:Around} {E:Value→Shared→Prop} {s:Shared} {K:PySem.W.Frag} {x D:Addr} {ox:Obj}
structure XAt (h:Heap) (x:Addr) (ox:Obj) (D:Addr):Prop where
  at_:h.get? x=some ox
  cls:ox.cls=.ref D
theorem XAt.type {M:Model} {h:Heap} (I:XAt h x ox D):Looks M h (typeOf (.ref x)) (.ref D):=by
  have:=I.cls
  exact this ▸ (Looks.ld I.at_).andThen Looks.now
theorem xi_find {M:Model} {h:Heap} (X:K.In h) (ha:findIn K (.ref D) "__class__" = some (some (.builtin "object.__class__"))) (hn:specialIn K (.builtin "object.__class__") "__get__" = some (some (.builtin "getset_descriptor.__get__")))
    (ht:takesIn K (.builtin "object.__class__")=some true):Looks M h (Builtin.ObjectAttr.find (.ref x) (.ref D) "__class__") (.bind (.builtin "getset_descriptor.__get__") (.builtin "object.__class__")):=by
  have l1:=looks_findIn (M:=M) X ha
  have l2:Looks M h (Builtin.ObjectAttr.getOf (some (.builtin "object.__class__"))) (some (.builtin "getset_descriptor.__get__")):=looks_specialIn X hn
  have l3:=looks_takesIn (M:=M) X ht
  have l4:Looks M h (Builtin.ObjectAttr.dataDescriptor? (some (.builtin "object.__class__")) (some (.builtin "getset_descriptor.__get__"))) (some (.builtin "getset_descriptor.__get__",.builtin "object.__class__")):=l3.andThen Looks.now
  exact l1.andThen (l2.andThen (l4.andThen (Looks.tag Looks.now)))
theorem xi_get {tp:Value} {R:Result→Shared→Prop} (X:K.In s.heap) (I:XAt s.heap x ox D) (hm:mroIn K D (.type "object")=some true)
    (h:R (.ok (.ret (.ref D))) s):codeAny (model prog w) A (.call (.builtin "getset_descriptor.__get__") ⟨[.builtin "object.__class__",.ref x,tp],[]⟩) R s:=by
  obtain ⟨hh,g,dr,t,os⟩:=s
  have L0:=I.type (M:=model prog w)
  have L1:=looks_mroIn (M:=model prog w) X hm
  refine codeAny_call_builtin KF.slot_gs.plain KF.entry_gs (KF.slot_gs.check _ _ _ _ _ _ _ _ KF.type_class (KF.args_gs _ _ _) ?_)
  unfold Builtin.«getset_descriptor.__get__» Builtin.Getset_descriptor.descrGet
  rw [dga_obj]
  refine wpAny_bind (wpAny_pure ?_)
  unfold Builtin.Getset_descriptor.descrGetter Builtin.Getset_descriptor.descrCheckInstance Builtin.Getset_descriptor.descrNameAndClass isInstance
  simp only [KF.owner_class]
  repeat lk
  refine ⟨Code.quiet_builtin _ (by decide +kernel),codeAny_builtin KF.entry_class ?_⟩
  unfold Builtin.«object.__class__» shownTypeOf
  repeat lk
  exact h
theorem xi_entry {tk:Tok} {Q:Fin→Shared→Prop} (X:K.In s.heap) (I:XAt s.heap x ox D) (hf:∀ M:Model,Looks M s.heap (Builtin.ObjectAttr.find (.ref x) (.ref D) "__class__") (.bind (.builtin "getset_descriptor.__get__") (.builtin "object.__class__")))
    (hm:mroIn K D (.type "object")=some true) (h:Q (.done (.ret (.ref D))) s):wpAny (model prog w) A (Builtin.«object.__getattribute__» ⟨[.ref x,.str "__class__" tk],[]⟩) Q E s:=by
  obtain ⟨hh,g,d,t,os⟩:=s
  have L0:=I.type (M:=model prog w)
  have L1:=hf (model prog w)
  unfold Builtin.«object.__getattribute__»
  refine wpAny_bind (wpAny_pure (wpAny_bind (wpAny_pure (wpAny_bind (L0.at (wpAny_bind (L1.at ?_)))))))
  show wpAny _ _ (holding [.builtin "object.__class__"] (call (.builtin "getset_descriptor.__get__") [.builtin "object.__class__",.ref x,.ref D]) >>= ret) _ _ _
  exact wpAny_bind (wpAny_holding (wpAny_call (xi_get (s:=⟨hh,g,d,t,os⟩) X I hm (wpAny_pure h))))
theorem xi_by {B:String} (FX:ExcAttrFacts B) {tk:Tok} {Q:Value→Shared→Prop} (X:K.In s.heap) (I:XAt s.heap x ox D) (hf:∀ M:Model,Looks M s.heap (Builtin.ObjectAttr.find (.ref x) (.ref D) "__class__") (.bind (.builtin "getset_descriptor.__get__") (.builtin "object.__class__")))
    (hm:mroIn K D (.type "object")=some true) (hmB:mroIn K D (.type "BaseException")=some true) (hga:findIn K (.ref D) "__getattribute__" = some (some (.builtin "BaseException.__getattribute__"))) (hgt:findIn K (.ref D) "__getattr__" = some none)
    (h:Q (.ref D) s):wpAny (model prog w) A (getAttrBy (.ref x) (.str "__class__" tk) false false) Q E s:=by
  obtain ⟨hh,g,d,t,os⟩:=s
  have L0:=I.type (M:=model prog w)
  have L1:=looks_findIn (M:=model prog w) X hga
  have L2:=looks_findIn (M:=model prog w) X hgt
  unfold getAttrBy
  refine wpAny_holding (wpAny_bind (L0.at (wpAny_bind (L1.at ?_))))
  show wpAny _ _ (getAttrByItsOwn _ _ _ _ _ _) _ _ _
  unfold getAttrByItsOwn hookBefore
  refine wpAny_bind (L2.at ?_)
  have L3:Looks (model prog w) hh (isInstance (.ref x) (.type "BaseException")) true:=L0.andThen (looks_mroIn X hmB)
  have hk:builtinKind "BaseException.__getattribute__" = some .slot:=by decide +kernel
  have hsplit:splitId "BaseException.__getattribute__" = some ("BaseException","__getattribute__"):=by decide +kernel
  have hargs:=PySem.F.args_bexc_ga (.ref x) (.str "__class__" tk)
  refine wpAny_bind (wpAny_attempt (wpAny_holding ?_))
  show wpAny _ _ (boundAndCalled _ _ _) _ _ _
  unfold boundAndCalled
  rw [FX.ga.bind (.ref x)]
  refine wpAny_bind (wpAny_pure ?_)
  refine wpAny_call (codeAny_call_builtin FX.ga.plain PySem.F.entry_bexc_ga ?_)
  simp only [checkBuiltinCall,hk,hsplit]
  refine wpAny_bind (L3.at ?_)
  rw [if_neg (by decide)]
  have hgo:wpAny (model prog w) A.in1 (Builtin.«object.__getattribute__» ⟨[.ref x]++[.str "__class__" tk],[]⟩) (fun fin s'=>match fin with
      | .done (.ret v)=>wpAny (model prog w) A (handedOut v) Q E s'
      | _=>False) (fun _ _=>False) ⟨hh,g,d,t,os⟩:=xi_entry X I hf hm (handed_on rfl h)
  cases hsig:Manifest.signature? "BaseException.__getattribute__" with
  | none =>
    refine wpAny_pure ?_
    refine wpAny_mono hgo (fun fin s' z=>?_) fun _ _ z=>z.elim
    rcases fin with (_ | _ | _ | _) | _ <;> first | exact z | exact z.elim
  | some sig =>
    simp only [argsOk,hsig] at hargs
    have hargs':Bind.checkArgs "BaseException.__getattribute__" sig ⟨[.ref x]++[.str "__class__" tk],[]⟩=pure ():=hargs
    show wpAny _ _ (Bind.checkArgs "BaseException.__getattribute__" sig ⟨[.ref x]++[.str "__class__" tk],[]⟩) _ _ _
    rw [hargs']
    refine wpAny_pure ?_
    refine wpAny_mono hgo (fun fin s' z=>?_) fun _ _ z=>z.elim
    rcases fin with (_ | _ | _ | _) | _ <;> first | exact z | exact z.elim
theorem xi_class {B:String} (FX:ExcAttrFacts B) {Q:Option Value→Shared→Prop} (X:K.In s.heap) (I:XAt s.heap x ox D) (hf:∀ M:Model,Looks M s.heap (Builtin.ObjectAttr.find (.ref x) (.ref D) "__class__") (.bind (.builtin "getset_descriptor.__get__") (.builtin "object.__class__")))
    (hm:mroIn K D (.type "object")=some true) (hmB:mroIn K D (.type "BaseException")=some true) (hga:findIn K (.ref D) "__getattribute__" = some (some (.builtin "BaseException.__getattribute__"))) (hgt:findIn K (.ref D) "__getattr__" = some none)
    (h:Q (some (.ref D)) { s with toks:=s.toks+1 }):wpAny (model prog w) A (getAttr? (.ref x) "__class__") Q E s:=by
  unfold getAttr? getAttrBy?
  refine wpAny_bind (wpAny_mkText (wpAny_bind (wpAny_attempt ?_)))
  exact xi_by (s:={ s with toks:=s.toks+1 }) FX X I hf hm hmB hga hgt (wpAny_pure h)
structure ExcK (K:PySem.W.Frag) (D:Addr):Prop where
  cls:(clsIn K D).isSome=true
  find:findIn K (.ref D) "__class__" = some (some (.builtin "object.__class__"))
  get:specialIn K (.builtin "object.__class__") "__get__" = some (some (.builtin "getset_descriptor.__get__"))
  takes:takesIn K (.builtin "object.__class__")=some true
  obj:mroIn K D (.type "object")=some true
  bexc:mroIn K D (.type "BaseException")=some true
  ga:findIn K (.ref D) "__getattribute__" = some (some (.builtin "BaseException.__getattribute__"))
  gt:findIn K (.ref D) "__getattr__" = some none
theorem isType_in {C:Addr} {M:Model} {h:Heap} (X:K.In h) (e:(clsIn K C).isSome=true):Looks M h (isType (.ref C)) true:=by
  unfold clsIn at e
  split at e
  · rename_i ho
    intro A' Q' E' s' k q
    unfold isType loadHead
    exact wpAny_bind (wpAny_loadPart (k _ _ (X _ _ ho)) (wpAny_pure q))
  · cases e
theorem xi_nested {B:String} (FX:ExcAttrFacts B) (EK:ExcK K D) {c:Value} {b:Bool} {dep:Int} {tk:Tok} {Q:Fin→Shared→Prop} (X:K.In s.heap) (I:XAt s.heap x ox D) (hty:Looks (model prog w) s.heap (typeOf c) (.type "type")) (his:Looks (model prog w) s.heap (isType c) true)
    (hsub:Looks (model prog w) s.heap (isSubtype (.ref D) c) b) (hself:(Value.ref D == c)=true→b=true) (h:∀ t,Q (.done (.ret (.bool b))) { s with toks:=t }) :
    wpAny (model prog w) A (Builtin.«isinstance.nested» ⟨[.ref x,c,.int dep tk],[]⟩) Q E s:=by
  have hisD:=isType_in (M:=model prog w) X EK.cls
  obtain ⟨h0,g,d,tt,os⟩:=s
  have L0:=I.type (M:=model prog w)
  have LI:Looks (model prog w) h0 (isInstance (.ref x) c) b:=L0.andThen hsub
  unfold Builtin.«isinstance.nested»
  refine wpAny_bind (L0.at ?_)
  by_cases hq:(Value.ref D == c)=true
  · rw [if_pos hq]
    have hb:=hself hq
    subst hb
    refine wpAny_bind (wpAny_rule ?_)
    exact wpAny_pure (h tt)
  · rw [if_neg hq]
    refine wpAny_bind (hty.at ?_)
    rw [if_pos (by decide)]
    k_delta "plainIsInstance"
    refine wpAny_bind (wpAny_bind (his.at ?_))
    simp only [Bool.not_true,Bool.false_eq_true,if_false]
    refine wpAny_bind (LI.at ?_)
    cases b with
    | true =>
      simp only [if_true]
      exact wpAny_pure (wpAny_pure (h tt))
    | false =>
      simp only [Bool.false_eq_true,if_false]
      refine wpAny_bind (xi_class FX X I (fun _=>xi_find X EK.find EK.get EK.takes) EK.obj EK.bexc EK.ga EK.gt ?_)
      refine wpAny_bind (hisD.at ?_)
      simp only [Bool.not_true,Bool.false_eq_true,if_false]
      refine wpAny_bind (wpAny_rule ?_)
      refine hsub.at ?_
      first
        | exact wpAny_pure (h _)
        | exact wpAny_pure (wpAny_pure (h _))
        | exact wpAny_bind (wpAny_pure (wpAny_pure (h _)))
theorem xi_call {B:String} (FX:ExcAttrFacts B) (EK:ExcK K D) {c:Value} {b:Bool} {Q:Value→Shared→Prop} (X:K.In s.heap) (I:XAt s.heap x ox D) (hty:∀ (M:Model) h',K.In h'→Looks M h' (typeOf c) (.type "type")) (his:∀ (M:Model) h',K.In h'→Looks M h' (isType c) true)
    (hsub:∀ (M:Model) h',K.In h'→Looks M h' (isSubtype (.ref D) c) b) (hself:(Value.ref D == c)=true→b=true) (h:∀ t,Q (.bool b) { s with toks:=t }):wpAny (model prog w) A (call (.builtin "isinstance") [.ref x,c]) Q E s :=
  call_isinstance (S:=fun _ R s=>(K.In s.heap∧XAt s.heap x ox D)∧∀ t,R (.ok (.ret (.bool b))) { s with toks:=t })
    (fun _ _ _ _ _ hs=>isinstance_outer (xi_nested FX EK hs.1.1 hs.1.2 (hty _ _ hs.1.1) (his _ _ hs.1.1) (hsub _ _ hs.1.1) hself hs.2) (by intro q;cases q)) ⟨⟨X,I⟩,h⟩
end
end L2
namespace L2
open PySem PySem.Spec PySem.Calls PyProof.Rows PySem.W
section
variable {prog:Program} {w:World} {A:Around} {E:Value→Shared→Prop} {s:Shared} {K:PySem.W.Frag} {x C D:Addr} {ox:Obj}
theorem xm_match {b:Bool} {Q:Bool→Shared→Prop} (X:K.In s.heap) (I:XAt s.heap x ox D) (hC:(clsIn K C).isSome=true) (hnt:instIn K (.ref C) (.type "tuple")=some false) (hb:mroIn K C (.type "BaseException")=some true) (hsub:mroIn K D (.ref C)=some b)
    (h:Q b s):wpAny (model prog w) A (excMatches (.ref x) (.ref C)) Q E s:=by
  obtain ⟨hh,g,d,t,os⟩:=s
  have L0:=I.type (M:=model prog w)
  have L1:=looks_instIn (M:=model prog w) X hnt
  have L2:=isType_in (M:=model prog w) X hC
  have L3:=looks_mroIn (M:=model prog w) X hb
  have L4:=looks_mroIn (M:=model prog w) X hsub
  have L5:Looks (model prog w) hh (isExcClass (.ref C)) true:=L2.andThen L3
  unfold excMatches
  refine wpAny_bind (L1.at ?_)
  rw [if_neg (by decide)]
  refine wpAny_bind (wpAny_pure ?_)
  simp only [List.forIn_cons,List.forIn_nil]
  refine wpAny_bind (wpAny_bind (wpAny_bind (L5.at ?_)))
  rw [if_neg (by decide)]
  refine wpAny_pure (wpAny_pure ?_)
  refine wpAny_bind (L0.at ?_)
  refine wpAny_bind (wpAny_bind (wpAny_bind (L4.at ?_)))
  cases b with
  | true =>
    rw [if_pos rfl]
    exact wpAny_pure (wpAny_pure (wpAny_pure h))
  | false =>
    rw [if_neg (by decide)]
    exact wpAny_pure (wpAny_pure (wpAny_pure h))
end
def excO (e D:Addr):HO:=.ext fun h=>∃ ox,XAt h e ox D
section
variable {X:Cx} {pins:List (Addr × Obj)} {σ:St} {H:Hp} {s:Shared} {e:Addr} {o:HO}
theorem Inv.track (I:Inv X pins σ H s) (he:H e=none) (hs0:X.s₀.heap.get? e=none) (nl:e≠X.env.locals) (nc:∀ x c,X.env.cells.lookup x=some c→c≠e) (np:∀ p∈X.pn++pins,p.1≠e)
    (ho:ObjOk X.prog X.w (upd H e o) s.heap e o):Inv X pins σ (upd H e o) s:=by
  have ne:∀ b u,H b=some u→b≠e:=fun b u h z=>by rw [z,he] at h;cases h
  refine ⟨I.ok,I.os,I.bare,⟨I.base.keep,I.base.slot,fun b u h n hx=>?_,I.base.there,fun b xs h=>?_,fun b u v h=>?_,fun b ps h=>?_⟩,I.loc,I.cell,by rw [upd_ne (Ne.symm nl)];exact I.free,fun x c h=>by rw [upd_ne (nc x c h)];exact I.freeC x c h,fun p hp=>?_,fun a u h=>?_,I.len⟩
  · rw [upd_ne fun z=>by rw [z,hs0] at h;cases h]
    exact I.base.free b u h n hx
  · have:=I.base.tups b xs h
    rw [upd_ne (ne b _ this)]
    exact this
  · have:=I.base.frzs b u v h
    rw [upd_ne (ne b _ this)]
    exact this
  · obtain ⟨more,h1⟩:=I.base.tbls b ps h
    exact ⟨more,by rw [upd_ne (ne b _ h1)];exact h1⟩
  · obtain ⟨a1,a2,a3⟩:=I.pin p hp
    exact ⟨a1,by rw [upd_ne (np p hp)];exact a2,a3⟩
  · by_cases ha:a=e
    · subst ha
      rw [upd_same] at h
      cases h
      exact ho
    · rw [upd_ne ha] at h
      exact (I.hok a u h).stay (fun b w' _ q=>q) (fun b q=>by rw [upd_ne (ne b _ q)];exact q) fun b xs q=>by rw [upd_ne (ne b _ q)];exact q
theorem name_goes {M:Model} {A:Around} {E:Value→Shared→Prop} {i:Nat} {n:Str} {pos:Pos} {Q:Unit→Shared→Prop} (I:Inv X pins σ H s) (hN:X.N.Nodup) (hi:X.N[i]? = some n) (hk:X.env.kindOf n=some .local)
    (h:∀ s',Inv X pins (σ.set i none) H s'→Q () s'):wpAny M A (do bindName X.env n .none;unbindBehindTheSuite X.env n pos) Q E s:=by
  obtain ⟨m,hn,hl⟩:=id I.loc
  have hcls:(X.env.scope.kind == .class || (X.env.scope.kind == .module && X.env.locals != X.env.globals))=false:=by rw [I.ok.kind];rfl
  have cne:=I.cne
  obtain ⟨oL,_,_,hoL,_⟩:=id hn
  have lo:∀ b o,X.s₀.heap.get? b=some o→b≠X.env.locals:=fun b o e=>Nat.ne_of_lt (Nat.lt_of_lt_of_le (Heap.lt_size e) I.ok.above)
  refine wpAny_nameGoes_keeps hk hn hcls fun h' v hn' hs=>h _ ⟨I.ok,I.os,I.bare,⟨fun b o e n hb hx=>(hs.2 b (lo b o e)).trans (I.base.keep b o e n hb hx),fun b o e n hb hx=>?_,I.base.free,fun b o e hx=>?_,I.base.tups,I.base.frzs,I.base.tbls⟩,⟨_,hn',fun j y v' e1 e2 e3=>?_⟩,fun y c e=>?_,I.free,I.freeC,fun p hp=>?_,?_,by simpa using I.len⟩
  · obtain ⟨sl,e1⟩:=I.base.slot b o e n hb hx
    exact ⟨sl,(hs.2 b (lo b o e)).trans e1⟩
  · obtain ⟨o',e1⟩:=I.base.there b o e hx
    exact ⟨o',(hs.2 b (lo b o e)).trans e1⟩
  · by_cases hj:j=i
    · subst hj
      rw [List.getElem?_set] at e2
      split at e2
      · split at e2 <;> cases e2
      · rename_i hz
        exact absurd rfl hz
    · rw [List.getElem?_set_ne (Ne.symm hj)] at e2
      obtain ⟨u',r',q⟩:=hl j y v' e1 e2 e3
      refine ⟨u',r',?_⟩
      rcases q with ⟨k,e⟩ | ⟨k,c,e,z⟩
      · refine .inl ⟨k,?_⟩
        have:y≠n:=fun e=>hj (nodup_ix hN e1 (e ▸ hi))
        simp [this,e]
      · exact .inr ⟨k,c,e,z.sameBut hs (cne y c e)⟩
  · obtain ⟨w',z⟩:=I.cell y c e
    exact ⟨w',z.sameBut hs (cne y c e)⟩
  · obtain ⟨e,n,ne,nf,d⟩:=I.pin p hp
    exact ⟨(hs.2 p.1 ne).trans e,n,ne,nf,d⟩
  · exact I.hok.keptAt fun b o u h1 h2=>(hs.2 b fun z=>by rw [z,I.free] at h1;cases h1).trans h2
end
structure Fl (X:Cx) (pins:List (Addr × Obj)) (σ:St) (H0:Hp) (s0:Shared) (H':Hp) (e:Addr) (b1:Heap) (s':Shared):Prop where
  I0:Inv X pins σ H0 s0
  os:s'.os=s0.os
  bare:AllBare s'.gens
  un:Un (frs X.stack) [] H0 H' s0.heap s'.heap
  hok:HOk X.prog X.w H' s'.heap
  he:H' e=none
  hes:s0.heap.get? e=none
  stay:b1.StaysIn s'.heap
  ff:s'.heap.FunFrames b1 X.stack
  cov:∀ b o,((∃ u,s0.heap.get? b=some u)∨∃ u,H' b=some u)→b ∉ frs X.stack→s'.heap.get? b=some o→b1.get? b=some o
section
variable {X:Cx} {pins:List (Addr × Obj)} {σ:St} {H0 H':Hp} {s0 s':Shared} {e:Addr} {b1 h':Heap}
theorem Fl.inv (F:Fl X pins σ H0 s0 H' e b1 s'):Inv X pins σ H' s':=F.I0.call' (ch:=[]) F.os F.un F.hok F.bare fun b z=>absurd z (by simp)
theorem Fl.move (F:Fl X pins σ H0 s0 H' e b1 s') (st:b1.StaysIn h') (ff:h'.FunFrames b1 X.stack) (us:s'.heap.UpToSlots h'):Fl X pins σ H0 s0 H' e b1 { s' with heap:=h' }:=by
  have keepC:∀ b o,((∃ u,s0.heap.get? b=some u)∨∃ u,H' b=some u)→s'.heap.get? b=some o→b ∉ frs X.stack→b1.get? b=some o∧h'.get? b=some o:=fun b o h1 h2 n=>by
    have:=F.cov b o h1 n h2
    exact ⟨this,st b o this⟩
  have slotS:∀ b o,s'.heap.get? b=some o→b∈frs X.stack→∃ sl,h'.get? b=some { o with slots:=sl }:=fun b o h n=>by
    obtain ⟨_,o',ho',hd⟩:=F.ff.mem n
    rw [h] at ho'
    cases ho'
    exact us b o h hd
  have trk:∀ b o,H' b=some o→b ∉ frs X.stack:=fun b o h z=>by
    obtain ⟨_,o',ho',_⟩:=F.I0.stack.mem z
    have:=F.un.free b o' ho' (F.I0.stkFree b z) (by simp)
    rw [h] at this
    cases this
  refine ⟨F.I0,F.os,F.bare,⟨fun b o h n hb hx=>?_,fun b o h n hb hx=>?_,F.un.free,fun b o h hx=>?_,F.un.tups,F.un.frzs,F.un.tbls⟩,?_,F.he,F.hes,st,ff,fun b o h n h2=>?_⟩
  · exact (keepC b o (.inl ⟨_,h⟩) (F.un.keep b o h n hb hx) hb).2
  · obtain ⟨sl,e1⟩:=F.un.slot b o h n hb hx
    obtain ⟨sl2,e2⟩:=slotS b _ e1 hb
    exact ⟨sl2,e2⟩
  · obtain ⟨o1,e1⟩:=F.un.there b o h hx
    by_cases hb:b∈frs X.stack
    · obtain ⟨sl,e2⟩:=slotS b _ e1 hb
      exact ⟨_,e2⟩
    · exact ⟨_,(keepC b o1 (.inl ⟨_,h⟩) e1 hb).2⟩
  · exact F.hok.keptAt fun b o u h1 h2=>(keepC b u (.inr ⟨_,h1⟩) h2 (trk b o h1)).2
  · have:∃ u,s'.heap.get? b=some u:=by
      rcases h with ⟨u,h⟩ | ⟨u,h⟩
      · exact F.un.there b u h (by simp)
      · exact (F.hok b u h).there'
    obtain ⟨u,h1⟩:=this
    obtain ⟨h4,h5⟩:=keepC b u h h1 n
    have h2':h'.get? b=some o:=h2
    rw [h2'] at h5
    cases h5
    exact h4
end
end L2
namespace L2
open PySem PySem.Spec PySem.Calls PyProof.Rows PySem.W
abbrev Cx.inSuite (X:Cx) (Ax:Around):Cx:={ X with A:=Ax,calm:=false,xe:=fun _ _=>False }
abbrev Cx.tried (X:Cx) (pn:List (Addr × Obj)) (Ex:Value→Shared→Prop):Cx:={ X with pn:=pn,xe:=Ex }
section
variable {X:Cx} {pins pn:List (Addr × Obj)} {σ:St} {H:Hp} {s:Shared} {Ax:Around} {Ex:Value→Shared→Prop}
theorem Inv.suite (I:Inv X pins σ H s) (hA:Ax.frames=X.A.frames):Inv (X.inSuite Ax) pins σ H s :=
  ⟨⟨I.ok.mod,I.ok.kind,I.ok.glob,I.ok.blt,I.ok.above,I.ok.inj,I.ok.has,I.ok.cab,fun z=>Bool.noConfusion z,hA.trans I.ok.frames,I.ok.stk,I.ok.exf,I.ok.bs,I.ok.bsz,I.ok.noex,I.ok.exfs,I.ok.funs,I.ok.frf⟩,I.os,I.bare,I.base,I.loc,I.cell,I.free,I.freeC,I.pin,I.hok,I.len⟩
theorem Inv.unsuite (I:Inv (X.inSuite Ax) pins σ H s) (ok:X.Ok):Inv X pins σ H s:=⟨ok,I.os,I.bare,I.base,I.loc,I.cell,I.free,I.freeC,I.pin,I.hok,I.len⟩
theorem Inv.tried (I:Inv X pins σ H s):Inv (X.tried (X.pn++pins) Ex) [] σ H s :=
  ⟨⟨I.ok.mod,I.ok.kind,I.ok.glob,I.ok.blt,I.ok.above,I.ok.inj,I.ok.has,I.ok.cab,I.ok.hd,I.ok.frames,I.ok.stk,I.ok.exf,I.ok.bs,I.ok.bsz,I.ok.noex,I.ok.exfs,I.ok.funs,I.ok.frf⟩,I.os,I.bare,I.base,I.loc,I.cell,I.free,I.freeC,fun p hp=>I.pin p (by simpa using hp),I.hok,I.len⟩
theorem Inv.untried {pins':List (Addr × Obj)} (I:Inv (X.tried (X.pn++pins) Ex) pins' σ H s):Inv X pins σ H s :=
  ⟨⟨I.ok.mod,I.ok.kind,I.ok.glob,I.ok.blt,I.ok.above,I.ok.inj,I.ok.has,I.ok.cab,I.ok.hd,I.ok.frames,I.ok.stk,I.ok.exf,I.ok.bs,I.ok.bsz,I.ok.noex,I.ok.exfs,I.ok.funs,I.ok.frf⟩,I.os,I.bare,I.base,I.loc,I.cell,I.free,I.freeC,fun p hp=>I.pin p (List.mem_append_left _ hp),I.hok,I.len⟩
end
def PHs (X:Cx) (hs:List ExceptHandler) (th:Addr→TS):Prop :=
  ∀ (pins:List (Addr × Obj)) (σ:St) (H0:Hp) (s0:Shared) (H':Hp) (e C t:Addr) (b1:Heap) (s':Shared) (D:Ends),Fl X pins σ H0 s0 H' e b1 s'→Heap.FlyingW b1 X.stack e (.ref C) (.ref t) s'.heap→th C D σ H' →
    wpAny (model X.prog X.w) X.A (handleBy (.ref e) X.env hs) (SP X pins D) X.xe s'
theorem phs_nil {X:Cx}:PHs X [] fun _ _ _ _=>False:=fun _ _ _ _ _ _ _ _ _ _ _ _ _ h=>h.elim
def Ends.as (D:Ends) (i:Nat):Ends:={ nx:=fun σ H=>D.nx (σ.set i none) H,rt:=D.rt,bk:=fun σ H=>D.bk (σ.set i none) H,ct:=fun σ H=>D.ct (σ.set i none) H }
def tExc (K:PySem.W.Frag) (C':Addr) (i:Nat) (tb:TS) (tr:Addr→TS):Addr→TS:=fun C D σ H=>∃ b,mroIn K C (.ref C')=some b∧if b=true then ∀ e,H e=none→tb (D.as i) (σ.set i (some (.ref e))) (upd H e (excO e C)) else tr C D σ H
theorem phs_as {X:Cx} {x n:Str} {C':Addr} {np pos:Pos} {i:Nat} {b₀:Stmt} {suite:List Stmt} {rest:List ExceptHandler} {tb:TS} {tr:Addr→TS} (K:PySem.W.Frag) (hN:X.N.Nodup) (hi:X.N[i]? = some n) (hk:X.env.kindOf n=some .local)
    (hg:Gl X x) (hm:X.mg x=some (.ref C')) (hC:(clsIn K C').isSome=true) (hnt:instIn K (.ref C') (.type "tuple")=some false) (hbx:mroIn K C' (.type "BaseException")=some true)
    (hb:∀ Ax:Around,PSs (X.inSuite Ax) (b₀ :: suite) tb) (hr:PHs X rest tr) (hK:X.K=K:=by rfl) (hex:X.ex=[]:=by rfl) (hdb:(x == ("__debug__" : Str))=false:=by decide) :
    PHs X (.ExceptHandler (some (.Name x np)) (some n) (b₀ :: suite) pos :: rest) (tExc K C' i tb tr):=by
  subst hK
  intro pins σ H0 s0 H' e C t b1 s' D F fly h
  obtain ⟨b,hb1,h⟩:=h
  have I:=F.inv
  have IS:Inv (X.inSuite (X.A.mark (some (.ref e)))) pins σ H' s':=I.suite rfl
  refine wpAny_handleBy_cons (codeAny_handlers_test ?_) (by intro q;cases q)
  refine ld_glob (X:=X.inSuite (X.A.mark (some (.ref e)))) IS hg hm ?_ hdb
  obtain ⟨oe,vs,he,hc,_⟩:=fly.first
  refine xm_match (x:=e) (D:=C) (ox:=oe) I.kIn ⟨he,hc⟩ hC hnt hbx hb1 ?_
  cases b with
  | false =>
    show wpAny _ _ (handleBy _ _ _) _ _ _
    exact hr pins σ H0 s0 H' e C t b1 s' D F fly h
  | true =>
    have h1:=h
    rw [if_pos rfl] at h1
    show codeAny _ _ (.handlers _ _ _) _ _
    refine codeAny_handlers_suite_as ?_
    refine lands_againW fly fun h6 fly6 sm6=>?_
    have F6:=F.move fly6.1 fly6.2.2.1 sm6
    have I6:=F6.inv
    obtain ⟨oe6,vs6,he6,hc6,_⟩:=fly6.first
    have live:∀ b o,s0.heap.get? b=some o→b≠e:=fun b o h z=>by rw [z,F.hes] at h;cases h
    have I7:Inv X pins σ (upd H' e (excO e C)) { s' with heap:=h6 }:=by
      refine I6.track F.he ?_ ?_ (fun y c hy=>?_) (fun p hp=>?_) ⟨⟨oe6,he6,hc6⟩,⟨oe6,he6⟩,?_⟩
      · cases z:X.s₀.heap.get? e with
        | none=>rfl
        | some o =>
          obtain ⟨u,hu⟩:=F.I0.base.there e o z (by rw [hex];simp)
          rw [F.hes] at hu
          cases hu
      · obtain ⟨m,⟨o,_,_,ho,_⟩,_⟩:=F.I0.loc
        exact (live _ o ho).symm
      · obtain ⟨v,o,ho,_⟩:=F.I0.cell y c hy
        exact live c o ho
      · exact live p.1 p.2 (F.I0.pin p hp).1
      · rintro h1' h2' ⟨ox,a1,a2⟩ k
        exact ⟨ox,k ox a1,a2⟩
    refine store_ok (X:=X) (v:=.ref e) I7 hN hi (.inl hk) rfl (fun s8 I8=>?_) (.inr hk)
    have I8':Inv (X.inSuite (X.A.mark (some (.ref e)))) pins (σ.set i (some (.ref e))) (upd H' e (excO e C)) s8:=I8.suite rfl
    refine wpAny_mono (hb (X.A.mark (some (.ref e))) pins s8 _ _ (D.as i) I8' (h1 e F.he)) (fun f s9 h9=>?_) fun _ _ z=>z.elim
    show wpAny _ _ (do bindName X.env n .none;unbindBehindTheSuite X.env n pos) _ _ _
    cases f with
    | next =>
      obtain ⟨σ',H9,I9,q⟩:=h9
      exact name_goes (I9.unsuite I.ok) hN hi hk fun s10 I10=>⟨_,_,I10,q⟩
    | brk =>
      obtain ⟨σ',H9,I9,q⟩:=h9
      exact name_goes (I9.unsuite I.ok) hN hi hk fun s10 I10=>⟨_,_,I10,q⟩
    | cont =>
      obtain ⟨σ',H9,I9,q⟩:=h9
      exact name_goes (I9.unsuite I.ok) hN hi hk fun s10 I10=>⟨_,_,I10,q⟩
    | ret u =>
      obtain ⟨v,σ',H9,I9,r,q⟩:=h9
      exact name_goes (I9.unsuite I.ok) hN hi hk fun s10 I10=>⟨v,_,_,I10,r,q⟩
def rIsExc (K:PySem.W.Frag):List V→Hp→VK→Prop:=fun xs H Q=>∃ (e D:Addr) (c:V) (b:Bool),xs=[.ref e,c]∧H e=some (excO e D)∧ExcK K D ∧
  ((∃ C,c=.ref C∧(clsIn K C).isSome=true∧typeIn K (.ref C)=some (.type "type")∧mroIn K D (.ref C)=some b∧(D=C→b=true))∨(∃ T,c=.ty T∧typeOf (.type T)=pure (.type "type")∧mroIn K D (.type T)=some b))∧Q (.bl b) H
theorem call_isExcK {X:Cx} (K:PySem.W.Frag) {B:String} (FX:ExcAttrFacts B) (hK:X.K=K:=by rfl):CallR X (.builtin "isinstance") (rIsExc K):=by
  subst hK
  intro pins s σ H xs us Q I r h
  obtain ⟨e,D,c,b,rfl,he,EK,hc,q⟩:=h
  cases r with
  | cons r1 rr =>
    cases rr with
    | cons r2 rr =>
      cases rr
      cases r1
      obtain ⟨ox,hx⟩:=(show ObjOk X.prog X.w H s.heap e (excO e D) from I.hok e _ he).1
      have fin:∀ t,EP X pins σ Q (.bool b) { s with toks:=t }:=fun t=>⟨.bl b,H,I.tok t,rfl,q⟩
      rcases hc with ⟨C,rfl,h1,h2,h3,h4⟩ | ⟨T,rfl,h1,h2⟩
      · cases r2
        refine xi_call FX EK I.kIn hx (fun _ _ X'=>looks_typeIn X' h2) (fun _ _ X'=>isType_in X' h1) (fun _ _ X'=>looks_mroIn X' h3) (fun z=>h4 ?_) fin
        exact Value.ref.inj (beq_iff_eq.mp z)
      · cases r2
        refine xi_call FX EK I.kIn hx (fun _ _ _=>Looks.of_pure h1) (fun _ _ _=>Looks.of_pure rfl) (fun _ _ X'=>looks_mroIn X' h2) (fun z=>?_) fin
        cases beq_iff_eq.mp z
end L2
namespace L2
open PySem PySem.Spec PyProof.Rows
theorem noKeys_tuple:typeLookup (.type "tuple") "keys" = pure none:=by rw [typeLookup_type,builtinLookup_eq_fast];kernel_rfl
theorem keys_of_tuple {P:Program} {w:World} {A:Around} {E:Value→Shared→Prop} {s:Shared} {a:Addr} {o:Obj} {xs:Array Value} {k:Nat} {Q:Option Value→Shared→Prop}
    (ho:s.heap.get? a=some o) (hc:o.cls=.type "tuple") (hs:o.data=.seq xs k) (hd:o.dict=none) (hA:A.handled=none)
    (q:∀ h' tk,(∀ b u,s.heap.get? b=some u→h'.get? b=some u)→Q none { s with heap:=h',toks:=tk }):wpAny (model P w) A (getAttr? (.ref a) "keys") Q E s:=by
  obtain ⟨c,dct,dat,sl⟩:=o
  simp only at hc hs hd
  subst hc hs hd
  obtain ⟨hp,g,d,tk,os⟩:=s
  have ty:∀ tk',(⟨hp,g,d,tk',os⟩:Shared).TypeIs (.ref a) "tuple":=fun _=>⟨_,ho,rfl⟩
  have z1:=sub_AttributeError
  have z3:=F.slot_tuple_getattribute.lookup
  have z4:=F.slot_tuple_getattribute.bind (.ref a)
  have z5:=am_tuple_getattr_none
  unfold getAttr? getAttrBy? getAttrBy
  repeat (any_goals (first | assumption | exact ty _ | ((with_reducible show wpAny _ _ (call (Value.builtin "tuple.__getattribute__") _ _) _ _ _);refine call_meets F.slot_tuple_getattribute (ty _) am_entry_tuple_getattribute (F.args_tuple_getattribute_2 _ _) (meets_getattribute_miss_tuple a xs k sl "keys" _ noKeys_tuple (by decide +kernel) (by decide +kernel)) ⟨ho,hA,fun h' tk' e hx'=>?_⟩) | wp_step))
  obtain ⟨t',u',he⟩:=hx'.there
  have tE:(⟨h',g,d,tk',os⟩:Shared).TypeIs (.ref e) "AttributeError":=⟨_,he,rfl⟩
  show wpAny _ _ (getattributeRaised _ _ _ _ _ _ _) _ _ _
  unfold getattributeRaised
  repeat (any_goals (first | assumption | wp_step))
  exact q h' tk' hx'.keeps
def rDictT:List V→Hp→VK→Prop:=fun xs H Q=>∃ (l:Addr) (ps:List Addr) (kvs:List (Key × V)),xs=[.ref l]∧H l=some (.tup (ps.map V.ref))∧PairsAt H ps kvs∧(kvs.map (·.1)).Nodup∧kvs.length≤1000 ∧
  ∀ d,H d=none→Q (.ref d) (upd H d (.dK kvs))
theorem call_dict_tup {X:Cx} (hc:X.calm=true):CallR X (.type "dict") rDictT:=by
  intro pins s σ H xs us Q I r h
  obtain ⟨l,ps,kvs,rfl,hL,hP,nd,hz,q⟩:=h
  obtain ⟨u,rfl,ru⟩:=vals1 r
  cases ru
  obtain ⟨hl,its,rv,pl,ol',hol',hdl⟩:=(show ObjOk X.prog X.w H s.heap l (.tup _) from I.hok l _ hL)
  obtain ⟨ol,hol,hcl,nl,hsl⟩:=id pl
  rw [hol] at hol'
  have e0:=Option.some.inj hol'
  subst e0
  obtain ⟨vs,hv,hT⟩:=hP.real I
  have hA:=I.ok.hd hc
  refine callType_codes (Q₁:=fun ob s1=>ob=.ref s.heap.objs.size∧s1 = { s with heap:=s.heap.push { cls:=.type "dict",data:=.dict #[] } }) F.kt_called_dict (F.kt_typeCall_dict_1 _) F.entry_dict_init (kt_code_dict_new _ ⟨rfl,rfl⟩) ?_
  rintro ob s1 ⟨rfl,rfl⟩
  have hnew:(s.heap.push { cls:=.type "dict",data:=.dict #[] }).DictOf (mixKind X.prog X.w) s.heap.objs.size []:=Heap.DictOf.new s.heap
  have hol1:(s.heap.push { cls:=.type "dict",data:=.dict #[] }).get? l=some ol:=Heap.get?_push_of_some _ hol
  refine ⟨hnew.typeIs,F.args_dict_init_2 _ _,?_⟩
  unfold Builtin.«dict.__init__» ;unfold Builtin.Dict.selfAndRest
  refine wpAny_bind (wpAny_bind (wpAny_notOrdered_dict hnew.typeIs ?_))
  show wpAny _ _ (pure (s.heap.objs.size,[Value.ref l])) _ _ _
  refine wpAny_pure ?_
  show wpAny _ _ (Builtin.Dict.updateFrom "dict.__init__" s.heap.objs.size (.ref l) [] .none) _ _ _
  unfold Builtin.Dict.updateFrom
  refine wpAny_bind (wpAny_typeOf (T:="tuple") ⟨ol,hol1,hcl⟩ ?_)
  rw [if_pos (by decide)]
  refine wpAny_bind (keys_of_tuple (s:={ s with heap:=s.heap.push { cls:=.type "dict",data:=.dict #[] } }) hol1 hcl hsl hdl hA fun h1 tk1 k1=>?_)
  rw [if_pos (by rfl)]
  refine wpAny_bind (wpAny_rule ?_)
  have L1:h1.IsTuple l its.toArray:=⟨ol,k1 _ _ hol1,hcl,nl,hsl⟩
  refine wpAny_bind (wpAny_pyIter_tuple (s:={ s with heap:=h1,toks:=tk1 }) L1 ?_)
  refine wpAny_pure ⟨plainId_quiet plain_upd_loop _,?_⟩
  have hdlt:s.heap.objs.size < h1.objs.size:=Heap.lt_size (k1 _ _ (Heap.get?_push_size _ rfl))
  have llt:l < s.heap.objs.size:=Heap.lt_size hol
  have up:∀ b o,s.heap.get? b=some o→h1.get? b=some o:=fun b o e=>k1 b o (Heap.get?_push_of_some _ e)
  have lenp:ps.length=its.length:=by have:=rv.length;rwa [List.length_map] at this
  have lenv:vs.length=kvs.length:=(Paired.length hv).symm
  have n1:l≠h1.objs.size:=Nat.ne_of_lt (Nat.lt_trans llt hdlt)
  have W:=Walks.tuple (prog:=X.prog) (w:=X.w) (A:=X.A.in1.in1) hA h1.objs.size l n1 its.toArray
  have ei:rawInt 0=.int ((0:Nat):Int) 0:=rfl
  rw [ei]
  have old:∀ j,j < its.toArray.size→ps.getD j 0 < s.heap.objs.size:=fun j hj=>by
    have hj':j < ps.length:=by rw [lenp];simpa using hj
    have hm:ps.getD j 0∈ps:=by rw [List.getD_eq_getElem?_getD,List.getElem?_eq_getElem hj'];exact List.getElem_mem hj'
    obtain ⟨o,ho⟩:=hP.mem _ hm
    exact I.hok.lt ho
  refine upd_loop (κ:=Key) (knd:=mixKind X.prog X.w) (n:=its.toArray.size) W (d:=s.heap.objs.size) ?_ vs ?_ ?_ (fun j=>ps.getD j 0) ?_ ?_ ?_ its.toArray.size 0 _ (Nat.zero_add _) ⟨⟨_,Heap.get?_push_size _ rfl,rfl,rfl⟩,?_⟩ ?_ ?_ ?_
  · intro z
    have z':s.heap.objs.size=h1.objs.size∨s.heap.objs.size=l:=by simpa using z
    exact z'.elim (Nat.ne_of_lt hdlt) (Nat.ne_of_gt llt)
  · rw [lenv,← hP.len,lenp];simp
  · rw [kv_keys hv];exact nd
  · intro i v hi e
    have e':its[i]? = some v:=by simpa using e
    have hi':i < ps.length:=by rw [lenp];simpa using hi
    obtain ⟨u,hu,ru⟩:=rv.get (i:=i) (x:=V.ref ps[i]) (by rw [List.getElem?_map,List.getElem?_eq_getElem hi'];rfl)
    rw [hu] at e'
    cases e'
    rw [List.getD_eq_getElem?_getD,List.getElem?_eq_getElem hi']
    exact ru
  · intro i hi
    have hlt:=old i hi
    refine ⟨fun z=>?_,Nat.ne_of_lt hlt⟩
    have z':ps.getD i 0=h1.objs.size:=by simpa using z
    exact Nat.ne_of_lt (Nat.lt_trans hlt hdlt) z'
  · have:=hP.len
    exact Nat.le_of_lt (small1000 (by simp;omega))
  · exact ⟨ol,Heap.get?_push_of_some _ (k1 _ _ hol1),hcl,nl,hsl⟩
  · rw [List.take_zero]
    exact (dictOf_keep hnew fun o e=>k1 _ o e).push _
  · intro j p hj
    obtain ⟨key,hk,o,ho,r⟩:=hT j p hj
    exact ⟨key,hk,o,Heap.get?_push_of_some _ (up _ _ ho),r⟩
  · intro h3 tk3 hD k3
    refine ⟨rfl,.ref s.heap.objs.size,upd H s.heap.objs.size (.dK kvs),I.laid (a:=s.heap.objs.size) (o:=.dK kvs) (t':=tk3) (fun b o e=>?_) (Nat.le_refl _) ⟨Nat.le_of_lt (small1000 hz),?_,vs,hv,hD⟩,rfl,q _ (I.hok.fresh (Nat.le_refl _))⟩
    · have hlt:=Heap.lt_size e
      refine k3 b o (fun z=>?_) (Nat.ne_of_lt hlt) (Heap.get?_push_of_some _ (up _ _ e))
      have z':b=h1.objs.size:=by simpa using z
      exact Nat.ne_of_lt (Nat.lt_trans hlt hdlt) z'
    · exact beq_eq_false_iff_ne.mpr (Nat.ne_of_gt I.big)
theorem Inv.swap {X:Cx} {pins:List (Addr × Obj)} {σ:St} {H:Hp} {s:Shared} {d:Addr} {u u':HO} (I:Inv X pins σ H s) (e:H d=some u) (n1:∀ y,u≠.own y) (n2:∀ xs,u≠.tup xs)
    (h1:∀ xs,X.H₀ d≠some (.tup xs)) (h2:∀ o v,X.H₀ d≠some (.frz o v)) (h3:∀ ps,X.H₀ d≠some (.tbl ps)) (new:ObjOk X.prog X.w (upd H d u') s.heap d u'):Inv X pins σ (upd H d u') s:=by
  have ne:∀ b,H b=none→b≠d:=fun b z y=>by rw [y,e] at z;cases z
  refine ⟨I.ok,I.os,I.bare,⟨I.base.keep,I.base.slot,fun b o a1 a2 a3=>?_,I.base.there,fun b xs a1=>?_,fun b o v a1=>?_,fun b ps a1=>?_⟩,I.loc,I.cell,?_,fun x c a1=>?_,fun p hp=>?_,fun b v a1=>?_,I.len⟩
  · have z:=I.base.free b o a1 a2 a3
    rw [upd_ne (ne b z)];exact z
  · have z:=I.base.tups b xs a1
    rw [upd_ne (fun y=>h1 xs (by rw [← y];exact a1))];exact z
  · have z:=I.base.frzs b o v a1
    rw [upd_ne (fun y=>h2 o v (by rw [← y];exact a1))];exact z
  · have z:=I.base.tbls b ps a1
    rw [upd_ne (fun y=>h3 ps (by rw [← y];exact a1))];exact z
  · rw [upd_ne (ne _ I.free)];exact I.free
  · rw [upd_ne (ne _ (I.freeC x c a1))];exact I.freeC x c a1
  · obtain ⟨a1,a2,a3⟩:=I.pin p hp
    exact ⟨a1,by rw [upd_ne (ne _ a2)];exact a2,a3⟩
  · by_cases y:b=d
    · subst y
      rw [upd_same] at a1
      cases a1
      exact new
    · rw [upd_ne y] at a1
      refine (I.hok b v a1).stay (fun c z _ q=>q) (fun c q=>?_) fun c xs q=>?_
      · rw [upd_ne (fun y=>n1 b (by rw [y,e] at q;exact Option.some.inj q))];exact q
      · rw [upd_ne (fun y=>n2 xs (by rw [y,e] at q;exact Option.some.inj q))];exact q
end L2
namespace L2
open PySem PySem.Spec PyProof.Rows
def rAll (K:PySem.W.Frag):List V→Hp→VK→Prop:=fun xs H Q=>∃ (l:Addr) (bs:List Bool),xs=[.ref l]∧SqL K H l (bs.map V.bl)∧Q (.bl (bs.all id)) H
theorem call_all_bools {X:Cx} (hc:X.calm=true):CallR X (.builtin "all") (rAll X.K):=by
  intro pins s σ H xs us Q I r h
  obtain ⟨l,bs,rfl,hq,q⟩:=h
  obtain ⟨u,rfl,ru⟩:=vals1 r
  cases ru
  obtain ⟨its,rv,pl,hz⟩:=I.list hq
  have hA:=I.ok.hd hc
  have lb:its.length=bs.length:=by have:=rv.length;rw [List.length_map] at this;exact this.symm
  refine call_all_walk (wpAny_pyIter_list pl.isList ?_)
  have hlt:l < s.heap.objs.size:=by obtain ⟨o,ho,_⟩:=pl.isList;exact Heap.lt_size ho
  refine ⟨s.heap.objs.size,_,_,_,_,_,fun i=>bs.getD i false,rfl,Walks.list (prog:=X.prog) (w:=X.w) (A:=X.A.in1) hA s.heap.objs.size l (Nat.ne_of_lt hlt) its.toArray,⟨⟨_,Heap.get?_push_size _ rfl,rfl,rfl⟩,pl.isList.push _⟩,fun i v s' Q' E' hv hQ=>?_,fun h' tk kk=>?_⟩
  · have hv':its[i]? = some v:=by simpa using hv
    have hi:i < bs.length:=by rw [← lb];exact (List.getElem?_eq_some_iff.mp hv').1
    obtain ⟨u,hu,ru⟩:=rv.get (i:=i) (x:=V.bl bs[i]) (by rw [List.getElem?_map,List.getElem?_eq_getElem hi];rfl)
    rw [hu] at hv'
    cases hv'
    cases (show v=Value.bool bs[i] from ru)
    refine wpAny_truthy_bool ?_
    have e:bs.getD i false=bs[i]:=by rw [List.getD_eq_getElem?_getD,List.getElem?_eq_getElem hi];rfl
    exact e ▸ hQ
  · have e:((List.range its.toArray.size).all fun i=>bs.getD i false)=bs.all id:=by
      have e1:its.toArray.size=bs.length:=by rw [List.size_toArray,lb]
      rw [e1]
      clear kk q hq rv lb pl hz
      rw [Bool.eq_iff_iff,List.all_eq_true,List.all_eq_true]
      constructor
      · intro h b hb
        obtain ⟨i,hi⟩:=List.mem_iff_getElem?.mp hb
        have:=h i (List.mem_range.mpr (List.getElem?_eq_some_iff.mp hi).1)
        rw [List.getD_eq_getElem?_getD,hi] at this
        exact this
      · intro h i hi
        have hi':=List.mem_range.mp hi
        rw [List.getD_eq_getElem?_getD,List.getElem?_eq_getElem hi']
        exact h _ (List.getElem_mem hi')
    rw [e]
    exact ⟨.bl _,H,I.kept (t':=tk) fun b o eb=>kk b o (fun z=>by
      have z':b=s.heap.objs.size:=by simpa using z
      exact absurd (Heap.lt_size eb) (by rw [z'];exact Nat.lt_irrefl _)) (Heap.get?_push_of_some _ eb),rfl,q⟩
theorem call_all_boolsK {X:Cx} (K:PySem.W.Frag) (hc:X.calm=true) (hK:X.K=K:=by rfl):CallR X (.builtin "all") (rAll K):=by subst hK;exact call_all_bools hc
theorem foldl_repN (z:List Nat):∀ (k:Nat) (acc:List Nat),List.foldl (fun x1 x2=>x1++x2) acc.toArray (List.replicate k z.toArray)=(acc++(List.replicate k z).flatten).toArray
  | 0,acc=>by simp
  | k+1,acc=>by
    have h:=foldl_repN z k (acc++z)
    rw [List.replicate_succ,List.foldl_cons,List.replicate_succ,List.flatten_cons,← List.append_assoc,← h]
    congr 1
    simp
def rMulS:R2:=fun x y H Q=>∃ (z:List Nat) (n:Nat),x=.str ⟨z.toArray⟩∧y=.int (n:Int)∧2≤n∧n≤1000∧z.length≤1000∧Q (.str ⟨(List.replicate n z).flatten.toArray⟩) H
theorem op_mulS {X:Cx}:OpR X (binaryOp .Mult) rMulS:=by
  intro pins s σ H x y v u Q I rx ry h
  obtain ⟨z,n,rfl,rfl,h2,hn,hz,q⟩:=h
  obtain ⟨t,rfl⟩:=rx
  obtain ⟨t',rfl⟩:=ry
  have hm:z.length * n≤1000 * 1000:=Nat.mul_le_mul hz hn
  refine P.mul_str ?_ ?_ ?_ ?_
  · rw [decide_eq_false (by omega),decide_eq_false (by omega)];rfl
  · intro _ _ hgt
    have h3:((z.length:Nat):Int)≤(2 ^ 63 - 1) / (n:Int):=Int.le_ediv_of_mul_le (by omega) (by
      have h4:((z.length * n:Nat):Int)≤1000 * 1000:=by omega
      push_cast at h4
      omega)
    have h5:(((⟨z.toArray⟩:Str).length:Nat):Int)=((z.length:Nat):Int):=rfl
    rw [h5] at hgt
    omega
  · intro _ _
    refine decide_eq_false ?_
    have h5:(⟨z.toArray⟩:Str).length=z.length:=rfl
    have h6:((n:Int)).toNat=n:=by omega
    rw [h5,h6]
    have:1000000≤sizeLine:=by decide
    omega
  · rw [if_neg (by omega)]
    have e1:(⟨z.toArray⟩:Str).length=z.length:=rfl
    have e2:((n:Int) == 1)=false:=beq_eq_false_iff_ne.mpr (by omega)
    have e3:((n:Int)).toNat=n:=by omega
    rw [e2,Bool.false_or,e3]
    by_cases e:z=[]
    · subst e
      rw [if_pos (by rfl)]
      have e4:(List.replicate n ([]:List Nat)).flatten=[]:=by
        clear q hm e2 e3 h2 hn
        induction n with
        | zero=>rfl
        | succ n ih=>rw [List.replicate_succ,List.flatten_cons,ih];rfl
      rw [e4] at q
      exact ⟨.str ⟨#[]⟩,H,I,⟨t,rfl⟩,q⟩
    · rw [if_neg (by
        rw [e1]
        intro hh
        exact e (List.length_eq_zero_iff.mp (by simpa using hh)))]
      have e5:=foldl_repN z n []
      rw [List.nil_append] at e5
      refine ⟨?_,.str ⟨(List.replicate n z).flatten.toArray⟩,H,I.tok _,⟨s.toks,?_⟩,q⟩
      · show (Array.size (List.foldl (fun x1 x2=>x1++x2) #[] (List.replicate n z.toArray)))≤sizeLine
        rw [show List.foldl (fun x1 x2=>x1++x2) #[] (List.replicate n z.toArray)=(List.replicate n z).flatten.toArray from e5,List.size_toArray,len_rep,Nat.mul_comm]
        have:1000000≤sizeLine:=by decide
        omega
      · show Value.str ⟨List.foldl (fun x1 x2=>x1++x2) #[] (List.replicate n z.toArray)⟩ _=_
        rw [show List.foldl (fun x1 x2=>x1++x2) #[] (List.replicate n z.toArray)=(List.replicate n z).flatten.toArray from e5]
def rSlS:V→Option Int→Option Int→Hp→VK→Prop:=fun x lo hi H Q=>∃ z:Str,x=.str z∧z.length≤sizeLine∧Q (.str (Txt.slice z lo hi)) H
theorem sl_str {X:Cx}:SlR X rSlS:=by
  intro pins s σ H x v vl vu lo hi sl Q I rx hs pl pu h
  obtain ⟨z,rfl,hz,q⟩:=h
  obtain ⟨t,rfl⟩:=rx
  refine ⟨"str",_,F.slot_str_getitem.lookup,typeIs_str _ _ _,?_⟩
  obtain ⟨o,ho,hc,hd⟩:=hs
  have fin:∀ (l u:Option (Int × Tok)),l.map (·.1)=lo→u.map (·.1)=hi→vl=partValue l→vu=partValue u→wpAny (model X.prog X.w) X.A (getItem (.str z t) (.ref sl)) (EP X pins σ Q) X.xe s:=fun l u e1 e2 e3 e4=>by
    subst e1 e2 e3 e4
    refine wpAny_getItem_str_slice (l:=l) (u:=u) (st:=none) ⟨o,ho,hc,hd⟩ rfl (post_val_or_str ⟨Nat.le_trans (Txt.slice_le z (l.map (·.1)) (u.map (·.1))) hz,fun t' k=>?_⟩)
    exact ⟨.str (Txt.slice z (l.map (·.1)) (u.map (·.1))),H,I.tok _,⟨t',rfl⟩,q⟩
  cases pl with
  | none=>cases pu with
    | none=>exact fin none none rfl rfl rfl rfl
    | int j tj=>exact fin none (some (j,tj)) rfl rfl rfl rfl
  | int i ti=>cases pu with
    | none=>exact fin (some (i,ti)) none rfl rfl rfl rfl
    | int j tj=>exact fin (some (i,ti)) (some (j,tj)) rfl rfl rfl rfl
theorem slice_hi (x:Str) (l:Option Int) (j:Nat):Txt.slice x l (some (j:Int))=Txt.slice x l (some ((min j x.length:Nat):Int)):=by
  have e:Builtin.Str.strSliceIndices l (some (j:Int)) 1 x.length=Builtin.Str.strSliceIndices l (some ((min j x.length:Nat):Int)) 1 x.length:=by
    unfold Builtin.Str.strSliceIndices
    simp only
    have e1:max 0 (min (if (j:Int) < 0 then (j:Int)+(x.length:Int) else (j:Int)) (x.length:Int))=max 0 (min (if ((min j x.length:Nat):Int) < 0 then ((min j x.length:Nat):Int)+(x.length:Int) else ((min j x.length:Nat):Int)) (x.length:Int)):=by
      rw [if_neg (by omega),if_neg (by omega)]
      omega
    rw [if_pos (by decide),e1]
    rfl
  unfold Txt.slice
  rw [e]
end L2
namespace L2
open PySem PySem.Spec PyProof.Rows
section
variable {P:Program} {w:World} {A:Around} {E:Value→Shared→Prop}
theorem draw_lst {it l:Addr} {its:Array Value} (hne:l≠it):∀ (n i:Nat) (s:Shared) (Q:List Value→Shared→Prop),s.heap.IsListIter it l i→s.heap.IsList l its→i+n≤its.size →
    (∀ g,g.IsListIter it l (i+n)→Heap.SameBut it s.heap g→Q ((its.toList.drop i).take n) { s with heap:=g })→wpAny (model P w) A (draw (.ref it) n) Q E s
  | 0,i,s,Q,a1,a2,a3,q=>by
    show wpAny _ _ (pure []) Q E s
    refine wpAny_pure ?_
    have q':=q s.heap a1 (Heap.SameBut.refl ..)
    simpa using q'
  | n+1,i,s,Q,a1,a2,a3,q=>by
    have hi:i < its.size:=by omega
    show wpAny _ _ (pyNext (.ref it) >>= _) Q E s
    refine wpAny_bind (wpAny_pyNext_list_item a1 a2 (x:=its[i]) (by simp [hi]) fun g1 b1 b2=>?_)
    refine wpAny_bind (wpAny_holding (draw_lst hne n (i+1) { s with heap:=g1 } _ b1 (a2.at fun o e=>(b2.2 l hne).trans e) (by omega) fun g2 c1 c2=>wpAny_pure ?_))
    have e:its.toList.drop i=its[i] :: its.toList.drop (i+1):=by simp [List.drop_eq_getElem_cons,hi]
    have q':=q g2 (by rw [show i+(n+1)=i+1+n by omega];exact c1) (b2.trans c2)
    rw [e,List.take_succ_cons] at q'
    exact q'
theorem unpackItems_lst {l:Addr} {its:Array Value} {s:Shared} {Q:List Value→Shared→Prop} (hh:A.handled=none) (hl:s.heap.IsList l its)
    (q:∀ g,(∀ b o,b≠s.heap.objs.size→s.heap.get? b=some o→g.get? b=some o)→Q its.toList { s with heap:=g }):wpAny (model P w) A (unpackItems (.ref l) its.size none) Q E s:=by
  have hne:l≠s.heap.objs.size:=by
    obtain ⟨o,ho,_⟩:=hl
    exact Nat.ne_of_lt (Heap.lt_size ho)
  unfold unpackItems
  refine wpAny_bind ?_
  unfold notIterableAtAll
  refine wpAny_bind (wpAny_specialOf hl.typeIs F.slot_list_iter.lookup ?_)
  refine wpAny_pure ?_
  simp only [Bool.false_eq_true,if_false]
  refine wpAny_bind (wpAny_holding (wpAny_pyIter_list hl ?_))
  refine wpAny_bind (wpAny_holding (draw_lst hne its.size 0 _ _ ⟨_,Heap.get?_push_size _ rfl,rfl,rfl⟩ (hl.push _) (by omega) fun g1 b1 b2=>?_))
  have e:List.take its.size (List.drop 0 its.toList)=its.toList:=by
    rw [List.drop_zero]
    exact List.take_of_length_le (by simp)
  rw [e,if_neg (by simp)]
  have hl1:g1.IsList l its:=(hl.push _).at fun o eo=>(b2.2 l hne).trans eo
  refine wpAny_bind (wpAny_holding (wpAny_pyNext_list_end (s:={ s with heap:=g1 }) hh b1 hl1 (by simp) fun g2 c=>?_))
  simp only [Option.isSome_none,Bool.false_eq_true,if_false]
  exact wpAny_pure (q g2 fun b o hb eo=>c b o hb ((b2.2 b hb).trans (Heap.get?_push_of_some _ eo)))
end
def gLst (K:PySem.W.Frag) (n:Nat) (t:TGs):TG:=fun v σ H Q=>∃ a xs,v=.ref a∧SqL K H a xs∧xs.length=n∧t xs σ H Q
theorem pg_lst {X:Cx} {es:List Expr} {k:Nat} {pos:Pos} {t:TGs} {n:Nat} (hc:X.calm=true) (h:PGs X es t)
    (hn:(assignEach es X.env).length=n:=by rfl) (hst:(assignEach es X.env).findIdx? (·.1)=none:=by rfl):PG X (.Tuple es k pos) (gLst X.K n t):=by
  intro pins s σ H v u Q I r hw
  obtain ⟨a,xs,e1,hq,hl,hw⟩:=hw
  subst e1
  cases r
  obtain ⟨its,rv,pl,hz⟩:=I.list hq
  rw [assign_Tuple]
  refine wpAny_bind (wpAny_standAt ?_)
  unfold unpack
  have e2:(assignEach es X.env).length=its.toArray.size:=by simp [hn,← hl,rv.length]
  rw [e2,hst]
  refine wpAny_bind (wpAny_holding (unpackItems_lst (I.ok.hd hc) pl.isList fun g kk=>?_))
  have I1:Inv X pins σ H { s with heap:=g }:=I.kept (t':=s.toks) fun b o e=>kk b o (Nat.ne_of_lt (Heap.lt_size e)) e
  exact h pins _ σ H xs _ Q I1 (by simpa using rv) hw
theorem pg_lstK {X:Cx} (K:PySem.W.Frag) {es:List Expr} {k:Nat} {pos:Pos} {t:TGs} {n:Nat} (hc:X.calm=true) (h:PGs X es t)
    (hn:(assignEach es X.env).length=n:=by rfl) (hst:(assignEach es X.env).findIdx? (·.1)=none:=by rfl) (hK:X.K=K:=by rfl):PG X (.Tuple es k pos) (gLst K n t):=by subst hK;exact pg_lst hc h hn hst
def rMul0:R2:=fun x y H Q=>∃ (z:List Nat) (n:Nat),x=.str ⟨z.toArray⟩∧y=.int (n:Int)∧n≤1000∧z.length≤1000∧Q (.str ⟨(List.replicate n z).flatten.toArray⟩) H
theorem op_mul0 {X:Cx}:OpR X (binaryOp .Mult) rMul0:=by
  intro pins s σ H x y v u Q I rx ry h
  obtain ⟨z,n,rfl,rfl,hn,hz,q⟩:=h
  by_cases h2:2≤n
  · exact op_mulS pins s σ H _ _ v u Q I rx ry ⟨z,n,rfl,rfl,h2,hn,hz,q⟩
  obtain ⟨t,rfl⟩:=rx
  obtain ⟨t',rfl⟩:=ry
  by_cases h0:n=0
  · subst h0
    refine P.mul_str_none (by decide) (by decide) ?_
    exact ⟨.str ⟨#[]⟩,H,I.tok _,⟨_,rfl⟩,q⟩
  · have h1:n=1:=by omega
    subst h1
    refine P.mul_str (by decide) (fun _ h=>by cases h) (fun _ h=>by cases h) ?_
    rw [if_neg (by decide),if_pos (by rfl)]
    have e:(List.replicate 1 z).flatten=z:=by simp
    rw [e] at q
    exact ⟨.str ⟨z.toArray⟩,H,I,⟨t,rfl⟩,q⟩
end L2
namespace L2
open PySem PySem.Spec PyProof.Rows
abbrev iK (z:Str):Key:=Sum.inr z
def Cnt (ss:List Str) (c:Nat):Prop:=c≤ss.length∧(c=ss.length ↔ ss.Nodup)
theorem Cnt.nil:Cnt [] 0:=⟨Nat.le_refl _,by simp⟩
theorem Cnt.snoc {ss:List Str} {z:Str} {c:Nat} (h:Cnt ss c):Cnt (ss++[z]) (if z∈ss then c else c+1):=by
  obtain ⟨h1,h2⟩:=h
  by_cases hz:z∈ss
  · rw [if_pos hz]
    refine ⟨by rw [List.length_append];omega,⟨fun e=>?_,fun e=>?_⟩⟩
    · rw [List.length_append,List.length_singleton] at e
      omega
    · exact absurd rfl ((List.nodup_append.mp e).2.2 z hz z (by simp))
  · rw [if_neg hz]
    refine ⟨by rw [List.length_append,List.length_singleton];omega,⟨fun e=>?_,fun e=>?_⟩⟩
    · rw [List.length_append,List.length_singleton] at e
      have:=h2.mp (by omega)
      refine List.nodup_append.mpr ⟨this,by simp,fun a ha b hb e=>?_⟩
      have:b=z:=by simpa using hb
      exact hz (by rw [← this,← e];exact ha)
    · rw [List.length_append,List.length_singleton]
      have:=h2.mpr (List.nodup_append.mp e).1
      omega
def kin (ss:List Str) (k:Key):Bool:=ss.any fun z=>decide (k=iK z)
end L2
namespace L2
open PySem PySem.Spec PyProof.Rows
end L2
namespace L2
open PySem PySem.Spec PyProof.Rows PySem.W
def Ends' {α:Type} (b:Nat→Nat→Bool) (n:Nat) (R:α→Prop):KasT α→Prop
  | .ret a=>R a
  | .ask i j k=>i < n∧j < n∧Ends' b n R (k (b i j))
theorem ends_bind {α β:Type} {b:Nat→Nat→Bool} {n:Nat} {R:β→Prop} {f:α→KasT β}:∀ {t:KasT α},Ends' b n (fun a=>Ends' b n R (f a)) t→Ends' b n R (t.bind f)
  | .ret a,h=>h
  | .ask i j k,h=>⟨h.1,h.2.1,ends_bind h.2.2⟩
theorem ends_mono {α:Type} {b:Nat→Nat→Bool} {n:Nat} {R R':α→Prop} (hR:∀ a,R a→R' a):∀ {t:KasT α},Ends' b n R t→Ends' b n R' t
  | .ret a,h=>hR a h
  | .ask i j k,h=>⟨h.1,h.2.1,ends_mono hR h.2.2⟩
theorem wp_of_ends {α:Type} {b:Nat→Nat→Bool} {n:Nat} {R:α→Prop} {cmp:Nat→Nat→(Bool→Shared→Prop)→Shared→Prop} {s:Shared} {Q:α→Shared→Prop} (hc:∀ i j C,i < n→j < n→C (b i j) s→cmp i j C s) (hQ:∀ a,R a→Q a s) :
    ∀ {t:KasT α},Ends' b n R t→KasT.kasWp cmp t Q s
  | .ret a,h=>hQ a h
  | .ask i j k,h=>hc i j _ h.1 h.2.1 (wp_of_ends hc hQ h.2.2)
abbrev Fcts:=List (Nat × Nat)
def has (L:Fcts) (i j:Nat):Bool:=L.any fun p=>p.1 == i && p.2 == j
def addF (L:Fcts) (i j:Nat):Fcts:=((i :: (L.filter (·.2 == i)).map (·.1)).flatMap fun a=>(j :: (L.filter (·.1 == j)).map (·.2)).map fun c=>(a,c))++L
def chainF (L:Fcts):List Nat→Bool
  | []=>true
  | [_]=>true
  | a :: b :: r=>has L a b && chainF L (b :: r)
def ndF:List Nat→Bool
  | []=>true
  | a :: r=>!(r.any (· == a)) && ndF r
def okC (n:Nat):KasT (Nat × Array Nat)→Fcts→Bool
  | .ret q,L=>decide (1≤q.1) && decide (q.1≤n) && q.2.toList.length == n && q.2.toList.all (fun x=>decide (x < n)) && ndF q.2.toList && chainF L (q.2.toList.take q.1)
  | .ask i j k,L=>decide (i < n) && decide (j < n) && (if i == j then okC n (k false) L else if has L i j then okC n (k true) L else if has L j i then okC n (k false) L else okC n (k true) (addF L i j) && okC n (k false) (addF L j i))
structure Ord (b:Nat→Nat→Bool) (n:Nat):Prop where
  irr:∀ i,b i i=false
  trans:∀ i j k,b i j=true→b j k=true→b i k=true
  tot:∀ i j,i < n→j < n→i≠j→b i j=false→b j i=true
def Hold (b:Nat→Nat→Bool) (L:Fcts):Prop:=∀ p∈L,b p.1 p.2=true
theorem has_hold {b:Nat→Nat→Bool} {L:Fcts} (h:Hold b L) {i j:Nat} (e:has L i j=true):b i j=true:=by
  obtain ⟨p,hp,e⟩:=List.any_eq_true.mp e
  rw [Bool.and_eq_true,beq_iff_eq,beq_iff_eq] at e
  rw [← e.1,← e.2]
  exact h p hp
theorem add_hold {b:Nat→Nat→Bool} {n:Nat} (O:Ord b n) {L:Fcts} (h:Hold b L) {i j:Nat} (e:b i j=true):Hold b (addF L i j):=by
  intro p hp
  rcases List.mem_append.mp hp with hp | hp
  · obtain ⟨a,ha,hp⟩:=List.mem_flatMap.mp hp
    obtain ⟨c,hc,rfl⟩:=List.mem_map.mp hp
    have h1:b a j=true:=by
      rcases List.mem_cons.mp ha with z | z
      · rw [z];exact e
      · obtain ⟨q,hq,rfl⟩:=List.mem_map.mp z
        obtain ⟨q1,q2⟩:=List.mem_filter.mp hq
        rw [beq_iff_eq] at q2
        have:=h q q1
        rw [q2] at this
        exact O.trans _ _ _ this e
    rcases List.mem_cons.mp hc with z | z
    · rw [z];exact h1
    · obtain ⟨q,hq,rfl⟩:=List.mem_map.mp z
      obtain ⟨q1,q2⟩:=List.mem_filter.mp hq
      rw [beq_iff_eq] at q2
      have:=h q q1
      rw [q2] at this
      exact O.trans _ _ _ h1 this
  · exact h p hp
theorem chain_pair {b:Nat→Nat→Bool} {n:Nat} (O:Ord b n) {L:Fcts} (h:Hold b L):∀ {xs:List Nat},chainF L xs=true→xs.Pairwise fun x y=>b x y=true
  | [],_=>.nil
  | [_],_=>by simp
  | x :: y :: r,e=>by
    have e':(has L x y && chainF L (y :: r))=true:=e
    rw [Bool.and_eq_true] at e'
    have ih:=chain_pair O h e'.2
    have hxy:=has_hold h e'.1
    refine List.pairwise_cons.mpr ⟨fun z hz=>?_,ih⟩
    rcases List.mem_cons.mp hz with rfl | hz
    · exact hxy
    · exact O.trans _ _ _ hxy ((List.pairwise_cons.mp ih).1 z hz)
theorem nd_of:∀ {xs:List Nat},ndF xs=true→xs.Nodup
  | [],_=>.nil
  | x :: r,e=>by
    have e':(!(r.any (· == x)) && ndF r)=true:=e
    rw [Bool.and_eq_true] at e'
    refine List.nodup_cons.mpr ⟨fun hx=>?_,nd_of e'.2⟩
    have:r.any (· == x)=true:=List.any_eq_true.mpr ⟨x,hx,by simp⟩
    rw [this] at e'
    cases e'.1
structure Sor (b:Nat→Nat→Bool) (n m:Nat) (p:Array Nat):Prop where
  size:p.size=n
  lt:∀ x∈p.toList,x < n
  nd:p.toList.Nodup
  up:(p.toList.take m).Pairwise fun x y=>b x y=true
theorem count_ok {b:Nat→Nat→Bool} {n:Nat} (O:Ord b n):∀ {t:KasT (Nat × Array Nat)} {L:Fcts},Hold b L→okC n t L=true→Ends' b n (fun q=>1≤q.1∧q.1≤n∧Sor b n q.1 q.2) t
  | .ret q,L,h,e=>by
    have e':(decide (1≤q.1) && decide (q.1≤n) && q.2.toList.length == n && q.2.toList.all (fun x=>decide (x < n)) && ndF q.2.toList && chainF L (q.2.toList.take q.1))=true:=e
    simp only [Bool.and_eq_true,decide_eq_true_eq,beq_iff_eq] at e'
    obtain ⟨⟨⟨⟨⟨e1,e2⟩,e3⟩,e4⟩,e5⟩,e6⟩:=e'
    exact ⟨e1,e2,⟨by simpa using e3,fun x hx=>of_decide_eq_true (List.all_eq_true.mp e4 x hx),nd_of e5,chain_pair O h e6⟩⟩
  | .ask i j k,L,h,e=>by
    have e':(decide (i < n) && decide (j < n) && (if (i == j)=true then okC n (k false) L else if has L i j=true then okC n (k true) L else if has L j i=true then okC n (k false) L else okC n (k true) (addF L i j) && okC n (k false) (addF L j i)))=true:=e
    rw [Bool.and_eq_true,Bool.and_eq_true] at e'
    obtain ⟨⟨e1,e2⟩,e3⟩:=e'
    have hi:=of_decide_eq_true e1
    have hj:=of_decide_eq_true e2
    refine ⟨hi,hj,?_⟩
    by_cases c1:i=j
    · rw [if_pos (by simpa using c1)] at e3
      subst c1
      rw [O.irr]
      exact count_ok O h e3
    rw [if_neg (by simpa using c1)] at e3
    by_cases c2:has L i j=true
    · rw [if_pos c2] at e3
      rw [has_hold h c2]
      exact count_ok O h e3
    rw [if_neg c2] at e3
    by_cases c3:has L j i=true
    · rw [if_pos c3] at e3
      have:b i j=false:=by
        cases q:b i j with
        | false=>rfl
        | true=>have:=O.trans _ _ _ q (has_hold h c3);rw [O.irr] at this;cases this
      rw [this]
      exact count_ok O h e3
    rw [if_neg c3,Bool.and_eq_true] at e3
    cases q:b i j with
    | true=>exact count_ok O (add_hold O h q) e3.1
    | false=>exact count_ok O (add_hold O h (O.tot i j hi hj c1 q)) e3.2
theorem ok_all:∀ n,2≤n→n≤8→okC n (kas_count n (List.range n).toArray) []=true
  | 2,_,_=>by decide +kernel
  | 3,_,_=>by decide +kernel
  | 4,_,_=>by decide +kernel
  | 5,_,_=>by decide +kernel
  | 6,_,_=>by decide +kernel
  | 7,_,_=>by decide +kernel
  | 8,_,_=>by decide +kernel
theorem getD_at {p:Array Nat} {i:Nat} (h:i < p.size):p.toList[i]? = some (p.getD i 0):=by
  rw [Array.getElem?_toList,Array.getD,dif_pos h]
  exact Array.getElem?_eq_getElem h
theorem Sor.below {b:Nat→Nat→Bool} {n m:Nat} {p:Array Nat} (S:Sor b n m p) {i j:Nat} (hij:i < j) (hj:j < m) (hm:m≤n):b (p.getD i 0) (p.getD j 0)=true:=by
  have hs:=S.size
  have h1:(p.toList.take m)[i]? = some (p.getD i 0):=by rw [List.getElem?_take_of_lt (by omega)];exact getD_at (by omega)
  have h2:(p.toList.take m)[j]? = some (p.getD j 0):=by rw [List.getElem?_take_of_lt hj];exact getD_at (by omega)
  obtain ⟨l1,e1⟩:=List.getElem?_eq_some_iff.mp h1
  obtain ⟨l2,e2⟩:=List.getElem?_eq_some_iff.mp h2
  have:=List.pairwise_iff_getElem.mp S.up i j l1 l2 hij
  rw [e1,e2] at this
  exact this
theorem Sor.mem {b:Nat→Nat→Bool} {n m:Nat} {p:Array Nat} (S:Sor b n m p) {i:Nat} (h:i < n):p.getD i 0 < n:=S.lt _ (List.mem_of_getElem? (getD_at (by rw [S.size];exact h)))
theorem Sor.ne {b:Nat→Nat→Bool} {n m:Nat} {p:Array Nat} (S:Sor b n m p) {i j:Nat} (hij:i < j) (h:j < n):p.getD i 0≠p.getD j 0:=by
  have hs:=S.size
  obtain ⟨l1,e1⟩:=List.getElem?_eq_some_iff.mp (getD_at (p:=p) (i:=i) (by omega))
  obtain ⟨l2,e2⟩:=List.getElem?_eq_some_iff.mp (getD_at (p:=p) (i:=j) (by omega))
  have:=List.pairwise_iff_getElem.mp S.nd i j l1 l2 hij
  rw [e1,e2] at this
  exact this
theorem place_ok {b:Nat→Nat→Bool} {n:Nat} (O:Ord b n) {p:Array Nat} {k:Nat} (hk:k < n) (S:Sor b n k p):∀ (f l r:Nat),l≤r→r≤k→r - l≤f→(∀ i,i < l→b (p.getD i 0) (p.getD k 0)=true)→(∀ i,r≤i→i < k→b (p.getD k 0) (p.getD i 0)=true) →
    Ends' b n (fun l'=>l'≤k∧(∀ i,i < l'→b (p.getD i 0) (p.getD k 0)=true)∧∀ i,l'≤i→i < k→b (p.getD k 0) (p.getD i 0)=true) (kas_place p k f l r)
  | 0,l,r,hlr,hr,hf,h1,h2=>by
    have e:l=r:=by omega
    subst e
    exact ⟨hr,h1,h2⟩
  | f+1,l,r,hlr,hr,hf,h1,h2=>by
    show Ends' b n _ (if l ≥ r then KasT.ret l else _)
    by_cases c:l ≥ r
    · rw [if_pos c]
      have e:l=r:=by omega
      subst e
      exact ⟨hr,h1,h2⟩
    rw [if_neg c]
    refine ⟨S.mem hk,S.mem (by omega),?_⟩
    have hm:(l+r) / 2 < k:=by omega
    cases q:b (p.getD k 0) (p.getD ((l+r) / 2) 0) with
    | true =>
      show Ends' b n _ (kas_place p k f l ((l+r) / 2))
      refine place_ok O hk S f l ((l+r) / 2) (by omega) (by omega) (by omega) h1 fun i hi hik=>?_
      by_cases e:i=(l+r) / 2
      · rw [e];exact q
      · exact O.trans _ _ _ q (S.below (by omega) hik (by omega))
    | false =>
      show Ends' b n _ (kas_place p k f ((l+r) / 2+1) r)
      have q':=O.tot _ _ (S.mem hk) (S.mem (by omega)) (S.ne hm hk).symm q
      refine place_ok O hk S f ((l+r) / 2+1) r (by omega) hr (by omega) (fun i hi=>?_) h2
      by_cases e:i=(l+r) / 2
      · rw [e];exact q'
      · exact O.trans _ _ _ (S.below (i:=i) (j:=(l+r) / 2) (by omega) hm (by omega)) q'
theorem bubble_sor {b:Nat→Nat→Bool} {n:Nat} (O:Ord b n) {p:Array Nat} {k l:Nat} (hk:k < n) (S:Sor b n k p) (hl:l≤k) (h1:∀ i,i < l→b (p.getD i 0) (p.getD k 0)=true) (h2:∀ i,l≤i→i < k→b (p.getD k 0) (p.getD i 0)=true) :
    Sor b n (k+1) (bubble p k (k - l)):=by
  have hs:=S.size
  have pm:(bubble p k (k - l)).toList.Perm p.toList:=Array.perm_iff_toList_perm.mp (bubble_perm p k (k - l))
  refine ⟨by rw [bubble_size];exact hs,fun x hx=>S.lt x (pm.mem_iff.mp hx),pm.nodup_iff.mpr S.nd,?_⟩
  have at':∀ i,i≤k→(bubble p k (k - l))[i]? = some (if i=l then p.getD k 0 else if l < i then p.getD (i - 1) 0 else p.getD i 0):=fun i hi=>by
    rw [getElem?_bubble (by omega) (k - l) (by omega) i]
    have e0:k - (k - l)=l:=by omega
    rw [e0]
    have g:∀ j,j < n→p[j]? = some (p.getD j 0):=fun j hj=>by have:=getD_at (p:=p) (i:=j) (by omega);rwa [Array.getElem?_toList] at this
    by_cases c1:i=l
    · rw [if_pos c1,if_pos c1];exact g k hk
    · rw [if_neg c1,if_neg c1]
      by_cases c2:l < i
      · rw [if_pos ⟨c2,hi⟩,if_pos c2];exact g _ (by omega)
      · rw [if_neg (fun z=>c2 z.1),if_neg c2];exact g _ (by omega)
  refine List.pairwise_iff_getElem.mpr fun i j l1 l2 hij=>?_
  rw [List.length_take,Array.length_toList,bubble_size] at l1 l2
  have a1:=at' i (by omega)
  have a2:=at' j (by omega)
  rw [← Array.getElem?_toList] at a1 a2
  rw [List.getElem_take,List.getElem_take]
  obtain ⟨_,e1⟩:=List.getElem?_eq_some_iff.mp a1
  obtain ⟨_,e2⟩:=List.getElem?_eq_some_iff.mp a2
  rw [e1,e2]
  by_cases c1:i=l
  · rw [if_pos c1,if_neg (by omega),if_pos (by omega)]
    exact h2 _ (by omega) (by omega)
  · rw [if_neg c1]
    by_cases c2:l < i
    · rw [if_pos c2,if_neg (by omega),if_pos (by omega)]
      exact S.below (by omega) (by omega) (by omega)
    · rw [if_neg c2]
      by_cases c3:j=l
      · rw [if_pos c3];exact h1 i (by omega)
      · rw [if_neg c3]
        by_cases c4:l < j
        · rw [if_pos c4]
          exact S.below (by omega) (by omega) (by omega)
        · rw [if_neg c4]
          exact S.below hij (by omega) (by omega)
theorem bin_ok {b:Nat→Nat→Bool} {n:Nat} (O:Ord b n):∀ (f k:Nat) (p:Array Nat),k+f=n→Sor b n k p→Ends' b n (Sor b n n) (kas_bin f p k)
  | 0,k,p,hk,S=>by
    have e:k=n:=by omega
    subst e
    exact S
  | f+1,k,p,hk,S=>by
    show Ends' b n _ ((kas_place p k k 0 k).bind fun l=>kas_bin f (bubble p k (k - l)) (k+1))
    refine ends_bind (ends_mono (fun l h=>?_) (place_ok O (by omega) S k 0 k (by omega) (Nat.le_refl _) (by omega) (fun i hi=>by omega) fun i hi hik=>by omega))
    exact bin_ok O f (k+1) _ (by omega) (bubble_sor O (by omega) S h.1 h.2.1 h.2.2)
theorem sort_ok {b:Nat→Nat→Bool} {n:Nat} (O:Ord b n) (h2:2≤n) (h8:n≤8):Ends' b n (Sor b n n) (kas_sort n):=by
  unfold kas_sort
  refine ends_bind (ends_mono (fun q h=>?_) (count_ok O (L:=[]) (fun _ z=>nomatch z) (ok_all n h2 h8)))
  obtain ⟨h1,h3,S⟩:=h
  have em:max q.1 1=q.1:=by omega
  by_cases c:q.1 < n
  · show Ends' b n _ (if q.1 < n then _ else _)
    rw [if_pos c,em]
    exact bin_ok O _ _ _ (by omega) S
  · show Ends' b n _ (if q.1 < n then _ else _)
    rw [if_neg c]
    have e:q.1=n:=by omega
    rw [e] at S
    exact S
end L2
namespace L2
open PySem PySem.Spec PyProof.Rows PySem.W
abbrev Tri:=Addr × Str × Str
def PairT (h:Heap) (q:Tri):Prop:=∃ o t u k,h.get? q.1=some o∧o.cls=.type "tuple"∧o.data=.seq #[.str q.2.1 t,.str q.2.2 u] k
def ltT (p q:Tri):Bool:=decide (p.2.1.cps.toList < q.2.1.cps.toList)
theorem str_ext {a b:Str} (h:a.cps.toList=b.cps.toList):a=b:=by
  cases a;cases b
  exact congrArg Str.mk (Array.ext' h)
theorem pair_lt {P:Program} {w:World} {A:Around} {E:Value→Shared→Prop} {s:Shared} {Q:Bool→Shared→Prop} {p q:Tri} (hp:PairT s.heap p) (hq:PairT s.heap q) (hw:p.2.1=q.2.1→p.2.2=q.2.2) (h:Q (ltT p q) s) :
    wpAny (model P w) A (keyLt' (tuples' true) (.ref p.1) (.ref q.1)) Q E s:=by
  obtain ⟨o,t,u,k,h1,h2,h3⟩:=hp
  obtain ⟨o',t',u',k',h1',h2',h3'⟩:=hq
  refine kat_lt h1 h3 h1' h3' ?_
  have hk:∀ (z:Str) (t:Tok),(mixKind P w).is (Sum.inr z:Key) (.str z t)=true:=fun z t=>kV_is (k:=(Sum.inr z:Key)) ⟨t,rfl⟩
  refine kat_cons ((mixKind P w).eqBool (hk p.2.1 t) (hk q.2.1 t') ?_)
  by_cases e:p.2.1=q.2.1
  · have ed:decide ((Sum.inr p.2.1:Key)=Sum.inr q.2.1)=true:=decide_eq_true (by rw [e])
    rw [ed]
    refine kat_yes (kat_cons ((mixKind P w).eqBool (hk p.2.2 u) (hk q.2.2 u') ?_))
    have ed2:decide ((Sum.inr p.2.2:Key)=Sum.inr q.2.2)=true:=decide_eq_true (by rw [hw e])
    rw [ed2]
    refine kat_yes (kat_nil ?_)
    unfold ltT at h
    rw [e] at h
    have:decide (q.2.1.cps.toList < q.2.1.cps.toList)=false:=strKind.irrefl _
    rw [this] at h
    exact h
  · have ed:decide ((Sum.inr p.2.1:Key)=Sum.inr q.2.1)=false:=decide_eq_false (fun z=>e (Sum.inr.inj z))
    rw [ed]
    refine kat_no ?_
    exact strKind_oneLt P w A _ s (.str p.2.1 t) (.str q.2.1 t') p.2.1.cps.toList q.2.1.cps.toList rfl rfl h
abbrev d0:Tri:=(0,⟨#[]⟩,⟨#[]⟩)
theorem ord_of {ts:List Tri} (nd:(ts.map (·.2.1)).Nodup):Ord (fun i j=>ltT (ts.getD i d0) (ts.getD j d0)) ts.length where
  irr:=fun i=>strKind.irrefl _
  trans:=fun i j k h1 h2=>strKind.trans _ _ _ h1 h2
  tot:=fun i j hi hj hij h=>by
    cases q:ltT (ts.getD j d0) (ts.getD i d0) with
    | true=>rfl
    | false =>
      have e:(ts.getD i d0).2.1=(ts.getD j d0).2.1:=str_ext (strKind.total _ _ h q)
      rw [List.getD_eq_getElem?_getD,List.getElem?_eq_getElem hi,List.getD_eq_getElem?_getD,List.getElem?_eq_getElem hj] at e
      have e':(ts.map (·.2.1))[i]'(by rw [List.length_map];exact hi)=(ts.map (·.2.1))[j]'(by rw [List.length_map];exact hj):=by rw [List.getElem_map,List.getElem_map];exact e
      exact absurd ((List.getElem_inj nd).mp e') hij
theorem range_map {ts:List Tri}:(List.range ts.length).map (fun i=>ts.getD i d0)=ts:=by
  refine List.ext_getElem? fun i=>?_
  rw [List.getElem?_map]
  by_cases h:i < ts.length
  · rw [List.getElem?_range h,List.getElem?_eq_getElem h]
    show some (ts.getD i d0)=_
    rw [List.getD_eq_getElem?_getD,List.getElem?_eq_getElem h]
    rfl
  · rw [List.getElem?_eq_none (by rw [List.length_range];omega),List.getElem?_eq_none (by omega)]
    rfl
theorem perm_sub:∀ {l r:List Nat},l.Nodup→(∀ x∈l,x∈r)→r.length≤l.length→l.Perm r
  | [],r,_,_,h=>by
    have:r=[]:=List.eq_nil_of_length_eq_zero (Nat.le_zero.mp h)
    rw [this]
  | x :: l,r,nd,sub,h=>by
    have hx:=sub x List.mem_cons_self
    have pe:=List.perm_cons_erase hx
    have nd':=List.nodup_cons.mp nd
    refine ((perm_sub nd'.2 (fun y hy=>?_) ?_).cons x).trans pe.symm
    · refine (List.mem_erase_of_ne fun z=>?_).mpr (sub y (List.mem_cons_of_mem _ hy))
      rw [z] at hy
      exact nd'.1 hy
    · rw [List.length_erase_of_mem hx]
      rw [List.length_cons] at h
      omega
theorem perm_range {n:Nat} {l:List Nat} (nd:l.Nodup) (lt:∀ x∈l,x < n) (len:l.length=n):l.Perm (List.range n) :=
  perm_sub nd (fun x hx=>List.mem_range.mpr (lt x hx)) (by rw [List.length_range,len];exact Nat.le_refl _)
theorem sor_out {ts:List Tri} {p:Array Nat} (S:Sor (fun i j=>ltT (ts.getD i d0) (ts.getD j d0)) ts.length ts.length p) :
    (p.toList.map fun i=>ts.getD i d0).Perm ts∧(p.toList.map fun i=>ts.getD i d0).Pairwise fun x y=>ltT x y=true:=by
  have len:p.toList.length=ts.length:=by rw [Array.length_toList];exact S.size
  refine ⟨?_,?_⟩
  · have:=(perm_range S.nd S.lt len).map fun i=>ts.getD i d0
    rw [range_map] at this
    exact this
  · have:=S.up
    rw [List.take_of_length_le (by omega)] at this
    exact List.pairwise_map.mpr this
theorem list_sort_pairs {P:Program} {w:World} {A:Around} {E:Value→Shared→Prop} {s:Shared} {F:PySem.Fin→Shared→Prop} {a:Addr} {ts:List Tri} {n:Nat} (ho:s.heap.get? a=some (seqObj "list" (ts.map fun q=>Value.ref q.1).toArray n)) (ha:∀ q∈ts,q.1≠a) (hp:∀ q∈ts,PairT s.heap q)
    (nd:(ts.map (·.2.1)).Nodup) (h8:ts.length≤8)
    (hq:∀ ts':List Tri,ts'.Perm ts→(ts'.Pairwise fun x y=>ltT x y=true)→F (.done (.ret .none)) { s with heap:=sortedHeap s.heap a (ts.map fun q=>Value.ref q.1) (ts'.map fun q=>Value.ref q.1).toArray }) :
    wpAny (model P w) A (Builtin.«list.sort» { pos:=[.ref a] }) F E s:=by
  rw [list_sort_plain]
  have hsz:(ts.map fun q=>Value.ref q.1).toArray.size=ts.length:=by simp
  have hbig:1000≤sizeLine:=by decide
  refine wpAny_bind (listItems_at ho rfl ?_)
  refine wpAny_bind (listUpdate_at ho rfl ?_ (by rw [hsz];omega) (by show 0≤_;omega))
  obtain ⟨e1,ho1⟩:∃ e1,(s.heap.update a (Obj.mapSeq fun _=>#[])).get? a=some (seqObj "list" #[] e1):=⟨_,get?_update_seq ho _⟩
  refine wpAny_bind (seqEpoch_at ho1 rfl ?_)
  refine wpAny_bind (wpAny_newTuple ?_ (by simp;omega))
  refine wpAny_bind (wpAny_newList ?_ (by show 0≤_;omega))
  refine wpAny_holding ?_
  have hlt:=Heap.lt_size ho1
  have ho3:(((s.heap.update a (Obj.mapSeq fun _=>#[])).push { cls:=.type "tuple",data:=.seq (ts.map fun q=>Value.ref q.1).toArray.toList.toArray }).push { cls:=.type "list",data:=.seq ([]:List Value).toArray }).get? a=some (seqObj "list" #[] e1):=Heap.get?_push_of_some _ (Heap.get?_push_of_some _ ho1)
  by_cases c:ts.length < 2
  · have c':(ts.map fun q=>Value.ref q.1).toArray.size < 2:=by rw [hsz];exact c
    rw [if_pos c',if_pos c']
    refine wpAny_bind (wpAny_pure ?_)
    dsimp only
    rw [StateT.run_pure]
    refine wpAny_bind (wpAny_pure ?_)
    dsimp only
    have hm:Array.map (fun x:Keyed=>x.snd) (arrOf (SortSt.mk' general' ((ts.map fun q=>Value.ref q.1).toArray.zip (ts.map fun q=>Value.ref q.1).toArray) #[] 7 none))=(ts.map fun q=>Value.ref q.1).toArray:=by
      show Array.map (fun x:Keyed=>x.snd) ((ts.map fun q=>Value.ref q.1).toArray.zip (ts.map fun q=>Value.ref q.1).toArray)=_
      exact Array.map_snd_zip (Nat.le_refl _)
    rw [hm]
    refine wpAny_bind (seqEpoch_at ho3 rfl ?_)
    refine wpAny_bind (listUpdate_at ho3 rfl ?_ (by show 0≤_;omega) (by rw [hsz];omega))
    simp only [bne_self_eq_false,Bool.false_eq_true,if_false]
    refine wpAny_pure (hq ts (List.Perm.refl _) ?_)
    match ts,c with
    | [],_=>exact .nil
    | [_],_=>simp
  · have c':¬ (ts.map fun q=>Value.ref q.1).toArray.size < 2:=by rw [hsz];exact c
    rw [if_neg c',if_neg c']
    refine wpAny_bind ?_
    have hp3:∀ q∈ts,PairT (((s.heap.update a (Obj.mapSeq fun _=>#[])).push { cls:=.type "tuple",data:=.seq (ts.map fun q=>Value.ref q.1).toArray.toList.toArray }).push { cls:=.type "list",data:=.seq ([]:List Value).toArray }) q:=fun q hq'=>by
      obtain ⟨o,t,u,k,h1,h2⟩:=hp q hq'
      refine ⟨o,t,u,k,Heap.get?_push_of_some _ (Heap.get?_push_of_some _ ?_),h2⟩
      exact ((Heap.SameBut.update _ _ _).2 _ (ha q hq')).trans h1
    have hT:∀ {us:List Tri},(∀ q∈us,q∈ts)→∃ fs,KatTups (((s.heap.update a (Obj.mapSeq fun _=>#[])).push { cls:=.type "tuple",data:=.seq (ts.map fun q=>Value.ref q.1).toArray.toList.toArray }).push { cls:=.type "list",data:=.seq ([]:List Value).toArray }) (us.map fun q=>Value.ref q.1) fs∧fs.length=us.length∧∀ v∈fs,∃ z t,v=.str z t:=by
      intro us
      induction us with
      | nil=>intro _;exact ⟨[],KatTups.nil,rfl,fun _ z=>nomatch z⟩
      | cons q us ih =>
        intro hs
        obtain ⟨fs,i1,i2,i3⟩:=ih fun x hx=>hs x (List.mem_cons_of_mem _ hx)
        obtain ⟨o,t,u,k,h1,h2,h3⟩:=hp3 q (hs q List.mem_cons_self)
        refine ⟨.str q.2.1 t :: fs,KatTups.cons h1 h2 h3 rfl i1,by simp [i2],fun v hv=>?_⟩
        rcases List.mem_cons.mp hv with z | z
        · exact ⟨_,_,z⟩
        · exact i3 v z
    obtain ⟨fs,k1,k2,k3⟩:=hT (us:=ts) fun _ z=>z
    refine kat_kind (T:=.type "str") k1 (by omega) (fun v hv=>?_) (by decide) ?_
    · obtain ⟨z,t,rfl⟩:=k3 v hv
      intro A' Q' E' s' _ hQ
      exact wpAny_typeOf (T:="str") rfl hQ
    show wpAny _ _ _ _ _ _
    dsimp only
    have et:tuples' (Value.type "str" != Value.type "tuple")=tuples' true:=by rfl
    rw [et]
    refine wpAny_bind ?_
    have hlen:(ts.map fun q=>Value.ref q.1).length=ts.length:=List.length_map _
    refine wpAny_mono (kat_run (ks:=ts.map fun q=>Value.ref q.1) (vs:=ts.map fun q=>Value.ref q.1) (E:=E)
      (Q:=fun st s'=>s' = { s with heap:=((s.heap.update a (Obj.mapSeq fun _=>#[])).push { cls:=.type "tuple",data:=.seq (ts.map fun q=>Value.ref q.1).toArray.toList.toArray }).push { cls:=.type "list",data:=.seq ([]:List Value).toArray } }∧failedOf st=none∧∃ ts':List Tri,ts'.Perm ts∧(ts'.Pairwise fun x y=>ltT x y=true)∧Array.map (fun x:Keyed=>x.snd) (arrOf st)=(ts'.map fun q=>Value.ref q.1).toArray)
      (G:=fun p s'=>s' = { s with heap:=((s.heap.update a (Obj.mapSeq fun _=>#[])).push { cls:=.type "tuple",data:=.seq (ts.map fun q=>Value.ref q.1).toArray.toList.toArray }).push { cls:=.type "list",data:=.seq ([]:List Value).toArray } }∧Sor (fun i j=>ltT (ts.getD i d0) (ts.getD j d0)) ts.length ts.length p) rfl (by rw [hlen];omega) (by rw [hlen];omega) ?_ ?_) ?_ ?_
    · rintro p st' s' hs ha' hf ⟨rfl,S⟩
      refine ⟨rfl,hf,p.toList.map (fun i=>ts.getD i d0),(sor_out S).1,(sor_out S).2,?_⟩
      rw [kat_snds rfl ha',List.map_map]
      congr 1
      refine List.map_congr_left fun i hi=>?_
      have:=S.lt i hi
      show (ts.map fun q=>Value.ref q.1).getD i Value.none=Value.ref (ts.getD i d0).1
      rw [List.getD_eq_getElem?_getD,List.getElem?_map,List.getD_eq_getElem?_getD,List.getElem?_eq_getElem this]
      rfl
    · rw [hlen]
      refine wp_of_ends (R:=Sor (fun i j=>ltT (ts.getD i d0) (ts.getD j d0)) ts.length ts.length) (fun i j C hi hj hC=>?_) (fun p S=>⟨rfl,S⟩) (sort_ok (ord_of nd) (by omega) h8)
      have g:∀ i,i < ts.length→(ts.map fun q=>Value.ref q.1).getD i Value.none=Value.ref (ts.getD i d0).1:=fun i hi=>by
        rw [List.getD_eq_getElem?_getD,List.getElem?_map,List.getD_eq_getElem?_getD,List.getElem?_eq_getElem hi]
        rfl
      have m:∀ i,i < ts.length→ts.getD i d0∈ts:=fun i hi=>by
        rw [List.getD_eq_getElem?_getD,List.getElem?_eq_getElem hi]
        exact List.getElem_mem hi
      unfold kas_ask
      rw [g i hi,g j hj]
      refine pair_lt (hp3 _ (m i hi)) (hp3 _ (m j hj)) (fun e=>?_) hC
      rw [List.getD_eq_getElem?_getD,List.getElem?_eq_getElem hi,List.getD_eq_getElem?_getD,List.getElem?_eq_getElem hj] at e ⊢
      have e':(ts.map (·.2.1))[i]'(by rw [List.length_map];exact hi)=(ts.map (·.2.1))[j]'(by rw [List.length_map];exact hj):=by rw [List.getElem_map,List.getElem_map];exact e
      have:=(List.getElem_inj nd).mp e'
      subst this
      rfl
    · rintro r s' ⟨rfl,hf,ts',q1,q2,q3⟩
      have hl':=q1.length_eq
      rw [q3]
      refine wpAny_bind (seqEpoch_at ho3 rfl ?_)
      refine wpAny_bind (listUpdate_at ho3 rfl ?_ (by show 0≤_;omega) (by simp;omega))
      rw [hf]
      simp only [bne_self_eq_false,Bool.false_eq_true,if_false]
      exact wpAny_pure (hq ts' q1 q2)
    · exact fun _ _ h=>h
def rSortP (K:PySem.W.Frag):List V→Hp→VK→Prop:=fun xs H Q=>∃ (p:Addr) (b:Bool) (ts:List Tri),xs=[.ref p]∧SqA K H p (ts.map fun q=>V.ref q.1) b∧(∀ q∈ts,H q.1=some (.tup [.str q.2.1,.str q.2.2]))∧(ts.map (·.2.1)).Nodup∧ts.length≤8 ∧
  ∀ l (ts':List Tri),H l=none→ts'.Perm ts→(ts'.Pairwise fun x y=>ltT x y=true)→Q (.ref l) (upd H l (.lst (ts'.map fun q=>V.ref q.1)))
theorem vals_refs:∀ {ts:List Tri} {its:List Value},Vals (ts.map fun q=>V.ref q.1) its→its=ts.map fun q=>Value.ref q.1
  | [],_,.nil=>rfl
  | q :: ts,_,.cons h r=>by
    cases (show _=Value.ref q.1 from h)
    rw [vals_refs r]
    rfl
theorem refs_vals:∀ (ts:List Tri),Vals (ts.map fun q=>V.ref q.1) (ts.map fun q=>Value.ref q.1)
  | []=>.nil
  | q :: ts=>.cons rfl (refs_vals ts)
theorem call_sortP {X:Cx}:CallR X (.builtin "sorted") (rSortP X.K):=by
  intro pins s σ H xs us Q I r h
  obtain ⟨p,b,ts,rfl,hS,hT,nd,h8,q⟩:=h
  obtain ⟨u,rfl,ru⟩:=vals1 r
  cases ru
  obtain ⟨its,rv,pA,hz⟩:=I.seqA hS
  have ei:=vals_refs rv
  subst ei
  obtain ⟨T,o,hT',ho,hc,k,hd⟩:∃ T o,(T = "list"∨T = "tuple")∧s.heap.get? p=some o∧o.cls=.type T∧∃ k,o.data=.seq (ts.map fun q=>Value.ref q.1).toArray k:=by
    cases b with
    | false =>
      obtain ⟨o,h1,h2,k,h3⟩:=(show s.heap.IsList p _ from pA)
      exact ⟨"list",o,.inl rfl,h1,h2,k,h3⟩
    | true =>
      obtain ⟨o,h1,h2,k,h3⟩:=(show IsTup s.heap p _ from pA)
      exact ⟨"tuple",o,.inr rfl,h1,h2,k,h3⟩
  have hbig:1000≤sizeLine:=by decide
  refine Calls.call_function_entry kind_sorted plain_sorted entry_sorted (args_sorted1 _) ?_
  unfold Builtin.«sorted»
  refine wpAny_bind (m:=checkCount "sorted" 1 1 _) (wpAny_pure ?_)
  refine wpAny_bind (wpAny_collect_seq p hT' ho hc hd (fun h' hkp=>?_) (by simp;omega))
  refine wpAny_bind (wpAny_newList ?_ (by simp;omega))
  have hoL:(h'.push { cls:=.type "list",data:=.seq (ts.map fun q=>Value.ref q.1).toArray.toList.toArray }).get? h'.objs.size=some (seqObj "list" (ts.map fun q=>Value.ref q.1).toArray 0):=Heap.get?_push_size _ rfl
  have hlt:∀ b o,s.heap.get? b=some o→b≠h'.objs.size:=fun b o e=>Nat.ne_of_lt (Heap.lt_size (hkp b o e))
  have hpT:∀ q∈ts,PairT s.heap q:=fun q hq=>by
    obtain ⟨_,its,rv',pt,_⟩:=(show ObjOk X.prog X.w H s.heap q.1 (.tup [.str q.2.1,.str q.2.2]) from I.hok _ _ (hT q hq))
    obtain ⟨o,h1,h2,k,h3⟩:=pt
    cases rv' with
    | cons r1 rr =>
      cases rr with
      | cons r2 rr2 =>
        cases rr2
        obtain ⟨t,rfl⟩:=r1
        obtain ⟨u,rfl⟩:=r2
        exact ⟨o,t,u,k,h1,h2,h3⟩
  refine wpAny_bind (wpAny_holding (wpAny_call_entry slot_list_sort ⟨_,hoL,rfl⟩ entry_list_sort (list_sort_pairs (ts:=ts) hoL (fun q hq=>?_) (fun q hq=>?_) nd h8 fun ts' q1 q2=>⟨_,rfl,?_⟩) (args_list_sort _)))
  · obtain ⟨o,_,_,_,h1,_⟩:=hpT q hq
    exact hlt _ _ h1
  · obtain ⟨o,t,u,k,h1,h2⟩:=hpT q hq
    exact ⟨o,t,u,k,Heap.get?_push_of_some _ (hkp _ _ h1),h2⟩
  refine wpAny_pure ⟨_,rfl,?_⟩
  have keep:∀ b o,s.heap.get? b=some o→(sortedHeap (h'.push { cls:=.type "list",data:=.seq (ts.map fun q=>Value.ref q.1).toArray.toList.toArray }) h'.objs.size (ts.map fun q=>Value.ref q.1) (ts'.map fun q=>Value.ref q.1).toArray).get? b=some o∧b≠h'.objs.size:=fun b o e=>by
    have e1:=hkp b o e
    have lt:=Heap.lt_size e1
    refine ⟨?_,Nat.ne_of_lt lt⟩
    rw [sortedHeap_old (Nat.ne_of_lt lt) (by rw [Heap.size_push];exact Nat.lt_succ_of_lt lt)]
    exact Heap.get?_push_of_some _ e1
  have hn:H h'.objs.size=none:=by
    cases e:H h'.objs.size with
    | none=>rfl
    | some o =>
      obtain ⟨ob,e1⟩:=(I.hok _ _ e).there
      exact absurd (Heap.lt_size (hkp _ _ e1)) (Nat.lt_irrefl _)
  obtain ⟨n',hat'⟩:∃ n',(sortedHeap (h'.push { cls:=.type "list",data:=.seq (ts.map fun q=>Value.ref q.1).toArray.toList.toArray }) h'.objs.size (ts.map fun q=>Value.ref q.1) (ts'.map fun q=>Value.ref q.1).toArray).get? h'.objs.size=some (seqObj "list" (ts'.map fun q=>Value.ref q.1).toArray n'):=sortedHeap_at hoL
  have hl':=q1.length_eq
  refine ⟨.ref h'.objs.size,upd H h'.objs.size (.lst (ts'.map fun q=>V.ref q.1)),?_,rfl,q _ _ hn q1 q2⟩
  exact Inv.laid2 (X:=X) (t':=s.toks) (o:=.lst (ts'.map fun q=>V.ref q.1)) I keep hn ⟨by rw [List.length_map];omega,ts'.map fun q=>Value.ref q.1,n',refs_vals _,by rw [hat']⟩
theorem call_sortPK {X:Cx} (K:PySem.W.Frag) (hK:X.K=K:=by rfl):CallR X (.builtin "sorted") (rSortP K):=by subst hK;exact call_sortP
end L2
namespace L2
open PySem PySem.Spec PyProof.Rows
abbrev sg (c:Nat):Str:=⟨#[c]⟩
abbrev ts (x:List Nat):Str:=⟨x.toArray⟩
end L2
namespace L2
open PySem PyProof.Rows
section
variable {X:Cx} {e est:Expr} {te ts:TE} {p2 pos:Pos}
end
end L2
namespace L2
open PySem PySem.Spec PyProof.Rows
open AutoSeq1 (wpAny_loadPart')
section
variable {X:Cx} {l:Expr} {ta:TA} {elts:List Expr} {k:Nat} {tp p pos:Pos}
end
end L2
namespace L2
open PySem PySem.Spec PyProof.Rows PySem.W
section
variable {K:PySem.W.Frag} {x D:Addr} {ox:Obj}
theorem kitx_exc {B:String} (FX:ExcAttrFacts B) (EK:ExcK K D):PySem.W.KitX K (.ref x) (.ref D) (fun h=>XAt h x ox D) where
  ty:=fun _ _ _ I=>I.type
  it:=fun _ _ X _=>isType_in X EK.cls
  ne:=fun h tp dd its n sl X htp=>by
    have hcD:=EK.cls
    refine Bool.eq_false_iff.mpr fun q=>?_
    have e:D=tp:=Value.ref.inj (beq_iff_eq.mp q)
    subst e
    unfold clsIn at hcD
    split at hcD
    · rename_i c' d' cd' sl' ho
      have z:=(X _ _ ho).symm.trans htp
      cases z
    · cases hcD
  ca:=fun X I k=>xi_class FX X I (fun _=>xi_find X EK.find EK.get EK.takes) EK.obj EK.bexc EK.ga EK.gt k
end
theorem vals_ref:∀ {Cs:List Addr} {its:List Value},Vals (Cs.map V.ref) its→its=Cs.map Value.ref
  | [],_,.nil=>rfl
  | C :: Cs,_,.cons h r=>by
    cases (show _=Value.ref C from h)
    rw [vals_ref r]
    rfl
def rIsExcT (K:PySem.W.Frag):List V→Hp→VK→Prop:=fun xs H Q=>∃ (e tp D:Addr) (Cs:List Addr) (b:Bool),xs=[.ref e,.ref tp]∧H e=some (excO e D)∧ExcK K D∧H tp=some (.tup (Cs.map V.ref))∧PySem.W.kitAny K (.ref D) (Cs.map Value.ref)=some b∧Q (.bl b) H
theorem call_isExcTK {X:Cx} (K:PySem.W.Frag) {B:String} (FX:ExcAttrFacts B) (hK:X.K=K:=by rfl):CallR X (.builtin "isinstance") (rIsExcT K):=by
  subst hK
  intro pins s σ H xs us Q I r h
  obtain ⟨e,tp,D,Cs,b,rfl,he,EK,htp,hb,q⟩:=h
  obtain ⟨u,v,rfl,ru,rv⟩:=vals2 r
  cases (show u=Value.ref e from ru)
  cases (show v=Value.ref tp from rv)
  obtain ⟨ox,hx⟩:=(show ObjOk X.prog X.w H s.heap e (excO e D) from I.hok e _ he).1
  obtain ⟨_,its,rv',p,_⟩:=(show ObjOk X.prog X.w H s.heap tp (.tup (Cs.map V.ref)) from I.hok tp _ htp)
  obtain ⟨o,h1,h2,n,h3⟩:=p
  obtain ⟨oc,od,odt,osl⟩:=o
  simp only at h2 h3
  subst h2 h3
  have ei:=vals_ref rv'
  subst ei
  exact PySem.W.kia_tup (kitx_exc FX EK) I.kIn hx h1 hb (fun z=>nomatch z) fun tk=>⟨.bl b,H,I.tok _,rfl,q⟩
theorem kit_none {K:PySem.W.Frag} {D:Addr}:∀ {Cs:List Addr},(∀ C∈Cs,D≠C∧(clsIn K C).isSome=true∧typeIn K (.ref C)=some (.type "type")∧mroIn K D (.ref C)=some false)→PySem.W.kitAny K (.ref D) (Cs.map Value.ref)=some false
  | [],_=>rfl
  | C :: Cs,h=>by
    obtain ⟨h1,h2,h3,h4⟩:=h C List.mem_cons_self
    have ih:=kit_none (K:=K) (D:=D) (Cs:=Cs) fun C hC=>h C (List.mem_cons_of_mem _ hC)
    rw [List.map_cons]
    unfold PySem.W.kitAny
    have e1:PySem.W.kitOne K (.ref D) (.ref C)=some false:=by
      unfold PySem.W.kitOne
      rw [if_neg (fun z=>h1 (Value.ref.inj (beq_iff_eq.mp z)))]
      unfold PySem.W.kitCls
      simp only
      rw [if_pos (by rw [h2,h3];rfl)]
      exact h4
    rw [e1]
    exact ih
end L2
namespace L2
open PySem PySem.Spec PySem.Calls PyProof.Rows PySem.W
end L2
namespace L2
open PySem PySem.Spec PyProof.Rows
end L2
namespace L2
end L2
namespace L2
open PySem PySem.SeqAt PySem.Spec PyProof.Rows
end L2
namespace L2
open PySem PySem.Spec PyProof.Rows
end L2
namespace L2
open PySem PySem.Spec PyProof.Rows
end L2
namespace L2
open PySem PySem.Spec PyProof.Rows PySem.SeqAt
end L2
namespace L2
open PySem PySem.Spec PyProof.Rows PySem.SeqAt
end L2
namespace L2
open PySem PySem.Spec PyProof.Rows
inductive VDec (K:PySem.W.Frag) (H:Hp):Nat→V→V→Bool→Prop where
  | flat {n:Nat} {x y:V} (hx:flatV x=true) (hy:flatV y=true):VDec K H n x y (eqV x y)
  | same {n:Nat} {a:Addr}:VDec K H n (.ref a) (.ref a) true
  | lt {n:Nat} {a b:Addr} {xs ys:List V} (ha:SqL K H a xs) (hb:SqT K H b ys):VDec K H n (.ref a) (.ref b) false
  | tup {n:Nat} {a b:Addr} {xs ys:List V} (e:Nat→Bool) (hne:a≠b) (ha:SqT K H a xs) (hb:SqT K H b ys) (h:∀ (i:Nat) x y,xs[i]? = some x→ys[i]? = some y→VDec K H n x y (e i)):VDec K H (n+1) (.ref a) (.ref b) ((List.range (min xs.length ys.length)).all e && xs.length == ys.length)
section
variable {X:Cx} {pins:List (Addr × Obj)} {σ:St} {H:Hp} {s:Shared}
end
end L2
namespace L2
open PySem PySem.Spec PyProof.Rows
end L2
namespace L2
open PySem PySem.Spec PyProof.Rows
end L2
namespace L2
open PySem PySem.Spec PyProof.Rows
end L2
namespace L2
open PySem PySem.Spec PySem.Calls PyProof.Rows PySem.W
theorem run_fnA {X:Cx} {CX:CXT} {k:Nat} {f:Addr} {fd:FuncData} {ps:List Str} {sp:Sp} {dvs:List V} {ds:List Value} {E:XK} {pins:List (Addr × Obj)} {σ:St} {H:Hp} {s:Shared} {Q:VK} {us:List Value} {vs:List V} (F:FnOk X.prog X.w X.K X.mg X.base CX k f fd ps sp) (hr:Room k X.A) (hb:Binds X.K fd ps ds) (hd:Vals dvs ds)
    (hx:∀ (pins:List (Addr × Obj)) (H:Hp) (s:Shared) (e:Value) (s':Shared),Inv X pins σ H s→CX X.stack H s E e s'→X.xe e s')
    (I:Inv X pins σ H s) (r:Vals vs us) (h:sp (vs++dvs) H Q E):wpAny (model X.prog X.w) X.A (call (.ref f) us) (EP X pins σ Q) X.xe s:=by
  have r2:Vals (vs++dvs) (us++ds):=r.append hd
  have hl:(us++ds).length=ps.length:=by rw [← r2.length];exact F.len _ _ _ _ h
  refine wpAny_call (codeAny_mono (F.run X.A X.stack s H ⟨us,[]⟩ (us++ds) (vs++dvs) Q E hr I.env0 (hb s us I.kIn hl) r2 h) fun r s' hq=>?_)
  cases r with
  | error e=>exact hx pins H s e s' I hq
  | ok fl =>
    cases fl with
    | ret u=>exact I.after hq
    | next=>exact False.elim hq
    | brk=>exact False.elim hq
    | cont=>exact False.elim hq
def xTryA (σ:St) (th:Addr→TS) (D:Ends):XK:=fun c _ H'=>∃ C,c=.ref C∧th C D σ H'
def tTryA (sp:Sp) (dvs:List V) (t:TA) (i:Nat) (th:Addr→TS):TS:=fun D σ H=>tCall sp dvs (xTryA σ th D) t σ H fun v H1=>D.nx (σ.set i (some v)) H1
theorem ps_tryA {X:Cx} {k i:Nat} {f:Addr} {fd:FuncData} {ps:List Str} {sp:Sp} {dvs:List V} {ds:List Value} {x y:Str} {p pos pos' pos2 pos3:Pos} {e:Expr} {es:List Expr} {t:TA} {h₀:ExceptHandler} {hs:List ExceptHandler} {th:Addr→TS}
    (hst:X.stack=X.env :: X.outer) (hfr:X.env.frame=some X.env.locals) (hN:X.N.Nodup) (hi:X.N[i]? = some y) (hy:Loc X.env.scope y)
    (F:FnOk X.prog X.w X.K X.mg X.base (CX1 X.prog X.w) k f fd ps sp) (hr:Room k X.A) (hg:Gl X x) (hm:X.mg x=some (.ref f)) (hk:PySem.W.keepIn X.K (.ref f)=true) (hb:Binds X.K fd ps ds) (hd:Vals dvs ds)
    (ha:∀ (pn:List (Addr × Obj)) (Ex:Value→Shared→Prop),PA (X.tried pn Ex) (e :: es) t) (hh:PHs X (h₀ :: hs) th)
    (hdb:(x == ("__debug__" : Str))=false:=by decide) (he:starEach (e :: es) X.env=(false,eval e X.env) :: starEach es X.env:=by rfl) (hpl:(backTo pos (starEach es X.env)).any (·.1)=false:=by rfl)
    (hs':swapsWith (.Call (.Name x p) (e :: es) [] pos) (some (.Name y pos')) pos2.line X.env=pure false:=by rfl) (hf:X.fn y=true∨X.env.scope.names.lookup y=some .local:=by first | exact .inl rfl | exact .inr rfl | assumption) :
    PS X (.Try [.Assign [.Name y pos'] (.Call (.Name x p) (e :: es) [] pos) pos2] (h₀ :: hs) [] [] pos3) (tTryA sp dvs t i th):=by
  intro pins s σ H D I h
  refine wpAny_Try_except ?_
  have hp:∀ (pins':List (Addr × Obj)) (H0:Hp) (s0:Shared) (u:Value) (s':Shared),Inv (X.tried (X.pn++pins) fun e s₁=>wpAny (model X.prog X.w) X.A (noteFrame e X.env) (fun _ s₂=>wpAny (model X.prog X.w) X.A (setFlight e none) (fun _ s₃=>wpAny (model X.prog X.w) X.A (handleBy e X.env (h₀ :: hs)) (SP X pins D) X.xe s₃) X.xe s₂) X.xe s₁) pins' σ H0 s0→CX1 X.prog X.w X.stack H0 s0 (xTryA σ th D) u s' →
      wpAny (model X.prog X.w) X.A (noteFrame u X.env) (fun _ s₂=>wpAny (model X.prog X.w) X.A (setFlight u none) (fun _ s₃=>wpAny (model X.prog X.w) X.A (handleBy u X.env (h₀ :: hs)) (SP X pins D) X.xe s₃) X.xe s₂) X.xe s':=by
    intro pins' H0 s0 u s' I' hx
    obtain ⟨e,t,cls,H',b1,rfl,hos,hbare,un,hok,he,hes,hfl,cov,C,rfl,q⟩:=hx
    have I2:Inv X pins σ H0 s0:=I'.untried
    have F:Fl X pins σ H0 s0 H' e b1 s':=⟨I2,hos,hbare,un,hok,he,hes,hfl.1,hfl.2.2.1,cov⟩
    have hfl':Heap.FlyingW b1 (X.env :: X.outer) e (.ref C) (.ref t) s'.heap:=by
      have:=hfl
      rw [hst] at this
      exact this
    refine wpAny_looks_onW (by rw [I.ok.frames,hst]) hfr hfl' fun h4 held4 sm4=>?_
    have F4:=F.move held4.1 (by rw [hst];exact held4.2.2.1) sm4
    refine wpAny_landsW held4 fun h5 fly5 sm5=>?_
    have F5:=F4.move fly5.1 (by rw [hst];exact fly5.2.2.1) sm5
    exact hh pins σ H0 s0 H' e C t b1 _ D F5 (by rw [hst];exact fly5) q
  have hE:PE (X.tried (X.pn++pins) fun e s₁=>wpAny (model X.prog X.w) X.A (noteFrame e X.env) (fun _ s₂=>wpAny (model X.prog X.w) X.A (setFlight e none) (fun _ s₃=>wpAny (model X.prog X.w) X.A (handleBy e X.env (h₀ :: hs)) (SP X pins D) X.xe s₃) X.xe s₂) X.xe s₁) (.Call (.Name x p) (e :: es) [] pos) (fun σ' H' Q'=>σ'=σ∧tCall sp dvs (xTryA σ th D) t σ' H' Q'):=by
    intro pins' s' σ' H' Q' I' h'
    obtain ⟨rfl,h'⟩:=h'
    refine wpAny_Call_Name_kw (ld_glob I' hg hm ?_ hdb)
    refine PySem.W.callWith_K (h₀:=X.base) I'.ok.mod.kin hk (thn (ha _ _ pos pins' s' _ H' _ I' h') fun us s1 ⟨vs,H1,I1,r,q⟩=>⟨I1.kIn,?_⟩) he hpl
    exact run_fnA F hr hb hd hp I1 r q
  refine wpAny_mono (pss_one (ps_set (X:=X.tried (X.pn++pins) _) (i:=i) hN hi hy hE hs' hf) [] s σ H D I.tried ⟨rfl,h⟩) (fun f s1 h1=>?_) fun _ _ z=>z
  cases f with
  | next =>
    obtain ⟨σ',H',I1,q⟩:=h1
    exact wpAny_execs_nil ⟨σ',H',I1.untried,q⟩
  | brk =>
    obtain ⟨σ',H',I1,q⟩:=h1
    exact ⟨σ',H',I1.untried,q⟩
  | cont =>
    obtain ⟨σ',H',I1,q⟩:=h1
    exact ⟨σ',H',I1.untried,q⟩
  | ret u =>
    obtain ⟨v,σ',H',I1,r,q⟩:=h1
    exact ⟨v,σ',H',I1.untried,r,q⟩
end L2
namespace L2
open PySem PySem.Spec PyProof.Rows
end L2
namespace L2
open PySem PySem.Spec PyProof.Rows PySem.W
end L2
namespace L2
open PySem PySem.Spec PyProof.Rows
end L2
namespace L2
open PySem PySem.Spec PyProof.Rows
def rInW (K:PySem.W.Frag):R2:=fun x y H Q=>rIn K false x y H Q∨∃ a o,y=.ref a∧DGet H a x o∧Q (.bl o.isSome) H
theorem op_inW {X:Cx} (K:PySem.W.Frag) (hu:X.A.units+1 < cLine) (hK:X.K=K:=by rfl):OpR X (compareOp .In) (rInW K):=by
  intro pins s σ H x y v u Q I rx ry h
  rcases h with h | ⟨a,ov,rfl,g,q⟩
  · exact op_in_seqK K hK pins s σ H x y v u Q I rx ry h
  · obtain rfl:u=Value.ref a:=ry
    exact d_in hu I g rx fun s3 I3=>⟨.bl ov.isSome,H,I3,rfl,q⟩
end L2
namespace L2
open PySem PySem.Spec PyProof.Rows
def subB (z p:List Nat) (i:Nat):Bool:=(z.drop i).take p.length == p
theorem slice_mid (x:List Nat) (i j:Nat) (h:i≤x.length) (hj:i≤j):Txt.slice ⟨x.toArray⟩ (some (i:Int)) (some (j:Int))=⟨((x.drop i).take (j - i)).toArray⟩:=by
  rw [slice_hi]
  have e0:(⟨x.toArray⟩:Str).length=x.length:=rfl
  rw [e0]
  have h1:=beq_iff_eq.mp (slice_closesL (x:=⟨x.toArray⟩) (i:=(i:Int)) (j:=((min j x.length:Nat):Int)) (by omega) (by omega) (by show _≤((x.length:Nat):Int);omega))
  refine h1.trans ?_
  have e:((((min j x.length:Nat):Int)) - (i:Int)).toNat=min j x.length - i:=by omega
  rw [e]
  show (⟨((x.drop i).take (min j x.length - i)).toArray⟩:Str)=_
  by_cases hl:j≤x.length
  · rw [Nat.min_eq_left hl]
  · rw [Nat.min_eq_right (by omega),List.take_of_length_le (by rw [List.length_drop];omega),List.take_of_length_le (by rw [List.length_drop];omega)]
def rSortI (K:PySem.W.Frag):List V→Hp→VK→Prop:=fun xs H Q=>∃ (p:Addr) (b:Bool) (ns:List Int),xs=[.ref p]∧SqA K H p (ns.map V.int) b∧ns.length < 64 ∧
  ∀ l (ns':List Int),H l=none→ns'.Perm ns→ns'.Pairwise (·≤·)→Q (.ref l) (upd H l (.lst (ns'.map V.int)))
theorem call_sortI {X:Cx}:CallR X (.builtin "sorted") (rSortI X.K):=by
  intro pins s σ H xs us Q I r h
  obtain ⟨p,b,ns,rfl,hS,h64,q⟩:=h
  obtain ⟨u,rfl,ru⟩:=vals1 r
  cases ru
  obtain ⟨its,rv,pA,hz⟩:=I.seqA hS
  have hST:IntsAre its ns:=intsAre_of rv
  have hil:its.length=ns.length:=by rw [← rv.length,List.length_map]
  obtain ⟨T,o,hT',ho,hc,k,hd⟩:∃ T o,(T = "list"∨T = "tuple")∧s.heap.get? p=some o∧o.cls=.type T∧∃ k,o.data=.seq its.toArray k:=by
    cases b with
    | false =>
      obtain ⟨o,h1,h2,k,h3⟩:=(show s.heap.IsList p _ from pA)
      exact ⟨"list",o,.inl rfl,h1,h2,k,h3⟩
    | true =>
      obtain ⟨o,h1,h2,k,h3⟩:=(show IsTup s.heap p _ from pA)
      exact ⟨"tuple",o,.inr rfl,h1,h2,k,h3⟩
  have hbig:1000≤sizeLine:=by decide
  refine Calls.call_function_entry kind_sorted plain_sorted entry_sorted (args_sorted1 _) ?_
  unfold Builtin.«sorted»
  refine wpAny_bind (m:=checkCount "sorted" 1 1 _) (wpAny_pure ?_)
  refine wpAny_bind (wpAny_collect_seq p hT' ho hc hd (fun h' hkp=>?_) (by simp;omega))
  refine wpAny_bind (wpAny_newList ?_ (by simp;omega))
  have hoL:(h'.push { cls:=.type "list",data:=.seq its.toArray.toList.toArray }).get? h'.objs.size=some (seqObj "list" its.toArray 0):=Heap.get?_push_size _ rfl
  refine wpAny_bind (wpAny_holding (wpAny_call_entry slot_list_sort ⟨_,hoL,rfl⟩ entry_list_sort (list_sort_tree hoL hST (by rw [hil];exact h64) fun out ns' b1 b2 b3=>⟨_,rfl,?_⟩) (args_list_sort _)))
  refine wpAny_pure ⟨_,rfl,?_⟩
  have keep:∀ b o,s.heap.get? b=some o→(sortedHeap (h'.push { cls:=.type "list",data:=.seq its.toArray.toList.toArray }) h'.objs.size its out).get? b=some o∧b≠h'.objs.size:=fun b o e=>by
    have e1:=hkp b o e
    have lt:=Heap.lt_size e1
    refine ⟨?_,Nat.ne_of_lt lt⟩
    rw [sortedHeap_old (Nat.ne_of_lt lt) (by rw [Heap.size_push];exact Nat.lt_succ_of_lt lt)]
    exact Heap.get?_push_of_some _ e1
  have hn:H h'.objs.size=none:=by
    cases e:H h'.objs.size with
    | none=>rfl
    | some o =>
      obtain ⟨ob,e1⟩:=(I.hok _ _ e).there
      exact absurd (Heap.lt_size (hkp _ _ e1)) (Nat.lt_irrefl _)
  obtain ⟨n',hat'⟩:∃ n',(sortedHeap (h'.push { cls:=.type "list",data:=.seq its.toArray.toList.toArray }) h'.objs.size its out).get? h'.objs.size=some (seqObj "list" out n'):=sortedHeap_at hoL
  have hsl:ns'.length≤sizeLine:=by
    have h1:=b2.length_eq
    rw [h1];omega
  refine ⟨.ref h'.objs.size,upd H h'.objs.size (.lst (ns'.map V.int)),?_,rfl,q _ _ hn b2 b3⟩
  have J:=Inv.laid2 (X:=X) (t':=s.toks) (o:=.lst (ns'.map V.int)) I keep hn ⟨by rw [List.length_map];exact hsl,out.toList,n',vals_ints b1,by rw [hat']⟩
  exact J
theorem call_sortIK {X:Cx} (K:PySem.W.Frag) (hK:X.K=K:=by rfl):CallR X (.builtin "sorted") (rSortI K):=by subst hK;exact call_sortI
end L2
namespace PySem
theorem layNew_led (t:SetTable) (es:Array (Int × Value)) (h:Int) (x:Value):(layNew t es h x).2.1.led=t.led:=by
  unfold layNew SetTable.put SetTable.orStandIn SetTable.standIn
  cases t.freeSlot h with
  | none=>rfl
  | some p =>
    dsimp only
    split <;> split <;> rfl
theorem relayAll_led (t:SetTable) (es:Array (Int × Value)) (n:Nat):(relayAll t es n).2.1.led=t.led∧((relayAll t es n).2.1.plain=t.plain∨(relayAll t es n).2.1.plain=false):=by
  unfold relayAll
  cases e:t.relaid (es.map (·.1)) n with
  | none=>exact ⟨rfl,.inr rfl⟩
  | some p =>
    obtain ⟨t',order⟩:=p
    have h1:t'.led=t.led∧t'.plain=t.plain:=by
      unfold SetTable.relaid SetTable.laid at e
      cases e2:SetTable.layClean (SetTable.sizeAbove n - 1) (es.map (·.1)) with
      | none=>rw [e2] at e;cases e
      | some ow =>
        rw [e2] at e
        cases e
        exact ⟨rfl,rfl⟩
    dsimp only
    split
    · exact ⟨h1.1,.inl h1.2⟩
    · exact ⟨rfl,.inr rfl⟩
end PySem
namespace L2
open PySem PySem.Spec PyProof.Rows
def byT (w:World):Bool:=w.params.followText "set-order"
abbrev hT (P:Program) (w:World) (z:Str):Int:=(mixKind P w).hash (Sum.inr z:Key)
abbrev eT (P:Program) (w:World) (p:Str × Tok):Int × Value:=(hT P w p.1,.str p.1 p.2)
structure SetTx (P:Program) (w:World) (h:Heap) (a:Addr) (ss:List Str):Prop where
  ex:∃ (o:Obj) (es:Array (Int × Value)) (ep:Nat) (t:SetTable) (ts:List (Str × Tok)),h.get? a=some o∧o.ExactSet∧o.data=.set es ep t∧es.toList=ts.map (eT P w)∧(ts.map (·.1)).Nodup∧(∀ z,z∈ts.map (·.1) ↔ z∈ss)∧ts.length≤ss.length∧t.fits es.size=true∧(byT w=true∨t.led=true)∧(es.size=0∨t.plain=false)
theorem SetTx.keep {P:Program} {w:World} {h h':Heap} {a:Addr} {ss:List Str} (x:SetTx P w h a ss) (k:∀ o,h.get? a=some o→h'.get? a=some o):SetTx P w h' a ss:=by
  obtain ⟨o,es,ep,t,ts,h1,r⟩:=x.ex
  exact ⟨o,es,ep,t,ts,k o h1,r⟩
theorem isT {P:Program} {w:World} (z:Str) (t:Tok):(mixKind P w).is (Sum.inr z:Key) (.str z t)=true:=kV_is (k:=(Sum.inr z:Key)) ⟨t,rfl⟩
theorem isT_eq {P:Program} {w:World} {z y:Str} {t:Tok} (h:(mixKind P w).is (Sum.inr z:Key) (.str y t)=true):z=y:=Sum.inr.inj ((mixKind P w).inj _ _ _ h (isT y t))
theorem elems_tx {P:Program} {w:World} (ts:List (Str × Tok)):ElemsOf (mixKind P w) (ts.map (eT P w)):=fun e he=>by
  obtain ⟨p,_,rfl⟩:=List.mem_map.mp he
  exact ⟨⟨_,isT p.1 p.2,rfl⟩,rfl⟩
theorem find_tx {P:Program} {w:World} (z:Str) (ts:List (Str × Tok)):((ts.map (eT P w)).findIdx? fun e=>(mixKind P w).is (Sum.inr z:Key) e.2).isSome=decide (z∈ts.map (·.1)):=by
  rw [Bool.eq_iff_iff,decide_eq_true_iff]
  constructor
  · intro h
    obtain ⟨j,hj⟩:=Option.isSome_iff_exists.mp h
    obtain ⟨hl,hp,_⟩:=List.findIdx?_eq_some_iff_getElem.mp hj
    have hm:=List.getElem_mem hl
    obtain ⟨p,hp1,e⟩:=List.mem_map.mp hm
    rw [← e] at hp
    have:=isT_eq hp
    exact List.mem_map.mpr ⟨p,hp1,this.symm⟩
  · intro h
    obtain ⟨p,hp1,rfl⟩:=List.mem_map.mp h
    cases e:(ts.map (eT P w)).findIdx? fun e=>(mixKind P w).is (Sum.inr p.1:Key) e.2 with
    | some j=>rfl
    | none =>
      have:=List.findIdx?_eq_none_iff.mp e (eT P w p) (List.mem_map_of_mem hp1)
      rw [show (mixKind P w).is (Sum.inr p.1:Key) (eT P w p).2=true from isT p.1 p.2] at this
      cases this
theorem perm_pull {α β:Type} {f:α→β}:∀ {xs:List α} {ys:List β},ys.Perm (xs.map f)→∃ xs':List α,xs'.Perm xs∧ys=xs'.map f:=by
  intro xs ys h
  generalize e:xs.map f=zs at h
  induction h generalizing xs with
  | nil=>exact ⟨[],by rw [List.map_eq_nil_iff.mp e],rfl⟩
  | cons a _ ih =>
    cases xs with
    | nil=>cases e
    | cons x xs =>
      cases e
      obtain ⟨xs',p,rfl⟩:=ih rfl
      exact ⟨x :: xs',p.cons x,rfl⟩
  | swap a b l =>
    cases xs with
    | nil=>cases e
    | cons x xs =>
      cases xs with
      | nil=>cases e
      | cons y xs =>
        cases e
        exact ⟨y :: x :: xs,.swap x y xs,rfl⟩
  | trans _ _ ih1 ih2 =>
    obtain ⟨xs',p,e1⟩:=ih2 e
    obtain ⟨xs'',p2,e2⟩:=ih1 e1.symm
    exact ⟨xs'',p2.trans p,e2⟩
section
variable {P:Program} {w:World} {A:Around} {E:Value→Shared→Prop} {s:Shared}
theorem store_tx {a:Addr} {o:Obj} {es es':Array (Int × Value)} {ep:Nat} {t t':SetTable} {ts:List (Str × Tok)} {ss:List Str} {h:Heap} (ho:h.get? a=some o) (hex:o.ExactSet) (hd:o.data=.set es ep t) (e1:es'.toList=ts.map (eT P w)) (nd:(ts.map (·.1)).Nodup) (hm:∀ z,z∈ts.map (·.1) ↔ z∈ss) (hl:ts.length≤ss.length) (hf:t'.fits es'.size=true) (hL:byT w=true∨t'.led=true) (hp:t'.plain=false) :
    (h.update a (Obj.putSet es' t')).get? a=some { o with data:=.set es' (ep+1) t' }∧SetTx P w (h.update a (Obj.putSet es' t')) a ss:=by
  have hg:(h.update a (Obj.putSet es' t')).get? a=some { o with data:=.set es' (ep+1) t' }:=by
    have:=Heap.get?_update_self (Obj.putSet es' t') ho (by rw [putSet_of es' t' hd];rfl)
    rwa [putSet_of es' t' hd] at this
  exact ⟨hg,⟨_,es',ep+1,t',ts,hg,hex,rfl,e1,nd,hm,hl,hf,hL,.inr hp⟩⟩
theorem add_tx {a:Addr} {z:Str} {tk:Tok} {ss:List Str} {Q:Bool→Shared→Prop} (hS:SetTx P w s.heap a ss) (hr:ss.length≤2000) (q:∀ b h',Heap.SameBut a s.heap h'→SetTx P w h' a (ss++[z])→Q b { s with heap:=h' }) :
    wpAny (model P w) A (setAddHashed a (.str z tk) (hT P w z)) Q E s:=by
  obtain ⟨o,es,ep,t,ts,ho,hex,hd,e1,nd,hm,hl,hf,hL,hp⟩:=hS.ex
  have hel:ElemsOf (mixKind P w) es.toList:=by rw [e1];exact elems_tx ts
  have hsz:es.size=ts.length:=by rw [← Array.length_toList,e1,List.length_map]
  have hb:es.size < scanBound:=by show _ < 4096;omega
  unfold setAddHashed setAddHashedIn
  refine wpAny_holding (wpAny_bind (wpAny_setState_of ho hd hf ?_))
  dsimp only
  rw [byScan_of (knd:=mixKind P w) rfl hb hel]
  simp only [↓reduceIte]
  unfold setAddByScan
  refine wpAny_bind (wpAny_bind (wpAny_rule (wpAny_bind (wpAny_setScan_of (isT z tk) ho hd hf hel ?_))))
  have hfind:=find_tx (P:=P) (w:=w) z ts
  rw [← e1] at hfind
  cases hr2:List.findIdx? (fun e=>(mixKind P w).is (Sum.inr z:Key) e.2) es.toList with
  | some j =>
    rw [hr2] at hfind
    have hz:z∈ts.map (·.1):=of_decide_eq_true hfind.symm
    refine wpAny_pure (wpAny_pure ?_)
    have:=q false s.heap (Heap.SameBut.refl a s.heap) ⟨o,es,ep,t,ts,ho,hex,hd,e1,nd,fun y=>?_,by rw [List.length_append];omega,hf,hL,hp⟩
    · exact this
    · rw [hm y,List.mem_append]
      refine ⟨.inl,fun h=>?_⟩
      rcases h with h | h
      · exact h
      · rw [List.mem_singleton.mp h];exact (hm z).mp hz
  | none =>
    rw [hr2] at hfind
    have hz:z ∉ ts.map (·.1):=of_decide_eq_false hfind.symm
    dsimp only
    have hper:=layNew_perm t es (hT P w z) (.str z tk)
    have hfit:=layNew_fits t es (hT P w z) (.str z tk)
    have hled:=layNew_led t es (hT P w z) (.str z tk)
    generalize layNew t es (hT P w z) (.str z tk)=L at hper hfit hled
    obtain ⟨es1,t1,dm,gave⟩:=L
    dsimp only at hper hfit hled
    rw [Array.toList_push,e1,show [(hT P w z,Value.str z tk)]=[(z,tk)].map (eT P w) from rfl,← List.map_append] at hper
    obtain ⟨ts1,p1,e2⟩:=perm_pull hper
    have p1':(ts1.map (·.1)).Perm (ts.map (·.1)++[z]):=by have:=p1.map (·.1);rwa [List.map_append] at this
    have nd1:(ts1.map (·.1)).Nodup:=p1'.nodup_iff.mpr (List.nodup_append.mpr ⟨nd,List.pairwise_singleton _ _,fun x hx y hy e=>hz (by rw [List.mem_singleton.mp hy] at e;rw [← e];exact hx)⟩)
    have hm1:∀ y,y∈ts1.map (·.1) ↔ y∈ss++[z]:=fun y=>by rw [p1'.mem_iff,List.mem_append,List.mem_append,hm y]
    have hl1:ts1.length≤(ss++[z]).length:=by rw [p1.length_eq,List.length_append,List.length_append];show _+1≤_+1;omega
    have sz1:es1.size=ts.length+1:=by rw [← Array.length_toList,e2,List.length_map,p1.length_eq,List.length_append];rfl
    have gw:∀ (b:Bool) {s₁:Shared} {Q':Unit→Shared→Prop},Q' () s₁→wpAny (model P w) A (match b with | true=>rule "set.scan.the-table-gave-way" | false=>pure ()) Q' E s₁:=fun b s₁ Q' hq=>by cases b <;> first | exact wpAny_pure hq | exact wpAny_rule hq
    refine wpAny_bind (gw _ ?_)
    have main:∀ t2:SetTable,t2.led=t1.led→t2.plain=false→t2.fits es1.size=true→wpAny (model P w) A (do
        storeSet a es1 t2
        if (!dm && t2.tooFull)=true then do
            (match (relayAll t2 es1 (SetTable.grown es1.size)).2.2 with | true=>rule "set.scan.the-table-gave-way" | false=>pure ())
            storeSet a (relayAll t2 es1 (SetTable.grown es1.size)).1 (relayAll t2 es1 (SetTable.grown es1.size)).2.1
            pure (some true)
          else pure (some true)) (fun r s₁=>wpAny (model P w) A (match r with | some added=>pure added | none=>setAddHashedIn a (.str z tk) (hT P w z) 99999) Q E s₁) E s:=by
      intro t2 l2 pl2 f2
      have hL2:byT w=true∨t2.led=true:=by rw [l2,hled];exact hL
      refine wpAny_bind (wpAny_storeSet_of ho hd ?_ (fits_of_scanBound (by show _ < 4096;omega)))
      obtain ⟨ho1,S1⟩:=store_tx (P:=P) (w:=w) ho hex hd e2 nd1 hm1 hl1 f2 hL2 pl2
      have sb1:=Heap.SameBut.update s.heap a (Obj.putSet es1 t2)
      split
      · have rp:=relayAll_perm t2 es1 (SetTable.grown es1.size)
        have rf:=relayAll_fits t2 es1 (SetTable.grown es1.size)
        have rl:=relayAll_led t2 es1 (SetTable.grown es1.size)
        generalize relayAll t2 es1 (SetTable.grown es1.size)=R at rp rf rl
        obtain ⟨es2,t3,gave2⟩:=R
        dsimp only at rp rf rl ⊢
        rw [e2] at rp
        obtain ⟨ts2,p2,e3⟩:=perm_pull rp
        have p2':(ts2.map (·.1)).Perm (ts1.map (·.1)):=p2.map _
        have sz2:es2.size=es1.size:=by rw [← Array.length_toList,e3,List.length_map,p2.length_eq,← List.length_map (f:=eT P w),← e2,Array.length_toList]
        refine wpAny_bind (gw _ ?_)
        refine wpAny_bind (wpAny_storeSet_of ho1 rfl ?_ (fits_of_scanBound (by show _ < 4096;omega)))
        obtain ⟨_,S2⟩:=store_tx (P:=P) (w:=w) (ss:=ss++[z]) ho1 hex rfl e3 (p2'.nodup_iff.mpr nd1) (fun y=>by rw [p2'.mem_iff];exact hm1 y) (by rw [p2.length_eq];exact hl1) rf (by rw [rl.1];exact hL2) (rl.2.elim (fun h=>h.trans pl2) id)
        exact wpAny_pure (wpAny_pure (q true _ (sb1.trans (Heap.SameBut.update _ a _)) S2))
      · exact wpAny_pure (wpAny_pure (q true _ sb1 S1))
    cases hpl:t1.plain with
    | true =>
      simp only [↓reduceIte]
      rw [hashByValue_scannable 8 (x:=.str z tk) rfl]
      refine wpAny_bind (wpAny_pure ?_)
      exact main _ rfl rfl (SetTable.fits_plain_off hfit)
    | false =>
      refine wpAny_bind (wpAny_pure ?_)
      exact main _ rfl hpl hfit
end
end L2
namespace L2
open PySem PySem.Spec PyProof.Rows
abbrev newSetO (w:World):Obj:={ cls:=.type "set",dict:=none,data:=.set #[] 0 (SetTable.fresh 0 0 (!byT w)) }
section
variable {P:Program} {w:World} {A:Around} {E:Value→Shared→Prop} {s:Shared}
theorem new_set_led (x:Value) {Q:Value→Shared→Prop} (q:Q (.ref s.heap.objs.size) { s with heap:=s.heap.push (newSetO w) }):codeAny (model P w) A (.call (.builtin "set.__new__") ⟨[.type "set",x],[]⟩) (wants Q E) s:=by
  refine codeAny_of_tree ?_
  refine wpAny_bind (wpAny_of_eq (F.newCall_set_1 x) (wpAny_pure ⟨plainId_quiet F.plain_set_new _,codeAny_builtin F.entry_set_new ?_⟩))
  rw [Around.under_plainId F.plain_set_new]
  unfold Builtin.«set.__new__» Builtin.Frozenset.newClass
  have hs:=sub_set_self
  obtain ⟨hp,g,d,tk,os⟩:=s
  dsimp only at q ⊢
  wp_walk
  refine wpAny_askSetting (wpAny_pure ?_)
  dsimp only
  simp only [newObj]
  exact wpAny_bind (wpAny_alloc (wpAny_pure (wpAny_pure q)))
theorem loop_tx {it d:Addr} {fp wr:List Addr} {n:Nat} {Pv:Nat→Value→Prop} {St:Nat→Heap→Prop} {R:Result→Shared→Prop}
    (W:Walks P w A.in1 it fp wr n Pv St) (hd:d ∉ fp) (ss:List Str) (hn:ss.length=n) (hP:∀ i v,i < n→Pv i v→∃ z t,ss[i]? = some z∧v=.str z t) (hz:n≤1000) :
    ∀ (m i:Nat) (s:Shared),i+m=n→St i s.heap→SetTx P w s.heap d (ss.take i) →
      (∀ h' tk,SetTx P w h' d ss→(∀ b o,b ∉ wr→b≠d→s.heap.get? b=some o→h'.get? b=some o)→R (.ok (.ret .none)) { s with heap:=h',toks:=tk }) →
      codeAny (model P w) A (.builtin "set.update.loop" ⟨[.ref d,.ref it],[]⟩) R s
  | 0,i,s,hi,st,hD,q=>by
    refine codeAny_builtin F.entry_set_update_loop ?_
    rw [Around.under_plainId F.plain_set_update_loop]
    obtain rfl:i=n:=by omega
    unfold Builtin.«set.update.loop»
    show wpAny _ _ (pyNext (.ref it) >>= _) _ _ _
    refine wpAny_bind (W.done s _ _ st fun h' tk kk=>wpAny_pure ?_)
    rw [← hn,List.take_length] at hD
    exact q h' tk (hD.keep fun o e=>kk d o (fun z=>hd (W.sub d z)) e) fun b o hb _ e=>kk b o hb e
  | m+1,i,s,hi,st,hD,q=>by
    refine codeAny_builtin F.entry_set_update_loop ?_
    rw [Around.under_plainId F.plain_set_update_loop]
    unfold Builtin.«set.update.loop»
    show wpAny _ _ (pyNext (.ref it) >>= _) _ _ _
    refine wpAny_bind (W.item i s _ _ (by omega) st fun v h' tk hv st' kk=>?_)
    obtain ⟨z,t,hz1,rfl⟩:=hP i v (by omega) hv
    have hD':=hD.keep fun o e=>kk d o (fun z=>hd (W.sub d z)) e
    show wpAny _ _ (holding [.str z t] (setAdd d (.str z t)) >>= _) _ _ _
    refine wpAny_bind (wpAny_holding ?_)
    unfold setAdd
    refine wpAny_holding (wpAny_bind ((mixKind P w).pyHash (isT z t) ?_))
    refine add_tx (s:={ s with heap:=h',toks:=tk+1 }) hD' (by rw [List.length_take];omega) fun b h2 sb hD2=>?_
    refine wpAny_pure ⟨plainId_quiet F.plain_set_update_loop _,?_⟩
    have et:ss.take (i+1)=ss.take i++[z]:=by rw [List.take_add_one,hz1];rfl
    rw [← et] at hD2
    have st2:St (i+1) h2:=W.frame (i+1) h' h2 st' fun b hb o e=>sb.extBut _ _ (fun z=>hd (by rw [← z];exact hb)) e
    exact loop_tx W hd ss hn hP hz m (i+1) { s with heap:=h2,toks:=tk+1 } (by omega) st2 hD2 fun h3 tk3 hD3 k3=>q h3 tk3 hD3 fun b o hb hbd e=>k3 b o hb hbd (sb.extBut _ _ hbd (kk b o hb e))
end
def txHO (P:Program) (w:World) (a:Addr) (ss:List Str):HO:=.ext fun h=>SetTx P w h a ss
end L2
namespace PySem
namespace F
theorem entry_set_it:entryFor table "set.__iter__" = some Builtin.«frozenset.__iter__» :=
  entryFor_alias (id':="frozenset.__iter__") (by kernel_rfl) (by first | rfl | decide +kernel | (unfold String.splitOn;simp +decide [String.splitOnAux])) (by decide +kernel) (by kernel_rfl)
theorem own_si:Manifest.owners.lookup (String.ofList ("set_iterator".toList.reverse).reverse)=some Manifest.sig_set_iterator:=by kernel_rfl
theorem slot_si_next:Slot "set_iterator" "__next__" "set_iterator.__next__" :=
  .of (owner:="set_iterator") (n:="__next__") (by rw [typeLookup_type,builtinLookup_eq_fast];kernel_rfl) (by decide +kernel) (by decide +kernel) (by decide +kernel) (by first | exact .inl (by decide +kernel) | exact .inr (by decide +kernel)) (by rw [isSubtype_type];kernel_rfl)
theorem entry_si_next:entryFor table "set_iterator.__next__" = some Builtin.«set_iterator.__next__»:=entryFor_of_tree (by kernel_rfl)
theorem slot_si_iter:Slot "set_iterator" "__iter__" "set_iterator.__iter__" :=
  .of (owner:="set_iterator") (n:="__iter__") (by rw [typeLookup_type,builtinLookup_eq_fast];kernel_rfl) (by decide +kernel) (by decide +kernel) (by decide +kernel) (by first | exact .inl (by decide +kernel) | exact .inr (by decide +kernel)) (by rw [isSubtype_type];kernel_rfl)
theorem entry_si_iter:entryFor table "set_iterator.__iter__" = some Builtin.«dict_keyiterator.__iter__» :=
  entryFor_alias (id':="dict_keyiterator.__iter__") (by kernel_rfl) (by first | rfl | decide +kernel | (unfold String.splitOn;simp +decide [String.splitOnAux])) (by decide +kernel) (by kernel_rfl)
theorem args_si_iter (x:Value):argsOk "set_iterator.__iter__" ⟨[x],[]⟩:=by
  unfold argsOk
  rw [signature?_of (id:="set_iterator.__iter__") (n:="__iter__".toList.reverse) (o:="set_iterator".toList.reverse) (by kernel_rfl) own_si]
  kernel_rfl
theorem args_si_next (x:Value):argsOk "set_iterator.__next__" ⟨[x],[]⟩:=by
  unfold argsOk
  rw [signature?_of (id:="set_iterator.__next__") (n:="__next__".toList.reverse) (o:="set_iterator".toList.reverse) (by kernel_rfl) own_si]
  kernel_rfl
end F
theorem erase_perm {α:Type}:∀ (xs:List α) (i:Nat) (h:i < xs.length),(xs[i] :: xs.eraseIdx i).Perm xs
  | [],_,h=>by simp at h
  | x :: xs,0,_=>.refl _
  | x :: xs,i+1,h=>by
    have h':i < xs.length:=by simpa using h
    have ih:=erase_perm xs i h'
    show (xs[i] :: x :: xs.eraseIdx i).Perm (x :: xs)
    exact (List.Perm.swap x xs[i] _).trans (ih.cons x)
def IsSI (h:Heap) (I:Addr) (f0:Value) (i:Nat) (a:Addr) (n ep:Nat):Prop:=∃ o,h.get? I=some o∧o.cls=.type "set_iterator"∧o.data=.fields #[f0,rawInt (i:Int),.ref a,rawInt (n:Int),rawInt (ep:Int)]
def SetIs (h:Heap) (a:Addr) (es:Array (Int × Value)) (ep:Nat) (t:SetTable):Prop:=∃ o,h.get? a=some o∧o.cls=.type "set"∧o.data=.set es ep t
section
variable {P:Program} {w:World} {A:Around} {E:Value→Shared→Prop} {s:Shared}
theorem IsSI.ty {I a:Addr} {f0:Value} {i n ep:Nat} (x:IsSI s.heap I f0 i a n ep):s.TypeIs (.ref I) "set_iterator":=let ⟨o,h,c,_⟩:=x;⟨o,h,c⟩
theorem IsSI.at {h h':Heap} {I a:Addr} {f0:Value} {i n ep:Nat} (x:IsSI h I f0 i a n ep) (k:∀ o,h.get? I=some o→h'.get? I=some o):IsSI h' I f0 i a n ep:=let ⟨o,e,r⟩:=x;⟨o,k o e,r⟩
theorem SetIs.at {h h':Heap} {a:Addr} {es:Array (Int × Value)} {ep:Nat} {t:SetTable} (x:SetIs h a es ep t) (k:∀ o,h.get? a=some o→h'.get? a=some o):SetIs h' a es ep t:=let ⟨o,e,r⟩:=x;⟨o,k o e,r⟩
theorem next_T {a:Addr} {es:Array (Int × Value)} {ep:Nat} {t:SetTable} {slot given:Nat} {Q:Option (Value × Nat)→Shared→Prop} (hb:L2.byT w=true) (hS:SetIs s.heap a es ep t) (hf:t.fits es.size=true)
    (q:Q (((pickOrder (w.params.setOrder a ep) es)[given]?).map fun e=>(e.2,slot)) s):wpAny (model P w) A (setNext a slot given ep) Q E s:=by
  obtain ⟨o,ho,_,hd⟩:=hS
  unfold setNext
  refine wpAny_bind (wpAny_setState_of ho hd hf ?_)
  dsimp only
  refine wpAny_bind (wpAny_bind (wpAny_askSetting (wpAny_pure ?_)))
  have hb':(⟨(model P w).prog,(model P w).w.params⟩:Setting).params.followText "set-order" = true:=hb
  rw [if_pos hb',if_neg (by simp)]
  refine wpAny_bind ?_
  unfold setWalk
  refine wpAny_bind (wpAny_setState_of ho hd hf ?_)
  dsimp only
  refine wpAny_bind (wpAny_bind (wpAny_askSetting (wpAny_pure ?_)))
  rw [if_pos hb']
  refine wpAny_bind (wpAny_askSetting (wpAny_pure (wpAny_pure q)))
theorem next_O {a:Addr} {es:Array (Int × Value)} {ep:Nat} {t:SetTable} {slot given:Nat} {Q:Option (Value × Nat)→Shared→Prop} (hb:L2.byT w=false) (hS:SetIs s.heap a es ep t) (hf:t.fits es.size=true) (h1:es.size≤1) (hl:t.led=true)
    (q:Q (match es[SetTable.below t.place slot]?,t.place[SetTable.below t.place slot]? with | some (_,x),some j=>some (x,j+1) | _,_=>none) s):wpAny (model P w) A (setNext a slot given ep) Q E s:=by
  obtain ⟨o,ho,_,hd⟩:=hS
  unfold setNext
  refine wpAny_bind (wpAny_setState_of ho hd hf ?_)
  dsimp only
  refine wpAny_bind (wpAny_bind (wpAny_askSetting (wpAny_pure ?_)))
  have hb':¬ (⟨(model P w).prog,(model P w).w.params⟩:Setting).params.followText "set-order" = true:=fun z=>by
    have z':L2.byT w=true:=z
    rw [hb] at z'
    cases z'
  rw [if_neg hb']
  split
  · rename_i hdr
    have h2:(!t.plain && decide (es.size > 1))=true:=hdr
    rw [decide_eq_false (show ¬ es.size > 1 by omega),Bool.and_false] at h2
    cases h2
  refine wpAny_bind ?_
  show wpAny _ _ (if (!t.led && !es.isEmpty)=true then unsupported "set:maker-not-led" else pure ()) _ _ _
  rw [hl]
  exact wpAny_pure (wpAny_pure q)
theorem si_int {I a:Addr} {es:Array (Int × Value)} {ep slot i n nx:Nat} {t:SetTable} {x:Value} {Q:Option Value→Shared→Prop} (hit:IsSI s.heap I (rawInt (slot:Int)) i a n ep) (hS:SetIs s.heap a es ep t) (hf:t.fits es.size=true) (hn:es.size=n)
    (hx:∀ {A':Around} {E':Value→Shared→Prop} {Q':Option (Value × Nat)→Shared→Prop},Q' (some (x,nx)) s→wpAny (model P w) A' (setNext a slot i ep) Q' E' s)
    (q:∀ h',IsSI h' I (rawInt (nx:Int)) (i+1) a n ep→Heap.SameBut I s.heap h'→Q (some x) { s with heap:=h' }):wpAny (model P w) A (pyNext (.ref I)) Q E s:=by
  obtain ⟨o,ho,hc,hd⟩:=id hit
  obtain ⟨oa,hoa,hca,hda⟩:=id hS
  unfold pyNext
  refine wpAny_bind (wpAny_attempt (wpAny_callSpecial?_slot (name:=Str.ofString "__next__") hit.ty F.slot_si_next (wpAny_call_entry F.slot_si_next hit.ty F.entry_si_next ?_ (F.args_si_next _))))
  unfold Builtin.«set_iterator.__next__»
  refine wpAny_bind (wpAny_of_eq (a:=(Value.ref I,[])) rfl ?_)
  unfold fieldsOf
  dsimp only
  refine wpAny_bind (wpAny_bind (wpAny_load ho ?_))
  rw [hd]
  dsimp only
  refine wpAny_pure ?_
  show wpAny _ _ (setEntries a >>= fun e'=>if ((e'.size:Int) != (n:Int))=true then _ else _) _ _ _
  refine wpAny_bind (wpAny_setEntries_of hoa hda hf ?_)
  rw [if_neg (by simp [hn])]
  show wpAny _ _ (setNext a (slot:Int).toNat (i:Int).toNat (ep:Int).toNat >>= _) _ _ _
  rw [Int.toNat_natCast,Int.toNat_natCast,Int.toNat_natCast]
  refine wpAny_bind (hx ?_)
  dsimp only
  refine wpAny_bind (wpAny_setField ho hd (by simp) ?_)
  have ho2:=Heap.get?_update_self (fun ob=>ob.mapFields (·.set! 0 (rawInt (nx:Int)))) ho (Obj.isFreed_of_fields (Obj.data_mapFields hd _))
  refine wpAny_bind (wpAny_setField ho2 (Obj.data_mapFields hd _) (by simp) ?_)
  have ho3:=Heap.get?_update_self (fun ob=>ob.mapFields (·.set! 1 (rawInt ((i:Int)+1)))) ho2 (Obj.isFreed_of_fields (Obj.data_mapFields (Obj.data_mapFields hd _) _))
  refine wpAny_pure ⟨x,rfl,wpAny_pure (q _ ⟨_,ho3,?_,?_⟩ ((Heap.SameBut.update ..).trans (Heap.SameBut.update ..)))⟩
  · rw [Obj.cls_mapFields,Obj.cls_mapFields]
    exact hc
  · rw [Obj.data_mapFields (Obj.data_mapFields hd _)]
    simp
theorem si_end {I a:Addr} {es:Array (Int × Value)} {ep slot i n:Nat} {t:SetTable} {Q:Option Value→Shared→Prop} (hh:A.handled=none) (hit:IsSI s.heap I (rawInt (slot:Int)) i a n ep) (hS:SetIs s.heap a es ep t) (hf:t.fits es.size=true) (hn:es.size=n)
    (hx:∀ {A':Around} {E':Value→Shared→Prop} {Q':Option (Value × Nat)→Shared→Prop},Q' none s→wpAny (model P w) A' (setNext a slot i ep) Q' E' s)
    (q:∀ h',Heap.ExtBut I s.heap h'→Q none { s with heap:=h' }):wpAny (model P w) A (pyNext (.ref I)) Q E s:=by
  obtain ⟨o,ho,hc,hd⟩:=id hit
  obtain ⟨oa,hoa,hca,hda⟩:=id hS
  unfold pyNext
  refine wpAny_bind (wpAny_attempt (wpAny_callSpecial?_slot (name:=Str.ofString "__next__") hit.ty F.slot_si_next (wpAny_call_entry F.slot_si_next hit.ty F.entry_si_next ?_ (F.args_si_next _))))
  unfold Builtin.«set_iterator.__next__»
  refine wpAny_bind (wpAny_of_eq (a:=(Value.ref I,[])) rfl ?_)
  unfold fieldsOf
  dsimp only
  refine wpAny_bind (wpAny_bind (wpAny_load ho ?_))
  rw [hd]
  dsimp only
  refine wpAny_pure ?_
  show wpAny _ _ (setEntries a >>= fun e'=>if ((e'.size:Int) != (n:Int))=true then _ else _) _ _ _
  refine wpAny_bind (wpAny_setEntries_of hoa hda hf ?_)
  rw [if_neg (by simp [hn])]
  show wpAny _ _ (setNext a (slot:Int).toNat (i:Int).toNat (ep:Int).toNat >>= _) _ _ _
  rw [Int.toNat_natCast,Int.toNat_natCast,Int.toNat_natCast]
  refine wpAny_bind (hx ?_)
  dsimp only
  refine wpAny_bind (wpAny_setField ho hd (by simp) ?_)
  show wpAny _ _ (newExc (.type "StopIteration") [] >>= _) _ _ _
  refine wpAny_bind ?_
  simp only [newExc,newTuple]
  refine wpAny_bind (wpAny_newObj_type ?_ (by size_fits))
  refine wpAny_bind (m:=firstArgMember _ _) (wpAny_of_eq (a:=Value.none) (by first | rfl | (simp only [firstArgMember];rfl)) ?_)
  refine wpAny_newObj_type ?_ (by size_fits)
  simp only [raiseNew]
  refine wpAny_bind (wpAny_handled ?_)
  first | rw [show A.in1.handled=none from hh] | rw [hh]
  refine wpAny_bind (wpAny_pure (wpAny_throw ?_))
  refine wpAny_bind (wpAny_isInstance (T:="StopIteration") (b:=true) ⟨_,Heap.get?_push_size _ rfl,rfl⟩ isSubtype_stop ?_)
  exact wpAny_pure (q _ (Heap.ExtBut.push (Heap.ExtBut.push (Heap.SameBut.update ..).extBut _) _))
def IsPl (h:Heap) (T:Addr) (ps:List Nat):Prop:=∃ o m,h.get? T=some o∧o.data=.seq (ps.map fun (p:Nat)=>rawInt (p:Int)).toArray m
theorem sd_item {I a T:Addr} {es:Array (Int × Value)} {ep i n pl:Nat} {t:SetTable} {y:Int} {x:Value} {ps:List Nat} {Q:Option Value→Shared→Prop} (hit:IsSI s.heap I (.ref T) i a n ep) (hS:SetIs s.heap a es ep t) (hf:t.fits es.size=true) (hn:es.size=n) (hT:IsPl s.heap T ps) (hp:ps[i]? = some pl) (hx:es[pl]? = some (y,x))
    (q:∀ h',IsSI h' I (.ref T) (i+1) a n ep→Heap.SameBut I s.heap h'→Q (some x) { s with heap:=h' }):wpAny (model P w) A (pyNext (.ref I)) Q E s:=by
  obtain ⟨o,ho,hc,hd⟩:=id hit
  obtain ⟨oa,hoa,hca,hda⟩:=id hS
  obtain ⟨oT,mT,hoT,hdT⟩:=hT
  unfold pyNext
  refine wpAny_bind (wpAny_attempt (wpAny_callSpecial?_slot (name:=Str.ofString "__next__") hit.ty F.slot_si_next (wpAny_call_entry F.slot_si_next hit.ty F.entry_si_next ?_ (F.args_si_next _))))
  unfold Builtin.«set_iterator.__next__»
  refine wpAny_bind (wpAny_of_eq (a:=(Value.ref I,[])) rfl ?_)
  unfold fieldsOf
  dsimp only
  refine wpAny_bind (wpAny_bind (wpAny_load ho ?_))
  rw [hd]
  dsimp only
  refine wpAny_pure ?_
  show wpAny _ _ (setEntries a >>= fun e'=>if ((e'.size:Int) != (n:Int))=true then _ else _) _ _ _
  refine wpAny_bind (wpAny_setEntries_of hoa hda hf ?_)
  rw [if_neg (by simp [hn])]
  show wpAny _ _ (seqItems? (.ref T) >>= _) _ _ _
  refine wpAny_bind (wpAny_seqItems hoT hdT ?_)
  have hpl:(ps.map fun (p:Nat)=>rawInt (p:Int)).toArray[(i:Int).toNat]? = some (rawInt (pl:Int)):=by rw [Int.toNat_natCast,List.getElem?_toArray,List.getElem?_map,hp];rfl
  dsimp only
  rw [hpl]
  show wpAny _ _ (setNextDrawn a (pl:Int).toNat (ep:Int).toNat >>= _) _ _ _
  rw [Int.toNat_natCast,Int.toNat_natCast]
  unfold setNextDrawn
  refine wpAny_bind (wpAny_bind (wpAny_setState_of hoa hda hf ?_))
  dsimp only
  rw [if_neg (by simp),hx]
  refine wpAny_pure ?_
  refine wpAny_bind (wpAny_setField ho hd (by simp) ?_)
  have ho2:=Heap.get?_update_self (fun ob=>ob.mapFields (·.set! 1 (rawInt ((i:Int)+1)))) ho (Obj.isFreed_of_fields (Obj.data_mapFields hd _))
  refine wpAny_pure ⟨x,rfl,wpAny_pure (q _ ⟨_,ho2,?_,?_⟩ (Heap.SameBut.update ..))⟩
  · rw [Obj.cls_mapFields]
    exact hc
  · rw [Obj.data_mapFields hd]
    simp
theorem sd_end {I a T:Addr} {es:Array (Int × Value)} {ep i n:Nat} {t:SetTable} {ps:List Nat} {Q:Option Value→Shared→Prop} (hh:A.handled=none) (hit:IsSI s.heap I (.ref T) i a n ep) (hS:SetIs s.heap a es ep t) (hf:t.fits es.size=true) (hn:es.size=n) (hT:IsPl s.heap T ps) (hp:ps[i]? = none)
    (q:∀ h',Heap.ExtBut I s.heap h'→Q none { s with heap:=h' }):wpAny (model P w) A (pyNext (.ref I)) Q E s:=by
  obtain ⟨o,ho,hc,hd⟩:=id hit
  obtain ⟨oa,hoa,hca,hda⟩:=id hS
  obtain ⟨oT,mT,hoT,hdT⟩:=hT
  unfold pyNext
  refine wpAny_bind (wpAny_attempt (wpAny_callSpecial?_slot (name:=Str.ofString "__next__") hit.ty F.slot_si_next (wpAny_call_entry F.slot_si_next hit.ty F.entry_si_next ?_ (F.args_si_next _))))
  unfold Builtin.«set_iterator.__next__»
  refine wpAny_bind (wpAny_of_eq (a:=(Value.ref I,[])) rfl ?_)
  unfold fieldsOf
  dsimp only
  refine wpAny_bind (wpAny_bind (wpAny_load ho ?_))
  rw [hd]
  dsimp only
  refine wpAny_pure ?_
  show wpAny _ _ (setEntries a >>= fun e'=>if ((e'.size:Int) != (n:Int))=true then _ else _) _ _ _
  refine wpAny_bind (wpAny_setEntries_of hoa hda hf ?_)
  rw [if_neg (by simp [hn])]
  show wpAny _ _ (seqItems? (.ref T) >>= _) _ _ _
  refine wpAny_bind (wpAny_seqItems hoT hdT ?_)
  have hpl:(ps.map fun (p:Nat)=>rawInt (p:Int)).toArray[(i:Int).toNat]? = none:=by rw [Int.toNat_natCast,List.getElem?_toArray,List.getElem?_map,hp];rfl
  dsimp only
  rw [hpl]
  dsimp only
  refine wpAny_bind (wpAny_setField ho hd (by simp) ?_)
  have ho2:=Heap.get?_update_self (fun ob=>ob.mapFields (·.set! 0 (rawInt 0))) ho (Obj.isFreed_of_fields (Obj.data_mapFields hd _))
  refine wpAny_bind (wpAny_setField ho2 (Obj.data_mapFields hd _) (by simp) ?_)
  show wpAny _ _ (newExc (.type "StopIteration") [] >>= _) _ _ _
  refine wpAny_bind ?_
  simp only [newExc,newTuple]
  refine wpAny_bind (wpAny_newObj_type ?_ (by size_fits))
  refine wpAny_bind (m:=firstArgMember _ _) (wpAny_of_eq (a:=Value.none) (by first | rfl | (simp only [firstArgMember];rfl)) ?_)
  refine wpAny_newObj_type ?_ (by size_fits)
  simp only [raiseNew]
  refine wpAny_bind (wpAny_handled ?_)
  first | rw [show A.in1.handled=none from hh] | rw [hh]
  refine wpAny_bind (wpAny_pure (wpAny_throw ?_))
  refine wpAny_bind (wpAny_isInstance (T:="StopIteration") (b:=true) ⟨_,Heap.get?_push_size _ rfl,rfl⟩ isSubtype_stop ?_)
  exact wpAny_pure (q _ (Heap.ExtBut.push (Heap.ExtBut.push ((Heap.SameBut.update ..).trans (Heap.SameBut.update ..)).extBut _) _))
theorem wp_choose1 {src:Source} {n:Nat} {Q:Nat→Shared→Prop} (hn:n≠0) (q:∀ i d,i < n→Q i { s with drawn:=d }):wpAny (model P w) A (choose src n) Q E s:=fun _ _ _=>⟨hn,q _ _ (Nat.mod_lt _ (Nat.pos_of_ne_zero hn))⟩
theorem draw_perm {α:Type}:∀ (n:Nat) (xs:List α) (s:Shared) (Q:List α→Shared→Prop),xs.length=n→(∀ ys d,ys.Perm xs→Q ys { s with drawn:=d })→wpAny (model P w) A (drawOrder n xs) Q E s
  | 0,xs,s,Q,h,q=>by
    have e:xs=[]:=List.length_eq_zero_iff.mp h
    subst e
    unfold drawOrder
    exact wpAny_pure (q [] s.drawn (.refl _))
  | n+1,[],s,Q,h,q=>by cases h
  | n+1,x :: xs,s,Q,h,q=>by
    unfold drawOrder
    refine wpAny_bind (wp_choose1 (by simp) fun i d hi=>?_)
    have hi':(x :: xs)[i]? = some (x :: xs)[i]:=List.getElem?_eq_getElem hi
    rw [hi']
    dsimp only
    refine wpAny_bind (draw_perm n ((x :: xs).eraseIdx i) _ _ ?_ fun ys d' p=>wpAny_pure ?_)
    · rw [List.length_eraseIdx_of_lt hi,h]
      rfl
    · refine q _ d' ((p.cons _).trans ?_)
      exact (erase_perm _ _ hi)
end
theorem pick_go {α:Type} (next:Nat→Nat):∀ (m k:Nat) (xs:List α) (out:Array α),xs.length=m→(pickOrder.go next m k xs out).toList.Perm (out.toList++xs)
  | 0,k,xs,out,h=>by
    have e:xs=[]:=List.length_eq_zero_iff.mp h
    subst e
    unfold pickOrder.go
    rw [List.append_nil]
  | m+1,k,xs,out,h=>by
    have hi:next k % xs.length < xs.length:=Nat.mod_lt _ (by omega)
    unfold pickOrder.go
    rw [List.getElem?_eq_getElem hi]
    dsimp only
    refine (pick_go next m (k+1) _ _ (by rw [List.length_eraseIdx_of_lt hi,h];rfl)).trans ?_
    rw [Array.toList_push,List.append_assoc]
    exact List.Perm.append_left _ (erase_perm _ _ hi)
theorem pick_perm {α:Type} (next:Nat→Nat) (xs:Array α):(pickOrder next xs).toList.Perm xs.toList:=by
  have:=pick_go next xs.size 0 xs.toList #[] (by simp)
  simpa [pickOrder] using this
end PySem
namespace L2
open PySem PySem.Spec PyProof.Rows
theorem SetTx.is {P:Program} {w:World} {h:Heap} {a:Addr} {ss:List Str} (x:SetTx P w h a ss):∃ (es:Array (Int × Value)) (ep:Nat) (t:SetTable) (ts:List (Str × Tok)),SetIs h a es ep t∧es.toList=ts.map (eT P w)∧(ts.map (·.1)).Nodup∧(∀ z,z∈ts.map (·.1) ↔ z∈ss)∧ts.length≤ss.length∧t.fits es.size=true∧(byT w=true∨t.led=true)∧(es.size=0∨t.plain=false):=by
  obtain ⟨o,es,ep,t,ts,h1,h2,h3,r⟩:=x.ex
  exact ⟨es,ep,t,ts,⟨o,h1,h2.1,h3⟩,r⟩
section
variable {P:Program} {w:World}
abbrev pvT (vs:List (Str × Tok)) (i:Nat) (v:Value):Prop:=∃ p,vs[i]? = some p∧v=.str p.1 p.2
theorem get_tx {es:Array (Int × Value)} {ts:List (Str × Tok)} (e:es.toList=ts.map (eT P w)) {i:Nat} {p:Str × Tok} (h:ts[i]? = some p):es[i]? = some (hT P w p.1,.str p.1 p.2):=by
  rw [← Array.getElem?_toList,e,List.getElem?_map,h]
  rfl
theorem get_tx0 {es:Array (Int × Value)} {ts:List (Str × Tok)} (e:es.toList=ts.map (eT P w)) {i:Nat} (h:ts[i]? = none):es[i]? = none:=by
  rw [← Array.getElem?_toList,e,List.getElem?_map,h]
  rfl
theorem si_self {A:Around} {E:Value→Shared→Prop} {s:Shared} {I a:Addr} {f0:Value} {i n ep:Nat} {Q:Value→Shared→Prop} (hit:IsSI s.heap I f0 i a n ep) (q:Q (.ref I) s):wpAny (model P w) A (pyIter (.ref I)) Q E s:=by
  refine wpAny_pyIter_slot hit.ty F.slot_si_iter (wpAny_call_entry F.slot_si_iter hit.ty F.entry_si_iter ?_ (F.args_si_iter _))
  show wpAny _ _ (ret (.ref I)) _ _ s
  exact wpAny_pure ⟨_,rfl,"set_iterator",_,hit.ty,F.slot_si_next.lookup,q⟩
theorem below_0 {xs:Array Nat} (h:xs.size=1):SetTable.below xs 0=0:=by
  unfold SetTable.below
  rw [h]
  unfold SetTable.below.go
  rw [if_pos (by decide),if_neg (by omega)]
  rfl
theorem below_1 {xs:Array Nat} (h:xs.size=1):SetTable.below xs (xs.getD 0 0+1)=1:=by
  have e:∀ d,xs.getD 0 d=xs.getD 0 0:=fun d=>by
    unfold Array.getD
    rw [dif_pos (by omega),dif_pos (by omega)]
  unfold SetTable.below
  rw [h]
  unfold SetTable.below.go
  rw [if_pos (by decide),show (0+1) / 2=0 from rfl,if_pos (by rw [e];omega)]
  rfl
theorem below_e {xs:Array Nat} (h:xs.size=0) (j:Nat):SetTable.below xs j=0:=by
  unfold SetTable.below
  rw [h]
  rfl
theorem walk_T {A:Around} (hh:A.handled=none) (hb:byT w=true) {I a:Addr} (hne:a≠I) {es:Array (Int × Value)} {ep:Nat} {t:SetTable} (hf:t.fits es.size=true) {vs:List (Str × Tok)} (hv:(pickOrder (w.params.setOrder a ep) es).toList=vs.map (eT P w)) :
    Walks P w A I [I,a] [I] vs.length (pvT vs) (fun i h=>IsSI h I (rawInt ((0:Nat):Int)) i a es.size ep∧SetIs h a es ep t) where
  sub:=fun b hb=>by simp at hb;simp [hb]
  frame:=fun i h h' st k=>⟨st.1.at fun o e=>k I (by simp) o e,st.2.at fun o e=>k a (by simp) o e⟩
  item:=fun i s Q E hi st q=>by
    have hg:vs[i]? = some vs[i]:=List.getElem?_eq_getElem hi
    have hx:(pickOrder (w.params.setOrder a ep) es)[i]? = some (hT P w vs[i].1,.str vs[i].1 vs[i].2):=by rw [← Array.getElem?_toList,hv,List.getElem?_map,hg];rfl
    refine si_int (nx:=0) (x:=.str vs[i].1 vs[i].2) st.1 st.2 hf rfl (fun q'=>next_T hb st.2 hf (by rw [hx];exact q')) fun h' hit sb=>?_
    exact q _ h' s.toks ⟨_,hg,rfl⟩ ⟨hit,st.2.at fun o e=>(sb.2 a hne).trans e⟩ fun b o hb e=>(sb.2 b (by simpa using hb)).trans e
  done:=fun s Q E st q=>by
    have hx:(pickOrder (w.params.setOrder a ep) es)[vs.length]? = none:=by rw [← Array.getElem?_toList,hv,List.getElem?_map,List.getElem?_eq_none (Nat.le_refl _)];rfl
    exact si_end hh st.1 st.2 hf rfl (fun q'=>next_T hb st.2 hf (by rw [hx];exact q')) fun h' eb=>q h' s.toks fun b o hb e=>eb b o (by simpa using hb) e
  self:=fun i s Q E st q=>si_self st.1 q
theorem walk_D {A:Around} (hh:A.handled=none) {I a T:Addr} (hne:a≠I) (hnT:T≠I) {es:Array (Int × Value)} {ep:Nat} {t:SetTable} (hf:t.fits es.size=true) {ps:List Nat} {ts vs:List (Str × Tok)} (he:es.toList=ts.map (eT P w)) (hl:ps.length=vs.length) (hv:∀ (i:Nat) p,ps[i]? = some p→vs[i]? = ts[p]?) (hvs:∀ (i:Nat),i < vs.length→vs[i]?.isSome) :
    Walks P w A I [I,a,T] [I] vs.length (pvT vs) (fun i h=>IsSI h I (.ref T) i a es.size ep∧SetIs h a es ep t∧IsPl h T ps) where
  sub:=fun b hb=>by simp at hb;simp [hb]
  frame:=fun i h h' st k=>⟨st.1.at fun o e=>k I (by simp) o e,st.2.1.at fun o e=>k a (by simp) o e,by obtain ⟨o,m,e,r⟩:=st.2.2;exact ⟨o,m,k T (by simp) o e,r⟩⟩
  item:=fun i s Q E hi st q=>by
    have hp:ps[i]? = some ps[i]:=List.getElem?_eq_getElem (by omega)
    have hg:vs[i]? = some vs[i]:=List.getElem?_eq_getElem hi
    have hx:=get_tx (P:=P) (w:=w) he ((hv i _ hp).symm.trans hg)
    refine sd_item st.1 st.2.1 hf rfl st.2.2 hp hx fun h' hit sb=>?_
    refine q _ h' s.toks ⟨_,hg,rfl⟩ ⟨hit,st.2.1.at fun o e=>(sb.2 a hne).trans e,?_⟩ fun b o hb e=>(sb.2 b (by simpa using hb)).trans e
    obtain ⟨o,m,e,r⟩:=st.2.2
    exact ⟨o,m,(sb.2 T hnT).trans e,r⟩
  done:=fun s Q E st q=>sd_end hh st.1 st.2.1 hf rfl st.2.2 (List.getElem?_eq_none (by omega)) fun h' eb=>q h' s.toks fun b o hb e=>eb b o (by simpa using hb) e
  self:=fun i s Q E st q=>si_self st.1 q
theorem walk_O {A:Around} (hh:A.handled=none) (hb:byT w=false) {I a:Addr} (hne:a≠I) {es:Array (Int × Value)} {ep:Nat} {t:SetTable} (hf:t.fits es.size=true) (hl:t.led=true) (h1:es.size≤1) {vs:List (Str × Tok)} (he:es.toList=vs.map (eT P w)) :
    Walks P w A I [I,a] [I] vs.length (pvT vs) (fun i h=>IsSI h I (rawInt ((if i=0 then 0 else t.place.getD 0 0+1:Nat):Int)) i a es.size ep∧SetIs h a es ep t) where
  sub:=fun b hb=>by simp at hb;simp [hb]
  frame:=fun i h h' st k=>⟨st.1.at fun o e=>k I (by simp) o e,st.2.at fun o e=>k a (by simp) o e⟩
  item:=fun i s Q E hi st q=>by
    have hs:es.size=vs.length:=by rw [← Array.length_toList,he,List.length_map]
    obtain rfl:i=0:=by omega
    have hp1:t.place.size=1:=by
      have:=hf
      unfold SetTable.fits at this
      rw [Bool.and_eq_true] at this
      have:=beq_iff_eq.mp this.1
      omega
    have hg:vs[0]? = some vs[0]:=List.getElem?_eq_getElem hi
    have hx:=get_tx (P:=P) (w:=w) he hg
    have hpl:t.place[0]? = some (t.place.getD 0 0):=by
      unfold Array.getD
      rw [dif_pos (by omega)]
      exact Array.getElem?_eq_getElem (by omega)
    have st0:IsSI s.heap I (rawInt ((0:Nat):Int)) 0 a es.size ep:=st.1
    refine si_int (nx:=t.place.getD 0 0+1) (x:=.str vs[0].1 vs[0].2) st0 st.2 hf rfl (fun q'=>next_O hb st.2 hf h1 hl (by rw [below_0 hp1,hx,hpl];exact q')) fun h' hit sb=>?_
    exact q _ h' s.toks ⟨_,hg,rfl⟩ ⟨hit,st.2.at fun o e=>(sb.2 a hne).trans e⟩ fun b o hb e=>(sb.2 b (by simpa using hb)).trans e
  done:=fun s Q E st q=>by
    have hs:es.size=vs.length:=by rw [← Array.length_toList,he,List.length_map]
    have hp1:t.place.size=es.size:=by
      have:=hf
      unfold SetTable.fits at this
      rw [Bool.and_eq_true] at this
      exact beq_iff_eq.mp this.1
    refine si_end hh st.1 st.2 hf rfl (fun q'=>next_O hb st.2 hf h1 hl ?_) fun h' eb=>q h' s.toks fun b o hb e=>eb b o (by simpa using hb) e
    by_cases h0:vs.length=0
    · rw [if_pos h0,below_e (by omega),show es[0]? = none from get_tx0 (P:=P) (w:=w) he (List.getElem?_eq_none (by omega))]
      exact q'
    · rw [if_neg h0,below_1 (by omega),show es[1]? = none from get_tx0 (P:=P) (w:=w) he (List.getElem?_eq_none (by omega))]
      exact q'
  self:=fun i s Q E st q=>si_self st.1 q
end
end L2
namespace L2
open PySem PySem.Spec PyProof.Rows
section
variable {P:Program} {w:World} {A:Around} {E:Value→Shared→Prop} {s:Shared}
theorem iter_tx {a:Addr} {ss:List Str} {Q:Value→Shared→Prop} (hS:SetTx P w s.heap a ss) (hz:ss.length≤1000)
    (q:∀ h' d I fp St (vs:List (Str × Tok)),(vs.map (·.1)).Nodup→(∀ z,z∈vs.map (·.1) ↔ z∈ss)→vs.length≤ss.length→(∀ A':Around,A'.handled=none→Walks P w A' I fp [I] vs.length (pvT vs) St)→St 0 h'→s.heap.objs.size≤I→(∀ b∈fp,b=a∨s.heap.objs.size≤b)→(∀ b o,s.heap.get? b=some o→h'.get? b=some o)→Q (.ref I) { s with heap:=h',drawn:=d }) :
    wpAny (model P w) A (pyIter (.ref a)) Q E s:=by
  obtain ⟨es,ep,t,ts,hI,he,nd,hm,hl,hf,hL,hp⟩:=hS.is
  obtain ⟨o,ho,hc,hd⟩:=id hI
  have hsz:es.size=ts.length:=by rw [← Array.length_toList,he,List.length_map]
  refine wpAny_pyIter_slot (T:="set") ⟨o,ho,hc⟩ F.slot_set_iter (wpAny_call_entry F.slot_set_iter ⟨o,ho,hc⟩ F.entry_set_it ?_ (F.args_set_iter_1 _))
  unfold Builtin.«frozenset.__iter__»
  refine wpAny_bind (wpAny_of_eq (a:=a) rfl ?_)
  unfold Builtin.Frozenset.sizeOf
  refine wpAny_bind (wpAny_bind (wpAny_setEntries_of ho hd hf (wpAny_pure ?_)))
  unfold setDrawn
  refine wpAny_bind (wpAny_bind (wpAny_setState_of ho hd hf ?_))
  dsimp only
  refine wpAny_bind (wpAny_bind (wpAny_askSetting (wpAny_pure ?_)))
  refine wpAny_pure ?_
  have ha:=Heap.lt_size ho
  split
  · rename_i hdr
    have hd':(!byT w && (!t.plain && decide (es.size > 1)))=true:=hdr
    refine wpAny_bind (draw_perm es.size (List.range es.size) s _ List.length_range fun ps d pp=>?_)
    have hpl:ps.length=es.size:=by rw [pp.length_eq,List.length_range]
    refine wpAny_bind (wpAny_newTuple ?_ (by rw [List.length_map,hpl];exact Nat.le_trans (show es.size≤1000 by omega) (by decide)))
    have hTo:(s.heap.push { cls:=.type "tuple",data:=.seq (ps.map fun (i:Nat)=>rawInt (i:Int)).toArray }).get? s.heap.objs.size=some { cls:=.type "tuple",data:=.seq (ps.map fun (i:Nat)=>rawInt (i:Int)).toArray }:=Heap.get?_push_size _ rfl
    have keep:∀ b ob,s.heap.get? b=some ob→(s.heap.push { cls:=.type "tuple",data:=.seq (ps.map fun (i:Nat)=>rawInt (i:Int)).toArray }).get? b=some ob:=fun b ob e=>Heap.get?_push_of_some _ e
    have hsz2:(s.heap.push { cls:=.type "tuple",data:=.seq (ps.map fun (i:Nat)=>rawInt (i:Int)).toArray }).objs.size=s.heap.objs.size+1:=Heap.size_push _ _
    revert hTo keep hsz2
    generalize s.heap.push { cls:=.type "tuple",data:=.seq (ps.map fun (i:Nat)=>rawInt (i:Int)).toArray }=hT
    intro hTo keep hsz2
    unfold setEpoch
    refine wpAny_bind (wpAny_bind (wpAny_setState_of (s:={ s with heap:=hT,drawn:=d }) (keep _ _ ho) hd hf (wpAny_pure ?_)))
    simp only [newFields]
    refine wpAny_bind (wpAny_newObj_type ?_ (by size_fits))
    have hit:IsSI (hT.push { cls:=.type "set_iterator",data:=.fields [Value.ref s.heap.objs.size,rawInt 0,Value.ref a,rawInt (es.size:Int),rawInt (ep:Int)].toArray }) hT.objs.size (.ref s.heap.objs.size) 0 a es.size ep:=⟨_,Heap.get?_push_size _ rfl,rfl,rfl⟩
    have hI':=hI.at (h':=hT.push { cls:=.type "set_iterator",data:=.fields [Value.ref s.heap.objs.size,rawInt 0,Value.ref a,rawInt (es.size:Int),rawInt (ep:Int)].toArray }) fun o e=>Heap.get?_push_of_some _ (keep _ _ e)
    have hP':IsPl (hT.push { cls:=.type "set_iterator",data:=.fields [Value.ref s.heap.objs.size,rawInt 0,Value.ref a,rawInt (es.size:Int),rawInt (ep:Int)].toArray }) s.heap.objs.size ps:=⟨_,_,Heap.get?_push_of_some _ hTo,rfl⟩
    refine wpAny_pure ⟨_,rfl,"set_iterator",_,⟨_,Heap.get?_push_size _ rfl,rfl⟩,F.slot_si_next.lookup,?_⟩
    have hne:a≠hT.objs.size:=by rw [hsz2];exact Nat.ne_of_lt (Nat.lt_succ_of_lt ha)
    have hnT:s.heap.objs.size≠hT.objs.size:=by rw [hsz2];exact Nat.ne_of_lt (Nat.lt_succ_self _)
    have eg:(List.range es.size).map (fun p=>ts.getD p (⟨#[]⟩,0))=ts:=by
      refine List.ext_getElem? fun i=>?_
      rw [List.getElem?_map]
      by_cases hi:i < ts.length
      · rw [List.getElem?_range (by omega)]
        show some (ts.getD i _)=_
        rw [List.getD_eq_getElem?_getD,List.getElem?_eq_getElem hi]
        rfl
      · rw [List.getElem?_eq_none (by rw [List.length_range];omega),List.getElem?_eq_none (by omega)]
        rfl
    have p1:(ps.map fun p=>ts.getD p (⟨#[]⟩,0)).Perm ts:=by
      have:=pp.map fun p=>ts.getD p ((⟨#[]⟩,0):Str × Tok)
      rw [eg] at this
      exact this
    have p1':=p1.map (·.1)
    refine q _ d _ [hT.objs.size,a,s.heap.objs.size] _ (ps.map fun p=>ts.getD p (⟨#[]⟩,0)) (p1'.nodup_iff.mpr nd) (fun z=>by rw [p1'.mem_iff];exact hm z) (by rw [p1.length_eq];exact hl) (fun A' hA=>walk_D hA hne hnT hf (ps:=ps) he (by rw [List.length_map]) (fun i p hp=>?_) fun i hi=>?_) ⟨hit,hI',hP'⟩ (by rw [hsz2];exact Nat.le_succ _) (fun b hb=>?_) fun b o e=>Heap.get?_push_of_some _ (keep _ _ e)
    · have hpn:p < ts.length:=by
        have:=List.mem_range.mp (pp.mem_iff.mp (List.mem_of_getElem? hp))
        omega
      rw [List.getElem?_map,hp,List.getElem?_eq_getElem hpn]
      show some (ts.getD p _)=_
      rw [List.getD_eq_getElem?_getD,List.getElem?_eq_getElem hpn]
      rfl
    · rw [List.getElem?_eq_getElem hi]
      rfl
    · simp only [List.mem_cons,List.not_mem_nil,or_false] at hb
      rcases hb with rfl | rfl | rfl
      · exact .inr (by rw [hsz2];exact Nat.le_succ _)
      · exact .inl rfl
      · exact .inr (Nat.le_refl _)
  · rename_i hdr
    have hd':¬ (!byT w && (!t.plain && decide (es.size > 1)))=true:=hdr
    refine wpAny_bind (wpAny_pure ?_)
    unfold setEpoch
    refine wpAny_bind (wpAny_bind (wpAny_setState_of ho hd hf (wpAny_pure ?_)))
    simp only [newFields]
    refine wpAny_bind (wpAny_newObj_type ?_ (by size_fits))
    have hit:IsSI (s.heap.push { cls:=.type "set_iterator",data:=.fields [rawInt 0,rawInt 0,Value.ref a,rawInt (es.size:Int),rawInt (ep:Int)].toArray }) s.heap.objs.size (rawInt ((0:Nat):Int)) 0 a es.size ep:=⟨_,Heap.get?_push_size _ rfl,rfl,rfl⟩
    have hI':=hI.at (h':=s.heap.push { cls:=.type "set_iterator",data:=.fields [rawInt 0,rawInt 0,Value.ref a,rawInt (es.size:Int),rawInt (ep:Int)].toArray }) fun o e=>Heap.get?_push_of_some _ e
    refine wpAny_pure ⟨_,rfl,"set_iterator",_,⟨_,Heap.get?_push_size _ rfl,rfl⟩,F.slot_si_next.lookup,?_⟩
    have hne:a≠s.heap.objs.size:=Nat.ne_of_lt ha
    have fpo:∀ b∈[s.heap.objs.size,a],b=a∨s.heap.objs.size≤b:=fun b hb=>by
      rcases List.mem_cons.mp hb with h | h
      · exact .inr (Nat.le_of_eq h.symm)
      · exact .inl (List.mem_singleton.mp h)
    cases hb:byT w with
    | true =>
      have pp:=pick_perm (w.params.setOrder a ep) es
      rw [he] at pp
      obtain ⟨vs,p1,e1⟩:=perm_pull pp
      have p1':(vs.map (·.1)).Perm (ts.map (·.1)):=p1.map _
      exact q _ s.drawn _ _ _ vs (p1'.nodup_iff.mpr nd) (fun z=>by rw [p1'.mem_iff];exact hm z) (by rw [p1.length_eq];exact hl) (fun A' hA=>walk_T hA hb hne hf e1) ⟨hit,hI'⟩ (Nat.le_refl _) fpo fun b o e=>Heap.get?_push_of_some _ e
    | false =>
      have h1:es.size≤1:=by
        rw [hb] at hd'
        rcases hp with h | h
        · omega
        · rw [h] at hd'
          by_cases h2:es.size≤1
          · exact h2
          · exact absurd (by rw [decide_eq_true (show es.size > 1 by omega)];rfl) hd'
      have hled:t.led=true:=by
        rcases hL with h | h
        · rw [hb] at h;cases h
        · exact h
      exact q _ s.drawn _ _ _ ts nd hm hl (fun A' hA=>walk_O hA hb hne hf hled h1 he) ⟨hit,hI'⟩ (Nat.le_refl _) fpo fun b o e=>Heap.get?_push_of_some _ e
end
end L2
namespace L2
open PySem PySem.Spec PyProof.Rows
theorem nd_len {α:Type} [DecidableEq α]:∀ {us L:List α},us.Nodup→(∀ z∈us,z∈L)→us.length≤L.length
  | [],_,_,_=>Nat.zero_le _
  | u :: us,L,nd,h=>by
    obtain ⟨h1,h2⟩:=List.nodup_cons.mp nd
    have hu:=h u List.mem_cons_self
    have:=nd_len (us:=us) (L:=L.erase u) h2 fun z hz=>(List.mem_erase_of_ne (fun e:z=u=>h1 (by rw [← e];exact hz))).mpr (h z (List.mem_cons_of_mem _ hz))
    have e:=List.length_erase_of_mem hu
    have:=List.length_pos_of_mem hu
    rw [List.length_cons]
    omega
section
variable {P:Program} {w:World} {A:Around} {E:Value→Shared→Prop} {s:Shared}
theorem collect_tx {a:Addr} {ss:List Str} {Q:List Value→Shared→Prop} (hh:A.handled=none) (hS:SetTx P w s.heap a ss) (hz:ss.length≤1000)
    (q:∀ (s':Shared) (vs:List (Str × Tok)) (acc:Array Value),(vs.map (·.1)).Nodup→(∀ z,z∈vs.map (·.1) ↔ z∈ss)→(∀ b o,s.heap.get? b=some o→s'.heap.get? b=some o)→s'.gens=s.gens→s'.os=s.os→ItemsOf (pvT vs) acc vs.length→Q acc.toList s') :
    wpAny (model P w) A (collect (.ref a)) Q E s:=by
  obtain ⟨es,ep,t,ts,hI,-⟩:=hS.is
  obtain ⟨o,ho,hc,hd⟩:=id hI
  have ha:=Heap.lt_size ho
  unfold collect
  refine wpAny_bind (wpAny_runValue (codeAny_builtin F.entry_proto_collect ?_))
  rw [Around.under_plainId F.plain_proto_collect _]
  show wpAny _ A.in1 (newList [] >>= fun l=>again (.builtin "list.__iadd__" ⟨[l,.ref a],[]⟩)) _ _ s
  refine wpAny_bind (wpAny_newObj_type ?_)
  refine wpAny_pure ⟨plainId_quiet F.plain_list_iadd _,codeAny_builtin F.entry_list_iadd ?_⟩
  rw [Around.under_plainId F.plain_list_iadd _]
  show wpAny _ A.in1 (Builtin.List.listExtendWith (.ref s.heap.objs.size) (.ref a) (.ref s.heap.objs.size)) _ _ _
  have ho0:(s.heap.push { cls:=.type "list",data:=.seq ([]:List Value).toArray }).get? a=some o:=Heap.get?_push_of_some _ ho
  have hS0:(s.heap.push { cls:=.type "list",data:=.seq ([]:List Value).toArray }).get? s.heap.objs.size=some { cls:=.type "list",data:=.seq ([]:List Value).toArray }:=Heap.get?_push_size _ rfl
  have hHs:(s.heap.push { cls:=.type "list",data:=.seq ([]:List Value).toArray }).objs.size=s.heap.objs.size+1:=Heap.size_push _ _
  have kp:∀ b o,s.heap.get? b=some o→(s.heap.push { cls:=.type "list",data:=.seq ([]:List Value).toArray }).get? b=some o:=fun b o e=>Heap.get?_push_of_some _ e
  revert ho0 hS0 hHs kp
  generalize s.heap.push { cls:=.type "list",data:=.seq ([]:List Value).toArray }=H
  intro ho0 hS0 hHs kp
  have hS1:SetTx P w H a ss:=hS.keep fun o e=>kp _ o e
  unfold Builtin.List.listExtendWith
  refine wpAny_bind (wpAny_typeOf (T:="set") (v:=.ref a) ⟨o,ho0,hc⟩ ?_)
  have h1:Builtin.List.listSameRef (.ref s.heap.objs.size) (.ref a)=false:=by
    unfold Builtin.List.listSameRef
    exact beq_false_of_ne (Ne.symm (Nat.ne_of_lt ha))
  have h2:(Value.type "set" == Value.type "list")=false:=by decide
  have h3:(Value.type "set" == Value.type "tuple")=false:=by decide
  simp only [h1,h2,h3,Bool.or_false,Bool.false_eq_true,if_false]
  refine wpAny_bind (iter_tx (s:={ s with heap:=H,toks:=_ }) hS1 hz fun h' d I fp St vs nd hm hl W st hI fpo keep=>?_)
  have hlt:(h'.get? a)=some o:=keep _ _ ho0
  have hS2:=keep _ _ hS0
  refine wpAny_bind (wpAny_holding ?_)
  unfold Builtin.List.listLengthHint
  refine wpAny_bind (wpAny_specialOf (T:="set") (v:=.ref a) ⟨o,hlt,hc⟩ F.slot_set_len.lookup ?_)
  wp_delta
  refine wpAny_bind (wpAny_isInstance (T:="set") (v:=.ref a) (b:=true) ⟨o,hlt,hc⟩ (by rw [isSubtype_type];kernel_rfl) ?_)
  show wpAny _ A.in1 (typeOf (Value.ref a) >>= _) _ _ _
  refine wpAny_bind (wpAny_typeOf (T:="set") (v:=.ref a) ⟨o,hlt,hc⟩ ?_)
  refine wpAny_pure ?_
  rw [if_pos (by decide)]
  have hSf:s.heap.objs.size ∉ fp:=fun hm=>by
    rcases fpo _ hm with h | h
    · exact absurd ha (h ▸ Nat.lt_irrefl _)
    · have h':H.objs.size≤s.heap.objs.size:=h
      rw [hHs] at h'
      omega
  have WW:=W A.in1 hh
  refine wpAny_bind (wpAny_rule ?_)
  refine wpAny_bind ?_
  show wpAny _ _ (updateSeq s.heap.objs.size (·.push .none) >>= fun _=>updateSeq s.heap.objs.size (·.pop)) _ _ _
  refine wpAny_bind (wpAny_updateSeq hS2 rfl ?_)
  have hS3:=Heap.get?_update_self (Obj.mapSeq (·.push Value.none)) hS2 rfl
  refine wpAny_updateSeq (hz:=by seq_fits) hS3 rfl ?_
  have hS4:=Heap.get?_update_self (Obj.mapSeq (·.pop)) hS3 rfl
  have kp2:∀ b o,b≠s.heap.objs.size→h'.get? b=some o→((h'.update s.heap.objs.size (Obj.mapSeq (·.push Value.none))).update s.heap.objs.size (Obj.mapSeq (·.pop))).get? b=some o:=fun b o hb e =>
    (Heap.get?_update_other _ _ (Ne.symm hb)).trans ((Heap.get?_update_other _ _ (Ne.symm hb)).trans e)
  refine wpAny_pure ⟨plainId_quiet F.plain_extend_loop _,codeAny_extend_loopS WW.toS (by rw [sizeLine_eq];omega) _ hSf _ vs.length 0 _ _ _ rfl (Nat.zero_le _) (WW.frame 0 _ _ st fun b hb o e=>kp2 b o (fun h=>hSf (h ▸ hb)) e) hS4 (ItemsOf.nil _) fun s' acc' c' hm' hS' hacc=>?_⟩
  show wpAny _ A (load s.heap.objs.size >>= _) _ _ s'
  refine wpAny_bind (wpAny_load hS' ?_)
  refine wpAny_pure (q s' vs acc' nd hm (fun b ob e=>hm'.heap b ob (fun hb=>?_) (kp2 _ _ (Nat.ne_of_lt (Heap.lt_size e)) (keep _ _ (kp _ _ e)))) hm'.gens hm'.os hacc)
  have hlt:=Heap.lt_size e
  rcases List.mem_cons.mp hb with h | h
  · exact absurd hlt (h ▸ Nat.lt_irrefl _)
  · have h':b=I:=List.mem_singleton.mp h
    have:H.objs.size≤I:=hI
    rw [hHs] at this
    exact absurd hlt (by rw [h'];exact Nat.not_lt.mpr (Nat.le_of_lt this))
end
theorem Inv.drawn {X:Cx} {pins:List (Addr × Obj)} {σ:St} {H:Hp} {s:Shared} (I:Inv X pins σ H s) (d:Drawn):Inv X pins σ H { s with drawn:=d } :=
  I.step (g':=s.gens) (t':=s.toks) (d':=d) (ch:=[]) (h':=s.heap) (H':=H) (fun _ z=>nomatch z) (fun b o _ _ _ e _=>e) (fun b o _ _ _ e _=>⟨o.slots,e⟩) (fun _ _ _ _ n=>n) (fun b o _ e=>⟨o,e⟩) (fun _ _ e=>e) (fun _ _ _ e=>e) (fun b ps e=>⟨#[],by rw [e];simp⟩) (fun _ m=>m) I.hok I.bare
def rSortX (P:Program) (w:World):List V→Hp→VK→Prop:=fun xs H Q=>∃ (a:Addr) (ss L:List Str),xs=[.ref a]∧H a=some (txHO P w a ss)∧ss.length≤1000∧L.length < 64∧(∀ z∈ss,z∈L)∧∀ (l:Addr) (us:List Str),H l=none→us.Nodup→(∀ z,z∈us ↔ z∈ss)→sortedS us=true→Q (.ref l) (upd H l (.lst (us.map V.str)))
theorem call_sort_set {X:Cx} (hc:X.calm=true):CallR X (.builtin "sorted") (rSortX X.prog X.w):=by
  intro pins s σ H xs us Q I r h
  obtain ⟨a,ss,L,rfl,ha,hz,hL,hsub,q⟩:=h
  obtain ⟨u,rfl,ru⟩:=vals1 r
  obtain rfl:u=Value.ref a:=ru
  have hS:SetTx X.prog X.w s.heap a ss:=(I.hok a _ ha).1
  refine Calls.call_function_entry kind_sorted plain_sorted entry_sorted (args_sorted1 _) ?_
  unfold Builtin.«sorted»
  refine wpAny_bind (m:=checkCount "sorted" 1 1 _) (wpAny_pure ?_)
  refine wpAny_bind (collect_tx (A:=X.A.in1) (I.ok.hd hc) hS hz fun s' vs acc nd hm hkp g1 g3 hacc=>?_)
  obtain ⟨h',gn,dr,tk,os'⟩:=s'
  obtain rfl:gn=s.gens:=g1
  obtain rfl:os'=s.os:=g3
  have hv64:vs.length < 64:=by
    have:=nd_len nd fun z hz=>hsub z ((hm z).mp hz)
    rw [List.length_map] at this
    omega
  have hal:acc.toList.length=vs.length:=by rw [Array.length_toList];exact hacc.1
  have hzl:vs.length≤sizeLine:=Nat.le_of_lt (Nat.lt_of_lt_of_le hv64 (by decide))
  have hSt:StrsAre acc.toList (vs.map (·.1)):=by
    refine strsAre_of (vals_by (by rw [List.length_map,List.length_map,hal]) fun i x u e1 e2=>?_)
    obtain ⟨p,e3,rfl⟩:=hacc.2 i u (by rw [← Array.getElem?_toList];exact e2)
    rw [List.getElem?_map,List.getElem?_map,e3] at e1
    cases e1
    exact ⟨_,rfl⟩
  refine wpAny_bind (wpAny_newList ?_ (by rw [hal];exact hzl))
  have hoL:(h'.push { cls:=.type "list",data:=.seq acc.toList.toArray }).get? h'.objs.size=some (seqObj "list" acc.toList.toArray 0):=Heap.get?_push_size _ rfl
  refine wpAny_bind (wpAny_holding (wpAny_call_entry slot_list_sort ⟨_,hoL,rfl⟩ entry_list_sort (list_sort_treeK strKind_oneLt hoL hSt.keysOf (fun v₁ v₂ rest e=>keyKind_strs (by rw [← e];exact hSt)) (by rw [hal];exact hv64) fun st' a1 a2=>⟨_,rfl,?_⟩) (args_list_sort _)))
  obtain ⟨ss',b1,b2,b3⟩:=sorted_out_str hSt a1 a2
  refine wpAny_pure ⟨_,rfl,?_⟩
  have keep:∀ b o,s.heap.get? b=some o→(sortedHeap (h'.push { cls:=.type "list",data:=.seq acc.toList.toArray }) h'.objs.size acc.toList ((arrOf st').map (·.2))).get? b=some o∧b≠h'.objs.size:=fun b o e=>by
    have e1:=hkp b o e
    have lt:=Heap.lt_size e1
    refine ⟨?_,Nat.ne_of_lt lt⟩
    rw [sortedHeap_old (Nat.ne_of_lt lt) (by rw [Heap.size_push];exact Nat.lt_succ_of_lt lt)]
    exact Heap.get?_push_of_some _ e1
  have hn:H h'.objs.size=none:=by
    cases e:H h'.objs.size with
    | none=>rfl
    | some o =>
      obtain ⟨ob,e1⟩:=(I.hok _ _ e).there
      exact absurd (Heap.lt_size (hkp _ _ e1)) (Nat.lt_irrefl _)
  obtain ⟨n',hat'⟩:∃ n',(sortedHeap (h'.push { cls:=.type "list",data:=.seq acc.toList.toArray }) h'.objs.size acc.toList ((arrOf st').map (·.2))).get? h'.objs.size=some (seqObj "list" ((arrOf st').map (·.2)) n'):=sortedHeap_at hoL
  have hsl:ss'.length≤sizeLine:=by
    rw [b2.length_eq,List.length_map]
    exact hzl
  refine ⟨.ref h'.objs.size,upd H h'.objs.size (.lst (ss'.map V.str)),?_,rfl,q _ _ hn (b2.nodup_iff.mpr nd) (fun z=>by rw [b2.mem_iff];exact hm z) b3⟩
  have J:=Inv.laid2 (X:=X) (t':=tk) (o:=.lst (ss'.map V.str)) (I.drawn dr) keep hn ⟨by rw [List.length_map];exact hsl,((arrOf st').map (·.2)).toList,n',vals_strs b1,by rw [hat']⟩
  exact J
theorem call_sort_setK {X:Cx} (P:Program) (w:World) (hc:X.calm=true) (hP:X.prog=P:=by rfl) (hw:X.w=w:=by rfl):CallR X (.builtin "sorted") (rSortX P w):=by subst hP;subst hw;exact call_sort_set hc
end L2
namespace L2
open PySem PySem.Spec PyProof.Rows
def rAny (K:PySem.W.Frag):List V→Hp→VK→Prop:=fun xs H Q=>∃ (l:Addr) (bs:List Bool),xs=[.ref l]∧SqL K H l (bs.map V.bl)∧Q (.bl (bs.any id)) H
theorem any_range (bs:List Bool):((List.range bs.length).any fun i=>bs.getD i false)=bs.any id:=by
  rw [Bool.eq_iff_iff,List.any_eq_true,List.any_eq_true]
  constructor
  · rintro ⟨i,hi,h⟩
    have hi':=List.mem_range.mp hi
    rw [List.getD_eq_getElem?_getD,List.getElem?_eq_getElem hi'] at h
    exact ⟨_,List.getElem_mem hi',h⟩
  · rintro ⟨b,hb,h⟩
    obtain ⟨i,hi⟩:=List.mem_iff_getElem?.mp hb
    exact ⟨i,List.mem_range.mpr (List.getElem?_eq_some_iff.mp hi).1,by rw [List.getD_eq_getElem?_getD,hi];exact h⟩
theorem call_any_bools {X:Cx} (hc:X.calm=true):CallR X (.builtin "any") (rAny X.K):=by
  rintro pins s σ H xs us Q I r ⟨l,bs,rfl,hq,q⟩
  obtain ⟨u,rfl,ru⟩:=vals1 r
  cases ru
  obtain ⟨its,rv,pl,hz⟩:=I.list hq
  have lb:its.length=bs.length:=by have:=rv.length;rw [List.length_map] at this;exact this.symm
  have hlt:l < s.heap.objs.size:=by obtain ⟨o,ho,_⟩:=pl.isList;exact Heap.lt_size ho
  refine call_any_walk (wpAny_pyIter_list pl.isList ⟨s.heap.objs.size,_,_,_,_,_,fun i=>bs.getD i false,rfl,Walks.list (prog:=X.prog) (w:=X.w) (A:=X.A.in1) (I.ok.hd hc) s.heap.objs.size l (Nat.ne_of_lt hlt) its.toArray,⟨⟨_,Heap.get?_push_size _ rfl,rfl,rfl⟩,pl.isList.push _⟩,fun i v s' Q' E' hv hQ=>?_,fun h' tk kk=>?_⟩)
  · have hv':its[i]? = some v:=by simpa using hv
    have hi:i < bs.length:=by rw [← lb];exact (List.getElem?_eq_some_iff.mp hv').1
    obtain ⟨u,hu,ru⟩:=rv.get (i:=i) (x:=V.bl bs[i]) (by rw [List.getElem?_map,List.getElem?_eq_getElem hi];rfl)
    rw [hu] at hv'
    cases hv'
    cases (show v=Value.bool bs[i] from ru)
    have e:bs.getD i false=bs[i]:=by rw [List.getD_eq_getElem?_getD,List.getElem?_eq_getElem hi];rfl
    exact wpAny_truthy_bool (e ▸ hQ)
  · rw [List.size_toArray,lb,any_range]
    refine ⟨.bl _,H,I.kept (t':=tk) fun b o eb=>kk b o (fun z=>?_) (Heap.get?_push_of_some _ eb),rfl,q⟩
    have z':b=s.heap.objs.size:=by simpa using z
    exact absurd (Heap.lt_size eb) (by rw [z'];exact Nat.lt_irrefl _)
theorem call_any_boolsK {X:Cx} (K:PySem.W.Frag) (hc:X.calm=true) (hK:X.K=K:=by rfl):CallR X (.builtin "any") (rAny K):=by subst hK;exact call_any_bools hc
end L2
namespace L2
open PySem PySem.Spec PyProof.Rows
section
variable {P:Program} {w:World} {A:Around} {E:Value→Shared→Prop} {s:Shared}
theorem call_set_txl {l:Addr} {its:Array Value} {ss:List Str} {Q:Value→Shared→Prop} (hh:A.handled=none) (hl:s.heap.IsList l its) (hi:Vals (ss.map V.str) its.toList) (hz:its.size≤1000)
    (q:∀ h' tk,SetTx P w h' s.heap.objs.size ss→(∀ b o,s.heap.get? b=some o→h'.get? b=some o)→Q (.ref s.heap.objs.size) { s with heap:=h',toks:=tk }) :
    wpAny (model P w) A (call (.type "set") [.ref l]) Q E s:=by
  obtain ⟨c0,tl,hmro⟩:=F.called_set.mro
  have hmade:=F.called_set.made
  have hsub:=F.called_set.sub
  have h1:=F.called_set.notType
  have h2:=F.called_set.canCreate
  have hct:=F.typeCall_set_1 (.ref l)
  refine wpAny_call (codeAny_of_tree (wpAny_pure ⟨Code.quiet_builtin _ (by decide +kernel),codeAny_builtin F.entry_type_call ?_⟩))
  rw [Around.under_plain (weight_type_call_type "set" [.ref l] []) rfl]
  unfold Builtin.«type.__call__»
  repeat (any_goals (first | assumption | ((with_reducible show wpAny _ _ (call (Value.builtin "set.__new__") _ _) _ _ _);refine wpAny_call (codeAny_mono (new_set_led (Q:=fun ob s1=>ob=Value.ref s.heap.objs.size∧s1 = { s with heap:=s.heap.push (newSetO w) }) (.ref l) ⟨rfl,rfl⟩) ?_)) | wp_step))
  refine codeAny_mono (new_set_led (Q:=fun ob s1=>ob=Value.ref s.heap.objs.size∧s1 = { s with heap:=s.heap.push (newSetO w) }) (E:=E) (.ref l) ⟨rfl,rfl⟩) fun r s1 hr=>?_
  cases r with
  | error e=>exact hr
  | ok fl =>
    cases fl with
    | ret v =>
      obtain ⟨rfl,rfl⟩:=hr
      have hS:(s.heap.push (newSetO w)).get? s.heap.objs.size=some (newSetO w):=Heap.get?_push_size _ rfl
      have hT:({ s with heap:=s.heap.push (newSetO w) }:Shared).TypeIs (.ref s.heap.objs.size) "set":=⟨_,hS,rfl⟩
      have hli:=F.called_set.init.lookup
      have hbi:=F.called_set.init.bind (.ref s.heap.objs.size)
      obtain ⟨ol,hol,hcl,nl,hsl⟩:=id hl
      obtain ⟨oc,od,odt,osl⟩:=ol
      simp only at hcl hsl
      subst hcl hsl
      have hol':(s.heap.push (newSetO w)).get? l=some _:=Heap.get?_push_of_some _ hol
      have hL':({ s with heap:=s.heap.push (newSetO w) }:Shared).TypeIs (.ref l) "list":=⟨_,hol',rfl⟩
      have hsls:=F.sub_list_set
      have hslf:=F.sub_list_frozenset
      have hl1:(s.heap.push (newSetO w)).IsList l its:=⟨_,hol',rfl,nl,rfl⟩
      dsimp only
      repeat (any_goals (first | assumption | wp_step))
      refine codeAny_mono (codeAny_call_builtin (R:=fun r s2=>∃ h' tk,r=.ok (.ret .none)∧s2 = { s with heap:=h',toks:=tk }∧SetTx P w h' s.heap.objs.size ss∧∀ b o,s.heap.get? b=some o→h'.get? b=some o) F.called_set.init.plain F.entry_set_init (check_set_init_1 hT ?_)) fun r s2 hr=>?_
      · unfold Builtin.«set.__init__» Builtin.Frozenset.updateFrom
        repeat (any_goals (first | assumption | ((with_reducible show wpAny _ _ (pyIter (Value.ref l)) _ _ _);refine wpAny_pyIter_list hl1 ?_) | wp_step))
        have hlS:l < s.heap.objs.size:=Heap.lt_size hol
        have hpz:(s.heap.push (newSetO w)).objs.size=s.heap.objs.size+1:=Heap.size_push _ _
        have W:=Walks.list (prog:=P) (w:=w) (A:=A.in1.in1.in1) hh (s.heap.objs.size+1) l (Nat.ne_of_lt (Nat.lt_succ_of_lt hlS)) its
        rw [hpz]
        refine loop_tx W (d:=s.heap.objs.size) ?_ ss ?_ ?_ hz its.size 0 _ (Nat.zero_add _) ⟨⟨_,by rw [← hpz];exact Heap.get?_push_size _ rfl,rfl,rfl⟩,hl1.push _⟩ ?_ ?_
        · intro z
          have z':s.heap.objs.size=s.heap.objs.size+1∨s.heap.objs.size=l:=by simpa using z
          exact z'.elim (Nat.ne_of_lt (Nat.lt_succ_self _)) (Nat.ne_of_gt hlS)
        · have:=hi.length
          simpa using this
        · intro i v hlt e
          have e':its.toList[i]? = some v:=by simpa using e
          have hlt':i < ss.length:=by
            have:=hi.length
            rw [List.length_map] at this
            have h2:its.toList.length=its.size:=Array.length_toList
            omega
          obtain ⟨u,hu,t,ru⟩:=hi.get (i:=i) (x:=V.str ss[i]) (by rw [List.getElem?_map,List.getElem?_eq_getElem hlt'];rfl)
          rw [hu] at e'
          cases e'
          exact ⟨ss[i],t,List.getElem?_eq_getElem hlt',ru⟩
        · refine ⟨_,#[],0,SetTable.fresh 0 0 (!byT w),[],Heap.get?_push_of_some _ hS,⟨rfl,rfl,rfl⟩,rfl,rfl,List.nodup_nil,fun z=>?_,Nat.zero_le _,rfl,?_,.inl rfl⟩
          · simp
          · cases byT w
            · exact .inr rfl
            · exact .inl rfl
        · intro h' tk a1 a3
          refine wpAny_pure (wpAny_pure ⟨h',tk,rfl,rfl,a1,fun b o e=>?_⟩)
          have hb:=Heap.lt_size e
          refine a3 b o (fun z=>?_) (Nat.ne_of_lt hb) (Heap.get?_push_of_some _ (Heap.get?_push_of_some _ e))
          have z':b=s.heap.objs.size+1:=by simpa using z
          exact Nat.ne_of_lt (Nat.lt_succ_of_lt hb) z'
      · obtain ⟨h',tk,rfl,rfl,a1,a3⟩:=hr
        repeat (any_goals (first | assumption | wp_step))
        exact q h' tk a1 a3
    | _=>exact hr.elim
end
def rSetLX (P:Program) (w:World) (K:PySem.W.Frag):List V→Hp→VK→Prop:=fun xs H Q=>∃ (l:Addr) (ss:List Str),xs=[.ref l]∧SqL K H l (ss.map V.str)∧ss.length≤1000∧∀ a,H a=none→Q (.ref a) (upd H a (txHO P w a ss))
theorem call_setLX {X:Cx} (hc:X.calm=true):CallR X (.type "set") (rSetLX X.prog X.w X.K):=by
  rintro pins s σ H xs us Q I r ⟨l,ss,rfl,hL,hz,q⟩
  obtain ⟨u,rfl,ru⟩:=vals1 r
  cases ru
  obtain ⟨its,rv,pl,hl⟩:=I.list hL
  have hlen:=rv.length
  rw [List.length_map] at hlen
  refine call_set_txl (I.ok.hd hc) pl.isList (ss:=ss) (by simpa using rv) (by rw [List.size_toArray];omega) fun h' tk a1 a3=>?_
  refine ⟨.ref s.heap.objs.size,upd H s.heap.objs.size (txHO X.prog X.w s.heap.objs.size ss),I.laid (t':=tk) a3 (Nat.le_refl _) ⟨a1,?_,fun h1 h2 b1 b2=>SetTx.keep b1 b2⟩,rfl,q _ (I.hok.fresh (Nat.le_refl _))⟩
  obtain ⟨o,es,ep,t,ts,ho,_⟩:=a1.ex
  exact ⟨o,ho⟩
theorem call_setLXK {X:Cx} (P:Program) (w:World) (K:PySem.W.Frag) (hc:X.calm=true) (hP:X.prog=P:=by rfl) (hw:X.w=w:=by rfl) (hK:X.K=K:=by rfl):CallR X (.type "set") (rSetLX P w K):=by subst hP;subst hw;subst hK;exact call_setLX hc
end L2
namespace L2
open PySem PySem.Spec PyProof.Rows
def rIxA (K:PySem.W.Frag):R2:=fun x y H Q=>rIxL K x y H Q∨rIxT K x y H Q
theorem ix_anyK {X:Cx} (K:PySem.W.Frag) (hK:X.K=K:=by rfl):IxR X (rIxA K):=by
  subst hK
  intro value slice pins s σ H x y v u Q I rx ry h
  exact h.elim (fun h=>ix_list value slice pins s σ H x y v u Q I rx ry h) fun h=>ix_tup value slice pins s σ H x y v u Q I rx ry h
end L2
namespace Lw
open PySem L2
abbrev tx (w:List Nat):V:=.str ⟨w.toArray⟩
abbrev Rule:=Nat × List Nat
structure Good (first:List Nat) (rs:List Rule):Prop where
  few:rs.length≤8
  rise:(rs.map (·.1)).Pairwise (· < ·)
  abc:∀ q∈rs,97≤q.1∧q.1≤122
  wl:∀ q∈rs,q.2.length≤6
  win:∀ q∈rs,∀ c∈q.2,c∈rs.map (·.1)
  fl:first.length≤12
  fin:∀ c∈first,c∈rs.map (·.1)
inductive RulesAt (H:Hp):List Addr→List Rule→Prop where
  | nil:RulesAt H [] []
  | cons {p:Addr} {ps:List Addr} {c:Nat} {w:List Nat} {rs:List Rule}:H p=some (.tup [sign c,tx w])→RulesAt H ps rs→RulesAt H (p :: ps) ((c,w) :: rs)
structure BookAt (H:Hp) (t:Addr) (first:List Nat) (rs:List Rule):Prop where
  ex:∃ r ps,H t=some (.tup [tx first,.ref r])∧H r=some (.tup (ps.map V.ref))∧RulesAt H ps rs
def TupS (H H':Hp):Prop:=∀ c xs,H c=some (.tup xs)→H' c=some (.tup xs)
theorem TupS.refl (H:Hp):TupS H H:=fun _ _ h=>h
theorem TupS.trans {H H1 H2:Hp} (a:TupS H H1) (b:TupS H1 H2):TupS H H2:=fun c xs h=>b c xs (a c xs h)
theorem TupS.same {H H':Hp} (s:Same H H'):TupS H H':=fun c xs h=>s c _ h
theorem RulesAt.mono {H H':Hp} (s:TupS H H'):∀ {ps:List Addr} {rs:List Rule},RulesAt H ps rs→RulesAt H' ps rs
  | _,_,.nil=>.nil
  | _,_,.cons h r=>.cons (s _ _ h) (r.mono s)
theorem BookAt.mono {H H':Hp} {t:Addr} {first:List Nat} {rs:List Rule} (s:TupS H H') (b:BookAt H t first rs):BookAt H' t first rs:=by
  obtain ⟨r,ps,h1,h2,h3⟩:=b.ex
  exact ⟨r,ps,s _ _ h1,s _ _ h2,h3.mono s⟩
theorem RulesAt.len {H:Hp}:∀ {ps:List Addr} {rs:List Rule},RulesAt H ps rs→ps.length=rs.length
  | _,_,.nil=>rfl
  | _,_,.cons _ r=>congrArg (· + 1) r.len
theorem RulesAt.get {H:Hp}:∀ {ps:List Addr} {rs:List Rule} {i:Nat} {p:Addr},RulesAt H ps rs→ps[i]? = some p→∃ c w,rs[i]? = some (c,w)∧H p=some (.tup [sign c,tx w])
  | _,_,i,p,.nil,e=>by cases i <;> cases e
  | _,_,0,p,.cons (c:=c) (w:=w) h r,e=>by
    have e':=Option.some.inj e
    subst e'
    exact ⟨c,w,rfl,h⟩
  | _,_,i+1,p,.cons h r,e=>r.get (i:=i) e
theorem Same.add {H:Hp} {l:Addr} {o:HO} (h:H l=none):Same H (upd H l o):=fun b u e=>by rw [upd_ne (ne_of_none e h)];exact e
theorem take_snoc {α β:Type} {xs:List α} {i:Nat} {x:α} (f:α→β) (h:xs[i]? = some x):(xs.take (i+1)).map f=(xs.take i).map f++[f x]:=by
  rw [List.take_add_one,h,List.map_append]
  rfl
theorem take_all {α:Type} (xs:List α):xs.take xs.length=xs:=List.take_length
end Lw
namespace Lw
open PySem L2
theorem join_go:∀ (r:List Str) (acc:Array Nat),r.foldl (fun acc p=>acc++(#[]:Array Nat)++p.cps) acc=acc++((r.map fun p=>p.cps.toList).flatten).toArray
  | [],acc=>by simp
  | p :: r,acc=>by
    rw [List.foldl_cons,join_go r]
    apply Array.ext'
    simp
theorem join_eq (ss:List Str):Txt.join ⟨#[]⟩ ss=⟨((ss.map fun p=>p.cps.toList).flatten).toArray⟩:=by
  unfold Txt.join Builtin.Str.glued
  cases ss with
  | nil=>rfl
  | cons a r =>
    show (⟨r.foldl (fun acc p=>acc++(#[]:Array Nat)++p.cps) a.cps⟩:Str)=_
    rw [join_go]
    congr 1
    apply Array.ext'
    simp
theorem join_signs (cs:List Nat):Txt.join ⟨#[]⟩ (cs.map fun c=>(⟨#[c]⟩:Str))=⟨cs.toArray⟩:=by
  rw [join_eq]
  congr 2
  induction cs with
  | nil=>rfl
  | cons c r ih =>
    simp only [List.map_cons,List.flatten_cons]
    rw [ih]
    rfl
end Lw
namespace Lw
open PySem L2
structure RowsAt (H0 H:Hp) (ls:List Addr) (vs:List (List V)):Prop where
  len:ls.length=vs.length
  at_:∀ (i:Nat) a v,ls[i]? = some a→vs[i]? = some v→H a=some (.lst v)
  new:∀ a∈ls,H0 a=none
  nd:ls.Nodup
theorem RowsAt.nil {H0 H:Hp}:RowsAt H0 H [] []:=⟨rfl,(fun i a v e _=>by simp at e),(fun a h=>by simp at h),List.nodup_nil⟩
theorem RowsAt.mono {H0 H H':Hp} {ls:List Addr} {vs:List (List V)} (r:RowsAt H0 H ls vs) (s:Same H H'):RowsAt H0 H' ls vs:=⟨r.len,fun i a v e1 e2=>s _ _ (r.at_ i a v e1 e2),r.new,r.nd⟩
theorem RowsAt.there {H0 H:Hp} {ls:List Addr} {vs:List (List V)} (r:RowsAt H0 H ls vs) {a:Addr} (h:a∈ls):∃ v,H a=some (.lst v)∧v∈vs:=by
  obtain ⟨i,e⟩:=List.mem_iff_getElem?.mp h
  have hi:i < vs.length:=by rw [← r.len];exact (List.getElem?_eq_some_iff.mp e).1
  exact ⟨vs[i],r.at_ i a _ e (by simp [hi]),List.getElem_mem hi⟩
theorem RowsAt.snoc {H0 H H':Hp} {ls:List Addr} {vs:List (List V)} {a:Addr} {v:List V} (r:RowsAt H0 H ls vs) (s:Same H H') (h0:H0 a=none) (h1:H a=none) (h2:H' a=some (.lst v)):RowsAt H0 H' (ls++[a]) (vs++[v]):=by
  have na:a ∉ ls:=fun h=>by
    obtain ⟨w,e,_⟩:=r.there h
    rw [h1] at e;cases e
  refine ⟨by rw [List.length_append,List.length_append,r.len];rfl,fun i b u e1 e2=>?_,fun b hb=>?_,?_⟩
  · by_cases hi:i < ls.length
    · rw [List.getElem?_append_left hi] at e1
      rw [List.getElem?_append_left (by rw [← r.len];exact hi)] at e2
      exact s _ _ (r.at_ i b u e1 e2)
    · rw [List.getElem?_append_right (by omega)] at e1
      rw [List.getElem?_append_right (by rw [← r.len];omega),← r.len] at e2
      cases z:i - ls.length with
      | zero =>
        rw [z] at e1 e2
        cases e1
        cases e2
        exact h2
      | succ n=>rw [z] at e1;cases e1
  · rcases List.mem_append.mp hb with z | z
    · exact r.new b z
    · have z:b=a:=by simpa using z
      rw [z];exact h0
  · exact L2.nd_snoc r.nd na
structure TabAt (H0 H:Hp) (l:Addr) (ls:List Addr) (vs:List (List V)):Prop where
  top:H l=some (.lst (ls.map V.ref))
  rows:RowsAt H0 H ls vs
  new:H0 l=none
  out:l ∉ ls
theorem TabAt.mono {H0 H H':Hp} {l:Addr} {ls:List Addr} {vs:List (List V)} (t:TabAt H0 H l ls vs) (s:Same H H'):TabAt H0 H' l ls vs:=⟨s _ _ t.top,t.rows.mono s,t.new,t.out⟩
theorem TabAt.elder {H00 H0 H:Hp} {l:Addr} {ls:List Addr} {vs:List (List V)} (t:TabAt H0 H l ls vs) (s:Same H00 H0):TabAt H00 H l ls vs:=⟨t.top,⟨t.rows.len,t.rows.at_,fun a h=>s.free (t.rows.new a h),t.rows.nd⟩,s.free t.new,t.out⟩
end Lw
namespace Lw
open PySem PySem.Spec L2 PyProof.Rows
abbrev one (c:Nat):Str:=⟨#[c]⟩
end Lw
namespace Lw
open PySem L2
theorem RulesAt.snoc {H:Hp} {p:Addr} {c:Nat} {w:List Nat} (h:H p=some (.tup [sign c,tx w])):∀ {ps:List Addr} {rs:List Rule},RulesAt H ps rs→RulesAt H (ps++[p]) (rs++[(c,w)])
  | _,_,.nil=>.cons h .nil
  | _,_,.cons h1 r=>.cons h1 (r.snoc h)
theorem one_inj {a b:Nat} (h:one a=one b):a=b:=by
  have:=congrArg (fun z:Str=>z.cps.getD 0 0) h
  exact this
end Lw
namespace Lw
def Bd (e:Nat) (c:List Int):Prop:=∀ x∈c,0≤x∧x < 2 ^ e
end Lw
namespace Lw
open PySem L2
def Bz (e:Nat) (c:List Int):Prop:=∀ x∈c,x.natAbs < 2 ^ e
theorem Bd.z {e:Nat} {c:List Int} (h:Bd e c):Bz e c:=fun x hx=>by
  obtain ⟨h1,h2⟩:=h x hx
  have h3:((x.natAbs:Nat):Int)=x:=Int.natAbs_of_nonneg h1
  have h4:((2 ^ e:Nat):Int)=(2:Int) ^ e:=by push_cast;rfl
  rw [← h3,← h4] at h2
  exact Int.ofNat_lt.mp h2
structure TabV (H:Hp) (l:Addr) (ls:List Addr) (vs:List (List Int)):Prop where
  top:H l=some (.lst (ls.map V.ref))
  len:ls.length=vs.length
  at_:∀ (i:Nat) a v,ls[i]? = some a→vs[i]? = some v→H a=some (.lst (v.map V.int))
theorem TabV.mono {H H':Hp} {l:Addr} {ls:List Addr} {vs:List (List Int)} (t:TabV H l ls vs) (s:Same H H'):TabV H' l ls vs:=⟨s _ _ t.top,t.len,fun i a v e1 e2=>s _ _ (t.at_ i a v e1 e2)⟩
theorem TabV.get {H:Hp} {l:Addr} {ls:List Addr} {vs:List (List Int)} (t:TabV H l ls vs) {i:Nat} {v:List Int} (e:vs[i]? = some v):∃ a,ls[i]? = some a∧H a=some (.lst (v.map V.int)):=by
  have hi:i < ls.length:=by rw [t.len];exact (List.getElem?_eq_some_iff.mp e).1
  exact ⟨ls[i],List.getElem?_eq_getElem hi,t.at_ i _ v (List.getElem?_eq_getElem hi) e⟩
def c0 (rs:List Rule) (w:List Nat):List Int:=rs.map fun q=>((w.count q.1:Nat):Int)
def lk:List Nat→List Int→Nat→Int
  | c :: cs,n :: ns,x=>if c=x then n else lk cs ns x
  | _,_,_=>0
theorem keys_nd {cs:List Nat} (h:cs.Nodup):(cs.map fun c=>(Sum.inr (one c):Key)).Nodup :=
  List.Pairwise.map _ (fun a b hab z=>hab (one_inj (Sum.inr.inj z))) h
def ltr (rs:List Rule):List Nat:=rs.map (·.1)
theorem Good.nd {first:List Nat} {rs:List Rule} (h:Good first rs):(ltr rs).Nodup:=h.rise.imp fun a=>Nat.ne_of_lt a
end Lw
namespace Lw
open PySem L2
theorem cut_take (xs:List V) (m:Nat):cutV xs none (some (m:Int))=xs.take m:=by
  unfold cutV HT.sIx
  rw [List.drop_zero]
  simp only [Nat.sub_zero]
  by_cases h:m≤xs.length
  · congr 1
    first | (split <;> omega) | omega | simp [h] <;> omega
  · rw [List.take_of_length_le (l:=xs) (i:=m) (by omega)]
    refine List.take_of_length_le ?_
    first | (split <;> omega) | omega
theorem TabV.snoc {H H':Hp} {l d:Addr} {ls:List Addr} {vs:List (List Int)} {v:List Int} (t:TabV H l ls vs) (s:∀ a∈ls,∀ o,H a=some o→H' a=some o) (h1:H' l=some (.lst (ls.map V.ref++[V.ref d]))) (h2:H' d=some (.lst (v.map V.int))):TabV H' l (ls++[d]) (vs++[v]):=by
  refine ⟨by rw [h1,List.map_append];rfl,by rw [List.length_append,List.length_append,t.len];rfl,fun i a u e1 e2=>?_⟩
  by_cases hi:i < ls.length
  · rw [List.getElem?_append_left hi] at e1
    rw [List.getElem?_append_left (by rw [← t.len];exact hi)] at e2
    exact s a (List.mem_of_getElem? e1) _ (t.at_ i a u e1 e2)
  · rw [List.getElem?_append_right (by omega)] at e1
    rw [List.getElem?_append_right (by rw [← t.len];omega),← t.len] at e2
    cases z:i - ls.length with
    | zero =>
      rw [z] at e1 e2
      cases e1
      cases e2
      exact h2
    | succ n=>rw [z] at e1;cases e1
theorem TabV.take {H H':Hp} {l d:Addr} {ls:List Addr} {vs:List (List Int)} (m:Nat) (t:TabV H l ls vs) (s:Same H H') (h:H' d=some (.lst ((ls.map V.ref).take m))):TabV H' d (ls.take m) (vs.take m):=by
  refine ⟨by rw [h,List.map_take],by rw [List.length_take,List.length_take,t.len],fun i a u e1 e2=>?_⟩
  rw [List.getElem?_take] at e1 e2
  split at e1
  · rename_i hi
    rw [if_pos hi] at e2
    exact s _ _ (t.at_ i a u e1 e2)
  · cases e1
theorem upd_in {H:Hp} {l:Addr} {o:HO} {c:Addr} {u:HO} (h:H c=some u) (n:c≠l):upd H l o c=some u:=by rw [upd_ne n];exact h
end Lw
namespace Lw
end Lw
namespace Lw
open PySem
end Lw
namespace Lw
open PySem L2
end Lw
namespace Lw
open PySem L2
def wd:List Rule→Nat→List Nat
  | [],_=>[]
  | q :: rs,c=>if q.1=c then q.2 else wd rs c
def nxt (rs:List Rule) (x:List Nat):List Nat:=(x.map (wd rs)).flatten
def rowN (rs:List Rule) (x:List Nat):Nat→List Nat
  | 0=>x
  | n+1=>nxt rs (rowN rs x n)
theorem wd_mem:∀ {rs:List Rule} {c:Nat},c∈ltr rs→∃ q∈rs,q.1=c∧wd rs c=q.2
  | [],c,h=>by simp [ltr] at h
  | q :: rs,c,h=>by
    by_cases e:q.1=c
    · exact ⟨q,List.mem_cons_self,e,by unfold wd;rw [if_pos e]⟩
    · have h':c∈ltr rs:=by
        rcases List.mem_cons.mp (show c∈q.1 :: ltr rs from h) with z | z
        · exact absurd z.symm e
        · exact z
      obtain ⟨q',a,b,d⟩:=wd_mem h'
      exact ⟨q',List.mem_cons_of_mem _ a,b,by unfold wd;rw [if_neg e];exact d⟩
end Lw
namespace Lw
open PySem L2
def top (i:Nat):Stmt:=PySem.Challenge.pw_linegrow_k61_pieces_walked.main.body.getD i (.Pass ⟨0,0,0,0⟩)
abbrev sItx:Stmt:=top 10
abbrev sRep:Stmt:=top 13
abbrev sTrn:Stmt:=top 14
abbrev sCut:Stmt:=top 18
abbrev sPcu:Stmt:=top 19
abbrev sPag:Stmt:=top 20
abbrev sRal:Stmt:=top 21
abbrev sWhl:Stmt:=top 23
abbrev sPen:Stmt:=top 24
abbrev sTak:Stmt:=top 25
abbrev sSig:Stmt:=top 26
abbrev sTxt:Stmt:=top 27
abbrev sCtg:Stmt:=top 28
abbrev sPar:Stmt:=top 29
abbrev sBal:Stmt:=top 30
abbrev sLon:Stmt:=top 31
abbrev sMor:Stmt:=top 32
abbrev sCus:Stmt:=top 33
abbrev sPla:Stmt:=top 34
abbrev sEar:Stmt:=top 35
abbrev sMde:Stmt:=top 36
abbrev sSwn:Stmt:=top 37
abbrev sAsk:Stmt:=top 38
abbrev sRgt:Stmt:=top 39
abbrev sLtr:Stmt:=top 40
abbrev sLaw:Stmt:=top 41
end Lw
namespace Lw
open PySem L2
structure Gf (K:PySem.W.Frag) (mg:Str→Option Value) (x:Str) (f:Addr) (fd:FuncData) (ps:List Str):Prop where
  m:mg x=some (.ref f)
  k:PySem.W.keepIn K (.ref f)=true
  b:Binds K fd ps []
end Lw
namespace Lw
open PySem L2
structure PenAt (H:Hp) (p:Addr) (b:Nat):Prop where
  ex:∃ (a n f:Int),H p=some (.lst [.int a,.int n,.int f])∧0≤n∧n≤b∧0≤f∧f < 2147483647
theorem PenAt.mono {H:Hp} {p:Addr} {b b':Nat} (h:PenAt H p b) (hb:b≤b'):PenAt H p b':=by
  obtain ⟨a,n,f,e,h1,h2,h3⟩:=h.ex
  exact ⟨a,n,f,e,h1,by omega,h3⟩
def But (p:Addr) (H H':Hp):Prop:=∀ c o,H c=some o→c≠p→H' c=some o
theorem But.refl (p:Addr) (H:Hp):But p H H:=fun _ _ h _=>h
theorem But.trans {p:Addr} {H H1 H2:Hp} (a:But p H H1) (b:But p H1 H2):But p H H2:=fun c o h n=>b c o (a c o h n) n
theorem But.same {p:Addr} {H H':Hp} (s:Same H H'):But p H H':=fun c o h _=>s c o h
theorem But.free {p:Addr} {H H':Hp} (e:But p H H') {l:Addr} (n:l≠p) (h:H' l=none):H l=none:=by
  cases q:H l with
  | none=>rfl
  | some o=>rw [e l o q n] at h;cases h
section
variable {P:Program} {w:World} {K:PySem.W.Frag} {mg:Str→Option Value} {base:Heap}
def spTak:Sp:=fun vs H Q _=>∃ (p:Addr) (b:Nat) (size:Int),vs=[.ref p,.int size]∧PenAt H p b∧b≤1000000∧0 < size∧size≤10000000000000000000000000000000000000000000000000000000000000000000000∧∀ (v:Int) H',0≤v→v < size→PenAt H' p (b+1)→(∀ c,c≠p→H' c=H c)→Q (.int v) H'
theorem scTak:FnScope ["_law_pen_here","_law_size","_law_found","_law_number"] ["_law_pen_here","_law_size"] (defScope sTak):=⟨rfl,rfl,rfl,by decide +kernel,rfl,by decide +kernel,by decide +kernel⟩
theorem ok_tak {f:Addr} {fd:FuncData} (F:Fun K "_law_take" "_law_take" sTak f fd):FnOk P w K mg base CX0 1 f fd ["_law_pen_here","_law_size"] spTak:=by
  refine F.ok scTak (fun vs H Q E h=>?_) (fun cdv A outer s H vs Q E hr h=>?_)
  · obtain ⟨p,b,size,rfl,_⟩:=h
    rfl
  · obtain ⟨p,b,size,rfl,hp,hb,h1,h2,k⟩:=h
    obtain ⟨a,n,g,e,n1,n2,g1,g2⟩:=hp.ex
    refine ⟨_,pss_cons (ps_if (pt_cmpR op_gt (pe_ix ix_list (pv 0) pe_int (fun _ _=>rfl)) pe_int (nomark _))
        (pss_cons (ps_set (i:=2) scTak.nd rfl (Or.inl rfl) (pe_op op_mod (pe_ix ix_list (pv 0) pe_int (fun _ _=>rfl)) (pv 1)))
        (pss_cons (ps_asg (pe_op op_fdivB (pe_ix ix_list (pv 0) pe_int (fun _ _=>rfl)) (pv 1)) (pg_sub (pv 0) pe_int set_list))
        (pss_one (ps_ret (pv 2))))) pss_nil)
      (pss_cons (ps_asg (pe_op op_add (pe_ix ix_list (pv 0) pe_int (fun _ _=>rfl)) pe_int) (pg_sub (pv 0) pe_int set_list))
      (pss_cons (ps_set (i:=3) scTak.nd rfl (Or.inl rfl) (pe_op op_mod (pe_op op_pow (pe_op op_add (pe_ix ix_list (pv 0) pe_int (fun _ _=>rfl)) (pe_op op_mul pe_int (pe_ix ix_list (pv 0) pe_int (fun _ _=>rfl)))) pe_int) pe_int))
      (pss_cons (ps_set (i:=3) scTak.nd rfl (Or.inl rfl) (pe_op op_mod (pe_op op_pow (pe_op op_add (pv 3) (pe_op op_mul pe_int (pe_ix ix_list (pv 0) pe_int (fun _ _=>rfl)))) pe_int) pe_int))
      (pss_one (ps_ret (pe_op op_mod (pe_op op_fdiv (pv 3) pe_int) (pv 1))))))),?_⟩
    refine ⟨_,rfl,p,_,_,_,rfl,rfl,SqL.of e,atI_nat (j:=0) rfl,_,_,rfl,rfl,_,rfl,?_⟩
    refine ite2 (fun hc=>?_) (fun hc=>?_)
    · refine ⟨_,rfl,p,_,_,_,rfl,rfl,SqL.of e,atI_nat (j:=0) rfl,_,rfl,_,_,rfl,rfl,h1,?_⟩
      refine ⟨_,rfl,p,_,_,_,rfl,rfl,SqL.of e,atI_nat (j:=0) rfl,_,rfl,_,_,rfl,rfl,⟨h1,by omega⟩,?_⟩
      refine ⟨_,rfl,p,_,_,0,rfl,rfl,e,rfl,?_⟩
      refine ⟨_,rfl,?_⟩
      refine k _ _ (Int.emod_nonneg _ (by omega)) (Int.emod_lt_of_pos _ h1) ⟨_,n,g,upd_same,n1,by omega,g1,g2⟩ fun c hc=>upd_ne hc
    · refine ⟨_,rfl,p,_,_,_,rfl,rfl,SqL.of e,atI_nat (j:=1) rfl,_,_,rfl,rfl,_,rfl,p,_,_,1,rfl,rfl,e,rfl,?_⟩
      have e2:upd H p (.lst ([V.int a,V.int n,V.int g].set 1 (V.int (n+1)))) p=some (.lst [.int a,.int (n+1),.int g]):=upd_same
      refine ⟨_,rfl,p,_,_,_,rfl,rfl,SqL.of e2,atI_nat (j:=2) rfl,_,rfl,p,_,_,_,rfl,rfl,SqL.of e2,atI_nat (j:=1) rfl,_,_,rfl,rfl,.inl ⟨by decide,by decide⟩,_,_,rfl,rfl,_,_,rfl,rfl,⟨by decide,by decide,by omega⟩,_,_,rfl,rfl,(by show (0:Int) < 2147483647;decide),?_⟩
      generalize (g+7919 * (n+1)) ^ Int.toNat 5=X1
      refine ⟨_,rfl,_,rfl,p,_,_,_,rfl,rfl,SqL.of e2,atI_nat (j:=1) rfl,_,_,rfl,rfl,.inl ⟨by decide,by decide⟩,_,_,rfl,rfl,_,_,rfl,rfl,⟨by decide,by decide,by omega⟩,_,_,rfl,rfl,(by show (0:Int) < 2147483629;decide),?_⟩
      generalize (X1 % 2147483647+104729 * (n+1)) ^ Int.toNat 5=X2
      refine ⟨_,rfl,_,_,rfl,rfl,⟨by decide,by decide⟩,_,rfl,_,_,rfl,rfl,h1,?_⟩
      exact k _ _ (Int.emod_nonneg _ (by omega)) (Int.emod_lt_of_pos _ h1) ⟨a,n+1,g,e2,by omega,by omega,g1,g2⟩ fun c hc=>upd_ne hc
def spPen (K:PySem.W.Frag):Sp:=fun vs H Q _=>∃ (a:Addr) (ns:List Int) (k:Int),vs=[.ref a,.int k]∧SqL K H a (ns.map V.int)∧ns.length≤63∧0≤k∧k≤100∧∀ p H',Same H H'→H p=none→PenAt H' p 0→Q (.ref p) H'
end
end Lw
namespace Lw
open PySem L2
section
variable {P:Program} {w:World} {K:PySem.W.Frag} {mg:Str→Option Value} {base:Heap}
theorem mem_cutV {xs:List V} {lo hi:Option Int} {x:V} (h:x∈cutV xs lo hi):x∈xs:=List.mem_of_mem_drop (List.mem_of_mem_take h)
theorem scPen:FnScope ["_law_script","_law_k","_law_fold","_law_cell"] ["_law_script","_law_k"] (defScope sPen):=⟨rfl,rfl,rfl,by decide +kernel,rfl,by decide +kernel,by decide +kernel⟩
theorem ok_pen {f:Addr} {fd:FuncData} (F:Fun K "_law_pen" "_law_pen" sPen f fd) (hlen:mg "len" = none):FnOk P w K mg base CX0 1 f fd ["_law_script","_law_k"] (spPen K):=by
  refine F.ok scPen (fun vs H Q E h=>?_) (fun cdv A outer s H vs Q E hr h=>?_)
  · obtain ⟨a,ns,k,rfl,_⟩:=h
    rfl
  · obtain ⟨a,ns,k,rfl,hS,hl,k0,k1,q⟩:=h
    refine ⟨_,pss_cons (ps_set (i:=2) scPen.nd rfl (Or.inl rfl) (pe_op op_add (pe_op op_mul pe_int (pv 1)) pe_int))
      (pss_cons (ps_for PassesOwn.never rfl (pi_list (pe_slice sl_list (pv 0) po_none (po_some pe_int))) (pg_name (i:=3) scPen.nd rfl (Or.inl rfl))
        (pss_one (ps_set (i:=2) scPen.nd rfl (Or.inl rfl) (pe_op op_mod (pe_op op_add (pe_op op_mul (pv 2) pe_int) (pv 3)) pe_int))))
      (pss_cons (ps_if (PW.pt (pw_and (pt_cmpR op_gt (pe_callB call_len_seq (by rfl) hlen PySem.boot_len (pa_cons (pv 0) pa_nil)) pe_int (nomark _))
          (pw_and1 (pt_cmpR op_ge (pe_ix ix_list (pv 0) (pe_op op_mod (pv 1) (pe_callB call_len_seq (by rfl) hlen PySem.boot_len (pa_cons (pv 0) pa_nil))) (fun _ _=>rfl)) (pe_op op_pow pe_int pe_int) (nomark _)))))
        (pss_one (ps_ret (pe_lst (pa_cons (pe_op op_sub (pe_ix ix_list (pv 0) (pe_op op_mod (pv 1) (pe_callB call_len_seq (by rfl) hlen PySem.boot_len (pa_cons (pv 0) pa_nil))) (fun _ _=>rfl)) (pe_op op_pow pe_int pe_int)) (pa_cons pe_int (pa_cons (pv 2) pa_nil)))))) pss_nil)
      (pss_one (ps_ret (pe_lst (pa_cons pe_int (pa_cons pe_int (pa_cons (pv 2) pa_nil)))))))),?_⟩
    refine ⟨_,rfl,_,_,rfl,rfl,.inl ⟨by decide,by decide⟩,_,_,rfl,rfl,?_⟩
    refine ⟨_,rfl,_,rfl,a,_,rfl,hS,fun p hp=>⟨p,rfl,⟨_,SqL.of upd_same⟩,?_⟩⟩
    refine for_by (sure_list (xs:=cutV (ns.map V.int) none (some 63))) (fun i σ H2=>H2=upd H p (.lst (cutV (ns.map V.int) none (some 63)))∧∃ (g:Int) (v:Option V),σ=[some (.ref a),some (.int k),some (.int g),v]∧0≤g∧g < 2147483647)
      ⟨rfl,_,_,rfl,by omega,by omega⟩ ?_ ?_ ?_
    · rintro i σ H2 hi ⟨rfl,_⟩
      exact SqL.of upd_same
    · rintro i x σ H2 hx ⟨rfl,g,v,rfl,g1,g2⟩
      obtain ⟨z,hz,rfl⟩:=List.mem_map.mp (mem_cutV (List.mem_of_getElem? hx))
      refine ⟨_,rfl,_,_,rfl,rfl,.inr ⟨by decide,by decide⟩,_,rfl,_,_,rfl,rfl,_,_,rfl,rfl,(by show (0:Int) < 2147483647;decide),rfl,_,_,rfl,Int.emod_nonneg _ (by decide),Int.emod_lt_of_pos _ (by decide)⟩
    · rintro σ H2 ⟨rfl,g,v,rfl,g1,g2⟩
      have s1:Same H (upd H p (.lst (cutV (ns.map V.int) none (some 63)))):=Same.add hp
      have hS1:=s1.seq hS
      have el:((ns.map V.int).length:Int)=(ns.length:Int):=by rw [List.length_map]
      have fin:∀ (z:Int) (l:Addr),(upd H p (.lst (cutV (ns.map V.int) none (some 63)))) l=none→Q (.ref l) (upd (upd H p (.lst (cutV (ns.map V.int) none (some 63)))) l (.lst [.int z,.int 0,.int g])):=fun z l hn =>
        q l _ (s1.trans (Same.add hn)) (s1.free hn) ⟨z,0,g,upd_same,by decide,by decide,g1,g2⟩
      refine ⟨_,rfl,a,_,rfl,.inl hS1,_,_,rfl,rfl,_,rfl,?_⟩
      refine ite2 (fun hc=>?_) (fun hc=>?_)
      · have hpos:0 < (ns.length:Int):=by
          have:=of_decide_eq_true hc
          rw [el] at this
          exact this
        have hm1:=Int.emod_nonneg k (show (ns.length:Int)≠0 by omega)
        have hm2:=Int.emod_lt_of_pos k hpos
        obtain ⟨j,hj⟩:∃ j:Nat,k % (ns.length:Int)=(j:Int):=⟨(k % (ns.length:Int)).toNat,by omega⟩
        have hjl:j < ns.length:=by omega
        have hat:atI (ns.map V.int) (k % ((ns.map V.int).length:Int))=some (.int ns[j]):=by
          rw [el,hj]
          exact atI_nat (by rw [List.getElem?_map,List.getElem?_eq_getElem hjl];rfl)
        refine ⟨_,rfl,_,rfl,_,rfl,a,_,rfl,.inl hS1,_,_,rfl,rfl,(by show (0:Int) < _;rw [el];exact hpos),a,_,_,_,rfl,rfl,hS1,hat,_,_,rfl,rfl,⟨by decide,by decide,by decide⟩,_,_,rfl,rfl,_,rfl,?_⟩
        refine ite2 (fun hc2=>?_) (fun hc2=>?_)
        · refine ⟨_,rfl,_,rfl,_,rfl,a,_,rfl,.inl hS1,_,_,rfl,rfl,(by show (0:Int) < _;rw [el];exact hpos),a,_,_,_,rfl,rfl,hS1,hat,_,_,rfl,rfl,⟨by decide,by decide,by decide⟩,_,_,rfl,rfl,_,rfl,(by show 3≤sizeLine;decide),fun l hn=>?_⟩
          exact fin _ l hn
        · exact ⟨_,rfl,(by show 3≤sizeLine;decide),fun l hn=>fin 0 l hn⟩
      · refine iteF ?_
        exact ⟨_,rfl,(by show 3≤sizeLine;decide),fun l hn=>fin 0 l hn⟩
end
end Lw
namespace Lw
open PySem L2
def rLenS (K:PySem.W.Frag):List V→Hp→VK→Prop:=fun xs H Q=>∃ p ys,xs=[.ref p]∧(SqL K H p ys∨SqT K H p ys)∧Q (.int ys.length) H
theorem call_lenS {X:Cx}:CallR X (.builtin "len") (rLenS X.K):=call_len_seq
def abc:List Nat:=[97,98,99,100,101,102,103,104,105,106,107,108,109,110,111,112,113,114,115,116,117,118,119,120,121,122]
theorem abc_str:(Str.ofString "abcdefghijklmnopqrstuvwxyz").cps.toList=abc:=by decide +kernel
theorem abc_nd:abc.Nodup:=by decide
theorem abc_in:∀ c∈abc,97≤c∧c≤122:=by decide
theorem perm_erase:∀ {xs:List Nat} {k:Nat} {y:Nat},xs[k]? = some y→xs.Perm (y :: xs.eraseIdx k)
  | x :: xs,0,y,e=>by cases e;exact List.Perm.refl _
  | x :: xs,k+1,y,e=>by
    have ih:=perm_erase (xs:=xs) (k:=k) (y:=y) e
    show (x :: xs).Perm (y :: x :: xs.eraseIdx k)
    exact (ih.cons x).trans (List.Perm.swap y x _)
  | [],k,y,e=>by simp at e
theorem map_erase {α β:Type} (f:α→β):∀ (xs:List α) (k:Nat),(xs.map f).eraseIdx k=(xs.eraseIdx k).map f
  | [],_=>rfl
  | _ :: _,0=>rfl
  | x :: xs,k+1=>by
    show f x :: (xs.map f).eraseIdx k=f x :: (xs.eraseIdx k).map f
    rw [map_erase f xs k]
theorem PenAt.other {H H':Hp} {p:Addr} {b:Nat} (h:PenAt H p b) (e:H' p=H p):PenAt H' p b:=by
  obtain ⟨a,n,f,e1,r⟩:=h.ex
  exact ⟨a,n,f,e.trans e1,r⟩
theorem PenAt.some {H:Hp} {p:Addr} {b:Nat} (h:PenAt H p b):∃ o,H p=Option.some o:=by
  obtain ⟨a,n,f,e1,r⟩:=h.ex
  exact ⟨_,e1⟩
section
variable {P:Program} {w:World} {K:PySem.W.Frag} {mg:Str→Option Value} {base:Heap}
def spSig:Sp:=fun vs H Q _=>∃ (p:Addr) (b:Nat) (n:Nat),vs=[.ref p,.int (n:Int)]∧PenAt H p b∧b≤900000∧n≤26 ∧
  ∀ l (cs:List Nat) H',But p H H'→PenAt H' p (b+n)→H l=none→H' l=some (.lst (cs.map sign))→cs.length=n→cs.Nodup→(∀ c∈cs,97≤c∧c≤122)→Q (.ref l) H'
theorem scSig:FnScope ["_law_pen_here","_law_many","_law_rest"] ["_law_pen_here","_law_many"] (defScope sSig):=⟨rfl,rfl,rfl,by decide +kernel,rfl,by decide +kernel,by decide +kernel⟩
theorem nd_sig:(["_law_k","_law_rest","_law_pen_here"]:List Str).Nodup:=by decide +kernel
theorem ok_sig {f f1:Addr} {fd fd1:FuncData} (F:Fun K "_law_signs" "_law_signs" sSig f fd) (G:FnOk P w K mg base CX0 1 f1 fd1 ["_law_pen_here","_law_size"] spTak) (g:Gf K mg "_law_take" f1 fd1 ["_law_pen_here","_law_size"])
    (hlen:mg "len" = none) (hlist:mg "list" = none) (hrange:mg "range" = none):FnOk P w K mg base CX0 2 f fd ["_law_pen_here","_law_many"] spSig:=by
  refine F.ok scSig (fun vs H Q E h=>?_) (fun cdv A outer s H vs Q E hr h=>?_)
  · obtain ⟨p,b,n,rfl,_⟩:=h
    rfl
  · obtain ⟨p,b,n,rfl,hp,hb,hn,q⟩:=h
    refine ⟨_,pss_cons (ps_set (i:=2) scSig.nd rfl (Or.inr rfl) (pe_callTy (call_list_text rfl) (by rfl) hlist (by first | exact PySem.boot_list | decide +kernel) (pa_cons pe_str pa_nil)))
      (pss_one (ps_ret (pe_comp (N':=["_law_k","_law_rest","_law_pen_here"]) (ix:=[none,some 2,some 0]) rfl rfl (pi_range1 rfl hrange (pa_cons (pv 1) pa_nil)) (fun _ _ _ _ _ _=>pg_name (i:=0) nd_sig rfl (Or.inl rfl)) (fun _ _ _ _ _ _=>pts_nil)
        (fun _ _ _ _ _ _=>show PE _ _ (tBM K _ _ _ _) from pe_bm PySem.F.plainAttrs_list PySem.F.slot_list_pop PySem.F.type_list_pop mt_popAt (pv 1)
          (pa_cons (pe_call G hr rfl g.m g.k g.b .nil pass0 (pa_cons (pv 2) (pa_cons (pe_callB (r:=rLenS K) call_lenS (by rfl) hlen PySem.boot_len (pa_cons (pv 1) pa_nil)) pa_nil))) pa_nil))))),?_⟩
    refine ⟨_,rfl,by decide +kernel,fun l0 hl0=>?_⟩
    rw [abc_str]
    obtain ⟨op,hop⟩:=hp.some
    have np:p≠l0:=ne_of_none hop hl0
    refine ⟨_,rfl,_,rfl,by omega,by omega,comp_all sure_range (by rw [rngV_length];omega)
      (fun i ys τ H2=>∃ taken rem,ys=taken.map sign∧taken.length=i∧(taken++rem).Perm abc∧H2 l0=some (.lst (rem.map sign))∧But p H H2∧PenAt H2 p (b+i)∧∃ v,τ=[v,some (.ref l0),some (.ref p)])
      ⟨[],abc,rfl,rfl,List.Perm.refl _,upd_same,But.same (Same.add hl0),hp.other (upd_ne np),_,rfl⟩ ?_ ?_ ?_⟩
    · rintro i ys τ H2 hi ⟨taken,rem,rfl,e,_⟩
      exact ⟨trivial,by rw [List.length_map];omega⟩
    · rintro i x ys τ H2 hx ⟨taken,rem,rfl,et,hP,hR,hBt,hPn,v,rfl⟩
      have hi:i < n:=by
        have:=(List.getElem?_eq_some_iff.mp hx).1
        rw [rngV_length] at this
        simpa using this
      have hlen26:rem.length=26 - i:=by
        have:=hP.length_eq
        rw [List.length_append,et] at this
        have e26:abc.length=26:=rfl
        omega
      have el:((rem.map sign).length:Int)=(rem.length:Int):=by rw [List.length_map]
      refine ⟨_,rfl,.inl ⟨rfl,_,SqL.of hR⟩,_,rfl,_,rfl,l0,_,rfl,.inl (SqL.of hR),p,b+i,_,rfl,hPn,by omega,by rw [el];omega,by rw [el];omega,fun z H3 z0 z1 hP3 e3=>?_⟩
      rw [el] at z1
      obtain ⟨j,rfl⟩:∃ j:Nat,z=(j:Int):=⟨z.toNat,by omega⟩
      have hj:j < rem.length:=by omega
      have hat:(rem.map sign)[j]? = some (sign rem[j]):=by rw [List.getElem?_map,List.getElem?_eq_getElem hj];rfl
      obtain ⟨j',s1,s2,_⟩:=atI_get (atI_nat hat)
      have ejj:j'=j:=by
        obtain ⟨q1,_⟩:=ixN_seq (n:=(rem.map sign).length) (i:=(j:Int)) (j:=j) (by
          unfold ixN
          rw [if_pos (by omega),if_pos (by rw [el];omega)]
          simp)
        rw [q1] at s1
        exact (Option.some.inj s1).symm
      subst ejj
      refine ⟨l0,_,_,j',_,rfl,rfl,(e3 l0 np.symm).trans hR,by omega,by omega,s1,s2,?_⟩
      refine ⟨taken++[rem[j']],rem.eraseIdx j',by rw [List.map_append];rfl,by rw [List.length_append,et];rfl,?_,?_,?_,?_,_,rfl⟩
      · refine List.Perm.trans ?_ hP
        rw [List.append_assoc]
        exact List.Perm.append_left taken (perm_erase (List.getElem?_eq_getElem hj)).symm
      · rw [upd_same,map_erase]
      · intro c o hc hne
        have nl:c≠l0:=ne_of_none hc hl0
        rw [upd_ne nl,e3 c hne]
        exact hBt c o hc hne
      · exact hP3.other (upd_ne np)
    · rintro ys τ H2 D ⟨taken,rem,rfl,et,hP,hR,hBt,hPn,v,rfl⟩ hD
      have e:(rngV 0 (Int.toNat (n:Int))).length=n:=by rw [rngV_length];simp
      rw [e] at et hPn
      have nd:(taken++rem).Nodup:=hP.nodup_iff.mpr abc_nd
      obtain ⟨oD,hoD⟩:=hPn.some
      have nDp:D≠p:=(ne_of_none hoD hD).symm
      refine q D taken _ (hBt.trans (But.same (Same.add hD))) (hPn.other (upd_ne nDp.symm)) (hBt.free nDp hD) upd_same et (List.nodup_append.mp nd).1 fun c hc=>abc_in c (hP.mem_iff.mp (List.mem_append_left _ hc))
end
end Lw
namespace Lw
open PySem L2 PyProof.Rows
theorem szl {n:Nat} (h:n≤1000):n≤sizeLine:=Nat.le_trans h (by decide)
structure Bk (first:List Nat) (rs:List Rule):Prop where
  few:rs.length≤8
  nd:(ltr rs).Nodup
  wl:∀ q∈rs,q.2.length≤6
  fl:first.length≤12
  win:∀ q∈rs,∀ c∈q.2,c∈ltr rs
  fin:∀ c∈first,c∈ltr rs
theorem in_signs (c:Nat):∀ L:List Nat,inV (sign c) (L.map sign)=decide (c∈L)
  | []=>rfl
  | a :: L=>by
    have ih:=in_signs c L
    unfold inV at ih ⊢
    rw [List.map_cons,List.any_cons,ih]
    have e:eqV (sign a) (sign c)=decide (a=c):=by
      show ((⟨#[a]⟩:Str) == ⟨#[c]⟩)=_
      by_cases h:a=c
      · subst h
        rw [decide_eq_true rfl]
        exact beq_self_eq_true _
      · rw [decide_eq_false h]
        refine beq_eq_false_iff_ne.mpr fun z=>h ?_
        exact one_inj z
    rw [e]
    by_cases h1:a=c
    · subst h1
      simp
    · have h3:¬ c=a:=fun z=>h1 z.symm
      simp [h1,h3]
inductive Th where
  | txt (x:List Nat)
  | odd
def NoStr (K:PySem.W.Frag) (H:Hp) (z:V):Prop:=∃ t,TyOf K H z (.type t)∧(t = "bool"∨t = "NoneType"∨t = "int"∨t = "list"∨t = "tuple"∨t = "dict")
def ThAt (K:PySem.W.Frag) (H:Hp) (z:V):Th→Prop
  | .txt x=>z=tx x∧x.length≤1000
  | .odd=>NoStr K H z
def itB:Th→List Nat→Nat→Bool
  | .txt x,cs,m=>decide (x.length≤m) && x.all fun c=>decide (c∈cs)
  | .odd,_,_=>false
theorem tyK {K:PySem.W.Frag} {H H':Hp} {z:V} {t:String} (h:TyOf K H z (.type t)) (s:Same H H'):TyOf K H' z (.type t):=by
  cases h with
  | non=>exact .non
  | bl x=>exact .bl x
  | int i=>exact .int i
  | str x=>exact .str x
  | flt x=>exact .flt x
  | lst e=>exact .lst (s _ _ e)
  | frz e=>exact .frz (s _ _ e)
  | tup e=>exact .tup (s _ _ e)
  | dK e=>exact .dK (s _ _ e)
  | dT e=>exact .dT (s _ _ e)
theorem ThAt.keep {K:PySem.W.Frag} {H H':Hp} {z:V} {th:Th} (h:ThAt K H z th) (s:Same H H'):ThAt K H' z th:=by
  cases th with
  | txt x=>exact h
  | odd=>obtain ⟨t,h,ht⟩:=h;exact ⟨t,tyK h s,ht⟩
def SgsAt (H:Hp) (l:V) (cs:List Nat):Prop:=(∃ a,l=.ref a∧H a=some (.lst (cs.map sign)))∨∃ d kvs,l=.ref d∧H d=some (.dK kvs)∧∀ c,(valV kvs (Sum.inr (one c):Key)).isSome=decide (c∈cs)
theorem it_ok {x cs:List Nat} {m:Nat} (h1:x.length≤m) (h2:∀ c∈x,c∈cs):itB (.txt x) cs m=true:=by
  show (decide (x.length≤m) && x.all fun c=>decide (c∈cs))=true
  rw [decide_eq_true h1,Bool.true_and]
  exact List.all_eq_true.mpr fun c hc=>decide_eq_true (h2 c hc)
abbrev kvw (rs:List Rule):List (Key × V):=rs.map fun q=>((Sum.inr (one q.1):Key),tx q.2)
theorem kvw_pairs {H:Hp}:∀ {ps:List Addr} {rs:List Rule},RulesAt H ps rs→PairsAt H ps (kvw rs)
  | _,_,.nil=>.nil
  | _,_,.cons h r=>.cons h (kvw_pairs r)
theorem kvw_keys (rs:List Rule):(kvw rs).map (·.1)=(ltr rs).map fun c=>(Sum.inr (one c):Key):=by
  unfold kvw ltr
  rw [List.map_map,List.map_map]
  rfl
theorem kvw_val:∀ {rs:List Rule} {q:Rule},(ltr rs).Nodup→q∈rs→valV (kvw rs) (Sum.inr (one q.1):Key)=some (tx q.2)
  | [],_,_,h=>by simp at h
  | p :: rs,q,nd,h=>by
    have nd':=List.nodup_cons.mp (show (p.1 :: ltr rs).Nodup from nd)
    unfold valV
    show Option.map _ (List.find? _ (((Sum.inr (one p.1):Key),tx p.2) :: kvw rs))=_
    rcases List.mem_cons.mp h with z | z
    · subst z
      rw [List.find?_cons_of_pos]
      · rfl
      · exact decide_eq_true rfl
    · rw [List.find?_cons_of_neg]
      · exact kvw_val nd'.2 z
      · intro y
        have y':(Sum.inr (one p.1):Key)=Sum.inr (one q.1):=of_decide_eq_true y
        exact nd'.1 (by rw [one_inj (Sum.inr.inj y')];exact List.mem_map_of_mem z)
theorem strs_tx (ws:List (List Nat)):ws.map tx=(ws.map fun w=>(⟨w.toArray⟩:Str)).map V.str:=by rw [List.map_map];rfl
theorem sum_tx (ws:List (List Nat)):((ws.map fun w=>(⟨w.toArray⟩:Str)).map (·.length)).sum=ws.flatten.length:=by
  rw [List.map_map,List.length_flatten]
  rfl
theorem join_tx (ws:List (List Nat)):Txt.join (Str.ofString "") (ws.map fun w=>(⟨w.toArray⟩:Str))=⟨ws.flatten.toArray⟩:=by
  show Txt.join ⟨#[]⟩ _=_
  rw [join_eq,List.map_map]
  congr 3
  exact (List.map_congr_left fun w _=>rfl).trans (List.map_id _)
theorem kvw_wd {rs:List Rule} {c:Nat} (nd:(ltr rs).Nodup) (h:c∈ltr rs):valV (kvw rs) (Sum.inr (one c):Key)=some (tx (wd rs c)):=by
  obtain ⟨q,h1,h2,h3⟩:=wd_mem h
  rw [h3,← h2]
  exact kvw_val nd h1
theorem kvw_none {rs:List Rule} {c:Nat} (h:c ∉ ltr rs):valV (kvw rs) (Sum.inr (one c):Key)=none:=by
  unfold valV
  rw [List.find?_eq_none.mpr fun p hp=>?_]
  · rfl
  · obtain ⟨q,hq,rfl⟩:=List.mem_map.mp hp
    intro z
    have z':(Sum.inr (one q.1):Key)=Sum.inr (one c):=of_decide_eq_true z
    exact h (List.mem_map.mpr ⟨q,hq,one_inj (Sum.inr.inj z')⟩)
theorem kvw_some {rs:List Rule} (nd:(ltr rs).Nodup) (c:Nat):(valV (kvw rs) (Sum.inr (one c):Key)).isSome=decide (c∈ltr rs):=by
  by_cases h:c∈ltr rs
  · rw [kvw_wd nd h,decide_eq_true h]
    rfl
  · rw [kvw_none h,decide_eq_false h]
    rfl
theorem wd_le6 {first:List Nat} {rs:List Rule} (hG:Bk first rs) {c:Nat} (h:c∈ltr rs):(wd rs c).length≤6:=by
  obtain ⟨q,h1,h2,h3⟩:=wd_mem h
  rw [h3]
  exact hG.wl q h1
theorem nxt_le6 {first:List Nat} {rs:List Rule} (hG:Bk first rs):∀ {x:List Nat},(∀ c∈x,c∈ltr rs)→(nxt rs x).length≤6 * x.length
  | [],_=>Nat.le_refl _
  | c :: x,h=>by
    have ih:=nxt_le6 hG (x:=x) fun d hd=>h d (List.mem_cons_of_mem _ hd)
    have h1:=wd_le6 hG (h c List.mem_cons_self)
    show (wd rs c++nxt rs x).length≤_
    rw [List.length_append,List.length_cons]
    omega
theorem nxt_join {K:PySem.W.Frag} {ix:List (Option Nat)} {σ:L2.St} {H:Hp} {Q:VK} {tl:TE} {d:Addr} {first:List Nat} {rs:List Rule} {x:List Nat} (hG:Bk first rs) (e:cst ix σ=[none,some (.ref d)]) (hd:H d=some (.dK (kvw rs))) (hx:∀ c∈x,c∈ltr rs) (hxl:x.length≤1000) (ht:∀ R:VK,R (tx x) H→tl σ H R)
    (k:∀ H',Same H H'→Q (tx (nxt rs x)) H') :
    tBM K "str" (rJoin K) (tC (.str (Str.ofString ""))) (tCons (tComp ix (iStr tl) (gName 0) tAll (tDGet (tVar 1) (tVar 0))) tNil) σ H Q:=by
  refine ⟨rfl,ht _ ⟨⟨x.toArray⟩,rfl,?_⟩⟩
  rw [e]
  refine comp_all (Q:=fun y Ha=>rJoin K (.str (Str.ofString "")) [y] Ha Q) (τ0:=[none,some (.ref d)]) sure_str (by rw [List.length_map];show x.length≤_;omega)
    (fun n us τ H6=>H6=H∧(∃ v,τ=[v,some (.ref d)])∧us=((x.take n).map (wd rs)).map tx) ⟨rfl,⟨_,rfl⟩,rfl⟩ ?_ ?_ ?_
  · rintro n us τ H6 hn ⟨rfl,_,rfl⟩
    refine ⟨trivial,?_⟩
    rw [List.length_map,List.length_map,List.length_take]
    omega
  · rintro n y us τ H6 hy ⟨rfl,⟨v,rfl⟩,rfl⟩
    have hy':(x.map sign)[n]? = some y:=hy
    rw [List.getElem?_map] at hy'
    cases e6:x[n]? with
    | none=>rw [e6] at hy';cases hy'
    | some c =>
      rw [e6] at hy'
      cases hy'
      have hg:=DGet.k (k:=(Sum.inr (one c):Key)) hd
      rw [kvw_wd hG.nd (hx c (List.mem_of_getElem? e6))] at hg
      refine ⟨_,rfl,_,rfl,d,_,rfl,hg,rfl,⟨_,rfl⟩,?_⟩
      rw [take_snoc (wd rs) e6,List.map_append]
      rfl
  · rintro us τ H6 D ⟨rfl,_,rfl⟩ hD
    have ew:((⟨x.toArray⟩:Str).cps.toList.map sign).length=x.length:=by simp
    rw [ew,take_all]
    have lf:=nxt_le6 hG hx
    unfold nxt at lf
    refine ⟨_,D,(x.map (wd rs)).map fun w=>(⟨w.toArray⟩:Str),rfl,rfl,SqL.of (by rw [upd_same,strs_tx]),?_,?_⟩
    · rw [sum_tx,List.length_map,List.length_map]
      show _+_ * 0≤_
      omega
    · have e2:=join_tx (x.map (wd rs))
      have k2:=k _ (Same.add (o:=.lst (((x.map (wd rs)).map tx))) hD)
      unfold nxt at k2
      rw [e2]
      exact k2
section
variable {P:Program} {w:World} {K:PySem.W.Frag} {mg:Str→Option Value} {base:Heap}
def spItx (K:PySem.W.Frag):Sp:=fun vs H Q _=>∃ (z:V) (th:Th) (cs:List Nat) (l:V) (m:Nat),vs=[z,l,.int (m:Int)]∧ThAt K H z th∧SgsAt H l cs∧m≤600∧∀ H',Same H H'→Q (.bl (itB th cs m)) H'
theorem scItx:FnScope ["thing","signs","most"] ["thing","signs","most"] (defScope sItx):=⟨rfl,rfl,rfl,by decide +kernel,rfl,by decide +kernel,by decide +kernel⟩
theorem nd_itx1:(["sign","signs"]:List Str).Nodup:=by decide +kernel
theorem ok_itx {f:Addr} {fd:FuncData} (F:Fun K "is_text_of" "is_text_of" sItx f fd)
    (hlen:mg "len" = none)
    (hisinstance:mg "isinstance" = none)
    (hstr:mg "str" = none)
    (hall:mg "all" = none)
    : FnOk P w K mg base CX0 1 f fd ["thing","signs","most"] (spItx K):=by
  refine F.ok scItx (fun vs H Q E h=>?_) (fun cdv A outer s H vs Q E hr h=>?_)
  · obtain ⟨z,th,cs,l,m,rfl,_⟩:=h
    rfl
  · obtain ⟨z,th,cs,l,m,rfl,hz,hl,hm2,k⟩:=h
    have hu:=hu_of hr
    refine ⟨_,(pss_one (ps_ret (pe_and (pe_callB (call_isinstK K) (by rfl) hisinstance (show bootBuiltins "isinstance" = some (.builtin "isinstance") by decide +kernel) (pa_cons (pv 0) (pa_cons (pe_bltn (v:=.ty "str") (by rfl) hstr (show bootBuiltins "str" = some (.type "str") by decide +kernel) rfl) pa_nil))) (pe_and (pe_cmpR op_le (pe_callB call_len_str (by rfl) hlen PySem.boot_len (pa_cons (pv 0) pa_nil)) (pv 2) (nomark _)) (pe_one (pe_callB (call_all_boolsK K rfl) (by rfl) hall (show bootBuiltins "all" = some (.builtin "all") by decide +kernel) (pa_cons (pe_comp (N':=["sign","signs"]) (ix:=[none,some 1]) rfl rfl (pi_str (pv 0)) (fun _ _ _ _ _ _=>(pg_name (i:=0) nd_itx1 rfl (Or.inl rfl))) (fun _ _ _ _ _ _=>pts_nil) (fun _ _ _ _ _ _=>(pe_cmpR (op_inW K hu) (pv 0) (pv 1) (by rfl)))) pa_nil))))))),?_⟩
    cases th with
    | odd =>
      obtain ⟨t,ty,ht⟩:=hz
      have k:=k H (Same.refl _)
      rcases ht with rfl | rfl | rfl | rfl | rfl | rfl <;> exact ⟨_,rfl,_,_,_,false,rfl,ty,(by rfl),_,rfl,iteF k⟩
    | txt x =>
    obtain ⟨rfl,hx⟩:=hz
    have ee:itB (.txt x) cs m=(decide (x.length≤m) && x.all fun c=>decide (c∈cs)):=rfl
    rw [ee] at k
    refine ⟨_,rfl,_,_,_,true,rfl,TyOf.str _,(by rfl),_,rfl,iteT ?_⟩
    refine ⟨_,rfl,⟨x.toArray⟩,rfl,Nat.le_of_lt (small1000 (by show x.length≤1000;omega)),_,rfl,_,_,rfl,rfl,_,rfl,?_⟩
    refine ite2 (fun hc=>?_) (fun hc=>?_)
    · have hm:x.length≤m:=by
        have h7:((x.length:Nat):Int)≤(m:Int):=of_decide_eq_true hc
        omega
      rw [decide_eq_true hm,Bool.true_and] at k
      refine ⟨_,rfl,⟨x.toArray⟩,rfl,?_⟩
      refine comp_allR (τ0:=[none,some l]) (sure_str (x:=⟨x.toArray⟩)) (by rw [List.length_map];show x.length≤_;omega)
        (fun i ys τ H2=>H2=H∧(∃ v,τ=[v,some l])∧ys=((x.take i).map fun c=>decide (c∈cs)).map V.bl) ⟨rfl,⟨_,rfl⟩,rfl⟩ ?_ ?_ ?_
      · rintro i ys τ H2 hi ⟨rfl,_,rfl⟩
        refine ⟨trivial,?_⟩
        rw [List.length_map,List.length_map,List.length_take]
        omega
      · rintro i y ys τ H2 hy ⟨rfl,⟨v,rfl⟩,rfl⟩
        have hy':(x.map sign)[i]? = some y:=hy
        rw [List.getElem?_map] at hy'
        cases e:x[i]? with
        | none=>rw [e] at hy';cases hy'
        | some c =>
          rw [e] at hy'
          cases hy'
          have fin:((x.take i).map fun c=>decide (c∈cs)).map V.bl++[V.bl (decide (c∈cs))]=((x.take (i+1)).map fun c=>decide (c∈cs)).map V.bl:=by
            rw [take_snoc (fun c=>decide (c∈cs)) e,List.map_append]
            rfl
          rcases hl with ⟨l,rfl,hl⟩ | ⟨d,kvs,rfl,hd,hv⟩
          · refine ⟨_,rfl,_,rfl,.inl ⟨l,_,rfl,.inl (SqL.of hl),rfl,by rw [List.all_map];exact List.all_eq_true.mpr fun _ _=>rfl,rfl,⟨_,rfl⟩,?_⟩⟩
            show _++[V.bl (inV (sign c) (cs.map sign))]=_
            rw [in_signs]
            exact fin
          · refine ⟨_,rfl,_,rfl,.inr ⟨d,_,rfl,DGet.k (k:=(Sum.inr (one c):Key)) hd,rfl,⟨_,rfl⟩,?_⟩⟩
            rw [hv]
            exact fin
      · rintro ys τ H2 D ⟨rfl,_,rfl⟩ hD
        have ew:((⟨x.toArray⟩:Str).cps.toList.map sign).length=x.length:=by simp
        rw [ew,take_all]
        refine ⟨D,_,rfl,SqL.of upd_same,?_⟩
        have k2:=k _ (Same.add (o:=.lst ((x.map fun c=>decide (c∈cs)).map V.bl)) hD)
        have e2:(x.map fun c=>decide (c∈cs)).all id=x.all fun c=>decide (c∈cs):=by rw [List.all_map];rfl
        rw [e2]
        exact k2
    · have h6:¬ x.length≤m:=fun z=>hc (decide_eq_true (show ((x.length:Nat):Int)≤(m:Int) by omega))
      have k2:=k H (Same.refl _)
      rw [decide_eq_false h6,Bool.false_and] at k2
      exact k2
def spRep:Sp:=fun vs H Q _=>∃ (x:List Nat) (d:Addr) (first:List Nat) (rs:List Rule),vs=[tx x,.ref d]∧Bk first rs∧H d=some (.dK (kvw rs))∧x.length≤1000∧(∀ c∈x,c∈ltr rs)∧∀ H',Same H H'→Q (tx (nxt rs x)) H'
theorem scRep:FnScope ["text","words"] ["text","words"] (defScope sRep):=⟨rfl,rfl,rfl,by decide +kernel,rfl,by decide +kernel,by decide +kernel⟩
theorem nd_rep1:(["letter","words"]:List Str).Nodup:=by decide +kernel
theorem ok_rep {f:Addr} {fd:FuncData} (F:Fun K "replaced" "replaced" sRep f fd)
    : FnOk P w K mg base CX0 1 f fd ["text","words"] spRep:=by
  refine F.ok scRep (fun vs H Q E h=>?_) (fun cdv A outer s H vs Q E hr h=>?_)
  · obtain ⟨x,d,first,rs,rfl,_⟩:=h
    rfl
  · obtain ⟨x,d,first,rs,rfl,hG,hd,hx,hin,k⟩:=h
    have hu:=hu_of hr
    refine ⟨_,(pss_one (ps_ret (pe_bmK K PySem.F.plainAttrs_str PySem.F.slot_str_join PySem.F.type_str_join (mt_joinK K) pe_str (pa_cons (pe_comp (N':=["letter","words"]) (ix:=[none,some 1]) rfl rfl (pi_str (pv 0)) (fun _ _ _ _ _ _=>(pg_name (i:=0) nd_rep1 rfl (Or.inl rfl))) (fun _ _ _ _ _ _=>pts_nil) (fun _ _ _ _ _ _=>(pe_dget hu (pv 1) (pv 0) (fun _ _=>rfl)))) pa_nil)))),?_⟩
    exact nxt_join hG rfl hd hin hx (fun R h=>⟨_,rfl,h⟩) k
def spTrn:Sp:=fun vs H Q _=>∃ (t:Addr) (first:List Nat) (rs:List Rule) (x:List Nat),vs=[.ref t,tx x]∧BookAt H t first rs∧Bk first rs∧x.length≤600∧(∀ c∈x,c∈ltr rs)∧∀ H',Same H H'→Q (tx (nxt rs x)) H'
theorem scTrn:FnScope ["book","text","words"] ["book","text"] (defScope sTrn):=⟨rfl,rfl,rfl,by decide +kernel,rfl,by decide +kernel,by decide +kernel⟩
theorem ok_trn {f fRep fItx:Addr} {fd fdRep fdItx:FuncData} (F:Fun K "turned" "turned" sTrn f fd)
    (GRep:FnOk P w K mg base CX0 1 fRep fdRep ["text","words"] spRep)
    (gRep:Gf K mg "replaced" fRep fdRep ["text","words"])
    (GItx:FnOk P w K mg base CX0 1 fItx fdItx ["thing","signs","most"] (spItx K))
    (gItx:Gf K mg "is_text_of" fItx fdItx ["thing","signs","most"])
    (hdict:mg "dict" = none)
    {tkLONGEST_ROW:Tok} (hLONGEST_ROW:mg "LONGEST_ROW" = some (.int 600 tkLONGEST_ROW))
    : FnOk P w K mg base CX0 2 f fd ["book","text"] spTrn:=by
  refine F.ok scTrn (fun vs H Q E h=>?_) (fun cdv A outer s H vs Q E hr h=>?_)
  · obtain ⟨t,first,rs,x,rfl,_⟩:=h
    rfl
  · obtain ⟨t,first,rs,x,rfl,hB,hG,hx,hin,k⟩:=h
    refine ⟨_,(pss_cons (ps_set (i:=2) scTrn.nd rfl (Or.inl rfl) (pe_callTy (call_dict_tup rfl) (by rfl) hdict (by first | exact PySem.boot_dict | decide +kernel) (pa_cons (pe_ix (ix_tupK K) (pv 0) pe_int (fun _ _=>rfl)) pa_nil)))
      (pss_cons (ps_if (pt_not (pt_val (pe_call GItx hr rfl gItx.m gItx.k gItx.b .nil pass0 (pa_cons (pv 1) (pa_cons (pv 2) (pa_cons (pe_glob (v:=.int 600) (by rfl) hLONGEST_ROW ⟨_,rfl⟩) pa_nil)))))) pss_never pss_nil)
      (pss_one (ps_ret (pe_call GRep hr rfl gRep.m gRep.k gRep.b .nil pass0 (pa_cons (pv 1) (pa_cons (pv 2) pa_nil))))))),?_⟩
    have hfew:=hG.few
    obtain ⟨r,ps,b1,b2,b3⟩:=hB.ex
    refine ⟨_,rfl,t,_,_,_,rfl,rfl,SqT.of b1,atI_nat (j:=1) rfl,r,ps,kvw rs,rfl,b2,kvw_pairs b3,by rw [kvw_keys];exact keys_nd hG.nd,by rw [List.length_map];omega,fun dw ndw=>?_⟩
    have s1:=Same.add (o:=.dK (kvw rs)) ndw
    have hd:upd H dw (.dK (kvw rs)) dw=some (.dK (kvw rs)):=upd_same
    revert s1 hd
    generalize upd H dw (.dK (kvw rs))=H1
    intro s1 hd
    refine ⟨_,rfl,_,rfl,tx x,.txt x,ltr rs,.ref dw,600,rfl,⟨rfl,by omega⟩,.inr ⟨dw,_,rfl,hd,fun c=>kvw_some hG.nd c⟩,by omega,fun H2 s2=>⟨_,rfl,?_⟩⟩
    rw [it_ok hx hin]
    exact iteF ⟨_,rfl,_,rfl,x,dw,first,rs,rfl,hG,s2 _ _ hd,by omega,hin,fun H3 s3=>k H3 (s1.trans (s2.trans s3))⟩
end
end Lw
namespace Lw
open PySem L2 PyProof.Rows
def ipB:Th→List Nat→Bool
  | .txt x,cs=>itB (.txt x) cs 40 && decide (0 < x.length)
  | .odd,_=>false
inductive Pz where
  | lst (ths:List Th)
  | odd
def ThsAt (K:PySem.W.Frag) (H:Hp) (vs:List V) (ths:List Th):Prop:=vs.length=ths.length∧∀ (i:Nat) (v:V) (th:Th),vs[i]? = some v→ths[i]? = some th→ThAt K H v th
def NoLst (K:PySem.W.Frag) (H:Hp) (z:V):Prop:=∃ t,TyOf K H z (.type t)∧(t = "NoneType"∨t = "int"∨t = "str"∨t = "tuple"∨t = "dict")
def PzAt (K:PySem.W.Frag) (H:Hp) (z:V):Pz→Prop
  | .lst ths=>∃ l vs,z=.ref l∧H l=some (.lst vs)∧ThsAt K H vs ths∧ths.length≤100
  | .odd=>NoLst K H z
theorem ThsAt.keep {K:PySem.W.Frag} {H H':Hp} {vs:List V} {ths:List Th} (h:ThsAt K H vs ths) (s:Same H H'):ThsAt K H' vs ths:=⟨h.1,fun i v th a b=>(h.2 i v th a b).keep s⟩
theorem PzAt.keep {K:PySem.W.Frag} {H H':Hp} {z:V} {r:Pz} (h:PzAt K H z r) (s:Same H H'):PzAt K H' z r:=by
  cases r with
  | lst ths=>obtain ⟨l,vs,e,h1,h2,h3⟩:=h;exact ⟨l,vs,e,s _ _ h1,h2.keep s,h3⟩
  | odd=>obtain ⟨t,ty,ht⟩:=h;exact ⟨t,tyK ty s,ht⟩
def apB:Pz→List Nat→Bool
  | .lst ths,cs=>decide (ths.length≤30) && ths.all fun th=>ipB th cs
  | .odd,_=>false
def mrk (x:List Nat) (i:Nat) (r:List Bool) (p:List Nat):List Bool:=if subB x p i=true then r.set (i+p.length) true else r
def stepR (x:List Nat) (ps:List (List Nat)) (r:List Bool) (i:Nat):List Bool:=if r.getD i false=true then ps.foldl (mrk x i) r else r
def rch (x:List Nat) (ps:List (List Nat)) (n:Nat):List Bool:=(List.range n).foldl (stepR x ps) (true :: List.replicate x.length false)
def putB (x:List Nat) (ps:List (List Nat)):Bool:=(rch x ps x.length).getD x.length false
theorem mrk_no {x:List Nat} {i:Nat} {r:List Bool} {p:List Nat} (hs:¬ subB x p i=true):mrk x i r p=r:=by
  unfold mrk
  rw [if_neg hs]
theorem mrk_len (x:List Nat) (i:Nat) (r:List Bool) (p:List Nat):(mrk x i r p).length=r.length:=by
  unfold mrk
  split
  · exact List.length_set
  · rfl
theorem fold_len (x:List Nat) (i:Nat):∀ (ps:List (List Nat)) (r:List Bool),(ps.foldl (mrk x i) r).length=r.length
  | [],_=>rfl
  | p :: ps,r=>by rw [List.foldl_cons,fold_len x i ps,mrk_len]
theorem rch_succ (x:List Nat) (ps:List (List Nat)) (n:Nat):rch x ps (n+1)=stepR x ps (rch x ps n) n:=by
  unfold rch
  rw [List.range_succ,List.foldl_append]
  rfl
theorem rch_len (x:List Nat) (ps:List (List Nat)):∀ n,(rch x ps n).length=x.length+1
  | 0=>by show (true :: List.replicate x.length false).length=_;rw [List.length_cons,List.length_replicate]
  | n+1=>by
    rw [rch_succ]
    unfold stepR
    split
    · rw [fold_len,rch_len x ps n]
    · exact rch_len x ps n
theorem fold_snoc {α β:Type} (f:β→α→β) (b:β) {xs:List α} {i:Nat} {a:α} (h:xs[i]? = some a):(xs.take (i+1)).foldl f b=f ((xs.take i).foldl f b) a:=by
  have e:xs.take (i+1)=xs.take i++[a]:=by rw [List.take_add_one,h];rfl
  rw [e,List.foldl_append]
  rfl
theorem rng_get {n i:Nat} {y:V} (h:(rngV 0 n)[i]? = some y):i < n∧y=.int (i:Int):=by
  have hi:=(List.getElem?_eq_some_iff.mp h).1
  rw [rngV_length] at hi
  refine ⟨hi,?_⟩
  unfold rngV at h
  rw [List.getElem?_map,List.getElem?_range hi] at h
  have:=Option.some.inj h
  rw [← this]
  show V.int (0+(i:Int))=_
  rw [Int.zero_add]
theorem ixN_at {n j:Nat} (h:j < n):ixN n (j:Int)=some j:=by
  unfold ixN
  rw [if_pos (by omega),if_pos (by omega),Int.toNat_natCast]
theorem sub_fits {x p:List Nat} {i:Nat} (h:subB x p i=true) (hi:i≤x.length):i+p.length≤x.length:=by
  have e:(x.drop i).take p.length=p:=eq_of_beq h
  have:=congrArg List.length e
  rw [List.length_take,List.length_drop] at this
  omega
theorem same_upd {H H4:Hp} {m:Addr} {o:HO} (s:Same H H4) (n:H m=none):Same H (upd H4 m o):=fun c u e=>by
  rw [upd_ne (ne_of_none e n)]
  exact s c u e
end Lw
namespace Lw
open PySem L2 PyProof.Rows
theorem dec_tx (a b:List Nat):decide (tx a=tx b)=(a == b):=by
  by_cases h:a=b
  · subst h
    rw [decide_eq_true rfl,beq_self_eq_true]
  · rw [beq_eq_false_iff_ne.mpr h]
    refine decide_eq_false fun z=>h ?_
    have e:(⟨a.toArray⟩:Str)=⟨b.toArray⟩:=V.str.inj z
    simpa using congrArg (fun s:Str=>s.cps.toList) e
def goB (rs1 rs2:List Rule) (ps:List (List Nat)) (x:List Nat):Bool:=(nxt rs1 x == nxt rs2 x) && putB (nxt rs1 x) ps
def shr (rs1 rs2:List Rule):List Nat:=(ltr rs1).filter fun c=>decide (c∈ltr rs2)
def thX:Th→List Nat
  | .txt x=>x
  | .odd=>[]
def shB (f1:List Nat) (rs1:List Rule) (f2:List Nat) (rs2:List Rule):Pz→Bool
  | .odd=>false
  | .lst ths=>apB (.lst ths) (shr rs1 rs2) && (f1 == f2) && putB f1 (ths.map thX) && (ths.map thX).all (goB rs1 rs2 (ths.map thX))
theorem shr_in {rs1 rs2:List Rule} {c:Nat} (h:c∈shr rs1 rs2):c∈ltr rs1∧c∈ltr rs2:=⟨(List.mem_filter.mp h).1,of_decide_eq_true (List.mem_filter.mp h).2⟩
end Lw
namespace Lw
open PySem L2 PyProof.Rows
def swB (f1:List Nat) (rs1:List Rule) (f2:List Nat) (rs2:List Rule) (ps:List (List Nat)):Bool:=shB f1 rs1 f2 rs2 (.lst (ps.map Th.txt))
theorem sw_eq (f1:List Nat) (rs1:List Rule) (f2:List Nat) (rs2:List Rule) (ps:List (List Nat)):swB f1 rs1 f2 rs2 ps=(decide (ps.length≤30) && (ps.all fun p=>ipB (.txt p) (shr rs1 rs2)) && (f1 == f2) && putB f1 ps && ps.all (goB rs1 rs2 ps)):=by
  show ((decide ((ps.map Th.txt).length≤30) && (ps.map Th.txt).all fun th=>ipB th (shr rs1 rs2)) && (f1 == f2) && putB f1 ((ps.map Th.txt).map thX) && ((ps.map Th.txt).map thX).all (goB rs1 rs2 ((ps.map Th.txt).map thX)))=_
  have e:(ps.map Th.txt).map thX=ps:=by rw [List.map_map];exact (List.map_congr_left fun _ _=>rfl).trans (List.map_id _)
  rw [e,List.length_map,List.all_map]
  rfl
theorem sw_long {f1 f2:List Nat} {rs1 rs2:List Rule} {ps:List (List Nat)} (h:¬ ps.length≤30):swB f1 rs1 f2 rs2 ps=false:=by
  rw [sw_eq,decide_eq_false h]
  rfl
theorem sw_pc {f1 f2:List Nat} {rs1 rs2:List Rule} {ps:List (List Nat)} {p:List Nat} (hm:p∈ps) (h:ipB (.txt p) (shr rs1 rs2)=false):swB f1 rs1 f2 rs2 ps=false:=by
  rw [sw_eq]
  have:(ps.all fun p=>ipB (.txt p) (shr rs1 rs2))=false:=List.all_eq_false.mpr ⟨p,hm,by rw [h];decide⟩
  rw [this,Bool.and_false]
  rfl
theorem ip_no {p:List Nat} {cs:List Nat} (h:p=[]∨40 < p.length∨∃ c∈p,c ∉ cs):ipB (.txt p) cs=false:=by
  show ((decide (p.length≤40) && p.all fun c=>decide (c∈cs)) && decide (0 < p.length))=false
  rcases h with rfl | h | ⟨c,hc,h⟩
  · exact Bool.and_false _
  · rw [decide_eq_false (by omega)]
    rfl
  · have:(p.all fun c=>decide (c∈cs))=false:=List.all_eq_false.mpr ⟨c,hc,by rw [decide_eq_false h];decide⟩
    rw [this,Bool.and_false]
    rfl
theorem ip_yes {p:List Nat} {cs:List Nat} (h1:p≠[]) (h2:p.length≤40) (h3:∀ c∈p,c∈cs):ipB (.txt p) cs=true:=by
  show ((decide (p.length≤40) && p.all fun c=>decide (c∈cs)) && decide (0 < p.length))=true
  rw [decide_eq_true h2,decide_eq_true (List.length_pos_iff.mpr h1),List.all_eq_true.mpr fun c hc=>decide_eq_true (h3 c hc)]
  rfl
theorem in_shr {rs1 rs2:List Rule} {c:Nat} (h1:c∈ltr rs1) (h2:c∈ltr rs2):c∈shr rs1 rs2:=List.mem_filter.mpr ⟨h1,decide_eq_true h2⟩
section
variable {P:Program} {w:World} {K:PySem.W.Frag} {mg:Str→Option Value} {base:Heap}
def spMde:Sp:=fun vs H Q _=>∃ (x:List Nat) (l:Addr) (ps:List (List Nat)),vs=[.ref l,tx x]∧H l=some (.lst (ps.map tx))∧x.length≤300∧ps.length≤40∧(∀ p∈ps,p.length≤1000)∧∀ H',Same H H'→Q (.bl (putB x ps)) H'
theorem scMde:FnScope ["_law_pieces","_law_signs_here","_law_reach","_law_at","_law_piece"] ["_law_pieces","_law_signs_here"] (defScope sMde):=⟨rfl,rfl,rfl,by decide +kernel,rfl,by decide +kernel,by decide +kernel⟩
theorem nd_mde1:(["_law_sign"]:List Str).Nodup:=by decide +kernel
theorem ok_mde {f:Addr} {fd:FuncData} (F:Fun K "_law_made" "_law_made" sMde f fd)
    (hlen:mg "len" = none)
    (hrange:mg "range" = none)
    : FnOk P w K mg base CX0 1 f fd ["_law_pieces","_law_signs_here"] spMde:=by
  refine F.ok scMde (fun vs H Q E h=>?_) (fun cdv A outer s H vs Q E hr h=>?_)
  · obtain ⟨x,l,ps,rfl,_⟩:=h
    rfl
  · obtain ⟨x,l,ps,rfl,hl,hx,hp,hpl,k⟩:=h
    refine ⟨_,(pss_cons (ps_set (i:=2) scMde.nd rfl (Or.inl rfl) (pe_op op_cat (pe_lst (pa_cons pe_bl pa_nil)) (pe_comp (N':=["_law_sign"]) (ix:=[none]) rfl rfl (pi_str (pv 1)) (fun _ _ _ _ _ _=>(pg_name (i:=0) nd_mde1 rfl (Or.inl rfl))) (fun _ _ _ _ _ _=>pts_nil) (fun _ _ _ _ _ _=>pe_bl))))
      (pss_cons (ps_for PassesOwn.never rfl (pi_range1 rfl hrange (pa_cons (pe_callB call_len_str (by rfl) hlen PySem.boot_len (pa_cons (pv 1) pa_nil)) pa_nil)) (pg_name (i:=3) scMde.nd rfl (Or.inl rfl)) (pss_one (ps_if (pt_val (pe_ix (ix_listK K) (pv 2) (pv 3) (fun _ _=>rfl))) (pss_one (ps_for PassesOwn.never rfl (pi_listK K (pv 0)) (pg_name (i:=4) scMde.nd rfl (Or.inl rfl)) (pss_one (ps_if (pt_cmpR op_eq (pe_slice sl_str (pv 1) (po_some (pv 3)) (po_some (pe_op op_add (pv 3) (pe_callB call_len_str (by rfl) hlen PySem.boot_len (pa_cons (pv 4) pa_nil))))) (pv 4) (nomark _)) (pss_one (ps_asg pe_bl (pg_sub (pv 2) (pe_op op_add (pv 3) (pe_callB call_len_str (by rfl) hlen PySem.boot_len (pa_cons (pv 4) pa_nil))) set_list))) pss_nil)))) pss_nil)))
      (pss_one (ps_ret (pe_ix (ix_listK K) (pv 2) (pe_callB call_len_str (by rfl) hlen PySem.boot_len (pa_cons (pv 1) pa_nil)) (fun _ _=>rfl)))))),?_⟩
    have ex:((⟨x.toArray⟩:Str).length:Nat)=x.length:=rfl
    have ew:((⟨x.toArray⟩:Str).cps.toList.map sign).length=x.length:=by simp
    refine ⟨szl (show 1≤1000 by decide),fun a1 n1=>⟨_,rfl,⟨x.toArray⟩,rfl,?_⟩⟩
    have s1:=Same.add (o:=.lst [V.bl true]) n1
    have h1:upd H a1 (.lst [V.bl true]) a1=some (.lst [V.bl true]):=upd_same
    revert s1 h1
    generalize upd H a1 (.lst [V.bl true])=H1
    intro s1 h1
    refine comp_allR (τ0:=[none]) (sure_str (x:=⟨x.toArray⟩)) (by rw [ew];omega) (fun i ys τ H2=>H2=H1∧(∃ v,τ=[v])∧ys=List.replicate i (V.bl false)) ⟨rfl,⟨_,rfl⟩,rfl⟩ ?_ ?_ ?_
    · rintro i ys τ H2 hi ⟨rfl,_,rfl⟩
      exact ⟨trivial,by rw [List.length_replicate];exact Nat.le_refl _⟩
    · rintro i y ys τ H2 hy ⟨rfl,⟨v,rfl⟩,rfl⟩
      exact ⟨rfl,⟨_,rfl⟩,by rw [List.replicate_succ']⟩
    rintro ys τ H2 a3 ⟨rfl,_,rfl⟩ n3
    rw [ew]
    have s3:=s1.trans (Same.add (o:=.lst (List.replicate x.length (V.bl false))) n3)
    have h13:upd H2 a3 (.lst (List.replicate x.length (V.bl false))) a1=some (.lst [V.bl true]):=Same.add n3 _ _ h1
    have h3:upd H2 a3 (.lst (List.replicate x.length (V.bl false))) a3=some (.lst (List.replicate x.length (V.bl false))):=upd_same
    revert s3 h13 h3
    generalize upd H2 a3 (.lst (List.replicate x.length (V.bl false)))=H3
    intro s3 h13 h3
    refine ⟨a1,a3,_,_,rfl,rfl,h13,h3,szl (by rw [List.length_replicate];show 1+_≤_;omega),fun m nm=>?_⟩
    have nm0:H m=none:=by
      cases z:H m with
      | none=>rfl
      | some o=>rw [s3 _ _ z] at nm;cases nm
    have e0:[V.bl true]++List.replicate x.length (V.bl false)=(rch x ps 0).map V.bl:=by
      show _=(true :: List.replicate x.length false).map V.bl
      rw [List.map_cons,List.map_replicate]
      rfl
    rw [e0]
    refine ⟨_,rfl,⟨x.toArray⟩,rfl,szl (show x.length≤1000 by omega),_,rfl,by omega,by rw [ex];omega,?_⟩
    rw [ex,Int.toNat_natCast]
    refine for_by (sure_range (lo:=0) (n:=x.length)) (fun i σ H4=>Same H H4∧H4 m=some (.lst ((rch x ps i).map V.bl))∧∃ v3 v4:Option V,σ=[some (.ref l),some (tx x),some (.ref m),v3,v4]) ⟨s3.trans (Same.add nm),upd_same,_,_,rfl⟩ (fun _ _ _ _ _=>trivial) ?_ ?_
    · rintro i y σ H4 hy ⟨s4,hm,v3,v4,rfl⟩
      obtain ⟨hi,rfl⟩:=rng_get hy
      have hlen:=rch_len x ps i
      have hb:((rch x ps i).map V.bl)[i]? = some (V.bl ((rch x ps i).getD i false)):=by
        rw [List.getElem?_map,List.getD_eq_getElem?_getD,List.getElem?_eq_getElem (by omega)]
        rfl
      refine ⟨_,rfl,_,rfl,m,_,_,_,rfl,rfl,SqL.of hm,atI_nat hb,_,rfl,ite2 (fun hc=>?_) (fun hc=>?_)⟩
      · have es:rch x ps (i+1)=ps.foldl (mrk x i) (rch x ps i):=by rw [rch_succ];unfold stepR;rw [if_pos hc]
        refine ⟨_,rfl,l,rfl,⟨_,SqL.of (s4 _ _ hl)⟩,?_⟩
        refine for_by (sure_list (xs:=ps.map tx)) (fun j σ H5=>Same H H5∧H5 m=some (.lst (((ps.take j).foldl (mrk x i) (rch x ps i)).map V.bl))∧∃ v4:Option V,σ=[some (.ref l),some (tx x),some (.ref m),some (.int (i:Int)),v4]) ⟨s4,hm,_,rfl⟩ (fun _ _ _ _ h=>SqL.of (h.1 _ _ hl)) ?_ ?_
        · rintro j y σ H5 hy ⟨s5,hm5,v5,rfl⟩
          rw [List.getElem?_map] at hy
          cases e:ps[j]? with
          | none=>rw [e] at hy;cases hy
          | some p =>
            rw [e] at hy
            cases hy
            have hpp:=hpl p (List.mem_of_getElem? e)
            have ef:=fold_snoc (mrk x i) (rch x ps i) e
            have hfl:=fold_len x i (ps.take j) (rch x ps i)
            have e9:((i:Int)+(((⟨p.toArray⟩:Str).length:Nat):Int))=((i+p.length:Nat):Int):=by show (i:Int)+((p.length:Nat):Int)=_;omega
            refine ⟨_,rfl,_,rfl,_,rfl,_,rfl,_,rfl,⟨p.toArray⟩,rfl,szl hpp,_,_,rfl,rfl,_,rfl,⟨x.toArray⟩,rfl,szl (show x.length≤1000 by omega),_,rfl,rfl,_,rfl,?_⟩
            have et:decide (V.str (Txt.slice ⟨x.toArray⟩ (some (i:Int)) (some ((i:Int)+(((⟨p.toArray⟩:Str).length:Nat):Int))))=V.str ⟨p.toArray⟩)=subB x p i:=by
              rw [e9,slice_mid x i (i+p.length) (by omega) (by omega)]
              have:i+p.length - i=p.length:=by omega
              rw [this]
              exact dec_tx _ _
            rw [et]
            refine ite2 (fun hs=>?_) (fun hs=>?_)
            · have hf:=sub_fits hs (by omega)
              refine ⟨_,rfl,_,rfl,_,rfl,⟨p.toArray⟩,rfl,szl hpp,_,_,rfl,rfl,m,_,_,i+p.length,rfl,rfl,hm5,?_,?_⟩
              · rw [e9]
                exact ixN_at (by rw [List.length_map];omega)
              · refine ⟨same_upd s5 nm0,?_,_,rfl⟩
                rw [upd_same,ef]
                show some (HO.lst _)=some (HO.lst ((mrk x i _ p).map V.bl))
                unfold mrk
                rw [if_pos hs,List.map_set]
            · refine ⟨s5,?_,_,rfl⟩
              rw [ef,hm5,mrk_no hs]
        · rintro σ H5 ⟨s5,hm5,v5,rfl⟩
          rw [List.length_map,take_all] at hm5
          exact ⟨s5,by rw [hm5,es],_,_,rfl⟩
      · have es:rch x ps (i+1)=rch x ps i:=by rw [rch_succ];unfold stepR;rw [if_neg hc]
        exact ⟨s4,by rw [hm,es],_,_,rfl⟩
    · rintro σ H4 ⟨s4,hm,v3,v4,rfl⟩
      rw [rngV_length] at hm
      have hlen:=rch_len x ps x.length
      refine ⟨_,rfl,_,rfl,⟨x.toArray⟩,rfl,szl (show x.length≤1000 by omega),m,_,_,V.bl (putB x ps),rfl,rfl,SqL.of hm,?_,k H4 s4⟩
      refine atI_nat ?_
      rw [ex]
      unfold putB
      rw [List.getElem?_map,List.getD_eq_getElem?_getD,List.getElem?_eq_getElem (by omega)]
      rfl
def spSwn (K:PySem.W.Frag):Sp:=fun vs H Q _=>∃ (t1 t2 l:Addr) (f1 f2:List Nat) (rs1 rs2:List Rule) (ps:List (List Nat)),vs=[.ref t1,.ref t2,.ref l]∧BookAt H t1 f1 rs1∧BookAt H t2 f2 rs2∧Bk f1 rs1∧Bk f2 rs2∧H l=some (.lst (ps.map tx))∧ps.length≤100∧(∀ p∈ps,p.length≤1000)∧∀ H',Same H H'→Q (.bl (swB f1 rs1 f2 rs2 ps)) H'
theorem scSwn:FnScope ["_law_one","_law_other","_law_pieces","_law_words","_law_others","_law_piece","_law_sign","_law_behind"] ["_law_one","_law_other","_law_pieces"] (defScope sSwn):=⟨rfl,rfl,rfl,by decide +kernel,rfl,by decide +kernel,by decide +kernel⟩
theorem nd_swn1:(["_law_sign","_law_words"]:List Str).Nodup:=by decide +kernel
theorem nd_swn2:(["_law_sign","_law_others"]:List Str).Nodup:=by decide +kernel
theorem ok_swn {f fMde:Addr} {fd fdMde:FuncData} (F:Fun K "_law_shown" "_law_shown" sSwn f fd)
    (GMde:FnOk P w K mg base CX0 1 fMde fdMde ["_law_pieces","_law_signs_here"] spMde)
    (gMde:Gf K mg "_law_made" fMde fdMde ["_law_pieces","_law_signs_here"])
    (hlen:mg "len" = none)
    (hlist:mg "list" = none)
    (hisinstance:mg "isinstance" = none)
    (hdict:mg "dict" = none)
    (hstr:mg "str" = none)
    : FnOk P w K mg base CX0 2 f fd ["_law_one","_law_other","_law_pieces"] (spSwn K):=by
  refine F.ok scSwn (fun vs H Q E h=>?_) (fun cdv A outer s H vs Q E hr h=>?_)
  · obtain ⟨t1,t2,l,f1,f2,rs1,rs2,ps,rfl,_⟩:=h
    rfl
  · obtain ⟨t1,t2,l,f1,f2,rs1,rs2,ps,rfl,hB1,hB2,g1,g2,hl,hp,hpl,k⟩:=h
    have hu:=hu_of hr
    refine ⟨_,(pss_cons (ps_set (i:=3) scSwn.nd rfl (Or.inr rfl) (pe_callTy (call_dict_tup rfl) (by rfl) hdict (by first | exact PySem.boot_dict | decide +kernel) (pa_cons (pe_ix (ix_tupK K) (pv 0) pe_int (fun _ _=>rfl)) pa_nil)))
      (pss_cons (ps_set (i:=4) scSwn.nd rfl (Or.inr rfl) (pe_callTy (call_dict_tup rfl) (by rfl) hdict (by first | exact PySem.boot_dict | decide +kernel) (pa_cons (pe_ix (ix_tupK K) (pv 1) pe_int (fun _ _=>rfl)) pa_nil)))
      (pss_cons (ps_if (PW.pt (pw_or (pt_not (pt_val (pe_callB (call_isinstK K) (by rfl) hisinstance (show bootBuiltins "isinstance" = some (.builtin "isinstance") by decide +kernel) (pa_cons (pv 2) (pa_cons (pe_bltn (v:=.ty "list") (by rfl) hlist (show bootBuiltins "list" = some (.type "list") by decide +kernel) rfl) pa_nil))))) (pw_or1 (pt_cmpR op_gt (pe_callB (call_lenK K) (by rfl) hlen PySem.boot_len (pa_cons (pv 2) pa_nil)) pe_int (nomark _))))) (pss_one (ps_ret pe_bl)) pss_nil)
      (pss_cons (ps_for PassesOwn.never rfl (pi_listK K (pv 2)) (pg_name (i:=5) scSwn.nd rfl (Or.inl rfl)) (pss_cons (ps_if (PW.pt (pw_or (pt_not (pt_val (pe_callB (call_isinstK K) (by rfl) hisinstance (show bootBuiltins "isinstance" = some (.builtin "isinstance") by decide +kernel) (pa_cons (pv 5) (pa_cons (pe_bltn (v:=.ty "str") (by rfl) hstr (show bootBuiltins "str" = some (.type "str") by decide +kernel) rfl) pa_nil))))) (pw_or (pt_cmpR op_eq (pv 5) pe_str (nomark _)) (pw_or1 (pt_cmpR op_gt (pe_callB call_len_str (by rfl) hlen PySem.boot_len (pa_cons (pv 5) pa_nil)) pe_int (nomark _)))))) (pss_one (ps_ret pe_bl)) pss_nil)
      (pss_one (ps_for PassesOwn.never rfl (pi_str (pv 5)) (pg_name (i:=6) scSwn.nd rfl (Or.inl rfl)) (pss_one (ps_if (PW.pt (pw_or (pt_cmp (pc_dnotin hu (pv 6) (pv 3))) (pw_or1 (pt_cmp (pc_dnotin hu (pv 6) (pv 4)))))) (pss_one (ps_ret pe_bl)) pss_nil))))))
      (pss_cons (ps_if (PW.pt (pw_or (pt_cmpR op_ne (pe_ix (ix_tupK K) (pv 0) pe_int (fun _ _=>rfl)) (pe_ix (ix_tupK K) (pv 1) pe_int (fun _ _=>rfl)) (nomark _)) (pw_or1 (pt_not (pt_val (pe_call GMde hr rfl gMde.m gMde.k gMde.b .nil pass0 (pa_cons (pv 2) (pa_cons (pe_ix (ix_tupK K) (pv 0) pe_int (fun _ _=>rfl)) pa_nil)))))))) (pss_one (ps_ret pe_bl)) pss_nil)
      (pss_cons (ps_for PassesOwn.never rfl (pi_listK K (pv 2)) (pg_name (i:=5) scSwn.nd rfl (Or.inl rfl)) (pss_cons (ps_set (i:=7) scSwn.nd rfl (Or.inl rfl) (pe_bmK K PySem.F.plainAttrs_str PySem.F.slot_str_join PySem.F.type_str_join (mt_joinK K) pe_str (pa_cons (pe_comp (N':=["_law_sign","_law_words"]) (ix:=[none,some 3]) rfl rfl (pi_str (pv 5)) (fun _ _ _ _ _ _=>(pg_name (i:=0) nd_swn1 rfl (Or.inl rfl))) (fun _ _ _ _ _ _=>pts_nil) (fun _ _ _ _ _ _=>(pe_dget hu (pv 1) (pv 0) (fun _ _=>rfl)))) pa_nil)))
      (pss_one (ps_if (PW.pt (pw_or (pt_cmpR op_ne (pv 7) (pe_bmK K PySem.F.plainAttrs_str PySem.F.slot_str_join PySem.F.type_str_join (mt_joinK K) pe_str (pa_cons (pe_comp (N':=["_law_sign","_law_others"]) (ix:=[none,some 4]) rfl rfl (pi_str (pv 5)) (fun _ _ _ _ _ _=>(pg_name (i:=0) nd_swn2 rfl (Or.inl rfl))) (fun _ _ _ _ _ _=>pts_nil) (fun _ _ _ _ _ _=>(pe_dget hu (pv 1) (pv 0) (fun _ _=>rfl)))) pa_nil)) (nomark _)) (pw_or1 (pt_not (pt_val (pe_call GMde hr rfl gMde.m gMde.k gMde.b .nil pass0 (pa_cons (pv 2) (pa_cons (pv 7) pa_nil)))))))) (pss_one (ps_ret pe_bl)) pss_nil))))
      (pss_one (ps_ret pe_bl)))))))),?_⟩
    have few1:=g1.few
    have few2:=g2.few
    obtain ⟨r1,p1,c1,c2,c3⟩:=hB1.ex
    obtain ⟨r2,p2,d1,d2,d3⟩:=hB2.ex
    refine ⟨_,rfl,t1,_,_,_,rfl,rfl,SqT.of c1,atI_nat (j:=1) rfl,r1,p1,kvw rs1,rfl,c2,kvw_pairs c3,by rw [kvw_keys];exact keys_nd g1.nd,by rw [List.length_map];omega,fun dw ndw=>?_⟩
    have s1:=Same.add (o:=.dK (kvw rs1)) ndw
    have hw1:upd H dw (.dK (kvw rs1)) dw=some (.dK (kvw rs1)):=upd_same
    revert s1 hw1
    generalize upd H dw (.dK (kvw rs1))=H1
    intro s1 hw1
    refine ⟨_,rfl,t2,_,_,_,rfl,rfl,SqT.of (s1 _ _ d1),atI_nat (j:=1) rfl,r2,p2,kvw rs2,rfl,s1 _ _ d2,kvw_pairs (d3.mono (TupS.same s1)),by rw [kvw_keys];exact keys_nd g2.nd,by rw [List.length_map];omega,fun do2 nd2=>?_⟩
    have s2:=s1.trans (Same.add (o:=.dK (kvw rs2)) nd2)
    have hw:upd H1 do2 (.dK (kvw rs2)) dw=some (.dK (kvw rs1)):=Same.add nd2 _ _ hw1
    have ho:upd H1 do2 (.dK (kvw rs2)) do2=some (.dK (kvw rs2)):=upd_same
    revert s2 hw ho
    generalize upd H1 do2 (.dK (kvw rs2))=H2
    intro s2 hw ho
    have k2:∀ H',Same H2 H'→Q (.bl (swB f1 rs1 f2 rs2 ps)) H':=fun H' s'=>k H' (s2.trans s')
    refine ⟨_,rfl,_,_,_,true,rfl,TyOf.lst (s2 _ _ hl),(by rfl),_,rfl,iteF ⟨_,rfl,l,_,rfl,.inl (SqL.of (s2 _ _ hl)),_,_,rfl,rfl,_,rfl,?_⟩⟩
    refine ite2 (fun hc=>?_) (fun hc=>?_)
    · have h7:(30:Int) < (((ps.map tx).length:Nat):Int):=of_decide_eq_true hc
      rw [List.length_map] at h7
      rw [sw_long (by omega)] at k2
      exact k2 H2 (Same.refl _)
    have h30:ps.length≤30:=by
      by_cases z:ps.length≤30
      · exact z
      · exact absurd (decide_eq_true (show (30:Int) < (((ps.map tx).length:Nat):Int) by rw [List.length_map];omega)) hc
    refine ⟨_,rfl,l,rfl,⟨_,SqL.of (s2 _ _ hl)⟩,?_⟩
    refine for_by (sure_list (xs:=ps.map tx)) (fun i σ H4=>H4=H2∧(∀ p∈ps.take i,ipB (.txt p) (shr rs1 rs2)=true)∧∃ v5 v6:Option V,σ=[some (.ref t1),some (.ref t2),some (.ref l),some (.ref dw),some (.ref do2),v5,v6,none])
      ⟨rfl,(fun p hp=>by cases hp),_,_,rfl⟩ (fun _ _ _ _ h=>by rw [h.1];exact SqL.of (s2 _ _ hl)) ?_ ?_
    · rintro i y σ H4 hy ⟨rfl,hok,v5,v6,rfl⟩
      rw [List.getElem?_map] at hy
      cases e:ps[i]? with
      | none=>rw [e] at hy;cases hy
      | some p =>
        rw [e] at hy
        cases hy
        have hm:=List.mem_of_getElem? e
        have hpp:=hpl p hm
        refine ⟨_,rfl,_,_,_,true,rfl,TyOf.str _,(by rfl),_,rfl,iteF ⟨_,rfl,rfl,_,rfl,?_⟩⟩
        have ee:decide (tx p=V.str (Str.ofString ""))=(p == []):=dec_tx p []
        rw [ee]
        refine ite2 (fun hz=>?_) (fun hz=>?_)
        · rw [sw_pc hm (ip_no (.inl (eq_of_beq hz)))] at k2
          exact iteT (k2 H4 (Same.refl _))
        have hne:p≠[]:=fun z=>hz (by rw [z];rfl)
        refine ⟨_,rfl,⟨p.toArray⟩,rfl,szl hpp,_,_,rfl,rfl,_,rfl,?_⟩
        refine ite2 (fun hz2=>?_) (fun hz2=>?_)
        · have h7:(40:Int) < ((p.length:Nat):Int):=of_decide_eq_true hz2
          rw [sw_pc hm (ip_no (.inr (.inl (by omega))))] at k2
          exact k2 H4 (Same.refl _)
        have h40:p.length≤40:=by
          by_cases z:p.length≤40
          · exact z
          · exact absurd (decide_eq_true (show (40:Int) < ((p.length:Nat):Int) by omega)) hz2
        have ew:((⟨p.toArray⟩:Str).cps.toList.map sign).length=p.length:=by simp
        refine ⟨_,rfl,⟨p.toArray⟩,rfl,?_⟩
        refine for_by (sure_str (x:=⟨p.toArray⟩)) (fun j σ H5=>H5=H4∧(∀ c∈p.take j,c∈ltr rs1∧c∈ltr rs2)∧∃ v6:Option V,σ=[some (.ref t1),some (.ref t2),some (.ref l),some (.ref dw),some (.ref do2),some (tx p),v6,none])
          ⟨rfl,(fun c hc=>by cases hc),_,rfl⟩ (fun _ _ _ _ _=>trivial) ?_ ?_
        · rintro j y σ H5 hy ⟨rfl,hcs,v7,rfl⟩
          have hy':(p.map sign)[j]? = some y:=hy
          rw [List.getElem?_map] at hy'
          cases e6:p[j]? with
          | none=>rw [e6] at hy';cases hy'
          | some c =>
            rw [e6] at hy'
            cases hy'
            have hcm:=List.mem_of_getElem? e6
            refine ⟨_,rfl,_,rfl,dw,_,rfl,DGet.k (k:=(Sum.inr (one c):Key)) hw,_,rfl,?_⟩
            rw [kvw_some g1.nd c]
            by_cases hc1:c∈ltr rs1
            · rw [decide_eq_true hc1]
              refine iteF ⟨_,rfl,_,rfl,do2,_,rfl,DGet.k (k:=(Sum.inr (one c):Key)) ho,_,rfl,?_⟩
              rw [kvw_some g2.nd c]
              by_cases hc2:c∈ltr rs2
              · rw [decide_eq_true hc2]
                refine iteF ⟨rfl,fun a ha=>?_,_,rfl⟩
                rw [List.take_add_one,e6] at ha
                rcases List.mem_append.mp ha with h | h
                · exact hcs a h
                · rw [List.mem_singleton.mp h];exact ⟨hc1,hc2⟩
              · rw [decide_eq_false hc2]
                rw [sw_pc hm (ip_no (.inr (.inr ⟨c,hcm,fun z=>hc2 (shr_in z).2⟩)))] at k2
                exact iteT (k2 H5 (Same.refl _))
            · rw [decide_eq_false hc1]
              rw [sw_pc hm (ip_no (.inr (.inr ⟨c,hcm,fun z=>hc1 (shr_in z).1⟩)))] at k2
              exact iteT (iteT (k2 H5 (Same.refl _)))
        · rintro σ H5 ⟨rfl,hcs,v7,rfl⟩
          rw [ew,take_all] at hcs
          refine ⟨rfl,fun a ha=>?_,_,_,rfl⟩
          rw [List.take_add_one,e] at ha
          rcases List.mem_append.mp ha with h | h
          · exact hok a h
          · rw [List.mem_singleton.mp h]
            exact ip_yes hne h40 fun c hc=>in_shr (hcs c hc).1 (hcs c hc).2
    rintro σ H4 ⟨rfl,hok,v5,v6,rfl⟩
    rw [List.length_map,take_all] at hok
    have eall:(ps.all fun p=>ipB (.txt p) (shr rs1 rs2))=true:=List.all_eq_true.mpr hok
    have hps:∀ p∈ps,p.length≤40∧∀ c∈p,c∈ltr rs1∧c∈ltr rs2:=fun p hm=>by
      have h1:((decide (p.length≤40) && p.all fun c=>decide (c∈shr rs1 rs2)) && decide (0 < p.length))=true:=hok p hm
      rw [Bool.and_eq_true,Bool.and_eq_true] at h1
      exact ⟨of_decide_eq_true h1.1.1,fun c hc=>shr_in (of_decide_eq_true (List.all_eq_true.mp h1.1.2 c hc))⟩
    have k3:=k2
    rw [sw_eq,decide_eq_true h30,eall,Bool.true_and,Bool.true_and] at k3
    refine ⟨_,rfl,t1,_,_,_,rfl,rfl,SqT.of (s2 _ _ c1),atI_nat (j:=0) rfl,_,rfl,t2,_,_,_,rfl,rfl,SqT.of (s2 _ _ d1),atI_nat (j:=0) rfl,rfl,_,rfl,?_⟩
    rw [dec_tx]
    cases ef:(f1 == f2) with
    | false =>
      rw [ef] at k3
      exact iteT (iteT (k3 H4 (Same.refl _)))
    | true =>
    rw [ef,Bool.true_and] at k3
    refine iteF ⟨_,rfl,_,rfl,t1,_,_,_,rfl,rfl,SqT.of (s2 _ _ c1),atI_nat (j:=0) rfl,f1,l,ps,rfl,s2 _ _ hl,Nat.le_trans g1.fl (by decide),by omega,hpl,fun H5 s5=>⟨_,rfl,?_⟩⟩
    cases eu:putB f1 ps with
    | false =>
      rw [eu] at k3
      exact iteT (k3 H5 s5)
    | true =>
    rw [eu,Bool.true_and] at k3
    refine iteF ⟨_,rfl,l,rfl,⟨_,SqL.of (s5 _ _ (s2 _ _ hl))⟩,?_⟩
    refine for_by (sure_list (xs:=ps.map tx)) (fun i σ H6=>Same H4 H6∧(∀ p∈ps.take i,goB rs1 rs2 ps p=true)∧∃ v5 v6 v7:Option V,σ=[some (.ref t1),some (.ref t2),some (.ref l),some (.ref dw),some (.ref do2),v5,v6,v7])
      ⟨s5,(fun p hp=>by cases hp),_,_,_,rfl⟩ (fun _ _ _ _ h=>SqL.of (h.1 _ _ (s2 _ _ hl))) ?_ ?_
    · rintro i y σ H6 hy ⟨s6,hgo,u5,u6,u7,rfl⟩
      rw [List.getElem?_map] at hy
      cases e:ps[i]? with
      | none=>rw [e] at hy;cases hy
      | some p =>
        rw [e] at hy
        cases hy
        have hm:=List.mem_of_getElem? e
        obtain ⟨q1,q2⟩:=hps p hm
        have hn:=nxt_le6 g1 (x:=p) fun c hc=>(q2 c hc).1
        dsimp only [gName]
        rw [tSeq]
        refine nxt_join g1 rfl (s6 _ _ hw) (fun c hc=>(q2 c hc).1) (by omega) (fun R h=>⟨_,rfl,h⟩) fun H7 s7=>?_
        refine ⟨_,rfl,nxt_join g2 rfl (s7 _ _ (s6 _ _ ho)) (fun c hc=>(q2 c hc).2) (by omega) (fun R h=>⟨_,rfl,h⟩) fun H8 s8=>⟨rfl,_,rfl,?_⟩⟩
        have s68:=s6.trans (s7.trans s8)
        rw [dec_tx]
        have no:goB rs1 rs2 ps p=false→ps.all (goB rs1 rs2 ps)=false:=fun z=>List.all_eq_false.mpr ⟨p,hm,by rw [z];decide⟩
        cases eg:(nxt rs1 p == nxt rs2 p) with
        | false =>
          rw [no (by unfold goB;rw [eg];rfl)] at k3
          exact iteT (iteT (k3 H8 s68))
        | true =>
          refine iteF ⟨_,rfl,_,rfl,nxt rs1 p,l,ps,rfl,s68 _ _ (s2 _ _ hl),by omega,by omega,hpl,fun H9 s9=>⟨_,rfl,?_⟩⟩
          cases ev:putB (nxt rs1 p) ps with
          | false =>
            rw [no (by unfold goB;rw [eg,ev];rfl)] at k3
            exact iteT (k3 H9 (s68.trans s9))
          | true =>
            refine iteF ⟨s68.trans s9,fun a ha=>?_,_,_,_,rfl⟩
            rw [List.take_add_one,e] at ha
            rcases List.mem_append.mp ha with h | h
            · exact hgo a h
            · rw [List.mem_singleton.mp h]
              unfold goB
              rw [eg,ev]
              rfl
    · rintro σ H6 ⟨s6,hgo,u5,u6,u7,rfl⟩
      rw [List.length_map,take_all] at hgo
      rw [List.all_eq_true.mpr hgo] at k3
      exact k3 H6 s6
end
end Lw
namespace Lw
open PySem L2 PyProof.Rows
theorem nxt_app (rs:List Rule) (x y:List Nat):nxt rs (x++y)=nxt rs x++nxt rs y:=by
  unfold nxt
  rw [List.map_append,List.flatten_append]
theorem nxt_inB {first:List Nat} {rs:List Rule} (hG:Bk first rs) {x:List Nat} (hx:∀ c∈x,c∈ltr rs):∀ c∈nxt rs x,c∈ltr rs:=fun c hc=>by
  unfold nxt at hc
  obtain ⟨l,hl,hc⟩:=List.mem_flatten.mp hc
  obtain ⟨a,ha,rfl⟩:=List.mem_map.mp hl
  obtain ⟨q,hq,_,e⟩:=wd_mem (hx a ha)
  rw [e] at hc
  exact hG.win q hq c hc
theorem rowN_inB {first:List Nat} {rs:List Rule} (hG:Bk first rs) {x:List Nat} (hx:∀ c∈x,c∈ltr rs):∀ n,∀ c∈rowN rs x n,c∈ltr rs
  | 0=>hx
  | n+1=>nxt_inB hG (rowN_inB hG hx n)
def Cat (P:List (List Nat)) (x:List Nat):Prop:=∃ ps:List (List Nat),(∀ p∈ps,p∈P)∧ps.flatten=x
theorem Cat.app {P:List (List Nat)} {x y:List Nat} (hx:Cat P x) (hy:Cat P y):Cat P (x++y):=by
  obtain ⟨ps,h1,rfl⟩:=hx
  obtain ⟨qs,h2,rfl⟩:=hy
  exact ⟨ps++qs,fun p hp=>(List.mem_append.mp hp).elim (h1 p) (h2 p),List.flatten_append⟩
structure Clo (rs1 rs2:List Rule) (f:List Nat) (P:List (List Nat)):Prop where
  first:Cat P f
  eq:∀ p∈P,nxt rs1 p=nxt rs2 p
  nx:∀ p∈P,Cat P (nxt rs1 p)
theorem cat_nxt {rs1 rs2:List Rule} {P:List (List Nat)} (eq:∀ p∈P,nxt rs1 p=nxt rs2 p) (nx:∀ p∈P,Cat P (nxt rs1 p)):∀ {ps:List (List Nat)},(∀ p∈ps,p∈P)→nxt rs1 ps.flatten=nxt rs2 ps.flatten∧Cat P (nxt rs1 ps.flatten)
  | [],_=>⟨rfl,[],(fun p hp=>by cases hp),rfl⟩
  | p :: ps,h=>by
    obtain ⟨i1,i2⟩:=cat_nxt eq nx (ps:=ps) fun q hq=>h q (List.mem_cons_of_mem _ hq)
    have hp:=h p List.mem_cons_self
    rw [List.flatten_cons,nxt_app,nxt_app,i1,eq p hp]
    refine ⟨rfl,?_⟩
    rw [← eq p hp,← i1]
    exact (nx p hp).app i2
theorem Clo.rows {rs1 rs2:List Rule} {f:List Nat} {P:List (List Nat)} (h:Clo rs1 rs2 f P):∀ n,rowN rs1 f n=rowN rs2 f n∧Cat P (rowN rs1 f n)
  | 0=>⟨rfl,h.first⟩
  | n+1=>by
    obtain ⟨e,ps,h1,h2⟩:=h.rows n
    have:=cat_nxt h.eq h.nx h1
    rw [h2] at this
    show nxt rs1 (rowN rs1 f n)=nxt rs2 (rowN rs2 f n)∧_
    rw [← e]
    exact this
def cutS (rs1 rs2:List Rule) (x:List Nat):Nat→List (List Nat) × Nat
  | 0=>([],0)
  | k+1=>if nxt rs1 ((x.take (k+1)).drop (cutS rs1 rs2 x k).2)=nxt rs2 ((x.take (k+1)).drop (cutS rs1 rs2 x k).2) then ((cutS rs1 rs2 x k).1++[(x.take (k+1)).drop (cutS rs1 rs2 x k).2],k+1) else cutS rs1 rs2 x k
def cutR (rs1 rs2:List Rule) (x:List Nat):Option (List (List Nat)):=if (cutS rs1 rs2 x x.length).2=x.length then some (cutS rs1 rs2 x x.length).1 else none
theorem cutS_ok (rs1 rs2:List Rule) (x:List Nat):∀ k,k≤x.length→(cutS rs1 rs2 x k).2≤k∧(cutS rs1 rs2 x k).1.flatten=x.take (cutS rs1 rs2 x k).2∧(cutS rs1 rs2 x k).1.length≤k∧∀ p∈(cutS rs1 rs2 x k).1,p≠[]∧p.length≤x.length∧nxt rs1 p=nxt rs2 p
  | 0,_=>⟨Nat.le_refl _,rfl,Nat.le_refl _,fun p hp=>by cases hp⟩
  | k+1,hk=>by
    obtain ⟨h1,h2,h3,h4⟩:=cutS_ok rs1 rs2 x k (by omega)
    unfold cutS
    split
    · rename_i he
      refine ⟨Nat.le_refl _,?_,by rw [List.length_append];show _+1≤_;omega,fun p hp=>?_⟩
      · show ((cutS rs1 rs2 x k).1++[(x.take (k+1)).drop (cutS rs1 rs2 x k).2]).flatten=x.take (k+1)
        rw [List.flatten_append,List.flatten_singleton,h2]
        have e:x.take (cutS rs1 rs2 x k).2=(x.take (k+1)).take (cutS rs1 rs2 x k).2:=by rw [List.take_take,Nat.min_eq_left (by omega)]
        rw [e,List.take_append_drop]
      · rcases List.mem_append.mp hp with h | h
        · exact h4 p h
        · rw [List.mem_singleton.mp h]
          have hl:((x.take (k+1)).drop (cutS rs1 rs2 x k).2).length=k+1 - (cutS rs1 rs2 x k).2:=by rw [List.length_drop,List.length_take];omega
          exact ⟨fun z=>by rw [z] at hl;have:0=k+1 - (cutS rs1 rs2 x k).2:=hl;omega,by omega,he⟩
    · exact ⟨by omega,h2,by omega,h4⟩
theorem cutR_ok {rs1 rs2:List Rule} {x:List Nat} {t:List (List Nat)} (h:cutR rs1 rs2 x=some t):t.flatten=x∧t.length≤x.length∧∀ p∈t,p≠[]∧p.length≤x.length∧nxt rs1 p=nxt rs2 p:=by
  unfold cutR at h
  split at h
  · rename_i he
    obtain ⟨h1,h2,h3,h4⟩:=cutS_ok rs1 rs2 x x.length (Nat.le_refl _)
    cases h
    rw [he,List.take_length] at h2
    exact ⟨h2,h3,h4⟩
  · cases h
structure CC (rs1 rs2:List Rule) (f:List Nat) (Q:List (List Nat)):Prop where
  first:∃ t,cutR rs1 rs2 f=some t∧∀ p∈t,p∈Q
  nx:∀ q∈Q,∃ t,cutR rs1 rs2 (nxt rs1 q)=some t∧∀ p∈t,p∈Q
  eq:∀ q∈Q,q≠[]∧nxt rs1 q=nxt rs2 q
theorem CC.clo {rs1 rs2:List Rule} {f:List Nat} {Q:List (List Nat)} (h:CC rs1 rs2 f Q):Clo rs1 rs2 f Q:=by
  refine ⟨?_,fun p hp=>(h.eq p hp).2,fun p hp=>?_⟩
  · obtain ⟨t,e,ht⟩:=h.first
    exact ⟨t,ht,(cutR_ok e).1⟩
  · obtain ⟨t,e,ht⟩:=h.nx p hp
    exact ⟨t,ht,(cutR_ok e).1⟩
theorem nodup_len {α:Type} [DecidableEq α]:∀ {l m:List α},l.Nodup→(∀ a∈l,a∈m)→l.length≤m.length
  | [],_,_,_=>Nat.zero_le _
  | a :: l,m,h,hs=>by
    obtain ⟨h1,h2⟩:=List.nodup_cons.mp h
    have hm:=hs a List.mem_cons_self
    have:=nodup_len (l:=l) (m:=m.erase a) h2 fun b hb=>by
      have hne:b≠a:=fun z=>h1 (by rw [← z];exact hb)
      exact (List.mem_erase_of_ne hne).mpr (hs b (List.mem_cons_of_mem _ hb))
    rw [List.length_erase_of_mem hm] at this
    have hpos:0 < m.length:=List.length_pos_of_mem hm
    rw [List.length_cons]
    omega
theorem mrk_keep {x:List Nat} {i j:Nat} {r:List Bool} {p:List Nat} (h:r.getD j false=true):(mrk x i r p).getD j false=true:=by
  unfold mrk
  split
  · rw [List.getD_eq_getElem?_getD] at h ⊢
    by_cases e:i+p.length=j
    · subst e
      by_cases hl:i+p.length < r.length
      · rw [List.getElem?_set_self hl];rfl
      · rw [List.getElem?_eq_none (by omega)] at h;cases h
    · rw [List.getElem?_set_ne e];exact h
  · exact h
theorem fold_keep {x:List Nat} {i j:Nat}:∀ {ps:List (List Nat)} {r:List Bool},r.getD j false=true→(ps.foldl (mrk x i) r).getD j false=true
  | [],_,h=>h
  | p :: ps,r,h=>by rw [List.foldl_cons];exact fold_keep (mrk_keep h)
theorem fold_mark {x:List Nat} {i:Nat} {p:List Nat} (hs:subB x p i=true):∀ {ps:List (List Nat)} {r:List Bool},p∈ps→i+p.length < r.length→(ps.foldl (mrk x i) r).getD (i+p.length) false=true
  | [],_,h,_=>by cases h
  | q :: ps,r,h,hl=>by
    rw [List.foldl_cons]
    rcases List.mem_cons.mp h with e | h
    · subst e
      refine fold_keep ?_
      unfold mrk
      rw [if_pos hs,List.getD_eq_getElem?_getD,List.getElem?_set_self hl]
      rfl
    · exact fold_mark hs h (by rw [mrk_len];exact hl)
theorem step_keep {x:List Nat} {ps:List (List Nat)} {r:List Bool} {i j:Nat} (h:r.getD j false=true):(stepR x ps r i).getD j false=true:=by
  unfold stepR
  split
  · exact fold_keep h
  · exact h
theorem rch_keep {x:List Nat} {ps:List (List Nat)} {j n:Nat} (h:(rch x ps n).getD j false=true):∀ m,n≤m→(rch x ps m).getD j false=true
  | 0,hm=>by rw [show n=0 by omega] at h;exact h
  | m+1,hm=>by
    by_cases e:n=m+1
    · rw [← e];exact h
    · rw [rch_succ]
      exact step_keep (rch_keep h m (by omega))
theorem rch_cat {x:List Nat} {P:List (List Nat)} (ne:∀ p∈P,p≠[]):∀ (k:Nat) (qs rest:List (List Nat)),qs.length=k→(∀ p∈qs,p∈P)→(qs++rest).flatten=x→∀ n,qs.flatten.length≤n→(rch x P n).getD qs.flatten.length false=true
  | 0,qs,rest,hk,_,_,n,_=>by
    rw [List.length_eq_zero_iff.mp hk]
    refine rch_keep (n:=0) ?_ n (Nat.zero_le _)
    rfl
  | k+1,qs,rest,hk,hq,hx,n,hn=>by
    have hne:qs≠[]:=fun z=>by rw [z] at hk;cases hk
    obtain ⟨p,e⟩:∃ p,qs=qs.dropLast++[p]:=⟨qs.getLast hne,(List.dropLast_concat_getLast hne).symm⟩
    generalize qs.dropLast=q0 at e
    subst e
    have hp:p∈P:=hq p (List.mem_append_right _ List.mem_cons_self)
    have hpl:0 < p.length:=List.length_pos_iff.mpr (ne p hp)
    have ef:(q0++[p]).flatten.length=q0.flatten.length+p.length:=by rw [List.flatten_append,List.flatten_singleton,List.length_append]
    rw [ef] at hn ⊢
    have hk0:q0.length=k:=by rw [List.length_append] at hk;exact Nat.succ.inj hk
    have hx0:(q0++([p]++rest)).flatten=x:=by rw [← List.append_assoc];exact hx
    have ih:=rch_cat ne k q0 ([p]++rest) hk0 (fun a ha=>hq a (List.mem_append_left _ ha)) hx0 q0.flatten.length (Nat.le_refl _)
    have hxl:q0.flatten.length+p.length≤x.length:=by
      rw [← hx,List.flatten_append,List.length_append,ef]
      omega
    refine rch_keep (n:=q0.flatten.length+1) ?_ n (by omega)
    rw [rch_succ]
    unfold stepR
    rw [if_pos ih]
    refine fold_mark ?_ hp (by rw [rch_len];omega)
    unfold L2.subB
    have e2:x=q0.flatten++(p++rest.flatten):=by rw [← hx0,List.flatten_append];rfl
    rw [e2,List.drop_left,List.take_left]
    exact beq_self_eq_true _
theorem put_cat {x:List Nat} {P:List (List Nat)} (ne:∀ p∈P,p≠[]) (h:Cat P x):putB x P=true:=by
  obtain ⟨ps,h1,h2⟩:=h
  have:=rch_cat (x:=x) ne ps.length ps [] rfl h1 (by rw [List.append_nil];exact h2) x.length (by rw [h2];exact Nat.le_refl _)
  rw [h2] at this
  exact this
theorem sw_of {f:List Nat} {rs1 rs2:List Rule} {P:List (List Nat)} (h:CC rs1 rs2 f P) (h30:P.length≤30) (h40:∀ p∈P,p.length≤40) (hin:∀ p∈P,∀ c∈p,c∈ltr rs1∧c∈ltr rs2):swB f rs1 f rs2 P=true:=by
  have hc:=h.clo
  have ne:∀ p∈P,p≠[]:=fun p hp=>(h.eq p hp).1
  rw [sw_eq,decide_eq_true h30,put_cat ne hc.first,beq_self_eq_true]
  have a1:(P.all fun p=>ipB (.txt p) (shr rs1 rs2))=true:=List.all_eq_true.mpr fun p hp=>ip_yes (ne p hp) (h40 p hp) fun c hc=>in_shr (hin p hp c hc).1 (hin p hp c hc).2
  have a2:P.all (goB rs1 rs2 P)=true:=List.all_eq_true.mpr fun p hp=>by
    unfold goB
    rw [hc.eq p hp,beq_self_eq_true,← hc.eq p hp,put_cat ne (hc.nx p hp)]
    rfl
  rw [a1,a2]
  rfl
end Lw
namespace Lw
open PySem L2 PyProof.Rows
theorem dict_read {K:PySem.W.Frag} {σ:L2.St} {H:Hp} {Q:VK} {i:Nat} {t:Addr} {f:List Nat} {rs:List Rule} (hi:σ[i]? = some (some (.ref t))) (hB:BookAt H t f rs) (hG:Bk f rs) (k:∀ d H',Same H H'→H d=none→H' d=some (.dK (kvw rs))→Q (.ref d) H') :
    tCB rDictT (tCons (tOp (rIxT K) (tVar i) (tC (V.int 1))) tNil) σ H Q:=by
  have hfew:=hG.few
  obtain ⟨r,ps,b1,b2,b3⟩:=hB.ex
  exact ⟨_,hi,t,_,_,_,rfl,rfl,SqT.of b1,atI_nat (j:=1) rfl,r,ps,kvw rs,rfl,b2,kvw_pairs b3,by rw [kvw_keys];exact keys_nd hG.nd,by rw [List.length_map];omega,fun dw ndw=>k dw _ (Same.add ndw) ndw upd_same⟩
theorem rng_lo {lo:Int} {n i:Nat} {x:V} (h:(rngV lo n)[i]? = some x):i < n∧x=.int (lo+(i:Int)):=by
  have h1:i < n:=by
    have:=(List.getElem?_eq_some_iff.mp h).1
    rwa [rngV_length] at this
  refine ⟨h1,?_⟩
  unfold rngV at h
  rw [List.getElem?_map,List.getElem?_range h1] at h
  exact (Option.some.inj h).symm
theorem cutS_succ (rs1 rs2:List Rule) (x:List Nat) (k:Nat):cutS rs1 rs2 x (k+1)=if nxt rs1 ((x.take (k+1)).drop (cutS rs1 rs2 x k).2)=nxt rs2 ((x.take (k+1)).drop (cutS rs1 rs2 x k).2) then ((cutS rs1 rs2 x k).1++[(x.take (k+1)).drop (cutS rs1 rs2 x k).2],k+1) else cutS rs1 rs2 x k:=rfl
theorem seq_asg {te:TE} {g:TG} {u:L2.TS} {D:Ends} {σ:L2.St} {H:Hp} (h:te σ H fun x H1=>g x σ H1 (u D)):tSeq (tAsg te g) u D σ H:=h
section
variable {P:Program} {w:World} {K:PySem.W.Frag} {mg:Str→Option Value} {base:Heap}
def spCut:Sp:=fun vs H Q _=>∃ (t1 t2:Addr) (f1 f2:List Nat) (rs1 rs2:List Rule) (x:List Nat),vs=[.ref t1,.ref t2,tx x]∧BookAt H t1 f1 rs1∧BookAt H t2 f2 rs2∧Bk f1 rs1∧Bk f2 rs2∧(∀ c∈x,c∈ltr rs1∧c∈ltr rs2)∧x.length≤300 ∧
  (∀ H',Same H H'→cutR rs1 rs2 x=none→Q .non H')∧∀ L t H',Same H H'→H L=none→H' L=some (.lst (t.map tx))→cutR rs1 rs2 x=some t→Q (.ref L) H'
theorem scCut:FnScope ["one","other","text","ones","others","told","start","end","part"] ["one","other","text"] (defScope sCut):=⟨rfl,rfl,rfl,by decide +kernel,rfl,by decide +kernel,by decide +kernel⟩
theorem ok_cut {f fRep:Addr} {fd fdRep:FuncData} (F:Fun K "cut" "cut" sCut f fd)
    (GRep:FnOk P w K mg base CX0 1 fRep fdRep ["text","words"] spRep)
    (gRep:Gf K mg "replaced" fRep fdRep ["text","words"])
    (hlen:mg "len" = none)
    (hrange:mg "range" = none)
    (hdict:mg "dict" = none)
    : FnOk P w K mg base CX0 2 f fd ["one","other","text"] spCut:=by
  refine F.ok scCut (fun vs H Q E h=>?_) (fun cdv A outer s H vs Q E hr h=>?_)
  · obtain ⟨t1,t2,f1,f2,rs1,rs2,x,rfl,_⟩:=h
    rfl
  · obtain ⟨t1,t2,f1,f2,rs1,rs2,x,rfl,hB1,hB2,g1,g2,hin,hx,kn,kt⟩:=h
    refine ⟨_,(pss_cons (ps_set (i:=3) scCut.nd rfl (Or.inl rfl) (pe_callTy (call_dict_tup rfl) (by rfl) hdict (by first | exact PySem.boot_dict | decide +kernel) (pa_cons (pe_ix (ix_tupK K) (pv 0) pe_int (fun _ _=>rfl)) pa_nil)))
      (pss_cons (ps_set (i:=4) scCut.nd rfl (Or.inl rfl) (pe_callTy (call_dict_tup rfl) (by rfl) hdict (by first | exact PySem.boot_dict | decide +kernel) (pa_cons (pe_ix (ix_tupK K) (pv 1) pe_int (fun _ _=>rfl)) pa_nil)))
      (pss_cons (ps_set (i:=5) scCut.nd rfl (Or.inl rfl) (pe_lst pa_nil))
      (pss_cons (ps_set (i:=6) scCut.nd rfl (Or.inl rfl) pe_int)
      (pss_cons (ps_for PassesOwn.never rfl (pi_range2 rfl hrange (pa_cons pe_int (pa_cons (pe_op op_add (pe_callB call_len_str (by rfl) hlen PySem.boot_len (pa_cons (pv 2) pa_nil)) pe_int) pa_nil))) (pg_name (i:=7) scCut.nd rfl (Or.inl rfl)) (pss_cons (ps_set (i:=8) scCut.nd rfl (Or.inl rfl) (pe_slice sl_str (pv 2) (po_some (pv 6)) (po_some (pv 7))))
      (pss_one (ps_if (pt_cmpR op_eq (pe_call GRep hr rfl gRep.m gRep.k gRep.b .nil pass0 (pa_cons (pv 8) (pa_cons (pv 3) pa_nil))) (pe_call GRep hr rfl gRep.m gRep.k gRep.b .nil pass0 (pa_cons (pv 8) (pa_cons (pv 4) pa_nil))) (nomark _)) (pss_cons (ps_expr (pe_bmK K PySem.F.plainAttrs_list PySem.F.slot_list_append PySem.F.type_list_append mt_append (pv 5) (pa_cons (pv 8) pa_nil)))
      (pss_one (ps_set (i:=6) scCut.nd rfl (Or.inl rfl) (pv 7)))) pss_nil))))
      (pss_one (ps_ret (pe_ifExp (pt_cmpR op_eq (pv 6) (pe_callB call_len_str (by rfl) hlen PySem.boot_len (pa_cons (pv 2) pa_nil)) (nomark _)) (pv 5) pe_non)))))))),?_⟩
    refine seq_asg ?_
    refine dict_read rfl hB1 g1 fun d1 H1 s1 n1 e1=>?_
    dsimp only [gName]
    refine seq_asg ?_
    refine dict_read rfl (hB2.mono (TupS.same s1)) g2 fun d2 H2 s2 n2 e2=>?_
    refine ⟨szl (show 0≤1000 by decide),fun L nL=>?_⟩
    have s02:=s1.trans s2
    have nL0:H L=none:=s02.free nL
    have sL:=Same.add (o:=.lst []) nL
    have e1':=s2 _ _ e1
    have ex:((⟨x.toArray⟩:Str).length:Nat)=x.length:=rfl
    refine ⟨_,rfl,⟨x.toArray⟩,rfl,szl (by rw [ex];omega),_,_,rfl,rfl,_,_,rfl,⟨by decide,by decide,by rw [ex];omega,by rw [ex];omega⟩,?_⟩
    rw [ex,show ((x.length:Int)+1 - 1).toNat=x.length by omega]
    refine for_by (sure_range (lo:=1) (n:=x.length)) (fun i σ H'=>∃ v7 v8,σ=[some (.ref t1),some (.ref t2),some (tx x),some (.ref d1),some (.ref d2),some (.ref L),some (.int ((cutS rs1 rs2 x i).2:Int)),v7,v8]∧Same H H'∧H' d1=some (.dK (kvw rs1))∧H' d2=some (.dK (kvw rs2))∧H' L=some (.lst ((cutS rs1 rs2 x i).1.map tx)))
      ⟨_,_,rfl,s02.trans sL,sL _ _ e1',sL _ _ e2,upd_same⟩ (fun _ _ _ _ _=>trivial) ?_ ?_
    · rintro i y σ H3 hy ⟨v7,v8,rfl,s3,h1,h2,hL⟩
      obtain ⟨hi,rfl⟩:=rng_lo hy
      obtain ⟨c1,c2,c3,c4⟩:=cutS_ok rs1 rs2 x i (by omega)
      have hs:=cutS_succ rs1 rs2 x i
      revert hs c1 c2 c3 c4 hL
      generalize cutS rs1 rs2 x i=cs
      obtain ⟨t,st⟩:=cs
      dsimp only
      intro hL c1 c2 c3 c4 hs
      refine ⟨_,rfl,_,rfl,_,rfl,_,rfl,_,rfl,⟨x.toArray⟩,rfl,szl (by rw [ex];omega),?_⟩
      rw [show (1:Int)+(i:Int)=((i+1:Nat):Int) by omega,slice_mid x st (i+1) (by omega) (by omega),← List.drop_take]
      have hpl:((x.take (i+1)).drop st).length≤x.length:=by rw [List.length_drop,List.length_take];omega
      have hpi:∀ c∈(x.take (i+1)).drop st,c∈ltr rs1∧c∈ltr rs2:=fun c hc=>hin c (List.mem_of_mem_take (List.mem_of_mem_drop hc))
      revert hpl hpi hs
      generalize (x.take (i+1)).drop st=p
      intro hs hpl hpi
      refine ⟨_,rfl,_,rfl,p,d1,f1,rs1,rfl,g1,h1,by omega,fun c hc=>(hpi c hc).1,fun H4 s4=>?_⟩
      refine ⟨_,rfl,_,rfl,p,d2,f2,rs2,rfl,g2,s4 _ _ h2,by omega,fun c hc=>(hpi c hc).2,fun H5 s5=>⟨rfl,_,rfl,?_⟩⟩
      have s45:=s4.trans s5
      rw [dec_tx]
      refine ite2 (fun hc=>?_) (fun hc=>?_)
      · have he:nxt rs1 p=nxt rs2 p:=eq_of_beq hc
        rw [if_pos he] at hs
        rw [hs]
        have hL5:=s45 _ _ hL
        refine ⟨_,rfl,.inl ⟨rfl,_,SqL.of hL5⟩,_,rfl,L,_,_,rfl,rfl,hL5,szl (by rw [List.length_map];omega),_,rfl,_,_,rfl,same_upd (s3.trans s45) nL0,?_,?_,?_⟩
        · rw [upd_ne (fun z=>by rw [z,hL] at h1;cases h1)];exact s45 _ _ h1
        · rw [upd_ne (fun z=>by rw [z,hL] at h2;cases h2)];exact s45 _ _ h2
        · rw [upd_same,List.map_append];rfl
      · have he:¬ nxt rs1 p=nxt rs2 p:=fun z=>hc (by rw [z];exact beq_self_eq_true _)
        rw [if_neg he] at hs
        rw [hs]
        exact ⟨_,_,rfl,s3.trans s45,s45 _ _ h1,s45 _ _ h2,s45 _ _ hL⟩
    · rintro σ H3 ⟨v7,v8,rfl,s3,h1,h2,hL⟩
      rw [rngV_length] at hL
      refine ⟨_,rfl,_,rfl,⟨x.toArray⟩,rfl,szl (by rw [ex];omega),rfl,_,rfl,?_⟩
      rw [rngV_length,ex]
      refine ite2 (fun hc=>?_) (fun hc=>?_)
      · have he:(cutS rs1 rs2 x x.length).2=x.length:=by have:=V.int.inj (of_decide_eq_true hc);omega
        exact ⟨_,rfl,kt L _ H3 s3 nL0 hL (by unfold cutR;rw [if_pos he])⟩
      · have he:¬ (cutS rs1 rs2 x x.length).2=x.length:=fun z=>hc (by rw [z];exact decide_eq_true rfl)
        exact kn H3 s3 (by unfold cutR;rw [if_neg he])
end
end Lw
namespace Lw
open PySem L2 PyProof.Rows
def txK (x:List Nat):Key:=Sum.inr (⟨x.toArray⟩:Str)
theorem txK_inj {x y:List Nat} (h:txK x=txK y):x=y:=by
  have h1:(⟨x.toArray⟩:Str)=⟨y.toArray⟩:=Sum.inr.inj h
  have h2:x.toArray=y.toArray:=congrArg Str.cps h1
  have:=congrArg Array.toList h2
  simpa using this
def dkT (F:List (List Nat)):List (Key × V):=F.map fun p=>(txK p,V.bl true)
theorem dkT_len (F:List (List Nat)):(dkT F).length=F.length:=List.length_map _
theorem dkT_some (F:List (List Nat)) (p:List Nat):(valV (dkT F) (txK p)).isSome=decide (p∈F):=by
  unfold valV dkT
  induction F with
  | nil=>rfl
  | cons a F ih =>
    rw [List.map_cons]
    by_cases e:a=p
    · subst e
      rw [List.find?_cons_of_pos (by exact decide_eq_true rfl),decide_eq_true List.mem_cons_self]
      rfl
    · rw [List.find?_cons_of_neg (by simp only [decide_eq_true_eq];exact fun z=>e (txK_inj z)),ih]
      have h2:(p∈a :: F)=(p∈F):=by
        rw [List.mem_cons]
        exact propext ⟨fun h=>h.elim (fun z=>absurd z.symm e) id,.inr⟩
      simp only [h2]
theorem dkT_put {F:List (List Nat)} {p:List Nat} (h:p ∉ F):putK (dkT F) (txK p) (V.bl true)=dkT (F++[p]):=by
  unfold putK
  rw [if_neg]
  · unfold dkT
    rw [List.map_append]
    rfl
  · intro z
    obtain ⟨kv,h1,h2⟩:=List.any_eq_true.mp z
    obtain ⟨q,hq,rfl⟩:=List.mem_map.mp h1
    exact h (by rw [← txK_inj (of_decide_eq_true h2)];exact hq)
structure WI (rs1 rs2:List Rule) (f:List Nat) (X:Option (List Nat)) (F W:List (List Nat)):Prop where
  nd:F.Nodup
  pc:∀ p∈F,p≠[]∧nxt rs1 p=nxt rs2 p∧∀ c∈p,c∈ltr rs1∧c∈ltr rs2
  dn:∀ y,(y=f∨∃ p∈F,y=nxt rs1 p)→y∈W∨some y=X∨∃ t,cutR rs1 rs2 y=some t∧∀ p∈t,p∈F
  wt:∀ y∈W,∀ c∈y,c∈ltr rs1∧c∈ltr rs2
  cn:∀ Q,CC rs1 rs2 f Q→(∀ p∈F,p∈Q)∧∀ y∈W,y=f∨∃ q∈Q,y=nxt rs1 q
section
variable {rs1 rs2:List Rule} {f:List Nat}
theorem WI.start (h1:∀ c∈f,c∈ltr rs1) (h2:∀ c∈f,c∈ltr rs2):WI rs1 rs2 f none [] [f] where
  nd:=List.nodup_nil
  pc:=fun p hp=>by cases hp
  dn:=fun y hy=>by
    rcases hy with rfl | ⟨p,hp,_⟩
    · exact .inl List.mem_cons_self
    · cases hp
  wt:=fun y hy c hc=>by
    rw [List.mem_singleton.mp hy] at hc
    exact ⟨h1 c hc,h2 c hc⟩
  cn:=fun Q hQ=>⟨(fun p hp=>by cases hp),fun y hy=>.inl (List.mem_singleton.mp hy)⟩
theorem WI.pop {F W:List (List Nat)} {x:List Nat} (h:WI rs1 rs2 f none F (W++[x])):WI rs1 rs2 f (some x) F W where
  nd:=h.nd
  pc:=h.pc
  dn:=fun y hy=>by
    rcases h.dn y hy with h1 | h1 | h1
    · rcases List.mem_append.mp h1 with h2 | h2
      · exact .inl h2
      · exact .inr (.inl (by rw [List.mem_singleton.mp h2]))
    · cases h1
    · exact .inr (.inr h1)
  wt:=fun y hy=>h.wt y (List.mem_append_left _ hy)
  cn:=fun Q hQ=>⟨(h.cn Q hQ).1,fun y hy=>(h.cn Q hQ).2 y (List.mem_append_left _ hy)⟩
theorem WI.cuts {F W:List (List Nat)} {x:List Nat} (h:WI rs1 rs2 f none F (W++[x])) {Q:List (List Nat)} (hQ:CC rs1 rs2 f Q):∃ t,cutR rs1 rs2 x=some t∧∀ p∈t,p∈Q:=by
  rcases (h.cn Q hQ).2 x (List.mem_append_right _ List.mem_cons_self) with rfl | ⟨q,hq,rfl⟩
  · exact hQ.first
  · exact hQ.nx q hq
theorem WI.new {X:Option (List Nat)} {F W:List (List Nat)} {p:List Nat} {f1 f2:List Nat} (h:WI rs1 rs2 f X F W) (g1:Bk f1 rs1) (g2:Bk f2 rs2) (hp:p ∉ F) (h0:p≠[]) (he:nxt rs1 p=nxt rs2 p) (hi:∀ c∈p,c∈ltr rs1∧c∈ltr rs2) (hc:∀ Q,CC rs1 rs2 f Q→p∈Q) :
    WI rs1 rs2 f X (F++[p]) (W++[nxt rs1 p]) where
  nd:=List.nodup_append.mpr ⟨h.nd,List.nodup_cons.mpr ⟨List.not_mem_nil,List.nodup_nil⟩,fun a ha b hb z=>hp (by rw [← List.mem_singleton.mp hb,← z];exact ha)⟩
  pc:=fun q hq=>by
    rcases List.mem_append.mp hq with h1 | h1
    · exact h.pc q h1
    · rw [List.mem_singleton.mp h1]
      exact ⟨h0,he,hi⟩
  dn:=fun y hy=>by
    have lift:(y∈W∨some y=X∨∃ t,cutR rs1 rs2 y=some t∧∀ p∈t,p∈F)→y∈W++[nxt rs1 p]∨some y=X∨∃ t,cutR rs1 rs2 y=some t∧∀ q∈t,q∈F++[p]:=by
      rintro (h1 | h1 | ⟨t,h1,h2⟩)
      · exact .inl (List.mem_append_left _ h1)
      · exact .inr (.inl h1)
      · exact .inr (.inr ⟨t,h1,fun q hq=>List.mem_append_left _ (h2 q hq)⟩)
    rcases hy with rfl | ⟨q,hq,rfl⟩
    · exact lift (h.dn _ (.inl rfl))
    · rcases List.mem_append.mp hq with h1 | h1
      · exact lift (h.dn _ (.inr ⟨q,h1,rfl⟩))
      · rw [List.mem_singleton.mp h1]
        exact .inl (List.mem_append_right _ List.mem_cons_self)
  wt:=fun y hy c hc=>by
    rcases List.mem_append.mp hy with h1 | h1
    · exact h.wt y h1 c hc
    · rw [List.mem_singleton.mp h1] at hc
      exact ⟨nxt_inB g1 (fun c hc=>(hi c hc).1) c hc,nxt_inB g2 (fun c hc=>(hi c hc).2) c (by rw [← he];exact hc)⟩
  cn:=fun Q hQ=>by
    obtain ⟨a,b⟩:=h.cn Q hQ
    refine ⟨fun q hq=>?_,fun y hy=>?_⟩
    · rcases List.mem_append.mp hq with h1 | h1
      · exact a q h1
      · rw [List.mem_singleton.mp h1]
        exact hc Q hQ
    · rcases List.mem_append.mp hy with h1 | h1
      · exact b y h1
      · exact .inr ⟨p,hc Q hQ,List.mem_singleton.mp h1⟩
theorem WI.shut {F W:List (List Nat)} {x:List Nat} {t:List (List Nat)} (h:WI rs1 rs2 f (some x) F W) (hc:cutR rs1 rs2 x=some t) (ht:∀ p∈t,p∈F):WI rs1 rs2 f none F W where
  nd:=h.nd
  pc:=h.pc
  dn:=fun y hy=>by
    rcases h.dn y hy with h1 | h1 | h1
    · exact .inl h1
    · rw [Option.some.inj h1]
      exact .inr (.inr ⟨t,hc,ht⟩)
    · exact .inr (.inr h1)
  wt:=h.wt
  cn:=h.cn
theorem WI.done {F:List (List Nat)} (h:WI rs1 rs2 f none F []):CC rs1 rs2 f F where
  first:=by
    rcases h.dn f (.inl rfl) with h1 | h1 | h1
    · cases h1
    · cases h1
    · exact h1
  nx:=fun q hq=>by
    rcases h.dn _ (.inr ⟨q,hq,rfl⟩) with h1 | h1 | h1
    · cases h1
    · cases h1
    · exact h1
  eq:=fun q hq=>⟨(h.pc q hq).1,(h.pc q hq).2.1⟩
end
end Lw
namespace Lw
open PySem L2 PyProof.Rows
theorem perm_txs {ss:List Str} {F:List (List Nat)} (h:ss.Perm (F.map fun x=>(⟨x.toArray⟩:Str))):∃ t:List (List Nat),t.Perm F∧ss=t.map fun x=>(⟨x.toArray⟩:Str):=by
  refine ⟨ss.map fun s=>s.cps.toList,?_,?_⟩
  · have:=h.map fun s:Str=>s.cps.toList
    rw [List.map_map] at this
    have e:F.map ((fun s:Str=>s.cps.toList) ∘ fun x=>(⟨x.toArray⟩:Str))=F:=by
      have:((fun s:Str=>s.cps.toList) ∘ fun x:List Nat=>(⟨x.toArray⟩:Str))=id:=by
        funext x
        rfl
      rw [this,List.map_id]
    rw [e] at this
    exact this
  · rw [List.map_map]
    have:((fun x:List Nat=>(⟨x.toArray⟩:Str)) ∘ fun s:Str=>s.cps.toList)=id:=by
      funext s
      rfl
    rw [this,List.map_id]
structure Pcs (rs1 rs2:List Rule) (f:List Nat) (t:List (List Nat)):Prop where
  cc:CC rs1 rs2 f t
  few:t.length≤30
  len:∀ p∈t,p.length≤40
  ins:∀ p∈t,∀ c∈p,c∈ltr rs1∧c∈ltr rs2
  nd:t.Nodup
  srt:sortedS (t.map fun x=>(⟨x.toArray⟩:Str))=true
section
variable {P:Program} {w:World} {K:PySem.W.Frag} {mg:Str→Option Value} {base:Heap}
def spPcu:Sp:=fun vs H Q _=>∃ (t1 t2:Addr) (f:List Nat) (rs1 rs2:List Rule),vs=[.ref t1,.ref t2]∧BookAt H t1 f rs1∧BookAt H t2 f rs2∧Bk f rs1∧Bk f rs2 ∧
  (∀ H',Same H H'→(∀ Q',CC rs1 rs2 f Q'→Q'.length≤30→¬ ∀ q∈Q',q.length≤40)→Q .non H')∧∀ L t H',Same H H'→H L=none→H' L=some (.lst (t.map tx))→Pcs rs1 rs2 f t→Q (.ref L) H'
theorem scPcu:FnScope ["one","other","found","waiting","parts","part"] ["one","other"] (defScope sPcu):=⟨rfl,rfl,rfl,by decide +kernel,rfl,by decide +kernel,by decide +kernel⟩
theorem nd_pcu1:(["part"]:List Str).Nodup:=by decide +kernel
theorem ok_pcu {f fCut fRep:Addr} {fd fdCut fdRep:FuncData} (F:Fun K "plain_cutting" "plain_cutting" sPcu f fd)
    (GCut:FnOk P w K mg base CX0 2 fCut fdCut ["one","other","text"] spCut)
    (gCut:Gf K mg "cut" fCut fdCut ["one","other","text"])
    (GRep:FnOk P w K mg base CX0 1 fRep fdRep ["text","words"] spRep)
    (gRep:Gf K mg "replaced" fRep fdRep ["text","words"])
    (hlen:mg "len" = none)
    (hsorted:mg "sorted" = none)
    (hdict:mg "dict" = none)
    (hany:mg "any" = none)
    {tkMOST_PIECES:Tok} (hMOST_PIECES:mg "MOST_PIECES" = some (.int 30 tkMOST_PIECES))
    {tkLONGEST_PIECE:Tok} (hLONGEST_PIECE:mg "LONGEST_PIECE" = some (.int 40 tkLONGEST_PIECE))
    : FnOk P w K mg base CX0 3 f fd ["one","other"] spPcu:=by
  refine F.ok scPcu (fun vs H Q E h=>?_) (fun cdv A outer s H vs Q E hr h=>?_)
  · obtain ⟨t1,t2,f0,rs1,rs2,rfl,_⟩:=h
    rfl
  · obtain ⟨t1,t2,f0,rs1,rs2,rfl,hB1,hB2,g1,g2,kn,kt⟩:=h
    have hr1:Room 1 _:=hr.mono (by decide)
    have hu:=hu_of hr
    refine ⟨_,(pss_cons (ps_set (i:=2) scPcu.nd rfl (Or.inl rfl) pe_dnewK)
      (pss_cons (ps_set (i:=3) scPcu.nd rfl (Or.inl rfl) (pe_lst (pa_cons (pe_ix (ix_tupK K) (pv 0) pe_int (fun _ _=>rfl)) pa_nil)))
      (pss_cons (ps_while PassesOwn.never (pt_truthK K (pv 3) (fun _=>rfl)) (pss_cons (ps_set (i:=4) scPcu.nd rfl (Or.inl rfl) (pe_call GCut hr rfl gCut.m gCut.k gCut.b .nil pass0 (pa_cons (pv 0) (pa_cons (pv 1) (pa_cons (pe_bm0K K PySem.F.plainAttrs_list PySem.F.slot_list_pop PySem.F.type_list_pop mt_pop (pv 3)) pa_nil)))))
      (pss_cons (ps_if (pt_cmpR op_isN (pv 4) pe_non (nomark _)) (pss_one (ps_ret pe_non)) pss_nil)
      (pss_cons (ps_for PassesOwn.never rfl (pi_listK K (pv 4)) (pg_name (i:=5) scPcu.nd rfl (Or.inl rfl)) (pss_one (ps_if (pt_cmp (pc_dnotin hu (pv 5) (pv 2))) (pss_cons (ps_dput hu (pv 2) (pv 5) pe_bl rfl)
      (pss_one (ps_expr (pe_bmK K PySem.F.plainAttrs_list PySem.F.slot_list_append PySem.F.type_list_append mt_append (pv 3) (pa_cons (pe_call GRep hr1 rfl gRep.m gRep.k gRep.b .nil pass0 (pa_cons (pv 5) (pa_cons (pe_callTy (call_dict_tup rfl) (by rfl) hdict (by first | exact PySem.boot_dict | decide +kernel) (pa_cons (pe_ix (ix_tupK K) (pv 0) pe_int (fun _ _=>rfl)) pa_nil)) pa_nil))) pa_nil))))) pss_nil)))
      (pss_one (ps_if (PW.pt (pw_or (pt_cmpR op_gt (pe_callB call_lenD (by rfl) hlen PySem.boot_len (pa_cons (pv 2) pa_nil)) (pe_glob (v:=.int 30) (by rfl) hMOST_PIECES ⟨_,rfl⟩) (nomark _)) (pw_or1 (pt_val (pe_callB (call_any_boolsK K rfl) (by rfl) hany (show bootBuiltins "any" = some (.builtin "any") by decide +kernel) (pa_cons (pe_comp (N':=["part"]) (ix:=[none]) rfl rfl (pi_listK K (pv 4)) (fun _ _ _ _ _ _=>(pg_name (i:=0) nd_pcu1 rfl (Or.inl rfl))) (fun _ _ _ _ _ _=>pts_nil) (fun _ _ _ _ _ _=>(pe_cmpR op_gt (pe_callB call_len_str (by rfl) hlen PySem.boot_len (pa_cons (pv 0) pa_nil)) (pe_glob (v:=.int 40) (by rfl) hLONGEST_PIECE ⟨_,rfl⟩) (nomark _)))) pa_nil)))))) (pss_one (ps_ret pe_non)) pss_nil))))))
      (pss_one (ps_ret (pe_callB (call_sorted_dict rfl) (by rfl) hsorted PyProof.Rows.boot_sorted (pa_cons (pv 2) pa_nil))))))),?_⟩
    have hf1:=g1.fl
    intro d nd
    have nd0:=nd
    obtain ⟨r,ps,b1,b2,b3⟩:=hB1.ex
    have sd:=Same.add (o:=.dK []) nd
    refine ⟨_,rfl,t1,_,_,_,rfl,rfl,SqT.of (sd _ _ b1),atI_nat (j:=0) rfl,szl (show 1≤1000 by decide),fun Lw nLw=>?_⟩
    have nLw0:H Lw=none:=sd.free nLw
    have hdL:d≠Lw:=ne_of_none (upd_same (H:=H) (a:=d) (o:=.dK [])) nLw
    have sL:=Same.add (o:=.lst [tx f0]) nLw
    refine ⟨fun m σ H'=>∃ (F W:List (List Nat)) (v4 v5:Option V),σ=[some (.ref t1),some (.ref t2),some (.ref d),some (.ref Lw),v4,v5]∧Same H H'∧H' d=some (.dK (dkT F))∧H' Lw=some (.lst (W.map tx))∧m=W.length+(30 - F.length)∧F.length≤30∧W.length≤F.length+1∧(∀ p∈F,p.length≤40)∧(∀ y∈W,y.length≤300)∧WI rs1 rs2 f0 none F W,
      ⟨_,[],[f0],_,_,rfl,sd.trans sL,sL _ _ upd_same,upd_same,rfl,by decide,(show 1≤1 by decide),(fun p hp=>by cases hp),(fun y hy=>by rw [List.mem_singleton.mp hy];omega),WI.start g1.fin g2.fin⟩,?_⟩
    rintro m σ H1 ⟨F,W,v4,v5,rfl,s1,hd1,hw1,rfl,hF30,hW100,hF40,hW300,hI⟩
    refine ⟨_,rfl,_,.inl ⟨_,SqL.of hw1,rfl⟩,?_⟩
    refine ite2 (fun hc=>?_) (fun hc=>?_)
    · -- a text is cut
      have hne:W≠[]:=fun z=>by rw [z] at hc;exact absurd hc (by decide)
      obtain ⟨x,e⟩:∃ x,W=W.dropLast++[x]:=⟨W.getLast hne,(List.dropLast_concat_getLast hne).symm⟩
      generalize W.dropLast=W0 at e
      subst e
      have lW:(W0++[x]).length=W0.length+1:=by rw [List.length_append];rfl
      have elast:((W0++[x]).map tx)[((W0++[x]).map tx).length - 1]? = some (tx x):=by
        rw [List.length_map,lW,List.map_append,Nat.add_sub_cancel,List.getElem?_append_right (by rw [List.length_map];exact Nat.le_refl _),List.length_map,Nat.sub_self]
        rfl
      have edrop:((W0++[x]).map tx).dropLast=W0.map tx:=by rw [List.map_append];exact List.dropLast_concat
      refine ⟨fun σ' H'=>∃ (F' W':List (List Nat)) (v4 v5:Option V),σ'=[some (.ref t1),some (.ref t2),some (.ref d),some (.ref Lw),v4,v5]∧Same H H'∧H' d=some (.dK (dkT F'))∧H' Lw=some (.lst (W'.map tx))∧W'.length+F.length=W0.length+F'.length∧F.length≤F'.length∧F'.length≤30∧(∀ p∈F',p.length≤40)∧(∀ y∈W',y.length≤300)∧WI rs1 rs2 f0 none F' W',?_,?_⟩
      · rintro σ' H' ⟨F',W',v4,v5,rfl,a1,a2,a3,a4,a5,a6,a7,a8,a9⟩
        exact ⟨W'.length+(30 - F'.length),by omega,F',W',v4,v5,rfl,a1,a2,a3,rfl,a6,by omega,a7,a8,a9⟩
      refine ⟨_,rfl,_,rfl,_,rfl,.inl ⟨rfl,_,SqL.of hw1⟩,Lw,_,_,rfl,rfl,hw1,elast,?_⟩
      rw [edrop]
      have s2:Same H (upd H1 Lw (.lst (W0.map tx))):=same_upd s1 nLw0
      have hd2:upd H1 Lw (.lst (W0.map tx)) d=some (.dK (dkT F)):=by rw [upd_ne hdL];exact hd1
      have hw2:upd H1 Lw (.lst (W0.map tx)) Lw=some (.lst (W0.map tx)):=upd_same
      revert s2 hd2 hw2
      generalize upd H1 Lw (.lst (W0.map tx))=H2
      intro s2 hd2 hw2
      have hxm:x∈W0++[x]:=List.mem_append_right _ List.mem_cons_self
      refine ⟨t1,t2,f0,f0,rs1,rs2,x,rfl,hB1.mono (TupS.same s2),hB2.mono (TupS.same s2),g1,g2,hI.wt x hxm,hW300 x hxm,fun H3 s3 hn=>?_,fun Lp t H3 s3 nLp hLp ht=>?_⟩
      · refine ⟨_,rfl,rfl,_,rfl,iteT ?_⟩
        exact kn H3 (s2.trans s3) fun Q' hQ' _ _=>by
          obtain ⟨t,h1,_⟩:=hI.cuts hQ'
          rw [hn] at h1
          cases h1
      · refine ⟨_,rfl,rfl,_,rfl,iteF ?_⟩
        have hd3:=s3 _ _ hd2
        have hw3:=s3 _ _ hw2
        obtain ⟨c1,c2,c3⟩:=cutR_ok ht
        have hx3:=hW300 x hxm
        have tin:∀ p∈t,∀ c∈p,c∈ltr rs1∧c∈ltr rs2:=fun p hp c hc=>hI.wt x hxm c (by rw [← c1];exact List.mem_flatten.mpr ⟨p,hp,hc⟩)
        have tQ:∀ Q',CC rs1 rs2 f0 Q'→∀ p∈t,p∈Q':=fun Q' hQ'=>by
          obtain ⟨t',h1,h2⟩:=hI.cuts hQ'
          rw [ht] at h1
          cases h1
          exact h2
        have npd:Lp≠d:=(ne_of_none hd2 nLp).symm
        have npw:Lp≠Lw:=(ne_of_none hw2 nLp).symm
        refine ⟨_,rfl,Lp,rfl,⟨_,SqL.of hLp⟩,?_⟩
        refine for_by (sure_list (xs:=t.map tx)) (fun i σ' H'=>∃ (F' W':List (List Nat)) (v5:Option V),σ'=[some (.ref t1),some (.ref t2),some (.ref d),some (.ref Lw),some (.ref Lp),v5]∧Same H H'∧H' d=some (.dK (dkT F'))∧H' Lw=some (.lst (W'.map tx))∧H' Lp=some (.lst (t.map tx))∧W'.length+F.length=W0.length+F'.length∧F.length≤F'.length∧F'.length≤F.length+i∧(∀ p∈F',p∈F∨p∈t)∧(∀ y∈W',y∈W0∨∃ p∈t,y=nxt rs1 p)∧(∀ p∈t.take i,p∈F')∧WI rs1 rs2 f0 (some x) F' W')
          ⟨F,W0,_,rfl,s2.trans s3,hd3,hw3,hLp,by omega,Nat.le_refl _,by omega,fun p hp=>.inl hp,fun y hy=>.inl hy,(fun p hp=>by cases hp),hI.pop⟩ ?_ ?_ ?_
        · rintro i σ' H' hi ⟨_,_,_,_,_,_,_,h,_⟩
          exact SqL.of h
        · rintro i y σ' H4 hy ⟨F',W',v5',rfl,s4,hd4,hw4,hp4,k1,k2,k3,k4,k5,k6,k7⟩
          rw [List.getElem?_map] at hy
          cases e:t[i]? with
          | none=>rw [e] at hy;cases hy
          | some p =>
            rw [e] at hy
            cases hy
            have hpt:=List.mem_of_getElem? e
            have hil:=(List.getElem?_eq_some_iff.mp e).1
            obtain ⟨p0,p1,p2⟩:=c3 p hpt
            have hg:=DGet.k (k:=txK p) hd4
            have htk:∀ q∈t.take (i+1),q∈t.take i∨q=p:=fun q hq=>by
              rw [List.take_add_one,e] at hq
              rcases List.mem_append.mp hq with h | h
              · exact .inl h
              · exact .inr (by simpa using h)
            refine ⟨_,rfl,_,rfl,d,_,rfl,hg,_,rfl,?_⟩
            rw [dkT_some]
            by_cases hm:p∈F'
            · rw [decide_eq_true hm]
              refine iteF ⟨F',W',_,rfl,s4,hd4,hw4,hp4,k1,k2,by omega,k4,k5,fun q hq=>?_,k7⟩
              rcases htk q hq with h | rfl
              · exact k6 q h
              · exact hm
            · rw [decide_eq_false hm]
              refine iteT ⟨_,rfl,_,rfl,d,_,rfl,DPut.k (k:=txK p) hd4 (small1000 (by rw [dkT_len];omega)),?_⟩
              rw [dkT_put hm]
              have s5:Same H (upd H4 d (.dK (dkT (F'++[p])))):=same_upd s4 nd0
              have hd5:upd H4 d (.dK (dkT (F'++[p]))) d=some (.dK (dkT (F'++[p]))):=upd_same
              have hw5:upd H4 d (.dK (dkT (F'++[p]))) Lw=some (.lst (W'.map tx)):=by rw [upd_ne hdL.symm];exact hw4
              have hp5:upd H4 d (.dK (dkT (F'++[p]))) Lp=some (.lst (t.map tx)):=by rw [upd_ne npd];exact hp4
              revert s5 hd5 hw5 hp5
              generalize upd H4 d (.dK (dkT (F'++[p])))=H5
              intro s5 hd5 hw5 hp5
              refine ⟨_,rfl,.inl ⟨rfl,_,SqL.of hw5⟩,_,rfl,?_⟩
              refine dict_read rfl (hB1.mono (TupS.same s5)) g1 fun dd H6 s6 n6 e6=>?_
              refine ⟨p,dd,f0,rs1,rfl,g1,e6,by omega,fun c hc=>(tin p hpt c hc).1,fun H7 s7=>?_⟩
              have s57:=s6.trans s7
              have hw7:=s57 _ _ hw5
              refine ⟨Lw,_,_,rfl,rfl,hw7,szl (by rw [List.length_map];omega),F'++[p],W'++[nxt rs1 p],_,rfl,same_upd (s5.trans s57) nLw0,by rw [upd_ne hdL];exact s57 _ _ hd5,by rw [upd_same,List.map_append];rfl,by rw [upd_ne npw];exact s57 _ _ hp5,by rw [List.length_append,List.length_append];show _+1+_=_+(_+1);omega,by rw [List.length_append];omega,by rw [List.length_append];show _+1≤_;omega,fun q hq=>?_,fun y hy=>?_,fun q hq=>?_,k7.new g1 g2 hm p0 p2 (tin p hpt) fun Q' hQ'=>tQ Q' hQ' p hpt⟩
              · rcases List.mem_append.mp hq with h | h
                · exact k4 q h
                · rw [List.mem_singleton.mp h];exact .inr hpt
              · rcases List.mem_append.mp hy with h | h
                · exact k5 y h
                · exact .inr ⟨p,hpt,List.mem_singleton.mp h⟩
              · rcases htk q hq with h | rfl
                · exact List.mem_append_left _ (k6 q h)
                · exact List.mem_append_right _ List.mem_cons_self
        · rintro σ' H4 ⟨F',W',v5',rfl,s4,hd4,hw4,hp4,k1,k2,k3,k4,k5,k6,k7⟩
          rw [List.length_map,List.take_length] at k6
          have k8:=k7.shut ht k6
          refine ⟨_,rfl,d,_,rfl,hd4,_,_,rfl,rfl,_,rfl,?_⟩
          rw [dkT_len]
          refine ite2 (fun hc2=>iteT ?_) (fun hc2=>?_)
          · have h31:30 < F'.length:=by have:=of_decide_eq_true hc2;omega
            exact kn H4 s4 fun Q' hQ' hl _=>by
              have:=nodup_len k8.nd (k8.cn Q' hQ').1
              omega
          · have h30:F'.length≤30:=by
              by_cases z:F'.length≤30
              · exact z
              · exact absurd (decide_eq_true (show (30:Int) < (F'.length:Int) by omega)) hc2
            refine ⟨_,rfl,Lp,rfl,⟨_,SqL.of hp4⟩,?_⟩
            refine comp_allR (τ0:=[none]) (sure_list (xs:=t.map tx)) (by rw [List.length_map];omega) (fun i ys τ H'=>H'=H4∧(∃ v,τ=[v])∧ys=((t.take i).map fun p=>decide ((40:Int) < (p.length:Int))).map V.bl) ⟨rfl,⟨_,rfl⟩,rfl⟩ ?_ ?_ ?_
            · rintro i ys τ H' hi ⟨rfl,_,rfl⟩
              exact ⟨SqL.of hp4,by rw [List.length_map,List.length_map,List.length_take];omega⟩
            · rintro i y ys τ H' hy ⟨rfl,⟨v,rfl⟩,rfl⟩
              rw [List.getElem?_map] at hy
              cases e:t[i]? with
              | none=>rw [e] at hy;cases hy
              | some p =>
                rw [e] at hy
                cases hy
                obtain ⟨p0,p1,p2⟩:=c3 p (List.mem_of_getElem? e)
                refine ⟨_,rfl,⟨p.toArray⟩,rfl,szl (show p.length≤1000 by omega),_,_,rfl,rfl,rfl,⟨_,rfl⟩,?_⟩
                rw [take_snoc (fun p=>decide ((40:Int) < (p.length:Int))) e,List.map_append]
                rfl
            · rintro ys τ H' D ⟨rfl,_,rfl⟩ nD
              rw [List.length_map,List.take_length]
              refine ⟨D,_,rfl,SqL.of upd_same,_,rfl,?_⟩
              have sD:=Same.add (o:=.lst ((t.map fun p=>decide ((40:Int) < (p.length:Int))).map V.bl)) nD
              refine ite2 (fun hc3=>?_) (fun hc3=>?_)
              · obtain ⟨b,hb,hb2⟩:=List.any_eq_true.mp hc3
                obtain ⟨p,hp,rfl⟩:=List.mem_map.mp hb
                have h41:(40:Int) < (p.length:Int):=of_decide_eq_true hb2
                exact kn _ (s4.trans sD) fun Q' hQ' _ h40=>by
                  have:=h40 p (tQ Q' hQ' p hp)
                  omega
              · have t40:∀ p∈t,p.length≤40:=fun p hp=>by
                  by_cases z:p.length≤40
                  · exact z
                  · have:(t.map fun p=>decide ((40:Int) < (p.length:Int))).any id=true:=List.any_eq_true.mpr ⟨decide ((40:Int) < (p.length:Int)),List.mem_map.mpr ⟨p,hp,rfl⟩,decide_eq_true (show (40:Int) < (p.length:Int) by omega)⟩
                    exact absurd this hc3
                refine ⟨F',W',_,_,rfl,s4.trans sD,sD _ _ hd4,sD _ _ hw4,k1,k2,h30,fun p hp=>(k4 p hp).elim (hF40 p) (t40 p),fun y hy=>?_,k8⟩
                rcases k5 y hy with h | ⟨p,hp,rfl⟩
                · exact hW300 y (List.mem_append_left _ h)
                · have h1:=nxt_le6 g1 fun c hc=>(tin p hp c hc).1
                  have h2:=t40 p hp
                  omega
    · -- none waits
      have hW:W=[]:=by
        cases W with
        | nil=>rfl
        | cons a r=>exact absurd rfl hc
      subst hW
      have keys:(dkT F).map (·.1)=(F.map fun x=>(⟨x.toArray⟩:Str)).map Sum.inr:=by
        unfold dkT
        rw [List.map_map,List.map_map]
        rfl
      refine ⟨_,rfl,d,_,_,rfl,hd1,keys,by rw [dkT_len];omega,fun L ss' nL hperm hsort=>?_⟩
      obtain ⟨t,ht,rfl⟩:=perm_txs hperm
      have es:(t.map fun x=>(⟨x.toArray⟩:Str)).map V.str=t.map tx:=by rw [List.map_map];rfl
      rw [es]
      refine kt L t _ (s1.trans (Same.add nL)) (s1.free nL) upd_same ?_
      have hcc:=hI.done
      have hmem:∀ p,p∈t ↔ p∈F:=fun p=>ht.mem_iff
      refine ⟨⟨?_,fun q hq=>?_,fun q hq=>hcc.eq q ((hmem q).mp hq)⟩,by rw [ht.length_eq];exact hF30,fun p hp=>hF40 p ((hmem p).mp hp),fun p hp=>(hI.pc p ((hmem p).mp hp)).2.2,ht.nodup_iff.mpr hI.nd,hsort⟩
      · obtain ⟨t',h1,h2⟩:=hcc.first
        exact ⟨t',h1,fun p hp=>(hmem p).mpr (h2 p hp)⟩
      · obtain ⟨t',h1,h2⟩:=hcc.nx q ((hmem q).mp hq)
        exact ⟨t',h1,fun p hp=>(hmem p).mpr (h2 p hp)⟩
end
end Lw
namespace Lw
open PySem L2 PyProof.Rows
abbrev bmV:List Value:=[.type "ValueError",.type "Exception",.type "BaseException",.type "object"]
theorem szm {n:Nat} (h:n≤10000):n≤sizeLine:=Nat.le_trans h (by decide)
theorem seq_by {a u:L2.TS} {D:Ends} {σ:L2.St} {H:Hp} (Inv:L2.St→Hp→Prop) (h:∀ nx:L2.St→Hp→Prop,(∀ σ' H',Inv σ' H'→nx σ' H')→a { D with nx:=nx } σ H) (k:∀ σ' H',Inv σ' H'→u D σ' H'):tSeq a u D σ H:=h _ k
structure PartAt (rs1 rs2:List Rule) (f1 f2:List Nat) (n:Nat):Prop where
  ne:rowN rs1 f1 n≠rowN rs2 f2 n
  eq:∀ m,m < n→rowN rs1 f1 m=rowN rs2 f2 m
  le:n≤300
def PartNo (rs1 rs2:List Rule) (f1 f2:List Nat):Prop:=∃ M,(∀ m,m≤M→rowN rs1 f1 m=rowN rs2 f2 m)∧(600 < (rowN rs1 f1 M).length∨M=300)
def NoCC (rs1 rs2:List Rule) (f:List Nat):Prop:=∀ Q,CC rs1 rs2 f Q→Q.length≤30→¬ ∀ q∈Q,q.length≤40
section
variable {P:Program} {w:World} {K:PySem.W.Frag} {mg:Str→Option Value} {base:Heap}
def spPag:Sp:=fun vs H Q _=>∃ (t1 t2:Addr) (f1 f2:List Nat) (rs1 rs2:List Rule),vs=[.ref t1,.ref t2]∧BookAt H t1 f1 rs1∧BookAt H t2 f2 rs2∧Bk f1 rs1∧Bk f2 rs2 ∧
  (∀ H',Same H H'→PartNo rs1 rs2 f1 f2→Q .non H')∧∀ n H',Same H H'→PartAt rs1 rs2 f1 f2 n→Q (.int (n:Int)) H'
theorem scPag:FnScope ["one","other","ones","others","age"] ["one","other"] (defScope sPag):=⟨rfl,rfl,rfl,by decide +kernel,rfl,by decide +kernel,by decide +kernel⟩
theorem ok_pag {f fTrn:Addr} {fd fdTrn:FuncData} (F:Fun K "parting_age" "parting_age" sPag f fd)
    (GTrn:FnOk P w K mg base CX0 2 fTrn fdTrn ["book","text"] spTrn)
    (gTrn:Gf K mg "turned" fTrn fdTrn ["book","text"])
    (hlen:mg "len" = none)
    (hrange:mg "range" = none)
    {tkLAST_AGE:Tok} (hLAST_AGE:mg "LAST_AGE" = some (.int 300 tkLAST_AGE))
    {tkLONGEST_ROW:Tok} (hLONGEST_ROW:mg "LONGEST_ROW" = some (.int 600 tkLONGEST_ROW))
    : FnOk P w K mg base CX0 3 f fd ["one","other"] spPag:=by
  refine F.ok scPag (fun vs H Q E h=>?_) (fun cdv A outer s H vs Q E hr h=>?_)
  · obtain ⟨t1,t2,f1,f2,rs1,rs2,rfl,_⟩:=h
    rfl
  · obtain ⟨t1,t2,f1,f2,rs1,rs2,rfl,hB1,hB2,g1,g2,kn,kt⟩:=h
    refine ⟨_,(pss_cons (ps_set (i:=2) scPag.nd rfl (Or.inl rfl) (pe_ix (ix_tupK K) (pv 0) pe_int (fun _ _=>rfl)))
      (pss_cons (ps_set (i:=3) scPag.nd rfl (Or.inl rfl) (pe_ix (ix_tupK K) (pv 1) pe_int (fun _ _=>rfl)))
      (pss_cons (ps_for PassesOwn.never rfl (pi_range1 rfl hrange (pa_cons (pe_op op_add (pe_glob (v:=.int 300) (by rfl) hLAST_AGE ⟨_,rfl⟩) pe_int) pa_nil)) (pg_name (i:=4) scPag.nd rfl (Or.inl rfl)) (pss_cons (ps_if (pt_cmpR op_ne (pv 2) (pv 3) (nomark _)) (pss_one (ps_ret (pv 4))) pss_nil)
      (pss_cons (ps_if (pt_cmpR op_gt (pe_callB call_len_str (by rfl) hlen PySem.boot_len (pa_cons (pv 2) pa_nil)) (pe_glob (v:=.int 600) (by rfl) hLONGEST_ROW ⟨_,rfl⟩) (nomark _)) (pss_one (ps_ret pe_non)) pss_nil)
      (pss_cons (ps_set (i:=2) scPag.nd rfl (Or.inl rfl) (pe_call GTrn hr rfl gTrn.m gTrn.k gTrn.b .nil pass0 (pa_cons (pv 0) (pa_cons (pv 2) pa_nil))))
      (pss_one (ps_set (i:=3) scPag.nd rfl (Or.inl rfl) (pe_call GTrn hr rfl gTrn.m gTrn.k gTrn.b .nil pass0 (pa_cons (pv 1) (pa_cons (pv 3) pa_nil)))))))))
      (pss_one (ps_ret pe_non))))),?_⟩
    have l1:=g1.fl
    have l2:=g2.fl
    obtain ⟨r1,ps1,a1,a2,a3⟩:=hB1.ex
    obtain ⟨r2,ps2,c1,c2,c3⟩:=hB2.ex
    refine ⟨_,rfl,t1,_,_,_,rfl,rfl,SqT.of a1,atI_nat (j:=0) rfl,?_⟩
    refine ⟨_,rfl,t2,_,_,_,rfl,rfl,SqT.of c1,atI_nat (j:=0) rfl,?_⟩
    refine ⟨_,_,rfl,rfl,_,rfl,by decide,by decide,?_⟩
    refine for_by (sure_range (lo:=0) (n:=301)) (fun i σ H'=>∃ v4,σ=[some (.ref t1),some (.ref t2),some (tx (rowN rs1 f1 i)),some (tx (rowN rs2 f2 i)),v4]∧Same H H'∧i≤301∧(∀ m,m < i→rowN rs1 f1 m=rowN rs2 f2 m)∧(rowN rs1 f1 i).length≤3600∧(rowN rs2 f2 i).length≤3600)
      ⟨_,rfl,Same.refl _,by decide,fun m hm=>by omega,(show f1.length≤3600 by omega),(show f2.length≤3600 by omega)⟩ (fun _ _ _ _ _=>trivial) ?_ ?_
    · rintro i y σ H1 hy ⟨v4,rfl,s1,hi,heq,hl1,hl2⟩
      obtain ⟨hi3,rfl⟩:=rng_get hy
      refine ⟨_,rfl,_,rfl,rfl,_,rfl,?_⟩
      by_cases he:rowN rs1 f1 i=rowN rs2 f2 i
      · rw [← he,dec_tx,beq_self_eq_true]
        refine iteF ⟨_,rfl,⟨(rowN rs1 f1 i).toArray⟩,rfl,szm (show (rowN rs1 f1 i).length≤10000 by omega),_,_,rfl,rfl,_,rfl,ite2 (fun hc=>?_) (fun hc=>?_)⟩
        · have h6:(600:Int) < ((rowN rs1 f1 i).length:Int):=of_decide_eq_true hc
          refine kn H1 s1 ⟨i,fun m hm=>?_,.inl (by omega)⟩
          by_cases e:m=i
          · rw [e];exact he
          · exact heq m (by omega)
        · have h6:(rowN rs1 f1 i).length≤600:=by
            by_cases z:(rowN rs1 f1 i).length≤600
            · exact z
            · exact absurd (decide_eq_true (show (600:Int) < ((rowN rs1 f1 i).length:Int) by omega)) hc
          have i1:=rowN_inB g1 g1.fin i
          have i2:=rowN_inB g2 g2.fin i
          rw [← he] at i2
          refine ⟨_,rfl,_,rfl,t1,f1,rs1,_,rfl,hB1.mono (TupS.same s1),g1,h6,i1,fun H2 s2=>?_⟩
          refine ⟨_,rfl,_,rfl,t2,f2,rs2,_,rfl,hB2.mono (TupS.same (s1.trans s2)),g2,h6,i2,fun H3 s3=>?_⟩
          have n1:=nxt_le6 g1 i1
          have n2:=nxt_le6 g2 i2
          refine ⟨some (.int (i:Int)),?_,s1.trans (s2.trans s3),by omega,fun m hm=>?_,?_,?_⟩
          · show _=[some (.ref t1),some (.ref t2),some (tx (nxt rs1 (rowN rs1 f1 i))),some (tx (nxt rs2 (rowN rs2 f2 i))),some (.int (i:Int))]
            rw [← he]
            rfl
          · by_cases e:m=i
            · rw [e];exact he
            · exact heq m (by omega)
          · show (nxt rs1 (rowN rs1 f1 i)).length≤_
            omega
          · show (nxt rs2 (rowN rs2 f2 i)).length≤_
            rw [← he]
            omega
      · rw [dec_tx,beq_eq_false_iff_ne.mpr he]
        exact iteT ⟨_,rfl,kt i H1 s1 ⟨he,heq,by omega⟩⟩
    · rintro σ H1 ⟨v4,rfl,s1,hi,heq,hl1,hl2⟩
      rw [rngV_length] at heq
      exact kn H1 s1 ⟨300,fun m hm=>heq m (by omega),.inr rfl⟩
def spRalX (cT:Addr):Sp:=fun vs H Q E=>∃ (t1 t2:Addr) (f1 f2:List Nat) (rs1 rs2:List Rule),vs=[.ref t1,.ref t2]∧BookAt H t1 f1 rs1∧BookAt H t2 f2 rs2∧Bk f1 rs1∧Bk f2 rs2 ∧
  (∀ T L t H',Same H H'→H T=none→H L=none→H' T=some (.tup [.str (Str.ofString "alike"),.ref L])→H' L=some (.lst (t.map tx))→f1=f2→Pcs rs1 rs2 f1 t→Q (.ref T) H') ∧
  (∀ T n H',Same H H'→H T=none→H' T=some (.tup [.str (Str.ofString "part"),.int ((n:Nat):Int)])→PartAt rs1 rs2 f1 f2 n→Q (.ref T) H') ∧
  ∀ H',Same H H'→PartNo rs1 rs2 f1 f2→(f1=f2→NoCC rs1 rs2 f1)→E (.ref cT) none H'
theorem scRal:FnScope ["one","other","parts","age"] ["one","other"] (defScope sRal):=⟨rfl,rfl,rfl,by decide +kernel,rfl,by decide +kernel,by decide +kernel⟩
theorem ok_ralx {f fPag fPcu:Addr} {fd fdPag fdPcu:FuncData} (F:Fun K "rows_alike" "rows_alike" sRal f fd)
    (GPag:FnOk P w K mg base CX0 3 fPag fdPag ["one","other"] spPag)
    (gPag:Gf K mg "parting_age" fPag fdPag ["one","other"])
    (GPcu:FnOk P w K mg base CX0 3 fPcu fdPcu ["one","other"] spPcu)
    (gPcu:Gf K mg "plain_cutting" fPcu fdPcu ["one","other"])
    {cTooMany:Addr} (oTooMany:OwnCls "TooMany" cTooMany bmV "ValueError.__new__" mg base)
    : FnOk P w K mg base (CX1 P w) 4 f fd ["one","other"] (spRalX cTooMany):=by
  refine F.ok1 scRal (fun vs H Q E h=>?_) (fun cdv A outer s H vs Q E hr h=>?_)
  · obtain ⟨t1,t2,f1,f2,rs1,rs2,rfl,_⟩:=h
    rfl
  · obtain ⟨t1,t2,f1,f2,rs1,rs2,rfl,hB1,hB2,g1,g2,ka,kp,km⟩:=h
    refine ⟨_,(pss_cons (ps_if (pt_cmpR op_eq (pe_ix (ix_tupK K) (pv 0) pe_int (fun _ _=>rfl)) (pe_ix (ix_tupK K) (pv 1) pe_int (fun _ _=>rfl)) (nomark _)) (pss_cons (ps_set (i:=2) scRal.nd rfl (Or.inl rfl) (pe_call GPcu hr rfl gPcu.m gPcu.k gPcu.b .nil pass0 (pa_cons (pv 0) (pa_cons (pv 1) pa_nil))))
      (pss_one (ps_if (pt_cmpR op_notN (pv 2) pe_non (nomark _)) (pss_one (ps_ret (pe_tup (pa_cons pe_str (pa_cons (pv 2) pa_nil))))) pss_nil))) pss_nil)
      (pss_cons (ps_set (i:=3) scRal.nd rfl (Or.inl rfl) (pe_call GPag hr rfl gPag.m gPag.k gPag.b .nil pass0 (pa_cons (pv 0) (pa_cons (pv 1) pa_nil))))
      (pss_cons (ps_if (pt_cmpR op_isN (pv 3) pe_non (nomark _)) (pss_one (ps_raise oTooMany PySem.F.excBase_ValueError rfl (pa_cons pe_str pa_nil))) pss_nil)
      (pss_one (ps_ret (pe_tup (pa_cons pe_str (pa_cons (pv 3) pa_nil)))))))),?_⟩
    obtain ⟨r1,ps1,a1,a2,a3⟩:=hB1.ex
    obtain ⟨r2,ps2,c1,c2,c3⟩:=hB2.ex
    refine seq_by (fun σ H'=>∃ v2,σ=[some (.ref t1),some (.ref t2),v2,none]∧Same H H'∧(f1=f2→NoCC rs1 rs2 f1)) (fun nx hn=>?_) ?_
    · refine ⟨_,rfl,t1,_,_,_,rfl,rfl,SqT.of a1,atI_nat (j:=0) rfl,_,rfl,t2,_,_,_,rfl,rfl,SqT.of c1,atI_nat (j:=0) rfl,rfl,_,rfl,?_⟩
      rw [dec_tx]
      by_cases he:f1=f2
      · subst he
        rw [beq_self_eq_true]
        refine iteT ⟨_,rfl,_,rfl,t1,t2,f1,rs1,rs2,rfl,hB1,hB2,g1,g2,fun H1 s1 hno=>?_,fun L t H1 s1 nL hL hP=>?_⟩
        · exact ⟨_,rfl,rfl,_,rfl,iteF (hn _ _ ⟨_,rfl,s1,fun _=>hno⟩)⟩
        · refine ⟨_,rfl,rfl,_,rfl,iteT ⟨_,rfl,szl (show 2≤1000 by decide),fun T nT=>?_⟩⟩
          have sT:=Same.add (o:=.tup [.str (Str.ofString "alike"),.ref L]) nT
          exact ka T L t _ (s1.trans sT) (s1.free nT) nL upd_same (sT _ _ hL) rfl hP
      · rw [beq_eq_false_iff_ne.mpr he]
        exact iteF (hn _ _ ⟨_,rfl,Same.refl _,fun z=>absurd z he⟩)
    · rintro σ H1 ⟨v2,rfl,s1,hno⟩
      refine ⟨_,rfl,_,rfl,t1,t2,f1,f2,rs1,rs2,rfl,hB1.mono (TupS.same s1),hB2.mono (TupS.same s1),g1,g2,fun H2 s2 hN=>?_,fun n H2 s2 hA=>?_⟩
      · exact ⟨_,rfl,rfl,_,rfl,iteT ⟨by decide,km _ (s1.trans s2) hN hno⟩⟩
      · refine ⟨_,rfl,rfl,_,rfl,iteF ⟨_,rfl,szl (show 2≤1000 by decide),fun T nT=>?_⟩⟩
        exact kp T n _ (s1.trans (s2.trans (Same.add nT))) ((s1.trans s2).free nT) upd_same hA
end
end Lw
namespace Lw
open PySem L2 PyProof.Rows
theorem tx_app (a b:List Nat):((⟨a.toArray⟩:Str)++(⟨b.toArray⟩:Str))=⟨(a++b).toArray⟩:=by
  show (⟨a.toArray++b.toArray⟩:Str)=_
  congr 1
  apply Array.ext'
  simp
theorem wd_nxt (rs:List Rule) (y:List Nat) (c:Nat):nxt rs y++wd rs c=nxt rs (y++[c]):=by
  rw [nxt_app]
  unfold nxt
  simp
theorem drop_snoc {x:List Nat} {i s c:Nat} (h:x[i]? = some c) (hs:s≤i):(x.take i).drop s++[c]=(x.take (i+1)).drop s:=by
  have hi:=(List.getElem?_eq_some_iff.mp h).1
  have e:x.take (i+1)=x.take i++[c]:=by rw [List.take_add_one,h];rfl
  rw [e,List.drop_append_of_le_length (by rw [List.length_take];omega)]
section
variable {P:Program} {w:World} {K:PySem.W.Frag} {mg:Str→Option Value} {base:Heap}
def spCus:Sp:=fun vs H Q _=>∃ (d1 d2:Addr) (f1 f2:List Nat) (rs1 rs2:List Rule) (x:List Nat),vs=[.ref d1,.ref d2,tx x]∧H d1=some (.dK (kvw rs1))∧H d2=some (.dK (kvw rs2))∧Bk f1 rs1∧Bk f2 rs2∧(∀ c∈x,c∈ltr rs1∧c∈ltr rs2)∧x.length≤100 ∧
  (∀ H',Same H H'→cutR rs1 rs2 x=none→Q .non H')∧∀ L t H',Same H H'→H L=none→H' L=some (.lst (t.map tx))→cutR rs1 rs2 x=some t→Q (.ref L) H'
theorem scCus:FnScope ["_law_words","_law_others","_law_signs_here","_law_found","_law_begin","_law_mine","_law_theirs","_law_at"] ["_law_words","_law_others","_law_signs_here"] (defScope sCus):=⟨rfl,rfl,rfl,by decide +kernel,rfl,by decide +kernel,by decide +kernel⟩
theorem ok_cus {f:Addr} {fd:FuncData} (F:Fun K "_law_cuts" "_law_cuts" sCus f fd)
    (hlen:mg "len" = none)
    (hrange:mg "range" = none)
    : FnOk P w K mg base CX0 1 f fd ["_law_words","_law_others","_law_signs_here"] spCus:=by
  refine F.ok scCus (fun vs H Q E h=>?_) (fun cdv A outer s H vs Q E hr h=>?_)
  · obtain ⟨d1,d2,f1,f2,rs1,rs2,x,rfl,_⟩:=h
    rfl
  · obtain ⟨d1,d2,f1,f2,rs1,rs2,x,rfl,h1,h2,g1,g2,hin,hx,kn,kt⟩:=h
    have hu:=hu_of hr
    refine ⟨_,(pss_cons (ps_set (i:=3) scCus.nd rfl (Or.inl rfl) (pe_lst pa_nil))
      (pss_cons (ps_set (i:=4) scCus.nd rfl (Or.inl rfl) pe_int)
      (pss_cons (ps_set (i:=5) scCus.nd rfl (Or.inl rfl) pe_str)
      (pss_cons (ps_set (i:=6) scCus.nd rfl (Or.inl rfl) pe_str)
      (pss_cons (ps_for PassesOwn.never rfl (pi_range1 rfl hrange (pa_cons (pe_callB call_len_str (by rfl) hlen PySem.boot_len (pa_cons (pv 2) pa_nil)) pa_nil)) (pg_name (i:=7) scCus.nd rfl (Or.inl rfl)) (pss_cons (ps_set (i:=5) scCus.nd rfl (Or.inl rfl) (pe_op op_add_str (pv 5) (pe_dget hu (pv 0) (pe_ix ix_str (pv 2) (pv 7) (fun _ _=>rfl)) (fun _ _=>rfl))))
      (pss_cons (ps_set (i:=6) scCus.nd rfl (Or.inl rfl) (pe_op op_add_str (pv 6) (pe_dget hu (pv 1) (pe_ix ix_str (pv 2) (pv 7) (fun _ _=>rfl)) (fun _ _=>rfl))))
      (pss_one (ps_if (pt_cmpR op_eq (pv 5) (pv 6) (nomark _)) (pss_cons (ps_expr (pe_bmK K PySem.F.plainAttrs_list PySem.F.slot_list_append PySem.F.type_list_append mt_append (pv 3) (pa_cons (pe_slice sl_str (pv 2) (po_some (pv 4)) (po_some (pe_op op_add (pv 7) pe_int))) pa_nil)))
      (pss_cons (ps_set (i:=4) scCus.nd rfl (Or.inl rfl) (pe_op op_add (pv 7) pe_int))
      (pss_cons (ps_set (i:=5) scCus.nd rfl (Or.inl rfl) pe_str)
      (pss_one (ps_set (i:=6) scCus.nd rfl (Or.inl rfl) pe_str))))) pss_nil)))))
      (pss_cons (ps_if (pt_cmpR op_lt (pv 4) (pe_callB call_len_str (by rfl) hlen PySem.boot_len (pa_cons (pv 2) pa_nil)) (nomark _)) (pss_one (ps_ret pe_non)) pss_nil)
      (pss_one (ps_ret (pv 3))))))))),?_⟩
    have ex:((⟨x.toArray⟩:Str).length:Nat)=x.length:=rfl
    refine ⟨szl (show 0≤1000 by decide),fun L nL=>?_⟩
    have sL:=Same.add (o:=.lst []) nL
    refine ⟨_,rfl,⟨x.toArray⟩,rfl,szl (by rw [ex];omega),_,rfl,by rw [ex];omega,by rw [ex];omega,?_⟩
    rw [ex,Int.toNat_natCast]
    refine for_by (sure_range (lo:=0) (n:=x.length)) (fun i σ H'=>∃ v7,σ=[some (.ref d1),some (.ref d2),some (tx x),some (.ref L),some (.int ((cutS rs1 rs2 x i).2:Int)),some (tx (nxt rs1 ((x.take i).drop (cutS rs1 rs2 x i).2))),some (tx (nxt rs2 ((x.take i).drop (cutS rs1 rs2 x i).2))),v7]∧Same H H'∧H' L=some (.lst ((cutS rs1 rs2 x i).1.map tx)))
      ⟨_,rfl,sL,upd_same⟩ (fun _ _ _ _ _=>trivial) ?_ ?_
    · rintro i y σ H3 hy ⟨v7,rfl,s3,hL⟩
      obtain ⟨hi,rfl⟩:=rng_get hy
      obtain ⟨c1,c2,c3,c4⟩:=cutS_ok rs1 rs2 x i (by omega)
      have hs:=cutS_succ rs1 rs2 x i
      revert hs c1 c2 c3 c4 hL
      generalize cutS rs1 rs2 x i=cs
      obtain ⟨t,st⟩:=cs
      dsimp only
      intro hL c1 c2 c3 c4 hs
      have hc:x[i]? = some x[i]:=List.getElem?_eq_getElem hi
      have hci:=hin x[i] (List.getElem_mem hi)
      have hcx:(⟨x.toArray⟩:Str).cps.toList[i]? = some x[i]:=hc
      have hpart:∀ c∈(x.take i).drop st,c∈ltr rs1∧c∈ltr rs2:=fun c hc=>hin c (List.mem_of_mem_take (List.mem_of_mem_drop hc))
      have hpl:((x.take i).drop st).length≤100:=by rw [List.length_drop,List.length_take];omega
      have n1:=nxt_le6 g1 fun c hc=>(hpart c hc).1
      have n2:=nxt_le6 g2 fun c hc=>(hpart c hc).2
      have w1:=wd_le6 g1 hci.1
      have w2:=wd_le6 g2 hci.2
      have hg1:=DGet.k (k:=(Sum.inr (one x[i]):Key)) (s3 _ _ h1)
      have hg2:=DGet.k (k:=(Sum.inr (one x[i]):Key)) (s3 _ _ h2)
      rw [kvw_wd g1.nd hci.1] at hg1
      rw [kvw_wd g2.nd hci.2] at hg2
      have hsn:=drop_snoc hc c1
      refine ⟨_,rfl,_,rfl,_,rfl,_,rfl,⟨x.toArray⟩,_,_,rfl,rfl,szl (by rw [ex];omega),atI_nat hcx,d1,_,rfl,hg1,⟨(nxt rs1 ((x.take i).drop st)).toArray⟩,⟨(wd rs1 x[i]).toArray⟩,rfl,rfl,szl (show (nxt rs1 ((x.take i).drop st)).length+(wd rs1 x[i]).length≤1000 by omega),?_⟩
      rw [tx_app,wd_nxt,hsn]
      refine ⟨_,rfl,_,rfl,_,rfl,_,rfl,⟨x.toArray⟩,_,_,rfl,rfl,szl (by rw [ex];omega),atI_nat hcx,d2,_,rfl,hg2,⟨(nxt rs2 ((x.take i).drop st)).toArray⟩,⟨(wd rs2 x[i]).toArray⟩,rfl,rfl,szl (show (nxt rs2 ((x.take i).drop st)).length+(wd rs2 x[i]).length≤1000 by omega),?_⟩
      rw [tx_app,wd_nxt,hsn]
      refine ⟨_,rfl,_,rfl,rfl,_,rfl,?_⟩
      rw [dec_tx]
      refine ite2 (fun hq=>?_) (fun hq=>?_)
      · have he:nxt rs1 ((x.take (i+1)).drop st)=nxt rs2 ((x.take (i+1)).drop st):=eq_of_beq hq
        rw [if_pos he] at hs
        rw [hs]
        refine ⟨_,rfl,.inl ⟨rfl,_,SqL.of hL⟩,_,rfl,_,rfl,_,rfl,_,rfl,_,_,rfl,rfl,_,rfl,⟨x.toArray⟩,rfl,szl (by rw [ex];omega),?_⟩
        rw [show (i:Int)+1=((i+1:Nat):Int) from rfl,slice_mid x st (i+1) (by omega) (by omega),← List.drop_take]
        refine ⟨L,_,_,rfl,rfl,hL,szl (by rw [List.length_map];omega),_,rfl,_,_,rfl,rfl,some (.int (i:Int)),?_,same_upd s3 nL,?_⟩
        · have e0:(x.take (i+1)).drop (i+1)=[]:=List.drop_of_length_le (by rw [List.length_take];omega)
          dsimp only
          rw [e0]
          rfl
        · rw [upd_same,List.map_append];rfl
      · have he:¬ nxt rs1 ((x.take (i+1)).drop st)=nxt rs2 ((x.take (i+1)).drop st):=fun z=>hq (by rw [z];exact beq_self_eq_true _)
        rw [if_neg he] at hs
        rw [hs]
        exact ⟨_,rfl,s3,hL⟩
    · rintro σ H3 ⟨v7,rfl,s3,hL⟩
      rw [rngV_length] at hL
      obtain ⟨c1,_⟩:=cutS_ok rs1 rs2 x x.length (Nat.le_refl _)
      refine ⟨_,rfl,_,rfl,⟨x.toArray⟩,rfl,szl (by rw [ex];omega),_,_,rfl,rfl,_,rfl,?_⟩
      rw [rngV_length,ex]
      refine ite2 (fun hc=>?_) (fun hc=>?_)
      · have he:¬ (cutS rs1 rs2 x x.length).2=x.length:=by have:=of_decide_eq_true hc;omega
        exact kn H3 s3 (by unfold cutR;rw [if_neg he])
      · have he:(cutS rs1 rs2 x x.length).2=x.length:=by
          by_cases z:(cutS rs1 rs2 x x.length).2=x.length
          · exact z
          · exact absurd (decide_eq_true (show ((cutS rs1 rs2 x x.length).2:Int) < (x.length:Int) by omega)) hc
        exact ⟨_,rfl,kt L _ H3 s3 nL hL (by unfold cutR;rw [if_pos he])⟩
end
end Lw
namespace Lw
open PySem L2 PyProof.Rows
theorem in_txs (p:List Nat):∀ F:List (List Nat),inV (tx p) (F.map tx)=decide (p∈F)
  | []=>rfl
  | a :: F=>by
    have ih:=in_txs p F
    unfold inV at ih ⊢
    rw [List.map_cons,List.any_cons,ih]
    have e:eqV (tx a) (tx p)=decide (a=p):=by
      show ((⟨a.toArray⟩:Str) == ⟨p.toArray⟩)=_
      by_cases h:a=p
      · subst h
        rw [decide_eq_true rfl]
        exact beq_self_eq_true _
      · rw [decide_eq_false h]
        refine beq_eq_false_iff_ne.mpr fun z=>h (txK_inj (congrArg Sum.inr z))
    rw [e]
    by_cases h1:a=p
    · subst h1
      simp
    · have h3:¬ p=a:=fun z=>h1 z.symm
      simp [h1,h3]
theorem flat_txs (F:List (List Nat)):(F.map tx).all flatV=true:=by
  rw [List.all_eq_true]
  intro v hv
  obtain ⟨x,_,rfl⟩:=List.mem_map.mp hv
  rfl
def SomeCC (rs1 rs2:List Rule) (f:List Nat):Prop:=∃ Q,CC rs1 rs2 f Q∧Q.length≤12∧∀ q∈Q,q.length≤12
structure EarAt (rs1 rs2:List Rule) (f1 f2:List Nat) (n:Nat):Prop where
  part:PartAt rs1 rs2 f1 f2 n
  len:∀ m,m≤n→(rowN rs1 f1 m).length≤300
section
variable {P:Program} {w:World} {K:PySem.W.Frag} {mg:Str→Option Value} {base:Heap}
def spEar:Sp:=fun vs H Q _=>∃ (t1 t2:Addr) (f1 f2:List Nat) (rs1 rs2:List Rule),vs=[.ref t1,.ref t2]∧BookAt H t1 f1 rs1∧BookAt H t2 f2 rs2∧Bk f1 rs1∧Bk f2 rs2 ∧
  (∀ H',Same H H'→f1=f2→Q .non H')∧∀ n H',Same H H'→EarAt rs1 rs2 f1 f2 n→Q (.int (n:Int)) H'
theorem scEar:FnScope ["_law_one","_law_other","_law_words","_law_others","_law_mine","_law_theirs","_law_n"] ["_law_one","_law_other"] (defScope sEar):=⟨rfl,rfl,rfl,by decide +kernel,rfl,by decide +kernel,by decide +kernel⟩
theorem nd_ear1:(["_law_sign","_law_words"]:List Str).Nodup:=by decide +kernel
theorem nd_ear2:(["_law_sign","_law_others"]:List Str).Nodup:=by decide +kernel
theorem ok_ear {f:Addr} {fd:FuncData} (F:Fun K "_law_early" "_law_early" sEar f fd)
    (hlen:mg "len" = none)
    (hrange:mg "range" = none)
    (hdict:mg "dict" = none)
    : FnOk P w K mg base CX0 1 f fd ["_law_one","_law_other"] spEar:=by
  refine F.ok scEar (fun vs H Q E h=>?_) (fun cdv A outer s H vs Q E hr h=>?_)
  · obtain ⟨t1,t2,f1,f2,rs1,rs2,rfl,_⟩:=h
    rfl
  · obtain ⟨t1,t2,f1,f2,rs1,rs2,rfl,hB1,hB2,g1,g2,kn,kt⟩:=h
    have hu:=hu_of hr
    refine ⟨_,(pss_cons (ps_set (i:=2) scEar.nd rfl (Or.inr rfl) (pe_callTy (call_dict_tup rfl) (by rfl) hdict (by first | exact PySem.boot_dict | decide +kernel) (pa_cons (pe_ix (ix_tupK K) (pv 0) pe_int (fun _ _=>rfl)) pa_nil)))
      (pss_cons (ps_set (i:=3) scEar.nd rfl (Or.inr rfl) (pe_callTy (call_dict_tup rfl) (by rfl) hdict (by first | exact PySem.boot_dict | decide +kernel) (pa_cons (pe_ix (ix_tupK K) (pv 1) pe_int (fun _ _=>rfl)) pa_nil)))
      (pss_cons (ps_set (i:=4) scEar.nd rfl (Or.inl rfl) (pe_ix (ix_tupK K) (pv 0) pe_int (fun _ _=>rfl)))
      (pss_cons (ps_set (i:=5) scEar.nd rfl (Or.inl rfl) (pe_ix (ix_tupK K) (pv 1) pe_int (fun _ _=>rfl)))
      (pss_cons (ps_for PassesOwn.never rfl (pi_range1 rfl hrange (pa_cons pe_int pa_nil)) (pg_name (i:=6) scEar.nd rfl (Or.inl rfl)) (pss_cons (ps_if (PW.pt (pw_or (pt_cmpR op_gt (pe_callB call_len_str (by rfl) hlen PySem.boot_len (pa_cons (pv 4) pa_nil)) pe_int (nomark _)) (pw_or1 (pt_cmpR op_gt (pe_callB call_len_str (by rfl) hlen PySem.boot_len (pa_cons (pv 5) pa_nil)) pe_int (nomark _))))) (pss_one (ps_ret pe_non)) pss_nil)
      (pss_cons (ps_if (pt_cmpR op_ne (pv 4) (pv 5) (nomark _)) (pss_one (ps_ret (pv 6))) pss_nil)
      (pss_cons (ps_set (i:=4) scEar.nd rfl (Or.inl rfl) (pe_bmK K PySem.F.plainAttrs_str PySem.F.slot_str_join PySem.F.type_str_join (mt_joinK K) pe_str (pa_cons (pe_comp (N':=["_law_sign","_law_words"]) (ix:=[none,some 2]) rfl rfl (pi_str (pv 4)) (fun _ _ _ _ _ _=>(pg_name (i:=0) nd_ear1 rfl (Or.inl rfl))) (fun _ _ _ _ _ _=>pts_nil) (fun _ _ _ _ _ _=>(pe_dget hu (pv 1) (pv 0) (fun _ _=>rfl)))) pa_nil)))
      (pss_one (ps_set (i:=5) scEar.nd rfl (Or.inl rfl) (pe_bmK K PySem.F.plainAttrs_str PySem.F.slot_str_join PySem.F.type_str_join (mt_joinK K) pe_str (pa_cons (pe_comp (N':=["_law_sign","_law_others"]) (ix:=[none,some 3]) rfl rfl (pi_str (pv 5)) (fun _ _ _ _ _ _=>(pg_name (i:=0) nd_ear2 rfl (Or.inl rfl))) (fun _ _ _ _ _ _=>pts_nil) (fun _ _ _ _ _ _=>(pe_dget hu (pv 1) (pv 0) (fun _ _=>rfl)))) pa_nil))))))))
      (pss_one (ps_ret pe_non))))))),?_⟩
    have l1:=g1.fl
    have l2:=g2.fl
    refine seq_asg ?_
    refine dict_read rfl hB1 g1 fun d1 H1 s1 n1 e1=>?_
    dsimp only [gName]
    refine seq_asg ?_
    refine dict_read rfl (hB2.mono (TupS.same s1)) g2 fun d2 H2 s2 n2 e2=>?_
    have s02:=s1.trans s2
    have hB1':=hB1.mono (TupS.same s02)
    have hB2':=hB2.mono (TupS.same s02)
    have e1':=s2 _ _ e1
    obtain ⟨r1,ps1,a1,a2,a3⟩:=hB1'.ex
    obtain ⟨r2,ps2,c1,c2,c3⟩:=hB2'.ex
    refine ⟨_,rfl,t1,_,_,_,rfl,rfl,SqT.of a1,atI_nat (j:=0) rfl,?_⟩
    refine ⟨_,rfl,t2,_,_,_,rfl,rfl,SqT.of c1,atI_nat (j:=0) rfl,?_⟩
    refine ⟨_,rfl,by decide,by decide,?_⟩
    refine for_by (sure_range (lo:=0) (n:=9)) (fun i σ H'=>∃ v6,σ=[some (.ref t1),some (.ref t2),some (.ref d1),some (.ref d2),some (tx (rowN rs1 f1 i)),some (tx (rowN rs2 f2 i)),v6]∧Same H2 H'∧(∀ m,m < i→rowN rs1 f1 m=rowN rs2 f2 m∧(rowN rs1 f1 m).length≤300)∧(rowN rs1 f1 i).length≤3600∧(rowN rs2 f2 i).length≤3600)
      ⟨_,rfl,Same.refl _,(fun m hm=>by omega),(show f1.length≤3600 by omega),(show f2.length≤3600 by omega)⟩ (fun _ _ _ _ _=>trivial) ?_ ?_
    · rintro i y σ H3 hy ⟨v6,rfl,s3,heq,hl1,hl2⟩
      obtain ⟨hi,rfl⟩:=rng_get hy
      have hf0:∀ (h:300 < (rowN rs1 f1 i).length∨300 < (rowN rs2 f2 i).length),f1=f2:=fun h=>by
        cases i with
        | zero =>
          rcases h with h | h
          · have:300 < f1.length:=h
            omega
          · have:300 < f2.length:=h
            omega
        | succ i=>exact (heq 0 (by omega)).1
      refine ⟨_,rfl,⟨(rowN rs1 f1 i).toArray⟩,rfl,szm (show (rowN rs1 f1 i).length≤10000 by omega),_,_,rfl,rfl,_,rfl,ite2 (fun hc=>?_) (fun hc=>?_)⟩
      · have h:(300:Int) < ((rowN rs1 f1 i).length:Int):=of_decide_eq_true hc
        exact iteT (kn H3 (s02.trans s3) (hf0 (.inl (by omega))))
      have h1:(rowN rs1 f1 i).length≤300:=by
        by_cases z:(rowN rs1 f1 i).length≤300
        · exact z
        · exact absurd (decide_eq_true (show (300:Int) < ((rowN rs1 f1 i).length:Int) by omega)) hc
      refine ⟨_,rfl,⟨(rowN rs2 f2 i).toArray⟩,rfl,szm (show (rowN rs2 f2 i).length≤10000 by omega),_,_,rfl,rfl,_,rfl,ite2 (fun hc=>?_) (fun hc2=>?_)⟩
      · have h:(300:Int) < ((rowN rs2 f2 i).length:Int):=of_decide_eq_true hc
        exact kn H3 (s02.trans s3) (hf0 (.inr (by omega)))
      have h2:(rowN rs2 f2 i).length≤300:=by
        by_cases z:(rowN rs2 f2 i).length≤300
        · exact z
        · exact absurd (decide_eq_true (show (300:Int) < ((rowN rs2 f2 i).length:Int) by omega)) hc2
      refine ⟨_,rfl,_,rfl,rfl,_,rfl,?_⟩
      rw [dec_tx]
      by_cases he:rowN rs1 f1 i=rowN rs2 f2 i
      · rw [he,beq_self_eq_true,← he]
        have i1:=rowN_inB g1 g1.fin i
        have i2:=rowN_inB g2 g2.fin i
        have q1:=nxt_le6 g1 i1
        have q2:=nxt_le6 g2 i2
        refine iteF ?_
        dsimp only [tNext]
        refine seq_asg ?_
        refine nxt_join g1 rfl (s3 _ _ e1') i1 (by omega) (fun R h=>⟨_,rfl,h⟩) fun H4 s4=>?_
        dsimp only [gName]
        refine nxt_join g2 rfl (s4 _ _ (s3 _ _ e2)) (x:=rowN rs2 f2 i) i2 (by omega) (fun R h=>⟨_,by rw [he];rfl,h⟩) fun H5 s5=>?_
        refine ⟨_,rfl,s3.trans (s4.trans s5),fun m hm=>?_,(show (nxt rs1 (rowN rs1 f1 i)).length≤3600 by omega),(show (nxt rs2 (rowN rs2 f2 i)).length≤3600 by omega)⟩
        by_cases z:m=i
        · rw [z];exact ⟨he,h1⟩
        · exact heq m (by omega)
      · rw [beq_eq_false_iff_ne.mpr he]
        refine iteT ⟨_,rfl,kt i H3 (s02.trans s3) ⟨⟨he,fun m hm=>(heq m hm).1,by omega⟩,fun m hm=>?_⟩⟩
        by_cases z:m=i
        · rw [z];exact h1
        · exact (heq m (by omega)).2
    · rintro σ H3 ⟨v6,rfl,s3,heq,hl1,hl2⟩
      rw [rngV_length] at heq
      exact kn H3 (s02.trans s3) (heq 0 (by omega)).1
def spLtr:Sp:=fun vs H Q _=>∃ (t1 t2:Addr) (f1 f2:List Nat) (rs1 rs2:List Rule) (n:Nat),vs=[.ref t1,.ref t2,.int (n:Int)]∧BookAt H t1 f1 rs1∧BookAt H t2 f2 rs2∧Bk f1 rs1∧Bk f2 rs2∧PartAt rs1 rs2 f1 f2 n∧∀ H',Same H H'→Q (.bl true) H'
theorem scLtr:FnScope ["_law_one","_law_other","_law_n","_law_words","_law_others","_law_mine","_law_theirs","_law_k"] ["_law_one","_law_other","_law_n"] (defScope sLtr):=⟨rfl,rfl,rfl,by decide +kernel,rfl,by decide +kernel,by decide +kernel⟩
theorem nd_ltr1:(["_law_sign","_law_words"]:List Str).Nodup:=by decide +kernel
theorem nd_ltr2:(["_law_sign","_law_others"]:List Str).Nodup:=by decide +kernel
theorem ok_ltr {f:Addr} {fd:FuncData} (F:Fun K "_law_later" "_law_later" sLtr f fd)
    (hlen:mg "len" = none)
    (hrange:mg "range" = none)
    (hdict:mg "dict" = none)
    (hmin:mg "min" = none)
    : FnOk P w K mg base CX0 1 f fd ["_law_one","_law_other","_law_n"] spLtr:=by
  refine F.ok scLtr (fun vs H Q E h=>?_) (fun cdv A outer s H vs Q E hr h=>?_)
  · obtain ⟨t1,t2,f1,f2,rs1,rs2,n,rfl,_⟩:=h
    rfl
  · obtain ⟨t1,t2,f1,f2,rs1,rs2,n,rfl,hB1,hB2,g1,g2,hA,k⟩:=h
    have hu:=hu_of hr
    refine ⟨_,(pss_cons (ps_set (i:=3) scLtr.nd rfl (Or.inr rfl) (pe_callTy (call_dict_tup rfl) (by rfl) hdict (by first | exact PySem.boot_dict | decide +kernel) (pa_cons (pe_ix (ix_tupK K) (pv 0) pe_int (fun _ _=>rfl)) pa_nil)))
      (pss_cons (ps_set (i:=4) scLtr.nd rfl (Or.inr rfl) (pe_callTy (call_dict_tup rfl) (by rfl) hdict (by first | exact PySem.boot_dict | decide +kernel) (pa_cons (pe_ix (ix_tupK K) (pv 1) pe_int (fun _ _=>rfl)) pa_nil)))
      (pss_cons (ps_set (i:=5) scLtr.nd rfl (Or.inl rfl) (pe_ix (ix_tupK K) (pv 0) pe_int (fun _ _=>rfl)))
      (pss_cons (ps_set (i:=6) scLtr.nd rfl (Or.inl rfl) (pe_ix (ix_tupK K) (pv 1) pe_int (fun _ _=>rfl)))
      (pss_cons (ps_for PassesOwn.never rfl (pi_range1 rfl hrange (pa_cons (pe_callB (call_min2 rfl) (by rfl) hmin (show bootBuiltins "min" = some (.builtin "min") by decide +kernel) (pa_cons (pv 2) (pa_cons pe_int pa_nil))) pa_nil)) (pg_name (i:=7) scLtr.nd rfl (Or.inl rfl)) (pss_cons (ps_if (pt_cmpR op_ne (pv 5) (pv 6) (nomark _)) (pss_one (ps_ret pe_bl)) pss_nil)
      (pss_cons (ps_if (pt_cmpR op_gt (pe_callB call_len_str (by rfl) hlen PySem.boot_len (pa_cons (pv 5) pa_nil)) pe_int (nomark _)) (pss_one (ps_ret pe_bl)) pss_nil)
      (pss_cons (ps_set (i:=5) scLtr.nd rfl (Or.inl rfl) (pe_bmK K PySem.F.plainAttrs_str PySem.F.slot_str_join PySem.F.type_str_join (mt_joinK K) pe_str (pa_cons (pe_comp (N':=["_law_sign","_law_words"]) (ix:=[none,some 3]) rfl rfl (pi_str (pv 5)) (fun _ _ _ _ _ _=>(pg_name (i:=0) nd_ltr1 rfl (Or.inl rfl))) (fun _ _ _ _ _ _=>pts_nil) (fun _ _ _ _ _ _=>(pe_dget hu (pv 1) (pv 0) (fun _ _=>rfl)))) pa_nil)))
      (pss_one (ps_set (i:=6) scLtr.nd rfl (Or.inl rfl) (pe_bmK K PySem.F.plainAttrs_str PySem.F.slot_str_join PySem.F.type_str_join (mt_joinK K) pe_str (pa_cons (pe_comp (N':=["_law_sign","_law_others"]) (ix:=[none,some 4]) rfl rfl (pi_str (pv 6)) (fun _ _ _ _ _ _=>(pg_name (i:=0) nd_ltr2 rfl (Or.inl rfl))) (fun _ _ _ _ _ _=>pts_nil) (fun _ _ _ _ _ _=>(pe_dget hu (pv 1) (pv 0) (fun _ _=>rfl)))) pa_nil))))))))
      (pss_one (ps_ret (pe_or (pe_cmpR op_ge (pv 2) pe_int (nomark _)) (pe_one (pe_cmpR op_ne (pv 5) (pv 6) (nomark _))))))))))),?_⟩
    have l1:=g1.fl
    have l2:=g2.fl
    have hn:=hA.le
    refine seq_asg ?_
    refine dict_read rfl hB1 g1 fun d1 H1 s1 n1 e1=>?_
    dsimp only [gName]
    refine seq_asg ?_
    refine dict_read rfl (hB2.mono (TupS.same s1)) g2 fun d2 H2 s2 n2 e2=>?_
    have s02:=s1.trans s2
    have hB1':=hB1.mono (TupS.same s02)
    have hB2':=hB2.mono (TupS.same s02)
    have e1':=s2 _ _ e1
    obtain ⟨r1,ps1,a1,a2,a3⟩:=hB1'.ex
    obtain ⟨r2,ps2,c1,c2,c3⟩:=hB2'.ex
    refine ⟨_,rfl,t1,_,_,_,rfl,rfl,SqT.of a1,atI_nat (j:=0) rfl,?_⟩
    refine ⟨_,rfl,t2,_,_,_,rfl,rfl,SqT.of c1,atI_nat (j:=0) rfl,?_⟩
    refine ⟨_,rfl,_,_,rfl,_,rfl,by rw [if_neg (by omega)];omega,by rw [if_neg (by omega)];omega,?_⟩
    rw [if_neg (by omega),Int.toNat_natCast]
    refine for_by (sure_range (lo:=0) (n:=n)) (fun i σ H'=>∃ v7,σ=[some (.ref t1),some (.ref t2),some (.int (n:Int)),some (.ref d1),some (.ref d2),some (tx (rowN rs1 f1 i)),some (tx (rowN rs2 f2 i)),v7]∧Same H2 H'∧(rowN rs1 f1 i).length≤3600)
      ⟨_,rfl,Same.refl _,(show f1.length≤3600 by omega)⟩ (fun _ _ _ _ _=>trivial) ?_ ?_
    · rintro i y σ H3 hy ⟨v7,rfl,s3,hl1⟩
      obtain ⟨hi,rfl⟩:=rng_get hy
      have he:=hA.eq i hi
      refine ⟨_,rfl,_,rfl,rfl,_,rfl,?_⟩
      rw [dec_tx,he,beq_self_eq_true,← he]
      refine iteF ⟨_,rfl,⟨(rowN rs1 f1 i).toArray⟩,rfl,szm (show (rowN rs1 f1 i).length≤10000 by omega),_,_,rfl,rfl,_,rfl,ite2 (fun hc=>k H3 (s02.trans s3)) (fun hc=>?_)⟩
      have h1:(rowN rs1 f1 i).length≤300:=by
        by_cases z:(rowN rs1 f1 i).length≤300
        · exact z
        · exact absurd (decide_eq_true (show (300:Int) < ((rowN rs1 f1 i).length:Int) by omega)) hc
      have h2:(rowN rs2 f2 i).length≤300:=by rw [← he];exact h1
      have i1:=rowN_inB g1 g1.fin i
      have i2:=rowN_inB g2 g2.fin i
      have q1:=nxt_le6 g1 i1
      dsimp only [tNext]
      refine seq_asg ?_
      refine nxt_join g1 rfl (s3 _ _ e1') i1 (by omega) (fun R h=>⟨_,rfl,h⟩) fun H4 s4=>?_
      dsimp only [gName]
      refine nxt_join g2 rfl (s4 _ _ (s3 _ _ e2)) (x:=rowN rs2 f2 i) i2 (by omega) (fun R h=>⟨_,by rw [he];rfl,h⟩) fun H5 s5=>?_
      exact ⟨_,rfl,s3.trans (s4.trans s5),(show (nxt rs1 (rowN rs1 f1 i)).length≤3600 by omega)⟩
    · rintro σ H3 ⟨v7,rfl,s3,_⟩
      rw [rngV_length]
      refine ⟨_,rfl,_,_,rfl,rfl,_,rfl,ite2 (fun hc=>k H3 (s02.trans s3)) (fun hc=>⟨_,rfl,_,rfl,rfl,?_⟩)⟩
      rw [dec_tx,beq_eq_false_iff_ne.mpr hA.ne]
      exact k H3 (s02.trans s3)
end
end Lw
namespace Lw
open PySem L2 PyProof.Rows
section
variable {P:Program} {w:World} {K:PySem.W.Frag} {mg:Str→Option Value} {base:Heap}
def spPla:Sp:=fun vs H Q _=>∃ (t1 t2:Addr) (f1 f2:List Nat) (rs1 rs2:List Rule),vs=[.ref t1,.ref t2]∧BookAt H t1 f1 rs1∧BookAt H t2 f2 rs2∧Bk f1 rs1∧Bk f2 rs2 ∧
  (∀ H',Same H H'→Q .non H')∧∀ L H',Same H H'→f1=f2→SomeCC rs1 rs2 f1→Q (.ref L) H'
theorem scPla:FnScope ["_law_one","_law_other","_law_words","_law_others","_law_pieces","_law_texts","_law_cuts_here","_law_piece"] ["_law_one","_law_other"] (defScope sPla):=⟨rfl,rfl,rfl,by decide +kernel,rfl,by decide +kernel,by decide +kernel⟩
theorem nd_pla1:(["_law_sign","_law_words"]:List Str).Nodup:=by decide +kernel
theorem ok_pla {f fCus:Addr} {fd fdCus:FuncData} (F:Fun K "_law_plain" "_law_plain" sPla f fd)
    (GCus:FnOk P w K mg base CX0 1 fCus fdCus ["_law_words","_law_others","_law_signs_here"] spCus)
    (gCus:Gf K mg "_law_cuts" fCus fdCus ["_law_words","_law_others","_law_signs_here"])
    (hlen:mg "len" = none)
    (hdict:mg "dict" = none)
    : FnOk P w K mg base CX0 2 f fd ["_law_one","_law_other"] spPla:=by
  refine F.ok scPla (fun vs H Q E h=>?_) (fun cdv A outer s H vs Q E hr h=>?_)
  · obtain ⟨t1,t2,f1,f2,rs1,rs2,rfl,_⟩:=h
    rfl
  · obtain ⟨t1,t2,f1,f2,rs1,rs2,rfl,hB1,hB2,g1,g2,kn,kt⟩:=h
    have hu:=hu_of hr
    refine ⟨_,(pss_cons (ps_set (i:=2) scPla.nd rfl (Or.inr rfl) (pe_callTy (call_dict_tup rfl) (by rfl) hdict (by first | exact PySem.boot_dict | decide +kernel) (pa_cons (pe_ix (ix_tupK K) (pv 0) pe_int (fun _ _=>rfl)) pa_nil)))
      (pss_cons (ps_set (i:=3) scPla.nd rfl (Or.inl rfl) (pe_callTy (call_dict_tup rfl) (by rfl) hdict (by first | exact PySem.boot_dict | decide +kernel) (pa_cons (pe_ix (ix_tupK K) (pv 1) pe_int (fun _ _=>rfl)) pa_nil)))
      (pss_cons (ps_set (i:=4) scPla.nd rfl (Or.inl rfl) (pe_lst pa_nil))
      (pss_cons (ps_set (i:=5) scPla.nd rfl (Or.inl rfl) (pe_lst (pa_cons (pe_ix (ix_tupK K) (pv 0) pe_int (fun _ _=>rfl)) pa_nil)))
      (pss_cons (ps_if (pt_cmpR op_ne (pe_ix (ix_tupK K) (pv 0) pe_int (fun _ _=>rfl)) (pe_ix (ix_tupK K) (pv 1) pe_int (fun _ _=>rfl)) (nomark _)) (pss_one (ps_ret pe_non)) pss_nil)
      (pss_cons (ps_while PassesOwn.never (PW.pt (pw_and (pt_cmpR op_gt (pe_callB (call_lenK K) (by rfl) hlen PySem.boot_len (pa_cons (pv 5) pa_nil)) pe_int (nomark _)) (pw_and1 (pt_cmpR op_le (pe_callB (call_lenK K) (by rfl) hlen PySem.boot_len (pa_cons (pv 4) pa_nil)) pe_int (nomark _))))) (pss_cons (ps_set (i:=6) scPla.nd rfl (Or.inl rfl) (pe_call GCus hr rfl gCus.m gCus.k gCus.b .nil pass0 (pa_cons (pv 2) (pa_cons (pv 3) (pa_cons (pe_bm0K K PySem.F.plainAttrs_list PySem.F.slot_list_pop PySem.F.type_list_pop mt_pop (pv 5)) pa_nil)))))
      (pss_cons (ps_if (pt_cmpR op_isN (pv 6) pe_non (nomark _)) (pss_one (ps_ret pe_non)) pss_nil)
      (pss_one (ps_for PassesOwn.never rfl (pi_listK K (pv 6)) (pg_name (i:=7) scPla.nd rfl (Or.inl rfl)) (pss_cons (ps_if (pt_cmpR op_gt (pe_callB call_len_str (by rfl) hlen PySem.boot_len (pa_cons (pv 7) pa_nil)) pe_int (nomark _)) (pss_one (ps_ret pe_non)) pss_nil)
      (pss_one (ps_if (pt_cmpR (op_notin_seqK K) (pv 7) (pv 4) (by rfl)) (pss_cons (ps_expr (pe_bmK K PySem.F.plainAttrs_list PySem.F.slot_list_append PySem.F.type_list_append mt_append (pv 4) (pa_cons (pv 7) pa_nil)))
      (pss_one (ps_expr (pe_bmK K PySem.F.plainAttrs_list PySem.F.slot_list_append PySem.F.type_list_append mt_append (pv 5) (pa_cons (pe_bmK K PySem.F.plainAttrs_str PySem.F.slot_str_join PySem.F.type_str_join (mt_joinK K) pe_str (pa_cons (pe_comp (N':=["_law_sign","_law_words"]) (ix:=[none,some 2]) rfl rfl (pi_str (pv 7)) (fun _ _ _ _ _ _=>(pg_name (i:=0) nd_pla1 rfl (Or.inl rfl))) (fun _ _ _ _ _ _=>pts_nil) (fun _ _ _ _ _ _=>(pe_dget hu (pv 1) (pv 0) (fun _ _=>rfl)))) pa_nil)) pa_nil))))) pss_nil))))))))
      (pss_cons (ps_if (pt_cmpR op_gt (pe_callB (call_lenK K) (by rfl) hlen PySem.boot_len (pa_cons (pv 4) pa_nil)) pe_int (nomark _)) (pss_one (ps_ret pe_non)) pss_nil)
      (pss_one (ps_ret (pv 4)))))))))),?_⟩
    have l1:=g1.fl
    refine seq_asg ?_
    refine dict_read rfl hB1 g1 fun d1 H1 s1 n1 e1=>?_
    dsimp only [gName]
    refine seq_asg ?_
    refine dict_read rfl (hB2.mono (TupS.same s1)) g2 fun d2 H2 s2 n2 e2=>?_
    have s02:=s1.trans s2
    have hB1':=hB1.mono (TupS.same s02)
    have hB2':=hB2.mono (TupS.same s02)
    have e1':=s2 _ _ e1
    obtain ⟨r1,ps1,a1,a2,a3⟩:=hB1'.ex
    obtain ⟨r2,ps2,c1,c2,c3⟩:=hB2'.ex
    refine ⟨szl (show 0≤1000 by decide),fun Lf nLf=>?_⟩
    have sf:=Same.add (o:=.lst []) nLf
    refine ⟨_,rfl,t1,_,_,_,rfl,rfl,SqT.of (sf _ _ a1),atI_nat (j:=0) rfl,szl (show 1≤1000 by decide),fun Lw nLw=>?_⟩
    have sw:=Same.add (o:=.lst [tx f1]) nLw
    have hfw:Lf≠Lw:=ne_of_none (upd_same (H:=H2) (a:=Lf) (o:=.lst [])) nLw
    have nLw2:H2 Lw=none:=sf.free nLw
    have s2w:=sf.trans sw
    have hf0:upd (upd H2 Lf (.lst [])) Lw (.lst [tx f1]) Lf=some (.lst (([]:List (List Nat)).map tx)):=sw _ _ upd_same
    have hw0:upd (upd H2 Lf (.lst [])) Lw (.lst [tx f1]) Lw=some (.lst ([f1].map tx)):=upd_same
    revert s2w hf0 hw0
    generalize upd (upd H2 Lf (.lst [])) Lw (.lst [tx f1])=H3
    intro s2w hf0 hw0
    refine ⟨_,rfl,t1,_,_,_,rfl,rfl,SqT.of (s2w _ _ a1),atI_nat (j:=0) rfl,_,rfl,t2,_,_,_,rfl,rfl,SqT.of (s2w _ _ c1),atI_nat (j:=0) rfl,rfl,_,rfl,?_⟩
    rw [dec_tx]
    by_cases hff:f1=f2
    case neg =>
      rw [beq_eq_false_iff_ne.mpr hff]
      exact iteT (kn H3 (s02.trans s2w))
    subst hff
    rw [beq_self_eq_true]
    refine iteF ?_
    refine ⟨fun m σ H'=>∃ (F W:List (List Nat)) (v6 v7:Option V),σ=[some (.ref t1),some (.ref t2),some (.ref d1),some (.ref d2),some (.ref Lf),some (.ref Lw),v6,v7]∧Same H2 H'∧H' Lf=some (.lst (F.map tx))∧H' Lw=some (.lst (W.map tx))∧m=W.length+(100 - F.length)∧F.length≤90∧W.length≤F.length+1∧(∀ p∈F,p.length≤12)∧(∀ y∈W,y.length≤72)∧WI rs1 rs2 f1 none F W,
      ⟨_,[],[f1],_,_,rfl,s2w,hf0,hw0,rfl,by decide,(show 1≤1 by decide),(fun p hp=>by cases hp),(fun y hy=>by rw [List.mem_singleton.mp hy];omega),WI.start g1.fin g2.fin⟩,?_⟩
    rintro m σ H4 ⟨F,W,v6,v7,rfl,s4,hf4,hw4,rfl,hF90,hWF,hF12,hW72,hI⟩
    have fin:(¬ (0 < W.length)∨¬ F.length≤12)→tSeq (tIfS (tTest (tOp (rI0 fun i j=>V.bl (decide (j < i))) (tCB (rLen K) (tCons (tVar 4) tNil)) (tC (V.int 12)))) (tRet (tC V.non)) tNext) (tRet (tVar 4)) { nx:=fun x H'=>Q V.non H',rt:=Q } [some (.ref t1),some (.ref t2),some (.ref d1),some (.ref d2),some (.ref Lf),some (.ref Lw),v6,v7] H4:=fun hor=>by
      refine ⟨_,rfl,Lf,_,rfl,.inl (SqL.of hf4),_,_,rfl,rfl,_,rfl,?_⟩
      rw [List.length_map]
      refine ite2 (fun hc=>kn H4 (s02.trans s4)) (fun hc=>⟨_,rfl,kt Lf H4 (s02.trans s4) rfl ?_⟩)
      have h12:F.length≤12:=by
        by_cases z:F.length≤12
        · exact z
        · exact absurd (decide_eq_true (show (12:Int) < (F.length:Int) by omega)) hc
      have hW:W=[]:=by
        rcases hor with h | h
        · exact List.length_eq_zero_iff.mp (by omega)
        · exact absurd h12 h
      subst hW
      exact ⟨F,hI.done,h12,hF12⟩
    refine ⟨_,rfl,Lw,_,rfl,.inl (SqL.of hw4),_,_,rfl,rfl,_,rfl,?_⟩
    rw [List.length_map]
    refine ite2 (fun hc=>?_) (fun hc=>iteF (fin (.inl fun z=>hc (decide_eq_true (show (0:Int) < (W.length:Int) by omega)))))
    refine ⟨_,rfl,Lf,_,rfl,.inl (SqL.of hf4),_,_,rfl,rfl,_,rfl,?_⟩
    rw [List.length_map]
    refine ite2 (fun hc2=>?_) (fun hc2=>fin (.inr fun z=>hc2 (decide_eq_true (show (F.length:Int)≤12 by omega))))
    have h12:F.length≤12:=by have:=of_decide_eq_true hc2;omega
    have hpos:0 < W.length:=by have:=of_decide_eq_true hc;omega
    have hne:W≠[]:=fun z=>by rw [z] at hpos;exact absurd hpos (by decide)
    obtain ⟨x,e⟩:∃ x,W=W.dropLast++[x]:=⟨W.getLast hne,(List.dropLast_concat_getLast hne).symm⟩
    generalize W.dropLast=W0 at e
    subst e
    clear fin
    have lW:(W0++[x]).length=W0.length+1:=by rw [List.length_append];rfl
    have elast:((W0++[x]).map tx)[((W0++[x]).map tx).length - 1]? = some (tx x):=by
      rw [List.length_map,lW,List.map_append,Nat.add_sub_cancel,List.getElem?_append_right (by rw [List.length_map];exact Nat.le_refl _),List.length_map,Nat.sub_self]
      rfl
    have edrop:((W0++[x]).map tx).dropLast=W0.map tx:=by rw [List.map_append];exact List.dropLast_concat
    refine ⟨fun σ' H'=>∃ (F' W':List (List Nat)) (v6 v7:Option V),σ'=[some (.ref t1),some (.ref t2),some (.ref d1),some (.ref d2),some (.ref Lf),some (.ref Lw),v6,v7]∧Same H2 H'∧H' Lf=some (.lst (F'.map tx))∧H' Lw=some (.lst (W'.map tx))∧W'.length+F.length=W0.length+F'.length∧F.length≤F'.length∧F'.length≤90∧(∀ p∈F',p.length≤12)∧(∀ y∈W',y.length≤72)∧WI rs1 rs2 f1 none F' W',?_,?_⟩
    · rintro σ' H' ⟨F',W',v6,v7,rfl,b1,b2,b3,b4,b5,b6,b7,b8,b9⟩
      exact ⟨W'.length+(100 - F'.length),by omega,F',W',v6,v7,rfl,b1,b2,b3,rfl,b6,by omega,b7,b8,b9⟩
    refine ⟨_,rfl,_,rfl,_,rfl,.inl ⟨rfl,_,SqL.of hw4⟩,Lw,_,_,rfl,rfl,hw4,elast,?_⟩
    rw [edrop]
    have s5:Same H2 (upd H4 Lw (.lst (W0.map tx))):=same_upd s4 nLw2
    have hf5:upd H4 Lw (.lst (W0.map tx)) Lf=some (.lst (F.map tx)):=by rw [upd_ne hfw];exact hf4
    have hw5:upd H4 Lw (.lst (W0.map tx)) Lw=some (.lst (W0.map tx)):=upd_same
    revert s5 hf5 hw5
    generalize upd H4 Lw (.lst (W0.map tx))=H5
    intro s5 hf5 hw5
    have hxm:x∈W0++[x]:=List.mem_append_right _ List.mem_cons_self
    have hx72:=hW72 x hxm
    refine ⟨d1,d2,f1,f1,rs1,rs2,x,rfl,s5 _ _ e1',s5 _ _ e2,g1,g2,hI.wt x hxm,by omega,fun H6 s6 hn=>?_,fun Lp t H6 s6 nLp hLp ht=>?_⟩
    · exact ⟨_,rfl,rfl,_,rfl,iteT (kn H6 (s02.trans (s5.trans s6)))⟩
    refine ⟨_,rfl,rfl,_,rfl,iteF ?_⟩
    have hf6:=s6 _ _ hf5
    have hw6:=s6 _ _ hw5
    obtain ⟨q1,q2,q3⟩:=cutR_ok ht
    have tin:∀ p∈t,∀ c∈p,c∈ltr rs1∧c∈ltr rs2:=fun p hp c hc=>hI.wt x hxm c (by rw [← q1];exact List.mem_flatten.mpr ⟨p,hp,hc⟩)
    have tQ:∀ Q',CC rs1 rs2 f1 Q'→∀ p∈t,p∈Q':=fun Q' hQ'=>by
      obtain ⟨t',h1,h2⟩:=hI.cuts hQ'
      rw [ht] at h1
      cases h1
      exact h2
    have npf:Lp≠Lf:=(ne_of_none hf5 nLp).symm
    have npw:Lp≠Lw:=(ne_of_none hw5 nLp).symm
    refine ⟨_,rfl,Lp,rfl,⟨_,SqL.of hLp⟩,?_⟩
    refine for_by (sure_list (xs:=t.map tx)) (fun i σ' H'=>∃ (F' W':List (List Nat)) (v7:Option V),σ'=[some (.ref t1),some (.ref t2),some (.ref d1),some (.ref d2),some (.ref Lf),some (.ref Lw),some (.ref Lp),v7]∧Same H2 H'∧H' Lf=some (.lst (F'.map tx))∧H' Lw=some (.lst (W'.map tx))∧H' Lp=some (.lst (t.map tx))∧W'.length+F.length=W0.length+F'.length∧F.length≤F'.length∧F'.length≤F.length+i∧(∀ p∈F',p.length≤12)∧(∀ y∈W',y.length≤72)∧(∀ p∈t.take i,p∈F')∧WI rs1 rs2 f1 (some x) F' W')
      ⟨F,W0,_,rfl,s5.trans s6,hf6,hw6,hLp,by omega,Nat.le_refl _,by omega,hF12,fun y hy=>hW72 y (List.mem_append_left _ hy),(fun p hp=>by cases hp),hI.pop⟩ ?_ ?_ ?_
    · rintro i σ' H' hi ⟨_,_,_,_,_,_,_,h,_⟩
      exact SqL.of h
    · rintro i y σ' H7 hy ⟨F',W',v7',rfl,s7,hf7,hw7,hp7,k1,k2,k3,k4,k5,k6,k7⟩
      rw [List.getElem?_map] at hy
      cases e:t[i]? with
      | none=>rw [e] at hy;cases hy
      | some p =>
        rw [e] at hy
        cases hy
        have hpt:=List.mem_of_getElem? e
        have hil:=(List.getElem?_eq_some_iff.mp e).1
        obtain ⟨p0,p1,p2⟩:=q3 p hpt
        have htk:∀ q∈t.take (i+1),q∈t.take i∨q=p:=fun q hq=>by
          rw [List.take_add_one,e] at hq
          rcases List.mem_append.mp hq with h | h
          · exact .inl h
          · exact .inr (by simpa using h)
        refine ⟨_,rfl,⟨p.toArray⟩,rfl,szl (show p.length≤1000 by omega),_,_,rfl,rfl,_,rfl,ite2 (fun hc=>kn H7 (s02.trans s7)) (fun hc=>?_)⟩
        have hp12:p.length≤12:=by
          by_cases z:p.length≤12
          · exact z
          · exact absurd (decide_eq_true (show (12:Int) < (p.length:Int) by omega)) hc
        refine ⟨_,rfl,_,rfl,Lf,_,rfl,.inl (SqL.of hf7),rfl,flat_txs F',_,rfl,?_⟩
        rw [if_pos rfl,in_txs]
        by_cases hm:p∈F'
        · rw [decide_eq_true hm]
          refine iteF ⟨F',W',_,rfl,s7,hf7,hw7,hp7,k1,k2,by omega,k4,k5,fun q hq=>?_,k7⟩
          rcases htk q hq with h | rfl
          · exact k6 q h
          · exact hm
        · rw [decide_eq_false hm]
          have hF7:F'.length≤84:=by omega
          refine iteT ⟨_,rfl,.inl ⟨rfl,_,SqL.of hf7⟩,_,rfl,Lf,_,_,rfl,rfl,hf7,szl (by rw [List.length_map];omega),?_⟩
          have s8:Same H2 (upd H7 Lf (.lst (F'.map tx++[tx p]))):=same_upd s7 nLf
          have hf8:upd H7 Lf (.lst (F'.map tx++[tx p])) Lf=some (.lst ((F'++[p]).map tx)):=by rw [upd_same,List.map_append];rfl
          have hw8:upd H7 Lf (.lst (F'.map tx++[tx p])) Lw=some (.lst (W'.map tx)):=by rw [upd_ne hfw.symm];exact hw7
          have hp8:upd H7 Lf (.lst (F'.map tx++[tx p])) Lp=some (.lst (t.map tx)):=by rw [upd_ne npf];exact hp7
          revert s8 hf8 hw8 hp8
          generalize upd H7 Lf (.lst (F'.map tx++[tx p]))=H8
          intro s8 hf8 hw8 hp8
          refine ⟨_,rfl,.inl ⟨rfl,_,SqL.of hw8⟩,?_⟩
          dsimp only [tNil]
          refine nxt_join g1 rfl (s8 _ _ e1') (x:=p) (fun c hc=>(tin p hpt c hc).1) (by omega) (fun R h=>⟨_,rfl,h⟩) fun H9 s9=>?_
          have hnl:=nxt_le6 g1 fun c hc=>(tin p hpt c hc).1
          have hw9:=s9 _ _ hw8
          refine ⟨Lw,_,_,rfl,rfl,hw9,szl (by rw [List.length_map];omega),F'++[p],W'++[nxt rs1 p],_,rfl,same_upd (s8.trans s9) nLw2,by rw [upd_ne hfw];exact s9 _ _ hf8,by rw [upd_same,List.map_append];rfl,by rw [upd_ne npw];exact s9 _ _ hp8,by rw [List.length_append,List.length_append];show _+1+_=_+(_+1);omega,by rw [List.length_append];omega,by rw [List.length_append];show _+1≤_;omega,fun q hq=>?_,fun y hy=>?_,fun q hq=>?_,k7.new g1 g2 hm p0 p2 (tin p hpt) fun Q' hQ'=>tQ Q' hQ' p hpt⟩
          · rcases List.mem_append.mp hq with h | h
            · exact k4 q h
            · rw [List.mem_singleton.mp h];exact hp12
          · rcases List.mem_append.mp hy with h | h
            · exact k5 y h
            · rw [List.mem_singleton.mp h];omega
          · rcases htk q hq with h | rfl
            · exact List.mem_append_left _ (k6 q h)
            · exact List.mem_append_right _ List.mem_cons_self
    · rintro σ' H7 ⟨F',W',v7',rfl,s7,hf7,hw7,hp7,k1,k2,k3,k4,k5,k6,k7⟩
      rw [List.length_map] at k3
      rw [List.length_map,List.take_length] at k6
      exact ⟨F',W',_,_,rfl,s7,hf7,hw7,k1,k2,by omega,k4,k5,k7.shut ht k6⟩
end
end Lw
namespace Lw
open PySem L2 PyProof.Rows
structure ClsK (K:PySem.W.Frag) (C:Addr):Prop where
  cls:(PySem.W.clsIn K C).isSome=true
  nt:PySem.W.instIn K (.ref C) (.type "tuple")=some false
  bexc:PySem.W.mroIn K C (.type "BaseException")=some true
  ty:PySem.W.typeIn K (.ref C)=some (.type "type")
theorem risingS_pw:∀ (p:Str) (l:List Str),risingS p l=true→(p :: l).Pairwise fun a b=>a.cps.toList≤b.cps.toList
  | p,[],_=>List.pairwise_singleton _ _
  | p,x :: r,h=>by
    obtain ⟨h1,h2⟩:=Bool.and_eq_true_iff.mp (show (!Spec.ltCps x.cps.toList p.cps.toList && risingS x r)=true from h)
    have ih:=risingS_pw x r h2
    have hpx:p.cps.toList≤x.cps.toList:=by
      rw [ltCps_eq] at h1
      have:¬ x.cps.toList < p.cps.toList:=by simpa using h1
      exact this
    refine List.pairwise_cons.mpr ⟨fun y hy=>?_,ih⟩
    rcases List.mem_cons.mp hy with rfl | hy
    · exact hpx
    · exact List.le_trans hpx ((List.pairwise_cons.mp ih).1 y hy)
theorem sortedS_pw {l:List Str} (h:sortedS l=true):l.Pairwise fun a b=>a.cps.toList≤b.cps.toList:=by
  cases l with
  | nil=>exact List.Pairwise.nil
  | cons x r=>exact risingS_pw x r h
theorem str_le_anti {a b:Str} (h1:a.cps.toList≤b.cps.toList) (h2:b.cps.toList≤a.cps.toList):a=b:=by
  have:=List.le_antisymm h1 h2
  obtain ⟨a⟩:=a
  obtain ⟨b⟩:=b
  congr 1
  exact Array.toList_inj.mp this
theorem pw_one:∀ {l m:List Str},(l.Pairwise fun a b=>a.cps.toList≤b.cps.toList)→(m.Pairwise fun a b=>a.cps.toList≤b.cps.toList)→l.Nodup→m.Nodup→(∀ z,z∈l ↔ z∈m)→l=m
  | [],[],_,_,_,_,_=>rfl
  | [],y :: m,_,_,_,_,h=>absurd ((h y).mpr List.mem_cons_self) List.not_mem_nil
  | x :: l,[],_,_,_,_,h=>absurd ((h x).mp List.mem_cons_self) List.not_mem_nil
  | x :: l,y :: m,hl,hm,nl,nm,h=>by
    obtain ⟨l1,l2⟩:=List.pairwise_cons.mp hl
    obtain ⟨m1,m2⟩:=List.pairwise_cons.mp hm
    obtain ⟨n1,n2⟩:=List.nodup_cons.mp nl
    obtain ⟨k1,k2⟩:=List.nodup_cons.mp nm
    have e:x=y:=by
      rcases List.mem_cons.mp ((h x).mp List.mem_cons_self) with e | hx
      · exact e
      · rcases List.mem_cons.mp ((h y).mpr List.mem_cons_self) with e | hy
        · exact e.symm
        · exact str_le_anti (l1 y hy) (m1 x hx)
    subst e
    rw [pw_one l2 m2 n2 k2 fun z=>⟨fun hz=>?_,fun hz=>?_⟩]
    · rcases List.mem_cons.mp ((h z).mp (List.mem_cons_of_mem _ hz)) with e | hz'
      · exact absurd (e ▸ hz) n1
      · exact hz'
    · rcases List.mem_cons.mp ((h z).mpr (List.mem_cons_of_mem _ hz)) with e | hz'
      · exact absurd (e ▸ hz) k1
      · exact hz'
theorem same_list {K:PySem.W.Frag} {H:Hp} {a b:Addr} {ps:List (List Nat)} (ha:H a=some (.lst (ps.map tx))) (hb:H b=some (.lst (ps.map tx))):VSame K H 1 (.ref a) (.ref b):=by
  refine .seq false (SqL.of ha) (SqL.of hb) rfl fun i x y hx hy=>?_
  rw [hx] at hy
  cases hy
  rw [List.getElem?_map] at hx
  cases e:ps[i]? with
  | none=>rw [e] at hx;cases hx
  | some z=>rw [e] at hx;cases hx;exact .flat rfl
def FoundAt (H:Hp) (rs1 rs2:List Rule) (f1 f2:List Nat) (z:V):Prop :=
  (∃ L,z=.ref L∧H L=some (.lst [.str (Str.ofString "many"),.bl true])∧PartNo rs1 rs2 f1 f2∧(f1=f2→NoCC rs1 rs2 f1)) ∨
  (∃ T L t,z=.ref T∧H T=some (.tup [.str (Str.ofString "alike"),.ref L])∧H L=some (.lst (t.map tx))∧f1=f2∧Pcs rs1 rs2 f1 t) ∨
  ∃ T n,z=.ref T∧H T=some (.tup [.str (Str.ofString "part"),.int ((n:Nat):Int)])∧PartAt rs1 rs2 f1 f2 n
theorem FoundAt.same {H H':Hp} {rs1 rs2:List Rule} {f1 f2:List Nat} {z:V} (h:FoundAt H rs1 rs2 f1 f2 z) (s:Same H H'):FoundAt H' rs1 rs2 f1 f2 z:=by
  rcases h with ⟨L,e,h,r⟩ | ⟨T,L,t,e,h1,h2,r⟩ | ⟨T,n,e,h,r⟩
  · exact .inl ⟨L,e,s _ _ h,r⟩
  · exact .inr (.inl ⟨T,L,t,e,s _ _ h1,s _ _ h2,r⟩)
  · exact .inr (.inr ⟨T,n,e,s _ _ h,r⟩)
section
variable {P:Program} {w:World} {K:PySem.W.Frag} {mg:Str→Option Value} {base:Heap}
def spAsk (K:PySem.W.Frag):Sp:=fun vs H Q _=>∃ (t1 t2:Addr) (f1 f2:List Nat) (rs1 rs2:List Rule),vs=[.ref t1,.ref t2]∧BookAt H t1 f1 rs1∧BookAt H t2 f2 rs2∧Bk f1 rs1∧Bk f2 rs2∧∀ z H',Same H H'→FoundAt H' rs1 rs2 f1 f2 z→Q z H'
theorem scAsk:FnScope ["_law_one","_law_other","_law_found","e","_law_others"] ["_law_one","_law_other"] (defScope sAsk):=⟨rfl,rfl,rfl,by decide +kernel,rfl,by decide +kernel,by decide +kernel⟩
theorem ok_ask {f fRal:Addr} {fd fdRal:FuncData} (F:Fun K "_law_asked" "_law_asked" sAsk f fd)
    {cGrowError:Addr} (hGrowError:mg "GrowError" = some (.ref cGrowError)) (eGrowError:ClsK K cGrowError)
    {cNoBook:Addr} (hNoBook:mg "NoBook" = some (.ref cNoBook)) (eNoBook:ClsK K cNoBook)
    {cNoLetter:Addr} (hNoLetter:mg "NoLetter" = some (.ref cNoLetter)) (eNoLetter:ClsK K cNoLetter)
    {cNoNumber:Addr} (hNoNumber:mg "NoNumber" = some (.ref cNoNumber)) (eNoNumber:ClsK K cNoNumber)
    {cTooLong:Addr} (hTooLong:mg "TooLong" = some (.ref cTooLong)) (eTooLong:ClsK K cTooLong)
    {cTooMany:Addr} (hTooMany:mg "TooMany" = some (.ref cTooMany)) (eTooMany:ClsK K cTooMany)
    {cTooFar:Addr} (hTooFar:mg "TooFar" = some (.ref cTooFar)) (eTooFar:ClsK K cTooFar)
    (GRal:FnOk P w K mg base (CX1 P w) 4 fRal fdRal ["one","other"] (spRalX cTooMany))
    (gRal:Gf K mg "rows_alike" fRal fdRal ["one","other"])
    (hM0:PySem.W.mroIn K cTooMany (.ref cGrowError)=some true)
    (hM1:PySem.W.mroIn K cTooMany (.ref cNoBook)=some false)
    (hM2:PySem.W.mroIn K cTooMany (.ref cNoLetter)=some false)
    (hM3:PySem.W.mroIn K cTooMany (.ref cNoNumber)=some false)
    (hM4:PySem.W.mroIn K cTooMany (.ref cTooLong)=some false)
    (hM5:PySem.W.mroIn K cTooMany (.ref cTooMany)=some true)
    (hM6:PySem.W.mroIn K cTooMany (.ref cTooFar)=some false)
    (hMV:PySem.W.mroIn K cTooMany (.type "ValueError")=some true)
    (xM:ExcK K cTooMany)
    (hlen:mg "len" = none)
    (htuple:mg "tuple" = none)
    (hisinstance:mg "isinstance" = none)
    (hstr:mg "str" = none)
    (hValueError:mg "ValueError" = none)
    : FnOk P w K mg base CX0 5 f fd ["_law_one","_law_other"] (spAsk K):=by
  refine F.ok scAsk (fun vs H Q E h=>?_) (fun cdv A outer s H vs Q E hr h=>?_)
  · obtain ⟨t1,t2,f1,f2,rs1,rs2,rfl,_⟩:=h
    rfl
  · obtain ⟨t1,t2,f1,f2,rs1,rs2,rfl,hB1,hB2,g1,g2,k⟩:=h
    refine ⟨_,(pss_cons (ps_tryA (i:=2) rfl rfl scAsk.nd rfl (Or.inl rfl) GRal hr rfl gRal.m gRal.k gRal.b .nil (fun _ _=>(pa_cons (pv 0) (pa_cons (pv 1) pa_nil))) (phs_as (i:=3) K scAsk.nd rfl rfl rfl hTooMany eTooMany.cls eTooMany.nt eTooMany.bexc (fun _=>(pss_cons (ps_set (i:=4) scAsk.nd rfl (Or.inl rfl) (pe_callB (call_isExcTK K PySem.F.attr_ValueError) (by rfl) hisinstance (show bootBuiltins "isinstance" = some (.builtin "isinstance") by decide +kernel) (pa_cons (pv 3) (pa_cons (pe_tup (pa_cons (pe_glob (v:=.ref cNoBook) (by rfl) hNoBook rfl) (pa_cons (pe_glob (v:=.ref cNoLetter) (by rfl) hNoLetter rfl) (pa_cons (pe_glob (v:=.ref cNoNumber) (by rfl) hNoNumber rfl) (pa_cons (pe_glob (v:=.ref cTooLong) (by rfl) hTooLong rfl) (pa_cons (pe_glob (v:=.ref cTooFar) (by rfl) hTooFar rfl) pa_nil)))))) pa_nil))))
      (pss_one (ps_ret (pe_lst (pa_cons pe_str (pa_cons (pe_and (pe_callB (call_isExcK K PySem.F.attr_ValueError) (by rfl) hisinstance (show bootBuiltins "isinstance" = some (.builtin "isinstance") by decide +kernel) (pa_cons (pv 3) (pa_cons (pe_glob (v:=.ref cGrowError) (by rfl) hGrowError rfl) pa_nil))) (pe_and (pe_callB (call_isExcK K PySem.F.attr_ValueError) (by rfl) hisinstance (show bootBuiltins "isinstance" = some (.builtin "isinstance") by decide +kernel) (pa_cons (pv 3) (pa_cons (pe_bltn (v:=.ty "ValueError") (by rfl) hValueError (show bootBuiltins "ValueError" = some (.type "ValueError") by decide +kernel) rfl) pa_nil))) (pe_one (pe_not (pv 4))))) pa_nil))))))) phs_nil))
      (pss_cons (ps_if (PW.pt (pw_or (pt_not (pt_val (pe_callB (call_isinstK K) (by rfl) hisinstance (show bootBuiltins "isinstance" = some (.builtin "isinstance") by decide +kernel) (pa_cons (pv 2) (pa_cons (pe_bltn (v:=.ty "tuple") (by rfl) htuple (show bootBuiltins "tuple" = some (.type "tuple") by decide +kernel) rfl) pa_nil))))) (pw_or (pt_cmpR op_ne (pe_callB (call_lenK K) (by rfl) hlen PySem.boot_len (pa_cons (pv 2) pa_nil)) pe_int (nomark _)) (pw_or1 (pt_not (pt_val (pe_callB (call_isinstK K) (by rfl) hisinstance (show bootBuiltins "isinstance" = some (.builtin "isinstance") by decide +kernel) (pa_cons (pe_ix (ix_tupK K) (pv 2) pe_int (fun _ _=>rfl)) (pa_cons (pe_bltn (v:=.ty "str") (by rfl) hstr (show bootBuiltins "str" = some (.type "str") by decide +kernel) rfl) pa_nil))))))))) (pss_one (ps_ret pe_non)) pss_nil)
      (pss_one (ps_ret (pv 2))))),?_⟩
    have two:∀ {T:Addr} {a:Str} {x:V} {H':Hp},H' T=some (.tup [.str a,x])→Q (.ref T) H'→tSeq (tIfS (tOr (tNot (tB (tCB (rIsi K) (tCons (tVar 2) (tCons (tC (.ty "tuple")) tNil))))) (tOr (tTest (tOp rNe (tCB (rLen K) (tCons (tVar 2) tNil)) (tC (V.int 2)))) (tNot (tB (tCB (rIsi K) (tCons (tOp (rIxT K) (tVar 2) (tC (V.int 0))) (tCons (tC (.ty "str")) tNil))))))) (tRet (tC V.non)) tNext) (tRet (tVar 2)) { nx:=fun x H'=>Q V.non H',rt:=Q } [some (.ref t1),some (.ref t2),some (.ref T),none,none] H':=by
      intro T a x H' hT q
      refine ⟨_,rfl,_,_,_,true,rfl,TyOf.tup hT,(by rfl),_,rfl,iteF ?_⟩
      refine ⟨_,rfl,T,_,rfl,.inr (SqT.of hT),rfl,_,rfl,iteF ?_⟩
      refine ⟨_,rfl,T,_,_,_,rfl,rfl,SqT.of hT,atI_nat (j:=0) rfl,_,_,_,true,rfl,TyOf.str _,(by rfl),_,rfl,iteF ?_⟩
      exact ⟨_,rfl,q⟩
    refine ⟨_,rfl,_,rfl,t1,t2,f1,f2,rs1,rs2,rfl,hB1,hB2,g1,g2,fun T L t H' s nT nL hT hL he hP=>?_,fun T n H' s nT hT hP=>?_,fun H' s hno hcc=>⟨cTooMany,rfl,?_⟩⟩
    · exact two hT (k _ _ s (.inr (.inl ⟨T,L,t,rfl,hT,hL,he,hP⟩)))
    · exact two hT (k _ _ s (.inr (.inr ⟨T,n,rfl,hT,hP⟩)))
    · refine ⟨true,hM5,iteT fun e he=>?_⟩
      have heN:H' e=none:=he
      refine ⟨_,rfl,szl (show 5≤1000 by decide),fun T hT=>?_⟩
      have neM:∀ {C:Addr},PySem.W.mroIn K cTooMany (.ref C)=some false→cTooMany≠C:=fun h z=>by subst z;rw [hM5] at h;cases h
      refine ⟨e,T,cTooMany,[cNoBook,cNoLetter,cNoNumber,cTooLong,cTooFar],false,rfl,upd_in upd_same (ne_of_none upd_same hT),xM,upd_same,kit_none fun C hC=>?_,?_⟩
      · simp only [List.mem_cons,List.not_mem_nil,or_false] at hC
        rcases hC with rfl | rfl | rfl | rfl | rfl
        · exact ⟨neM hM1,eNoBook.cls,eNoBook.ty,hM1⟩
        · exact ⟨neM hM2,eNoLetter.cls,eNoLetter.ty,hM2⟩
        · exact ⟨neM hM3,eNoNumber.cls,eNoNumber.ty,hM3⟩
        · exact ⟨neM hM4,eTooLong.cls,eTooLong.ty,hM4⟩
        · exact ⟨neM hM6,eTooFar.cls,eTooFar.ty,hM6⟩
      · have sT:=Same.add (o:=.tup [.ref cNoBook,.ref cNoLetter,.ref cNoNumber,.ref cTooLong,.ref cTooFar]) hT
        refine ⟨_,rfl,e,cTooMany,.ref cGrowError,true,rfl,sT _ _ upd_same,xM,.inl ⟨cGrowError,rfl,eGrowError.cls,eGrowError.ty,hM0,fun _=>rfl⟩,_,rfl,iteT ?_⟩
        refine ⟨_,rfl,e,cTooMany,.ty "ValueError",true,rfl,sT _ _ upd_same,xM,.inr ⟨"ValueError",rfl,(by rfl),hMV⟩,_,rfl,iteT ⟨_,rfl,_,rfl,szl (show 2≤1000 by decide),fun L nL=>?_⟩⟩
        exact k _ _ (s.trans ((Same.add he).trans (sT.trans (Same.add nL)))) (.inl ⟨L,rfl,upd_same,hno,hcc⟩)
theorem ear_no {rs1 rs2:List Rule} {f1 f2:List Nat} {n:Nat} (h:EarAt rs1 rs2 f1 f2 n) (hn:n≤300) (hno:PartNo rs1 rs2 f1 f2):False:=by
  obtain ⟨M,h1,h2⟩:=hno
  by_cases hM:n≤M
  · exact h.part.ne (h1 n hM)
  · rcases h2 with h2 | h2
    · have:=h.len M (by omega)
      omega
    · omega
theorem part_one {rs1 rs2:List Rule} {f1 f2:List Nat} {n m:Nat} (h:PartAt rs1 rs2 f1 f2 n) (h':PartAt rs1 rs2 f1 f2 m):n=m:=by
  by_cases h1:n < m
  · exact absurd (h'.eq n h1) h.ne
  · by_cases h2:m < n
    · exact absurd (h.eq m h2) h'.ne
    · omega
theorem some_part {rs1 rs2:List Rule} {f:List Nat} {n:Nat} (h:SomeCC rs1 rs2 f) (hA:PartAt rs1 rs2 f f n):False:=by
  obtain ⟨Q,hQ,_⟩:=h
  exact hA.ne (hQ.clo.rows n).1
theorem some_no {rs1 rs2:List Rule} {f:List Nat} (h:SomeCC rs1 rs2 f) (hn:NoCC rs1 rs2 f):False:=by
  obtain ⟨Q,hQ,h1,h2⟩:=h
  exact hn Q hQ (by omega) fun q hq=>Nat.le_trans (h2 q hq) (by decide)
def spWhl (K:PySem.W.Frag):Sp:=fun vs H Q _=>∃ n:Int,vs=[.int n]∧Q (.bl true) H
theorem scWhl:FnScope ["_law_found"] ["_law_found"] (defScope sWhl):=⟨rfl,rfl,rfl,by decide +kernel,rfl,by decide +kernel,by decide +kernel⟩
theorem ok_whl {f:Addr} {fd:FuncData} (F:Fun K "_law_whole" "_law_whole" sWhl f fd)
    (hint:mg "int" = none)
    (hisinstance:mg "isinstance" = none)
    (hbool:mg "bool" = none)
    : FnOk P w K mg base CX0 1 f fd ["_law_found"] (spWhl K):=by
  refine F.ok scWhl (fun vs H Q E h=>?_) (fun cdv A outer s H vs Q E hr h=>?_)
  · obtain ⟨n,rfl,_⟩:=h
    rfl
  · obtain ⟨n,rfl,k⟩:=h
    refine ⟨_,(pss_one (ps_ret (pe_and (pe_callB (call_isinstK K) (by rfl) hisinstance (show bootBuiltins "isinstance" = some (.builtin "isinstance") by decide +kernel) (pa_cons (pv 0) (pa_cons (pe_bltn (v:=.ty "int") (by rfl) hint (show bootBuiltins "int" = some (.type "int") by decide +kernel) rfl) pa_nil))) (pe_one (pe_not (pe_callB (call_isinstK K) (by rfl) hisinstance (show bootBuiltins "isinstance" = some (.builtin "isinstance") by decide +kernel) (pa_cons (pv 0) (pa_cons (pe_bltn (v:=.ty "bool") (by rfl) hbool (show bootBuiltins "bool" = some (.type "bool") by decide +kernel) rfl) pa_nil)))))))),?_⟩
    refine ⟨_,rfl,_,_,_,true,rfl,TyOf.int n,(by rfl),_,rfl,iteT ?_⟩
    exact ⟨_,rfl,_,_,_,false,rfl,TyOf.int n,(by rfl),_,rfl,k⟩
def spRgt (K:PySem.W.Frag):Sp:=fun vs H Q _=>∃ (t1 t2:Addr) (f1 f2:List Nat) (rs1 rs2:List Rule) (z:V),vs=[.ref t1,.ref t2,z]∧BookAt H t1 f1 rs1∧BookAt H t2 f2 rs2∧Bk f1 rs1∧Bk f2 rs2∧FoundAt H rs1 rs2 f1 f2 z∧∀ H',Same H H'→Q (.bl true) H'
theorem scRgt:FnScope ["_law_one","_law_other","_law_found","_law_early_here"] ["_law_one","_law_other","_law_found"] (defScope sRgt):=⟨rfl,rfl,rfl,by decide +kernel,rfl,by decide +kernel,by decide +kernel⟩
theorem ok_rgt {f fEar fSwn fWhl fLtr fPla:Addr} {fd fdEar fdSwn fdWhl fdLtr fdPla:FuncData} (F:Fun K "_law_right" "_law_right" sRgt f fd)
    (GEar:FnOk P w K mg base CX0 1 fEar fdEar ["_law_one","_law_other"] spEar)
    (gEar:Gf K mg "_law_early" fEar fdEar ["_law_one","_law_other"])
    (GSwn:FnOk P w K mg base CX0 2 fSwn fdSwn ["_law_one","_law_other","_law_pieces"] (spSwn K))
    (gSwn:Gf K mg "_law_shown" fSwn fdSwn ["_law_one","_law_other","_law_pieces"])
    (GWhl:FnOk P w K mg base CX0 1 fWhl fdWhl ["_law_found"] (spWhl K))
    (gWhl:Gf K mg "_law_whole" fWhl fdWhl ["_law_found"])
    (GLtr:FnOk P w K mg base CX0 1 fLtr fdLtr ["_law_one","_law_other","_law_n"] spLtr)
    (gLtr:Gf K mg "_law_later" fLtr fdLtr ["_law_one","_law_other","_law_n"])
    (GPla:FnOk P w K mg base CX0 2 fPla fdPla ["_law_one","_law_other"] spPla)
    (gPla:Gf K mg "_law_plain" fPla fdPla ["_law_one","_law_other"])
    (hlist:mg "list" = none)
    (hsorted:mg "sorted" = none)
    (hisinstance:mg "isinstance" = none)
    (hset:mg "set" = none)
    : FnOk P w K mg base CX0 3 f fd ["_law_one","_law_other","_law_found"] (spRgt K):=by
  refine F.ok scRgt (fun vs H Q E h=>?_) (fun cdv A outer s H vs Q E hr h=>?_)
  · obtain ⟨t1,t2,f1,f2,rs1,rs2,z,rfl,_⟩:=h
    rfl
  · obtain ⟨t1,t2,f1,f2,rs1,rs2,z,rfl,hB1,hB2,g1,g2,hz,k⟩:=h
    have hr1:Room 1 _:=hr.mono (by decide)
    refine ⟨_,(pss_cons (ps_if (pt_cmpR op_isN (pv 2) pe_non (nomark _)) (pss_one (ps_ret pe_bl)) pss_nil)
      (pss_cons (ps_set (i:=3) scRgt.nd rfl (Or.inl rfl) (pe_call GEar hr1 rfl gEar.m gEar.k gEar.b .nil pass0 (pa_cons (pv 0) (pa_cons (pv 1) pa_nil))))
      (pss_cons (ps_if (pt_val (pe_callB (call_isinstK K) (by rfl) hisinstance (show bootBuiltins "isinstance" = some (.builtin "isinstance") by decide +kernel) (pa_cons (pv 2) (pa_cons (pe_bltn (v:=.ty "list") (by rfl) hlist (show bootBuiltins "list" = some (.type "list") by decide +kernel) rfl) pa_nil)))) (pss_one (ps_ret (pe_and (pe_ix (ix_listK K) (pv 2) pe_int (fun _ _=>rfl)) (pe_and (pe_cmpR op_isN (pv 3) pe_non (nomark _)) (pe_one (pe_cmpR op_isN (pe_call GPla hr rfl gPla.m gPla.k gPla.b .nil pass0 (pa_cons (pv 0) (pa_cons (pv 1) pa_nil))) pe_non (nomark _))))))) pss_nil)
      (pss_cons (ps_if (pt_cmpR op_eq (pe_ix (ix_tupK K) (pv 2) pe_int (fun _ _=>rfl)) pe_str (nomark _)) (pss_cons (ps_if (pt_not (pt_val (pe_call GSwn hr rfl gSwn.m gSwn.k gSwn.b .nil pass0 (pa_cons (pv 0) (pa_cons (pv 1) (pa_cons (pe_ix (ix_tupK K) (pv 2) pe_int (fun _ _=>rfl)) pa_nil)))))) (pss_one (ps_ret pe_bl)) pss_nil)
      (pss_one (ps_ret (pe_cmpR (op_eqVK K hr.units) (pe_ix (ix_tupK K) (pv 2) pe_int (fun _ _=>rfl)) (pe_callB (call_sort_setK P w rfl) (by rfl) hsorted PyProof.Rows.boot_sorted (pa_cons (pe_callTy (call_setLXK P w K rfl) (by rfl) hset (show bootBuiltins "set" = some (.type "set") by decide +kernel) (pa_cons (pe_ix (ix_tupK K) (pv 2) pe_int (fun _ _=>rfl)) pa_nil)) pa_nil)) (nomark _))))) pss_nil)
      (pss_cons (ps_if (PW.pt (pw_or (pt_cmpR op_ne (pe_ix (ix_tupK K) (pv 2) pe_int (fun _ _=>rfl)) pe_str (nomark _)) (pw_or1 (pt_not (pt_val (pe_call GWhl hr1 rfl gWhl.m gWhl.k gWhl.b .nil pass0 (pa_cons (pe_ix (ix_tupK K) (pv 2) pe_int (fun _ _=>rfl)) pa_nil))))))) (pss_one (ps_ret pe_bl)) pss_nil)
      (pss_cons (ps_if (pt_cmpR op_isN (pv 3) pe_non (nomark _)) (pss_one (ps_ret (pe_and (pe_cmpR op_gt (pe_ix (ix_tupK K) (pv 2) pe_int (fun _ _=>rfl)) pe_int (nomark _)) (pe_and (pe_cmpR op_isN (pe_call GPla hr rfl gPla.m gPla.k gPla.b .nil pass0 (pa_cons (pv 0) (pa_cons (pv 1) pa_nil))) pe_non (nomark _)) (pe_one (pe_call GLtr hr1 rfl gLtr.m gLtr.k gLtr.b .nil pass0 (pa_cons (pv 0) (pa_cons (pv 1) (pa_cons (pe_ix (ix_tupK K) (pv 2) pe_int (fun _ _=>rfl)) pa_nil))))))))) pss_nil)
      (pss_one (ps_ret (pe_cmpR op_eq (pe_ix (ix_tupK K) (pv 2) pe_int (fun _ _=>rfl)) (pv 3) (nomark _)))))))))),?_⟩
    have hzn:z≠.non:=by rcases hz with ⟨_,rfl,_⟩ | ⟨_,_,_,rfl,_⟩ | ⟨_,_,rfl,_⟩ <;> exact fun z=>nomatch z
    refine ⟨_,rfl,rfl,_,rfl,?_⟩
    rw [decide_eq_false hzn]
    refine iteF ?_
    -- the early age
    have nx:∀ (H1:Hp) (ve:V),Same H H1→((ve=.non∧f1=f2)∨∃ n:Nat,ve=.int (n:Int)∧EarAt rs1 rs2 f1 f2 n) →
        tSeq (tIfS (tB (tCB (rIsi K) (tCons (tVar 2) (tCons (tC (V.ty "list")) tNil))))
              (tRet
                (tAndV (tOp (rIxL K) (tVar 2) (tC (V.int 1)))
                  (tAndV (tOp (fun x y H Q=>y=V.non∧Q (V.bl (decide (x=V.non))) H) (tVar 3) (tC V.non))
                    (tOp (fun x y H Q=>y=V.non∧Q (V.bl (decide (x=V.non))) H)
                      (tCall spPla [] E0 (tCons (tVar 0) (tCons (tVar 1) tNil))) (tC V.non)))))
              tNext)
            (tSeq
              (tIfS (tTest (tOp rEq (tOp (rIxT K) (tVar 2) (tC (V.int 0))) (tC (V.str (Str.ofString "alike")))))
                (tSeq
                  (tIfS
                    (tNot
                      (tB
                        (tCall (spSwn K) [] E0
                          (tCons (tVar 0) (tCons (tVar 1) (tCons (tOp (rIxT K) (tVar 2) (tC (V.int 1))) tNil))))))
                    (tRet (tC (V.bl false))) tNext)
                  (tRet
                    (tOp (rSameV K true) (tOp (rIxT K) (tVar 2) (tC (V.int 1)))
                      (tCB (rSortX P w)
                        (tCons (tCB (rSetLX P w K) (tCons (tOp (rIxT K) (tVar 2) (tC (V.int 1))) tNil)) tNil)))))
                tNext)
              (tSeq
                (tIfS
                  (tOr (tTest (tOp rNe (tOp (rIxT K) (tVar 2) (tC (V.int 0))) (tC (V.str (Str.ofString "part")))))
                    (tNot (tB (tCall (spWhl K) [] E0 (tCons (tOp (rIxT K) (tVar 2) (tC (V.int 1))) tNil)))))
                  (tRet (tC (V.bl false))) tNext)
                (tSeq
                  (tIfS (tTest (tOp (fun x y H Q=>y=V.non∧Q (V.bl (decide (x=V.non))) H) (tVar 3) (tC V.non)))
                    (tRet
                      (tAndV
                        (tOp (rI0 fun i j=>V.bl (decide (j < i))) (tOp (rIxT K) (tVar 2) (tC (V.int 1)))
                          (tC (V.int 0)))
                        (tAndV
                          (tOp (fun x y H Q=>y=V.non∧Q (V.bl (decide (x=V.non))) H)
                            (tCall spPla [] E0 (tCons (tVar 0) (tCons (tVar 1) tNil))) (tC V.non))
                          (tCall spLtr [] E0
                            (tCons (tVar 0) (tCons (tVar 1) (tCons (tOp (rIxT K) (tVar 2) (tC (V.int 1))) tNil)))))))
                    tNext)
                  (tRet (tOp rEq (tOp (rIxT K) (tVar 2) (tC (V.int 1))) (tVar 3))))))
          { nx:=fun x H'=>Q V.non H',rt:=Q } [some (.ref t1),some (.ref t2),some z,some ve] H1:=by
      intro H1 ve s1 hve
      have b1:=hB1.mono (TupS.same s1)
      have b2:=hB2.mono (TupS.same s1)
      rcases hz.same s1 with ⟨L,rfl,hL,hno,hcc⟩ | ⟨T,L,t,rfl,hT,hL,rfl,hP⟩ | ⟨T,n,rfl,hT,hA⟩
      · refine ⟨_,rfl,_,_,_,true,rfl,TyOf.lst hL,(by rfl),_,rfl,iteT ?_⟩
        refine ⟨_,rfl,L,_,_,_,rfl,rfl,SqL.of hL,atI_nat (j:=1) rfl,_,rfl,iteT ?_⟩
        rcases hve with ⟨rfl,he⟩ | ⟨m,rfl,hE⟩
        · refine ⟨_,rfl,rfl,_,rfl,iteT ?_⟩
          refine ⟨_,rfl,_,rfl,t1,t2,f1,f2,rs1,rs2,rfl,b1,b2,g1,g2,fun H2 s2=>⟨rfl,k _ (s1.trans s2)⟩,fun L2 H2 s2 _ hS=>?_⟩
          exact (some_no hS (hcc he)).elim
        · exact (ear_no hE hE.part.le hno).elim
      · refine ⟨_,rfl,_,_,_,false,rfl,TyOf.tup hT,(by rfl),_,rfl,iteF ?_⟩
        refine ⟨_,rfl,T,_,_,_,rfl,rfl,SqT.of hT,atI_nat (j:=0) rfl,rfl,_,rfl,iteT ?_⟩
        refine ⟨_,rfl,_,rfl,_,rfl,T,_,_,_,rfl,rfl,SqT.of hT,atI_nat (j:=1) rfl,t1,t2,L,f1,f1,rs1,rs2,t,rfl,b1,b2,g1,g2,hL,by have:=hP.few;omega,fun p hp=>by have:=hP.len p hp;omega,fun H2 s2=>⟨_,rfl,?_⟩⟩
        rw [sw_of hP.cc hP.few hP.len hP.ins]
        have es:(t.map fun x=>(⟨x.toArray⟩:Str)).map V.str=t.map tx:=by rw [List.map_map];rfl
        have f30:=hP.few
        refine iteF ⟨_,rfl,T,_,_,_,rfl,rfl,SqT.of (s2 _ _ hT),atI_nat (j:=1) rfl,_,rfl,T,_,_,_,rfl,rfl,SqT.of (s2 _ _ hT),atI_nat (j:=1) rfl,L,t.map (fun x=>(⟨x.toArray⟩:Str)),rfl,(by rw [es];exact SqL.of (s2 _ _ hL)),by rw [List.length_map];omega,fun a na=>?_⟩
        have sa:=Same.add (o:=txHO P w a (t.map fun x=>(⟨x.toArray⟩:Str))) na
        refine ⟨a,_,t.map (fun x=>(⟨x.toArray⟩:Str)),rfl,upd_same,by rw [List.length_map];omega,by rw [List.length_map];omega,fun z hz=>hz,fun l us nl und uiff usrt=>?_⟩
        have eu:us=t.map (fun x=>(⟨x.toArray⟩:Str)):=pw_one (sortedS_pw usrt) (sortedS_pw hP.srt) und (List.Pairwise.map _ (fun a b h z=>h (txK_inj (congrArg Sum.inr z))) hP.nd) uiff
        rw [eu,es]
        have sl:=Same.add (o:=.lst (t.map tx)) nl
        exact ⟨0,L,l,rfl,rfl,same_list (sl _ _ (sa _ _ (s2 _ _ hL))) upd_same,by decide,k _ (s1.trans (s2.trans (sa.trans sl)))⟩
      · refine ⟨_,rfl,_,_,_,false,rfl,TyOf.tup hT,(by rfl),_,rfl,iteF ?_⟩
        refine ⟨_,rfl,T,_,_,_,rfl,rfl,SqT.of hT,atI_nat (j:=0) rfl,rfl,_,rfl,iteF ?_⟩
        refine ⟨_,rfl,T,_,_,_,rfl,rfl,SqT.of hT,atI_nat (j:=0) rfl,rfl,_,rfl,iteF ?_⟩
        refine ⟨_,rfl,T,_,_,_,rfl,rfl,SqT.of hT,atI_nat (j:=1) rfl,_,rfl,_,rfl,iteF ?_⟩
        rcases hve with ⟨rfl,he⟩ | ⟨m,rfl,hE⟩
        · subst he
          have hn0:0 < n:=by
            cases n with
            | zero=>exact absurd rfl hA.ne
            | succ n=>omega
          refine ⟨_,rfl,rfl,_,rfl,iteT ⟨_,rfl,T,_,_,_,rfl,rfl,SqT.of hT,atI_nat (j:=1) rfl,_,_,rfl,rfl,_,rfl,?_⟩⟩
          rw [decide_eq_true (show (0:Int) < (n:Int) by omega)]
          refine iteT ⟨_,rfl,_,rfl,t1,t2,f1,f1,rs1,rs2,rfl,b1,b2,g1,g2,fun H2 s2=>?_,fun L2 H2 s2 _ hS=>(some_part hS hA).elim⟩
          refine ⟨rfl,_,rfl,iteT ⟨_,rfl,_,rfl,_,rfl,T,_,_,_,rfl,rfl,SqT.of (s2 _ _ hT),atI_nat (j:=1) rfl,t1,t2,f1,f1,rs1,rs2,n,rfl,b1.mono (TupS.same s2),b2.mono (TupS.same s2),g1,g2,hA,fun H3 s3=>k _ (s1.trans (s2.trans s3))⟩⟩
        · have e:=part_one hA hE.part
          subst e
          refine ⟨_,rfl,rfl,_,rfl,iteF ⟨_,rfl,T,_,_,_,rfl,rfl,SqT.of hT,atI_nat (j:=1) rfl,_,rfl,rfl,?_⟩⟩
          rw [decide_eq_true rfl]
          exact k _ s1
    refine ⟨_,rfl,_,rfl,t1,t2,f1,f2,rs1,rs2,rfl,hB1,hB2,g1,g2,fun H1 s1 he=>nx H1 _ s1 (.inl ⟨rfl,he⟩),fun n H1 s1 hE=>nx H1 _ s1 (.inr ⟨n,rfl,hE⟩)⟩
end
end Lw
namespace Lw
open PySem L2 PyProof.Rows
theorem PenAt.sm {H H':Hp} {p:Addr} {b:Nat} (h:PenAt H p b) (s:Same H H'):PenAt H' p b:=by
  obtain ⟨a,n,f,e,h1⟩:=h.ex
  exact ⟨a,n,f,s _ _ e,h1⟩
theorem flat_le {M:Nat}:∀ {ws:List (List Nat)},(∀ x∈ws,x.length≤M)→ws.flatten.length≤ws.length * M
  | [],_=>by simp
  | x :: ws,h=>by
    have ih:=flat_le (ws:=ws) fun y hy=>h y (List.mem_cons_of_mem _ hy)
    have h1:=h x List.mem_cons_self
    rw [List.flatten_cons,List.length_append,List.length_cons,Nat.succ_mul]
    omega
theorem flat_eq {M:Nat}:∀ {ws:List (List Nat)},(∀ x∈ws,x.length=M)→ws.flatten.length=ws.length * M
  | [],_=>by simp
  | x :: ws,h=>by
    have ih:=flat_eq (ws:=ws) fun y hy=>h y (List.mem_cons_of_mem _ hy)
    have h1:=h x List.mem_cons_self
    rw [List.flatten_cons,List.length_append,List.length_cons,Nat.succ_mul]
    omega
section
variable {P:Program} {w:World} {K:PySem.W.Frag} {mg:Str→Option Value} {base:Heap}
def spTxt:Sp:=fun vs H Q _=>∃ (p l:Addr) (b n M:Nat) (xs:List (List Nat)),vs=[.ref p,.ref l,.int (n:Int)]∧PenAt H p b∧b≤900000∧n≤1000∧H l=some (.lst (xs.map tx))∧xs.length≤30∧(∀ x∈xs,x.length≤M)∧n * M≤1000∧l≠p ∧
  ∀ (w:List Nat) H',w.length≤n * M→Cat xs w→(xs≠[]→∀ M',(∀ x∈xs,x.length=M')→w.length=n * M')→But p H H'→PenAt H' p (b+n)→Q (tx w) H'
theorem scTxt:FnScope ["_law_pen_here","_law_signs_here","_law_many"] ["_law_pen_here","_law_signs_here","_law_many"] (defScope sTxt):=⟨rfl,rfl,rfl,by decide +kernel,rfl,by decide +kernel,by decide +kernel⟩
theorem nd_txt1:(["_law_k","_law_signs_here","_law_pen_here"]:List Str).Nodup:=by decide +kernel
theorem ok_txt {f fTak:Addr} {fd fdTak:FuncData} (F:Fun K "_law_text" "_law_text" sTxt f fd)
    (GTak:FnOk P w K mg base CX0 1 fTak fdTak ["_law_pen_here","_law_size"] spTak)
    (gTak:Gf K mg "_law_take" fTak fdTak ["_law_pen_here","_law_size"])
    (hlen:mg "len" = none)
    (hrange:mg "range" = none)
    (hint:mg "int" = none)
    : FnOk P w K mg base CX0 2 f fd ["_law_pen_here","_law_signs_here","_law_many"] spTxt:=by
  refine F.ok scTxt (fun vs H Q E h=>?_) (fun cdv A outer s H vs Q E hr h=>?_)
  · obtain ⟨p,l,b,n,M,xs,rfl,_⟩:=h
    rfl
  · obtain ⟨p,l,b,n,M,xs,rfl,hP,hb,hn,hl,hxl,hM,hM60,hlp,k⟩:=h
    refine ⟨_,(pss_one (ps_ret (pe_bmK K PySem.F.plainAttrs_str PySem.F.slot_str_join PySem.F.type_str_join (mt_joinK K) pe_str (pa_cons (pe_comp (N':=["_law_k","_law_signs_here","_law_pen_here"]) (ix:=[none,some 1,some 0]) rfl rfl (pi_range1 rfl hrange (pa_cons (pe_op op_mul (pv 2) (pe_callTy call_int1 (by rfl) hint (by first | exact PySem.boot_int | decide +kernel) (pa_cons (pe_cmpR op_gt (pe_callB (call_lenK K) (by rfl) hlen PySem.boot_len (pa_cons (pv 1) pa_nil)) pe_int (nomark _)) pa_nil))) pa_nil)) (fun _ _ _ _ _ _=>(pg_name (i:=0) nd_txt1 rfl (Or.inl rfl))) (fun _ _ _ _ _ _=>pts_nil) (fun _ _ _ _ _ _=>(pe_ix (ix_listK K) (pv 1) (pe_call GTak hr rfl gTak.m gTak.k gTak.b .nil pass0 (pa_cons (pv 2) (pa_cons (pe_callB (call_lenK K) (by rfl) hlen PySem.boot_len (pa_cons (pv 1) pa_nil)) pa_nil))) (fun _ _=>rfl)))) pa_nil)))),?_⟩
    have el:((xs.map tx).length:Int)=(xs.length:Int):=by rw [List.length_map]
    refine ⟨rfl,_,rfl,_,rfl,l,_,rfl,.inl (SqL.of hl),_,_,rfl,rfl,.inr ⟨_,rfl,?_⟩⟩
    obtain ⟨m,em,hm1,hm2⟩:∃ m:Nat,(n:Int) * (if decide ((0:Int) < ((xs.map tx).length:Int)) then 1 else 0)=(m:Int)∧m≤n∧(if xs=[] then m=0 else m=n):=by
      cases xs with
      | nil=>exact ⟨0,by simp,Nat.zero_le _,by simp⟩
      | cons c r =>
        refine ⟨n,?_,Nat.le_refl _,by simp⟩
        have hpos:(0:Int) < (((c :: r).map tx).length:Int):=by rw [List.length_map,List.length_cons];omega
        rw [decide_eq_true hpos]
        simp
    refine ⟨_,_,rfl,rfl,.inl ⟨by omega,by omega⟩,_,rfl,?_⟩
    rw [em]
    refine ⟨by omega,by omega,?_⟩
    refine comp_all (Q:=fun x H2=>rJoin K (V.str (Str.ofString "")) [x] H2 Q) (τ0:=[none,some (V.ref l),some (V.ref p)]) (sure_range (lo:=0) (n:=Int.toNat (m:Int))) (by rw [rngV_length];omega)
      (fun i ys τ H2=>∃ ws:List (List Nat),ys=ws.map tx∧ws.length=i∧(∀ c∈ws,c∈xs)∧But p H H2∧PenAt H2 p (b+i)∧∃ v,τ=[v,some (.ref l),some (.ref p)])
      ⟨[],rfl,rfl,(fun c hc=>by simp at hc),But.refl _ _,hP,_,rfl⟩ ?_ ?_ ?_
    · rintro i ys τ H2 hi ⟨w',rfl,e,_⟩
      exact ⟨trivial,by rw [List.length_map];omega⟩
    · rintro i x ys τ H2 hx ⟨w',rfl,et,hw,hBt,hPn,v,rfl⟩
      have hi:i < m:=by
        have:=(List.getElem?_eq_some_iff.mp hx).1
        rw [rngV_length] at this
        simpa using this
      have hne:xs≠[]:=fun z=>by rw [if_pos z] at hm2;omega
      have hcl:0 < xs.length:=List.length_pos_iff.mpr hne
      have hL2:=hBt l _ hl hlp
      refine ⟨_,rfl,_,rfl,_,rfl,l,_,rfl,.inl (SqL.of hL2),p,b+i,_,rfl,hPn,by omega,by rw [el];omega,by rw [el];omega,fun z H3 z0 z1 hP3 e3=>?_⟩
      rw [el] at z1
      obtain ⟨j,rfl⟩:∃ j:Nat,z=(j:Int):=⟨z.toNat,by omega⟩
      have hj:j < xs.length:=by omega
      refine ⟨l,_,_,_,rfl,rfl,SqL.of ((e3 l hlp).trans hL2),atI_nat (v:=tx xs[j]) (by rw [List.getElem?_map,List.getElem?_eq_getElem hj];rfl),?_⟩
      refine ⟨w'++[xs[j]],by rw [List.map_append];rfl,by rw [List.length_append,et];rfl,fun c hc=>?_,fun c o hc hne=>(e3 c hne).trans (hBt c o hc hne),hP3,_,rfl⟩
      rcases List.mem_append.mp hc with z | z
      · exact hw c z
      · rw [List.mem_singleton.mp z];exact List.getElem_mem hj
    · rintro ys τ H2 D ⟨ws,rfl,et,hw,hBt,hPn,v,rfl⟩ hD
      have e:(rngV 0 (Int.toNat (m:Int))).length=m:=by rw [rngV_length];simp
      rw [e] at et hPn
      obtain ⟨oD,hoD⟩:=hPn.some
      have nDp:D≠p:=(ne_of_none hoD hD).symm
      have hfl:=flat_le fun c hc=>hM c (hw c hc)
      have hmM:m * M≤n * M:=Nat.mul_le_mul_right _ hm1
      have hnM:=hM60
      rw [et] at hfl
      refine ⟨_,D,ws.map fun c=>(⟨c.toArray⟩:Str),rfl,rfl,SqL.of (by rw [upd_same,strs_tx]),?_,?_⟩
      · rw [sum_tx,List.length_map]
        show _+_ * 0≤_
        omega
      · rw [join_tx]
        exact k _ _ (by omega) ⟨ws,hw,rfl⟩ (fun hne M' h=>by rw [if_neg hne] at hm2;rw [flat_eq fun c hc=>h c (hw c hc),et,hm2]) (hBt.trans (But.same (Same.add hD))) ((hPn.other (upd_ne nDp.symm)).mono (by omega))
def spCtg:Sp:=fun vs H Q _=>∃ (p:Addr) (b n:Nat) (x:List Nat),vs=[.ref p,tx x,.int (n:Int)]∧PenAt H p b∧b≤900000∧1≤n∧n≤8∧x.length≤100 ∧
  ∀ (l:Addr) (ws:List (List Nat)) H',ws.length=n→ws.flatten=x→H l=none→H' l=some (.lst (ws.map tx))→But p H H'→PenAt H' p (b+n)→Q (.ref l) H'
theorem scCtg:FnScope ["_law_pen_here","_law_signs_here","_law_many","_law_places","_law_edges"] ["_law_pen_here","_law_signs_here","_law_many"] (defScope sCtg):=⟨rfl,rfl,rfl,by decide +kernel,rfl,by decide +kernel,by decide +kernel⟩
theorem nd_ctg1:(["_law_k","_law_pen_here","_law_signs_here"]:List Str).Nodup:=by decide +kernel
theorem nd_ctg2:(["_law_k","_law_signs_here","_law_edges"]:List Str).Nodup:=by decide +kernel
theorem ok_ctg {f fTak:Addr} {fd fdTak:FuncData} (F:Fun K "_law_cutting" "_law_cutting" sCtg f fd)
    (GTak:FnOk P w K mg base CX0 1 fTak fdTak ["_law_pen_here","_law_size"] spTak)
    (gTak:Gf K mg "_law_take" fTak fdTak ["_law_pen_here","_law_size"])
    (hlen:mg "len" = none)
    (hrange:mg "range" = none)
    (hsorted:mg "sorted" = none)
    : FnOk P w K mg base CX0 2 f fd ["_law_pen_here","_law_signs_here","_law_many"] spCtg:=by
  refine F.ok scCtg (fun vs H Q E h=>?_) (fun cdv A outer s H vs Q E hr h=>?_)
  · obtain ⟨p,b,n,x,rfl,_⟩:=h
    rfl
  · obtain ⟨p,b,n,x,rfl,hP,hb,h1,h8,hx,k⟩:=h
    refine ⟨_,(pss_cons (ps_set (i:=3) scCtg.nd rfl (Or.inl rfl) (pe_callB (call_sortIK K) (by rfl) hsorted PyProof.Rows.boot_sorted (pa_cons (pe_comp (N':=["_law_k","_law_pen_here","_law_signs_here"]) (ix:=[none,some 0,some 1]) rfl rfl (pi_range1 rfl hrange (pa_cons (pe_op op_sub (pv 2) pe_int) pa_nil)) (fun _ _ _ _ _ _=>(pg_name (i:=0) nd_ctg1 rfl (Or.inl rfl))) (fun _ _ _ _ _ _=>pts_nil) (fun _ _ _ _ _ _=>(pe_call GTak hr rfl gTak.m gTak.k gTak.b .nil pass0 (pa_cons (pv 1) (pa_cons (pe_op op_add (pe_callB call_len_str (by rfl) hlen PySem.boot_len (pa_cons (pv 2) pa_nil)) pe_int) pa_nil))))) pa_nil)))
      (pss_cons (ps_set (i:=4) scCtg.nd rfl (Or.inr rfl) (pe_op op_cat (pe_op op_cat (pe_lst (pa_cons pe_int pa_nil)) (pv 3)) (pe_lst (pa_cons (pe_callB call_len_str (by rfl) hlen PySem.boot_len (pa_cons (pv 1) pa_nil)) pa_nil))))
      (pss_one (ps_ret (pe_comp (N':=["_law_k","_law_signs_here","_law_edges"]) (ix:=[none,some 1,some 4]) rfl rfl (pi_range1 rfl hrange (pa_cons (pv 2) pa_nil)) (fun _ _ _ _ _ _=>(pg_name (i:=0) nd_ctg2 rfl (Or.inl rfl))) (fun _ _ _ _ _ _=>pts_nil) (fun _ _ _ _ _ _=>(pe_slice sl_str (pv 1) (po_some (pe_ix (ix_listK K) (pv 2) (pv 0) (fun _ _=>rfl))) (po_some (pe_ix (ix_listK K) (pv 2) (pe_op op_add (pv 0) pe_int) (fun _ _=>rfl)))))))))),?_⟩
    have ex:((⟨x.toArray⟩:Str).length:Nat)=x.length:=rfl
    refine ⟨_,rfl,_,_,rfl,rfl,_,rfl,by omega,by omega,?_⟩
    have en:((n:Int) - 1).toNat=n - 1:=by omega
    rw [en]
    refine comp_allR (τ0:=[none,some (.ref p),some (tx x)]) (sure_range (lo:=0) (n:=n - 1)) (by rw [rngV_length];omega)
      (fun i ys τ H2=>∃ ns:List Int,ys=ns.map V.int∧ns.length=i∧(∀ v∈ns,0≤v∧v≤x.length)∧But p H H2∧PenAt H2 p (b+i)∧∃ v,τ=[v,some (.ref p),some (tx x)]) ⟨[],rfl,rfl,(fun c hc=>by cases hc),But.refl _ _,hP,_,rfl⟩ ?_ ?_ ?_
    · rintro i ys τ H2 hi ⟨ns,rfl,e,_⟩
      exact ⟨trivial,by rw [List.length_map];omega⟩
    · rintro i y ys τ H2 hy ⟨ns,rfl,et,hns,hBt,hPn,v,rfl⟩
      obtain ⟨hi,rfl⟩:=rng_get hy
      refine ⟨_,rfl,_,rfl,⟨x.toArray⟩,rfl,szl (by rw [ex];omega),_,_,rfl,rfl,p,b+i,_,rfl,hPn,by omega,by rw [ex];omega,by rw [ex];omega,fun z H3 z0 z1 hP3 e3=>?_⟩
      rw [ex] at z1
      refine ⟨ns++[z],by rw [List.map_append];rfl,by rw [List.length_append,et];rfl,fun c hc=>?_,fun c o hc hne=>(e3 c hne).trans (hBt c o hc hne),hP3,_,rfl⟩
      rcases List.mem_append.mp hc with h | h
      · exact hns c h
      · rw [List.mem_singleton.mp h];exact ⟨z0,by omega⟩
    rintro ys τ H2 D ⟨ns,rfl,et,hns,hBt,hPn,v,rfl⟩ hD
    rw [rngV_length] at et hPn
    refine ⟨D,false,ns,rfl,SqL.of upd_same,by omega,fun l2 ns' nl2 perm pw=>?_⟩
    have sD:Same H2 (upd (upd H2 D (.lst (ns.map V.int))) l2 (.lst (ns'.map V.int))):=(Same.add hD).trans (Same.add nl2)
    have hl2:upd (upd H2 D (.lst (ns.map V.int))) l2 (.lst (ns'.map V.int)) l2=some (.lst (ns'.map V.int)):=upd_same
    revert sD hl2
    generalize upd (upd H2 D (.lst (ns.map V.int))) l2 (.lst (ns'.map V.int))=H3
    intro sD hl2
    have hl':ns'.length=n - 1:=perm.length_eq.trans et
    refine ⟨szl (show 1≤1000 by decide),fun a1 n1=>⟨_,rfl,a1,l2,_,_,rfl,rfl,upd_same,Same.add n1 _ _ hl2,szl (by rw [List.length_map,hl'];show 1+_≤_;omega),fun a2 n2=>?_⟩⟩
    have s4:Same H3 (upd (upd H3 a1 (.lst [V.int 0])) a2 (.lst ([V.int 0]++ns'.map V.int))):=(Same.add n1).trans (Same.add n2)
    have h4:upd (upd H3 a1 (.lst [V.int 0])) a2 (.lst ([V.int 0]++ns'.map V.int)) a2=some (.lst ([V.int 0]++ns'.map V.int)):=upd_same
    revert s4 h4
    generalize upd (upd H3 a1 (.lst [V.int 0])) a2 (.lst ([V.int 0]++ns'.map V.int))=H4
    intro s4 h4
    refine ⟨_,rfl,⟨x.toArray⟩,rfl,szl (by rw [ex];omega),szl (show 1≤1000 by decide),fun a3 n3=>⟨a2,a3,_,_,rfl,rfl,Same.add n3 _ _ h4,upd_same,szl (by rw [List.length_append,List.length_map,hl'];show 1+_+1≤_;omega),fun a4 n4=>?_⟩⟩
    rw [ex]
    have ee:[V.int 0]++ns'.map V.int++[V.int ((x.length:Nat):Int)]=(0 :: (ns'++[((x.length:Nat):Int)])).map V.int:=by simp
    rw [ee]
    have pe:(0 :: (ns'++[((x.length:Nat):Int)])).Pairwise (·≤·):=by
      refine List.pairwise_cons.mpr ⟨fun a ha=>?_,List.pairwise_append.mpr ⟨pw,List.pairwise_singleton _ _,fun a ha c hc=>?_⟩⟩
      · rcases List.mem_append.mp ha with h | h
        · exact (hns a (perm.mem_iff.mp h)).1
        · rw [List.mem_singleton.mp h];omega
      · rw [List.mem_singleton.mp hc]
        exact (hns a (perm.mem_iff.mp ha)).2
    have le:(0 :: (ns'++[((x.length:Nat):Int)])).length=n+1:=by rw [List.length_cons,List.length_append,hl'];show _+1+1=_;omega
    have be:∀ v∈(0 :: (ns'++[((x.length:Nat):Int)])),0≤v∧v≤((x.length:Nat):Int):=fun v hv=>by
      rcases List.mem_cons.mp hv with h | h
      · rw [h];omega
      rcases List.mem_append.mp h with h | h
      · exact hns v (perm.mem_iff.mp h)
      · rw [List.mem_singleton.mp h];omega
    have he0:(0 :: (ns'++[((x.length:Nat):Int)]))[0]? = some 0:=rfl
    have hen:(0 :: (ns'++[((x.length:Nat):Int)]))[n]? = some ((x.length:Nat):Int):=by
      obtain ⟨m,rfl⟩:∃ m,n=m+1:=⟨n - 1,by omega⟩
      have hm:ns'.length=m:=by omega
      rw [List.getElem?_cons_succ,List.getElem?_append_right (by omega),hm,Nat.sub_self]
      rfl
    revert pe le be ee he0 hen
    generalize (0 :: (ns'++[((x.length:Nat):Int)]))=es
    intro _ pe le be he0 hen
    have s5:Same H4 (upd (upd H4 a3 (.lst [V.int ((x.length:Nat):Int)])) a4 (.lst (es.map V.int))):=(Same.add n3).trans (Same.add n4)
    have h5:upd (upd H4 a3 (.lst [V.int ((x.length:Nat):Int)])) a4 (.lst (es.map V.int)) a4=some (.lst (es.map V.int)):=upd_same
    revert s5 h5
    generalize upd (upd H4 a3 (.lst [V.int ((x.length:Nat):Int)])) a4 (.lst (es.map V.int))=H5
    intro s5 h5
    have s25:=sD.trans (s4.trans s5)
    refine ⟨_,rfl,_,rfl,by omega,by omega,?_⟩
    rw [Int.toNat_natCast]
    refine comp_allR (τ0:=[none,some (tx x),some (.ref a4)]) (sure_range (lo:=0) (n:=n)) (by rw [rngV_length];omega)
      (fun i ys τ H6=>H6=H5∧(∃ v,τ=[v,some (tx x),some (.ref a4)])∧∃ ws:List (List Nat),ys=ws.map tx∧ws.length=i∧∀ u,es[i]? = some u→ws.flatten=x.take u.toNat) ⟨rfl,⟨_,rfl⟩,[],rfl,rfl,fun u hu=>by rw [he0] at hu;cases hu;rfl⟩ ?_ ?_ ?_
    · rintro i ys τ H6 hi ⟨_,_,ws,rfl,e,_⟩
      exact ⟨trivial,by rw [List.length_map];omega⟩
    · rintro i y ys τ H6 hy ⟨rfl,⟨v,rfl⟩,ws,rfl,ew,hws⟩
      obtain ⟨hi,rfl⟩:=rng_get hy
      have i1:i < es.length:=by omega
      have i2:i+1 < es.length:=by omega
      have g1:(es.map V.int)[i]? = some (V.int es[i]):=by rw [List.getElem?_map,List.getElem?_eq_getElem i1];rfl
      have g2:(es.map V.int)[i+1]? = some (V.int es[i+1]):=by rw [List.getElem?_map,List.getElem?_eq_getElem i2];rfl
      have l12:es[i]≤es[i+1]:=List.pairwise_iff_getElem.mp pe i (i+1) i1 i2 (by omega)
      have b1:=be es[i] (List.getElem_mem i1)
      have b2:=be es[i+1] (List.getElem_mem i2)
      refine ⟨_,rfl,_,rfl,_,rfl,a4,_,_,_,rfl,rfl,SqL.of h5,atI_nat g1,_,rfl,_,rfl,_,rfl,_,_,rfl,rfl,a4,_,_,_,rfl,rfl,SqL.of h5,atI_nat (j:=i+1) g2,_,rfl,⟨x.toArray⟩,rfl,szl (by rw [ex];omega),?_⟩
      have hwi:=hws es[i] (List.getElem?_eq_getElem i1)
      have hg2:es[i+1]? = some es[i+1]:=List.getElem?_eq_getElem i2
      revert l12 b1 b2 hwi hg2
      generalize es[i]=u
      generalize es[i+1]=u'
      intro l12 b1 b2 hwi hg2
      obtain ⟨a,rfl⟩:∃ a:Nat,u=(a:Int):=⟨u.toNat,by omega⟩
      obtain ⟨c,rfl⟩:∃ c:Nat,u'=(c:Int):=⟨u'.toNat,by omega⟩
      rw [slice_mid x a c (by omega) (by omega)]
      refine ⟨rfl,⟨_,rfl⟩,ws++[(x.drop a).take (c - a)],by rw [List.map_append];rfl,by rw [List.length_append,ew];rfl,fun u hu=>?_⟩
      rw [hg2] at hu
      cases hu
      rw [List.flatten_append,List.flatten_singleton,hwi,Int.toNat_natCast,Int.toNat_natCast,← List.take_add,show a+(c - a)=c by omega]
    · rintro ys τ H6 D6 ⟨rfl,_,ws,rfl,ew,hws⟩ hD6
      rw [rngV_length] at ew
      obtain ⟨oP,hoP⟩:=hPn.some
      have hoP6:=s25 _ _ hoP
      have nDp:D6≠p:=(ne_of_none hoP6 hD6).symm
      have nH:H D6=none:=by
        cases z:H D6 with
        | none=>rfl
        | some o=>rw [s25 _ _ (hBt _ _ z nDp)] at hD6;cases hD6
      exact k D6 ws _ ew (by rw [hws _ (by rw [rngV_length];exact hen),Int.toNat_natCast,List.take_length]) nH upd_same (hBt.trans (But.same (s25.trans (Same.add hD6)))) ((hPn.sm (s25.trans (Same.add hD6))).mono (by omega))
structure TwoAt (H:Hp) (T:Addr) (f:List Nat) (rs1 rs2:List Rule) (gs:List (List Nat)):Prop where
  ex:∃ t1 t2 g,H T=some (.tup [.ref t1,.ref t2,.ref g])∧BookAt H t1 f rs1∧BookAt H t2 f rs2∧H g=some (.lst (gs.map tx))
  k1:Bk f rs1
  k2:Bk f rs2
  clo:Clo rs1 rs2 f gs
  l1:∀ c,c∈ltr rs1 ↔ c∈gs.flatten
  l2:∀ c,c∈ltr rs2 ↔ c∈gs.flatten
  pos:0 < rs1.length
  z1:rs1.length=gs.flatten.length
  z2:rs2.length=gs.flatten.length
  ne:gs≠[]
  few:gs.length≤5
  all:∀ x∈gs,x≠[]∧x.length≤5
end
end Lw
namespace Lw
open PySem L2 PyProof.Rows
abbrev mkT (q:Addr × Rule):Tri:=(q.1,one q.2.1,⟨q.2.2.toArray⟩)
def unT (q:Tri):Rule:=(q.2.1.cps.getD 0 0,q.2.2.cps.toList)
theorem unT_mk (q:Addr × Rule):unT (mkT q)=q.2:=rfl
theorem rules_of {α:Type} {H:Hp} {f:α→Addr} {g:α→Rule}:∀ {xs:List α},(∀ x∈xs,H (f x)=some (.tup [sign (g x).1,tx (g x).2]))→RulesAt H (xs.map f) (xs.map g)
  | [],_=>.nil
  | x :: xs,h=>.cons (h x List.mem_cons_self) (rules_of fun y hy=>h y (List.mem_cons_of_mem _ hy))
theorem RulesAt.zip {H:Hp}:∀ {ps:List Addr} {rs:List Rule},RulesAt H ps rs→∀ q∈ps.zip rs,H q.1=some (.tup [sign q.2.1,tx q.2.2])
  | _,_,.nil,q,h=>by simp at h
  | _,_,.cons e r,q,h=>by
    rcases List.mem_cons.mp h with z | z
    · subst z;exact e
    · exact r.zip q z
theorem sort_tupR {K:PySem.W.Frag} {H:Hp} {a:Addr} {qs:List Addr} {us:List Rule} {Q:VK} (ha:H a=some (.lst (qs.map V.ref))) (hr:RulesAt H qs us) (nd:(ltr us).Nodup) (h8:us.length≤8)
    (k:∀ r qs' us' H',us'.Perm us→RulesAt H' qs' us'→H' r=some (.tup (qs'.map V.ref))→Same H H'→Q (.ref r) H'):rSortP K [.ref a] H fun x H1=>rTupOf K [x] H1 Q:=by
  have hlen:=hr.len
  have ez:(((qs.zip us).map mkT).map fun q=>V.ref q.1)=qs.map V.ref:=by
    rw [List.map_map]
    have:((fun q:Tri=>V.ref q.1) ∘ mkT)=V.ref ∘ Prod.fst:=rfl
    rw [this,← List.map_map,List.map_fst_zip (by omega)]
  have el:(((qs.zip us).map mkT).map (·.2.1))=(ltr us).map one:=by
    rw [List.map_map]
    have:((fun q:Tri=>q.2.1) ∘ mkT)=(fun u:Rule=>one u.1) ∘ Prod.snd:=rfl
    rw [this,← List.map_map,List.map_snd_zip (by omega)]
    unfold ltr
    rw [List.map_map]
    rfl
  have eu:((qs.zip us).map mkT).map unT=us:=by
    rw [List.map_map]
    have:unT ∘ mkT=Prod.snd:=rfl
    rw [this,List.map_snd_zip (by omega)]
  refine ⟨a,false,(qs.zip us).map mkT,rfl,by rw [ez];exact SqL.of ha,fun q hq=>?_,by rw [el];exact List.pairwise_map.mpr (nd.imp fun h z=>h (one_inj z)),by rw [List.length_map,List.length_zip];omega,fun l ts' nl pm pw=>?_⟩
  · obtain ⟨q',h',rfl⟩:=List.mem_map.mp hq
    exact hr.zip q' h'
  have s2:Same H (upd H l (.lst (ts'.map fun q=>V.ref q.1))):=Same.add nl
  refine ⟨l,_,rfl,.inl ⟨SqL.of upd_same,fun r nr=>?_⟩⟩
  have s3:Same (upd H l (.lst (ts'.map fun q=>V.ref q.1))) (upd (upd H l (.lst (ts'.map fun q=>V.ref q.1))) r (.tup (ts'.map fun q=>V.ref q.1))):=Same.add nr
  have s13:=s2.trans s3
  refine k r (ts'.map (·.1)) (ts'.map unT) _ ?_ ?_ ?_ s13
  · have:=pm.map unT
    rw [eu] at this
    exact this
  · refine rules_of fun x hx=>?_
    obtain ⟨q,hq,rfl⟩:=List.mem_map.mp (pm.mem_iff.mp hx)
    rw [unT_mk]
    exact s13 _ _ (hr.zip q hq)
  · rw [List.map_map]
    exact upd_same
theorem ltr_perm {us us':List Rule} (hp:us'.Perm us):(ltr us').Perm (ltr us):=hp.map _
theorem Bk.perm {f:List Nat} {us us':List Rule} (hp:us'.Perm us) (h8:us.length≤8) (nd:(ltr us).Nodup) (wl:∀ q∈us,q.2.length≤6) (fl:f.length≤12) (win:∀ q∈us,∀ c∈q.2,c∈ltr us) (fin:∀ c∈f,c∈ltr us):Bk f us' :=
  ⟨by rw [hp.length_eq];exact h8,(ltr_perm hp).nodup_iff.mpr nd,fun q hq=>wl q (hp.mem_iff.mp hq),fl,fun q hq c hc=>(ltr_perm hp).mem_iff.mpr (win q (hp.mem_iff.mp hq) c hc),fun c hc=>(ltr_perm hp).mem_iff.mpr (fin c hc)⟩
theorem wd_self:∀ {us:List Rule} {q:Rule},(ltr us).Nodup→q∈us→wd us q.1=q.2
  | [],_,_,h=>by cases h
  | p :: us,q,nd,h=>by
    obtain ⟨h1,h2⟩:=List.nodup_cons.mp (show (p.1 :: ltr us).Nodup from nd)
    rcases List.mem_cons.mp h with rfl | h
    · unfold wd
      rw [if_pos rfl]
    · have hne:¬ p.1=q.1:=fun z=>h1 (by rw [z];exact List.mem_map.mpr ⟨q,h,rfl⟩)
      unfold wd
      rw [if_neg hne]
      exact wd_self h2 h
theorem wd_perm {us us':List Rule} (hp:us'.Perm us) (nd:(ltr us).Nodup) {c:Nat} (hc:c∈ltr us):wd us' c=wd us c:=by
  obtain ⟨q,hq,rfl,e⟩:=wd_mem hc
  rw [e]
  exact wd_self ((ltr_perm hp).nodup_iff.mpr nd) (hp.mem_iff.mpr hq)
theorem nxt_congr {us us':List Rule} {x:List Nat} (h:∀ c∈x,wd us' c=wd us c):nxt us' x=nxt us x:=by
  unfold nxt
  rw [List.map_congr_left h]
theorem wd_left {us vs:List Rule} {c:Nat} (hc:c∈ltr us):wd (us++vs) c=wd us c:=by
  induction us with
  | nil=>exact absurd hc List.not_mem_nil
  | cons p us ih =>
    rw [List.cons_append]
    unfold wd
    by_cases e:p.1=c
    · rw [if_pos e,if_pos e]
    · rw [if_neg e,if_neg e]
      refine ih ?_
      rcases List.mem_cons.mp (show c∈p.1 :: ltr us from hc) with z | z
      · exact absurd z.symm e
      · exact z
theorem wd_right {us vs:List Rule} {c:Nat} (hc:c ∉ ltr us):wd (us++vs) c=wd vs c:=by
  induction us with
  | nil=>rfl
  | cons p us ih =>
    have e:¬ p.1=c:=fun z=>hc (by rw [← z];exact List.mem_cons_self)
    show (if p.1=c then p.2 else wd (us++vs) c)=wd vs c
    rw [if_neg e]
    exact ih fun z=>hc (List.mem_cons_of_mem _ z)
theorem ltr_app (us vs:List Rule):ltr (us++vs)=ltr us++ltr vs:=List.map_append
theorem ltr_zip:∀ {x:List Nat} {ws:List (List Nat)},ws.length=x.length→ltr (x.zip ws)=x
  | [],[],_=>rfl
  | [],_ :: _,h=>by cases h
  | _ :: _,[],h=>by cases h
  | c :: x,w :: ws,h=>by
    show c :: ltr (x.zip ws)=c :: x
    rw [ltr_zip (Nat.succ.inj h)]
theorem nxt_zip:∀ {x:List Nat} {ws:List (List Nat)},x.Nodup→ws.length=x.length→nxt (x.zip ws) x=ws.flatten
  | [],[],_,_=>rfl
  | [],_ :: _,_,h=>by cases h
  | _ :: _,[],_,h=>by cases h
  | c :: x,w :: ws,nd,h=>by
    obtain ⟨h1,h2⟩:=List.nodup_cons.mp nd
    have ih:=nxt_zip (x:=x) (ws:=ws) h2 (Nat.succ.inj h)
    have e0:wd ((c,w) :: x.zip ws) c=w:=by unfold wd;rw [if_pos rfl]
    have e1:nxt ((c,w) :: x.zip ws) x=nxt (x.zip ws) x:=nxt_congr fun d hd=>by
      have:¬ c=d:=fun z=>h1 (by rw [z];exact hd)
      show (if c=d then w else wd (x.zip ws) d)=_
      rw [if_neg this]
    show (wd ((c,w) :: x.zip ws) c)++nxt ((c,w) :: x.zip ws) x=w++ws.flatten
    rw [e0,e1,ih]
theorem zip_wl {x:List Nat} {ws:List (List Nat)} {q:Rule} (h:q∈x.zip ws):q.2∈ws:=(List.of_mem_zip (show (q.1,q.2)∈_ from h)).2
theorem cut_drop (xs:List V) (m:Nat):cutV xs (some (m:Int)) none=xs.drop m:=by
  unfold cutV
  rw [HT.sIx_nat,HT.sIx_none]
  by_cases h:m≤xs.length
  · rw [Nat.min_eq_left h,List.take_of_length_le (by rw [List.length_drop];omega)]
  · rw [Nat.min_eq_right (by omega),List.drop_length,List.drop_of_length_le (by omega)]
    exact List.take_nil
theorem rules_snoc {H:Hp} {q:Addr} {c:Nat} {w:List Nat} {qs:List Addr} {us:List Rule} (h:RulesAt H qs us) (hq:H q=some (.tup [sign c,tx w])):RulesAt H (qs++[q]) (us++[(c,w)]):=RulesAt.snoc hq h
theorem sum_ones2 (l:List Nat):((l.map one).map (·.length)).sum=l.length:=by
  induction l with
  | nil=>rfl
  | cons a l ih=>rw [List.map_cons,List.map_cons,List.sum_cons,ih];show 1+_=_;rw [List.length_cons];omega
theorem but_upd {p a:Addr} {H H':Hp} {o:HO} (h:But p H H') (n:H a=none):But p H (upd H' a o):=fun c u e m=>by
  rw [upd_ne (ne_of_none e n)]
  exact h c u e m
theorem but_eq {p:Addr} {H H':Hp} (e:∀ c,c≠p→H' c=H c):But p H H':=fun c o h n=>(e c n).trans h
theorem tups_but {p:Addr} {b:Nat} {H H':Hp} (h:But p H H') (hp:PenAt H p b):TupS H H':=fun c xs e=>by
  refine h c _ e fun z=>?_
  obtain ⟨a,n,f,e2,_⟩:=hp.ex
  rw [z,e2] at e
  cases e
theorem tups_upd {a:Addr} {H:Hp} {xs:List V} {o:HO} (h:H a=some (.lst xs)):TupS H (upd H a o):=fun c ys e=>by
  rw [upd_ne fun z=>by rw [z,h] at e;cases e]
  exact e
theorem ltr_snoc (us:List Rule) (c:Nat) (w:List Nat):ltr (us++[(c,w)])=ltr us++[c]:=by
  unfold ltr
  rw [List.map_append]
  rfl
def Two (a b:Addr) (H H':Hp):Prop:=∀ c o,H c=some o→c≠a→c≠b→H' c=some o
theorem par_in {K:PySem.W.Frag} {H:Hp} {D:Ends} {p l g o1 o2 lm lt:Addr} {x:List Nat} {ws1 ws2:List (List Nat)} {qs1 qs2:List Addr} {us1 us2:List Rule} {w3 w4 w9 w12:Option V}
    (h1:H o1=some (.lst (qs1.map V.ref))) (h2:H o2=some (.lst (qs2.map V.ref))) (n12:o1≠o2) (r1:RulesAt H qs1 us1) (r2:RulesAt H qs2 us2) (hm:H lm=some (.lst (ws1.map tx))) (ht:H lt=some (.lst (ws2.map tx))) (m1:lm≠o1) (m2:lm≠o2) (t1:lt≠o1) (t2:lt≠o2)
    (e1:ws1.length=x.length) (e2:ws2.length=x.length) (hx:x.length≤10) (hu1:qs1.length≤100) (hu2:qs2.length≤100)
    (k : ∀ qs1' qs2' H' w12',Two o1 o2 H H'→H' o1=some (.lst (qs1'.map V.ref))→H' o2=some (.lst (qs2'.map V.ref))→RulesAt H' qs1' (us1++x.zip ws1)→RulesAt H' qs2' (us2++x.zip ws2) →
      D.nx [some (.ref p),some (.ref l),some (.ref g),w3,w4,some (.int ((x.length:Nat):Int)),some (.ref o1),some (.ref o2),some (tx x),w9,some (.ref lm),some (.ref lt),w12',none] H') :
    tFor (iRng1 (tCons (tVar 5) tNil)) (gName 12)
      (tSeq (tDrop (tBM K "list" rAppend (tVar 6) (tCons (tTup (tCons (tOp rIxS (tVar 8) (tVar 12)) (tCons (tOp (rIxL K) (tVar 10) (tVar 12)) tNil))) tNil)))
        (tDrop (tBM K "list" rAppend (tVar 7) (tCons (tTup (tCons (tOp rIxS (tVar 8) (tVar 12)) (tCons (tOp (rIxL K) (tVar 11) (tVar 12)) tNil))) tNil)))) D
      [some (.ref p),some (.ref l),some (.ref g),w3,w4,some (.int ((x.length:Nat):Int)),some (.ref o1),some (.ref o2),some (tx x),w9,some (.ref lm),some (.ref lt),w12,none] H:=by
  have ex:((⟨x.toArray⟩:Str).length:Nat)=x.length:=rfl
  refine ⟨_,rfl,_,rfl,by omega,by omega,?_⟩
  rw [Int.toNat_natCast]
  refine for_by (sure_range (lo:=0) (n:=x.length)) (fun i σ H6=>∃ qs1' qs2' w12',σ=[some (.ref p),some (.ref l),some (.ref g),w3,w4,some (.int ((x.length:Nat):Int)),some (.ref o1),some (.ref o2),some (tx x),w9,some (.ref lm),some (.ref lt),w12',none]∧Two o1 o2 H H6∧H6 o1=some (.lst (qs1'.map V.ref))∧H6 o2=some (.lst (qs2'.map V.ref))∧RulesAt H6 qs1' (us1++(x.zip ws1).take i)∧RulesAt H6 qs2' (us2++(x.zip ws2).take i)∧qs1'.length≤100+i∧qs2'.length≤100+i)
    ⟨qs1,qs2,_,rfl,(fun _ _ h _ _=>h),h1,h2,by rw [List.take_zero,List.append_nil];exact r1,by rw [List.take_zero,List.append_nil];exact r2,by omega,by omega⟩ (fun _ _ _ _ _=>trivial) ?_ ?_
  · rintro i y σ H6 hy ⟨qs1',qs2',w12',rfl,tw,g1,g2,s1,s2,n1,n2⟩
    obtain ⟨hi,rfl⟩:=rng_get hy
    have i1:i < ws1.length:=by omega
    have i2:i < ws2.length:=by omega
    have z1:(x.zip ws1).take (i+1)=(x.zip ws1).take i++[(x[i],ws1[i])]:=by
      have hz:i < (x.zip ws1).length:=by rw [List.length_zip];omega
      rw [List.take_add_one,List.getElem?_eq_getElem hz,List.getElem_zip]
      rfl
    have z2:(x.zip ws2).take (i+1)=(x.zip ws2).take i++[(x[i],ws2[i])]:=by
      have hz:i < (x.zip ws2).length:=by rw [List.length_zip];omega
      rw [List.take_add_one,List.getElem?_eq_getElem hz,List.getElem_zip]
      rfl
    have hcx:(⟨x.toArray⟩:Str).cps.toList[i]? = some x[i]:=by show x[i]? = _;exact List.getElem?_eq_getElem hi
    have gm:(ws1.map tx)[i]? = some (tx ws1[i]):=by rw [List.getElem?_map,List.getElem?_eq_getElem i1];rfl
    have gt:(ws2.map tx)[i]? = some (tx ws2[i]):=by rw [List.getElem?_map,List.getElem?_eq_getElem i2];rfl
    refine ⟨_,rfl,.inl ⟨rfl,_,SqL.of g1⟩,_,rfl,_,rfl,⟨x.toArray⟩,_,_,rfl,rfl,szl (by rw [ex];omega),atI_nat hcx,_,rfl,_,rfl,lm,_,_,_,rfl,rfl,SqL.of (tw _ _ hm m1 m2),atI_nat gm,szl (show 2≤1000 by decide),fun T nT=>?_⟩
    have nT1:T≠o1:=(ne_of_none g1 nT).symm
    have nT2:T≠o2:=(ne_of_none g2 nT).symm
    have sT:=Same.add (o:=.tup [V.str ⟨#[x[i]]⟩,tx ws1[i]]) nT
    refine ⟨o1,_,_,rfl,rfl,sT _ _ g1,szl (by rw [List.length_map];omega),?_⟩
    have tw7:Two o1 o2 H (upd (upd H6 T (.tup [V.str ⟨#[x[i]]⟩,tx ws1[i]])) o1 (.lst (qs1'.map V.ref++[.ref T]))):=fun c o h a b'=>by
      rw [upd_ne a]
      exact sT _ _ (tw c o h a b')
    have g17:upd (upd H6 T (.tup [V.str ⟨#[x[i]]⟩,tx ws1[i]])) o1 (.lst (qs1'.map V.ref++[.ref T])) o1=some (.lst ((qs1'++[T]).map V.ref)):=by rw [upd_same,List.map_append];rfl
    have g27:upd (upd H6 T (.tup [V.str ⟨#[x[i]]⟩,tx ws1[i]])) o1 (.lst (qs1'.map V.ref++[.ref T])) o2=some (.lst (qs2'.map V.ref)):=by rw [upd_ne n12.symm];exact sT _ _ g2
    have tu:TupS H6 (upd (upd H6 T (.tup [V.str ⟨#[x[i]]⟩,tx ws1[i]])) o1 (.lst (qs1'.map V.ref++[.ref T]))):=(TupS.same sT).trans (tups_upd (sT _ _ g1))
    have s17:RulesAt (upd (upd H6 T (.tup [V.str ⟨#[x[i]]⟩,tx ws1[i]])) o1 (.lst (qs1'.map V.ref++[.ref T]))) (qs1'++[T]) (us1++(x.zip ws1).take i++[(x[i],ws1[i])]):=rules_snoc (s1.mono tu) (by rw [upd_ne nT1];exact upd_same)
    have s27:=s2.mono tu
    revert tw7 g17 g27 s17 s27
    generalize upd (upd H6 T (.tup [V.str ⟨#[x[i]]⟩,tx ws1[i]])) o1 (.lst (qs1'.map V.ref++[.ref T]))=H7
    intro tw7 g17 g27 s17 s27
    refine ⟨_,rfl,.inl ⟨rfl,_,SqL.of g27⟩,_,rfl,_,rfl,⟨x.toArray⟩,_,_,rfl,rfl,szl (by rw [ex];omega),atI_nat hcx,_,rfl,_,rfl,lt,_,_,_,rfl,rfl,SqL.of (tw7 _ _ ht t1 t2),atI_nat gt,szl (show 2≤1000 by decide),fun T2 nT2=>?_⟩
    have nT21:T2≠o1:=(ne_of_none g17 nT2).symm
    have nT22:T2≠o2:=(ne_of_none g27 nT2).symm
    have sT2:=Same.add (o:=.tup [V.str ⟨#[x[i]]⟩,tx ws2[i]]) nT2
    refine ⟨o2,_,_,rfl,rfl,sT2 _ _ g27,szl (by rw [List.length_map];omega),?_⟩
    have tu2:TupS H7 (upd (upd H7 T2 (.tup [V.str ⟨#[x[i]]⟩,tx ws2[i]])) o2 (.lst (qs2'.map V.ref++[.ref T2]))):=(TupS.same sT2).trans (tups_upd (sT2 _ _ g27))
    refine ⟨qs1'++[T],qs2'++[T2],_,rfl,fun c o h a b'=>?_,?_,?_,by rw [z1,← List.append_assoc];exact s17.mono tu2,by rw [z2,← List.append_assoc];exact rules_snoc (s27.mono tu2) (by rw [upd_ne nT22];exact upd_same),?_,?_⟩
    · rw [upd_ne b']
      exact sT2 _ _ (tw7 c o h a b')
    · rw [upd_ne n12]
      exact sT2 _ _ g17
    · rw [upd_same,List.map_append]
      rfl
    · rw [List.length_append];show _+1≤_;omega
    · rw [List.length_append];show _+1≤_;omega
  · rintro σ H6 ⟨qs1',qs2',w12',rfl,tw,g1,g2,s1,s2,n1,n2⟩
    rw [rngV_length,List.take_of_length_le (by rw [List.length_zip];omega)] at s1
    rw [rngV_length,List.take_of_length_le (by rw [List.length_zip];omega)] at s2
    exact k qs1' qs2' H6 w12' tw g1 g2 s1 s2
structure PrInv (gs:List (List Nat)) (i:Nat) (us1 us2:List Rule):Prop where
  l1:ltr us1=(gs.take i).flatten
  l2:ltr us2=(gs.take i).flatten
  w1:∀ q∈us1,q.2.length≤6∧∀ c∈q.2,c∈gs.flatten
  w2:∀ q∈us2,q.2.length≤6∧∀ c∈q.2,c∈gs.flatten
  al:∀ g∈gs.take i,nxt us1 g=nxt us2 g∧Cat gs (nxt us1 g)
theorem PrInv.zero (gs:List (List Nat)):PrInv gs 0 [] []:=⟨rfl,rfl,(fun q hq=>by cases hq),(fun q hq=>by cases hq),fun g hg=>by cases hg⟩
theorem cat_in {P:List (List Nat)} {x:List Nat} (h:Cat P x):∀ c∈x,c∈P.flatten:=fun c hc=>by
  obtain ⟨ps,h1,rfl⟩:=h
  obtain ⟨p,hp,hc⟩:=List.mem_flatten.mp hc
  exact List.mem_flatten.mpr ⟨p,h1 p hp,hc⟩
theorem PrInv.step {gs:List (List Nat)} {i:Nat} {us1 us2:List Rule} {x bh:List Nat} {ws1 ws2:List (List Nat)} (h:PrInv gs i us1 us2) (hx:gs[i]? = some x) (nd:gs.flatten.Nodup) (e1:ws1.length=x.length) (e2:ws2.length=x.length) (f1:ws1.flatten=bh) (f2:ws2.flatten=bh) (hc:Cat gs bh) (h6:bh.length≤6) :
    PrInv gs (i+1) (us1++x.zip ws1) (us2++x.zip ws2):=by
  have et:gs.take (i+1)=gs.take i++[x]:=by rw [List.take_add_one,hx];rfl
  have ef:(gs.take (i+1)).flatten=(gs.take i).flatten++x:=by rw [et,List.flatten_append,List.flatten_singleton]
  have ndt:((gs.take i).flatten++x).Nodup:=by
    rw [← ef]
    have:gs.flatten=(gs.take (i+1)).flatten++(gs.drop (i+1)).flatten:=by rw [← List.flatten_append,List.take_append_drop]
    rw [this] at nd
    exact (List.nodup_append.mp nd).1
  obtain ⟨n1,n2,n3⟩:=List.nodup_append.mp ndt
  have word:∀ {ws:List (List Nat)},ws.flatten=bh→∀ y∈ws,y.length≤6∧∀ c∈y,c∈gs.flatten:=fun {ws} e y hy=>by
    refine ⟨?_,fun c hc'=>cat_in hc c (by rw [← e];exact List.mem_flatten.mpr ⟨y,hy,hc'⟩)⟩
    have:y.length≤ws.flatten.length:=(List.sublist_flatten_of_mem hy).length_le
    rw [e] at this
    omega
  have nx:∀ {us:List Rule} {ws:List (List Nat)},ltr us=(gs.take i).flatten→ws.length=x.length→ws.flatten=bh→nxt (us++x.zip ws) x=bh:=fun {us ws} hl hw e=>by
    rw [nxt_congr (us:=x.zip ws) fun c hc=>wd_right (by rw [hl];exact fun z=>n3 c z c hc rfl),nxt_zip n2 hw,e]
  have old:∀ {us:List Rule} {ws:List (List Nat)},ltr us=(gs.take i).flatten→∀ g∈gs.take i,nxt (us++x.zip ws) g=nxt us g:=fun {us ws} hl g hg=>nxt_congr fun c hc=>wd_left (by rw [hl];exact List.mem_flatten.mpr ⟨g,hg,hc⟩)
  refine ⟨by rw [ltr_app,ltr_zip e1,h.l1,ef],by rw [ltr_app,ltr_zip e2,h.l2,ef],fun q hq=>?_,fun q hq=>?_,fun g hg=>?_⟩
  · rcases List.mem_append.mp hq with z | z
    · exact h.w1 q z
    · exact word f1 _ (zip_wl z)
  · rcases List.mem_append.mp hq with z | z
    · exact h.w2 q z
    · exact word f2 _ (zip_wl z)
  · rw [et] at hg
    rcases List.mem_append.mp hg with z | z
    · rw [old h.l1 g z,old h.l2 g z]
      exact h.al g z
    · rw [List.mem_singleton.mp z,nx h.l1 e1 f1,nx h.l2 e2 f2]
      exact ⟨rfl,hc⟩
section
variable {P:Program} {w:World} {K:PySem.W.Frag} {mg:Str→Option Value} {base:Heap}
def spPar:Sp:=fun vs H Q _=>∃ (p l:Addr) (b:Nat) (ns:List Nat),vs=[.ref p,.ref l]∧PenAt H p b∧b≤700000∧H l=some (.lst (ns.map fun n:Nat=>V.int (n:Int)))∧l≠p∧ns≠[]∧ns.length≤3∧(∀ i s,ns[i]? = some s→1≤s∧s≤3∧3 * i+s≤8) ∧
  ∀ (T:Addr) (f:List Nat) (rs1 rs2:List Rule) (gs:List (List Nat)) H',TwoAt H' T f rs1 rs2 gs→But p H H'→PenAt H' p (b+200)→gs.flatten.length≤ns.sum→Q (.ref T) H'
theorem scPar:FnScope ["_law_pen_here","_law_sizes","_law_groups","_law_signs_here","_law_size","_law_many","_law_one","_law_other","_law_group","_law_behind","_law_mine","_law_theirs","_law_k","_law_first"] ["_law_pen_here","_law_sizes"] (defScope sPar):=⟨rfl,rfl,rfl,by decide +kernel,rfl,by decide +kernel,by decide +kernel⟩
theorem ok_par {f fSig fTxt fCtg fTak:Addr} {fd fdSig fdTxt fdCtg fdTak:FuncData} (F:Fun K "_law_pair" "_law_pair" sPar f fd)
    (GSig:FnOk P w K mg base CX0 2 fSig fdSig ["_law_pen_here","_law_many"] spSig)
    (gSig:Gf K mg "_law_signs" fSig fdSig ["_law_pen_here","_law_many"])
    (GTxt:FnOk P w K mg base CX0 2 fTxt fdTxt ["_law_pen_here","_law_signs_here","_law_many"] spTxt)
    (gTxt:Gf K mg "_law_text" fTxt fdTxt ["_law_pen_here","_law_signs_here","_law_many"])
    (GCtg:FnOk P w K mg base CX0 2 fCtg fdCtg ["_law_pen_here","_law_signs_here","_law_many"] spCtg)
    (gCtg:Gf K mg "_law_cutting" fCtg fdCtg ["_law_pen_here","_law_signs_here","_law_many"])
    (GTak:FnOk P w K mg base CX0 1 fTak fdTak ["_law_pen_here","_law_size"] spTak)
    (gTak:Gf K mg "_law_take" fTak fdTak ["_law_pen_here","_law_size"])
    (hlen:mg "len" = none)
    (hrange:mg "range" = none)
    (htuple:mg "tuple" = none)
    (hsorted:mg "sorted" = none)
    : FnOk P w K mg base CX0 3 f fd ["_law_pen_here","_law_sizes"] spPar:=by
  refine F.ok scPar (fun vs H Q E h=>?_) (fun cdv A outer s H vs Q E hr h=>?_)
  · obtain ⟨p,l,b,ns,rfl,_⟩:=h
    rfl
  · obtain ⟨p,l,b,ns,rfl,hP,hb,hl,hlp,hne,h3,hS,k⟩:=h
    have hr1:Room 1 _:=hr.mono (by decide)
    refine ⟨_,(pss_cons (ps_set (i:=2) scPar.nd rfl (Or.inl rfl) (pe_lst pa_nil))
      (pss_cons (ps_set (i:=3) scPar.nd rfl (Or.inl rfl) (pe_call GSig hr rfl gSig.m gSig.k gSig.b .nil pass0 (pa_cons (pv 0) (pa_cons pe_int pa_nil))))
      (pss_cons (ps_for PassesOwn.never rfl (pi_listK K (pe_slice (sl_listK K) (pv 1) po_none (po_some (pe_op op_add pe_int (pe_call GTak hr1 rfl gTak.m gTak.k gTak.b .nil pass0 (pa_cons (pv 0) (pa_cons (pe_callB (call_lenK K) (by rfl) hlen PySem.boot_len (pa_cons (pv 1) pa_nil)) pa_nil))))))) (pg_name (i:=4) scPar.nd rfl (Or.inl rfl)) (pss_cons (ps_set (i:=5) scPar.nd rfl (Or.inl rfl) (pe_op op_add pe_int (pe_call GTak hr1 rfl gTak.m gTak.k gTak.b .nil pass0 (pa_cons (pv 0) (pa_cons (pv 4) pa_nil)))))
      (pss_cons (ps_expr (pe_bmK K PySem.F.plainAttrs_list PySem.F.slot_list_append PySem.F.type_list_append mt_append (pv 2) (pa_cons (pe_bmK K PySem.F.plainAttrs_str PySem.F.slot_str_join PySem.F.type_str_join (mt_joinK K) pe_str (pa_cons (pe_slice (sl_listK K) (pv 3) po_none (po_some (pv 5))) pa_nil)) pa_nil)))
      (pss_one (ps_set (i:=3) scPar.nd rfl (Or.inl rfl) (pe_slice (sl_listK K) (pv 3) (po_some (pv 5)) po_none))))))
      (pss_cons (ps_set (i:=6) scPar.nd rfl (Or.inl rfl) (pe_lst pa_nil))
      (pss_cons (ps_set (i:=7) scPar.nd rfl (Or.inl rfl) (pe_lst pa_nil))
      (pss_cons (ps_for PassesOwn.never rfl (pi_listK K (pv 2)) (pg_name (i:=8) scPar.nd rfl (Or.inl rfl)) (pss_cons (ps_set (i:=9) scPar.nd rfl (Or.inl rfl) (pe_call GTxt hr rfl gTxt.m gTxt.k gTxt.b .nil pass0 (pa_cons (pv 0) (pa_cons (pv 2) (pa_cons (pe_call GTak hr1 rfl gTak.m gTak.k gTak.b .nil pass0 (pa_cons (pv 0) (pa_cons pe_int pa_nil))) pa_nil)))))
      (pss_cons (ps_set (i:=5) scPar.nd rfl (Or.inl rfl) (pe_callB call_len_str (by rfl) hlen PySem.boot_len (pa_cons (pv 8) pa_nil)))
      (pss_cons (ps_set (i:=10) scPar.nd rfl (Or.inl rfl) (pe_call GCtg hr rfl gCtg.m gCtg.k gCtg.b .nil pass0 (pa_cons (pv 0) (pa_cons (pv 9) (pa_cons (pv 5) pa_nil)))))
      (pss_cons (ps_set (i:=11) scPar.nd rfl (Or.inl rfl) (pe_call GCtg hr rfl gCtg.m gCtg.k gCtg.b .nil pass0 (pa_cons (pv 0) (pa_cons (pv 9) (pa_cons (pv 5) pa_nil)))))
      (pss_cons (ps_if (pt_cmpR op_eq (pe_call GTak hr1 rfl gTak.m gTak.k gTak.b .nil pass0 (pa_cons (pv 0) (pa_cons pe_int pa_nil))) pe_int (nomark _)) (pss_one (ps_set (i:=11) scPar.nd rfl (Or.inl rfl) (pv 10))) pss_nil)
      (pss_one (ps_for PassesOwn.never rfl (pi_range1 rfl hrange (pa_cons (pv 5) pa_nil)) (pg_name (i:=12) scPar.nd rfl (Or.inl rfl)) (pss_cons (ps_expr (pe_bmK K PySem.F.plainAttrs_list PySem.F.slot_list_append PySem.F.type_list_append mt_append (pv 6) (pa_cons (pe_tup (pa_cons (pe_ix ix_str (pv 8) (pv 12) (fun _ _=>rfl)) (pa_cons (pe_ix (ix_listK K) (pv 10) (pv 12) (fun _ _=>rfl)) pa_nil))) pa_nil)))
      (pss_one (ps_expr (pe_bmK K PySem.F.plainAttrs_list PySem.F.slot_list_append PySem.F.type_list_append mt_append (pv 7) (pa_cons (pe_tup (pa_cons (pe_ix ix_str (pv 8) (pv 12) (fun _ _=>rfl)) (pa_cons (pe_ix (ix_listK K) (pv 11) (pv 12) (fun _ _=>rfl)) pa_nil))) pa_nil)))))))))))))
      (pss_cons (ps_set (i:=13) scPar.nd rfl (Or.inl rfl) (pe_call GTxt hr rfl gTxt.m gTxt.k gTxt.b .nil pass0 (pa_cons (pv 0) (pa_cons (pv 2) (pa_cons (pe_call GTak hr1 rfl gTak.m gTak.k gTak.b .nil pass0 (pa_cons (pv 0) (pa_cons pe_int pa_nil))) pa_nil)))))
      (pss_one (ps_ret (pe_tup (pa_cons (pe_tup (pa_cons (pv 13) (pa_cons (pe_callTy (call_tuple_ofK K) (by rfl) htuple (by first | exact PySem.boot_tuple | decide +kernel) (pa_cons (pe_callB (call_sortPK K) (by rfl) hsorted PyProof.Rows.boot_sorted (pa_cons (pv 6) pa_nil)) pa_nil)) pa_nil))) (pa_cons (pe_tup (pa_cons (pv 13) (pa_cons (pe_callTy (call_tuple_ofK K) (by rfl) htuple (by first | exact PySem.boot_tuple | decide +kernel) (pa_cons (pe_callB (call_sortPK K) (by rfl) hsorted PyProof.Rows.boot_sorted (pa_cons (pv 7) pa_nil)) pa_nil)) pa_nil))) (pa_cons (pv 2) pa_nil))))))))))))),?_⟩
    have elS:(ns.map fun n:Nat=>V.int (n:Int)).length=ns.length:=List.length_map _
    have hnl:0 < ns.length:=List.length_pos_iff.mpr hne
    refine ⟨szl (show 0≤1000 by decide),fun g ng=>?_⟩
    have hgp:g≠p:=by
      obtain ⟨oP,hoP⟩:=hP.some
      exact (ne_of_none hoP ng).symm
    have hgl:g≠l:=(ne_of_none hl ng).symm
    refine ⟨_,rfl,p,b,8,rfl,hP.sm (Same.add ng),by omega,by omega,fun l3 cs H2 bt2 hP2 nl3 hl3 hcl hnd habc=>?_⟩
    have bt02:But p H H2:=(But.same (Same.add ng)).trans bt2
    have hg2:H2 g=some (.lst []):=bt2 _ _ upd_same hgp
    have hl2:H2 l=some (.lst (ns.map fun n:Nat=>V.int (n:Int))):=bt02 _ _ hl hlp
    have h3g:l3≠g:=fun z=>by rw [z,upd_same] at nl3;cases nl3
    have h3p:l3≠p:=fun z=>by
      obtain ⟨oP,hoP⟩:=hP.some
      rw [z,upd_ne hgp.symm,hoP] at nl3;cases nl3
    refine ⟨_,rfl,_,rfl,_,rfl,l,_,rfl,.inl (SqL.of hl2),p,b+8,_,rfl,hP2,by omega,by rw [elS];omega,by rw [elS];omega,fun z H3 z0 z1 hP3 e3=>⟨_,_,rfl,rfl,_,rfl,l,_,rfl,SqL.of ((e3 l hlp).trans hl2),fun l4 nl4=>?_⟩⟩
    rw [elS] at z1
    obtain ⟨j,rfl⟩:∃ j:Nat,z=(j:Int):=⟨z.toNat,by omega⟩
    have ecut:cutV (ns.map fun n:Nat=>V.int (n:Int)) none (some (1+(j:Int)))=(ns.take (j+1)).map fun n:Nat=>V.int (n:Int):=by
      have:(1+(j:Int))=((j+1:Nat):Int):=by omega
      rw [this,cut_take,List.map_take]
    rw [ecut]
    have hl4p:l4≠p:=by
      obtain ⟨oP,hoP⟩:=hP3.some
      exact (ne_of_none hoP nl4).symm
    have hg3:H3 g=some (.lst []):=(e3 g hgp).trans hg2
    have hl4g:l4≠g:=(ne_of_none hg3 nl4).symm
    have h34:l3≠l4:=ne_of_none ((e3 l3 h3p).trans hl3) nl4
    have bt4:But p H (upd H3 l4 (.lst ((ns.take (j+1)).map fun n:Nat=>V.int (n:Int)))):=(bt02.trans (but_eq e3)).trans (But.same (Same.add nl4))
    refine ⟨l4,rfl,⟨_,SqL.of upd_same⟩,?_⟩
    refine for_by (sure_list (xs:=(ns.take (j+1)).map fun n:Nat=>V.int (n:Int))) (fun i σ H5=>∃ (gs:List (List Nat)) (cs':List Nat) (l3':Addr) (v4 v5:Option V),σ=[some (.ref p),some (.ref l),some (.ref g),some (.ref l3'),v4,v5,none,none,none,none,none,none,none,none]∧But p H H5∧PenAt H5 p (b+9+i)∧H5 g=some (.lst (gs.map tx))∧H5 l4=some (.lst ((ns.take (j+1)).map fun n:Nat=>V.int (n:Int)))∧H5 l3'=some (.lst (cs'.map sign))∧l3'≠g∧l3'≠p∧gs.flatten++cs'=cs∧gs.length=i∧(∀ x∈gs,x≠[]∧x.length≤3)∧8≤cs'.length+3 * i∧gs.flatten.length≤(ns.take i).sum)
      ⟨[],cs,l3,_,_,rfl,bt4,hP3.sm (Same.add nl4),Same.add nl4 _ _ hg3,upd_same,Same.add nl4 _ _ ((e3 l3 h3p).trans hl3),h3g,h3p,rfl,rfl,(fun x hx=>by cases hx),by omega,Nat.zero_le _⟩ (fun _ _ _ _ h=>by
        obtain ⟨_,_,_,_,_,_,_,_,_,h,_⟩:=h
        exact SqL.of h) ?_ ?_
    · rintro i y σ H5 hy ⟨gs,cs',l3',v4,v5,rfl,bt5,hP5,hg5,h45,h35,ng3,np3,hcat,hgl',hgs,hroom,hsum⟩
      rw [List.getElem?_map] at hy
      cases e:(ns.take (j+1))[i]? with
      | none=>rw [e] at hy;cases hy
      | some s0 =>
        rw [e] at hy
        cases hy
        have ens:ns[i]? = some s0:=by
          rw [List.getElem?_take] at e
          split at e
          · exact e
          · cases e
        obtain ⟨hs1,hs3,hs8⟩:=hS i s0 ens
        have hi3:i < 3:=by
          have:=(List.getElem?_eq_some_iff.mp ens).1
          omega
        refine ⟨_,rfl,_,rfl,p,b+9+i,_,rfl,hP5,by omega,by omega,by omega,fun z2 H6 z20 z21 hP6 e6=>⟨_,_,rfl,rfl,?_⟩⟩
        obtain ⟨m2,rfl⟩:∃ m:Nat,z2=(m:Int):=⟨z2.toNat,by omega⟩
        have em:(fun i j:Int=>V.int (i+j)) 1 (m2:Int)=V.int ((m2+1:Nat):Int):=by
          show V.int (1+(m2:Int))=_
          congr 1
          omega
        rw [em]
        have hg6:=(e6 g hgp).trans hg5
        have h36:=(e6 l3' np3).trans h35
        refine ⟨_,rfl,.inl ⟨rfl,_,SqL.of hg6⟩,rfl,_,rfl,_,rfl,_,rfl,l3',_,rfl,SqL.of h36,fun l6 nl6=>?_⟩
        rw [cut_take,← List.map_take]
        have hyl:(cs'.take (m2+1)).length=m2+1:=by rw [List.length_take];omega
        have e1:(((cs'.take (m2+1)).map one).map V.str)=(cs'.take (m2+1)).map sign:=by rw [List.map_map];rfl
        have s7:=Same.add (o:=.lst ((cs'.take (m2+1)).map sign)) nl6
        refine ⟨_,l6,(cs'.take (m2+1)).map one,rfl,rfl,by rw [e1];exact SqL.of upd_same,?_,?_⟩
        · rw [sum_ones2]
          show _+_ * 0≤_
          rw [hyl]
          exact szl (by omega)
        rw [show Txt.join (Str.ofString "") ((cs'.take (m2+1)).map one)=⟨(cs'.take (m2+1)).toArray⟩ from join_signs _]
        refine ⟨g,_,_,rfl,rfl,s7 _ _ hg6,szl (by rw [List.length_map];omega),?_⟩
        have n6p:l6≠p:=by
          obtain ⟨oP,hoP⟩:=hP6.some
          exact (ne_of_none hoP nl6).symm
        have bt8:But p H (upd (upd H6 l6 (.lst ((cs'.take (m2+1)).map sign))) g (.lst (gs.map tx++[tx (cs'.take (m2+1))]))):=but_upd ((bt5.trans (but_eq e6)).trans (But.same s7)) ng
        have hP8:PenAt (upd (upd H6 l6 (.lst ((cs'.take (m2+1)).map sign))) g (.lst (gs.map tx++[tx (cs'.take (m2+1))]))) p (b+9+i+1):=(hP6.sm s7).other (upd_ne hgp.symm)
        have hg8:upd (upd H6 l6 (.lst ((cs'.take (m2+1)).map sign))) g (.lst (gs.map tx++[tx (cs'.take (m2+1))])) g=some (.lst ((gs++[cs'.take (m2+1)]).map tx)):=by rw [upd_same,List.map_append];rfl
        have h48:upd (upd H6 l6 (.lst ((cs'.take (m2+1)).map sign))) g (.lst (gs.map tx++[tx (cs'.take (m2+1))])) l4=some (.lst ((ns.take (j+1)).map fun n:Nat=>V.int (n:Int))):=by rw [upd_ne hl4g];exact s7 _ _ ((e6 l4 hl4p).trans h45)
        have h38:upd (upd H6 l6 (.lst ((cs'.take (m2+1)).map sign))) g (.lst (gs.map tx++[tx (cs'.take (m2+1))])) l3'=some (.lst (cs'.map sign)):=by rw [upd_ne ng3];exact s7 _ _ h36
        revert bt8 hP8 hg8 h48 h38
        generalize upd (upd H6 l6 (.lst ((cs'.take (m2+1)).map sign))) g (.lst (gs.map tx++[tx (cs'.take (m2+1))]))=H8
        intro bt8 hP8 hg8 h48 h38
        refine ⟨_,rfl,_,rfl,_,rfl,l3',_,rfl,SqL.of h38,fun l7 nl7=>?_⟩
        rw [cut_drop,← List.map_drop]
        have s9:=Same.add (o:=.lst ((cs'.drop (m2+1)).map sign)) nl7
        refine ⟨gs++[cs'.take (m2+1)],cs'.drop (m2+1),l7,_,_,rfl,bt8.trans (But.same s9),hP8.sm s9,s9 _ _ hg8,s9 _ _ h48,upd_same,(ne_of_none hg8 nl7).symm,?_,?_,?_,?_,?_,?_⟩
        · obtain ⟨oP,hoP⟩:=hP8.some
          exact (ne_of_none hoP nl7).symm
        · rw [List.flatten_append,List.flatten_singleton,List.append_assoc,List.take_append_drop]
          exact hcat
        · rw [List.length_append,hgl']
          rfl
        · intro x hx
          rcases List.mem_append.mp hx with h | h
          · exact hgs x h
          · rw [List.mem_singleton.mp h]
            exact ⟨fun z=>(by rw [z] at hyl;cases hyl),by omega⟩
        · rw [List.length_drop]
          omega
        · have es:(ns.take (i+1)).sum=(ns.take i).sum+s0:=by rw [List.take_add_one,ens,List.sum_append];simp
          rw [List.flatten_append,List.flatten_singleton,List.length_append,hyl,es]
          omega
    rintro σ H5 ⟨gs,cs',l3',v4,v5,rfl,bt5,hP5,hg5,h45,h35,ng3,np3,hcat,hgl',hgs,hroom,hsum⟩
    have hsz:((ns.take (j+1)).map fun n:Nat=>V.int (n:Int)).length≤3∧1≤((ns.take (j+1)).map fun n:Nat=>V.int (n:Int)).length:=by
      rw [List.length_map,List.length_take]
      omega
    have hsum2:gs.flatten.length≤ns.sum:=by
      refine Nat.le_trans hsum ?_
      have:=List.take_append_drop ((ns.take (j+1)).map fun n:Nat=>V.int (n:Int)).length ns
      rw [← this,List.sum_append]
      rw [this]
      omega
    clear hsum
    revert hP5 hgl' hsz
    generalize ((ns.take (j+1)).map fun n:Nat=>V.int (n:Int)).length=ng'
    intro hP5 hgl' hsz
    have hgn:gs≠[]:=fun z=>by
      rw [z] at hgl'
      have h0:0=ng':=hgl'
      omega
    have hfd:gs.flatten.Nodup:=(List.nodup_append.mp (by rw [hcat];exact hnd)).1
    refine ⟨szl (show 0≤1000 by decide),fun o1 no1=>⟨szl (show 0≤1000 by decide),fun o2 no2=>?_⟩⟩
    have so:Same H5 (upd (upd H5 o1 (.lst [])) o2 (.lst [])):=(Same.add no1).trans (Same.add no2)
    have n12:o1≠o2:=fun z=>by rw [← z,upd_same] at no2;cases no2
    have ho1:upd (upd H5 o1 (.lst [])) o2 (.lst []) o1=some (.lst []):=by rw [upd_ne n12];exact upd_same
    have ho2:upd (upd H5 o1 (.lst [])) o2 (.lst []) o2=some (.lst []):=upd_same
    have n1p:o1≠p:=by
      obtain ⟨oP,hoP⟩:=hP5.some
      exact (ne_of_none hoP no1).symm
    have n2p:o2≠p:=by
      obtain ⟨oP,hoP⟩:=(hP5.sm (Same.add (o:=.lst []) no1)).some
      exact (ne_of_none hoP no2).symm
    have nH1:H o1=none:=bt5.free n1p no1
    have nH2:H o2=none:=(bt5.trans (But.same (Same.add no1))).free n2p no2
    have n1g:o1≠g:=(ne_of_none hg5 no1).symm
    have n2g:o2≠g:=(ne_of_none (Same.add no1 _ _ hg5) no2).symm
    revert so ho1 ho2
    generalize upd (upd H5 o1 (.lst [])) o2 (.lst [])=H9
    intro so ho1 ho2
    have hgs3:∀ x∈gs,x.length≤3:=fun x hx=>(hgs x hx).2
    have hgl3:gs.length≤3:=by omega
    refine ⟨_,rfl,g,rfl,⟨_,SqL.of (so _ _ hg5)⟩,?_⟩
    refine for_by (sure_list (xs:=gs.map tx)) (fun i σ H6=>∃ (qs1 qs2:List Addr) (us1 us2:List Rule) (w3 w4 w5 w8 w9 w10 w11 w12:Option V),σ=[some (.ref p),some (.ref l),some (.ref g),w3,w4,w5,some (.ref o1),some (.ref o2),w8,w9,w10,w11,w12,none]∧But p H H6∧PenAt H6 p (b+20+20 * i)∧H6 g=some (.lst (gs.map tx))∧H6 o1=some (.lst (qs1.map V.ref))∧H6 o2=some (.lst (qs2.map V.ref))∧RulesAt H6 qs1 us1∧RulesAt H6 qs2 us2∧PrInv gs i us1 us2)
      ⟨[],[],[],[],_,_,_,_,_,_,_,_,rfl,bt5.trans (But.same so),(hP5.sm so).mono (by omega),so _ _ hg5,ho1,ho2,.nil,.nil,PrInv.zero gs⟩ (fun _ _ _ _ h=>by
        obtain ⟨_,_,_,_,_,_,_,_,_,_,_,_,_,_,_,h,_⟩:=h
        exact SqL.of h) ?_ ?_
    · rintro i y σ H6 hy ⟨qs1,qs2,us1,us2,w3,w4,w5,w8,w9,w10,w11,w12,rfl,bt6,hP6,hg6,f1,f2,r1,r2,hPr⟩
      rw [List.getElem?_map] at hy
      cases e:gs[i]? with
      | none=>rw [e] at hy;cases hy
      | some x =>
        rw [e] at hy
        cases hy
        have k1:=hPr.l1
        have k2:=hPr.l2
        have hxm:=List.mem_of_getElem? e
        obtain ⟨hx0,hx3⟩:=hgs x hxm
        have hx1:1≤x.length:=List.length_pos_iff.mpr hx0
        have hi3:i < 3:=by
          have:=(List.getElem?_eq_some_iff.mp e).1
          omega
        have eft:(gs.take (i+1)).flatten=(gs.take i).flatten++x:=by
          have:gs.take (i+1)=gs.take i++[x]:=by rw [List.take_add_one,e];rfl
          rw [this,List.flatten_append,List.flatten_singleton]
        have hfl:((gs.take i).flatten).length≤9:=by
          have h1:=flat_le (ws:=gs.take i) (M:=3) fun y hy=>hgs3 y (List.mem_of_mem_take hy)
          rw [List.length_take] at h1
          omega
        have hq1:qs1.length≤100:=by
          have:=congrArg List.length k1
          unfold ltr at this
          rw [List.length_map] at this
          rw [r1.len]
          omega
        have hq2:qs2.length≤100:=by
          have:=congrArg List.length k2
          unfold ltr at this
          rw [List.length_map] at this
          rw [r2.len]
          omega
        refine ⟨_,rfl,_,rfl,_,rfl,p,b+20+20 * i,3,rfl,hP6,by omega,by omega,by omega,fun z H7 z0 z1 hP7 e7=>?_⟩
        obtain ⟨m,rfl⟩:∃ m:Nat,z=(m:Int):=⟨z.toNat,by omega⟩
        have b7:But p H6 H7:=but_eq e7
        refine ⟨p,g,b+20+20 * i+1,m,3,gs,rfl,hP7,by omega,by omega,b7 _ _ hg6 hgp,by omega,hgs3,by omega,hgp,fun bh H8 hbl hcb _ b8 hP8=>?_⟩
        have hbh:bh.length≤6:=by omega
        refine ⟨_,rfl,⟨x.toArray⟩,rfl,szl (show x.length≤1000 by omega),?_⟩
        refine ⟨_,rfl,_,rfl,_,rfl,p,b+20+20 * i+1+m,x.length,bh,rfl,hP8,by omega,hx1,by omega,by omega,fun lm ws1 H9' hw1 hwl1 nlm hlm b9 hP9=>?_⟩
        refine ⟨_,rfl,_,rfl,_,rfl,p,b+20+20 * i+1+m+x.length,x.length,bh,rfl,hP9,by omega,hx1,by omega,by omega,fun lt ws2 H10 hw2 hwl2 nlt hlt b10 hP10=>?_⟩
        refine ⟨_,rfl,p,b+20+20 * i+1+m+x.length+x.length,4,rfl,hP10,by omega,by omega,by omega,fun z2 H11 z20 z21 hP11 e11=>⟨rfl,_,rfl,?_⟩⟩
        have b8':But p H6 H8:=b7.trans b8
        have nlmp:lm≠p:=by
          obtain ⟨oP,hoP⟩:=hP8.some
          exact (ne_of_none hoP nlm).symm
        have nltp:lt≠p:=by
          obtain ⟨oP,hoP⟩:=hP9.some
          exact (ne_of_none hoP nlt).symm
        have b11:But p H6 H11:=((b8'.trans b9).trans b10).trans (but_eq e11)
        have nm1:lm≠o1:=(ne_of_none (b8' _ _ f1 n1p) nlm).symm
        have nm2:lm≠o2:=(ne_of_none (b8' _ _ f2 n2p) nlm).symm
        have nt1:lt≠o1:=(ne_of_none ((b8'.trans b9) _ _ f1 n1p) nlt).symm
        have nt2:lt≠o2:=(ne_of_none ((b8'.trans b9) _ _ f2 n2p) nlt).symm
        have hlm11:H11 lm=some (.lst (ws1.map tx)):=(e11 lm nlmp).trans (b10 _ _ hlm nlmp)
        have hlt11:H11 lt=some (.lst (ws2.map tx)):=(e11 lt nltp).trans hlt
        have tu:TupS H6 H11:=tups_but b11 hP6
        have fin:∀ {qs1' qs2':List Addr} {us1' us2':List Rule} {H':Hp} {w12' w11':Option V},Two o1 o2 H11 H'→H' o1=some (.lst (qs1'.map V.ref))→H' o2=some (.lst (qs2'.map V.ref))→RulesAt H' qs1' us1'→RulesAt H' qs2' us2'→PrInv gs (i+1) us1' us2' →
            ∃ (qs1 qs2:List Addr) (us1 us2:List Rule) (w3' w4' w5' w8' w9' w10' w11'' w12'':Option V),[some (.ref p),some (.ref l),some (.ref g),w3,w4,some (.int ((x.length:Nat):Int)),some (.ref o1),some (.ref o2),some (tx x),some (tx bh),some (.ref lm),w11',w12',none]=[some (.ref p),some (.ref l),some (.ref g),w3',w4',w5',some (.ref o1),some (.ref o2),w8',w9',w10',w11'',w12'',none]∧But p H H'∧PenAt H' p (b+20+20 * (i+1))∧H' g=some (.lst (gs.map tx))∧H' o1=some (.lst (qs1.map V.ref))∧H' o2=some (.lst (qs2.map V.ref))∧RulesAt H' qs1 us1∧RulesAt H' qs2 us2∧PrInv gs (i+1) us1 us2:=by
          intro qs1' qs2' us1' us2' H' w12' w11' tw g1 g2 s1 s2 hPr'
          refine ⟨qs1',qs2',us1',us2',_,_,_,_,_,_,_,_,rfl,fun c o h n=>tw c o ((bt6.trans b11) c o h n) (ne_of_none h nH1) (ne_of_none h nH2),?_,tw _ _ (b11 _ _ hg6 hgp) n1g.symm n2g.symm,g1,g2,s1,s2,hPr'⟩
          obtain ⟨a',n',f',e',he'⟩:=(hP11.mono (show b+20+20 * i+1+m+x.length+x.length+1≤b+20+20 * (i+1) by omega)).ex
          exact ⟨a',n',f',tw _ _ e' n1p.symm n2p.symm,he'⟩
        refine ite2 (fun _=>⟨_,rfl,?_⟩) (fun _=>?_)
        · exact par_in (x:=x) (b11 _ _ f1 n1p) (b11 _ _ f2 n2p) n12 (r1.mono tu) (r2.mono tu) hlm11 hlm11 nm1 nm2 nm1 nm2 hw1 hw1 (by omega) hq1 hq2 fun qs1' qs2' H' w12' tw g1 g2 s1 s2=>fin tw g1 g2 s1 s2 (hPr.step e hfd hw1 hw1 hwl1 hwl1 hcb hbh)
        · exact par_in (x:=x) (b11 _ _ f1 n1p) (b11 _ _ f2 n2p) n12 (r1.mono tu) (r2.mono tu) hlm11 hlt11 nm1 nm2 nt1 nt2 hw1 hw2 (by omega) hq1 hq2 fun qs1' qs2' H' w12' tw g1 g2 s1 s2=>fin tw g1 g2 s1 s2 (hPr.step e hfd hw1 hw2 hwl1 hwl2 hcb hbh)
    rintro σ H6 ⟨qs1,qs2,us1,us2,w3,w4,w5,w8,w9,w10,w11,w12,rfl,bt6,hP6,hg6,f1,f2,r1,r2,hPr⟩
    rw [List.length_map] at hPr
    have k1:=hPr.l1
    have k2:=hPr.l2
    rw [List.take_length] at k1 k2
    rw [List.length_map] at hP6
    have hfl8:gs.flatten.length≤8:=by
      have:=congrArg List.length hcat
      rw [List.length_append,hcl] at this
      omega
    have hf1:1≤gs.flatten.length:=by
      obtain ⟨x,r',rfl⟩:=List.exists_cons_of_ne_nil hgn
      have:=List.length_pos_iff.mpr (hgs x List.mem_cons_self).1
      rw [List.flatten_cons,List.length_append]
      omega
    have u1:us1.length=gs.flatten.length:=by rw [← k1];unfold ltr;rw [List.length_map]
    have u2:us2.length=gs.flatten.length:=by rw [← k2];unfold ltr;rw [List.length_map]
    refine ⟨_,rfl,_,rfl,_,rfl,p,b+20+20 * gs.length,5,rfl,hP6,by omega,by omega,by omega,fun z H7 z0 z1 hP7 e7=>?_⟩
    obtain ⟨m,rfl⟩:∃ m:Nat,z=(m:Int):=⟨z.toNat,by omega⟩
    have b7:But p H6 H7:=but_eq e7
    refine ⟨p,g,b+20+20 * gs.length+1,m,3,gs,rfl,hP7,by omega,by omega,b7 _ _ hg6 hgp,by omega,hgs3,by omega,hgp,fun f0 H8 hbl hcf _ b8 hP8=>?_⟩
    have hf0:f0.length≤12:=by omega
    have b68:=b7.trans b8
    have tu:=tups_but b68 hP6
    refine ⟨_,rfl,_,rfl,?_⟩
    dsimp only [tNil]
    refine sort_tupR (b68 _ _ f1 n1p) (r1.mono tu) (by rw [k1];exact hfd) (by omega) fun ra qa ua Ha pa ha ea sa=>⟨szl (show 2≤1000 by decide),fun t1 nt1=>?_⟩
    have sT1:=Same.add (o:=.tup [tx f0,.ref ra]) nt1
    have b1:BookAt (upd Ha t1 (.tup [tx f0,.ref ra])) t1 f0 ua:=⟨ra,qa,upd_same,sT1 _ _ ea,ha.mono (TupS.same sT1)⟩
    have s81:=sa.trans sT1
    revert b1 s81
    generalize upd Ha t1 (.tup [tx f0,.ref ra])=H12
    intro b1 s81
    refine ⟨_,rfl,_,rfl,?_⟩
    dsimp only [tNil]
    refine sort_tupR (s81 _ _ (b68 _ _ f2 n2p)) ((r2.mono tu).mono (TupS.same s81)) (by rw [k2];exact hfd) (by omega) fun rb qb ub Hb pb hb' eb sb=>⟨szl (show 2≤1000 by decide),fun t2 nt2=>?_⟩
    have sT2:=Same.add (o:=.tup [tx f0,.ref rb]) nt2
    have b2:BookAt (upd Hb t2 (.tup [tx f0,.ref rb])) t2 f0 ub:=⟨rb,qb,upd_same,sT2 _ _ eb,hb'.mono (TupS.same sT2)⟩
    have s82:=sb.trans sT2
    revert b2 s82
    generalize upd Hb t2 (.tup [tx f0,.ref rb])=H13
    intro b2 s82
    refine ⟨_,rfl,szl (show 3≤1000 by decide),fun T nT=>?_⟩
    have sT:=Same.add (o:=.tup [.ref t1,.ref t2,.ref g]) nT
    have sAll:=s81.trans (s82.trans sT)
    refine k T f0 ua ub gs _ ⟨⟨t1,t2,g,upd_same,b1.mono (TupS.same (s82.trans sT)),b2.mono (TupS.same sT),sAll _ _ (b68 _ _ hg6 hgp)⟩,Bk.perm pa (by omega) (by rw [k1];exact hfd) (fun q hq=>(hPr.w1 q hq).1) hf0 (fun q hq c hc=>by rw [k1];exact (hPr.w1 q hq).2 c hc) (fun c hc=>by rw [k1];exact cat_in hcf c hc),Bk.perm pb (by omega) (by rw [k2];exact hfd) (fun q hq=>(hPr.w2 q hq).1) hf0 (fun q hq c hc=>by rw [k2];exact (hPr.w2 q hq).2 c hc) (fun c hc=>by rw [k2];exact cat_in hcf c hc),⟨hcf,fun g hg=>?_,fun g hg=>?_⟩,fun c=>by rw [(ltr_perm pa).mem_iff,k1],fun c=>by rw [(ltr_perm pb).mem_iff,k2],by rw [pa.length_eq];omega,by rw [pa.length_eq,u1],by rw [pb.length_eq,u2],hgn,by omega,fun x hx=>⟨(hgs x hx).1,Nat.le_trans (hgs x hx).2 (by decide)⟩⟩ ((bt6.trans b68).trans (But.same sAll)) ((hP8.sm sAll).mono (by omega)) hsum2
    · have ha:=hPr.al g (by rw [List.take_length];exact hg)
      rw [nxt_congr fun c hc=>wd_perm pa (by rw [k1];exact hfd) (by rw [k1];exact List.mem_flatten.mpr ⟨g,hg,hc⟩),nxt_congr fun c hc=>wd_perm pb (by rw [k2];exact hfd) (by rw [k2];exact List.mem_flatten.mpr ⟨g,hg,hc⟩)]
      exact ha.1
    · have ha:=hPr.al g (by rw [List.take_length];exact hg)
      rw [nxt_congr fun c hc=>wd_perm pa (by rw [k1];exact hfd) (by rw [k1];exact List.mem_flatten.mpr ⟨g,hg,hc⟩)]
      exact ha.2
end
end Lw
namespace Lw
open PySem L2 PyProof.Rows
theorem rep_one (n c:Nat):(List.replicate n [c]).flatten=List.replicate n c:=by
  induction n with
  | zero=>rfl
  | succ n ih=>rw [List.replicate_succ,List.flatten_cons,ih];rfl
theorem cut_mid {xs:List V} {a b:Nat} (h1:a≤b) (h2:b≤xs.length):cutV xs (some (a:Int)) (some (b:Int))=(xs.drop a).take (b - a):=by
  unfold cutV
  rw [HT.sIx_nat,HT.sIx_nat,Nat.min_eq_left h2,Nat.min_eq_left (show a≤xs.length by omega)]
theorem eightL {α:Type}:∀ {l:List α},l.length=8→∃ a b c d e f g h,l=[a,b,c,d,e,f,g,h]
  | [a,b,c,d,e,f,g,h],_=>⟨a,b,c,d,e,f,g,h,rfl⟩
def atm (p q x:Nat) (mo:List Nat):List (List Nat):=[[p,q],[q,p],[p,p,q,q],[q,q,p,p],[p,p,p,q,q,q],[q,q,q,p,p,p],[p,p,q,p,q,q],[q,q,p,q,p,p],[x]]++mo.map fun c=>[c]
theorem nx_pq {us:List Rule} {p q x a b:Nat} (hpq:p≠q) (wp:wd us p=List.replicate a x) (wq:wd us q=List.replicate b x):∀ y:List Nat,(∀ c∈y,c=p∨c=q)→nxt us y=List.replicate (a * y.count p+b * y.count q) x
  | [],_=>by simp [nxt]
  | c :: y,h=>by
    have ih:=nx_pq hpq wp wq y fun d hd=>h d (List.mem_cons_of_mem _ hd)
    have e:nxt us (c :: y)=wd us c++nxt us y:=rfl
    rw [e,ih]
    rcases h c List.mem_cons_self with rfl | rfl
    · rw [wp,List.count_cons_self,List.count_cons_of_ne hpq,List.replicate_append_replicate,Nat.mul_add,Nat.mul_one]
      congr 1
      omega
    · rw [wq,List.count_cons_self,List.count_cons_of_ne (Ne.symm hpq),List.replicate_append_replicate,Nat.mul_add,Nat.mul_one]
      congr 1
      omega
def Bl (p q:Nat) (y:List Nat):Prop:=(∀ c∈y,c=p∨c=q)∧y.count p=y.count q
theorem atm_mem {p q x:Nat} {mo y:List Nat} (hpq:p≠q) (h:y∈atm p q x mo):Bl p q y∨∃ s∈x :: mo,y=[s]:=by
  have hqp:q≠p:=Ne.symm hpq
  rcases List.mem_append.mp h with h | h
  · simp only [List.mem_cons,List.not_mem_nil,or_false] at h
    rcases h with rfl | rfl | rfl | rfl | rfl | rfl | rfl | rfl | rfl
    · exact .inl ⟨by simp,by simp [List.count_cons,hpq,hqp]⟩
    · exact .inl ⟨by simp,by simp [List.count_cons,hpq,hqp]⟩
    · exact .inl ⟨by simp,by simp [List.count_cons,hpq,hqp]⟩
    · exact .inl ⟨by simp,by simp [List.count_cons,hpq,hqp]⟩
    · exact .inl ⟨by simp,by simp [List.count_cons,hpq,hqp]⟩
    · exact .inl ⟨by simp,by simp [List.count_cons,hpq,hqp]⟩
    · exact .inl ⟨by simp,by simp [List.count_cons,hpq,hqp]⟩
    · exact .inl ⟨by simp,by simp [List.count_cons,hpq,hqp]⟩
    · exact .inr ⟨x,List.mem_cons_self,rfl⟩
  · obtain ⟨s,hs,rfl⟩:=List.mem_map.mp h
    exact .inr ⟨s,List.mem_cons_of_mem _ hs,rfl⟩
theorem atm_x (p q x:Nat) (mo:List Nat):[x]∈atm p q x mo:=List.mem_append_left _ (by simp)
theorem atm_len {p q x:Nat} {mo y:List Nat} (h:y∈atm p q x mo):y.length≤6:=by
  rcases List.mem_append.mp h with h | h
  · simp only [List.mem_cons,List.not_mem_nil,or_false] at h
    rcases h with rfl | rfl | rfl | rfl | rfl | rfl | rfl | rfl | rfl <;> simp
  · obtain ⟨s,hs,rfl⟩:=List.mem_map.mp h
    simp
theorem bl_rep {p q h:Nat} (hpq:p≠q):Bl p q (List.replicate h p++List.replicate h q):=by
  refine ⟨fun c hc=>?_,?_⟩
  · rcases List.mem_append.mp hc with z | z
    · exact .inl (List.mem_replicate.mp z).2
    · exact .inr (List.mem_replicate.mp z).2
  · rw [List.count_append,List.count_append,List.count_replicate_self,List.count_replicate_self,List.count_replicate,List.count_replicate]
    simp [hpq,Ne.symm hpq]
theorem cat_more {P P':List (List Nat)} {x:List Nat} (h:Cat P x) (hs:∀ p∈P,p∈P'):Cat P' x:=by
  obtain ⟨ps,h1,h2⟩:=h
  exact ⟨ps,fun p hp=>hs p (h1 p hp),h2⟩
theorem cat_one {P:List (List Nat)} {x:List Nat} (h:x∈P):Cat P x:=⟨[x],fun p hp=>by rw [List.mem_singleton.mp hp];exact h,by rw [List.flatten_singleton]⟩
theorem cat_rep {P:List (List Nat)} {x:Nat} (h:[x]∈P) (n:Nat):Cat P (List.replicate n x):=⟨List.replicate n [x],fun p hp=>by rw [(List.mem_replicate.mp hp).2];exact h,rep_one n x⟩
theorem long_clo {us1 us2:List Rule} {p q x a b h:Nat} {mo t:List Nat} (hpq:p≠q) (w1p:wd us1 p=List.replicate a x) (w1q:wd us1 q=List.replicate b x) (w2p:wd us2 p=List.replicate b x) (w2q:wd us2 q=List.replicate a x)
    (ws:∀ s∈x :: mo,wd us1 s=wd us2 s∧Cat (atm p q x mo) (wd us1 s)) (ht:Cat (atm p q x mo) t):Clo us1 us2 (List.replicate h p++List.replicate h q++t) (atm p q x mo++[List.replicate h p++List.replicate h q]):=by
  have ain:∀ y∈atm p q x mo,y∈atm p q x mo++[List.replicate h p++List.replicate h q]:=fun y hy=>List.mem_append_left _ hy
  have each:∀ y∈atm p q x mo++[List.replicate h p++List.replicate h q],nxt us1 y=nxt us2 y∧Cat (atm p q x mo) (nxt us1 y):=fun y hy=>by
    have:Bl p q y∨∃ s∈x :: mo,y=[s]:=by
      rcases List.mem_append.mp hy with z | z
      · exact atm_mem hpq z
      · rw [List.mem_singleton.mp z];exact .inl (bl_rep hpq)
    rcases this with ⟨h1,h2⟩ | ⟨s,hs,rfl⟩
    · rw [nx_pq hpq w1p w1q y h1,nx_pq hpq w2p w2q y h1,h2,Nat.add_comm (b * _)]
      exact ⟨rfl,cat_rep (atm_x p q x mo) _⟩
    · have e:∀ us:List Rule,nxt us [s]=wd us s:=fun us=>by unfold nxt;simp
      rw [e,e]
      exact ws s hs
  refine ⟨?_,fun y hy=>(each y hy).1,fun y hy=>cat_more (each y hy).2 ain⟩
  exact (cat_one (List.mem_append_right _ List.mem_cons_self)).app (cat_more ht ain)
theorem zip_get {α β:Type}:∀ {xs:List α} {ys:List β} {s:α},s∈xs→ys.length=xs.length→∃ y,(s,y)∈xs.zip ys
  | [],_,_,h,_=>by cases h
  | x :: xs,[],_,_,h=>by cases h
  | x :: xs,y :: ys,s,h,hl=>by
    rcases List.mem_cons.mp h with rfl | h
    · exact ⟨y,List.mem_cons_self⟩
    · obtain ⟨z,hz⟩:=zip_get h (Nat.succ.inj hl)
      exact ⟨z,List.mem_cons_of_mem _ hz⟩
def lonR (p q x a b:Nat) (ls:List Nat) (bs:List (List Nat)):List Rule:=[(p,List.replicate a x),(q,List.replicate b x)]++ls.zip bs
theorem lonR_ltr {p q x a b:Nat} {ls:List Nat} {bs:List (List Nat)} (h:bs.length=ls.length):ltr (lonR p q x a b ls bs)=p :: q :: ls:=by
  unfold lonR
  rw [ltr_app,ltr_zip h]
  rfl
section
variable {P:Program} {w:World} {K:PySem.W.Frag} {mg:Str→Option Value} {base:Heap}
def spBal:Sp:=fun vs H Q _=>∃ (p l:Addr) (b m:Nat) (xs:List (List Nat)),vs=[.ref p,.ref l,.int (m:Int)]∧PenAt H p b∧b≤800000∧H l=some (.lst (xs.map tx))∧l≠p∧0 < xs.length∧xs.length≤30∧(∀ x∈xs,x.length≤6)∧m≤20 ∧
  ∀ (w:List Nat) H',w.length≤m→Cat xs w→But p H H'→PenAt H' p (b+10)→Q (tx w) H'
theorem scBal:FnScope ["_law_pen_here","_law_atoms","_law_most","_law_found","_law_k","_law_part"] ["_law_pen_here","_law_atoms","_law_most"] (defScope sBal):=⟨rfl,rfl,rfl,by decide +kernel,rfl,by decide +kernel,by decide +kernel⟩
theorem ok_bal {f fTak:Addr} {fd fdTak:FuncData} (F:Fun K "_law_balanced" "_law_balanced" sBal f fd)
    (GTak:FnOk P w K mg base CX0 1 fTak fdTak ["_law_pen_here","_law_size"] spTak)
    (gTak:Gf K mg "_law_take" fTak fdTak ["_law_pen_here","_law_size"])
    (hlen:mg "len" = none)
    (hrange:mg "range" = none)
    : FnOk P w K mg base CX0 2 f fd ["_law_pen_here","_law_atoms","_law_most"] spBal:=by
  refine F.ok scBal (fun vs H Q E h=>?_) (fun cdv A outer s H vs Q E hr h=>?_)
  · obtain ⟨p,l,b,m,xs,rfl,_⟩:=h
    rfl
  · obtain ⟨p,l,b,m,xs,rfl,hP,hb,hl,hlp,h0,h30,h6,hm,k⟩:=h
    refine ⟨_,(pss_cons (ps_set (i:=3) scBal.nd rfl (Or.inl rfl) pe_str)
      (pss_cons (ps_for PassesOwn.never rfl (pi_range1 rfl hrange (pa_cons (pe_call GTak hr rfl gTak.m gTak.k gTak.b .nil pass0 (pa_cons (pv 0) (pa_cons pe_int pa_nil))) pa_nil)) (pg_name (i:=4) scBal.nd rfl (Or.inl rfl)) (pss_cons (ps_set (i:=5) scBal.nd rfl (Or.inl rfl) (pe_ix (ix_listK K) (pv 1) (pe_call GTak hr rfl gTak.m gTak.k gTak.b .nil pass0 (pa_cons (pv 0) (pa_cons (pe_callB (call_lenK K) (by rfl) hlen PySem.boot_len (pa_cons (pv 1) pa_nil)) pa_nil))) (fun _ _=>rfl)))
      (pss_one (ps_if (pt_cmpR op_le (pe_op op_add (pe_callB call_len_str (by rfl) hlen PySem.boot_len (pa_cons (pv 3) pa_nil)) (pe_callB call_len_str (by rfl) hlen PySem.boot_len (pa_cons (pv 5) pa_nil))) (pv 2) (nomark _)) (pss_one (ps_set (i:=3) scBal.nd rfl (Or.inl rfl) (pe_op op_add_str (pv 3) (pv 5)))) pss_nil))))
      (pss_one (ps_ret (pv 3))))),?_⟩
    have el:(xs.map tx).length=xs.length:=List.length_map _
    refine ⟨_,rfl,p,b,_,rfl,hP,by omega,by decide,by decide,fun z H1 z0 z1 hP1 e1=>⟨_,rfl,by omega,by omega,?_⟩⟩
    obtain ⟨j,rfl⟩:∃ j:Nat,z=(j:Int):=⟨z.toNat,by omega⟩
    rw [Int.toNat_natCast]
    refine for_by (sure_range (lo:=0) (n:=j)) (fun i σ H'=>∃ (w:List Nat) (v4 v5:Option V),σ=[some (.ref p),some (.ref l),some (.int (m:Int)),some (tx w),v4,v5]∧But p H H'∧PenAt H' p (b+1+i)∧w.length≤m∧Cat xs w)
      ⟨[],_,_,rfl,but_eq e1,hP1,Nat.zero_le _,[],(fun y hy=>by cases hy),rfl⟩ (fun _ _ _ _ _=>trivial) ?_ ?_
    · rintro i y σ H2 hy ⟨w',v4,v5,rfl,B2,hP2,hw,hC⟩
      obtain ⟨hi,rfl⟩:=rng_get hy
      have hl2:=B2 _ _ hl hlp
      refine ⟨_,rfl,_,rfl,_,rfl,l,_,rfl,.inl (SqL.of hl2),p,b+1+i,_,rfl,hP2,by omega,by rw [el];omega,by rw [el];omega,fun z H3 z0 z1 hP3 e3=>?_⟩
      rw [el] at z1
      obtain ⟨c,rfl⟩:∃ j:Nat,z=(j:Int):=⟨z.toNat,by omega⟩
      have hc:c < xs.length:=by omega
      have gx:(xs.map tx)[c]? = some (tx xs[c]):=by rw [List.getElem?_map,List.getElem?_eq_getElem hc];rfl
      refine ⟨l,_,_,_,rfl,rfl,SqL.of ((e3 l hlp).trans hl2),atI_nat gx,?_⟩
      have hxm:xs[c]∈xs:=List.getElem_mem hc
      have hx6:=h6 _ hxm
      generalize xs[c]=x at hxm hx6
      have B3:=B2.trans (but_eq e3)
      refine ⟨_,rfl,⟨w'.toArray⟩,rfl,szl (show w'.length≤1000 by omega),_,rfl,⟨x.toArray⟩,rfl,szl (show x.length≤1000 by omega),_,_,rfl,rfl,_,rfl,_,_,rfl,rfl,_,rfl,ite2 (fun hc=>?_) (fun hc=>?_)⟩
      · have hle:((w'.length:Nat):Int)+((x.length:Nat):Int)≤(m:Int):=of_decide_eq_true hc
        refine ⟨_,rfl,_,rfl,⟨w'.toArray⟩,⟨x.toArray⟩,rfl,rfl,szl (show w'.length+x.length≤1000 by omega),?_⟩
        rw [tx_app]
        exact ⟨w'++x,_,_,rfl,B3,hP3.mono (by omega),by rw [List.length_append];omega,hC.app ⟨[x],fun y hy=>by rw [List.mem_singleton.mp hy];exact hxm,by rw [List.flatten_singleton]⟩⟩
      · exact ⟨w',_,_,rfl,B3,hP3.mono (by omega),hw,hC⟩
    · rintro σ H2 ⟨w',v4,v5,rfl,B2,hP2,hw,hC⟩
      rw [rngV_length] at hP2
      exact ⟨_,rfl,k w' H2 hw hC B2 (hP2.mono (by omega))⟩
def spLon:Sp:=fun vs H Q _=>∃ (p:Addr) (b:Nat),vs=[.ref p]∧PenAt H p b∧b≤600000 ∧
  ∀ (T t1 t2 g:Addr) (f:List Nat) (rs1 rs2:List Rule) (gs Pc:List (List Nat)) H',H' T=some (.tup [.ref t1,.ref t2,.ref g])→H' g=some (.lst (gs.map tx))→BookAt H' t1 f rs1→BookAt H' t2 f rs2→Bk f rs1→Bk f rs2→Clo rs1 rs2 f Pc→gs.length≤30→But p H H'→Q (.ref T) H'
theorem scLon:FnScope ["_law_pen_here","_law_signs_here","_law_p","_law_q","_law_x","_law_more_here","_law_atoms","_law_few","_law_many","_law_one","_law_other","_law_sign","_law_behind","_law_half","_law_first"] ["_law_pen_here"] (defScope sLon):=⟨rfl,rfl,rfl,by decide +kernel,rfl,by decide +kernel,by decide +kernel⟩
theorem ok_lon {f fSig fTak fBal:Addr} {fd fdSig fdTak fdBal:FuncData} (F:Fun K "_law_long_pair" "_law_long_pair" sLon f fd)
    (GSig:FnOk P w K mg base CX0 2 fSig fdSig ["_law_pen_here","_law_many"] spSig)
    (gSig:Gf K mg "_law_signs" fSig fdSig ["_law_pen_here","_law_many"])
    (GTak:FnOk P w K mg base CX0 1 fTak fdTak ["_law_pen_here","_law_size"] spTak)
    (gTak:Gf K mg "_law_take" fTak fdTak ["_law_pen_here","_law_size"])
    (GBal:FnOk P w K mg base CX0 2 fBal fdBal ["_law_pen_here","_law_atoms","_law_most"] spBal)
    (gBal:Gf K mg "_law_balanced" fBal fdBal ["_law_pen_here","_law_atoms","_law_most"])
    (hlen:mg "len" = none)
    (htuple:mg "tuple" = none)
    (hsorted:mg "sorted" = none)
    : FnOk P w K mg base CX0 3 f fd ["_law_pen_here"] spLon:=by
  refine F.ok scLon (fun vs H Q E h=>?_) (fun cdv A outer s H vs Q E hr h=>?_)
  · obtain ⟨p0,b,rfl,_⟩:=h
    rfl
  · obtain ⟨p0,b,rfl,hP,hb,k⟩:=h
    have hr1:Room 1 _:=hr.mono (by decide)
    refine ⟨_,(pss_cons (ps_set (i:=1) scLon.nd rfl (Or.inl rfl) (pe_call GSig hr rfl gSig.m gSig.k gSig.b .nil pass0 (pa_cons (pv 0) (pa_cons pe_int pa_nil))))
      (pss_cons (ps_asg (pe_slice (sl_listK K) (pv 1) po_none (po_some pe_int)) (pg_lstK K (n:=3) rfl (pgs_cons (pg_name (i:=2) scLon.nd rfl (Or.inl rfl)) (pgs_cons (pg_name (i:=3) scLon.nd rfl (Or.inl rfl)) (pgs_cons (pg_name (i:=4) scLon.nd rfl (Or.inl rfl)) pgs_nil)))))
      (pss_cons (ps_set (i:=5) scLon.nd rfl (Or.inl rfl) (pe_slice (sl_listK K) (pv 1) (po_some pe_int) (po_some (pe_op op_add pe_int (pe_call GTak hr1 rfl gTak.m gTak.k gTak.b .nil pass0 (pa_cons (pv 0) (pa_cons pe_int pa_nil)))))))
      (pss_cons (ps_set (i:=6) scLon.nd rfl (Or.inl rfl) (pe_lst (pa_cons (pe_op op_add_str (pv 2) (pv 3)) (pa_cons (pe_op op_add_str (pv 3) (pv 2)) (pa_cons (pe_op op_add_str (pe_op op_mul0 (pv 2) pe_int) (pe_op op_mul0 (pv 3) pe_int)) (pa_cons (pe_op op_add_str (pe_op op_mul0 (pv 3) pe_int) (pe_op op_mul0 (pv 2) pe_int)) (pa_cons (pe_op op_add_str (pe_op op_mul0 (pv 2) pe_int) (pe_op op_mul0 (pv 3) pe_int)) (pa_cons (pe_op op_add_str (pe_op op_mul0 (pv 3) pe_int) (pe_op op_mul0 (pv 2) pe_int)) pa_nil))))))))
      (pss_cons (ps_set (i:=6) scLon.nd rfl (Or.inl rfl) (pe_op op_cat (pe_op op_cat (pv 6) (pe_lst (pa_cons (pe_op op_add_str (pe_op op_add_str (pe_op op_add_str (pe_op op_add_str (pe_op op_add_str (pv 2) (pv 2)) (pv 3)) (pv 2)) (pv 3)) (pv 3)) (pa_cons (pe_op op_add_str (pe_op op_add_str (pe_op op_add_str (pe_op op_add_str (pe_op op_add_str (pv 3) (pv 3)) (pv 2)) (pv 3)) (pv 2)) (pv 2)) (pa_cons (pv 4) pa_nil))))) (pv 5)))
      (pss_cons (ps_set (i:=7) scLon.nd rfl (Or.inl rfl) (pe_call GTak hr1 rfl gTak.m gTak.k gTak.b .nil pass0 (pa_cons (pv 0) (pa_cons pe_int pa_nil))))
      (pss_cons (ps_set (i:=8) scLon.nd rfl (Or.inl rfl) (pe_op op_mod (pe_op op_add (pe_op op_add (pv 7) pe_int) (pe_call GTak hr1 rfl gTak.m gTak.k gTak.b .nil pass0 (pa_cons (pv 0) (pa_cons pe_int pa_nil)))) pe_int))
      (pss_cons (ps_set (i:=9) scLon.nd rfl (Or.inl rfl) (pe_lst (pa_cons (pe_tup (pa_cons (pv 2) (pa_cons (pe_op op_mul0 (pv 4) (pv 7)) pa_nil))) (pa_cons (pe_tup (pa_cons (pv 3) (pa_cons (pe_op op_mul0 (pv 4) (pv 8)) pa_nil))) pa_nil))))
      (pss_cons (ps_set (i:=10) scLon.nd rfl (Or.inl rfl) (pe_lst (pa_cons (pe_tup (pa_cons (pv 2) (pa_cons (pe_op op_mul0 (pv 4) (pv 8)) pa_nil))) (pa_cons (pe_tup (pa_cons (pv 3) (pa_cons (pe_op op_mul0 (pv 4) (pv 7)) pa_nil))) pa_nil))))
      (pss_cons (ps_for PassesOwn.never rfl (pi_listK K (pe_op op_cat (pe_lst (pa_cons (pv 4) pa_nil)) (pv 5))) (pg_name (i:=11) scLon.nd rfl (Or.inl rfl)) (pss_cons (ps_set (i:=12) scLon.nd rfl (Or.inl rfl) (pe_call GBal hr rfl gBal.m gBal.k gBal.b .nil pass0 (pa_cons (pv 0) (pa_cons (pv 6) (pa_cons pe_int pa_nil)))))
      (pss_cons (ps_expr (pe_bmK K PySem.F.plainAttrs_list PySem.F.slot_list_append PySem.F.type_list_append mt_append (pv 9) (pa_cons (pe_tup (pa_cons (pv 11) (pa_cons (pv 12) pa_nil))) pa_nil)))
      (pss_one (ps_expr (pe_bmK K PySem.F.plainAttrs_list PySem.F.slot_list_append PySem.F.type_list_append mt_append (pv 10) (pa_cons (pe_tup (pa_cons (pv 11) (pa_cons (pv 12) pa_nil))) pa_nil)))))))
      (pss_cons (ps_set (i:=13) scLon.nd rfl (Or.inl rfl) (pe_call GTak hr1 rfl gTak.m gTak.k gTak.b .nil pass0 (pa_cons (pv 0) (pa_cons pe_int pa_nil))))
      (pss_cons (ps_set (i:=14) scLon.nd rfl (Or.inl rfl) (pe_op op_add_str (pe_op op_mul0 (pv 2) (pv 13)) (pe_op op_mul0 (pv 3) (pv 13))))
      (pss_cons (ps_set (i:=14) scLon.nd rfl (Or.inl rfl) (pe_op op_add_str (pv 14) (pe_call GBal hr rfl gBal.m gBal.k gBal.b .nil pass0 (pa_cons (pv 0) (pa_cons (pv 6) (pa_cons (pe_op op_sub pe_int (pe_callB call_len_str (by rfl) hlen PySem.boot_len (pa_cons (pv 14) pa_nil))) pa_nil))))))
      (pss_one (ps_ret (pe_tup (pa_cons (pe_tup (pa_cons (pv 14) (pa_cons (pe_callTy (call_tuple_ofK K) (by rfl) htuple (by first | exact PySem.boot_tuple | decide +kernel) (pa_cons (pe_callB (call_sortPK K) (by rfl) hsorted PyProof.Rows.boot_sorted (pa_cons (pv 9) pa_nil)) pa_nil)) pa_nil))) (pa_cons (pe_tup (pa_cons (pv 14) (pa_cons (pe_callTy (call_tuple_ofK K) (by rfl) htuple (by first | exact PySem.boot_tuple | decide +kernel) (pa_cons (pe_callB (call_sortPK K) (by rfl) hsorted PyProof.Rows.boot_sorted (pa_cons (pv 10) pa_nil)) pa_nil)) pa_nil))) (pa_cons (pv 6) pa_nil))))))))))))))))))),?_⟩
    refine ⟨_,rfl,p0,b,8,rfl,hP,by omega,by omega,fun lg cs H1 B1 hP1 nlg hlg hcl hnd habc=>?_⟩
    obtain ⟨p,q,x,a3,a4,a5,a6,a7,rfl⟩:=eightL hcl
    have pg:lg≠p0:=by obtain ⟨o,ho⟩:=hP.some;exact (ne_of_none ho nlg).symm
    refine ⟨_,rfl,_,rfl,lg,_,rfl,SqL.of hlg,fun l3 n3=>?_⟩
    rw [show cutV ([p,q,x,a3,a4,a5,a6,a7].map sign) none (some 3)=[sign p,sign q,sign x] from (cut_take _ 3).trans rfl]
    refine ⟨l3,_,rfl,SqL.of upd_same,rfl,_,_,rfl,_,_,rfl,_,_,rfl,rfl,?_⟩
    have s3:=Same.add (o:=.lst [sign p,sign q,sign x]) n3
    refine ⟨_,rfl,_,rfl,_,rfl,p0,b+8,_,rfl,hP1.sm s3,by omega,by decide,by decide,fun z H2 z0 z1 hP2 e2=>⟨_,_,rfl,rfl,_,rfl,lg,_,rfl,SqL.of ((e2 lg pg).trans (s3 _ _ hlg)),fun l5 n5=>?_⟩⟩
    obtain ⟨kk,rfl⟩:∃ j:Nat,z=(j:Int):=⟨z.toNat,by omega⟩
    rw [show (3:Int)+(kk:Int)=((3+kk:Nat):Int) by omega,show cutV ([p,q,x,a3,a4,a5,a6,a7].map sign) (some (3:Int)) (some ((3+kk:Nat):Int))=(([p,q,x,a3,a4,a5,a6,a7].map sign).drop 3).take (3+kk - 3) from cut_mid (a:=3) (b:=3+kk) (by omega) (by show 3+kk≤8;omega),Nat.add_sub_cancel_left,← List.map_drop,← List.map_take]
    have B2:But p0 H H2:=B1.trans ((But.same s3).trans (but_eq e2))
    have hmo:([p,q,x,a3,a4,a5,a6,a7].drop 3).take kk=[a3,a4,a5,a6,a7].take kk:=rfl
    rw [hmo]
    have hml:([a3,a4,a5,a6,a7].take kk).length≤5:=by rw [List.length_take];exact Nat.min_le_right _ _
    have hmnd:(p :: q :: x :: [a3,a4,a5,a6,a7].take kk).Nodup:=hnd.sublist (((((List.take_sublist kk [a3,a4,a5,a6,a7]).cons_cons x).cons_cons q).cons_cons p))
    revert hml hmnd
    generalize [a3,a4,a5,a6,a7].take kk=mo
    intro hml hmnd
    have hpq:p≠q:=fun z=>(List.nodup_cons.mp hmnd).1 (by rw [z];exact List.mem_cons_self)
    have s5:=Same.add (o:=.lst (mo.map sign)) n5
    have p5:l5≠p0:=by obtain ⟨o,ho⟩:=hP2.some;exact (ne_of_none ho n5).symm
    have h5:upd H2 l5 (.lst (mo.map sign)) l5=some (.lst (mo.map sign)):=upd_same
    have hP3:=hP2.sm s5
    have B3:=B2.trans (But.same s5)
    revert s5 h5 hP3 B3
    generalize upd H2 l5 (.lst (mo.map sign))=H3
    intro s5 h5 hP3 B3
    -- the atoms
    have cat2:∀ {y z:List Nat},((⟨y.toArray⟩:Str)++(⟨z.toArray⟩:Str))=⟨(y++z).toArray⟩:=fun {y z}=>tx_app y z
    refine ⟨_,rfl,_,rfl,⟨[p].toArray⟩,⟨[q].toArray⟩,rfl,rfl,szl (show 1+1≤1000 by decide),?_⟩
    rw [cat2]
    refine ⟨_,rfl,_,rfl,⟨[q].toArray⟩,⟨[p].toArray⟩,rfl,rfl,szl (show 1+1≤1000 by decide),?_⟩
    rw [cat2]
    refine ⟨_,rfl,[p],2,rfl,rfl,by decide,(show 1≤1000 by decide),_,rfl,[q],2,rfl,rfl,by decide,(show 1≤1000 by decide),⟨[p,p].toArray⟩,⟨[q,q].toArray⟩,rfl,rfl,szl (show 2+2≤1000 by decide),?_⟩
    rw [cat2]
    refine ⟨_,rfl,[q],2,rfl,rfl,by decide,(show 1≤1000 by decide),_,rfl,[p],2,rfl,rfl,by decide,(show 1≤1000 by decide),⟨[q,q].toArray⟩,⟨[p,p].toArray⟩,rfl,rfl,szl (show 2+2≤1000 by decide),?_⟩
    rw [cat2]
    refine ⟨_,rfl,[p],3,rfl,rfl,by decide,(show 1≤1000 by decide),_,rfl,[q],3,rfl,rfl,by decide,(show 1≤1000 by decide),⟨[p,p,p].toArray⟩,⟨[q,q,q].toArray⟩,rfl,rfl,szl (show 3+3≤1000 by decide),?_⟩
    rw [cat2]
    refine ⟨_,rfl,[q],3,rfl,rfl,by decide,(show 1≤1000 by decide),_,rfl,[p],3,rfl,rfl,by decide,(show 1≤1000 by decide),⟨[q,q,q].toArray⟩,⟨[p,p,p].toArray⟩,rfl,rfl,szl (show 3+3≤1000 by decide),?_⟩
    rw [cat2]
    refine ⟨szl (show 6≤1000 by decide),fun l6 n6=>?_⟩
    have s6:Same H3 (upd H3 l6 (.lst [V.str ⟨([p]++[q]).toArray⟩,V.str ⟨([q]++[p]).toArray⟩,V.str ⟨([p,p]++[q,q]).toArray⟩,V.str ⟨([q,q]++[p,p]).toArray⟩,V.str ⟨([p,p,p]++[q,q,q]).toArray⟩,V.str ⟨([q,q,q]++[p,p,p]).toArray⟩])):=Same.add n6
    have h6:upd H3 l6 (.lst [V.str ⟨([p]++[q]).toArray⟩,V.str ⟨([q]++[p]).toArray⟩,V.str ⟨([p,p]++[q,q]).toArray⟩,V.str ⟨([q,q]++[p,p]).toArray⟩,V.str ⟨([p,p,p]++[q,q,q]).toArray⟩,V.str ⟨([q,q,q]++[p,p,p]).toArray⟩]) l6=some (.lst ([[p,q],[q,p],[p,p,q,q],[q,q,p,p],[p,p,p,q,q,q],[q,q,q,p,p,p]].map tx)):=upd_same
    revert s6 h6
    generalize upd H3 l6 (.lst [V.str ⟨([p]++[q]).toArray⟩,V.str ⟨([q]++[p]).toArray⟩,V.str ⟨([p,p]++[q,q]).toArray⟩,V.str ⟨([q,q]++[p,p]).toArray⟩,V.str ⟨([p,p,p]++[q,q,q]).toArray⟩,V.str ⟨([q,q,q]++[p,p,p]).toArray⟩])=H4
    intro s6 h6
    refine ⟨_,rfl,?_⟩
    dsimp only [tLst]
    refine ⟨_,rfl,_,rfl,⟨[p].toArray⟩,⟨[p].toArray⟩,rfl,rfl,szl (show 1+1≤1000 by decide),?_⟩
    rw [cat2]
    refine ⟨_,rfl,⟨([p]++[p]).toArray⟩,⟨[q].toArray⟩,rfl,rfl,szl (show 2+1≤1000 by decide),?_⟩
    rw [cat2]
    refine ⟨_,rfl,⟨([p]++[p]++[q]).toArray⟩,⟨[p].toArray⟩,rfl,rfl,szl (show 3+1≤1000 by decide),?_⟩
    rw [cat2]
    refine ⟨_,rfl,⟨([p]++[p]++[q]++[p]).toArray⟩,⟨[q].toArray⟩,rfl,rfl,szl (show 4+1≤1000 by decide),?_⟩
    rw [cat2]
    refine ⟨_,rfl,⟨([p]++[p]++[q]++[p]++[q]).toArray⟩,⟨[q].toArray⟩,rfl,rfl,szl (show 5+1≤1000 by decide),?_⟩
    rw [cat2]
    refine ⟨_,rfl,_,rfl,⟨[q].toArray⟩,⟨[q].toArray⟩,rfl,rfl,szl (show 1+1≤1000 by decide),?_⟩
    rw [cat2]
    refine ⟨_,rfl,⟨([q]++[q]).toArray⟩,⟨[p].toArray⟩,rfl,rfl,szl (show 2+1≤1000 by decide),?_⟩
    rw [cat2]
    refine ⟨_,rfl,⟨([q]++[q]++[p]).toArray⟩,⟨[q].toArray⟩,rfl,rfl,szl (show 3+1≤1000 by decide),?_⟩
    rw [cat2]
    refine ⟨_,rfl,⟨([q]++[q]++[p]++[q]).toArray⟩,⟨[p].toArray⟩,rfl,rfl,szl (show 4+1≤1000 by decide),?_⟩
    rw [cat2]
    refine ⟨_,rfl,⟨([q]++[q]++[p]++[q]++[p]).toArray⟩,⟨[p].toArray⟩,rfl,rfl,szl (show 5+1≤1000 by decide),?_⟩
    rw [cat2]
    refine ⟨_,rfl,szl (show 3≤1000 by decide),fun l7 n7=>?_⟩
    have s7:Same H4 (upd H4 l7 (.lst [V.str ⟨([p]++[p]++[q]++[p]++[q]++[q]).toArray⟩,V.str ⟨([q]++[q]++[p]++[q]++[p]++[p]).toArray⟩,sign x])):=Same.add n7
    have h7:upd H4 l7 (.lst [V.str ⟨([p]++[p]++[q]++[p]++[q]++[q]).toArray⟩,V.str ⟨([q]++[q]++[p]++[q]++[p]++[p]).toArray⟩,sign x]) l7=some (.lst ([[p,p,q,p,q,q],[q,q,p,q,p,p],[x]].map tx)):=upd_same
    revert s7 h7
    generalize upd H4 l7 (.lst [V.str ⟨([p]++[p]++[q]++[p]++[q]++[q]).toArray⟩,V.str ⟨([q]++[q]++[p]++[q]++[p]++[p]).toArray⟩,sign x])=H5
    intro s7 h7
    refine ⟨l6,l7,_,_,rfl,rfl,s7 _ _ h6,h7,szl (show 6+3≤1000 by decide),fun l8 n8=>?_⟩
    have s8:=Same.add (o:=.lst (([[p,q],[q,p],[p,p,q,q],[q,q,p,p],[p,p,p,q,q,q],[q,q,q,p,p,p]].map tx)++[[p,p,q,p,q,q],[q,q,p,q,p,p],[x]].map tx)) n8
    have h58:=s8 _ _ (s7 _ _ (s6 _ _ h5))
    refine ⟨_,rfl,l8,l5,_,_,rfl,rfl,upd_same,h58,szl (by rw [List.length_map];show 9+_≤1000;omega),fun g ng=>?_⟩
    have eat:([[p,q],[q,p],[p,p,q,q],[q,q,p,p],[p,p,p,q,q,q],[q,q,q,p,p,p]].map tx)++[[p,p,q,p,q,q],[q,q,p,q,p,p],[x]].map tx++mo.map sign=(atm p q x mo).map tx:=by
      unfold atm
      rw [List.map_append,List.map_map]
      rfl
    rw [eat]
    have sg:=Same.add (o:=.lst ((atm p q x mo).map tx)) ng
    have hg:upd (upd H5 l8 (.lst (([[p,q],[q,p],[p,p,q,q],[q,q,p,p],[p,p,p,q,q,q],[q,q,q,p,p,p]].map tx)++[[p,p,q,p,q,q],[q,q,p,q,p,p],[x]].map tx))) g (.lst ((atm p q x mo).map tx)) g=some (.lst ((atm p q x mo).map tx)):=upd_same
    have s3g:Same H3 (upd (upd H5 l8 (.lst (([[p,q],[q,p],[p,p,q,q],[q,q,p,p],[p,p,p,q,q,q],[q,q,q,p,p,p]].map tx)++[[p,p,q,p,q,q],[q,q,p,q,p,p],[x]].map tx))) g (.lst ((atm p q x mo).map tx))):=s6.trans (s7.trans (s8.trans sg))
    revert hg s3g
    clear sg s8 s7 s6 h6 h7 h58
    generalize upd (upd H5 l8 (.lst (([[p,q],[q,p],[p,p,q,q],[q,q,p,p],[p,p,p,q,q,q],[q,q,q,p,p,p]].map tx)++[[p,p,q,p,q,q],[q,q,p,q,p,p],[x]].map tx))) g (.lst ((atm p q x mo).map tx))=H6
    intro hg s3g
    have h56:=s3g _ _ h5
    have hP6:=hP3.sm s3g
    have B6:=B3.trans (But.same s3g)
    have pgg:g≠p0:=fun z=>by
      obtain ⟨a,n,f,e,h1⟩:=hP6.ex
      rw [z,e] at hg
      cases hg
    have hal:(atm p q x mo).length=9+mo.length:=by unfold atm;rw [List.length_append,List.length_map];rfl
    -- how often x
    refine ⟨_,rfl,p0,_,_,rfl,hP6,by omega,by decide,by decide,fun z H7 z0 z1 hP7 e7=>?_⟩
    obtain ⟨a,rfl⟩:∃ j:Nat,z=(j:Int):=⟨z.toNat,by omega⟩
    refine ⟨_,rfl,_,_,rfl,rfl,_,rfl,p0,_,_,rfl,hP7,by omega,by decide,by decide,fun z H8 y0 y1 hP8 e8=>⟨_,_,rfl,rfl,_,_,rfl,rfl,(show (0:Int) < 4 by decide),?_⟩⟩
    obtain ⟨c,rfl⟩:∃ j:Nat,z=(j:Int):=⟨z.toNat,by omega⟩
    rw [show (fun i j:Int=>V.int (i % j)) ((a:Int)+1+(c:Int)) 4=V.int (((a+1+c) % 4:Nat):Int) from congrArg V.int (by omega)]
    have hb3:(a+1+c) % 4≤3:=by omega
    generalize (a+1+c) % 4=bb at hb3
    have ha3:a≤3:=by omega
    have B68:But p0 H6 H8:=(but_eq e7).trans (but_eq e8)
    have hg8:=B68 _ _ hg pgg
    have h58:=B68 _ _ h56 p5
    have B8:=B6.trans B68
    -- the first rules
    refine ⟨_,rfl,_,rfl,_,rfl,[x],a,rfl,rfl,by omega,(show 1≤1000 by decide),szl (show 2≤1000 by decide),fun q0 nq0=>?_⟩
    rw [rep_one]
    refine ⟨_,rfl,_,rfl,_,rfl,[x],bb,rfl,rfl,by omega,(show 1≤1000 by decide),szl (show 2≤1000 by decide),fun q1 nq1=>?_⟩
    rw [rep_one]
    refine ⟨szl (show 2≤1000 by decide),fun o1 no1=>?_⟩
    have sq0:=Same.add (o:=.tup [sign p,tx (List.replicate a x)]) nq0
    have sq1:=Same.add (o:=.tup [sign q,tx (List.replicate bb x)]) nq1
    have so1:=Same.add (o:=.lst [V.ref q0,V.ref q1]) no1
    have n8o1:H8 o1=none:=(sq0.trans sq1).free no1
    obtain ⟨oP8,hoP8⟩:=hP8.some
    have p1:o1≠p0:=(ne_of_none hoP8 n8o1).symm
    have hno1:H o1=none:=B8.free p1 n8o1
    have g1:g≠o1:=ne_of_none hg8 n8o1
    have h1:RulesAt (upd (upd (upd H8 q0 (.tup [sign p,tx (List.replicate a x)])) q1 (.tup [sign q,tx (List.replicate bb x)])) o1 (.lst [V.ref q0,V.ref q1])) [q0,q1] (lonR p q x a bb [] []):=.cons (so1 _ _ (sq1 _ _ upd_same)) (.cons (so1 _ _ upd_same) .nil)
    have ho1:upd (upd (upd H8 q0 (.tup [sign p,tx (List.replicate a x)])) q1 (.tup [sign q,tx (List.replicate bb x)])) o1 (.lst [V.ref q0,V.ref q1]) o1=some (.lst ([q0,q1].map V.ref)):=upd_same
    have s89:=sq0.trans (sq1.trans so1)
    revert s89 h1 ho1
    clear so1 sq1 sq0
    generalize upd (upd (upd H8 q0 (.tup [sign p,tx (List.replicate a x)])) q1 (.tup [sign q,tx (List.replicate bb x)])) o1 (.lst [V.ref q0,V.ref q1])=H9
    intro h1 ho1 s89
    refine ⟨_,rfl,_,rfl,_,rfl,[x],bb,rfl,rfl,by omega,(show 1≤1000 by decide),szl (show 2≤1000 by decide),fun q2 nq2=>?_⟩
    rw [rep_one]
    refine ⟨_,rfl,_,rfl,_,rfl,[x],a,rfl,rfl,by omega,(show 1≤1000 by decide),szl (show 2≤1000 by decide),fun q3 nq3=>?_⟩
    rw [rep_one]
    refine ⟨szl (show 2≤1000 by decide),fun o2 no2=>?_⟩
    have sq2:=Same.add (o:=.tup [sign p,tx (List.replicate bb x)]) nq2
    have sq3:=Same.add (o:=.tup [sign q,tx (List.replicate a x)]) nq3
    have so2:=Same.add (o:=.lst [V.ref q2,V.ref q3]) no2
    have n8o2:H8 o2=none:=s89.free ((sq2.trans sq3).free no2)
    have p2:o2≠p0:=(ne_of_none hoP8 n8o2).symm
    have hno2:H o2=none:=B8.free p2 n8o2
    have g2:g≠o2:=ne_of_none hg8 n8o2
    have h2:RulesAt (upd (upd (upd H9 q2 (.tup [sign p,tx (List.replicate bb x)])) q3 (.tup [sign q,tx (List.replicate a x)])) o2 (.lst [V.ref q2,V.ref q3])) [q2,q3] (lonR p q x bb a [] []):=.cons (so2 _ _ (sq3 _ _ upd_same)) (.cons (so2 _ _ upd_same) .nil)
    have ho2:upd (upd (upd H9 q2 (.tup [sign p,tx (List.replicate bb x)])) q3 (.tup [sign q,tx (List.replicate a x)])) o2 (.lst [V.ref q2,V.ref q3]) o2=some (.lst ([q2,q3].map V.ref)):=upd_same
    have s9A:=sq2.trans (sq3.trans so2)
    have n12:o1≠o2:=ne_of_none (sq3 _ _ (sq2 _ _ ho1)) no2
    revert s9A h2 ho2
    clear so2 sq3 sq2
    generalize upd (upd (upd H9 q2 (.tup [sign p,tx (List.replicate bb x)])) q3 (.tup [sign q,tx (List.replicate a x)])) o2 (.lst [V.ref q2,V.ref q3])=HA
    intro h2 ho2 s9A
    have s8A:=s89.trans s9A
    have h1:=h1.mono (TupS.same s9A)
    have ho1:=s9A _ _ ho1
    have hgA:=s8A _ _ hg8
    have h5A:=s8A _ _ h58
    have hPA:=hP8.sm s8A
    have BA:=B8.trans (But.same s8A)
    have hlA:(lonR p q x a bb [] []).length=2:=rfl
    -- the other letters
    refine ⟨_,rfl,szl (show 1≤1000 by decide),fun la nla=>⟨_,rfl,la,l5,_,_,rfl,rfl,upd_same,Same.add nla _ _ h5A,szl (by rw [List.length_map];show 1+_≤1000;omega),fun lb nlb=>⟨lb,rfl,⟨_,SqL.of upd_same⟩,?_⟩⟩⟩
    have els:[sign x]++mo.map sign=(x :: mo).map sign:=rfl
    rw [els]
    have sab:=(Same.add (o:=.lst [sign x]) nla).trans (Same.add (o:=.lst ((x :: mo).map sign)) nlb)
    have hlb:upd (upd HA la (.lst [sign x])) lb (.lst ((x :: mo).map sign)) lb=some (.lst ((x :: mo).map sign)):=upd_same
    have b1:lb≠o1:=(ne_of_none (Same.add nla _ _ ho1) nlb).symm
    have b2:lb≠o2:=(ne_of_none (Same.add nla _ _ ho2) nlb).symm
    have bp:lb≠p0:=by obtain ⟨o,ho⟩:=(hPA.sm (Same.add (o:=.lst [sign x]) nla)).some;exact (ne_of_none ho nlb).symm
    revert sab hlb
    generalize upd (upd HA la (.lst [sign x])) lb (.lst ((x :: mo).map sign))=HB
    intro sab hlb
    refine for_by (sure_list (xs:=(x :: mo).map sign)) (fun i σ H'=>∃ (qs1 qs2:List Addr) (bs:List (List Nat)) (v11 v12:Option V),σ=[some (.ref p0),some (.ref lg),some (sign p),some (sign q),some (sign x),some (.ref l5),some (.ref g),some (.int (a:Int)),some (.int (bb:Int)),some (.ref o1),some (.ref o2),v11,v12,none,none]∧But p0 H H'∧PenAt H' p0 (b+100+10 * i)∧H' g=some (.lst ((atm p q x mo).map tx))∧H' lb=some (.lst ((x :: mo).map sign))∧H' o1=some (.lst (qs1.map V.ref))∧H' o2=some (.lst (qs2.map V.ref))∧RulesAt H' qs1 (lonR p q x a bb ((x :: mo).take i) bs)∧RulesAt H' qs2 (lonR p q x bb a ((x :: mo).take i) bs)∧bs.length=i∧(∀ y∈bs,y.length≤6∧Cat (atm p q x mo) y)∧qs1.length=2+i∧qs2.length=2+i)
      ⟨[q0,q1],[q2,q3],[],_,_,rfl,BA.trans (But.same sab),(hPA.sm sab).mono (by omega),sab _ _ hgA,hlb,sab _ _ ho1,sab _ _ ho2,h1.mono (TupS.same sab),h2.mono (TupS.same sab),rfl,(fun y hy=>by cases hy),rfl,rfl⟩ ?_ ?_ ?_
    · rintro i σ H' hi ⟨_,_,_,_,_,_,_,_,_,h,_⟩
      exact SqL.of h
    · rintro i y σ HC hy ⟨qs1,qs2,bs,v11,v12,rfl,BC,hPC,hgC,hlC,hC1,hC2,hR1,hR2,hbl,hbs,hq1,hq2⟩
      rw [List.getElem?_map] at hy
      cases e:(x :: mo)[i]? with
      | none=>rw [e] at hy;cases hy
      | some s0 =>
        rw [e] at hy
        cases hy
        have hi:=(List.getElem?_eq_some_iff.mp e).1
        have hi6:i < 6:=by rw [List.length_cons] at hi;omega
        have etk:(x :: mo).take (i+1)=(x :: mo).take i++[s0]:=by rw [List.take_add_one,e];rfl
        have elr:∀ (a' b':Nat) (w:List Nat),lonR p q x a' b' ((x :: mo).take (i+1)) (bs++[w])=lonR p q x a' b' ((x :: mo).take i) bs++[(s0,w)]:=fun a' b' w=>by
          unfold lonR
          rw [etk,List.zip_append (by rw [List.length_take,hbl];omega),List.append_assoc]
          rfl
        refine ⟨_,rfl,_,rfl,p0,g,b+100+10 * i,6,atm p q x mo,rfl,hPC,by omega,hgC,pgg,by omega,by omega,(fun y hy=>atm_len hy),by omega,fun w HD hwl hwc BD hPD=>?_⟩
        have hD1:=BD _ _ hC1 p1
        have hD2:=BD _ _ hC2 p2
        have tuD:=tups_but BD hPC
        refine ⟨_,rfl,.inl ⟨rfl,_,SqL.of hD1⟩,_,rfl,_,rfl,szl (show 2≤1000 by decide),fun T nT=>?_⟩
        have sT:=Same.add (o:=.tup [sign s0,tx w]) nT
        have nT1:T≠o1:=(ne_of_none hD1 nT).symm
        have nT2:T≠o2:=(ne_of_none hD2 nT).symm
        refine ⟨o1,_,_,rfl,rfl,sT _ _ hD1,szl (by rw [List.length_map];omega),?_⟩
        have BE:But p0 H (upd (upd HD T (.tup [sign s0,tx w])) o1 (.lst (qs1.map V.ref++[V.ref T]))):=but_upd ((BC.trans BD).trans (But.same sT)) hno1
        have hPE:PenAt (upd (upd HD T (.tup [sign s0,tx w])) o1 (.lst (qs1.map V.ref++[V.ref T]))) p0 (b+100+10 * i+10):=(hPD.sm sT).other (upd_ne p1.symm)
        have hgE:upd (upd HD T (.tup [sign s0,tx w])) o1 (.lst (qs1.map V.ref++[V.ref T])) g=some (.lst ((atm p q x mo).map tx)):=by rw [upd_ne g1];exact sT _ _ (BD _ _ hgC pgg)
        have hlE:upd (upd HD T (.tup [sign s0,tx w])) o1 (.lst (qs1.map V.ref++[V.ref T])) lb=some (.lst ((x :: mo).map sign)):=by rw [upd_ne b1];exact sT _ _ (BD _ _ hlC bp)
        have hE1:upd (upd HD T (.tup [sign s0,tx w])) o1 (.lst (qs1.map V.ref++[V.ref T])) o1=some (.lst ((qs1++[T]).map V.ref)):=by rw [upd_same,List.map_append];rfl
        have hE2:upd (upd HD T (.tup [sign s0,tx w])) o1 (.lst (qs1.map V.ref++[V.ref T])) o2=some (.lst (qs2.map V.ref)):=by rw [upd_ne n12.symm];exact sT _ _ hD2
        have tuE:TupS HC (upd (upd HD T (.tup [sign s0,tx w])) o1 (.lst (qs1.map V.ref++[V.ref T]))):=tuD.trans ((TupS.same sT).trans (tups_upd (sT _ _ hD1)))
        have hTE:upd (upd HD T (.tup [sign s0,tx w])) o1 (.lst (qs1.map V.ref++[V.ref T])) T=some (.tup [sign s0,tx w]):=by rw [upd_ne nT1];exact upd_same
        revert BE hPE hgE hlE hE1 hE2 tuE hTE
        generalize upd (upd HD T (.tup [sign s0,tx w])) o1 (.lst (qs1.map V.ref++[V.ref T]))=HE
        intro BE hPE hgE hlE hE1 hE2 tuE hTE
        have R1:=rules_snoc (hR1.mono tuE) hTE
        rw [← elr] at R1
        refine ⟨_,rfl,.inl ⟨rfl,_,SqL.of hE2⟩,_,rfl,_,rfl,szl (show 2≤1000 by decide),fun T2 nTt=>?_⟩
        have sT2:=Same.add (o:=.tup [sign s0,tx w]) nTt
        have nU1:T2≠o1:=(ne_of_none hE1 nTt).symm
        have nU2:T2≠o2:=(ne_of_none hE2 nTt).symm
        refine ⟨o2,_,_,rfl,rfl,sT2 _ _ hE2,szl (by rw [List.length_map];omega),?_⟩
        have tuF:TupS HE (upd (upd HE T2 (.tup [sign s0,tx w])) o2 (.lst (qs2.map V.ref++[V.ref T2]))):=(TupS.same sT2).trans (tups_upd (sT2 _ _ hE2))
        have R2:=rules_snoc (hR2.mono (tuE.trans tuF)) (show upd (upd HE T2 (.tup [sign s0,tx w])) o2 (.lst (qs2.map V.ref++[V.ref T2])) T2=some (.tup [sign s0,tx w]) by rw [upd_ne nU2];exact upd_same)
        rw [← elr] at R2
        refine ⟨qs1++[T],qs2++[T2],bs++[w],_,_,rfl,but_upd (BE.trans (But.same sT2)) hno2,((hPE.sm sT2).other (upd_ne p2.symm)).mono (by omega),by rw [upd_ne g2];exact sT2 _ _ hgE,by rw [upd_ne b2];exact sT2 _ _ hlE,by rw [upd_ne n12];exact sT2 _ _ hE1,by rw [upd_same,List.map_append];rfl,R1.mono tuF,R2,by rw [List.length_append,hbl];rfl,fun y hy=>?_,by rw [List.length_append];show _+1=_;omega,by rw [List.length_append];show _+1=_;omega⟩
        rcases List.mem_append.mp hy with h | h
        · exact hbs y h
        · rw [List.mem_singleton.mp h];exact ⟨hwl,hwc⟩
    rintro σ HC ⟨qs1,qs2,bs,v11,v12,rfl,BC,hPC,hgC,hlC,hC1,hC2,hR1,hR2,hbl,hbs,hq1,hq2⟩
    rw [List.length_map] at hPC hbl
    rw [List.length_map,List.take_length] at hR1 hR2
    have hml2:(x :: mo).length≤6:=by rw [List.length_cons];omega
    -- the first row
    refine ⟨_,rfl,p0,_,_,rfl,hPC,by omega,by decide,by decide,fun z HD z0 z1 hPD eD=>?_⟩
    obtain ⟨h,rfl⟩:∃ j:Nat,z=(j:Int):=⟨z.toNat,by omega⟩
    have h6':h≤6:=by omega
    have BD:But p0 HC HD:=but_eq eD
    have hpl:(List.replicate h [p]).flatten.length=h:=by rw [rep_one,List.length_replicate]
    have hql:(List.replicate h [q]).flatten.length=h:=by rw [rep_one,List.length_replicate]
    refine ⟨_,rfl,_,rfl,[p],h,rfl,rfl,by omega,(show 1≤1000 by decide),_,rfl,_,rfl,[q],h,rfl,rfl,by omega,(show 1≤1000 by decide),⟨(List.replicate h [p]).flatten.toArray⟩,⟨(List.replicate h [q]).flatten.toArray⟩,rfl,rfl,szl (show (List.replicate h [p]).flatten.length+(List.replicate h [q]).flatten.length≤1000 by omega),?_⟩
    rw [tx_app,rep_one,rep_one]
    have hfl:(List.replicate h p++List.replicate h q).length=2 * h:=by rw [List.length_append,List.length_replicate,List.length_replicate];omega
    have efl:((⟨(List.replicate h p++List.replicate h q).toArray⟩:Str).length:Nat)=2 * h:=hfl
    refine ⟨_,rfl,_,rfl,_,rfl,_,rfl,⟨(List.replicate h p++List.replicate h q).toArray⟩,rfl,szl (by rw [efl];omega),_,_,rfl,rfl,?_⟩
    rw [show (fun i j:Int=>V.int (i - j)) 12 (((⟨(List.replicate h p++List.replicate h q).toArray⟩:Str).length:Nat):Int)=V.int ((12 - 2 * h:Nat):Int) from congrArg V.int (by rw [efl];omega)]
    refine ⟨p0,g,_,12 - 2 * h,atm p q x mo,rfl,hPD,by omega,BD _ _ hgC pgg,pgg,by omega,by omega,(fun y hy=>atm_len hy),by omega,fun t HE htl htc BE hPE=>?_⟩
    refine ⟨⟨(List.replicate h p++List.replicate h q).toArray⟩,⟨t.toArray⟩,rfl,rfl,szl (show (List.replicate h p++List.replicate h q).length+t.length≤1000 by omega),?_⟩
    rw [tx_app]
    have hf12:(List.replicate h p++List.replicate h q++t).length≤12:=by rw [List.length_append,hfl];omega
    have BCE:=BD.trans BE
    have tuE:=tups_but BCE hPC
    have l1:ltr (lonR p q x a bb (x :: mo) bs)=p :: q :: x :: mo:=lonR_ltr hbl
    have l2:ltr (lonR p q x bb a (x :: mo) bs)=p :: q :: x :: mo:=lonR_ltr hbl
    have ll:∀ a' b',(lonR p q x a' b' (x :: mo) bs).length≤8:=fun a' b'=>by
      unfold lonR
      rw [List.length_append,List.length_zip,hbl,Nat.min_self]
      show 2+_≤8
      omega
    have atin:∀ c∈(atm p q x mo).flatten,c∈p :: q :: x :: mo:=fun c hc=>by
      obtain ⟨y,hy,hcy⟩:=List.mem_flatten.mp hc
      rcases atm_mem hpq hy with ⟨h1,_⟩ | ⟨s,hs,rfl⟩
      · rcases h1 c hcy with rfl | rfl
        · exact List.mem_cons_self
        · exact List.mem_cons_of_mem _ List.mem_cons_self
      · rw [List.mem_singleton.mp hcy]
        exact List.mem_cons_of_mem _ (List.mem_cons_of_mem _ hs)
    have wall:∀ {a' b':Nat},a'≤3→b'≤3→∀ r∈lonR p q x a' b' (x :: mo) bs,r.2.length≤6∧∀ c∈r.2,c∈p :: q :: x :: mo:=fun {a' b'} e1 e2 r hr=>by
      have rx:∀ {n c:Nat},c∈List.replicate n x→c∈p :: q :: x :: mo:=fun {n c} hc=>by rw [(List.mem_replicate.mp hc).2];simp
      rcases List.mem_append.mp hr with z | z
      · simp only [List.mem_cons,List.not_mem_nil,or_false] at z
        rcases z with rfl | rfl
        · exact ⟨by show (List.replicate a' x).length≤6;rw [List.length_replicate];omega,fun c hc=>rx hc⟩
        · exact ⟨by show (List.replicate b' x).length≤6;rw [List.length_replicate];omega,fun c hc=>rx hc⟩
      · have:=hbs _ (zip_wl z)
        exact ⟨this.1,fun c hc=>atin c (cat_in this.2 c hc)⟩
    have ffin:∀ c∈List.replicate h p++List.replicate h q++t,c∈p :: q :: x :: mo:=fun c hc=>by
      rcases List.mem_append.mp hc with z | z
      · rcases List.mem_append.mp z with z | z
        · rw [(List.mem_replicate.mp z).2];simp
        · rw [(List.mem_replicate.mp z).2];simp
      · exact atin c (cat_in htc c z)
    refine ⟨_,rfl,_,rfl,?_⟩
    dsimp only [tNil]
    refine sort_tupR (BCE _ _ hC1 p1) (hR1.mono tuE) (by rw [l1];exact hmnd) (ll _ _) fun ra qa ua Ha pa ha ea sa=>⟨szl (show 2≤1000 by decide),fun t1 nt1=>?_⟩
    have sT1:=Same.add (o:=.tup [tx (List.replicate h p++List.replicate h q++t),.ref ra]) nt1
    have k1:BookAt (upd Ha t1 (.tup [tx (List.replicate h p++List.replicate h q++t),.ref ra])) t1 (List.replicate h p++List.replicate h q++t) ua:=⟨ra,qa,upd_same,sT1 _ _ ea,ha.mono (TupS.same sT1)⟩
    have s81:=sa.trans sT1
    revert k1 s81
    generalize upd Ha t1 (.tup [tx (List.replicate h p++List.replicate h q++t),.ref ra])=H12
    intro k1 s81
    refine ⟨_,rfl,_,rfl,?_⟩
    dsimp only [tNil]
    refine sort_tupR (s81 _ _ (BCE _ _ hC2 p2)) ((hR2.mono tuE).mono (TupS.same s81)) (by rw [l2];exact hmnd) (ll _ _) fun rb qb ub Hb pb hb' eb sb=>⟨szl (show 2≤1000 by decide),fun t2 nt2=>?_⟩
    have sT2:=Same.add (o:=.tup [tx (List.replicate h p++List.replicate h q++t),.ref rb]) nt2
    have k2:BookAt (upd Hb t2 (.tup [tx (List.replicate h p++List.replicate h q++t),.ref rb])) t2 (List.replicate h p++List.replicate h q++t) ub:=⟨rb,qb,upd_same,sT2 _ _ eb,hb'.mono (TupS.same sT2)⟩
    have s82:=sb.trans sT2
    revert k2 s82
    generalize upd Hb t2 (.tup [tx (List.replicate h p++List.replicate h q++t),.ref rb])=H13
    intro k2 s82
    refine ⟨_,rfl,szl (show 3≤1000 by decide),fun T nT=>?_⟩
    have sT:=Same.add (o:=.tup [.ref t1,.ref t2,.ref g]) nT
    have sAll:=s81.trans (s82.trans sT)
    have nda:(ltr ua).Nodup:=(ltr_perm pa).nodup_iff.mpr (by rw [l1];exact hmnd)
    have ndb:(ltr ub).Nodup:=(ltr_perm pb).nodup_iff.mpr (by rw [l2];exact hmnd)
    have wa:∀ r∈lonR p q x a bb (x :: mo) bs,wd ua r.1=r.2:=fun r hr=>wd_self nda (pa.mem_iff.mpr hr)
    have wb:∀ r∈lonR p q x bb a (x :: mo) bs,wd ub r.1=r.2:=fun r hr=>wd_self ndb (pb.mem_iff.mpr hr)
    refine k T t1 t2 g _ ua ub (atm p q x mo) _ _ upd_same (sAll _ _ (BCE _ _ hgC pgg)) (k1.mono (TupS.same (s82.trans sT))) (k2.mono (TupS.same sT))
      (Bk.perm pa (ll _ _) (by rw [l1];exact hmnd) (fun r hr=>(wall ha3 hb3 r hr).1) hf12 (fun r hr c hc=>by rw [l1];exact (wall ha3 hb3 r hr).2 c hc) (fun c hc=>by rw [l1];exact ffin c hc))
      (Bk.perm pb (ll _ _) (by rw [l2];exact hmnd) (fun r hr=>(wall hb3 ha3 r hr).1) hf12 (fun r hr c hc=>by rw [l2];exact (wall hb3 ha3 r hr).2 c hc) (fun c hc=>by rw [l2];exact ffin c hc))
      (long_clo hpq (wa (p,List.replicate a x) (List.mem_append_left _ (by simp))) (wa (q,List.replicate bb x) (List.mem_append_left _ (by simp))) (wb (p,List.replicate bb x) (List.mem_append_left _ (by simp))) (wb (q,List.replicate a x) (List.mem_append_left _ (by simp))) (fun s hs=>?_) htc)
      (by omega) (BC.trans (BCE.trans (But.same sAll)))
    obtain ⟨y,hy⟩:=zip_get hs hbl
    rw [wa (s,y) (List.mem_append_right _ hy),wb (s,y) (List.mem_append_right _ hy)]
    exact ⟨rfl,(hbs y (zip_wl hy)).2⟩
end
end Lw
namespace Lw
open PySem L2 PyProof.Rows
theorem comp_rule {K:PySem.W.Frag} {σ:L2.St} {H:Hp} {Q:VK} {tl:TE} {r:Addr} {ps:List Addr} {rs:List Rule} (j:Nat) (g:Rule→V) (hg:∀ c w,([sign c,tx w]:List V)[j]? = some (g (c,w))) (h2:H r=some (.tup (ps.map V.ref))) (h3:RulesAt H ps rs) (h8:rs.length≤8) (ht:∀ R:VK,R (.ref r) H→tl σ H R)
    (k:∀ D,H D=none→Q (.ref D) (upd H D (.lst (rs.map g)))):tComp [none] (iTup K tl) (gName 0) tAll (tOp (rIxT K) (tVar 0) (tC (V.int (j:Int)))) σ H Q:=by
  refine ht _ ⟨r,rfl,⟨_,SqT.of h2⟩,?_⟩
  refine comp_allR (τ0:=[none]) (sure_tup (xs:=ps.map V.ref)) (by rw [List.length_map,h3.len];omega) (fun i ys τ H2=>H2=H∧ys=(rs.take i).map g∧∃ v,τ=[v]) ⟨rfl,rfl,_,rfl⟩ ?_ ?_ ?_
  · rintro i ys τ H2 hi ⟨rfl,rfl,_⟩
    exact ⟨SqT.of h2,by rw [List.length_map,List.length_take];omega⟩
  · rintro i x ys τ H2 hx ⟨rfl,rfl,v,rfl⟩
    rw [List.getElem?_map] at hx
    cases e:ps[i]? with
    | none=>rw [e] at hx;cases hx
    | some p =>
      rw [e] at hx
      cases hx
      obtain ⟨c,w',e1,e2⟩:=h3.get e
      exact ⟨_,rfl,p,_,_,_,rfl,rfl,SqT.of e2,atI_nat (hg c w'),rfl,(take_snoc g e1).symm,_,rfl⟩
  · rintro ys τ H2 D ⟨rfl,rfl,_⟩ hD
    rw [List.length_map,h3.len,List.take_length]
    exact k D hD
section
variable {P:Program} {w:World} {K:PySem.W.Frag} {mg:Str→Option Value} {base:Heap}
def spMor:Sp:=fun vs H Q _=>∃ (t:Addr) (f:List Nat) (rs:List Rule) (c tm:Nat),vs=[.ref t,tx [c],.int (tm:Int)]∧BookAt H t f rs∧Bk f rs∧tm≤2∧∀ t' rs' H',BookAt H' t' f rs'→Bk f rs'→(∀ m,rowN rs' f m=rowN rs f m)→Same H H'→Q (.ref t') H'
theorem scMor:FnScope ["_law_book","_law_sign","_law_times","_law_signs_here"] ["_law_book","_law_sign","_law_times"] (defScope sMor):=⟨rfl,rfl,rfl,by decide +kernel,rfl,by decide +kernel,by decide +kernel⟩
theorem nd_mor1:(["_law_rule"]:List Str).Nodup:=by decide +kernel
theorem ok_mor {f:Addr} {fd:FuncData} (F:Fun K "_law_more" "_law_more" sMor f fd)
    (hlen:mg "len" = none)
    (hlist:mg "list" = none)
    (htuple:mg "tuple" = none)
    (hsorted:mg "sorted" = none)
    : FnOk P w K mg base CX0 1 f fd ["_law_book","_law_sign","_law_times"] spMor:=by
  refine F.ok scMor (fun vs H Q E h=>?_) (fun cdv A outer s H vs Q E hr h=>?_)
  · obtain ⟨t,f0,rs,c,tm,rfl,_⟩:=h
    rfl
  · obtain ⟨t,f0,rs,c,tm,rfl,hB,hG,htm,k⟩:=h
    refine ⟨_,(pss_cons (ps_setC (i:=3) (N':=["_law_rule"]) (ix:=[none]) scMor.nd rfl rfl rfl rfl (pi_tupK K (pe_ix (ix_tupK K) (pv 0) pe_int (fun _ _=>rfl))) (fun _ _ _ _ _ _=>(pg_name (i:=0) nd_mor1 rfl (Or.inl rfl))) (fun _ _ _ _ _ _=>pts_nil) (fun _ _ _ _ _ _=>(pe_ix (ix_tupK K) (pv 0) pe_int (fun _ _=>rfl))))
      (pss_cons (ps_if (PW.pt (pw_or (pt_cmpR op_gt (pe_callB (call_lenK K) (by rfl) hlen PySem.boot_len (pa_cons (pv 3) pa_nil)) pe_int (nomark _)) (pw_or1 (pt_cmpR (op_in_seqK K) (pv 1) (pv 3) (by rfl))))) (pss_one (ps_ret (pv 0))) pss_nil)
      (pss_one (ps_ret (pe_tup (pa_cons (pe_ix (ix_tupK K) (pv 0) pe_int (fun _ _=>rfl)) (pa_cons (pe_callTy (call_tuple_ofK K) (by rfl) htuple (by first | exact PySem.boot_tuple | decide +kernel) (pa_cons (pe_callB (call_sortPK K) (by rfl) hsorted PyProof.Rows.boot_sorted (pa_cons (pe_op op_cat (pe_callTy (call_list_ofK K) (by rfl) hlist (by first | exact PySem.boot_list | decide +kernel) (pa_cons (pe_ix (ix_tupK K) (pv 0) pe_int (fun _ _=>rfl)) pa_nil)) (pe_lst (pa_cons (pe_tup (pa_cons (pv 1) (pa_cons (pe_op op_mul0 (pe_ix (ix_listK K) (pe_op op_cat (pv 3) (pe_lst (pa_cons (pv 1) pa_nil))) pe_int (fun _ _=>rfl)) (pv 2)) pa_nil))) pa_nil))) pa_nil)) pa_nil)) pa_nil))))))),?_⟩
    have hfew:=hG.few
    obtain ⟨r,ps,b1,b2,b3⟩:=hB.ex
    rw [tSeq]
    refine comp_rule 0 (fun q=>sign q.1) (fun _ _=>rfl) b2 b3 hfew (fun R h=>⟨_,rfl,t,_,_,_,rfl,rfl,SqT.of b1,atI_nat (j:=1) rfl,h⟩) fun D nD=>?_
    have s1:=Same.add (o:=.lst (rs.map fun q=>sign q.1)) nD
    have hD:upd H D (.lst (rs.map fun q=>sign q.1)) D=some (.lst (rs.map fun q=>sign q.1)):=upd_same
    revert s1 hD
    generalize upd H D (.lst (rs.map fun q=>sign q.1))=H1
    intro s1 hD
    have es:(rs.map fun q=>sign q.1)=(ltr rs).map sign:=by unfold ltr;rw [List.map_map];rfl
    have kk:=k t rs H1 (hB.mono (TupS.same s1)) hG (fun m=>rfl) s1
    refine ⟨_,rfl,D,_,rfl,.inl (SqL.of hD),_,_,rfl,rfl,_,rfl,ite2 (fun hc=>iteT ⟨_,rfl,kk⟩) (fun hc=>?_)⟩
    have h7:rs.length≤7:=by
      by_cases z:rs.length≤7
      · exact z
      · exact absurd (decide_eq_true (show (7:Int) < (((rs.map fun q=>sign q.1).length:Nat):Int) by rw [List.length_map];omega)) hc
    refine ⟨_,rfl,_,rfl,D,_,rfl,.inl (SqL.of hD),rfl,(by rw [List.all_map];exact List.all_eq_true.mpr fun _ _=>rfl),_,rfl,ite2 (fun hc2=>⟨_,rfl,kk⟩) (fun hc2=>?_)⟩
    have hcn:c ∉ ltr rs:=fun z=>hc2 (by
      show inV (sign c) (rs.map fun q=>sign q.1)=true
      rw [es,in_signs,decide_eq_true z])
    have hat:((rs.map fun q=>sign q.1)++[tx [c]])[0]? = some (sign ((ltr rs++[c]).headD c)):=by
      rw [es]
      cases hl:ltr rs with
      | nil=>rfl
      | cons a r=>rfl
    have hdm:(ltr rs++[c]).headD c∈ltr rs++[c]:=by
      cases hl:ltr rs with
      | nil=>simp
      | cons a r=>simp
    generalize (ltr rs++[c]).headD c=dd at hat hdm
    refine ⟨_,rfl,t,_,_,_,rfl,rfl,SqT.of (s1 _ _ b1),atI_nat (j:=0) rfl,_,rfl,t,_,_,_,rfl,rfl,SqT.of (s1 _ _ b1),atI_nat (j:=1) rfl,r,_,rfl,.inr (SqT.of (s1 _ _ b2)),fun l2 nl2=>?_⟩
    have sl2:=Same.add (o:=.lst (ps.map V.ref)) nl2
    refine ⟨_,rfl,_,rfl,_,rfl,szl (show 1≤1000 by decide),fun l5 nl5=>⟨D,l5,_,_,rfl,rfl,Same.add nl5 _ _ (sl2 _ _ hD),upd_same,szl (by rw [List.length_map];show _+1≤_;omega),fun l6 nl6=>⟨l6,_,_,_,rfl,rfl,SqL.of upd_same,atI_nat (j:=0) hat,_,rfl,[dd],tm,rfl,rfl,by omega,(show 1≤1000 by decide),szl (show 2≤1000 by decide),fun q nq=>?_⟩⟩⟩
    rw [rep_one]
    have s26:=sl2.trans ((Same.add (o:=.lst [tx [c]]) nl5).trans (Same.add (o:=.lst ((rs.map fun q=>sign q.1)++[tx [c]])) nl6))
    have hl26:=((Same.add (o:=.lst [tx [c]]) nl5).trans (Same.add (o:=.lst ((rs.map fun q=>sign q.1)++[tx [c]])) nl6)) _ _ (upd_same (H:=H1) (a:=l2) (o:=.lst (ps.map V.ref)))
    revert s26 hl26
    have nq':=nq
    clear nq
    revert nq'
    generalize upd (upd (upd H1 l2 (.lst (ps.map V.ref))) l5 (.lst [tx [c]])) l6 (.lst ((rs.map fun q=>sign q.1)++[tx [c]]))=H3
    intro nq s26 hl26
    have sq:=Same.add (o:=.tup [tx [c],tx (List.replicate tm dd)]) nq
    refine ⟨szl (show 1≤1000 by decide),fun l3 nl3=>⟨l2,l3,_,_,rfl,rfl,Same.add nl3 _ _ (sq _ _ hl26),upd_same,szl (by rw [List.length_map,b3.len];show _+1≤_;omega),fun l4 nl4=>?_⟩⟩
    have s34:Same H3 (upd (upd (upd H3 q (.tup [tx [c],tx (List.replicate tm dd)])) l3 (.lst [.ref q])) l4 (.lst (ps.map V.ref++[.ref q]))):=sq.trans ((Same.add nl3).trans (Same.add nl4))
    have hq4:upd (upd (upd H3 q (.tup [tx [c],tx (List.replicate tm dd)])) l3 (.lst [.ref q])) l4 (.lst (ps.map V.ref++[.ref q])) q=some (.tup [sign c,tx (List.replicate tm dd)]):=((Same.add nl3).trans (Same.add nl4)) _ _ upd_same
    have h44:upd (upd (upd H3 q (.tup [tx [c],tx (List.replicate tm dd)])) l3 (.lst [.ref q])) l4 (.lst (ps.map V.ref++[.ref q])) l4=some (.lst ((ps++[q]).map V.ref)):=by rw [upd_same,List.map_append];rfl
    have s4:=s26.trans s34
    revert hq4 h44 s4
    clear s34
    generalize upd (upd (upd H3 q (.tup [tx [c],tx (List.replicate tm dd)])) l3 (.lst [.ref q])) l4 (.lst (ps.map V.ref++[.ref q]))=H4
    intro hq4 h44 s4
    dsimp only [tNil]
    have r4:RulesAt H4 (ps++[q]) (rs++[(c,List.replicate tm dd)]):=rules_snoc (b3.mono (TupS.same (s1.trans s4))) hq4
    have el4:ltr (rs++[(c,List.replicate tm dd)])=ltr rs++[c]:=ltr_snoc _ _ _
    have nd4:(ltr (rs++[(c,List.replicate tm dd)])).Nodup:=by
      rw [el4]
      refine List.nodup_append.mpr ⟨hG.nd,List.pairwise_singleton _ _,fun a ha b hb z=>hcn ?_⟩
      rw [List.mem_singleton.mp hb] at z
      rw [← z]
      exact ha
    refine sort_tupR h44 r4 nd4 (by rw [List.length_append];show _+1≤_;omega) fun ra qa ua Ha pa ha ea sa=>⟨szl (show 2≤1000 by decide),fun t2 nt=>?_⟩
    have sT:=Same.add (o:=.tup [tx f0,.ref ra]) nt
    have old:∀ x,(∀ a∈x,a∈ltr rs)→nxt ua x=nxt rs x:=fun x hx=>nxt_congr fun a ha=>by
      rw [wd_perm pa nd4 (by rw [el4];exact List.mem_append_left _ (hx a ha)),wd_left (hx a ha)]
    have rows:∀ m,rowN ua f0 m=rowN rs f0 m:=fun m=>by
      induction m with
      | zero=>rfl
      | succ m ih =>
        show nxt ua (rowN ua f0 m)=nxt rs (rowN rs f0 m)
        rw [ih]
        exact old _ (rowN_inB hG hG.fin m)
    refine k t2 ua _ ⟨ra,qa,upd_same,sT _ _ ea,ha.mono (TupS.same sT)⟩ (Bk.perm pa (by rw [List.length_append];show _+1≤_;omega) nd4 (fun u hu=>?_) hG.fl (fun u hu a hau=>?_) (fun a hau=>by rw [el4];exact List.mem_append_left _ (hG.fin a hau))) rows (s1.trans (s4.trans (sa.trans sT)))
    · rcases List.mem_append.mp hu with h | h
      · exact hG.wl u h
      · rw [List.mem_singleton.mp h]
        show (List.replicate tm dd).length≤6
        rw [List.length_replicate]
        omega
    · rw [el4]
      rcases List.mem_append.mp hu with h | h
      · exact List.mem_append_left _ (hG.win u h a hau)
      · rw [List.mem_singleton.mp h] at hau
        rw [(List.mem_replicate.mp hau).2]
        exact hdm
end
end Lw
namespace Lw
open PySem L2 PyProof.Rows
theorem PenAt.but {H H':Hp} {p q:Addr} {b:Nat} (h:PenAt H p b) (bt:But q H H') (hne:p≠q):PenAt H' p b:=by
  obtain ⟨a,n,f,e,h1⟩:=h.ex
  exact ⟨a,n,f,bt _ _ e hne,h1⟩
theorem sizes_ok (j:Nat):∀ i s,([3,3,2].take (j+1))[i]? = some s→1≤s∧s≤3∧3 * i+s≤8:=by
  intro i s h
  have h':[3,3,2][i]? = some s:=by
    rw [List.getElem?_take] at h
    split at h
    · exact h
    · cases h
  match i with
  | 0=>cases h';decide
  | 1=>cases h';decide
  | 2=>cases h';decide
  | i+3=>cases h'
theorem found_hd {K:PySem.W.Frag} {σ:L2.St} {H:Hp} {Q:VK} {rs1 rs2:List Rule} {f1 f2:List Nat} {z:V} {i:Nat} (hf:FoundAt H rs1 rs2 f1 f2 z) (hal:∀ m,rowN rs1 f1 m=rowN rs2 f2 m) (hi:σ[i]? = some (some z)) (k:∀ s:String,((s = "many"∧True)∨(s = "alike"∧True))→Q (.str (Str.ofString s)) H) :
    tOp (rIxA K) (tVar i) (tC (V.int 0)) σ H Q:=by
  rcases hf with ⟨L,rfl,hL,_⟩ | ⟨T,L,t,rfl,hT,hL,_,hP⟩ | ⟨T,m,rfl,hT,hA⟩
  · exact ⟨_,hi,.inl ⟨L,_,_,_,rfl,rfl,SqL.of hL,atI_nat (j:=0) rfl,k "many" (.inl ⟨rfl,trivial⟩)⟩⟩
  · exact ⟨_,hi,.inr ⟨T,_,_,_,rfl,rfl,SqT.of hT,atI_nat (j:=0) rfl,k "alike" (.inr ⟨rfl,trivial⟩)⟩⟩
  · exact absurd (hal m) hA.ne
section
variable {P:Program} {w:World} {K:PySem.W.Frag} {mg:Str→Option Value} {base:Heap}
def spLaw (K:PySem.W.Frag):Sp:=fun vs H Q _=>∃ (a:Addr) (ns:List Int),vs=[.ref a]∧SqL K H a (ns.map V.int)∧ns.length≤63∧∀ H',Q (.bl true) H'
theorem seq_keep {H H':Hp} {a:Addr} {xs:List V} (e:∀ o,H a=some o→H' a=some o) (h:SqL K H a xs):SqL K H' a xs:=by
  rcases h with (h | ⟨o,h⟩) | h
  · exact .inl (.inl (e _ h))
  · exact .inl (.inr ⟨o,e _ h⟩)
  · exact .inr h
structure Al (H:Hp) (t1 t2 g:Addr) (f:List Nat) (rs1 rs2:List Rule) (gs:List (List Nat)):Prop where
  b1:BookAt H t1 f rs1
  b2:BookAt H t2 f rs2
  k1:Bk f rs1
  k2:Bk f rs2
  al:∀ m,rowN rs1 f m=rowN rs2 f m
  hg:H g=some (.lst (gs.map tx))
  few:gs.length≤30
theorem Al.same {H H':Hp} {t1 t2 g:Addr} {f:List Nat} {rs1 rs2:List Rule} {gs:List (List Nat)} (h:Al H t1 t2 g f rs1 rs2 gs) (s:Same H H'):Al H' t1 t2 g f rs1 rs2 gs:=⟨h.b1.mono (TupS.same s),h.b2.mono (TupS.same s),h.k1,h.k2,h.al,s _ _ h.hg,h.few⟩
theorem Al.but {H H':Hp} {t1 t2 g p:Addr} {b:Nat} {f:List Nat} {rs1 rs2:List Rule} {gs:List (List Nat)} (h:Al H t1 t2 g f rs1 rs2 gs) (bt:But p H H') (hP:PenAt H p b) (ng:g≠p):Al H' t1 t2 g f rs1 rs2 gs:=⟨h.b1.mono (tups_but bt hP),h.b2.mono (tups_but bt hP),h.k1,h.k2,h.al,bt _ _ h.hg ng,h.few⟩
theorem pen_ne {H:Hp} {p g:Addr} {b:Nat} {gs:List (List Nat)} (h:PenAt H p b) (hg:H g=some (.lst (gs.map tx))):g≠p:=fun z=>by
  obtain ⟨a,n,f,e,h1⟩:=h.ex
  rw [z,e] at hg
  have h2:=HO.lst.inj (Option.some.inj hg)
  cases gs with
  | nil=>cases h2
  | cons x r =>
    rw [List.map_cons] at h2
    cases (List.cons.inj h2).1
theorem scLaw:FnScope ["_law_script","_law_pen_here","_law_pick","_law_sizes","_law_one","_law_other","_law_groups","_law_odd","_law_sign","_law_found","_law_again"] ["_law_script"] (defScope sLaw):=⟨rfl,rfl,rfl,by decide +kernel,rfl,by decide +kernel,by decide +kernel⟩
theorem ok_law {f fPen fTak fAsk fLon fPar fMor fRgt:Addr} {fd fdPen fdTak fdAsk fdLon fdPar fdMor fdRgt:FuncData} (F:Fun K "law" "law" sLaw f fd)
    (GPen:FnOk P w K mg base CX0 1 fPen fdPen ["_law_script","_law_k"] (spPen K))
    (gPen:Gf K mg "_law_pen" fPen fdPen ["_law_script","_law_k"])
    (GTak:FnOk P w K mg base CX0 1 fTak fdTak ["_law_pen_here","_law_size"] spTak)
    (gTak:Gf K mg "_law_take" fTak fdTak ["_law_pen_here","_law_size"])
    (GAsk:FnOk P w K mg base CX0 5 fAsk fdAsk ["_law_one","_law_other"] (spAsk K))
    (gAsk:Gf K mg "_law_asked" fAsk fdAsk ["_law_one","_law_other"])
    (GLon:FnOk P w K mg base CX0 3 fLon fdLon ["_law_pen_here"] spLon)
    (gLon:Gf K mg "_law_long_pair" fLon fdLon ["_law_pen_here"])
    (GPar:FnOk P w K mg base CX0 3 fPar fdPar ["_law_pen_here","_law_sizes"] spPar)
    (gPar:Gf K mg "_law_pair" fPar fdPar ["_law_pen_here","_law_sizes"])
    (GMor:FnOk P w K mg base CX0 1 fMor fdMor ["_law_book","_law_sign","_law_times"] spMor)
    (gMor:Gf K mg "_law_more" fMor fdMor ["_law_book","_law_sign","_law_times"])
    (GRgt:FnOk P w K mg base CX0 3 fRgt fdRgt ["_law_one","_law_other","_law_found"] (spRgt K))
    (gRgt:Gf K mg "_law_right" fRgt fdRgt ["_law_one","_law_other","_law_found"])
    : FnOk P w K mg base CX0 6 f fd ["_law_script"] (spLaw K):=by
  refine F.ok scLaw (fun vs H Q E h=>?_) (fun cdv A outer s H vs Q E hr h=>?_)
  · obtain ⟨a,ns,rfl,_⟩:=h
    rfl
  · obtain ⟨a,ns,rfl,hS,h63,k⟩:=h
    have hr1:Room 1 _:=hr.mono (by decide)
    have hr3:Room 3 _:=hr.mono (by decide)
    refine ⟨_,(pss_cons (ps_set (i:=1) scLaw.nd rfl (Or.inl rfl) (pe_call GPen hr1 rfl gPen.m gPen.k gPen.b .nil pass0 (pa_cons (pv 0) (pa_cons pe_int pa_nil))))
      (pss_cons (ps_set (i:=2) scLaw.nd rfl (Or.inl rfl) (pe_call GTak hr1 rfl gTak.m gTak.k gTak.b .nil pass0 (pa_cons (pv 1) (pa_cons pe_int pa_nil))))
      (pss_cons (ps_set (i:=3) scLaw.nd rfl (Or.inl rfl) (pe_slice (sl_listK K) (pe_lst (pa_cons pe_int (pa_cons pe_int (pa_cons pe_int pa_nil)))) po_none (po_some (pe_op op_add pe_int (pe_call GTak hr1 rfl gTak.m gTak.k gTak.b .nil pass0 (pa_cons (pv 1) (pa_cons pe_int pa_nil)))))))
      (pss_cons (ps_if (pt_cmpR op_lt (pv 2) pe_int (nomark _)) (pss_one (ps_asg (pe_call GLon hr3 rfl gLon.m gLon.k gLon.b .nil pass0 (pa_cons (pe_call GPen hr1 rfl gPen.m gPen.k gPen.b .nil pass0 (pa_cons (pv 0) (pa_cons pe_int pa_nil))) pa_nil)) (pg_tupK K (n:=3) rfl (pgs_cons (pg_name (i:=4) scLaw.nd rfl (Or.inl rfl)) (pgs_cons (pg_name (i:=5) scLaw.nd rfl (Or.inl rfl)) (pgs_cons (pg_name (i:=6) scLaw.nd rfl (Or.inl rfl)) pgs_nil)))))) (pss_one (ps_asg (pe_call GPar hr3 rfl gPar.m gPar.k gPar.b .nil pass0 (pa_cons (pe_call GPen hr1 rfl gPen.m gPen.k gPen.b .nil pass0 (pa_cons (pv 0) (pa_cons pe_int pa_nil))) (pa_cons (pv 3) pa_nil))) (pg_tupK K (n:=3) rfl (pgs_cons (pg_name (i:=4) scLaw.nd rfl (Or.inl rfl)) (pgs_cons (pg_name (i:=5) scLaw.nd rfl (Or.inl rfl)) (pgs_cons (pg_name (i:=6) scLaw.nd rfl (Or.inl rfl)) pgs_nil)))))))
      (pss_cons (ps_if (pt_cmpR op_eq (pv 2) pe_int (nomark _)) (pss_one (ps_set (i:=4) scLaw.nd rfl (Or.inl rfl) (pv 5))) pss_nil)
      (pss_cons (ps_set (i:=7) scLaw.nd rfl (Or.inl rfl) (pe_call GTak hr1 rfl gTak.m gTak.k gTak.b .nil pass0 (pa_cons (pv 1) (pa_cons pe_int pa_nil))))
      (pss_cons (ps_set (i:=8) scLaw.nd rfl (Or.inl rfl) (pe_ix ix_str pe_str (pe_call GTak hr1 rfl gTak.m gTak.k gTak.b .nil pass0 (pa_cons (pv 1) (pa_cons pe_int pa_nil))) (fun _ _=>rfl)))
      (pss_cons (ps_if (pt_cmpR (op_in_seqK K) (pv 7) (pe_tup (pa_cons pe_int (pa_cons pe_int pa_nil))) (by rfl)) (pss_one (ps_set (i:=4) scLaw.nd rfl (Or.inl rfl) (pe_call GMor hr1 rfl gMor.m gMor.k gMor.b .nil pass0 (pa_cons (pv 4) (pa_cons (pv 8) (pa_cons pe_int pa_nil)))))) pss_nil)
      (pss_cons (ps_if (pt_cmpR (op_in_seqK K) (pv 7) (pe_tup (pa_cons pe_int (pa_cons pe_int pa_nil))) (by rfl)) (pss_one (ps_set (i:=5) scLaw.nd rfl (Or.inl rfl) (pe_call GMor hr1 rfl gMor.m gMor.k gMor.b .nil pass0 (pa_cons (pv 5) (pa_cons (pv 8) (pa_cons pe_int pa_nil)))))) pss_nil)
      (pss_cons (ps_set (i:=9) scLaw.nd rfl (Or.inl rfl) (pe_call GAsk hr rfl gAsk.m gAsk.k gAsk.b .nil pass0 (pa_cons (pv 4) (pa_cons (pv 5) pa_nil))))
      (pss_cons (ps_if (PW.pt (pw_or (pt_not (pt_val (pe_call GRgt hr3 rfl gRgt.m gRgt.k gRgt.b .nil pass0 (pa_cons (pv 4) (pa_cons (pv 5) (pa_cons (pv 9) pa_nil)))))) (pw_or1 (pt_cmpR op_eq (pe_ix (ix_anyK K) (pv 9) pe_int (fun _ _=>rfl)) pe_str (nomark _))))) (pss_one (ps_ret pe_bl)) pss_nil)
      (pss_cons (ps_if (pt_cmpR op_eq (pe_ix (ix_anyK K) (pv 9) pe_int (fun _ _=>rfl)) pe_str (nomark _)) (pss_one (ps_expr (pe_bmK K PySem.F.plainAttrs_list PySem.F.slot_list_extend PySem.F.type_list_extend mt_extend (pe_ix (ix_anyK K) (pv 9) pe_int (fun _ _=>rfl)) (pa_cons (pv 6) pa_nil)))) pss_nil)
      (pss_cons (ps_set (i:=10) scLaw.nd rfl (Or.inl rfl) (pe_call GAsk hr rfl gAsk.m gAsk.k gAsk.b .nil pass0 (pa_cons (pv 5) (pa_cons (pv 4) pa_nil))))
      (pss_one (ps_ret (pe_and (pe_call GRgt hr3 rfl gRgt.m gRgt.k gRgt.b .nil pass0 (pa_cons (pv 5) (pa_cons (pv 4) (pa_cons (pv 10) pa_nil)))) (pe_one (pe_cmpR op_ne (pe_ix (ix_anyK K) (pv 10) pe_int (fun _ _=>rfl)) pe_str (nomark _))))))))))))))))))),?_⟩
    refine ⟨_,rfl,a,ns,1,rfl,hS,h63,by omega,by omega,fun p Ha sa np hPa=>?_⟩
    refine ⟨_,rfl,p,0,4,rfl,hPa,by omega,by decide,by decide,fun z Hb z0 z1 hPb eb=>?_⟩
    obtain ⟨pick,rfl⟩:∃ m:Nat,z=(m:Int):=⟨z.toNat,by omega⟩
    refine ⟨szl (show 3≤1000 by decide),fun L nL=>?_⟩
    have npL:L≠p:=by obtain ⟨o,ho⟩:=hPb.some;exact (ne_of_none ho nL).symm
    refine ⟨_,rfl,p,1,3,rfl,hPb.sm (Same.add nL),by omega,by decide,by decide,fun z Hc c0 c1 hPc ec=>⟨_,_,rfl,rfl,_,rfl,L,_,rfl,SqL.of ((ec L npL).trans upd_same),fun ls nls=>?_⟩⟩
    obtain ⟨j,rfl⟩:∃ m:Nat,z=(m:Int):=⟨z.toNat,by omega⟩
    rw [show (1:Int)+(j:Int)=((j+1:Nat):Int) by omega,cut_take]
    have el:([V.int 3,V.int 3,V.int 2]:List V).take (j+1)=([3,3,2].take (j+1)).map fun n:Nat=>V.int (n:Int):=by rw [List.map_take];rfl
    rw [el]
    have nlsp:ls≠p:=by obtain ⟨o,ho⟩:=hPc.some;exact (ne_of_none ho nls).symm
    have sls:=Same.add (o:=.lst (([3,3,2].take (j+1)).map fun n:Nat=>V.int (n:Int))) nls
    have hls:upd Hc ls (.lst (([3,3,2].take (j+1)).map fun n:Nat=>V.int (n:Int))) ls=some (.lst (([3,3,2].take (j+1)).map fun n:Nat=>V.int (n:Int))):=upd_same
    have hSd:SqL K (upd Hc ls (.lst (([3,3,2].take (j+1)).map fun n:Nat=>V.int (n:Int)))) a (ns.map V.int):=seq_keep (fun o h=>by
      have n1:a≠p:=ne_of_none h np
      refine sls _ _ ?_
      rw [ec a n1]
      refine Same.add nL _ _ ?_
      rw [eb a n1]
      exact sa _ _ h) hS
    have hPd:=hPc.sm sls
    revert hls hSd hPd
    generalize upd Hc ls (.lst (([3,3,2].take (j+1)).map fun n:Nat=>V.int (n:Int)))=Hd
    intro hls hSd hPd
    dsimp only [gName]
    refine seq_by (fun σ H'=>∃ (t1 t2 g:Addr) (f:List Nat) (rs1 rs2:List Rule) (gs:List (List Nat)),σ=[some (.ref a),some (.ref p),some (.int (pick:Int)),some (.ref ls),some (.ref t1),some (.ref t2),some (.ref g),none,none,none,none]∧Al H' t1 t2 g f rs1 rs2 gs∧PenAt H' p 2) (fun nx hn=>?_) ?_
    · refine ⟨_,rfl,_,_,rfl,rfl,_,rfl,ite2 (fun hc=>?_) (fun hc=>?_)⟩
      · refine ⟨_,rfl,a,ns,0,rfl,hSd,h63,by omega,by omega,fun p0 Hf sf np0 hPf=>?_⟩
        have hpp:p≠p0:=by obtain ⟨o,ho⟩:=hPd.some;exact ne_of_none ho np0
        refine ⟨p0,0,rfl,hPf,by omega,fun T t1 t2 g f rs1 rs2 gs Pc Hg hT hg b1 b2 k1 k2 hC hgl bt=>?_⟩
        exact ⟨T,_,rfl,SqT.of hT,rfl,_,_,rfl,_,_,rfl,_,_,rfl,rfl,hn _ _ ⟨t1,t2,g,f,rs1,rs2,gs,rfl,⟨b1,b2,k1,k2,fun m=>(hC.rows m).1,hg,hgl⟩,(hPd.sm sf).but bt hpp⟩⟩
      · refine ⟨_,rfl,a,ns,0,rfl,hSd,h63,by omega,by omega,fun p0 Hf sf np0 hPf=>?_⟩
        have hpp:p≠p0:=by obtain ⟨o,ho⟩:=hPd.some;exact ne_of_none ho np0
        have nl0:ls≠p0:=ne_of_none hls np0
        refine ⟨_,rfl,p0,ls,0,[3,3,2].take (j+1),rfl,hPf,by omega,sf _ _ hls,nl0,fun z=>(by have:=congrArg List.length z;rw [List.length_take] at this;change min (j+1) 3=0 at this;omega),(by rw [List.length_take];exact Nat.min_le_right _ _),sizes_ok j,fun T f rs1 rs2 gs Hg hT bt _ _=>?_⟩
        obtain ⟨t1,t2,g,hT3,b1,b2,hg⟩:=hT.ex
        have:=hT.few
        exact ⟨T,_,rfl,SqT.of hT3,rfl,_,_,rfl,_,_,rfl,_,_,rfl,rfl,hn _ _ ⟨t1,t2,g,f,rs1,rs2,gs,rfl,⟨b1,b2,hT.k1,hT.k2,fun m=>(hT.clo.rows m).1,hg,by omega⟩,(hPd.sm sf).but bt hpp⟩⟩
    rintro σ Hf ⟨t1,t2,g,f,rs1,rs2,gs,rfl,hA,hPf⟩
    refine seq_by (fun σ H'=>∃ (t1 t2 g:Addr) (f:List Nat) (rs1 rs2:List Rule) (gs:List (List Nat)),σ=[some (.ref a),some (.ref p),some (.int (pick:Int)),some (.ref ls),some (.ref t1),some (.ref t2),some (.ref g),none,none,none,none]∧Al H' t1 t2 g f rs1 rs2 gs∧PenAt H' p 2) (fun nx hn=>?_) ?_
    · refine ⟨_,rfl,rfl,_,rfl,ite2 (fun hc=>⟨_,rfl,hn _ _ ⟨t2,t2,g,f,rs2,rs2,gs,rfl,⟨hA.b2,hA.b2,hA.k2,hA.k2,fun m=>rfl,hA.hg,hA.few⟩,hPf⟩⟩) (fun hc=>hn _ _ ⟨t1,t2,g,f,rs1,rs2,gs,rfl,hA,hPf⟩)⟩
    clear hA hPf
    rintro σ Hf ⟨t1,t2,g,f,rs1,rs2,gs,rfl,hA,hPf⟩
    have ngp:=pen_ne hPf hA.hg
    refine ⟨_,rfl,p,2,6,rfl,hPf,by omega,by decide,by decide,fun z Hg y0 y1 hPg eg=>?_⟩
    obtain ⟨od,rfl⟩:∃ m:Nat,z=(m:Int):=⟨z.toNat,by omega⟩
    refine ⟨_,rfl,p,3,26,rfl,hPg,by omega,by decide,by decide,fun z Hh x0 x1 hPh eh=>?_⟩
    obtain ⟨ci,rfl⟩:∃ m:Nat,z=(m:Int):=⟨z.toNat,by omega⟩
    have hci:ci < (Str.ofString "abcdefghijklmnopqrstuvwxyz").cps.toList.length:=by
      have:(Str.ofString "abcdefghijklmnopqrstuvwxyz").cps.toList.length=26:=by rw [abc_str];rfl
      omega
    refine ⟨_,_,_,rfl,rfl,by decide +kernel,atI_nat (List.getElem?_eq_getElem hci),?_⟩
    generalize (Str.ofString "abcdefghijklmnopqrstuvwxyz").cps.toList[ci]=cc
    have hA:=hA.but ((but_eq eg).trans (but_eq eh)) hPf ngp
    have hPh':PenAt Hh p 4:=hPh
    clear hPf hPg
    dsimp only [gName]
    refine seq_by (fun σ H'=>∃ (t1:Addr) (rs1:List Rule),σ=[some (.ref a),some (.ref p),some (.int (pick:Int)),some (.ref ls),some (.ref t1),some (.ref t2),some (.ref g),some (.int (od:Int)),some (tx [cc]),none,none]∧Al H' t1 t2 g f rs1 rs2 gs) (fun nx hn=>?_) ?_
    · refine ⟨_,rfl,szl (show 2≤1000 by decide),fun T nT=>?_⟩
      have sT:=Same.add (o:=.tup [V.int 0,V.int 2]) nT
      have hB:=hA.same sT
      refine ⟨T,_,rfl,.inr (SqT.of upd_same),rfl,rfl,_,rfl,ite2 (fun hc=>?_) (fun hc=>hn _ _ ⟨t1,rs1,rfl,hB⟩)⟩
      refine ⟨_,rfl,_,rfl,t1,f,rs1,cc,1,rfl,hB.b1,hB.k1,by decide,fun t' rs' Hi bi ki hr si=>?_⟩
      have hC:=hB.same si
      exact hn _ _ ⟨t',rs',rfl,⟨bi,hC.b2,ki,hC.k2,fun m=>(hr m).trans (hC.al m),hC.hg,hC.few⟩⟩
    clear hA hPh hPh'
    rintro σ Hi ⟨t1,rs1,rfl,hA⟩
    refine seq_by (fun σ H'=>∃ (t2:Addr) (rs2:List Rule),σ=[some (.ref a),some (.ref p),some (.int (pick:Int)),some (.ref ls),some (.ref t1),some (.ref t2),some (.ref g),some (.int (od:Int)),some (tx [cc]),none,none]∧Al H' t1 t2 g f rs1 rs2 gs) (fun nx hn=>?_) ?_
    · refine ⟨_,rfl,szl (show 2≤1000 by decide),fun T nT=>?_⟩
      have sT:=Same.add (o:=.tup [V.int 1,V.int 2]) nT
      have hB:=hA.same sT
      refine ⟨T,_,rfl,.inr (SqT.of upd_same),rfl,rfl,_,rfl,ite2 (fun hc=>?_) (fun hc=>hn _ _ ⟨t2,rs2,rfl,hB⟩)⟩
      refine ⟨_,rfl,_,rfl,t2,f,rs2,cc,2,rfl,hB.b2,hB.k2,by decide,fun t' rs' Hj bj kj hr sj=>?_⟩
      have hC:=hB.same sj
      exact hn _ _ ⟨t',rs',rfl,⟨hC.b1,bj,hC.k1,kj,fun m=>(hC.al m).trans (hr m).symm,hC.hg,hC.few⟩⟩
    clear hA
    rintro σ Hi ⟨t2,rs2,rfl,hA⟩
    have k1:=hA.k1
    have k2:=hA.k2
    refine ⟨_,rfl,_,rfl,t1,t2,f,f,rs1,rs2,rfl,hA.b1,hA.b2,k1,k2,fun z1 Hj sj hf1=>?_⟩
    have hA:=hA.same sj
    refine ⟨_,rfl,_,rfl,_,rfl,t1,t2,f,f,rs1,rs2,z1,rfl,hA.b1,hA.b2,k1,k2,hf1,fun Hk sk=>⟨_,rfl,iteF ?_⟩⟩
    have hA:=hA.same sk
    have hf1:=hf1.same sk
    refine found_hd hf1 hA.al rfl fun s hs=>⟨rfl,_,rfl,?_⟩
    rw [decide_eq_false (show ¬ V.str (Str.ofString s)=V.str (Str.ofString "part") by rcases hs with ⟨rfl,_⟩ | ⟨rfl,_⟩ <;> exact fun z=>absurd (V.str.inj z) (by decide))]
    refine iteF ?_
    dsimp only [tNext]
    refine seq_by (fun σ' H'=>∃ z,σ'=[some (.ref a),some (.ref p),some (.int (pick:Int)),some (.ref ls),some (.ref t1),some (.ref t2),some (.ref g),some (.int (od:Int)),some (tx [cc]),some z,none]∧BookAt H' t1 f rs1∧BookAt H' t2 f rs2) (fun nx hn=>?_) ?_
    · rcases hf1 with ⟨L,rfl,hL,_⟩ | ⟨T,L,t,rfl,hT,hL,_,hP⟩ | ⟨T,m,rfl,hT,hB⟩
      · exact ⟨_,rfl,.inl ⟨L,_,_,_,rfl,rfl,SqL.of hL,atI_nat (j:=0) rfl,rfl,_,rfl,iteF (hn _ _ ⟨_,rfl,hA.b1,hA.b2⟩)⟩⟩
      · refine ⟨_,rfl,.inr ⟨T,_,_,_,rfl,rfl,SqT.of hT,atI_nat (j:=0) rfl,rfl,_,rfl,iteT ?_⟩⟩
        have h30:=hP.few
        have hgf:=hA.few
        refine ⟨_,rfl,.inr ⟨T,_,_,_,rfl,rfl,SqT.of hT,atI_nat (j:=1) rfl,.inl ⟨rfl,_,SqL.of hL⟩,_,rfl,L,g,_,_,rfl,rfl,hL,hA.hg,szl (by rw [List.length_map,List.length_map];omega),hn _ _ ⟨_,rfl,hA.b1.mono (tups_upd hL),hA.b2.mono (tups_upd hL)⟩⟩⟩
      · exact absurd (hA.al m) hB.ne
    have al:=hA.al
    clear hA hf1
    rintro σ Hl ⟨z,rfl,b1,b2⟩
    refine ⟨_,rfl,_,rfl,t2,t1,f,f,rs2,rs1,rfl,b2,b1,k2,k1,fun z2 Hm sm hf2=>?_⟩
    refine ⟨_,rfl,_,rfl,_,rfl,t2,t1,f,f,rs2,rs1,z2,rfl,b2.mono (TupS.same sm),b1.mono (TupS.same sm),k2,k1,hf2,fun Hn sn=>⟨_,rfl,iteT ?_⟩⟩
    refine found_hd (hf2.same sn) (fun m=>(al m).symm) rfl fun s hs=>⟨rfl,?_⟩
    rw [decide_eq_false (show ¬ V.str (Str.ofString s)=V.str (Str.ofString "part") by rcases hs with ⟨rfl,_⟩ | ⟨rfl,_⟩ <;> exact fun z=>absurd (V.str.inj z) (by decide))]
    exact k _
end
end Lw
namespace Lw
open PySem L2 PyProof.Rows PySem.W
theorem own_mk {K:PySem.W.Frag} {h:Heap} {mg:Str→Option Value} {x:Str} {C:Addr} {bmB:List Value} {newId:String} (X:K.In h) (G:h.Ns mainGlobals mg) (e:nsIn K mainGlobals x=some (some (.ref C))) (q:excIn K C bmB newId=true):OwnCls x C bmB newId mg h:=by
  refine ⟨mg_of X G e,?_⟩
  unfold excIn at q
  split at q
  · rename_i dd cd sl hobj
    split at q
    · rename_i C2 bm2 s0 s1 s2 s3 nid s5 hmro hslots
      simp only [Bool.and_eq_true,beq_iff_eq,Bool.not_eq_true'] at q
      obtain ⟨⟨⟨⟨⟨rfl,rfl⟩,hdl⟩,htl⟩,hns⟩,hin⟩:=q
      obtain ⟨nm,bs,mro,nsa,qn,hd,sn,sub,ab,col,del⟩:=cd
      dsimp only at hmro hdl hns hin
      subst hmro hdl
      have esl:sl = #[s0,s1,s2,s3,some (.builtin nid),s5]:=by
        obtain ⟨lst⟩:=sl
        simp only at hslots
        rw [hslots]
      subst esl
      exact ⟨bm2,nsa,nm,qn,bs,hd,sn,sub,ab,col,dd,s0,s1,s2,s3,s5,_,X _ _ hobj,.of_isNs (isNs_of_in X hns),nsMap_none_of_in X hns hin,tail_of_in X htl⟩
    · cases q
  · cases q
end Lw
namespace Lw
open PySem L2 PyProof.Rows
theorem gf_mk {K:PySem.W.Frag} {h:Heap} {mg:Str→Option Value} {x:Str} {fd:FuncData} {f:Addr} {ps:List Str} (X:K.In h) (G:h.Ns mainGlobals mg) (a:PySem.W.nsIn K mainGlobals x=some (some (.ref f))) (k:PySem.W.keepIn K (.ref f)=true) (b:Binds K fd ps []):Gf K mg x f fd ps :=
  ⟨PySem.W.mg_of X G a,k,b⟩
theorem all_mk {l:PySem.W.OpenLaw} {w:World} {K:PySem.W.Frag} {h:Heap} {mg:Str→Option Value} {fa f0 f1 f2 f3 f4 f5 f6 f7 f8 f9 f10 f11 f12 f13 f14 f15 f16 f17 f18 f19 f20 f21 f22 f23 f24 f25:Addr} (X:K.In h) (G:h.Ns mainGlobals mg) (hfa:mg "law" = some (.ref fa))
    {od0 an0 od1 an1 od2 an2 od3 an3 od4 an4 od5 an5 od6 an6 od7 an7 od8 an8 od9 an9 od10 an10 od11 an11 od12 an12 od13 an13 od14 an14 od15 an15 od16 an16 od17 an17 od18 an18 od19 an19 od20 an20 od21 an21 od22 an22 od23 an23 od24 an24 od25 an25:Option Addr} {sl0 sl1 sl2 sl3 sl4 sl5 sl6 sl7 sl8 sl9 sl10 sl11 sl12 sl13 sl14 sl15 sl16 sl17 sl18 sl19 sl20 sl21 sl22 sl23 sl24 sl25:Array (Option Value)} {oc0 kV0 dc0 pm0 cd0 ct0 oc1 kV1 dc1 pm1 cd1 ct1 oc2 kV2 dc2 pm2 cd2 ct2 oc3 kV3 dc3 pm3 cd3 ct3 oc4 kV4 dc4 pm4 cd4 ct4 oc5 kV5 dc5 pm5 cd5 ct5 oc6 kV6 dc6 pm6 cd6 ct6 oc7 kV7 dc7 pm7 cd7 ct7 oc8 kV8 dc8 pm8 cd8 ct8 oc9 kV9 dc9 pm9 cd9 ct9 oc10 kV10 dc10 pm10 cd10 ct10 oc11 kV11 dc11 pm11 cd11 ct11 oc12 kV12 dc12 pm12 cd12 ct12 oc13 kV13 dc13 pm13 cd13 ct13 oc14 kV14 dc14 pm14 cd14 ct14 oc15 kV15 dc15 pm15 cd15 ct15 oc16 kV16 dc16 pm16 cd16 ct16 oc17 kV17 dc17 pm17 cd17 ct17 oc18 kV18 dc18 pm18 cd18 ct18 oc19 kV19 dc19 pm19 cd19 ct19 oc20 kV20 dc20 pm20 cd20 ct20 oc21 kV21 dc21 pm21 cd21 ct21 oc22 kV22 dc22 pm22 cd22 ct22 oc23 kV23 dc23 pm23 cd23 ct23 oc24 kV24 dc24 pm24 cd24 ct24 oc25 kV25 dc25 pm25 cd25 ct25:Value} {tkLONGEST_ROW tkMOST_PIECES tkLONGEST_PIECE tkLAST_AGE:Tok}
    (a0:PySem.W.nsIn K mainGlobals "is_text_of" = some (some (.ref f0))) (l0:K.lookup f0=some ⟨oc0,od0,.func (PySem.W.fnOf "is_text_of" "is_text_of" (defArgs sItx) (defBody sItx) (defScope sItx) .none kV0 dc0 pm0 an0 cd0 ct0),sl0⟩) (c0:PySem.W.codeIn K cd0 "is_text_of" = true) (k0:PySem.W.keepIn K (.ref f0)=true)
    (a1:PySem.W.nsIn K mainGlobals "replaced" = some (some (.ref f1))) (l1:K.lookup f1=some ⟨oc1,od1,.func (PySem.W.fnOf "replaced" "replaced" (defArgs sRep) (defBody sRep) (defScope sRep) .none kV1 dc1 pm1 an1 cd1 ct1),sl1⟩) (c1:PySem.W.codeIn K cd1 "replaced" = true) (k1:PySem.W.keepIn K (.ref f1)=true)
    (a2:PySem.W.nsIn K mainGlobals "turned" = some (some (.ref f2))) (l2:K.lookup f2=some ⟨oc2,od2,.func (PySem.W.fnOf "turned" "turned" (defArgs sTrn) (defBody sTrn) (defScope sTrn) .none kV2 dc2 pm2 an2 cd2 ct2),sl2⟩) (c2:PySem.W.codeIn K cd2 "turned" = true) (k2:PySem.W.keepIn K (.ref f2)=true)
    (a3:PySem.W.nsIn K mainGlobals "cut" = some (some (.ref f3))) (l3:K.lookup f3=some ⟨oc3,od3,.func (PySem.W.fnOf "cut" "cut" (defArgs sCut) (defBody sCut) (defScope sCut) .none kV3 dc3 pm3 an3 cd3 ct3),sl3⟩) (c3:PySem.W.codeIn K cd3 "cut" = true) (k3:PySem.W.keepIn K (.ref f3)=true)
    (a4:PySem.W.nsIn K mainGlobals "plain_cutting" = some (some (.ref f4))) (l4:K.lookup f4=some ⟨oc4,od4,.func (PySem.W.fnOf "plain_cutting" "plain_cutting" (defArgs sPcu) (defBody sPcu) (defScope sPcu) .none kV4 dc4 pm4 an4 cd4 ct4),sl4⟩) (c4:PySem.W.codeIn K cd4 "plain_cutting" = true) (k4:PySem.W.keepIn K (.ref f4)=true)
    (a5:PySem.W.nsIn K mainGlobals "parting_age" = some (some (.ref f5))) (l5:K.lookup f5=some ⟨oc5,od5,.func (PySem.W.fnOf "parting_age" "parting_age" (defArgs sPag) (defBody sPag) (defScope sPag) .none kV5 dc5 pm5 an5 cd5 ct5),sl5⟩) (c5:PySem.W.codeIn K cd5 "parting_age" = true) (k5:PySem.W.keepIn K (.ref f5)=true)
    (a6:PySem.W.nsIn K mainGlobals "rows_alike" = some (some (.ref f6))) (l6:K.lookup f6=some ⟨oc6,od6,.func (PySem.W.fnOf "rows_alike" "rows_alike" (defArgs sRal) (defBody sRal) (defScope sRal) .none kV6 dc6 pm6 an6 cd6 ct6),sl6⟩) (c6:PySem.W.codeIn K cd6 "rows_alike" = true) (k6:PySem.W.keepIn K (.ref f6)=true)
    (a7:PySem.W.nsIn K mainGlobals "_law_whole" = some (some (.ref f7))) (l7:K.lookup f7=some ⟨oc7,od7,.func (PySem.W.fnOf "_law_whole" "_law_whole" (defArgs sWhl) (defBody sWhl) (defScope sWhl) .none kV7 dc7 pm7 an7 cd7 ct7),sl7⟩) (c7:PySem.W.codeIn K cd7 "_law_whole" = true) (k7:PySem.W.keepIn K (.ref f7)=true)
    (a8:PySem.W.nsIn K mainGlobals "_law_pen" = some (some (.ref f8))) (l8:K.lookup f8=some ⟨oc8,od8,.func (PySem.W.fnOf "_law_pen" "_law_pen" (defArgs sPen) (defBody sPen) (defScope sPen) .none kV8 dc8 pm8 an8 cd8 ct8),sl8⟩) (c8:PySem.W.codeIn K cd8 "_law_pen" = true) (k8:PySem.W.keepIn K (.ref f8)=true)
    (a9:PySem.W.nsIn K mainGlobals "_law_take" = some (some (.ref f9))) (l9:K.lookup f9=some ⟨oc9,od9,.func (PySem.W.fnOf "_law_take" "_law_take" (defArgs sTak) (defBody sTak) (defScope sTak) .none kV9 dc9 pm9 an9 cd9 ct9),sl9⟩) (c9:PySem.W.codeIn K cd9 "_law_take" = true) (k9:PySem.W.keepIn K (.ref f9)=true)
    (a10:PySem.W.nsIn K mainGlobals "_law_signs" = some (some (.ref f10))) (l10:K.lookup f10=some ⟨oc10,od10,.func (PySem.W.fnOf "_law_signs" "_law_signs" (defArgs sSig) (defBody sSig) (defScope sSig) .none kV10 dc10 pm10 an10 cd10 ct10),sl10⟩) (c10:PySem.W.codeIn K cd10 "_law_signs" = true) (k10:PySem.W.keepIn K (.ref f10)=true)
    (a11:PySem.W.nsIn K mainGlobals "_law_text" = some (some (.ref f11))) (l11:K.lookup f11=some ⟨oc11,od11,.func (PySem.W.fnOf "_law_text" "_law_text" (defArgs sTxt) (defBody sTxt) (defScope sTxt) .none kV11 dc11 pm11 an11 cd11 ct11),sl11⟩) (c11:PySem.W.codeIn K cd11 "_law_text" = true) (k11:PySem.W.keepIn K (.ref f11)=true)
    (a12:PySem.W.nsIn K mainGlobals "_law_cutting" = some (some (.ref f12))) (l12:K.lookup f12=some ⟨oc12,od12,.func (PySem.W.fnOf "_law_cutting" "_law_cutting" (defArgs sCtg) (defBody sCtg) (defScope sCtg) .none kV12 dc12 pm12 an12 cd12 ct12),sl12⟩) (c12:PySem.W.codeIn K cd12 "_law_cutting" = true) (k12:PySem.W.keepIn K (.ref f12)=true)
    (a13:PySem.W.nsIn K mainGlobals "_law_pair" = some (some (.ref f13))) (l13:K.lookup f13=some ⟨oc13,od13,.func (PySem.W.fnOf "_law_pair" "_law_pair" (defArgs sPar) (defBody sPar) (defScope sPar) .none kV13 dc13 pm13 an13 cd13 ct13),sl13⟩) (c13:PySem.W.codeIn K cd13 "_law_pair" = true) (k13:PySem.W.keepIn K (.ref f13)=true)
    (a14:PySem.W.nsIn K mainGlobals "_law_balanced" = some (some (.ref f14))) (l14:K.lookup f14=some ⟨oc14,od14,.func (PySem.W.fnOf "_law_balanced" "_law_balanced" (defArgs sBal) (defBody sBal) (defScope sBal) .none kV14 dc14 pm14 an14 cd14 ct14),sl14⟩) (c14:PySem.W.codeIn K cd14 "_law_balanced" = true) (k14:PySem.W.keepIn K (.ref f14)=true)
    (a15:PySem.W.nsIn K mainGlobals "_law_long_pair" = some (some (.ref f15))) (l15:K.lookup f15=some ⟨oc15,od15,.func (PySem.W.fnOf "_law_long_pair" "_law_long_pair" (defArgs sLon) (defBody sLon) (defScope sLon) .none kV15 dc15 pm15 an15 cd15 ct15),sl15⟩) (c15:PySem.W.codeIn K cd15 "_law_long_pair" = true) (k15:PySem.W.keepIn K (.ref f15)=true)
    (a16:PySem.W.nsIn K mainGlobals "_law_more" = some (some (.ref f16))) (l16:K.lookup f16=some ⟨oc16,od16,.func (PySem.W.fnOf "_law_more" "_law_more" (defArgs sMor) (defBody sMor) (defScope sMor) .none kV16 dc16 pm16 an16 cd16 ct16),sl16⟩) (c16:PySem.W.codeIn K cd16 "_law_more" = true) (k16:PySem.W.keepIn K (.ref f16)=true)
    (a17:PySem.W.nsIn K mainGlobals "_law_cuts" = some (some (.ref f17))) (l17:K.lookup f17=some ⟨oc17,od17,.func (PySem.W.fnOf "_law_cuts" "_law_cuts" (defArgs sCus) (defBody sCus) (defScope sCus) .none kV17 dc17 pm17 an17 cd17 ct17),sl17⟩) (c17:PySem.W.codeIn K cd17 "_law_cuts" = true) (k17:PySem.W.keepIn K (.ref f17)=true)
    (a18:PySem.W.nsIn K mainGlobals "_law_plain" = some (some (.ref f18))) (l18:K.lookup f18=some ⟨oc18,od18,.func (PySem.W.fnOf "_law_plain" "_law_plain" (defArgs sPla) (defBody sPla) (defScope sPla) .none kV18 dc18 pm18 an18 cd18 ct18),sl18⟩) (c18:PySem.W.codeIn K cd18 "_law_plain" = true) (k18:PySem.W.keepIn K (.ref f18)=true)
    (a19:PySem.W.nsIn K mainGlobals "_law_early" = some (some (.ref f19))) (l19:K.lookup f19=some ⟨oc19,od19,.func (PySem.W.fnOf "_law_early" "_law_early" (defArgs sEar) (defBody sEar) (defScope sEar) .none kV19 dc19 pm19 an19 cd19 ct19),sl19⟩) (c19:PySem.W.codeIn K cd19 "_law_early" = true) (k19:PySem.W.keepIn K (.ref f19)=true)
    (a20:PySem.W.nsIn K mainGlobals "_law_made" = some (some (.ref f20))) (l20:K.lookup f20=some ⟨oc20,od20,.func (PySem.W.fnOf "_law_made" "_law_made" (defArgs sMde) (defBody sMde) (defScope sMde) .none kV20 dc20 pm20 an20 cd20 ct20),sl20⟩) (c20:PySem.W.codeIn K cd20 "_law_made" = true) (k20:PySem.W.keepIn K (.ref f20)=true)
    (a21:PySem.W.nsIn K mainGlobals "_law_shown" = some (some (.ref f21))) (l21:K.lookup f21=some ⟨oc21,od21,.func (PySem.W.fnOf "_law_shown" "_law_shown" (defArgs sSwn) (defBody sSwn) (defScope sSwn) .none kV21 dc21 pm21 an21 cd21 ct21),sl21⟩) (c21:PySem.W.codeIn K cd21 "_law_shown" = true) (k21:PySem.W.keepIn K (.ref f21)=true)
    (a22:PySem.W.nsIn K mainGlobals "_law_asked" = some (some (.ref f22))) (l22:K.lookup f22=some ⟨oc22,od22,.func (PySem.W.fnOf "_law_asked" "_law_asked" (defArgs sAsk) (defBody sAsk) (defScope sAsk) .none kV22 dc22 pm22 an22 cd22 ct22),sl22⟩) (c22:PySem.W.codeIn K cd22 "_law_asked" = true) (k22:PySem.W.keepIn K (.ref f22)=true)
    (a23:PySem.W.nsIn K mainGlobals "_law_right" = some (some (.ref f23))) (l23:K.lookup f23=some ⟨oc23,od23,.func (PySem.W.fnOf "_law_right" "_law_right" (defArgs sRgt) (defBody sRgt) (defScope sRgt) .none kV23 dc23 pm23 an23 cd23 ct23),sl23⟩) (c23:PySem.W.codeIn K cd23 "_law_right" = true) (k23:PySem.W.keepIn K (.ref f23)=true)
    (a24:PySem.W.nsIn K mainGlobals "_law_later" = some (some (.ref f24))) (l24:K.lookup f24=some ⟨oc24,od24,.func (PySem.W.fnOf "_law_later" "_law_later" (defArgs sLtr) (defBody sLtr) (defScope sLtr) .none kV24 dc24 pm24 an24 cd24 ct24),sl24⟩) (c24:PySem.W.codeIn K cd24 "_law_later" = true) (k24:PySem.W.keepIn K (.ref f24)=true)
    (a25:PySem.W.nsIn K mainGlobals "law" = some (some (.ref f25))) (l25:K.lookup f25=some ⟨oc25,od25,.func (PySem.W.fnOf "law" "law" (defArgs sLaw) (defBody sLaw) (defScope sLaw) .none kV25 dc25 pm25 an25 cd25 ct25),sl25⟩) (c25:PySem.W.codeIn K cd25 "law" = true) (k25:PySem.W.keepIn K (.ref f25)=true)
    (z0:PySem.W.nsIn K mainGlobals "len" = some none) (z1:PySem.W.nsIn K mainGlobals "isinstance" = some none) (z2:PySem.W.nsIn K mainGlobals "str" = some none) (z3:PySem.W.nsIn K mainGlobals "all" = some none) (z4:PySem.W.nsIn K mainGlobals "dict" = some none) (z5:PySem.W.nsIn K mainGlobals "range" = some none) (z6:PySem.W.nsIn K mainGlobals "sorted" = some none) (z7:PySem.W.nsIn K mainGlobals "any" = some none) (z8:PySem.W.nsIn K mainGlobals "int" = some none) (z9:PySem.W.nsIn K mainGlobals "bool" = some none) (z10:PySem.W.nsIn K mainGlobals "list" = some none) (z11:PySem.W.nsIn K mainGlobals "tuple" = some none) (z12:PySem.W.nsIn K mainGlobals "ValueError" = some none) (z13:PySem.W.nsIn K mainGlobals "set" = some none) (z14:PySem.W.nsIn K mainGlobals "min" = some none)
    (y0:PySem.W.nsIn K mainGlobals "LONGEST_ROW" = some (some (.int 600 tkLONGEST_ROW)))
    (y1:PySem.W.nsIn K mainGlobals "MOST_PIECES" = some (some (.int 30 tkMOST_PIECES)))
    (y2:PySem.W.nsIn K mainGlobals "LONGEST_PIECE" = some (some (.int 40 tkLONGEST_PIECE)))
    (y3:PySem.W.nsIn K mainGlobals "LAST_AGE" = some (some (.int 300 tkLAST_AGE)))
    {cGrowError cNoBook cNoLetter cNoNumber cTooLong cTooMany cTooFar:Addr} {cdt0 cdt1 cdt2 cdt3 cdt4 cdt5 cdt6:ClassData}
    (ac0:PySem.W.nsIn K mainGlobals "GrowError" = some (some (.ref cGrowError))) (kc0:PySem.W.clsIn K cGrowError=some cdt0) (kn0:PySem.W.instIn K (.ref cGrowError) (.type "tuple")=some false) (kb0:PySem.W.mroIn K cGrowError (.type "BaseException")=some true) (kt0:PySem.W.typeIn K (.ref cGrowError)=some (.type "type"))
    (ac1:PySem.W.nsIn K mainGlobals "NoBook" = some (some (.ref cNoBook))) (kc1:PySem.W.clsIn K cNoBook=some cdt1) (kn1:PySem.W.instIn K (.ref cNoBook) (.type "tuple")=some false) (kb1:PySem.W.mroIn K cNoBook (.type "BaseException")=some true) (kt1:PySem.W.typeIn K (.ref cNoBook)=some (.type "type"))
    (ac2:PySem.W.nsIn K mainGlobals "NoLetter" = some (some (.ref cNoLetter))) (kc2:PySem.W.clsIn K cNoLetter=some cdt2) (kn2:PySem.W.instIn K (.ref cNoLetter) (.type "tuple")=some false) (kb2:PySem.W.mroIn K cNoLetter (.type "BaseException")=some true) (kt2:PySem.W.typeIn K (.ref cNoLetter)=some (.type "type")) (q2:PySem.W.excIn K cNoLetter [.type "ValueError",.type "Exception",.type "BaseException",.type "object"] "ValueError.__new__" = true) (xf2:PySem.W.findIn K (.ref cNoLetter) "__class__" = some (some (.builtin "object.__class__"))) (xg2:PySem.W.specialIn K (.builtin "object.__class__") "__get__" = some (some (.builtin "getset_descriptor.__get__"))) (xt2:PySem.W.takesIn K (.builtin "object.__class__")=some true) (xo2:PySem.W.mroIn K cNoLetter (.type "object")=some true) (xa2:PySem.W.findIn K (.ref cNoLetter) "__getattribute__" = some (some (.builtin "BaseException.__getattribute__"))) (xh2:PySem.W.findIn K (.ref cNoLetter) "__getattr__" = some none) (xv2:PySem.W.mroIn K cNoLetter (.type "ValueError")=some true) (r2_0:PySem.W.mroIn K cNoLetter (.ref cGrowError)=some true) (r2_1:PySem.W.mroIn K cNoLetter (.ref cNoBook)=some false) (r2_2:PySem.W.mroIn K cNoLetter (.ref cNoLetter)=some true) (r2_3:PySem.W.mroIn K cNoLetter (.ref cNoNumber)=some false) (r2_4:PySem.W.mroIn K cNoLetter (.ref cTooLong)=some false) (r2_5:PySem.W.mroIn K cNoLetter (.ref cTooMany)=some false) (r2_6:PySem.W.mroIn K cNoLetter (.ref cTooFar)=some false)
    (ac3:PySem.W.nsIn K mainGlobals "NoNumber" = some (some (.ref cNoNumber))) (kc3:PySem.W.clsIn K cNoNumber=some cdt3) (kn3:PySem.W.instIn K (.ref cNoNumber) (.type "tuple")=some false) (kb3:PySem.W.mroIn K cNoNumber (.type "BaseException")=some true) (kt3:PySem.W.typeIn K (.ref cNoNumber)=some (.type "type"))
    (ac4:PySem.W.nsIn K mainGlobals "TooLong" = some (some (.ref cTooLong))) (kc4:PySem.W.clsIn K cTooLong=some cdt4) (kn4:PySem.W.instIn K (.ref cTooLong) (.type "tuple")=some false) (kb4:PySem.W.mroIn K cTooLong (.type "BaseException")=some true) (kt4:PySem.W.typeIn K (.ref cTooLong)=some (.type "type"))
    (ac5:PySem.W.nsIn K mainGlobals "TooMany" = some (some (.ref cTooMany))) (kc5:PySem.W.clsIn K cTooMany=some cdt5) (kn5:PySem.W.instIn K (.ref cTooMany) (.type "tuple")=some false) (kb5:PySem.W.mroIn K cTooMany (.type "BaseException")=some true) (kt5:PySem.W.typeIn K (.ref cTooMany)=some (.type "type")) (q5:PySem.W.excIn K cTooMany [.type "ValueError",.type "Exception",.type "BaseException",.type "object"] "ValueError.__new__" = true) (xf5:PySem.W.findIn K (.ref cTooMany) "__class__" = some (some (.builtin "object.__class__"))) (xg5:PySem.W.specialIn K (.builtin "object.__class__") "__get__" = some (some (.builtin "getset_descriptor.__get__"))) (xt5:PySem.W.takesIn K (.builtin "object.__class__")=some true) (xo5:PySem.W.mroIn K cTooMany (.type "object")=some true) (xa5:PySem.W.findIn K (.ref cTooMany) "__getattribute__" = some (some (.builtin "BaseException.__getattribute__"))) (xh5:PySem.W.findIn K (.ref cTooMany) "__getattr__" = some none) (xv5:PySem.W.mroIn K cTooMany (.type "ValueError")=some true) (r5_0:PySem.W.mroIn K cTooMany (.ref cGrowError)=some true) (r5_1:PySem.W.mroIn K cTooMany (.ref cNoBook)=some false) (r5_2:PySem.W.mroIn K cTooMany (.ref cNoLetter)=some false) (r5_3:PySem.W.mroIn K cTooMany (.ref cNoNumber)=some false) (r5_4:PySem.W.mroIn K cTooMany (.ref cTooLong)=some false) (r5_5:PySem.W.mroIn K cTooMany (.ref cTooMany)=some true) (r5_6:PySem.W.mroIn K cTooMany (.ref cTooFar)=some false)
    (ac6:PySem.W.nsIn K mainGlobals "TooFar" = some (some (.ref cTooFar))) (kc6:PySem.W.clsIn K cTooFar=some cdt6) (kn6:PySem.W.instIn K (.ref cTooFar) (.type "tuple")=some false) (kb6:PySem.W.mroIn K cTooFar (.type "BaseException")=some true) (kt6:PySem.W.typeIn K (.ref cTooFar)=some (.type "type"))
    : ∃ fd:FuncData,(∀ (s:Shared) (v:Value),BindsTo s fd ⟨[v],[]⟩ [("_law_script",v)])∧∀ base:Heap,K.In base→base.Ns mainGlobals mg→FnOk l.prog w K mg base CX0 6 fa fd ["_law_script"] (spLaw K):=by
  have e:=hfa.symm.trans (PySem.W.mg_of X G a25)
  cases e
  have F0:=fun_mk (st:=sItx) l0 c0 k0
  have F1:=fun_mk (st:=sRep) l1 c1 k1
  have F2:=fun_mk (st:=sTrn) l2 c2 k2
  have F3:=fun_mk (st:=sCut) l3 c3 k3
  have F4:=fun_mk (st:=sPcu) l4 c4 k4
  have F5:=fun_mk (st:=sPag) l5 c5 k5
  have F6:=fun_mk (st:=sRal) l6 c6 k6
  have F7:=fun_mk (st:=sWhl) l7 c7 k7
  have F8:=fun_mk (st:=sPen) l8 c8 k8
  have F9:=fun_mk (st:=sTak) l9 c9 k9
  have F10:=fun_mk (st:=sSig) l10 c10 k10
  have F11:=fun_mk (st:=sTxt) l11 c11 k11
  have F12:=fun_mk (st:=sCtg) l12 c12 k12
  have F13:=fun_mk (st:=sPar) l13 c13 k13
  have F14:=fun_mk (st:=sBal) l14 c14 k14
  have F15:=fun_mk (st:=sLon) l15 c15 k15
  have F16:=fun_mk (st:=sMor) l16 c16 k16
  have F17:=fun_mk (st:=sCus) l17 c17 k17
  have F18:=fun_mk (st:=sPla) l18 c18 k18
  have F19:=fun_mk (st:=sEar) l19 c19 k19
  have F20:=fun_mk (st:=sMde) l20 c20 k20
  have F21:=fun_mk (st:=sSwn) l21 c21 k21
  have F22:=fun_mk (st:=sAsk) l22 c22 k22
  have F23:=fun_mk (st:=sRgt) l23 c23 k23
  have F24:=fun_mk (st:=sLtr) l24 c24 k24
  have F25:=fun_mk (st:=sLaw) l25 c25 k25
  have b0:=F0.binds (ps:=["thing","signs","most"]) fun _ _ _ _ _ _ us hl=>match us,hl with | [_,_,_],_=>rfl
  have gItx:=gf_mk X G a0 k0 b0
  have b1:=F1.binds (ps:=["text","words"]) fun _ _ _ _ _ _ us hl=>match us,hl with | [_,_],_=>rfl
  have gRep:=gf_mk X G a1 k1 b1
  have b2:=F2.binds (ps:=["book","text"]) fun _ _ _ _ _ _ us hl=>match us,hl with | [_,_],_=>rfl
  have gTrn:=gf_mk X G a2 k2 b2
  have b3:=F3.binds (ps:=["one","other","text"]) fun _ _ _ _ _ _ us hl=>match us,hl with | [_,_,_],_=>rfl
  have gCut:=gf_mk X G a3 k3 b3
  have b4:=F4.binds (ps:=["one","other"]) fun _ _ _ _ _ _ us hl=>match us,hl with | [_,_],_=>rfl
  have gPcu:=gf_mk X G a4 k4 b4
  have b5:=F5.binds (ps:=["one","other"]) fun _ _ _ _ _ _ us hl=>match us,hl with | [_,_],_=>rfl
  have gPag:=gf_mk X G a5 k5 b5
  have b6:=F6.binds (ps:=["one","other"]) fun _ _ _ _ _ _ us hl=>match us,hl with | [_,_],_=>rfl
  have gRal:=gf_mk X G a6 k6 b6
  have b7:=F7.binds (ps:=["_law_found"]) fun _ _ _ _ _ _ us hl=>match us,hl with | [_],_=>rfl
  have gWhl:=gf_mk X G a7 k7 b7
  have b8:=F8.binds (ps:=["_law_script","_law_k"]) fun _ _ _ _ _ _ us hl=>match us,hl with | [_,_],_=>rfl
  have gPen:=gf_mk X G a8 k8 b8
  have b9:=F9.binds (ps:=["_law_pen_here","_law_size"]) fun _ _ _ _ _ _ us hl=>match us,hl with | [_,_],_=>rfl
  have gTak:=gf_mk X G a9 k9 b9
  have b10:=F10.binds (ps:=["_law_pen_here","_law_many"]) fun _ _ _ _ _ _ us hl=>match us,hl with | [_,_],_=>rfl
  have gSig:=gf_mk X G a10 k10 b10
  have b11:=F11.binds (ps:=["_law_pen_here","_law_signs_here","_law_many"]) fun _ _ _ _ _ _ us hl=>match us,hl with | [_,_,_],_=>rfl
  have gTxt:=gf_mk X G a11 k11 b11
  have b12:=F12.binds (ps:=["_law_pen_here","_law_signs_here","_law_many"]) fun _ _ _ _ _ _ us hl=>match us,hl with | [_,_,_],_=>rfl
  have gCtg:=gf_mk X G a12 k12 b12
  have b13:=F13.binds (ps:=["_law_pen_here","_law_sizes"]) fun _ _ _ _ _ _ us hl=>match us,hl with | [_,_],_=>rfl
  have gPar:=gf_mk X G a13 k13 b13
  have b14:=F14.binds (ps:=["_law_pen_here","_law_atoms","_law_most"]) fun _ _ _ _ _ _ us hl=>match us,hl with | [_,_,_],_=>rfl
  have gBal:=gf_mk X G a14 k14 b14
  have b15:=F15.binds (ps:=["_law_pen_here"]) fun _ _ _ _ _ _ us hl=>match us,hl with | [_],_=>rfl
  have gLon:=gf_mk X G a15 k15 b15
  have b16:=F16.binds (ps:=["_law_book","_law_sign","_law_times"]) fun _ _ _ _ _ _ us hl=>match us,hl with | [_,_,_],_=>rfl
  have gMor:=gf_mk X G a16 k16 b16
  have b17:=F17.binds (ps:=["_law_words","_law_others","_law_signs_here"]) fun _ _ _ _ _ _ us hl=>match us,hl with | [_,_,_],_=>rfl
  have gCus:=gf_mk X G a17 k17 b17
  have b18:=F18.binds (ps:=["_law_one","_law_other"]) fun _ _ _ _ _ _ us hl=>match us,hl with | [_,_],_=>rfl
  have gPla:=gf_mk X G a18 k18 b18
  have b19:=F19.binds (ps:=["_law_one","_law_other"]) fun _ _ _ _ _ _ us hl=>match us,hl with | [_,_],_=>rfl
  have gEar:=gf_mk X G a19 k19 b19
  have b20:=F20.binds (ps:=["_law_pieces","_law_signs_here"]) fun _ _ _ _ _ _ us hl=>match us,hl with | [_,_],_=>rfl
  have gMde:=gf_mk X G a20 k20 b20
  have b21:=F21.binds (ps:=["_law_one","_law_other","_law_pieces"]) fun _ _ _ _ _ _ us hl=>match us,hl with | [_,_,_],_=>rfl
  have gSwn:=gf_mk X G a21 k21 b21
  have b22:=F22.binds (ps:=["_law_one","_law_other"]) fun _ _ _ _ _ _ us hl=>match us,hl with | [_,_],_=>rfl
  have gAsk:=gf_mk X G a22 k22 b22
  have b23:=F23.binds (ps:=["_law_one","_law_other","_law_found"]) fun _ _ _ _ _ _ us hl=>match us,hl with | [_,_,_],_=>rfl
  have gRgt:=gf_mk X G a23 k23 b23
  have b24:=F24.binds (ps:=["_law_one","_law_other","_law_n"]) fun _ _ _ _ _ _ us hl=>match us,hl with | [_,_,_],_=>rfl
  have gLtr:=gf_mk X G a24 k24 b24
  have m_len:=PySem.W.mg_none_of X G z0
  have m_isinstance:=PySem.W.mg_none_of X G z1
  have m_str:=PySem.W.mg_none_of X G z2
  have m_all:=PySem.W.mg_none_of X G z3
  have m_dict:=PySem.W.mg_none_of X G z4
  have m_range:=PySem.W.mg_none_of X G z5
  have m_sorted:=PySem.W.mg_none_of X G z6
  have m_any:=PySem.W.mg_none_of X G z7
  have m_int:=PySem.W.mg_none_of X G z8
  have m_bool:=PySem.W.mg_none_of X G z9
  have m_list:=PySem.W.mg_none_of X G z10
  have m_tuple:=PySem.W.mg_none_of X G z11
  have m_ValueError:=PySem.W.mg_none_of X G z12
  have m_set:=PySem.W.mg_none_of X G z13
  have m_min:=PySem.W.mg_none_of X G z14
  have m_LONGEST_ROW:=PySem.W.mg_of X G y0
  have m_MOST_PIECES:=PySem.W.mg_of X G y1
  have m_LONGEST_PIECE:=PySem.W.mg_of X G y2
  have m_LAST_AGE:=PySem.W.mg_of X G y3
  refine ⟨PySem.W.fnOf "law" "law" (defArgs sLaw) (defBody sLaw) (defScope sLaw) .none kV25 dc25 pm25 an25 cd25 ct25,fun s v=>.of_eq rfl,fun base KB GB=>?_⟩
  have mGrowError:=PySem.W.mg_of X G ac0
  have ckGrowError:ClsK K cGrowError:=⟨by rw [kc0];rfl,kn0,kb0,kt0⟩
  have mNoBook:=PySem.W.mg_of X G ac1
  have ckNoBook:ClsK K cNoBook:=⟨by rw [kc1];rfl,kn1,kb1,kt1⟩
  have mNoLetter:=PySem.W.mg_of X G ac2
  have ckNoLetter:ClsK K cNoLetter:=⟨by rw [kc2];rfl,kn2,kb2,kt2⟩
  have owNoLetter:OwnCls "NoLetter" cNoLetter bmV "ValueError.__new__" mg base:=own_mk KB GB ac2 q2
  have xkNoLetter:ExcK K cNoLetter:=⟨by rw [kc2];rfl,xf2,xg2,xt2,xo2,kb2,xa2,xh2⟩
  have mNoNumber:=PySem.W.mg_of X G ac3
  have ckNoNumber:ClsK K cNoNumber:=⟨by rw [kc3];rfl,kn3,kb3,kt3⟩
  have mTooLong:=PySem.W.mg_of X G ac4
  have ckTooLong:ClsK K cTooLong:=⟨by rw [kc4];rfl,kn4,kb4,kt4⟩
  have mTooMany:=PySem.W.mg_of X G ac5
  have ckTooMany:ClsK K cTooMany:=⟨by rw [kc5];rfl,kn5,kb5,kt5⟩
  have owTooMany:OwnCls "TooMany" cTooMany bmV "ValueError.__new__" mg base:=own_mk KB GB ac5 q5
  have xkTooMany:ExcK K cTooMany:=⟨by rw [kc5];rfl,xf5,xg5,xt5,xo5,kb5,xa5,xh5⟩
  have mTooFar:=PySem.W.mg_of X G ac6
  have ckTooFar:ClsK K cTooFar:=⟨by rw [kc6];rfl,kn6,kb6,kt6⟩
  have oRep:=ok_rep (P:=l.prog) (w:=w) (mg:=mg) (base:=base) F1
  have oItx:=ok_itx (P:=l.prog) (w:=w) (mg:=mg) (base:=base) F0 m_len m_isinstance m_str m_all
  have oTrn:=ok_trn (P:=l.prog) (w:=w) (mg:=mg) (base:=base) F2 oRep gRep oItx gItx m_dict m_LONGEST_ROW
  have oPag:=ok_pag (P:=l.prog) (w:=w) (mg:=mg) (base:=base) F5 oTrn gTrn m_len m_range m_LAST_AGE m_LONGEST_ROW
  have oCut:=ok_cut (P:=l.prog) (w:=w) (mg:=mg) (base:=base) F3 oRep gRep m_len m_range m_dict
  have oPcu:=ok_pcu (P:=l.prog) (w:=w) (mg:=mg) (base:=base) F4 oCut gCut oRep gRep m_len m_sorted m_dict m_any m_MOST_PIECES m_LONGEST_PIECE
  have oRalX:=ok_ralx (P:=l.prog) (w:=w) (mg:=mg) (base:=base) F6 oPag gPag oPcu gPcu owTooMany
  have oPen:=ok_pen (P:=l.prog) (w:=w) (mg:=mg) (base:=base) F8 m_len
  have oTak:=ok_tak (P:=l.prog) (w:=w) (mg:=mg) (base:=base) F9
  have oAsk:=ok_ask (P:=l.prog) (w:=w) (mg:=mg) (base:=base) F22 mGrowError ckGrowError mNoBook ckNoBook mNoLetter ckNoLetter mNoNumber ckNoNumber mTooLong ckTooLong mTooMany ckTooMany mTooFar ckTooFar oRalX gRal r5_0 r5_1 r5_2 r5_3 r5_4 r5_5 r5_6 xv5 xkTooMany m_len m_tuple m_isinstance m_str m_ValueError
  have oSig:=ok_sig (P:=l.prog) (w:=w) (mg:=mg) (base:=base) F10 oTak gTak m_len m_list m_range
  have oBal:=ok_bal (P:=l.prog) (w:=w) (mg:=mg) (base:=base) F14 oTak gTak m_len m_range
  have oLon:=ok_lon (P:=l.prog) (w:=w) (mg:=mg) (base:=base) F15 oSig gSig oTak gTak oBal gBal m_len m_tuple m_sorted
  have oTxt:=ok_txt (P:=l.prog) (w:=w) (mg:=mg) (base:=base) F11 oTak gTak m_len m_range m_int
  have oCtg:=ok_ctg (P:=l.prog) (w:=w) (mg:=mg) (base:=base) F12 oTak gTak m_len m_range m_sorted
  have oPar:=ok_par (P:=l.prog) (w:=w) (mg:=mg) (base:=base) F13 oSig gSig oTxt gTxt oCtg gCtg oTak gTak m_len m_range m_tuple m_sorted
  have oMor:=ok_mor (P:=l.prog) (w:=w) (mg:=mg) (base:=base) F16 m_len m_list m_tuple m_sorted
  have oEar:=ok_ear (P:=l.prog) (w:=w) (mg:=mg) (base:=base) F19 m_len m_range m_dict
  have oMde:=ok_mde (P:=l.prog) (w:=w) (mg:=mg) (base:=base) F20 m_len m_range
  have oSwn:=ok_swn (P:=l.prog) (w:=w) (mg:=mg) (base:=base) F21 oMde gMde m_len m_list m_isinstance m_dict m_str
  have oWhl:=ok_whl (P:=l.prog) (w:=w) (mg:=mg) (base:=base) F7 m_int m_isinstance m_bool
  have oLtr:=ok_ltr (P:=l.prog) (w:=w) (mg:=mg) (base:=base) F24 m_len m_range m_dict m_min
  have oCus:=ok_cus (P:=l.prog) (w:=w) (mg:=mg) (base:=base) F17 m_len m_range
  have oPla:=ok_pla (P:=l.prog) (w:=w) (mg:=mg) (base:=base) F18 oCus gCus m_len m_dict
  have oRgt:=ok_rgt (P:=l.prog) (w:=w) (mg:=mg) (base:=base) F23 oEar gEar oSwn gSwn oWhl gWhl oLtr gLtr oPla gPla m_list m_sorted m_isinstance m_set
  exact ok_law F25 oPen gPen oTak gTak oAsk gAsk oLon gLon oPar gPar oMor gMor oRgt gRgt
theorem walk {l:PySem.W.OpenLaw} {q:Program} {loose:List Str} {XP:(Str→Option Value)→Heap→Prop} {YP:World→Heap→Prop} {d:DefRec} {K:Params→PySem.W.Frag} (hn:l.most=some 63) (hdf:d.params.defaults=[])
    (hY:∀ (w:World) (h:Heap),YP w h→(K w.params).In h)
    (F : ∀ (w:World) (mg:Str→Option Value) (fa:Addr) (h:Heap),(K w.params).In h→h.Ns mainGlobals mg→mg d.name=some (.ref fa) →
      ∃ fd:FuncData,(∀ (s:Shared) (u:Value),BindsTo s fd ⟨[u],[]⟩ [("_law_script",u)])∧∀ base:Heap,(K w.params).In base→base.Ns mainGlobals mg→FnOk l.prog w (K w.params) mg base CX0 6 fa fd ["_law_script"] (spLaw (K w.params))) :
    PySem.W.WalkO q loose XP YP l.row.toRowW d [] (fun f vs=>PySem.call f vs) :=
  L2.walk_of (n:=63) (k:=6) (x:="_law_script") (CX:=fun _=>CX0) (sp:=fun w=>spLaw (K w.params)) hn (by decide) hdf ⟨rfl,by decide,by decide⟩ hY F (fun _ _ a ns hl _ hS=>⟨a,ns,rfl,hS,hl,fun _=>rfl⟩) fun _ _ _ _ _ z=>z
end Lw
open PySem PySem.W PyProof.Rows
-- these names are taken so that no second copy of the great trees is laid (it would make the compiled file too large)
def PySem.W.Fast.tw3671627874483435817:Unit:=()
def PySem.W.Fast.tw14296210297089446720:Unit:=()
def PySem.W.Fast.tw16864746664018263366:Unit:=()
def PySem.W.Fast.tw14208150528984940959:Unit:=()
def PySem.W.Fast.tw2636497043697680098:Unit:=()
def PySem.W.Fast.tw2731041360807595080:Unit:=()
def PySem.W.Fast.tw15846967547730705158:Unit:=()
def PySem.W.Fast.tw9691454344162216078:Unit:=()
def PySem.W.Fast.tw11783805958973750997:Unit:=()
def PySem.W.Fast.tw4542709743479114676:Unit:=()
def PySem.W.Fast.tw17529771625571225621:Unit:=()
def PySem.W.Fast.tw28757186673840257:Unit:=()
def PySem.W.Fast.tw14300306201827148564:Unit:=()
def PySem.W.Fast.tw6302952585055394044:Unit:=()
def PySem.W.Fast.tw13420913510647887003:Unit:=()
def PySem.W.Fast.tw12391585979949750039:Unit:=()
def PySem.W.Fast.tw13844528814037165453:Unit:=()
def PySem.W.Fast.tw8869349125149898249:Unit:=()
def PySem.W.Fast.tw3088926573072533205:Unit:=()
def PySem.W.Fast.tw9937810609108494237:Unit:=()
def PySem.W.Fast.tw2160934852887151031:Unit:=()
def PySem.W.Fast.tw12153142538917597580:Unit:=()
def PySem.W.Fast.tw5066438741995027276:Unit:=()
def PySem.W.Fast.tw6566309164019357407:Unit:=()
set_option maxRecDepth 100000 in
set_option maxHeartbeats 0 in
theorem PySem.Challenge.cw_linegrow_k61_pieces_walked_holds : PySem.Challenge.rw_linegrow_k61_pieces_walked.Holds := by
  w_on;o_law;k_head;(case hw=>w_witness2)
  k_fill
  refine Lw.walk (l:=PySem.Challenge.rw_linegrow_k61_pieces_walked) rfl rfl (fun w h Y=>PySem.W.kIn_of Y) ?F
  case F =>
    intro w mg fa h KX G hmg
    refine' Lw.all_mk KX G hmg ?a0 ?l0 ?c0 ?k0 ?a1 ?l1 ?c1 ?k1 ?a2 ?l2 ?c2 ?k2 ?a3 ?l3 ?c3 ?k3 ?a4 ?l4 ?c4 ?k4 ?a5 ?l5 ?c5 ?k5 ?a6 ?l6 ?c6 ?k6 ?a7 ?l7 ?c7 ?k7 ?a8 ?l8 ?c8 ?k8 ?a9 ?l9 ?c9 ?k9 ?a10 ?l10 ?c10 ?k10 ?a11 ?l11 ?c11 ?k11 ?a12 ?l12 ?c12 ?k12 ?a13 ?l13 ?c13 ?k13 ?a14 ?l14 ?c14 ?k14 ?a15 ?l15 ?c15 ?k15 ?a16 ?l16 ?c16 ?k16 ?a17 ?l17 ?c17 ?k17 ?a18 ?l18 ?c18 ?k18 ?a19 ?l19 ?c19 ?k19 ?a20 ?l20 ?c20 ?k20 ?a21 ?l21 ?c21 ?k21 ?a22 ?l22 ?c22 ?k22 ?a23 ?l23 ?c23 ?k23 ?a24 ?l24 ?c24 ?k24 ?a25 ?l25 ?c25 ?k25 ?z0 ?z1 ?z2 ?z3 ?z4 ?z5 ?z6 ?z7 ?z8 ?z9 ?z10 ?z11 ?z12 ?z13 ?z14 ?y0 ?y1 ?y2 ?y3 ?ac0 ?kc0 ?kn0 ?kb0 ?kt0 ?ac1 ?kc1 ?kn1 ?kb1 ?kt1 ?ac2 ?kc2 ?kn2 ?kb2 ?kt2 ?q2 ?xf2 ?xg2 ?xt2 ?xo2 ?xa2 ?xh2 ?xv2 ?r2_0 ?r2_1 ?r2_2 ?r2_3 ?r2_4 ?r2_5 ?r2_6 ?ac3 ?kc3 ?kn3 ?kb3 ?kt3 ?ac4 ?kc4 ?kn4 ?kb4 ?kt4 ?ac5 ?kc5 ?kn5 ?kb5 ?kt5 ?q5 ?xf5 ?xg5 ?xt5 ?xo5 ?xa5 ?xh5 ?xv5 ?r5_0 ?r5_1 ?r5_2 ?r5_3 ?r5_4 ?r5_5 ?r5_6 ?ac6 ?kc6 ?kn6 ?kb6 ?kt6
    (case ac0=>k_is)
    (case ac1=>k_is)
    (case ac2=>k_is)
    (case ac3=>k_is)
    (case ac4=>k_is)
    (case ac5=>k_is)
    (case ac6=>k_is)
    (case a0=>k_is)
    (case l0=>k_is)
    (case c0=>k_is)
    (case k0=>k_is)
    (case a1=>k_is)
    (case l1=>k_is)
    (case c1=>k_is)
    (case k1=>k_is)
    (case a2=>k_is)
    (case l2=>k_is)
    (case c2=>k_is)
    (case k2=>k_is)
    (case a3=>k_is)
    (case l3=>k_is)
    (case c3=>k_is)
    (case k3=>k_is)
    (case a4=>k_is)
    (case l4=>k_is)
    (case c4=>k_is)
    (case k4=>k_is)
    (case a5=>k_is)
    (case l5=>k_is)
    (case c5=>k_is)
    (case k5=>k_is)
    (case a6=>k_is)
    (case l6=>k_is)
    (case c6=>k_is)
    (case k6=>k_is)
    (case a7=>k_is)
    (case l7=>k_is)
    (case c7=>k_is)
    (case k7=>k_is)
    (case a8=>k_is)
    (case l8=>k_is)
    (case c8=>k_is)
    (case k8=>k_is)
    (case a9=>k_is)
    (case l9=>k_is)
    (case c9=>k_is)
    (case k9=>k_is)
    (case a10=>k_is)
    (case l10=>k_is)
    (case c10=>k_is)
    (case k10=>k_is)
    (case a11=>k_is)
    (case l11=>k_is)
    (case c11=>k_is)
    (case k11=>k_is)
    (case a12=>k_is)
    (case l12=>k_is)
    (case c12=>k_is)
    (case k12=>k_is)
    (case a13=>k_is)
    (case l13=>k_is)
    (case c13=>k_is)
    (case k13=>k_is)
    (case a14=>k_is)
    (case l14=>k_is)
    (case c14=>k_is)
    (case k14=>k_is)
    (case a15=>k_is)
    (case l15=>k_is)
    (case c15=>k_is)
    (case k15=>k_is)
    (case a16=>k_is)
    (case l16=>k_is)
    (case c16=>k_is)
    (case k16=>k_is)
    (case a17=>k_is)
    (case l17=>k_is)
    (case c17=>k_is)
    (case k17=>k_is)
    (case a18=>k_is)
    (case l18=>k_is)
    (case c18=>k_is)
    (case k18=>k_is)
    (case a19=>k_is)
    (case l19=>k_is)
    (case c19=>k_is)
    (case k19=>k_is)
    (case a20=>k_is)
    (case l20=>k_is)
    (case c20=>k_is)
    (case k20=>k_is)
    (case a21=>k_is)
    (case l21=>k_is)
    (case c21=>k_is)
    (case k21=>k_is)
    (case a22=>k_is)
    (case l22=>k_is)
    (case c22=>k_is)
    (case k22=>k_is)
    (case a23=>k_is)
    (case l23=>k_is)
    (case c23=>k_is)
    (case k23=>k_is)
    (case a24=>k_is)
    (case l24=>k_is)
    (case c24=>k_is)
    (case k24=>k_is)
    (case a25=>k_is)
    (case l25=>k_is)
    (case c25=>k_is)
    (case k25=>k_is)
    (case z0=>k_is)
    (case z1=>k_is)
    (case z2=>k_is)
    (case z3=>k_is)
    (case z4=>k_is)
    (case z5=>k_is)
    (case z6=>k_is)
    (case z7=>k_is)
    (case z8=>k_is)
    (case z9=>k_is)
    (case z10=>k_is)
    (case z11=>k_is)
    (case z12=>k_is)
    (case z13=>k_is)
    (case z14=>k_is)
    (case y0=>k_is)
    (case y1=>k_is)
    (case y2=>k_is)
    (case y3=>k_is)
    (case kc0=>k_is)
    (case kn0=>k_is)
    (case kb0=>k_is)
    (case kt0=>k_is)
    (case kc1=>k_is)
    (case kn1=>k_is)
    (case kb1=>k_is)
    (case kt1=>k_is)
    (case kc2=>k_is)
    (case kn2=>k_is)
    (case kb2=>k_is)
    (case kt2=>k_is)
    (case q2=>k_exc)
    (case xf2=>k_is)
    (case xg2=>k_is)
    (case xt2=>k_is)
    (case xo2=>k_is)
    (case xa2=>k_is)
    (case xh2=>k_is)
    (case xv2=>k_is)
    (case r2_0=>k_is)
    (case r2_1=>k_is)
    (case r2_2=>k_is)
    (case r2_3=>k_is)
    (case r2_4=>k_is)
    (case r2_5=>k_is)
    (case r2_6=>k_is)
    (case kc3=>k_is)
    (case kn3=>k_is)
    (case kb3=>k_is)
    (case kt3=>k_is)
    (case kc4=>k_is)
    (case kn4=>k_is)
    (case kb4=>k_is)
    (case kt4=>k_is)
    (case kc5=>k_is)
    (case kn5=>k_is)
    (case kb5=>k_is)
    (case kt5=>k_is)
    (case q5=>k_exc)
    (case xf5=>k_is)
    (case xg5=>k_is)
    (case xt5=>k_is)
    (case xo5=>k_is)
    (case xa5=>k_is)
    (case xh5=>k_is)
    (case xv5=>k_is)
    (case r5_0=>k_is)
    (case r5_1=>k_is)
    (case r5_2=>k_is)
    (case r5_3=>k_is)
    (case r5_4=>k_is)
    (case r5_5=>k_is)
    (case r5_6=>k_is)
    (case kc6=>k_is)
    (case kn6=>k_is)
    (case kb6=>k_is)
    (case kt6=>k_is)
